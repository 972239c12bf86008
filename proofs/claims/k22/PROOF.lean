import PyProof.Rows.All
import Wide.All
import OpenK.AllK
import Wide.FinOn
import HandS.ForMost
import HandS.ForExc
import HandS.More
import HandS.Star
import HandS.MethStar
import HandS.IsInst
import HandS.TupAny
import HandS.StrMore
import HandS.Deep
import HandS.ExcInit
import HandS.Zip
import HandS.HeadHook3
import PyProof.ReprRoads
import PyProof.ReprReads
import PyProof.IsRules
import HandS.DictComp
import HandS.Conv
import HandS.NoneIn
import HandS.Style
import HandS.Defaults
import HandS.Head0
import HandS.Head1
import HandS.Head2
import HandS.HeadEnd
import HandS.HeadHook1
import HandS.HeadHook2
import PyProof.ConsumeS
import PyProof.Rows.CallKwBuiltin
import PyProof.Rows.MinMaxN
import HandS.SortKw
import KE.KExcIs
import HandS.ExcField
import HandS.CallSlots
import PySem.Challenge.RW_halfnoted_k22_checks_of_casts
set_option Elab.async false
set_option linter.all false
set_option maxRecDepth 100000
section
set_option maxHeartbeats 4000000
/-! Oz1: a small language of my own for the program's defs: its syntax, its values, what it means. -/
namespace Oz
open PySem PySem.Spec PyProof.Rows L2

/-! ### values -/
inductive U where
  | non | bl (b : Bool) | int (i : Int) | str (x : Str) | tup (xs : List U) | loc (n : Nat)
inductive Cel where
  | lst (xs : List U) | fro (xs : List U) | ins (C : Str) (fs : List (Str × U)) | dic (kvs : List (Key × U))
abbrev Sto := List Cel
inductive R (α : Type) where
  | ok (a : α) (S : Sto) | exc (c : Str) (fs : List (Str × U)) (S : Sto) | bad
def R.bind {α β : Type} (r : R α) (f : α → Sto → R β) : R β :=
  match r with
  | .ok a S => f a S
  | .exc c fs S => .exc c fs S
  | .bad => .bad

mutual
def ueq : U → U → Bool
  | .non, .non => true
  | .bl a, .bl b => a == b
  | .int a, .int b => a == b
  | .str a, .str b => decide (a = b)
  | .tup a, .tup b => useq a b
  | .loc a, .loc b => a == b
  | _, _ => false
def useq : List U → List U → Bool
  | [], [] => true
  | a :: as, b :: bs => ueq a b && useq as bs
  | _, _ => false
end
mutual
theorem ueq_iff : ∀ a b : U, ueq a b = true ↔ a = b
  | .non, b => by cases b <;> simp [ueq]
  | .bl x, b => by cases b <;> simp [ueq]
  | .int x, b => by cases b <;> simp [ueq]
  | .str x, b => by cases b <;> simp [ueq]
  | .tup x, b => by cases b <;> simp [ueq, useq_iff]
  | .loc x, b => by cases b <;> simp [ueq]
theorem useq_iff : ∀ a b : List U, useq a b = true ↔ a = b
  | [], b => by cases b <;> simp [useq]
  | a :: as, b => by cases b <;> simp [useq, ueq_iff, useq_iff]
end
instance : DecidableEq U := fun a b => if h : ueq a b = true then .isTrue ((ueq_iff a b).mp h) else .isFalse fun e => h ((ueq_iff a b).mpr e)
def isLst (S : Sto) (n : Nat) (us : List U) : Bool :=
  match S[n]? with
  | some (.lst vs) => useq vs us
  | some (.fro vs) => useq vs us
  | _ => false
theorem isLst_iff {S : Sto} {n : Nat} {us : List U} (h : isLst S n us = true) : S[n]? = some (.lst us) ∨ S[n]? = some (.fro us) := by
  unfold isLst at h
  cases q : S[n]? with
  | none => rw [q] at h; cases h
  | some c =>
    rw [q] at h
    cases c with
    | lst vs => left; rw [(useq_iff vs us).mp h]
    | fro vs => right; rw [(useq_iff vs us).mp h]
    | ins C fs => cases h
    | dic kvs => cases h
theorem isLst_lst {S : Sto} {n : Nat} {us : List U} (h : S[n]? = some (.lst us)) : isLst S n us = true := by
  unfold isLst
  rw [h]
  exact (useq_iff us us).mpr rfl

/-! ### == of data: Python's -/
mutual
def eqU : U → U → Bool
  | .non, .non => true
  | .bl a, .bl b => a == b
  | .bl a, .int b => (if a then 1 else 0) == b
  | .int a, .bl b => a == (if b then 1 else 0)
  | .int a, .int b => a == b
  | .str a, .str b => a == b
  | .tup a, .tup b => eqUs a b
  | _, _ => false
def eqUs : List U → List U → Bool
  | [], [] => true
  | a :: as, b :: bs => eqU a b && eqUs as bs
  | _, _ => false
end
mutual
def pdU : U → PyData
  | .non => .none
  | .bl b => .bool b
  | .int i => .int i
  | .str x => .str x
  | .tup xs => .tuple (pdUs xs)
  | .loc _ => .none
def pdUs : List U → List PyData
  | [] => []
  | u :: us => pdU u :: pdUs us
end
mutual
def purU : U → Bool
  | .tup xs => purUs xs
  | .loc _ => false
  | _ => true
def purUs : List U → Bool
  | [] => true
  | u :: us => purU u && purUs us
end
mutual
theorem eqv_pd : ∀ a b : U, purU a = true → purU b = true → PyData.eqv (pdU a) (pdU b) = eqU a b
  | .non, b, _, hb => by cases b <;> simp_all [pdU, PyData.eqv, eqU, purU]
  | .bl x, b, _, hb => by cases b <;> simp_all [pdU, PyData.eqv, eqU, purU]
  | .int x, b, _, hb => by cases b <;> simp_all [pdU, PyData.eqv, eqU, purU]
  | .str x, b, _, hb => by cases b <;> simp_all [pdU, PyData.eqv, eqU, purU]
  | .tup x, b, ha, hb => by
    cases b with
    | tup y =>
      simp only [pdU, PyData.eqv, eqU]
      exact eqvs_pd x y (by simpa [purU] using ha) (by simpa [purU] using hb)
    | _ => simp_all [pdU, PyData.eqv, eqU, purU]
  | .loc x, b, ha, hb => by simp [purU] at ha
theorem eqvs_pd : ∀ a b : List U, purUs a = true → purUs b = true → PyData.eqvAll (pdUs a) (pdUs b) = eqUs a b
  | [], b, _, _ => by cases b <;> simp [pdUs, PyData.eqvAll, eqUs]
  | x :: xs, b, ha, hb => by
    cases b with
    | nil => simp [pdUs, PyData.eqvAll, eqUs]
    | cons y ys =>
      simp only [purUs, Bool.and_eq_true] at ha hb
      simp only [pdUs, PyData.eqvAll, eqUs]
      rw [eqv_pd x y ha.1 hb.1, eqvs_pd xs ys ha.2 hb.2]
end
/-- data that == takes -/
def okU (u : U) : Bool := purU u && SeqAt.shaped (pdU u)
def okUs (us : List U) : Bool := purUs us && SeqAt.shaped (.list (pdUs us))

/-! ### syntax -/
inductive Op where
  | add | sub | mul | fdiv | mod | pow | shl
inductive Cm where
  | eq | ne | lt | le | gt | ge | in_ | notIn | isN | isNotN
inductive Bf where
  | len | abs | int | max | sum | tup | list | min2 | max2 | str | all | any | maxd | repr
inductive Bm where
  | append | startswith3 | pop | extend
mutual
inductive E where
  | v (i : Nat) | k (u : U) | g (x : Str)
  | tup (es : Es) | lst (es : Es)
  | bin (o : Op) (a b : E) | neg (a : E)
  | cmp (o : Cm) (a b : E)
  | and (a b : E) | or (a b : E) | not (a : E)
  | ife (c : T) (a b : E)
  | ix (a i : E) | sl (a : E) (lo hi : Eo)
  | fld (a : E) (C f : Str)
  | call (f : Str) (es : Es) | meth (o : E) (C m : Str) (es : Es) | mk (C : Str) (es : Es)
  | bf (b : Bf) (es : Es) | bm (b : Bm) (o : E) (es : Es)
  | isi (a : E) (t : String)
  | lc (is : List Nat) (tp : Bool) (elt : E) (it : E) (c : T)
  | lcr (is : List Nat) (elt : E) (a b : E) (c : T)
  | lcz (is : List Nat) (elt : E) (es : Es) (c : T)
  | gd (x : Str) (a : E) | gget (x : Str) (a b : E)
  | lc2 (is is1 : List Nat) (tp tp1 : Bool) (elt it it1 : E)
  | kcall (f : Str) (es ks : Es)
  | din (x : Str) (a : E)
  | rev (a : E)
  | lsd (i : Nat) (it : E)
  | lczn (i : Nat) (elt : E) (es : Es)
inductive Eo where
  | no | so (e : E)
inductive Es where
  | nil | cons (e : E) (es : Es) | star (e : E) (es : Es)
inductive T where
  | tt | e (a : E) | and (a b : T) | or (a b : T) | not (a : T)
end
/-! ### patterns -/
inductive Pi | lit (x : Str) | cap (i : Nat) | wild
inductive Pt | wild | val (x : Str) | seq (ps : List Pi)
end Oz

end

section
set_option maxHeartbeats 4000000
/-! Oz2: what the small language means. -/
namespace Oz
open PySem PySem.Spec PyProof.Rows L2

instance (x : Str) (n : Int) : Decidable (PySem.MulOk x n) := by unfold PySem.MulOk; infer_instance
instance (i j : Int) : Decidable (CMul i j) := by unfold CMul; infer_instance
instance (i j : Int) : Decidable (CDiv i j) := by unfold CDiv; infer_instance
instance (i j : Int) : Decidable (CPow i j) := by unfold CPow; infer_instance

/-! ### operators by values -/
def binU (o : Op) (a b : U) (S : Sto) : R U :=
  match o, a, b with
  | .add, .int i, .int j => .ok (.int (i + j)) S
  | .add, .str x, .str y => if x.length + y.length ≤ sizeLine then .ok (.str (x ++ y)) S else .bad
  | .add, .tup xs, .tup ys => if xs.length + ys.length ≤ sizeLine then .ok (.tup (xs ++ ys)) S else .bad
  | .add, .loc m, .loc n =>
    match S[m]?, S[n]? with
    | some (.lst xs), some (.lst ys) => if xs.length + ys.length ≤ sizeLine then .ok (.loc S.length) (S ++ [.lst (xs ++ ys)]) else .bad
    | _, _ => .bad
  | .sub, .int i, .int j => .ok (.int (i - j)) S
  | .mul, .int i, .int j => if CMul i j then .ok (.int (i * j)) S else .bad
  | .mul, .str x, .int n => if PySem.MulOk x n then .ok (.str (PySem.Txt.mul x n)) S else .bad
  | .fdiv, .int i, .int j => if CDiv i j then .ok (.int (i / j)) S else .bad
  | .mod, .int i, .int j => if 0 < j then .ok (.int (i % j)) S else .bad
  | .pow, .int i, .int j => if CPow i j then .ok (.int (i ^ j.toNat)) S else .bad
  | .shl, .int i, .int j => if CPow i j then .ok (.int (i * 2 ^ j.toNat)) S else .bad
  | _, _, _ => .bad
def items? (S : Sto) : U → Option (List U)
  | .tup xs => some xs
  | .loc n =>
    match S[n]? with
    | some (.lst xs) => some xs
    | some (.fro xs) => some xs
    | _ => none
  | _ => none
def list? (S : Sto) : U → Option (List U)
  | .loc n =>
    match S[n]? with
    | some (.lst xs) => some xs
    | some (.fro xs) => some xs
    | _ => none
  | _ => none
def flatU : U → Bool
  | .non => true
  | .bl _ => true
  | .int _ => true
  | .str _ => true
  | _ => false
/-- == -/
def eqR (a b : U) (S : Sto) : Option Bool :=
  match a, b with
  | .int i, .int j => some (decide (i = j))
  | .str x, .str y => some (decide (x = y))
  | .loc m, .loc n =>
    match list? S (.loc m), list? S (.loc n) with
    | some xs, some ys => if okUs xs && okUs ys then some (eqUs xs ys) else none
    | _, _ => none
  | a, b => if okU a && okU b then some (eqU a b) else none
/-- in -/
def inR (a b : U) (S : Sto) : Option Bool :=
  match a, b with
  | .str x, .str z =>
    match x.cps.toList with
    | [c] => some (decide (c ∈ z.cps.toList))
    | _ => none
  | a, b =>
    match items? S b with
    | some xs =>
      if flatU a && xs.all flatU then some (xs.any fun y => eqU y a)
      else match list? S b with
        | some xs => if okU a && okUs xs then some (xs.any fun y => eqU y a) else none
        | none => none
    | none => none
def cmpB (o : Cm) (a b : U) (S : Sto) : Option Bool :=
  match o with
  | .eq => eqR a b S
  | .ne => (eqR a b S).map (!·)
  | .in_ => inR a b S
  | .notIn => (inR a b S).map (!·)
  | .isN => match b with | .non => some (decide (a = .non)) | .bl k => (match a with | .bl j => some (j == k) | _ => none) | _ => none
  | .isNotN => match b with | .non => some (!decide (a = .non)) | .bl k => (match a with | .bl j => some (!(j == k)) | _ => none) | _ => none
  | .lt => match a, b with | .int i, .int j => some (decide (i < j)) | _, _ => none
  | .le => match a, b with | .int i, .int j => some (decide (i ≤ j)) | _, _ => none
  | .gt => match a, b with | .int i, .int j => some (decide (j < i)) | _, _ => none
  | .ge => match a, b with | .int i, .int j => some (decide (j ≤ i)) | _, _ => none
def rO {α : Type} (o : Option α) (S : Sto) : R α := match o with | some a => .ok a S | none => .bad
def cmpU (o : Cm) (a b : U) (S : Sto) : R U := match cmpB o a b S with | some k => .ok (.bl k) S | none => .bad
def ixU (a i : U) (S : Sto) : R U :=
  match a, i with
  | .str z, .int j => if z.length ≤ sizeLine then (match atI z.cps.toList j with | some c => .ok (.str ⟨#[c]⟩) S | none => .bad) else .bad
  | a, .int j =>
    match items? S a with
    | some xs => (match atI xs j with | some u => .ok u S | none => .bad)
    | none => .bad
  | _, _ => .bad
def cutA {α : Type} (xs : List α) (lo hi : Option Int) : List α := (xs.drop (HT.sIx xs.length 0 lo)).take (HT.sIx xs.length xs.length hi - HT.sIx xs.length 0 lo)
def slU (a : U) (lo hi : Option Int) (S : Sto) : R U :=
  match a with
  | .str z => if z.length ≤ sizeLine then .ok (.str (cutS z lo hi)) S else .bad
  | .tup xs => .ok (.tup (cutA xs lo hi)) S
  | .loc n => match list? S (.loc n) with | some xs => .ok (.loc S.length) (S ++ [.lst (cutA xs lo hi)]) | none => .bad
  | _ => .bad
def lenU (a : U) (S : Sto) : Option Nat :=
  match a with
  | .str z => if z.length ≤ sizeLine then some z.length else none
  | a => (items? S a).map List.length
def truU (a : U) (S : Sto) : Option Bool :=
  match a with
  | .non => some false
  | .bl b => some b
  | .int i => some (i != 0)
  | .str z => if z.length ≤ sizeLine then some ((z.length : Int) != 0) else none
  | a => (items? S a).map fun xs => !xs.isEmpty
def intsU : List U → Option (List Int)
  | [] => some []
  | .int i :: us => (intsU us).map (i :: ·)
  | _ :: _ => none
def maxI : List Int → Int
  | [] => 0
  | [i] => i
  | i :: is => if maxI is > i then maxI is else i
def lenF (us : List U) (S : Sto) : R U := match us with
  | [a] => (match lenU a S with | some n => .ok (.int (n : Nat)) S | none => .bad)
  | _ => .bad
def absF (us : List U) (S : Sto) : R U := match us with
  | [.int i] => .ok (.int (if i < 0 then -i else i)) S
  | _ => .bad
def intF (us : List U) (S : Sto) : R U := match us with
  | [.int i] => .ok (.int i) S
  | [.bl k] => .ok (.int (if k then 1 else 0)) S
  | [.str x] => (match PySem.intText? x with | some n => if x.length ≤ 640 then .ok (.int n) S else .bad | none => .bad)
  | _ => .bad
def maxF (us : List U) (S : Sto) : R U := match us with
  | [a] => (match (list? S a).bind intsU with | some ns => if 0 < ns.length then .ok (.int (maxI ns)) S else .bad | none => .bad)
  | _ => .bad
def sumF (us : List U) (S : Sto) : R U := match us with
  | [a] => (match (list? S a).bind intsU with | some ns => .ok (.int ns.sum) S | none => .bad)
  | _ => .bad
def max2F (us : List U) (S : Sto) : R U := match us with
  | [.int i, .int j] => .ok (.int (if j > i then j else i)) S
  | _ => .bad
def min2F (us : List U) (S : Sto) : R U := match us with
  | [.int i, .int j] => .ok (.int (if j < i then j else i)) S
  | _ => .bad
def tupF (us : List U) (S : Sto) : R U := match us with
  | [a] => (match items? S a with | some xs => .ok (.tup xs) S | none => .bad)
  | _ => .bad
def listF (us : List U) (S : Sto) : R U := match us with
  | [a] => (match items? S a with | some xs => .ok (.loc S.length) (S ++ [.lst xs]) | none => .bad)
  | _ => .bad
def strF (us : List U) (S : Sto) : R U := match us with
  | [.int i] => if i.natAbs.log2 < 1920 then .ok (.str (toString i)) S else .bad
  | _ => .bad
def bolsU : List U → Option (List Bool)
  | [] => some []
  | .bl i :: us => (bolsU us).map (i :: ·)
  | _ :: _ => none
def allF (us : List U) (S : Sto) : R U := match us with
  | [.tup xs] => (match bolsU xs with | some ns => .ok (.bl (ns.all id)) S | none => .bad)
  | [a] => (match (list? S a).bind bolsU with | some ns => .ok (.bl (ns.all id)) S | none => .bad)
  | _ => .bad
def anyF (us : List U) (S : Sto) : R U := match us with
  | [a] => (match (list? S a).bind bolsU with | some ns => .ok (.bl (ns.any id)) S | none => .bad)
  | _ => .bad
/-- max(xs, default=k) -/
def maxdF (us : List U) (S : Sto) : R U := match us with
  | [a, .int k] => (match (list? S a).bind intsU with | some ns => .ok (.int (if 0 < ns.length then maxI ns else k)) S | none => .bad)
  | _ => .bad
/-- repr of data -/
def reprOk (u : U) : Bool := (match u with | .tup _ => true | _ => false) && (okU u && ((pdU u).showable && decide ((pdU u).shown.length ≤ sizeLine)))
def reprF (us : List U) (S : Sto) : R U := match us with
  | [a] => if reprOk a then .ok (.str (pdU a).shown) S else .bad
  | _ => .bad
def bfU (b : Bf) (us : List U) (S : Sto) : R U := match b with
  | .repr => reprF us S
  | .all => allF us S
  | .any => anyF us S
  | .maxd => maxdF us S
  | .len => lenF us S
  | .abs => absF us S
  | .int => intF us S
  | .max => maxF us S
  | .sum => sumF us S
  | .max2 => max2F us S
  | .min2 => min2F us S
  | .tup => tupF us S
  | .list => listF us S
  | .str => strF us S
def appendF (o : U) (us : List U) (S : Sto) : R U := match o, us with
  | .loc n, [u] => (match S[n]? with | some (.lst xs) => if xs.length < sizeLine then .ok .non (S.set n (.lst (xs ++ [u]))) else .bad | _ => .bad)
  | _, _ => .bad
def popF (o : U) (us : List U) (S : Sto) : R U := match o, us with
  | .loc n, [] => (match S[n]? with | some (.lst xs) => (match xs[xs.length - 1]? with | some u => .ok u (S.set n (.lst xs.dropLast)) | none => .bad) | _ => .bad)
  | _, _ => .bad
def extendF (o : U) (us : List U) (S : Sto) : R U := match o, us with
  | .loc n, [.loc m] => (match S[n]?, S[m]? with | some (.lst xs), some (.lst ys) => if xs.length + ys.length ≤ sizeLine then .ok .non (S.set n (.lst (xs ++ ys))) else .bad | _, _ => .bad)
  | _, _ => .bad
def startsF (o : U) (us : List U) (S : Sto) : R U := match o, us with
  | .str x, [.str y, .int i] => .ok (.bl (PySem.Txt.startswith3 x y i)) S
  | _, _ => .bad
def bmU (b : Bm) (o : U) (us : List U) (S : Sto) : R U := match b with
  | .append => appendF o us S
  | .extend => extendF o us S
  | .pop => popF o us S
  | .startswith3 => startsF o us S
/-- what has such a method -/
def tyB (b : Bm) (o : U) (S : Sto) : Bool :=
  match b, o with
  | .append, o => (list? S o).isSome
  | .extend, o => (list? S o).isSome
  | .pop, o => (list? S o).isSome
  | .startswith3, .str _ => true
  | _, _ => false
def tyU (S : Sto) : U → Option String
  | .non => some "NoneType"
  | .bl _ => some "bool"
  | .int _ => some "int"
  | .str _ => some "str"
  | .tup _ => some "tuple"
  | .loc n =>
    match S[n]? with
    | some (.lst _) => some "list"
    | some (.fro _) => some "list"
    | some (.dic _) => some "dict"
    | _ => none

/-! ### the def's names -/
abbrev Env := List (Option U)
def setAll : List Nat → List U → Env → Env
  | i :: is, u :: us, env => setAll is us (env.set i (some u))
  | _, _, env => env
/-- a name, or names in parentheses -/
def setN (tp : Bool) (is : List Nat) (u : U) (env : Env) : Option Env :=
  if tp then match u with
    | .tup us => if us.length = is.length then some (setAll is us env) else none
    | _ => none
  else match is with
    | [i] => some (env.set i (some u))
    | _ => none
def wipeE (env : Env) : List Nat → Env
  | [] => env
  | i :: is => (wipeE env is).set i none
/-- what a for goes over: the items, the list that must stay -/
def iterU (S : Sto) : U → Option (List U × Option Nat)
  | .tup xs => some (xs, none)
  | .str z => some (z.cps.toList.map fun c => U.str ⟨#[c]⟩, none)
  | .loc n =>
    match S[n]? with
    | some (.lst xs) => some (xs, some n)
    | some (.fro xs) => some (xs, some n)
    | _ => none
  | _ => none
def stays (S : Sto) (us : List U) : Option Nat → Bool
  | none => true
  | some n => isLst S n us
def ranged (a b : Int) : List U := (List.range (b - a).toNat).map fun k => U.int (a + (k : Nat))

/-! ### the program around a def -/
structure Cal where
  call : Str → List U → Sto → R U
  kcal : Str → List U → Sto → R U
  init : Str → List U → Sto → R U
  glo : Str → Option U
  xf : Str → Option Str
  gd : Str → Option (List (Str × U))

/-- one more item for the list at n -/
def pushAt (n : Nat) (u : U) (S : Sto) : R Unit :=
  match S[n]? with
  | some (.lst acc) => if acc.length < sizeLine then .ok () (S.set n (.lst (acc ++ [u]))) else .bad
  | _ => .bad
/-- within a comprehension nothing may be raised -/
def R.noex {α : Type} (r : R α) : R α := match r with | .ok a S => .ok a S | _ => .bad
/-- a comprehension's turns: all the items, those to come -/
def lcI (tp : Bool) (is : List Nat) (env : Env) (c : Env → Sto → R Bool) (f : Env → Sto → R U) (n : Nat) (all : List U) (src : Option Nat) : List U → Sto → R Unit
  | [], S => if stays S all src then .ok () S else .bad
  | u :: us, S => if stays S all src then
      match setN tp is u env with
      | some env' => (c env' S).bind fun b S1 => if b then (f env' S1).bind fun y S2 => (pushAt n y S2).bind fun _ S3 => lcI tp is env c f n all src us S3 else lcI tp is env c f n all src us S1
      | none => .bad
    else .bad
/-- a comprehension's turns over zip: the items to come; st: what must stay -/
def lcJ (tp : Bool) (is : List Nat) (env : Env) (c : Env → Sto → R Bool) (f : Env → Sto → R U) (n : Nat) (st : Sto → Bool) : List U → Sto → R Unit
  | [], S => if st S then .ok () S else .bad
  | u :: us, S => if st S then
      match setN tp is u env with
      | some env' => (c env' S).bind fun b S1 => if b then (f env' S1).bind fun y S2 => (pushAt n y S2).bind fun _ S3 => lcJ tp is env c f n st us S3 else lcJ tp is env c f n st us S1
      | none => .bad
    else .bad
/-- the turns of a second walk -/
def lcK (is1 : List Nat) (tp1 : Bool) (f : Env → Sto → R U) (n : Nat) (all1 : List U) (src1 : Option Nat) (env : Env) : List U → Sto → R Unit
  | [], S => if stays S all1 src1 then .ok () S else .bad
  | u :: us, S => if stays S all1 src1 then
      match setN tp1 is1 u env with
      | some env' => (f env' S).bind fun y S2 => (pushAt n y S2).bind fun _ S3 => lcK is1 tp1 f n all1 src1 env us S3
      | none => .bad
    else .bad
/-- a comprehension's turns over two walks -/
def lcL (tp tp1 : Bool) (is is1 : List Nat) (env : Env) (g f : Env → Sto → R U) (n : Nat) (all : List U) (src : Option Nat) : List U → Sto → R Unit
  | [], S => if stays S all src then .ok () S else .bad
  | u :: us, S => if stays S all src then
      match setN tp is u env with
      | some env' => (g env' S).bind fun x S1 => (match iterU S1 x with
        | some (us1, src1) => (lcK is1 tp1 f n us1 src1 (wipeE env' is1) us1 S1).bind fun _ S2 => lcL tp tp1 is is1 env g f n all src us S2
        | none => .bad)
      | none => .bad
    else .bad
def zipped : List U → List U → List U
  | a :: as, b :: bs => .tup [a, b] :: zipped as bs
  | _, _ => []
/-- zip of two tuples, of two lists -/
def zipU (S : Sto) : List U → Option (List U × (Sto → Bool))
  | [.tup xs, .tup ys] => some (zipped xs ys, fun _ => true)
  | [.loc m, .loc n] => (match list? S (.loc m), list? S (.loc n) with
    | some xs, some ys => some (zipped xs ys, fun S => isLst S m xs && isLst S n ys)
    | _, _ => none)
  | _ => none
/-- keys of dicts: ints and texts, tuples of them -/
def keyU : U → Option Key
  | .int i => some (.inl i)
  | .str x => some (.inr x)
  | _ => none
def keysU : List U → Option (List Key)
  | [] => some []
  | u :: us => (keyU u).bind fun k => (keysU us).map (k :: ·)
def keyT : U → Option (List Key)
  | .tup us => keysU us
  | _ => none
def keyTs : List U → Option (List (List Key))
  | [] => some []
  | u :: us => (keyT u).bind fun k => (keyTs us).map (k :: ·)
def uK : Key → U
  | .inl i => .int i
  | .inr x => .str x
def dd1 (acc : List (List Key)) (k : List Key) : List (List Key) := if (acc.any fun j => decide (j = k)) = true then acc else acc ++ [k]
def dd (ks : List (List Key)) : List (List Key) := ks.foldl dd1 []
/-- zip of one tuple, of three -/
def tupsU : List U → Option (List (List U))
  | [] => some []
  | .tup xs :: us => (tupsU us).map (xs :: ·)
  | _ :: _ => none
def zipNU (us : List U) : Option (List U) :=
  match tupsU us with
  | some (xs :: cols) => if (cols.length = 0 ∨ cols.length = 2) ∧ cols.all (fun c => c.length == xs.length) = true then some ((List.range xs.length).map fun k => .tup ((xs :: cols).map fun c => c.getD k .non)) else none
  | _ => none
/-- x[::-1] -/
def revU (a : U) (S : Sto) : R U :=
  match a with
  | .tup xs => .ok (.tup xs.reverse) S
  | _ => .bad
mutual
def ev (Φ : Cal) : E → Env → Sto → R U
  | .v i, env, S => (match env[i]? with | some (some u) => .ok u S | _ => .bad)
  | .k u, _, S => .ok u S
  | .g x, _, S => rO (Φ.glo x) S
  | .tup es, env, S => (evs Φ es env S).bind fun us S => if us.length ≤ sizeLine then .ok (.tup us) S else .bad
  | .lst es, env, S => (evs Φ es env S).bind fun us S => if us.length ≤ sizeLine then .ok (.loc S.length) (S ++ [.lst us]) else .bad
  | .bin o a b, env, S => (ev Φ a env S).bind fun x S => (ev Φ b env S).bind fun y S => binU o x y S
  | .neg a, env, S => (ev Φ a env S).bind fun x S => (match x with | .int i => .ok (.int (-i)) S | _ => .bad)
  | .cmp o a b, env, S => (ev Φ a env S).bind fun x S => (ev Φ b env S).bind fun y S => cmpU o x y S
  | .and a b, env, S => (ev Φ a env S).bind fun x S => (match x with | .bl true => ev Φ b env S | .bl false => .ok (.bl false) S | _ => .bad)
  | .or a b, env, S => (ev Φ a env S).bind fun x S => (match x with | .bl true => .ok (.bl true) S | .bl false => ev Φ b env S | _ => .bad)
  | .not a, env, S => (ev Φ a env S).bind fun x S => (match x with | .bl k => .ok (.bl (!k)) S | _ => .bad)
  | .ife c a b, env, S => (evt Φ c env S).bind fun k S => if k then ev Φ a env S else ev Φ b env S
  | .ix a i, env, S => (ev Φ a env S).bind fun x S => (ev Φ i env S).bind fun y S => ixU x y S
  | .sl a lo hi, env, S => (ev Φ a env S).bind fun x S => (evo Φ lo env S).bind fun l S => (evo Φ hi env S).bind fun h S => slU x l h S
  | .fld a C f, env, S => (ev Φ a env S).bind fun x S => (match x with
      | .loc n => (match S[n]? with | some (.ins D fs) => if D = C then rO (fs.lookup f) S else .bad | _ => .bad)
      | _ => .bad)
  | .call f es, env, S => (evs Φ es env S).bind fun us S => Φ.call f us S
  | .meth o C m es, env, S => (ev Φ o env S).bind fun x S => (match x with
      | .loc n => (match S[n]? with
        | some (.ins D fs) => if D = C ∧ fs.lookup m = none then (evs Φ es env S).bind fun us S => Φ.call (C ++ "." ++ m) (.loc n :: us) S else .bad
        | _ => .bad)
      | _ => .bad)
  | .mk C es, env, S => (evs Φ es env S).bind fun us S => (Φ.init (C ++ ".__init__") (.loc S.length :: us) (S ++ [.ins C []])).bind fun u S' => (match u with | .non => .ok (.loc S.length) S' | _ => .bad)
  | .bf b es, env, S => (evs Φ es env S).bind fun us S => bfU b us S
  | .bm b o es, env, S => (ev Φ o env S).bind fun x S => if tyB b x S then (evs Φ es env S).bind fun us S => bmU b x us S else .bad
  | .isi a t, env, S => (ev Φ a env S).bind fun x S => (match tyU S x with | some t' => (match kitB t' t with | some k => .ok (.bl k) S | none => .bad) | none => .bad)
  | .lc is tp elt it c, env, S => (ev Φ it env S).bind fun x S => (match iterU S x with
      | some (us, src) => (lcI tp is (wipeE env is) (fun env S => (evt Φ c env S).noex) (fun env S => (ev Φ elt env S).noex) S.length us src us (S ++ [.lst []])).bind fun _ S' => .ok (.loc S.length) S'
      | none => .bad)
  | .lcr is elt a b c, env, S => (ev Φ a env S).bind fun x S => (ev Φ b env S).bind fun y S => (match x, y with
      | .int i, .int j => if -(2 ^ 62) ≤ i ∧ i < 2 ^ 62 ∧ -(2 ^ 62) ≤ j ∧ j < 2 ^ 62 then
          (lcI false is (wipeE env is) (fun env S => (evt Φ c env S).noex) (fun env S => (ev Φ elt env S).noex) S.length (ranged i j) none (ranged i j) (S ++ [.lst []])).bind fun _ S' => .ok (.loc S.length) S'
        else .bad
      | _, _ => .bad)
  | .lcz is elt es c, env, S => (evs Φ es env S).bind fun us S => (match zipU S us with
      | some (all, st) => (lcJ true is (wipeE env is) (fun env S => (evt Φ c env S).noex) (fun env S => (ev Φ elt env S).noex) S.length st all (S ++ [.lst []])).bind fun _ S' => .ok (.loc S.length) S'
      | none => .bad)
  | .gd x a, env, S => (ev Φ a env S).bind fun k S => (match Φ.gd x, k with
      | some kvs, .str z => rO (kvs.lookup z) S
      | _, _ => .bad)
  | .gget x a b, env, S => (ev Φ a env S).bind fun k S => (ev Φ b env S).bind fun v S => (match Φ.gd x, k with
      | some kvs, .str z => .ok ((kvs.lookup z).getD v) S
      | _, _ => .bad)
  | .kcall f es ks, env, S => (evs Φ es env S).bind fun us S => (evs Φ ks env S).bind fun zs S => Φ.kcal f (us ++ zs) S
  | .din x a, env, S => (ev Φ a env S).bind fun k S => (match Φ.gd x, k with
      | some kvs, .str z => .ok (.bl (kvs.lookup z).isSome) S
      | _, _ => .bad)
  | .rev a, env, S => (ev Φ a env S).bind fun x S => revU x S
  | .lczn i elt es, env, S => (evs Φ es env S).bind fun us S => (match zipNU us with
      | some all => (lcJ false [i] (wipeE env [i]) (fun _ S => .ok true S) (fun env S => (ev Φ elt env S).noex) S.length (fun _ => true) all (S ++ [.lst []])).bind fun _ S' => .ok (.loc S.length) S'
      | none => .bad)
  | .lsd i it, env, S => (ev Φ it env S).bind fun x S => (match iterU S x with
      | some (us, _) => (match keyTs us with
        | some ks => if us.length ≤ sizeLine ∧ i < env.length then .ok (.loc S.length) (S ++ [.lst ((dd ks).map fun k => .tup (k.map uK))]) else .bad
        | none => .bad)
      | none => .bad)
  | .lc2 is is1 tp tp1 elt it it1, env, S => (ev Φ it env S).bind fun x S => (match iterU S x with
      | some (us, src) => (lcL tp tp1 is is1 (wipeE env (is ++ is1)) (fun env S => (ev Φ it1 env S).noex) (fun env S => (ev Φ elt env S).noex) S.length us src us (S ++ [.lst []])).bind fun _ S' => .ok (.loc S.length) S'
      | none => .bad)
def evo (Φ : Cal) : Eo → Env → Sto → R (Option Int)
  | .no, _, S => .ok none S
  | .so e, env, S => (ev Φ e env S).bind fun x S => (match x with | .int i => .ok (some i) S | _ => .bad)
def evs (Φ : Cal) : Es → Env → Sto → R (List U)
  | .nil, _, S => .ok [] S
  | .cons e es, env, S => (ev Φ e env S).bind fun u S => (evs Φ es env S).bind fun us S => .ok (u :: us) S
  | .star e es, env, S => (ev Φ e env S).bind fun u S => (match items? S u with | some xs => (evs Φ es env S).bind fun us S => .ok (xs ++ us) S | none => .bad)
def evt (Φ : Cal) : T → Env → Sto → R Bool
  | .tt, _, S => .ok true S
  | .e a, env, S => (ev Φ a env S).bind fun x S => rO (truU x S) S
  | .and a b, env, S => (evt Φ a env S).bind fun k S => if k then evt Φ b env S else .ok false S
  | .or a b, env, S => (evt Φ a env S).bind fun k S => if k then .ok true S else evt Φ b env S
  | .not a, env, S => (evt Φ a env S).bind fun k S => .ok (!k) S
end

/-! ### statements -/
mutual
/-- a target of an assignment -/
inductive Tg where
  | nm (i : Nat) | sb (o i : E) | tp (ts : Tgs)
inductive Tgs where
  | nil | cons (t : Tg) (ts : Tgs)
end
def Tgs.len : Tgs → Nat
  | .nil => 0
  | .cons _ ts => ts.len + 1
mutual
inductive St where
  | par (i j : Nat) (es : Es)
  | tset (t : Tg) (e : E)
  | set (tp : Bool) (is : List Nat) (e : E)
  | lset (is : List Nat) (e : E)
  | sub (o i e : E)
  | aug (i : Nat) (o : Op) (e : E)
  | fset (o : E) (C f : Str) (e : E)
  | faug (o : E) (C f : Str) (op : Op) (e : E)
  | ex (e : E) | ret (e : E) | retN
  | if_ (c : T) (a b : Sts)
  | while_ (c : T) (b : Sts)
  | for_ (tp : Bool) (is : List Nat) (it : E) (b : Sts)
  | forr (i : Nat) (a b : E) (c : Sts)
  | raise (C : Str) (e : E)
  | pass | brk | cont
  | mtch (e : E) (cs : Cs)
inductive Sts where
  | nil | cons (s : St) (b : Sts)
inductive Cs where
  | nil | cons (p : Pt) (b : Sts) (cs : Cs)
end
inductive O where
  | nx (env : Env) (S : Sto) | ret (u : U) (S : Sto) | bk (env : Env) (S : Sto) | ct (env : Env) (S : Sto)
  | exc (c : Str) (fs : List (Str × U)) (S : Sto) | bad
def R.on {α : Type} (r : R α) (f : α → Sto → O) : O :=
  match r with
  | .ok a S => f a S
  | .exc c fs S => .exc c fs S
  | .bad => .bad
def O.then_ (o : O) (f : Env → Sto → O) : O :=
  match o with
  | .nx env S => f env S
  | o => o
/-- a loop's turn has ended -/
def O.turn (o : O) (f : Env → Sto → O) : O :=
  match o with
  | .nx env S => f env S
  | .ct env S => f env S
  | .bk env S => .nx env S
  | o => o
def augU (o : Op) (a b : U) (S : Sto) : R U :=
  match o, a, b with
  | .add, .int i, .int j => .ok (.int (i + j)) S
  | .add, .str x, .str y => if x.length + y.length ≤ sizeLine then .ok (.str (x ++ y)) S else .bad
  | .sub, .int i, .int j => .ok (.int (i - j)) S
  | .mul, .int i, .int j => if CMul i j then .ok (.int (i * j)) S else .bad
  | _, _, _ => .bad
def putU (f : Str) (u : U) : List (Str × U) → List (Str × U)
  | [] => [(f, u)]
  | (g, v) :: r => if g = f then (f, u) :: r else (g, v) :: putU f u r
def setItemU (o i u : U) (S : Sto) : R Unit :=
  match o, i with
  | .loc n, .int k => (match S[n]? with
    | some (.lst xs) => (match ixN xs.length k with | some j => .ok () (S.set n (.lst (xs.set j u))) | none => .bad)
    | _ => .bad)
  | _, _ => .bad
def setFldU (o : U) (C f : Str) (u : U) (S : Sto) : R Unit :=
  match o with
  | .loc n => (match S[n]? with
    | some (.ins D fs) => if D = C ∧ fs.length < 900 then .ok () (S.set n (.ins C (putU f u fs))) else .bad
    | _ => .bad)
  | _ => .bad
def loopI (c : Env → Sto → R Bool) (f : Env → Sto → O) : Nat → Env → Sto → O
  | 0, _, _ => .bad
  | n + 1, env, S => (c env S).on fun k S => if k then (f env S).turn fun env S => loopI c f n env S else .nx env S
def forI (tp : Bool) (is : List Nat) (f : Env → Sto → O) (all : List U) (src : Option Nat) : List U → Env → Sto → O
  | [], env, S => if stays S all src then .nx env S else .bad
  | u :: us, env, S => if stays S all src then
      match setN tp is u env with
      | some env' => (f env' S).turn fun env S => forI tp is f all src us env S
      | none => .bad
    else .bad
mutual
def setT (Φ : Cal) : Tg → U → Env → Sto → R Env
  | .nm i, u, env, S => .ok (env.set i (some u)) S
  | .sb o i, u, env, S => (ev Φ o env S).bind fun a S => (ev Φ i env S).bind fun k S => (setItemU a k u S).bind fun _ S => .ok env S
  | .tp ts, u, env, S => (match u with
      | .tup us => if us.length = ts.len then setTs Φ ts us env S else .bad
      | _ => .bad)
def setTs (Φ : Cal) : Tgs → List U → Env → Sto → R Env
  | .nil, [], env, S => .ok env S
  | .cons t ts, u :: us, env, S => (setT Φ t u env S).bind fun env S => setTs Φ ts us env S
  | _, _, _, _ => .bad
end
/-- the items of a pattern: none: no reading; some none: no match -/
def pisM : List Pi → List U → Env → Option (Option Env)
  | [], [], env => some (some env)
  | .lit x :: ps, .str y :: us, env => if y = x then pisM ps us env else some none
  | .cap i :: ps, u :: us, env => pisM ps us (env.set i (some u))
  | .wild :: ps, _ :: us, env => pisM ps us env
  | _, _, _ => none
def ptM : Pt → U → Env → Option (Option Env)
  | .wild, _, env => some (some env)
  | .val x, .str y, env => some (if y = x then some env else none)
  | .seq ps, .tup us, env => if us.length = ps.length then pisM ps us env else some none
  | _, _, _ => none
def fuel : Nat := 16777216
mutual
def ex (Φ : Cal) : St → Env → Sto → O
  | .set tp is e, env, S => (ev Φ e env S).on fun u S => (match setN tp is u env with | some env => .nx env S | none => .bad)
  | .lset is e, env, S => (ev Φ e env S).on fun u S => (match list? S u with | some us => if us.length = is.length then .nx (setAll is us env) S else .bad | none => .bad)
  | .par i j es, env, S => (evs Φ es env S).on fun us S => (match us with | [u, v] => .nx ((env.set i (some u)).set j (some v)) S | _ => .bad)
  | .tset t e, env, S => (ev Φ e env S).on fun u S => (setT Φ t u env S).on fun env S => .nx env S
  | .sub o i e, env, S => (ev Φ e env S).on fun u S => (ev Φ o env S).on fun a S => (ev Φ i env S).on fun k S => (setItemU a k u S).on fun _ S => .nx env S
  | .aug i o e, env, S => (match env[i]? with | some (some a) => (ev Φ e env S).on fun b S => (augU o a b S).on fun u S => .nx (env.set i (some u)) S | _ => .bad)
  | .fset o C f e, env, S => (ev Φ e env S).on fun u S => (ev Φ o env S).on fun a S => (setFldU a C f u S).on fun _ S => .nx env S
  | .faug o C f op e, env, S => (ev Φ o env S).on fun a S => (match a with
      | .loc n => (match S[n]? with
        | some (.ins D fs) => if D = C then (match fs.lookup f with | some x => (ev Φ e env S).on fun y S => (augU op x y S).on fun z S => (setFldU (.loc n) C f z S).on fun _ S => .nx env S | none => .bad) else .bad
        | _ => .bad)
      | _ => .bad)
  | .ex e, env, S => (ev Φ e env S).on fun _ S => .nx env S
  | .ret e, env, S => (ev Φ e env S).on fun u S => .ret u S
  | .retN, _, S => .ret .non S
  | .if_ c a b, env, S => (evt Φ c env S).on fun k S => if k then exs Φ a env S else exs Φ b env S
  | .while_ c b, env, S => loopI (fun env S => evt Φ c env S) (fun env S => exs Φ b env S) fuel env S
  | .for_ tp is it b, env, S => (ev Φ it env S).on fun x S => (match iterU S x with
      | some (us, src) => forI tp is (fun env S => exs Φ b env S) us src us env S
      | none => .bad)
  | .forr i a b c, env, S => (ev Φ a env S).on fun x S => (ev Φ b env S).on fun y S => (match x, y with
      | .int m, .int n => if -(2 ^ 62) ≤ m ∧ m < 2 ^ 62 ∧ -(2 ^ 62) ≤ n ∧ n < 2 ^ 62 then forI false [i] (fun env S => exs Φ c env S) (ranged m n) none (ranged m n) env S else .bad
      | _, _ => .bad)
  | .raise C e, env, S => (ev Φ e env S).on fun u S => (match Φ.xf C with | some f => .exc C [(f, u)] S | none => .bad)
  | .pass, env, S => .nx env S
  | .brk, env, S => .bk env S
  | .cont, env, S => .ct env S
  | .mtch e cs, env, S => (ev Φ e env S).on fun u S => exc Φ cs u env S
def exs (Φ : Cal) : Sts → Env → Sto → O
  | .nil, env, S => .nx env S
  | .cons s b, env, S => (ex Φ s env S).then_ fun env S => exs Φ b env S
def exc (Φ : Cal) : Cs → U → Env → Sto → O
  | .nil, _, env, S => .nx env S
  | .cons p b cs, u, env, S => (match ptM p u env with
    | some (some env') => exs Φ b env' S
    | some none => exc Φ cs u env S
    | none => .bad)
end
/-- a body's end is the call's -/
def O.fin (o : O) : R U :=
  match o with
  | .nx _ S => .ok .non S
  | .ret u S => .ok u S
  | .exc c fs S => .exc c fs S
  | _ => .bad
def startU (n : Nat) (us : List U) : Env := us.map some ++ List.replicate (n - us.length) none
/-- a def: how many parameters, how many names, its body; star: what is left over is a tuple, the last parameter -/
structure Df where
  np : Nat
  nn : Nat
  star : Bool
  body : Sts
def bindU (d : Df) (us : List U) : Option (List U) :=
  if d.star then (if d.np ≤ us.length ∧ us.length ≤ 1000 then some (us.take d.np ++ [.tup (us.drop d.np)]) else none)
  else if us.length = d.np then some us else none
def Df.run (d : Df) (Φ : Cal) (us : List U) (S : Sto) : R U :=
  match bindU d us with
  | some ws => (exs Φ d.body (startU d.nn ws) S).fin
  | none => .bad
structure Pg where
  defs : Str → Option (Df ⊕ (Cal → List U → Sto → R U))
  kdefs : Str → Option Df
  glo : Str → Option U
  xf : Str → Option Str
  gd : Str → Option (List (Str × U))
/-- calls to a depth -/
def Pg.cal (p : Pg) : Nat → Cal
  | 0 => ⟨fun _ _ _ => .bad, fun _ _ _ => .bad, fun _ _ _ => .bad, p.glo, p.xf, p.gd⟩
  | d + 1 => ⟨fun f us S => match p.defs f with | some (.inl df) => df.run (p.cal d) us S | some (.inr g) => g (p.cal d) us S | none => .bad,
    fun f us S => match p.kdefs f with | some df => df.run (p.cal d) us S | none => .bad, (p.cal d).call, p.glo, p.xf, p.gd⟩
end Oz

end

section
set_option maxHeartbeats 4000000
/-! Oz3: how the small language's values and store stand in the model's heap. -/
namespace Oz
open PySem PySem.Spec PyProof.Rows L2

section
variable (K : PySem.W.Frag) (mg : Str → Option Value)
mutual
def RelU (ρ : List Addr) (H : Hp) : U → V → Prop
  | .non, v => v = .non
  | .bl b, v => v = .bl b
  | .int i, v => v = .int i
  | .str x, v => v = .str x
  | .tup us, v => ∃ a vs, v = .ref a ∧ SqT K H a vs ∧ RelUs ρ H us vs
  | .loc n, v => ∃ a, v = .ref a ∧ ρ[n]? = some a
def RelUs (ρ : List Addr) (H : Hp) : List U → List V → Prop
  | [], vs => vs = []
  | u :: us, vs => ∃ v vs', vs = v :: vs' ∧ RelU ρ H u v ∧ RelUs ρ H us vs'
end
/-- what never changes -/
def Imm : HO → Prop
  | .tup _ => True
  | .frz _ _ => True
  | .met _ _ => True
  | _ => False
structure Ext (ρ : List Addr) (H : Hp) (ρ' : List Addr) (H' : Hp) : Prop where
  pre : ∃ t, ρ' = ρ ++ t
  imm : ∀ a o, H a = some o → Imm o → H' a = some o
theorem Ext.refl {ρ : List Addr} {H : Hp} : Ext ρ H ρ H := ⟨⟨[], by simp⟩, fun _ _ h _ => h⟩
theorem Ext.trans {ρ ρ1 ρ2 : List Addr} {H H1 H2 : Hp} (a : Ext ρ H ρ1 H1) (b : Ext ρ1 H1 ρ2 H2) : Ext ρ H ρ2 H2 := by
  obtain ⟨t, e⟩ := a.pre
  obtain ⟨t', e'⟩ := b.pre
  exact ⟨⟨t ++ t', by rw [e', e, List.append_assoc]⟩, fun x o h i => b.imm x o (a.imm x o h i) i⟩
theorem Ext.at_ {ρ ρ' : List Addr} {H H' : Hp} (e : Ext ρ H ρ' H') {n : Nat} {a : Addr} (h : ρ[n]? = some a) : ρ'[n]? = some a := by
  obtain ⟨t, rfl⟩ := e.pre
  rw [List.getElem?_append_left (List.getElem?_eq_some_iff.mp h).1]
  exact h
theorem Ext.sqt {ρ ρ' : List Addr} {H H' : Hp} (e : Ext ρ H ρ' H') {a : Addr} {vs : List V} (h : SqT K H a vs) : SqT K H' a vs := by
  rcases h with (h | ⟨o, h⟩) | h
  · exact .inl (.inl (e.imm _ _ h trivial))
  · exact .inl (.inr ⟨o, e.imm _ _ h trivial⟩)
  · exact .inr h
variable {K mg}
mutual
theorem RelU.mono {ρ ρ' : List Addr} {H H' : Hp} (e : Ext ρ H ρ' H') : ∀ {u : U} {v : V}, RelU K ρ H u v → RelU K ρ' H' u v
  | .non, _, h => by simpa [RelU] using h
  | .bl _, _, h => by simpa [RelU] using h
  | .int _, _, h => by simpa [RelU] using h
  | .str _, _, h => by simpa [RelU] using h
  | .tup us, v, h => by
    simp only [RelU] at h ⊢
    obtain ⟨a, vs, rfl, hs, hr⟩ := h
    exact ⟨a, vs, rfl, e.sqt K hs, RelUs.mono e hr⟩
  | .loc n, v, h => by
    simp only [RelU] at h ⊢
    obtain ⟨a, rfl, hn⟩ := h
    exact ⟨a, rfl, e.at_ hn⟩
theorem RelUs.mono {ρ ρ' : List Addr} {H H' : Hp} (e : Ext ρ H ρ' H') : ∀ {us : List U} {vs : List V}, RelUs K ρ H us vs → RelUs K ρ' H' us vs
  | [], _, h => by simpa [RelUs] using h
  | u :: us, vs, h => by
    simp only [RelUs] at h ⊢
    obtain ⟨v, vs', rfl, h1, h2⟩ := h
    exact ⟨v, vs', rfl, RelU.mono e h1, RelUs.mono e h2⟩
end
theorem RelUs.length {ρ : List Addr} {H : Hp} : ∀ {us : List U} {vs : List V}, RelUs K ρ H us vs → vs.length = us.length
  | [], _, h => by simp only [RelUs] at h; subst h; rfl
  | u :: us, vs, h => by
    simp only [RelUs] at h
    obtain ⟨v, vs', rfl, _, h2⟩ := h
    simp [RelUs.length h2]
theorem RelUs.nil {ρ : List Addr} {H : Hp} : RelUs K ρ H [] [] := by simp [RelUs]
theorem RelUs.cons {ρ : List Addr} {H : Hp} {u : U} {us : List U} {v : V} {vs : List V} (h : RelU K ρ H u v) (hs : RelUs K ρ H us vs) : RelUs K ρ H (u :: us) (v :: vs) := by
  simp only [RelUs]
  exact ⟨v, vs, rfl, h, hs⟩
theorem RelUs.get {ρ : List Addr} {H : Hp} : ∀ {us : List U} {vs : List V} {i : Nat} {u : U}, RelUs K ρ H us vs → us[i]? = some u → ∃ v, vs[i]? = some v ∧ RelU K ρ H u v
  | [], _, _, _, _, e => by simp at e
  | u :: us, vs, i, w, h, e => by
    simp only [RelUs] at h
    obtain ⟨v, vs', rfl, h1, h2⟩ := h
    cases i with
    | zero => simp at e; subst e; exact ⟨v, rfl, h1⟩
    | succ i =>
      obtain ⟨v', e', r⟩ := RelUs.get h2 (i := i) (by simpa using e)
      exact ⟨v', by simpa using e', r⟩
theorem RelUs.append {ρ : List Addr} {H : Hp} : ∀ {us ws : List U} {vs xs : List V}, RelUs K ρ H us vs → RelUs K ρ H ws xs → RelUs K ρ H (us ++ ws) (vs ++ xs)
  | [], _, _, _, h, h' => by simp only [RelUs] at h; subst h; exact h'
  | u :: us, ws, vs, xs, h, h' => by
    simp only [RelUs] at h
    obtain ⟨v, vs', rfl, h1, h2⟩ := h
    exact RelUs.cons h1 (RelUs.append h2 h')
theorem RelUs.take {ρ : List Addr} {H : Hp} : ∀ {us : List U} {vs : List V} (n : Nat), RelUs K ρ H us vs → RelUs K ρ H (us.take n) (vs.take n)
  | [], _, _, h => by simp only [RelUs] at h; subst h; simp [RelUs]
  | u :: us, vs, 0, h => by simp [RelUs]
  | u :: us, vs, n + 1, h => by
    simp only [RelUs] at h
    obtain ⟨v, vs', rfl, h1, h2⟩ := h
    exact RelUs.cons h1 (RelUs.take n h2)
theorem RelUs.drop {ρ : List Addr} {H : Hp} : ∀ {us : List U} {vs : List V} (n : Nat), RelUs K ρ H us vs → RelUs K ρ H (us.drop n) (vs.drop n)
  | [], _, _, h => by simp only [RelUs] at h; subst h; simp [RelUs]
  | u :: us, vs, 0, h => by simpa using h
  | u :: us, vs, n + 1, h => by
    simp only [RelUs] at h
    obtain ⟨v, vs', rfl, h1, h2⟩ := h
    exact RelUs.drop n h2
theorem RelUs.set {ρ : List Addr} {H : Hp} {u : U} {v : V} (hu : RelU K ρ H u v) : ∀ {us : List U} {vs : List V} (n : Nat), RelUs K ρ H us vs → RelUs K ρ H (us.set n u) (vs.set n v)
  | [], _, _, h => by simp only [RelUs] at h; subst h; simp [RelUs]
  | w :: us, vs, 0, h => by
    simp only [RelUs] at h
    obtain ⟨v', vs', rfl, h1, h2⟩ := h
    exact RelUs.cons hu h2
  | w :: us, vs, n + 1, h => by
    simp only [RelUs] at h
    obtain ⟨v', vs', rfl, h1, h2⟩ := h
    exact RelUs.cons h1 (RelUs.set hu n h2)
theorem RelUs.dropLast {ρ : List Addr} {H : Hp} {us : List U} {vs : List V} (h : RelUs K ρ H us vs) : RelUs K ρ H us.dropLast vs.dropLast := by
  rw [List.dropLast_eq_take, List.dropLast_eq_take, h.length]
  exact RelUs.take _ h
theorem RelUs.cut {ρ : List Addr} {H : Hp} {us : List U} {vs : List V} (lo hi : Option Int) (h : RelUs K ρ H us vs) : RelUs K ρ H (cutA us lo hi) (cutV vs lo hi) := by
  unfold cutA cutV
  rw [h.length]
  exact RelUs.take _ (RelUs.drop _ h)
theorem RelUs.ints {ρ : List Addr} {H : Hp} : ∀ {us : List U} {ns : List Int} {vs : List V}, RelUs K ρ H us vs → intsU us = some ns → vs = ns.map V.int
  | [], ns, vs, h, e => by
    simp only [RelUs] at h
    simp only [intsU, Option.some.injEq] at e
    subst e h
    rfl
  | u :: us, ns, vs, h, e => by
    simp only [RelUs] at h
    obtain ⟨v, vs', rfl, h1, h2⟩ := h
    cases u <;> simp only [intsU] at e <;> try cases e
    rename_i i
    cases q : intsU us with
    | none => rw [q] at e; cases e
    | some ms =>
      rw [q] at e
      simp only [Option.map_some, Option.some.injEq] at e
      subst e
      have := RelUs.ints h2 q
      simp only [RelU] at h1
      subst h1 this
      rfl

/-- an instance's fields -/
def RelF (K : PySem.W.Frag) (ρ : List Addr) (H : Hp) (fs : List (Str × U)) (vfs : List (Str × V)) : Prop := Paired (fun (p : Str × U) (q : Str × V) => p.1 = q.1 ∧ RelU K ρ H p.2 q.2) fs vfs
theorem RelF.mono {ρ ρ' : List Addr} {H H' : Hp} (e : Ext ρ H ρ' H') {fs : List (Str × U)} {vfs : List (Str × V)} (h : RelF K ρ H fs vfs) : RelF K ρ' H' fs vfs :=
  L2.Paired.mapP h fun _ _ q => ⟨q.1, q.2.mono e⟩
theorem RelF.look {ρ : List Addr} {H : Hp} {f : Str} : ∀ {fs : List (Str × U)} {vfs : List (Str × V)}, RelF K ρ H fs vfs → (∀ u, fs.lookup f = some u → ∃ v, vfs.lookup f = some v ∧ RelU K ρ H u v) ∧ (fs.lookup f = none → vfs.lookup f = none)
  | [], _, .nil => ⟨fun u e => by simp at e, fun _ => rfl⟩
  | (g, u) :: fs, (g', v) :: vfs, .cons q r => by
    obtain ⟨rfl, h1⟩ := q
    have ih := RelF.look (f := f) r
    by_cases hg : f == g
    · constructor
      · intro w e
        simp only [List.lookup_cons, hg] at e ⊢
        cases e
        exact ⟨v, rfl, h1⟩
      · intro e
        simp only [List.lookup_cons, hg] at e
        cases e
    · have hg' : (f == g) = false := by simpa using hg
      constructor
      · intro w e
        simp only [List.lookup_cons, hg'] at e ⊢
        exact ih.1 w e
      · intro e
        simp only [List.lookup_cons, hg'] at e ⊢
        exact ih.2 e
theorem RelF.length {ρ : List Addr} {H : Hp} {fs : List (Str × U)} {vfs : List (Str × V)} (h : RelF K ρ H fs vfs) : fs.length = vfs.length := Paired.length h
theorem RelF.put {ρ : List Addr} {H : Hp} {f : Str} {u : U} {v : V} (hu : RelU K ρ H u v) : ∀ {fs : List (Str × U)} {vfs : List (Str × V)}, RelF K ρ H fs vfs → RelF K ρ H (putU f u fs) (L2.putF f v vfs)
  | [], _, .nil => .cons ⟨rfl, hu⟩ .nil
  | (g, w) :: fs, (g', x) :: vfs, .cons q r => by
    obtain ⟨rfl, h1⟩ := q
    unfold putU L2.putF
    by_cases hg : g = f
    · rw [if_pos hg, if_pos hg]
      exact .cons ⟨hg.symm, hu⟩ r
    · rw [if_neg hg, if_neg hg]
      exact .cons ⟨rfl, h1⟩ (RelF.put hu r)

/-- a list that is read only -/
def FroL (K : PySem.W.Frag) (H : Hp) (a : Addr) (vs : List V) : Prop := (∃ o, H a = some (.frz o (.lst vs))) ∨
  ∃ (o : Obj) (its : Array Value) (n : Nat), K.lookup a = some o ∧ o.cls = .type "list" ∧ o.dict = none ∧ o.data = .seq its n ∧ its.size ≤ sizeLine ∧ Vals vs its.toList
theorem FroL.sql {K : PySem.W.Frag} {H : Hp} {a : Addr} {vs : List V} (h : FroL K H a vs) : SqL K H a vs := by
  rcases h with ⟨o, h⟩ | h
  · exact .inl (.inr ⟨o, h⟩)
  · exact .inr h
theorem FroL.ext {K : PySem.W.Frag} {ρ ρ' : List Addr} {H H' : Hp} (e : Ext ρ H ρ' H') {a : Addr} {vs : List V} (h : FroL K H a vs) : FroL K H' a vs := by
  rcases h with ⟨o, h⟩ | h
  · exact .inl ⟨o, e.imm _ _ h trivial⟩
  · exact .inr h
def isFro : Cel → Bool
  | .fro _ => true
  | _ => false
def CelOk (K : PySem.W.Frag) (mg : Str → Option Value) (ρ : List Addr) (H : Hp) (a : Addr) : Cel → Prop
  | .lst us => ∃ vs, H a = some (.lst vs) ∧ RelUs K ρ H us vs
  | .fro us => ∃ vs, FroL K H a vs ∧ RelUs K ρ H us vs
  | .ins C fs => ∃ Ca dx vfs, mg C = some (.ref Ca) ∧ H a = some (.ins Ca dx vfs) ∧ RelF K ρ H fs vfs
  | .dic kvs => ∃ vkvs, H a = some (.dK vkvs) ∧ Paired (fun (p : Key × U) (q : Key × V) => p.1 = q.1 ∧ RelU K ρ H p.2 q.2) kvs vkvs
theorem CelOk.there {ρ : List Addr} {H : Hp} {a : Addr} {c : Cel} (h : CelOk K mg ρ H a c) (hf : isFro c = false) : ∃ o, H a = some o := by
  cases c with
  | lst us => obtain ⟨vs, e, _⟩ := h; exact ⟨_, e⟩
  | fro us => cases hf
  | ins C fs => obtain ⟨_, _, _, _, e, _⟩ := h; exact ⟨_, e⟩
  | dic kvs => obtain ⟨_, e, _⟩ := h; exact ⟨_, e⟩
theorem CelOk.keep {ρ ρ' : List Addr} {H H' : Hp} (e : Ext ρ H ρ' H') {a : Addr} {c : Cel} (h : CelOk K mg ρ H a c) (k : isFro c = false → ∀ o, H a = some o → H' a = some o) : CelOk K mg ρ' H' a c := by
  cases c with
  | lst us => obtain ⟨vs, q, r⟩ := h; exact ⟨vs, k rfl _ q, r.mono e⟩
  | fro us => obtain ⟨vs, q, r⟩ := h; exact ⟨vs, q.ext e, r.mono e⟩
  | ins C fs => obtain ⟨Ca, dx, vfs, m, q, r⟩ := h; exact ⟨Ca, dx, vfs, m, k rfl _ q, r.mono e⟩
  | dic kvs => obtain ⟨vk, q, r⟩ := h; exact ⟨vk, k rfl _ q, L2.Paired.mapP r fun _ _ z => ⟨z.1, z.2.mono e⟩⟩

structure Wok (K : PySem.W.Frag) (mg : Str → Option Value) (ρ : List Addr) (S : Sto) (H : Hp) : Prop where
  len : ρ.length = S.length
  nd : ∀ (m n : Nat) (a : Addr) (c c' : Cel), ρ[m]? = some a → ρ[n]? = some a → S[m]? = some c → S[n]? = some c' → isFro c = false → isFro c' = false → m = n
  ok : ∀ (n : Nat) (a : Addr) (c : Cel), ρ[n]? = some a → S[n]? = some c → CelOk K mg ρ H a c
theorem Wok.cel {ρ : List Addr} {S : Sto} {H : Hp} (w : Wok K mg ρ S H) {n : Nat} {c : Cel} (h : S[n]? = some c) : ∃ a, ρ[n]? = some a ∧ CelOk K mg ρ H a c := by
  have hn : n < S.length := (List.getElem?_eq_some_iff.mp h).1
  have hr : n < ρ.length := by rw [w.len]; exact hn
  exact ⟨ρ[n], List.getElem?_eq_getElem hr, w.ok n _ c (List.getElem?_eq_getElem hr) h⟩
theorem Wok.at_ {ρ : List Addr} {S : Sto} {H : Hp} (w : Wok K mg ρ S H) {n : Nat} {a : Addr} {c : Cel} (h : S[n]? = some c) (ha : ρ[n]? = some a) : CelOk K mg ρ H a c := w.ok n a c ha h
/-- the heap grows by what is not the store's -/
theorem Wok.grow {ρ : List Addr} {S : Sto} {H H' : Hp} (w : Wok K mg ρ S H) (k : ∀ a o, H a = some o → H' a = some o) : Wok K mg ρ S H' :=
  ⟨w.len, w.nd, fun n a c h1 h2 => (w.ok n a c h1 h2).keep ⟨⟨[], by simp⟩, fun a o h _ => k a o h⟩ fun _ o h => k a o h⟩
theorem Ext.grow {ρ : List Addr} {H H' : Hp} (k : ∀ a o, H a = some o → H' a = some o) : Ext ρ H ρ H' := ⟨⟨[], by simp⟩, fun a o h _ => k a o h⟩
theorem upd_grow {H : Hp} {p : Addr} {o : HO} (h : H p = none) : ∀ a u, H a = some u → upd H p o a = some u := fun a u e => by
  rw [upd_ne (ne_of_none e h)]
  exact e
/-- a new thing in the store -/
theorem Ext.push {ρ : List Addr} {H H' : Hp} {p : Addr} (k : ∀ a o, H a = some o → H' a = some o) : Ext ρ H (ρ ++ [p]) H' := ⟨⟨[p], rfl⟩, fun a o h _ => k a o h⟩
theorem Wok.push {ρ : List Addr} {S : Sto} {H H' : Hp} {p : Addr} {c : Cel} (w : Wok K mg ρ S H) (hp : H p = none) (k : ∀ a o, H a = some o → H' a = some o) (hc : CelOk K mg (ρ ++ [p]) H' p c) : Wok K mg (ρ ++ [p]) (S ++ [c]) H' := by
  have old : ∀ {n : Nat} {a : Addr}, (ρ ++ [p])[n]? = some a → n < S.length → ρ[n]? = some a := fun {n a} h hn => by
    rw [List.getElem?_append_left (by rw [w.len]; exact hn)] at h
    exact h
  have oldS : ∀ {n : Nat} {d : Cel}, (S ++ [c])[n]? = some d → n < S.length → S[n]? = some d := fun {n d} h hn => by
    rw [List.getElem?_append_left hn] at h
    exact h
  have last : ∀ {n : Nat} {a : Addr}, (ρ ++ [p])[n]? = some a → ¬ n < S.length → n = S.length ∧ a = p := fun {n a} h hn => by
    have e : n = ρ.length := by
      have := (List.getElem?_eq_some_iff.mp h).1
      simp at this
      have := w.len
      omega
    subst e
    rw [List.getElem?_append_right (Nat.le_refl _)] at h
    simp at h
    exact ⟨w.len, h.symm⟩
  have fresh : ∀ {n : Nat} {d : Cel}, ρ[n]? = some p → S[n]? = some d → isFro d = false → False := fun {n d} h1 h2 h3 => by
    obtain ⟨o, e⟩ := (w.ok n p d h1 h2).there h3
    rw [hp] at e
    cases e
  refine ⟨by simp [w.len], fun m n a d d' h1 h2 h3 h4 f1 f2 => ?_, fun n a d h1 h2 => ?_⟩
  · by_cases hm : m < S.length
    · by_cases hn : n < S.length
      · exact w.nd m n a d d' (old h1 hm) (old h2 hn) (oldS h3 hm) (oldS h4 hn) f1 f2
      · obtain ⟨_, rfl⟩ := last h2 hn
        exact (fresh (old h1 hm) (oldS h3 hm) f1).elim
    · obtain ⟨e1, rfl⟩ := last h1 hm
      by_cases hn : n < S.length
      · exact (fresh (old h2 hn) (oldS h4 hn) f2).elim
      · obtain ⟨e2, _⟩ := last h2 hn
        rw [e1, e2]
  · by_cases hn : n < S.length
    · exact (w.ok n a d (old h1 hn) (oldS h2 hn)).keep (Ext.push k) fun _ o h => k a o h
    · obtain ⟨e, rfl⟩ := last h1 hn
      subst e
      rw [List.getElem?_append_right (Nat.le_refl _)] at h2
      simp at h2
      subst h2
      exact hc
theorem push_at {ρ : List Addr} {p : Addr} {S : Sto} (h : ρ.length = S.length) : (ρ ++ [p])[S.length]? = some p := by
  rw [← h]
  simp
/-- a thing of the store is written -/
theorem Ext.write {ρ : List Addr} {H : Hp} {a : Addr} {o : HO} (hm : ∀ u, H a = some u → ¬ Imm u) : Ext ρ H ρ (upd H a o) := ⟨⟨[], by simp⟩, fun b u h i => by
  by_cases hb : b = a
  · subst hb
    exact absurd i (hm u h)
  · rw [upd_ne hb]
    exact h⟩
theorem Wok.write {ρ : List Addr} {S : Sto} {H : Hp} {n : Nat} {a : Addr} {o : HO} {c c0 : Cel} (w : Wok K mg ρ S H) (hn : ρ[n]? = some a) (h0 : S[n]? = some c0) (f0 : isFro c0 = false) (f1 : isFro c = false) (hm : ∀ u, H a = some u → ¬ Imm u) (hc : CelOk K mg ρ (upd H a o) a c) : Wok K mg ρ (S.set n c) (upd H a o) := by
  have hl : n < S.length := (List.getElem?_eq_some_iff.mp h0).1
  have look : ∀ {m : Nat} {d : Cel}, (S.set n c)[m]? = some d → (m = n ∧ d = c) ∨ (m ≠ n ∧ S[m]? = some d) := fun {m d} h => by
    by_cases e : m = n
    · subst e
      rw [List.getElem?_set_self hl] at h
      exact .inl ⟨rfl, (Option.some.inj h).symm⟩
    · rw [List.getElem?_set_ne (Ne.symm e)] at h
      exact .inr ⟨e, h⟩
  refine ⟨by simp [w.len], fun m k b d d' h1 h2 h3 h4 g1 g2 => ?_, fun m b d h1 h2 => ?_⟩
  · rcases look h3 with ⟨e3, _⟩ | ⟨e3, h5⟩
    · rcases look h4 with ⟨e4, _⟩ | ⟨e4, h6⟩
      · rw [e3, e4]
      · rw [e3] at h1 ⊢
        exact w.nd _ _ b c0 d' h1 h2 h0 h6 f0 g2
    · rcases look h4 with ⟨e4, _⟩ | ⟨e4, h6⟩
      · rw [e4] at h2 ⊢
        exact w.nd _ _ b d c0 h1 h2 h5 h0 g1 f0
      · exact w.nd _ _ b d d' h1 h2 h5 h6 g1 g2
  · rcases look h2 with ⟨rfl, rfl⟩ | ⟨e, h2⟩
    · rw [hn] at h1
      cases h1
      exact hc
    · refine (w.ok m b d h1 h2).keep (Ext.write hm) fun f u q => ?_
      have hb : b ≠ a := fun z => by
        subst z
        exact e (w.nd m n b d c0 h1 hn h2 h0 f f0)
      rw [upd_ne hb]
      exact q

/-! ### the def's names -/
structure EnvOk (K : PySem.W.Frag) (ρ : List Addr) (H : Hp) (env : Env) (σ : L2.St) : Prop where
  len : env.length = σ.length
  ok : ∀ (i : Nat) (u : U), env[i]? = some (some u) → ∃ v : V, σ[i]? = some (some v) ∧ RelU K ρ H u v
theorem EnvOk.mono {ρ ρ' : List Addr} {H H' : Hp} {env : Env} {σ : L2.St} (e : Ext ρ H ρ' H') (h : EnvOk K ρ H env σ) : EnvOk K ρ' H' env σ :=
  ⟨h.len, fun i u q => let ⟨v, a, b⟩ := h.ok i u q; ⟨v, a, b.mono e⟩⟩
theorem EnvOk.set {ρ : List Addr} {H : Hp} {env : Env} {σ : L2.St} (h : EnvOk K ρ H env σ) (i : Nat) {u : U} {v : V} (r : RelU K ρ H u v) : EnvOk K ρ H (env.set i (some u)) (σ.set i (some v)) := by
  refine ⟨by simp [h.len], fun j w q => ?_⟩
  by_cases hj : j = i
  · subst hj
    have hl : j < env.length := by
      have := (List.getElem?_eq_some_iff.mp q).1
      simpa using this
    rw [List.getElem?_set_self hl] at q
    cases q
    exact ⟨v, List.getElem?_set_self (by rw [← h.len]; exact hl), r⟩
  · rw [List.getElem?_set_ne (Ne.symm hj)] at q
    obtain ⟨x, a, b⟩ := h.ok j w q
    exact ⟨x, by rw [List.getElem?_set_ne (Ne.symm hj)]; exact a, b⟩
theorem EnvOk.setNone {ρ : List Addr} {H : Hp} {env : Env} {σ : L2.St} (h : EnvOk K ρ H env σ) (i : Nat) : EnvOk K ρ H (env.set i none) (σ.set i none) := by
  refine ⟨by simp [h.len], fun j w q => ?_⟩
  by_cases hj : j = i
  · subst hj
    have hl : j < env.length := by
      have := (List.getElem?_eq_some_iff.mp q).1
      simpa using this
    rw [List.getElem?_set_self hl] at q
    cases q
  · rw [List.getElem?_set_ne (Ne.symm hj)] at q
    obtain ⟨x, a, b⟩ := h.ok j w q
    exact ⟨x, by rw [List.getElem?_set_ne (Ne.symm hj)]; exact a, b⟩
theorem EnvOk.wipe {ρ : List Addr} {H : Hp} {env : Env} {σ : L2.St} (h : EnvOk K ρ H env σ) : ∀ is : List Nat, EnvOk K ρ H (wipeE env is) (L2.wipe σ is)
  | [] => h
  | i :: is => (EnvOk.wipe h is).setNone i

/-! ### what is wanted of an end -/
def Post {α β : Type} (mg : Str → Option Value) (K : PySem.W.Frag) (Rr : List Addr → Hp → α → β → Prop) (W : XK) (ρ : List Addr) (H : Hp) (r : R α) (Q : β → Hp → Prop) : Prop :=
  match r with
  | .ok a S => ∀ ρ' H' b, Ext ρ H ρ' H' → Wok K mg ρ' S H' → Rr ρ' H' a b → Q b H'
  | .exc c fs S => ∀ ρ' H' C d vfs, Ext ρ H ρ' H' → Wok K mg ρ' S H' → mg c = some (.ref C) → H' d = some (.xd vfs) → RelF K ρ' H' fs vfs → W (.ref C) (some d) H'
  | .bad => False
theorem Post.ext {α β : Type} {Rr : List Addr → Hp → α → β → Prop} {W : XK} {ρ ρ1 : List Addr} {H H1 : Hp} {r : R α} {Q : β → Hp → Prop} (e : Ext ρ H ρ1 H1) (h : Post mg K Rr W ρ H r Q) : Post mg K Rr W ρ1 H1 r Q := by
  cases r with
  | ok a S => exact fun ρ' H' b e' w r => h ρ' H' b (e.trans e') w r
  | exc c fs S => exact fun ρ' H' C d vfs e' w m x r => h ρ' H' C d vfs (e.trans e') w m x r
  | bad => exact h
theorem Post.imp {α β : Type} {Rr : List Addr → Hp → α → β → Prop} {W : XK} {ρ : List Addr} {H : Hp} {r : R α} {Q Q' : β → Hp → Prop} (h : Post mg K Rr W ρ H r Q) (i : ∀ b H, Q b H → Q' b H) : Post mg K Rr W ρ H r Q' := by
  cases r with
  | ok a S => exact fun ρ' H' b e' w r => i _ _ (h ρ' H' b e' w r)
  | exc c fs S => exact h
  | bad => exact h
/-- one after another -/
theorem Post.bind {α β γ δ : Type} {Rr : List Addr → Hp → α → γ → Prop} {Rs : List Addr → Hp → β → δ → Prop} {W : XK} {ρ : List Addr} {H : Hp} {r : R α} {f : α → Sto → R β} {Q : δ → Hp → Prop} (h : Post mg K Rs W ρ H (r.bind f) Q) :
    Post mg K Rr W ρ H r fun b H1 => ∃ ρ1 S1 a, Ext ρ H ρ1 H1 ∧ Wok K mg ρ1 S1 H1 ∧ Rr ρ1 H1 a b ∧ Post mg K Rs W ρ1 H1 (f a S1) Q := by
  cases r with
  | ok a S => exact fun ρ' H' b e w r => ⟨ρ', S, a, e, w, r, Post.ext e h⟩
  | exc c fs S => exact h
  | bad => exact h
end
end Oz

end

section
set_option maxHeartbeats 4000000
/-! Oz4: operators by values. -/
namespace Oz
open PySem PySem.Spec PyProof.Rows L2
section
variable {X : Cx} {W : XK}
/-- two values, then what f says -/
def r2 (X : Cx) (W : XK) (f : U → U → Sto → R U) : R2 := fun x y H Q => ∃ ρ S a b, Wok X.K X.mg ρ S H ∧ RelU X.K ρ H a x ∧ RelU X.K ρ H b y ∧ Post X.mg X.K (RelU X.K) W ρ H (f a b S) Q
theorem relInt {K : PySem.W.Frag} {ρ : List Addr} {H : Hp} {i : Int} : RelU K ρ H (.int i) (.int i) := by simp [RelU]
theorem relStr {K : PySem.W.Frag} {ρ : List Addr} {H : Hp} {i : Str} : RelU K ρ H (.str i) (.str i) := by simp [RelU]
theorem relBl {K : PySem.W.Frag} {ρ : List Addr} {H : Hp} {i : Bool} : RelU K ρ H (.bl i) (.bl i) := by simp [RelU]
theorem relNon {K : PySem.W.Frag} {ρ : List Addr} {H : Hp} : RelU K ρ H .non .non := by simp [RelU]
/-- the same store, a plain value -/
theorem Post.here {α β : Type} {K : PySem.W.Frag} {mg : Str → Option Value} {Rr : List Addr → Hp → α → β → Prop} {ρ : List Addr} {S : Sto} {H : Hp} {a : α} {b : β} {Q : β → Hp → Prop} (h : Post mg K Rr W ρ H (.ok a S) Q) (w : Wok K mg ρ S H) (r : Rr ρ H a b) : Q b H := h ρ H b Ext.refl w r
/-- a new tuple -/
theorem Post.tup {K : PySem.W.Frag} {mg : Str → Option Value} {ρ : List Addr} {S : Sto} {H : Hp} {us : List U} {vs : List V} {Q : VK} (h : Post mg K (RelU K) W ρ H (.ok (.tup us) S) Q) (w : Wok K mg ρ S H) (r : RelUs K ρ H us vs) {p : Addr} (hp : H p = none) : Q (.ref p) (upd H p (.tup vs)) := by
  have e : Ext ρ H ρ (upd H p (.tup vs)) := Ext.grow (upd_grow hp)
  refine h ρ _ _ e (w.grow (upd_grow hp)) ?_
  simp only [RelU]
  exact ⟨p, vs, rfl, .of upd_same, r.mono e⟩
/-- a new list -/
theorem Post.lst {K : PySem.W.Frag} {mg : Str → Option Value} {ρ : List Addr} {S : Sto} {H : Hp} {us : List U} {vs : List V} {Q : VK} (h : Post mg K (RelU K) W ρ H (.ok (.loc S.length) (S ++ [.lst us])) Q) (w : Wok K mg ρ S H) (r : RelUs K ρ H us vs) {p : Addr} (hp : H p = none) : Q (.ref p) (upd H p (.lst vs)) := by
  have e : Ext ρ H (ρ ++ [p]) (upd H p (.lst vs)) := Ext.push (upd_grow hp)
  refine h (ρ ++ [p]) _ _ e (w.push hp (upd_grow hp) ⟨vs, upd_same, r.mono e⟩) ?_
  simp only [RelU]
  exact ⟨p, rfl, push_at w.len⟩
theorem RelU.tup {K : PySem.W.Frag} {ρ : List Addr} {H : Hp} {us : List U} {v : V} (h : RelU K ρ H (.tup us) v) : ∃ a vs, v = .ref a ∧ SqT K H a vs ∧ RelUs K ρ H us vs := by simpa [RelU] using h
theorem RelU.loc {K : PySem.W.Frag} {ρ : List Addr} {H : Hp} {n : Nat} {v : V} (h : RelU K ρ H (.loc n) v) : ∃ a, v = .ref a ∧ ρ[n]? = some a := by simpa [RelU] using h
theorem RelU.int {K : PySem.W.Frag} {ρ : List Addr} {H : Hp} {n : Int} {v : V} (h : RelU K ρ H (.int n) v) : v = .int n := by simpa [RelU] using h
theorem RelU.str {K : PySem.W.Frag} {ρ : List Addr} {H : Hp} {n : Str} {v : V} (h : RelU K ρ H (.str n) v) : v = .str n := by simpa [RelU] using h
theorem RelU.bl {K : PySem.W.Frag} {ρ : List Addr} {H : Hp} {n : Bool} {v : V} (h : RelU K ρ H (.bl n) v) : v = .bl n := by simpa [RelU] using h
theorem RelU.non {K : PySem.W.Frag} {ρ : List Addr} {H : Hp} {v : V} (h : RelU K ρ H .non v) : v = .non := by simpa [RelU] using h
/-- a list that is read -/
theorem Wok.list {K : PySem.W.Frag} {mg : Str → Option Value} {ρ : List Addr} {S : Sto} {H : Hp} (w : Wok K mg ρ S H) {u : U} {us : List U} {v : V} (h : list? S u = some us) (r : RelU K ρ H u v) : ∃ a vs, v = .ref a ∧ SqL K H a vs ∧ RelUs K ρ H us vs := by
  unfold list? at h
  split at h
  · rename_i n
    obtain ⟨a, rfl, hn⟩ := r.loc
    split at h
    · rename_i xs hx
      cases h
      obtain ⟨vs, e, q⟩ := w.at_ hx hn
      exact ⟨a, vs, rfl, .of e, q⟩
    · rename_i xs hx
      cases h
      obtain ⟨vs, e, q⟩ := w.at_ hx hn
      exact ⟨a, vs, rfl, e.sql, q⟩
    · cases h
  · cases h
theorem list_items {S : Sto} {u : U} {us : List U} (h : items? S u = some us) : u = .tup us ∨ list? S u = some us := by
  unfold items? at h
  split at h
  · cases h; exact .inl rfl
  · exact .inr h
  · cases h
theorem Wok.items {K : PySem.W.Frag} {mg : Str → Option Value} {ρ : List Addr} {S : Sto} {H : Hp} (w : Wok K mg ρ S H) {u : U} {us : List U} {v : V} (h : items? S u = some us) (r : RelU K ρ H u v) : ∃ a vs, v = .ref a ∧ (SqL K H a vs ∨ SqT K H a vs) ∧ RelUs K ρ H us vs := by
  rcases list_items h with rfl | h
  · obtain ⟨a, vs, e, q, z⟩ := r.tup
    exact ⟨a, vs, e, .inr q, z⟩
  · obtain ⟨a, vs, e, q, z⟩ := w.list h r
    exact ⟨a, vs, e, .inl q, z⟩

def opOf : Op → Operator
  | .add => .Add | .sub => .Sub | .mul => .Mult | .fdiv => .FloorDiv | .mod => .Mod | .pow => .Pow | .shl => .LShift
theorem op_mul_str : OpR X (binaryOp .Mult) (fun x y H Q => ∃ z n, x = .str z ∧ y = .int n ∧ PySem.MulOk z n ∧ Q (.str (PySem.Txt.mul z n)) H) := by
  rintro pins s σ H x y v u Q I rx ry ⟨z, n, rfl, rfl, ok, q⟩
  obtain ⟨t, rfl⟩ := rx
  obtain ⟨t', rfl⟩ := ry
  exact PySem.SB.mul ok fun t2 k => ⟨.str _, H, I.tok _, ⟨_, rfl⟩, q⟩
theorem op_bin (o : Op) : OpR X (binaryOp (opOf o)) (r2 X W (binU o)) := by
  rintro pins s σ H x y v u Q I rx ry ⟨ρ, S, a, b, w, ra, rb, h⟩
  unfold binU at h
  split at h
  · cases ra.int; cases rb.int
    exact op_add pins s σ H _ _ v u Q I rx ry ⟨_, _, rfl, rfl, h.here w relInt⟩
  · cases ra.str; cases rb.str
    split at h
    · rename_i hz
      exact op_add_str pins s σ H _ _ v u Q I rx ry ⟨_, _, rfl, rfl, hz, h.here w relStr⟩
    · cases h
  · obtain ⟨p, vs, rfl, hp, hr⟩ := ra.tup
    obtain ⟨q, ws, rfl, hq, hs⟩ := rb.tup
    split at h
    · rename_i xs ys hz
      refine op_catA pins s σ H _ _ v u Q I rx ry ⟨p, q, vs, ws, rfl, rfl, hp, hq, by rw [hr.length, hs.length]; exact hz, fun e => ?_, fun e1 e2 => ?_, fun e1 e2 a ha => ?_⟩
      · have e' : xs = [] := by
          have := hr.length
          rw [e] at this
          exact List.length_eq_zero_iff.mp this.symm
        subst e'
        exact h.here w (by simp only [RelU]; exact ⟨q, ws, rfl, hq, by simpa using hs⟩)
      · have e' : ys = [] := by
          have := hs.length
          rw [e2] at this
          exact List.length_eq_zero_iff.mp this.symm
        subst e'
        exact h.here w (by simp only [RelU]; exact ⟨p, vs, rfl, hp, by simpa using hr⟩)
      · exact h.tup w (hr.append hs) ha
    · cases h
  · split at h
    · rename_i m n _ _ xs ys hx hy
      split at h
      · rename_i hz
        obtain ⟨a, rfl, ha⟩ := ra.loc
        obtain ⟨b, rfl, hb⟩ := rb.loc
        obtain ⟨vs, e1, q1⟩ := w.at_ hx ha
        obtain ⟨ws, e2, q2⟩ := w.at_ hy hb
        exact op_cat pins s σ H _ _ v u Q I rx ry ⟨a, b, vs, ws, rfl, rfl, e1, e2, by rw [q1.length, q2.length]; exact hz, fun p hp => h.lst w (q1.append q2) hp⟩
      · cases h
    · cases h
  · cases ra.int; cases rb.int
    exact op_sub pins s σ H _ _ v u Q I rx ry ⟨_, _, rfl, rfl, h.here w relInt⟩
  · cases ra.int; cases rb.int
    split at h
    · rename_i hz
      exact op_mul pins s σ H _ _ v u Q I rx ry ⟨_, _, rfl, rfl, hz, h.here w relInt⟩
    · cases h
  · cases ra.str; cases rb.int
    split at h
    · rename_i hz
      exact op_mul_str pins s σ H _ _ v u Q I rx ry ⟨_, _, rfl, rfl, hz, h.here w relStr⟩
    · cases h
  · cases ra.int; cases rb.int
    split at h
    · rename_i hz
      exact op_fdiv pins s σ H _ _ v u Q I rx ry ⟨_, _, rfl, rfl, hz, h.here w relInt⟩
    · cases h
  · cases ra.int; cases rb.int
    split at h
    · rename_i hz
      exact op_mod pins s σ H _ _ v u Q I rx ry ⟨_, _, rfl, rfl, hz, h.here w relInt⟩
    · cases h
  · cases ra.int; cases rb.int
    split at h
    · rename_i hz
      exact op_pow pins s σ H _ _ v u Q I rx ry ⟨_, _, rfl, rfl, hz, h.here w relInt⟩
    · cases h
  · cases ra.int; cases rb.int
    split at h
    · rename_i hz
      exact op_shl pins s σ H _ _ v u Q I rx ry ⟨_, _, rfl, rfl, hz, h.here w relInt⟩
    · cases h
  · cases h

/-! ### data for == -/
mutual
theorem dpU {K : PySem.W.Frag} {ρ : List Addr} {H : Hp} : ∀ {u : U} {v : V}, purU u = true → RelU K ρ H u v → Dp K H v (pdU u)
  | .non, v, _, r => by cases r.non; exact .non
  | .bl b, v, _, r => by cases r.bl; exact .bl b
  | .int i, v, _, r => by cases r.int; exact .int i
  | .str x, v, _, r => by cases r.str; exact .str x
  | .tup us, v, h, r => by
    obtain ⟨a, vs, rfl, hs, hr⟩ := r.tup
    exact .tup hs (dpUs (by simpa [purU] using h) hr)
  | .loc n, v, h, _ => by simp [purU] at h
theorem dpUs {K : PySem.W.Frag} {ρ : List Addr} {H : Hp} : ∀ {us : List U} {vs : List V}, purUs us = true → RelUs K ρ H us vs → DpAll K H vs (pdUs us)
  | [], vs, _, r => by simp only [RelUs] at r; subst r; exact .nil
  | u :: us, vs, h, r => by
    simp only [RelUs] at r
    obtain ⟨v, vs', rfl, h1, h2⟩ := r
    simp only [purUs, Bool.and_eq_true] at h
    exact .cons (dpU h.1 h1) (dpUs h.2 h2)
end
theorem okU_pur {u : U} (h : okU u = true) : purU u = true := by unfold okU at h; rw [Bool.and_eq_true] at h; exact h.1
theorem okU_shp {u : U} (h : okU u = true) : SeqAt.shaped (pdU u) = true := by unfold okU at h; rw [Bool.and_eq_true] at h; exact h.2
theorem okUs_pur {u : List U} (h : okUs u = true) : purUs u = true := by unfold okUs at h; rw [Bool.and_eq_true] at h; exact h.1
theorem okUs_shp {u : List U} (h : okUs u = true) : SeqAt.shaped (.list (pdUs u)) = true := by unfold okUs at h; rw [Bool.and_eq_true] at h; exact h.2
def rK (X : Cx) (f : U → U → Sto → Option Bool) (neg : Bool) : R2 := fun x y H Q => ∃ ρ S a b k, Wok X.K X.mg ρ S H ∧ RelU X.K ρ H a x ∧ RelU X.K ρ H b y ∧ f a b S = some k ∧ Q (.bl (if neg then !k else k)) H
theorem op_eqR (hu : X.A.units + 64 < cLine) (neg : Bool) : OpR X (compareOp (if neg then .NotEq else .Eq)) (rK X eqR neg) := by
  rintro pins s σ H x y v u Q I rx ry ⟨ρ, S, a, b, k, w, ra, rb, e, q⟩
  unfold eqR at e
  split at e
  · cases ra.int; cases rb.int; cases e
    cases neg
    · exact op_eq pins s σ H _ _ v u Q I rx ry ⟨rfl, by simpa using q⟩
    · exact op_ne pins s σ H _ _ v u Q I rx ry ⟨rfl, by simpa using q⟩
  · cases ra.str; cases rb.str; cases e
    cases neg
    · exact op_eq pins s σ H _ _ v u Q I rx ry ⟨rfl, by simpa using q⟩
    · exact op_ne pins s σ H _ _ v u Q I rx ry ⟨rfl, by simpa using q⟩
  · split at e
    · rename_i xs ys hx hy
      split at e
      · rename_i hz
        cases e
        rw [Bool.and_eq_true] at hz
        obtain ⟨a, vs, rfl, h1, r1⟩ := w.list hx ra
        obtain ⟨b, ws, rfl, h2, r2⟩ := w.list hy rb
        have d1 := dpUs (okUs_pur hz.1) r1
        have d2 := dpUs (okUs_pur hz.2) r2
        have ee : PyData.eqv (.list (pdUs xs)) (.list (pdUs ys)) = eqUs xs ys := by
          simp only [PyData.eqv]
          exact eqvs_pd _ _ (okUs_pur hz.1) (okUs_pur hz.2)
        cases neg
        · exact op_eqD hu pins s σ H _ _ v u Q I rx ry ⟨_, _, .lst h1 d1, .lst h2 d2, okUs_shp hz.1, okUs_shp hz.2, by rw [ee]; simpa using q⟩
        · exact op_neD hu pins s σ H _ _ v u Q I rx ry ⟨_, _, .lst h1 d1, .lst h2 d2, okUs_shp hz.1, okUs_shp hz.2, by rw [ee]; simpa using q⟩
      · cases e
    · cases e
  · split at e
    · rename_i hz
      cases e
      rw [Bool.and_eq_true] at hz
      have d1 := dpU (okU_pur hz.1) ra
      have d2 := dpU (okU_pur hz.2) rb
      have ee := eqv_pd _ _ (okU_pur hz.1) (okU_pur hz.2)
      cases neg
      · exact op_eqD hu pins s σ H _ _ v u Q I rx ry ⟨_, _, d1, d2, okU_shp hz.1, okU_shp hz.2, by rw [ee]; simpa using q⟩
      · exact op_neD hu pins s σ H _ _ v u Q I rx ry ⟨_, _, d1, d2, okU_shp hz.1, okU_shp hz.2, by rw [ee]; simpa using q⟩
    · cases e
theorem flat_rel {K : PySem.W.Frag} {ρ : List Addr} {H : Hp} {u : U} {v : V} (f : flatU u = true) (r : RelU K ρ H u v) : flatV v = true := by
  cases u with
  | non => cases r.non; rfl
  | bl b => cases r.bl; rfl
  | int b => cases r.int; rfl
  | str b => cases r.str; rfl
  | tup b => cases f
  | loc b => cases f
theorem flat_all {K : PySem.W.Frag} {ρ : List Addr} {H : Hp} : ∀ {us : List U} {vs : List V}, us.all flatU = true → RelUs K ρ H us vs → vs.all flatV = true
  | [], vs, _, r => by simp only [RelUs] at r; subst r; rfl
  | u :: us, vs, h, r => by
    simp only [RelUs] at r
    obtain ⟨v, vs', rfl, h1, h2⟩ := r
    simp only [List.all_cons, Bool.and_eq_true] at h ⊢
    exact ⟨flat_rel h.1 h1, flat_all h.2 h2⟩
theorem eqV_rel {K : PySem.W.Frag} {ρ : List Addr} {H : Hp} {u u' : U} {v v' : V} (f : flatU u = true) (f' : flatU u' = true) (r : RelU K ρ H u v) (r' : RelU K ρ H u' v') : eqV v v' = eqU u u' := by
  cases u <;> cases f <;> cases u' <;> cases f' <;> simp only [RelU] at r r' <;> subst r r' <;> simp [eqV, eqU]
theorem inV_rel {K : PySem.W.Frag} {ρ : List Addr} {H : Hp} {u : U} {v : V} (f : flatU u = true) (r : RelU K ρ H u v) : ∀ {us : List U} {vs : List V}, us.all flatU = true → RelUs K ρ H us vs → inV v vs = us.any fun y => eqU y u
  | [], vs, _, q => by simp only [RelUs] at q; subst q; rfl
  | u' :: us, vs, h, q => by
    simp only [RelUs] at q
    obtain ⟨v', vs', rfl, h1, h2⟩ := q
    simp only [List.all_cons, Bool.and_eq_true] at h
    have ih := inV_rel f r h.2 h2
    unfold inV at ih ⊢
    simp only [List.any_cons]
    rw [ih, eqV_rel h.1 f h1 r]
theorem any_pd {u : U} (hu : purU u = true) : ∀ {us : List U}, purUs us = true → ((pdUs us).any fun z => PyData.eqv z (pdU u)) = us.any fun y => eqU y u
  | [], _ => rfl
  | w :: us, h => by
    simp only [purUs, Bool.and_eq_true] at h
    simp only [pdUs, List.any_cons]
    rw [any_pd hu h.2, eqv_pd _ _ h.1 hu]
theorem op_inR (hu : X.A.units + 65 < cLine) (neg : Bool) : OpR X (compareOp (if neg then .NotIn else .In)) (rK X inR neg) := by
  rintro pins s σ H x y v u Q I rx ry ⟨ρ, S, a, b, k, w, ra, rb, e, q⟩
  unfold inR at e
  split at e
  · rename_i x' z'
    cases ra.str; cases rb.str
    split at e
    · rename_i c hc
      cases e
      have hx : x' = ⟨#[c]⟩ := by
        cases x'
        simp only [Str.mk.injEq]
        apply Array.ext'
        exact hc
      subst hx
      cases neg
      · exact op_in_sign pins s σ H _ _ v u Q I rx ry ⟨c, z', rfl, rfl, by simpa using q⟩
      · exact op_notIn_sign pins s σ H _ _ v u Q I rx ry ⟨c, z', rfl, rfl, by simpa using q⟩
    · cases e
  · split at e
    · rename_i xs hx
      obtain ⟨p, vs, rfl, hq, hr⟩ := w.items hx rb
      split at e
      · rename_i hz
        cases e
        rw [Bool.and_eq_true] at hz
        have fx := flat_rel hz.1 ra
        have fs := flat_all hz.2 hr
        have ee := inV_rel hz.1 ra hz.2 hr
        cases neg
        · exact op_in_seq pins s σ H _ _ v u Q I rx ry ⟨p, vs, rfl, hq, fx, fs, by rw [ee]; simpa using q⟩
        · exact op_notIn_seq pins s σ H _ _ v u Q I rx ry ⟨p, vs, rfl, hq, fx, fs, by rw [ee]; simpa using q⟩
      · split at e
        · rename_i ys hy
          split at e
          · rename_i hz
            cases e
            rw [Bool.and_eq_true] at hz
            obtain ⟨p', ws, e', hl, hr'⟩ := w.list hy rb
            have d1 := dpU (okU_pur hz.1) ra
            have d2 : Dp X.K H (V.ref p) (.list (pdUs ys)) := by
              cases e'
              exact .lst hl (dpUs (okUs_pur hz.2) hr')
            have ee := any_pd (okU_pur hz.1) (okUs_pur hz.2)
            cases neg
            · exact op_inD hu pins s σ H _ _ v u Q I rx ry ⟨_, _, d1, d2, okU_shp hz.1, okUs_shp hz.2, by rw [ee]; simpa using q⟩
            · exact op_notInD hu pins s σ H _ _ v u Q I rx ry ⟨_, _, d1, d2, okU_shp hz.1, okUs_shp hz.2, by rw [ee]; simpa using q⟩
          · cases e
        · cases e
    · cases e
def cmOf : Cm → CmpOp
  | .eq => .Eq | .ne => .NotEq | .lt => .Lt | .le => .LtE | .gt => .Gt | .ge => .GtE | .in_ => .In | .notIn => .NotIn | .isN => .Is | .isNotN => .IsNot
theorem decNon {K : PySem.W.Frag} {ρ : List Addr} {H : Hp} {u : U} {v : V} (r : RelU K ρ H u v) : decide (v = V.non) = decide (u = U.non) := by
  cases u with
  | non => cases r.non; simp
  | bl b => cases r.bl; simp
  | int b => cases r.int; simp
  | str b => cases r.str; simp
  | tup b => obtain ⟨_, _, rfl, _⟩ := r.tup; simp
  | loc b => obtain ⟨_, rfl, _⟩ := r.loc; simp
theorem op_isB (neg : Bool) : OpR X (compareOp (if neg then .IsNot else .Is)) (fun x y H Q => ∃ a b, x = .bl a ∧ y = .bl b ∧ Q (.bl (if neg then !(a == b) else (a == b))) H) := by
  rintro pins s σ H x y v u Q I rx ry ⟨a, b, rfl, rfl, q⟩
  cases rx
  cases ry
  have e : (Value.bool a == Value.bool b) = (a == b) := by cases a <;> cases b <;> rfl
  cases neg
  · refine wpAny_is_plain rfl ⟨.bl (a == b), H, I, ?_, q⟩
    rw [e]
    rfl
  · refine wpAny_isNot_plain rfl ⟨.bl (!(a == b)), H, I, ?_, q⟩
    rw [e]
    rfl
theorem op_cmp (hu : X.A.units + 65 < cLine) (o : Cm) : OpR X (compareOp (cmOf o)) (r2 X W (cmpU o)) := by
  rintro pins s σ H x y v u Q I rx ry ⟨ρ, S, a, b, w, ra, rb, h⟩
  unfold cmpU at h
  split at h
  · rename_i k hk
    have q : Q (.bl k) H := h.here w relBl
    cases o with
    | eq => exact op_eqR (by omega) false pins s σ H _ _ v u Q I rx ry ⟨ρ, S, a, b, k, w, ra, rb, hk, q⟩
    | ne =>
      simp only [cmpB, Option.map_eq_some_iff] at hk
      obtain ⟨k', hk, rfl⟩ := hk
      exact op_eqR (by omega) true pins s σ H _ _ v u Q I rx ry ⟨ρ, S, a, b, k', w, ra, rb, hk, q⟩
    | in_ => exact op_inR hu false pins s σ H _ _ v u Q I rx ry ⟨ρ, S, a, b, k, w, ra, rb, hk, q⟩
    | notIn =>
      simp only [cmpB, Option.map_eq_some_iff] at hk
      obtain ⟨k', hk, rfl⟩ := hk
      exact op_inR hu true pins s σ H _ _ v u Q I rx ry ⟨ρ, S, a, b, k', w, ra, rb, hk, q⟩
    | isN =>
      simp only [cmpB] at hk
      split at hk
      · cases hk
        cases rb.non
        exact op_isN pins s σ H _ _ v u Q I rx ry ⟨rfl, by rw [decNon ra]; exact q⟩
      · cases rb.bl
        split at hk
        · cases hk
          cases ra.bl
          exact op_isB false pins s σ H _ _ v u Q I rx ry ⟨_, _, rfl, rfl, q⟩
        · cases hk
      · cases hk
    | isNotN =>
      simp only [cmpB] at hk
      split at hk
      · cases hk
        cases rb.non
        exact op_notN pins s σ H _ _ v u Q I rx ry ⟨rfl, by rw [decNon ra]; exact q⟩
      · cases rb.bl
        split at hk
        · cases hk
          cases ra.bl
          exact op_isB true pins s σ H _ _ v u Q I rx ry ⟨_, _, rfl, rfl, q⟩
        · cases hk
      · cases hk
    | lt =>
      simp only [cmpB] at hk
      split at hk
      · cases hk; cases ra.int; cases rb.int
        exact op_lt pins s σ H _ _ v u Q I rx ry ⟨_, _, rfl, rfl, q⟩
      · cases hk
    | le =>
      simp only [cmpB] at hk
      split at hk
      · cases hk; cases ra.int; cases rb.int
        exact op_le pins s σ H _ _ v u Q I rx ry ⟨_, _, rfl, rfl, q⟩
      · cases hk
    | gt =>
      simp only [cmpB] at hk
      split at hk
      · cases hk; cases ra.int; cases rb.int
        exact op_gt pins s σ H _ _ v u Q I rx ry ⟨_, _, rfl, rfl, q⟩
      · cases hk
    | ge =>
      simp only [cmpB] at hk
      split at hk
      · cases hk; cases ra.int; cases rb.int
        exact op_ge pins s σ H _ _ v u Q I rx ry ⟨_, _, rfl, rfl, q⟩
      · cases hk
  · cases h
/-! ### items, slices -/
theorem at_rel {K : PySem.W.Frag} {ρ : List Addr} {H : Hp} {us : List U} {vs : List V} {j : Int} {u : U} (r : RelUs K ρ H us vs) (h : atI us j = some u) : ∃ v, atI vs j = some v ∧ RelU K ρ H u v := by
  unfold atI at h ⊢
  rw [r.length]
  cases q : ixN us.length j with
  | none => rw [q] at h; cases h
  | some k =>
    rw [q] at h
    obtain ⟨v, e, z⟩ := r.get (i := k) h
    exact ⟨v, e, z⟩
theorem ix_any : IxR X (r2 X W ixU) := by
  rintro value slice pins s σ H x y v u Q I rx ry ⟨ρ, S, a, b, w, ra, rb, h⟩ hs
  unfold ixU at h
  split at h
  · cases ra.str; cases rb.int
    split at h
    · rename_i hz
      split at h
      · rename_i c hc
        exact ix_str value slice pins s σ H _ _ v u Q I rx ry ⟨_, _, c, rfl, rfl, hz, hc, h.here w relStr⟩ hs
      · cases h
    · cases h
  · cases rb.int
    split at h
    · rename_i xs hx
      obtain ⟨p, vs, rfl, hq, hr⟩ := w.items hx ra
      split at h
      · rename_i c hc
        obtain ⟨z, hz, rz⟩ := at_rel hr hc
        rcases hq with hq | hq
        · exact ix_list value slice pins s σ H _ _ v u Q I rx ry ⟨p, vs, _, z, rfl, rfl, hq, hz, h.here w rz⟩ hs
        · exact ix_tup value slice pins s σ H _ _ v u Q I rx ry ⟨p, vs, _, z, rfl, rfl, hq, hz, h.here w rz⟩ hs
      · cases h
    · cases h
  · cases h
def rSl (X : Cx) (W : XK) : V → Option Int → Option Int → Hp → VK → Prop := fun x lo hi H Q => ∃ ρ S a, Wok X.K X.mg ρ S H ∧ RelU X.K ρ H a x ∧ Post X.mg X.K (RelU X.K) W ρ H (slU a lo hi S) Q
theorem sl_any : SlR X (rSl X W) := by
  rintro pins s σ H x v vl vu lo hi sl Q I rx hs pl pu ⟨ρ, S, a, w, ra, h⟩
  unfold slU at h
  split at h
  · cases ra.str
    split at h
    · rename_i hz
      exact sl_str pins s σ H _ v vl vu lo hi sl Q I rx hs pl pu ⟨_, rfl, hz, h.here w relStr⟩
    · cases h
  · rename_i xs
    obtain ⟨p, vs, rfl, hq, hr⟩ := ra.tup
    refine sl_tupA pins s σ H _ v vl vu lo hi sl Q I rx hs pl pu ⟨p, vs, rfl, hq, fun c => ?_, fun c q hq' => ?_⟩
    · refine h.here w ?_
      simp only [RelU]
      refine ⟨p, vs, rfl, hq, ?_⟩
      have e := RelUs.cut lo hi hr
      have e2 : cutV vs lo hi = vs := by
        unfold cutV
        rw [c.1, c.2]
        simp
      rw [e2] at e
      exact e
    · exact h.tup w (hr.cut lo hi) hq'
  · split at h
    · rename_i xs hx
      obtain ⟨p, vs, rfl, hq, hr⟩ := w.list hx ra
      exact sl_list pins s σ H _ v vl vu lo hi sl Q I rx hs pl pu ⟨p, vs, rfl, hq, fun q hq' => h.lst w (hr.cut lo hi) hq'⟩
    · cases h
  · cases h
end
end Oz

end

section
set_option maxHeartbeats 4000000
/-! Oz5: built-in functions, methods, and the rules of expressions. -/
namespace Oz
open PySem PySem.Spec PyProof.Rows L2
section
variable {X : Cx} {W : XK}
/-! ### built-in functions -/
def bfR (X : Cx) (W : XK) (b : Bf) : List V → Hp → VK → Prop := fun vs H Q => ∃ ρ S us, Wok X.K X.mg ρ S H ∧ RelUs X.K ρ H us vs ∧ Post X.mg X.K (RelU X.K) W ρ H (bfU b us S) Q
theorem rel1 {K : PySem.W.Frag} {ρ : List Addr} {H : Hp} {a : U} {vs : List V} (r : RelUs K ρ H [a] vs) : ∃ v, vs = [v] ∧ RelU K ρ H a v := by
  simp only [RelUs] at r
  obtain ⟨v, vs', rfl, h, rfl⟩ := r
  exact ⟨v, rfl, h⟩
theorem rel2 {K : PySem.W.Frag} {ρ : List Addr} {H : Hp} {a b : U} {vs : List V} (r : RelUs K ρ H [a, b] vs) : ∃ v w, vs = [v, w] ∧ RelU K ρ H a v ∧ RelU K ρ H b w := by
  simp only [RelUs] at r
  obtain ⟨v, vs', rfl, h, w, _, rfl, h2, rfl⟩ := r
  exact ⟨v, w, rfl, h, h2⟩
theorem lenV_rel {K : PySem.W.Frag} {mg : Str → Option Value} {ρ : List Addr} {S : Sto} {H : Hp} {a : U} {v : V} {n : Nat} (w : Wok K mg ρ S H) (r : RelU K ρ H a v) (h : lenU a S = some n) : LenV K v H n := by
  unfold lenU at h
  split at h
  · cases r.str
    split at h
    · rename_i hz; cases h; exact ⟨hz, rfl⟩
    · cases h
  · simp only [Option.map_eq_some_iff] at h
    obtain ⟨xs, hx, rfl⟩ := h
    obtain ⟨p, vs, rfl, hq, hr⟩ := w.items hx r
    rcases hq with hq | hq
    · exact .inl ⟨vs, hq, hr.length.symm⟩
    · exact .inr ⟨vs, hq, hr.length.symm⟩
theorem cf_len : CallR X (.builtin "len") (bfR X W .len) := by
  rintro pins s σ H vs us Q I rv ⟨ρ, S, ws, w, rs, h⟩
  replace h : Post X.mg X.K (RelU X.K) W ρ H (lenF ws S) Q := h
  unfold lenF at h
  split at h
  · obtain ⟨v, rfl, ra⟩ := rel1 rs
    split at h
    · rename_i n hn
      exact call_len pins s σ H _ us Q I rv ⟨v, n, rfl, lenV_rel w ra hn, h.here w relInt⟩
    · cases h
  · cases h
theorem cf_abs : CallR X (.builtin "abs") (bfR X W .abs) := by
  rintro pins s σ H vs us Q I rv ⟨ρ, S, ws, w, rs, h⟩
  replace h : Post X.mg X.K (RelU X.K) W ρ H (absF ws S) Q := h
  unfold absF at h
  split at h
  · obtain ⟨v, rfl, ra⟩ := rel1 rs
    cases ra.int
    exact call_abs pins s σ H _ us Q I rv ⟨_, rfl, h.here w relInt⟩
  · cases h
theorem cf_int : CallR X (.type "int") (bfR X W .int) := by
  rintro pins s σ H vs us Q I rv ⟨ρ, S, ws, w, rs, h⟩
  replace h : Post X.mg X.K (RelU X.K) W ρ H (intF ws S) Q := h
  unfold intF at h
  split at h
  · obtain ⟨v, rfl, ra⟩ := rel1 rs
    cases ra.int
    exact call_int1 pins s σ H _ us Q I rv (.inl ⟨_, rfl, h.here w relInt⟩)
  · obtain ⟨v, rfl, ra⟩ := rel1 rs
    cases ra.bl
    exact call_int1 pins s σ H _ us Q I rv (.inr ⟨_, rfl, h.here w relInt⟩)
  · obtain ⟨v, rfl, ra⟩ := rel1 rs
    cases ra.str
    split at h
    · rename_i n hn
      split at h
      · rename_i hz
        exact call_int_str pins s σ H _ us Q I rv ⟨_, n, rfl, hn, hz, h.here w relInt⟩
      · cases h
    · cases h
  · cases h
theorem maxI_ge : ∀ {ns : List Int} {y : Int}, y ∈ ns → y ≤ maxI ns
  | [i], y, h => by simp at h; subst h; exact Int.le_refl _
  | i :: j :: is, y, h => by
    have ih := fun z => @maxI_ge (j :: is) z
    unfold maxI
    rcases List.mem_cons.mp h with rfl | h
    · split <;> omega
    · have := ih y h
      split <;> omega
theorem maxI_mem : ∀ {ns : List Int}, 0 < ns.length → maxI ns ∈ ns
  | [i], _ => by simp [maxI]
  | i :: j :: is, _ => by
    have ih := @maxI_mem (j :: is) (by simp)
    unfold maxI
    split
    · exact List.mem_cons_of_mem _ ih
    · exact List.mem_cons_self
theorem cf_max (hc : X.calm = true) : CallR X (.builtin "max") (bfR X W .max) := by
  rintro pins s σ H vs us Q I rv ⟨ρ, S, ws, w, rs, h⟩
  replace h : Post X.mg X.K (RelU X.K) W ρ H (maxF ws S) Q := h
  unfold maxF at h
  split at h
  · obtain ⟨v, rfl, ra⟩ := rel1 rs
    split at h
    · rename_i ns hns
      split at h
      · rename_i hz
        rw [Option.bind_eq_some_iff] at hns
        obtain ⟨xs, hx, hi⟩ := hns
        obtain ⟨p, vs, rfl, hq, hr⟩ := w.list hx ra
        have e := hr.ints hi
        subst e
        refine cr_max hc pins s σ H _ us Q I rv ⟨p, ns, rfl, hq, hz, fun m hm hle => ?_⟩
        have e1 := maxI_ge hm
        have e2 := hle _ (maxI_mem hz)
        have e3 : m = maxI ns := by omega
        subst e3
        exact h.here w relInt
      · cases h
    · cases h
  · cases h
theorem cf_sum (hc : X.calm = true) : CallR X (.builtin "sum") (bfR X W .sum) := by
  rintro pins s σ H vs us Q I rv ⟨ρ, S, ws, w, rs, h⟩
  replace h : Post X.mg X.K (RelU X.K) W ρ H (sumF ws S) Q := h
  unfold sumF at h
  split at h
  · obtain ⟨v, rfl, ra⟩ := rel1 rs
    split at h
    · rename_i ns hns
      rw [Option.bind_eq_some_iff] at hns
      obtain ⟨xs, hx, hi⟩ := hns
      obtain ⟨p, vs, rfl, hq, hr⟩ := w.list hx ra
      have e := hr.ints hi
      subst e
      exact cr_sum hc pins s σ H _ us Q I rv ⟨p, ns, rfl, hq, h.here w relInt⟩
    · cases h
  · cases h
theorem RelUs.bols {K : PySem.W.Frag} {ρ : List Addr} {H : Hp} : ∀ {us : List U} {ns : List Bool} {vs : List V}, RelUs K ρ H us vs → bolsU us = some ns → vs = ns.map V.bl
  | [], ns, vs, h, e => by
    simp only [RelUs] at h
    simp only [bolsU, Option.some.injEq] at e
    subst e h
    rfl
  | u :: us, ns, vs, h, e => by
    simp only [RelUs] at h
    obtain ⟨v, vs', rfl, h1, h2⟩ := h
    cases u <;> simp only [bolsU] at e <;> try cases e
    rename_i i
    cases q : bolsU us with
    | none => rw [q] at e; cases e
    | some ms =>
      rw [q] at e
      simp only [Option.map_some, Option.some.injEq] at e
      subst e
      have := RelUs.bols h2 q
      simp only [RelU] at h1
      subst h1 this
      rfl
theorem cr_allT (hc : X.calm = true) {pins : List (Addr × Obj)} {s : Shared} {σ : L2.St} {H : Hp} {us : List Value} {Q : VK} {a : Addr} {bs : List Bool} (I : Inv X pins σ H s) (r : Vals [V.ref a] us) (hs : SqT X.K H a (bs.map V.bl)) (q : Q (.bl (bs.all id)) H) :
    wpAny (model X.prog X.w) X.A (call (.builtin "all") us) (EP X pins σ Q) X.xe s := by
  obtain ⟨its, rv, p, _⟩ := I.tuple hs
  rw [Vals.ref1 r]
  have hb := rv.bls
  have ht : s.heap.IsTuple a its.toArray := p
  have hlt : a < s.heap.objs.size := by obtain ⟨_, e, _⟩ := ht; exact Heap.lt_size e
  refine call_all_walk (wpAny_pyIter_tuple ht ?_)
  refine ⟨_, _, _, _, _, _, _, rfl, Walks.tuple (A := X.A.in1) (I.ok.hd hc) _ a (Nat.ne_of_lt hlt) its.toArray, ⟨⟨_, Heap.get?_push_size _ rfl, rfl, rfl⟩, ht.push _⟩, truth_bools hb, fun h' tk hk => ?_⟩
  refine ⟨.bl _, H, I.kept fun b o eo => hk b o (fun hmem => ?_) (Heap.get?_push_of_some _ eo), ?_, q⟩
  · rcases List.mem_cons.mp hmem with e1 | hmem
    · exact absurd (e1 ▸ Heap.lt_size eo) (Nat.lt_irrefl _)
    · cases hmem
  · show Value.bool _ = Value.bool _
    rw [← L2.all_range, hb, List.size_toArray, List.length_map]
theorem cf_all (hc : X.calm = true) : CallR X (.builtin "all") (bfR X W .all) := by
  rintro pins s σ H vs us Q I rv ⟨ρ, S, ws, w, rs, h⟩
  replace h : Post X.mg X.K (RelU X.K) W ρ H (allF ws S) Q := h
  unfold allF at h
  split at h
  · obtain ⟨v, rfl, ra⟩ := rel1 rs
    obtain ⟨p, vs, rfl, hq, hr⟩ := ra.tup
    split at h
    · rename_i ns hi
      have e := hr.bols hi
      subst e
      exact cr_allT hc I rv hq (h.here w relBl)
    · cases h
  · obtain ⟨v, rfl, ra⟩ := rel1 rs
    split at h
    · rename_i ns hns
      rw [Option.bind_eq_some_iff] at hns
      obtain ⟨xs, hx, hi⟩ := hns
      obtain ⟨p, vs, rfl, hq, hr⟩ := w.list hx ra
      have e := hr.bols hi
      subst e
      exact cr_all hc pins s σ H _ us Q I rv ⟨p, ns, rfl, hq, h.here w relBl⟩
    · cases h
  · cases h
theorem cf_any (hc : X.calm = true) : CallR X (.builtin "any") (bfR X W .any) := by
  rintro pins s σ H vs us Q I rv ⟨ρ, S, ws, w, rs, h⟩
  replace h : Post X.mg X.K (RelU X.K) W ρ H (anyF ws S) Q := h
  unfold anyF at h
  split at h
  · obtain ⟨v, rfl, ra⟩ := rel1 rs
    split at h
    · rename_i ns hns
      rw [Option.bind_eq_some_iff] at hns
      obtain ⟨xs, hx, hi⟩ := hns
      obtain ⟨p, vs, rfl, hq, hr⟩ := w.list hx ra
      have e := hr.bols hi
      subst e
      exact cr_any hc pins s σ H _ us Q I rv ⟨p, ns, rfl, hq, h.here w relBl⟩
    · cases h
  · cases h
theorem cf_max2 (hc : X.calm = true) : CallR X (.builtin "max") (bfR X W .max2) := by
  rintro pins s σ H vs us Q I rv ⟨ρ, S, ws, w, rs, h⟩
  replace h : Post X.mg X.K (RelU X.K) W ρ H (max2F ws S) Q := h
  unfold max2F at h
  split at h
  · obtain ⟨v, v', rfl, ra, rb⟩ := rel2 rs
    cases ra.int; cases rb.int
    exact call_max2 hc pins s σ H _ us Q I rv ⟨_, _, rfl, h.here w relInt⟩
  · cases h
theorem cf_min2 (hc : X.calm = true) : CallR X (.builtin "min") (bfR X W .min2) := by
  rintro pins s σ H vs us Q I rv ⟨ρ, S, ws, w, rs, h⟩
  replace h : Post X.mg X.K (RelU X.K) W ρ H (min2F ws S) Q := h
  unfold min2F at h
  split at h
  · obtain ⟨v, v', rfl, ra, rb⟩ := rel2 rs
    cases ra.int; cases rb.int
    exact call_min2 hc pins s σ H _ us Q I rv ⟨_, _, rfl, h.here w relInt⟩
  · cases h
theorem cf_repr (hg : X.A.guards = some []) (hu : X.A.units + 70 < cLine) : CallR X (.builtin "repr") (bfR X W .repr) := by
  rintro pins s σ H vs us Q I rv ⟨ρ, S, ws, w, rs, h⟩
  replace h : Post X.mg X.K (RelU X.K) W ρ H (reprF ws S) Q := h
  unfold reprF at h
  split at h
  · rename_i a
    obtain ⟨v, rfl, ra⟩ := rel1 rs
    split at h
    · rename_i hk
      unfold reprOk at hk
      simp only [Bool.and_eq_true] at hk
      obtain ⟨h0, h1, h2, h3⟩ := hk
      have dp := dpU (okU_pur h1) ra
      have hsh := okU_shp h1
      have hdep := SeqAt.depth_of_shaped hsh
      obtain ⟨x, rfl, rx⟩ : ∃ x, us = [x] ∧ RelV v x := by
        cases rv with
        | cons r rr =>
          cases rr
          exact ⟨_, rfl, r⟩
      obtain ⟨as, rd⟩ := Dp.reads I _ _ _ dp rx
      have hr : ∃ p, x = .ref p := by
        cases a with
        | tup xs =>
          obtain ⟨p, _, e, _⟩ := ra.tup
          subst e
          exact ⟨p, rx⟩
        | _ => cases h0
      obtain ⟨p, rfl⟩ := hr
      refine repr_of_reads' (h₀ := s.heap) rd h2 (PyData.noDict_hsm (PyData.hasDict_of_canLay _ (SeqAt.canLay_of_shaped hsh))) hg (by omega) (fun _ _ e => e) (fun h' u tk hk => ⟨.str _, H, I.kept (t' := tk) hk, ⟨u, rfl⟩, h.here w relStr⟩) (of_decide_eq_true h3)
    · cases h
  · cases h
theorem cf_str : CallR X (.type "str") (bfR X W .str) := by
  rintro pins s σ H vs us Q I rv ⟨ρ, S, ws, w, rs, h⟩
  replace h : Post X.mg X.K (RelU X.K) W ρ H (strF ws S) Q := h
  unfold strF at h
  split at h
  · obtain ⟨v, rfl, ra⟩ := rel1 rs
    cases ra.int
    split at h
    · rename_i hz
      exact call_str_int pins s σ H _ us Q I rv ⟨_, rfl, hz, h.here w relStr⟩
    · cases h
  · cases h
theorem cf_tup : CallR X (.type "tuple") (bfR X W .tup) := by
  rintro pins s σ H vs us Q I rv ⟨ρ, S, ws, w, rs, h⟩
  replace h : Post X.mg X.K (RelU X.K) W ρ H (tupF ws S) Q := h
  unfold tupF at h
  split at h
  · obtain ⟨v, rfl, ra⟩ := rel1 rs
    split at h
    · rename_i xs hx
      obtain ⟨p, vs, rfl, hq, hr⟩ := w.items hx ra
      refine call_tuple_of pins s σ H _ us Q I rv ⟨p, vs, rfl, ?_⟩
      rcases hq with hq | hq
      · exact .inl ⟨hq, fun l hl => h.tup w hr hl⟩
      · exact .inr ⟨hq, h.here w (by simp only [RelU]; exact ⟨p, vs, rfl, hq, hr⟩)⟩
    · cases h
  · cases h
theorem cf_list : CallR X (.type "list") (bfR X W .list) := by
  rintro pins s σ H vs us Q I rv ⟨ρ, S, ws, w, rs, h⟩
  replace h : Post X.mg X.K (RelU X.K) W ρ H (listF ws S) Q := h
  unfold listF at h
  split at h
  · obtain ⟨v, rfl, ra⟩ := rel1 rs
    split at h
    · rename_i xs hx
      obtain ⟨p, vs, rfl, hq, hr⟩ := w.items hx ra
      exact call_list_of pins s σ H _ us Q I rv ⟨p, vs, rfl, hq, fun l hl => h.lst w hr hl⟩
    · cases h
  · cases h
/-! ### methods of built-in types -/
def bmR (X : Cx) (W : XK) (b : Bm) : V → List V → Hp → VK → Prop := fun x vs H Q => ∃ ρ S o us, Wok X.K X.mg ρ S H ∧ RelU X.K ρ H o x ∧ RelUs X.K ρ H us vs ∧ Post X.mg X.K (RelU X.K) W ρ H (bmU b o us S) Q
theorem lst_mut {H : Hp} {a : Addr} {vs : List V} (e : H a = some (.lst vs)) : ∀ u, H a = some u → ¬ Imm u := fun u q => by
  rw [e] at q
  cases q
  exact id
theorem ins_mut {H : Hp} {a C dx : Addr} {vs : List (Str × V)} (e : H a = some (.ins C dx vs)) : ∀ u, H a = some u → ¬ Imm u := fun u q => by
  rw [e] at q
  cases q
  exact id
/-- a list is written -/
theorem Post.set {α β : Type} {K : PySem.W.Frag} {mg : Str → Option Value} {Rr : List Addr → Hp → α → β → Prop} {ρ : List Addr} {S : Sto} {H : Hp} {n : Nat} {p : Addr} {us : List U} {vs vs0 : List V} {a : α} {b : β} {Q : β → Hp → Prop} (h : Post mg K Rr W ρ H (.ok a (S.set n (.lst us))) Q) (w : Wok K mg ρ S H)
    (hp : ρ[n]? = some p) {us0 : List U} (hs : S[n]? = some (.lst us0)) (e : H p = some (.lst vs0)) (r : RelUs K ρ H us vs) (hr : ∀ H', Ext ρ H ρ H' → Rr ρ H' a b) : Q b (upd H p (.lst vs)) := by
  have x : Ext ρ H ρ (upd H p (.lst vs)) := Ext.write (lst_mut e)
  exact h ρ _ b x (w.write hp hs rfl rfl (lst_mut e) ⟨vs, upd_same, r.mono x⟩) (hr _ x)
theorem bm_append : MtR X "list.append" (bmR X W .append) := by
  rintro pins s σ H x vs v us Q I rx rv ⟨ρ, S, o, ws, w, ro, rs, h⟩
  replace h : Post X.mg X.K (RelU X.K) W ρ H (appendF o ws S) Q := h
  unfold appendF at h
  split at h
  · obtain ⟨y, rfl, ry⟩ := rel1 rs
    obtain ⟨a, rfl, ha⟩ := ro.loc
    split at h
    · rename_i xs hx
      split at h
      · rename_i hz
        obtain ⟨vs, e, hr⟩ := w.at_ hx ha
        exact mt_append pins s σ H _ _ v us Q I rx rv ⟨a, vs, y, rfl, rfl, e, by rw [hr.length]; exact hz, h.set w ha hx e (hr.append (.cons ry .nil)) fun _ _ => relNon⟩
      · cases h
    · cases h
  · cases h
theorem bm_extend : MtR X "list.extend" (bmR X W .extend) := by
  rintro pins s σ H x vs v us Q I rx rv ⟨ρ, S, o, ws, w, ro, rs, h⟩
  replace h : Post X.mg X.K (RelU X.K) W ρ H (extendF o ws S) Q := h
  unfold extendF at h
  split at h
  · obtain ⟨y, rfl, ry⟩ := rel1 rs
    obtain ⟨a, rfl, ha⟩ := ro.loc
    obtain ⟨b, rfl, hb⟩ := ry.loc
    split at h
    · rename_i xs ys hx hy
      split at h
      · rename_i hz
        obtain ⟨vs, e, hr⟩ := w.at_ hx ha
        obtain ⟨ws, e2, hr2⟩ := w.at_ hy hb
        exact mt_extend pins s σ H _ _ v us Q I rx rv ⟨a, b, vs, ws, rfl, rfl, e, e2, by rw [hr.length, hr2.length]; exact hz, h.set w ha hx e (hr.append hr2) fun _ _ => relNon⟩
      · cases h
    · cases h
  · cases h
theorem dropLast_get {α : Type} {xs : List α} : xs[xs.length - 1]? = xs.getLast? := by
  rw [List.getLast?_eq_getElem?]
theorem bm_pop : MtR X "list.pop" (bmR X W .pop) := by
  rintro pins s σ H x vs v us Q I rx rv ⟨ρ, S, o, ws, w, ro, rs, h⟩
  replace h : Post X.mg X.K (RelU X.K) W ρ H (popF o ws S) Q := h
  unfold popF at h
  split at h
  · simp only [RelUs] at rs
    subst rs
    obtain ⟨a, rfl, ha⟩ := ro.loc
    split at h
    · rename_i xs hx
      split at h
      · rename_i y hy
        obtain ⟨vs, e, hr⟩ := w.at_ hx ha
        obtain ⟨z, hz, rz⟩ := hr.get hy
        exact mt_pop pins s σ H _ _ v us Q I rx rv ⟨a, vs, z, rfl, rfl, e, by rw [hr.length]; exact hz, h.set w ha hx e hr.dropLast fun _ x => rz.mono x⟩
      · cases h
    · cases h
  · cases h
theorem bm_startswith3 : MtR X "str.startswith" (bmR X W .startswith3) := by
  rintro pins s σ H x vs v us Q I rx rv ⟨ρ, S, o, ws, w, ro, rs, h⟩
  replace h : Post X.mg X.K (RelU X.K) W ρ H (startsF o ws S) Q := h
  unfold startsF at h
  split at h
  · obtain ⟨y, z, rfl, ry, rz⟩ := rel2 rs
    cases ro.str; cases ry.str; cases rz.int
    exact mt_startswith3 pins s σ H _ _ v us Q I rx rv ⟨_, _, _, rfl, rfl, h.here w relBl⟩
  · cases h
def tyOfB : Bm → String
  | .startswith3 => "str"
  | _ => "list"
theorem tyB_rel {K : PySem.W.Frag} {mg : Str → Option Value} {ρ : List Addr} {S : Sto} {H : Hp} {a : U} {v : V} {b : Bm} (w : Wok K mg ρ S H) (r : RelU K ρ H a v) (h : tyB b a S = true) : tyV K (tyOfB b) v H := by
  cases b with
  | startswith3 =>
    cases a with
    | str x => cases r.str; rfl
    | _ => cases h
  | extend =>
    obtain ⟨xs, hx⟩ := Option.isSome_iff_exists.mp (show (list? S a).isSome = true from h)
    obtain ⟨p, vs, rfl, hq, hr⟩ := w.list hx r
    exact .inl ⟨rfl, vs, hq⟩
  | append =>
    obtain ⟨xs, hx⟩ := Option.isSome_iff_exists.mp (show (list? S a).isSome = true from h)
    obtain ⟨p, vs, rfl, hq, hr⟩ := w.list hx r
    exact .inl ⟨rfl, vs, hq⟩
  | pop =>
    obtain ⟨xs, hx⟩ := Option.isSome_iff_exists.mp (show (list? S a).isSome = true from h)
    obtain ⟨p, vs, rfl, hq, hr⟩ := w.list hx r
    exact .inl ⟨rfl, vs, hq⟩
end
end Oz

end

section
set_option maxHeartbeats 4000000
/-! OzR: calls, where one level takes one frame. -/
namespace Oz
open PySem PySem.Spec PyProof.Rows L2
/-- room for k calls, one in another -/
structure Rm (k : Nat) (A : Around) : Prop where
  hd : A.handled = none
  dp : A.depth + k + 12 < recursionLimit
  un : A.units + 4 * k + 300 < cLine
  gd : A.guards = some []
theorem Rm.mono {j k : Nat} {A : Around} (r : Rm k A) (h : j ≤ k) : Rm j A := ⟨r.hd, by have := r.dp; omega, by have := r.un; omega, r.gd⟩
theorem Rm.inner {k : Nat} {A : Around} (r : Rm (k + 1) A) (env : PySem.Env) : Rm k (A.deeper env) where
  hd := r.hd
  dp := by
    have := r.dp
    show A.depth + 1 + k + 12 < recursionLimit
    omega
  un := by
    have := r.un
    show A.units + 3 + 4 * k + 300 < cLine
    omega
  gd := r.gd
theorem Rm.make {k : Nat} {A : Around} (r : Rm (k + 1) A) (C : Addr) (us : List Value) : Rm k (A.under (.builtin "type.__call__" ⟨.ref C :: us, []⟩)) where
  hd := r.hd
  dp := by
    have := r.dp
    rw [make_depth]
    omega
  un := by
    have := r.un
    rw [make_units]
    omega
  gd := by
    unfold Around.under
    simp only [r.gd]
    rfl
theorem Rm.room {k : Nat} {A : Around} (r : Rm k A) : Room 2 A := ⟨r.hd, by have := r.dp; omega, by have := r.un; omega⟩
theorem Rm.depth {k : Nat} {A : Around} (r : Rm k A) : A.depth < recursionLimit := by have := r.dp; omega
theorem rm_caller : Rm 680 callerA := ⟨rfl, by decide, by decide, rfl⟩
/-- a promise by positional values -/
def FnQ (P : Program) (w : World) (K : PySem.W.Frag) (mg : Str → Option Value) (base : Heap) (CX : CXT) (k : Nat) (f : Addr) (sp : Sp) : Prop :=
  ∀ A outer s H us vs Q E, Rm k A → Env0 P w K mg base A outer s H → Vals vs us → sp vs H Q E → codeAny (model P w) A (.call (.ref f) ⟨us, []⟩) (CR CX outer P w H s Q E) s
/-- a promise by n positional values and the keywords ks -/
def FnK (P : Program) (w : World) (K : PySem.W.Frag) (mg : Str → Option Value) (base : Heap) (CX : CXT) (k : Nat) (f : Addr) (n : Nat) (ks : List Str) (sp : Sp) : Prop :=
  ∀ A outer s H us ws vs zs Q E, Rm k A → Env0 P w K mg base A outer s H → Vals vs us → Vals zs ws → us.length = n → ws.length = ks.length → sp (vs ++ zs) H Q E → codeAny (model P w) A (.call (.ref f) ⟨us, ks.zip ws⟩) (CR CX outer P w H s Q E) s
section
variable {P : Program} {w : World} {K : PySem.W.Frag} {mg : Str → Option Value} {base : Heap} {CX : CXT} {j k : Nat} {f : Addr} {sp sp' : Sp}
theorem FnK.mono {n : Nat} {ks : List Str} (F : FnK P w K mg base CX j f n ks sp) (h : j ≤ k) : FnK P w K mg base CX k f n ks sp := fun A outer s H us ws vs zs Q E hr e0 r rz l1 l2 hs => F A outer s H us ws vs zs Q E (hr.mono h) e0 r rz l1 l2 hs
theorem FnQ.mono (F : FnQ P w K mg base CX j f sp) (h : j ≤ k) : FnQ P w K mg base CX k f sp := fun A outer s H us vs Q E hr e0 r hs => F A outer s H us vs Q E (hr.mono h) e0 r hs
theorem FnQ.imp (F : FnQ P w K mg base CX k f sp) (h : ∀ vs H Q E, sp' vs H Q E → sp vs H Q E) : FnQ P w K mg base CX k f sp' := fun A outer s H us vs Q E hr e0 r hs => F A outer s H us vs Q E hr e0 r (h _ _ _ _ hs)
end
section
variable {X : Cx} {CX : CXT} {k : Nat} {f C : Addr} {sp : Sp} {E : XK}
theorem ends_of {pins : List (Addr × Obj)} {σ : L2.St} {H : Hp} {s : Shared} {Q : VK} (hx : Passes CX X E) (I : L2.Inv X pins σ H s) : ∀ (r : Result) (s' : Shared), CR CX X.stack X.prog X.w H s Q E r s' → (match r with | .ok (.ret v) => EP X pins σ Q v s' | .ok _ => False | .error e => X.xe e s')
  | .error e, s', hq => hx pins σ H s e s' I hq
  | .ok (.ret u), s', hq => I.after hq
  | .ok .next, _, hq => hq.elim
  | .ok .brk, _, hq => hq.elim
  | .ok .cont, _, hq => hq.elim
theorem run_fnQ {pins : List (Addr × Obj)} {σ : L2.St} {H : Hp} {s : Shared} {Q : VK} {us : List Value} {vs : List V} (F : FnQ X.prog X.w X.K X.mg X.base CX k f sp) (hr : Rm k X.A) (hx : Passes CX X E) (I : L2.Inv X pins σ H s) (r : Vals vs us) (h : sp vs H Q E) :
    wpAny (model X.prog X.w) X.A (call (.ref f) us) (EP X pins σ Q) X.xe s :=
  wpAny_call (codeAny_mono (F X.A X.stack s H us vs Q E hr I.env0 r h) fun z s' hq => ends_of hx I z s' hq)
theorem run_fnK {pins : List (Addr × Obj)} {σ : L2.St} {H : Hp} {s : Shared} {Q : VK} {us ws : List Value} {vs zs : List V} {n : Nat} {ks : List Str} (F : FnK X.prog X.w X.K X.mg X.base CX k f n ks sp) (hr : Rm k X.A) (hx : Passes CX X E) (I : L2.Inv X pins σ H s) (r : Vals vs us) (rz : Vals zs ws) (l1 : us.length = n) (l2 : ws.length = ks.length) (h : sp (vs ++ zs) H Q E) :
    wpAny (model X.prog X.w) X.A (call (.ref f) us (ks.zip ws)) (EP X pins σ Q) X.xe s :=
  wpAny_call (codeAny_mono (F X.A X.stack s H us ws vs zs Q E hr I.env0 r rz l1 l2 h) fun z s' hq => ends_of hx I z s' hq)
theorem run_mkQ {pins : List (Addr × Obj)} {σ : L2.St} {H : Hp} {s : Shared} {Q : VK} {us : List Value} {vs : List V} (M : Mk X.K C f) (F : FnQ X.prog X.w X.K X.mg X.base CX k f sp) (hr : Rm (k + 1) X.A) (hx : Passes CX X E) (I : L2.Inv X pins σ H s) (r : Vals vs us)
    (h : ∀ x dx, H x = none → H dx = none → dx ≠ x → sp (.ref x :: vs) (upd (upd H dx (.own x)) x (.ins C dx [])) (fun v H2 => v = .non ∧ Q (.ref x) H2) E) : wpAny (model X.prog X.w) X.A (call (.ref C) us) (EP X pins σ Q) X.xe s := by
  have h0 : H s.heap.objs.size = none := I.hok.fresh (Nat.le_refl _)
  have h1 : H (s.heap.objs.size + 1) = none := I.hok.fresh (Nat.le_succ _)
  have hq := h _ _ h1 h0 (Nat.ne_of_lt (Nat.lt_succ_self _))
  have J := L2.Inv.made (C := C) I
  have rr : Vals (V.ref (s.heap.objs.size + 1) :: vs) (Value.ref (s.heap.objs.size + 1) :: us) := .cons rfl r
  have run := F _ X.stack _ _ (Value.ref (s.heap.objs.size + 1) :: us) _ _ E (hr.make C us) (J.env0.make C us []) rr hq
  refine wpAny_call (make_map (f := f) I.kIn M.makes M.init (beq_iff_eq.mp M.fn) (codeAny_mono run fun z s' hz => ?_))
  have hz' := ends_of hx J z s' hz
  match z, hz' with
  | .error e, q => exact q
  | .ok (.ret u), ⟨v, H', I3, rv, ev, q3⟩ =>
    subst ev
    exact ⟨rv, V.ref (s.heap.objs.size + 1), H', I3, rfl, q3⟩
  | .ok .next, q => exact q.elim
  | .ok .brk, q => exact q.elim
  | .ok .cont, q => exact q.elim
end
/-! ### a body -/
section
variable {CX : CXT} {P : Program} {w : World} {K : PySem.W.Frag} {mg : Str → Option Value} {base : Heap} {k : Nat} {f : Addr} {name qual : Str} {params : Arguments} {body : List Stmt} {scope : Scope} {dV kV doc pm cdv ct oc : Value} {an od : Option Addr}
  {osl : Array (Option Value)} {N ps : List Str}
theorem body_end {A : Around} {outer : List PySem.Env} {s0 s1 : Shared} {H0 H1 : Hp} {E : XK} {Q : VK} {fl : Flow} {s' : Shared} (un : Un (frs outer) [] H0 H1 s0.heap s1.heap) (ho : s1.os = s0.os)
    (h : SP (cxOf CX P w K mg base N qual scope f cdv A outer s1 H1 E) [] { nx := fun _ H' => Q .non H', rt := Q } fl s') : CR CX outer P w H0 s0 Q E (.ok (match fl with | .ret v => .ret v | _ => .ret .none)) s' := by
  have fin : ∀ {σ' : L2.St} {H' : Hp} {v : V} {u : Value}, L2.Inv (cxOf CX P w K mg base N qual scope f cdv A outer s1 H1 E) [] σ' H' s' → RelV v u → Q v H' → CE outer P w H0 s0 Q u s' :=
    fun J rv q => ⟨_, _, J.os.trans ho, J.bare, un.trans J.base, J.hok, rv, q⟩
  match fl, h with
  | .ret u, ⟨v, σ', H', J, rv, q⟩ => exact fin J rv q
  | .next, ⟨σ', H', J, q⟩ => exact fin (v := .non) (u := .none) J rfl q
  | .brk, ⟨_, _, _, q⟩ => exact q.elim
  | .cont, ⟨_, _, _, q⟩ => exact q.elim
/-- the arguments bound with objects laid on the way: G tells of the bound values and the heap -/
theorem run_body {A : Around} {outer : List PySem.Env} {s : Shared} {H : Hp} {args : Args} {Q : VK} {E : XK} {G : List V → Hp → Prop} (lk : K.lookup f = some ⟨oc, od, .func (PySem.W.fnOf name qual params body scope dV kV doc pm an cdv ct), osl⟩) (hcd : PySem.W.codeIn K cdv qual = true)
    (S : FnScope N ps scope) (hr : Rm (k + 1) A) (e0 : Env0 P w K mg base A outer s H) (hb : StX.Bnd CX P w K mg base (PySem.W.fnOf name qual params body scope dV kV doc pm an cdv ct) args ps A outer s H E G)
    (hbody : ∀ (s2 : Shared) (H2 : Hp) (vs : List V), G vs H2 → Rm k (A.deeper (envOfC qual scope s2.heap.objs.size f cdv)) → ∃ t, PSs (cxOf CX P w K mg base N qual scope f cdv A outer s2 H2 E) body t ∧ t { nx := fun _ H' => Q .non H', rt := Q } (L2.start N vs) H2) :
    codeAny (model P w) A (.call (.ref f) args) (CR CX outer P w H s Q E) s := by
  have KX : K.In s.heap := e0.mod.kin.keeps fun b o e => (e0.bs b o e).1
  refine codeAny_call_function hr.depth (KX _ _ lk) rfl S.co S.gen rfl (PySem.W.codeRec_of KX hcd) (hb _ _ _ fun s2 H2 vs us e2 un ho hx r hl g => ?_)
  have lim : s2.heap.NoLimit := e0.mod.nolimit.keeps fun b o e => (e2.bs b o e).1
  have hkind : ∀ y ∈ ps.zip us, scope.names.lookup y.1 = some .local ∨ (scope.names.lookup y.1 = some .cell ∧ ((cellsFrom (s2.heap.objs.size + 1) scope.names []).lookup y.1).isSome = true) := by
    intro y hy
    rcases S.par y.1 (List.of_mem_zip hy).1 with q | q
    · exact Or.inl q
    · exact Or.inr ⟨q, PySem.W.cellsFrom_some _ _ _ (Or.inl q)⟩
  refine wpAny_newFunctionEnv_cells (s := s2) S.kind hkind fun env he s1 x => ?_
  subst he
  refine ⟨lim.keeps x.toInCall.keep, codeAny_func ?_⟩
  obtain ⟨t, ht, hq⟩ := hbody s2 H2 vs g (hr.inner _)
  have I := inv_start (CX := CX) (E := E) (w := w) S hr.hd e2 hl r x
  refine wpAny_mono (ht.run [] s1 _ _ _ I hq) (fun fl s' hs => ?_) fun e s' hs => ?_
  · have z := body_end (cdv := cdv) un ho hs
    cases fl with
    | ret u => exact z
    | next => exact z
    | brk => exact z
    | cont => exact z
  · exact wpAny_mono hs (fun _ s'' z => hx e s'' z) fun e' s'' z => hx e' s'' z
end
end Oz

end

section
set_option maxHeartbeats 4000000
/-! Oz6: the rules of expressions. -/
namespace Oz
open PySem PySem.Spec PyProof.Rows L2
/-! ### what is asked of the program around -/
/-- a def's promise: it does what g does -/
def spC (K : PySem.W.Frag) (mg : Str → Option Value) (g : List U → Sto → R U) : Sp := fun vs H Q E => ∃ ρ S us, Wok K mg ρ S H ∧ RelUs K ρ H us vs ∧ Post mg K (RelU K) E ρ H (g us S) Q
structure Names where
  fns : List Str
  mets : List (Str × Str)
  clss : List Str
  flds : List (Str × Str)
  xcs : List (Str × Str)
  bins : List Str
  kws : List (Str × Nat × List Str)
/-- what the written part says, once for all -/
structure Sta (p : Pg) (nm : Names) (K : PySem.W.Frag) (mg : Str → Option Value) (ad : Str → Addr) : Prop where
  glo : ∀ x u, p.glo x = some u → ∃ w v, mg x = some w ∧ RelV v w ∧ ∀ ρ H, RelU K ρ H u v
  fn : ∀ f, f ∈ nm.fns → mg f = some (.ref (ad f)) ∧ PySem.W.keepIn K (.ref (ad f)) = true
  met : ∀ C m, (C, m) ∈ nm.mets → BMeth K (ad C) m (ad (C ++ "." ++ m))
  cls : ∀ C, C ∈ nm.clss → mg C = some (.ref (ad C)) ∧ Cls K (ad C) ∧ Mk K (ad C) (ad (C ++ ".__init__"))
  fld : ∀ C f, (C, f) ∈ nm.flds → NoAttr K (ad C) f
  bin : ∀ x, x ∈ nm.bins → mg x = none
/-- what an exception's __init__ does -/
def spX (C : Addr) (f : Str) : Sp := fun vs H Q _ => ∃ a y, vs = [.ref a, y] ∧ H a = some (exo a C none) ∧ ∀ dx, H dx = none → dx ≠ a → Q .non (upd (upd H dx (exd dx [(f, y)])) a (exo a C (some dx)))
structure XcOk (P : Program) (w : World) (K : PySem.W.Frag) (mg : Str → Option Value) (base : Heap) (ad : Str → Addr) (C f : Str) : Prop where
  gC : mg C = some (.ref (ad C))
  T : OexC K (ad C)
  iC : PySem.W.findIn K (.ref (ad C)) "__init__" = some (some (.ref (ad (C ++ ".__init__"))))
  tI : PySem.W.typeIn K (.ref (ad (C ++ ".__init__"))) = some (.type "function")
  fn : ∃ fd ps, FnOk P w K mg base (L2.CX P w) 1 (ad (C ++ ".__init__")) fd ps (spX (ad C) f) ∧ Binds K fd ps []
  kp : PySem.W.keepIn K (.ref (ad C)) = true
/-- the module's dicts with text keys -/
def GdOk (p : Pg) (K : PySem.W.Frag) (mg : Str → Option Value) (w : World) : Prop := ∀ x kvs, p.gd x = some kvs → ∃ a es n, mg x = some (.ref a) ∧ KDict K w a es n ∧ (∀ z u, kvs.lookup z = some u → ∃ u0 v, PySem.W.nsIn K a z = some (some u0) ∧ RelV v u0 ∧ ∀ ρ H, RelU K ρ H u v) ∧ ∀ z, kvs.lookup z = none → PySem.W.nsIn K a z = some none
structure Ok (X : Cx) (p : Pg) (nm : Names) (ad : Str → Addr) (d : Nat) (W : XK) : Prop where
  sta : Sta p nm X.K X.mg ad
  gdi : GdOk p X.K X.mg X.w
  xc : ∀ C f, (C, f) ∈ nm.xcs → XcOk X.prog X.w X.K X.mg X.base ad C f
  take : Takes X (fun cls d _ H => W cls d H)
  own : PassesOwn (model X.prog X.w) X.A X.env X.xe
  calm : X.calm = true
  room : Rm (d + 2) X.A
  pass : Passes (L2.CX X.prog X.w) X W
  call : ∀ f, FnQ X.prog X.w X.K X.mg X.base (L2.CX X.prog X.w) (d + 2) (ad f) (spC X.K X.mg ((p.cal d).call f))
  init : ∀ f, FnQ X.prog X.w X.K X.mg X.base (L2.CX X.prog X.w) (d + 1) (ad f) (spC X.K X.mg ((p.cal d).init f))
  kcall : ∀ f n ks, (f, n, ks) ∈ nm.kws → FnK X.prog X.w X.K X.mg X.base (L2.CX X.prog X.w) (d + 2) (ad f) n ks (spC X.K X.mg ((p.cal d).kcal f))
theorem Ok.hu {X : Cx} {p : Pg} {nm : Names} {ad : Str → Addr} {d : Nat} {W : XK} (O : Ok X p nm ad d W) : X.A.units + 65 < cLine := by
  have := O.room.un
  omega

/-! ### readings -/
def tE (X : Cx) (Φ : Cal) (W : XK) (e : E) : TE := fun σ H Q => ∃ ρ S env, Wok X.K X.mg ρ S H ∧ EnvOk X.K ρ H env σ ∧ Post X.mg X.K (RelU X.K) W ρ H (ev Φ e env S) Q
def tEs (X : Cx) (Φ : Cal) (W : XK) (e : Es) : TA := fun σ H Q => ∃ ρ S env, Wok X.K X.mg ρ S H ∧ EnvOk X.K ρ H env σ ∧ Post X.mg X.K (RelUs X.K) W ρ H (evs Φ e env S) Q
def Rid {α : Type} : List Addr → Hp → α → α → Prop := fun _ _ a b => a = b
def tTs (X : Cx) (Φ : Cal) (W : XK) (e : T) : TT := fun σ H Q => ∃ ρ S env, Wok X.K X.mg ρ S H ∧ EnvOk X.K ρ H env σ ∧ Post X.mg X.K Rid W ρ H (evt Φ e env S) Q
def tEo (X : Cx) (Φ : Cal) (W : XK) (e : Eo) : TO := fun σ H Q => ∃ ρ S env, Wok X.K X.mg ρ S H ∧ EnvOk X.K ρ H env σ ∧ Post X.mg X.K Rid W ρ H (evo Φ e env S) Q
theorem PEw {X : Cx} {e : Expr} {t t' : TE} (h : PE X e t) (i : ∀ σ H Q, t' σ H Q → t σ H Q) : PE X e t' := ⟨fun pins s σ H Q I q => h.run pins s σ H Q I (i _ _ _ q)⟩
theorem PTw' {X : Cx} {e : Expr} {t t' : TT} (h : PT X e t) (i : ∀ σ H Q, t' σ H Q → t σ H Q) : PT X e t' := ⟨fun pins s σ H Q I q => h.run pins s σ H Q I (i _ _ _ q)⟩
theorem PWw {X : Cx} {e : Expr} {t t' : TT} (h : PW X e t) (i : ∀ σ H Q, t' σ H Q → t σ H Q) : PW X e t' := ⟨fun wh pins s σ H Q I q => h.run wh pins s σ H Q I (i _ _ _ q)⟩
theorem PAw {X : Cx} {e : List Expr} {t t' : TA} (h : PA X e t) (i : ∀ σ H Q, t' σ H Q → t σ H Q) : PA X e t' := ⟨fun pos pins s σ H Q I q => h.run pos pins s σ H Q I (i _ _ _ q)⟩
theorem POw {X : Cx} {e : Option Expr} {t t' : TO} (h : PO X e t) (i : ∀ σ H Q, t' σ H Q → t σ H Q) : PO X e t' := ⟨fun pins s σ H Q I q => h.run pins s σ H Q I (i _ _ _ q)⟩

section
variable {X : Cx} {p : Pg} {nm : Names} {ad : Str → Addr} {d : Nat} {W : XK} {a b e c o : Expr} {es : List Expr} {ta tb te to : E} {tc td : T} {tes : Es} {pos : Pos}
/-! ### names, constants -/
theorem s_v (i : Nat) {x : Str} (hN : X.N[i]? = some x := by rfl) (hv : Vis X.env.scope x := by first | exact Or.inl rfl | exact Or.inr (Or.inl rfl) | exact Or.inr (Or.inr rfl)) (hd : (x == ("__debug__" : Str)) = false := by decide)
    (hcd : (x == ("__classdict__" : Str)) = false := by decide) {Φ : Cal} : PE X (.Name x pos) (tE X Φ W (.v i)) := by
  refine PEw (pe_var hN hv hd hcd) fun σ H Q ⟨ρ, S, env, w, eo, h⟩ => ?_
  rw [ev] at h
  split at h
  · rename_i u hu
    obtain ⟨v, e, r⟩ := eo.ok i u hu
    exact ⟨v, e, h.here w r⟩
  · cases h
theorem s_int {i : Int} {j : Nat} {Φ : Cal} : PE X (.Constant (.int i) j pos) (tE X Φ W (.k (.int i))) := PEw pe_int fun σ H Q ⟨ρ, S, env, w, eo, h⟩ => by rw [ev] at h; exact h.here w relInt
theorem s_bl {i : Bool} {j : Nat} {Φ : Cal} : PE X (.Constant (.bool i) j pos) (tE X Φ W (.k (.bl i))) := PEw pe_bl fun σ H Q ⟨ρ, S, env, w, eo, h⟩ => by rw [ev] at h; exact h.here w relBl
theorem s_str {i : Str} {j : Nat} {Φ : Cal} : PE X (.Constant (.str i) j pos) (tE X Φ W (.k (.str i))) := PEw pe_str fun σ H Q ⟨ρ, S, env, w, eo, h⟩ => by rw [ev] at h; exact h.here w relStr
theorem s_non {j : Nat} {Φ : Cal} : PE X (.Constant .none j pos) (tE X Φ W (.k .non)) := PEw pe_non fun σ H Q ⟨ρ, S, env, w, eo, h⟩ => by rw [ev] at h; exact h.here w relNon
theorem cal_glo (p : Pg) : ∀ d, (p.cal d).glo = p.glo
  | 0 => rfl
  | _ + 1 => rfl
theorem cal_xf (p : Pg) : ∀ d, (p.cal d).xf = p.xf
  | 0 => rfl
  | _ + 1 => rfl
theorem s_g (O : Ok X p nm ad d W) {x : Str} (hg : Gl X x := by rfl) (hp : (p.glo x).isSome = true := by decide +kernel) (hd : (x == ("__debug__" : Str)) = false := by decide) : PE X (.Name x pos) (tE X (p.cal d) W (.g x)) := by
  obtain ⟨u, hu⟩ := Option.isSome_iff_exists.mp hp
  obtain ⟨w0, v, hm, rv, ru⟩ := O.sta.glo x u hu
  refine PEw (pe_glob hg hm rv hd) fun σ H Q ⟨ρ, S, env, w, eo, h⟩ => ?_
  rw [ev, cal_glo, hu] at h
  exact h.here w (ru ρ H)
theorem cal_gd (p : Pg) : ∀ d, (p.cal d).gd = p.gd
  | 0 => rfl
  | _ + 1 => rfl
/-- an item of a dict of the module -/
theorem s_gd (O : Ok X p nm ad d W) {x : Str} {px : Pos} (hb : PE X b (tE X (p.cal d) W tb)) (hg : Gl X x := by rfl) (hp : (p.gd x).isSome = true := by decide +kernel) (hd : (x == ("__debug__" : Str)) = false := by decide) (hs : PlainIx b := by exact fun _ _ => rfl) :
    PE X (.Subscript (.Name x px) b pos) (tE X (p.cal d) W (.gd x tb)) := by
  obtain ⟨kvs, hk⟩ := Option.isSome_iff_exists.mp hp
  obtain ⟨a, es, n, hm, kd, hv, _⟩ := O.gdi x kvs hk
  refine PEw (pe_ix ix_kdict (pe_glob hg hm (v := .ref a) rfl hd) hb hs) fun σ H Q ⟨ρ, S, env, w, eo, h⟩ => ?_
  rw [ev, cal_gd, hk] at h
  refine ⟨ρ, S, env, w, eo, (Post.bind h).imp fun y H1 ⟨ρ1, S1, u, e1, w1, r1, h1⟩ => ?_⟩
  cases u with
  | str z =>
    cases r1.str
    replace h1 : Post X.mg X.K (RelU X.K) W ρ1 H1 (rO (kvs.lookup z) S1) Q := h1
    unfold rO at h1
    split at h1
    · rename_i u' hu
      obtain ⟨u0, v, hn, rv, ru⟩ := hv z u' hu
      exact ⟨a, z, v, rfl, rfl, ⟨es, n, u0, kd.at_, kd.lit, hn, rv⟩, h1.here w1 (ru ρ1 H1)⟩
    · cases h1
  | _ => exact h1.elim
/-- k in a dict of the module -/
theorem s_din (O : Ok X p nm ad d W) {x : Str} {px : Pos} (hb : PE X b (tE X (p.cal d) W tb)) (hg : Gl X x := by rfl) (hp : (p.gd x).isSome = true := by decide +kernel) (hd : (x == ("__debug__" : Str)) = false := by decide) (hmk : behindInMarks CmpOp.In (.Name x px) = false := by rfl) :
    PE X (.Compare b [.In] [.Name x px] pos) (tE X (p.cal d) W (.din x tb)) := by
  obtain ⟨kvs, hk⟩ := Option.isSome_iff_exists.mp hp
  obtain ⟨a, es, n, hm, kd, hv, hn⟩ := O.gdi x kvs hk
  refine PEw (pe_cmpR (op_in_kd kd) hb (pe_glob hg hm (v := .ref a) rfl hd) hmk) fun σ H Q ⟨ρ, S, env, w, eo, h⟩ => ?_
  rw [ev, cal_gd, hk] at h
  refine ⟨ρ, S, env, w, eo, (Post.bind h).imp fun y H1 ⟨ρ1, S1, u, e1, w1, r1, h1⟩ => ?_⟩
  cases u with
  | str z =>
    cases r1.str
    replace h1 : Post X.mg X.K (RelU X.K) W ρ1 H1 (.ok (.bl (kvs.lookup z).isSome) S1) Q := h1
    cases hl : kvs.lookup z with
    | some u' =>
      obtain ⟨u0, v, hn', _, _⟩ := hv z u' hl
      rw [hl] at h1
      exact ⟨z, some u0, rfl, rfl, hn', h1.here w1 relBl⟩
    | none =>
      rw [hl] at h1
      exact ⟨z, none, rfl, rfl, hn z hl, h1.here w1 relBl⟩
  | _ => exact h1.elim
/-- D.get(k, v) of a dict of the module -/
theorem s_gget (O : Ok X p nm ad d W) {x : Str} {px apos : Pos} (hb : PE X b (tE X (p.cal d) W tb)) (hc : PE X c (tE X (p.cal d) W te)) (hg : Gl X x := by rfl) (hp : (p.gd x).isSome = true := by decide +kernel) (hd : (x == ("__debug__" : Str)) = false := by decide)
    (base : attributeBase (.Name x px) "get" X.env (eval (.Name x px) X.env) = eval (.Name x px) X.env := by rfl)
    (few : ((backTo pos (starEach [b, c] X.env)).all (fun x => !x.1) && (backToKw pos (keywordEach [] X.env)).all (fun x => x.1.isSome) && decide (([b, c] : List Expr).length + ([] : List Keyword).length + (if ([] : List Keyword).isEmpty then 0 else 1) < 30)) = true := by rfl)
    (line : (apos.endLine == pos.line) = true := by rfl) (trees : backTo pos (starEach [b, c] X.env) = [(false, eval b X.env), (false, eval c X.env)] := by rfl) :
    PE X (.Call (.Attribute (.Name x px) "get" apos) [b, c] [] pos) (tE X (p.cal d) W (.gget x tb te)) := by
  obtain ⟨kvs, hk⟩ := Option.isSome_iff_exists.mp hp
  obtain ⟨a, es, n, hm, kd, hv, hn⟩ := O.gdi x kvs hk
  refine ⟨fun pins s σ H Q I ⟨ρ, S, env, w, eo, h⟩ => ?_⟩
  rw [ev, cal_gd, hk] at h
  have ld := (pe_glob (X := X) (x := x) (pos := px) hg hm (v := .ref a) rfl hd).run pins s σ H (fun v H1 => v = .ref a ∧ H1 = H) I ⟨rfl, rfl⟩
  refine wpAny_Call_method base few line PySem.F.plainAttrs_dict PySem.F.slot_dict_get PySem.F.type_dict_get (thn ld fun u s1 ⟨v, H1, I1, rv, ev1, eh⟩ => ?_)
  subst ev1 eh
  obtain rfl : u = Value.ref a := rv
  have mo := PySem.W.mapOf_K (prog := X.prog) (w := X.w) I1.kIn kd.at_ kd.lit
  refine ⟨mo.typeIs, fun q e => ?_, ?_⟩
  · cases e
    exact ⟨_, I1.kIn _ _ kd.at_, rfl⟩
  · rw [trees]
    refine Calls.callWith_builtin rfl (Calls.evalArgs_plain (Calls.spliced_cons (thn (hb.run pins s1 σ H1 _ I1 ⟨ρ, S, env, w, eo, Post.bind h⟩) fun iv s2 ⟨y, H2, I2, ry, ρ2, S2, k, e2, w2, r2, h2⟩ =>
      Calls.spliced_cons (thn (hc.run pins s2 σ H2 _ I2 ⟨ρ2, S2, env, w2, eo.mono e2, Post.bind h2⟩) fun fv s3 ⟨z, H3, I3, rz, ρ3, S3, v, e3, w3, r3, h3⟩ => Calls.spliced_nil ?_))))
    cases k with
    | str t =>
      cases r2.str
      obtain ⟨tk, rfl⟩ := ry
      replace h3 : Post X.mg X.K (RelU X.K) W ρ3 H3 (.ok ((kvs.lookup t).getD v) S3) Q := h3
      have mo3 := PySem.W.mapOf_K (prog := X.prog) (w := X.w) I3.kIn kd.at_ kd.lit
      cases hl : kvs.lookup t with
      | some u' =>
        obtain ⟨u0, v0, hn0, rv0, ru⟩ := hv t u' hl
        rw [hl] at h3
        refine PySem.call_meetsIn PySem.F.slot_dict_get mo3.typeIs PySem.F.entry_dict_get (PySem.F.args_dict_get_3 _ _ _) (meets_dict_get_default (strKind X.prog X.w) a (strKind_is X.prog X.w t tk) kd.low fv) ⟨_, mo3, ?_⟩
        rw [PySem.W.find_K kd.at_ hn0]
        exact ⟨v0, H3, I3.tok _, rv0, h3.here w3 (ru ρ3 H3)⟩
      | none =>
        rw [hl] at h3
        refine PySem.call_meetsIn PySem.F.slot_dict_get mo3.typeIs PySem.F.entry_dict_get (PySem.F.args_dict_get_3 _ _ _) (meets_dict_get_default (strKind X.prog X.w) a (strKind_is X.prog X.w t tk) kd.low fv) ⟨_, mo3, ?_⟩
        rw [PySem.W.find_K kd.at_ (hn t hl)]
        exact ⟨z, H3, I3.tok _, rz, h3.here w3 r3⟩
    | _ => exact h3.elim

/-! ### argument lists, displays -/
theorem s_nil {Φ : Cal} : PA X [] (tEs X Φ W .nil) := PAw pa_nil fun σ H Q ⟨ρ, S, env, w, eo, h⟩ => by rw [evs] at h; exact h.here w RelUs.nil
theorem s_cons {Φ : Cal} (ha : PE X e (tE X Φ W te)) (hr : PA X es (tEs X Φ W tes)) (hs : starEach (e :: es) X.env = (false, eval e X.env) :: starEach es X.env := by rfl) : PA X (e :: es) (tEs X Φ W (.cons te tes)) := by
  refine PAw (pa_cons ha hr hs) fun σ H Q ⟨ρ, S, env, w, eo, h⟩ => ?_
  rw [evs] at h
  refine ⟨ρ, S, env, w, eo, (Post.bind h).imp fun x H1 ⟨ρ1, S1, u, e1, w1, r1, h1⟩ => ⟨ρ1, S1, env, w1, eo.mono e1, (Post.bind h1).imp fun xs H2 ⟨ρ2, S2, us, e2, w2, r2, h2⟩ => ?_⟩⟩
  exact h2.here w2 (RelUs.cons (r1.mono e2) r2)
theorem s_star {Φ : Cal} {sp : Pos} (ha : PE X e (tE X Φ W te)) (hr : PA X es (tEs X Φ W tes)) (hs : starEach (.Starred e sp :: es) X.env = (true, eval e X.env) :: starEach es X.env := by rfl) : PA X (.Starred e sp :: es) (tEs X Φ W (.star te tes)) := by
  refine PAw (StX.pa_star ha hr hs) fun σ H Q ⟨ρ, S, env, w, eo, h⟩ => ?_
  rw [evs] at h
  refine ⟨ρ, S, env, w, eo, (Post.bind h).imp fun x H1 ⟨ρ1, S1, u, e1, w1, r1, h1⟩ => ?_⟩
  split at h1
  · rename_i xs hx
    obtain ⟨a, vs, rfl, hq, hr⟩ := w1.items hx r1
    refine ⟨a, vs, rfl, hq.symm, ρ1, S1, env, w1, eo.mono e1, (Post.bind h1).imp fun ys H2 ⟨ρ2, S2, us, e2, w2, r2, h2⟩ => ?_⟩
    exact h2.here w2 ((hr.mono e2).append r2)
  · cases h1
theorem s_tup {Φ : Cal} {k : Nat} (h : PA X es (tEs X Φ W tes)) : PE X (.Tuple es k pos) (tE X Φ W (.tup tes)) := by
  refine PEw (pe_tup h) fun σ H Q ⟨ρ, S, env, w, eo, h⟩ => ?_
  rw [ev] at h
  refine ⟨ρ, S, env, w, eo, (Post.bind h).imp fun xs H1 ⟨ρ1, S1, us, e1, w1, r1, h1⟩ => ?_⟩
  split at h1
  · rename_i hz
    exact ⟨by rw [r1.length]; exact hz, fun q hq => h1.tup w1 r1 hq⟩
  · cases h1
theorem s_lst {Φ : Cal} (h : PA X es (tEs X Φ W tes)) : PE X (.List es pos) (tE X Φ W (.lst tes)) := by
  refine PEw (pe_lst h) fun σ H Q ⟨ρ, S, env, w, eo, h⟩ => ?_
  rw [ev] at h
  refine ⟨ρ, S, env, w, eo, (Post.bind h).imp fun xs H1 ⟨ρ1, S1, us, e1, w1, r1, h1⟩ => ?_⟩
  split at h1
  · rename_i hz
    exact ⟨by rw [r1.length]; exact hz, fun q hq => h1.lst w1 r1 hq⟩
  · cases h1

/-! ### operators -/
theorem two {Φ : Cal} {f : U → U → Sto → R U} {σ : L2.St} {H : Hp} {Q : VK} {ρ : List Addr} {S : Sto} {env : Env} (w : Wok X.K X.mg ρ S H) (eo : EnvOk X.K ρ H env σ)
    (h : Post X.mg X.K (RelU X.K) W ρ H ((ev Φ ta env S).bind fun x S => (ev Φ tb env S).bind fun y S => f x y S) Q) : tE X Φ W ta σ H fun x H1 => tE X Φ W tb σ H1 fun y H2 => r2 X W f x y H2 Q :=
  ⟨ρ, S, env, w, eo, (Post.bind h).imp fun x H1 ⟨ρ1, S1, u, e1, w1, r1, h1⟩ => ⟨ρ1, S1, env, w1, eo.mono e1, (Post.bind h1).imp fun y H2 ⟨ρ2, S2, u2, e2, w2, r2, h2⟩ => ⟨ρ2, S2, u, u2, w2, r1.mono e2, r2, h2⟩⟩⟩
theorem s_bin {Φ : Cal} (o : Op) (ha : PE X a (tE X Φ W ta)) (hb : PE X b (tE X Φ W tb)) : PE X (.BinOp a (opOf o) b pos) (tE X Φ W (.bin o ta tb)) :=
  PEw (pe_op (op_bin (W := W) o) ha hb) fun σ H Q ⟨ρ, S, env, w, eo, h⟩ => by rw [ev] at h; exact two w eo h
theorem s_neg {Φ : Cal} (ha : PE X a (tE X Φ W ta)) : PE X (.UnaryOp .USub a pos) (tE X Φ W (.neg ta)) := by
  refine PEw (pe_un un_neg ha) fun σ H Q ⟨ρ, S, env, w, eo, h⟩ => ?_
  rw [ev] at h
  refine ⟨ρ, S, env, w, eo, (Post.bind h).imp fun x H1 ⟨ρ1, S1, u, e1, w1, r1, h1⟩ => ?_⟩
  split at h1
  · cases r1.int
    exact ⟨_, rfl, h1.here w1 relInt⟩
  · cases h1
theorem s_cmp (O : Ok X p nm ad d W) {Φ : Cal} (o : Cm) (ha : PE X a (tE X Φ W ta)) (hb : PE X b (tE X Φ W tb)) (hm : behindInMarks (cmOf o) b = false := by rfl) : PE X (.Compare a [cmOf o] [b] pos) (tE X Φ W (.cmp o ta tb)) :=
  PEw (pe_cmpR (op_cmp (W := W) O.hu o) ha hb hm) fun σ H Q ⟨ρ, S, env, w, eo, h⟩ => by rw [ev] at h; exact two w eo h
theorem s_one {Φ : Cal} {op : BoolOp} (h : PE X a (tE X Φ W ta)) : PE X (.BoolOp op [a] pos) (tE X Φ W ta) := pe_one h
theorem s_and {Φ : Cal} {rest : List Expr} (ha : PE X a (tE X Φ W ta)) (hb : PE X (.BoolOp .And (b :: rest) pos) (tE X Φ W tb)) : PE X (.BoolOp .And (a :: b :: rest) pos) (tE X Φ W (.and ta tb)) := by
  refine PEw (pe_and ha hb) fun σ H Q ⟨ρ, S, env, w, eo, h⟩ => ?_
  rw [ev] at h
  refine ⟨ρ, S, env, w, eo, (Post.bind h).imp fun x H1 ⟨ρ1, S1, u, e1, w1, r1, h1⟩ => ?_⟩
  split at h1
  · cases r1.bl
    exact ⟨true, rfl, iteT ⟨ρ1, S1, env, w1, eo.mono e1, h1⟩⟩
  · cases r1.bl
    exact ⟨false, rfl, iteF (h1.here w1 relBl)⟩
  · cases h1
theorem s_or {Φ : Cal} {rest : List Expr} (ha : PE X a (tE X Φ W ta)) (hb : PE X (.BoolOp .Or (b :: rest) pos) (tE X Φ W tb)) : PE X (.BoolOp .Or (a :: b :: rest) pos) (tE X Φ W (.or ta tb)) := by
  refine PEw (pe_or ha hb) fun σ H Q ⟨ρ, S, env, w, eo, h⟩ => ?_
  rw [ev] at h
  refine ⟨ρ, S, env, w, eo, (Post.bind h).imp fun x H1 ⟨ρ1, S1, u, e1, w1, r1, h1⟩ => ?_⟩
  split at h1
  · cases r1.bl
    exact ⟨true, rfl, iteT (h1.here w1 relBl)⟩
  · cases r1.bl
    exact ⟨false, rfl, iteF ⟨ρ1, S1, env, w1, eo.mono e1, h1⟩⟩
  · cases h1
theorem s_not {Φ : Cal} (ha : PE X a (tE X Φ W ta)) : PE X (.UnaryOp .Not a pos) (tE X Φ W (.not ta)) := by
  refine PEw (pe_not ha) fun σ H Q ⟨ρ, S, env, w, eo, h⟩ => ?_
  rw [ev] at h
  refine ⟨ρ, S, env, w, eo, (Post.bind h).imp fun x H1 ⟨ρ1, S1, u, e1, w1, r1, h1⟩ => ?_⟩
  split at h1
  · cases r1.bl
    exact ⟨_, rfl, h1.here w1 relBl⟩
  · cases h1
theorem s_ife {Φ : Cal} (hc : PT X c (tTs X Φ W tc)) (ha : PE X a (tE X Φ W ta)) (hb : PE X b (tE X Φ W tb)) : PE X (.IfExp c a b pos) (tE X Φ W (.ife tc ta tb)) := by
  refine PEw (pe_ifExp hc ha hb) fun σ H Q ⟨ρ, S, env, w, eo, h⟩ => ?_
  rw [ev] at h
  refine ⟨ρ, S, env, w, eo, (Post.bind (Rr := Rid) h).imp fun x H1 ⟨ρ1, S1, u, e1, w1, r1, h1⟩ => ?_⟩
  cases r1
  cases x with
  | true => exact iteT ⟨ρ1, S1, env, w1, eo.mono e1, h1⟩
  | false => exact iteF ⟨ρ1, S1, env, w1, eo.mono e1, h1⟩
theorem s_ix {Φ : Cal} (ha : PE X a (tE X Φ W ta)) (hb : PE X b (tE X Φ W tb)) (hs : PlainIx b := by exact fun _ _ => rfl) : PE X (.Subscript a b pos) (tE X Φ W (.ix ta tb)) :=
  PEw (pe_ix (ix_any (W := W)) ha hb hs) fun σ H Q ⟨ρ, S, env, w, eo, h⟩ => by rw [ev] at h; exact two w eo h
theorem s_no {Φ : Cal} : PO X none (tEo X Φ W .no) := POw po_none fun σ H Q ⟨ρ, S, env, w, eo, h⟩ => by rw [evo] at h; exact h.here w rfl
theorem s_so {Φ : Cal} (h : PE X a (tE X Φ W ta)) : PO X (some a) (tEo X Φ W (.so ta)) := by
  refine POw (po_some h) fun σ H Q ⟨ρ, S, env, w, eo, h⟩ => ?_
  rw [evo] at h
  refine ⟨ρ, S, env, w, eo, (Post.bind h).imp fun x H1 ⟨ρ1, S1, u, e1, w1, r1, h1⟩ => ?_⟩
  split at h1
  · cases r1.int
    exact ⟨_, rfl, h1.here w1 rfl⟩
  · cases h1
theorem s_sl {Φ : Cal} {lo hi : Option Expr} {tl th : Eo} {p2 : Pos} (ha : PE X a (tE X Φ W ta)) (hl : PO X lo (tEo X Φ W tl)) (hh : PO X hi (tEo X Φ W th)) : PE X (.Subscript a (.Slice lo hi none p2) pos) (tE X Φ W (.sl ta tl th)) := by
  refine PEw (pe_slice (sl_any (W := W)) ha hl hh) fun σ H Q ⟨ρ, S, env, w, eo, h⟩ => ?_
  rw [ev] at h
  exact ⟨ρ, S, env, w, eo, (Post.bind h).imp fun x H1 ⟨ρ1, S1, u, e1, w1, r1, h1⟩ => ⟨ρ1, S1, env, w1, eo.mono e1, (Post.bind (Rr := Rid) h1).imp fun l H2 ⟨ρ2, S2, l', e2, w2, r2, h2⟩ =>
    ⟨ρ2, S2, env, w2, (eo.mono e1).mono e2, (Post.bind (Rr := Rid) h2).imp fun l2 H3 ⟨ρ3, S3, l3, e3, w3, r3, h3⟩ => by cases r2; cases r3; exact ⟨ρ3, S3, u, w3, (r1.mono e2).mono e3, h3⟩⟩⟩⟩
/-! ### fields, calls -/
theorem ins_at {ρ : List Addr} {S : Sto} {H : Hp} {n : Nat} {x : V} {C : Str} {fs : List (Str × U)} (O : Ok X p nm ad d W) (hC : C ∈ nm.clss) (w : Wok X.K X.mg ρ S H) (r : RelU X.K ρ H (.loc n) x) (h : S[n]? = some (.ins C fs)) :
    ∃ a dx vfs, x = .ref a ∧ ρ[n]? = some a ∧ H a = some (.ins (ad C) dx vfs) ∧ RelF X.K ρ H fs vfs := by
  obtain ⟨a, rfl, ha⟩ := r.loc
  obtain ⟨Ca, dx, vfs, m, e, q⟩ := w.at_ h ha
  rw [(O.sta.cls C hC).1] at m
  cases m
  exact ⟨a, dx, vfs, rfl, ha, e, q⟩
theorem s_fld (O : Ok X p nm ad d W) {Φ : Cal} (C : Str) {f : Str} (ha : PE X a (tE X Φ W ta)) (hC : C ∈ nm.clss := by decide +kernel) (hf : (C, f) ∈ nm.flds := by decide +kernel) (hb : attributeBase a f X.env (eval a X.env) = eval a X.env := by rfl) :
    PE X (.Attribute a f pos) (tE X Φ W (.fld ta C f)) := by
  refine PEw (pe_fld ha hb) fun σ H Q ⟨ρ, S, env, w, eo, h⟩ => ?_
  rw [ev] at h
  refine ⟨ρ, S, env, w, eo, (Post.bind h).imp fun x H1 ⟨ρ1, S1, u, e1, w1, r1, h1⟩ => ?_⟩
  split at h1
  · split at h1
    · rename_i hn
      split at h1
      · rename_i hD
        subst hD
        obtain ⟨a, dx, vfs, rfl, hn', e, q⟩ := ins_at O hC w1 r1 hn
        unfold rO at h1
        split at h1
        · rename_i u' hu
          obtain ⟨v, l, rv⟩ := (q.look (f := f)).1 u' hu
          exact ⟨a, _, dx, vfs, v, rfl, e, (O.sta.cls _ hC).2.1, O.sta.fld _ _ hf, l, h1.here w1 rv⟩
        · cases h1
      · cases h1
    · cases h1
  · cases h1
theorem s_call (O : Ok X p nm ad d W) {f : Str} {px : Pos} (ha : PA X (e :: es) (tEs X (p.cal d) W tes)) (hg : Gl X f := by rfl) (hf : f ∈ nm.fns := by decide +kernel) (hdb : (f == ("__debug__" : Str)) = false := by decide)
    (he : starEach (e :: es) X.env = (false, eval e X.env) :: starEach es X.env := by rfl) (hpl : (backTo pos (starEach es X.env)).any (·.1) = false := by rfl) : PE X (.Call (.Name f px) (e :: es) [] pos) (tE X (p.cal d) W (.call f tes)) := by
  refine ⟨fun pins s σ H Q I ⟨ρ, S, env, w, eo, h⟩ => ?_⟩
  obtain ⟨hm, hk⟩ := O.sta.fn f hf
  rw [ev] at h
  refine wpAny_Call_Name_kw (ld_glob I hg hm ?_ hdb)
  refine PySem.W.callWith_K (h₀ := X.base) I.ok.mod.kin hk (thn (ha.run pos pins s σ H _ I ⟨ρ, S, env, w, eo, Post.bind h⟩) fun us s1 ⟨vs, H1, I1, r, ρ1, S1, us', e1, w1, r1, h1⟩ => ⟨I1.kIn, ?_⟩) he hpl
  exact run_fnQ (O.call f) O.room O.pass I1 r ⟨ρ1, S1, us', w1, r1, h1⟩
theorem s_call0 (O : Ok X p nm ad d W) {f : Str} {px : Pos} (hg : Gl X f := by rfl) (hf : f ∈ nm.fns := by decide +kernel) (hdb : (f == ("__debug__" : Str)) = false := by decide) : PE X (.Call (.Name f px) [] [] pos) (tE X (p.cal d) W (.call f .nil)) := by
  refine ⟨fun pins s σ H Q I ⟨ρ, S, env, w, eo, h⟩ => ?_⟩
  obtain ⟨hm, hk⟩ := O.sta.fn f hf
  rw [ev] at h
  simp only [evs, R.bind] at h
  refine wpAny_Call_Name_kw (ld_glob I hg hm ?_ hdb)
  exact PySem.W.callWith_K0 I.kIn hk (run_fnQ (us := []) (O.call f) O.room O.pass I .nil ⟨ρ, S, [], w, RelUs.nil, h⟩)
/-! ### keywords -/
def tK (X : Cx) (Φ : Cal) (W : XK) (e : Es) : TA := tEs X Φ W e
theorem PKw {kws : List Keyword} {t t' : TA} (h : PK X kws t) (i : ∀ σ H Q, t' σ H Q → t σ H Q) : PK X kws t' := ⟨fun pos pins s σ H Q I q => h.run pos pins s σ H Q I (i _ _ _ q)⟩
theorem k_nil {Φ : Cal} : PK X [] (tEs X Φ W .nil) := PKw pk_nil fun σ H Q ⟨ρ, S, env, w, eo, h⟩ => by rw [evs] at h; exact h.here w RelUs.nil
theorem k_cons {Φ : Cal} {kws : List Keyword} {na : Option Str} {kpos : Pos} (ha : PE X e (tE X Φ W te)) (hr : PK X kws (tEs X Φ W tes)) : PK X (⟨na, e, kpos⟩ :: kws) (tEs X Φ W (.cons te tes)) := by
  refine PKw (pk_cons ha hr) fun σ H Q ⟨ρ, S, env, w, eo, h⟩ => ?_
  rw [evs] at h
  refine ⟨ρ, S, env, w, eo, (Post.bind h).imp fun x H1 ⟨ρ1, S1, u, e1, w1, r1, h1⟩ => ⟨ρ1, S1, env, w1, eo.mono e1, (Post.bind h1).imp fun xs H2 ⟨ρ2, S2, us, e2, w2, r2, h2⟩ => ?_⟩⟩
  exact h2.here w2 (RelUs.cons (r1.mono e2) r2)
theorem RelUs.mono' {ρ ρ' : List Addr} {H H' : Hp} {us : List U} {vs : List V} {K : PySem.W.Frag} (e : Ext ρ H ρ' H') (h : RelUs K ρ H us vs) : RelUs K ρ' H' us vs := RelUs.mono e h
/-- how many there are -/
def Es.plain : Es → Option Nat
  | .nil => some 0
  | .cons _ es => es.plain.map (· + 1)
  | .star _ _ => none
theorem evs_len {Φ : Cal} : ∀ {es : Es} {n : Nat} {env : Env} {S S' : Sto} {us : List U}, es.plain = some n → evs Φ es env S = .ok us S' → us.length = n
  | .nil, n, env, S, S', us, h, e => by
    rw [evs] at e
    cases e
    simp only [Es.plain, Option.some.injEq] at h
    exact h
  | .cons te es, n, env, S, S', us, h, e => by
    rw [evs] at e
    simp only [Es.plain] at h
    cases q : es.plain with
    | none => rw [q] at h; cases h
    | some m =>
      rw [q] at h
      simp only [Option.map_some, Option.some.injEq] at h
      cases q1 : ev Φ te env S with
      | ok u S1 =>
        rw [q1] at e
        simp only [R.bind] at e
        cases q2 : evs Φ es env S1 with
        | ok us1 S2 =>
          rw [q2] at e
          simp only [R.bind] at e
          cases e
          have := evs_len q q2
          simp [this, h]
        | exc c fs S2 => rw [q2] at e; cases e
        | bad => rw [q2] at e; cases e
      | exc c fs S1 => rw [q1] at e; cases e
      | bad => rw [q1] at e; cases e
  | .star _ _, _, _, _, _, _, h, _ => by simp [Es.plain] at h
theorem Post.bind' {α β γ δ : Type} {K : PySem.W.Frag} {mg : Str → Option Value} {Rr : List Addr → Hp → α → γ → Prop} {Rs : List Addr → Hp → β → δ → Prop} {ρ : List Addr} {H : Hp} {r : R α} {f : α → Sto → R β} {Q : δ → Hp → Prop} (h : Post mg K Rs W ρ H (r.bind f) Q) :
    Post mg K Rr W ρ H r fun b H1 => ∃ ρ1 S1 a, r = .ok a S1 ∧ Ext ρ H ρ1 H1 ∧ Wok K mg ρ1 S1 H1 ∧ Rr ρ1 H1 a b ∧ Post mg K Rs W ρ1 H1 (f a S1) Q := by
  cases r with
  | ok a S => exact fun ρ' H' b e w r => ⟨ρ', S, a, rfl, e, w, r, Post.ext e h⟩
  | exc c fs S => exact h
  | bad => exact h
/-- f(e, .., k = v, ..) -/
theorem s_kcall (O : Ok X p nm ad d W) {f : Str} {px : Pos} (n : Nat) (ks : List Str) {kws : List Keyword} {tks : Es} (ha : PA X (e :: es) (tEs X (p.cal d) W tes)) (hk : PK X kws (tEs X (p.cal d) W tks)) (hg : Gl X f := by rfl) (hf : f ∈ nm.fns := by decide +kernel) (hkw : (f, n, ks) ∈ nm.kws := by decide +kernel) (hdb : (f == ("__debug__" : Str)) = false := by decide)
    (h1 : tes.plain = some n := by rfl) (h2 : tks.plain = some ks.length := by rfl)
    (hall : (backToKw pos (keywordEach kws X.env)).all (·.1.isSome) = true := by rfl) (hks : (backToKw pos (keywordEach kws X.env)).filterMap (·.1) = ks := by rfl)
    (he : starEach (e :: es) X.env = (false, eval e X.env) :: starEach es X.env := by rfl)
    (hpl : ((backTo pos (starEach (e :: es) X.env)).any (·.1) || (backToKw pos (keywordEach kws X.env)).any (·.1.isNone)) = false := by rfl) : PE X (.Call (.Name f px) (e :: es) kws pos) (tE X (p.cal d) W (.kcall f tes tks)) := by
  refine ⟨fun pins s σ H Q I ⟨ρ, S, env, w, eo, h⟩ => ?_⟩
  obtain ⟨hm, hkp⟩ := O.sta.fn f hf
  rw [ev] at h
  refine wpAny_Call_Name_kw (ld_glob I hg hm ?_ hdb)
  refine PySem.W.callWith_KW (h₀ := X.base) I.ok.mod.kin hkp hall (thn (ha.run pos pins s σ H _ I ⟨ρ, S, env, w, eo, Post.bind' h⟩) fun us s1 ⟨vs, H1, I1, r, ρ1, S1, us', q1, e1, w1, r1, h1'⟩ => ?_) hpl he
  refine thn (hk.run pos pins s1 σ H1 _ I1 ⟨ρ1, S1, env, w1, eo.mono e1, Post.bind' h1'⟩) fun ws s2 ⟨zs, H2, I2, rz, ρ2, S2, zs', q2, e2, w2, r2, h2'⟩ => ⟨I2.kIn, ?_⟩
  rw [hks]
  exact run_fnK (O.kcall f n ks hkw) O.room O.pass I2 r rz (by show us.length = n; rw [← r.length, r1.length]; exact evs_len h1 q1) (by rw [← rz.length, r2.length]; exact evs_len h2 q2) ⟨ρ2, S2, us' ++ zs', w2, (r1.mono e2).append r2, h2'⟩
/-- f(e, .., *y) -/
theorem s_callS (O : Ok X p nm ad d W) {f : Str} {px : Pos} (ha : PA X (e :: es) (tEs X (p.cal d) W tes)) (hg : Gl X f := by rfl) (hf : f ∈ nm.fns := by decide +kernel) (hdb : (f == ("__debug__" : Str)) = false := by decide)
    (he : starEach (e :: es) X.env = (false, eval e X.env) :: starEach es X.env := by rfl) (hst : (backTo pos (starEach es X.env)).any (·.1) = true := by rfl) : PE X (.Call (.Name f px) (e :: es) [] pos) (tE X (p.cal d) W (.call f tes)) := by
  refine ⟨fun pins s σ H Q I ⟨ρ, S, env, w, eo, h⟩ => ?_⟩
  obtain ⟨hm, hk⟩ := O.sta.fn f hf
  rw [ev] at h
  refine wpAny_Call_Name_kw (ld_glob I hg hm ?_ hdb)
  refine PySem.W.callWith_S2 (h₀ := X.base) I.ok.mod.kin hk (thn (ha.run pos pins s σ H _ I ⟨ρ, S, env, w, eo, Post.bind h⟩) fun us s1 ⟨vs, H1, I1, r, ρ1, S1, us', e1, w1, r1, h1⟩ => ⟨I1.kIn, ?_⟩) he hst
  exact run_fnQ (O.call f) O.room O.pass I1 r ⟨ρ1, S1, us', w1, r1, h1⟩
theorem met_split {Φ : Cal} {C m : Str} {ρ : List Addr} {S : Sto} {H : Hp} {x : V} {u : U} {env : Env} {Q : VK} (O : Ok X p nm ad d W) (hC : C ∈ nm.clss) (w : Wok X.K X.mg ρ S H)
    (h : Post X.mg X.K (RelU X.K) W ρ H (match u with
      | .loc n => (match S[n]? with
        | some (.ins D fs) => if D = C ∧ fs.lookup m = none then (evs Φ tes env S).bind fun us S => Φ.call (C ++ "." ++ m) (.loc n :: us) S else .bad
        | _ => .bad)
      | _ => .bad) Q) (r : RelU X.K ρ H u x) : ∃ n a dx vfs, u = .loc n ∧ x = .ref a ∧ ρ[n]? = some a ∧ H a = some (.ins (ad C) dx vfs) ∧ vfs.lookup m = none ∧ Post X.mg X.K (RelU X.K) W ρ H ((evs Φ tes env S).bind fun us S => Φ.call (C ++ "." ++ m) (.loc n :: us) S) Q := by
  split at h
  · rename_i n
    split at h
    · rename_i hn
      split at h
      · rename_i hD
        obtain ⟨rfl, hl⟩ := hD
        obtain ⟨a, dx, vfs, rfl, hn', e, q⟩ := ins_at O hC w r hn
        exact ⟨n, a, dx, vfs, rfl, rfl, hn', e, (q.look (f := m)).2 hl, h⟩
      · cases h
    · cases h
  · cases h
theorem relLoc {K : PySem.W.Frag} {ρ : List Addr} {H : Hp} {n : Nat} {a : Addr} (h : ρ[n]? = some a) : RelU K ρ H (.loc n) (.ref a) := by simp only [RelU]; exact ⟨a, rfl, h⟩
theorem s_meth (O : Ok X p nm ad d W) (C : Str) {m : Str} {apos : Pos} {pl : Sem Bool} (ho : PE X o (tE X (p.cal d) W to)) (ha : PA X (e :: es) (tEs X (p.cal d) W tes)) (hC : C ∈ nm.clss := by decide +kernel) (hm : (C, m) ∈ nm.mets := by decide +kernel)
    (hst : starEach (e :: es) X.env = (false, eval e X.env) :: starEach es X.env := by rfl) (hpl : (backTo pos (starEach es X.env)).any (·.1) = false := by rfl)
    (ht : eval (.Call (.Attribute o m apos) (e :: es) [] pos) X.env = (do
      let ov ← eval o X.env
      standAt apos.atName
      let (f, first) ← holding [ov] (getMethod ov m pl)
      callWith pos f first (backTo pos (starEach (e :: es) X.env)) (backToKw pos (keywordEach [] X.env))) := by rfl) :
    PE X (.Call (.Attribute o m apos) (e :: es) [] pos) (tE X (p.cal d) W (.meth to C m tes)) := by
  refine ⟨fun pins s σ H Q I ⟨ρ, S, env, w, eo, h⟩ => ?_⟩
  rw [ev] at h
  refine PySem.W.methodCall_KW (pl := pl) (thn (ho.run pins s σ H _ I ⟨ρ, S, env, w, eo, Post.bind h⟩) fun u s1 ⟨x, H1, I1, rx, ρ1, S1, u', e1, w1, r1, h1⟩ => ?_) ht
  obtain ⟨n, a, dx, vfs, rfl, rfl, hn, ea, l, h1⟩ := met_split O hC w1 h1 r1
  obtain rfl : u = Value.ref a := rx
  refine getmeth_ok I1 ea (O.sta.cls C hC).2.1 (O.sta.met C m hm).mt l ?_
  refine PySem.W.callWith_K (first := [.ref a]) (h₀ := X.base) I1.ok.mod.kin (O.sta.met C m hm).mt.kp (thn (ha.run pos pins s1 σ H1 _ I1 ⟨ρ1, S1, env, w1, eo.mono e1, Post.bind h1⟩) fun us s2 ⟨vs, H2, I2, r, ρ2, S2, us', e2, w2, r2, h2⟩ => ⟨I2.kIn, ?_⟩) hst hpl
  exact run_fnQ (us := .ref a :: us) (vs := .ref a :: vs) (O.call (C ++ "." ++ m)) O.room O.pass I2 (.cons rfl r) ⟨ρ2, S2, .loc n :: us', w2, RelUs.cons (relLoc (e2.at_ hn)) r2, h2⟩
theorem s_meth0 (O : Ok X p nm ad d W) (C : Str) {m : Str} {apos : Pos} {pl : Sem Bool} (ho : PE X o (tE X (p.cal d) W to)) (hC : C ∈ nm.clss := by decide +kernel) (hm : (C, m) ∈ nm.mets := by decide +kernel)
    (ht : eval (.Call (.Attribute o m apos) [] [] pos) X.env = (do
      let ov ← eval o X.env
      standAt apos.atName
      let (f, first) ← holding [ov] (getMethod ov m pl)
      callWith pos f first (backTo pos (starEach [] X.env)) (backToKw pos (keywordEach [] X.env))) := by rfl) :
    PE X (.Call (.Attribute o m apos) [] [] pos) (tE X (p.cal d) W (.meth to C m .nil)) := by
  refine ⟨fun pins s σ H Q I ⟨ρ, S, env, w, eo, h⟩ => ?_⟩
  rw [ev] at h
  refine PySem.W.methodCall_KW (pl := pl) (thn (ho.run pins s σ H _ I ⟨ρ, S, env, w, eo, Post.bind h⟩) fun u s1 ⟨x, H1, I1, rx, ρ1, S1, u', e1, w1, r1, h1⟩ => ?_) ht
  obtain ⟨n, a, dx, vfs, rfl, rfl, hn, e, l, h1⟩ := met_split O hC w1 h1 r1
  obtain rfl : u = Value.ref a := rx
  simp only [evs, R.bind] at h1
  refine getmeth_ok I1 e (O.sta.cls C hC).2.1 (O.sta.met C m hm).mt l ?_
  exact PySem.W.callWith_K0 (first := [.ref a]) I1.kIn (O.sta.met C m hm).mt.kp (run_fnQ (us := [.ref a]) (vs := [.ref a]) (O.call (C ++ "." ++ m)) O.room O.pass I1 (.cons rfl .nil) ⟨ρ1, S1, [.loc n], w1, RelUs.cons (relLoc hn) RelUs.nil, h1⟩)
/-- o.m( *y) -/
theorem s_methS (O : Ok X p nm ad d W) (C : Str) {m : Str} {sp apos : Pos} (ho : PE X o (tE X (p.cal d) W to)) (ha : PE X e (tE X (p.cal d) W te)) (hC : C ∈ nm.clss := by decide +kernel) (hm : (C, m) ∈ nm.mets := by decide +kernel)
    (hbase : attributeBase o m X.env (eval o X.env) = eval o X.env := by rfl) : PE X (.Call (.Attribute o m apos) [.Starred e sp] [] pos) (tE X (p.cal d) W (.meth to C m (.star te .nil))) := by
  refine ⟨fun pins s σ H Q I ⟨ρ, S, env, w, eo, h⟩ => ?_⟩
  rw [ev] at h
  refine starcall_of hbase (thn (ho.run pins s σ H _ I ⟨ρ, S, env, w, eo, Post.bind h⟩) fun uo s1 ⟨x, H1, I1, rx, ρ1, S1, u, e1, w1, r1, h1⟩ => ?_)
  obtain ⟨n, a, dx, vfs, rfl, rfl, hn, ea, l, h1⟩ := met_split O hC w1 h1 r1
  obtain rfl : uo = Value.ref a := rx
  have bm := O.sta.met C m hm
  refine getbound_ok I1 ea (O.sta.cls C hC).2.1 bm l fun q s2 hq I2 => ?_
  have x0 : Ext ρ1 H1 ρ1 (upd H1 q (.met (ad (C ++ "." ++ m)) a)) := Ext.grow (upd_grow hq)
  have w0 := w1.grow (upd_grow (o := .met (ad (C ++ "." ++ m)) a) hq)
  rw [evs] at h1
  refine PySem.W.ks_call (P := PySem.W.MethP X.K q (ad (C ++ "." ++ m)) (.ref a)) rfl (PySem.W.keeps_M bm.fi) (PySem.W.ks_lone ?_)
  have hp : tE X (p.cal d) W te σ (upd H1 q (.met (ad (C ++ "." ++ m)) a)) fun y H2 => ∃ b vs, y = .ref b ∧ (SqT X.K H2 b vs ∨ SqL X.K H2 b vs) ∧ H2 q = some (.met (ad (C ++ "." ++ m)) a) ∧ spC X.K X.mg ((p.cal d).call (C ++ "." ++ m)) (.ref a :: vs) H2 Q W := by
    refine ⟨ρ1, S1, env, w0, (eo.mono e1).mono x0, ?_⟩
    cases hev : ev (p.cal d) te env S1 with
    | ok u2 S2 =>
      rw [hev] at h1
      simp only [R.bind] at h1
      intro ρ2 H2 y e2 w2 r2
      cases hi : items? S2 u2 with
      | some us =>
        rw [hi] at h1
        simp only [evs, List.append_nil] at h1
        obtain ⟨b, vs, rfl, hb, hr⟩ := w2.items hi r2
        refine ⟨b, vs, rfl, hb.symm, e2.imm q _ upd_same trivial, ρ2, S2, .loc n :: us, w2, RelUs.cons (relLoc (e2.at_ hn)) hr, ?_⟩
        exact Post.ext (x0.trans e2) h1
      | none =>
        rw [hi] at h1
        exact h1.elim
    | exc c fs S2 =>
      rw [hev] at h1
      exact Post.ext x0 h1
    | bad =>
      rw [hev] at h1
      exact h1.elim
  refine thn (ha.run pins s2 σ _ _ I2 hp) fun v s3 ⟨y, H2, I3, ry, b, vs, ey, ht, hmq, hsp⟩ => ?_
  subst ey
  obtain rfl : v = Value.ref b := ry
  refine StX.star_any I3 ht fun us s4 I4 rv => ⟨met_P I4 hmq, wpAny_call (PySem.W.method_call (met_P I4 hmq).1 ?_)⟩
  exact codeAny_mono (O.call (C ++ "." ++ m) X.A X.stack s4 _ (.ref a :: us) (.ref a :: vs) Q W O.room I4.env0 (.cons rfl rv) hsp) fun z s' hz => ends_of O.pass I4 z s' hz
theorem s_mk (O : Ok X p nm ad d W) {C : Str} {px : Pos} (ha : PA X (e :: es) (tEs X (p.cal d) W tes)) (hg : Gl X C := by rfl) (hC : C ∈ nm.clss := by decide +kernel) (hdb : (C == ("__debug__" : Str)) = false := by decide)
    (he : starEach (e :: es) X.env = (false, eval e X.env) :: starEach es X.env := by rfl) (hpl : (backTo pos (starEach es X.env)).any (·.1) = false := by rfl) : PE X (.Call (.Name C px) (e :: es) [] pos) (tE X (p.cal d) W (.mk C tes)) := by
  obtain ⟨hm, hc, hM⟩ := O.sta.cls C hC
  refine ⟨fun pins s σ H Q I ⟨ρ, S, env, w, eo, h⟩ => ?_⟩
  rw [ev] at h
  refine wpAny_Call_Name_kw (ld_glob I hg hm ?_ hdb)
  refine PySem.W.callWith_K (h₀ := X.base) I.ok.mod.kin hM.kp (thn (ha.run pos pins s σ H _ I ⟨ρ, S, env, w, eo, Post.bind h⟩) fun us0 s1 ⟨vs, H1, I1, rr, ρ1, S1, us, e1, w1, r1, h1⟩ => ⟨I1.kIn, ?_⟩) he hpl
  refine run_mkQ hM (O.init (C ++ ".__init__")) O.room O.pass I1 rr ?_
  intro x dx hx hdx hne
  have g1 : ∀ a o, H1 a = some o → upd (upd H1 dx (.own x)) x (.ins (ad C) dx []) a = some o := fun a o q => by
    rw [upd_ne (ne_of_none q hx), upd_ne (ne_of_none q hdx)]
    exact q
  have e2 : Ext ρ1 H1 (ρ1 ++ [x]) (upd (upd H1 dx (.own x)) x (.ins (ad C) dx [])) := Ext.push g1
  have w2 := w1.push (c := .ins C []) hx g1 ⟨ad C, dx, [], hm, upd_same, .nil⟩
  have hn := push_at (p := x) w1.len
  refine ⟨ρ1 ++ [x], _, .loc S1.length :: us, w2, RelUs.cons (relLoc hn) (r1.mono e2), ?_⟩
  refine (Post.bind (Post.ext e2 h1)).imp fun v H2 ⟨ρ3, S3, u, e3, w3, r3, h3⟩ => ?_
  split at h3
  · cases r3.non
    exact ⟨rfl, h3.here w3 (relLoc (e3.at_ hn))⟩
  · cases h3
end
end Oz

end

section
set_option maxHeartbeats 4000000
/-! Oz7: tests, built-in calls, what is walked, comprehensions. -/
namespace Oz
open PySem PySem.Spec PyProof.Rows L2
section
variable {X : Cx} {p : Pg} {nm : Names} {ad : Str → Addr} {d : Nat} {W : XK} {Φ : Cal} {a b e c o : Expr} {es rest : List Expr} {ta tb te to : E} {tc td : T} {tes : Es} {pos : Pos}
/-! ### tests -/
theorem truV_rel {K : PySem.W.Frag} {mg : Str → Option Value} {ρ : List Addr} {S : Sto} {H : Hp} {a : U} {v : V} {k : Bool} (w : Wok K mg ρ S H) (r : RelU K ρ H a v) (h : truU a S = some k) : TruV K v H k := by
  unfold truU at h
  split at h
  · cases h; cases r.non; rfl
  · cases h; cases r.bl; rfl
  · cases h; cases r.int; rfl
  · cases r.str
    split at h
    · rename_i hz; cases h; exact ⟨hz, rfl⟩
    · cases h
  · rw [Option.map_eq_some_iff] at h
    obtain ⟨xs, hx, rfl⟩ := h
    obtain ⟨q, vs, rfl, hq, hr⟩ := w.items hx r
    have e : vs.isEmpty = xs.isEmpty := by
      have := hr.length
      cases xs <;> cases vs <;> simp_all
    rcases hq with hq | hq
    · exact .inl ⟨vs, hq, by rw [e]⟩
    · exact .inr (.inl ⟨vs, hq, by rw [e]⟩)
theorem s_tt (ha : PE X a (tE X Φ W ta)) (he : ∀ whole, isTrue a X.env whole = (do let v ← whole; standAt a.pos; holding [v] (truthy v)) := by intro _; rfl) : PT X a (tTs X Φ W (.e ta)) := by
  refine PTw' (pt_truth ha he) fun σ H Q ⟨ρ, S, env, w, eo, h⟩ => ?_
  rw [evt] at h
  refine ⟨ρ, S, env, w, eo, (Post.bind h).imp fun x H1 ⟨ρ1, S1, u, e1, w1, r1, h1⟩ => ?_⟩
  unfold rO at h1
  split at h1
  · rename_i k hk
    exact ⟨k, truV_rel w1 r1 hk, h1.here w1 rfl⟩
  · cases h1
theorem s_tcmp (O : Ok X p nm ad d W) (o : Cm) (ha : PE X a (tE X Φ W ta)) (hb : PE X b (tE X Φ W tb)) (hm : behindInMarks (cmOf o) b = false := by rfl) : PT X (.Compare a [cmOf o] [b] pos) (tTs X Φ W (.e (.cmp o ta tb))) := by
  refine PTw' (pt_cmpR (op_cmp (W := W) O.hu o) ha hb hm) fun σ H Q ⟨ρ, S, env, w, eo, h⟩ => ?_
  rw [evt, ev] at h
  have h0 : Post X.mg X.K Rid W ρ H ((ev Φ ta env S).bind fun x S => (ev Φ tb env S).bind fun y S => (cmpU o x y S).bind fun z S => rO (truU z S) S) Q := by
    cases hx : ev Φ ta env S with
    | ok x S1 =>
      rw [hx] at h
      simp only [R.bind] at h ⊢
      cases hy : ev Φ tb env S1 with
      | ok y S2 => rw [hy] at h; exact h
      | exc c fs S2 => rw [hy] at h; exact h
      | bad => rw [hy] at h; exact h
    | exc c fs S1 => rw [hx] at h; exact h
    | bad => rw [hx] at h; exact h
  refine ⟨ρ, S, env, w, eo, (Post.bind h0).imp fun x H1 ⟨ρ1, S1, u, e1, w1, r1, h1⟩ => ⟨ρ1, S1, env, w1, eo.mono e1, (Post.bind h1).imp fun y H2 ⟨ρ2, S2, u2, e2, w2, r2, h2⟩ => ?_⟩⟩
  refine ⟨ρ2, S2, u, u2, w2, r1.mono e2, r2, ?_⟩
  unfold cmpU at h2 ⊢
  split at h2
  · rename_i k hk
    intro ρ3 H3 v e3 w3 r3
    cases r3.bl
    exact ⟨k, rfl, h2 ρ3 H3 k e3 w3 rfl⟩
  · cases h2
theorem s_tnot (ha : PT X a (tTs X Φ W tc)) : PT X (.UnaryOp .Not a pos) (tTs X Φ W (.not tc)) := by
  refine PTw' (pt_not ha) fun σ H Q ⟨ρ, S, env, w, eo, h⟩ => ?_
  rw [evt] at h
  refine ⟨ρ, S, env, w, eo, (Post.bind (Rr := Rid) h).imp fun x H1 ⟨ρ1, S1, u, e1, w1, r1, h1⟩ => ?_⟩
  cases r1
  exact h1.here w1 rfl
theorem w_and1 (ha : PT X a (tTs X Φ W tc)) : PW X (.BoolOp .And [a] pos) (tTs X Φ W tc) := pw_and1 ha
theorem w_or1 (ha : PT X a (tTs X Φ W tc)) : PW X (.BoolOp .Or [a] pos) (tTs X Φ W tc) := pw_or1 ha
theorem w_and (ha : PT X a (tTs X Φ W tc)) (hb : PW X (.BoolOp .And (b :: rest) pos) (tTs X Φ W td)) : PW X (.BoolOp .And (a :: b :: rest) pos) (tTs X Φ W (.and tc td)) := by
  refine PWw (pw_and ha hb) fun σ H Q ⟨ρ, S, env, w, eo, h⟩ => ?_
  rw [evt] at h
  refine ⟨ρ, S, env, w, eo, (Post.bind (Rr := Rid) h).imp fun x H1 ⟨ρ1, S1, u, e1, w1, r1, h1⟩ => ?_⟩
  cases r1
  cases x with
  | true => exact iteT ⟨ρ1, S1, env, w1, eo.mono e1, h1⟩
  | false => exact iteF (h1.here w1 rfl)
theorem w_or (ha : PT X a (tTs X Φ W tc)) (hb : PW X (.BoolOp .Or (b :: rest) pos) (tTs X Φ W td)) : PW X (.BoolOp .Or (a :: b :: rest) pos) (tTs X Φ W (.or tc td)) := by
  refine PWw (pw_or ha hb) fun σ H Q ⟨ρ, S, env, w, eo, h⟩ => ?_
  rw [evt] at h
  refine ⟨ρ, S, env, w, eo, (Post.bind (Rr := Rid) h).imp fun x H1 ⟨ρ1, S1, u, e1, w1, r1, h1⟩ => ?_⟩
  cases r1
  cases x with
  | true => exact iteT (h1.here w1 rfl)
  | false => exact iteF ⟨ρ1, S1, env, w1, eo.mono e1, h1⟩
/-! ### built-in functions, methods -/
theorem bf_read {bf : Bf} {σ : L2.St} {H : Hp} {Q : VK} (h : tE X Φ W (.bf bf tes) σ H Q) : tEs X Φ W tes σ H fun vs H1 => bfR X W bf vs H1 Q := by
  obtain ⟨ρ, S, env, w, eo, h⟩ := h
  rw [ev] at h
  exact ⟨ρ, S, env, w, eo, (Post.bind h).imp fun x H1 ⟨ρ1, S1, u, e1, w1, r1, h1⟩ => ⟨ρ1, S1, u, w1, r1, h1⟩⟩
theorem s_bfB (O : Ok X p nm ad d W) (bf : Bf) {x : Str} {id : String} {px : Pos} (hc : CallR X (.builtin id) (bfR X W bf)) (hv : bootBuiltins x = some (.builtin id)) (ha : PA X (e :: es) (tEs X Φ W tes)) (hg : Gl X x := by rfl) (hm : x ∈ nm.bins := by decide +kernel) (hn : x ≠ "__name__" := by decide) (hdb : (x == ("__debug__" : Str)) = false := by decide)
    (he : starEach (e :: es) X.env = (false, eval e X.env) :: starEach es X.env := by rfl) (hpl : (backTo pos (starEach es X.env)).any (·.1) = false := by rfl) : PE X (.Call (.Name x px) (e :: es) [] pos) (tE X Φ W (.bf bf tes)) :=
  PEw (pe_callB hc hg (O.sta.bin x hm) hv ha hn hdb he hpl) fun σ H Q h => bf_read h
theorem s_bfT (O : Ok X p nm ad d W) (bf : Bf) {x : Str} {id : String} {px : Pos} (hc : CallR X (.type id) (bfR X W bf)) (hv : bootBuiltins x = some (.type id)) (ha : PA X (e :: es) (tEs X Φ W tes)) (hg : Gl X x := by rfl) (hm : x ∈ nm.bins := by decide +kernel) (hn : x ≠ "__name__" := by decide) (hdb : (x == ("__debug__" : Str)) = false := by decide)
    (he : starEach (e :: es) X.env = (false, eval e X.env) :: starEach es X.env := by rfl) (hpl : (backTo pos (starEach es X.env)).any (·.1) = false := by rfl) : PE X (.Call (.Name x px) (e :: es) [] pos) (tE X Φ W (.bf bf tes)) :=
  PEw (pe_callTy hc hg (O.sta.bin x hm) hv ha hn hdb he hpl) fun σ H Q h => bf_read h
theorem s_bm (bm : Bm) {Ty : String} {name : Str} {id : String} {apos : Pos} (hTy : Ty = tyOfB bm) (pa : PlainAttrs Ty) (slot : Slot Ty name id) (hty : typeOf (.builtin id) = pure (.type "method_descriptor")) (hm : MtR X id (bmR X W bm)) (ho : PE X o (tE X Φ W to)) (ha : PA X (e :: es) (tEs X Φ W tes))
    (hbase : attributeBase o name X.env (eval o X.env) = eval o X.env := by rfl)
    (hfew : ((backTo pos (starEach (e :: es) X.env)).all (fun x => !x.1) && (backToKw pos (keywordEach [] X.env)).all (fun x => x.1.isSome) && decide ((e :: es).length + ([] : List Keyword).length + (if ([] : List Keyword).isEmpty then 0 else 1) < 30)) = true := by rfl)
    (hline : (apos.endLine == pos.line) = true := by rfl) (hs : starEach (e :: es) X.env = (false, eval e X.env) :: starEach es X.env := by rfl) (hplain : (backTo pos (starEach es X.env)).any (·.1) = false := by rfl) : PE X (.Call (.Attribute o name apos) (e :: es) [] pos) (tE X Φ W (.bm bm to tes)) := by
  refine PEw (pe_bm pa slot hty hm ho ha hbase hfew hline hs hplain) fun σ H Q ⟨ρ, S, env, w, eo, h⟩ => ?_
  rw [ev] at h
  refine ⟨ρ, S, env, w, eo, (Post.bind h).imp fun x H1 ⟨ρ1, S1, u, e1, w1, r1, h1⟩ => ?_⟩
  split at h1
  · rename_i hb
    exact ⟨by rw [hTy]; exact tyB_rel w1 r1 hb, ρ1, S1, env, w1, eo.mono e1, (Post.bind h1).imp fun xs H2 ⟨ρ2, S2, us, e2, w2, r2, h2⟩ => ⟨ρ2, S2, u, us, w2, r1.mono e2, r2, h2⟩⟩
  · cases h1
theorem s_bm0 (bm : Bm) {Ty : String} {name : Str} {id : String} {apos : Pos} (hTy : Ty = tyOfB bm) (pa : PlainAttrs Ty) (slot : Slot Ty name id) (hty : typeOf (.builtin id) = pure (.type "method_descriptor")) (hm : MtR X id (bmR X W bm)) (ho : PE X o (tE X Φ W to))
    (hbase : attributeBase o name X.env (eval o X.env) = eval o X.env := by rfl) (hline : (apos.endLine == pos.line) = true := by rfl) : PE X (.Call (.Attribute o name apos) [] [] pos) (tE X Φ W (.bm bm to .nil)) := by
  refine PEw (pe_bm0 pa slot hty hm ho hbase hline) fun σ H Q ⟨ρ, S, env, w, eo, h⟩ => ?_
  rw [ev] at h
  refine ⟨ρ, S, env, w, eo, (Post.bind h).imp fun x H1 ⟨ρ1, S1, u, e1, w1, r1, h1⟩ => ?_⟩
  split at h1
  · rename_i hb
    simp only [evs, R.bind] at h1
    exact ⟨by rw [hTy]; exact tyB_rel w1 r1 hb, ρ1, S1, u, [], w1, r1, RelUs.nil, h1⟩
  · cases h1
/-! ### isinstance of built-in types -/
theorem tyU_rel {K : PySem.W.Frag} {mg : Str → Option Value} {ρ : List Addr} {S : Sto} {H : Hp} {a : U} {v : V} {t : String} (w : Wok K mg ρ S H) (r : RelU K ρ H a v) (h : tyU S a = some t) : TyX K H v (.type t) := by
  unfold tyU at h
  split at h
  · cases h; cases r.non; exact .base .non
  · cases h; cases r.bl; exact .base (.bl _)
  · cases h; cases r.int; exact .base (.int _)
  · cases h; cases r.str; exact .base (.str _)
  · cases h
    obtain ⟨q, vs, rfl, hq, _⟩ := r.tup
    rcases hq with (hq | ⟨o, hq⟩) | ⟨o, _, _, hk, hc, _⟩
    · exact .base (.tup hq)
    · exact .fTuple hq
    · exact .kTuple hk hc
  · obtain ⟨q, rfl, hn⟩ := r.loc
    split at h
    · rename_i hx
      cases h
      obtain ⟨vs, e, _⟩ := w.at_ hx hn
      exact .base (.lst e)
    · rename_i hx
      cases h
      obtain ⟨vs, e, _⟩ := w.at_ hx hn
      rcases e with ⟨o, e⟩ | ⟨o, its, n, hk, hc, _⟩
      · exact .base (.frz e)
      · exact .kList hk hc
    · rename_i hx
      cases h
      obtain ⟨vs, e, _⟩ := w.at_ hx hn
      exact .base (.dK e)
    · cases h
theorem s_isi (O : Ok X p nm ad d W) {t : String} {x : Str} {p1 p2 : Pos} (ha : PE X a (tE X Φ W ta)) (hvx : bootBuiltins x = some (.type t)) (hg : Gl X "isinstance" := by rfl) (hm : ("isinstance" : Str) ∈ nm.bins := by decide +kernel) (hgx : Gl X x := by rfl) (hmx : x ∈ nm.bins := by decide +kernel) (hnx : x ≠ "__name__" := by decide) (hdx : (x == ("__debug__" : Str)) = false := by decide)
    (he : starEach [a, .Name x p2] X.env = (false, eval a X.env) :: starEach [.Name x p2] X.env := by rfl) (he2 : starEach [Expr.Name x p2] X.env = (false, eval (.Name x p2) X.env) :: starEach [] X.env := by rfl) (hpl : (backTo pos (starEach [.Name x p2] X.env)).any (·.1) = false := by rfl) :
    PE X (.Call (.Name "isinstance" p1) [a, .Name x p2] [] pos) (tE X Φ W (.isi ta t)) := by
  refine PEw (pe_callB call_isi hg (O.sta.bin _ hm) boot_isinstance (pa_cons ha (pa_cons (pe_bltn hgx (O.sta.bin _ hmx) hvx (v := .ty t) rfl hnx hdx) pa_nil he2) he) (by decide) (by decide) he hpl) fun σ H Q ⟨ρ, S, env, w, eo, h⟩ => ?_
  rw [ev] at h
  refine ⟨ρ, S, env, w, eo, (Post.bind h).imp fun v H1 ⟨ρ1, S1, u, e1, w1, r1, h1⟩ => ?_⟩
  split at h1
  · rename_i t' ht
    split at h1
    · rename_i k hk
      exact ⟨v, .ty t, .type t', .type t, k, rfl, .ty t, tyU_rel w1 r1 ht, kit_ty hk, h1.here w1 relBl⟩
    · cases h1
  · cases h1
/-! ### what is walked -/
/-- J goes over all -/
def Goes (K : PySem.W.Frag) (mg : Str → Option Value) (J : It) (all : List U) (src : Option Nat) (ρ0 : List Addr) (H0 : Hp) : Prop :=
  ∀ ρ S H (i : Nat), Ext ρ0 H0 ρ H → Wok K mg ρ S H → stays S all src = true → (i < all.length → J.go i H ∧ ∀ x H', J.yld i H x H' → H' = H ∧ ∃ u, all[i]? = some u ∧ RelU K ρ H u x) ∧ (all.length ≤ i → J.stop i H)
def tI (X : Cx) (Φ : Cal) (W : XK) (te : E) : TI := fun σ H R => tE X Φ W te σ H fun x H1 => ∃ ρ1 S1 u all src, Wok X.K X.mg ρ1 S1 H1 ∧ RelU X.K ρ1 H1 u x ∧ iterU S1 u = some (all, src) ∧ ∀ J, Goes X.K X.mg J all src ρ1 H1 → R J H1
theorem goes_tup {K : PySem.W.Frag} {mg : Str → Option Value} {a : Addr} {vs : List V} {all : List U} {ρ0 : List Addr} {H0 : Hp} (h : SqT K H0 a vs) (r : RelUs K ρ0 H0 all vs) : Goes K mg (Itt K a) all none ρ0 H0 ∧ True := by
  refine ⟨fun ρ S H i e w _ => ⟨fun hi => ?_, fun hi => ⟨vs, e.sqt K h, by rw [r.length]; exact hi⟩⟩, trivial⟩
  obtain ⟨v, hv, rv⟩ := (r.mono e).get (List.getElem?_eq_getElem hi)
  exact ⟨⟨vs, v, e.sqt K h, hv⟩, fun x H' y => ⟨y.1, all[i], List.getElem?_eq_getElem hi, by
    have := y.2 vs (e.sqt K h)
    rw [hv] at this
    cases this
    exact rv⟩⟩
theorem goes_lst {K : PySem.W.Frag} {mg : Str → Option Value} {a : Addr} {n : Nat} {all : List U} {ρ0 : List Addr} {H0 : Hp} (hn : ρ0[n]? = some a) : Goes K mg (Itl K a) all (some n) ρ0 H0 := by
  intro ρ S H i e w st
  have hn' := e.at_ hn
  have hl : ∃ vs, SqL K H a vs ∧ RelUs K ρ H all vs := by
    rcases isLst_iff (show isLst S n all = true from st) with h | h
    · obtain ⟨vs, q, r⟩ := w.at_ h hn'
      exact ⟨vs, .of q, r⟩
    · obtain ⟨vs, q, r⟩ := w.at_ h hn'
      exact ⟨vs, q.sql, r⟩
  obtain ⟨vs, q, r⟩ := hl
  refine ⟨fun hi => ?_, fun hi => ⟨vs, q, by rw [r.length]; exact hi⟩⟩
  obtain ⟨v, hv, rv⟩ := r.get (List.getElem?_eq_getElem hi)
  exact ⟨⟨vs, v, q, hv⟩, fun x H' y => ⟨y.1, all[i], List.getElem?_eq_getElem hi, by
    have := y.2 vs q
    rw [hv] at this
    cases this
    exact rv⟩⟩
theorem goes_str {K : PySem.W.Frag} {mg : Str → Option Value} {z : Str} {ρ0 : List Addr} {H0 : Hp} : Goes K mg (Its z) (z.cps.toList.map fun c => U.str ⟨#[c]⟩) none ρ0 H0 := by
  intro ρ S H i e w st
  have hl : (z.cps.toList.map fun c => U.str ⟨#[c]⟩).length = z.cps.size := by simp
  refine ⟨fun hi => ⟨by rw [hl] at hi; exact hi, fun x H' y => ?_⟩, fun hi => by rw [hl] at hi; exact hi⟩
  obtain ⟨y1, c, hc, rfl⟩ := y
  refine ⟨y1, .str ⟨#[c]⟩, ?_, relStr⟩
  rw [List.getElem?_map, Array.getElem?_toList, hc]
  rfl
theorem goes_rng {K : PySem.W.Frag} {mg : Str → Option Value} {a b : Int} {ρ0 : List Addr} {H0 : Hp} : Goes K mg (Itr a (b - a).toNat) (ranged a b) none ρ0 H0 := by
  intro ρ S H i e w st
  have hl : (ranged a b).length = (b - a).toNat := by simp [ranged]
  refine ⟨fun hi => ⟨by rw [hl] at hi; exact hi, fun x H' y => ?_⟩, fun hi => by rw [hl] at hi; exact hi⟩
  obtain ⟨y1, rfl⟩ := y
  rw [hl] at hi
  refine ⟨y1, .int (a + (i : Nat)), ?_, relInt⟩
  unfold ranged
  rw [List.getElem?_map, List.getElem?_range hi]
  rfl
theorem pi_any {tg : Expr} (ha : PE X a (tE X Φ W ta)) : PI X tg a (tI X Φ W ta) := by
  constructor
  intro pins s σ H R I h
  refine thn (ha.run pins s σ H _ I h) fun v s1 ⟨x, H1, I1, r1, q1⟩ => ?_
  obtain ⟨ρ1, S1, u, all, src, w1, ru, hi, hR⟩ := q1
  unfold iterU at hi
  split at hi
  · cases hi
    obtain ⟨q, vs, rfl, hq, hr⟩ := ru.tup
    cases r1
    obtain ⟨its, rv, pt, _⟩ := I1.tuple hq
    refine wpAny_pyIter_tuple (show s1.heap.IsTuple q its.toArray from pt) ?_
    refine ⟨s1.heap.objs.size, [s1.heap.objs.size], _, _, H1, rfl, ?_, turn_tuple q _, ⟨_, Heap.get?_push_size _ rfl, rfl, rfl⟩, ?_, hR _ (goes_tup hq hr).1⟩
    · exact I1.kept (t' := s1.toks) fun b o e => Heap.get?_push_of_some _ e
    · intro b hb
      have eb : b = s1.heap.objs.size := by simpa using hb
      rw [eb]
      exact I1.fpOk (Nat.le_refl _) (I1.hok.fresh (Nat.le_refl _))
  · cases hi
    cases ru.str
    obtain ⟨t, rfl⟩ := r1
    have hg := hR _ (goes_str (K := X.K) (mg := X.mg))
    cases hz : (Array.all _ fun (x : Nat) => decide (x < 128))
    · exact wpAny_pyIter_wide hz (pi_one (tk := s1.toks) I1 _ (turn_str _ _ t "str_iterator" (.inr rfl)) ⟨_, Heap.get?_push_size _ rfl, rfl, rfl⟩ hg)
    · exact wpAny_pyIter_ascii hz (pi_one (tk := s1.toks) I1 _ (turn_str _ _ t "str_ascii_iterator" (.inl rfl)) ⟨_, Heap.get?_push_size _ rfl, rfl, rfl⟩ hg)
  · rename_i n
    obtain ⟨q, rfl, hn⟩ := ru.loc
    have hl : ∃ vs, SqL X.K H1 q vs ∧ src = some n := by
      split at hi
      · rename_i hx
        cases hi
        obtain ⟨vs, e, r⟩ := w1.at_ hx hn
        exact ⟨vs, .of e, rfl⟩
      · rename_i hx
        cases hi
        obtain ⟨vs, e, r⟩ := w1.at_ hx hn
        exact ⟨vs, e.sql, rfl⟩
      · cases hi
    obtain ⟨vs, hq, rfl⟩ := hl
    cases r1
    obtain ⟨its, rv, pl, _⟩ := I1.list hq
    refine wpAny_pyIter_list pl.isList ?_
    refine ⟨s1.heap.objs.size, [s1.heap.objs.size], _, _, H1, rfl, ?_, turn_list q _, ⟨_, Heap.get?_push_size _ rfl, rfl, rfl⟩, ?_, hR _ (goes_lst hn)⟩
    · exact I1.kept (t' := s1.toks) fun b o e => Heap.get?_push_of_some _ e
    · intro b hb
      have eb : b = s1.heap.objs.size := by simpa using hb
      rw [eb]
      exact I1.fpOk (Nat.le_refl _) (I1.hok.fresh (Nat.le_refl _))
  · cases hi
/-! ### targets -/
def gsOf : List Nat → TGs
  | [] => gNil
  | i :: is => gCons (gName i) (gsOf is)
def gOf (K : PySem.W.Frag) (tp : Bool) (is : List Nat) : TG := if tp then gTup K is.length (gsOf is) else match is with | [i] => gName i | _ => fun _ _ _ _ => False
theorem wipe_set {σ : L2.St} {i : Nat} {x : Option V} : ∀ {is : List Nat}, i ∈ is → wipe (σ.set i x) is = wipe σ is
  | j :: is, h => by
    unfold wipe
    by_cases hj : i = j
    · subst hj
      by_cases hm : i ∈ is
      · rw [wipe_set hm]
      · have sw : ∀ (js : List Nat), i ∉ js → wipe (σ.set i x) js = (wipe σ js).set i x := by
          intro js
          induction js with
          | nil => intro _; rfl
          | cons k ks ih =>
            intro hk
            simp only [List.mem_cons, not_or] at hk
            unfold wipe
            rw [ih hk.2, List.set_comm _ _ hk.1]
        rw [sw is hm, List.set_set]
    · rcases List.mem_cons.mp h with z | z
      · exact absurd z hj
      · rw [wipe_set z]
theorem gs_ok {K : PySem.W.Frag} {ρ : List Addr} {H : Hp} : ∀ {is : List Nat} {us : List U} {vs : List V} {env : Env} {σ : L2.St} {Q : L2.St → Hp → Prop} (js : List Nat), (∀ i ∈ is, i ∈ js) → us.length = is.length → EnvOk K ρ H env σ → RelUs K ρ H us vs →
    (∀ σ', EnvOk K ρ H (setAll is us env) σ' → wipe σ' js = wipe σ js → Q σ' H) → gsOf is vs σ H Q
  | [], us, vs, env, σ, Q, js, _, hl, eo, r, q => by
    cases us with
    | nil =>
      simp only [RelUs] at r
      subst r
      exact ⟨rfl, q σ eo rfl⟩
    | cons _ _ => simp at hl
  | i :: is, us, vs, env, σ, Q, js, hj, hl, eo, r, q => by
    cases us with
    | nil => simp at hl
    | cons u us =>
      simp only [RelUs] at r
      obtain ⟨v, vs', rfl, r1, r2⟩ := r
      refine ⟨v, vs', rfl, ?_⟩
      show gsOf is vs' (σ.set i (some v)) H Q
      refine gs_ok js (fun k hk => hj k (List.mem_cons_of_mem _ hk)) (by simpa using hl) (eo.set i r1) r2 fun σ' e1 e2 => q σ' e1 ?_
      rw [e2]
      exact wipe_set (hj i List.mem_cons_self)
theorem g_ok {K : PySem.W.Frag} {ρ : List Addr} {H : Hp} {tp : Bool} {is : List Nat} {u : U} {v : V} {env env' : Env} {σ : L2.St} {Q : L2.St → Hp → Prop} (h : setN tp is u env = some env') (eo : EnvOk K ρ H env σ) (r : RelU K ρ H u v)
    (q : ∀ σ', EnvOk K ρ H env' σ' → wipe σ' is = wipe σ is → Q σ' H) : gOf K tp is v σ H Q := by
  unfold setN at h
  unfold gOf
  cases tp with
  | true =>
    simp only [if_true] at h ⊢
    split at h
    · split at h
      · rename_i us hl
        cases h
        obtain ⟨a, vs, rfl, hq, hr⟩ := r.tup
        exact ⟨a, vs, rfl, hq, by rw [hr.length]; exact hl, gs_ok is (fun _ z => z) hl eo hr q⟩
      · cases h
    · cases h
  | false =>
    simp only [Bool.false_eq_true, if_false] at h ⊢
    split at h
    · rename_i i
      cases h
      exact q _ (eo.set i r) (wipe_set (by simp))
    · cases h
theorem g_name (i : Nat) {x : Str} (hN : X.N.Nodup) (hi : X.N[i]? = some x := by rfl) (hx : Loc X.env.scope x := by first | exact Or.inl rfl | exact Or.inr rfl) (hf : X.fn x = true ∨ X.env.scope.names.lookup x = some .local := by first | exact .inl rfl | exact .inr rfl) : PG X (.Name x pos) (gOf X.K false [i]) := pg_name hN hi hx hf
theorem gs_nil : PGs X [] (gsOf []) := pgs_nil
theorem gs_cons (i : Nat) {is : List Nat} {x : Str} {px : Pos} (hN : X.N.Nodup) (h2 : PGs X es (gsOf is)) (hi : X.N[i]? = some x := by rfl) (hx : Loc X.env.scope x := by first | exact Or.inl rfl | exact Or.inr rfl) (hf : X.fn x = true ∨ X.env.scope.names.lookup x = some .local := by first | exact .inl rfl | exact .inr rfl)
    (hs : (assignEach (.Name x px :: es) X.env).map (·.2) = assign (.Name x px) X.env :: (assignEach es X.env).map (·.2) := by rfl) : PGs X (.Name x px :: es) (gsOf (i :: is)) := pgs_cons (pg_name hN hi hx hf) h2 hs
theorem g_tup {is : List Nat} {k : Nat} (hc : X.calm = true) (h : PGs X es (gsOf is)) (hn : (assignEach es X.env).length = is.length := by rfl) (hst : (assignEach es X.env).findIdx? (·.1) = none := by rfl) : PG X (.Tuple es k pos) (gOf X.K true is) := pg_tup hc h hn hst

/-! ### comprehensions -/
abbrev W0 : XK := fun _ _ _ => False
theorem noex_post {α β : Type} {K : PySem.W.Frag} {mg : Str → Option Value} {Rr : List Addr → Hp → α → β → Prop} {ρ : List Addr} {H : Hp} {r : R α} {Q : β → Hp → Prop} (h : Post mg K Rr W ρ H r.noex Q) : Post mg K Rr W0 ρ H r Q := by
  cases r with
  | ok a S => exact h
  | exc c fs S => exact h.elim
  | bad => exact h.elim
theorem Post.bindN {α β γ δ : Type} {K : PySem.W.Frag} {mg : Str → Option Value} {Rr : List Addr → Hp → α → γ → Prop} {Rs : List Addr → Hp → β → δ → Prop} {ρ : List Addr} {H : Hp} {r : R α} {f : α → Sto → R β} {Q : δ → Hp → Prop} (h : Post mg K Rs W ρ H (r.noex.bind f) Q) :
    Post mg K Rr W0 ρ H r fun b H1 => ∃ ρ1 S1 a, Ext ρ H ρ1 H1 ∧ Wok K mg ρ1 S1 H1 ∧ Rr ρ1 H1 a b ∧ Post mg K Rs W ρ1 H1 (f a S1) Q := by
  cases r with
  | ok a S => exact Post.bind (r := .ok a S) h
  | exc c fs S => exact h.elim
  | bad => exact h.elim
theorem bind_assoc {α β γ : Type} (r : R α) (f : α → Sto → R β) (g : β → Sto → R γ) : (r.bind f).bind g = r.bind fun a S => (f a S).bind g := by
  cases r <;> rfl
theorem pushAt_rel {K : PySem.W.Frag} {mg : Str → Option Value} {ρ : List Addr} {S : Sto} {H : Hp} {n : Nat} {D : Addr} {u : U} {y : V} {Q : VK} {k : Sto → R U} (w : Wok K mg ρ S H) (hn : ρ[n]? = some D) (r : RelU K ρ H u y) (h : Post mg K (RelU K) W ρ H ((pushAt n u S).bind fun _ S => k S) Q) :
    ∃ acc, H D = some (.lst acc) ∧ acc.length < sizeLine ∧ ∃ S', Ext ρ H ρ (upd H D (.lst (acc ++ [y]))) ∧ Wok K mg ρ S' (upd H D (.lst (acc ++ [y]))) ∧ Post mg K (RelU K) W ρ (upd H D (.lst (acc ++ [y]))) (k S') Q := by
  unfold pushAt at h
  split at h
  · rename_i us hx
    split at h
    · rename_i hz
      obtain ⟨acc, e, q⟩ := w.at_ hx hn
      have x := Ext.write (ρ := ρ) (o := .lst (acc ++ [y])) (lst_mut e)
      exact ⟨acc, e, by rw [q.length]; exact hz, S.set n (.lst (us ++ [u])), x, w.write hn hx rfl rfl (lst_mut e) ⟨_, upd_same, (q.append (.cons r .nil)).mono x⟩, Post.ext x h⟩
    · cases h
  · cases h
/-! ### zip -/
def Goes' (K : PySem.W.Frag) (mg : Str → Option Value) (J : It) (all : List U) (st : Sto → Bool) (ρ0 : List Addr) (H0 : Hp) : Prop :=
  ∀ ρ S H (i : Nat), Ext ρ0 H0 ρ H → Wok K mg ρ S H → st S = true → (i < all.length → J.go i H ∧ ∀ x H', J.yld i H x H' → (∀ a o, H a = some o → H' a = some o) ∧ ∃ u, all[i]? = some u ∧ RelU K ρ H' u x) ∧ (all.length ≤ i → J.stop i H)
theorem zipped_len : ∀ xs ys : List U, (zipped xs ys).length = min xs.length ys.length
  | [], _ => by simp [zipped]
  | _ :: _, [] => by simp [zipped]
  | x :: xs, y :: ys => by simp [zipped, zipped_len xs ys]
theorem zipped_at : ∀ {xs ys : List U} {i : Nat} {a b : U}, xs[i]? = some a → ys[i]? = some b → (zipped xs ys)[i]? = some (.tup [a, b])
  | x :: xs, y :: ys, 0, a, b, h1, h2 => by simp at h1 h2; subst h1 h2; rfl
  | x :: xs, y :: ys, i + 1, a, b, h1, h2 => by
    simp only [List.getElem?_cons_succ] at h1 h2
    simp only [zipped, List.getElem?_cons_succ]
    exact zipped_at h1 h2
theorem goes_zipT {K : PySem.W.Frag} {mg : Str → Option Value} {a b : Addr} {vs ws : List V} {xs ys : List U} {ρ0 : List Addr} {H0 : Hp} (h1 : SqT K H0 a vs) (r1 : RelUs K ρ0 H0 xs vs) (h2 : SqT K H0 b ws) (r2 : RelUs K ρ0 H0 ys ws) : Goes' K mg (RZ.ItzT K a b) (zipped xs ys) (fun _ => true) ρ0 H0 := by
  intro ρ S H i e w _
  have l1 := r1.length
  have l2 := r2.length
  rw [zipped_len]
  refine ⟨fun hi => ?_, fun hi => ⟨vs, ws, e.sqt K h1, e.sqt K h2, by omega⟩⟩
  obtain ⟨v, hv, rv⟩ := (r1.mono e).get (List.getElem?_eq_getElem (show i < xs.length by omega))
  obtain ⟨v2, hv2, rv2⟩ := (r2.mono e).get (List.getElem?_eq_getElem (show i < ys.length by omega))
  refine ⟨⟨vs, ws, v, v2, e.sqt K h1, e.sqt K h2, hv, hv2⟩, fun x H' y => ?_⟩
  obtain ⟨T, x1, y1, rfl, hT, rfl, f1, f2⟩ := y
  have g1 := f1 _ (e.sqt K h1)
  have g2 := f2 _ (e.sqt K h2)
  rw [hv] at g1
  rw [hv2] at g2
  cases g1
  cases g2
  refine ⟨upd_grow hT, _, zipped_at (List.getElem?_eq_getElem (by omega)) (List.getElem?_eq_getElem (by omega)), ?_⟩
  have e2 : Ext ρ H ρ (upd H T (.tup [v, v2])) := Ext.grow (upd_grow hT)
  simp only [RelU]
  exact ⟨T, _, rfl, .of upd_same, RelUs.cons (rv.mono e2) (RelUs.cons (rv2.mono e2) RelUs.nil)⟩
theorem goes_zipL {K : PySem.W.Frag} {mg : Str → Option Value} {a b : Addr} {m n : Nat} {xs ys : List U} {ρ0 : List Addr} {H0 : Hp} (hm : ρ0[m]? = some a) (hn : ρ0[n]? = some b) : Goes' K mg (Itz K a b) (zipped xs ys) (fun S => isLst S m xs && isLst S n ys) ρ0 H0 := by
  intro ρ S H i e w st
  rw [Bool.and_eq_true] at st
  have look : ∀ {n : Nat} {a : Addr} {all : List U}, ρ0[n]? = some a → isLst S n all = true → ∃ vs, SqL K H a vs ∧ RelUs K ρ H all vs := fun {n a all} hn st => by
    have hn' := e.at_ hn
    rcases isLst_iff st with h | h
    · obtain ⟨vs, q, r⟩ := w.at_ h hn'
      exact ⟨vs, .of q, r⟩
    · obtain ⟨vs, q, r⟩ := w.at_ h hn'
      exact ⟨vs, q.sql, r⟩
  obtain ⟨vs, h1, r1⟩ := look hm st.1
  obtain ⟨ws, h2, r2⟩ := look hn st.2
  have l1 := r1.length
  have l2 := r2.length
  rw [zipped_len]
  refine ⟨fun hi => ?_, fun hi => ⟨vs, ws, h1, h2, by omega⟩⟩
  obtain ⟨v, hv, rv⟩ := r1.get (List.getElem?_eq_getElem (show i < xs.length by omega))
  obtain ⟨v2, hv2, rv2⟩ := r2.get (List.getElem?_eq_getElem (show i < ys.length by omega))
  refine ⟨⟨vs, ws, v, v2, h1, h2, hv, hv2⟩, fun x H' y => ?_⟩
  obtain ⟨T, x1, y1, rfl, hT, rfl, f1, f2⟩ := y
  have g1 := f1 _ h1
  have g2 := f2 _ h2
  rw [hv] at g1
  rw [hv2] at g2
  cases g1
  cases g2
  refine ⟨upd_grow hT, _, zipped_at (List.getElem?_eq_getElem (by omega)) (List.getElem?_eq_getElem (by omega)), ?_⟩
  have e2 : Ext ρ H ρ (upd H T (.tup [v, v2])) := Ext.grow (upd_grow hT)
  simp only [RelU]
  exact ⟨T, _, rfl, .of upd_same, RelUs.cons (rv.mono e2) (RelUs.cons (rv2.mono e2) RelUs.nil)⟩
/-- the turns -/
theorem lc_turns {tp : Bool} {is : List Nat} {J : It} {all : List U} {src : Option Nat} {ρ1 : List Addr} {S1 : Sto} {H1 : Hp} {σ : L2.St} {env : Env} {Q : VK} {D : Addr} {tx : T} (w1 : Wok X.K X.mg ρ1 S1 H1) (eo : EnvOk X.K ρ1 H1 env σ) (hg : Goes X.K X.mg J all src ρ1 H1) (hD : H1 D = none)
    (h : Post X.mg X.K (RelU X.K) W ρ1 H1 ((lcI tp is (wipeE env is) (fun env S => (evt Φ tx env S).noex) (fun env S => (ev Φ te env S).noex) S1.length all src all (S1 ++ [.lst []])).bind fun _ S' => .ok (.loc S1.length) S') Q) :
    ∃ W' : Nat → Nat → Hp → Prop, (∃ m, W' 0 m (upd H1 D (.lst []))) ∧ ∀ i m H, W' i m H → (J.stop i H ∧ Q (.ref D) H) ∨ (J.go i H ∧ ∃ Nx : Hp → Prop, (∀ H', Nx H' → ∃ m', m' < m ∧ W' (i + 1) m' H') ∧ ∀ x H', J.yld i H x H' → gOf X.K tp is x (wipe σ is) H' fun σ2 H2 => wipe σ2 is = wipe σ is ∧ tTs X Φ W0 tx σ2 H2 fun b H3 =>
      if b = true then tE X Φ W0 te σ2 H3 fun y H4 => ∃ acc, H4 D = some (.lst acc) ∧ acc.length < sizeLine ∧ Nx (upd H4 D (.lst (acc ++ [y]))) else Nx H3) := by
  have e0 : Ext ρ1 H1 (ρ1 ++ [D]) (upd H1 D (.lst [])) := Ext.push (upd_grow hD)
  have w0 := w1.push (c := .lst []) hD (upd_grow hD) ⟨[], upd_same, RelUs.nil⟩
  have hn := push_at (p := D) w1.len
  let Inv' : Nat → Hp → Prop := fun i H => i ≤ all.length ∧ ∃ ρ S, Ext (ρ1 ++ [D]) (upd H1 D (.lst [])) ρ H ∧ Wok X.K X.mg ρ S H ∧ ρ[S1.length]? = some D ∧
    Post X.mg X.K (RelU X.K) W ρ H ((lcI tp is (wipeE env is) (fun env S => (evt Φ tx env S).noex) (fun env S => (ev Φ te env S).noex) S1.length all src (all.drop i) S).bind fun _ S' => .ok (.loc S1.length) S') Q
  refine ⟨fun i m H => m = all.length - i ∧ Inv' i H, ⟨_, rfl, Nat.zero_le _, _, _, Ext.refl, w0, hn, Post.ext e0 (by simpa using h)⟩, ?_⟩
  rintro i m H ⟨rfl, hi, ρ, S, ex, w, hnD, hp⟩
  by_cases hlt : i < all.length
  · refine .inr ?_
    rw [List.drop_eq_getElem_cons hlt] at hp
    unfold lcI at hp
    split at hp
    · rename_i hst
      obtain ⟨hgo, hy⟩ := (hg ρ S H i (e0.trans ex) w hst).1 hlt
      refine ⟨hgo, Inv' (i + 1), fun H' q => ⟨all.length - (i + 1), by omega, rfl, q⟩, fun x H' yl => ?_⟩
      obtain ⟨rfl, u, hu, ru⟩ := hy x H' yl
      rw [List.getElem?_eq_getElem hlt] at hu
      cases hu
      split at hp
      · rename_i env' he
        refine g_ok he ((eo.mono (e0.trans ex)).wipe is) ru fun σ2 eo2 hw => ⟨by rw [hw, wipe_wipe], ρ, S, env', w, eo2, ?_⟩
        rw [bind_assoc] at hp
        refine (Post.bindN (Rr := Rid) hp).imp fun b H3 ⟨ρ3, S3, b', e3, w3, r3, h3⟩ => ?_
        cases r3
        cases b with
        | true =>
          refine iteT ⟨ρ3, S3, env', w3, eo2.mono e3, ?_⟩
          simp only [if_true] at h3
          rw [bind_assoc] at h3
          refine (Post.bindN h3).imp fun y H4 ⟨ρ4, S4, v4, e4, w4, r4, h4⟩ => ?_
          rw [bind_assoc] at h4
          obtain ⟨acc, ha, hz, S5, x5, w5, h5⟩ := pushAt_rel w4 (e4.at_ (e3.at_ hnD)) r4 h4
          exact ⟨acc, ha, hz, hlt, ρ4, S5, ((ex.trans e3).trans e4).trans x5, w5, e4.at_ (e3.at_ hnD), h5⟩
        | false =>
          refine iteF ⟨hlt, ρ3, S3, ex.trans e3, w3, e3.at_ hnD, ?_⟩
          simpa using h3
      · exact hp.elim
    · exact hp.elim
  · refine .inl ?_
    have e : i = all.length := by omega
    subst e
    rw [List.drop_length] at hp
    unfold lcI at hp
    split at hp
    · rename_i hst
      refine ⟨(hg ρ S H _ (e0.trans ex) w hst).2 (Nat.le_refl _), ?_⟩
      exact hp.here w (relLoc hnD)
    · exact hp.elim
where
  wipe_wipe {σ : L2.St} : ∀ {is : List Nat}, wipe (wipe σ is) is = wipe σ is := by
    intro is
    have : ∀ (js ks : List Nat) (τ : L2.St), (∀ j ∈ js, j ∈ ks) → wipe (wipe τ js) ks = wipe τ ks := by
      intro js
      induction js with
      | nil => intro ks τ _; rfl
      | cons j js ih =>
        intro ks τ hs
        show wipe ((wipe τ js).set j none) ks = _
        rw [wipe_set (hs j List.mem_cons_self)]
        exact ih ks τ fun k hk => hs k (List.mem_cons_of_mem _ hk)
    exact this is is σ fun _ z => z
theorem lc_turnsJ {tp : Bool} {is : List Nat} {J : It} {all : List U} {st : Sto → Bool} {ρ1 : List Addr} {S1 : Sto} {H1 : Hp} {σ : L2.St} {env : Env} {Q : VK} {D : Addr} {tx : T} (w1 : Wok X.K X.mg ρ1 S1 H1) (eo : EnvOk X.K ρ1 H1 env σ) (hg : Goes' X.K X.mg J all st ρ1 H1) (hD : H1 D = none)
    (h : Post X.mg X.K (RelU X.K) W ρ1 H1 ((lcJ tp is (wipeE env is) (fun env S => (evt Φ tx env S).noex) (fun env S => (ev Φ te env S).noex) S1.length st all (S1 ++ [.lst []])).bind fun _ S' => .ok (.loc S1.length) S') Q) :
    ∃ W' : Nat → Nat → Hp → Prop, (∃ m, W' 0 m (upd H1 D (.lst []))) ∧ ∀ i m H, W' i m H → (J.stop i H ∧ Q (.ref D) H) ∨ (J.go i H ∧ ∃ Nx : Hp → Prop, (∀ H', Nx H' → ∃ m', m' < m ∧ W' (i + 1) m' H') ∧ ∀ x H', J.yld i H x H' → gOf X.K tp is x (wipe σ is) H' fun σ2 H2 => wipe σ2 is = wipe σ is ∧ tTs X Φ W0 tx σ2 H2 fun b H3 =>
      if b = true then tE X Φ W0 te σ2 H3 fun y H4 => ∃ acc, H4 D = some (.lst acc) ∧ acc.length < sizeLine ∧ Nx (upd H4 D (.lst (acc ++ [y]))) else Nx H3) := by
  have e0 : Ext ρ1 H1 (ρ1 ++ [D]) (upd H1 D (.lst [])) := Ext.push (upd_grow hD)
  have w0 := w1.push (c := .lst []) hD (upd_grow hD) ⟨[], upd_same, RelUs.nil⟩
  have hn := push_at (p := D) w1.len
  let Inv' : Nat → Hp → Prop := fun i H => i ≤ all.length ∧ ∃ ρ S, Ext (ρ1 ++ [D]) (upd H1 D (.lst [])) ρ H ∧ Wok X.K X.mg ρ S H ∧ ρ[S1.length]? = some D ∧
    Post X.mg X.K (RelU X.K) W ρ H ((lcJ tp is (wipeE env is) (fun env S => (evt Φ tx env S).noex) (fun env S => (ev Φ te env S).noex) S1.length st (all.drop i) S).bind fun _ S' => .ok (.loc S1.length) S') Q
  refine ⟨fun i m H => m = all.length - i ∧ Inv' i H, ⟨_, rfl, Nat.zero_le _, _, _, Ext.refl, w0, hn, Post.ext e0 (by simpa using h)⟩, ?_⟩
  rintro i m H ⟨rfl, hi, ρ, S, ex, w, hnD, hp⟩
  by_cases hlt : i < all.length
  · refine .inr ?_
    rw [List.drop_eq_getElem_cons hlt] at hp
    unfold lcJ at hp
    split at hp
    · rename_i hst
      obtain ⟨hgo, hy⟩ := (hg ρ S H i (e0.trans ex) w hst).1 hlt
      refine ⟨hgo, Inv' (i + 1), fun H' q => ⟨all.length - (i + 1), by omega, rfl, q⟩, fun x H' yl => ?_⟩
      obtain ⟨gw, u, hu, ru⟩ := hy x H' yl
      have eg : Ext ρ H ρ H' := Ext.grow gw
      replace hp := Post.ext eg hp
      replace ex := ex.trans eg
      replace w := w.grow gw
      rw [List.getElem?_eq_getElem hlt] at hu
      cases hu
      split at hp
      · rename_i env' he
        refine g_ok he ((eo.mono (e0.trans ex)).wipe is) ru fun σ2 eo2 hw => ⟨by rw [hw, lc_turns.wipe_wipe], ρ, S, env', w, eo2, ?_⟩
        rw [bind_assoc] at hp
        refine (Post.bindN (Rr := Rid) hp).imp fun b H3 ⟨ρ3, S3, b', e3, w3, r3, h3⟩ => ?_
        cases r3
        cases b with
        | true =>
          refine iteT ⟨ρ3, S3, env', w3, eo2.mono e3, ?_⟩
          simp only [if_true] at h3
          rw [bind_assoc] at h3
          refine (Post.bindN h3).imp fun y H4 ⟨ρ4, S4, v4, e4, w4, r4, h4⟩ => ?_
          rw [bind_assoc] at h4
          obtain ⟨acc, ha, hz, S5, x5, w5, h5⟩ := pushAt_rel w4 (e4.at_ (e3.at_ hnD)) r4 h4
          exact ⟨acc, ha, hz, hlt, ρ4, S5, ((ex.trans e3).trans e4).trans x5, w5, e4.at_ (e3.at_ hnD), h5⟩
        | false =>
          refine iteF ⟨hlt, ρ3, S3, ex.trans e3, w3, e3.at_ hnD, ?_⟩
          simpa using h3
      · exact hp.elim
    · exact hp.elim
  · refine .inl ?_
    have e : i = all.length := by omega
    subst e
    rw [List.drop_length] at hp
    unfold lcJ at hp
    split at hp
    · rename_i hst
      refine ⟨(hg ρ S H _ (e0.trans ex) w hst).2 (Nat.le_refl _), ?_⟩
      exact hp.here w (relLoc hnD)
    · exact hp.elim
/-! ### two walks -/
theorem wipe_sub : ∀ (js : List Nat) {ks : List Nat} {τ : L2.St}, (∀ j ∈ js, j ∈ ks) → wipe (wipe τ js) ks = wipe τ ks
  | [], _, _, _ => rfl
  | j :: js, ks, τ, h => by
    show wipe ((wipe τ js).set j none) ks = _
    rw [wipe_set (h j List.mem_cons_self)]
    exact wipe_sub js fun k hk => h k (List.mem_cons_of_mem _ hk)
theorem lc2_turns {tp tp1 : Bool} {is is1 : List Nat} {ti1 : E} {J : It} {all : List U} {src : Option Nat} {ρ1 : List Addr} {S1 : Sto} {H1 : Hp} {σ : L2.St} {env : Env} {Q : VK} {D : Addr} (w1 : Wok X.K X.mg ρ1 S1 H1) (eo : EnvOk X.K ρ1 H1 env σ) (hg : Goes X.K X.mg J all src ρ1 H1) (hD : H1 D = none)
    (h : Post X.mg X.K (RelU X.K) W ρ1 H1 ((lcL tp tp1 is is1 (wipeE env (is ++ is1)) (fun env S => (ev Φ ti1 env S).noex) (fun env S => (ev Φ te env S).noex) S1.length all src all (S1 ++ [.lst []])).bind fun _ S' => .ok (.loc S1.length) S') Q) :
    ∃ W' : Nat → Nat → Hp → Prop, (∃ m, W' 0 m (upd H1 D (.lst []))) ∧ ∀ i m H, W' i m H → (J.stop i H ∧ Q (.ref D) H) ∨ (J.go i H ∧ ∃ Nx : Hp → Prop, (∀ H', Nx H' → ∃ m', m' < m ∧ W' (i + 1) m' H') ∧ ∀ x H', J.yld i H x H' → gOf X.K tp is x (wipe σ (is ++ is1)) H' fun σ2 H2 => wipe σ2 (is ++ is1) = wipe σ (is ++ is1) ∧ tTs X Φ W0 .tt σ2 H2 fun b H3 =>
      if b = true then tI X Φ W0 ti1 σ2 H3 fun J1 H4 => ∃ W1 : Nat → Nat → Hp → Prop, (∃ m, W1 0 m H4) ∧ ∀ j k H, W1 j k H → (J1.stop j H ∧ Nx H) ∨ (J1.go j H ∧ ∃ Nx1 : Hp → Prop, (∀ H', Nx1 H' → ∃ k', k' < k ∧ W1 (j + 1) k' H') ∧ ∀ x H', J1.yld j H x H' → gOf X.K tp1 is1 x (wipe σ2 is1) H' fun σ3 H5 => wipe σ3 is1 = wipe σ2 is1 ∧ tTs X Φ W0 .tt σ3 H5 fun b H6 =>
        if b = true then tE X Φ W0 te σ3 H6 fun y H7 => ∃ acc, H7 D = some (.lst acc) ∧ acc.length < sizeLine ∧ Nx1 (upd H7 D (.lst (acc ++ [y]))) else Nx1 H6) else Nx H3) := by
  have e0 : Ext ρ1 H1 (ρ1 ++ [D]) (upd H1 D (.lst [])) := Ext.push (upd_grow hD)
  have w0 := w1.push (c := .lst []) hD (upd_grow hD) ⟨[], upd_same, RelUs.nil⟩
  have hn := push_at (p := D) w1.len
  let Inv' : Nat → Hp → Prop := fun i H => i ≤ all.length ∧ ∃ ρ S, Ext (ρ1 ++ [D]) (upd H1 D (.lst [])) ρ H ∧ Wok X.K X.mg ρ S H ∧ ρ[S1.length]? = some D ∧
    Post X.mg X.K (RelU X.K) W ρ H ((lcL tp tp1 is is1 (wipeE env (is ++ is1)) (fun env S => (ev Φ ti1 env S).noex) (fun env S => (ev Φ te env S).noex) S1.length all src (all.drop i) S).bind fun _ S' => .ok (.loc S1.length) S') Q
  refine ⟨fun i m H => m = all.length - i ∧ Inv' i H, ⟨_, rfl, Nat.zero_le _, _, _, Ext.refl, w0, hn, Post.ext e0 (by simpa using h)⟩, ?_⟩
  rintro i m H ⟨rfl, hi, ρ, S, exx, w, hnD, hp⟩
  by_cases hlt : i < all.length
  · refine .inr ?_
    rw [List.drop_eq_getElem_cons hlt] at hp
    unfold lcL at hp
    split at hp
    · rename_i hst
      obtain ⟨hgo, hy⟩ := (hg ρ S H i (e0.trans exx) w hst).1 hlt
      refine ⟨hgo, Inv' (i + 1), fun H' q => ⟨all.length - (i + 1), by omega, rfl, q⟩, fun x H' yl => ?_⟩
      obtain ⟨rfl, u, hu, ru⟩ := hy x H' yl
      rw [List.getElem?_eq_getElem hlt] at hu
      cases hu
      split at hp
      · rename_i env' he
        have sb : ∀ j ∈ is, j ∈ is ++ is1 := fun j hj => List.mem_append_left _ hj
        refine g_ok he ((eo.mono (e0.trans exx)).wipe (is ++ is1)) ru fun σ2 eo2 hw => ⟨?_, ρ, S, env', w, eo2, ?_⟩
        · rw [← wipe_sub is (τ := σ2) sb, hw, wipe_sub is sb, wipe_sub (is ++ is1) fun _ z => z]
        rw [evt]
        intro ρ3 H3 b e3 w3 rb
        cases rb
        refine iteT ⟨ρ3, S, env', w3, eo2.mono e3, ?_⟩
        rw [bind_assoc] at hp
        refine (Post.bindN (Post.ext e3 hp)).imp fun x4 H4 ⟨ρ4, S4, u4, e4, w4, r4, h4⟩ => ?_
        split at h4
        · rename_i all1 src1 hit
          refine ⟨ρ4, S4, u4, all1, src1, w4, r4, hit, fun J1 hg1 => ?_⟩
          rw [bind_assoc] at h4
          let Inv1 : Nat → Hp → Prop := fun j H => j ≤ all1.length ∧ ∃ ρ S, Ext ρ4 H4 ρ H ∧ Wok X.K X.mg ρ S H ∧
            Post X.mg X.K (RelU X.K) W ρ H ((lcK is1 tp1 (fun env S => (ev Φ te env S).noex) S1.length all1 src1 (wipeE env' is1) (all1.drop j) S).bind fun _ S' => (lcL tp tp1 is is1 (wipeE env (is ++ is1)) (fun env S => (ev Φ ti1 env S).noex) (fun env S => (ev Φ te env S).noex) S1.length all src (all.drop (i + 1)) S').bind fun _ S' => .ok (.loc S1.length) S') Q
          refine ⟨fun j k H => k = all1.length - j ∧ Inv1 j H, ⟨_, rfl, Nat.zero_le _, ρ4, S4, Ext.refl, w4, by simpa using h4⟩, ?_⟩
          rintro j k H5 ⟨rfl, hj, ρ5, S5, e5, w5, hp5⟩
          by_cases hlt1 : j < all1.length
          · refine .inr ?_
            rw [List.drop_eq_getElem_cons hlt1] at hp5
            unfold lcK at hp5
            split at hp5
            · rename_i hst1
              obtain ⟨hgo1, hy1⟩ := (hg1 ρ5 S5 H5 j e5 w5 hst1).1 hlt1
              refine ⟨hgo1, Inv1 (j + 1), fun H' q => ⟨all1.length - (j + 1), by omega, rfl, q⟩, fun x H' yl => ?_⟩
              obtain ⟨rfl, u, hu, ru⟩ := hy1 x H' yl
              rw [List.getElem?_eq_getElem hlt1] at hu
              cases hu
              split at hp5
              · rename_i env'' he1
                refine g_ok he1 ((((eo2.mono e3).mono e4).mono e5).wipe is1) ru fun σ3 eo3 hw1 => ⟨by rw [hw1, wipe_sub is1 fun _ z => z], ρ5, S5, env'', w5, eo3, ?_⟩
                rw [evt]
                intro ρ6 H6 b6 e6 w6 rb6
                cases rb6
                refine iteT ⟨ρ6, S5, env'', w6, eo3.mono e6, ?_⟩
                rw [bind_assoc] at hp5
                refine (Post.bindN (Post.ext e6 hp5)).imp fun y H7 ⟨ρ7, S7, v7, e7, w7, r7, h7⟩ => ?_
                rw [bind_assoc] at h7
                have hD7 : ρ7[S1.length]? = some D := e7.at_ (e6.at_ (e5.at_ (e4.at_ (e3.at_ hnD))))
                obtain ⟨acc, ha, hz, S8, x8, w8, h8⟩ := pushAt_rel w7 hD7 r7 h7
                exact ⟨acc, ha, hz, hlt1, ρ7, S8, ((e5.trans e6).trans e7).trans x8, w8, h8⟩
              · exact hp5.elim
            · exact hp5.elim
          · refine .inl ?_
            have e : j = all1.length := by omega
            subst e
            rw [List.drop_length] at hp5
            unfold lcK at hp5
            split at hp5
            · rename_i hst1
              exact ⟨(hg1 ρ5 S5 H5 _ e5 w5 hst1).2 (Nat.le_refl _), hlt, ρ5, S5, ((exx.trans e3).trans e4).trans e5, w5, e5.at_ (e4.at_ (e3.at_ hnD)), hp5⟩
            · exact hp5.elim
        · exact h4.elim
      · exact hp.elim
    · exact hp.elim
  · refine .inl ?_
    have e : i = all.length := by omega
    subst e
    rw [List.drop_length] at hp
    unfold lcL at hp
    split at hp
    · rename_i hst
      exact ⟨(hg ρ S H _ (e0.trans exx) w hst).2 (Nat.le_refl _), hp.here w (relLoc hnD)⟩
    · exact hp.elim
end
end Oz

end

section
set_option maxHeartbeats 4000000
/-! Oz8: comprehensions and statements. -/
namespace Oz
open PySem PySem.Spec PyProof.Rows L2
section
variable {X : Cx} {p : Pg} {nm : Names} {ad : Str → Addr} {d : Nat} {W : XK} {Φ : Cal} {a b e c o : Expr} {es rest : List Expr} {ta tb te to : E} {tc td : T} {tes : Es} {pos : Pos}
theorem lc_read {tp : Bool} {is : List Nat} {it : E} {tx : T} {σ : L2.St} {H : Hp} {Q : VK} (h : tE X Φ W (.lc is tp te it tx) σ H Q) : tLc (tI X Φ W it) (gOf X.K tp is) (tTs X Φ W0 tx) (tE X Φ W0 te) is σ H Q := by
  obtain ⟨ρ, S, env, w, eo, h⟩ := h
  rw [ev] at h
  refine ⟨ρ, S, env, w, eo, (Post.bind h).imp fun x H1 ⟨ρ1, S1, u, e1, w1, r1, h1⟩ => ?_⟩
  split at h1
  · rename_i all src hi
    exact ⟨ρ1, S1, u, all, src, w1, r1, hi, fun J hg D hD => lc_turns w1 (eo.mono e1) hg hD h1⟩
  · exact h1.elim
theorem t_tt : PTs X [] (tTs X Φ W .tt) := ⟨fun pins s σ H Q I ⟨ρ, S, env, w, eo, h⟩ => (pts_nil (X := X)).run pins s σ H Q I (by rw [evt] at h; exact h.here w rfl)⟩
theorem s_lc (O : Ok X p nm ad d W) (tp : Bool) (own : List (Str × Nat)) {elt tg iter : Expr} {ifs : List Expr} {scope : Scope} {it : E} {tx : T} (hN : X.N.Nodup) (hi : PE X iter (tE X Φ W it)) (ok : BlkOk X.N X.env.scope scope own)
    (hg : ∀ (s : Shared) (H : Hp) (C : Addr) (cl : List (Str × Addr)) (fp : List Addr), PG (X.blk s H scope (compEnvC scope cl C X.env) fp) tg (gOf X.K tp (own.map (·.2))))
    (ht : ∀ (s : Shared) (H : Hp) (C : Addr) (cl : List (Str × Addr)) (fp : List Addr), PTs (X.blk s H scope (compEnvC scope cl C X.env) fp) ifs (tTs X Φ W0 tx))
    (he : ∀ (s : Shared) (H : Hp) (C : Addr) (cl : List (Str × Addr)) (fp : List Addr), PE (X.blk s H scope (compEnvC scope cl C X.env) fp) elt (tE X Φ W0 te)) (hs : ∀ x, foldedSetIterable iter X.env x = pure x := by intro _; rfl) :
    PE X (.ListComp elt [⟨tg, iter, ifs, 0⟩] scope pos) (tE X Φ W (.lc (own.map (·.2)) tp te it tx)) :=
  PEw (pe_lc O.calm hN (pi_any hi) ok hg ht he hs) fun σ H Q h => lc_read h
/-- over zip -/
theorem lcz_read {is : List Nat} {tes : Es} {tx : T} {σ : L2.St} {H : Hp} {Q : VK} (h : tE X Φ W (.lcz is te tes tx) σ H Q) : tLc (RZ.iZipA X.K (tEs X Φ W tes)) (gOf X.K true is) (tTs X Φ W0 tx) (tE X Φ W0 te) is σ H Q := by
  obtain ⟨ρ, S, env, w, eo, h⟩ := h
  rw [ev] at h
  refine ⟨ρ, S, env, w, eo, (Post.bind h).imp fun x H1 ⟨ρ1, S1, u, e1, w1, r1, h1⟩ => ?_⟩
  split at h1
  · rename_i all st hi
    unfold zipU at hi
    split at hi
    · cases hi
      obtain ⟨v, v2, rfl, ra, rb⟩ := rel2 r1
      obtain ⟨q, vs, rfl, hq, hr⟩ := ra.tup
      obtain ⟨q2, vs2, rfl, hq2, hr2⟩ := rb.tup
      exact ⟨q, q2, vs, vs2, rfl, .inr ⟨hq, hq2, fun D hD => lc_turnsJ w1 (eo.mono e1) (goes_zipT hq hr hq2 hr2) hD h1⟩⟩
    · split at hi
      · rename_i xs ys hx hy
        cases hi
        obtain ⟨v, v2, rfl, ra, rb⟩ := rel2 r1
        obtain ⟨q, vs, e3, hq, hr⟩ := w1.list hx ra
        obtain ⟨q2, vs2, e4, hq2, hr2⟩ := w1.list hy rb
        obtain ⟨p, rfl, hp⟩ := ra.loc
        obtain ⟨p2, rfl, hp2⟩ := rb.loc
        cases e3
        cases e4
        exact ⟨q, q2, vs, vs2, rfl, .inl ⟨hq, hq2, fun D hD => lc_turnsJ w1 (eo.mono e1) (goes_zipL hp hp2) hD h1⟩⟩
      · cases hi
    · cases hi
  · exact h1.elim
theorem s_lcz (O : Ok X p nm ad d W) (own : List (Str × Nat)) {elt e1 e2 : Expr} {ifs : List Expr} {scope : Scope} {tx : T} {elts : List Expr} {kk : Nat} {tpos pz pc : Pos} (hN : X.N.Nodup) (ha : PA X [e1, e2] (tEs X Φ W tes)) (ok : BlkOk X.N X.env.scope scope own)
    (hg : ∀ (s : Shared) (H : Hp) (C : Addr) (cl : List (Str × Addr)) (fp : List Addr), PG (X.blk s H scope (compEnvC scope cl C X.env) fp) (.Tuple elts kk tpos) (gOf X.K true (own.map (·.2))))
    (ht : ∀ (s : Shared) (H : Hp) (C : Addr) (cl : List (Str × Addr)) (fp : List Addr), PTs (X.blk s H scope (compEnvC scope cl C X.env) fp) ifs (tTs X Φ W0 tx))
    (he : ∀ (s : Shared) (H : Hp) (C : Addr) (cl : List (Str × Addr)) (fp : List Addr), PE (X.blk s H scope (compEnvC scope cl C X.env) fp) elt (tE X Φ W0 te)) (hz : Gl X "zip" := by rfl) (hm : ("zip" : Str) ∈ nm.bins := by decide +kernel)
    (hs1 : starEach [e1, e2] X.env = (false, eval e1 X.env) :: starEach [e2] X.env := by rfl) (hpl : (backTo pc (starEach [e2] X.env)).any (·.1) = false := by rfl) (hs : ∀ x, foldedSetIterable (.Call (.Name "zip" pz) [e1, e2] [] pc) X.env x = pure x := by intro _; rfl) :
    PE X (.ListComp elt [⟨.Tuple elts kk tpos, .Call (.Name "zip" pz) [e1, e2] [] pc, ifs, 0⟩] scope pos) (tE X Φ W (.lcz (own.map (·.2)) te tes tx)) :=
  PEw (pe_lc O.calm hN (RZ.pi_zipA hz (O.sta.bin _ hm) ha hs1 hpl) ok hg ht he hs) fun σ H Q h => lcz_read h
theorem Ok.blk {scope : Scope} {cenv : PySem.Env} {fp : List Addr} {s : Shared} {H : Hp} (O : Ok X p nm ad d W) : Ok (X.blk s H scope cenv fp) p nm ad d W0 := ⟨O.sta, O.gdi, O.xc, takes0, PassesOwn.never, O.calm, O.room, passL, O.call, O.init, O.kcall⟩
/-! ### range in a comprehension, in a for -/
def RngOf (te1 : Option E) (te2 : E) : E × E := (te1.getD (.k (.int 0)), te2)
def tR (X : Cx) (Φ : Cal) (W : XK) (ta tb : E) : TI := fun σ H R => tE X Φ W ta σ H fun x H1 => tE X Φ W tb σ H1 fun y H2 => ∃ ρ S m n, Wok X.K X.mg ρ S H2 ∧ x = .int m ∧ y = .int n ∧ (-(2 ^ 62) ≤ m ∧ m < 2 ^ 62 ∧ -(2 ^ 62) ≤ n ∧ n < 2 ^ 62) ∧ R (Itr m (n - m).toNat) H2
theorem PIw {tg : Expr} {t t' : TI} (h : PI X tg e t) (i : ∀ σ H Q, t' σ H Q → t σ H Q) : PI X tg e t' := ⟨fun pins s σ H Q I q => h.run pins s σ H Q I (i _ _ _ q)⟩
theorem pi_r2 (O : Ok X p nm ad d W) {tg : Expr} {px : Pos} (ha : PE X a (tE X Φ W ta)) (hb : PE X b (tE X Φ W tb)) (hg : Gl X "range" := by rfl) (hm : ("range" : Str) ∈ nm.bins := by decide +kernel)
    (hs : starEach [a, b] X.env = [(false, eval a X.env), (false, eval b X.env)] := by rfl) (hs2 : starEach [b] X.env = [(false, eval b X.env)] := by rfl) : PI X tg (.Call (.Name "range" px) [a, b] [] pos) (tR X Φ W ta tb) := by
  refine PIw (pi_range2 hg (O.sta.bin _ hm) (pa_cons ha (pa_cons hb pa_nil (by rw [hs2]; rfl)) (by rw [hs, hs2])) hs hs2) fun σ H R h => ?_
  obtain ⟨ρ, S, env, w, eo, h⟩ := h
  refine ⟨ρ, S, env, w, eo, h.imp fun x H1 h1 => ?_⟩
  obtain ⟨ρ1, S1, env1, w1, eo1, h1⟩ := h1
  refine ⟨ρ1, S1, env1, w1, eo1, h1.imp fun y H2 h2 => ?_⟩
  obtain ⟨ρ2, S2, m, n, w2, rfl, rfl, hb, hr⟩ := h2
  exact ⟨m, n, rfl, hb, hr⟩
theorem pi_r1 (O : Ok X p nm ad d W) {tg : Expr} {px : Pos} (hb : PE X b (tE X Φ W tb)) (hg : Gl X "range" := by rfl) (hm : ("range" : Str) ∈ nm.bins := by decide +kernel)
    (hs : starEach [b] X.env = [(false, eval b X.env)] := by rfl) : PI X tg (.Call (.Name "range" px) [b] [] pos) (tR X Φ W (.k (.int 0)) tb) := by
  refine PIw (pi_range1 hg (O.sta.bin _ hm) (pa_cons hb pa_nil (by rw [hs]; rfl)) hs) fun σ H R h => ?_
  obtain ⟨ρ, S, env, w, eo, h⟩ := h
  rw [ev] at h
  have h1 := h.here w relInt
  obtain ⟨ρ1, S1, env1, w1, eo1, h1⟩ := h1
  refine ⟨ρ1, S1, env1, w1, eo1, h1.imp fun y H2 h2 => ?_⟩
  obtain ⟨ρ2, S2, m, n, w2, e1, rfl, hb, hr⟩ := h2
  cases e1
  refine ⟨n, rfl, hb.2.2.1, hb.2.2.2, ?_⟩
  simpa using hr
theorem rng_read {σ : L2.St} {H : Hp} {ρ : List Addr} {S : Sto} {env : Env} {α β : Type} {Rr : List Addr → Hp → α → β → Prop} {Q : β → Hp → Prop} {f : U → U → Sto → R α} {R : It → Hp → Prop} (w : Wok X.K X.mg ρ S H) (eo : EnvOk X.K ρ H env σ)
    (h : Post X.mg X.K Rr W ρ H ((ev Φ ta env S).bind fun x S => (ev Φ tb env S).bind fun y S => f x y S) Q)
    (k : ∀ ρ2 S2 H2 x y, Wok X.K X.mg ρ2 S2 H2 → EnvOk X.K ρ2 H2 env σ → Post X.mg X.K Rr W ρ2 H2 (f x y S2) Q → ∃ m n, x = .int m ∧ y = .int n ∧ (-(2 ^ 62) ≤ m ∧ m < 2 ^ 62 ∧ -(2 ^ 62) ≤ n ∧ n < 2 ^ 62) ∧ R (Itr m (n - m).toNat) H2) : tR X Φ W ta tb σ H R := by
  refine ⟨ρ, S, env, w, eo, (Post.bind h).imp fun x H1 ⟨ρ1, S1, u, e1, w1, r1, h1⟩ => ⟨ρ1, S1, env, w1, eo.mono e1, (Post.bind h1).imp fun y H2 ⟨ρ2, S2, u2, e2, w2, r2, h2⟩ => ?_⟩⟩
  obtain ⟨m, n, rfl, rfl, hb, hr⟩ := k ρ2 S2 H2 u u2 w2 ((eo.mono e1).mono e2) h2
  cases r1.int
  cases r2.int
  exact ⟨ρ2, S2, m, n, w2, rfl, rfl, hb, hr⟩
theorem lcr_read {is : List Nat} {tx : T} {σ : L2.St} {H : Hp} {Q : VK} (h : tE X Φ W (.lcr is te ta tb tx) σ H Q) : tLc (tR X Φ W ta tb) (gOf X.K false is) (tTs X Φ W0 tx) (tE X Φ W0 te) is σ H Q := by
  obtain ⟨ρ, S, env, w, eo, h⟩ := h
  rw [ev] at h
  refine rng_read w eo h fun ρ2 S2 H2 x y w2 eo2 h2 => ?_
  split at h2
  · split at h2
    · rename_i m n hb
      exact ⟨m, n, rfl, rfl, hb, fun D hD => lc_turns w2 eo2 goes_rng hD h2⟩
    · exact h2.elim
  · exact h2.elim
theorem s_lcr (O : Ok X p nm ad d W) (own : List (Str × Nat)) {elt tg iter : Expr} {ifs : List Expr} {scope : Scope} {tx : T} (hN : X.N.Nodup) (hi : PI X tg iter (tR X Φ W ta tb)) (ok : BlkOk X.N X.env.scope scope own)
    (hg : ∀ (s : Shared) (H : Hp) (C : Addr) (cl : List (Str × Addr)) (fp : List Addr), PG (X.blk s H scope (compEnvC scope cl C X.env) fp) tg (gOf X.K false (own.map (·.2))))
    (ht : ∀ (s : Shared) (H : Hp) (C : Addr) (cl : List (Str × Addr)) (fp : List Addr), PTs (X.blk s H scope (compEnvC scope cl C X.env) fp) ifs (tTs X Φ W0 tx))
    (he : ∀ (s : Shared) (H : Hp) (C : Addr) (cl : List (Str × Addr)) (fp : List Addr), PE (X.blk s H scope (compEnvC scope cl C X.env) fp) elt (tE X Φ W0 te)) (hs : ∀ x, foldedSetIterable iter X.env x = pure x := by intro _; rfl) :
    PE X (.ListComp elt [⟨tg, iter, ifs, 0⟩] scope pos) (tE X Φ W (.lcr (own.map (·.2)) te ta tb tx)) :=
  PEw (pe_lc O.calm hN hi ok hg ht he hs) fun σ H Q h => lcr_read h

/-- two walks -/
theorem lc2_read {is is1 : List Nat} {tp tp1 : Bool} {it it1 : E} {σ : L2.St} {H : Hp} {Q : VK} (h : tE X Φ W (.lc2 is is1 tp tp1 te it it1) σ H Q) : tLc2 (tI X Φ W it) (gOf X.K tp is) (tTs X Φ W0 .tt) (tI X Φ W0 it1) (gOf X.K tp1 is1) (tTs X Φ W0 .tt) (tE X Φ W0 te) (is ++ is1) is1 σ H Q := by
  obtain ⟨ρ, S, env, w, eo, h⟩ := h
  rw [ev] at h
  refine ⟨ρ, S, env, w, eo, (Post.bind h).imp fun x H1 ⟨ρ1, S1, u, e1, w1, r1, h1⟩ => ?_⟩
  split at h1
  · rename_i all src hi
    exact ⟨ρ1, S1, u, all, src, w1, r1, hi, fun J hg D hD => lc2_turns w1 (eo.mono e1) hg hD h1⟩
  · exact h1.elim
theorem s_lc2 (O : Ok X p nm ad d W) (tp tp1 : Bool) (own : List (Str × Nat)) (is is1 : List Nat) {elt tg iter tg1 iter1 : Expr} {scope : Scope} {it it1 : E} (hN : X.N.Nodup) (hi : PE X iter (tE X Φ W it)) (ok : BlkOk X.N X.env.scope scope own)
    (hg : ∀ (s : Shared) (H : Hp) (C : Addr) (cl : List (Str × Addr)) (fp : List Addr), PG (X.blk s H scope (compEnvC scope cl C X.env) fp) tg (gOf X.K tp is))
    (hi1 : ∀ (s : Shared) (H : Hp) (C : Addr) (cl : List (Str × Addr)) (fp : List Addr), PE (X.blk s H scope (compEnvC scope cl C X.env) fp) iter1 (tE X Φ W0 it1))
    (hg1 : ∀ (s : Shared) (H : Hp) (C : Addr) (cl : List (Str × Addr)) (fp : List Addr), PG (X.blk s H scope (compEnvC scope cl C X.env) fp) tg1 (gOf X.K tp1 is1))
    (he : ∀ (s : Shared) (H : Hp) (C : Addr) (cl : List (Str × Addr)) (fp : List Addr), PE (X.blk s H scope (compEnvC scope cl C X.env) fp) elt (tE X Φ W0 te)) (hvs : own.map (·.2) = is ++ is1 := by rfl) (hs : ∀ x, foldedSetIterable iter X.env x = pure x := by intro _; rfl) (hs1 : ∀ env x, foldedSetIterable iter1 env x = pure x := by intro _ _; rfl) :
    PE X (.ListComp elt [⟨tg, iter, [], 0⟩, ⟨tg1, iter1, [], 0⟩] scope pos) (tE X Φ W (.lc2 is is1 tp tp1 te it it1)) := by
  have ht : ∀ (s : Shared) (H : Hp) (C : Addr) (cl : List (Str × Addr)) (fp : List Addr), PTs (X.blk s H scope (compEnvC scope cl C X.env) fp) [] (tTs X Φ W0 .tt) := fun s H C cl fp => t_tt
  have hi1' : ∀ (s : Shared) (H : Hp) (C : Addr) (cl : List (Str × Addr)) (fp : List Addr), PI (X.blk s H scope (compEnvC scope cl C X.env) fp) tg1 iter1 (tI X Φ W0 it1) := fun s H C cl fp => pi_any (hi1 s H C cl fp)
  have hp := pe_lc2 (pos := pos) (vs1 := is1) O.calm hN (pi_any (tg := tg) hi) ok (by rw [hvs]; exact fun i h => List.mem_append_right _ h) hg ht hi1' hg1 ht he hs hs1
  rw [hvs] at hp
  exact PEw hp fun σ H Q h => lc2_read h

/-! ### statements -/
def PostS (mg : Str → Option Value) (K : PySem.W.Frag) (W : XK) (ρ : List Addr) (H : Hp) (o : O) (D : Ends) : Prop :=
  match o with
  | .nx env S => ∀ ρ' H' σ', Ext ρ H ρ' H' → Wok K mg ρ' S H' → EnvOk K ρ' H' env σ' → D.nx σ' H'
  | .ret u S => ∀ ρ' H' v, Ext ρ H ρ' H' → Wok K mg ρ' S H' → RelU K ρ' H' u v → D.rt v H'
  | .bk env S => ∀ ρ' H' σ', Ext ρ H ρ' H' → Wok K mg ρ' S H' → EnvOk K ρ' H' env σ' → D.bk σ' H'
  | .ct env S => ∀ ρ' H' σ', Ext ρ H ρ' H' → Wok K mg ρ' S H' → EnvOk K ρ' H' env σ' → D.ct σ' H'
  | .exc c fs S => ∀ ρ' H' C d vfs, Ext ρ H ρ' H' → Wok K mg ρ' S H' → mg c = some (.ref C) → H' d = some (.xd vfs) → RelF K ρ' H' fs vfs → W (.ref C) (some d) H'
  | .bad => False
def tS (X : Cx) (Φ : Cal) (W : XK) (s : St) : TS := fun D σ H => ∃ ρ S env, Wok X.K X.mg ρ S H ∧ EnvOk X.K ρ H env σ ∧ PostS X.mg X.K W ρ H (ex Φ s env S) D
def tB (X : Cx) (Φ : Cal) (W : XK) (s : Sts) : TS := fun D σ H => ∃ ρ S env, Wok X.K X.mg ρ S H ∧ EnvOk X.K ρ H env σ ∧ PostS X.mg X.K W ρ H (exs Φ s env S) D
theorem PSw {s : Stmt} {t t' : TS} (h : PS X s t) (i : ∀ D σ H, t' D σ H → t D σ H) : PS X s t' := ⟨fun pins s σ H D I q => h.run pins s σ H D I (i _ _ _ q)⟩
theorem PSsw {s : List Stmt} {t t' : TS} (h : PSs X s t) (i : ∀ D σ H, t' D σ H → t D σ H) : PSs X s t' := ⟨fun pins s σ H D I q => h.run pins s σ H D I (i _ _ _ q)⟩
section
variable {K : PySem.W.Frag} {mg : Str → Option Value}
theorem PostS.ext {ρ ρ1 : List Addr} {H H1 : Hp} {r : O} {D : Ends} (e : Ext ρ H ρ1 H1) (h : PostS mg K W ρ H r D) : PostS mg K W ρ1 H1 r D := by
  cases r with
  | nx a S => exact fun ρ' H' b e' w r => h ρ' H' b (e.trans e') w r
  | ret a S => exact fun ρ' H' b e' w r => h ρ' H' b (e.trans e') w r
  | bk a S => exact fun ρ' H' b e' w r => h ρ' H' b (e.trans e') w r
  | ct a S => exact fun ρ' H' b e' w r => h ρ' H' b (e.trans e') w r
  | exc c fs S => exact fun ρ' H' C d vfs e' w m x r => h ρ' H' C d vfs (e.trans e') w m x r
  | bad => exact h
theorem PostS.here {ρ : List Addr} {S : Sto} {H : Hp} {env : Env} {σ : L2.St} {D : Ends} (h : PostS mg K W ρ H (.nx env S) D) (w : Wok K mg ρ S H) (r : EnvOk K ρ H env σ) : D.nx σ H := h ρ H σ Ext.refl w r
theorem PostS.on {α β : Type} {Rr : List Addr → Hp → α → β → Prop} {ρ : List Addr} {H : Hp} {r : R α} {f : α → Sto → O} {D : Ends} (h : PostS mg K W ρ H (r.on f) D) :
    Post mg K Rr W ρ H r fun b H1 => ∃ ρ1 S1 a, Ext ρ H ρ1 H1 ∧ Wok K mg ρ1 S1 H1 ∧ Rr ρ1 H1 a b ∧ PostS mg K W ρ1 H1 (f a S1) D := by
  cases r with
  | ok a S => exact fun ρ' H' b e w r => ⟨ρ', S, a, e, w, r, PostS.ext e h⟩
  | exc c fs S => exact h
  | bad => exact h
/-- what stands behind a statement -/
def nxOf (mg : Str → Option Value) (K : PySem.W.Frag) (W : XK) (f : Env → Sto → O) (D : Ends) : L2.St → Hp → Prop := fun σ H1 => ∃ ρ1 S1 env1, Wok K mg ρ1 S1 H1 ∧ EnvOk K ρ1 H1 env1 σ ∧ PostS mg K W ρ1 H1 (f env1 S1) D
theorem PostS.then_ {ρ : List Addr} {H : Hp} {r : O} {f : Env → Sto → O} {D : Ends} (h : PostS mg K W ρ H (r.then_ f) D) : PostS mg K W ρ H r { D with nx := nxOf mg K W f D } := by
  cases r with
  | nx a S => exact fun ρ' H' b e' w r => ⟨ρ', S, a, w, r, PostS.ext e' h⟩
  | ret a S => exact h
  | bk a S => exact h
  | ct a S => exact h
  | exc c fs S => exact h
  | bad => exact h
end
theorem b_nil : PSs X [] (tB X Φ W .nil) := PSsw pss_nil fun D σ H ⟨ρ, S, env, w, eo, h⟩ => by rw [exs] at h; exact h.here w eo
theorem b_cons {st : Stmt} {sts : List Stmt} {ts : St} {tb : Sts} (h1 : PS X st (tS X Φ W ts)) (h2 : PSs X sts (tB X Φ W tb)) : PSs X (st :: sts) (tB X Φ W (.cons ts tb)) :=
  PSsw (pss_cons h1 h2) fun D σ H ⟨ρ, S, env, w, eo, h⟩ => by rw [exs] at h; exact ⟨ρ, S, env, w, eo, h.then_⟩
theorem x_ex (ha : PE X a (tE X Φ W ta)) (hs : swapsWith a none pos.line X.env = pure false := by rfl) : PS X (.Expr a pos) (tS X Φ W (.ex ta)) :=
  PSw (ps_expr ha hs) fun D σ H ⟨ρ, S, env, w, eo, h⟩ => by
    rw [ex] at h
    exact ⟨ρ, S, env, w, eo, (PostS.on h).imp fun x H1 ⟨ρ1, S1, u, e1, w1, r1, h1⟩ => h1.here w1 (eo.mono e1)⟩
theorem x_ret (ha : PE X a (tE X Φ W ta)) : PS X (.Return (some a) pos) (tS X Φ W (.ret ta)) :=
  PSw (ps_ret ha) fun D σ H ⟨ρ, S, env, w, eo, h⟩ => by
    rw [ex] at h
    exact ⟨ρ, S, env, w, eo, (PostS.on h).imp fun x H1 ⟨ρ1, S1, u, e1, w1, r1, h1⟩ => h1 ρ1 H1 x Ext.refl w1 r1⟩
theorem x_retN : PS X (.Return none pos) (tS X Φ W .retN) := PSw ps_retN fun D σ H ⟨ρ, S, env, w, eo, h⟩ => by rw [ex] at h; exact h ρ H _ Ext.refl w relNon
theorem x_pass : PS X (.Pass pos) (tS X Φ W .pass) := PSw ps_pass fun D σ H ⟨ρ, S, env, w, eo, h⟩ => by rw [ex] at h; exact h.here w eo
theorem x_brk : PS X (.Break pos) (tS X Φ W .brk) := PSw ps_break fun D σ H ⟨ρ, S, env, w, eo, h⟩ => by rw [ex] at h; exact h ρ H _ Ext.refl w eo
theorem x_cont : PS X (.Continue pos) (tS X Φ W .cont) := PSw ps_continue fun D σ H ⟨ρ, S, env, w, eo, h⟩ => by rw [ex] at h; exact h ρ H _ Ext.refl w eo
theorem x_if {sa sb : List Stmt} {tsa tsb : Sts} (hc : PT X c (tTs X Φ W tc)) (ha : PSs X sa (tB X Φ W tsa)) (hb : PSs X sb (tB X Φ W tsb)) : PS X (.If c sa sb pos) (tS X Φ W (.if_ tc tsa tsb)) :=
  PSw (ps_if hc ha hb) fun D σ H ⟨ρ, S, env, w, eo, h⟩ => by
    rw [ex] at h
    refine ⟨ρ, S, env, w, eo, (PostS.on (Rr := Rid) h).imp fun x H1 ⟨ρ1, S1, u, e1, w1, r1, h1⟩ => ?_⟩
    cases r1
    cases x with
    | true => exact iteT ⟨ρ1, S1, env, w1, eo.mono e1, h1⟩
    | false => exact iteF ⟨ρ1, S1, env, w1, eo.mono e1, h1⟩
theorem set_nx {tp : Bool} {is : List Nat} {D : Ends} {σ : L2.St} {H H1 : Hp} {ρ ρ1 : List Addr} {S1 : Sto} {env : Env} {u : U} {x : V} (e1 : Ext ρ H ρ1 H1) (eo : EnvOk X.K ρ H env σ) (w1 : Wok X.K X.mg ρ1 S1 H1) (r1 : RelU X.K ρ1 H1 u x)
    (h1 : PostS X.mg X.K W ρ1 H1 (match setN tp is u env with | some env => O.nx env S1 | none => .bad) D) : gOf X.K tp is x σ H1 D.nx := by
  split at h1
  · rename_i env' he
    exact g_ok he (eo.mono e1) r1 fun σ' eo' _ => h1.here w1 eo'
  · exact h1.elim
theorem x_set (i : Nat) {x : Str} {px : Pos} (hN : X.N.Nodup) (ha : PE X a (tE X Φ W ta)) (hi : X.N[i]? = some x := by rfl) (hx : Loc X.env.scope x := by first | exact Or.inl rfl | exact Or.inr rfl) (hs : swapsWith a (some (.Name x px)) pos.line X.env = pure false := by rfl)
    (hf : X.fn x = true ∨ X.env.scope.names.lookup x = some .local := by first | exact .inl rfl | exact .inr rfl) : PS X (.Assign [.Name x px] a pos) (tS X Φ W (.set false [i] ta)) :=
  PSw (ps_set hN hi hx ha hs hf) fun D σ H ⟨ρ, S, env, w, eo, h⟩ => by
    rw [ex] at h
    exact ⟨ρ, S, env, w, eo, (PostS.on h).imp fun x H1 ⟨ρ1, S1, u, e1, w1, r1, h1⟩ => set_nx (tp := false) (is := [i]) e1 eo w1 r1 h1⟩
theorem x_tup {is : List Nat} {k : Nat} {pt : Pos} (hc : X.calm = true) (ha : PE X a (tE X Φ W ta)) (hg : PGs X es (gsOf is)) (hn : (assignEach es X.env).length = is.length := by rfl) (hst : (assignEach es X.env).findIdx? (·.1) = none := by rfl)
    (hs : swapsWithSole [.Tuple es k pt] a pos.line X.env = pure false := by rfl) (hw : swappedStores [.Tuple es k pt] a X.env = pure none := by rfl) (h1 : (assignEach [.Tuple es k pt] X.env).map (·.2) = [assign (.Tuple es k pt) X.env] := by rfl) :
    PS X (.Assign [.Tuple es k pt] a pos) (tS X Φ W (.set true is ta)) :=
  PSw (ps_asg ha (g_tup hc hg hn hst) hs hw h1) fun D σ H ⟨ρ, S, env, w, eo, h⟩ => by
    rw [ex] at h
    exact ⟨ρ, S, env, w, eo, (PostS.on h).imp fun x H1 ⟨ρ1, S1, u, e1, w1, r1, h1⟩ => set_nx (tp := true) (is := is) e1 eo w1 r1 h1⟩
theorem x_par (i j : Nat) {y z : Str} {b : Expr} {es : Es} {px py pt : Pos} {kt k2 : Nat} {pt2 : Pos} (hc : X.calm = true) (hN : X.N.Nodup) (ha : PA X [a, b] (tEs X Φ W es)) (hi : X.N[i]? = some y := by rfl) (hj : X.N[j]? = some z := by rfl) (hij : i ≠ j := by decide)
    (hy : X.env.scope.names.lookup y = some .local := by rfl) (hz : X.env.scope.names.lookup z = some .local := by rfl)
    (hw : swappedStores [.Tuple [.Name y px, .Name z py] kt pt] (.Tuple [a, b] k2 pt2) X.env = pure (some [y, z]) := by rfl)
    (hs : swapsWithSole [.Tuple [.Name y px, .Name z py] kt pt] (.Tuple [a, b] k2 pt2) pos.line X.env = pure false := by rfl) :
    PS X (.Assign [.Tuple [.Name y px, .Name z py] kt pt] (.Tuple [a, b] k2 pt2) pos) (tS X Φ W (.par i j es)) :=
  PSw (ps_par hc hN hi hj hij hy hz ha hw hs) fun D σ H ⟨ρ, S, env, w, eo, h⟩ => by
    rw [ex] at h
    refine ⟨ρ, S, env, w, eo, (PostS.on h).imp fun vs H1 ⟨ρ1, S1, us, e1, w1, r1, h1⟩ => ?_⟩
    split at h1
    · rename_i u v
      obtain ⟨x1, vs1, rfl, ru, r1⟩ := r1
      obtain ⟨x2, vs2, rfl, rv, r1⟩ := r1
      cases (show vs2 = [] from r1)
      exact ⟨x1, x2, rfl, h1.here w1 (((eo.mono e1).set i ru).set j rv)⟩
    · exact h1.elim
/-- name = [..] on one line -/
theorem x_setLc (O : Ok X p nm ad d W) (i : Nat) (tp : Bool) (own : List (Str × Nat)) {y : Str} {py spos : Pos} {elt tg iter : Expr} {ifs : List Expr} {scope : Scope} {it : E} {tx : T} (hN : X.N.Nodup) (hi : PE X iter (tE X Φ W it)) (ok : BlkOk X.N X.env.scope scope own)
    (hg : ∀ (s : Shared) (H : Hp) (C : Addr) (cl : List (Str × Addr)) (fp : List Addr), PG (X.blk s H scope (compEnvC scope cl C X.env) fp) tg (gOf X.K tp (own.map (·.2))))
    (ht : ∀ (s : Shared) (H : Hp) (C : Addr) (cl : List (Str × Addr)) (fp : List Addr), PTs (X.blk s H scope (compEnvC scope cl C X.env) fp) ifs (tTs X Φ W0 tx))
    (he : ∀ (s : Shared) (H : Hp) (C : Addr) (cl : List (Str × Addr)) (fp : List Addr), PE (X.blk s H scope (compEnvC scope cl C X.env) fp) elt (tE X Φ W0 te))
    (hsw : swapsWith (.ListComp elt [⟨tg, iter, ifs, 0⟩] scope pos) (some (.Name y py)) spos.line X.env = pure true) (hy : X.N[i]? = some y := by rfl) (hyl : X.env.scope.names.lookup y = some .local := by rfl) (hs : ∀ x, foldedSetIterable iter X.env x = pure x := by intro _; rfl) :
    PS X (.Assign [.Name y py] (.ListComp elt [⟨tg, iter, ifs, 0⟩] scope pos) spos) (tS X Φ W (.set false [i] (.lc (own.map (·.2)) tp te it tx))) :=
  PSw (ps_setLc O.calm hN hy hyl hsw (pi_any hi) ok hg ht he hs) fun D σ H ⟨ρ, S, env, w, eo, h⟩ => by
    rw [ex] at h
    exact lc_read ⟨ρ, S, env, w, eo, (PostS.on h).imp fun x H1 ⟨ρ1, S1, u, e1, w1, r1, h1⟩ => set_nx (tp := false) (is := [i]) e1 eo w1 r1 h1⟩
theorem x_setLcz (O : Ok X p nm ad d W) (i : Nat) (own : List (Str × Nat)) {y : Str} {py spos : Pos} {elt e1 e2 : Expr} {ifs : List Expr} {scope : Scope} {tx : T} {elts : List Expr} {kk : Nat} {tpos pz pc : Pos} (hN : X.N.Nodup) (ha : PA X [e1, e2] (tEs X Φ W tes)) (ok : BlkOk X.N X.env.scope scope own)
    (hg : ∀ (s : Shared) (H : Hp) (C : Addr) (cl : List (Str × Addr)) (fp : List Addr), PG (X.blk s H scope (compEnvC scope cl C X.env) fp) (.Tuple elts kk tpos) (gOf X.K true (own.map (·.2))))
    (ht : ∀ (s : Shared) (H : Hp) (C : Addr) (cl : List (Str × Addr)) (fp : List Addr), PTs (X.blk s H scope (compEnvC scope cl C X.env) fp) ifs (tTs X Φ W0 tx))
    (he : ∀ (s : Shared) (H : Hp) (C : Addr) (cl : List (Str × Addr)) (fp : List Addr), PE (X.blk s H scope (compEnvC scope cl C X.env) fp) elt (tE X Φ W0 te))
    (hsw : swapsWith (.ListComp elt [⟨.Tuple elts kk tpos, .Call (.Name "zip" pz) [e1, e2] [] pc, ifs, 0⟩] scope pos) (some (.Name y py)) spos.line X.env = pure true) (hz : Gl X "zip" := by rfl) (hm : ("zip" : Str) ∈ nm.bins := by decide +kernel)
    (hs1 : starEach [e1, e2] X.env = (false, eval e1 X.env) :: starEach [e2] X.env := by rfl) (hpl : (backTo pc (starEach [e2] X.env)).any (·.1) = false := by rfl) (hy : X.N[i]? = some y := by rfl) (hyl : X.env.scope.names.lookup y = some .local := by rfl) (hs : ∀ x, foldedSetIterable (.Call (.Name "zip" pz) [e1, e2] [] pc) X.env x = pure x := by intro _; rfl) :
    PS X (.Assign [.Name y py] (.ListComp elt [⟨.Tuple elts kk tpos, .Call (.Name "zip" pz) [e1, e2] [] pc, ifs, 0⟩] scope pos) spos) (tS X Φ W (.set false [i] (.lcz (own.map (·.2)) te tes tx))) :=
  PSw (ps_setLc O.calm hN hy hyl hsw (RZ.pi_zipA hz (O.sta.bin _ hm) ha hs1 hpl) ok hg ht he hs) fun D σ H ⟨ρ, S, env, w, eo, h⟩ => by
    rw [ex] at h
    exact lcz_read ⟨ρ, S, env, w, eo, (PostS.on h).imp fun x H1 ⟨ρ1, S1, u, e1, w1, r1, h1⟩ => set_nx (tp := false) (is := [i]) e1 eo w1 r1 h1⟩
theorem x_setLcr (O : Ok X p nm ad d W) (i : Nat) (own : List (Str × Nat)) {y : Str} {py spos : Pos} {elt tg iter : Expr} {ifs : List Expr} {scope : Scope} {tx : T} (hN : X.N.Nodup) (hi : PI X tg iter (tR X Φ W ta tb)) (ok : BlkOk X.N X.env.scope scope own)
    (hg : ∀ (s : Shared) (H : Hp) (C : Addr) (cl : List (Str × Addr)) (fp : List Addr), PG (X.blk s H scope (compEnvC scope cl C X.env) fp) tg (gOf X.K false (own.map (·.2))))
    (ht : ∀ (s : Shared) (H : Hp) (C : Addr) (cl : List (Str × Addr)) (fp : List Addr), PTs (X.blk s H scope (compEnvC scope cl C X.env) fp) ifs (tTs X Φ W0 tx))
    (he : ∀ (s : Shared) (H : Hp) (C : Addr) (cl : List (Str × Addr)) (fp : List Addr), PE (X.blk s H scope (compEnvC scope cl C X.env) fp) elt (tE X Φ W0 te))
    (hsw : swapsWith (.ListComp elt [⟨tg, iter, ifs, 0⟩] scope pos) (some (.Name y py)) spos.line X.env = pure true) (hy : X.N[i]? = some y := by rfl) (hyl : X.env.scope.names.lookup y = some .local := by rfl) (hs : ∀ x, foldedSetIterable iter X.env x = pure x := by intro _; rfl) :
    PS X (.Assign [.Name y py] (.ListComp elt [⟨tg, iter, ifs, 0⟩] scope pos) spos) (tS X Φ W (.set false [i] (.lcr (own.map (·.2)) te ta tb tx))) :=
  PSw (ps_setLc O.calm hN hy hyl hsw hi ok hg ht he hs) fun D σ H ⟨ρ, S, env, w, eo, h⟩ => by
    rw [ex] at h
    exact lcr_read ⟨ρ, S, env, w, eo, (PostS.on h).imp fun x H1 ⟨ρ1, S1, u, e1, w1, r1, h1⟩ => set_nx (tp := false) (is := [i]) e1 eo w1 r1 h1⟩
/-! ### stores -/
theorem set_item : PSet X (fun o i v H Q => ∃ ρ S uo ui u, Wok X.K X.mg ρ S H ∧ RelU X.K ρ H uo o ∧ RelU X.K ρ H ui i ∧ RelU X.K ρ H u v ∧ Post X.mg X.K (Rid (α := Unit)) W ρ H (setItemU uo ui u S) (fun _ => Q)) := by
  rintro pins s σ H o i v ov iv u Q I ro ri rv ⟨ρ, S, uo, ui, uu, w, r1, r2, r3, h⟩
  unfold setItemU at h
  split at h
  · obtain ⟨a, rfl, ha⟩ := r1.loc
    cases r2.int
    split at h
    · rename_i xs hx
      split at h
      · rename_i j hj
        obtain ⟨vs, e, q⟩ := w.at_ hx ha
        exact set_list pins s σ H _ _ v ov iv u Q I ro ri rv ⟨a, vs, _, j, rfl, rfl, e, by rw [q.length]; exact hj, h.set w ha hx e (q.set r3 j) fun _ _ => rfl⟩
      · exact h.elim
    · exact h.elim
  · exact h.elim
theorem x_sub {i : Expr} {ti : E} {pt : Pos} (hc : PE X c (tE X Φ W te)) (ho : PE X o (tE X Φ W to)) (hi : PE X i (tE X Φ W ti)) (hs : swapsWithSole [.Subscript o i pt] c pos.line X.env = pure false := by rfl) (hw : swappedStores [.Subscript o i pt] c X.env = pure none := by rfl)
    (h1 : (assignEach [.Subscript o i pt] X.env).map (·.2) = [assign (.Subscript o i pt) X.env] := by rfl)
    (ha : ∀ v, assign (.Subscript o i pt) X.env v = (do
      let ov ← holding [v] (eval o X.env)
      let iv ← holding [v, ov] (eval i X.env)
      standAt pt
      holding [v, ov, iv] (setItem ov iv v)
      release [v, ov, iv] []) := by intro _; rfl) : PS X (.Assign [.Subscript o i pt] c pos) (tS X Φ W (.sub to ti te)) :=
  PSw (ps_asg hc (pg_sub ho hi (set_item (W := W)) ha) hs hw h1) fun D σ H ⟨ρ, S, env, w, eo, h⟩ => by
    rw [ex] at h
    refine ⟨ρ, S, env, w, eo, (PostS.on h).imp fun x H1 ⟨ρ1, S1, u, e1, w1, r1, h1⟩ => ⟨ρ1, S1, env, w1, eo.mono e1, (PostS.on h1).imp fun y H2 ⟨ρ2, S2, u2, e2, w2, r2, h2⟩ => ⟨ρ2, S2, env, w2, (eo.mono e1).mono e2, (PostS.on h2).imp fun z H3 ⟨ρ3, S3, u3, e3, w3, r3, h3⟩ => ?_⟩⟩⟩
    refine ⟨ρ3, S3, u2, u3, u, w3, r2.mono e3, r3, (r1.mono e2).mono e3, (PostS.on (Rr := Rid) h3).imp fun _ H4 ⟨ρ4, S4, _, e4, w4, _, h4⟩ => ?_⟩
    exact h4.here w4 ((((eo.mono e1).mono e2).mono e3).mono e4)
theorem aug_ip (op : Op) : PIp X (opOf op) (r2 X W (augU op)) := by
  rintro pins s σ H x y v u Q I rx ry ⟨ρ, S, a, b, w, ra, rb, h⟩
  unfold augU at h
  split at h
  · cases ra.int; cases rb.int
    exact iop_add pins s σ H _ _ v u Q I rx ry ⟨_, _, rfl, rfl, h.here w relInt⟩
  · cases ra.str; cases rb.str
    split at h
    · rename_i hz
      exact iop_add_str pins s σ H _ _ v u Q I rx ry ⟨_, _, rfl, rfl, hz, h.here w relStr⟩
    · exact h.elim
  · cases ra.int; cases rb.int
    exact iop_sub pins s σ H _ _ v u Q I rx ry ⟨_, _, rfl, rfl, h.here w relInt⟩
  · cases ra.int; cases rb.int
    split at h
    · rename_i hz
      exact iop_mul pins s σ H _ _ v u Q I rx ry ⟨_, _, rfl, rfl, hz, h.here w relInt⟩
    · exact h.elim
  · exact h.elim
theorem x_aug (op : Op) (i : Nat) {x : Str} {px : Pos} (hN : X.N.Nodup) (ha : PE X a (tE X Φ W ta)) (hi : X.N[i]? = some x := by rfl) (hx : Loc X.env.scope x := by first | exact Or.inl rfl | exact Or.inr rfl) (hf : X.fn x = true ∨ X.env.scope.names.lookup x = some .local := by first | exact .inl rfl | exact .inr rfl) :
    PS X (.AugAssign (.Name x px) (opOf op) a pos) (tS X Φ W (.aug i op ta)) :=
  PSw (ps_aug hN hi hx ha (aug_ip (W := W) op) hf) fun D σ H ⟨ρ, S, env, w, eo, h⟩ => by
    rw [ex] at h
    split at h
    · rename_i u hu
      obtain ⟨v, hv, rv⟩ := eo.ok i u hu
      refine ⟨v, hv, ρ, S, env, w, eo, (PostS.on h).imp fun y H1 ⟨ρ1, S1, u1, e1, w1, r1, h1⟩ => ⟨ρ1, S1, u, u1, w1, rv.mono e1, r1, (PostS.on h1).imp fun z H2 ⟨ρ2, S2, u2, e2, w2, r2, h2⟩ => ?_⟩⟩
      exact h2.here w2 (((eo.mono e1).mono e2).set i r2)
    · exact h.elim
theorem fld_put (O : Ok X p nm ad d W) {C f : Str} (hC : C ∈ nm.clss) {uo u : U} {x y : V} {H : Hp} {ρ : List Addr} {S : Sto} {Q : Hp → Prop} (w : Wok X.K X.mg ρ S H) (r1 : RelU X.K ρ H uo x) (r2 : RelU X.K ρ H u y) (h : Post X.mg X.K (Rid (α := Unit)) W ρ H (setFldU uo C f u S) (fun _ => Q)) :
    ∃ a dx vfs, x = .ref a ∧ H a = some (.ins (ad C) dx vfs) ∧ vfs.length < 1000 ∧ Q (upd H a (.ins (ad C) dx (putF f y vfs))) := by
  unfold setFldU at h
  split at h
  · split at h
    · rename_i hn
      split at h
      · rename_i hD
        obtain ⟨hD, hl⟩ := hD
        rw [hD] at hn
        obtain ⟨a, dx, vfs, rfl, hn', e, q⟩ := ins_at O hC w r1 hn
        have x := Ext.write (ρ := ρ) (o := .ins (ad C) dx (putF f y vfs)) (ins_mut e)
        refine ⟨a, dx, vfs, rfl, e, by rw [← q.length]; omega, h ρ _ () x (w.write hn' hn rfl rfl (ins_mut e) ?_) rfl⟩
        exact ⟨_, dx, _, (O.sta.cls _ hC).1, upd_same, (q.put r2).mono x⟩
      · exact h.elim
    · exact h.elim
  · exact h.elim
theorem x_fset (O : Ok X p nm ad d W) (C : Str) {f : Str} {pf : Pos} (ho : PE X o (tE X Φ W to)) (ha : PE X a (tE X Φ W ta)) (hC : C ∈ nm.clss := by decide +kernel) (hf : (C, f) ∈ nm.flds := by decide +kernel) (hs : swapsWith a (some (.Attribute o f pf)) pos.line X.env = pure false := by rfl) :
    PS X (.Assign [.Attribute o f pf] a pos) (tS X Φ W (.fset to C f ta)) :=
  PSw (ps_fld ho ha hs) fun D σ H ⟨ρ, S, env, w, eo, h⟩ => by
    rw [ex] at h
    refine ⟨ρ, S, env, w, eo, (PostS.on h).imp fun y H1 ⟨ρ1, S1, u, e1, w1, r1, h1⟩ => ⟨ρ1, S1, env, w1, eo.mono e1, (PostS.on h1).imp fun x H2 ⟨ρ2, S2, u2, e2, w2, r2, h2⟩ => ?_⟩⟩
    obtain ⟨q, dx, vfs, rfl, e, hl, hq⟩ := fld_put O hC w2 r2 (r1.mono e2) ((PostS.on (Rr := Rid) h2).imp (Q' := fun _ H3 => ∃ ρ3 S3, Ext ρ2 H2 ρ3 H3 ∧ Wok X.K X.mg ρ3 S3 H3 ∧ PostS X.mg X.K W ρ3 H3 (.nx env S3) D) fun _ H3 ⟨r, s, _, a, b, _, c⟩ => ⟨r, s, a, b, c⟩)
    obtain ⟨ρ3, S3, e3, w3, h3⟩ := hq
    exact ⟨q, ad C, dx, vfs, rfl, e, (O.sta.cls C hC).2.1, O.sta.fld C f hf, hl, h3.here w3 (((eo.mono e1).mono e2).mono e3)⟩
theorem x_faug (O : Ok X p nm ad d W) (op : Op) (C : Str) {f : Str} {pf : Pos} (ho : PE X o (tE X Φ W to)) (ha : PE X a (tE X Φ W ta)) (hC : C ∈ nm.clss := by decide +kernel) (hf : (C, f) ∈ nm.flds := by decide +kernel) :
    PS X (.AugAssign (.Attribute o f pf) (opOf op) a pos) (tS X Φ W (.faug to C f op ta)) :=
  PSw (ps_fldaug ho ha (rd := r2 X W (augU op)) (aug_ip op)) fun D σ H ⟨ρ, S, env, w, eo, h⟩ => by
    rw [ex] at h
    refine ⟨ρ, S, env, w, eo, (PostS.on h).imp fun x H1 ⟨ρ1, S1, u, e1, w1, r1, h1⟩ => ?_⟩
    split at h1
    · split at h1
      · rename_i hn
        split at h1
        · rename_i hD
          subst hD
          split at h1
          · rename_i u0 hu
            obtain ⟨q, dx, vfs, rfl, hn', e, qq⟩ := ins_at O hC w1 r1 hn
            obtain ⟨v0, l, rv⟩ := (qq.look (f := f)).1 u0 hu
            refine ⟨q, _, dx, vfs, v0, rfl, e, (O.sta.cls _ hC).2.1, O.sta.fld _ f hf, l, ρ1, S1, env, w1, eo.mono e1, (PostS.on h1).imp fun y H2 ⟨ρ2, S2, u2, e2, w2, r2, h2⟩ => ⟨ρ2, S2, u0, u2, w2, rv.mono e2, r2, (PostS.on h2).imp fun z H3 ⟨ρ3, S3, u3, e3, w3, r3, h3⟩ => ?_⟩⟩
            obtain ⟨q', dx', vfs', eq', e', hl, hq⟩ := fld_put O hC w3 (relLoc (e3.at_ (e2.at_ hn'))) r3 ((PostS.on (Rr := Rid) h3).imp (Q' := fun _ H4 => ∃ ρ4 S4, Ext ρ3 H3 ρ4 H4 ∧ Wok X.K X.mg ρ4 S4 H4 ∧ PostS X.mg X.K W ρ4 H4 (.nx env S4) D) fun _ H4 ⟨r, s, _, a, b, _, c⟩ => ⟨r, s, a, b, c⟩)
            cases eq'
            obtain ⟨ρ4, S4, e4, w4, h4⟩ := hq
            exact ⟨dx', vfs', e', hl, h4.here w4 ((((eo.mono e1).mono e2).mono e3).mono e4)⟩
          · exact h1.elim
        · exact h1.elim
      · exact h1.elim
    · exact h1.elim
/-! ### targets -/
def tG (X : Cx) (Φ : Cal) (W : XK) (t : Tg) : TG := fun v σ H Q => ∃ ρ S env u, Wok X.K X.mg ρ S H ∧ EnvOk X.K ρ H env σ ∧ RelU X.K ρ H u v ∧ Post X.mg X.K (EnvOk X.K) W ρ H (setT Φ t u env S) Q
def tGs (X : Cx) (Φ : Cal) (W : XK) (t : Tgs) : TGs := fun vs σ H Q => ∃ ρ S env us, Wok X.K X.mg ρ S H ∧ EnvOk X.K ρ H env σ ∧ RelUs X.K ρ H us vs ∧ Post X.mg X.K (EnvOk X.K) W ρ H (setTs Φ t us env S) Q
theorem PGw {e : Expr} {t t' : TG} (h : PG X e t) (i : ∀ v σ H Q, t' v σ H Q → t v σ H Q) : PG X e t' := ⟨fun pins s σ H v u Q I r q => h.run pins s σ H v u Q I r (i _ _ _ _ q)⟩
theorem PGsw {e : List Expr} {t t' : TGs} (h : PGs X e t) (i : ∀ v σ H Q, t' v σ H Q → t v σ H Q) : PGs X e t' := ⟨fun pins s σ H v u Q I r q => h.run pins s σ H v u Q I r (i _ _ _ _ q)⟩
theorem gt_nm (i : Nat) {x : Str} (hN : X.N.Nodup) (hi : X.N[i]? = some x := by rfl) (hx : Loc X.env.scope x := by first | exact Or.inl rfl | exact Or.inr rfl) (hf : X.fn x = true ∨ X.env.scope.names.lookup x = some .local := by first | exact .inl rfl | exact .inr rfl) : PG X (.Name x pos) (tG X Φ W (.nm i)) :=
  PGw (pg_name hN hi hx hf) fun v σ H Q ⟨ρ, S, env, u, w, eo, r, h⟩ => by
    rw [setT] at h
    exact h.here w (eo.set i r)
theorem gt_sb {i : Expr} {ti : E} (ho : PE X o (tE X Φ W to)) (hi : PE X i (tE X Φ W ti))
    (ha : ∀ v, assign (.Subscript o i pos) X.env v = (do
      let ov ← holding [v] (eval o X.env)
      let iv ← holding [v, ov] (eval i X.env)
      standAt pos
      holding [v, ov, iv] (setItem ov iv v)
      release [v, ov, iv] []) := by intro _; rfl) : PG X (.Subscript o i pos) (tG X Φ W (.sb to ti)) :=
  PGw (pg_sub ho hi (set_item (W := W)) ha) fun v σ H Q ⟨ρ, S, env, u, w, eo, r, h⟩ => by
    rw [setT] at h
    refine ⟨ρ, S, env, w, eo, (Post.bind h).imp fun y H2 ⟨ρ2, S2, u2, e2, w2, r2, h2⟩ => ⟨ρ2, S2, env, w2, eo.mono e2, (Post.bind h2).imp fun z H3 ⟨ρ3, S3, u3, e3, w3, r3, h3⟩ => ?_⟩⟩
    refine ⟨ρ3, S3, u2, u3, u, w3, r2.mono e3, r3, (r.mono e2).mono e3, (Post.bind (Rr := Rid) h3).imp fun _ H4 ⟨ρ4, S4, _, e4, w4, _, h4⟩ => ?_⟩
    exact h4.here w4 (((eo.mono e2).mono e3).mono e4)
theorem gts_nil : PGs X [] (tGs X Φ W .nil) := PGsw pgs_nil fun v σ H Q ⟨ρ, S, env, us, w, eo, r, h⟩ => by
  cases us with
  | nil =>
    rw [setTs] at h
    simp only [RelUs] at r
    exact ⟨r, h.here w eo⟩
  | cons _ _ => exact h.elim
theorem gts_cons {t : Tg} {ts : Tgs} (h1 : PG X e (tG X Φ W t)) (h2 : PGs X es (tGs X Φ W ts)) (hs : (assignEach (e :: es) X.env).map (·.2) = assign e X.env :: (assignEach es X.env).map (·.2) := by rfl) : PGs X (e :: es) (tGs X Φ W (.cons t ts)) :=
  PGsw (pgs_cons h1 h2 hs) fun v σ H Q ⟨ρ, S, env, us, w, eo, r, h⟩ => by
    cases us with
    | nil => exact h.elim
    | cons u us =>
      rw [setTs] at h
      simp only [RelUs] at r
      obtain ⟨v1, vs1, rfl, r1, r2⟩ := r
      exact ⟨v1, vs1, rfl, ρ, S, env, u, w, eo, r1, (Post.bind h).imp fun σ' H' ⟨ρ1, S1, env1, e1, w1, eo1, h1⟩ => ⟨ρ1, S1, env1, us, w1, eo1, r2.mono e1, h1⟩⟩
theorem setT_tp {ts : Tgs} {u : U} {env : Env} {S : Sto} : setT Φ (.tp ts) u env S = (match u with
      | .tup us => if us.length = ts.len then setTs Φ ts us env S else .bad
      | _ => .bad) := by cases u <;> simp [setT]
theorem gt_tp {ts : Tgs} {k : Nat} (hc : X.calm = true) (h : PGs X es (tGs X Φ W ts)) (hn : (assignEach es X.env).length = ts.len := by rfl) (hst : (assignEach es X.env).findIdx? (·.1) = none := by rfl) : PG X (.Tuple es k pos) (tG X Φ W (.tp ts)) :=
  PGw (pg_tup hc h hn hst) fun v σ H Q ⟨ρ, S, env, u, w, eo, r, h⟩ => by
    cases u with
    | tup us =>
      replace h : Post X.mg X.K (EnvOk X.K) W ρ H (if us.length = ts.len then setTs Φ ts us env S else .bad) Q := by rw [setT_tp] at h; exact h
      split at h
      · rename_i hl
        obtain ⟨a, vs, rfl, hq, hr⟩ := r.tup
        exact ⟨a, vs, rfl, hq, by rw [hr.length]; exact hl, ρ, S, env, us, w, eo, hr, h⟩
      · exact h.elim
    | _ =>
      rw [setT_tp] at h
      exact h.elim
theorem x_tset {t : Tg} {tgt : Expr} (ha : PE X a (tE X Φ W ta)) (hg : PG X tgt (tG X Φ W t)) (hs : swapsWithSole [tgt] a pos.line X.env = pure false := by rfl) (hw : swappedStores [tgt] a X.env = pure none := by rfl) (h1 : (assignEach [tgt] X.env).map (·.2) = [assign tgt X.env] := by rfl) :
    PS X (.Assign [tgt] a pos) (tS X Φ W (.tset t ta)) :=
  PSw (ps_asg ha hg hs hw h1) fun D σ H ⟨ρ, S, env, w, eo, h⟩ => by
    rw [ex] at h
    refine ⟨ρ, S, env, w, eo, (PostS.on h).imp fun x H1 ⟨ρ1, S1, u, e1, w1, r1, h1⟩ => ⟨ρ1, S1, env, u, w1, eo.mono e1, r1, (PostS.on h1).imp fun σ' H2 ⟨ρ2, S2, env2, e2, w2, r2, h2⟩ => ?_⟩⟩
    exact h2.here w2 r2
/-! ### loops -/
theorem PostS.turn {K : PySem.W.Frag} {mg : Str → Option Value} {ρ : List Addr} {H : Hp} {r : O} {f : Env → Sto → O} {D : Ends} {N : L2.St → Hp → Prop} (h : PostS mg K W ρ H (r.turn f) D)
    (hN : ∀ ρ1 S1 env1 σ H1, Ext ρ H ρ1 H1 → Wok K mg ρ1 S1 H1 → EnvOk K ρ1 H1 env1 σ → PostS mg K W ρ1 H1 (f env1 S1) D → N σ H1) : PostS mg K W ρ H r { D with nx := N, ct := N, bk := D.nx } := by
  cases r with
  | nx a S => exact fun ρ' H' b e' w r => hN ρ' S a b H' e' w r (PostS.ext e' h)
  | ret a S => exact h
  | bk a S => exact h
  | ct a S => exact fun ρ' H' b e' w r => hN ρ' S a b H' e' w r (PostS.ext e' h)
  | exc c fs S => exact h
  | bad => exact h
theorem x_while (O : Ok X p nm ad d W) {body : List Stmt} {tb : Sts} (hc : PT X c (tTs X Φ W tc)) (hb : PSs X body (tB X Φ W tb)) : PS X (.While c body [] pos) (tS X Φ W (.while_ tc tb)) :=
  PSw (ps_while O.own hc hb) fun D σ H ⟨ρ, S, env, w, eo, h⟩ => by
    rw [ex] at h
    refine ⟨fun n σ H => ∃ ρ S env, Wok X.K X.mg ρ S H ∧ EnvOk X.K ρ H env σ ∧ PostS X.mg X.K W ρ H (loopI (fun env S => evt Φ tc env S) (fun env S => exs Φ tb env S) n env S) D, ⟨fuel, ρ, S, env, w, eo, h⟩, ?_⟩
    rintro n σ H ⟨ρ, S, env, w, eo, h⟩
    cases n with
    | zero => exact h.elim
    | succ n =>
      unfold loopI at h
      refine ⟨ρ, S, env, w, eo, (PostS.on (Rr := Rid) h).imp fun x H1 ⟨ρ1, S1, u, e1, w1, r1, h1⟩ => ?_⟩
      cases r1
      cases x with
      | true =>
        refine iteT ⟨fun σ H => ∃ ρ S env, Wok X.K X.mg ρ S H ∧ EnvOk X.K ρ H env σ ∧ PostS X.mg X.K W ρ H (loopI (fun env S => evt Φ tc env S) (fun env S => exs Φ tb env S) n env S) D, fun σ' H' q => ⟨n, Nat.lt_succ_self n, q⟩, ρ1, S1, env, w1, eo.mono e1, ?_⟩
        exact PostS.turn h1 fun ρ2 S2 env2 σ2 H2 _ w2 eo2 h2 => ⟨ρ2, S2, env2, w2, eo2, h2⟩
      | false => exact iteF (h1.here w1 (eo.mono e1))
theorem for_turns {tp : Bool} {is : List Nat} {tb : Sts} {J : It} {all : List U} {src : Option Nat} {ρ1 : List Addr} {S1 : Sto} {H1 : Hp} {σ : L2.St} {env : Env} {D : Ends} (w1 : Wok X.K X.mg ρ1 S1 H1) (eo : EnvOk X.K ρ1 H1 env σ) (hg : Goes X.K X.mg J all src ρ1 H1)
    (h : PostS X.mg X.K W ρ1 H1 (forI tp is (fun env S => exs Φ tb env S) all src all env S1) D) :
    ∃ W' : Nat → Nat → L2.St → Hp → Prop, (∃ m, W' 0 m σ H1) ∧ ∀ i m σ H, W' i m σ H → (J.stop i H ∧ D.nx σ H) ∨ (J.go i H ∧ ∃ N : L2.St → Hp → Prop, (∀ σ' H', N σ' H' → ∃ m', m' < m ∧ W' (i + 1) m' σ' H') ∧ ∀ x H', J.yld i H x H' → gOf X.K tp is x σ H' fun σ2 H2 => tB X Φ W tb { D with nx := N, ct := N, bk := D.nx } σ2 H2) := by
  let Inv' : Nat → L2.St → Hp → Prop := fun i σ H => i ≤ all.length ∧ ∃ ρ S env, Ext ρ1 H1 ρ H ∧ Wok X.K X.mg ρ S H ∧ EnvOk X.K ρ H env σ ∧ PostS X.mg X.K W ρ H (forI tp is (fun env S => exs Φ tb env S) all src (all.drop i) env S) D
  refine ⟨fun i m σ H => m = all.length - i ∧ Inv' i σ H, ⟨_, rfl, Nat.zero_le _, _, _, env, Ext.refl, w1, eo, by simpa using h⟩, ?_⟩
  rintro i m σ H ⟨rfl, hi, ρ, S, env, ex, w, eo, hp⟩
  by_cases hlt : i < all.length
  · refine .inr ?_
    rw [List.drop_eq_getElem_cons hlt] at hp
    unfold forI at hp
    split at hp
    · rename_i hst
      obtain ⟨hgo, hy⟩ := (hg ρ S H i ex w hst).1 hlt
      refine ⟨hgo, Inv' (i + 1), fun σ' H' q => ⟨all.length - (i + 1), by omega, rfl, q⟩, fun x H' yl => ?_⟩
      obtain ⟨rfl, u, hu, ru⟩ := hy x H' yl
      rw [List.getElem?_eq_getElem hlt] at hu
      cases hu
      split at hp
      · rename_i env' he
        refine g_ok he eo ru fun σ2 eo2 _ => ⟨ρ, S, env', w, eo2, ?_⟩
        exact PostS.turn hp fun ρ2 S2 env2 σ2 H2 x2 w2 eo2 h2 => ⟨hlt, ρ2, S2, env2, ex.trans x2, w2, eo2, h2⟩
      · exact hp.elim
    · exact hp.elim
  · refine .inl ?_
    have e : i = all.length := by omega
    subst e
    rw [List.drop_length] at hp
    unfold forI at hp
    split at hp
    · rename_i hst
      exact ⟨(hg ρ S H _ ex w hst).2 (Nat.le_refl _), hp.here w eo⟩
    · exact hp.elim
theorem x_for (O : Ok X p nm ad d W) (tp : Bool) (is : List Nat) {tg iter : Expr} {it : E} {body : List Stmt} {tb : Sts} (hi : PE X iter (tE X Φ W it)) (hg : PG X tg (gOf X.K tp is)) (hb : PSs X body (tB X Φ W tb)) (hs : ∀ x, foldedSetIterable iter X.env x = pure x := by intro _; rfl) :
    PS X (.For tg iter body [] pos) (tS X Φ W (.for_ tp is it tb)) :=
  PSw (ps_for O.own O.calm (pi_any hi) hg hb hs) fun D σ H ⟨ρ, S, env, w, eo, h⟩ => by
    rw [ex] at h
    refine ⟨ρ, S, env, w, eo, (PostS.on h).imp fun x H1 ⟨ρ1, S1, u, e1, w1, r1, h1⟩ => ?_⟩
    split at h1
    · rename_i all src hi'
      exact ⟨ρ1, S1, u, all, src, w1, r1, hi', fun J hg => for_turns w1 (eo.mono e1) hg h1⟩
    · exact h1.elim
theorem x_forr (O : Ok X p nm ad d W) (i : Nat) {tg iter : Expr} {body : List Stmt} {ts : Sts} (hi : PI X tg iter (tR X Φ W ta tb)) (hg : PG X tg (gOf X.K false [i])) (hb : PSs X body (tB X Φ W ts)) (hs : ∀ x, foldedSetIterable iter X.env x = pure x := by intro _; rfl) :
    PS X (.For tg iter body [] pos) (tS X Φ W (.forr i ta tb ts)) :=
  PSw (ps_for O.own O.calm hi hg hb hs) fun D σ H ⟨ρ, S, env, w, eo, h⟩ => by
    rw [ex] at h
    refine ⟨ρ, S, env, w, eo, (PostS.on h).imp fun x H1 ⟨ρ1, S1, u, e1, w1, r1, h1⟩ => ⟨ρ1, S1, env, w1, eo.mono e1, (PostS.on h1).imp fun y H2 ⟨ρ2, S2, u2, e2, w2, r2, h2⟩ => ?_⟩⟩
    split at h2
    · split at h2
      · rename_i hb
        cases r1.int
        cases r2.int
        exact ⟨ρ2, S2, _, _, w2, rfl, rfl, hb, for_turns w2 ((eo.mono e1).mono e2) goes_rng h2⟩
      · exact h2.elim
    · exact h2.elim
theorem s_tdin (O : Ok X p nm ad d W) {x : Str} {px : Pos} (hb : PE X b (tE X (p.cal d) W tb)) (hg : Gl X x := by rfl) (hp : (p.gd x).isSome = true := by decide +kernel) (hd : (x == ("__debug__" : Str)) = false := by decide) (hmk : behindInMarks CmpOp.In (.Name x px) = false := by rfl) :
    PT X (.Compare b [.In] [.Name x px] pos) (tTs X (p.cal d) W (.e (.din x tb))) := by
  obtain ⟨kvs, hk⟩ := Option.isSome_iff_exists.mp hp
  obtain ⟨a, es, n, hm, kd, hv, hn⟩ := O.gdi x kvs hk
  refine PTw' (pt_cmpR (op_in_kd kd) hb (pe_glob hg hm (v := .ref a) rfl hd) hmk) fun σ H Q ⟨ρ, S, env, w, eo, h⟩ => ?_
  rw [evt, ev, cal_gd, hk] at h
  have h0 : Post X.mg X.K Rid W ρ H ((ev (p.cal d) tb env S).bind fun k S => (match k with | .str z => R.ok (kvs.lookup z).isSome S | _ => .bad)) Q := by
    cases hx : ev (p.cal d) tb env S with
    | ok u S1 =>
      rw [hx] at h
      simp only [R.bind] at h ⊢
      cases u <;> exact h
    | exc c fs S1 => rw [hx] at h; exact h
    | bad => rw [hx] at h; exact h
  refine ⟨ρ, S, env, w, eo, (Post.bind h0).imp fun y H1 ⟨ρ1, S1, u, e1, w1, r1, h1⟩ => ?_⟩
  cases u with
  | str z =>
    cases r1.str
    replace h1 : Post X.mg X.K Rid W ρ1 H1 (R.ok (kvs.lookup z).isSome S1) Q := h1
    cases hl : kvs.lookup z with
    | some u' =>
      obtain ⟨u0, v, hn', _, _⟩ := hv z u' hl
      rw [hl] at h1
      exact ⟨z, some u0, rfl, rfl, hn', true, rfl, h1.here w1 rfl⟩
    | none =>
      rw [hl] at h1
      exact ⟨z, none, rfl, rfl, hn z hl, false, rfl, h1.here w1 rfl⟩
  | _ => exact h1.elim
/-! ### match -/
section
/-- the items of a pattern, as they are written -/
inductive PisOk (X : Cx) : List Pattern → List Pi → Prop
  | nil : PisOk X [] []
  | lit {x : Str} {j : Nat} {p1 p2 : Pos} {ps : List Pattern} {qs : List Pi} : PisOk X ps qs → PisOk X (.MatchValue (.Constant (.str x) j p1) p2 :: ps) (.lit x :: qs)
  | cap {i : Nat} {x : Str} {p1 : Pos} {ps : List Pattern} {qs : List Pi} : X.N[i]? = some x → Loc X.env.scope x → (X.fn x = true ∨ X.env.scope.names.lookup x = some .local) → PisOk X ps qs → PisOk X (.MatchAs none (some x) p1 :: ps) (.cap i :: qs)
  | wild {p1 : Pos} {ps : List Pattern} {qs : List Pi} : PisOk X ps qs → PisOk X (.MatchAs none none p1 :: ps) (.wild :: qs)
/-- names that are bound in order lead from env to env' -/
inductive Caps (X : Cx) (ρ : List Addr) (H : Hp) : Env → List (Str × Value) → Env → Prop
  | nil {env : Env} : Caps X ρ H env [] env
  | cons {env env' : Env} {i : Nat} {x : Str} {u : U} {v : V} {w : Value} {bs : List (Str × Value)} : X.N[i]? = some x → Loc X.env.scope x → (X.fn x = true ∨ X.env.scope.names.lookup x = some .local) → RelU X.K ρ H u v → RelV v w → Caps X ρ H (env.set i (some u)) bs env' → Caps X ρ H env ((x, w) :: bs) env'
theorem caps_run (hN : X.N.Nodup) {ρ : List Addr} {H : Hp} {env env' : Env} {bs : List (Str × Value)} (c : Caps X ρ H env bs env') : ∀ {pins : List (Addr × Obj)} {s : Shared} {σ : L2.St} {Q : Unit → Shared → Prop}, L2.Inv X pins σ H s → EnvOk X.K ρ H env σ → (∀ s' σ', L2.Inv X pins σ' H s' → EnvOk X.K ρ H env' σ' → Q () s') →
    wpAny (model X.prog X.w) X.A (assignInOrder (bs.map fun (n, _) => bindName X.env n) (bs.map (·.2))) Q X.xe s := by
  induction c with
  | nil => exact fun I eo q => assignInOrder_nil (q _ _ I eo)
  | @cons env env' i x u v w bs hi hx hf ru rv _ ih =>
    intro pins s σ Q I eo q
    refine assignInOrder_cons (wpAny_bindName (store_ok I hN hi hx rv (fun s2 I2 => ?_) hf))
    exact ih I2 (eo.set i ru) q
theorem each_run {ρ : List Addr} {H : Hp} {ps : List Pattern} {qs : List Pi} (P : PisOk X ps qs) : ∀ {us : List U} {vs : List V} {xs : List Value} {env : Env} {res : Option Env} {pins : List (Addr × Obj)} {s : Shared} {σ : L2.St} {Q : Option (List (Str × Value)) → Shared → Prop}, pisM qs us env = some res → L2.Inv X pins σ H s → RelUs X.K ρ H us vs → Vals vs xs →
    (∀ s', L2.Inv X pins σ H s' → (res = none → Q none s') ∧ ∀ env' bs, res = some env' → Caps X ρ H env bs env' → Q (some bs) s') → wpAny (model X.prog X.w) X.A (matchEach ps X.env xs) Q X.xe s := by
  induction P with
  | nil =>
    intro us vs xs env res pins s σ Q h I r rv q
    cases us with
    | cons _ _ => simp [pisM] at h
    | nil =>
      simp only [pisM, Option.some.injEq] at h
      subst h
      simp only [RelUs] at r
      subst r
      cases rv
      exact wpAny_matchEach_nil ((q s I).2 env [] rfl .nil)
  | @lit x j p1 p2 ps qs _ ih =>
    intro us vs xs env res pins s σ Q h I r rv q
    cases us with
    | nil => simp [pisM] at h
    | cons u us =>
      simp only [RelUs] at r
      obtain ⟨v, vs', rfl, r1, r2⟩ := r
      cases rv with
      | @cons _ v0 _ xs' rv1 rv2 =>
        cases u with
        | str y =>
          simp only [pisM] at h
          cases r1.str
          refine wpAny_matchEach_cons (wpAny_matchPattern_Value ?_)
          have hp := (pe_str (X := X) (x := x) (j := j) (pos := p1)).run pins s σ H (fun v H1 => v = .str x ∧ H1 = H) I ⟨rfl, rfl⟩
          refine thn hp fun c s1 ⟨vc, H1, I1, rc, ec, eh⟩ => ?_
          subst ec eh
          have hc := op_eq (X := X) pins s1 σ H1 (.str y) (.str x) _ _ (fun v H2 => v = .bl (decide (y = x)) ∧ H2 = H1) I1 rv1 rc ⟨rfl, by simp⟩
          refine thn hc fun b s2 ⟨vb, H2, I2, rb, eb, eh⟩ => ?_
          subst eb eh
          obtain rfl : b = Value.bool (decide (y = x)) := rb
          refine wpAny_truthy_bool ?_
          by_cases hyx : y = x
          · rw [if_pos hyx] at h
            rw [decide_eq_true hyx]
            simp only [if_true]
            refine ih h I2 r2 rv2 fun s3 I3 => ⟨fun e => (q s3 I3).1 e, fun env' bs e c => ?_⟩
            exact (q s3 I3).2 env' ([] ++ bs) e c
          · rw [if_neg hyx] at h
            cases h
            rw [decide_eq_false hyx]
            exact (q s2 I2).1 rfl
        | _ => simp [pisM] at h
  | @cap i x p1 ps qs hi hx hf _ ih =>
    intro us vs xs env res pins s σ Q h I r rv q
    cases us with
    | nil => simp [pisM] at h
    | cons u us =>
      simp only [RelUs] at r
      obtain ⟨v, vs', rfl, r1, r2⟩ := r
      cases rv with
      | @cons _ v0 _ xs' rv1 rv2 =>
        simp only [pisM] at h
        refine wpAny_matchEach_cons (wpAny_matchPattern_Capture ?_)
        refine ih h I r2 rv2 fun s3 I3 => ⟨fun e => (q s3 I3).1 e, fun env' bs e c => ?_⟩
        exact (q s3 I3).2 env' _ e (.cons hi hx hf r1 rv1 c)
  | @wild p1 ps qs _ ih =>
    intro us vs xs env res pins s σ Q h I r rv q
    cases us with
    | nil => simp [pisM] at h
    | cons u us =>
      simp only [RelUs] at r
      obtain ⟨v, vs', rfl, r1, r2⟩ := r
      cases rv with
      | @cons _ v0 _ xs' rv1 rv2 =>
        have h' : pisM qs us env = some res := by cases u <;> simpa [pisM] using h
        refine wpAny_matchEach_cons (wpAny_matchPattern_Capture ?_)
        refine ih h' I r2 rv2 fun s3 I3 => ⟨fun e => (q s3 I3).1 e, fun env' bs e c => ?_⟩
        exact (q s3 I3).2 env' _ e c
/-- a pattern, as it is written -/
inductive PtOk (X : Cx) : Pattern → Pt → Prop
  | wild {p1 : Pos} : PtOk X (.MatchAs none none p1) .wild
  | val {x : Str} {j : Nat} {p1 p2 : Pos} : PtOk X (.MatchValue (.Constant (.str x) j p1) p2) (.val x)
  | seq {ps : List Pattern} {qs : List Pi} {p1 : Pos} : PisOk X ps qs → (ps.findIdx? (·.isStar) = none) → ((ps.all fun p => p.isWildcard || (p.isStar && p.names.isEmpty)) = false) → PtOk X (.MatchSequence ps p1) (.seq qs)
theorem PisOk.length {ps : List Pattern} {qs : List Pi} (h : PisOk X ps qs) : ps.length = qs.length := by
  induction h with
  | nil => rfl
  | lit _ ih => simp [ih]
  | cap _ _ _ _ ih => simp [ih]
  | wild _ ih => simp [ih]
theorem pat_run (hc : X.calm = true) {ρ : List Addr} {H : Hp} {p : Pattern} {t : Pt} (P : PtOk X p t) {u : U} {v : V} {x : Value} {env : Env} {res : Option Env} {pins : List (Addr × Obj)} {s : Shared} {σ : L2.St} {Q : Option (List (Str × Value)) → Shared → Prop} (h : ptM t u env = some res) (I : L2.Inv X pins σ H s) (r : RelU X.K ρ H u v) (rv : RelV v x)
    (q : ∀ s', L2.Inv X pins σ H s' → (res = none → Q none s') ∧ ∀ env' bs, res = some env' → Caps X ρ H env bs env' → Q (some bs) s') : wpAny (model X.prog X.w) X.A (matchPattern p X.env x) Q X.xe s := by
  cases P with
  | wild =>
    have h' : some (some env) = some res := by cases u <;> simpa [ptM] using h
    cases h'
    exact wpAny_matchPattern_Capture ((q s I).2 env [] rfl .nil)
  | @val y j p1 p2 =>
    cases u with
    | str z =>
      simp only [ptM, Option.some.injEq] at h
      subst h
      cases r.str
      refine wpAny_matchPattern_Value ?_
      have hp := (pe_str (X := X) (x := y) (j := j) (pos := p1)).run pins s σ H (fun v H1 => v = .str y ∧ H1 = H) I ⟨rfl, rfl⟩
      refine thn hp fun c s1 ⟨vc, H1, I1, rc, ec, eh⟩ => ?_
      subst ec eh
      have hc := op_eq (X := X) pins s1 σ H1 (.str z) (.str y) _ _ (fun v H2 => v = .bl (decide (z = y)) ∧ H2 = H1) I1 rv rc ⟨rfl, by simp⟩
      refine thn hc fun b s2 ⟨vb, H2, I2, rb, eb, eh⟩ => ?_
      subst eb eh
      obtain rfl : b = Value.bool (decide (z = y)) := rb
      refine wpAny_truthy_bool ?_
      by_cases hzy : z = y
      · rw [decide_eq_true hzy]
        exact (q s2 I2).2 env [] (if_pos hzy) .nil
      · rw [decide_eq_false hzy]
        exact (q s2 I2).1 (if_neg hzy)
    | _ => simp [ptM] at h
  | @seq ps qs p1 P hstar hwild =>
    cases u with
    | tup us =>
      simp only [ptM] at h
      obtain ⟨a, vs, rfl, hq, hr⟩ := r.tup
      cases rv
      obtain ⟨its, rits, ht, hz⟩ := I.tuple hq
      have hl : its.toArray.size = us.length := by
        rw [List.size_toArray, ← rits.length, hr.length]
      have hfit : ((its.toArray.size : Nat) : Int) < 2 ^ 63 := by
        rw [List.size_toArray, ← rits.length]
        have : sizeLine < 2 ^ 62 := by decide
        omega
      by_cases hn : us.length = qs.length
      · rw [if_pos hn] at h
        have hn' : its.toArray.size = ps.length := by rw [hl, hn, P.length]
        refine matchSeq_tuple_hit ht hfit hn' ?_ hstar hwild
        rw [← hn']
        refine wpAny_unpackItems_tuple (I.ok.hd hc) (show s.heap.IsTuple a its.toArray from ht) fun h' hx => ?_
        have I1 : L2.Inv X pins σ H { s with heap := h', toks := s.toks + 1 + 1 } := I.kept (t' := s.toks + 1 + 1) fun b o e => hx b o (Nat.ne_of_lt (Heap.lt_size e)) e
        exact each_run P h I1 hr (by simpa using rits) q
      · rw [if_neg hn] at h
        cases h
        have hn' : its.toArray.size ≠ ps.length := by rw [hl, P.length]; exact hn
        exact matchSeq_tuple_miss ht hfit hn' ((q _ (I.tok _)).1 rfl) hstar hwild
    | _ => simp [ptM] at h
def tCs (X : Cx) (Φ : Cal) (W : XK) (cs : Cs) (v : V) : TS := fun D σ H => ∃ ρ S env u, Wok X.K X.mg ρ S H ∧ EnvOk X.K ρ H env σ ∧ RelU X.K ρ H u v ∧ PostS X.mg X.K W ρ H (exc Φ cs u env S) D
structure PCs (X : Cx) (cs : List MatchCase) (t : V → TS) : Prop where
  run : ∀ (first : Bool) (pins : List (Addr × Obj)) (s : Shared) (σ : L2.St) (H : Hp) (D : Ends) (v : V) (x : Value), L2.Inv X pins σ H s → RelV v x → t v D σ H → wpAny (model X.prog X.w) X.A (matchCases cs X.env x first) (SP X pins D) X.xe s
theorem c_nil : PCs X [] (tCs X Φ W .nil) := ⟨fun first pins s σ H D v x I rv ⟨ρ, S, env, u, w, eo, r, h⟩ => by
  rw [exc] at h
  exact wpAny_matchCases_nil ⟨σ, H, I, h.here w eo⟩⟩
theorem c_cons {p : Pattern} {t : Pt} {body : List Stmt} {cs : List MatchCase} {tb : Sts} {ts : Cs} (hc : X.calm = true) (hN : X.N.Nodup) (hp : PtOk X p t) (hb : PSs X body (tB X Φ W tb)) (hr : PCs X cs (tCs X Φ W ts)) : PCs X (⟨p, none, body⟩ :: cs) (tCs X Φ W (.cons t tb ts)) :=
  ⟨fun first pins s σ H D v x I rv ⟨ρ, S, env, u, w, eo, r, h⟩ => by
    rw [exc] at h
    refine wpAny_matchCases_cons ?_
    cases hm : ptM t u env with
    | none => rw [hm] at h; exact h.elim
    | some res =>
      rw [hm] at h
      refine pat_run hc hp hm I r rv fun s' I' => ⟨fun e => ?_, fun env' bs e c => ?_⟩
      · subst e
        exact hr.run false pins s' σ H D v x I' rv ⟨ρ, S, env, u, w, eo, r, h⟩
      · subst e
        refine caps_run hN c I' eo fun s2 σ2 I2 eo2 => ?_
        exact hb.run pins s2 σ2 H D I2 ⟨ρ, S, env', w, eo2, h⟩⟩
theorem x_match {cs : List MatchCase} {ts : Cs} (ha : PE X a (tE X Φ W ta)) (hcs : PCs X cs (tCs X Φ W ts)) : PS X (.Match a cs pos) (tS X Φ W (.mtch ta ts)) :=
  ⟨fun pins s σ H D I ⟨ρ, S, env, w, eo, h⟩ => by
    rw [ex] at h
    refine wpAny_Match (thn (ha.run pins s σ H _ I ⟨ρ, S, env, w, eo, PostS.on h⟩) fun x s1 ⟨v, H1, I1, rv, ρ1, S1, u, e1, w1, r1, h1⟩ => ?_)
    exact hcs.run true pins s1 σ H1 D v x I1 rv ⟨ρ1, S1, env, u, w1, eo.mono e1, r1, h1⟩⟩
end
end
end Oz

end

section
set_option maxHeartbeats 4000000
/-! OzL: the list of the distinct items, by a dict whose keys are tuples. -/
namespace Oz
open PySem PySem.Spec PyProof.Rows L2

/-- the dict at D: its keys' tuples, in order -/
def DicX (P : Program) (w : World) (D : Addr) (es : List (List Key × Addr × Value)) (h : Heap) : Prop :=
  (D == sysModules) = false ∧ ∃ o tb ep, h.get? D = some o ∧ o.ExactDict ∧ o.data = .dict tb ep ∧ tb.toList = es.map (entryOfKey (tupleKind (mixKind P w))) ∧ (es.map (·.1)).Nodup
abbrev hoX (X : Cx) (D : Addr) (es : List (List Key × Addr × Value)) : HO := .ext (DicX X.prog X.w D es)
theorem dicX_ok {P : Program} {w : World} {D : Addr} {es : List (List Key × Addr × Value)} {H : Hp} {h : Heap} (q : DicX P w D es h) : ObjOk P w H h D (.ext (DicX P w D es)) := by
  refine ⟨q, ?_, fun h1 h2 q1 k => ?_⟩
  · obtain ⟨_, o, _, _, e, _⟩ := q
    exact ⟨o, e⟩
  · obtain ⟨a, o, tb, ep, e, r⟩ := q1
    exact ⟨a, o, tb, ep, k o e, r⟩
theorem dicX_of {X : Cx} {pins : List (Addr × Obj)} {σ : L2.St} {H : Hp} {s : Shared} {D : Addr} {es : List (List Key × Addr × Value)} (I : Inv X pins σ H s) (h : H D = some (hoX X D es)) : DicX X.prog X.w D es s.heap :=
  (show ObjOk X.prog X.w H s.heap D (hoX X D es) from I.hok D _ h).1
theorem isKey_of {X : Cx} {pins : List (Addr × Obj)} {σ : L2.St} {H : Hp} {s : Shared} {b : Addr} {ks : List Key} (I : Inv X pins σ H s) (h : SqT X.K H b (ks.map kV)) : (tupleKind (mixKind X.prog X.w)).is s.heap ks b := by
  obtain ⟨its, rv, ⟨o, e1, e2, n, e3⟩, _⟩ := I.tuple h
  exact ⟨o, its.toArray, n, e1, e2, e3, by simpa using items_are rv⟩
/-- D[k] = v -/
theorem dicX_set {X : Cx} {pins : List (Addr × Obj)} {σ : L2.St} {H : Hp} {s : Shared} {Er : Value → Shared → Prop} {D b : Addr} {es : List (List Key × Addr × Value)} {k : List Key} {v : Value} {Q : Unit → Shared → Prop} (hu : X.A.units < cLine)
    (I : Inv X pins σ H s) (hD : H D = some (hoX X D es)) (hz : es.length < sizeLine) (hb : SqT X.K H b (k.map kV)) (he : ∀ e ∈ es, SqT X.K H e.2.1 (e.1.map kV))
    (q : ∀ s', Inv X pins σ (upd H D (hoX X D (storedH es k b v))) s' → Q () s') : wpAny (model X.prog X.w) X.A (dictSet D (.ref b) v) Q Er s := by
  obtain ⟨hs, o, tb, ep, e1, e2, e3, e4, e5⟩ := dicX_of I hD
  have dd' : s.heap.DictOfH (tupleKind (mixKind X.prog X.w)) D es := ⟨o, tb, ep, e1, e2, e3, e4, fun x hx => isKey_of I (he x hx), e5⟩
  have hz' : es.length ≤ sizeLine := Nat.le_of_lt hz
  refine wpAny_dictSet_heap (hsz := hz') hu (isKey_of I hb) dd' fun h' nd sb => q _ ?_
  obtain ⟨o2, tb2, ep2, f1, f2, f3, f4, _, f5⟩ := nd
  exact d_write I (by rw [hD]; trivial) sb ⟨_, f1⟩ (dicX_ok ⟨hs, o2, tb2, ep2, f1, f2, f3, f4, f5⟩)

/-- {k: v for t in it}: the turns -/
def tDx (X : Cx) (wi : TI) (g : TG) (tk tv : TE) (vs : List Nat) : TE := fun σ H Q => wi σ H fun J H1 => ∀ D, H1 D = none →
  ∃ W : Nat → Nat → Hp → Prop, (∃ m, W 0 m (upd H1 D (hoX X D []))) ∧ ∀ i m Hi, W i m Hi →
    (J.stop i Hi ∧ Q (.ref D) Hi) ∨
    (J.go i Hi ∧ ∃ Nx : Hp → Prop, (∀ Hn, Nx Hn → ∃ m', m' < m ∧ W (i + 1) m' Hn) ∧ ∀ x Hy, J.yld i Hi x Hy →
      g x (wipe σ vs) Hy fun σg Hg => wipe σg vs = wipe σ vs ∧ tk σg Hg fun y Hk => tv σg Hk fun _ Hv =>
        ∃ es k b, y = .ref b ∧ SqT X.K Hv b (k.map kV) ∧ Hv D = some (hoX X D es) ∧ es.length < sizeLine ∧ (∀ e ∈ es, SqT X.K Hv e.2.1 (e.1.map kV)) ∧ ∀ v, Nx (upd Hv D (hoX X D (storedH es k b v))))
section
variable {X : Cx}
abbrev OnBlk (X : Cx) (sc : Scope) (P : Cx → Prop) : Prop := ∀ (s : Shared) (H : Hp) (C : Addr) (cl : List (Str × Addr)) (fp : List Addr), P (X.blk s H sc (compEnvC sc cl C X.env) fp)
theorem pe_dx {kx vx tg iter : Expr} {sc : Scope} {own : List (Str × Nat)} {pos : Pos} {wi : TI} {g : TG} {tk tv : TE} (hc : X.calm = true) (hu : X.A.units < cLine) (hN : X.N.Nodup) (hi : PI X tg iter wi) (ok : BlkOk X.N X.env.scope sc own)
    (hg : OnBlk X sc fun Y => PG Y tg g) (hk : OnBlk X sc fun Y => PE Y kx tk) (hv : OnBlk X sc fun Y => PE Y vx tv) (hs : ∀ x, foldedSetIterable iter X.env x = pure x) :
    PE X (.DictComp kx vx [⟨tg, iter, [], 0⟩] sc pos) (tDx X wi g tk tv (own.map (·.2))) := by
  constructor
  intro pins s σ H Q I h
  rw [arm_eval_DictComp]
  have open_ : ∀ y ∈ sc.names, y.2 = .free → ∃ c, X.env.cells.lookup y.1 = some c := by
    intro y hy e
    rcases ok.free y hy e with z | z
    · exact I.ok.has _ (Or.inl z)
    · exact I.ok.has _ (Or.inr z)
  refine wpAny_comprehension_free rfl hs (closure_ok open_) ok.kind (fun y hy e => by rw [← e]; exact ok.uniq y hy) (thn (hi.run pins s σ H _ I h) fun xv sa hx => thn hx fun itv sb hb => ?_)
  obtain ⟨it, fp, tn, J, Ha, e, Ia, T, sta, fpa, q⟩ := hb
  cases e
  refine wpAny_newObj_type (newEnv_comp ?_)
  generalize hD : sb.heap.objs.size = D
  have free : Ha D = none := Ia.hok.fresh (hD ▸ Nat.le_refl _)
  obtain ⟨W, ⟨m0, w0⟩, turn⟩ := q D free
  generalize hsc : ({ sb with heap := sb.heap.push { cls := .type "dict", data := .dict #[] } } : Shared) = sc3
  have eh : sc3.heap = sb.heap.push { cls := .type "dict", data := .dict #[] } := by subst hsc; rfl
  have dne : (D == sysModules) = false := by
    rw [← hD]
    exact beq_eq_false_iff_ne.mpr (Nat.ne_of_gt Ia.big)
  have Ib : Inv X pins σ (upd Ha D (hoX X D [])) sc3 := by
    have z := Ia.laid (a := D) (o := hoX X D []) (h' := sc3.heap) (t' := sb.toks) (fun b u e => by rw [eh]; exact Heap.get?_push_of_some _ e) (hD ▸ Nat.le_refl _)
      (dicX_ok ⟨dne, _, #[], 0, by rw [eh, ← hD]; exact Heap.get?_push_size _ rfl, ⟨rfl, rfl, rfl⟩, rfl, rfl, List.nodup_nil⟩)
    have e3 : ({ sb with heap := sc3.heap, toks := sb.toks } : Shared) = sc3 := by subst hsc; rfl
    rw [e3] at z
    exact z
  have lt : ∀ b ∈ fp, b < sb.heap.objs.size := by
    intro b hb
    obtain ⟨o, e, _⟩ := T.obj _ _ sta b hb
    exact Heap.lt_size e
  have fpb : ∀ b ∈ fp, FpOk X pins (upd Ha D (hoX X D [])) b ∧ b < sc3.heap.objs.size := by
    intro b hb
    have l := lt b hb
    have ll : b < D := by rw [← hD]; exact l
    refine ⟨⟨?_, (fpa b hb).2⟩, by rw [eh, Heap.size_push]; exact Nat.lt_succ_of_lt l⟩
    rw [upd_ne (Nat.ne_of_lt ll)]
    exact (fpa b hb).1
  have stb : tn 0 sc3.heap := T.keep _ _ _ sta fun b _ o e => by rw [eh]; exact Heap.get?_push_of_some _ e
  have Ic := block_start Ib ok hN fpb
  have kg := hg sc3 (upd Ha D (hoX X D [])) sc3.heap.objs.size (cellsFrom (sc3.heap.objs.size + 1) sc.names (cloFrom X.env.cells sc.names [])) fp
  have kk := hk sc3 (upd Ha D (hoX X D [])) sc3.heap.objs.size (cellsFrom (sc3.heap.objs.size + 1) sc.names (cloFrom X.env.cells sc.names [])) fp
  have kv := hv sc3 (upd Ha D (hoX X D [])) sc3.heap.objs.size (cellsFrom (sc3.heap.objs.size + 1) sc.names (cloFrom X.env.cells sc.names [])) fp
  have hidden : ∀ b ∈ fp, (upd Ha D (hoX X D [])) b = none := fun b hb => (fpb b hb).1.1
  show codeAny (model X.prog X.w) X.A (.compStart (.DictComp kx vx [⟨tg, iter, [], 0⟩] sc pos) 0 (.ref it) (.ref D) (compEnvC sc (cellsFrom (sc3.heap.objs.size + 1) sc.names (cloFrom X.env.cells sc.names [])) sc3.heap.objs.size X.env))
    (compPost (model X.prog X.w) X.A X.xe none (fun v s' => ∃ x H', Inv X pins σ H' s' ∧ RelV x v ∧ Q x H') (.ref D) sc3.heap.objs.size) { sc3 with heap := pushCells (sc3.heap.push { cls := .type "dict", data := .dict #[] }) sc.names }
  generalize hce : compEnvC sc (cellsFrom (sc3.heap.objs.size + 1) sc.names (cloFrom X.env.cells sc.names [])) sc3.heap.objs.size X.env = ce at Ic kg kk kv ⊢
  have loc : ce.locals = sc3.heap.objs.size := by rw [← hce]; rfl
  generalize hH3 : upd Ha D (hoX X D []) = Hb at Ib Ic kg kk kv w0 hidden fpb
  generalize hs4 : ({ sc3 with heap := pushCells (sc3.heap.push { cls := .type "dict", data := .dict #[] }) sc.names } : Shared) = sd at Ic ⊢
  have std : tn 0 sd.heap := T.keep _ _ _ stb fun b _ o e => by rw [← hs4]; exact pushCells_keeps _ _ _ _ (Heap.get?_push_of_some _ e)
  have rest : ∀ {σ' : L2.St} {H' : Hp} {s' : Shared}, Inv (X.blk sc3 Hb sc ce fp) [] σ' H' s' → (∀ b ∈ fp, H' b = none) → ∀ b ∈ fp, FpOk (X.blk sc3 Hb sc ce fp) [] H' b := by
    intro σ' H' s' I' hn b hb
    exact ⟨hn b hb, (I'.ok.exf b hb).1, I'.ok.exfs b hb, Or.inl hb, fun x c e => (I'.ok.exf b hb).2 x c e, fun p hp => absurd (show p ∈ ([] : List (Addr × Obj)) ++ [] from hp) (by simp)⟩
  have body : codeAny (model X.prog X.w) X.A (.compLoop (.DictComp kx vx [⟨tg, iter, [], 0⟩] sc pos) 0 (.ref it) (.ref D) ce) (compPost (model X.prog X.w) X.A X.xe none (fun v s' => ∃ x H', Inv X pins σ H' s' ∧ RelV x v ∧ Q x H') (.ref D) sc3.heap.objs.size) sd := by
    refine compLoop_anyD (fun m s' => ∃ j Hj, Inv (X.blk sc3 Hb sc ce fp) [] (wipe σ (own.map (·.2))) Hj s' ∧ tn j s'.heap ∧ (∀ b ∈ fp, Hj b = none) ∧ W j m Hj) ?_ m0 ⟨0, Hb, Ic, std, hidden, w0⟩
    rintro m se ⟨j, He, Ie, ste, ne, we⟩
    rcases turn j m He we with ⟨halt, qq⟩ | ⟨go, Nx, hNx, step⟩
    · refine thnF (T.done (X.blk sc3 Hb sc ce fp) rfl rfl rfl hc j [] se _ He (fun _ _ => False) Ie (rest Ie ne) ste halt) fun r sf hrf => ?_
      obtain ⟨er, If⟩ := hrf
      subst er
      have Ig : Inv X pins σ He sf := Ib.call' (ch := fp) If.os If.base If.hok If.bare fun b hb => by
        obtain ⟨_, z1, z2, z3, z4, z5⟩ := (fpb b hb).1
        exact ⟨z3, z1, z4, z5⟩
      have free3 : He sc3.heap.objs.size = none := by
        rw [← loc]
        exact If.free
      obtain ⟨mm, hns, _⟩ := If.loc
      rw [show (X.blk sc3 Hb sc ce fp).env.locals = sc3.heap.objs.size from loc] at hns
      obtain ⟨y0, y1, y2, y3, y4, y5⟩ := Ib.fpOk (Nat.le_refl _) free3
      exact ⟨mm, hns, fun h'' sb' => ⟨.ref D, He, Ig.turned (t' := sf.toks) (fun b o hb e => (sb'.2 b hb).trans e) y0 y1 y3 y4 y5, rfl, qq⟩⟩
    · refine thnF (T.item (X.blk sc3 Hb sc ce fp) rfl rfl rfl hc j [] se _ He (fun _ _ => False) Ie (rest Ie ne) ste go) fun r sf hrf => ?_
      obtain ⟨u, er, hf⟩ := hrf
      subst er
      refine thnF hf fun _ sg hg' => ?_
      obtain ⟨x, Hg, Ig, rg, yl, stg, ng⟩ := hg'
      have Ip := Ig.pinned (rest Ig ng) (T.obj _ _ stg)
      refine thnF (kg.run _ sg _ Hg x u _ Ip rg (step x Hg yl)) fun _ sh hh => ?_
      obtain ⟨σh, Hh, Ih, wh, qh⟩ := hh
      refine wpAny_tests_nil ?_
      rw [if_pos rfl]
      refine thnF (kk.run _ sh σh Hh _ Ih qh) fun z si hi' => ?_
      obtain ⟨yk, Hk, Ik, rk, qk⟩ := hi'
      refine thnF (kv.run _ si σh Hk _ Ik qk) fun z2 sj hj => ?_
      obtain ⟨yv, Hv, Iv, rv, es, k, b, ek, hb, hDv, hz, hes, nx⟩ := hj
      subst ek
      obtain rfl : z = Value.ref b := rk
      refine dicX_set (X := X.blk sc3 Hb sc ce fp) hu Iv hDv hz hb hes fun sk Ik2 => ?_
      obtain ⟨m', lm, w'⟩ := hNx _ (nx z2)
      have same : ∀ b' ∈ fp, ∀ o, sg.heap.get? b' = some o → sk.heap.get? b' = some o ∧ (upd Hv D (hoX X D (storedH es k b z2))) b' = none := by
        intro b' hb' o e
        have y := Ik2.pin (b', o) (List.mem_append_right _ (List.mem_append_right _ (mem_pinsAt hb' e)))
        exact ⟨y.1, y.2.1⟩
      have hl : (wipe σ (own.map (·.2))).length = σh.length := by rw [← wh, wipe_length]
      refine ⟨m', lm, j + 1, _, (Ik2.unpinned (pins := [])).weak hl (fun i' v' e => ?_), T.keep _ _ _ stg fun b' hb' o e => (same b' hb' o e).1, fun b' hb' => ?_, w'⟩
      · rw [← wh] at e
        exact (wipe_some e).1
      · obtain ⟨o, e, _⟩ := T.obj _ _ stg b' hb'
        exact (same b' hb' o e).2
  exact codeAny_compStart_dict body (T.self X.A 0 _ _ _ std body)
/-- list(D) -/
def rLsX (X : Cx) : List V → Hp → VK → Prop := fun xs H Q => ∃ D es, xs = [V.ref D] ∧ H D = some (hoX X D es) ∧ es.length ≤ sizeLine ∧ ∀ p, H p = none → Q (.ref p) (upd H p (.lst (es.map fun e => V.ref e.2.1)))
theorem call_list_dx (hc : X.calm = true) : CallR X (.type "list") (rLsX X) := by
  rintro pins s σ H xs us Q I r ⟨D, es, rfl, hD, hz, q⟩
  obtain ⟨u, rfl, rx⟩ := r.one
  cases rx
  obtain ⟨hs, o, tb, ep, ho, hx, hdt, he, hn⟩ := dicX_of I hD
  have len : tb.size = es.length := size_of_entries he
  refine PySem.W.kdl_call (kdl_raw hs hx hdt) (I.ok.hd hc) ho (by omega) fun h' tk got c' kp e it => ?_
  have eq : got.toList = (es.map fun e => e.2.1).map Value.ref := by
    have gl : got.toList.length = es.length := by rw [Array.length_toList, it.1, len]
    apply List.ext_getElem (by rw [gl, List.length_map, List.length_map])
    intro j h1 h2
    have hj : j < es.length := by rw [← gl]; exact h1
    obtain ⟨en, hen, hv⟩ := it.2 j got.toList[j] (by rw [← Array.getElem?_toList]; exact List.getElem?_eq_getElem h1)
    have at_ := entry_at he j
    rw [hen, List.getElem?_eq_getElem hj] at at_
    have e2 : en = entryOfKey (tupleKind (mixKind X.prog X.w)) es[j] := Option.some.inj at_
    rw [hv, e2, List.getElem_map, List.getElem_map]
    rfl
  have zl : ((es.map fun e => e.2.1).map V.ref).length ≤ sizeLine := by rw [List.length_map, List.length_map]; exact hz
  have rel : Vals ((es.map fun e => e.2.1).map V.ref) got.toList := by rw [eq]; exact vals_refs _
  have qq := q _ (I.hok.fresh (Nat.le_refl _))
  have em : (es.map fun e => V.ref e.2.1) = (es.map fun e => e.2.1).map V.ref := by rw [List.map_map]; rfl
  rw [em] at qq
  refine ⟨.ref s.heap.objs.size, _, I.laid (t' := tk) (o := .lst ((es.map fun e => e.2.1).map V.ref)) kp (Nat.le_refl _) ⟨zl, got.toList, c', rel, ?_⟩, rfl, qq⟩
  rw [Array.toArray_toList]
  exact e
end

/-! ### keys -/
theorem kV_of {K : PySem.W.Frag} {ρ : List Addr} {H : Hp} : ∀ {us : List U} {ks : List Key} {vs : List V}, keysU us = some ks → RelUs K ρ H us vs → vs = ks.map kV
  | [], ks, vs, e, r => by
    simp only [RelUs] at r
    simp only [keysU, Option.some.injEq] at e
    subst e r
    rfl
  | u :: us, ks, vs, e, r => by
    simp only [RelUs] at r
    obtain ⟨v, vs', rfl, r1, r2⟩ := r
    simp only [keysU, Option.bind_eq_some_iff, Option.map_eq_some_iff] at e
    obtain ⟨k, hk, ks', hks, rfl⟩ := e
    have ih := kV_of hks r2
    subst ih
    cases u <;> simp only [keyU, Option.some.injEq, reduceCtorEq] at hk <;> subst hk <;> simp only [RelU] at r1 <;> subst r1 <;> rfl
theorem uK_rel {K : PySem.W.Frag} {ρ : List Addr} {H : Hp} : ∀ ks : List Key, RelUs K ρ H (ks.map uK) (ks.map kV)
  | [] => RelUs.nil
  | k :: ks => RelUs.cons (by cases k <;> simp [uK, kV, RelU]) (uK_rel ks)
theorem keyTs_get : ∀ {us : List U} {ks : List (List Key)} {i : Nat} (hi : i < us.length), keyTs us = some ks → ∃ k, ks[i]? = some k ∧ keyT us[i] = some k
  | u :: us, ks, i, hi, e => by
    simp only [keyTs, Option.bind_eq_some_iff, Option.map_eq_some_iff] at e
    obtain ⟨k, hk, ks', hks, rfl⟩ := e
    cases i with
    | zero => exact ⟨k, rfl, hk⟩
    | succ i =>
      obtain ⟨k', e1, e2⟩ := keyTs_get (i := i) (by simpa using hi) hks
      exact ⟨k', by simpa using e1, e2⟩
theorem keyTs_len : ∀ {us : List U} {ks : List (List Key)}, keyTs us = some ks → ks.length = us.length
  | [], ks, e => by simp only [keyTs, Option.some.injEq] at e; subst e; rfl
  | u :: us, ks, e => by
    simp only [keyTs, Option.bind_eq_some_iff, Option.map_eq_some_iff] at e
    obtain ⟨k, hk, ks', hks, rfl⟩ := e
    simp [keyTs_len hks]
theorem stored_keys (es : List (List Key × Addr × Value)) (k : List Key) (b : Addr) (v : Value) : (storedH es k b v).map (·.1) = dd1 (es.map (·.1)) k := by
  have e : ((es.map (·.1)).any fun j => decide (j = k)) = (atKey es k).isSome := by
    unfold atKey
    rw [Option.isSome_map, List.any_map]
    induction es with
    | nil => rfl
    | cons x es ih =>
      rw [List.any_cons, List.find?_cons, ih]
      by_cases h : x.1 = k <;> simp [h]
  unfold storedH dd1
  rw [e]
  by_cases h : (atKey es k).isSome = true
  · rw [if_pos h, if_pos h, List.map_map]
    apply List.map_congr_left
    intro x _
    show (putAt k v x).1 = x.1
    unfold putAt
    split <;> rfl
  · rw [if_neg h, if_neg h, List.map_append]
    rfl
theorem stored_sq {K : PySem.W.Frag} {H : Hp} {es : List (List Key × Addr × Value)} {k : List Key} {b : Addr} {v : Value} (h : ∀ e ∈ es, SqT K H e.2.1 (e.1.map kV)) (hb : SqT K H b (k.map kV)) : ∀ e ∈ storedH es k b v, SqT K H e.2.1 (e.1.map kV) := by
  unfold storedH
  split
  · intro e he
    obtain ⟨x, hx, rfl⟩ := List.mem_map.mp he
    unfold putAt
    split
    · exact h x hx
    · exact h x hx
  · intro e he
    rcases List.mem_append.mp he with he | he
    · exact h e he
    · simp only [List.mem_singleton] at he
      subst he
      exact hb
theorem dd1_len (acc : List (List Key)) (k : List Key) : (dd1 acc k).length ≤ acc.length + 1 := by
  unfold dd1
  split <;> simp
theorem dd_step {ks : List (List Key)} {i : Nat} {k : List Key} (h : ks[i]? = some k) : dd (ks.take (i + 1)) = dd1 (dd (ks.take i)) k := by
  have e : ks.take (i + 1) = ks.take i ++ [k] := by
    rw [List.take_add_one, h]
    rfl
  rw [e]
  unfold dd
  rw [List.foldl_append]
  rfl
theorem dd_len : ∀ (ks acc : List (List Key)), (ks.foldl dd1 acc).length ≤ acc.length + ks.length
  | [], acc => by simp
  | k :: ks, acc => by
    have h1 := dd_len ks (dd1 acc k)
    have h2 := dd1_len acc k
    simp only [List.foldl_cons, List.length_cons]
    omega
theorem iterU_stays {S : Sto} {u : U} {us : List U} {src : Option Nat} (h : iterU S u = some (us, src)) : stays S us src = true := by
  unfold iterU at h
  split at h
  · cases h; rfl
  · cases h; rfl
  · split at h
    · rename_i n xs hx
      cases h
      exact isLst_lst hx
    · rename_i n xs hx
      cases h
      unfold stays isLst
      simp only [hx]
      exact (useq_iff _ _).mpr rfl
    · cases h
  · cases h
theorem rel_keys {K : PySem.W.Frag} {ρ : List Addr} {H : Hp} : ∀ {es : List (List Key × Addr × Value)}, (∀ e ∈ es, SqT K H e.2.1 (e.1.map kV)) → RelUs K ρ H (es.map ((fun k => U.tup (k.map uK)) ∘ fun e => e.1)) (es.map fun e => V.ref e.2.1)
  | [], _ => RelUs.nil
  | e :: es, h => RelUs.cons (by
      simp only [Function.comp, RelU]
      exact ⟨_, _, rfl, h e List.mem_cons_self, uK_rel _⟩) (rel_keys fun e he => h e (List.mem_cons_of_mem _ he))
theorem ext_x {ρ : List Addr} {H : Hp} {D : Addr} {φ : Heap → Prop} (h : H D = none) : Ext ρ H ρ (upd H D (.ext φ)) := Ext.grow (upd_grow h)

section
variable {X : Cx} {p : Pg} {nm : Names} {ad : Str → Addr} {d : Nat} {W : XK} {Φ : Cal} {pos : Pos}
theorem lsd_read {i : Nat} {it : E} {σ : L2.St} {H : Hp} {Q : VK} (h : tE X Φ W (.lsd i it) σ H Q) :
    tCB (rLsX X) (tCons (tDx X (tI X Φ W it) (gOf X.K false [i]) (tVar i) (tC (.bl true)) [i]) tNil) σ H Q := by
  obtain ⟨ρ, S, env, w, eo, h⟩ := h
  rw [ev] at h
  refine ⟨ρ, S, env, w, eo, (Post.bind h).imp fun x H1 ⟨ρ1, S1, u, e1, w1, r1, h1⟩ => ?_⟩
  split at h1
  · rename_i all src hi
    split at h1
    · rename_i ks hk
      split at h1
      · rename_i hz
        refine ⟨ρ1, S1, u, all, src, w1, r1, hi, fun J hg D hD => ?_⟩
        have hst := iterU_stays hi
        have hl := keyTs_len hk
        refine ⟨fun j m Hj => m = all.length - j ∧ j ≤ all.length ∧ ∃ es, Hj = upd H1 D (hoX X D es) ∧ es.map (·.1) = dd (ks.take j) ∧ ∀ e ∈ es, SqT X.K Hj e.2.1 (e.1.map kV),
          ⟨_, rfl, Nat.zero_le _, [], rfl, by simp [dd], fun e he => nomatch he⟩, ?_⟩
        rintro j m Hj ⟨rfl, hj, es, rfl, hes, hsq⟩
        have wj : Wok X.K X.mg ρ1 S1 (upd H1 D (hoX X D es)) := w1.grow (upd_grow hD)
        have ej : Ext ρ1 H1 ρ1 (upd H1 D (hoX X D es)) := ext_x hD
        have elen : es.length ≤ j := by
          have h2 := dd_len (ks.take j) []
          have h3 := congrArg List.length hes
          rw [List.length_map] at h3
          unfold dd at h3
          rw [h3]
          simp only [List.length_nil, List.length_take] at h2
          omega
        by_cases hlt : j < all.length
        · refine .inr ?_
          obtain ⟨hgo, hy⟩ := (hg ρ1 S1 _ j ej wj hst).1 hlt
          refine ⟨hgo, fun Hn => j + 1 ≤ all.length ∧ ∃ es, Hn = upd H1 D (hoX X D es) ∧ es.map (·.1) = dd (ks.take (j + 1)) ∧ ∀ e ∈ es, SqT X.K Hn e.2.1 (e.1.map kV),
            fun Hn q => ⟨all.length - (j + 1), by omega, rfl, q⟩, fun x Hy yl => ?_⟩
          obtain ⟨rfl, u', hu, ru⟩ := hy x Hy yl
          rw [List.getElem?_eq_getElem hlt] at hu
          cases hu
          obtain ⟨k, hkj, hku⟩ := keyTs_get hlt hk
          have hkk : ∃ b, x = V.ref b ∧ SqT X.K (upd H1 D (hoX X D es)) b (k.map kV) := by
            cases hc : all[j] with
            | tup zs =>
              rw [hc] at ru hku
              obtain ⟨b, vs, rfl, hq, hr⟩ := ru.tup
              rw [kV_of hku hr] at hq
              exact ⟨b, rfl, hq⟩
            | _ => rw [hc] at hku; cases hku
          obtain ⟨b, rfl, hb⟩ := hkk
          have hil : i < (wipe σ [i]).length := by
            rw [wipe_length, ← eo.len]
            exact hz.2
          rw [show gOf X.K false [i] = gName i from rfl]
          unfold gName
          refine ⟨wipe_set List.mem_cons_self |>.trans lc_turns.wipe_wipe, V.ref b, List.getElem?_set_self hil, es, k, b, rfl, hb, upd_same, by have := hz.1; omega, hsq, fun v => ⟨hlt, storedH es k b v, by rw [upd_upd], by rw [stored_keys, hes, dd_step hkj], ?_⟩⟩
          rw [upd_upd]
          have sq' : ∀ {c : Addr} {vs : List V}, SqT X.K (upd H1 D (hoX X D es)) c vs → SqT X.K (upd H1 D (hoX X D (storedH es k b v))) c vs := by
            intro c vs h
            rcases h with (h | ⟨o, h⟩) | h
            · refine .inl (.inl ?_)
              by_cases z : c = D
              · subst z; rw [upd_same] at h; cases h
              · rw [upd_ne z] at h ⊢; exact h
            · refine .inl (.inr ⟨o, ?_⟩)
              by_cases z : c = D
              · subst z; rw [upd_same] at h; cases h
              · rw [upd_ne z] at h ⊢; exact h
            · exact .inr h
          exact stored_sq (fun e he => sq' (hsq e he)) (sq' hb)
        · refine .inl ?_
          have e : j = all.length := by omega
          subst e
          refine ⟨(hg ρ1 S1 _ _ ej wj hst).2 (Nat.le_refl _), D, es, rfl, upd_same, by have := hz.1; omega, fun q hq => ?_⟩
          have hd2 : es.map (·.1) = dd ks := by rw [hes, ← hl, List.take_length]
          have hq1 : H1 q = none := by
            by_cases z : q = D
            · subst z; rw [upd_same] at hq; cases hq
            · rw [upd_ne z] at hq; exact hq
          refine (Post.ext (ej.trans (Ext.push (p := q) (upd_grow hq))) h1).here (wj.push hq (upd_grow hq) ⟨_, upd_same, ?_⟩) (relLoc (push_at w1.len))
          rw [← hd2, List.map_map]
          exact rel_keys fun e he => (Ext.push (p := q) (ρ := ρ1) (upd_grow hq)).sqt X.K (hsq e he)
      · exact h1.elim
    · exact h1.elim
  · exact h1.elim
theorem s_lsd (O : Ok X p nm ad d W) (i : Nat) {x : Str} {kx vx tg iter : Expr} {sc : Scope} {pl pd : Pos} {it : E} (hN : X.N.Nodup) (hi : PE X iter (tE X Φ W it)) (ok : BlkOk X.N X.env.scope sc [(x, i)])
    (hg : OnBlk X sc fun Y => PG Y tg (gOf Y.K false [i])) (hk : OnBlk X sc fun Y => PE Y kx (tVar i)) (hv : OnBlk X sc fun Y => PE Y vx (tC (.bl true)))
    (hl : Gl X "list" := by rfl) (hm : ("list" : Str) ∈ nm.bins := by decide +kernel) (hs : ∀ x, foldedSetIterable iter X.env x = pure x := by intro _; rfl)
    (he : starEach [Expr.DictComp kx vx [⟨tg, iter, [], 0⟩] sc pd] X.env = (false, eval (.DictComp kx vx [⟨tg, iter, [], 0⟩] sc pd) X.env) :: starEach [] X.env := by rfl) (hpl : (backTo pos (starEach [] X.env)).any (·.1) = false := by rfl) :
    PE X (.Call (.Name "list" pl) [.DictComp kx vx [⟨tg, iter, [], 0⟩] sc pd] [] pos) (tE X Φ W (.lsd i it)) :=
  PEw (pe_callTy (call_list_dx O.calm) hl (O.sta.bin _ hm) PyProof.Rows.boot_list (pa_cons (pe_dx O.calm (by have := O.room.un; omega) hN (pi_any hi) ok hg hk hv hs) pa_nil he) (by decide) (by decide) he hpl) fun σ H Q h => lsd_read h
/-- a, b, .. = a list -/
theorem x_lset {es : List Expr} {a : Expr} {ta : E} {is : List Nat} {k : Nat} {pt : Pos} (hc : X.calm = true) (ha : PE X a (tE X Φ W ta)) (hg : PGs X es (gsOf is)) (hn : (assignEach es X.env).length = is.length := by rfl) (hst : (assignEach es X.env).findIdx? (·.1) = none := by rfl)
    (hs : swapsWithSole [.Tuple es k pt] a pos.line X.env = pure false := by rfl) (hw : swappedStores [.Tuple es k pt] a X.env = pure none := by rfl) (h1 : (assignEach [.Tuple es k pt] X.env).map (·.2) = [assign (.Tuple es k pt) X.env] := by rfl) :
    PS X (.Assign [.Tuple es k pt] a pos) (tS X Φ W (.lset is ta)) :=
  PSw (ps_asg ha (pg_unl hc hg hn hst) hs hw h1) fun D σ H ⟨ρ, S, env, w, eo, h⟩ => by
    rw [ex] at h
    refine ⟨ρ, S, env, w, eo, (PostS.on h).imp fun x H1 ⟨ρ1, S1, u, e1, w1, r1, h1⟩ => ?_⟩
    split at h1
    · rename_i us hu
      split at h1
      · rename_i hl
        obtain ⟨q, vs, rfl, hq, hr⟩ := w1.list hu r1
        exact ⟨q, vs, rfl, hq, by rw [hr.length]; exact hl, gs_ok is (fun _ z => z) hl (eo.mono e1) hr fun σ' eo' _ => h1.here w1 eo'⟩
      · exact h1.elim
    · exact h1.elim
end
end Oz

end

section
set_option maxHeartbeats 4000000
/-! OzZ: zip of any number of tuples, its items kept under a name; a tuple turned round; all of a tuple. -/
namespace Oz
open PySem PySem.Spec PyProof.Rows L2
section
variable {prog : Program} {w : World} {A : Around} {E : Value → Shared → Prop} {s : Shared}
theorem wpAny_lia {M : Model} {a : Addr} {Q : Option Obj → Shared → Prop} (h : Q (s.heap.get? a) s) : wpAny M A (loadIfAlive a) Q E s := fun Γ p hΓ => by
  unfold loadIfAlive
  rw [Sem.wp_loadIfAlive]
  exact h
abbrev ZpAt (h : Heap) (z TI TO : Addr) (f0 f1 : Value) : Prop := h.get? z = some { cls := .type "zip", dict := none, data := .fields #[f0, f1, .bool false, .ref TI, .ref TO], slots := #[] }
abbrev TsAt (h : Heap) (T : Addr) (vs : List Value) : Prop := h.get? T = some { cls := .type "tuple", data := .seq vs.toArray }
structure ZpApart (z TI TO : Addr) (its ls : List Addr) : Prop where
  tiz : TI ≠ z
  toz : TO ≠ z
  tito : TI ≠ TO
  it : ∀ i ∈ its, i ≠ z ∧ i ≠ TI ∧ i ≠ TO
  nd : its.Nodup
  l : ∀ l ∈ ls, l ≠ z ∧ l ≠ TO ∧ ∀ i ∈ its, l ≠ i
  len : ls.length = its.length
/-- the first m have gone on -/
def ItsAt (h : Heap) (its ls : List Addr) (m k : Nat) : Prop := ∀ (j : Nat) (i l : Addr), its[j]? = some i → ls[j]? = some l → h.IsTupleIter i l (if j < m then k + 1 else k)
def Frame (z TO : Addr) (its : List Addr) (h h' : Heap) : Prop := h.objs.size ≤ h'.objs.size ∧ ∀ c o, c ≠ z → c ≠ TO → c ∉ its → h.get? c = some o → h'.get? c = some o
theorem Frame.refl {z TO : Addr} {its : List Addr} {h : Heap} : Frame z TO its h h := ⟨Nat.le_refl _, fun _ _ _ _ _ e => e⟩
theorem Frame.but {z TO b : Addr} {its : List Addr} {h h1 h2 : Heap} (f : Frame z TO its h h1) (hb : b = z ∨ b = TO ∨ b ∈ its) (sb : Heap.SameBut b h1 h2) : Frame z TO its h h2 :=
  ⟨by rw [sb.1]; exact f.1, fun c o c1 c2 c3 e => sb.extBut _ _ (fun q => by subst q; rcases hb with rfl | rfl | hb <;> first | exact c1 rfl | exact c2 rfl | exact c3 hb) (f.2 c o c1 c2 c3 e)⟩
/-- the k-th items -/
def RowAt (h : Heap) (ls : List Addr) (k : Nat) (xs : List Value) : Prop := xs.length = ls.length ∧ ∀ (j : Nat) (l : Addr) (x : Value), ls[j]? = some l → xs[j]? = some x → ∃ items, h.IsTuple l items ∧ items[k]? = some x
theorem ItsAt.next {h h' : Heap} {its ls : List Addr} {m k : Nat} {i l : Addr} (nd : its.Nodup) (a : ItsAt h its ls m k) (hi : its[m]? = some i) (hl : ls[m]? = some l) (hit : h'.IsTupleIter i l (k + 1)) (sb : Heap.SameBut i h h') : ItsAt h' its ls (m + 1) k := by
  intro j i' l' e1 e2
  by_cases hj : j = m
  · subst hj
    rw [hi] at e1
    rw [hl] at e2
    cases e1
    cases e2
    rw [if_pos (Nat.lt_succ_self _)]
    exact hit
  · have hne : i' ≠ i := fun q => hj ((List.getElem?_inj (List.getElem?_eq_some_iff.mp e1).1 nd).mp (by rw [e1, hi, q]))
    have := a j i' l' e1 e2
    have e3 : (if j < m + 1 then k + 1 else k) = (if j < m then k + 1 else k) := by
      by_cases h1 : j < m
      · rw [if_pos h1, if_pos (by omega)]
      · rw [if_neg h1, if_neg (by omega)]
    rw [e3]
    exact this.extBut sb.extBut hne
theorem ItsAt.but {h h' : Heap} {its ls : List Addr} {m k : Nat} {b : Addr} (a : ItsAt h its ls m k) (hb : ∀ i ∈ its, i ≠ b) (sb : Heap.SameBut b h h') : ItsAt h' its ls m k :=
  fun j i l e1 e2 => (a j i l e1 e2).extBut sb.extBut (hb i (List.mem_of_getElem? e1))
theorem ItsAt.done {h : Heap} {its ls : List Addr} {k : Nat} (a : ItsAt h its ls its.length k) : ItsAt h its ls 0 (k + 1) := fun j i l e1 e2 => by
  have := a j i l e1 e2
  rw [if_pos (List.getElem?_eq_some_iff.mp e1).1] at this
  rw [if_neg (Nat.not_lt_zero _)]
  exact this

theorem zfree {z TI TO : Addr} {f0 f1 : Value} (hz : ZpAt s.heap z TI TO f0 f1) (h0 : f0 = .none ∨ ∃ a t, f0 = .int a t) :
    wpAny (model prog w) A (Builtin.SmallTypes.ownedTupleIsFree (.ref z)) (fun b s' => (b = true ∧ s' = s) ∨ (b = false ∧ ∃ h' g1, s' = { s with heap := h' } ∧ ZpAt h' z TI TO f0 g1 ∧ (h' = s.heap ∨ Heap.SameBut z s.heap h'))) E s := by
  unfold Builtin.SmallTypes.ownedTupleIsFree
  rcases h0 with rfl | ⟨a, t, rfl⟩
  · exact wpAny_bind (wpAny_field hz rfl (x := .none) rfl (wpAny_pure (.inl ⟨rfl, rfl⟩)))
  · refine wpAny_bind (wpAny_field hz rfl (x := .int a t) rfl ?_)
    refine wpAny_bind (wpAny_lia ?_)
    cases hg : s.heap.get? a.toNat with
    | none =>
      show wpAny _ _ (if (Option.isNone (none : Option Obj)) = true then _ else _) _ _ _
      rw [if_pos (show (Option.isNone (none : Option Obj)) = true from rfl)]
      exact wpAny_pure (.inl ⟨rfl, rfl⟩)
    | some o =>
      show wpAny _ _ (if (Option.isNone (some o)) = true then _ else _) _ _ _
      rw [if_neg (show ¬ (Option.isNone (some o)) = true from Bool.false_ne_true)]
      refine wpAny_bind (wpAny_field hz rfl (x := f1) rfl ?_)
      show wpAny _ _ (if (f1 != .bool true) = true then _ else _) _ _ _
      by_cases hf : (f1 != .bool true) = true
      · rw [if_pos hf]
        refine wpAny_bind (wpAny_setField_rec hz (by simp) fun h1 hz1 sb => ?_)
        exact wpAny_pure (.inr ⟨rfl, h1, _, rfl, hz1, .inr sb⟩)
      · rw [if_neg hf]
        exact wpAny_pure (.inr ⟨rfl, s.heap, f1, rfl, hz, .inl rfl⟩)
theorem RowAt.frame {z TI TO : Addr} {its ls : List Addr} {k : Nat} {xs : List Value} {h h' : Heap} (D : ZpApart z TI TO its ls) (r : RowAt h ls k xs) (f : Frame z TO its h h') : RowAt h' ls k xs := by
  refine ⟨r.1, fun j l x e1 e2 => ?_⟩
  obtain ⟨items, ⟨o, ho, q⟩, hx⟩ := r.2 j l x e1 e2
  obtain ⟨a1, a2, a3⟩ := D.l l (List.mem_of_getElem? e1)
  exact ⟨items, ⟨o, f.2 l o a1 a2 (fun hm => a3 l hm rfl) ho, q⟩, hx⟩
theorem drop_idx {its : List Addr} {m : Nat} {x : Value × Nat} {rest : List (Value × Nat)} (h : x :: rest = ((its.map Value.ref).zipIdx).drop m) : ∃ i, its[m]? = some i ∧ x = (.ref i, m) ∧ rest = ((its.map Value.ref).zipIdx).drop (m + 1) ∧ m < its.length := by
  have hm : m < its.length := by
    apply Decidable.byContradiction
    intro q
    rw [List.drop_eq_nil_of_le (by simp; omega)] at h
    cases h
  have hl : m < ((its.map Value.ref).zipIdx).length := by simpa using hm
  rw [List.drop_eq_getElem_cons hl] at h
  cases h
  exact ⟨its[m], List.getElem?_eq_getElem hm, by simp, rfl, hm⟩
theorem zipN_item {z TI TO : Addr} {its ls : List Addr} {k : Nat} {xs vs : List Value} {f0 f1 : Value} {Q : Value → Shared → Prop} (D : ZpApart z TI TO its ls) (hn : its ≠ []) (hsz : its.length ≤ 100)
    (hz : ZpAt s.heap z TI TO f0 f1) (h0 : f0 = .none ∨ ∃ a t, f0 = .int a t) (hTI : TsAt s.heap TI (its.map Value.ref)) (hTO : TsAt s.heap TO vs) (hvs : vs.length = its.length) (hit : ItsAt s.heap its ls 0 k) (hr : RowAt s.heap ls k xs)
    (hQ : ∀ h' T, (∃ g0 g1 ws, ZpAt h' z TI TO g0 g1 ∧ (g0 = .none ∨ ∃ a t, g0 = .int a t) ∧ TsAt h' TO ws ∧ ws.length = its.length) → ItsAt h' its ls 0 (k + 1) → TsAt h' T xs → s.heap.objs.size ≤ T → Frame z TO its s.heap h' → Q (.ref T) { s with heap := h' }) :
    wpAny (model prog w) A (Builtin.«zip.__next__» ⟨[.ref z], []⟩) (fun fin s' => ∃ v, fin = .done (.ret v) ∧ Q v s') E s := by
  show wpAny _ _ (field (.ref z) 2 >>= _) _ _ _
  refine wpAny_bind (wpAny_field hz rfl (x := .bool false) rfl ?_)
  show wpAny _ _ (field (.ref z) 3 >>= _) _ _ _
  refine wpAny_bind (wpAny_field hz rfl (x := .ref TI) rfl ?_)
  refine wpAny_bind (wpAny_seqItems hTI rfl ?_)
  have hne : ((its.map Value.ref).toArray).isEmpty = false := by
    cases its with
    | nil => exact absurd rfl hn
    | cons a r => rfl
  show wpAny _ _ (if ((its.map Value.ref).toArray).isEmpty = true then _ else _) _ _ _
  rw [hne, if_neg Bool.false_ne_true]
  show wpAny _ _ (Builtin.SmallTypes.ownedTupleIsFree (.ref z) >>= _) _ _ _
  refine wpAny_bind (wpAny_mono (zfree hz h0) (fun b s1 hb => ?_) fun _ _ e => e)
  rcases hb with ⟨rfl, rfl⟩ | ⟨rfl, h1, g1, rfl, hz1, hsb⟩
  · simp only [if_true]
    refine wpAny_bind (wpAny_rule ?_)
    refine wpAny_bind (wpAny_field hz rfl (x := .ref TO) rfl ?_)
    refine wpAny_bind (wpAny_setField_rec hz (by simp) fun h1 hz1 sb1 => ?_)
    replace hz1 : ZpAt h1 z TI TO .ellipsis f1 := hz1
    refine wpAny_bind ?_
    refine wpAny_forIn_list _ (fun rest r s' => ∃ m h', rest = ((its.map Value.ref).zipIdx).drop m ∧ m ≤ its.length ∧ r = (none, ()) ∧ s' = { s1 with heap := h' } ∧ ZpAt h' z TI TO .ellipsis f1 ∧
      (∃ ws, TsAt h' TO ws ∧ ws.length = its.length ∧ ∀ j, j < m → ws[j]? = xs[j]?) ∧ ItsAt h' its ls m k ∧ Frame z TO its s1.heap h') _ ?_ ?_ _ _ ⟨0, h1, rfl, Nat.zero_le _, rfl, rfl, hz1, ⟨vs, sb1.extBut _ _ D.toz hTO, hvs, fun j hj => absurd hj (Nat.not_lt_zero _)⟩, hit.but (fun i hi => (D.it i hi).1) sb1, Frame.refl.but (.inl rfl) sb1⟩
    · rintro x rest r s' ⟨m, h2, hd, hm, rfl, rfl, hz2, ⟨ws, hTO2, hws, hwx⟩, hit2, fr2⟩
      obtain ⟨i, hi, rfl, hrest, hmlt⟩ := drop_idx hd
      have hlm : m < ls.length := by rw [D.len]; exact hmlt
      obtain ⟨l, hl⟩ : ∃ l, ls[m]? = some l := ⟨_, List.getElem?_eq_getElem hlm⟩
      obtain ⟨x, hx⟩ : ∃ x, xs[m]? = some x := ⟨_, List.getElem?_eq_getElem (by rw [hr.1]; exact hlm)⟩
      obtain ⟨items, ht, hxi⟩ := (hr.frame D fr2).2 m l x hl hx
      have him := List.mem_of_getElem? hi
      have hit3 := hit2 m i l hi hl
      rw [if_neg (Nat.lt_irrefl _)] at hit3
      refine wpAny_bind (wpAny_onRaise ?_)
      show wpAny _ _ (Builtin.SmallTypes.nextOf (.ref i) >>= _) _ _ _
      refine wpAny_bind (RZ.nextOf_tuple_item hit3 ht hxi fun h3 hit4 sb3 => wpAny_pure ?_)
      have hTO3 : TsAt h3 TO ws := sb3.extBut _ _ (Ne.symm (D.it i him).2.2) hTO2
      refine wpAny_bind (wpAny_seqItems hTO3 rfl ?_)
      have z100 : its.length ≤ sizeLine := Nat.le_trans hsz (by decide)
      refine wpAny_bind (wpAny_updateSeq hTO3 rfl ?_ (by rw [List.size_toArray, hws]; exact z100) (by rw [Array.size_setIfInBounds, List.size_toArray, hws]; omega))
      refine wpAny_bind (wpAny_letGo (wpAny_pure ?_))
      have sb4 : Heap.SameBut TO h3 (h3.update TO (Obj.mapSeq fun q => q.setIfInBounds m x)) := Heap.SameBut.update ..
      refine ⟨m + 1, _, hrest, hmlt, rfl, rfl, sb4.extBut _ _ (Ne.symm D.toz) (sb3.extBut _ _ (Ne.symm (D.it i him).1) hz2), ⟨ws.set m x, ?_, by simp [hws], fun j hj => ?_⟩, (hit2.next D.nd hi hl hit4 sb3).but (fun i' hi' => (D.it i' hi').2.2) sb4, (fr2.but (.inr (.inr him)) sb3).but (.inr (.inl rfl)) sb4⟩
      · show (h3.update TO _).get? TO = _
        rw [Heap.get?_update_self _ hTO3 rfl]
        simp [Obj.mapSeq]
      · by_cases hjm : j = m
        · subst hjm
          rw [List.getElem?_set_self (by rw [hws]; exact hmlt), hx]
        · rw [List.getElem?_set_ne (Ne.symm hjm)]
          exact hwx j (by omega)
    · rintro r s' ⟨m, h2, hd, hm, rfl, rfl, hz2, ⟨ws, hTO2, hws, hwx⟩, hit2, fr2⟩
      have hmn : m = its.length := by
        apply Nat.le_antisymm hm
        have := congrArg List.length hd
        simp at this
        omega
      subst hmn
      have hwe : ws = xs := by
        apply List.ext_getElem?
        intro j
        by_cases hj : j < its.length
        · exact hwx j hj
        · rw [List.getElem?_eq_none (by omega), List.getElem?_eq_none (by rw [hr.1, D.len]; omega)]
      subst hwe
      refine wpAny_bind (wpAny_seqItems hTO2 rfl ?_)
      refine wpAny_bind (wpAny_newTuple ?_ (by rw [List.toList_toArray, hws]; exact Nat.le_trans hsz (by decide)))
      show wpAny _ _ (Builtin.SmallTypes.ownedTupleHandOut (.ref z) (.ref h2.objs.size) >>= _) _ _ _
      refine wpAny_bind ?_
      unfold Builtin.SmallTypes.ownedTupleHandOut
      have hzl : z < h2.objs.size := Heap.lt_size hz2
      have hTl : TO < h2.objs.size := Heap.lt_size hTO2
      have hz3 : ZpAt (h2.push { cls := .type "tuple", data := .seq ws.toArray.toList.toArray }) z TI TO .ellipsis f1 := Heap.get?_push_of_some _ hz2
      refine wpAny_bind (wpAny_setField_rec hz3 (by simp) fun h4 hz4 sb4 => ?_)
      replace hz4 : ZpAt h4 z TI TO (rawInt h2.objs.size) f1 := hz4
      refine wpAny_setField_rec hz4 (by simp) fun h5 hz5 sb5 => ?_
      replace hz5 : ZpAt h5 z TI TO (rawInt h2.objs.size) (.bool false) := hz5
      have up : ∀ c o, c ≠ z → h2.get? c = some o → h5.get? c = some o := fun c o c1 e => sb5.extBut _ _ c1 (sb4.extBut _ _ c1 (Heap.get?_push_of_some _ e))
      have hT5 : TsAt h5 h2.objs.size ws := sb5.extBut _ _ (Nat.ne_of_gt hzl) (sb4.extBut _ _ (Nat.ne_of_gt hzl) (Heap.get?_push_size _ rfl))
      refine wpAny_pure ⟨_, rfl, hQ h5 _ ⟨_, _, ws, hz5, .inr ⟨_, _, rfl⟩, up _ _ D.toz hTO2, hws⟩ ?_ hT5 fr2.1 ⟨?_, fun c o c1 c2 c3 e => up c o c1 (fr2.2 c o c1 c2 c3 e)⟩⟩
      · intro j i l e1 e2
        exact (hit2.done j i l e1 e2).at fun o e => up _ o (D.it i (List.mem_of_getElem? e1)).1 e
      · rw [sb5.1, sb4.1, Heap.size_push]
        exact Nat.le_succ_of_le fr2.1
  · simp only [Bool.false_eq_true, if_false]
    have fr1 : Frame z TO its s.heap h1 := by
      rcases hsb with rfl | sb
      · exact Frame.refl
      · exact Frame.refl.but (.inl rfl) sb
    have hTO1 : TsAt h1 TO vs := by
      rcases hsb with rfl | sb
      · exact hTO
      · exact sb.extBut _ _ D.toz hTO
    have hit1 : ItsAt h1 its ls 0 k := by
      rcases hsb with rfl | sb
      · exact hit
      · exact hit.but (fun i hi => (D.it i hi).1) sb
    refine wpAny_bind ?_
    rw [← Array.forIn_toList]
    refine wpAny_forIn_list _ (fun rest r s' => ∃ m h', rest = (its.map Value.ref).drop m ∧ m ≤ its.length ∧ r = (none, (xs.take m).toArray) ∧ s' = { s with heap := h' } ∧ ZpAt h' z TI TO f0 g1 ∧ TsAt h' TO vs ∧ ItsAt h' its ls m k ∧ Frame z TO its s.heap h') _ ?_ ?_ _ _ ⟨0, h1, by simp, Nat.zero_le _, by simp, rfl, hz1, hTO1, hit1, fr1⟩
    · rintro y rest r s' ⟨m, h2, hd, hm, rfl, rfl, hz2, hTO2, hit2, fr2⟩
      have hmlt : m < its.length := by
        apply Decidable.byContradiction
        intro q
        rw [List.drop_eq_nil_of_le (by simp; omega)] at hd
        cases hd
      have hml : m < (its.map Value.ref).length := by simpa using hmlt
      rw [List.drop_eq_getElem_cons hml] at hd
      cases hd
      have hi : its[m]? = some its[m] := List.getElem?_eq_getElem hmlt
      have hlm : m < ls.length := by rw [D.len]; exact hmlt
      obtain ⟨l, hl⟩ : ∃ l, ls[m]? = some l := ⟨_, List.getElem?_eq_getElem hlm⟩
      obtain ⟨x, hx⟩ : ∃ x, xs[m]? = some x := ⟨_, List.getElem?_eq_getElem (by rw [hr.1]; exact hlm)⟩
      obtain ⟨items, ht, hxi⟩ := (hr.frame D fr2).2 m l x hl hx
      have him := List.mem_of_getElem? hi
      have hit3 := hit2 m _ l hi hl
      rw [if_neg (Nat.lt_irrefl _)] at hit3
      rw [List.getElem_map]
      refine wpAny_bind (wpAny_holding ?_)
      show wpAny _ _ (Builtin.SmallTypes.nextOf (.ref its[m]) >>= _) _ _ _
      refine wpAny_bind (RZ.nextOf_tuple_item hit3 ht hxi fun h3 hit4 sb3 => wpAny_pure ?_)
      refine wpAny_pure ⟨m + 1, h3, rfl, hmlt, ?_, rfl, sb3.extBut _ _ (Ne.symm (D.it _ him).1) hz2, sb3.extBut _ _ (Ne.symm (D.it _ him).2.2) hTO2, hit2.next D.nd hi hl hit4 sb3, fr2.but (.inr (.inr him)) sb3⟩
      rw [List.take_add_one, hx]
      simp
    · rintro r s' ⟨m, h2, hd, hm, rfl, rfl, hz2, hTO2, hit2, fr2⟩
      have hmn : m = its.length := by
        apply Nat.le_antisymm hm
        have := congrArg List.length hd
        simp at this
        omega
      subst hmn
      have hxl : xs.take its.length = xs := List.take_of_length_le (by rw [hr.1, D.len]; exact Nat.le_refl _)
      rw [hxl]
      show wpAny _ _ (newTuple xs.toArray.toList >>= _) _ _ _
      refine wpAny_bind (wpAny_newTuple ?_ (by rw [List.toList_toArray, hr.1, D.len]; exact Nat.le_trans hsz (by decide)))
      have up : ∀ c o, h2.get? c = some o → (h2.push { cls := .type "tuple", data := .seq xs.toArray.toList.toArray }).get? c = some o := fun c o e => Heap.get?_push_of_some _ e
      refine wpAny_pure ⟨_, rfl, hQ _ _ ⟨_, _, vs, up _ _ hz2, h0, up _ _ hTO2, hvs⟩ (fun j i l e1 e2 => (hit2.done j i l e1 e2).at fun o e => up _ o e) (Heap.get?_push_size _ rfl) fr2.1 ⟨?_, fun c o c1 c2 c3 e => up c o (fr2.2 c o c1 c2 c3 e)⟩⟩
      rw [Heap.size_push]
      exact Nat.le_succ_of_le fr2.1
def Kept (z TO : Addr) (its : List Addr) (h h' : Heap) : Prop := ∀ c o, c ≠ z → c ≠ TO → c ∉ its → h.get? c = some o → h'.get? c = some o
theorem zipN_end {z TI TO : Addr} {its ls : List Addr} {k : Nat} {f0 f1 : Value} {Q : Fin → Shared → Prop} (hh : A.handled = none) (D : ZpApart z TI TO its ls) (hn : its ≠ [])
    (hz : ZpAt s.heap z TI TO f0 f1) (h0 : f0 = .none ∨ ∃ a t, f0 = .int a t) (hTI : TsAt s.heap TI (its.map Value.ref)) (hit : ItsAt s.heap its ls 0 k) (hend : ∀ l, ls[0]? = some l → ∃ items, s.heap.IsTuple l items ∧ items[k]? = none)
    (hE : ∀ h' e, Kept z TO its s.heap h' → (∃ o, h'.get? e = some o ∧ o.cls = .type "StopIteration") → E (.ref e) { s with heap := h' }) :
    wpAny (model prog w) A (Builtin.«zip.__next__» ⟨[.ref z], []⟩) Q E s := by
  obtain ⟨i, ir, rfl⟩ : ∃ i ir, its = i :: ir := by
    cases its with
    | nil => exact absurd rfl hn
    | cons i ir => exact ⟨i, ir, rfl⟩
  obtain ⟨l, lr, rfl⟩ : ∃ l lr, ls = l :: lr := by
    cases ls with
    | nil => have := D.len; simp at this
    | cons l lr => exact ⟨l, lr, rfl⟩
  obtain ⟨items, ht, hx⟩ := hend l rfl
  have hi0 := hit 0 i l rfl rfl
  rw [if_neg (Nat.lt_irrefl _)] at hi0
  obtain ⟨d1, d2, d3⟩ := D.it i List.mem_cons_self
  obtain ⟨b1, b2, b3⟩ := D.l l List.mem_cons_self
  show wpAny _ _ (field (.ref z) 2 >>= _) _ _ _
  refine wpAny_bind (wpAny_field hz rfl (x := .bool false) rfl ?_)
  show wpAny _ _ (field (.ref z) 3 >>= _) _ _ _
  refine wpAny_bind (wpAny_field hz rfl (x := .ref TI) rfl ?_)
  refine wpAny_bind (wpAny_seqItems hTI rfl ?_)
  show wpAny _ _ (if (((i :: ir).map Value.ref).toArray).isEmpty = true then _ else _) _ _ _
  rw [if_neg (show ¬ (((i :: ir).map Value.ref).toArray).isEmpty = true from Bool.false_ne_true)]
  show wpAny _ _ (Builtin.SmallTypes.ownedTupleIsFree (.ref z) >>= _) _ _ _
  refine wpAny_bind (wpAny_mono (zfree hz h0) (fun b s1 hb => ?_) fun _ _ e => e)
  rcases hb with ⟨rfl, rfl⟩ | ⟨rfl, h1, g1, rfl, hz1, hsb⟩
  · simp only [if_true]
    refine wpAny_bind (wpAny_rule ?_)
    refine wpAny_bind (wpAny_field hz rfl (x := .ref TO) rfl ?_)
    refine wpAny_bind (wpAny_setField_rec hz (by simp) fun h1 hz1 sb1 => ?_)
    replace hz1 : ZpAt h1 z TI TO .ellipsis f1 := hz1
    refine wpAny_bind ?_
    refine wpAny_forIn_list _ (fun rest r s' => rest = ((i :: ir).map Value.ref).zipIdx ∧ s' = { s1 with heap := h1 }) _ ?_ ?_ _ _ ⟨rfl, rfl⟩
    · rintro x rest r s' ⟨hd, rfl⟩
      cases hd
      refine wpAny_bind (wpAny_onRaise ?_)
      show wpAny _ _ (Builtin.SmallTypes.nextOf (.ref i) >>= _) _ _ _
      refine wpAny_bind (RZ.nextOf_tuple_end hh (hi0.extBut sb1.extBut d1) (ht.extBut sb1.extBut b1) hx fun h2 e hs2 he => ?_)
      obtain ⟨oe, hoe, hce⟩ := he
      have hz2 : ZpAt h2 z TI TO .ellipsis f1 := hs2 _ _ (Ne.symm d1) hz1
      have hez : e ≠ z := fun q => by subst q; rw [hz2] at hoe; cases hoe; simp at hce
      exact wpAny_setField_rec hz2 (by simp) fun h3 _ hs3 => hE h3 e (fun c o c1 c2 c3 q => hs3.extBut _ _ c1 (hs2 _ _ (fun w => c3 (by rw [w]; exact List.mem_cons_self)) (sb1.extBut _ _ c1 q))) ⟨oe, hs3.extBut _ _ hez hoe, hce⟩
    · rintro r s' ⟨hd, rfl⟩
      cases hd
  · simp only [Bool.false_eq_true, if_false]
    have kp : ∀ c o, c ≠ z → s.heap.get? c = some o → h1.get? c = some o := by
      rcases hsb with rfl | sb
      · exact fun _ _ _ q => q
      · exact fun c o c1 q => sb.extBut _ _ c1 q
    refine wpAny_bind ?_
    rw [← Array.forIn_toList]
    refine wpAny_forIn_list _ (fun rest r s' => rest = (i :: ir).map Value.ref ∧ s' = { s with heap := h1 }) _ ?_ ?_ _ _ ⟨by simp, rfl⟩
    · rintro x rest r s' ⟨hd, rfl⟩
      cases hd
      refine wpAny_bind (wpAny_holding ?_)
      show wpAny _ _ (Builtin.SmallTypes.nextOf (.ref i) >>= _) _ _ _
      refine wpAny_bind (RZ.nextOf_tuple_end hh (hi0.at fun o q => kp _ o d1 q) (by obtain ⟨o, ho, r⟩ := ht; exact ⟨o, kp _ o b1 ho, r⟩) hx fun h2 e hs2 he => ?_)
      exact hE h2 e (fun c o c1 c2 c3 q => hs2 _ _ (fun w => c3 (by rw [w]; exact List.mem_cons_self)) (kp _ _ c1 q)) he
    · rintro r s' ⟨hd, rfl⟩
      cases hd
theorem zpType {z TI TO : Addr} {f0 f1 : Value} (hz : ZpAt s.heap z TI TO f0 f1) : s.TypeIs (.ref z) "zip" := ⟨_, hz, rfl⟩
theorem zipN_next {z TI TO : Addr} {its ls : List Addr} {k : Nat} {xs vs : List Value} {f0 f1 : Value} {Q : Option Value → Shared → Prop} (D : ZpApart z TI TO its ls) (hn : its ≠ []) (hsz : its.length ≤ 100)
    (hz : ZpAt s.heap z TI TO f0 f1) (h0 : f0 = .none ∨ ∃ a t, f0 = .int a t) (hTI : TsAt s.heap TI (its.map Value.ref)) (hTO : TsAt s.heap TO vs) (hvs : vs.length = its.length) (hit : ItsAt s.heap its ls 0 k) (hr : RowAt s.heap ls k xs)
    (hQ : ∀ h' T, (∃ g0 g1 ws, ZpAt h' z TI TO g0 g1 ∧ (g0 = .none ∨ ∃ a t, g0 = .int a t) ∧ TsAt h' TO ws ∧ ws.length = its.length) → ItsAt h' its ls 0 (k + 1) → TsAt h' T xs → s.heap.objs.size ≤ T → Frame z TO its s.heap h' → Q (some (.ref T)) { s with heap := h' }) :
    wpAny (model prog w) A (pyNext (.ref z)) Q E s := by
  unfold pyNext
  exact wpAny_bind (wpAny_attempt (wpAny_callSpecial?_slot (name := Str.ofString "__next__") (zpType hz) F.slot_zip_next
    (wpAny_call_entry F.slot_zip_next (zpType hz) F.entry_zip_next (zipN_item D hn hsz hz h0 hTI hTO hvs hit hr fun h' T a b c d e => wpAny_pure (hQ h' T a b c d e)) (F.args_zip_next_1 _))))
theorem zipN_stop {z TI TO : Addr} {its ls : List Addr} {k : Nat} {f0 f1 : Value} {Q : Option Value → Shared → Prop} (hh : A.handled = none) (D : ZpApart z TI TO its ls) (hn : its ≠ [])
    (hz : ZpAt s.heap z TI TO f0 f1) (h0 : f0 = .none ∨ ∃ a t, f0 = .int a t) (hTI : TsAt s.heap TI (its.map Value.ref)) (hit : ItsAt s.heap its ls 0 k) (hend : ∀ l, ls[0]? = some l → ∃ items, s.heap.IsTuple l items ∧ items[k]? = none)
    (hQ : ∀ h', Kept z TO its s.heap h' → Q none { s with heap := h' }) : wpAny (model prog w) A (pyNext (.ref z)) Q E s := by
  unfold pyNext
  refine wpAny_bind (wpAny_attempt (wpAny_callSpecial?_slot (name := Str.ofString "__next__") (zpType hz) F.slot_zip_next
    (wpAny_call_entry F.slot_zip_next (zpType hz) F.entry_zip_next (zipN_end hh D hn hz h0 hTI hit hend fun h' e hk he => ?_) (F.args_zip_next_1 _))))
  obtain ⟨o, ho, hc⟩ := he
  exact wpAny_bind (wpAny_isInstance (T := "StopIteration") (b := true) ⟨o, ho, hc⟩ isSubtype_stop (wpAny_pure (hQ _ hk)))
end
end Oz

end

section
set_option maxHeartbeats 4000000
namespace Oz
open PySem PySem.Spec PyProof.Rows L2
abbrev itO (l : Addr) : Obj := { cls := .type "tuple_iterator", data := .fields #[.ref l, .int 0 0] }
abbrev tpO (vs : List Value) : Obj := { cls := .type "tuple", data := .seq vs.toArray }
abbrev zpO (TI TO : Addr) : Obj := { cls := .type "zip", data := .fields #[.none, .bool false, .bool false, .ref TI, .ref TO] }
abbrev zp1 (h : Heap) (l1 : Addr) : Heap := (((h.push (itO l1)).push (tpO [.ref h.objs.size])).push (tpO [.none])).push (zpO (h.push (itO l1)).objs.size ((h.push (itO l1)).push (tpO [.ref h.objs.size])).objs.size)
theorem typeCall_zip_1 (a : Value) : checkTypeCall "zip" ⟨[a], []⟩ = pure () := by kernel_rfl
theorem newCall_zip_1 (a : Value) : checkBuiltinCall "zip.__new__" ⟨[.type "zip", a], []⟩ = pure () := by kernel_rfl
theorem typeCall_zip_3 (a b c : Value) : checkTypeCall "zip" ⟨[a, b, c], []⟩ = pure () := by kernel_rfl
theorem newCall_zip_3 (a b c : Value) : checkBuiltinCall "zip.__new__" ⟨[.type "zip", a, b, c], []⟩ = pure () := by kernel_rfl
theorem args_object_init_2 (a b : Value) : argsOk "object.__init__" ⟨[a, b], []⟩ := by
  unfold argsOk; rw [signature?_of (id := "object.__init__") (n := ['_', '_', 't', 'i', 'n', 'i', '_', '_']) (o := ['t', 'c', 'e', 'j', 'b', 'o']) (by kernel_rfl) F.owner_object]; kernel_rfl
theorem args_object_init_4 (a b c d : Value) : argsOk "object.__init__" ⟨[a, b, c, d], []⟩ := by
  unfold argsOk; rw [signature?_of (id := "object.__init__") (n := ['_', '_', 't', 'i', 'n', 'i', '_', '_']) (o := ['t', 'c', 'e', 'j', 'b', 'o']) (by kernel_rfl) F.owner_object]; kernel_rfl
theorem meets_zip1 (l1 : Addr) (xs : Array Value) :
    Meets (Builtin.«zip.__new__» ⟨[.type "zip", .ref l1], []⟩) (fun _ R s => s.heap.IsTuple l1 xs ∧ R (.ok (.ret (.ref ((((s.heap.push (itO l1)).push (tpO [.ref s.heap.objs.size])).push (tpO [.none])).objs.size)))) { s with heap := zp1 s.heap l1 }) :=
  .of_wp fun prog w A R s h => by
    obtain ⟨hp, g, d, tk, os⟩ := s
    obtain ⟨hl1, h⟩ := h
    have hsub := sub_zip
    have hL1 : Heap.IsTuple (Shared.heap ⟨hp, g, d, tk, os⟩) l1 xs := hl1
    wp_walk using wpAny_pyIter_tuple hL1
    exact ⟨_, rfl, h⟩
abbrev zq1 (h : Heap) (a : Addr) : Heap := h.push (itO a)
abbrev zq2 (h : Heap) (a b : Addr) : Heap := (zq1 h a).push (itO b)
abbrev zq3 (h : Heap) (a b c : Addr) : Heap := (zq2 h a b).push (itO c)
abbrev zq4 (h : Heap) (a b c : Addr) : Heap := (zq3 h a b c).push (tpO [.ref h.objs.size, .ref (zq1 h a).objs.size, .ref (zq2 h a b).objs.size])
abbrev zq5 (h : Heap) (a b c : Addr) : Heap := (zq4 h a b c).push (tpO [.none, .none, .none])
abbrev zq6 (h : Heap) (a b c : Addr) : Heap := (zq5 h a b c).push (zpO (zq3 h a b c).objs.size (zq4 h a b c).objs.size)
theorem meets_zip3 (a b c : Addr) (xs ys zs : Array Value) :
    Meets (Builtin.«zip.__new__» ⟨[.type "zip", .ref a, .ref b, .ref c], []⟩) (fun _ R s => s.heap.IsTuple a xs ∧ s.heap.IsTuple b ys ∧ s.heap.IsTuple c zs ∧ R (.ok (.ret (.ref (zq5 s.heap a b c).objs.size))) { s with heap := zq6 s.heap a b c }) :=
  .of_wp fun prog w A R s h => by
    obtain ⟨hp, g, d, tk, os⟩ := s
    obtain ⟨hl1, hl2, hl3, h⟩ := h
    have hsub := sub_zip
    have hL1 : Heap.IsTuple (Shared.heap ⟨hp, g, d, tk, os⟩) a xs := hl1
    have hL2 : Heap.IsTuple (Shared.heap ⟨hp.push (itO a), g, d, tk, os⟩) b ys := Heap.IsTuple.push hl2 _
    have hL3 : Heap.IsTuple (Shared.heap ⟨(hp.push (itO a)).push (itO b), g, d, tk, os⟩) c zs := (Heap.IsTuple.push hl3 _).push _
    wp_walk using wpAny_pyIter_tuple hL1, wpAny_pyIter_tuple hL2, wpAny_pyIter_tuple hL3
    exact ⟨_, rfl, h⟩
end Oz

end

section
set_option maxHeartbeats 4000000
namespace Oz
open PySem PySem.Spec PyProof.Rows L2
theorem ad_ne {N i j : Nat} (h : i ≠ j) : ¬ (@Eq Addr (N + i) (N + j)) := fun e => h (Nat.add_left_cancel (show N + i = N + j from e))
theorem ad_lt {N i : Nat} {l : Addr} (h : l < N) : ¬ (@Eq Addr l (N + i)) := fun e => Nat.lt_irrefl l (Nat.lt_of_lt_of_le h (by rw [show l = N + i from e]; exact Nat.le_add_right _ _))
section
variable {prog : Program} {w : World} {A : Around} {E : Value → Shared → Prop} {s : Shared}
theorem call_zipN {ls : List Addr} {Q : Value → Shared → Prop} (hn : ls.length = 1 ∨ ls.length = 3) (ht : ∀ l ∈ ls, ∃ xs, s.heap.IsTuple l xs)
    (h : ∀ h' z TI TO its, ZpAt h' z TI TO .none (.bool false) → TsAt h' TI (its.map Value.ref) → (∃ vs, TsAt h' TO vs ∧ vs.length = its.length) → ItsAt h' its ls 0 0 → (∀ c ∈ z :: TI :: TO :: its, s.heap.objs.size ≤ c) → ZpApart z TI TO its ls →
      (∀ c o, s.heap.get? c = some o → h'.get? c = some o) → Q (.ref z) { s with heap := h' }) : wpAny (model prog w) A (call (.type "zip") (ls.map Value.ref)) Q E s := by
  have lt : ∀ l ∈ ls, l < s.heap.objs.size := fun l hl => by
    obtain ⟨xs, o, ho, _⟩ := ht l hl
    exact Heap.lt_size ho
  rcases hn with hn | hn
  · obtain ⟨a, rfl⟩ : ∃ a, ls = [a] := by
      match ls, hn with
      | [a], _ => exact ⟨a, rfl⟩
    obtain ⟨xs, hx⟩ := ht a List.mem_cons_self
    have la := lt a List.mem_cons_self
    refine callType_new F.called_zip (by decide) (typeCall_zip_1 _) (newCall_zip_1 _) (fun obj => args_object_init_2 obj _) F.entry_zip_new (meets_zip1 a xs) ⟨hx, ?_⟩
    generalize hN : s.heap.objs.size = N at *
    have z1 : (s.heap.push (itO a)).objs.size = N + 1 := by rw [Heap.size_push, hN]
    have z2 : ((s.heap.push (itO a)).push (tpO [.ref N])).objs.size = N + 2 := by rw [Heap.size_push, z1]
    have z3 : (((s.heap.push (itO a)).push (tpO [.ref N])).push (tpO [.none])).objs.size = N + 3 := by rw [Heap.size_push, z2]
    have g4 : (zp1 s.heap a).get? (((s.heap.push (itO a)).push (tpO [.ref s.heap.objs.size])).push (tpO [.none])).objs.size = some _ := Heap.get?_push_size _ rfl
    have g3 : (zp1 s.heap a).get? ((s.heap.push (itO a)).push (tpO [.ref s.heap.objs.size])).objs.size = some _ := Heap.get?_push_of_some _ (Heap.get?_push_size _ rfl)
    have g2 : (zp1 s.heap a).get? (s.heap.push (itO a)).objs.size = some _ := Heap.get?_push_of_some _ (Heap.get?_push_of_some _ (Heap.get?_push_size _ rfl))
    have g1 : (zp1 s.heap a).get? s.heap.objs.size = some _ := Heap.get?_push_of_some _ (Heap.get?_push_of_some _ (Heap.get?_push_of_some _ (Heap.get?_push_size _ rfl)))
    have kp : ∀ c o, s.heap.get? c = some o → (zp1 s.heap a).get? c = some o := fun c o e => Heap.get?_push_of_some _ (Heap.get?_push_of_some _ (Heap.get?_push_of_some _ (Heap.get?_push_of_some _ e)))
    rw [hN] at g1 g2 g3 g4
    rw [z3, z1, z2] at g4
    rw [z2] at g3
    rw [z1] at g2
    rw [z3]
    refine ⟨⟨_, g4, rfl⟩, h _ (N + 3) (N + 1) (N + 2) [N] g4 g2 ⟨[.none], g3, rfl⟩ ?_ ?_ ⟨?_, ?_, ?_, ?_, ?_, ?_, rfl⟩ kp⟩
    · intro j i l e1 e2
      have hj : j = 0 := by
        have := (List.getElem?_eq_some_iff.mp e1).1
        simp at this
        exact this
      subst hj
      cases e1
      cases e2
      exact ⟨_, g1, rfl, rfl⟩
    · intro c hc
      simp only [List.mem_cons, List.not_mem_nil, or_false] at hc
      rcases hc with rfl | hc
      · exact Nat.le_add_right _ _
      · rcases hc with rfl | rfl | rfl <;> first | exact Nat.le_add_right _ _ | exact Nat.le_refl _
    · exact ad_ne (by decide)
    · exact ad_ne (by decide)
    · exact ad_ne (by decide)
    · intro i hi
      rcases List.mem_cons.mp hi with rfl | hi
      · exact ⟨ad_ne (i := 0) (by decide), ad_ne (i := 0) (by decide), ad_ne (i := 0) (by decide)⟩
      · cases hi
    · exact List.nodup_cons.mpr ⟨List.not_mem_nil, List.nodup_nil⟩
    · intro l hl
      rcases List.mem_cons.mp hl with rfl | hl
      · exact ⟨ad_lt la, ad_lt la, fun i hi => by
          rcases List.mem_cons.mp hi with rfl | hi
          · exact ad_lt (i := 0) la
          · cases hi⟩
      · cases hl
  · obtain ⟨a, b, c, rfl⟩ : ∃ a b c, ls = [a, b, c] := by
      match ls, hn with
      | [a, b, c], _ => exact ⟨a, b, c, rfl⟩
    obtain ⟨xs, hx⟩ := ht a (by simp)
    obtain ⟨ys, hy⟩ := ht b (by simp)
    obtain ⟨zs, hz⟩ := ht c (by simp)
    have la := lt a (by simp)
    have lb := lt b (by simp)
    have lc := lt c (by simp)
    refine callType_new F.called_zip (by decide) (typeCall_zip_3 _ _ _) (newCall_zip_3 _ _ _) (fun obj => args_object_init_4 obj _ _ _) F.entry_zip_new (meets_zip3 a b c xs ys zs) ⟨hx, hy, hz, ?_⟩
    generalize hN : s.heap.objs.size = N at *
    have z1 : (zq1 s.heap a).objs.size = N + 1 := by rw [Heap.size_push, hN]
    have z2 : (zq2 s.heap a b).objs.size = N + 2 := by rw [Heap.size_push, z1]
    have z3 : (zq3 s.heap a b c).objs.size = N + 3 := by rw [Heap.size_push, z2]
    have z4 : (zq4 s.heap a b c).objs.size = N + 4 := by rw [Heap.size_push, z3]
    have z5 : (zq5 s.heap a b c).objs.size = N + 5 := by rw [Heap.size_push, z4]
    have g6 : (zq6 s.heap a b c).get? (zq5 s.heap a b c).objs.size = some _ := Heap.get?_push_size _ rfl
    have g5 : (zq6 s.heap a b c).get? (zq4 s.heap a b c).objs.size = some _ := Heap.get?_push_of_some _ (Heap.get?_push_size _ rfl)
    have g4 : (zq6 s.heap a b c).get? (zq3 s.heap a b c).objs.size = some _ := Heap.get?_push_of_some _ (Heap.get?_push_of_some _ (Heap.get?_push_size _ rfl))
    have g3 : (zq6 s.heap a b c).get? (zq2 s.heap a b).objs.size = some _ := Heap.get?_push_of_some _ (Heap.get?_push_of_some _ (Heap.get?_push_of_some _ (Heap.get?_push_size _ rfl)))
    have g2 : (zq6 s.heap a b c).get? (zq1 s.heap a).objs.size = some _ := Heap.get?_push_of_some _ (Heap.get?_push_of_some _ (Heap.get?_push_of_some _ (Heap.get?_push_of_some _ (Heap.get?_push_size _ rfl))))
    have g1 : (zq6 s.heap a b c).get? s.heap.objs.size = some _ := Heap.get?_push_of_some _ (Heap.get?_push_of_some _ (Heap.get?_push_of_some _ (Heap.get?_push_of_some _ (Heap.get?_push_of_some _ (Heap.get?_push_size _ rfl)))))
    have kp : ∀ q o, s.heap.get? q = some o → (zq6 s.heap a b c).get? q = some o := fun q o e => Heap.get?_push_of_some _ (Heap.get?_push_of_some _ (Heap.get?_push_of_some _ (Heap.get?_push_of_some _ (Heap.get?_push_of_some _ (Heap.get?_push_of_some _ e)))))
    rw [hN] at g1
    rw [z1] at g2
    rw [z2] at g3
    rw [hN, z1, z2, z3] at g4
    rw [z4] at g5
    rw [z3, z4, z5] at g6
    rw [z5]
    refine ⟨⟨_, g6, rfl⟩, h _ (N + 5) (N + 3) (N + 4) [N, N + 1, N + 2] g6 g4 ⟨[.none, .none, .none], g5, rfl⟩ ?_ ?_ ⟨?_, ?_, ?_, ?_, ?_, ?_, rfl⟩ kp⟩
    · intro j i l e1 e2
      have hj : j = 0 ∨ j = 1 ∨ j = 2 := by
        have := (List.getElem?_eq_some_iff.mp e1).1
        simp at this
        omega
      rcases hj with rfl | rfl | rfl
      · cases e1; cases e2; exact ⟨_, g1, rfl, rfl⟩
      · cases e1; cases e2; exact ⟨_, g2, rfl, rfl⟩
      · cases e1; cases e2; exact ⟨_, g3, rfl, rfl⟩
    · intro c hc
      simp only [List.mem_cons, List.not_mem_nil, or_false] at hc
      rcases hc with rfl | hc
      · exact Nat.le_add_right _ _
      · rcases hc with rfl | rfl | rfl | rfl | rfl <;> first | exact Nat.le_add_right _ _ | exact Nat.le_refl _
    · exact ad_ne (by decide)
    · exact ad_ne (by decide)
    · exact ad_ne (by decide)
    · intro i hi
      simp only [List.mem_cons, List.not_mem_nil, or_false] at hi
      rcases hi with rfl | rfl | rfl
      · exact ⟨ad_ne (i := 0) (by decide), ad_ne (i := 0) (by decide), ad_ne (i := 0) (by decide)⟩
      · exact ⟨ad_ne (by decide), ad_ne (by decide), ad_ne (by decide)⟩
      · exact ⟨ad_ne (by decide), ad_ne (by decide), ad_ne (by decide)⟩
    · refine List.nodup_cons.mpr ⟨fun h => ?_, List.nodup_cons.mpr ⟨fun h => ?_, List.nodup_cons.mpr ⟨List.not_mem_nil, List.nodup_nil⟩⟩⟩
      · simp only [List.mem_cons, List.not_mem_nil, or_false] at h
        rcases h with h | h
        · exact ad_ne (i := 0) (j := 1) (by decide) h
        · exact ad_ne (i := 0) (j := 2) (by decide) h
      · simp only [List.mem_cons, List.not_mem_nil, or_false] at h
        exact ad_ne (i := 1) (j := 2) (by decide) h
    · intro l hl
      have hlt : l < N := by
        simp only [List.mem_cons, List.not_mem_nil, or_false] at hl
        rcases hl with rfl | rfl | rfl <;> assumption
      refine ⟨ad_lt hlt, ad_lt hlt, fun i hi => ?_⟩
      simp only [List.mem_cons, List.not_mem_nil, or_false] at hi
      rcases hi with rfl | rfl | rfl
      · exact ad_lt (i := 0) hlt
      · exact ad_lt hlt
      · exact ad_lt hlt
end
end Oz

end

section
set_option maxHeartbeats 4000000
namespace Oz
open PySem PySem.Spec PyProof.Rows L2
/-- the tuples at ls, row by row -/
def ItzN (K : PySem.W.Frag) (ls : List Addr) : It :=
  ⟨fun i H => ∃ row : List V, row.length = ls.length ∧ ∀ (j : Nat) (l : Addr) (x : V), ls[j]? = some l → row[j]? = some x → ∃ xs, SqT K H l xs ∧ xs[i]? = some x,
    fun i H v H' => ∃ (T : Addr) (row : List V), v = .ref T ∧ H T = none ∧ H' = upd H T (.tup row) ∧ row.length = ls.length ∧ ∀ (j : Nat) (l : Addr) (x : V), ls[j]? = some l → row[j]? = some x → ∀ xs, SqT K H l xs → xs[i]? = some x,
    fun i H => ∀ l, ls[0]? = some l → ∃ xs, SqT K H l xs ∧ xs.length ≤ i⟩
theorem row_vals {h : Heap} {i : Nat} : ∀ {ls : List Addr} {row : List V}, row.length = ls.length → (∀ (j : Nat) (l : Addr) (x : V), ls[j]? = some l → row[j]? = some x → ∃ items u, h.IsTuple l items ∧ items[i]? = some u ∧ RelV x u) → ∃ us, Vals row us ∧ RowAt h ls i us
  | [], row, hl, _ => by
    cases row with
    | nil => exact ⟨[], .nil, rfl, fun j l x e => by simp at e⟩
    | cons _ _ => simp at hl
  | l :: ls, row, hl, hr => by
    cases row with
    | nil => simp at hl
    | cons x row =>
      obtain ⟨items, u, h1, h2, h3⟩ := hr 0 l x rfl rfl
      obtain ⟨us, v, hlen, hus⟩ := row_vals (ls := ls) (row := row) (by simpa using hl) (fun j l x e1 e2 => hr (j + 1) l x (by simpa using e1) (by simpa using e2))
      refine ⟨u :: us, .cons h3 v, by simp [hlen], fun j l' x' e1 e2 => ?_⟩
      cases j with
      | zero =>
        cases e1
        cases e2
        exact ⟨items, h1, h2⟩
      | succ j => exact hus j l' x' (by simpa using e1) (by simpa using e2)
theorem zp_self {A : Around} {E : Value → Shared → Prop} {s : Shared} {prog : Program} {w : World} {z TI TO : Addr} {f0 f1 : Value} {Q : Value → Shared → Prop} (hz : ZpAt s.heap z TI TO f0 f1) (h : Q (.ref z) s) : wpAny (model prog w) A (pyIter (.ref z)) Q E s := by
  refine wpAny_pyIter_slot (zpType hz) F.slot_zip_iter (wpAny_call_entry F.slot_zip_iter (zpType hz) F.entry_zip_iter ?_ (F.args_zip_iter_1 _))
  show wpAny _ _ (ret (.ref z)) _ _ s
  exact wpAny_pure ⟨_, rfl, "zip", _, zpType hz, F.slot_zip_next.lookup, h⟩
def ZpSt (z TI TO : Addr) (its ls : List Addr) (i : Nat) (h : Heap) : Prop := (∃ f0 f1 vs, ZpAt h z TI TO f0 f1 ∧ (f0 = .none ∨ ∃ a t, f0 = .int a t) ∧ TsAt h TO vs ∧ vs.length = its.length) ∧ TsAt h TI (its.map Value.ref) ∧ ItsAt h its ls 0 i
theorem ZpSt.there {z TI TO : Addr} {its ls : List Addr} {i : Nat} {h : Heap} (D : ZpApart z TI TO its ls) (st : ZpSt z TI TO its ls i h) : ∀ b ∈ z :: TI :: TO :: its, ∃ o, h.get? b = some o ∧ ∀ v, o.data ≠ .cell v := by
  obtain ⟨⟨f0, f1, vs, hz, _, hTO, _⟩, hTI, hit⟩ := st
  intro b hb
  rcases List.mem_cons.mp hb with rfl | hb
  · exact ⟨_, hz, fun v q => nomatch q⟩
  rcases List.mem_cons.mp hb with rfl | hb
  · exact ⟨_, hTI, fun v q => nomatch q⟩
  rcases List.mem_cons.mp hb with rfl | hb
  · exact ⟨_, hTO, fun v q => nomatch q⟩
  · obtain ⟨j, hj, e⟩ := List.getElem_of_mem hb
    have hl : j < ls.length := by rw [D.len]; exact hj
    obtain ⟨o, e1, _, d1⟩ := hit j b ls[j] (by rw [List.getElem?_eq_getElem hj, e]) (List.getElem?_eq_getElem hl)
    exact ⟨o, e1, fun v q => by rw [d1] at q; cases q⟩
theorem turn_zipN {P : Program} {w : World} {K : PySem.W.Frag} {x : Str} {pos : Pos} {z TI TO : Addr} {its ls : List Addr} (D : ZpApart z TI TO its ls) (hn : its ≠ []) (hsz : its.length ≤ 100) :
    Turn P w K (.Name x pos) (ItzN K ls) (z :: TI :: TO :: its) z (ZpSt z TI TO its ls) where
  mem := List.mem_cons_self
  obj := fun i h st => st.there D
  keep := fun i h h' st k => by
    obtain ⟨⟨f0, f1, vs, hz, h0, hTO, hv⟩, hTI, hit⟩ := st
    exact ⟨⟨f0, f1, vs, k z (by simp) _ hz, h0, k TO (by simp) _ hTO, hv⟩, k TI (by simp) _ hTI, fun j i' l e1 e2 => (hit j i' l e1 e2).at fun o q => k i' (by simp [List.mem_of_getElem? e1]) o q⟩
  item := by
    intro X hP hw hK hc i pins s σ H E I hf st hg
    subst hP hw hK
    have there := st.there D
    obtain ⟨⟨f0, f1, vs, hz, h0, hTO, hv⟩, hTI, hit⟩ := st
    obtain ⟨row, hlen, hrow⟩ := hg
    obtain ⟨us, rv, hr⟩ := row_vals (h := s.heap) (i := i) hlen fun j l x e1 e2 => by
      obtain ⟨xs, hq, hx⟩ := hrow j l x e1 e2
      obtain ⟨its', rv, p, _⟩ := I.tuple hq
      obtain ⟨u, hu, ru⟩ := rv.get hx
      exact ⟨its'.toArray, u, p, by simpa using hu, ru⟩
    refine zipN_next D hn hsz hz h0 hTI hTO hv hit hr fun h' T hst hit' hT hle fr => ?_
    refine ⟨_, rfl, wpAny_pure ?_⟩
    have hz100 : row.length ≤ sizeLine := by rw [hlen, D.len]; exact Nat.le_trans hsz (by decide)
    have new : ObjOk X.prog X.w (upd H T (.tup row)) h' T (.tup row) := ⟨hz100, us, rv, ⟨_, hT, rfl, _, rfl⟩⟩
    have I1 : Inv X pins σ (upd H T (.tup row)) { s with heap := h' } :=
      I.turnedNew (t' := s.toks) (ch := z :: TI :: TO :: its) (fun c o hb q => fr.2 c o (fun e => hb (by simp [e])) (fun e => hb (by simp [e])) (fun e => hb (by simp [e])) q) hf hle new
    have hTI' : TsAt h' TI (its.map Value.ref) := fr.2 _ _ D.tiz D.tito (fun e => (D.it TI e).2.1 rfl) hTI
    obtain ⟨g0, g1, ws, a1, a2, a3, a4⟩ := hst
    refine ⟨.ref T, _, I1, rfl, ⟨T, row, rfl, I.hok.fresh hle, rfl, hlen, fun j l x e1 e2 xs hq => ?_⟩, ⟨⟨g0, g1, ws, a1, a2, a3, a4⟩, hTI', hit'⟩, fun b hb => ?_⟩
    · obtain ⟨xs', hq', hx'⟩ := hrow j l x e1 e2
      rw [I.tuple_inj hq hq']
      exact hx'
    · obtain ⟨o, e, _⟩ := there b hb
      rw [upd_ne (Nat.ne_of_lt (Nat.lt_of_lt_of_le (Heap.lt_size e) hle))]
      exact (hf b hb).1
  done := by
    intro X hP hw hK hc i pins s σ H E I hf st hg
    subst hP hw hK
    obtain ⟨⟨f0, f1, vs, hz, h0, hTO, hv⟩, hTI, hit⟩ := st
    refine zipN_stop (I.ok.hd hc) D hn hz h0 hTI hit (fun l hl => ?_) fun h' kp => ⟨rfl, I.turnedL (t' := s.toks) (ch := z :: TI :: TO :: its) (fun c o hb q => kp c o (fun e => hb (by simp [e])) (fun e => hb (by simp [e])) (fun e => hb (by simp [e])) q) hf⟩
    obtain ⟨xs, hq, hx⟩ := hg l hl
    obtain ⟨its', rv, p, _⟩ := I.tuple hq
    refine ⟨its'.toArray, p, ?_⟩
    have := rv.length
    rw [List.getElem?_toArray]
    exact List.getElem?_eq_none (by omega)
  self := fun A i s Q E st h => by
    obtain ⟨⟨f0, f1, vs, hz, _⟩, _⟩ := st
    exact zp_self hz h
def iZipN (K : PySem.W.Frag) (ta : TA) : TI := fun σ H R => ta σ H fun vs H1 => ∃ ls : List Addr, vs = ls.map V.ref ∧ (ls.length = 1 ∨ ls.length = 3) ∧ (∀ l ∈ ls, ∃ xs, SqT K H1 l xs) ∧ R (ItzN K ls) H1
theorem refs_vals : ∀ {ls : List Addr} {us : List Value}, Vals (ls.map V.ref) us → us = ls.map Value.ref
  | [], us, r => by cases r; rfl
  | l :: ls, us, r => by
    cases r with
    | cons a b =>
      cases a
      rw [refs_vals b]
      rfl
theorem callWith_tyS {M : Model} {A : Around} {E : Value → Shared → Prop} {s : Shared} {env : PySem.Env} {pos : Pos} {T : String} {e : Expr} {rest : List Expr} {Q : Value → Shared → Prop} (h : wpAny M A (spliced (backTo pos (starEach (e :: rest) env))) (fun vs s1 => wpAny M A (call (.type T) vs) Q E s1) E s)
    (he : starEach (e :: rest) env = (false, eval e env) :: starEach rest env) (hst : (backTo pos (starEach rest env)).any (·.1) = true) : wpAny M A (callWith pos (.type T) [] (backTo pos (starEach (e :: rest) env)) []) Q E s := by
  rw [he] at h ⊢
  refine PySem.W.ks_call (P := fun _ => True) (by show (false || (backTo pos (starEach rest env)).any (·.1)) = true; rw [hst]; rfl) (fun h _ => ⟨.machine, .inr (.inl rfl), PySem.W.Looks.of_pure rfl⟩) (PySem.Calls.evalArgs_plain (wpAny_mono h (fun a s1 h1 => ⟨trivial, h1⟩) fun _ _ q => q))
theorem pi_zipN {X : Cx} {e e2 : Expr} {ta : TA} {x : Str} {p p2 pos tpos : Pos} (hg : Gl X "zip") (hm : X.mg "zip" = none) (ha : PA X [e, .Starred e2 p2] ta)
    (hs : starEach [e, .Starred e2 p2] X.env = (false, eval e X.env) :: starEach [.Starred e2 p2] X.env := by rfl) (hst : (backTo pos (starEach [.Starred e2 p2] X.env)).any (·.1) = true := by rfl) :
    PI X (.Name x tpos) (.Call (.Name "zip" p) [e, .Starred e2 p2] [] pos) (iZipN X.K ta) := by
  refine ⟨fun pins s σ H R I h => ?_⟩
  refine Call_ (ld_blt I hg hm PyProof.Rows.boot_zip (callWith_tyS (thn (ha.run pos pins s σ H _ I h) fun us s1 ⟨vs, H1, I1, r1, q1⟩ => ?_) hs hst))
  obtain ⟨ls, rfl, hn, hq, q⟩ := q1
  rw [refs_vals r1]
  have hl3 : ls.length ≤ 3 := by omega
  refine call_zipN hn (fun l hl => ?_) fun h' z TI TO its hz hTI hTO hit hge D kp => ?_
  · obtain ⟨xs, h1⟩ := hq l hl
    obtain ⟨its', rv, p, _⟩ := I1.tuple h1
    exact ⟨its'.toArray, p⟩
  · have I2 : Inv X pins σ H1 { s1 with heap := h' } := I1.kept (t' := s1.toks) kp
    have hne : its ≠ [] := fun e => by
      have := D.len
      rw [e] at this
      simp at this
      rw [this] at hn
      simp at hn
    obtain ⟨vs, hTO, hv⟩ := hTO
    refine zp_self hz ⟨z, z :: TI :: TO :: its, _, _, H1, rfl, I2, turn_zipN D hne (by rw [← D.len]; omega), ⟨⟨_, _, vs, hz, .inl rfl, hTO, hv⟩, hTI, hit⟩, fun b hb => ?_, q⟩
    have := I1.fpOk (hge b hb) (I1.hok.fresh (hge b hb))
    exact this
end Oz

end

section
set_option maxHeartbeats 4000000
namespace Oz
open PySem PySem.Spec PyProof.Rows L2
/-! ### a tuple turned round -/
section
variable {prog : Program} {w : World} {A : Around} {E : Value → Shared → Prop} {s : Shared}
theorem adj_rev (n : Nat) : Builtin.Slice.sliceAdjust none none (-1) (n : Int) = ((n : Int) - 1, -1) := rfl
theorem places_rev (n : Nat) : Builtin.Slice.slicePlaces ((n : Int) - 1) (-1) (-1) = n := by
  unfold Builtin.Slice.slicePlaces
  rw [if_neg (by decide)]
  by_cases h : (n : Int) - 1 > -1
  · rw [if_pos h]
    have e : ((n : Int) - 1 - -1 - 1) / (- -1) + 1 = (n : Int) := by
      rw [show (- -1 : Int) = 1 by decide, Int.ediv_one]
      omega
    rw [e]
    simp
  · rw [if_neg h]
    have : n = 0 := by omega
    subst this
    rfl
theorem fm_congr {α β : Type} {f g : α → Option β} : ∀ {l : List α}, (∀ x ∈ l, f x = g x) → l.filterMap f = l.filterMap g
  | [], _ => rfl
  | x :: l, h => by
    rw [List.filterMap_cons, List.filterMap_cons, h x List.mem_cons_self, fm_congr fun y hy => h y (List.mem_cons_of_mem _ hy)]
theorem pick_rev (xs : Array Value) : ((List.range xs.size).filterMap fun (m : Nat) => xs[((xs.size : Int) - 1 + (m : Int) * (-1)).toNat]?).toArray = xs.toList.reverse.toArray := by
  have e : ((List.range xs.size).filterMap fun (m : Nat) => xs[((xs.size : Int) - 1 + (m : Int) * (-1)).toNat]?) = ((List.range xs.size).map fun k => xs.size - 1 - k).filterMap (xs[·]?) := by
    rw [List.filterMap_map]
    refine fm_congr fun m hm => ?_
    have := List.mem_range.mp hm
    have e : ((xs.size : Int) - 1 + (m : Int) * (-1)).toNat = xs.size - 1 - m := by omega
    simp only [Function.comp, e]
  rw [e, PySem.W.krv_range, List.filterMap_reverse, PySem.W.krv_all]
theorem getItem_tup_rev {t sl : Addr} {items : Array Value} {vl vu vk : Value} {Q : Value → Shared → Prop} (ht : IsTup s.heap t items) (hs : s.heap.IsSliceOf sl vl vu vk) (pl : IsPart vl none) (pu : IsPart vu none) (pk : IsPart vk (some (-1)))
    (h : Q (.ref s.heap.objs.size) { s with heap := s.heap.push { cls := .type "tuple", data := .seq items.toList.reverse.toArray } }) (hsz : items.size ≤ sizeLine) : wpAny (model prog w) A (getItem (.ref t) (.ref sl)) Q E s := by
  have ok : sizeOk (.seq items.toList.reverse.toArray) := by
    show items.toList.reverse.toArray.size ≤ sizeLine
    rw [List.size_toArray, List.length_reverse, Array.length_toList]
    exact hsz
  obtain ⟨os, hos, hcs, hds⟩ := id hs
  have hTs : s.TypeIs (.ref sl) "slice" := ⟨os, hos, hcs⟩
  unfold getItem
  try with_reducible refine wpAny_holding ?_
  first | refine wpAny_bind (wpAny_pure ?_) | skip
  refine wpAny_bind (wpAny_sequenceKey ht.typeIs (by decide) ?_)
  refine wpAny_bind (wpAny_callSpecial?_slot (name := Str.ofString "__getitem__") ht.typeIs PyProof.Rows.slot_tuple_getitem
    (wpAny_call_entry PyProof.Rows.slot_tuple_getitem ht.typeIs entry_tuple_getitem ?_ (args_tuple_getitem _ _)))
  show wpAny _ _ (Builtin.Tuple.tupleItemsOf (.ref t) >>= _) _ _ s
  refine wpAny_bind (PyProof.Rows.tupleItemsOf_ ht ?_)
  refine wpAny_bind (wpAny_typeOf hTs ?_)
  rw [if_pos (by decide)]
  refine wpAny_bind ?_
  unfold Builtin.Slice.sliceApplied Builtin.Slice.sliceFields
  refine wpAny_bind (wpAny_bind (wpAny_field hos hds (x := vl) rfl (wpAny_bind (wpAny_field hos hds (x := vu) rfl (wpAny_bind (wpAny_field hos hds (x := vk) rfl (wpAny_pure ?_)))))))
  refine wpAny_bind (HT.slicePart_ pk ?_)
  show wpAny _ _ (if ((-1 : Int) == 0) = true then _ else _) _ _ s
  rw [if_neg (by decide)]
  refine wpAny_bind (HT.slicePart_ pl (wpAny_bind (HT.slicePart_ pu (wpAny_bind (wpAny_pure ?_)))))
  show wpAny _ _ (match Builtin.Slice.sliceAdjust none none (-1) (items.size : Int) with | (lo, hi) => pure (lo, (-1 : Int), Builtin.Slice.slicePlaces lo hi (-1))) _ _ s
  rw [adj_rev]
  show wpAny _ _ (pure (((items.size : Int) - 1), (-1 : Int), Builtin.Slice.slicePlaces ((items.size : Int) - 1) (-1) (-1))) _ _ s
  rw [places_rev]
  refine wpAny_pure ?_
  show wpAny _ _ (if ((((items.size : Int) - 1) == 0 && (-1 : Int) == 1 && items.size == items.size) = true) then _ else _) _ _ s
  rw [if_neg (by rw [show ((-1 : Int) == 1) = false from rfl, Bool.and_false, Bool.false_and]; exact Bool.false_ne_true), pick_rev]
  first
    | exact wpAny_bind (m := Builtin.Tuple.tupleExact _) (wpAny_newObj_type (wpAny_pure ⟨_, rfl, wpAny_pure h⟩) ok)
    | exact wpAny_bind (m := Builtin.Tuple.tupleExact _) (wpAny_newObj_type (wpAny_bind (wpAny_pure (wpAny_pure ⟨_, rfl, wpAny_pure h⟩))) ok)
    | exact wpAny_bind (wpAny_bind (m := Builtin.Tuple.tupleExact _) (wpAny_newObj_type (wpAny_pure (wpAny_pure ⟨_, rfl, wpAny_pure h⟩)) ok))
    | exact wpAny_bind (wpAny_bind (m := Builtin.Tuple.tupleExact _) (wpAny_newObj_type (wpAny_pure ⟨_, rfl, wpAny_pure h⟩) ok))
end
section
variable {X : Cx} {p : Pg} {nm : Names} {ad : Str → Addr} {d : Nat} {W : XK} {Φ : Cal} {pos : Pos}
def tRevT (K : PySem.W.Frag) (te : TE) : TE := fun σ H Q => te σ H fun x H1 => ∃ a xs, x = .ref a ∧ SqT K H1 a xs ∧ ∀ p, H1 p = none → Q (.ref p) (upd H1 p (.tup xs.reverse))
theorem pe_revT {e : Expr} {te : TE} {k : Nat} {p1 p2 p3 : Pos} (he : PE X e te) : PE X (.Subscript e (.Slice none none (some (.UnaryOp .USub (.Constant (.int 1) k p1) p2)) p3) pos) (tRevT X.K te) := by
  constructor
  intro pins s σ H Q I h
  refine Subscript_ (thn (he.run pins s σ H _ I h) fun v sa hv => ?_)
  obtain ⟨x, Ha, Ia, ra, a, xs, rfl, hx, q⟩ := hv
  cases ra
  have step : PO X (some (.UnaryOp .USub (.Constant (.int 1) k p1) p2)) (tPart (tUn (rU fun i => .int (-i)) (tC (.int 1)))) := po_some (pe_un un_neg pe_int)
  refine wpAny_Slice (thn (po_none.run pins sa σ Ha (fun o H2 => o = none ∧ H2 = Ha) Ia ⟨rfl, rfl⟩) fun vl sb hb => ?_)
  obtain ⟨l, Hb, Ib, pl, rfl, rfl⟩ := hb
  refine thn (po_none.run pins sb σ Hb (fun o H3 => o = none ∧ H3 = Hb) Ib ⟨rfl, rfl⟩) fun vu sc hc => ?_
  obtain ⟨u, Hc, Ic, pu, rfl, rfl⟩ := hc
  refine thn (step.run pins sc σ Hc (fun o H4 => o = some (-1) ∧ H4 = Hc) Ic ⟨1, rfl, -1, rfl, rfl, rfl⟩) fun vk sd hd => ?_
  obtain ⟨o, Hd, Id, pk, rfl, rfl⟩ := hd
  have Ie : Inv X pins σ Hd { sd with heap := sd.heap.push { cls := .type "slice", data := .fields #[vl, vu, vk] } } := Id.kept (t' := sd.toks) fun b ob q => Heap.get?_push_of_some _ q
  obtain ⟨its, r, ht, hz⟩ := Ie.tuple hx
  have hlen := r.length
  show wpAny (model X.prog X.w) X.A (subscriptTail e (.Slice none none (some (.UnaryOp .USub (.Constant (.int 1) k p1) p2)) p3) (.ref a) (.ref sd.heap.objs.size)) (EP X pins σ Q) X.xe { sd with heap := sd.heap.push { cls := .type "slice", data := .fields #[vl, vu, vk] } }
  refine tail_any (ops := [.ref a, .ref sd.heap.objs.size]) ht.typeIs PyProof.Rows.slot_tuple_getitem.lookup ?_ (by with_unfolding_all rfl)
  refine getItem_tup_rev ht (Heap.IsSliceOf.new _ vl vu vk) pl pu pk ?_ (by rw [List.size_toArray]; omega)
  refine ⟨.ref _, _, Ie.laid (t' := sd.toks) (o := .tup xs.reverse) (fun b ob q => Heap.get?_push_of_some _ q) (Nat.le_refl _) ?_, rfl, q _ (Ie.hok.fresh (Nat.le_refl _))⟩
  exact ⟨by rw [List.length_reverse]; exact hz, _, by simpa using r.reverse, IsTup.new _ _⟩
theorem RelUs.reverse {K : PySem.W.Frag} {ρ : List Addr} {H : Hp} : ∀ {us : List U} {vs : List V}, RelUs K ρ H us vs → RelUs K ρ H us.reverse vs.reverse
  | [], vs, h => by simp only [RelUs] at h; subst h; simp [RelUs]
  | u :: us, vs, h => by
    simp only [RelUs] at h
    obtain ⟨v, vs', rfl, h1, h2⟩ := h
    rw [List.reverse_cons, List.reverse_cons]
    exact RelUs.append (RelUs.reverse h2) (RelUs.cons h1 RelUs.nil)
/-- x[::-1] of a tuple -/
theorem s_revT {a : Expr} {ta : E} {k : Nat} {p1 p2 p3 : Pos} (ha : PE X a (tE X Φ W ta)) : PE X (.Subscript a (.Slice none none (some (.UnaryOp .USub (.Constant (.int 1) k p1) p2)) p3) pos) (tE X Φ W (.rev ta)) :=
  PEw (pe_revT ha) fun σ H Q ⟨ρ, S, env, w, eo, h⟩ => by
    rw [ev] at h
    refine ⟨ρ, S, env, w, eo, (Post.bind h).imp fun x H1 ⟨ρ1, S1, u, e1, w1, r1, h1⟩ => ?_⟩
    unfold revU at h1
    split at h1
    · obtain ⟨q, vs, rfl, hq, hr⟩ := r1.tup
      refine ⟨q, vs, rfl, hq, fun p hp => h1.tup w1 hr.reverse hp⟩
    · exact h1.elim
end
end Oz

end

section
set_option maxHeartbeats 4000000
namespace Oz
open PySem PySem.Spec PyProof.Rows L2
theorem tups_rel {K : PySem.W.Frag} {ρ : List Addr} {H : Hp} : ∀ {us : List U} {cols : List (List U)} {vs : List V}, tupsU us = some cols → RelUs K ρ H us vs → ∃ ls : List Addr, vs = ls.map V.ref ∧ ls.length = cols.length ∧ ∀ (j : Nat) (l : Addr) (c : List U), ls[j]? = some l → cols[j]? = some c → ∃ ws, SqT K H l ws ∧ RelUs K ρ H c ws
  | [], cols, vs, e, r => by
    simp only [RelUs] at r
    simp only [tupsU, Option.some.injEq] at e
    subst e r
    exact ⟨[], rfl, rfl, fun j l c h => by simp at h⟩
  | u :: us, cols, vs, e, r => by
    simp only [RelUs] at r
    obtain ⟨v, vs', rfl, r1, r2⟩ := r
    cases u <;> simp only [tupsU, reduceCtorEq] at e
    rename_i xs
    rw [Option.map_eq_some_iff] at e
    obtain ⟨cs, e1, rfl⟩ := e
    obtain ⟨ls, rfl, hl, hr⟩ := tups_rel e1 r2
    obtain ⟨a, ws, rfl, hq, hw⟩ := r1.tup
    refine ⟨a :: ls, rfl, by simp [hl], fun j l c h1 h2 => ?_⟩
    cases j with
    | zero =>
      cases h1
      cases h2
      exact ⟨ws, hq, hw⟩
    | succ j => exact hr j l c (by simpa using h1) (by simpa using h2)
theorem relUs_at {K : PySem.W.Frag} {ρ : List Addr} {H : Hp} : ∀ {us : List U} {vs : List V}, vs.length = us.length → (∀ (j : Nat) (u : U) (v : V), us[j]? = some u → vs[j]? = some v → RelU K ρ H u v) → RelUs K ρ H us vs
  | [], vs, hl, _ => by
    cases vs with
    | nil => exact RelUs.nil
    | cons _ _ => simp at hl
  | u :: us, vs, hl, h => by
    cases vs with
    | nil => simp at hl
    | cons v vs => exact RelUs.cons (h 0 u v rfl rfl) (relUs_at (by simpa using hl) fun j u' v' e1 e2 => h (j + 1) u' v' (by simpa using e1) (by simpa using e2))
theorem goes_zipN {K : PySem.W.Frag} {mg : Str → Option Value} {us all : List U} {vs : List V} {ρ0 : List Addr} {H0 : Hp} (hz : zipNU us = some all) (r : RelUs K ρ0 H0 us vs) :
    ∃ ls : List Addr, vs = ls.map V.ref ∧ (ls.length = 1 ∨ ls.length = 3) ∧ (∀ l ∈ ls, ∃ xs, SqT K H0 l xs) ∧ Goes' K mg (ItzN K ls) all (fun _ => true) ρ0 H0 := by
  unfold zipNU at hz
  split at hz
  · rename_i xs cols ht
    split at hz
    · rename_i hc
      obtain ⟨hcl, hca⟩ := hc
      cases hz
      obtain ⟨ls, rfl, hl, hr⟩ := tups_rel ht r
      have hcols : ∀ c ∈ xs :: cols, c.length = xs.length := fun c hcm => by
        rcases List.mem_cons.mp hcm with rfl | hcm
        · rfl
        · have := List.all_eq_true.mp hca c hcm
          simpa using this
      have look : ∀ (j : Nat) (l : Addr), ls[j]? = some l → ∃ c ws, (xs :: cols)[j]? = some c ∧ SqT K H0 l ws ∧ RelUs K ρ0 H0 c ws ∧ c.length = xs.length := fun j l e => by
        have hj : j < (xs :: cols).length := by rw [← hl]; exact (List.getElem?_eq_some_iff.mp e).1
        obtain ⟨ws, h1, h2⟩ := hr j l (xs :: cols)[j] e (List.getElem?_eq_getElem hj)
        exact ⟨_, ws, List.getElem?_eq_getElem hj, h1, h2, hcols _ (List.getElem_mem hj)⟩
      refine ⟨ls, rfl, by rw [hl, List.length_cons]; omega, fun l hlm => ?_, ?_⟩
      · obtain ⟨j, hj, e⟩ := List.getElem_of_mem hlm
        obtain ⟨c, ws, _, h1, _⟩ := look j l (by rw [List.getElem?_eq_getElem hj, e])
        exact ⟨ws, h1⟩
      · intro ρ S H i e w _
        rw [List.length_map, List.length_range]
        constructor
        · intro hi
          -- the row
          have rowE : ∃ row : List V, row.length = ls.length ∧ ∀ (j : Nat) (l : Addr) (x : V), ls[j]? = some l → row[j]? = some x → ∃ ws, SqT K H0 l ws ∧ ws[i]? = some x := by
            have gen : ∀ ms : List Addr, (∀ l ∈ ms, ∃ ws x, SqT K H0 l ws ∧ ws[i]? = some x) → ∃ row : List V, row.length = ms.length ∧ ∀ (j : Nat) (l : Addr) (x : V), ms[j]? = some l → row[j]? = some x → ∃ ws, SqT K H0 l ws ∧ ws[i]? = some x := by
              intro ms
              induction ms with
              | nil => exact fun _ => ⟨[], rfl, fun j l x h => by simp at h⟩
              | cons m ms ih =>
                intro h
                obtain ⟨row, h1, h2⟩ := ih fun l hl => h l (List.mem_cons_of_mem _ hl)
                obtain ⟨ws, x, h3, h4⟩ := h m List.mem_cons_self
                refine ⟨x :: row, by simp [h1], fun j l y e1 e2 => ?_⟩
                cases j with
                | zero =>
                  cases e1
                  cases e2
                  exact ⟨ws, h3, h4⟩
                | succ j => exact h2 j l y (by simpa using e1) (by simpa using e2)
            refine gen ls fun l hlm => ?_
            obtain ⟨j, hj, e⟩ := List.getElem_of_mem hlm
            obtain ⟨c, ws, _, h1, h2, h3⟩ := look j l (by rw [List.getElem?_eq_getElem hj, e])
            have hw : i < ws.length := by rw [h2.length, h3]; exact hi
            exact ⟨ws, ws[i], h1, List.getElem?_eq_getElem hw⟩
          obtain ⟨row, hrl, hrow⟩ := rowE
          refine ⟨⟨row, hrl, fun j l x e1 e2 => ?_⟩, fun x H' y => ?_⟩
          · obtain ⟨ws, h1, h2⟩ := hrow j l x e1 e2
            exact ⟨ws, e.sqt K h1, h2⟩
          · obtain ⟨T, row', rfl, hT, rfl, hrl', hy⟩ := y
            refine ⟨upd_grow hT, .tup ((xs :: cols).map fun c => c.getD i .non), ?_, ?_⟩
            · rw [List.getElem?_map, List.getElem?_range hi]
              rfl
            · have e2 : Ext ρ0 H0 ρ (upd H T (.tup row')) := e.trans (Ext.grow (upd_grow hT))
              simp only [RelU]
              refine ⟨T, row', rfl, .of upd_same, relUs_at (by rw [hrl', hl, List.length_map]) fun j u v h1 h2 => ?_⟩
              have hj : j < ls.length := by rw [← hrl']; exact (List.getElem?_eq_some_iff.mp h2).1
              obtain ⟨c, ws, hc1, hc2, hc3, hc4⟩ := look j ls[j] (List.getElem?_eq_getElem hj)
              have hv := hy j _ v (List.getElem?_eq_getElem hj) h2 ws (e.sqt K hc2)
              rw [List.getElem?_map, hc1] at h1
              simp only [Option.map_some, Option.some.injEq] at h1
              have hic : i < c.length := by rw [hc4]; exact hi
              have hu : c[i]? = some u := by
                rw [← h1, List.getD_eq_getElem?_getD, List.getElem?_eq_getElem hic]
                rfl
              obtain ⟨v', hv', rr⟩ := (hc3.mono e2).get hu
              rw [hv] at hv'
              cases hv'
              exact rr
        · intro hi l hl0
          obtain ⟨c, ws, _, h1, h2, h3⟩ := look 0 l hl0
          exact ⟨ws, e.sqt K h1, by rw [h2.length, h3]; exact hi⟩
    · cases hz
  · cases hz
section
variable {X : Cx} {p : Pg} {nm : Names} {ad : Str → Addr} {d : Nat} {W : XK} {Φ : Cal} {te : E}
theorem lczn_read {i : Nat} {tes : Es} {σ : L2.St} {H : Hp} {Q : VK} (h : tE X Φ W (.lczn i te tes) σ H Q) : tLc (iZipN X.K (tEs X Φ W tes)) (gOf X.K false [i]) (tTs X Φ W0 .tt) (tE X Φ W0 te) [i] σ H Q := by
  obtain ⟨ρ, S, env, w, eo, h⟩ := h
  rw [ev] at h
  refine ⟨ρ, S, env, w, eo, (Post.bind h).imp fun x H1 ⟨ρ1, S1, u, e1, w1, r1, h1⟩ => ?_⟩
  split at h1
  · rename_i all hz
    obtain ⟨ls, rfl, hn, hq, hg⟩ := goes_zipN (mg := X.mg) hz r1
    refine ⟨ls, rfl, hn, hq, fun D hD => lc_turnsJ (W := W) w1 (eo.mono e1) hg hD ?_⟩
    have e : (fun env S => (evt Φ .tt env S).noex) = fun (_ : Env) (S : Sto) => R.ok true S := by
      funext env S
      rw [evt]
      rfl
    rw [e]
    exact h1
  · exact h1.elim
theorem s_lczn (O : Ok X p nm ad d W) (i : Nat) {y : Str} {elt e1 e2 : Expr} {scope : Scope} {pos tpos pz pc ps : Pos} {tes : Es} {x : Str} (hN : X.N.Nodup) (ha : PA X [e1, .Starred e2 ps] (tEs X Φ W tes)) (ok : BlkOk X.N X.env.scope scope [(y, i)])
    (hg : ∀ (s : Shared) (H : Hp) (C : Addr) (cl : List (Str × Addr)) (fp : List Addr), PG (X.blk s H scope (compEnvC scope cl C X.env) fp) (.Name x tpos) (gOf X.K false [i]))
    (he : ∀ (s : Shared) (H : Hp) (C : Addr) (cl : List (Str × Addr)) (fp : List Addr), PE (X.blk s H scope (compEnvC scope cl C X.env) fp) elt (tE X Φ W0 te)) (hz : Gl X "zip" := by rfl) (hm : ("zip" : Str) ∈ nm.bins := by decide +kernel)
    (hs1 : starEach [e1, .Starred e2 ps] X.env = (false, eval e1 X.env) :: starEach [.Starred e2 ps] X.env := by rfl) (hst : (backTo pc (starEach [.Starred e2 ps] X.env)).any (·.1) = true := by rfl)
    (hs : ∀ x, foldedSetIterable (.Call (.Name "zip" pz) [e1, .Starred e2 ps] [] pc) X.env x = pure x := by intro _; rfl) :
    PE X (.ListComp elt [⟨.Name x tpos, .Call (.Name "zip" pz) [e1, .Starred e2 ps] [] pc, [], 0⟩] scope pos) (tE X Φ W (.lczn i te tes)) :=
  PEw (pe_lc O.calm hN (pi_zipN hz (O.sta.bin _ hm) ha hs1 hst) ok hg (fun s H C cl fp => t_tt) he hs) fun σ H Q h => lczn_read h
end
end Oz

end

section
set_option maxHeartbeats 4000000
/-! Oz9: raise, a def's body, all defs together. -/
namespace Oz
open PySem PySem.Spec PyProof.Rows L2
section
variable {X : Cx} {p : Pg} {nm : Names} {ad : Str → Addr} {d : Nat} {W : XK} {Φ : Cal} {a : Expr} {ta : E} {pos : Pos}
theorem x_raise (O : Ok X p nm ad d W) (f : Str) {C : Str} {px pc : Pos} (ha : PE X a (tE X (p.cal d) W ta)) (hC : (C, f) ∈ nm.xcs := by decide +kernel) (hx : p.xf C = some f := by decide +kernel) (hg : Gl X C := by rfl) (hdb : (C == ("__debug__" : Str)) = false := by decide)
    (he : starEach [a] X.env = (false, eval a X.env) :: starEach [] X.env := by rfl) (hpl : (backTo pc (starEach [] X.env)).any (·.1) = false := by rfl) : PS X (.Raise (some (.Call (.Name C px) [a] [] pc)) none pos) (tS X (p.cal d) W (.raise C ta)) := by
  have F := O.xc C f hC
  obtain ⟨fd, ps, F1, hb⟩ := F.fn
  have M := pmk_oex (X := X) (p := px) (dvs := []) (ds := []) F.T F.iC F.tI F1 O.room.room hb .nil passL hg F.gC (pa_cons ha pa_nil he) hdb he hpl
  refine PSw (ps_raise (W := fun cls d _ H => W cls d H) O.calm O.take M) fun D σ H ⟨ρ, S, env, w, eo, h⟩ => ?_
  rw [ex] at h
  refine ⟨ρ, S, env, w, eo, (PostS.on h).imp fun y H1 ⟨ρ1, S1, u, e1, w1, r1, h1⟩ => ⟨by show 1 ≤ 1000; decide, fun b hb => ⟨b, y, rfl, upd_same, fun dx hdx hne => ⟨rfl, dx, [(f, y)], upd_same, ?_, ?_, ?_⟩⟩⟩⟩
  · rw [upd_ne hne, upd_same]
  · rw [upd_ne hne] at hdx
    exact hdx
  · rw [upd_ne hne] at hdx
    rw [cal_xf, hx] at h1
    have e : upd (del (upd (upd (upd H1 b (exo b (ad C) none)) dx (exd dx [(f, y)])) b (exo b (ad C) (some dx))) b) dx (.xd [(f, y)]) = upd H1 dx (.xd [(f, y)]) := by
      funext c
      by_cases hc : c = dx
      · subst hc
        rw [upd_same, upd_same]
      · rw [upd_ne hc, upd_ne hc]
        by_cases hcb : c = b
        · subst hcb
          rw [del_same, hb]
        · rw [del_ne hcb, upd_ne hcb, upd_ne hc, upd_ne hcb]
    rw [e]
    have x : Ext ρ1 H1 ρ1 (upd H1 dx (.xd [(f, y)])) := Ext.grow (upd_grow hdx)
    exact h1 ρ1 _ (ad C) dx [(f, y)] x (w1.grow (upd_grow hdx)) F.gC upd_same (.cons ⟨rfl, r1.mono x⟩ .nil)
end
/-! ### a def -/
section
variable {P : Program} {w : World} {K : PySem.W.Frag} {mg : Str → Option Value} {base : Heap} {p : Pg} {nm : Names} {ad : Str → Addr} {d : Nat}
theorem env_start {K : PySem.W.Frag} {ρ : List Addr} {H : Hp} {us : List U} {vs : List V} {N : List Str} (r : RelUs K ρ H us vs) : EnvOk K ρ H (startU N.length us) (L2.start N vs) := by
  unfold startU L2.start
  rw [r.length]
  refine ⟨by simp [r.length], fun i u h => ?_⟩
  by_cases hi : i < us.length
  · rw [List.getElem?_append_left (by simpa using hi), List.getElem?_map] at h
    rw [List.getElem?_append_left (by rw [List.length_map, r.length]; exact hi), List.getElem?_map]
    cases q : us[i]? with
    | none => rw [q] at h; cases h
    | some z =>
      rw [q] at h
      cases h
      obtain ⟨v, e, rv⟩ := r.get q
      exact ⟨v, by rw [e]; rfl, rv⟩
  · rw [List.getElem?_append_right (by simpa using hi), List.getElem?_replicate] at h
    split at h <;> cases h
theorem fin_read {K : PySem.W.Frag} {mg : Str → Option Value} {W : XK} {ρ : List Addr} {H : Hp} {o : O} {Q : VK} (h : Post mg K (RelU K) W ρ H o.fin Q) : PostS mg K W ρ H o { nx := fun _ H' => Q .non H', rt := Q } := by
  cases o with
  | nx a S => exact fun ρ' H' b e' w r => h ρ' H' .non e' w relNon
  | ret a S => exact h
  | bk a S => exact h.elim
  | ct a S => exact h.elim
  | exc c fs S => exact h
  | bad => exact h.elim
/-- all that is asked of the program's defs at a depth -/
structure AllFn (P : Program) (w : World) (K : PySem.W.Frag) (mg : Str → Option Value) (base : Heap) (p : Pg) (nm : Names) (ad : Str → Addr) (d : Nat) : Prop where
  sta : Sta p nm K mg ad
  gdi : GdOk p K mg w
  xc : ∀ C f, (C, f) ∈ nm.xcs → XcOk P w K mg base ad C f
  call : ∀ f, FnQ P w K mg base (L2.CX P w) (d + 2) (ad f) (spC K mg ((p.cal d).call f))
  init : ∀ f, FnQ P w K mg base (L2.CX P w) (d + 1) (ad f) (spC K mg ((p.cal d).init f))
  kcall : ∀ f n ks, (f, n, ks) ∈ nm.kws → FnK P w K mg base (L2.CX P w) (d + 2) (ad f) n ks (spC K mg ((p.cal d).kcal f))
theorem AllFn.ok {N : List Str} {qual : Str} {sc : Scope} {f : Addr} {cdv : Value} {A : Around} {outer : List PySem.Env} {s : Shared} {H : Hp} {E : XK} (F : AllFn P w K mg base p nm ad d) (hr : Rm (d + 2) (A.deeper (envOfC qual sc s.heap.objs.size f cdv))) :
    Ok (cxOf (L2.CX P w) P w K mg base N qual sc f cdv A outer s H E) p nm ad d E := by
  have tk : Takes (cxOf (L2.CX P w) P w K mg base N qual sc f cdv A outer s H E) (fun cls d _ H => E cls d H) := takes_of rfl rfl rfl rfl
  exact ⟨F.sta, F.gdi, F.xc, tk, passes_of rfl, rfl, hr, passes_call tk fun _ _ _ _ z => z, F.call, F.init, F.kcall⟩
/-- a plain def -/
theorem fn_plain {x qual nmf : Str} {st : Stmt} {f : Addr} {fd : FuncData} {N ps : List Str} {body : Sts} (F : L2.Fun K x qual st f fd) (hb : Binds K fd ps []) (S : FnScope N ps (defScope st)) (A : AllFn P w K mg base p nm ad d)
    (hp : p.defs nmf = some (.inl ⟨ps.length, N.length, false, body⟩))
    (D : ∀ (X : Cx) (cdv : Value) (A : Around) (outer : List PySem.Env) (s : Shared) (H : Hp) (E : XK), X = cxOf (L2.CX P w) P w K mg base N qual (defScope st) f cdv A outer s H E → Ok X p nm ad d E → PSs X (defBody st) (tB X (p.cal d) E body)) :
    FnQ P w K mg base (L2.CX P w) (d + 3) f (spC K mg ((p.cal (d + 1)).call nmf)) := by
  have hcall : ∀ us S, (p.cal (d + 1)).call nmf us S = (⟨ps.length, N.length, false, body⟩ : Df).run (p.cal d) us S := fun us S => by
    show (match p.defs nmf with | some (.inl df) => df.run (p.cal d) us S | some (.inr g) => g (p.cal d) us S | none => R.bad) = _
    rw [hp]
  obtain ⟨oc, od, kV, doc, pm, an, cdv, ct, osl, rfl, lk, hcd⟩ := F.ex
  intro A0 outer s H us vs Q E hr e0 r h
  obtain ⟨ρ, S0, ws, w0, rw_, h⟩ := h
  rw [hcall] at h
  unfold Df.run bindU at h
  rw [if_neg (show ¬ (false = true) from Bool.false_ne_true)] at h
  by_cases hl : ws.length = ps.length
  · rw [if_pos hl] at h
    have hlv : vs.length = ps.length := by rw [rw_.length]; exact hl
    have hlu : (us ++ []).length = ps.length := by rw [List.append_nil, ← r.length]; exact hlv
    have hb' := hb s us (e0.mod.kin.keeps fun b o e => (e0.bs b o e).1) hlu
    rw [List.append_nil] at hb'
    refine run_body (k := d + 2) lk hcd S hr e0 (G := fun xs H2 => xs = vs ∧ H2 = H) (fun A' Ex Q' z => hb' _ _ _ _ (z s H vs us e0 Un.refl rfl (fun _ _ q => q) r hlv ⟨rfl, rfl⟩)) fun s2 H2 xs ⟨hx, hH⟩ hr2 => ?_
    subst hx hH
    exact ⟨_, D _ cdv A0 outer s2 H2 E rfl (A.ok hr2), ρ, S0, startU N.length ws, w0, env_start rw_, fin_read h⟩
  · rw [if_neg hl] at h
    exact h.elim
/-- a def with keyword-only parameters -/
theorem fn_kw {x qual nmf : Str} {st : Stmt} {f : Addr} {fd : FuncData} {N ps : List Str} {body : Sts} {n : Nat} {ks : List Str} (F : L2.Fun K x qual st f fd) (S : FnScope N ps (defScope st)) (A : AllFn P w K mg base p nm ad d) (hn : n + ks.length = ps.length)
    (hb : ∀ (kV doc pm : Value) (an : Option Addr) (cdv ct : Value) (us ws : List Value), us.length = n → ws.length = ks.length → bindArgs (PySem.W.fnOf x qual (defArgs st) (defBody st) (defScope st) .none kV doc pm an cdv ct) ⟨us, ks.zip ws⟩ = pure (ps.zip (us ++ ws)))
    (hp : p.kdefs nmf = some ⟨ps.length, N.length, false, body⟩)
    (D : ∀ (X : Cx) (cdv : Value) (A : Around) (outer : List PySem.Env) (s : Shared) (H : Hp) (E : XK), X = cxOf (L2.CX P w) P w K mg base N qual (defScope st) f cdv A outer s H E → Ok X p nm ad d E → PSs X (defBody st) (tB X (p.cal d) E body)) :
    FnK P w K mg base (L2.CX P w) (d + 3) f n ks (spC K mg ((p.cal (d + 1)).kcal nmf)) := by
  have hcall : ∀ us S, (p.cal (d + 1)).kcal nmf us S = (⟨ps.length, N.length, false, body⟩ : Df).run (p.cal d) us S := fun us S => by
    show (match p.kdefs nmf with | some df => df.run (p.cal d) us S | none => R.bad) = _
    rw [hp]
  obtain ⟨oc, od, kV, doc, pm, an, cdv, ct, osl, rfl, lk, hcd⟩ := F.ex
  intro A0 outer s H us ws vs zs Q E hr e0 r rz l1 l2 h
  obtain ⟨ρ, S0, as, w0, rw_, h⟩ := h
  rw [hcall] at h
  unfold Df.run bindU at h
  rw [if_neg (show ¬ (false = true) from Bool.false_ne_true)] at h
  by_cases hl : as.length = ps.length
  · rw [if_pos hl] at h
    have hlv : (vs ++ zs).length = ps.length := by rw [rw_.length]; exact hl
    have hb' : BindsTo s (PySem.W.fnOf x qual (defArgs st) (defBody st) (defScope st) .none kV doc pm an cdv ct) ⟨us, ks.zip ws⟩ (ps.zip (us ++ ws)) := .of_eq (hb kV doc pm an cdv ct us ws l1 l2)
    refine run_body (k := d + 2) lk hcd S hr e0 (G := fun xs H2 => xs = vs ++ zs ∧ H2 = H) (fun A' Ex Q' z => hb' _ _ _ _ (z s H (vs ++ zs) (us ++ ws) e0 Un.refl rfl (fun _ _ q => q) (r.append rz) hlv ⟨rfl, rfl⟩)) fun s2 H2 xs ⟨hx, hH⟩ hr2 => ?_
    subst hx hH
    exact ⟨_, D _ cdv A0 outer s2 H2 E rfl (A.ok hr2), ρ, S0, startU N.length as, w0, env_start rw_, fin_read h⟩
  · rw [if_neg hl] at h
    exact h.elim
/-- a def with a star parameter -/
theorem fn_starred {x qual nmf pv : Str} {st : Stmt} {f : Addr} {fd : FuncData} {N ps : List Str} {body : Sts} (F : L2.Fun K x qual st f fd) (S : FnScope N (ps ++ [pv]) (defScope st)) (A : AllFn P w K mg base p nm ad d)
    (hb : ∀ (kV doc pm : Value) (an : Option Addr) (cdv ct : Value) (us rest : List Value), us.length = ps.length → bindArgs (PySem.W.fnOf x qual (defArgs st) (defBody st) (defScope st) .none kV doc pm an cdv ct) ⟨us ++ rest, []⟩ = (newTuple rest >>= fun t => pure (ps.zip us ++ [(pv, t)])))
    (hp : p.defs nmf = some (.inl ⟨ps.length, N.length, true, body⟩))
    (D : ∀ (X : Cx) (cdv : Value) (A : Around) (outer : List PySem.Env) (s : Shared) (H : Hp) (E : XK), X = cxOf (L2.CX P w) P w K mg base N qual (defScope st) f cdv A outer s H E → Ok X p nm ad d E → PSs X (defBody st) (tB X (p.cal d) E body)) :
    FnQ P w K mg base (L2.CX P w) (d + 3) f (spC K mg ((p.cal (d + 1)).call nmf)) := by
  have hcall : ∀ us S, (p.cal (d + 1)).call nmf us S = (⟨ps.length, N.length, true, body⟩ : Df).run (p.cal d) us S := fun us S => by
    show (match p.defs nmf with | some (.inl df) => df.run (p.cal d) us S | some (.inr g) => g (p.cal d) us S | none => R.bad) = _
    rw [hp]
  obtain ⟨oc, od, kV, doc, pm, an, cdv, ct, osl, rfl, lk, hcd⟩ := F.ex
  intro A0 outer s H us vs Q E hr e0 r h
  obtain ⟨ρ, S0, ws, w0, rw_, h⟩ := h
  rw [hcall] at h
  unfold Df.run bindU at h
  rw [if_pos rfl] at h
  by_cases hl : ps.length ≤ ws.length ∧ ws.length ≤ 1000
  · rw [if_pos hl] at h
    replace h : Post mg K (RelU K) E ρ H (exs (p.cal d) body (startU N.length (ws.take ps.length ++ [.tup (ws.drop ps.length)])) S0).fin Q := h
    have hvl := rw_.length
    have hul : us.length = ws.length := by rw [← r.length, hvl]
    have eu : us = us.take ps.length ++ us.drop ps.length := (List.take_append_drop _ _).symm
    have h1 : (us.take ps.length).length = ps.length := by rw [List.length_take, hul]; omega
    have hz : (vs.drop ps.length).length ≤ sizeLine := by
      rw [List.length_drop, hvl]
      exact Nat.le_trans (Nat.sub_le _ _) (Nat.le_of_lt (small1000 hl.2))
    have hz2 : (us.drop ps.length).length ≤ sizeLine := by
      rw [List.length_drop, hul]
      exact Nat.le_trans (Nat.sub_le _ _) (Nat.le_of_lt (small1000 hl.2))
    have hn : H s.heap.objs.size = none := e0.hok.fresh (Nat.le_refl _)
    refine run_body (k := d + 2) (ps := ps ++ [pv]) lk hcd S hr e0 (G := fun xs H2 => ∃ q, H q = none ∧ xs = vs.take ps.length ++ [V.ref q] ∧ H2 = upd H q (.tup (vs.drop ps.length))) (fun A' Ex Q' z => ?_) fun s2 H2 xs ⟨q, hq, hx, hH⟩ hr2 => ?_
    · rw [eu, hb kV doc pm an cdv ct _ _ h1]
      refine wpAny_bind (wpAny_newTuple (wpAny_pure ?_) hz2)
      have new : ObjOk P w (upd H s.heap.objs.size (.tup (vs.drop ps.length))) (s.heap.push ({ cls := .type "tuple", data := .seq (us.drop ps.length).toArray } : Obj)) s.heap.objs.size (.tup (vs.drop ps.length)) :=
        ⟨hz, us.drop ps.length, r.drop _, ⟨_, Heap.get?_push_size _ rfl, rfl, _, rfl⟩⟩
      have un := StX.un_laid (fs := frs outer) (s := s) (o := ({ cls := .type "tuple", data := .seq (us.drop ps.length).toArray } : Obj)) (u := .tup (vs.drop ps.length)) hn
      have y := z _ _ (vs.take ps.length ++ [V.ref s.heap.objs.size]) (us.take ps.length ++ [Value.ref s.heap.objs.size]) (StX.env0_laid e0 new) un rfl
        (fun e s' => StX.cxUp outer s H _ _ E e s' un (fun b o q => Heap.get?_push_of_some _ q) rfl) ((r.take _).append (.cons rfl .nil)) (by rw [List.length_append, List.length_append, List.length_take, hvl]; simp; omega) ⟨_, hn, rfl, rfl⟩
      rw [List.zip_append h1.symm] at y
      exact y
    · subst hx hH
      have x : Ext ρ H ρ (upd H q (.tup (vs.drop ps.length))) := Ext.grow (upd_grow hq)
      refine ⟨_, D _ cdv A0 outer s2 _ E rfl (A.ok hr2), ρ, S0, startU N.length (ws.take ps.length ++ [U.tup (ws.drop ps.length)]), w0.grow (upd_grow hq), env_start (RelUs.append ((rw_.take _).mono x) (RelUs.cons (u := U.tup (ws.drop ps.length)) ?_ RelUs.nil)), fin_read (Post.ext x h)⟩
      simp only [RelU]
      exact ⟨q, _, rfl, .of upd_same, (rw_.drop _).mono x⟩
  · rw [if_neg hl] at h
    exact h.elim
/-! ### all defs -/
def AllT {α : Type} (Q : Str → α → Prop) : List (Str × α) → Prop
  | [] => True
  | x :: xs => Q x.1 x.2 ∧ AllT Q xs
theorem AllT.look {α : Type} {Q : Str → α → Prop} {f : Str} {a : α} : ∀ {l : List (Str × α)}, AllT Q l → l.lookup f = some a → Q f a
  | [], _, h => by simp at h
  | (g, b) :: l, ⟨h1, h2⟩, h => by
    simp only [List.lookup_cons] at h
    split at h
    · rename_i hg
      cases h
      have e : f = g := by simpa using hg
      subst e
      exact h1
    · exact AllT.look h2 h
theorem bad_fn {k : Nat} {f : Addr} {CX : CXT} {g : List U → Sto → R U} (h : ∀ us S, g us S = .bad) : FnQ P w K mg base CX k f (spC K mg g) := fun A outer s H us vs Q E hr e0 r hs => by
  obtain ⟨ρ, S0, us, w0, r, h'⟩ := hs
  rw [h] at h'
  exact h'.elim
theorem bad_fnk {k n : Nat} {ks : List Str} {f : Addr} {CX : CXT} {g : List U → Sto → R U} (h : ∀ us S, g us S = .bad) : FnK P w K mg base CX k f n ks (spC K mg g) := fun A outer s H us ws vs zs Q E hr e0 r rz l1 l2 hs => by
  obtain ⟨ρ, S0, us, w0, r, h'⟩ := hs
  rw [h] at h'
  exact h'.elim
theorem all_fn {tbl : List (Str × (Df ⊕ (Cal → List U → Sto → R U)))} (hp : p.defs = fun f => tbl.lookup f) (sta : Sta p nm K mg ad) (gdi : GdOk p K mg w) (xc : ∀ C f, (C, f) ∈ nm.xcs → XcOk P w K mg base ad C f)
    (step : ∀ d, AllFn P w K mg base p nm ad d → AllT (fun f _ => FnQ P w K mg base (L2.CX P w) (d + 3) (ad f) (spC K mg ((p.cal (d + 1)).call f))) tbl)
    (kstep : ∀ d, AllFn P w K mg base p nm ad d → ∀ f n ks, (f, n, ks) ∈ nm.kws → FnK P w K mg base (L2.CX P w) (d + 3) (ad f) n ks (spC K mg ((p.cal (d + 1)).kcal f))) : ∀ d, AllFn P w K mg base p nm ad d
  | 0 => ⟨sta, gdi, xc, fun f => bad_fn fun _ _ => rfl, fun f => bad_fn fun _ _ => rfl, fun f n ks _ => bad_fnk fun _ _ => rfl⟩
  | d + 1 => by
    have ih := all_fn hp sta gdi xc step kstep d
    refine ⟨sta, gdi, xc, fun f => ?_, fun f => ih.call f, fun f n ks h => kstep d ih f n ks h⟩
    cases q : tbl.lookup f with
    | some a => exact (step d ih).look q
    | none =>
      refine bad_fn fun us S => ?_
      show (match p.defs f with | some (.inl df) => df.run (p.cal d) us S | some (.inr g) => g (p.cal d) us S | none => R.bad) = _
      rw [hp]
      simp only [q]
/-- the law is called -/
def spTop (K : PySem.W.Frag) (mg : Str → Option Value) (g : List U → Sto → R U) : Sp := fun vs H Q E => vs.length = 1 ∧ spC K mg g vs H Q E
end
end Oz

end

section
set_option maxHeartbeats 4000000
/-! Oz10: what the top leaves, as data. -/
namespace Oz
open PySem PySem.Spec PyProof.Rows L2 He
structure Top where
  fns : List Str
  clss : List Str
  mets : List (Str × Str)
  inis : List Str
  flds : List (Str × Str)
  xcs : List (Str × Str)
  bins : List Str
  glos : List (Str × U)
  gdis : List (Str × List (Str × U))
  defs : List (Str × DefD)
  kws : List (Str × Nat × List Str)
def dotN (C m : Str) : Str := C ++ "." ++ m
/-- where a def stands -/
def adOf (t : Top) (K : PySem.W.Frag) (f : Str) : Addr := match t.defs.lookup f with
  | some d => fAd K d.at_
  | none => ga K f
mutual
def relK (K : PySem.W.Frag) : U → Value → Bool
  | .non, .none => true
  | .bl b, .bool c => b == c
  | .int i, .int j _ => decide (i = j)
  | .str x, .str y _ => decide (x = y)
  | .tup us, .ref a => (match K.lookup a with
    | some ⟨.type c, _, .seq its _, _⟩ => decide (c = "tuple") && (decide (its.size ≤ sizeLine) && relKs K us its.toList)
    | _ => false)
  | _, _ => false
def relKs (K : PySem.W.Frag) : List U → List Value → Bool
  | [], [] => true
  | u :: us, v :: vs => relK K u v && relKs K us vs
  | _, _ => false
end
mutual
theorem relK_ok {K : PySem.W.Frag} : ∀ {u : U} {w : Value}, relK K u w = true → ∃ v, RelV v w ∧ ∀ ρ H, RelU K ρ H u v
  | .non, w, h => by
    cases w with
    | none => exact ⟨.non, rfl, fun _ _ => relNon⟩
    | _ => simp [relK] at h
  | .bl b, w, h => by
    cases w with
    | bool c =>
      simp [relK] at h
      subst h
      exact ⟨.bl b, rfl, fun _ _ => relBl⟩
    | _ => simp [relK] at h
  | .int i, w, h => by
    cases w with
    | int j t =>
      simp [relK] at h
      subst h
      exact ⟨.int i, ⟨t, rfl⟩, fun _ _ => relInt⟩
    | _ => simp [relK] at h
  | .str i, w, h => by
    cases w with
    | str j t =>
      simp [relK] at h
      subst h
      exact ⟨.str i, ⟨t, rfl⟩, fun _ _ => relStr⟩
    | _ => simp [relK] at h
  | .tup us, w, h => by
    cases w with
    | ref a =>
      unfold relK at h
      split at h
      · rename_i c od its n osl hk
        obtain ⟨h1, h2⟩ := ba h
        obtain ⟨h3, h4⟩ := ba h2
        obtain ⟨vs, rv, ru⟩ := relKs_ok h4
        refine ⟨.ref a, rfl, fun ρ H => ?_⟩
        simp only [RelU]
        exact ⟨a, vs, rfl, .inr ⟨_, its, n, hk, congrArg Value.type (of_decide_eq_true h1), rfl, of_decide_eq_true h3, rv⟩, ru ρ H⟩
      · cases h
    | _ => simp [relK] at h
  | .loc n, w, h => by cases w <;> simp [relK] at h
theorem relKs_ok {K : PySem.W.Frag} : ∀ {us : List U} {ws : List Value}, relKs K us ws = true → ∃ vs, Vals vs ws ∧ ∀ ρ H, RelUs K ρ H us vs
  | [], ws, h => by
    cases ws with
    | nil => exact ⟨[], .nil, fun _ _ => RelUs.nil⟩
    | cons _ _ => simp [relKs] at h
  | u :: us, ws, h => by
    cases ws with
    | nil => simp [relKs] at h
    | cons w ws =>
      obtain ⟨h1, h2⟩ := ba (show (relK K u w && relKs K us ws) = true by simpa [relKs] using h)
      obtain ⟨v, r1, r2⟩ := relK_ok h1
      obtain ⟨vs, r3, r4⟩ := relKs_ok h2
      exact ⟨v :: vs, .cons r1 r3, fun ρ H => RelUs.cons (r2 ρ H) (r4 ρ H)⟩
end
def oexB (K : PySem.W.Frag) (C : Addr) : Bool := match K.lookup C with
  | some ⟨.type "type", _, .cls cd, sl⟩ => (match cd.mro, sl.toList with
    | .ref C' :: bm, [_, _, _, _, some (.builtin n), _] => C' == C && (n == "ValueError.__new__" && (!cd.hasDel && (cd.hasDict && HandSPX.refsVE bm)))
    | _, _ => false)
  | _ => false
theorem oexB_ok {K : PySem.W.Frag} {C : Addr} (q : oexB K C = true) : ∃ nm q N bs bm sn sub ab col dd k0 k1 k2 k3 k5, K.lookup C = some (excClassObj nm q C N bs bm true sn sub ab col dd k0 k1 k2 k3 k5 "ValueError.__new__") ∧ HandSPX.refsVE bm = true := by
  unfold oexB at q
  split at q
  · rename_i dd cd sl ho
    split at q
    · rename_i C' bm k0 k1 k2 k3 n k5 hm hs
      simp only [Bool.and_eq_true, beq_iff_eq, Bool.not_eq_true'] at q
      obtain ⟨hC, hn, hdel, hd, ht⟩ := q
      obtain ⟨nm, bs, mro, ns, qn, hd', sn, sub, ab, col, del⟩ := cd
      dsimp only at hm hdel hd
      subst hm hdel hd hC hn
      have hsl : sl = #[k0, k1, k2, k3, some (.builtin "ValueError.__new__"), k5] := by
        obtain ⟨l⟩ := sl
        simp only at hs
        rw [hs]
      subst hsl
      exact ⟨nm, qn, ns, bs, bm, sn, sub, ab, col, dd, k0, k1, k2, k3, k5, ho, ht⟩
    · cases q
  · cases q
def Top.nm (t : Top) : Names := ⟨t.fns, t.mets, t.clss, t.flds, t.xcs, t.bins, t.kws⟩
def fnB (t : Top) (K : PySem.W.Frag) (f : Str) : Bool := eqO (PySem.W.nsIn K mainGlobals f) (some (some (.ref (adOf t K f)))) && PySem.W.keepIn K (.ref (adOf t K f))
def metB (t : Top) (K : PySem.W.Frag) (q : Str × Str) : Bool :=
  eqO (PySem.W.findIn K (.ref (adOf t K q.1)) q.2) (some (some (.ref (adOf t K (dotN q.1 q.2))))) && (PySem.W.isFn K (.ref (adOf t K (dotN q.1 q.2))) && (PySem.W.keepIn K (.ref (adOf t K (dotN q.1 q.2))) &&
    (eqO (PySem.W.specialIn K (.ref (adOf t K (dotN q.1 q.2))) "__get__") (some (some (.builtin "function.__get__"))) && (decide (PySem.W.takesIn K (.ref (adOf t K (dotN q.1 q.2))) = some false) && (!PySem.W.copiedNames.contains q.2 && PySem.W.fnIn K (adOf t K (dotN q.1 q.2)))))))
def clsB (t : Top) (K : PySem.W.Frag) (C : Str) : Bool := eqO (PySem.W.nsIn K mainGlobals C) (some (some (.ref (adOf t K C)))) && (decide (adOf t K C = ga K C) && ((Fa.cls C).ok K && ((Fa.mkr C).ok K && decide (adOf t K (C ++ ".__init__") = ma K (ga K C) "__init__"))))
def xcB (t : Top) (K : PySem.W.Frag) (q : Str × Str) : Bool :=
  eqO (PySem.W.nsIn K mainGlobals q.1) (some (some (.ref (adOf t K q.1)))) && (oexB K (adOf t K q.1) && (eqO (PySem.W.findIn K (.ref (adOf t K q.1)) "__setattr__") (some (some (.builtin "object.__setattr__"))) && (decide (PySem.W.subIn K (.ref (adOf t K q.1)) (.type "BaseException") = some true) && (decide (PySem.W.typeIn K (.ref (adOf t K q.1)) = some (.type "type")) &&
    (eqO (PySem.W.findIn K (.ref (adOf t K q.1)) "__init__") (some (some (.ref (adOf t K (q.1 ++ ".__init__"))))) && (decide (PySem.W.typeIn K (.ref (adOf t K (q.1 ++ ".__init__"))) = some (.type "function")) && (PySem.W.keepIn K (.ref (adOf t K q.1)) && eqO (PySem.W.findIn K (.ref (adOf t K q.1)) q.2) (some none))))))))
def gloB (K : PySem.W.Frag) (q : Str × U) : Bool := match PySem.W.nsIn K mainGlobals q.1 with
  | some (some w) => relK K q.2 w
  | _ => false
/-- a dict of the top: its values -/
def gdiB (K : PySem.W.Frag) (q : Str × List (Str × U)) : Bool := eqO (PySem.W.nsIn K mainGlobals q.1) (some (some (.ref (ga K q.1)))) && q.2.all fun r => match PySem.W.nsIn K (ga K q.1) r.1 with
  | some (some w) => relK K r.2 w
  | _ => false
def Top.ok (t : Top) (ex : PySem.W.Frag → Bool) (K : PySem.W.Frag) : Bool :=
  t.fns.all (fnB t K) && (t.mets.all (metB t K) && (t.clss.all (clsB t K) && (t.flds.all (fun q => eqO (PySem.W.findIn K (.ref (adOf t K q.1)) q.2) (some none)) && (t.xcs.all (xcB t K) && (t.bins.all (fun x => eqO (PySem.W.nsIn K mainGlobals x) (some none)) && (t.glos.all (gloB K) && (t.gdis.all (gdiB K) && (ex K && t.defs.all fun d => d.2.ok K))))))))
/-! ### the Hook -/
abbrev AlO : Type := Bool × List FnW × List (Option (List (Option (Str × Int))))
def obsO (t : Top) (ex : PySem.W.Frag → Bool) (K : PySem.W.Frag) : AlO := (t.ok ex K, t.defs.map fun d => fnW K d.2.at_, t.gdis.map fun q => dicW K (ga K q.1))
def valO (t : Top) (w : World) : AlO := (true, t.defs.map fun d => d.2.val, t.gdis.map fun q => some (keysIn w.params (q.2.map (·.1))))
def obsOG (n : Nat) (t : Top) (ex : PySem.W.Frag → Bool) (g : Addr → Option Obj) : AlO := obsO t ex (frG g (asD g n))
def hookO (n : Nat) (t : Top) (ex : PySem.W.Frag → Bool) : PySem.W.Hook where
  α := AlO
  obs := fun s => obsOG n t ex s.heap.get?
  val := fun w => valO t w
  says := fun w h => ∃ K : PySem.W.Frag, K.In h ∧ obsO t ex K = valO t w
  of := fun _ _ e => ⟨_, frG_in, e⟩
  keeps := fun _ _ _ ⟨K, hK, c⟩ k => ⟨K, PySem.W.Frag.In.keeps hK k, c⟩
theorem obsOG_eq {n : Nat} {t : Top} {ex : PySem.W.Frag → Bool} {g : Addr → Option Obj} {s : Shared} (h : ∀ a, g a = s.heap.get? a) : obsOG n t ex g = (hookO n t ex).obs s := by
  have e : g = s.heap.get? := funext h
  rw [e]
  rfl
/-- what it says -/
structure Says (t : Top) (ex : PySem.W.Frag → Bool) (w : World) (K : PySem.W.Frag) : Prop where
  fns : ∀ f ∈ t.fns, fnB t K f = true
  mets : ∀ f ∈ t.mets, metB t K f = true
  clss : ∀ f ∈ t.clss, clsB t K f = true
  flds : ∀ q ∈ t.flds, PySem.W.findIn K (.ref (adOf t K q.1)) q.2 = some none
  xcs : ∀ f ∈ t.xcs, xcB t K f = true
  bins : ∀ x ∈ t.bins, PySem.W.nsIn K mainGlobals x = some none
  glos : ∀ q ∈ t.glos, gloB K q = true
  gdis : ∀ q ∈ t.gdis, gdiB K q = true
  gdik : ∀ q ∈ t.gdis, dicW K (ga K q.1) = some (keysIn w.params (q.2.map (·.1)))
  more : ex K = true
  defs : ∀ f d, t.defs.lookup f = some d → ∃ fd, FunD K d.name d.qual d.params d.body d.scope (d.dvs K) (d.kws K) (adOf t K f) fd
theorem lookup_mem' {α : Type} {f : Str} {a : α} : ∀ {l : List (Str × α)}, l.lookup f = some a → (f, a) ∈ l
  | [], h => by simp at h
  | (g, b) :: l, h => by
    simp only [List.lookup_cons] at h
    split at h
    · rename_i hg
      cases h
      have e : f = g := by simpa using hg
      subst e
      exact List.mem_cons_self
    · exact List.mem_cons_of_mem _ (lookup_mem' h)
theorem map_all {α β : Type} {f g : α → β} : ∀ {l : List α}, l.map f = l.map g → ∀ q ∈ l, f q = g q
  | a :: l, h, q, m => by
    simp only [List.map_cons, List.cons.injEq] at h
    rcases List.mem_cons.mp m with rfl | m
    · exact h.1
    · exact map_all h.2 q m
theorem says_of {t : Top} {ex : PySem.W.Frag → Bool} {w : World} {K : PySem.W.Frag} (e : obsO t ex K = valO t w) : Says t ex w K := by
  have e1 : t.ok ex K = true := congrArg (fun z : AlO => z.1) e
  have e2 : (t.defs.map fun d => fnW K d.2.at_) = t.defs.map fun d => d.2.val := congrArg (fun z : AlO => z.2.1) e
  have e9 : (t.gdis.map fun q => dicW K (ga K q.1)) = t.gdis.map fun q => some (keysIn w.params (q.2.map (·.1))) := congrArg (fun z : AlO => z.2.2) e
  obtain ⟨h1, e1⟩ := ba e1
  obtain ⟨h2, e1⟩ := ba e1
  obtain ⟨h3, e1⟩ := ba e1
  obtain ⟨h4, e1⟩ := ba e1
  obtain ⟨h5, e1⟩ := ba e1
  obtain ⟨h6, e1⟩ := ba e1
  obtain ⟨h7, e1⟩ := ba e1
  obtain ⟨h7b, e1⟩ := ba e1
  obtain ⟨h8, h9⟩ := ba e1
  refine ⟨List.all_eq_true.mp h1, List.all_eq_true.mp h2, List.all_eq_true.mp h3, fun q hq => eqO_ok (List.all_eq_true.mp h4 q hq), List.all_eq_true.mp h5, fun x hx => eqO_ok (List.all_eq_true.mp h6 x hx), List.all_eq_true.mp h7, List.all_eq_true.mp h7b, map_all e9, h8, fun f d hd => ?_⟩
  have hm := lookup_mem' hd
  obtain ⟨i, hi, ei⟩ := List.mem_iff_getElem.mp hm
  have e3 : (t.defs.map fun d => fnW K d.2.at_)[i]? = (t.defs.map fun d => d.2.val)[i]? := by rw [e2]
  rw [List.getElem?_map, List.getElem?_map, List.getElem?_eq_getElem hi, ei] at e3
  have e4 : fnW K d.at_ = d.val := Option.some.inj e3
  have e5 : adOf t K f = fAd K d.at_ := by
    unfold adOf
    rw [hd]
  rw [e5]
  exact DefD.funD e4 (List.all_eq_true.mp h9 _ hm)
section
variable {t : Top} {ex : PySem.W.Frag → Bool} {w : World} {K : PySem.W.Frag} {h : Heap} {mg : Str → Option Value} {p : Pg}
theorem sta_of (X : K.In h) (G : h.Ns mainGlobals mg) (c : Says t ex w K) (hg : p.glo = fun x => t.glos.lookup x) : Sta p t.nm K mg (adOf t K) where
  glo := fun x u hx => by
    rw [hg] at hx
    have q := c.glos _ (lookup_mem' hx)
    unfold gloB at q
    split at q
    · rename_i w hw
      obtain ⟨v, r, ru⟩ := relK_ok q
      exact ⟨w, v, PySem.W.mg_of X G hw, r, ru⟩
    · cases q
  fn := fun f hf => by
    obtain ⟨h1, h2⟩ := ba (c.fns f hf)
    exact ⟨PySem.W.mg_of X G (eqO_ok h1), h2⟩
  met := fun C m hm => by
    obtain ⟨h1, q⟩ := ba (c.mets _ hm)
    obtain ⟨h2, q⟩ := ba q
    obtain ⟨h3, q⟩ := ba q
    obtain ⟨h4, q⟩ := ba q
    obtain ⟨h5, q⟩ := ba q
    obtain ⟨h6, h7⟩ := ba q
    exact ⟨⟨eqO_ok h1, h2, h3⟩, eqO_ok h4, of_decide_eq_true h5, by simpa using h6, h7⟩
  cls := fun C hC => by
    obtain ⟨h1, q⟩ := ba (c.clss _ hC)
    obtain ⟨h2, q⟩ := ba q
    obtain ⟨h3, q⟩ := ba q
    obtain ⟨h4, h5⟩ := ba q
    have e1 : adOf t K C = ga K C := of_decide_eq_true h2
    have e2 : adOf t K (C ++ ".__init__") = ma K (ga K C) "__init__" := of_decide_eq_true h5
    refine ⟨PySem.W.mg_of X G (eqO_ok h1), ?_, ?_⟩
    · rw [e1]; exact cls_ok h3
    · rw [e1, e2]; exact mkr_ok h4
  fld := fun C f hf => c.flds _ hf
  bin := fun x hx => PySem.W.mg_none_of X G (c.bins x hx)
theorem dicW_keys {K : PySem.W.Frag} {a : Addr} {l : List (Option (Str × Int))} {es : Array DictEntry} {n : Nat} (h : dicW K a = some l) (hl : K.lookup a = some ⟨.type "dict", none, .dict es n, #[]⟩) : es.toList.map keyOf = l := by
  unfold dicW at h
  rw [hl] at h
  simp only at h
  split at h
  · exact Option.some.inj h
  · cases h
theorem ns_miss {K : PySem.W.Frag} {w : World} {a : Addr} {ks : List Str} {es : Array DictEntry} {n : Nat} {z : Str} (hl : K.lookup a = some ⟨.type "dict", none, .dict es n, #[]⟩) (hk : es.toList.map keyOf = keysIn w.params ks) (hz : z ∉ ks) : PySem.W.nsIn K a z = some none := by
  have each : ∀ e ∈ es.toList, ∃ x t, e.key = .str x t ∧ x ∈ ks := fun e he => by
    have h1 : keyOf e ∈ keysIn w.params ks := by rw [← hk]; exact List.mem_map_of_mem he
    unfold keysIn at h1
    obtain ⟨k, hk1, hk2⟩ := List.mem_map.mp h1
    unfold keyOf at hk2
    split at hk2
    · rename_i x t q
      have h4 := Option.some.inj hk2
      obtain ⟨h5, h6⟩ := Prod.mk.inj h4
      exact ⟨x, t, q, by rw [← h5]; exact hk1⟩
    · cases hk2
  have f1 : es.toList.find? (·.key.isStr z) = none := by
    rw [List.find?_eq_none]
    intro e he hs
    obtain ⟨x, t, q, hx⟩ := each e he
    rw [q] at hs
    have e3 : x = z := by
      have := hs
      simp [Value.isStr] at this
      exact this
    rw [e3] at hx
    exact hz hx
  have f2 : es.toList.any (·.refKey) = false := by
    rw [List.any_eq_false]
    intro e he
    obtain ⟨x, t, q, hx⟩ := each e he
    unfold DictEntry.refKey
    rw [q]
    exact Bool.false_ne_true
  unfold PySem.W.nsIn
  rw [hl]
  simp only [f1, f2]
  rfl
theorem lookup_none_keys {α : Type} {z : Str} : ∀ {l : List (Str × α)}, l.lookup z = none → z ∉ l.map (·.1)
  | [], _ => by simp
  | (g, b) :: l, h => by
    simp only [List.lookup_cons] at h
    split at h
    · cases h
    · rename_i hg
      simp only [List.map_cons, List.mem_cons, not_or]
      exact ⟨fun e => by rw [e] at hg; simp at hg, lookup_none_keys h⟩
theorem gd_of (X : K.In h) (G : h.Ns mainGlobals mg) (c : Says t ex w K) (hg : p.gd = fun x => t.gdis.lookup x) : GdOk p K mg w := fun x kvs hx => by
  rw [hg] at hx
  have hm := lookup_mem' hx
  obtain ⟨q1, q2⟩ := ba (c.gdis _ hm)
  have hd := c.gdik _ hm
  obtain ⟨es, n, kd⟩ := dicW_ok hd
  refine ⟨ga K x, es, n, PySem.W.mg_of X G (eqO_ok q1), kd, fun z u hz => ?_, fun z hz => ns_miss kd.at_ (dicW_keys hd kd.at_) (lookup_none_keys hz)⟩
  have q3 := List.all_eq_true.mp q2 _ (lookup_mem' hz)
  dsimp only at q3
  split at q3
  · rename_i u0 hu
    obtain ⟨v, rv, ru⟩ := relK_ok q3
    exact ⟨u0, v, hu, rv, ru⟩
  · cases q3
/-- a def without defaults -/
theorem fun_of {st : Stmt} {x qual : Str} {f : Addr} {fd : FuncData} (F : FunD K x qual (defArgs st) (defBody st) (defScope st) [] [] f fd) : L2.Fun K x qual st f fd := by
  obtain ⟨oc, od, dV, kV, doc, pm, an, cdv, ct, osl, rfl, lk, hcd, hd, _⟩ := F.ex
  have e : dV = .none := by
    rcases hd with h | h
    · exact h.2
    · exact absurd rfl h.1
  subst e
  exact ⟨⟨oc, od, kV, doc, pm, an, cdv, ct, osl, rfl, lk, hcd⟩, F.kp⟩
/-- an exception's __init__: self.f = f -/
theorem xc_of {P : Program} {base : Heap} {C f par : Str} {st : Stmt} {fd : FuncData} {p1 p2 p3 p4 : Pos} (X : K.In h) (G : h.Ns mainGlobals mg) (c : Says t ex w K) (hm : (C, f) ∈ t.xcs) (F : L2.Fun K "__init__" (C ++ ".__init__") st (adOf t K (C ++ ".__init__")) fd) (hb : Binds K fd ["self", par] [])
    (S : FnScope ["self", par] ["self", par] (defScope st)) (eb : defBody st = [.Assign [.Attribute (.Name "self" p1) f p2] (.Name par p3) p4])
    (v0 : (defScope st).names.lookup ("self" : Str) = some .local) (v1 : (defScope st).names.lookup par = some .local) (hd : (par == ("__debug__" : Str)) = false) (hcd : (par == ("__classdict__" : Str)) = false)
    (hs : ∀ env : PySem.Env, swapsWith (.Name par p3) (some (.Attribute (.Name "self" p1) f p2)) p4.line env = pure false) : XcOk P w K mg base (adOf t K) C f := by
  obtain ⟨h1, q⟩ := ba (c.xcs _ hm)
  obtain ⟨h2, q⟩ := ba q
  obtain ⟨h3, q⟩ := ba q
  obtain ⟨h4, q⟩ := ba q
  obtain ⟨h5, q⟩ := ba q
  obtain ⟨h6, q⟩ := ba q
  obtain ⟨h7, q⟩ := ba q
  obtain ⟨h8, h9⟩ := ba q
  have T : OexC K (adOf t K C) := ⟨oexB_ok h2, eqO_ok h3, of_decide_eq_true h4, of_decide_eq_true h5, h8⟩
  refine ⟨PySem.W.mg_of X G (eqO_ok h1), T, eqO_ok h6, of_decide_eq_true h7, ⟨fd, ["self", par], ?_, hb⟩, h8⟩
  refine F.okX (k := 0) S (fun vs H Q E z => ?_) fun cdv A outer s H vs Q E hr z => ?_
  · obtain ⟨a, y, rfl, _⟩ := z
    rfl
  · obtain ⟨a, y, rfl, e, z⟩ := z
    refine ⟨_, by rw [eb]; exact pss_one (ps_ost (f := f) (pe_var (i := 0) rfl (.inl v0)) (pe_var (i := 1) rfl (.inl v1) hd hcd) (hs _)), ?_⟩
    exact ⟨y, rfl, .ref a, rfl, a, _, rfl, T, eqO_ok h9, .inl ⟨e, fun dx hdx hne => z dx hdx hne⟩⟩
end
end Oz
namespace Oz
open PySem PySem.Spec PyProof.Rows L2 He
/-! ### the law -/
def spLaw (K : PySem.W.Frag) : Sp := fun vs H Q _ => ∃ (a : Addr) (ns : List Int), vs = [.ref a] ∧ Only H ∧ SqL K H a (ns.map V.int) ∧ ns.length ≤ 63 ∧ ∀ H', Q (.bl true) H'
theorem froL_of {K : PySem.W.Frag} {H : Hp} {a : Addr} {vs : List V} (h : SqL K H a vs) (o : Only H) : FroL K H a vs := by
  rcases h with (h | h) | h
  · rcases o a with z | ⟨ob, xs, z⟩
    · rw [h] at z; cases z
    · rw [h] at z; cases z
  · exact .inl h
  · exact .inr h
theorem rel_ints {K : PySem.W.Frag} {ρ : List Addr} {H : Hp} : ∀ ns : List Int, RelUs K ρ H (ns.map U.int) (ns.map V.int)
  | [] => RelUs.nil
  | _ :: ns => RelUs.cons relInt (rel_ints ns)
section
variable {P : Program} {w : World} {K : PySem.W.Frag} {mg : Str → Option Value} {base : Heap} {p : Pg} {nm : Names} {ad : Str → Addr}
/-- a promise at one place -/
def FnAt (A0 : Around) (P : Program) (w : World) (K : PySem.W.Frag) (mg : Str → Option Value) (base : Heap) (CX : CXT) (f : Addr) (fd : FuncData) (ps : List Str) (sp : Sp) : Prop :=
  ∀ outer s H args us vs Q E, Env0 P w K mg base A0 outer s H → BindsTo s fd args (ps.zip us) → Vals vs us → sp vs H Q E → codeAny (model P w) A0 (.call (.ref f) args) (CR CX outer P w H s Q E) s
theorem fn_law {sn x qual : Str} {st : Stmt} {f : Addr} {fd : FuncData} {N : List Str} {body : Sts} (F : L2.Fun K x qual st f fd) (S : FnScope N [sn] (defScope st)) (A : AllFn P w K mg base p nm ad 677)
    (D : ∀ (X : Cx) (cdv : Value) (A : Around) (outer : List PySem.Env) (s : Shared) (H : Hp) (E : XK), X = cxOf (L2.CX P w) P w K mg base N qual (defScope st) f cdv A outer s H E → Ok X p nm ad 677 E → PSs X (defBody st) (tB X (p.cal 677) E body))
    (law : ∀ ns : List Int, ns.length ≤ 63 → ∃ S', (⟨1, N.length, false, body⟩ : Df).run (p.cal 677) [.loc 0] [.fro (ns.map U.int)] = .ok (.bl true) S') : FnAt callerA P w K mg base (L2.CX P w) f fd [sn] (spLaw K) := by
  obtain ⟨oc, od, kV, doc, pm, an, cdv, ct, osl, rfl, lk, hcd⟩ := F.ex
  intro outer s H args us vs Q E e0 hb r h
  · obtain ⟨a, ns, rfl, ho, hS, hl, q⟩ := h
    have w0 : Wok K mg [a] [.fro (ns.map U.int)] H := by
      refine ⟨rfl, fun m n b c c' h1 h2 h3 h4 g1 g2 => ?_, fun n b c h1 h2 => ?_⟩
      · cases m with
        | zero =>
          simp at h3
          subst h3
          cases g1
        | succ m => simp at h3
      · cases n with
        | zero =>
          simp at h1 h2
          subst h1 h2
          exact ⟨_, froL_of hS ho, rel_ints ns⟩
        | succ n => simp at h1
    obtain ⟨S', e⟩ := law ns hl
    refine run_body (k := 679) lk hcd S rm_caller e0 (G := fun xs H2 => xs = [.ref a] ∧ H2 = H) (fun A' Ex Q' z => hb _ _ _ _ (z s H [.ref a] us e0 Un.refl rfl (fun _ _ q => q) r rfl ⟨rfl, rfl⟩)) fun s2 H2 xs ⟨hx, hH⟩ hr2 => ?_
    subst hx hH
    refine ⟨_, D _ cdv callerA outer s2 H2 E rfl (A.ok hr2), [a], [.fro (ns.map U.int)], startU N.length [.loc 0], w0, env_start (RelUs.cons (relLoc rfl) RelUs.nil), fin_read ?_⟩
    have e' : (exs (p.cal 677) body (startU N.length [.loc 0]) [.fro (ns.map U.int)]).fin = .ok (.bl true) S' := e
    rw [e']
    intro ρ' H' b x w' rb
    cases rb.bl
    exact q H'
end
end Oz

end

section
set_option maxHeartbeats 4000000
/-! OzM: max(xs, default=k). -/
namespace Oz
open PySem PySem.Spec PyProof.Rows L2
section
variable {prog : Program} {w : World} {A : Around} {R : Result → Shared → Prop} {I : Addr} {fp wr : List Addr} {G : Array GenState → Array GenState → Prop} {n : Nat} {P : Nat → Value → Prop} {St : Nat → Shared → Prop}
/-- what the list of the best holds after i items -/
def BestAt (bt : Nat → Nat → Bool) (P : Nat → Value → Prop) (i : Nat) (arr : Array Value) : Prop := (i = 0 ∧ arr = #[]) ∨ ∃ j vb, i = j + 1 ∧ P (argBest bt j) vb ∧ arr = #[vb, vb]
theorem maxd_go (Wk : WalksS prog w A.in1 I fp wr G n P St) (bt : Nat → Nat → Bool) (hcmp : CmpOf prog w A.in1 .Gt P bt) (S : Addr) (hSf : S ∉ fp) (d : Value) : ∀ (k i : Nat) (s : Shared) (arr : Array Value) (c : Nat), n - i = k → i ≤ n → St i s → BestAt bt P i arr →
    s.heap.get? S = some { cls := .type "list", dict := none, data := .seq arr c, slots := #[] } → (n = 0 → ∀ s', Moved (S :: wr) G s s' → R (.ok (.ret d)) s') →
    (0 < n → ∀ v s', P (argBest bt (n - 1)) v → Moved (S :: wr) G s s' → R (.ok (.ret v)) s') → codeAny (model prog w) A (.builtin "max.loop" ⟨[.ref I, .none, .ref S], [(Str.ofString "default", d)]⟩) R s := by
  have out : S ∉ wr := fun q => hSf (Wk.sub _ q)
  have sub' : ∀ b ∈ wr, b ∈ S :: wr := fun b hb => List.mem_cons_of_mem _ hb
  have nm : (toString "max" ++ toString ".loop" : String) = "max.loop" := by decide
  have ne' : ∀ {b : Addr}, b ∉ S :: wr → S ≠ b := fun hb z => hb (by rw [z]; exact List.mem_cons_self)
  intro k
  induction k with
  | zero =>
    intro i s arr c hk hi hst hB hS h0 h1
    have e : i = n := by omega
    subst e
    refine codeAny_builtin F.entry_max_loop ?_
    rw [Around.under_plainId F.plain_max_loop _]
    refine wpAny_bind (wpAny_seqItems hS rfl ?_)
    refine wpAny_bind (wpAny_tryCatch (Wk.done s _ _ hst fun s1 m1 => ?_))
    have hS1 := m1.heap S _ out hS
    rcases hB with ⟨z, rfl⟩ | ⟨j, vb, z, hP, rfl⟩
    · exact wpAny_bind (wpAny_rule (wpAny_pure (h0 z s1 (m1.mono sub'))))
    · show wpAny (model prog w) A.in1 (updateSeq S (fun _ => #[]) >>= _) _ _ _
      refine wpAny_bind (wpAny_updateSeq hS1 rfl (wpAny_bind (wpAny_letGo (wpAny_pure ?_))))
      refine h1 (by omega) vb _ (by rw [z]; exact hP) ((m1.mono sub').then_heap (tk := s1.toks) (Nat.le_refl _) fun b o hb q => ?_)
      exact (Heap.get?_update_other _ _ (ne' hb)).trans q
  | succ k ih =>
    intro i s arr c hk hi hst hB hS h0 h1
    have lt : i < n := by omega
    refine codeAny_builtin F.entry_max_loop ?_
    rw [Around.under_plainId F.plain_max_loop _]
    refine wpAny_bind (wpAny_seqItems hS rfl ?_)
    refine wpAny_bind (wpAny_tryCatch (Wk.item i s _ _ lt hst fun v s1 hv st1 m1 => ?_))
    have hS1 := m1.heap S _ out hS
    rcases hB with ⟨z, rfl⟩ | ⟨j, vb, z, hP, rfl⟩
    · subst z
      show wpAny (model prog w) A.in1 (updateSeq S (fun _ => #[v, v]) >>= _) _ _ _
      refine wpAny_bind (wpAny_updateSeq hS1 rfl ?_)
      rw [nm]
      refine wpAny_pure ⟨plainId_quiet F.plain_max_loop _, ih (0 + 1) _ #[v, v] _ (by omega) lt (Wk.frame _ s1 _ s1.toks st1 (Nat.le_refl _) fun b hb o q => ?_) (.inr ⟨0, v, rfl, hv, rfl⟩) (Heap.get?_update_self _ hS1 rfl) (fun z => by omega) fun _ v2 s2 hv2 m2 => ?_⟩
      · exact (Heap.get?_update_other _ _ (fun z : S = b => hSf (by rw [z]; exact hb))).trans q
      · exact h1 (by omega) v2 s2 hv2 (Moved.trans Wk.gtrans ((m1.mono sub').then_heap (tk := s1.toks) (Nat.le_refl _) fun b o hb q => (Heap.get?_update_other _ _ (ne' hb)).trans q) m2)
    · subst z
      show wpAny (model prog w) A.in1 (tryCatch (holding [v, v] (richCompare .Gt v vb >>= _)) _ >>= _) _ _ _
      refine wpAny_bind (wpAny_tryCatch (wpAny_holding (wpAny_bind (hcmp (j + 1) (argBest bt j) v vb _ _ _ hv hP ?_))))
      refine wpAny_bind (wpAny_holding (wpAny_truthy_bool ?_))
      refine wpAny_bind (wpAny_letGo (wpAny_pure ?_))
      cases hb : bt (j + 1) (argBest bt j) with
      | true =>
        simp only [if_true]
        refine wpAny_bind ?_
        refine wpAny_updateSeq hS1 rfl (wpAny_bind (wpAny_letGo ?_))
        rw [nm]
        refine wpAny_pure ⟨plainId_quiet F.plain_max_loop _, ih (j + 1 + 1) _ #[v, v] _ (by omega) lt (Wk.frame _ s1 _ s1.toks st1 (Nat.le_refl _) fun b hb o q => ?_) (.inr ⟨j + 1, v, rfl, by simp only [argBest, hb, if_true]; exact hv, rfl⟩) (Heap.get?_update_self _ hS1 rfl) (fun z => by omega) fun _ v2 s2 hv2 m2 => ?_⟩
        · exact (Heap.get?_update_other _ _ (fun z : S = b => hSf (by rw [z]; exact hb))).trans q
        · exact h1 (by omega) v2 s2 hv2 (Moved.trans Wk.gtrans ((m1.mono sub').then_heap (tk := s1.toks) (Nat.le_refl _) fun b o hb q => (Heap.get?_update_other _ _ (ne' hb)).trans q) m2)
      | false =>
        simp only [Bool.false_eq_true, if_false]
        refine wpAny_bind (wpAny_letGo ?_)
        rw [nm]
        refine wpAny_pure ⟨plainId_quiet F.plain_max_loop _, ih (j + 1 + 1) _ #[vb, vb] c (by omega) lt st1 (.inr ⟨j + 1, vb, rfl, by simp only [argBest, hb, Bool.false_eq_true, if_false]; exact hP, rfl⟩) hS1 (fun z => by omega) fun _ v2 s2 hv2 m2 => ?_⟩
        exact h1 (by omega) v2 s2 hv2 (Moved.trans Wk.gtrans (m1.mono sub') m2)
end
section
variable {prog : Program} {w : World} {A : Around} {E : Value → Shared → Prop} {s : Shared} {l : Addr} {its : List Value} {ns : List Int} {Q : Value → Shared → Prop}
theorem args_maxd (a d : Value) : argsOk "max" ⟨[a], [(Str.ofString "default", d)]⟩ := by unfold argsOk; kernel_rfl
theorem call_tree_kw {id : String} {b : Builtin} {args : List Value} {kw : List (Str × Value)} (hk : builtinKind id = none) (hp : plainId id = true) (hb : entryFor table id = some b) (ha : argsOk id ⟨args, kw⟩)
    (hc : wpAny (model prog w) A.in1 (b ⟨args, kw⟩) (fun fin s' => match fin with
      | .done f => (match f with | .ret v => Q v s' | _ => False)
      | .again c' => c'.quiet = true ∧ codeAny (model prog w) A c' (fun r s' => match r with | .ok (.ret v) => Q v s' | .ok _ => False | .error e => E e s') s') E s) : wpAny (model prog w) A (call (.builtin id) args kw) Q E s := by
  have hc' : wpAny (model prog w) A.in1 (b ⟨args, kw⟩) (fun fin s' => match fin with
      | .done f => (match (Except.ok f : Result) with | .ok (.ret v) => Q v s' | .ok _ => False | .error e => E e s')
      | .again c' => c'.quiet = true ∧ codeAny (model prog w) A c' (fun r s' => match r with | .ok (.ret v) => Q v s' | .ok _ => False | .error e => E e s') s') E s := wpAny_mono hc (fun fin s' z => by
    cases fin with
    | done f => cases f <;> exact z
    | again c => exact z) fun _ _ z => z
  refine wpAny_call (codeAny_call_builtin hp hb ?_)
  simp only [checkBuiltinCall, hk]
  cases sg : Manifest.signature? id with
  | none => exact wpAny_pure hc'
  | some sig =>
    have h2 : Bind.checkArgs id sig ⟨args, kw⟩ = pure () := by simpa only [argsOk, sg] using ha
    simp only [h2]
    exact wpAny_pure hc'
theorem maxd_raw {k : Int} {t0 : Tok} (hh : A.handled = none) (hl : s.heap.IsList l its.toArray) (hi : IntsAre its ns)
    (h : ∀ h' tk m t', (∀ b o, s.heap.get? b = some o → h'.get? b = some o) → (ns = [] → m = k) → (ns ≠ [] → m ∈ ns ∧ ∀ a, a ∈ ns → a ≤ m) → Q (.int m t') { s with heap := h', toks := tk }) :
    wpAny (model prog w) A (call (.builtin "max") [.ref l] [(Str.ofString "default", .int k t0)]) Q E s := by
  obtain ⟨xs, e⟩ := hi.allInts.items
  have hn : ns = xs.toList.map (·.1) := by
    rw [← nums_intItems, ← e]
    exact hi.numsOf.symm
  rw [e] at hl
  refine call_tree_kw F.kind_max F.plain_max F.entry_max (args_maxd _ _) ?_
  refine wpAny_bind (wpAny_of_eq (show Builtin.Builtins.bindParams "max" ["key", "default"] 0 ⟨[], [(Str.ofString "default", .int k t0)]⟩ = pure [none, some (.int k t0)] from rfl) ?_)
  refine wpAny_bind (wpAny_pure ?_)
  refine wpAny_bind (iter_intList hl fun s2 e2 st hfp hlI => ?_)
  subst e2
  refine wpAny_bind (wpAny_newObj_type ?_)
  have Wk := Walks.toS (Walks.list (prog := prog) (w := w) (A := A.in1) hh _ l hlI (intItems xs))
  have nm : (toString "max" ++ toString ".loop" : String) = "max.loop" := by decide
  rw [nm]
  refine wpAny_pure ⟨plainId_quiet F.plain_max_loop _, ?_⟩
  have same : ∀ {wr' : List Addr} {s1 s' : Shared}, Moved wr' (fun a b => b = a) s1 s' → s' = { s1 with heap := s'.heap, toks := s'.toks } := fun {wr' s1 s'} m => by
    obtain ⟨_, g, dr, os, _⟩ := m
    cases s'
    cases s1
    simp only at g dr os
    subst g dr os
    rfl
  have keep : ∀ {s' : Shared} (hm : ∀ b o, (s.heap.push { cls := .type "list_iterator", data := .fields #[.ref l, .int 0 0] }).get? b = some o → b ∉ ((s.heap.push { cls := .type "list_iterator", data := .fields #[.ref l, .int 0 0] }).objs.size :: [s.heap.objs.size]) → s'.heap.get? b = some o), ∀ b o, s.heap.get? b = some o → s'.heap.get? b = some o := fun {s'} hm b o q => by
    have lt : b < s.heap.objs.size := Heap.lt_size q
    refine hm b o (Heap.get?_push_of_some _ q) fun hb => ?_
    rcases List.mem_cons.mp hb with z | hb
    · rw [z, Heap.size_push] at lt
      exact Nat.lt_irrefl _ (Nat.lt_trans (Nat.lt_succ_self _) lt)
    · have z : b = s.heap.objs.size := by simpa using hb
      rw [z] at lt
      exact Nat.lt_irrefl _ lt
  refine maxd_go Wk _ (CmpOf.ints_gt (numAt xs) (fun _ _ => intItems_at)) _ (fun hm => Nat.lt_irrefl _ (hfp _ hm)) (.int k t0) _ 0 _ #[] _ rfl (Nat.zero_le _) (Wk.frame 0 _ _ _ st (Nat.le_refl _) fun b hb o q => Heap.get?_push_of_some _ q) (.inl ⟨rfl, rfl⟩) (Heap.get?_push_size _ rfl) (fun z s' m => ?_) fun z v s' hv m => ?_
  · have e0 : ns = [] := by
      rw [hn]
      have : xs.size = 0 := by simpa [intItems] using z
      simp [Array.size_eq_zero_iff.mp this]
    show Q (.int k t0) s'
    rw [same m]
    exact h s'.heap s'.toks k t0 (keep fun b o q hb => m.heap b o hb (Heap.get?_push_of_some _ q)) (fun _ => rfl) fun q => absurd e0 q
  · have hz : 0 < xs.size := by simpa [intItems] using z
    have es : (intItems xs).size - 1 = xs.size - 1 := by simp [intItems]
    have hv' : (intItems xs)[argBest (fun i j => decide (numAt xs i > numAt xs j)) (xs.size - 1)]? = some v := by
      rw [← es]
      exact hv
    obtain ⟨t, rfl⟩ := intItems_at hv'
    show Q (.int _ t) s'
    rw [same m]
    refine h s'.heap s'.toks _ t (keep fun b o q hb => m.heap b o hb (Heap.get?_push_of_some _ q)) (fun q => ?_) fun _ => ?_
    · rw [hn] at q
      have : xs.toList = [] := by simpa using q
      have : xs.size = 0 := by rw [← Array.length_toList, this]; rfl
      omega
    · obtain ⟨h1, h2⟩ := argBest_gt (numAt xs) (xs.size - 1)
      rw [hn]
      refine ⟨?_, fun a ha => ?_⟩
      · rw [numAt_eq]; exact PySem.getD_mem (by rw [List.length_map, Array.length_toList]; omega)
      · obtain ⟨j, hj, rfl⟩ := mem_getD ha
        rw [List.length_map, Array.length_toList] at hj
        rw [← numAt_eq]; exact h2 j (by omega)
end
section
variable {X : Cx} {p : Pg} {nm : Names} {ad : Str → Addr} {d : Nat} {W : XK} {Φ : Cal} {e : Expr} {te : E} {pos : Pos}
/-- max(xs, default=k) -/
def rMaxd (X : Cx) (W : XK) : List V → List V → Hp → VK → Prop := fun vs zs H Q => ∃ v k ρ S a, vs = [v] ∧ zs = [.int k] ∧ Wok X.K X.mg ρ S H ∧ RelU X.K ρ H a v ∧ Post X.mg X.K (RelU X.K) W ρ H (maxdF [a, .int k] S) Q
theorem cf_maxd (hc : X.calm = true) : CallRK X (.builtin "max") [Str.ofString "default"] (rMaxd X W) := by
  rintro pins s σ H xs zs us ws Q I r1 r2 ⟨v, k, ρ, S, a, rfl, rfl, wk, ra, h⟩
  unfold maxdF at h
  split at h
  · rename_i a' k' e
    cases e
    split at h
    · rename_i ns hns
      rw [Option.bind_eq_some_iff] at hns
      obtain ⟨ys, hx, hi⟩ := hns
      obtain ⟨p, vs, rfl, hq, hr⟩ := wk.list hx ra
      have e2 := hr.ints hi
      subst e2
      obtain ⟨its, rv, hl, _⟩ := I.list hq
      rw [Vals.ref1 r1]
      obtain ⟨z, zs', rfl, rz⟩ : ∃ z zs', ws = z :: zs' ∧ (∃ t, z = Value.int k t) ∧ zs' = [] := by
        cases r2 with
        | cons r rr =>
          cases rr
          exact ⟨_, [], rfl, r, rfl⟩
      obtain ⟨⟨t0, rfl⟩, rfl⟩ := rz
      refine maxd_raw (I.ok.hd hc) hl.isList rv.ints fun h' tk m t' hk h0 h1 => ⟨.int _, H, I.kept hk, ⟨_, rfl⟩, ?_⟩
      have em : m = if 0 < ns.length then maxI ns else k := by
        cases ns with
        | nil => exact h0 rfl
        | cons n ns =>
          rw [if_pos (by simp)]
          obtain ⟨m1, m2⟩ := h1 (by simp)
          have e3 := maxI_ge m1
          have e4 := m2 _ (maxI_mem (ns := n :: ns) (by simp))
          omega
      rw [em]
      exact h.here wk relInt
    · cases h
  · rename_i hx
    exact (hx _ _ rfl).elim
theorem s_maxd (O : Ok X p nm ad d W) {k : Int} {tk : Nat} {px kp kc : Pos} (ha : PE X e (tE X Φ W te)) (hg : Gl X "max" := by rfl) (hm : ("max" : Str) ∈ nm.bins := by decide +kernel)
    (hs : starEach [e] X.env = (false, eval e X.env) :: starEach [] X.env := by rfl) (he : backTo pos (starEach [e] X.env) = (false, eval e X.env) :: backTo pos (starEach [] X.env) := by rfl) (hp : (backTo pos (starEach [e] X.env)).any (·.1) = false := by rfl)
    (hks : (backToKw pos (keywordEach [⟨some "default", .Constant (.int k) tk kc, kp⟩] X.env)).filterMap (·.1) = [Str.ofString "default"] := by rfl) (hall : (backToKw pos (keywordEach [⟨some "default", .Constant (.int k) tk kc, kp⟩] X.env)).all (·.1.isSome) = true := by rfl)
    (hno : (backToKw pos (keywordEach [⟨some "default", .Constant (.int k) tk kc, kp⟩] X.env)).any (·.1.isNone) = false := by rfl) :
    PE X (.Call (.Name "max" px) [e] [⟨some "default", .Constant (.int k) tk kc, kp⟩] pos) (tE X Φ W (.bf .maxd (.cons te (.cons (.k (.int k)) .nil)))) :=
  PEw (pe_callBK (cf_maxd (W := W) O.calm) hg (O.sta.bin _ hm) boot_max (pa_cons ha pa_nil hs) (pk_cons pe_int pk_nil) (by decide) (by decide) he hp hall hno hks) fun σ H Q ⟨ρ, S, env, w, eo, h⟩ => by
    rw [ev, evs] at h
    rw [bind_assoc] at h
    refine ⟨ρ, S, env, w, eo, (Post.bind h).imp fun x H1 ⟨ρ1, S1, u, e1, w1, r1, h1⟩ => ?_⟩
    exact ⟨x, k, ρ1, S1, u, rfl, rfl, w1, r1, h1⟩
end
end Oz

end

section
set_option maxHeartbeats 4000000
/-! OzX: a try whose suite asks the caught exception. -/
namespace Oz
open PySem PySem.Spec PyProof.Rows L2 He
/-- what a caught class must say -/
structure XiC (K : PySem.W.Frag) (C : Addr) : Prop where
  xf : XfC K C
  cl : (PySem.W.clsIn K C).isSome = true
  ha : PySem.W.findIn K (.ref C) "__class__" = some (some (.builtin "object.__class__"))
  hn : PySem.W.specialIn K (.builtin "object.__class__") "__get__" = some (some (.builtin "getset_descriptor.__get__"))
  ht : PySem.W.takesIn K (.builtin "object.__class__") = some true
  hm : PySem.W.mroIn K C (.type "object") = some true
def xiB (K : PySem.W.Frag) (C : Addr) : Bool := xfB K C && ((PySem.W.clsIn K C).isSome && (eqO (PySem.W.findIn K (.ref C) "__class__") (some (some (.builtin "object.__class__"))) &&
  (eqO (PySem.W.specialIn K (.builtin "object.__class__") "__get__") (some (some (.builtin "getset_descriptor.__get__"))) && (decide (PySem.W.takesIn K (.builtin "object.__class__") = some true) && decide (PySem.W.mroIn K C (.type "object") = some true)))))
theorem xiB_ok {K : PySem.W.Frag} {C : Addr} (h : xiB K C = true) : XiC K C := by
  obtain ⟨h1, h⟩ := ba h
  obtain ⟨h2, h⟩ := ba h
  obtain ⟨h3, h⟩ := ba h
  obtain ⟨h4, h⟩ := ba h
  obtain ⟨h5, h6⟩ := ba h
  exact ⟨xfB_ok h1, h2, eqO_ok h3, eqO_ok h4, of_decide_eq_true h5, of_decide_eq_true h6⟩
/-- isinstance(e, c), e the caught exception, with its own dict -/
def rIsX (K : PySem.W.Frag) (a : Addr) (cls : Value) (d : Option Addr) : List V → Hp → VK → Prop := fun xs H Q => ∃ (C dd : Addr) (fs : List (Str × V)) (c : V) (cv : Value) (b : Bool), cls = .ref C ∧ d = some dd ∧ XiC K C ∧ H dd = some (.xd fs) ∧ xs = [.ref a, c] ∧ ClsV c cv ∧ PySem.W.kitOne K (.ref C) cv = some b ∧ Q (.bl b) H
theorem call_isX {X : Cx} {a : Addr} {oe : Obj} {cls : Value} {d : Option Addr} {pn : List (Addr × Obj)} (hz : Zc cls d oe) (hf : ∃ vs, oe.data = .fields vs) : CallR (X.suite a ((a, oe) :: pn)) (.builtin "isinstance") (rIsX X.K a cls d) := by
  rintro pins s σ H xs us Q I r ⟨C, dd, fs, c, cv, b, rfl, rfl, T, hd, rfl, k, e, q⟩
  obtain ⟨u1, u2, rfl, r1, r2⟩ := vals2 r
  obtain rfl : u1 = Value.ref a := r1
  have e2 := k.eq r2
  subst e2
  obtain ⟨ha, _⟩ := I.pin (a, oe) (List.mem_append_left _ List.mem_cons_self)
  obtain ⟨vs, hv⟩ := hf
  obtain ⟨mA, hns, hr⟩ := (show ObjOk X.prog X.w H s.heap dd (.xd fs) from I.hok dd _ hd)
  obtain ⟨od, ho, _⟩ := lookIn_ns hns
  have J : PySem.W.InstAt s.heap a oe C (some od) := ⟨ha, hz.1, by unfold PySem.W.notCls; rw [hv], by rw [hz.2]; exact ho⟩
  exact PySem.W.kia_one (PySem.W.kitx_exc T.cl T.xf.ga T.xf.gg T.xf.exC T.ha T.hn T.ht T.hm) I.kIn J e (fun z => nomatch z) fun tk => ⟨.bl b, H, I.kept (t' := tk) fun _ _ z => z, rfl, q⟩
/-- a call within a try -/
theorem pe_callT {X : Cx} {k : Nat} {a : Addr} {sp : Sp} {Wx : WX} {f : Str} {px pos : Pos} {e : Expr} {es : List Expr} {t : TA} (F : FnQ X.prog X.w X.K X.mg X.base (L2.CX X.prog X.w) k a sp) (hr : Rm k X.A) (hm : X.mg f = some (.ref a)) (hk : PySem.W.keepIn X.K (.ref a) = true) (tk : Takes X Wx) (ha : PA X (e :: es) t)
    (hg : Gl X f := by rfl) (hdb : (f == ("__debug__" : Str)) = false := by decide) (he : starEach (e :: es) X.env = (false, eval e X.env) :: starEach es X.env := by rfl) (hpl : (backTo pos (starEach es X.env)).any (·.1) = false := by rfl) :
    PE X (.Call (.Name f px) (e :: es) [] pos) (fun σ H Q => t σ H fun vs H1 => sp vs H1 Q (WE Wx σ)) := by
  refine ⟨fun pins s σ H Q I h => ?_⟩
  refine wpAny_Call_Name_kw (ld_glob I hg hm ?_ hdb)
  refine PySem.W.callWith_K (h₀ := X.base) I.ok.mod.kin hk (thn (ha.run pos pins s σ H _ I h) fun us s1 ⟨vs, H1, I1, r, q⟩ => ⟨I1.kIn, ?_⟩) he hpl
  refine wpAny_call (codeAny_mono (F X.A X.stack s1 H1 us vs Q (WE Wx σ) hr I1.env0 r q) fun z s' hz => ?_)
  match z, hz with
  | .error er, hz => exact passAt tk σ pins H1 s1 er s' I1 hz
  | .ok (.ret u), hz => exact I1.after hz
  | .ok .next, hz => exact hz.elim
  | .ok .brk, hz => exact hz.elim
  | .ok .cont, hz => exact hz.elim
section
variable {X : Cx} {a : Addr} {oe : Obj} {cls : Value} {d : Option Addr} {pn : List (Addr × Obj)} {i : Nat} {n : Str} {p1 p2 p3 pos : Pos}
/-- the reading of a question for the caught exception's class -/
def tIsX (K : PySem.W.Frag) (a : Addr) (cls : Value) (d : Option Addr) (i : Nat) (cv : Value) : TE := fun σ H Q => σ[i]? = some (some (.ref a)) ∧ ∃ (C dd : Addr) (fs : List (Str × V)) (b : Bool), cls = .ref C ∧ d = some dd ∧ XiC K C ∧ H dd = some (.xd fs) ∧ PySem.W.kitOne K (.ref C) cv = some b ∧ Q (.bl b) H
theorem pe_isX {x : Str} {c : V} {cv : Value} (hz : Zc cls d oe) (hf : ∃ vs, oe.data = .fields vs) (hN : X.N[i]? = some n) (hv : Vis X.env.scope n) (hc : PE (X.suite a ((a, oe) :: pn)) (.Name x p3) (tC c)) (k : ClsV c cv) (hm : X.mg "isinstance" = none) (hg : Gl X "isinstance" := by rfl)
    (hd : (n == ("__debug__" : Str)) = false := by decide) (hcd : (n == ("__classdict__" : Str)) = false := by decide)
    (he : starEach [.Name n p2, .Name x p3] X.env = (false, eval (.Name n p2) X.env) :: starEach [.Name x p3] X.env := by rfl) (he2 : starEach [Expr.Name x p3] X.env = (false, eval (.Name x p3) X.env) :: starEach [] X.env := by rfl) (hpl : (backTo pos (starEach [.Name x p3] X.env)).any (·.1) = false := by rfl) :
    PE (X.suite a ((a, oe) :: pn)) (.Call (.Name "isinstance" p1) [.Name n p2, .Name x p3] [] pos) (tIsX X.K a cls d i cv) := by
  refine PEw (pe_callB (X := X.suite a ((a, oe) :: pn)) (call_isX hz hf) hg hm boot_isinstance (pa_cons (pe_var (X := X.suite a ((a, oe) :: pn)) hN hv hd hcd) (pa_cons hc pa_nil he2) he) (by decide) (by decide) he hpl) fun σ H Q ⟨hσ, C, dd, fs, b, h1, h2, T, h3, h4, q⟩ => ?_
  exact ⟨.ref a, hσ, C, dd, fs, c, cv, b, h1, h2, T, h3, rfl, k, h4, q⟩
def tFx (K : PySem.W.Frag) (a : Addr) (cls : Value) (d : Option Addr) (i : Nat) (f : Str) : TE := fun σ H Q => σ[i]? = some (some (.ref a)) ∧ ∃ (C dd : Addr) (fs : List (Str × V)) (v : V), cls = .ref C ∧ d = some dd ∧ XfC K C ∧ PySem.W.findIn K (.ref C) f = some none ∧ H dd = some (.xd fs) ∧ fs.lookup f = some v ∧ Q v H
theorem pe_fx {f : Str} (hz : Zc cls d oe) (hf : ∃ vs, oe.data = .fields vs) (hN : X.N[i]? = some n) (hv : Vis X.env.scope n) (hd : (n == ("__debug__" : Str)) = false := by decide) (hcd : (n == ("__classdict__" : Str)) = false := by decide)
    (hb : attributeBase (.Name n p2) f X.env (eval (.Name n p2) X.env) = eval (.Name n p2) X.env := by rfl) : PE (X.suite a ((a, oe) :: pn)) (.Attribute (.Name n p2) f pos) (tFx X.K a cls d i f) := by
  refine ⟨fun pins s σ H Q I ⟨hσ, C, dd, fs, v, h1, h2, T, hno, h3, h4, q⟩ => ?_⟩
  exact (pe_xf T hno hz hf (pe_var (X := X.suite a ((a, oe) :: pn)) hN hv hd hcd) hb).run pins s σ H Q I ⟨.ref a, hσ, rfl, h1, dd, fs, v, h2, h3, h4, q⟩
end
/-- nothing leaves the law -/
theorem law0 {P : Program} {w : World} {K : PySem.W.Frag} {mg : Str → Option Value} {base : Heap} {f : Addr} {fd : FuncData} {ps : List Str} (F : FnAt callerA P w K mg base (L2.CX P w) f fd ps (spLaw K)) : FnAt callerA P w K mg base (fun _ _ _ _ _ _ => False) f fd ps (spLaw K) := by
  intro outer s H args us vs Q E he hb hv hs
  refine codeAny_mono (F outer s H args us vs Q (fun _ _ _ => False) he hb hv hs) fun r s' z => ?_
  match r, z with
  | .error e, ⟨_, _, _, _, _, _, _, _, _, _, _, _, hE⟩ => exact hE.elim
  | .ok (.ret u), z => exact z
  | .ok .next, z => exact z
  | .ok .brk, z => exact z
  | .ok .cont, z => exact z
/-! ### the law's call, at its caller -/
section
variable {P : Program} {w : World} {K : PySem.W.Frag} {mg mb : Str → Option Value} {fa a : Addr} {fd : FuncData} {s₁ : Shared} {vs : List Value} {ns : List Int}
/-- from an abstract heap that tracks the script alone, or nothing -/
theorem call_from {sn : Str} (H : Hp) (KX : K.In s₁.heap) (hns : s₁.heap.Ns mainGlobals mg) (hb : s₁.heap.Ns builtinsNs mb) (hbb : ∀ x : Str, x ≠ "__name__" → mb x = bootBuiltins x) (hlim : s₁.heap.NoLimit) (hg : s₁.gens = #[]) (ha : s₁.heap.get? a = some { cls := .type "list", data := .seq vs.toArray })
    (hl : ns.length ≤ 63) (F : ∀ base : Heap, K.In base → base.Ns mainGlobals mg → FnAt callerA P w K mg base (fun _ _ _ _ _ _ => False) fa fd [sn] (spLaw K)) (hbind : ∀ (s : Shared) (u : Value), BindsTo s fd ⟨[u], []⟩ [(sn, u)])
    (hO : Only H) (hS : SqL K H a (ns.map V.int)) (hok : HOk P w H s₁.heap) (hA : ∀ b, H b ≠ none → b = a) (hK : H a ≠ none → K.lookup a = none) :
    codeAny (model P w) callerA (.call (.ref fa) ⟨[.ref a], []⟩) (fun r s' => r = .ok (.ret (.bool true)) ∧ OldK s₁.heap s'.heap ∧ s'.os = s₁.os ∧ AllBare s'.gens) s₁ := by
  have off : ∀ {b : Addr} {o : Obj}, s₁.heap.get? b = some o → (∀ xs n, o.data ≠ .seq xs n) → H b = none := fun {b o} e d => by
    rcases Option.eq_none_or_eq_some (H b) with q | ⟨u, q⟩
    · exact q
    · have z := hA b (by rw [q]; exact Option.some_ne_none u)
      rw [z, ha] at e
      cases e
      exact absurd rfl (d _ _)
  have names : ∀ {b : Addr} {m : Str → Option Value}, s₁.heap.Ns b m → (hidT s₁.heap H).Ns b m := fun {b m} q => by
    obtain ⟨o, es, ep, e, d, r⟩ := q
    exact ⟨o, es, ep, hidT_get e (off e fun xs n z => by rw [d] at z; cases z), d, r⟩
  have written : K.In (hidT s₁.heap H) := fun b o e => by
    refine hidT_get (KX b o e) ?_
    rcases Option.eq_none_or_eq_some (H b) with q | ⟨u, q⟩
    · exact q
    · have z := hA b (by rw [q]; exact Option.some_ne_none u)
      rw [z] at e q
      rw [hK (by rw [q]; exact Option.some_ne_none u)] at e
      cases e
  obtain ⟨mc, lim1, lim2⟩ := hlim
  have md : Mod K mg (hidT s₁.heap H) := ⟨written, names hns, ⟨mb, names hb, hbb⟩, ⟨mc, names lim1, lim2⟩⟩
  have e0 : Env0 P w K mg (hidT s₁.heap H) callerA [] s₁ H := ⟨rfl, md, fun b o e => of_hidT e, Nat.le_of_eq (hidT_size _ _), trivial, fun b hb => (List.not_mem_nil (show b ∈ ([] : List Addr) from hb)).elim, hok, .of_eq hg⟩
  have run := F _ written (names hns) [] s₁ H ⟨[.ref a], []⟩ [.ref a] [.ref a] (fun v _ => v = .bl true) (fun _ _ _ => False) e0 (hbind s₁ (.ref a)) (.cons rfl .nil) ⟨a, ns, rfl, hO, hS, hl, fun _ => rfl⟩
  refine codeAny_mono run fun r s' h => ?_
  match r, h with
  | .ok (.ret u), h =>
    obtain ⟨v, H', os, bare, un, hok', rv, q⟩ := h
    subst q
    obtain rfl : u = Value.bool true := rv
    refine ⟨rfl, OldK.of_keep fun b o e => ?_, os, bare⟩
    rcases hO b with q | ⟨ob, xs, q⟩
    · exact un.keep b o e q (fun z => List.not_mem_nil (show b ∈ ([] : List Addr) from z)) (fun z => by simp at z)
    · have c1 := (hok b _ q).1
      have c2 := (hok' b _ (un.frzs b ob _ q)).1
      rw [e] at c1
      cases c1
      exact c2
theorem call_script {sn : Str} (KX : K.In s₁.heap) (hns : s₁.heap.Ns mainGlobals mg) (hb : s₁.heap.Ns builtinsNs mb) (hbb : ∀ x : Str, x ≠ "__name__" → mb x = bootBuiltins x) (hlim : s₁.heap.NoLimit) (hg : s₁.gens = #[]) (ha : s₁.heap.get? a = some { cls := .type "list", data := .seq vs.toArray }) (hi : IntsAre vs ns)
    (hl : ns.length ≤ 63) (F : ∀ base : Heap, K.In base → base.Ns mainGlobals mg → FnAt callerA P w K mg base (fun _ _ _ _ _ _ => False) fa fd [sn] (spLaw K)) (hbind : ∀ (s : Shared) (u : Value), BindsTo s fd ⟨[u], []⟩ [(sn, u)]) :
    codeAny (model P w) callerA (.call (.ref fa) ⟨[.ref a], []⟩) (fun r s' => r = .ok (.ret (.bool true)) ∧ OldK s₁.heap s'.heap ∧ s'.os = s₁.os ∧ AllBare s'.gens) s₁ := by
  have rv := vals_ints hi
  have sz : ns.length ≤ sizeLine := Nat.le_trans hl (by decide)
  rcases Option.eq_none_or_eq_some (K.lookup a) with hk | ⟨o, hk⟩
  · let H : Hp := fun b => if b = a then some (.frz { cls := .type "list", data := .seq vs.toArray } (.lst (ns.map V.int))) else none
    have at_ : H a = some (.frz { cls := .type "list", data := .seq vs.toArray } (.lst (ns.map V.int))) := if_pos rfl
    have out : ∀ {b}, b ≠ a → H b = none := fun hb => if_neg hb
    refine call_from H KX hns hb hbb hlim hg ha hl F hbind (fun b => ?_) (.inl (.inr ⟨_, at_⟩)) (fun b u z => ?_) (fun b z => ?_) fun _ => hk
    · by_cases q : b = a
      · subst q; exact .inr ⟨_, _, at_⟩
      · exact .inl (out q)
    · by_cases q : b = a
      · subst q
        rw [at_] at z
        cases z
        exact ⟨ha, by rw [List.length_map]; exact sz, vs, _, rv, ha⟩
      · rw [out q] at z
        cases z
    · by_cases q : b = a
      · exact q
      · exact absurd (out q) z
  · have e := KX a o hk
    rw [ha] at e
    cases e
    refine call_from (fun _ => none) KX hns hb hbb hlim hg ha hl F hbind (fun _ => .inl rfl) (.inr ⟨_, vs.toArray, _, hk, rfl, rfl, rfl, by rw [List.size_toArray, hi.length]; exact sz, by simpa using rv⟩) (fun b u z => nomatch (show (none : Option HO) = some u from z)) (fun b z => absurd rfl z) fun z => absurd rfl z
end
/-- the goal behind k_head -/
theorem walk_at_caller {sn : Str} {l : PySem.W.OpenLaw} {q : Program} {loose : List Str} {XP : (Str → Option Value) → Heap → Prop} {YP : World → Heap → Prop} {d : DefRec} (hn : l.most = some 63) (hdf : d.params.defaults = [])
    (F : ∀ (w : World) (mg : Str → Option Value) (fa : Addr) (h : Heap), YP w h → h.Ns mainGlobals mg → mg d.name = some (.ref fa) →
      ∃ (K : PySem.W.Frag) (fd : FuncData), K.In h ∧ (∀ (s : Shared) (u : Value), BindsTo s fd ⟨[u], []⟩ [(sn, u)]) ∧ ∀ base : Heap, K.In base → base.Ns mainGlobals mg → FnAt callerA l.prog w K mg base (fun _ _ _ _ _ _ => False) fa fd [sn] (spLaw K)) :
    PySem.W.WalkO q loose XP YP l.row.toRowW d [] (fun f vs => PySem.call f vs) := by
  refine Att.attach_call hn hdf fun w s₀ s₁ mg mb fa o pm cd doc a vs ns G Y ho hd hcd hmg hobj hints hlen hg => ?_
  obtain ⟨K, fd, KX, hb, hF⟩ := F w mg fa _ Y G.T.g hmg
  exact call_script KX G.T.g G.T.b G.T.builtins G.T.nolimit hg hobj hints hlen hF hb
end Oz

end

section
set_option maxHeartbeats 4000000
/-! OzS: running the small language step by step. -/
namespace Oz
open PySem PySem.Spec PyProof.Rows L2
section
variable {α β : Type} {Φ : Cal} {env : Env} {S : Sto} {a b : U} {i j : Int} {x y : Str} {k : Bool} {c f : Str} {fs : List (Str × U)} {us : List U}
theorem bind_ok {u : α} {g : α → Sto → R β} : (R.ok u S).bind g = g u S := rfl
theorem bind_exc {g : α → Sto → R β} : (R.exc c fs S : R α).bind g = .exc c fs S := rfl
theorem bind_bad {g : α → Sto → R β} : (R.bad : R α).bind g = .bad := rfl
theorem on_ok {u : α} {g : α → Sto → O} : (R.ok u S).on g = g u S := rfl
theorem on_exc {g : α → Sto → O} : (R.exc c fs S : R α).on g = .exc c fs S := rfl
theorem then_nx {g : Env → Sto → O} : (O.nx env S).then_ g = g env S := rfl
theorem then_ret {g : Env → Sto → O} : (O.ret a S).then_ g = .ret a S := rfl
theorem then_exc {g : Env → Sto → O} : (O.exc c fs S).then_ g = .exc c fs S := rfl
theorem then_bk {g : Env → Sto → O} : (O.bk env S).then_ g = .bk env S := rfl
theorem then_ct {g : Env → Sto → O} : (O.ct env S).then_ g = .ct env S := rfl
theorem turn_nx {g : Env → Sto → O} : (O.nx env S).turn g = g env S := rfl
theorem turn_ret {g : Env → Sto → O} : (O.ret a S).turn g = .ret a S := rfl
theorem turn_exc {g : Env → Sto → O} : (O.exc c fs S).turn g = .exc c fs S := rfl
theorem fin_nx : (O.nx env S).fin = .ok .non S := rfl
theorem fin_ret : (O.ret a S).fin = .ok a S := rfl
theorem fin_exc : (O.exc c fs S).fin = .exc c fs S := rfl
theorem rO_some {u : α} : rO (some u) S = .ok u S := rfl
theorem noex_ok {u : α} : (R.ok u S).noex = .ok u S := rfl
theorem ev_v (n : Nat) : ev Φ (.v n) env S = (match env[n]? with | some (some u) => .ok u S | _ => .bad) := rfl
theorem ev_v' {n : Nat} {u : U} (h : env[n]? = some (some u)) : ev Φ (.v n) env S = .ok u S := by rw [ev_v, h]
theorem ev_k {u : U} : ev Φ (.k u) env S = .ok u S := rfl
theorem ev_g {u : U} (h : Φ.glo x = some u) : ev Φ (.g x) env S = .ok u S := by rw [ev, h]; rfl
theorem ev_tup {es : Es} : ev Φ (.tup es) env S = (evs Φ es env S).bind fun us S => if us.length ≤ sizeLine then .ok (.tup us) S else .bad := rfl
theorem ev_lst {es : Es} : ev Φ (.lst es) env S = (evs Φ es env S).bind fun us S => if us.length ≤ sizeLine then .ok (.loc S.length) (S ++ [.lst us]) else .bad := rfl
theorem ev_bin {o : Op} {e e' : E} : ev Φ (.bin o e e') env S = (ev Φ e env S).bind fun x S => (ev Φ e' env S).bind fun y S => binU o x y S := rfl
theorem ev_neg {e : E} : ev Φ (.neg e) env S = (ev Φ e env S).bind fun x S => (match x with | .int i => .ok (.int (-i)) S | _ => .bad) := rfl
theorem ev_cmp {o : Cm} {e e' : E} : ev Φ (.cmp o e e') env S = (ev Φ e env S).bind fun x S => (ev Φ e' env S).bind fun y S => cmpU o x y S := rfl
theorem ev_and {e e' : E} : ev Φ (.and e e') env S = (ev Φ e env S).bind fun x S => (match x with | .bl true => ev Φ e' env S | .bl false => .ok (.bl false) S | _ => .bad) := rfl
theorem ev_or {e e' : E} : ev Φ (.or e e') env S = (ev Φ e env S).bind fun x S => (match x with | .bl true => .ok (.bl true) S | .bl false => ev Φ e' env S | _ => .bad) := rfl
theorem ev_not {e : E} : ev Φ (.not e) env S = (ev Φ e env S).bind fun x S => (match x with | .bl k => .ok (.bl (!k)) S | _ => .bad) := rfl
theorem ev_ife {t : T} {e e' : E} : ev Φ (.ife t e e') env S = (evt Φ t env S).bind fun k S => if k then ev Φ e env S else ev Φ e' env S := rfl
theorem ev_ix {e e' : E} : ev Φ (.ix e e') env S = (ev Φ e env S).bind fun x S => (ev Φ e' env S).bind fun y S => ixU x y S := rfl
theorem ev_sl {e : E} {l h : Eo} : ev Φ (.sl e l h) env S = (ev Φ e env S).bind fun x S => (evo Φ l env S).bind fun l S => (evo Φ h env S).bind fun h S => slU x l h S := rfl
theorem ev_fld {e : E} {C : Str} : ev Φ (.fld e C f) env S = (ev Φ e env S).bind fun x S => (match x with
      | .loc n => (match S[n]? with | some (.ins D fs) => if D = C then rO (fs.lookup f) S else .bad | _ => .bad)
      | _ => .bad) := rfl
theorem ev_call {es : Es} : ev Φ (.call f es) env S = (evs Φ es env S).bind fun us S => Φ.call f us S := rfl
theorem ev_meth {e : E} {C : Str} {es : Es} : ev Φ (.meth e C f es) env S = (ev Φ e env S).bind fun x S => (match x with
      | .loc n => (match S[n]? with
        | some (.ins D fs) => if D = C ∧ fs.lookup f = none then (evs Φ es env S).bind fun us S => Φ.call (C ++ "." ++ f) (.loc n :: us) S else .bad
        | _ => .bad)
      | _ => .bad) := rfl
theorem ev_mk {C : Str} {es : Es} : ev Φ (.mk C es) env S = (evs Φ es env S).bind fun us S => (Φ.init (C ++ ".__init__") (.loc S.length :: us) (S ++ [.ins C []])).bind fun u S' => (match u with | .non => .ok (.loc S.length) S' | _ => .bad) := rfl
theorem ev_bf {g : Bf} {es : Es} : ev Φ (.bf g es) env S = (evs Φ es env S).bind fun us S => bfU g us S := rfl
theorem ev_bm {g : Bm} {e : E} {es : Es} : ev Φ (.bm g e es) env S = (ev Φ e env S).bind fun x S => if tyB g x S then (evs Φ es env S).bind fun us S => bmU g x us S else .bad := rfl
theorem ev_lc {is : List Nat} {tp : Bool} {e e' : E} {t : T} : ev Φ (.lc is tp e e' t) env S = (ev Φ e' env S).bind fun x S => (match iterU S x with
      | some (us, src) => (lcI tp is (wipeE env is) (fun env S => (evt Φ t env S).noex) (fun env S => (ev Φ e env S).noex) S.length us src us (S ++ [.lst []])).bind fun _ S' => .ok (.loc S.length) S'
      | none => .bad) := rfl
theorem evo_no : evo Φ .no env S = .ok none S := rfl
theorem evo_so {e : E} : evo Φ (.so e) env S = (ev Φ e env S).bind fun x S => (match x with | .int i => .ok (some i) S | _ => .bad) := rfl
theorem evs_nil : evs Φ .nil env S = .ok [] S := rfl
theorem evs_cons {e : E} {es : Es} : evs Φ (.cons e es) env S = (ev Φ e env S).bind fun u S => (evs Φ es env S).bind fun us S => .ok (u :: us) S := rfl
theorem evs_star {e : E} {es : Es} : evs Φ (.star e es) env S = (ev Φ e env S).bind fun u S => (match items? S u with | some xs => (evs Φ es env S).bind fun us S => .ok (xs ++ us) S | none => .bad) := rfl
theorem evt_tt : evt Φ .tt env S = .ok true S := rfl
theorem evt_e {e : E} : evt Φ (.e e) env S = (ev Φ e env S).bind fun x S => rO (truU x S) S := rfl
theorem evt_and {e e' : T} : evt Φ (.and e e') env S = (evt Φ e env S).bind fun k S => if k then evt Φ e' env S else .ok false S := rfl
theorem evt_or {e e' : T} : evt Φ (.or e e') env S = (evt Φ e env S).bind fun k S => if k then .ok true S else evt Φ e' env S := rfl
theorem evt_not {e : T} : evt Φ (.not e) env S = (evt Φ e env S).bind fun k S => .ok (!k) S := rfl
theorem ev_rev {e : E} : ev Φ (.rev e) env S = (ev Φ e env S).bind fun x S => revU x S := rfl
theorem ex_lset {is : List Nat} {e : E} : ex Φ (.lset is e) env S = (ev Φ e env S).on fun u S => (match list? S u with | some us => if us.length = is.length then .nx (setAll is us env) S else .bad | none => .bad) := rfl
theorem ex_set {tp : Bool} {is : List Nat} {e : E} : ex Φ (.set tp is e) env S = (ev Φ e env S).on fun u S => (match setN tp is u env with | some env => .nx env S | none => .bad) := rfl
theorem ex_sub {o i e : E} : ex Φ (.sub o i e) env S = (ev Φ e env S).on fun u S => (ev Φ o env S).on fun a S => (ev Φ i env S).on fun k S => (setItemU a k u S).on fun _ S => .nx env S := rfl
theorem ex_aug {n : Nat} {o : Op} {e : E} : ex Φ (.aug n o e) env S = (match env[n]? with | some (some a) => (ev Φ e env S).on fun b S => (augU o a b S).on fun u S => .nx (env.set n (some u)) S | _ => .bad) := rfl
theorem ex_aug' {n : Nat} {u : U} {o : Op} {e : E} (h : env[n]? = some (some u)) : ex Φ (.aug n o e) env S = (ev Φ e env S).on fun b S => (augU o u b S).on fun u S => .nx (env.set n (some u)) S := by rw [ex_aug, h]
theorem ex_fset {o : E} {C : Str} {e : E} : ex Φ (.fset o C f e) env S = (ev Φ e env S).on fun u S => (ev Φ o env S).on fun a S => (setFldU a C f u S).on fun _ S => .nx env S := rfl
theorem ex_faug {o : E} {C : Str} {op : Op} {e : E} : ex Φ (.faug o C f op e) env S = (ev Φ o env S).on fun a S => (match a with
      | .loc n => (match S[n]? with
        | some (.ins D fs) => if D = C then (match fs.lookup f with | some x => (ev Φ e env S).on fun y S => (augU op x y S).on fun z S => (setFldU (.loc n) C f z S).on fun _ S => .nx env S | none => .bad) else .bad
        | _ => .bad)
      | _ => .bad) := rfl
theorem ex_ex {e : E} : ex Φ (.ex e) env S = (ev Φ e env S).on fun _ S => .nx env S := rfl
theorem ex_ret {e : E} : ex Φ (.ret e) env S = (ev Φ e env S).on fun u S => .ret u S := rfl
theorem ex_if {t : T} {s s' : Sts} : ex Φ (.if_ t s s') env S = (evt Φ t env S).on fun k S => if k then exs Φ s env S else exs Φ s' env S := rfl
theorem ex_while {t : T} {s : Sts} : ex Φ (.while_ t s) env S = loopI (fun env S => evt Φ t env S) (fun env S => exs Φ s env S) fuel env S := rfl
theorem ex_for {tp : Bool} {is : List Nat} {e : E} {s : Sts} : ex Φ (.for_ tp is e s) env S = (ev Φ e env S).on fun x S => (match iterU S x with
      | some (us, src) => forI tp is (fun env S => exs Φ s env S) us src us env S
      | none => .bad) := rfl
theorem ex_raise {C : Str} {e : E} {g : Str} (h : Φ.xf C = some g) : ex Φ (.raise C e) env S = (ev Φ e env S).on fun u S => .exc C [(g, u)] S := by rw [ex, h]
theorem exs_nil : exs Φ .nil env S = .nx env S := rfl
theorem exs_cons {s : St} {ss : Sts} : exs Φ (.cons s ss) env S = (ex Φ s env S).then_ fun env S => exs Φ ss env S := rfl
theorem tru_bl : truU (.bl k) S = some k := rfl
theorem tru_int : truU (.int i) S = some (i != 0) := rfl
theorem add_int : binU .add (.int i) (.int j) S = .ok (.int (i + j)) S := rfl
theorem sub_int : binU .sub (.int i) (.int j) S = .ok (.int (i - j)) S := rfl
theorem add_str (h : x.length + y.length ≤ sizeLine) : binU .add (.str x) (.str y) S = .ok (.str (x ++ y)) S := if_pos h
theorem add_tup {xs ys : List U} (h : xs.length + ys.length ≤ sizeLine) : binU .add (.tup xs) (.tup ys) S = .ok (.tup (xs ++ ys)) S := if_pos h
theorem aug_add_int : augU .add (.int i) (.int j) S = .ok (.int (i + j)) S := rfl
theorem aug_sub_int : augU .sub (.int i) (.int j) S = .ok (.int (i - j)) S := rfl
theorem c_eq_int : cmpU .eq (.int i) (.int j) S = .ok (.bl (decide (i = j))) S := rfl
theorem c_ne_int : cmpU .ne (.int i) (.int j) S = .ok (.bl (!decide (i = j))) S := rfl
theorem c_lt_int : cmpU .lt (.int i) (.int j) S = .ok (.bl (decide (i < j))) S := rfl
theorem c_le_int : cmpU .le (.int i) (.int j) S = .ok (.bl (decide (i ≤ j))) S := rfl
theorem c_gt_int : cmpU .gt (.int i) (.int j) S = .ok (.bl (decide (j < i))) S := rfl
theorem c_ge_int : cmpU .ge (.int i) (.int j) S = .ok (.bl (decide (j ≤ i))) S := rfl
theorem c_eq_str : cmpU .eq (.str x) (.str y) S = .ok (.bl (decide (x = y))) S := rfl
theorem c_ne_str : cmpU .ne (.str x) (.str y) S = .ok (.bl (!decide (x = y))) S := rfl
theorem ix_tup {xs : List U} : ixU (.tup xs) (.int i) S = (match atI xs i with | some u => .ok u S | none => .bad) := rfl
theorem ix_loc {n : Nat} {xs : List U} (h : S[n]? = some (.lst xs)) : ixU (.loc n) (.int i) S = (match atI xs i with | some u => .ok u S | none => .bad) := by
  simp only [ixU, items?, h] <;> rfl
theorem atI_nat_own {xs : List α} {n : Nat} {u : α} (h : xs[n]? = some u) : atI xs (n : Int) = some u := by
  have hl : n < xs.length := (List.getElem?_eq_some_iff.mp h).1
  unfold atI ixN
  rw [if_pos (by omega), if_pos (by omega)]
  simpa using h
theorem set_int {n : Nat} : setN false [n] a env = some (env.set n (some a)) := rfl
theorem set_tup {is : List Nat} (h : us.length = is.length) : setN true is (.tup us) env = some (setAll is us env) := if_pos h
theorem set_same {S : Sto} {n : Nat} {c : Cel} (h : S[n]? = some c) : S.set n c = S := by
  obtain ⟨hn, e⟩ := List.getElem?_eq_some_iff.mp h
  subst e
  simp
/-- a comprehension, all items taken -/
theorem lcI_all {tp : Bool} {is : List Nat} {env : Env} {c : Env → Sto → R Bool} {f : Env → Sto → R U} {n : Nat} {all : List U} {src : Option Nat} {g : U → U} : ∀ {us : List U} {S : Sto} {acc : List U}
    (hc : ∀ u ∈ us, ∃ env', setN tp is u env = some env' ∧ ∀ S, c env' S = .ok true S ∧ f env' S = .ok (g u) S) (hs : ∀ x, stays (S.set n (.lst x)) all src = true) (hS : S[n]? = some (.lst acc)) (hz : acc.length + us.length ≤ sizeLine),
    lcI tp is env c f n all src us S = .ok () (S.set n (.lst (acc ++ us.map g)))
  | [], S, acc, hc, hs, hS, hz => by
    have h0 : stays S all src = true := by have := hs acc; rwa [set_same hS] at this
    unfold lcI
    rw [if_pos h0, List.map_nil, List.append_nil, set_same hS]
  | u :: us, S, acc, hc, hs, hS, hz => by
    have h0 : stays S all src = true := by have := hs acc; rwa [set_same hS] at this
    obtain ⟨env', e1, e2⟩ := hc u List.mem_cons_self
    have hn : n < S.length := (List.getElem?_eq_some_iff.mp hS).1
    unfold lcI
    rw [if_pos h0]
    simp only [e1, (e2 S).1, (e2 S).2, bind_ok, if_true]
    have hp : pushAt n (g u) S = .ok () (S.set n (.lst (acc ++ [g u]))) := by
      unfold pushAt
      simp only [hS]
      rw [if_pos (by simp at hz; omega)]
    simp only [hp, bind_ok]
    rw [lcI_all (g := g) (acc := acc ++ [g u]) (fun v hv => hc v (List.mem_cons_of_mem _ hv)) (fun x => by rw [List.set_set]; exact hs x) (by rw [List.getElem?_set_self hn]) (by simp at hz ⊢; omega)]
    simp [List.set_set]
theorem last_get {S : Sto} {c : Cel} : (S ++ [c])[S.length]? = some c := by simp
theorem last_set {S : Sto} {c c' : Cel} : (S ++ [c]).set S.length c' = S ++ [c'] := by simp
theorem max_loc {S : Sto} {n : Nat} {us : List U} {ns : List Int} (h : S[n]? = some (.lst us)) (hi : intsU us = some ns) (hp : 0 < ns.length) : bfU .max [.loc n] S = .ok (.int (maxI ns)) S := by
  unfold bfU maxF
  simp only [list?, h, Option.bind_some, hi]
  rw [if_pos hp]
theorem tup_loc {S : Sto} {n : Nat} {us : List U} (h : S[n]? = some (.lst us)) : bfU .tup [.loc n] S = .ok (.tup us) S := by
  unfold bfU tupF
  simp only [items?, h]
theorem len_loc {S : Sto} {n : Nat} {us : List U} (h : S[n]? = some (.lst us)) : bfU .len [.loc n] S = .ok (.int us.length) S := by
  unfold bfU lenF lenU
  simp only [items?, h, Option.map_some]
theorem len_tup {S : Sto} {us : List U} : bfU .len [.tup us] S = .ok (.int us.length) S := rfl
theorem len_str {S : Sto} {x : Str} (h : x.length ≤ sizeLine) : bfU .len [.str x] S = .ok (.int x.length) S := by
  simp only [bfU, lenF, lenU, h, if_true]
end
end Oz

end
local macro_rules
  | `(tactic| simp_arith [$ls,*] $[$l:location]?) => `(tactic| simp only [Oz.bind_ok, Oz.bind_exc, Oz.bind_bad, Oz.on_ok, Oz.on_exc, Oz.then_nx, Oz.then_ret, Oz.then_exc, Oz.then_bk, Oz.then_ct, Oz.turn_nx, Oz.turn_ret, Oz.turn_exc, Oz.fin_nx, Oz.fin_ret, Oz.fin_exc, Oz.rO_some, Oz.noex_ok,
      Oz.ev_v, Oz.ev_k, Oz.ev_tup, Oz.ev_lst, Oz.ev_bin, Oz.ev_neg, Oz.ev_cmp, Oz.ev_and, Oz.ev_or, Oz.ev_not, Oz.ev_ife, Oz.ev_ix, Oz.ev_sl, Oz.ev_fld, Oz.ev_call, Oz.ev_meth, Oz.ev_mk, Oz.ev_bf, Oz.ev_bm, Oz.ev_lc, Oz.evo_no, Oz.evo_so, Oz.evs_nil, Oz.evs_cons, Oz.evs_star, Oz.evt_tt, Oz.evt_e, Oz.evt_and, Oz.evt_or, Oz.evt_not,
      Oz.ex_set, Oz.ex_sub, Oz.ex_aug, Oz.ex_fset, Oz.ex_faug, Oz.ex_ex, Oz.ex_ret, Oz.ex_if, Oz.ex_while, Oz.ex_for, Oz.exs_nil, Oz.exs_cons, Oz.tru_bl, Oz.tru_int, Oz.add_int, Oz.sub_int, Oz.aug_add_int, Oz.aug_sub_int, Oz.c_eq_int, Oz.c_ne_int, Oz.c_lt_int, Oz.c_le_int, Oz.c_gt_int, Oz.c_ge_int, Oz.c_eq_str, Oz.c_ne_str, Oz.ix_tup,
      Oz.set_int, List.replicate_succ, List.replicate_zero, List.getElem?_cons_zero, List.getElem?_cons_succ, List.set_cons_zero, List.set_cons_succ, List.map_cons, List.map_nil, List.cons_append, List.nil_append, List.append_nil, if_true, if_false, Bool.false_eq_true, Bool.true_eq_false, decide_eq_true_eq, true_and, and_true, $ls,*] $[$l:location]?)
section
set_option maxHeartbeats 4000000

end

section
set_option maxHeartbeats 4000000
/-! OzP: the store grows; comprehensions as wholes; plain data. -/
namespace Oz
open PySem PySem.Spec PyProof.Rows L2
section
variable {S S' S'' : Sto}
/-- nothing that stood is changed -/
def Gr (S S' : Sto) : Prop := S.length ≤ S'.length ∧ ∀ k, k < S.length → S'[k]? = S[k]?
theorem Gr.refl : Gr S S := ⟨Nat.le_refl _, fun _ _ => rfl⟩
theorem Gr.trans (a : Gr S S') (b : Gr S' S'') : Gr S S'' := ⟨Nat.le_trans a.1 b.1, fun k h => (b.2 k (Nat.lt_of_lt_of_le h a.1)).trans (a.2 k h)⟩
theorem Gr.push {c : Cel} : Gr S (S ++ [c]) := ⟨by simp, fun k h => List.getElem?_append_left h⟩
theorem Gr.set_new {c : Cel} {k : Nat} (h : S.length ≤ k) (g : Gr S S') : Gr S (S'.set k c) := ⟨by simp; exact g.1, fun j hj => by rw [List.getElem?_set_ne (by omega)]; exact g.2 j hj⟩
theorem Gr.at_ (g : Gr S S') {k : Nat} {c : Cel} (h : S[k]? = some c) : S'[k]? = some c := (g.2 k (List.getElem?_eq_some_iff.mp h).1).trans h
inductive All2 {α β : Type} (Q : α → β → Prop) : List α → List β → Prop
  | nil : All2 Q [] []
  | cons {a : α} {b : β} {as : List α} {bs : List β} : Q a b → All2 Q as bs → All2 Q (a :: as) (b :: bs)
theorem All2.length {α β : Type} {Q : α → β → Prop} {as : List α} {bs : List β} (h : All2 Q as bs) : bs.length = as.length := by
  induction h with
  | nil => rfl
  | cons _ _ ih => simp [ih]
theorem All2.map_eq {α β : Type} {g : α → β} {as : List α} {bs : List β} (h : All2 (fun a b => b = g a) as bs) : bs = as.map g := by
  induction h with
  | nil => rfl
  | cons q _ ih => rw [q, ih]; rfl
/-! ### the turns of a comprehension -/
variable {tp : Bool} {is : List Nat} {env : Env} {n : Nat}
theorem lcI_none {c : Env → Sto → R Bool} {f : Env → Sto → R U} {all : List U} : ∀ (us : List U) (S : Sto), lcI tp is env c f n all none us S = lcJ tp is env c f n (fun _ => true) us S
  | [], S => rfl
  | u :: us, S => by
    unfold lcI lcJ
    simp only [stays, if_true]
    cases setN tp is u env with
    | none => rfl
    | some env' =>
      simp only
      congr 1
      funext b S1
      cases b with
      | true =>
        simp only [if_true]
        congr 1
        funext y S2
        congr 1
        funext _ S3
        exact lcI_none us S3
      | false =>
        simp only [Bool.false_eq_true, if_false]
        exact lcI_none us S1
theorem pushAt_ok {u : U} {acc : List U} (h : S[n]? = some (.lst acc)) (hz : acc.length < sizeLine) : pushAt n u S = .ok () (S.set n (.lst (acc ++ [u]))) := by
  unfold pushAt
  simp only [h]
  rw [if_pos hz]
theorem lcJ_rel {α : Type} {fu : α → U} {c : Env → Sto → R Bool} {f : Env → Sto → R U} {Inv : Sto → Prop} {Q : α → U → Prop} (hi : ∀ S x, Inv S → Inv (S.set n (.lst x))) : ∀ {us : List α} {S : Sto} {acc : List U}
    (hf : ∀ u ∈ us, ∃ env', setN tp is (fu u) env = some env' ∧ ∀ S, Inv S → n < S.length → c env' S = .ok true S ∧ ∃ y S', f env' S = .ok y S' ∧ Q u y ∧ Inv S' ∧ S.length ≤ S'.length ∧ S'[n]? = S[n]?) (h0 : Inv S) (hS : S[n]? = some (.lst acc)) (hz : acc.length + us.length ≤ sizeLine),
    ∃ ys S', lcJ tp is env c f n (fun _ => true) (us.map fu) S = .ok () S' ∧ All2 Q us ys ∧ Inv S' ∧ S.length ≤ S'.length ∧ S'[n]? = some (.lst (acc ++ ys))
  | [], S, acc, hf, h0, hS, hz => ⟨[], S, rfl, .nil, h0, Nat.le_refl _, by rw [List.append_nil]; exact hS⟩
  | u :: us, S, acc, hf, h0, hS, hz => by
    obtain ⟨env', e1, e2⟩ := hf u List.mem_cons_self
    have hn : n < S.length := (List.getElem?_eq_some_iff.mp hS).1
    obtain ⟨ec, y, S1, e3, q, h1, l1, k1⟩ := e2 S h0 hn
    have hS1 : S1[n]? = some (.lst acc) := k1.trans hS
    have hn1 : n < S1.length := by omega
    obtain ⟨ys, S2, e4, q2, h2, l2, k2⟩ := lcJ_rel (us := us) (acc := acc ++ [y]) hi (fun v hv => hf v (List.mem_cons_of_mem _ hv)) (hi S1 (acc ++ [y]) h1) (by rw [List.getElem?_set_self hn1]) (by simp at hz ⊢; omega)
    refine ⟨y :: ys, S2, ?_, .cons q q2, h2, by simp at l2; omega, by rw [k2, List.append_assoc]; rfl⟩
    rw [List.map_cons]
    unfold lcJ
    simp only [if_true, e1, ec, bind_ok, e3, pushAt_ok hS1 (show acc.length < sizeLine by simp at hz; omega)]
    exact e4
theorem lcJ_fil {α : Type} {fu : α → U} {c : Env → Sto → R Bool} {f : Env → Sto → R U} {Inv : Sto → Prop} {b : α → Bool} {g : α → U} (hi : ∀ S x, Inv S → Inv (S.set n (.lst x))) : ∀ {us : List α} {S : Sto} {acc : List U}
    (hf : ∀ u ∈ us, ∃ env', setN tp is (fu u) env = some env' ∧ ∀ S, Inv S → n < S.length → ∃ S', c env' S = .ok (b u) S' ∧ Inv S' ∧ S.length ≤ S'.length ∧ S'[n]? = S[n]? ∧ f env' S' = .ok (g u) S') (h0 : Inv S) (hS : S[n]? = some (.lst acc)) (hz : acc.length + us.length ≤ sizeLine),
    ∃ S', lcJ tp is env c f n (fun _ => true) (us.map fu) S = .ok () S' ∧ Inv S' ∧ S.length ≤ S'.length ∧ S'[n]? = some (.lst (acc ++ (us.filter b).map g))
  | [], S, acc, hf, h0, hS, hz => ⟨S, rfl, h0, Nat.le_refl _, by simpa using hS⟩
  | u :: us, S, acc, hf, h0, hS, hz => by
    obtain ⟨env', e1, e2⟩ := hf u List.mem_cons_self
    have hn : n < S.length := (List.getElem?_eq_some_iff.mp hS).1
    obtain ⟨S1, ec, h1, l1, k1, e3⟩ := e2 S h0 hn
    have hS1 : S1[n]? = some (.lst acc) := k1.trans hS
    have hn1 : n < S1.length := by omega
    cases hb : b u with
    | true =>
      obtain ⟨S2, e4, h2, l2, k2⟩ := lcJ_fil (us := us) (acc := acc ++ [g u]) hi (fun v hv => hf v (List.mem_cons_of_mem _ hv)) (hi S1 (acc ++ [g u]) h1) (by rw [List.getElem?_set_self hn1]) (by simp at hz ⊢; omega)
      refine ⟨S2, ?_, h2, by simp at l2; omega, by rw [k2]; simp [hb]⟩
      rw [List.map_cons]
      unfold lcJ
      simp only [if_true, e1, ec, hb, bind_ok, e3, pushAt_ok hS1 (show acc.length < sizeLine by simp at hz; omega)]
      exact e4
    | false =>
      obtain ⟨S2, e4, h2, l2, k2⟩ := lcJ_fil (us := us) (acc := acc) hi (fun v hv => hf v (List.mem_cons_of_mem _ hv)) h1 hS1 (by simp at hz ⊢; omega)
      refine ⟨S2, ?_, h2, by omega, by rw [k2]; simp [hb]⟩
      rw [List.map_cons]
      unfold lcJ
      simp only [if_true, e1, ec, hb, bind_ok, Bool.false_eq_true, if_false]
      exact e4
end
/-! ### comprehensions as wholes -/
section
variable {S S0 : Sto} {Φ : Cal} {tp : Bool} {is : List Nat} {env : Env} {elt it a b : E} {es : Es} {t : T} {us xs ys : List U} {i j : Int}
theorem lc_run (hit : ev Φ it env S = .ok (.tup us) S0) : ev Φ (.lc is tp elt it t) env S = (lcJ tp is (wipeE env is) (fun env S => (evt Φ t env S).noex) (fun env S => (ev Φ elt env S).noex) S0.length (fun _ => true) us (S0 ++ [.lst []])).bind fun _ S' => .ok (.loc S0.length) S' := by
  rw [ev_lc, hit, bind_ok]
  simp only [iterU, lcI_none]
theorem lcr_run (ha : ev Φ a env S = .ok (.int i) S) (hb : ev Φ b env S = .ok (.int j) S) (hi : -(2 ^ 62) ≤ i ∧ i < 2 ^ 62 ∧ -(2 ^ 62) ≤ j ∧ j < 2 ^ 62) :
    ev Φ (.lcr is elt a b t) env S = (lcJ false is (wipeE env is) (fun env S => (evt Φ t env S).noex) (fun env S => (ev Φ elt env S).noex) S.length (fun _ => true) (ranged i j) (S ++ [.lst []])).bind fun _ S' => .ok (.loc S.length) S' := by
  rw [ev, ha, bind_ok, hb, bind_ok]
  simp only [if_pos hi, lcI_none]
theorem lcz_run (he : evs Φ es env S = .ok [.tup xs, .tup ys] S0) : ev Φ (.lcz is elt es t) env S = (lcJ true is (wipeE env is) (fun env S => (evt Φ t env S).noex) (fun env S => (ev Φ elt env S).noex) S0.length (fun _ => true) (zipped xs ys) (S0 ++ [.lst []])).bind fun _ S' => .ok (.loc S0.length) S' := by
  rw [ev, he, bind_ok]
  simp only [zipU]
/-- each item by a pure function -/
def PureAt {α : Type} (Φ : Cal) (tp : Bool) (is : List Nat) (env : Env) (elt : E) (l : List α) (fu g : α → U) : Prop := ∀ u ∈ l, ∃ env', setN tp is (fu u) (wipeE env is) = some env' ∧ ∀ S1, ∃ S2, ev Φ elt env' S1 = .ok (g u) S2 ∧ Gr S1 S2
variable {α : Type} {l : List α} {fu g : α → U} {k : α → Bool}
theorem lcJ_pure (h : PureAt Φ tp is env elt l fu g) (hz : l.length ≤ sizeLine) : ∃ S', (lcJ tp is (wipeE env is) (fun env S => (evt Φ .tt env S).noex) (fun env S => (ev Φ elt env S).noex) S.length (fun _ => true) (l.map fu) (S ++ [.lst []])).bind (fun _ S' => (R.ok (U.loc S.length) S' : R U)) = .ok (.loc S.length) S' ∧ Gr S S' ∧ S'[S.length]? = some (.lst (l.map g)) := by
  obtain ⟨ys, S', e, q, g1, _, k⟩ := lcJ_rel (tp := tp) (is := is) (env := wipeE env is) (n := S.length) (c := fun env S => (evt Φ .tt env S).noex) (f := fun env S => (ev Φ elt env S).noex) (Inv := fun S1 => Gr S S1) (Q := fun u y => y = g u) (fu := fu) (us := l) (S := S ++ [.lst []]) (acc := [])
    (fun S1 x h1 => h1.set_new (Nat.le_refl _)) (fun u hu => by
      obtain ⟨env', e1, e2⟩ := h u hu
      refine ⟨env', e1, fun S1 h1 hn => ⟨rfl, ?_⟩⟩
      obtain ⟨S2, e3, g2⟩ := e2 S1
      exact ⟨g u, S2, by simp only [e3]; rfl, rfl, h1.trans g2, g2.1, g2.2 _ hn⟩) Gr.push last_get (by simpa using hz)
  exact ⟨S', by rw [e, bind_ok], g1, by rw [k, q.map_eq]; rfl⟩
theorem lc_pure (hit : ev Φ it env S = .ok (.tup (l.map fu)) S0) (h : PureAt Φ tp is env elt l fu g) (hz : l.length ≤ sizeLine) : ∃ S', ev Φ (.lc is tp elt it .tt) env S = .ok (.loc S0.length) S' ∧ Gr S0 S' ∧ S'[S0.length]? = some (.lst (l.map g)) := by
  rw [lc_run hit]
  exact lcJ_pure h hz
theorem zipped_map {β : Type} {f : β → U} : ∀ xs ys : List β, zipped (xs.map f) (ys.map f) = (xs.zip ys).map fun p => .tup [f p.1, f p.2]
  | [], _ => by simp [zipped]
  | _ :: _, [] => by simp [zipped]
  | x :: xs, y :: ys => by simp [zipped, zipped_map xs ys]
theorem lcz_pure {β : Type} {f : β → U} {xs ys : List β} {g : β × β → U} (he : evs Φ es env S = .ok [.tup (xs.map f), .tup (ys.map f)] S0) (h : PureAt Φ true is env elt (xs.zip ys) (fun p => .tup [f p.1, f p.2]) g) (hz : (xs.zip ys).length ≤ sizeLine) :
    ∃ S', ev Φ (.lcz is elt es .tt) env S = .ok (.loc S0.length) S' ∧ Gr S0 S' ∧ S'[S0.length]? = some (.lst ((xs.zip ys).map g)) := by
  rw [lcz_run he, zipped_map]
  exact lcJ_pure h hz
theorem lcr_pure {g : Nat → U} (ha : ev Φ a env S = .ok (.int i) S) (hb : ev Φ b env S = .ok (.int j) S) (hi : -(2 ^ 62) ≤ i ∧ i < 2 ^ 62 ∧ -(2 ^ 62) ≤ j ∧ j < 2 ^ 62) (h : PureAt Φ false is env elt (List.range (j - i).toNat) (fun k => U.int (i + (k : Nat))) g) (hz : (j - i).toNat ≤ sizeLine) :
    ∃ S', ev Φ (.lcr is elt a b .tt) env S = .ok (.loc S.length) S' ∧ Gr S S' ∧ S'[S.length]? = some (.lst ((List.range (j - i).toNat).map g)) := by
  rw [lcr_run ha hb hi]
  exact lcJ_pure h (by simpa using hz)
/-- those items of which the test is true -/
def TestAt {α : Type} (Φ : Cal) (tp : Bool) (is : List Nat) (env : Env) (elt : E) (t : T) (l : List α) (fu g : α → U) (k : α → Bool) : Prop := ∀ u ∈ l, ∃ env', setN tp is (fu u) (wipeE env is) = some env' ∧ ∀ S1, ∃ S2, evt Φ t env' S1 = .ok (k u) S2 ∧ Gr S1 S2 ∧ ev Φ elt env' S2 = .ok (g u) S2
theorem lcJ_test (h : TestAt Φ tp is env elt t l fu g k) (hz : l.length ≤ sizeLine) : ∃ S', (lcJ tp is (wipeE env is) (fun env S => (evt Φ t env S).noex) (fun env S => (ev Φ elt env S).noex) S.length (fun _ => true) (l.map fu) (S ++ [.lst []])).bind (fun _ S' => (R.ok (U.loc S.length) S' : R U)) = .ok (.loc S.length) S' ∧ Gr S S' ∧ S'[S.length]? = some (.lst ((l.filter k).map g)) := by
  obtain ⟨S', e, g1, _, q⟩ := lcJ_fil (tp := tp) (is := is) (env := wipeE env is) (n := S.length) (c := fun env S => (evt Φ t env S).noex) (f := fun env S => (ev Φ elt env S).noex) (Inv := fun S1 => Gr S S1) (b := k) (g := g) (fu := fu) (us := l) (S := S ++ [.lst []]) (acc := [])
    (fun S1 x h1 => h1.set_new (Nat.le_refl _)) (fun u hu => by
      obtain ⟨env', e1, e2⟩ := h u hu
      refine ⟨env', e1, fun S1 h1 hn => ?_⟩
      obtain ⟨S2, e3, g2, e4⟩ := e2 S1
      exact ⟨S2, by simp only [e3]; rfl, h1.trans g2, g2.1, g2.2 _ hn, by simp only [e4]; rfl⟩) Gr.push last_get (by simpa using hz)
  exact ⟨S', by rw [e, bind_ok], g1, by rw [q]; rfl⟩
theorem lc_test (hit : ev Φ it env S = .ok (.tup (l.map fu)) S0) (h : TestAt Φ tp is env elt t l fu g k) (hz : l.length ≤ sizeLine) : ∃ S', ev Φ (.lc is tp elt it t) env S = .ok (.loc S0.length) S' ∧ Gr S0 S' ∧ S'[S0.length]? = some (.lst ((l.filter k).map g)) := by
  rw [lc_run hit]
  exact lcJ_test h hz
theorem lcr_test {g : Nat → U} {k : Nat → Bool} (ha : ev Φ a env S = .ok (.int i) S) (hb : ev Φ b env S = .ok (.int j) S) (hi : -(2 ^ 62) ≤ i ∧ i < 2 ^ 62 ∧ -(2 ^ 62) ≤ j ∧ j < 2 ^ 62) (h : TestAt Φ false is env elt t (List.range (j - i).toNat) (fun k => U.int (i + (k : Nat))) g k) (hz : (j - i).toNat ≤ sizeLine) :
    ∃ S', ev Φ (.lcr is elt a b t) env S = .ok (.loc S.length) S' ∧ Gr S S' ∧ S'[S.length]? = some (.lst (((List.range (j - i).toNat).filter k).map g)) := by
  rw [lcr_run ha hb hi]
  exact lcJ_test h (by simpa using hz)
/-- with a state: Inv goes through -/
theorem lc_state {Inv : Sto → Prop} {Q : α → U → Prop} (hit : ev Φ it env S = .ok (.tup (l.map fu)) S0) (hi : ∀ S x, Inv S → Inv (S.set S0.length (.lst x))) (h : ∀ u ∈ l, ∃ env', setN tp is (fu u) (wipeE env is) = some env' ∧ ∀ S1, Inv S1 → S0.length < S1.length → ∃ y S2, ev Φ elt env' S1 = .ok y S2 ∧ Q u y ∧ Inv S2 ∧ S1.length ≤ S2.length ∧ S2[S0.length]? = S1[S0.length]?)
    (h0 : Inv (S0 ++ [.lst []])) (hz : l.length ≤ sizeLine) : ∃ ys S', ev Φ (.lc is tp elt it .tt) env S = .ok (.loc S0.length) S' ∧ All2 Q l ys ∧ Inv S' ∧ S0.length < S'.length ∧ S'[S0.length]? = some (.lst ys) := by
  rw [lc_run hit]
  obtain ⟨ys, S', e, q, g1, l1, k⟩ := lcJ_rel (tp := tp) (is := is) (env := wipeE env is) (n := S0.length) (c := fun env S => (evt Φ .tt env S).noex) (f := fun env S => (ev Φ elt env S).noex) (Inv := Inv) (Q := Q) (fu := fu) (us := l) (S := S0 ++ [.lst []]) (acc := [])
    hi (fun u hu => by
      obtain ⟨env', e1, e2⟩ := h u hu
      refine ⟨env', e1, fun S1 h1 hn => ⟨rfl, ?_⟩⟩
      obtain ⟨y, S2, e3, q, i2, l2, k2⟩ := e2 S1 h1 hn
      exact ⟨y, S2, by simp only [e3]; rfl, q, i2, l2, k2⟩) h0 last_get (by simpa using hz)
  exact ⟨ys, S', by rw [e, bind_ok], q, g1, by simp at l1; omega, k⟩
/-! ### with a state of two cells -/
/-- only the cells st, cl change -/
def F2 (S S' : Sto) (st cl : Nat) : Prop := S.length ≤ S'.length ∧ ∀ k, k < S.length → k ≠ st → k ≠ cl → S'[k]? = S[k]?
theorem F2.refl {st cl : Nat} : F2 S S st cl := ⟨Nat.le_refl _, fun _ _ _ _ => rfl⟩
theorem F2.trans {S1 S2 S3 : Sto} {st cl : Nat} (a : F2 S1 S2 st cl) (b : F2 S2 S3 st cl) : F2 S1 S3 st cl := ⟨Nat.le_trans a.1 b.1, fun k h h1 h2 => (b.2 k (Nat.lt_of_lt_of_le h a.1) h1 h2).trans (a.2 k h h1 h2)⟩
theorem F2.push {st cl : Nat} {c : Cel} : F2 S (S ++ [c]) st cl := ⟨by simp, fun k h _ _ => List.getElem?_append_left h⟩
theorem Gr.f2 {S S' : Sto} {st cl : Nat} (g : Gr S S') : F2 S S' st cl := ⟨g.1, fun k h _ _ => g.2 k h⟩
structure Stt (S : Sto) (st cl : Nat) (c : Int) (cs : List Int) : Prop where
  s : S[st]? = some (.lst [.int c, .loc cl])
  t : S[cl]? = some (.lst (cs.map U.int))
  ne : st ≠ cl
  pos : cs ≠ []
  nn : ∀ x ∈ cs, 0 ≤ x
def HasSt (S : Sto) (st cl : Nat) : Prop := ∃ c cs, Stt S st cl c cs
theorem HasSt.gr {S S' : Sto} {st cl : Nat} (h : HasSt S st cl) (g : Gr S S') : HasSt S' st cl := by
  obtain ⟨c, cs, h⟩ := h
  exact ⟨c, cs, g.at_ h.s, g.at_ h.t, h.ne, h.pos, h.nn⟩
theorem HasSt.lt {S : Sto} {st cl : Nat} (h : HasSt S st cl) : st < S.length ∧ cl < S.length := by
  obtain ⟨c, cs, h⟩ := h
  exact ⟨(List.getElem?_eq_some_iff.mp h.s).1, (List.getElem?_eq_some_iff.mp h.t).1⟩
theorem HasSt.set {S : Sto} {st cl n : Nat} {c : Cel} (h : HasSt S st cl) (h1 : n ≠ st) (h2 : n ≠ cl) : HasSt (S.set n c) st cl := by
  obtain ⟨a, cs, h⟩ := h
  exact ⟨a, cs, by rw [List.getElem?_set_ne h1]; exact h.s, by rw [List.getElem?_set_ne h2]; exact h.t, h.ne, h.pos, h.nn⟩
/-- a comprehension whose items take from the state -/
theorem lc_take {st cl : Nat} {Q : α → U → Prop} (hs : HasSt S0 st cl) (hit : ev Φ it env S = .ok (.tup (l.map fu)) S0) (h : ∀ u ∈ l, ∃ env', setN tp is (fu u) (wipeE env is) = some env' ∧ ∀ S1, HasSt S1 st cl → ∃ y S2, ev Φ elt env' S1 = .ok y S2 ∧ Q u y ∧ HasSt S2 st cl ∧ F2 S1 S2 st cl) (hz : l.length ≤ sizeLine) :
    ∃ ys S', ev Φ (.lc is tp elt it .tt) env S = .ok (.loc S0.length) S' ∧ All2 Q l ys ∧ HasSt S' st cl ∧ F2 S0 S' st cl ∧ S'[S0.length]? = some (.lst ys) := by
  obtain ⟨h1, h2⟩ := hs.lt
  obtain ⟨ys, S', e, q, ⟨i1, i2⟩, _, k⟩ := lc_state (Inv := fun S1 => HasSt S1 st cl ∧ F2 S0 S1 st cl) (Q := Q) (elt := elt) (tp := tp) (is := is) hit (fun S1 x ⟨a, b⟩ => ⟨a.set (by omega) (by omega), by simp; exact b.1, fun k hk n1 n2 => by rw [List.getElem?_set_ne (by omega)]; exact b.2 k hk n1 n2⟩)
    (fun u hu => by
      obtain ⟨env', e1, e2⟩ := h u hu
      refine ⟨env', e1, fun S1 ⟨a, b⟩ hn => ?_⟩
      obtain ⟨y, S2, e3, q, a2, b2⟩ := e2 S1 a
      exact ⟨y, S2, e3, q, ⟨a2, b.trans b2⟩, b2.1, b2.2 _ hn (by omega) (by omega)⟩) ⟨hs.gr Gr.push, F2.push⟩ hz
  exact ⟨ys, S', e, q, i1, i2, k⟩
end
section
variable {Φ : Cal} {S : Sto} {env : Env} {e : E} {t : String} {x k : U}
theorem ev_isi : ev Φ (.isi e t) env S = (ev Φ e env S).bind fun x S => (match tyU S x with | some t' => (match kitB t' t with | some k => .ok (.bl k) S | none => .bad) | none => .bad) := rfl
theorem ev_gd {x : Str} {kvs : List (Str × U)} (h : Φ.gd x = some kvs) : ev Φ (.gd x e) env S = (ev Φ e env S).bind fun k S => (match k with | .str z => rO (kvs.lookup z) S | _ => .bad) := by
  rw [ev, h]
  congr 1
  funext k S
  cases k <;> rfl
end
/-! ### what is built of texts and tuples -/
mutual
def stU : U → Bool
  | .str _ => true
  | .tup xs => stUs xs
  | _ => false
def stUs : List U → Bool
  | [] => true
  | u :: us => stU u && stUs us
end
mutual
theorem eqU_st : ∀ a b : U, stU a = true → stU b = true → (eqU a b = true ↔ a = b)
  | .str x, b, _, hb => by cases b <;> simp_all [stU, eqU]
  | .tup x, b, ha, hb => by
    cases b with
    | tup y =>
      simp only [eqU, U.tup.injEq]
      exact eqUs_st x y (by simpa [stU] using ha) (by simpa [stU] using hb)
    | _ => simp_all [stU, eqU]
  | .non, b, ha, hb => by simp [stU] at ha
  | .bl _, b, ha, hb => by simp [stU] at ha
  | .int _, b, ha, hb => by simp [stU] at ha
  | .loc _, b, ha, hb => by simp [stU] at ha
theorem eqUs_st : ∀ a b : List U, stUs a = true → stUs b = true → (eqUs a b = true ↔ a = b)
  | [], b, _, _ => by cases b <;> simp [eqUs]
  | x :: xs, b, ha, hb => by
    cases b with
    | nil => simp [eqUs]
    | cons y ys =>
      simp only [stUs, Bool.and_eq_true] at ha hb
      simp only [eqUs, Bool.and_eq_true, List.cons.injEq]
      rw [eqU_st x y ha.1 hb.1, eqUs_st xs ys ha.2 hb.2]
end
theorem eqR_tup {xs ys : List U} {S : Sto} (h : okU (.tup xs) = true) (h' : okU (.tup ys) = true) : eqR (.tup xs) (.tup ys) S = some (eqU (.tup xs) (.tup ys)) := by
  unfold eqR
  simp only [h, h', Bool.and_self, if_true]
/-! ### in every store -/
section
variable {Φ : Cal} {env : Env} {e a b : E} {es : Es} {t t' : T} {sts : Sts} {u w x y : U} {k : Bool} {f : Str} {o : Cm} {i : Nat}
def Ev (Φ : Cal) (e : E) (env : Env) (u : U) : Prop := ∀ S, ∃ S', ev Φ e env S = .ok u S'
def Et (Φ : Cal) (t : T) (env : Env) (k : Bool) : Prop := ∀ S, ∃ S', evt Φ t env S = .ok k S'
def Ex (Φ : Cal) (sts : Sts) (env : Env) (u : U) : Prop := ∀ S, ∃ S', exs Φ sts env S = .ret u S'
def Ec (Φ : Cal) (f : Str) (us : List U) (w : U) : Prop := ∀ S, ∃ S', Φ.call f us S = .ok w S'
theorem Ev.v (h : env[i]? = some (some u)) : Ev Φ (.v i) env u := fun S => ⟨S, ev_v' h⟩
theorem Ev.con : Ev Φ (.k u) env u := fun S => ⟨S, rfl⟩
theorem Ev.call1 (h : Ev Φ a env u) (hc : Ec Φ f [u] w) : Ev Φ (.call f (.cons a .nil)) env w := fun S => by
  obtain ⟨S1, e1⟩ := h S
  obtain ⟨S2, e2⟩ := hc S1
  exact ⟨S2, by rw [ev_call, evs_cons, e1, bind_ok, evs_nil, bind_ok, bind_ok, e2]⟩
theorem Ev.call2 (h : Ev Φ a env u) (h' : Ev Φ b env x) (hc : Ec Φ f [u, x] w) : Ev Φ (.call f (.cons a (.cons b .nil))) env w := fun S => by
  obtain ⟨S1, e1⟩ := h S
  obtain ⟨S2, e2⟩ := h' S1
  obtain ⟨S3, e3⟩ := hc S2
  exact ⟨S3, by rw [ev_call, evs_cons, e1, bind_ok, evs_cons, e2, bind_ok, evs_nil, bind_ok, bind_ok, bind_ok, e3]⟩
theorem Ev.cmp (h : Ev Φ a env x) (h' : Ev Φ b env y) (hc : ∀ S, cmpU o x y S = .ok w S) : Ev Φ (.cmp o a b) env w := fun S => by
  obtain ⟨S1, e1⟩ := h S
  obtain ⟨S2, e2⟩ := h' S1
  exact ⟨S2, by rw [ev_cmp, e1, bind_ok, e2, bind_ok, hc]⟩
theorem Ev.and_t (h : Ev Φ a env (.bl true)) (h' : Ev Φ b env w) : Ev Φ (.and a b) env w := fun S => by
  obtain ⟨S1, e1⟩ := h S
  obtain ⟨S2, e2⟩ := h' S1
  exact ⟨S2, by rw [ev_and, e1, bind_ok]; exact e2⟩
theorem Ev.tup1 (h : Ev Φ a env x) : Ev Φ (.tup (.cons a .nil)) env (.tup [x]) := fun S => by
  obtain ⟨S1, e1⟩ := h S
  exact ⟨S1, by rw [ev_tup, evs_cons, e1, bind_ok, evs_nil, bind_ok, bind_ok, if_pos (show [x].length ≤ sizeLine from (by decide : 1 ≤ sizeLine))]⟩
theorem Et.ex (h : Ev Φ a env (.bl k)) : Et Φ (.e a) env k := fun S => by
  obtain ⟨S1, e1⟩ := h S
  exact ⟨S1, by rw [evt_e, e1, bind_ok]; rfl⟩
theorem Et.not (h : Et Φ t env k) : Et Φ (.not t) env (!k) := fun S => by
  obtain ⟨S1, e1⟩ := h S
  exact ⟨S1, by rw [evt_not, e1, bind_ok]⟩
theorem Et.or_f (h : Et Φ t env false) (h' : Et Φ t' env k) : Et Φ (.or t t') env k := fun S => by
  obtain ⟨S1, e1⟩ := h S
  obtain ⟨S2, e2⟩ := h' S1
  exact ⟨S2, by rw [evt_or, e1, bind_ok, if_neg Bool.false_ne_true, e2]⟩
theorem Et.or_t (h : Et Φ t env true) : Et Φ (.or t t') env true := fun S => by
  obtain ⟨S1, e1⟩ := h S
  exact ⟨S1, by rw [evt_or, e1, bind_ok, if_pos rfl]⟩
theorem Et.and_t (h : Et Φ t env true) (h' : Et Φ t' env k) : Et Φ (.and t t') env k := fun S => by
  obtain ⟨S1, e1⟩ := h S
  obtain ⟨S2, e2⟩ := h' S1
  exact ⟨S2, by rw [evt_and, e1, bind_ok, if_pos rfl, e2]⟩
theorem Et.and_f (h : Et Φ t env false) : Et Φ (.and t t') env false := fun S => by
  obtain ⟨S1, e1⟩ := h S
  exact ⟨S1, by rw [evt_and, e1, bind_ok, if_neg Bool.false_ne_true]⟩
theorem Ex.skip (h : Et Φ t env false) (h' : Ex Φ sts env u) {s : Sts} : Ex Φ (.cons (.if_ t s .nil) sts) env u := fun S => by
  obtain ⟨S1, e1⟩ := h S
  obtain ⟨S2, e2⟩ := h' S1
  exact ⟨S2, by rw [exs_cons, ex_if, e1, on_ok, if_neg Bool.false_ne_true, exs_nil, then_nx, e2]⟩
theorem Ex.stop (h : Et Φ t env true) (h' : Ev Φ e env u) {s : Sts} : Ex Φ (.cons (.if_ t (.cons (.ret e) .nil) s) sts) env u := fun S => by
  obtain ⟨S1, e1⟩ := h S
  obtain ⟨S2, e2⟩ := h' S1
  exact ⟨S2, by rw [exs_cons, ex_if, e1, on_ok, if_pos rfl, exs_cons, ex_ret, e2, on_ok, then_ret, then_ret]⟩
theorem Ex.set (h : Ev Φ e env x) (h' : Ex Φ sts (env.set i (some x)) u) : Ex Φ (.cons (.set false [i] e) sts) env u := fun S => by
  obtain ⟨S1, e1⟩ := h S
  obtain ⟨S2, e2⟩ := h' S1
  exact ⟨S2, by rw [exs_cons, ex_set, e1, on_ok]; exact e2⟩
theorem Ex.ret (h : Ev Φ e env u) : Ex Φ (.cons (.ret e) sts) env u := fun S => by
  obtain ⟨S1, e1⟩ := h S
  exact ⟨S1, by rw [exs_cons, ex_ret, e1, on_ok, then_ret]⟩
/-- one statement, in a store -/
theorem go_set {S S' : Sto} (h : ev Φ e env S = .ok x S') : exs Φ (.cons (.set false [i] e) sts) env S = exs Φ sts (env.set i (some x)) S' := by
  rw [exs_cons, ex_set, h, on_ok]
  rfl
theorem go_skip {S S' : Sto} {s : Sts} (h : evt Φ t env S = .ok false S') : exs Φ (.cons (.if_ t s .nil) sts) env S = exs Φ sts env S' := by
  rw [exs_cons, ex_if, h, on_ok, if_neg Bool.false_ne_true, exs_nil, then_nx]
theorem go_if_set {S S' S'' : Sto} {s : Sts} (h : evt Φ t env S = .ok true S') (h' : ev Φ e env S' = .ok x S'') : exs Φ (.cons (.if_ t (.cons (.set false [i] e) .nil) s) sts) env S = exs Φ sts (env.set i (some x)) S'' := by
  rw [exs_cons, ex_if, h, on_ok, if_pos rfl, go_set h', exs_nil, then_nx]
end
/-! ### texts that are written, patterns, keywords -/
theorem ofS_inj {a b : String} : (Str.ofString a = Str.ofString b) = (a = b) := by
  apply propext
  constructor
  · intro h
    rw [Str.ofString_eq_toList, Str.ofString_eq_toList] at h
    have h1 : a.toList.map Char.toNat = b.toList.map Char.toNat := by
      have := congrArg (fun z : Str => z.cps.toList) h
      simpa using this
    have h2 : a.toList = b.toList := (List.map_inj_right fun x y e => by
      have := congrArg Char.ofNat e
      simpa using this).mp h1
    exact String.toList_inj.mp h2
  · rintro rfl; rfl
section
variable {Φ : Cal} {env : Env} {S : Sto} {e : E} {cs : Cs} {p : Pt} {b : Sts} {u : U} {us : List U} {ps : List Pi} {x y : Str} {i : Nat} {es ks : Es} {f : Str}
theorem ex_mtch : ex Φ (.mtch e cs) env S = (ev Φ e env S).on fun u S => exc Φ cs u env S := rfl
theorem exc_nil : exc Φ .nil u env S = .nx env S := rfl
theorem exc_cons : exc Φ (.cons p b cs) u env S = (match ptM p u env with
    | some (some env') => exs Φ b env' S
    | some none => exc Φ cs u env S
    | none => .bad) := rfl
theorem pt_wild : ptM .wild u env = some (some env) := by cases u <;> rfl
theorem pt_val : ptM (.val x) (.str y) env = some (if y = x then some env else none) := rfl
theorem pt_seq : ptM (.seq ps) (.tup us) env = if us.length = ps.length then pisM ps us env else some none := rfl
theorem pi_nil : pisM [] [] env = some (some env) := rfl
theorem pi_lit : pisM (.lit x :: ps) (.str y :: us) env = if y = x then pisM ps us env else some none := rfl
theorem pi_cap : pisM (.cap i :: ps) (u :: us) env = pisM ps us (env.set i (some u)) := by cases u <;> rfl
theorem pi_wild : pisM (.wild :: ps) (u :: us) env = pisM ps us env := by cases u <;> rfl
theorem ev_kcall : ev Φ (.kcall f es ks) env S = (evs Φ es env S).bind fun us S => (evs Φ ks env S).bind fun zs S => Φ.kcal f (us ++ zs) S := rfl
theorem ev_din {kvs : List (Str × U)} (h : Φ.gd x = some kvs) : ev Φ (.din x e) env S = (ev Φ e env S).bind fun k S => (match k with | .str z => .ok (.bl (kvs.lookup z).isSome) S | _ => .bad) := by
  rw [ev, h]
  congr 1
  funext k S
  cases k <;> rfl
end
/-! ### what is built of texts, integers and tuples -/
mutual
def siU : U → Bool
  | .str _ => true
  | .int _ => true
  | .tup xs => siUs xs
  | _ => false
def siUs : List U → Bool
  | [] => true
  | u :: us => siU u && siUs us
end
mutual
theorem eqU_si : ∀ a b : U, siU a = true → siU b = true → (eqU a b = true ↔ a = b)
  | .str x, b, _, hb => by cases b <;> simp_all [siU, eqU]
  | .int x, b, _, hb => by cases b <;> simp_all [siU, eqU]
  | .tup x, b, ha, hb => by
    cases b with
    | tup y =>
      simp only [eqU, U.tup.injEq]
      exact eqUs_si x y (by simpa [siU] using ha) (by simpa [siU] using hb)
    | _ => simp_all [siU, eqU]
  | .non, b, ha, hb => by simp [siU] at ha
  | .bl _, b, ha, hb => by simp [siU] at ha
  | .loc _, b, ha, hb => by simp [siU] at ha
theorem eqUs_si : ∀ a b : List U, siUs a = true → siUs b = true → (eqUs a b = true ↔ a = b)
  | [], b, _, _ => by cases b <;> simp [eqUs]
  | x :: xs, b, ha, hb => by
    cases b with
    | nil => simp [eqUs]
    | cons y ys =>
      simp only [siUs, Bool.and_eq_true] at ha hb
      simp only [eqUs, Bool.and_eq_true, List.cons.injEq]
      rw [eqU_si x y ha.1 hb.1, eqUs_si xs ys ha.2 hb.2]
end
end Oz
/-! comprehensions left -/

end
local macro_rules
  | `(tactic| simp_arith only [$ls,*] $[$l:location]?) => `(tactic| simp only [Oz.bind_ok, Oz.bind_exc, Oz.bind_bad, Oz.on_ok, Oz.on_exc, Oz.then_nx, Oz.then_ret, Oz.then_exc, Oz.then_bk, Oz.then_ct, Oz.turn_nx, Oz.turn_ret, Oz.turn_exc, Oz.fin_nx, Oz.fin_ret, Oz.fin_exc, Oz.rO_some, Oz.noex_ok,
      Oz.ev_v, Oz.ev_k, Oz.ev_tup, Oz.ev_lst, Oz.ev_bin, Oz.ev_neg, Oz.ev_cmp, Oz.ev_and, Oz.ev_or, Oz.ev_not, Oz.ev_ife, Oz.ev_ix, Oz.ev_sl, Oz.ev_call, Oz.ev_bf, Oz.ev_bm, Oz.ev_isi, Oz.evo_no, Oz.evo_so, Oz.evs_nil, Oz.evs_cons, Oz.evs_star, Oz.evt_tt, Oz.evt_e, Oz.evt_and, Oz.evt_or, Oz.evt_not,
      Oz.ex_mtch, Oz.exc_nil, Oz.exc_cons, Oz.pt_wild, Oz.pt_val, Oz.pt_seq, Oz.pi_nil, Oz.pi_lit, Oz.pi_cap, Oz.pi_wild, Oz.ev_kcall, Oz.ofS_inj, String.reduceEq, Nat.reduceEqDiff, Oz.ex_set, Oz.ex_sub, Oz.ex_aug, Oz.ex_ex, Oz.ex_ret, Oz.ex_if, Oz.exs_nil, Oz.exs_cons, Oz.tru_bl, Oz.tru_int, Oz.add_int, Oz.sub_int, Oz.aug_add_int, Oz.aug_sub_int, Oz.c_eq_int, Oz.c_ne_int, Oz.c_lt_int, Oz.c_le_int, Oz.c_gt_int, Oz.c_ge_int, Oz.c_eq_str, Oz.c_ne_str,
      Oz.set_int, List.replicate_succ, List.replicate_zero, List.getElem?_cons_zero, List.getElem?_cons_succ, List.set_cons_zero, List.set_cons_succ, List.map_cons, List.map_nil, List.cons_append, List.nil_append, List.append_nil, if_true, if_false, Bool.false_eq_true, Bool.true_eq_false, decide_eq_true_eq, true_and, and_true, Bool.not_true, Bool.not_false, List.length_cons, List.length_nil, Nat.zero_add, Nat.reduceAdd, $ls,*] $[$l:location]?)
section
set_option maxHeartbeats 4000000

end

section
set_option maxHeartbeats 4000000
/-! OzQ: walks over lists. -/
namespace Oz
open PySem PySem.Spec PyProof.Rows L2
section
variable {S S' : Sto} {tp tp1 : Bool} {is is1 : List Nat} {env : Env} {n m : Nat}
theorem lcI_eq {c : Env → Sto → R Bool} {f : Env → Sto → R U} {all : List U} {src : Option Nat} : ∀ (us : List U) (S : Sto), lcI tp is env c f n all src us S = lcJ tp is env c f n (fun S => stays S all src) us S
  | [], S => rfl
  | u :: us, S => by
    unfold lcI lcJ
    cases stays S all src with
    | false => rfl
    | true =>
      simp only [if_true]
      cases setN tp is u env with
      | none => rfl
      | some env' =>
        simp only
        congr 1
        funext b S1
        cases b with
        | true =>
          simp only [if_true]
          congr 1
          funext y S2
          congr 1
          funext _ S3
          exact lcI_eq us S3
        | false =>
          simp only [Bool.false_eq_true, if_false]
          exact lcI_eq us S1
theorem lcJ_relS {α : Type} {fu : α → U} {c : Env → Sto → R Bool} {f : Env → Sto → R U} {st : Sto → Bool} {Inv : Sto → Prop} {Q : α → U → Prop} (hi : ∀ S x, Inv S → Inv (S.set n (.lst x))) (hst : ∀ S, Inv S → st S = true) : ∀ {us : List α} {S : Sto} {acc : List U}
    (hf : ∀ u ∈ us, ∃ env', setN tp is (fu u) env = some env' ∧ ∀ S, Inv S → n < S.length → c env' S = .ok true S ∧ ∃ y S', f env' S = .ok y S' ∧ Q u y ∧ Inv S' ∧ S.length ≤ S'.length ∧ S'[n]? = S[n]?) (h0 : Inv S) (hS : S[n]? = some (.lst acc)) (hz : acc.length + us.length ≤ sizeLine),
    ∃ ys S', lcJ tp is env c f n st (us.map fu) S = .ok () S' ∧ All2 Q us ys ∧ Inv S' ∧ S.length ≤ S'.length ∧ S'[n]? = some (.lst (acc ++ ys))
  | [], S, acc, hf, h0, hS, hz => ⟨[], S, by rw [List.map_nil, lcJ, if_pos (hst S h0)], .nil, h0, Nat.le_refl _, by rw [List.append_nil]; exact hS⟩
  | u :: us, S, acc, hf, h0, hS, hz => by
    obtain ⟨env', e1, e2⟩ := hf u List.mem_cons_self
    have hn : n < S.length := (List.getElem?_eq_some_iff.mp hS).1
    obtain ⟨ec, y, S1, e3, q, h1, l1, k1⟩ := e2 S h0 hn
    have hS1 : S1[n]? = some (.lst acc) := k1.trans hS
    have hn1 : n < S1.length := by omega
    obtain ⟨ys, S2, e4, q2, h2, l2, k2⟩ := lcJ_relS (us := us) (acc := acc ++ [y]) hi hst (fun v hv => hf v (List.mem_cons_of_mem _ hv)) (hi S1 (acc ++ [y]) h1) (by rw [List.getElem?_set_self hn1]) (by simp at hz ⊢; omega)
    refine ⟨y :: ys, S2, ?_, .cons q q2, h2, by simp at l2; omega, by rw [k2, List.append_assoc]; rfl⟩
    rw [List.map_cons]
    unfold lcJ
    simp only [hst S h0, if_true, e1, ec, bind_ok, e3, pushAt_ok hS1 (show acc.length < sizeLine by simp at hz; omega)]
    exact e4
variable {Φ : Cal} {S0 : Sto} {elt it it1 : E} {α β : Type} {l : List α} {fu : α → U}
theorem stays_lst {us : List U} (h : S[m]? = some (.lst us)) : stays S us (some m) = true := isLst_lst h
theorem lcl_run {us : List U} (hit : ev Φ it env S = .ok (.loc m) S0) (hm : S0[m]? = some (.lst us)) : ev Φ (.lc is tp elt it .tt) env S = (lcJ tp is (wipeE env is) (fun env S => (evt Φ .tt env S).noex) (fun env S => (ev Φ elt env S).noex) S0.length (fun S => stays S us (some m)) us (S0 ++ [.lst []])).bind fun _ S' => .ok (.loc S0.length) S' := by
  rw [ev_lc, hit, bind_ok]
  simp only [iterU, hm, lcI_eq]
theorem lcl_pure {g : α → U} (hit : ev Φ it env S = .ok (.loc m) S0) (hm : S0[m]? = some (.lst (l.map fu))) (h : PureAt Φ tp is env elt l fu g) (hz : l.length ≤ sizeLine) : ∃ S', ev Φ (.lc is tp elt it .tt) env S = .ok (.loc S0.length) S' ∧ Gr S0 S' ∧ S'[S0.length]? = some (.lst (l.map g)) := by
  rw [lcl_run hit hm]
  obtain ⟨ys, S', e, q, g1, _, k⟩ := lcJ_relS (tp := tp) (is := is) (env := wipeE env is) (n := S0.length) (c := fun env S => (evt Φ .tt env S).noex) (f := fun env S => (ev Φ elt env S).noex) (Inv := fun S1 => Gr S0 S1) (Q := fun u y => y = g u) (fu := fu) (us := l) (S := S0 ++ [.lst []]) (acc := []) (st := fun S => stays S (l.map fu) (some m))
    (fun S1 x h1 => h1.set_new (Nat.le_refl _)) (fun S1 h1 => stays_lst (h1.at_ hm)) (fun u hu => by
      obtain ⟨env', e1, e2⟩ := h u hu
      refine ⟨env', e1, fun S1 h1 hn => ⟨rfl, ?_⟩⟩
      obtain ⟨S2, e3, g2⟩ := e2 S1
      exact ⟨g u, S2, by simp only [e3]; rfl, rfl, h1.trans g2, g2.1, g2.2 _ hn⟩) Gr.push last_get (by simpa using hz)
  exact ⟨S', by rw [e, bind_ok], g1, by rw [k, q.map_eq]; rfl⟩
theorem lcl_take {st cl : Nat} {Q : α → U → Prop} (hs : HasSt S0 st cl) (hit : ev Φ it env S = .ok (.loc m) S0) (hm : S0[m]? = some (.lst (l.map fu))) (h1 : m ≠ st) (h2 : m ≠ cl) (h : ∀ u ∈ l, ∃ env', setN tp is (fu u) (wipeE env is) = some env' ∧ ∀ S1, HasSt S1 st cl → ∃ y S2, ev Φ elt env' S1 = .ok y S2 ∧ Q u y ∧ HasSt S2 st cl ∧ F2 S1 S2 st cl) (hz : l.length ≤ sizeLine) :
    ∃ ys S', ev Φ (.lc is tp elt it .tt) env S = .ok (.loc S0.length) S' ∧ All2 Q l ys ∧ HasSt S' st cl ∧ F2 S0 S' st cl ∧ S'[S0.length]? = some (.lst ys) := by
  obtain ⟨hs1, hs2⟩ := hs.lt
  have hml : m < S0.length := (List.getElem?_eq_some_iff.mp hm).1
  rw [lcl_run hit hm]
  obtain ⟨ys, S', e, q, ⟨i1, i2⟩, _, k⟩ := lcJ_relS (tp := tp) (is := is) (env := wipeE env is) (n := S0.length) (c := fun env S => (evt Φ .tt env S).noex) (f := fun env S => (ev Φ elt env S).noex) (Inv := fun S1 => HasSt S1 st cl ∧ F2 S0 S1 st cl) (Q := Q) (fu := fu) (us := l) (S := S0 ++ [.lst []]) (acc := []) (st := fun S => stays S (l.map fu) (some m))
    (fun S1 x ⟨a, b⟩ => ⟨a.set (by omega) (by omega), by simp; exact b.1, fun k hk n1 n2 => by rw [List.getElem?_set_ne (by omega)]; exact b.2 k hk n1 n2⟩)
    (fun S1 h3 => stays_lst ((h3.2.2 m hml h1 h2).trans hm)) (fun u hu => by
      obtain ⟨env', e1, e2⟩ := h u hu
      refine ⟨env', e1, fun S1 ⟨a, b⟩ hn => ⟨rfl, ?_⟩⟩
      obtain ⟨y, S2, e3, q, a2, b2⟩ := e2 S1 a
      exact ⟨y, S2, by simp only [e3]; rfl, q, ⟨a2, b.trans b2⟩, b2.1, b2.2 _ hn (by omega) (by omega)⟩) ⟨hs.gr Gr.push, F2.push⟩ last_get (by simpa using hz)
  exact ⟨ys, S', by rw [e, bind_ok], q, i1, i2, k⟩
/-! ### two walks -/
theorem lcK_pure {fv : β → U} {g : β → U} {f : Env → Sto → R U} {all1 : List U} {env : Env} : ∀ {l1 : List β} {S : Sto} {acc : List U} (h : ∀ b ∈ l1, ∃ env', setN tp1 is1 (fv b) env = some env' ∧ ∀ S, f env' S = .ok (g b) S) (hS : S[n]? = some (.lst acc)) (hz : acc.length + l1.length ≤ sizeLine),
    lcK is1 tp1 f n all1 none env (l1.map fv) S = .ok () (S.set n (.lst (acc ++ l1.map g)))
  | [], S, acc, h, hS, hz => by
    rw [List.map_nil, lcK, List.map_nil, List.append_nil, set_same hS]
    rfl
  | b :: l1, S, acc, h, hS, hz => by
    obtain ⟨env', e1, e2⟩ := h b List.mem_cons_self
    have hn : n < S.length := (List.getElem?_eq_some_iff.mp hS).1
    rw [List.map_cons, lcK]
    simp only [stays, if_true, e1, e2 S, bind_ok, pushAt_ok hS (show acc.length < sizeLine by simp at hz; omega)]
    rw [lcK_pure (g := g) (acc := acc ++ [g b]) (fun c hc => h c (List.mem_cons_of_mem _ hc)) (by rw [List.getElem?_set_self hn]) (by simp at hz ⊢; omega)]
    simp [List.set_set]
theorem lcL_pure {inner : α → List β} {fv : β → U} {g : α → β → U} {gi f : Env → Sto → R U} {all : List U} {env : Env} (hmn : m ≠ n) : ∀ {l : List α} {S : Sto} {acc : List U} (h : ∀ a ∈ l, ∃ env', setN tp is (fu a) env = some env' ∧ (∀ S, gi env' S = .ok (.tup ((inner a).map fv)) S) ∧ ∀ b ∈ inner a, ∃ env'', setN tp1 is1 (fv b) (wipeE env' is1) = some env'' ∧ ∀ S, f env'' S = .ok (g a b) S)
    (hS : S[n]? = some (.lst acc)) (hm : S[m]? = some (.lst all)) (hz : acc.length + (l.flatMap fun a => (inner a).map (g a)).length ≤ sizeLine),
    lcL tp tp1 is is1 env gi f n all (some m) (l.map fu) S = .ok () (S.set n (.lst (acc ++ l.flatMap fun a => (inner a).map (g a))))
  | [], S, acc, h, hS, hm, hz => by
    rw [List.map_nil, lcL, if_pos (stays_lst hm), List.flatMap_nil, List.append_nil, set_same hS]
  | a :: l, S, acc, h, hS, hm, hz => by
    obtain ⟨env', e1, e2, e3⟩ := h a List.mem_cons_self
    have hn : n < S.length := (List.getElem?_eq_some_iff.mp hS).1
    rw [List.flatMap_cons, List.length_append] at hz
    rw [List.map_cons, lcL, if_pos (stays_lst hm)]
    simp only [e1, e2 S, bind_ok, iterU]
    rw [lcK_pure (g := g a) (acc := acc) e3 hS (by simp at hz ⊢; omega), bind_ok, lcL_pure hmn (acc := acc ++ (inner a).map (g a)) (fun c hc => h c (List.mem_cons_of_mem _ hc)) (by rw [List.getElem?_set_self hn]) (by rw [List.getElem?_set_ne (Ne.symm hmn)]; exact hm) (by simp at hz ⊢; omega)]
    simp [List.set_set]
theorem lc2_pure {inner : α → List β} {fv : β → U} {g : α → β → U} (hit : ev Φ it env S = .ok (.loc m) S0) (hm : S0[m]? = some (.lst (l.map fu)))
    (h : ∀ a ∈ l, ∃ env', setN tp is (fu a) (wipeE env (is ++ is1)) = some env' ∧ (∀ S, ev Φ it1 env' S = .ok (.tup ((inner a).map fv)) S) ∧ ∀ b ∈ inner a, ∃ env'', setN tp1 is1 (fv b) (wipeE env' is1) = some env'' ∧ ∀ S, ev Φ elt env'' S = .ok (g a b) S)
    (hz : (l.flatMap fun a => (inner a).map (g a)).length ≤ sizeLine) :
    ev Φ (.lc2 is is1 tp tp1 elt it it1) env S = .ok (.loc S0.length) (S0 ++ [.lst (l.flatMap fun a => (inner a).map (g a))]) := by
  have hml : m < S0.length := (List.getElem?_eq_some_iff.mp hm).1
  rw [ev, hit, bind_ok]
  simp only [iterU, hm]
  rw [lcL_pure (inner := inner) (fv := fv) (g := g) (acc := []) (show m ≠ S0.length by omega) (fun a ha => ?_) last_get (Gr.push.at_ hm) (by simpa using hz), bind_ok, List.nil_append, last_set]
  obtain ⟨env', e1, e2, e3⟩ := h a ha
  refine ⟨env', e1, fun S => by simp only [e2]; rfl, fun b hb => ?_⟩
  obtain ⟨env'', f1, f2⟩ := e3 b hb
  exact ⟨env'', f1, fun S => by simp only [f2]; rfl⟩
/-! ### for -/
theorem forI_inv {f : Env → Sto → O} {all : List U} {src : Option Nat} {L : List α} (I : List α → Env → Sto → Prop) (hst : ∀ done env S, I done env S → stays S all src = true)
    (step : ∀ done a r env S, done ++ a :: r = L → I done env S → ∃ env1, setN tp is (fu a) env = some env1 ∧ ∃ env' S', f env1 S = .nx env' S' ∧ I (done ++ [a]) env' S') : ∀ (r done : List α) (env : Env) (S : Sto), done ++ r = L → I done env S → ∃ env' S', forI tp is f all src (r.map fu) env S = .nx env' S' ∧ I L env' S'
  | [], done, env, S, e, h => by
    rw [List.append_nil] at e
    subst e
    exact ⟨env, S, by rw [List.map_nil, forI, if_pos (hst _ _ _ h)], h⟩
  | a :: r, done, env, S, e, h => by
    obtain ⟨env1, e1, env2, S2, e2, h2⟩ := step done a r env S e h
    obtain ⟨env3, S3, e3, h3⟩ := forI_inv I hst step r (done ++ [a]) env2 S2 (by rw [List.append_assoc]; exact e) h2
    refine ⟨env3, S3, ?_, h3⟩
    rw [List.map_cons, forI, if_pos (hst _ _ _ h)]
    simp only [e1, e2]
    exact e3
theorem ex_for_tup {us : List U} {sts : Sts} (hit : ev Φ it env S = .ok (.tup us) S0) : ex Φ (.for_ tp is it sts) env S = forI tp is (fun env S => exs Φ sts env S) us none us env S0 := by
  rw [ex_for, hit, on_ok]
  rfl
theorem ex_for_loc {us : List U} {sts : Sts} (hit : ev Φ it env S = .ok (.loc m) S0) (hm : S0[m]? = some (.lst us)) : ex Φ (.for_ tp is it sts) env S = forI tp is (fun env S => exs Φ sts env S) us (some m) us env S0 := by
  rw [ex_for, hit, on_ok]
  simp only [iterU, hm]
theorem go_for_loc {us : List U} {b sts : Sts} {env' : Env} {S2 : Sto} (hit : ev Φ it env S = .ok (.loc m) S0) (hm : S0[m]? = some (.lst us)) (h : forI tp is (fun env S => exs Φ b env S) us (some m) us env S0 = .nx env' S2) : exs Φ (.cons (.for_ tp is it b) sts) env S = exs Φ sts env' S2 := by
  rw [exs_cons, ex_for_loc hit hm, h, then_nx]
theorem go_for_tup {us : List U} {b sts : Sts} {env' : Env} {S2 : Sto} (hit : ev Φ it env S = .ok (.tup us) S0) (h : forI tp is (fun env S => exs Φ b env S) us none us env S0 = .nx env' S2) : exs Φ (.cons (.for_ tp is it b) sts) env S = exs Φ sts env' S2 := by
  rw [exs_cons, ex_for_tup hit, h, then_nx]
theorem go_ret {sts : Sts} {u : U} {e : E} (h : ev Φ e env S = .ok u S') : exs Φ (.cons (.ret e) sts) env S = .ret u S' := by
  rw [exs_cons, ex_ret, h, on_ok, then_ret]
theorem fin_of {b : Sts} {u : U} (h : exs Φ b env S = .ret u S') : (exs Φ b env S).fin = .ok u S' := by rw [h]; rfl
theorem extend_ok {us vs : List U} (hn : S[n]? = some (.lst us)) (hm : S[m]? = some (.lst vs)) (hz : us.length + vs.length ≤ sizeLine) : bmU .extend (.loc n) [.loc m] S = .ok .non (S.set n (.lst (us ++ vs))) := by
  show extendF (.loc n) [.loc m] S = _
  unfold extendF
  simp only [hn, hm, if_pos hz]
theorem add_loc {us vs : List U} (hn : S[n]? = some (.lst us)) (hm : S[m]? = some (.lst vs)) (hz : us.length + vs.length ≤ sizeLine) : binU .add (.loc n) (.loc m) S = .ok (.loc S.length) (S ++ [.lst (us ++ vs)]) := by
  unfold binU
  simp only [hn, hm, if_pos hz]
theorem list_tup {us : List U} : bfU .list [.tup us] S = .ok (.loc S.length) (S ++ [.lst us]) := rfl
theorem list_loc {us : List U} (h : S[m]? = some (.lst us)) : bfU .list [.loc m] S = .ok (.loc S.length) (S ++ [.lst us]) := by
  show listF [.loc m] S = _
  unfold listF
  simp only [items?, h]
theorem ty_ext {us : List U} (h : S[m]? = some (.lst us)) : tyB .extend (.loc m) S = true := by
  unfold tyB
  simp only [list?, h, Option.isSome]
theorem ev_gget {x : Str} {kvs : List (Str × U)} {a b : E} (h : Φ.gd x = some kvs) : ev Φ (.gget x a b) env S = (ev Φ a env S).bind fun k S => (ev Φ b env S).bind fun v S => (match k with | .str z => .ok ((kvs.lookup z).getD v) S | _ => .bad) := by
  rw [ev, h]
  congr 1
  funext k S
  congr 1
  funext v S
  cases k <;> rfl
end
end Oz

end

section
set_option maxHeartbeats 4000000
/-! OzD: draws from a state. -/
namespace Oz
open PySem PySem.Spec PyProof.Rows L2
section
variable {Φ : Cal} {env : Env} {e e' : E} {es : Es} {t : T} {sts body : Sts} {st cl i : Nat} {f : Str} {P : U → Prop} {Q R : U → Prop} {k : Bool} {Ps : List U → Prop}
def Dr (Φ : Cal) (st cl : Nat) (e : E) (env : Env) (P : U → Prop) : Prop := ∀ S, HasSt S st cl → ∃ u S', ev Φ e env S = .ok u S' ∧ P u ∧ HasSt S' st cl ∧ F2 S S' st cl
def Drs (Φ : Cal) (st cl : Nat) (es : Es) (env : Env) (P : List U → Prop) : Prop := ∀ S, HasSt S st cl → ∃ us S', evs Φ es env S = .ok us S' ∧ P us ∧ HasSt S' st cl ∧ F2 S S' st cl
def Sx (Φ : Cal) (st cl : Nat) (sts : Sts) (env : Env) (P : U → Prop) : Prop := ∀ S, HasSt S st cl → ∃ u S', exs Φ sts env S = .ret u S' ∧ P u ∧ HasSt S' st cl ∧ F2 S S' st cl
def Dc (Φ : Cal) (st cl : Nat) (f : Str) (us : List U) (P : U → Prop) : Prop := ∀ S, HasSt S st cl → ∃ u S', Φ.call f us S = .ok u S' ∧ P u ∧ HasSt S' st cl ∧ F2 S S' st cl
theorem Dr.pure {u : U} (h : ∀ S, ev Φ e env S = .ok u S) (hp : P u) : Dr Φ st cl e env P := fun S hs => ⟨u, S, h S, hp, hs, F2.refl⟩
theorem Dr.imp (h : Dr Φ st cl e env P) (hi : ∀ u, P u → Q u) : Dr Φ st cl e env Q := fun S hs => by
  obtain ⟨u, S', a, b, c⟩ := h S hs
  exact ⟨u, S', a, hi u b, c⟩
theorem Drs.nil (h : Ps []) : Drs Φ st cl .nil env Ps := fun S hs => ⟨[], S, rfl, h, hs, F2.refl⟩
theorem Drs.cons (h : Dr Φ st cl e env P) (h' : ∀ u, P u → Drs Φ st cl es env fun us => Ps (u :: us)) : Drs Φ st cl (.cons e es) env Ps := fun S hs => by
  obtain ⟨u, S1, e1, p1, hs1, f1⟩ := h S hs
  obtain ⟨us, S2, e2, p2, hs2, f2⟩ := h' u p1 S1 hs1
  exact ⟨u :: us, S2, by rw [evs_cons, e1, bind_ok, e2, bind_ok], p2, hs2, f1.trans f2⟩
theorem Dr.tup (h : Drs Φ st cl es env fun us => us.length ≤ sizeLine ∧ P (.tup us)) : Dr Φ st cl (.tup es) env P := fun S hs => by
  obtain ⟨us, S1, e1, ⟨p0, p1⟩, hs1, f1⟩ := h S hs
  exact ⟨.tup us, S1, by rw [ev_tup, e1, bind_ok, if_pos p0], p1, hs1, f1⟩
theorem Dr.call (h : Drs Φ st cl es env fun us => Dc Φ st cl f us P) : Dr Φ st cl (.call f es) env P := fun S hs => by
  obtain ⟨us, S1, e1, p1, hs1, f1⟩ := h S hs
  obtain ⟨u, S2, e2, p2, hs2, f2⟩ := p1 S1 hs1
  exact ⟨u, S2, by rw [ev_call, e1, bind_ok, e2], p2, hs2, f1.trans f2⟩
theorem Dr.add {P' : U → Prop} (h : Dr Φ st cl e env P) (h' : ∀ u, P u → Dr Φ st cl e' env P') (hc : ∀ u v, P u → P' v → ∃ xs ys, u = .tup xs ∧ v = .tup ys ∧ xs.length + ys.length ≤ sizeLine ∧ Q (.tup (xs ++ ys))) : Dr Φ st cl (.bin .add e e') env Q := fun S hs => by
  obtain ⟨u, S1, e1, p1, hs1, f1⟩ := h S hs
  obtain ⟨v, S2, e2, p2, hs2, f2⟩ := h' u p1 S1 hs1
  obtain ⟨xs, ys, rfl, rfl, hz, q⟩ := hc u v p1 p2
  exact ⟨_, S2, by rw [ev_bin, e1, bind_ok, e2, bind_ok, add_tup hz], q, hs2, f1.trans f2⟩
theorem Dr.pick (h : Drs Φ st cl es env fun us => us.length ≤ sizeLine ∧ Dr Φ st cl e env fun v => ∃ i w, v = .int i ∧ atI us i = some w ∧ P w) : Dr Φ st cl (.ix (.lst es) e) env P := fun S hs => by
  obtain ⟨us, S1, e1, ⟨hz, p1⟩, hs1, f1⟩ := h S hs
  obtain ⟨h1, h2⟩ := hs1.lt
  obtain ⟨v, S2, e2, ⟨i, w, rfl, ha, hp⟩, hs2, f2⟩ := p1 (S1 ++ [.lst us]) (hs1.gr Gr.push)
  have hl : S2[S1.length]? = some (.lst us) := (f2.2 S1.length (by simp) (by omega) (by omega)).trans last_get
  exact ⟨w, S2, by rw [ev_ix, ev_lst, e1, bind_ok, if_pos hz, bind_ok, e2, bind_ok, ix_loc hl, ha], hp, hs2, (f1.trans F2.push).trans f2⟩
theorem Sx.set (h : Dr Φ st cl e env P) (h' : ∀ u, P u → Sx Φ st cl sts (env.set i (some u)) Q) : Sx Φ st cl (.cons (.set false [i] e) sts) env Q := fun S hs => by
  obtain ⟨u, S1, e1, p1, hs1, f1⟩ := h S hs
  obtain ⟨v, S2, e2, p2, hs2, f2⟩ := h' u p1 S1 hs1
  exact ⟨v, S2, by rw [go_set e1, e2], p2, hs2, f1.trans f2⟩
theorem Sx.ret (h : Dr Φ st cl e env P) : Sx Φ st cl (.cons (.ret e) sts) env P := fun S hs => by
  obtain ⟨u, S1, e1, p1, hs1, f1⟩ := h S hs
  exact ⟨u, S1, go_ret e1, p1, hs1, f1⟩
theorem Sx.ifs (h : ∀ S, evt Φ t env S = .ok k S) (ht : k = true → Sx Φ st cl body env Q) (hf : k = false → Sx Φ st cl sts env Q) : Sx Φ st cl (.cons (.if_ t body .nil) sts) env Q := fun S hs => by
  cases k with
  | true =>
    obtain ⟨u, S1, e1, r⟩ := ht rfl S hs
    exact ⟨u, S1, by rw [exs_cons, ex_if, h, on_ok, if_pos rfl, e1, then_ret], r⟩
  | false =>
    obtain ⟨u, S1, e1, r⟩ := hf rfl S hs
    exact ⟨u, S1, by rw [exs_cons, ex_if, h, on_ok, if_neg Bool.false_ne_true, exs_nil, then_nx, e1], r⟩
theorem Sx.ift {Pk : Bool → Prop} (h : ∀ S, HasSt S st cl → ∃ k S', evt Φ t env S = .ok k S' ∧ Pk k ∧ HasSt S' st cl ∧ F2 S S' st cl) (ht : Pk true → Sx Φ st cl body env Q) (hf : Pk false → Sx Φ st cl sts env Q) : Sx Φ st cl (.cons (.if_ t body .nil) sts) env Q := fun S hs => by
  obtain ⟨k, S1, e1, p1, hs1, f1⟩ := h S hs
  cases k with
  | true =>
    obtain ⟨u, S2, e2, p2, hs2, f2⟩ := ht p1 S1 hs1
    exact ⟨u, S2, by rw [exs_cons, ex_if, e1, on_ok, if_pos rfl, e2, then_ret], p2, hs2, f1.trans f2⟩
  | false =>
    obtain ⟨u, S2, e2, p2, hs2, f2⟩ := hf p1 S1 hs1
    exact ⟨u, S2, by rw [exs_cons, ex_if, e1, on_ok, if_neg Bool.false_ne_true, exs_nil, then_nx, e2], p2, hs2, f1.trans f2⟩
/-- a test that leaves what stood -/
theorem Sx.ifg (h : ∀ S, ∃ S', evt Φ t env S = .ok k S' ∧ Gr S S') (ht : k = true → Sx Φ st cl body env Q) (hf : k = false → Sx Φ st cl sts env Q) : Sx Φ st cl (.cons (.if_ t body .nil) sts) env Q :=
  Sx.ift (Pk := fun j => k = j) (fun S hs => by
    obtain ⟨S', e, g⟩ := h S
    exact ⟨k, S', e, rfl, hs.gr g, g.f2⟩) ht hf
theorem Dc.of {b : Sts} {us : List U} {Φ' : Cal} {env : Env} (h : ∀ S, Φ'.call f us S = (exs Φ b env S).fin) (hx : Sx Φ st cl b env P) : Dc Φ' st cl f us P := fun S hs => by
  obtain ⟨u, S1, e1, r⟩ := hx S hs
  exact ⟨u, S1, by rw [h, e1]; rfl, r⟩
theorem Drs.pure {us : List U} (h : ∀ S, evs Φ es env S = .ok us S) (hp : Ps us) : Drs Φ st cl es env Ps := fun S hs => ⟨us, S, h S, hp, hs, F2.refl⟩
theorem Dr.var {n : Nat} {u : U} (h : env[n]? = some (some u)) (hp : P u) : Dr Φ st cl (.v n) env P := Dr.pure (fun S => ev_v' h) hp
theorem Dr.con {u : U} (hp : P u) : Dr Φ st cl (.k u) env P := Dr.pure (fun S => rfl) hp
end
end Oz

end

section
set_option maxHeartbeats 4000000
/-! OzE: draws from a state, with lists that are held. -/
namespace Oz
open PySem PySem.Spec PyProof.Rows L2
abbrev Ks := List (Nat × List U)
structure Hs (S : Sto) (st cl : Nat) (K : Ks) : Prop where
  h : HasSt S st cl
  k : ∀ p ∈ K, S[p.1]? = some (.lst p.2) ∧ p.1 ≠ st ∧ p.1 ≠ cl
section
variable {Φ : Cal} {env : Env} {e e' : E} {es : Es} {t : T} {sts body : Sts} {st cl i j : Nat} {f : Str} {P P' : U → Ks → Prop} {Q : U → Prop} {Ps : List U → Ks → Prop} {K K1 : Ks} {S S' : Sto} {us : List U}
theorem Hs.f2 (h : Hs S st cl K) (hs : HasSt S' st cl) (f : F2 S S' st cl) : Hs S' st cl K := ⟨hs, fun p hp => by
  obtain ⟨a, b, c⟩ := h.k p hp
  exact ⟨(f.2 _ (List.getElem?_eq_some_iff.mp a).1 b c).trans a, b, c⟩⟩
theorem Hs.sub (h : Hs S st cl K1) (s : ∀ p ∈ K, p ∈ K1) : Hs S st cl K := ⟨h.h, fun p hp => h.k p (s p hp)⟩
theorem Hs.gr (h : Hs S st cl K) (g : Gr S S') : Hs S' st cl K := h.f2 (h.h.gr g) g.f2
theorem Hs.push (h : Hs S st cl K) : Hs (S ++ [.lst us]) st cl ((S.length, us) :: K) := ⟨h.h.gr Gr.push, fun p hp => by
  obtain ⟨h1, h2⟩ := h.h.lt
  rcases List.mem_cons.mp hp with rfl | hp
  · exact ⟨last_get, by simp only; omega, by simp only; omega⟩
  · exact (h.gr Gr.push).k p hp⟩
def De (Φ : Cal) (st cl : Nat) (K : Ks) (e : E) (env : Env) (P : U → Ks → Prop) : Prop := ∀ S, Hs S st cl K → ∃ u K' S', ev Φ e env S = .ok u S' ∧ P u K' ∧ (∀ p ∈ K, p ∈ K') ∧ Hs S' st cl K' ∧ F2 S S' st cl
def Des (Φ : Cal) (st cl : Nat) (K : Ks) (es : Es) (env : Env) (P : List U → Ks → Prop) : Prop := ∀ S, Hs S st cl K → ∃ us K' S', evs Φ es env S = .ok us S' ∧ P us K' ∧ (∀ p ∈ K, p ∈ K') ∧ Hs S' st cl K' ∧ F2 S S' st cl
def Se (Φ : Cal) (st cl : Nat) (K : Ks) (sts : Sts) (env : Env) (Q : U → Prop) : Prop := ∀ S, Hs S st cl K → ∃ u S', exs Φ sts env S = .ret u S' ∧ Q u ∧ HasSt S' st cl ∧ F2 S S' st cl
def Dk (Φ : Cal) (st cl : Nat) (K : Ks) (f : Str) (us : List U) (Q : U → Prop) : Prop := ∀ S, Hs S st cl K → ∃ u S', Φ.call f us S = .ok u S' ∧ Q u ∧ HasSt S' st cl ∧ F2 S S' st cl
theorem De.pure {u : U} (h : ∀ S, Hs S st cl K → ev Φ e env S = .ok u S) (hp : P u K) : De Φ st cl K e env P := fun S hs => ⟨u, K, S, h S hs, hp, fun _ h => h, hs, F2.refl⟩
theorem De.dr (h : Dr Φ st cl e env Q) (hp : ∀ u, Q u → P u K) : De Φ st cl K e env P := fun S hs => by
  obtain ⟨u, S', a, b, c, f⟩ := h S hs.h
  exact ⟨u, K, S', a, hp u b, fun _ h => h, hs.f2 c f, f⟩
theorem De.imp (h : De Φ st cl K e env P) (hi : ∀ u K', (∀ p ∈ K, p ∈ K') → P u K' → P' u K') : De Φ st cl K e env P' := fun S hs => by
  obtain ⟨u, K', S', a, b, c, d⟩ := h S hs
  exact ⟨u, K', S', a, hi u K' c b, c, d⟩
theorem Des.nil (h : Ps [] K) : Des Φ st cl K .nil env Ps := fun S hs => ⟨[], K, S, rfl, h, fun _ h => h, hs, F2.refl⟩
theorem Des.cons (h : De Φ st cl K e env P) (h' : ∀ u K', (∀ p ∈ K, p ∈ K') → P u K' → Des Φ st cl K' es env fun us K'' => Ps (u :: us) K'') : Des Φ st cl K (.cons e es) env Ps := fun S hs => by
  obtain ⟨u, K1, S1, e1, p1, s1, hs1, f1⟩ := h S hs
  obtain ⟨us, K2, S2, e2, p2, s2, hs2, f2⟩ := h' u K1 s1 p1 S1 hs1
  exact ⟨u :: us, K2, S2, by rw [evs_cons, e1, bind_ok, e2, bind_ok], p2, fun p hp => s2 p (s1 p hp), hs2, f1.trans f2⟩
theorem De.tup (h : Des Φ st cl K es env fun us K' => us.length ≤ sizeLine ∧ P (.tup us) K') : De Φ st cl K (.tup es) env P := fun S hs => by
  obtain ⟨us, K1, S1, e1, ⟨p0, p1⟩, s1, hs1, f1⟩ := h S hs
  exact ⟨.tup us, K1, S1, by rw [ev_tup, e1, bind_ok, if_pos p0], p1, s1, hs1, f1⟩
theorem De.lst (h : Des Φ st cl K es env fun us K' => us.length ≤ sizeLine ∧ ∀ n, P (.loc n) ((n, us) :: K')) : De Φ st cl K (.lst es) env P := fun S hs => by
  obtain ⟨us, K1, S1, e1, ⟨p0, p1⟩, s1, hs1, f1⟩ := h S hs
  exact ⟨.loc S1.length, (S1.length, us) :: K1, S1 ++ [.lst us], by rw [ev_lst, e1, bind_ok, if_pos p0], p1 _, fun p hp => List.mem_cons_of_mem _ (s1 p hp), hs1.push, f1.trans F2.push⟩
/-- two lists one behind the other -/
theorem De.addl (h : De Φ st cl K e env P) (h' : ∀ u K', (∀ p ∈ K, p ∈ K') → P u K' → De Φ st cl K' e' env fun v K'' => ∃ m n xs ys, u = .loc m ∧ v = .loc n ∧ (m, xs) ∈ K'' ∧ (n, ys) ∈ K'' ∧ xs.length + ys.length ≤ sizeLine ∧ ∀ l, P' (.loc l) ((l, xs ++ ys) :: K'')) : De Φ st cl K (.bin .add e e') env P' := fun S hs => by
  obtain ⟨u, K1, S1, e1, p1, s1, hs1, f1⟩ := h S hs
  obtain ⟨v, K2, S2, e2, ⟨m, n, xs, ys, rfl, rfl, hm, hn, hz, p2⟩, s2, hs2, f2⟩ := h' u K1 s1 p1 S1 hs1
  exact ⟨.loc S2.length, _, S2 ++ [.lst (xs ++ ys)], by rw [ev_bin, e1, bind_ok, e2, bind_ok, add_loc (hs2.k _ hm).1 (hs2.k _ hn).1 hz], p2 _, fun p hp => List.mem_cons_of_mem _ (s2 p (s1 p hp)), hs2.push, (f1.trans f2).trans F2.push⟩
theorem De.call (h : Des Φ st cl K es env fun us K' => Dk Φ st cl K' f us Q) (hp : ∀ u K', (∀ p ∈ K, p ∈ K') → Q u → P u K') : De Φ st cl K (.call f es) env P := fun S hs => by
  obtain ⟨us, K1, S1, e1, p1, s1, hs1, f1⟩ := h S hs
  obtain ⟨u, S2, e2, p2, hs2, f2⟩ := p1 S1 hs1
  exact ⟨u, K1, S2, by rw [ev_call, e1, bind_ok, e2], hp u K1 s1 p2, s1, hs1.f2 hs2 f2, f1.trans f2⟩
theorem Se.set (h : De Φ st cl K e env P) (h' : ∀ u K', (∀ p ∈ K, p ∈ K') → P u K' → Se Φ st cl K' sts (env.set i (some u)) Q) : Se Φ st cl K (.cons (.set false [i] e) sts) env Q := fun S hs => by
  obtain ⟨u, K1, S1, e1, p1, s1, hs1, f1⟩ := h S hs
  obtain ⟨v, S2, e2, p2, hs2, f2⟩ := h' u K1 s1 p1 S1 hs1
  exact ⟨v, S2, by rw [go_set e1, e2], p2, hs2, f1.trans f2⟩
theorem Se.par (h : Des Φ st cl K es env fun us K' => ∃ u v, us = [u, v] ∧ Se Φ st cl K' sts ((env.set i (some u)).set j (some v)) Q) : Se Φ st cl K (.cons (.par i j es) sts) env Q := fun S hs => by
  obtain ⟨us, K1, S1, e1, ⟨u, v, rfl, p1⟩, s1, hs1, f1⟩ := h S hs
  obtain ⟨w, S2, e2, p2, hs2, f2⟩ := p1 S1 hs1
  exact ⟨w, S2, by rw [exs_cons, ex, e1, on_ok]; exact e2, p2, hs2, f1.trans f2⟩
theorem Se.ret (h : De Φ st cl K e env fun u _ => Q u) : Se Φ st cl K (.cons (.ret e) sts) env Q := fun S hs => by
  obtain ⟨u, K1, S1, e1, p1, s1, hs1, f1⟩ := h S hs
  exact ⟨u, S1, go_ret e1, p1, hs1.h, f1⟩
/-- a test; its body returns -/
theorem Se.ift {Pk : Bool → Prop} (h : ∀ S, Hs S st cl K → ∃ k S', evt Φ t env S = .ok k S' ∧ Pk k ∧ HasSt S' st cl ∧ F2 S S' st cl) (ht : Pk true → Se Φ st cl K body env Q) (hf : Pk false → Se Φ st cl K sts env Q) : Se Φ st cl K (.cons (.if_ t body .nil) sts) env Q := fun S hs => by
  obtain ⟨k, S1, e1, p1, hs1, f1⟩ := h S hs
  cases k with
  | true =>
    obtain ⟨u, S2, e2, p2, hs2, f2⟩ := ht p1 S1 (hs.f2 hs1 f1)
    exact ⟨u, S2, by rw [exs_cons, ex_if, e1, on_ok, if_pos rfl, e2, then_ret], p2, hs2, f1.trans f2⟩
  | false =>
    obtain ⟨u, S2, e2, p2, hs2, f2⟩ := hf p1 S1 (hs.f2 hs1 f1)
    exact ⟨u, S2, by rw [exs_cons, ex_if, e1, on_ok, if_neg Bool.false_ne_true, exs_nil, then_nx, e2], p2, hs2, f1.trans f2⟩
theorem Se.ifs {k : Bool} (h : ∀ S, evt Φ t env S = .ok k S) (ht : k = true → Se Φ st cl K body env Q) (hf : k = false → Se Φ st cl K sts env Q) : Se Φ st cl K (.cons (.if_ t body .nil) sts) env Q :=
  Se.ift (Pk := fun j => k = j) (fun S hs => ⟨k, S, h S, rfl, hs.h, F2.refl⟩) ht hf
/-- a test; its body sets one name, both ways go on -/
theorem Se.ifset {Pk : Bool → Prop} (h : ∀ S, Hs S st cl K → ∃ k S', evt Φ t env S = .ok k S' ∧ Pk k ∧ HasSt S' st cl ∧ F2 S S' st cl) (ht : Pk true → De Φ st cl K e env P) (h' : ∀ u K', (∀ p ∈ K, p ∈ K') → P u K' → Se Φ st cl K' sts (env.set i (some u)) Q) (hf : Pk false → Se Φ st cl K sts env Q) : Se Φ st cl K (.cons (.if_ t (.cons (.set false [i] e) .nil) .nil) sts) env Q := fun S hs => by
  obtain ⟨k, S1, e1, p1, hs1, f1⟩ := h S hs
  cases k with
  | true =>
    obtain ⟨u, K2, S2, e2, p2, s2, hs2, f2⟩ := ht p1 S1 (hs.f2 hs1 f1)
    obtain ⟨v, S3, e3, p3, hs3, f3⟩ := h' u K2 s2 p2 S2 hs2
    exact ⟨v, S3, by rw [go_if_set e1 e2, e3], p3, hs3, (f1.trans f2).trans f3⟩
  | false =>
    obtain ⟨u, S2, e2, p2, hs2, f2⟩ := hf p1 S1 (hs.f2 hs1 f1)
    exact ⟨u, S2, by rw [go_skip e1, e2], p2, hs2, f1.trans f2⟩
theorem Dk.of {b : Sts} {us : List U} {Φ' : Cal} {env : Env} (h : ∀ S, Φ'.call f us S = (exs Φ b env S).fin) (hx : Se Φ st cl K b env Q) : Dk Φ' st cl K f us Q := fun S hs => by
  obtain ⟨u, S1, e1, r⟩ := hx S hs
  exact ⟨u, S1, by rw [h, e1]; rfl, r⟩
theorem Dk.dc (h : Dc Φ st cl f us Q) : Dk Φ st cl K f us Q := fun S hs => h S hs.h
theorem Dk.sub (h : Dk Φ st cl K f us Q) (s : ∀ p ∈ K, p ∈ K1) : Dk Φ st cl K1 f us Q := fun S hs => h S (hs.sub s)
theorem Dk.imp {Q' : U → Prop} (h : Dk Φ st cl K f us Q) (hi : ∀ u, Q u → Q' u) : Dk Φ st cl K f us Q' := fun S hs => by
  obtain ⟨u, S', a, b, c⟩ := h S hs
  exact ⟨u, S', a, hi u b, c⟩
theorem De.var {n : Nat} {u : U} (h : env[n]? = some (some u)) (hp : P u K) : De Φ st cl K (.v n) env P := De.pure (fun S _ => ev_v' h) hp
theorem De.con {u : U} (hp : P u K) : De Φ st cl K (.k u) env P := De.pure (fun S _ => rfl) hp
/-- one item of a displayed list -/
theorem De.pick (h : Des Φ st cl K es env fun us K' => us.length ≤ sizeLine ∧ ∀ n, De Φ st cl ((n, us) :: K') e env fun v K'' => ∃ i w, v = .int i ∧ atI us i = some w ∧ P w K'') : De Φ st cl K (.ix (.lst es) e) env P := fun S hs => by
  obtain ⟨us, K1, S1, e1, ⟨hz, p1⟩, s1, hs1, f1⟩ := h S hs
  obtain ⟨v, K2, S2, e2, ⟨i, w, rfl, ha, hp⟩, s2, hs2, f2⟩ := p1 S1.length (S1 ++ [.lst us]) hs1.push
  have hl := (hs2.k _ (s2 _ List.mem_cons_self)).1
  exact ⟨w, K2, S2, by rw [ev_ix, ev_lst, e1, bind_ok, if_pos hz, bind_ok, e2, bind_ok, ix_loc hl, ha], hp, fun p hq => s2 p (List.mem_cons_of_mem _ (s1 p hq)), hs2, (f1.trans F2.push).trans f2⟩
end
end Oz

end

section
set_option maxHeartbeats 4000000
/-! The program halfnoted_k22_checks_of_casts in the small language (printed by wip/tools/gen.py). -/
namespace Pr
open PySem L2 Oz
def top (i : Nat) : Stmt := PySem.Challenge.pw_halfnoted_k22_checks_of_casts.main.body.getD i (.Pass ⟨0, 0, 0, 0⟩)
abbrev st_ground : Stmt := top 5
def T_ground : Sts := (.cons (.ret (.ix (.v 0) (.k (.int 0)))) .nil)
def N_ground : List Str := ["a_type"]
abbrev st_ground_type : Stmt := top 6
def T_ground_type : Sts := (.cons (.ret (.gd "GROUND_TYPES" (.v 0))) .nil)
def N_ground_type : List Str := ["name"]
abbrev st_safe : Stmt := top 7
def T_safe : Sts := (.cons (.ret (.ix (.call "safe_sides" (.cons (.v 0) (.cons (.v 1) .nil))) (.v 2))) .nil)
def N_safe : List Str := ["source", "target", "side"]
abbrev st_safe_sides : Stmt := top 8
def T_safe_sides : Sts := (.cons (.if_ (.and (.e (.cmp .eq (.v 0) (.g "ANY"))) (.e (.cmp .eq (.v 1) (.g "ANY")))) (.cons (.ret (.g "ALL_SAFE")) .nil) .nil) (.cons (.if_ (.e (.cmp .eq (.v 1) (.g "ANY"))) (.cons (.ret (.call "safe_sides_to_any" (.cons (.v 0) .nil))) .nil) .nil) (.cons (.if_ (.e (.cmp .eq (.v 0) (.g "ANY"))) (.cons (.set false [2] (.call "safe_sides_to_any" (.cons (.v 1) .nil))) (.cons (.ret (.bin .add (.sl (.v 2) (.so (.k (.int 2))) .no) (.sl (.v 2) .no (.so (.k (.int 2)))))) .nil)) .nil) (.cons (.if_ (.e (.cmp .ne (.ix (.v 0) (.k (.int 0))) (.ix (.v 1) (.k (.int 0))))) (.cons (.ret (.g "NONE_SAFE")) .nil) .nil) (.cons (.if_ (.and (.e (.cmp .eq (.ix (.v 0) (.k (.int 0))) (.k (.str "pair")))) (.and (.e (.cmp .eq (.ix (.v 0) (.k (.int 1))) (.ix (.v 0) (.k (.int 2))))) (.e (.cmp .eq (.ix (.v 1) (.k (.int 1))) (.ix (.v 1) (.k (.int 2))))))) (.cons (.ret (.call "safe_sides" (.cons (.ix (.v 0) (.k (.int 1))) (.cons (.ix (.v 1) (.k (.int 1))) .nil)))) .nil) .nil) (.cons (.set false [3] (.lcz [4, 5] (.call "safe_sides" (.cons (.v 4) (.cons (.v 5) .nil))) (.cons (.sl (.v 0) (.so (.k (.int 1))) .no) (.cons (.sl (.v 1) (.so (.k (.int 1))) .no) .nil)) .tt)) (.cons (.if_ (.e (.cmp .eq (.ix (.v 0) (.k (.int 0))) (.k (.str "fun")))) (.cons (.sub (.v 3) (.k (.int 0)) (.rev (.ix (.v 3) (.k (.int 0))))) .nil) .nil) (.cons (.if_ (.e (.cmp .eq (.ix (.v 0) (.k (.int 0))) (.k (.str "box")))) (.cons (.ex (.bm .append (.v 3) (.cons (.rev (.ix (.v 3) (.k (.int 0)))) .nil))) .nil) .nil) (.cons (.ret (.bf .tup (.cons (.lczn 6 (.bf .all (.cons (.v 6) .nil)) (.cons (.g "ALL_SAFE") (.star (.v 3) .nil))) .nil))) .nil)))))))))
def N_safe_sides : List Str := ["one", "other", "sides", "inside", "first", "second", "each"]
abbrev st_safe_sides_to_any : Stmt := top 9
def T_safe_sides_to_any : Sts := (.cons (.set false [1] (.call "safe_sides" (.cons (.v 0) (.cons (.call "ground_type" (.cons (.call "ground" (.cons (.v 0) .nil)) .nil)) .nil)))) (.cons (.ret (.tup (.cons (.ix (.v 1) (.k (.int 0))) (.cons (.k (.bl true)) (.cons (.k (.bl true)) (.cons (.k (.bl false)) .nil)))))) .nil))
def N_safe_sides_to_any : List Str := ["a_type", "to_ground"]
abbrev st_check_of : Stmt := top 19
def T_check_of : Sts := (.cons (.ret (.call "check_between" (.cons (.v 0) (.cons (.v 1) (.cons (.tup (.cons (.v 2) (.cons (.v 3) .nil))) .nil))))) .nil)
def N_check_of : List Str := ["source", "target", "number", "side"]
abbrev st_check_between : Stmt := top 20
def T_check_between : Sts := (.cons (.if_ (.and (.e (.cmp .eq (.v 0) (.g "ANY"))) (.e (.cmp .eq (.v 1) (.g "ANY")))) (.cons (.ret (.tup (.cons (.k (.str "any")) .nil))) .nil) .nil) (.cons (.if_ (.e (.cmp .eq (.v 1) (.g "ANY"))) (.cons (.ret (.tup (.cons (.k (.str "give")) (.cons (.call "check_between" (.cons (.v 0) (.cons (.call "ground_type" (.cons (.ix (.v 0) (.k (.int 0))) .nil)) (.cons (.v 2) .nil)))) .nil)))) .nil) .nil) (.cons (.if_ (.e (.cmp .eq (.v 0) (.g "ANY"))) (.cons (.ret (.tup (.cons (.k (.str "take")) (.cons (.ix (.v 1) (.k (.int 0))) (.cons (.v 2) (.cons (.call "check_between" (.cons (.call "ground_type" (.cons (.ix (.v 1) (.k (.int 0))) .nil)) (.cons (.v 1) (.cons (.v 2) .nil)))) .nil)))))) .nil) .nil) (.cons (.if_ (.e (.cmp .in_ (.ix (.v 0) (.k (.int 0))) (.g "SAME_GROUNDS"))) (.cons (.ret (.tup (.cons (.k (.str "same")) (.cons (.ix (.v 0) (.k (.int 0))) .nil)))) .nil) .nil) (.cons (.if_ (.e (.cmp .eq (.ix (.v 0) (.k (.int 0))) (.k (.str "pair")))) (.cons (.ret (.call "check_between_pairs" (.cons (.v 0) (.cons (.v 1) (.cons (.v 2) .nil))))) .nil) .nil) (.cons (.set false [3] (.call "check_between" (.cons (.ix (.v 1) (.k (.int 1))) (.cons (.ix (.v 0) (.k (.int 1))) (.cons (.call "turned" (.cons (.v 2) .nil)) .nil))))) (.cons (.ret (.tup (.cons (.ix (.v 0) (.k (.int 0))) (.cons (.v 3) (.cons (.call "check_between" (.cons (.ix (.v 0) (.neg (.k (.int 1)))) (.cons (.ix (.v 1) (.neg (.k (.int 1)))) (.cons (.v 2) .nil)))) .nil))))) .nil)))))))
def N_check_between : List Str := ["source", "target", "label", "into"]
abbrev st_check_between_pairs : Stmt := top 21
def T_check_between_pairs : Sts := (.cons (.set false [3] (.call "check_between" (.cons (.ix (.v 0) (.k (.int 1))) (.cons (.ix (.v 1) (.k (.int 1))) (.cons (.v 2) .nil))))) (.cons (.if_ (.and (.e (.cmp .eq (.ix (.v 0) (.k (.int 1))) (.ix (.v 0) (.k (.int 2))))) (.e (.cmp .eq (.ix (.v 1) (.k (.int 1))) (.ix (.v 1) (.k (.int 2)))))) (.cons (.ret (.tup (.cons (.k (.str "pair")) (.cons (.v 3) (.cons (.v 3) .nil))))) .nil) .nil) (.cons (.ret (.tup (.cons (.k (.str "pair")) (.cons (.v 3) (.cons (.call "check_between" (.cons (.ix (.v 0) (.k (.int 2))) (.cons (.ix (.v 1) (.k (.int 2))) (.cons (.v 2) .nil)))) .nil))))) .nil)))
def N_check_between_pairs : List Str := ["source", "target", "label", "first"]
abbrev st_turned : Stmt := top 22
def T_turned : Sts := (.cons (.set true [1, 2] (.v 0)) (.cons (.ret (.tup (.cons (.v 1) (.cons (.bin .sub (.k (.int 1)) (.v 2)) .nil)))) .nil))
def N_turned : List Str := ["label", "number", "side"]
abbrev st_source_ground : Stmt := top 23
def T_source_ground : Sts := (.cons (.if_ (.e (.cmp .eq (.ix (.v 0) (.k (.int 0))) (.k (.str "give")))) (.cons (.ret (.call "source_ground" (.cons (.ix (.v 0) (.k (.int 1))) .nil))) .nil) .nil) (.cons (.if_ (.e (.cmp .in_ (.ix (.v 0) (.k (.int 0))) (.tup (.cons (.k (.str "same")) (.cons (.k (.str "fail")) .nil))))) (.cons (.ret (.ix (.v 0) (.k (.int 1)))) .nil) .nil) (.cons (.ret (.ix (.v 0) (.k (.int 0)))) .nil)))
def N_source_ground : List Str := ["check"]
abbrev st_inside : Stmt := top 24
def T_inside : Sts := (.cons (.ret (.lc [1] false (.ix (.v 0) (.v 1)) (.gget "CHECKS_AT" (.ix (.v 0) (.k (.int 0))) (.tup .nil)) .tt)) .nil)
def N_inside : List Str := ["check", "at"]
abbrev st_different_inside : Stmt := top 25
def T_different_inside : Sts := (.cons (.set false [1] (.call "inside" (.cons (.v 0) .nil))) (.cons (.ret (.ife (.e (.cmp .eq (.sl (.v 1) .no (.so (.k (.int 1)))) (.sl (.v 1) (.so (.k (.int 1))) .no))) (.sl (.v 1) .no (.so (.k (.int 1)))) (.v 1))) .nil))
def N_different_inside : List Str := ["check", "found"]
abbrev st_check_size : Stmt := top 26
def T_check_size : Sts := (.cons (.set false [1] (.lc [2] false (.call "check_size" (.cons (.v 2) .nil)) (.call "different_inside" (.cons (.v 0) .nil)) .tt)) (.cons (.if_ (.e (.cmp .lt (.bf .len (.cons (.v 1) .nil)) (.bf .len (.cons (.call "inside" (.cons (.v 0) .nil)) .nil)))) (.cons (.ret (.bin .add (.k (.int 1)) (.bin .mul (.k (.int 2)) (.ix (.v 1) (.k (.int 0)))))) .nil) .nil) (.cons (.ret (.bin .add (.k (.int 1)) (.bf .sum (.cons (.v 1) .nil)))) .nil)))
def N_check_size : List Str := ["check", "sizes", "one"]
abbrev st_check_height : Stmt := top 27
def T_check_height : Sts := (.cons (.set false [1] (.ife (.e (.cmp .in_ (.ix (.v 0) (.k (.int 0))) (.tup (.cons (.k (.str "give")) (.cons (.k (.str "take")) .nil))))) (.k (.int 0)) (.k (.int 1)))) (.cons (.ret (.bin .add (.v 1) (.bf .maxd (.cons (.lc [2] false (.call "check_height" (.cons (.v 2) .nil)) (.call "different_inside" (.cons (.v 0) .nil)) .tt) (.cons (.k (.int 0)) .nil))))) .nil))
def N_check_height : List Str := ["check", "higher", "one"]
abbrev st_labels : Stmt := top 28
def T_labels : Sts := (.cons (.ret (.lsd 1 (.call "all_labels" (.cons (.v 0) .nil)))) .nil)
def N_labels : List Str := ["check", "label"]
abbrev st_all_labels : Stmt := top 29
def T_all_labels : Sts := (.cons (.set false [1] (.lst .nil)) (.cons (.if_ (.e (.din "LABEL_AT" (.ix (.v 0) (.k (.int 0))))) (.cons (.ex (.bm .append (.v 1) (.cons (.ix (.v 0) (.gd "LABEL_AT" (.ix (.v 0) (.k (.int 0))))) .nil))) .nil) .nil) (.cons (.for_ false [2] (.call "different_inside" (.cons (.v 0) .nil)) (.cons (.ex (.bm .extend (.v 1) (.cons (.call "all_labels" (.cons (.v 2) .nil)) .nil))) .nil)) (.cons (.ret (.v 1)) .nil))))
def N_all_labels : List Str := ["check", "found", "one"]
abbrev st_is_check : Stmt := top 30
def T_is_check : Sts := (.cons (.ret (.call "is_check_of" (.cons (.v 0) (.cons (.g "HEADS") (.cons (.g "MOST_HEIGHT") .nil))))) .nil)
def N_is_check : List Str := ["value"]
abbrev st_is_check_of : Stmt := top 31
def T_is_check_of : Sts := (.cons (.if_ (.or (.e (.cmp .eq (.v 2) (.k (.int 0)))) (.or (.not (.e (.isi (.v 0) "tuple"))) (.e (.cmp .eq (.bf .len (.cons (.v 0) .nil)) (.k (.int 0)))))) (.cons (.ret (.k (.bl false))) .nil) .nil) (.cons (.if_ (.or (.e (.cmp .notIn (.ix (.v 0) (.k (.int 0))) (.v 1))) (.e (.cmp .ne (.bf .len (.cons (.v 0) .nil)) (.gd "LENGTHS" (.ix (.v 0) (.k (.int 0))))))) (.cons (.ret (.k (.bl false))) .nil) .nil) (.cons (.mtch (.v 0) (.cons (.seq [.lit "any"]) (.cons (.ret (.k (.bl true))) .nil) (.cons (.seq [.lit "same", .cap 3]) (.cons (.ret (.cmp .in_ (.v 3) (.g "SAME_GROUNDS"))) .nil) (.cons (.seq [.lit "give", .cap 4]) (.cons (.ret (.call "is_check_of" (.cons (.v 4) (.cons (.g "PLAIN_HEADS") (.cons (.v 2) .nil))))) .nil) (.cons (.seq [.lit "fail", .cap 3, .cap 5, .cap 6]) (.cons (.ret (.and (.call "is_ground" (.cons (.v 3) .nil)) (.and (.call "is_label" (.cons (.v 5) .nil)) (.and (.call "is_ground" (.cons (.v 6) .nil)) (.cmp .ne (.v 3) (.v 6)))))) .nil) (.cons (.seq [.lit "take", .cap 3, .cap 5, .cap 7]) (.cons (.ret (.and (.call "is_label" (.cons (.v 5) .nil)) (.and (.call "is_check_of" (.cons (.v 7) (.cons (.g "TAKEN_HEADS") (.cons (.v 2) .nil)))) (.cmp .eq (.call "source_ground" (.cons (.v 7) .nil)) (.v 3))))) .nil) .nil)))))) (.cons (.ret (.and (.call "is_check_of" (.cons (.ix (.v 0) (.k (.int 1))) (.cons (.g "HEADS") (.cons (.bin .sub (.v 2) (.k (.int 1))) .nil)))) (.call "is_check_of" (.cons (.ix (.v 0) (.k (.int 2))) (.cons (.g "HEADS") (.cons (.bin .sub (.v 2) (.k (.int 1))) .nil)))))) .nil))))
def N_is_check_of : List Str := ["value", "heads", "most", "name", "given", "label", "wanted", "taken"]
abbrev st_is_ground : Stmt := top 32
def T_is_ground : Sts := (.cons (.ret (.and (.isi (.v 0) "str") (.din "GROUND_TYPES" (.v 0)))) .nil)
def N_is_ground : List Str := ["value"]
abbrev st_is_label : Stmt := top 33
def T_is_label : Sts := (.cons (.if_ (.or (.not (.e (.isi (.v 0) "tuple"))) (.e (.cmp .ne (.bf .len (.cons (.v 0) .nil)) (.k (.int 2))))) (.cons (.ret (.k (.bl false))) .nil) .nil) (.cons (.set true [1, 2] (.v 0)) (.cons (.ret (.and (.call "is_number" (.cons (.v 1) .nil)) (.and (.call "is_number" (.cons (.v 2) .nil)) (.cmp .lt (.v 2) (.k (.int 2)))))) .nil)))
def N_is_label : List Str := ["value", "number", "side"]
abbrev st_is_number : Stmt := top 34
def T_is_number : Sts := (.cons (.ret (.and (.isi (.v 0) "int") (.and (.not (.isi (.v 0) "bool")) (.cmp .ge (.v 0) (.k (.int 0)))))) .nil)
def N_is_number : List Str := ["value"]
abbrev st__law_state : Stmt := top 36
def T__law_state : Sts := (.cons (.set false [1] (.lc [2] false (.bf .abs (.cons (.v 2) .nil)) (.sl (.v 0) .no (.so (.k (.int 63)))) .tt)) (.cons (.if_ (.e (.cmp .eq (.bf .len (.cons (.v 1) .nil)) (.k (.int 0)))) (.cons (.set false [1] (.lst (.cons (.k (.int 0)) .nil))) .nil) .nil) (.cons (.ret (.lst (.cons (.k (.int 0)) (.cons (.v 1) .nil)))) .nil)))
def N__law_state : List Str := ["_law_script", "_law_cells", "_law_cell"]
abbrev st__law_take : Stmt := top 37
def T__law_take : Sts := (.cons (.set false [2] (.ix (.v 0) (.k (.int 1)))) (.cons (.set false [3] (.bin .mod (.ix (.v 0) (.k (.int 0))) (.bf .len (.cons (.v 2) .nil)))) (.cons (.set false [4] (.ix (.v 2) (.v 3))) (.cons (.if_ (.e (.cmp .ge (.v 4) (.k (.int 1000000000000000000)))) (.cons (.sub (.v 2) (.v 3) (.bin .fdiv (.v 4) (.v 1))) (.cons (.ret (.bin .mod (.v 4) (.v 1))) .nil)) .nil) (.cons (.sub (.v 0) (.k (.int 0)) (.bin .add (.ix (.v 0) (.k (.int 0))) (.k (.int 1)))) (.cons (.set false [5] (.bin .mod (.bf .int (.cons (.bin .add (.bin .mul (.v 4) (.k (.int 48271))) (.bin .mul (.ix (.v 0) (.k (.int 0))) (.k (.int 69621)))) .nil)) (.k (.int 2147483647)))) (.cons (.set false [5] (.bin .mod (.bf .int (.cons (.bin .add (.bin .mul (.v 5) (.k (.int 16807))) (.bin .mul (.ix (.v 0) (.k (.int 0))) (.k (.int 7919)))) .nil)) (.k (.int 1000000007)))) (.cons (.ret (.bin .mod (.bin .fdiv (.v 5) (.k (.int 7))) (.v 1))) .nil))))))))
def N__law_take : List Str := ["_law_state_here", "_law_most", "_law_cells", "_law_at", "_law_cell", "_law_mixed"]
abbrev st__law_type : Stmt := top 38
def T__law_type : Sts := (.cons (.set false [2] (.call "_law_take" (.cons (.v 0) (.cons (.k (.int 9)) .nil)))) (.cons (.if_ (.and (.e (.cmp .gt (.v 1) (.k (.int 0)))) (.e (.cmp .eq (.v 2) (.k (.int 0))))) (.cons (.ret (.tup (.cons (.k (.str "fun")) (.cons (.call "_law_type" (.cons (.v 0) (.cons (.bin .sub (.v 1) (.k (.int 1))) .nil))) (.cons (.call "_law_type" (.cons (.v 0) (.cons (.bin .sub (.v 1) (.k (.int 1))) .nil))) .nil))))) .nil) .nil) (.cons (.if_ (.and (.e (.cmp .gt (.v 1) (.k (.int 0)))) (.e (.cmp .eq (.v 2) (.k (.int 1))))) (.cons (.ret (.tup (.cons (.k (.str "pair")) (.cons (.call "_law_type" (.cons (.v 0) (.cons (.bin .sub (.v 1) (.k (.int 1))) .nil))) (.cons (.call "_law_type" (.cons (.v 0) (.cons (.bin .sub (.v 1) (.k (.int 1))) .nil))) .nil))))) .nil) .nil) (.cons (.if_ (.and (.e (.cmp .gt (.v 1) (.k (.int 0)))) (.e (.cmp .eq (.v 2) (.k (.int 2))))) (.cons (.ret (.tup (.cons (.k (.str "box")) (.cons (.call "_law_type" (.cons (.v 0) (.cons (.bin .sub (.v 1) (.k (.int 1))) .nil))) .nil)))) .nil) .nil) (.cons (.ret (.ix (.lst (.cons (.tup (.cons (.k (.str "int")) .nil)) (.cons (.tup (.cons (.k (.str "any")) .nil)) (.cons (.tup (.cons (.k (.str "bool")) .nil)) (.cons (.tup (.cons (.k (.str "int")) .nil)) (.cons (.tup (.cons (.k (.str "unit")) .nil)) (.cons (.tup (.cons (.k (.str "any")) .nil)) .nil))))))) (.bin .mod (.v 2) (.k (.int 6))))) .nil)))))
def N__law_type : List Str := ["_law_state_here", "_law_depth_here", "_law_kind"]
abbrev st__law_ground_type : Stmt := top 40
def T__law_ground_type : Sts := (.cons (.if_ (.or (.e (.cmp .eq (.v 0) (.k (.str "fun")))) (.e (.cmp .eq (.v 0) (.k (.str "pair"))))) (.cons (.ret (.tup (.cons (.v 0) (.cons (.tup (.cons (.k (.str "any")) .nil)) (.cons (.tup (.cons (.k (.str "any")) .nil)) .nil))))) .nil) .nil) (.cons (.if_ (.e (.cmp .eq (.v 0) (.k (.str "box")))) (.cons (.ret (.tup (.cons (.k (.str "box")) (.cons (.tup (.cons (.k (.str "any")) .nil)) .nil)))) .nil) .nil) (.cons (.ret (.tup (.cons (.v 0) .nil))) .nil)))
def N__law_ground_type : List Str := ["_law_name"]
abbrev st__law_check : Stmt := top 41
def T__law_check : Sts := (.cons (.if_ (.and (.e (.cmp .eq (.ix (.v 0) (.k (.int 0))) (.k (.str "any")))) (.e (.cmp .eq (.ix (.v 1) (.k (.int 0))) (.k (.str "any"))))) (.cons (.ret (.tup (.cons (.k (.str "any")) .nil))) .nil) .nil) (.cons (.if_ (.e (.cmp .eq (.ix (.v 1) (.k (.int 0))) (.k (.str "any")))) (.cons (.ret (.tup (.cons (.k (.str "give")) (.cons (.call "_law_check" (.cons (.v 0) (.cons (.call "_law_ground_type" (.cons (.ix (.v 0) (.k (.int 0))) .nil)) (.cons (.v 2) (.cons (.v 3) .nil))))) .nil)))) .nil) .nil) (.cons (.if_ (.e (.cmp .eq (.ix (.v 0) (.k (.int 0))) (.k (.str "any")))) (.cons (.ret (.tup (.cons (.k (.str "take")) (.cons (.ix (.v 1) (.k (.int 0))) (.cons (.tup (.cons (.v 2) (.cons (.v 3) .nil))) (.cons (.call "_law_check" (.cons (.call "_law_ground_type" (.cons (.ix (.v 1) (.k (.int 0))) .nil)) (.cons (.v 1) (.cons (.v 2) (.cons (.v 3) .nil))))) .nil)))))) .nil) .nil) (.cons (.if_ (.e (.cmp .eq (.bf .len (.cons (.v 0) .nil)) (.k (.int 1)))) (.cons (.ret (.tup (.cons (.k (.str "same")) (.cons (.ix (.v 0) (.k (.int 0))) .nil)))) .nil) .nil) (.cons (.set false [4] (.bin .sub (.bf .len (.cons (.v 0) .nil)) (.k (.int 1)))) (.cons (.set false [5] (.call "_law_check" (.cons (.ix (.v 0) (.v 4)) (.cons (.ix (.v 1) (.v 4)) (.cons (.v 2) (.cons (.v 3) .nil)))))) (.cons (.if_ (.e (.cmp .eq (.ix (.v 0) (.k (.int 0))) (.k (.str "pair")))) (.cons (.ret (.tup (.cons (.k (.str "pair")) (.cons (.call "_law_check" (.cons (.ix (.v 0) (.k (.int 1))) (.cons (.ix (.v 1) (.k (.int 1))) (.cons (.v 2) (.cons (.v 3) .nil))))) (.cons (.v 5) .nil))))) .nil) .nil) (.cons (.ret (.tup (.cons (.ix (.v 0) (.k (.int 0))) (.cons (.call "_law_check" (.cons (.ix (.v 1) (.k (.int 1))) (.cons (.ix (.v 0) (.k (.int 1))) (.cons (.v 2) (.cons (.bin .sub (.k (.int 1)) (.v 3)) .nil))))) (.cons (.v 5) .nil))))) .nil))))))))
def N__law_check : List Str := ["_law_one", "_law_other", "_law_number", "_law_side", "_law_last", "_law_second"]
abbrev st__law_partner : Stmt := top 42
def T__law_partner : Sts := (.cons (.set false [3] (.call "_law_take" (.cons (.v 0) (.cons (.k (.int 4)) .nil)))) (.cons (.if_ (.e (.cmp .eq (.v 3) (.k (.int 0)))) (.cons (.ret (.tup (.cons (.k (.str "any")) .nil))) .nil) .nil) (.cons (.if_ (.e (.cmp .eq (.ix (.v 1) (.k (.int 0))) (.k (.str "any")))) (.cons (.ret (.call "_law_type" (.cons (.v 0) (.cons (.v 2) .nil)))) .nil) .nil) (.cons (.if_ (.or (.e (.cmp .eq (.ix (.v 1) (.k (.int 0))) (.k (.str "fun")))) (.e (.cmp .eq (.ix (.v 1) (.k (.int 0))) (.k (.str "pair"))))) (.cons (.ret (.tup (.cons (.ix (.v 1) (.k (.int 0))) (.cons (.call "_law_partner" (.cons (.v 0) (.cons (.ix (.v 1) (.k (.int 1))) (.cons (.bin .sub (.v 2) (.k (.int 1))) .nil)))) (.cons (.call "_law_partner" (.cons (.v 0) (.cons (.ix (.v 1) (.k (.int 2))) (.cons (.bin .sub (.v 2) (.k (.int 1))) .nil)))) .nil))))) .nil) .nil) (.cons (.if_ (.e (.cmp .eq (.ix (.v 1) (.k (.int 0))) (.k (.str "box")))) (.cons (.ret (.tup (.cons (.k (.str "box")) (.cons (.call "_law_partner" (.cons (.v 0) (.cons (.ix (.v 1) (.k (.int 1))) (.cons (.bin .sub (.v 2) (.k (.int 1))) .nil)))) .nil)))) .nil) .nil) (.cons (.ret (.v 1)) .nil))))))
def N__law_partner : List Str := ["_law_state_here", "_law_one", "_law_depth_here", "_law_kind"]
abbrev st__law_height : Stmt := top 43
def T__law_height : Sts := (.cons (.ret (.bin .add (.k (.int 1)) (.bf .maxd (.cons (.lc [1] false (.call "_law_height" (.cons (.v 1) .nil)) (.sl (.v 0) (.so (.k (.int 1))) .no) .tt) (.cons (.k (.int 0)) .nil))))) .nil)
def N__law_height : List Str := ["_law_one", "_law_part"]
abbrev st__law_inner : Stmt := top 44
def T__law_inner : Sts := (.cons (.if_ (.e (.cmp .in_ (.ix (.v 0) (.k (.int 0))) (.lst (.cons (.k (.str "fun")) (.cons (.k (.str "pair")) (.cons (.k (.str "box")) .nil)))))) (.cons (.ret (.lst (.cons (.ix (.v 0) (.k (.int 1))) (.cons (.ix (.v 0) (.k (.int 2))) .nil)))) .nil) .nil) (.cons (.if_ (.e (.cmp .eq (.ix (.v 0) (.k (.int 0))) (.k (.str "give")))) (.cons (.ret (.lst (.cons (.ix (.v 0) (.k (.int 1))) .nil))) .nil) .nil) (.cons (.if_ (.e (.cmp .eq (.ix (.v 0) (.k (.int 0))) (.k (.str "take")))) (.cons (.ret (.lst (.cons (.ix (.v 0) (.k (.int 3))) .nil))) .nil) .nil) (.cons (.ret (.lst .nil)) .nil))))
def N__law_inner : List Str := ["_law_check_here"]
abbrev st__law_size : Stmt := top 45
def T__law_size : Sts := (.cons (.ret (.bin .add (.k (.int 1)) (.bf .sum (.cons (.lc [1] false (.call "_law_size" (.cons (.v 1) .nil)) (.call "_law_inner" (.cons (.v 0) .nil)) .tt) .nil)))) .nil)
def N__law_size : List Str := ["_law_check_here", "_law_part"]
abbrev st__law_depth : Stmt := top 46
def T__law_depth : Sts := (.cons (.set false [1] (.bf .maxd (.cons (.lc [2] false (.call "_law_depth" (.cons (.v 2) .nil)) (.call "_law_inner" (.cons (.v 0) .nil)) .tt) (.cons (.k (.int 0)) .nil)))) (.cons (.ret (.bin .add (.v 1) (.bf .int (.cons (.cmp .notIn (.ix (.v 0) (.k (.int 0))) (.lst (.cons (.k (.str "give")) (.cons (.k (.str "take")) .nil)))) .nil)))) .nil))
def N__law_depth : List Str := ["_law_check_here", "_law_below", "_law_part"]
abbrev st__law_labels : Stmt := top 47
def T__law_labels : Sts := (.cons (.set false [1] (.lst .nil)) (.cons (.if_ (.or (.e (.cmp .eq (.ix (.v 0) (.k (.int 0))) (.k (.str "take")))) (.e (.cmp .eq (.ix (.v 0) (.k (.int 0))) (.k (.str "fail"))))) (.cons (.ex (.bm .append (.v 1) (.cons (.ix (.v 0) (.k (.int 2))) .nil))) .nil) .nil) (.cons (.for_ false [2] (.call "_law_inner" (.cons (.v 0) .nil)) (.cons (.set false [1] (.bin .add (.v 1) (.lc [3] false (.v 3) (.call "_law_labels" (.cons (.v 2) .nil)) (.e (.cmp .notIn (.v 3) (.v 1)))))) .nil)) (.cons (.ret (.v 1)) .nil))))
def N__law_labels : List Str := ["_law_check_here", "_law_found", "_law_part", "_law_label"]
abbrev st__law_holds : Stmt := top 48
def T__law_holds : Sts := (.cons (.set false [4] (.kcall "check_of" (.cons (.v 0) (.cons (.v 1) .nil)) (.cons (.v 2) (.cons (.v 3) .nil)))) (.cons (.if_ (.or (.e (.cmp .ne (.v 4) (.call "_law_check" (.cons (.v 0) (.cons (.v 1) (.cons (.v 2) (.cons (.v 3) .nil))))))) (.e (.cmp .isNotN (.call "is_check" (.cons (.v 4) .nil)) (.k (.bl true))))) (.cons (.ret (.k (.bl false))) .nil) .nil) (.cons (.par 5 6 (.cons (.call "_law_size" (.cons (.v 4) .nil)) (.cons (.call "_law_depth" (.cons (.v 4) .nil)) .nil))) (.cons (.if_ (.or (.e (.cmp .ne (.call "check_size" (.cons (.v 4) .nil)) (.v 5))) (.or (.e (.cmp .ne (.call "check_height" (.cons (.v 4) .nil)) (.v 6))) (.e (.cmp .ne (.call "labels" (.cons (.v 4) .nil)) (.call "_law_labels" (.cons (.v 4) .nil)))))) (.cons (.ret (.k (.bl false))) .nil) .nil) (.cons (.if_ (.or (.e (.cmp .gt (.v 6) (.bf .max2 (.cons (.call "_law_height" (.cons (.v 0) .nil)) (.cons (.call "_law_height" (.cons (.v 1) .nil)) .nil))))) (.e (.cmp .gt (.v 5) (.bin .sub (.bin .mul (.k (.int 3)) (.bin .shl (.k (.int 1)) (.v 6))) (.k (.int 3)))))) (.cons (.ret (.k (.bl false))) .nil) .nil) (.cons (.for_ false [7] (.lst (.cons (.k (.int 0)) (.cons (.k (.int 1)) .nil))) (.cons (.set false [8] (.kcall "safe" (.cons (.v 0) (.cons (.v 1) .nil)) (.cons (.v 7) .nil))) (.cons (.set false [9] (.tup (.cons (.v 2) (.cons (.bin .mod (.bin .add (.bin .add (.v 3) (.k (.int 1))) (.v 7)) (.k (.int 2))) .nil)))) (.cons (.if_ (.or (.and (.e (.cmp .isNotN (.v 8) (.k (.bl true)))) (.e (.cmp .isNotN (.v 8) (.k (.bl false))))) (.e (.cmp .eq (.v 8) (.cmp .in_ (.v 9) (.call "_law_labels" (.cons (.v 4) .nil)))))) (.cons (.ret (.k (.bl false))) .nil) .nil) .nil)))) (.cons (.ret (.k (.bl true))) .nil)))))))
def N__law_holds : List Str := ["_law_one", "_law_other", "_law_number", "_law_side", "_law_check_here", "_law_size_here", "_law_height_here", "_law_turned", "_law_told", "_law_label"]
abbrev st_law : Stmt := top 49
def T_law : Sts := (.cons (.set false [1] (.call "_law_state" (.cons (.v 0) .nil))) (.cons (.set false [2] (.call "_law_type" (.cons (.v 1) (.cons (.bin .add (.k (.int 1)) (.call "_law_take" (.cons (.v 1) (.cons (.k (.int 4)) .nil)))) .nil)))) (.cons (.set false [3] (.call "_law_partner" (.cons (.v 1) (.cons (.v 2) (.cons (.k (.int 2)) .nil))))) (.cons (.set false [4] (.call "_law_take" (.cons (.v 1) (.cons (.bin .pow (.k (.int 10)) (.k (.int 6))) .nil)))) (.cons (.set false [5] (.call "_law_take" (.cons (.v 1) (.cons (.k (.int 2)) .nil)))) (.cons (.for_ false [6] (.lst (.cons (.tup (.cons (.v 2) (.cons (.v 3) .nil))) (.cons (.tup (.cons (.v 3) (.cons (.v 2) .nil))) (.cons (.tup (.cons (.v 2) (.cons (.v 2) .nil))) (.cons (.tup (.cons (.v 2) (.cons (.tup (.cons (.k (.str "any")) .nil)) .nil))) (.cons (.tup (.cons (.tup (.cons (.k (.str "any")) .nil)) (.cons (.v 3) .nil))) .nil)))))) (.cons (.if_ (.not (.e (.call "_law_holds" (.cons (.ix (.v 6) (.k (.int 0))) (.cons (.ix (.v 6) (.k (.int 1))) (.cons (.v 4) (.cons (.v 5) .nil))))))) (.cons (.ret (.k (.bl false))) .nil) .nil) .nil)) (.cons (.ret (.k (.bl true))) .nil)))))))
def N_law : List Str := ["_law_script", "_law_state_here", "_law_one", "_law_other", "_law_number", "_law_side", "_law_pair"]
def tp_fns_0 : List Str := ["ground",
  "ground_type",
  "safe",
  "safe_sides",
  "safe_sides_to_any",
  "check_of",
  "check_between",
  "check_between_pairs",
  "turned",
  "source_ground",
  "inside",
  "different_inside",
  "check_size",
  "check_height",
  "labels",
  "all_labels",
  "is_check",
  "is_check_of",
  "is_ground",
  "is_label",
  "is_number",
  "_law_state",
  "_law_take",
  "_law_type",
  "_law_ground_type"]
def tp_fns_1 : List Str := ["_law_check",
  "_law_partner",
  "_law_height",
  "_law_inner",
  "_law_size",
  "_law_depth",
  "_law_labels",
  "_law_holds",
  "law"]
def tp_clss_0 : List Str := []
def tp_mets_0 : List (Str × Str) := []
def tp_inis_0 : List Str := []
def tp_flds_0 : List (Str × Str) := []
def tp_xcs_0 : List (Str × Str) := []
def tp_bins_0 : List Str := ["abs",
  "all",
  "bool",
  "int",
  "isinstance",
  "len",
  "list",
  "max",
  "str",
  "sum",
  "tuple",
  "zip"]
def tp_glos_0 : List (Str × U) := [("ANY", (U.tup [(U.str "any")])),
  ("ALL_SAFE", (U.tup [(U.bl true), (U.bl true), (U.bl true), (U.bl true)])),
  ("NONE_SAFE", (U.tup [(U.bl false), (U.bl false), (U.bl false), (U.bl false)])),
  ("MOST_HEIGHT", (U.int 60)),
  ("HEADS", (U.tup [(U.str "any"), (U.str "give"), (U.str "fail"), (U.str "take"), (U.str "same"), (U.str "fun"), (U.str "pair"), (U.str "box")])),
  ("PLAIN_HEADS", (U.tup [(U.str "same"), (U.str "fun"), (U.str "pair"), (U.str "box")])),
  ("TAKEN_HEADS", (U.tup [(U.str "same"), (U.str "fun"), (U.str "pair"), (U.str "box"), (U.str "give"), (U.str "fail")])),
  ("SAME_GROUNDS", (U.tup [(U.str "int"), (U.str "bool"), (U.str "unit")]))]
def tp_gdis_0 : List (Str × List (Str × U)) := [("GROUND_TYPES", [("int", (U.tup [(U.str "int")])), ("bool", (U.tup [(U.str "bool")])), ("unit", (U.tup [(U.str "unit")])), ("fun", (U.tup [(U.str "fun"), (U.tup [(U.str "any")]), (U.tup [(U.str "any")])])), ("pair", (U.tup [(U.str "pair"), (U.tup [(U.str "any")]), (U.tup [(U.str "any")])])), ("box", (U.tup [(U.str "box"), (U.tup [(U.str "any")])]))]),
  ("LENGTHS", [("any", (U.int 1)), ("same", (U.int 2)), ("fun", (U.int 3)), ("pair", (U.int 3)), ("box", (U.int 3)), ("give", (U.int 2)), ("fail", (U.int 4)), ("take", (U.int 4))]),
  ("CHECKS_AT", [("fun", (U.tup [(U.int 1), (U.int 2)])), ("pair", (U.tup [(U.int 1), (U.int 2)])), ("box", (U.tup [(U.int 1), (U.int 2)])), ("give", (U.tup [(U.int 1)])), ("take", (U.tup [(U.int 3)]))]),
  ("LABEL_AT", [("fail", (U.int 2)), ("take", (U.int 2))])]
def tp_defs_0 : List (Str × He.DefD) := [("ground", ⟨("ground", none), "ground", "ground", defArgs st_ground, defBody st_ground, defScope st_ground, [], []⟩),
  ("ground_type", ⟨("ground_type", none), "ground_type", "ground_type", defArgs st_ground_type, defBody st_ground_type, defScope st_ground_type, [], []⟩),
  ("safe", ⟨("safe", none), "safe", "safe", defArgs st_safe, defBody st_safe, defScope st_safe, [], []⟩),
  ("safe_sides", ⟨("safe_sides", none), "safe_sides", "safe_sides", defArgs st_safe_sides, defBody st_safe_sides, defScope st_safe_sides, [], []⟩),
  ("safe_sides_to_any", ⟨("safe_sides_to_any", none), "safe_sides_to_any", "safe_sides_to_any", defArgs st_safe_sides_to_any, defBody st_safe_sides_to_any, defScope st_safe_sides_to_any, [], []⟩),
  ("check_of", ⟨("check_of", none), "check_of", "check_of", defArgs st_check_of, defBody st_check_of, defScope st_check_of, [], []⟩),
  ("check_between", ⟨("check_between", none), "check_between", "check_between", defArgs st_check_between, defBody st_check_between, defScope st_check_between, [], []⟩),
  ("check_between_pairs", ⟨("check_between_pairs", none), "check_between_pairs", "check_between_pairs", defArgs st_check_between_pairs, defBody st_check_between_pairs, defScope st_check_between_pairs, [], []⟩),
  ("turned", ⟨("turned", none), "turned", "turned", defArgs st_turned, defBody st_turned, defScope st_turned, [], []⟩),
  ("source_ground", ⟨("source_ground", none), "source_ground", "source_ground", defArgs st_source_ground, defBody st_source_ground, defScope st_source_ground, [], []⟩),
  ("inside", ⟨("inside", none), "inside", "inside", defArgs st_inside, defBody st_inside, defScope st_inside, [], []⟩),
  ("different_inside", ⟨("different_inside", none), "different_inside", "different_inside", defArgs st_different_inside, defBody st_different_inside, defScope st_different_inside, [], []⟩),
  ("check_size", ⟨("check_size", none), "check_size", "check_size", defArgs st_check_size, defBody st_check_size, defScope st_check_size, [], []⟩),
  ("check_height", ⟨("check_height", none), "check_height", "check_height", defArgs st_check_height, defBody st_check_height, defScope st_check_height, [], []⟩),
  ("labels", ⟨("labels", none), "labels", "labels", defArgs st_labels, defBody st_labels, defScope st_labels, [], []⟩),
  ("all_labels", ⟨("all_labels", none), "all_labels", "all_labels", defArgs st_all_labels, defBody st_all_labels, defScope st_all_labels, [], []⟩),
  ("is_check", ⟨("is_check", none), "is_check", "is_check", defArgs st_is_check, defBody st_is_check, defScope st_is_check, [], []⟩),
  ("is_check_of", ⟨("is_check_of", none), "is_check_of", "is_check_of", defArgs st_is_check_of, defBody st_is_check_of, defScope st_is_check_of, [], []⟩),
  ("is_ground", ⟨("is_ground", none), "is_ground", "is_ground", defArgs st_is_ground, defBody st_is_ground, defScope st_is_ground, [], []⟩),
  ("is_label", ⟨("is_label", none), "is_label", "is_label", defArgs st_is_label, defBody st_is_label, defScope st_is_label, [], []⟩),
  ("is_number", ⟨("is_number", none), "is_number", "is_number", defArgs st_is_number, defBody st_is_number, defScope st_is_number, [], []⟩),
  ("_law_state", ⟨("_law_state", none), "_law_state", "_law_state", defArgs st__law_state, defBody st__law_state, defScope st__law_state, [], []⟩),
  ("_law_take", ⟨("_law_take", none), "_law_take", "_law_take", defArgs st__law_take, defBody st__law_take, defScope st__law_take, [], []⟩),
  ("_law_type", ⟨("_law_type", none), "_law_type", "_law_type", defArgs st__law_type, defBody st__law_type, defScope st__law_type, [], []⟩),
  ("_law_ground_type", ⟨("_law_ground_type", none), "_law_ground_type", "_law_ground_type", defArgs st__law_ground_type, defBody st__law_ground_type, defScope st__law_ground_type, [], []⟩)]
def tp_defs_1 : List (Str × He.DefD) := [("_law_check", ⟨("_law_check", none), "_law_check", "_law_check", defArgs st__law_check, defBody st__law_check, defScope st__law_check, [], []⟩),
  ("_law_partner", ⟨("_law_partner", none), "_law_partner", "_law_partner", defArgs st__law_partner, defBody st__law_partner, defScope st__law_partner, [], []⟩),
  ("_law_height", ⟨("_law_height", none), "_law_height", "_law_height", defArgs st__law_height, defBody st__law_height, defScope st__law_height, [], []⟩),
  ("_law_inner", ⟨("_law_inner", none), "_law_inner", "_law_inner", defArgs st__law_inner, defBody st__law_inner, defScope st__law_inner, [], []⟩),
  ("_law_size", ⟨("_law_size", none), "_law_size", "_law_size", defArgs st__law_size, defBody st__law_size, defScope st__law_size, [], []⟩),
  ("_law_depth", ⟨("_law_depth", none), "_law_depth", "_law_depth", defArgs st__law_depth, defBody st__law_depth, defScope st__law_depth, [], []⟩),
  ("_law_labels", ⟨("_law_labels", none), "_law_labels", "_law_labels", defArgs st__law_labels, defBody st__law_labels, defScope st__law_labels, [], []⟩),
  ("_law_holds", ⟨("_law_holds", none), "_law_holds", "_law_holds", defArgs st__law_holds, defBody st__law_holds, defScope st__law_holds, [], []⟩),
  ("law", ⟨("law", none), "law", "law", defArgs st_law, defBody st_law, defScope st_law, [], []⟩)]
def tp_kws_0 : List (Str × Nat × List Str) := [("safe", 2, ["side"]),
  ("check_of", 2, ["number", "side"])]
def tp : Top := { fns := tp_fns_0 ++ (tp_fns_1), clss := tp_clss_0, mets := tp_mets_0, inis := tp_inis_0, flds := tp_flds_0, xcs := tp_xcs_0, bins := tp_bins_0, glos := tp_glos_0, gdis := tp_gdis_0, defs := tp_defs_0 ++ (tp_defs_1), kws := tp_kws_0 }
end Pr

end

section
set_option maxHeartbeats 4000000
namespace Pr
open PySem PySem.Spec PyProof.Rows L2 Oz
def tb_0 : List (Str × (Df ⊕ (Cal → List U → Sto → R U))) := [("ground", .inl ⟨1, 1, false, T_ground⟩),
  ("ground_type", .inl ⟨1, 1, false, T_ground_type⟩),
  ("safe_sides", .inl ⟨2, 7, false, T_safe_sides⟩),
  ("safe_sides_to_any", .inl ⟨1, 2, false, T_safe_sides_to_any⟩),
  ("check_between", .inl ⟨3, 4, false, T_check_between⟩),
  ("check_between_pairs", .inl ⟨3, 4, false, T_check_between_pairs⟩),
  ("turned", .inl ⟨1, 3, false, T_turned⟩),
  ("source_ground", .inl ⟨1, 1, false, T_source_ground⟩),
  ("inside", .inl ⟨1, 2, false, T_inside⟩),
  ("different_inside", .inl ⟨1, 2, false, T_different_inside⟩),
  ("check_size", .inl ⟨1, 3, false, T_check_size⟩),
  ("check_height", .inl ⟨1, 3, false, T_check_height⟩),
  ("labels", .inl ⟨1, 2, false, T_labels⟩),
  ("all_labels", .inl ⟨1, 3, false, T_all_labels⟩),
  ("is_check", .inl ⟨1, 1, false, T_is_check⟩),
  ("is_check_of", .inl ⟨3, 8, false, T_is_check_of⟩),
  ("is_ground", .inl ⟨1, 1, false, T_is_ground⟩),
  ("is_label", .inl ⟨1, 3, false, T_is_label⟩),
  ("is_number", .inl ⟨1, 1, false, T_is_number⟩),
  ("_law_state", .inl ⟨1, 3, false, T__law_state⟩),
  ("_law_take", .inl ⟨2, 6, false, T__law_take⟩),
  ("_law_type", .inl ⟨2, 3, false, T__law_type⟩),
  ("_law_ground_type", .inl ⟨1, 1, false, T__law_ground_type⟩),
  ("_law_check", .inl ⟨4, 6, false, T__law_check⟩),
  ("_law_partner", .inl ⟨3, 4, false, T__law_partner⟩)]
def tb_1 : List (Str × (Df ⊕ (Cal → List U → Sto → R U))) := [("_law_height", .inl ⟨1, 2, false, T__law_height⟩),
  ("_law_inner", .inl ⟨1, 1, false, T__law_inner⟩),
  ("_law_size", .inl ⟨1, 2, false, T__law_size⟩),
  ("_law_depth", .inl ⟨1, 3, false, T__law_depth⟩),
  ("_law_labels", .inl ⟨1, 4, false, T__law_labels⟩),
  ("_law_holds", .inl ⟨4, 10, false, T__law_holds⟩),
  ("law", .inl ⟨1, 7, false, T_law⟩)]
def ktb_0 : List (Str × Df) := [("safe", ⟨3, 3, false, T_safe⟩),
  ("check_of", ⟨4, 4, false, T_check_of⟩)]
def tbl : List (Str × (Df ⊕ (Cal → List U → Sto → R U))) := tb_0 ++ (tb_1)
def ktbl : List (Str × Df) := ktb_0
def pg : Pg := ⟨fun f => tbl.lookup f, fun f => ktbl.lookup f, fun x => tp.glos.lookup x, fun c => tp.xcs.lookup c, fun x => tp.gdis.lookup x⟩
def nm : Names := tp.nm
theorem sc_ground : FnScope ["a_type"] ["a_type"] (defScope st_ground) := ⟨rfl, rfl, rfl, by decide +kernel, rfl, by decide +kernel, by decide +kernel⟩
theorem d_ground {P : Program} {w : World} {K : PySem.W.Frag} {mg : Str → Option Value} {base : Heap} {ad : Str → Addr} {d : Nat} {f : Addr} (X : Cx) (cdv : Value) (A : Around) (outer : List PySem.Env) (s : Shared) (H : Hp) (E : XK) (hX : X = cxOf (L2.CX P w) P w K mg base ["a_type"] "ground" (defScope st_ground) f cdv A outer s H E) (O : Ok X pg nm ad d E) : PSs X (defBody st_ground) (tB X (pg.cal d) E T_ground) := by
  subst hX
  have nd := sc_ground.nd
  exact (b_cons (x_ret (s_ix (s_v 0) s_int)) b_nil)
theorem sc_ground_type : FnScope ["name"] ["name"] (defScope st_ground_type) := ⟨rfl, rfl, rfl, by decide +kernel, rfl, by decide +kernel, by decide +kernel⟩
theorem d_ground_type {P : Program} {w : World} {K : PySem.W.Frag} {mg : Str → Option Value} {base : Heap} {ad : Str → Addr} {d : Nat} {f : Addr} (X : Cx) (cdv : Value) (A : Around) (outer : List PySem.Env) (s : Shared) (H : Hp) (E : XK) (hX : X = cxOf (L2.CX P w) P w K mg base ["name"] "ground_type" (defScope st_ground_type) f cdv A outer s H E) (O : Ok X pg nm ad d E) : PSs X (defBody st_ground_type) (tB X (pg.cal d) E T_ground_type) := by
  subst hX
  have nd := sc_ground_type.nd
  exact (b_cons (x_ret (s_gd O (s_v 0))) b_nil)
theorem sc_safe : FnScope ["source", "target", "side"] ["source", "target", "side"] (defScope st_safe) := ⟨rfl, rfl, rfl, by decide +kernel, rfl, by decide +kernel, by decide +kernel⟩
theorem d_safe {P : Program} {w : World} {K : PySem.W.Frag} {mg : Str → Option Value} {base : Heap} {ad : Str → Addr} {d : Nat} {f : Addr} (X : Cx) (cdv : Value) (A : Around) (outer : List PySem.Env) (s : Shared) (H : Hp) (E : XK) (hX : X = cxOf (L2.CX P w) P w K mg base ["source", "target", "side"] "safe" (defScope st_safe) f cdv A outer s H E) (O : Ok X pg nm ad d E) : PSs X (defBody st_safe) (tB X (pg.cal d) E T_safe) := by
  subst hX
  have nd := sc_safe.nd
  exact (b_cons (x_ret (s_ix (s_call O (s_cons (s_v 0) (s_cons (s_v 1) s_nil))) (s_v 2))) b_nil)
theorem sc_safe_sides : FnScope ["one", "other", "sides", "inside", "first", "second", "each"] ["one", "other"] (defScope st_safe_sides) := ⟨rfl, rfl, rfl, by decide +kernel, rfl, by decide +kernel, by decide +kernel⟩
theorem d_safe_sides {P : Program} {w : World} {K : PySem.W.Frag} {mg : Str → Option Value} {base : Heap} {ad : Str → Addr} {d : Nat} {f : Addr} (X : Cx) (cdv : Value) (A : Around) (outer : List PySem.Env) (s : Shared) (H : Hp) (E : XK) (hX : X = cxOf (L2.CX P w) P w K mg base ["one", "other", "sides", "inside", "first", "second", "each"] "safe_sides" (defScope st_safe_sides) f cdv A outer s H E) (O : Ok X pg nm ad d E) : PSs X (defBody st_safe_sides) (tB X (pg.cal d) E T_safe_sides) := by
  subst hX
  have nd := sc_safe_sides.nd
  exact (b_cons (x_if (PW.pt (w_and (s_tcmp O .eq (s_v 0) (s_g O)) (w_and1 (s_tcmp O .eq (s_v 1) (s_g O))))) (b_cons (x_ret (s_g O)) b_nil) b_nil) (b_cons (x_if (s_tcmp O .eq (s_v 1) (s_g O)) (b_cons (x_ret (s_call O (s_cons (s_v 0) s_nil))) b_nil) b_nil) (b_cons (x_if (s_tcmp O .eq (s_v 0) (s_g O)) (b_cons (x_set 2 nd (s_call O (s_cons (s_v 1) s_nil))) (b_cons (x_ret (s_bin .add (s_sl (s_v 2) (s_so s_int) s_no) (s_sl (s_v 2) s_no (s_so s_int)))) b_nil)) b_nil) (b_cons (x_if (s_tcmp O .ne (s_ix (s_v 0) s_int) (s_ix (s_v 1) s_int)) (b_cons (x_ret (s_g O)) b_nil) b_nil) (b_cons (x_if (PW.pt (w_and (s_tcmp O .eq (s_ix (s_v 0) s_int) s_str) (w_and (s_tcmp O .eq (s_ix (s_v 0) s_int) (s_ix (s_v 0) s_int)) (w_and1 (s_tcmp O .eq (s_ix (s_v 1) s_int) (s_ix (s_v 1) s_int)))))) (b_cons (x_ret (s_call O (s_cons (s_ix (s_v 0) s_int) (s_cons (s_ix (s_v 1) s_int) s_nil)))) b_nil) b_nil) (b_cons (x_setLcz O 3 [(("first" : Str), 4), (("second" : Str), 5)] nd (s_cons (s_sl (s_v 0) (s_so s_int) s_no) (s_cons (s_sl (s_v 1) (s_so s_int) s_no) s_nil)) (blkOk_by (N := ["one", "other", "sides", "inside", "first", "second", "each"]) (sc := defScope st_safe_sides) (by decide +kernel)) (fun _ _ _ _ _ => (g_tup rfl (gs_cons 4 nd (gs_cons 5 nd gs_nil)))) (fun _ _ _ _ _ => t_tt) (fun _ _ _ _ _ => (s_call (O.blk) (s_cons (s_v 4) (s_cons (s_v 5) s_nil)))) (sw_true rfl rfl rfl (by decide +kernel))) (b_cons (x_if (s_tcmp O .eq (s_ix (s_v 0) s_int) s_str) (b_cons (x_sub (s_revT (s_ix (s_v 3) s_int)) (s_v 3) s_int) b_nil) b_nil) (b_cons (x_if (s_tcmp O .eq (s_ix (s_v 0) s_int) s_str) (b_cons (x_ex (s_bm .append rfl PySem.F.plainAttrs_list PySem.F.slot_list_append PySem.F.type_list_append bm_append (s_v 3) (s_cons (s_revT (s_ix (s_v 3) s_int)) s_nil))) b_nil) b_nil) (b_cons (x_ret (s_bfT O .tup cf_tup (by decide +kernel) (s_cons (s_lczn O 6 (y := "each") nd (s_cons (s_g O) (s_star (s_v 3) s_nil)) (blkOk_by (N := ["one", "other", "sides", "inside", "first", "second", "each"]) (sc := defScope st_safe_sides) (by decide +kernel)) (fun _ _ _ _ _ => g_name 6 nd) (fun _ _ _ _ _ => (s_bfB (O.blk) .all (cf_all (O.blk).calm) (by decide +kernel) (s_cons (s_v 6) s_nil)))) s_nil))) b_nil)))))))))
theorem sc_safe_sides_to_any : FnScope ["a_type", "to_ground"] ["a_type"] (defScope st_safe_sides_to_any) := ⟨rfl, rfl, rfl, by decide +kernel, rfl, by decide +kernel, by decide +kernel⟩
theorem d_safe_sides_to_any {P : Program} {w : World} {K : PySem.W.Frag} {mg : Str → Option Value} {base : Heap} {ad : Str → Addr} {d : Nat} {f : Addr} (X : Cx) (cdv : Value) (A : Around) (outer : List PySem.Env) (s : Shared) (H : Hp) (E : XK) (hX : X = cxOf (L2.CX P w) P w K mg base ["a_type", "to_ground"] "safe_sides_to_any" (defScope st_safe_sides_to_any) f cdv A outer s H E) (O : Ok X pg nm ad d E) : PSs X (defBody st_safe_sides_to_any) (tB X (pg.cal d) E T_safe_sides_to_any) := by
  subst hX
  have nd := sc_safe_sides_to_any.nd
  exact (b_cons (x_set 1 nd (s_call O (s_cons (s_v 0) (s_cons (s_call O (s_cons (s_call O (s_cons (s_v 0) s_nil)) s_nil)) s_nil)))) (b_cons (x_ret (s_tup (s_cons (s_ix (s_v 1) s_int) (s_cons s_bl (s_cons s_bl (s_cons s_bl s_nil)))))) b_nil))
theorem sc_check_of : FnScope ["source", "target", "number", "side"] ["source", "target", "number", "side"] (defScope st_check_of) := ⟨rfl, rfl, rfl, by decide +kernel, rfl, by decide +kernel, by decide +kernel⟩
theorem d_check_of {P : Program} {w : World} {K : PySem.W.Frag} {mg : Str → Option Value} {base : Heap} {ad : Str → Addr} {d : Nat} {f : Addr} (X : Cx) (cdv : Value) (A : Around) (outer : List PySem.Env) (s : Shared) (H : Hp) (E : XK) (hX : X = cxOf (L2.CX P w) P w K mg base ["source", "target", "number", "side"] "check_of" (defScope st_check_of) f cdv A outer s H E) (O : Ok X pg nm ad d E) : PSs X (defBody st_check_of) (tB X (pg.cal d) E T_check_of) := by
  subst hX
  have nd := sc_check_of.nd
  exact (b_cons (x_ret (s_call O (s_cons (s_v 0) (s_cons (s_v 1) (s_cons (s_tup (s_cons (s_v 2) (s_cons (s_v 3) s_nil))) s_nil))))) b_nil)
theorem sc_check_between : FnScope ["source", "target", "label", "into"] ["source", "target", "label"] (defScope st_check_between) := ⟨rfl, rfl, rfl, by decide +kernel, rfl, by decide +kernel, by decide +kernel⟩
theorem d_check_between {P : Program} {w : World} {K : PySem.W.Frag} {mg : Str → Option Value} {base : Heap} {ad : Str → Addr} {d : Nat} {f : Addr} (X : Cx) (cdv : Value) (A : Around) (outer : List PySem.Env) (s : Shared) (H : Hp) (E : XK) (hX : X = cxOf (L2.CX P w) P w K mg base ["source", "target", "label", "into"] "check_between" (defScope st_check_between) f cdv A outer s H E) (O : Ok X pg nm ad d E) : PSs X (defBody st_check_between) (tB X (pg.cal d) E T_check_between) := by
  subst hX
  have nd := sc_check_between.nd
  exact (b_cons (x_if (PW.pt (w_and (s_tcmp O .eq (s_v 0) (s_g O)) (w_and1 (s_tcmp O .eq (s_v 1) (s_g O))))) (b_cons (x_ret (s_tup (s_cons s_str s_nil))) b_nil) b_nil) (b_cons (x_if (s_tcmp O .eq (s_v 1) (s_g O)) (b_cons (x_ret (s_tup (s_cons s_str (s_cons (s_call O (s_cons (s_v 0) (s_cons (s_call O (s_cons (s_ix (s_v 0) s_int) s_nil)) (s_cons (s_v 2) s_nil)))) s_nil)))) b_nil) b_nil) (b_cons (x_if (s_tcmp O .eq (s_v 0) (s_g O)) (b_cons (x_ret (s_tup (s_cons s_str (s_cons (s_ix (s_v 1) s_int) (s_cons (s_v 2) (s_cons (s_call O (s_cons (s_call O (s_cons (s_ix (s_v 1) s_int) s_nil)) (s_cons (s_v 1) (s_cons (s_v 2) s_nil)))) s_nil)))))) b_nil) b_nil) (b_cons (x_if (s_tcmp O .in_ (s_ix (s_v 0) s_int) (s_g O)) (b_cons (x_ret (s_tup (s_cons s_str (s_cons (s_ix (s_v 0) s_int) s_nil)))) b_nil) b_nil) (b_cons (x_if (s_tcmp O .eq (s_ix (s_v 0) s_int) s_str) (b_cons (x_ret (s_call O (s_cons (s_v 0) (s_cons (s_v 1) (s_cons (s_v 2) s_nil))))) b_nil) b_nil) (b_cons (x_set 3 nd (s_call O (s_cons (s_ix (s_v 1) s_int) (s_cons (s_ix (s_v 0) s_int) (s_cons (s_call O (s_cons (s_v 2) s_nil)) s_nil))))) (b_cons (x_ret (s_tup (s_cons (s_ix (s_v 0) s_int) (s_cons (s_v 3) (s_cons (s_call O (s_cons (s_ix (s_v 0) (s_neg s_int)) (s_cons (s_ix (s_v 1) (s_neg s_int)) (s_cons (s_v 2) s_nil)))) s_nil))))) b_nil)))))))
theorem sc_check_between_pairs : FnScope ["source", "target", "label", "first"] ["source", "target", "label"] (defScope st_check_between_pairs) := ⟨rfl, rfl, rfl, by decide +kernel, rfl, by decide +kernel, by decide +kernel⟩
theorem d_check_between_pairs {P : Program} {w : World} {K : PySem.W.Frag} {mg : Str → Option Value} {base : Heap} {ad : Str → Addr} {d : Nat} {f : Addr} (X : Cx) (cdv : Value) (A : Around) (outer : List PySem.Env) (s : Shared) (H : Hp) (E : XK) (hX : X = cxOf (L2.CX P w) P w K mg base ["source", "target", "label", "first"] "check_between_pairs" (defScope st_check_between_pairs) f cdv A outer s H E) (O : Ok X pg nm ad d E) : PSs X (defBody st_check_between_pairs) (tB X (pg.cal d) E T_check_between_pairs) := by
  subst hX
  have nd := sc_check_between_pairs.nd
  exact (b_cons (x_set 3 nd (s_call O (s_cons (s_ix (s_v 0) s_int) (s_cons (s_ix (s_v 1) s_int) (s_cons (s_v 2) s_nil))))) (b_cons (x_if (PW.pt (w_and (s_tcmp O .eq (s_ix (s_v 0) s_int) (s_ix (s_v 0) s_int)) (w_and1 (s_tcmp O .eq (s_ix (s_v 1) s_int) (s_ix (s_v 1) s_int))))) (b_cons (x_ret (s_tup (s_cons s_str (s_cons (s_v 3) (s_cons (s_v 3) s_nil))))) b_nil) b_nil) (b_cons (x_ret (s_tup (s_cons s_str (s_cons (s_v 3) (s_cons (s_call O (s_cons (s_ix (s_v 0) s_int) (s_cons (s_ix (s_v 1) s_int) (s_cons (s_v 2) s_nil)))) s_nil))))) b_nil)))
theorem sc_turned : FnScope ["label", "number", "side"] ["label"] (defScope st_turned) := ⟨rfl, rfl, rfl, by decide +kernel, rfl, by decide +kernel, by decide +kernel⟩
theorem d_turned {P : Program} {w : World} {K : PySem.W.Frag} {mg : Str → Option Value} {base : Heap} {ad : Str → Addr} {d : Nat} {f : Addr} (X : Cx) (cdv : Value) (A : Around) (outer : List PySem.Env) (s : Shared) (H : Hp) (E : XK) (hX : X = cxOf (L2.CX P w) P w K mg base ["label", "number", "side"] "turned" (defScope st_turned) f cdv A outer s H E) (O : Ok X pg nm ad d E) : PSs X (defBody st_turned) (tB X (pg.cal d) E T_turned) := by
  subst hX
  have nd := sc_turned.nd
  exact (b_cons (x_tup rfl (s_v 0) (gs_cons 1 nd (gs_cons 2 nd gs_nil))) (b_cons (x_ret (s_tup (s_cons (s_v 1) (s_cons (s_bin .sub s_int (s_v 2)) s_nil)))) b_nil))
theorem sc_source_ground : FnScope ["check"] ["check"] (defScope st_source_ground) := ⟨rfl, rfl, rfl, by decide +kernel, rfl, by decide +kernel, by decide +kernel⟩
theorem d_source_ground {P : Program} {w : World} {K : PySem.W.Frag} {mg : Str → Option Value} {base : Heap} {ad : Str → Addr} {d : Nat} {f : Addr} (X : Cx) (cdv : Value) (A : Around) (outer : List PySem.Env) (s : Shared) (H : Hp) (E : XK) (hX : X = cxOf (L2.CX P w) P w K mg base ["check"] "source_ground" (defScope st_source_ground) f cdv A outer s H E) (O : Ok X pg nm ad d E) : PSs X (defBody st_source_ground) (tB X (pg.cal d) E T_source_ground) := by
  subst hX
  have nd := sc_source_ground.nd
  exact (b_cons (x_if (s_tcmp O .eq (s_ix (s_v 0) s_int) s_str) (b_cons (x_ret (s_call O (s_cons (s_ix (s_v 0) s_int) s_nil))) b_nil) b_nil) (b_cons (x_if (s_tcmp O .in_ (s_ix (s_v 0) s_int) (s_tup (s_cons s_str (s_cons s_str s_nil)))) (b_cons (x_ret (s_ix (s_v 0) s_int)) b_nil) b_nil) (b_cons (x_ret (s_ix (s_v 0) s_int)) b_nil)))
theorem sc_inside : FnScope ["check", "at"] ["check"] (defScope st_inside) := ⟨rfl, rfl, rfl, by decide +kernel, rfl, by decide +kernel, by decide +kernel⟩
theorem d_inside {P : Program} {w : World} {K : PySem.W.Frag} {mg : Str → Option Value} {base : Heap} {ad : Str → Addr} {d : Nat} {f : Addr} (X : Cx) (cdv : Value) (A : Around) (outer : List PySem.Env) (s : Shared) (H : Hp) (E : XK) (hX : X = cxOf (L2.CX P w) P w K mg base ["check", "at"] "inside" (defScope st_inside) f cdv A outer s H E) (O : Ok X pg nm ad d E) : PSs X (defBody st_inside) (tB X (pg.cal d) E T_inside) := by
  subst hX
  have nd := sc_inside.nd
  exact (b_cons (x_ret (s_lc O false [(("at" : Str), 1)] nd (s_gget O (s_ix (s_v 0) s_int) (s_tup s_nil)) (blkOk_by (N := ["check", "at"]) (sc := defScope st_inside) (by decide +kernel)) (fun _ _ _ _ _ => g_name 1 nd) (fun _ _ _ _ _ => t_tt) (fun _ _ _ _ _ => (s_ix (s_v 0) (s_v 1))))) b_nil)
theorem sc_different_inside : FnScope ["check", "found"] ["check"] (defScope st_different_inside) := ⟨rfl, rfl, rfl, by decide +kernel, rfl, by decide +kernel, by decide +kernel⟩
theorem d_different_inside {P : Program} {w : World} {K : PySem.W.Frag} {mg : Str → Option Value} {base : Heap} {ad : Str → Addr} {d : Nat} {f : Addr} (X : Cx) (cdv : Value) (A : Around) (outer : List PySem.Env) (s : Shared) (H : Hp) (E : XK) (hX : X = cxOf (L2.CX P w) P w K mg base ["check", "found"] "different_inside" (defScope st_different_inside) f cdv A outer s H E) (O : Ok X pg nm ad d E) : PSs X (defBody st_different_inside) (tB X (pg.cal d) E T_different_inside) := by
  subst hX
  have nd := sc_different_inside.nd
  exact (b_cons (x_set 1 nd (s_call O (s_cons (s_v 0) s_nil))) (b_cons (x_ret (s_ife (s_tcmp O .eq (s_sl (s_v 1) s_no (s_so s_int)) (s_sl (s_v 1) (s_so s_int) s_no)) (s_sl (s_v 1) s_no (s_so s_int)) (s_v 1))) b_nil))
theorem sc_check_size : FnScope ["check", "sizes", "one"] ["check"] (defScope st_check_size) := ⟨rfl, rfl, rfl, by decide +kernel, rfl, by decide +kernel, by decide +kernel⟩
theorem d_check_size {P : Program} {w : World} {K : PySem.W.Frag} {mg : Str → Option Value} {base : Heap} {ad : Str → Addr} {d : Nat} {f : Addr} (X : Cx) (cdv : Value) (A : Around) (outer : List PySem.Env) (s : Shared) (H : Hp) (E : XK) (hX : X = cxOf (L2.CX P w) P w K mg base ["check", "sizes", "one"] "check_size" (defScope st_check_size) f cdv A outer s H E) (O : Ok X pg nm ad d E) : PSs X (defBody st_check_size) (tB X (pg.cal d) E T_check_size) := by
  subst hX
  have nd := sc_check_size.nd
  exact (b_cons (x_setLc O 1 false [(("one" : Str), 2)] nd (s_call O (s_cons (s_v 0) s_nil)) (blkOk_by (N := ["check", "sizes", "one"]) (sc := defScope st_check_size) (by decide +kernel)) (fun _ _ _ _ _ => g_name 2 nd) (fun _ _ _ _ _ => t_tt) (fun _ _ _ _ _ => (s_call (O.blk) (s_cons (s_v 2) s_nil))) (sw_true rfl rfl rfl (by decide +kernel))) (b_cons (x_if (s_tcmp O .lt (s_bfB O .len cf_len (by decide +kernel) (s_cons (s_v 1) s_nil)) (s_bfB O .len cf_len (by decide +kernel) (s_cons (s_call O (s_cons (s_v 0) s_nil)) s_nil))) (b_cons (x_ret (s_bin .add s_int (s_bin .mul s_int (s_ix (s_v 1) s_int)))) b_nil) b_nil) (b_cons (x_ret (s_bin .add s_int (s_bfB O .sum (cf_sum O.calm) (by decide +kernel) (s_cons (s_v 1) s_nil)))) b_nil)))
theorem sc_check_height : FnScope ["check", "higher", "one"] ["check"] (defScope st_check_height) := ⟨rfl, rfl, rfl, by decide +kernel, rfl, by decide +kernel, by decide +kernel⟩
theorem d_check_height {P : Program} {w : World} {K : PySem.W.Frag} {mg : Str → Option Value} {base : Heap} {ad : Str → Addr} {d : Nat} {f : Addr} (X : Cx) (cdv : Value) (A : Around) (outer : List PySem.Env) (s : Shared) (H : Hp) (E : XK) (hX : X = cxOf (L2.CX P w) P w K mg base ["check", "higher", "one"] "check_height" (defScope st_check_height) f cdv A outer s H E) (O : Ok X pg nm ad d E) : PSs X (defBody st_check_height) (tB X (pg.cal d) E T_check_height) := by
  subst hX
  have nd := sc_check_height.nd
  exact (b_cons (x_set 1 nd (s_ife (s_tcmp O .in_ (s_ix (s_v 0) s_int) (s_tup (s_cons s_str (s_cons s_str s_nil)))) s_int s_int)) (b_cons (x_ret (s_bin .add (s_v 1) (s_maxd O (s_lc O false [(("one" : Str), 2)] nd (s_call O (s_cons (s_v 0) s_nil)) (blkOk_by (N := ["check", "higher", "one"]) (sc := defScope st_check_height) (by decide +kernel)) (fun _ _ _ _ _ => g_name 2 nd) (fun _ _ _ _ _ => t_tt) (fun _ _ _ _ _ => (s_call (O.blk) (s_cons (s_v 2) s_nil))))))) b_nil))
theorem sc_labels : FnScope ["check", "label"] ["check"] (defScope st_labels) := ⟨rfl, rfl, rfl, by decide +kernel, rfl, by decide +kernel, by decide +kernel⟩
theorem d_labels {P : Program} {w : World} {K : PySem.W.Frag} {mg : Str → Option Value} {base : Heap} {ad : Str → Addr} {d : Nat} {f : Addr} (X : Cx) (cdv : Value) (A : Around) (outer : List PySem.Env) (s : Shared) (H : Hp) (E : XK) (hX : X = cxOf (L2.CX P w) P w K mg base ["check", "label"] "labels" (defScope st_labels) f cdv A outer s H E) (O : Ok X pg nm ad d E) : PSs X (defBody st_labels) (tB X (pg.cal d) E T_labels) := by
  subst hX
  have nd := sc_labels.nd
  exact (b_cons (x_ret (s_lsd O 1 (x := "label") nd (s_call O (s_cons (s_v 0) s_nil)) (blkOk_by (N := ["check", "label"]) (sc := defScope st_labels) (by decide +kernel)) (fun _ _ _ _ _ => g_name 1 nd) (fun _ _ _ _ _ => pe_var (i := 1) rfl (by first | exact Or.inl rfl | exact Or.inr (Or.inl rfl) | exact Or.inr (Or.inr rfl))) (fun _ _ _ _ _ => pe_bl))) b_nil)
theorem sc_all_labels : FnScope ["check", "found", "one"] ["check"] (defScope st_all_labels) := ⟨rfl, rfl, rfl, by decide +kernel, rfl, by decide +kernel, by decide +kernel⟩
theorem d_all_labels {P : Program} {w : World} {K : PySem.W.Frag} {mg : Str → Option Value} {base : Heap} {ad : Str → Addr} {d : Nat} {f : Addr} (X : Cx) (cdv : Value) (A : Around) (outer : List PySem.Env) (s : Shared) (H : Hp) (E : XK) (hX : X = cxOf (L2.CX P w) P w K mg base ["check", "found", "one"] "all_labels" (defScope st_all_labels) f cdv A outer s H E) (O : Ok X pg nm ad d E) : PSs X (defBody st_all_labels) (tB X (pg.cal d) E T_all_labels) := by
  subst hX
  have nd := sc_all_labels.nd
  exact (b_cons (x_set 1 nd (s_lst s_nil)) (b_cons (x_if (s_tdin O (s_ix (s_v 0) s_int)) (b_cons (x_ex (s_bm .append rfl PySem.F.plainAttrs_list PySem.F.slot_list_append PySem.F.type_list_append bm_append (s_v 1) (s_cons (s_ix (s_v 0) (s_gd O (s_ix (s_v 0) s_int))) s_nil))) b_nil) b_nil) (b_cons (x_for O false [2] (s_call O (s_cons (s_v 0) s_nil)) (g_name 2 nd) (b_cons (x_ex (s_bm .extend rfl PySem.F.plainAttrs_list PySem.F.slot_list_extend PySem.F.type_list_extend bm_extend (s_v 1) (s_cons (s_call O (s_cons (s_v 2) s_nil)) s_nil))) b_nil)) (b_cons (x_ret (s_v 1)) b_nil))))
theorem sc_is_check : FnScope ["value"] ["value"] (defScope st_is_check) := ⟨rfl, rfl, rfl, by decide +kernel, rfl, by decide +kernel, by decide +kernel⟩
theorem d_is_check {P : Program} {w : World} {K : PySem.W.Frag} {mg : Str → Option Value} {base : Heap} {ad : Str → Addr} {d : Nat} {f : Addr} (X : Cx) (cdv : Value) (A : Around) (outer : List PySem.Env) (s : Shared) (H : Hp) (E : XK) (hX : X = cxOf (L2.CX P w) P w K mg base ["value"] "is_check" (defScope st_is_check) f cdv A outer s H E) (O : Ok X pg nm ad d E) : PSs X (defBody st_is_check) (tB X (pg.cal d) E T_is_check) := by
  subst hX
  have nd := sc_is_check.nd
  exact (b_cons (x_ret (s_call O (s_cons (s_v 0) (s_cons (s_g O) (s_cons (s_g O) s_nil))))) b_nil)
theorem sc_is_check_of : FnScope ["value", "heads", "most", "name", "given", "label", "wanted", "taken"] ["value", "heads", "most"] (defScope st_is_check_of) := ⟨rfl, rfl, rfl, by decide +kernel, rfl, by decide +kernel, by decide +kernel⟩
theorem d_is_check_of {P : Program} {w : World} {K : PySem.W.Frag} {mg : Str → Option Value} {base : Heap} {ad : Str → Addr} {d : Nat} {f : Addr} (X : Cx) (cdv : Value) (A : Around) (outer : List PySem.Env) (s : Shared) (H : Hp) (E : XK) (hX : X = cxOf (L2.CX P w) P w K mg base ["value", "heads", "most", "name", "given", "label", "wanted", "taken"] "is_check_of" (defScope st_is_check_of) f cdv A outer s H E) (O : Ok X pg nm ad d E) : PSs X (defBody st_is_check_of) (tB X (pg.cal d) E T_is_check_of) := by
  subst hX
  have nd := sc_is_check_of.nd
  exact (b_cons (x_if (PW.pt (w_or (s_tcmp O .eq (s_v 2) s_int) (w_or (s_tnot (s_tt (s_isi O (s_v 0) (by decide +kernel)))) (w_or1 (s_tcmp O .eq (s_bfB O .len cf_len (by decide +kernel) (s_cons (s_v 0) s_nil)) s_int))))) (b_cons (x_ret s_bl) b_nil) b_nil) (b_cons (x_if (PW.pt (w_or (s_tcmp O .notIn (s_ix (s_v 0) s_int) (s_v 1)) (w_or1 (s_tcmp O .ne (s_bfB O .len cf_len (by decide +kernel) (s_cons (s_v 0) s_nil)) (s_gd O (s_ix (s_v 0) s_int)))))) (b_cons (x_ret s_bl) b_nil) b_nil) (b_cons (x_match (s_v 0) (c_cons O.calm nd (PtOk.seq (PisOk.lit PisOk.nil) rfl rfl) (b_cons (x_ret s_bl) b_nil) (c_cons O.calm nd (PtOk.seq (PisOk.lit (PisOk.cap (i := 3) rfl (by first | exact Or.inl rfl | exact Or.inr rfl) (by first | exact .inl rfl | exact .inr rfl) PisOk.nil)) rfl rfl) (b_cons (x_ret (s_cmp O .in_ (s_v 3) (s_g O))) b_nil) (c_cons O.calm nd (PtOk.seq (PisOk.lit (PisOk.cap (i := 4) rfl (by first | exact Or.inl rfl | exact Or.inr rfl) (by first | exact .inl rfl | exact .inr rfl) PisOk.nil)) rfl rfl) (b_cons (x_ret (s_call O (s_cons (s_v 4) (s_cons (s_g O) (s_cons (s_v 2) s_nil))))) b_nil) (c_cons O.calm nd (PtOk.seq (PisOk.lit (PisOk.cap (i := 3) rfl (by first | exact Or.inl rfl | exact Or.inr rfl) (by first | exact .inl rfl | exact .inr rfl) (PisOk.cap (i := 5) rfl (by first | exact Or.inl rfl | exact Or.inr rfl) (by first | exact .inl rfl | exact .inr rfl) (PisOk.cap (i := 6) rfl (by first | exact Or.inl rfl | exact Or.inr rfl) (by first | exact .inl rfl | exact .inr rfl) PisOk.nil)))) rfl rfl) (b_cons (x_ret (s_and (s_call O (s_cons (s_v 3) s_nil)) (s_and (s_call O (s_cons (s_v 5) s_nil)) (s_and (s_call O (s_cons (s_v 6) s_nil)) (s_one (s_cmp O .ne (s_v 3) (s_v 6))))))) b_nil) (c_cons O.calm nd (PtOk.seq (PisOk.lit (PisOk.cap (i := 3) rfl (by first | exact Or.inl rfl | exact Or.inr rfl) (by first | exact .inl rfl | exact .inr rfl) (PisOk.cap (i := 5) rfl (by first | exact Or.inl rfl | exact Or.inr rfl) (by first | exact .inl rfl | exact .inr rfl) (PisOk.cap (i := 7) rfl (by first | exact Or.inl rfl | exact Or.inr rfl) (by first | exact .inl rfl | exact .inr rfl) PisOk.nil)))) rfl rfl) (b_cons (x_ret (s_and (s_call O (s_cons (s_v 5) s_nil)) (s_and (s_call O (s_cons (s_v 7) (s_cons (s_g O) (s_cons (s_v 2) s_nil)))) (s_one (s_cmp O .eq (s_call O (s_cons (s_v 7) s_nil)) (s_v 3)))))) b_nil) c_nil)))))) (b_cons (x_ret (s_and (s_call O (s_cons (s_ix (s_v 0) s_int) (s_cons (s_g O) (s_cons (s_bin .sub (s_v 2) s_int) s_nil)))) (s_one (s_call O (s_cons (s_ix (s_v 0) s_int) (s_cons (s_g O) (s_cons (s_bin .sub (s_v 2) s_int) s_nil))))))) b_nil))))
theorem sc_is_ground : FnScope ["value"] ["value"] (defScope st_is_ground) := ⟨rfl, rfl, rfl, by decide +kernel, rfl, by decide +kernel, by decide +kernel⟩
theorem d_is_ground {P : Program} {w : World} {K : PySem.W.Frag} {mg : Str → Option Value} {base : Heap} {ad : Str → Addr} {d : Nat} {f : Addr} (X : Cx) (cdv : Value) (A : Around) (outer : List PySem.Env) (s : Shared) (H : Hp) (E : XK) (hX : X = cxOf (L2.CX P w) P w K mg base ["value"] "is_ground" (defScope st_is_ground) f cdv A outer s H E) (O : Ok X pg nm ad d E) : PSs X (defBody st_is_ground) (tB X (pg.cal d) E T_is_ground) := by
  subst hX
  have nd := sc_is_ground.nd
  exact (b_cons (x_ret (s_and (s_isi O (s_v 0) (by decide +kernel)) (s_one (s_din O (s_v 0))))) b_nil)
theorem sc_is_label : FnScope ["value", "number", "side"] ["value"] (defScope st_is_label) := ⟨rfl, rfl, rfl, by decide +kernel, rfl, by decide +kernel, by decide +kernel⟩
theorem d_is_label {P : Program} {w : World} {K : PySem.W.Frag} {mg : Str → Option Value} {base : Heap} {ad : Str → Addr} {d : Nat} {f : Addr} (X : Cx) (cdv : Value) (A : Around) (outer : List PySem.Env) (s : Shared) (H : Hp) (E : XK) (hX : X = cxOf (L2.CX P w) P w K mg base ["value", "number", "side"] "is_label" (defScope st_is_label) f cdv A outer s H E) (O : Ok X pg nm ad d E) : PSs X (defBody st_is_label) (tB X (pg.cal d) E T_is_label) := by
  subst hX
  have nd := sc_is_label.nd
  exact (b_cons (x_if (PW.pt (w_or (s_tnot (s_tt (s_isi O (s_v 0) (by decide +kernel)))) (w_or1 (s_tcmp O .ne (s_bfB O .len cf_len (by decide +kernel) (s_cons (s_v 0) s_nil)) s_int)))) (b_cons (x_ret s_bl) b_nil) b_nil) (b_cons (x_tup rfl (s_v 0) (gs_cons 1 nd (gs_cons 2 nd gs_nil))) (b_cons (x_ret (s_and (s_call O (s_cons (s_v 1) s_nil)) (s_and (s_call O (s_cons (s_v 2) s_nil)) (s_one (s_cmp O .lt (s_v 2) s_int))))) b_nil)))
theorem sc_is_number : FnScope ["value"] ["value"] (defScope st_is_number) := ⟨rfl, rfl, rfl, by decide +kernel, rfl, by decide +kernel, by decide +kernel⟩
theorem d_is_number {P : Program} {w : World} {K : PySem.W.Frag} {mg : Str → Option Value} {base : Heap} {ad : Str → Addr} {d : Nat} {f : Addr} (X : Cx) (cdv : Value) (A : Around) (outer : List PySem.Env) (s : Shared) (H : Hp) (E : XK) (hX : X = cxOf (L2.CX P w) P w K mg base ["value"] "is_number" (defScope st_is_number) f cdv A outer s H E) (O : Ok X pg nm ad d E) : PSs X (defBody st_is_number) (tB X (pg.cal d) E T_is_number) := by
  subst hX
  have nd := sc_is_number.nd
  exact (b_cons (x_ret (s_and (s_isi O (s_v 0) (by decide +kernel)) (s_and (s_not (s_isi O (s_v 0) (by decide +kernel))) (s_one (s_cmp O .ge (s_v 0) s_int))))) b_nil)
theorem sc__law_state : FnScope ["_law_script", "_law_cells", "_law_cell"] ["_law_script"] (defScope st__law_state) := ⟨rfl, rfl, rfl, by decide +kernel, rfl, by decide +kernel, by decide +kernel⟩
theorem d__law_state {P : Program} {w : World} {K : PySem.W.Frag} {mg : Str → Option Value} {base : Heap} {ad : Str → Addr} {d : Nat} {f : Addr} (X : Cx) (cdv : Value) (A : Around) (outer : List PySem.Env) (s : Shared) (H : Hp) (E : XK) (hX : X = cxOf (L2.CX P w) P w K mg base ["_law_script", "_law_cells", "_law_cell"] "_law_state" (defScope st__law_state) f cdv A outer s H E) (O : Ok X pg nm ad d E) : PSs X (defBody st__law_state) (tB X (pg.cal d) E T__law_state) := by
  subst hX
  have nd := sc__law_state.nd
  exact (b_cons (x_setLc O 1 false [(("_law_cell" : Str), 2)] nd (s_sl (s_v 0) s_no (s_so s_int)) (blkOk_by (N := ["_law_script", "_law_cells", "_law_cell"]) (sc := defScope st__law_state) (by decide +kernel)) (fun _ _ _ _ _ => g_name 2 nd) (fun _ _ _ _ _ => t_tt) (fun _ _ _ _ _ => (s_bfB (O.blk) .abs cf_abs (by decide +kernel) (s_cons (s_v 2) s_nil))) (sw_true rfl rfl rfl (by decide +kernel))) (b_cons (x_if (s_tcmp O .eq (s_bfB O .len cf_len (by decide +kernel) (s_cons (s_v 1) s_nil)) s_int) (b_cons (x_set 1 nd (s_lst (s_cons s_int s_nil))) b_nil) b_nil) (b_cons (x_ret (s_lst (s_cons s_int (s_cons (s_v 1) s_nil)))) b_nil)))
theorem sc__law_take : FnScope ["_law_state_here", "_law_most", "_law_cells", "_law_at", "_law_cell", "_law_mixed"] ["_law_state_here", "_law_most"] (defScope st__law_take) := ⟨rfl, rfl, rfl, by decide +kernel, rfl, by decide +kernel, by decide +kernel⟩
theorem d__law_take {P : Program} {w : World} {K : PySem.W.Frag} {mg : Str → Option Value} {base : Heap} {ad : Str → Addr} {d : Nat} {f : Addr} (X : Cx) (cdv : Value) (A : Around) (outer : List PySem.Env) (s : Shared) (H : Hp) (E : XK) (hX : X = cxOf (L2.CX P w) P w K mg base ["_law_state_here", "_law_most", "_law_cells", "_law_at", "_law_cell", "_law_mixed"] "_law_take" (defScope st__law_take) f cdv A outer s H E) (O : Ok X pg nm ad d E) : PSs X (defBody st__law_take) (tB X (pg.cal d) E T__law_take) := by
  subst hX
  have nd := sc__law_take.nd
  exact (b_cons (x_set 2 nd (s_ix (s_v 0) s_int)) (b_cons (x_set 3 nd (s_bin .mod (s_ix (s_v 0) s_int) (s_bfB O .len cf_len (by decide +kernel) (s_cons (s_v 2) s_nil)))) (b_cons (x_set 4 nd (s_ix (s_v 2) (s_v 3))) (b_cons (x_if (s_tcmp O .ge (s_v 4) s_int) (b_cons (x_sub (s_bin .fdiv (s_v 4) (s_v 1)) (s_v 2) (s_v 3)) (b_cons (x_ret (s_bin .mod (s_v 4) (s_v 1))) b_nil)) b_nil) (b_cons (x_sub (s_bin .add (s_ix (s_v 0) s_int) s_int) (s_v 0) s_int) (b_cons (x_set 5 nd (s_bin .mod (s_bfT O .int cf_int (by decide +kernel) (s_cons (s_bin .add (s_bin .mul (s_v 4) s_int) (s_bin .mul (s_ix (s_v 0) s_int) s_int)) s_nil)) s_int)) (b_cons (x_set 5 nd (s_bin .mod (s_bfT O .int cf_int (by decide +kernel) (s_cons (s_bin .add (s_bin .mul (s_v 5) s_int) (s_bin .mul (s_ix (s_v 0) s_int) s_int)) s_nil)) s_int)) (b_cons (x_ret (s_bin .mod (s_bin .fdiv (s_v 5) s_int) (s_v 1))) b_nil))))))))
theorem sc__law_type : FnScope ["_law_state_here", "_law_depth_here", "_law_kind"] ["_law_state_here", "_law_depth_here"] (defScope st__law_type) := ⟨rfl, rfl, rfl, by decide +kernel, rfl, by decide +kernel, by decide +kernel⟩
theorem d__law_type {P : Program} {w : World} {K : PySem.W.Frag} {mg : Str → Option Value} {base : Heap} {ad : Str → Addr} {d : Nat} {f : Addr} (X : Cx) (cdv : Value) (A : Around) (outer : List PySem.Env) (s : Shared) (H : Hp) (E : XK) (hX : X = cxOf (L2.CX P w) P w K mg base ["_law_state_here", "_law_depth_here", "_law_kind"] "_law_type" (defScope st__law_type) f cdv A outer s H E) (O : Ok X pg nm ad d E) : PSs X (defBody st__law_type) (tB X (pg.cal d) E T__law_type) := by
  subst hX
  have nd := sc__law_type.nd
  exact (b_cons (x_set 2 nd (s_call O (s_cons (s_v 0) (s_cons s_int s_nil)))) (b_cons (x_if (PW.pt (w_and (s_tcmp O .gt (s_v 1) s_int) (w_and1 (s_tcmp O .eq (s_v 2) s_int)))) (b_cons (x_ret (s_tup (s_cons s_str (s_cons (s_call O (s_cons (s_v 0) (s_cons (s_bin .sub (s_v 1) s_int) s_nil))) (s_cons (s_call O (s_cons (s_v 0) (s_cons (s_bin .sub (s_v 1) s_int) s_nil))) s_nil))))) b_nil) b_nil) (b_cons (x_if (PW.pt (w_and (s_tcmp O .gt (s_v 1) s_int) (w_and1 (s_tcmp O .eq (s_v 2) s_int)))) (b_cons (x_ret (s_tup (s_cons s_str (s_cons (s_call O (s_cons (s_v 0) (s_cons (s_bin .sub (s_v 1) s_int) s_nil))) (s_cons (s_call O (s_cons (s_v 0) (s_cons (s_bin .sub (s_v 1) s_int) s_nil))) s_nil))))) b_nil) b_nil) (b_cons (x_if (PW.pt (w_and (s_tcmp O .gt (s_v 1) s_int) (w_and1 (s_tcmp O .eq (s_v 2) s_int)))) (b_cons (x_ret (s_tup (s_cons s_str (s_cons (s_call O (s_cons (s_v 0) (s_cons (s_bin .sub (s_v 1) s_int) s_nil))) s_nil)))) b_nil) b_nil) (b_cons (x_ret (s_ix (s_lst (s_cons (s_tup (s_cons s_str s_nil)) (s_cons (s_tup (s_cons s_str s_nil)) (s_cons (s_tup (s_cons s_str s_nil)) (s_cons (s_tup (s_cons s_str s_nil)) (s_cons (s_tup (s_cons s_str s_nil)) (s_cons (s_tup (s_cons s_str s_nil)) s_nil))))))) (s_bin .mod (s_v 2) s_int))) b_nil)))))
theorem sc__law_ground_type : FnScope ["_law_name"] ["_law_name"] (defScope st__law_ground_type) := ⟨rfl, rfl, rfl, by decide +kernel, rfl, by decide +kernel, by decide +kernel⟩
theorem d__law_ground_type {P : Program} {w : World} {K : PySem.W.Frag} {mg : Str → Option Value} {base : Heap} {ad : Str → Addr} {d : Nat} {f : Addr} (X : Cx) (cdv : Value) (A : Around) (outer : List PySem.Env) (s : Shared) (H : Hp) (E : XK) (hX : X = cxOf (L2.CX P w) P w K mg base ["_law_name"] "_law_ground_type" (defScope st__law_ground_type) f cdv A outer s H E) (O : Ok X pg nm ad d E) : PSs X (defBody st__law_ground_type) (tB X (pg.cal d) E T__law_ground_type) := by
  subst hX
  have nd := sc__law_ground_type.nd
  exact (b_cons (x_if (PW.pt (w_or (s_tcmp O .eq (s_v 0) s_str) (w_or1 (s_tcmp O .eq (s_v 0) s_str)))) (b_cons (x_ret (s_tup (s_cons (s_v 0) (s_cons (s_tup (s_cons s_str s_nil)) (s_cons (s_tup (s_cons s_str s_nil)) s_nil))))) b_nil) b_nil) (b_cons (x_if (s_tcmp O .eq (s_v 0) s_str) (b_cons (x_ret (s_tup (s_cons s_str (s_cons (s_tup (s_cons s_str s_nil)) s_nil)))) b_nil) b_nil) (b_cons (x_ret (s_tup (s_cons (s_v 0) s_nil))) b_nil)))
theorem sc__law_check : FnScope ["_law_one", "_law_other", "_law_number", "_law_side", "_law_last", "_law_second"] ["_law_one", "_law_other", "_law_number", "_law_side"] (defScope st__law_check) := ⟨rfl, rfl, rfl, by decide +kernel, rfl, by decide +kernel, by decide +kernel⟩
theorem d__law_check {P : Program} {w : World} {K : PySem.W.Frag} {mg : Str → Option Value} {base : Heap} {ad : Str → Addr} {d : Nat} {f : Addr} (X : Cx) (cdv : Value) (A : Around) (outer : List PySem.Env) (s : Shared) (H : Hp) (E : XK) (hX : X = cxOf (L2.CX P w) P w K mg base ["_law_one", "_law_other", "_law_number", "_law_side", "_law_last", "_law_second"] "_law_check" (defScope st__law_check) f cdv A outer s H E) (O : Ok X pg nm ad d E) : PSs X (defBody st__law_check) (tB X (pg.cal d) E T__law_check) := by
  subst hX
  have nd := sc__law_check.nd
  exact (b_cons (x_if (PW.pt (w_and (s_tcmp O .eq (s_ix (s_v 0) s_int) s_str) (w_and1 (s_tcmp O .eq (s_ix (s_v 1) s_int) s_str)))) (b_cons (x_ret (s_tup (s_cons s_str s_nil))) b_nil) b_nil) (b_cons (x_if (s_tcmp O .eq (s_ix (s_v 1) s_int) s_str) (b_cons (x_ret (s_tup (s_cons s_str (s_cons (s_call O (s_cons (s_v 0) (s_cons (s_call O (s_cons (s_ix (s_v 0) s_int) s_nil)) (s_cons (s_v 2) (s_cons (s_v 3) s_nil))))) s_nil)))) b_nil) b_nil) (b_cons (x_if (s_tcmp O .eq (s_ix (s_v 0) s_int) s_str) (b_cons (x_ret (s_tup (s_cons s_str (s_cons (s_ix (s_v 1) s_int) (s_cons (s_tup (s_cons (s_v 2) (s_cons (s_v 3) s_nil))) (s_cons (s_call O (s_cons (s_call O (s_cons (s_ix (s_v 1) s_int) s_nil)) (s_cons (s_v 1) (s_cons (s_v 2) (s_cons (s_v 3) s_nil))))) s_nil)))))) b_nil) b_nil) (b_cons (x_if (s_tcmp O .eq (s_bfB O .len cf_len (by decide +kernel) (s_cons (s_v 0) s_nil)) s_int) (b_cons (x_ret (s_tup (s_cons s_str (s_cons (s_ix (s_v 0) s_int) s_nil)))) b_nil) b_nil) (b_cons (x_set 4 nd (s_bin .sub (s_bfB O .len cf_len (by decide +kernel) (s_cons (s_v 0) s_nil)) s_int)) (b_cons (x_set 5 nd (s_call O (s_cons (s_ix (s_v 0) (s_v 4)) (s_cons (s_ix (s_v 1) (s_v 4)) (s_cons (s_v 2) (s_cons (s_v 3) s_nil)))))) (b_cons (x_if (s_tcmp O .eq (s_ix (s_v 0) s_int) s_str) (b_cons (x_ret (s_tup (s_cons s_str (s_cons (s_call O (s_cons (s_ix (s_v 0) s_int) (s_cons (s_ix (s_v 1) s_int) (s_cons (s_v 2) (s_cons (s_v 3) s_nil))))) (s_cons (s_v 5) s_nil))))) b_nil) b_nil) (b_cons (x_ret (s_tup (s_cons (s_ix (s_v 0) s_int) (s_cons (s_call O (s_cons (s_ix (s_v 1) s_int) (s_cons (s_ix (s_v 0) s_int) (s_cons (s_v 2) (s_cons (s_bin .sub s_int (s_v 3)) s_nil))))) (s_cons (s_v 5) s_nil))))) b_nil))))))))
theorem sc__law_partner : FnScope ["_law_state_here", "_law_one", "_law_depth_here", "_law_kind"] ["_law_state_here", "_law_one", "_law_depth_here"] (defScope st__law_partner) := ⟨rfl, rfl, rfl, by decide +kernel, rfl, by decide +kernel, by decide +kernel⟩
theorem d__law_partner {P : Program} {w : World} {K : PySem.W.Frag} {mg : Str → Option Value} {base : Heap} {ad : Str → Addr} {d : Nat} {f : Addr} (X : Cx) (cdv : Value) (A : Around) (outer : List PySem.Env) (s : Shared) (H : Hp) (E : XK) (hX : X = cxOf (L2.CX P w) P w K mg base ["_law_state_here", "_law_one", "_law_depth_here", "_law_kind"] "_law_partner" (defScope st__law_partner) f cdv A outer s H E) (O : Ok X pg nm ad d E) : PSs X (defBody st__law_partner) (tB X (pg.cal d) E T__law_partner) := by
  subst hX
  have nd := sc__law_partner.nd
  exact (b_cons (x_set 3 nd (s_call O (s_cons (s_v 0) (s_cons s_int s_nil)))) (b_cons (x_if (s_tcmp O .eq (s_v 3) s_int) (b_cons (x_ret (s_tup (s_cons s_str s_nil))) b_nil) b_nil) (b_cons (x_if (s_tcmp O .eq (s_ix (s_v 1) s_int) s_str) (b_cons (x_ret (s_call O (s_cons (s_v 0) (s_cons (s_v 2) s_nil)))) b_nil) b_nil) (b_cons (x_if (PW.pt (w_or (s_tcmp O .eq (s_ix (s_v 1) s_int) s_str) (w_or1 (s_tcmp O .eq (s_ix (s_v 1) s_int) s_str)))) (b_cons (x_ret (s_tup (s_cons (s_ix (s_v 1) s_int) (s_cons (s_call O (s_cons (s_v 0) (s_cons (s_ix (s_v 1) s_int) (s_cons (s_bin .sub (s_v 2) s_int) s_nil)))) (s_cons (s_call O (s_cons (s_v 0) (s_cons (s_ix (s_v 1) s_int) (s_cons (s_bin .sub (s_v 2) s_int) s_nil)))) s_nil))))) b_nil) b_nil) (b_cons (x_if (s_tcmp O .eq (s_ix (s_v 1) s_int) s_str) (b_cons (x_ret (s_tup (s_cons s_str (s_cons (s_call O (s_cons (s_v 0) (s_cons (s_ix (s_v 1) s_int) (s_cons (s_bin .sub (s_v 2) s_int) s_nil)))) s_nil)))) b_nil) b_nil) (b_cons (x_ret (s_v 1)) b_nil))))))
theorem sc__law_height : FnScope ["_law_one", "_law_part"] ["_law_one"] (defScope st__law_height) := ⟨rfl, rfl, rfl, by decide +kernel, rfl, by decide +kernel, by decide +kernel⟩
theorem d__law_height {P : Program} {w : World} {K : PySem.W.Frag} {mg : Str → Option Value} {base : Heap} {ad : Str → Addr} {d : Nat} {f : Addr} (X : Cx) (cdv : Value) (A : Around) (outer : List PySem.Env) (s : Shared) (H : Hp) (E : XK) (hX : X = cxOf (L2.CX P w) P w K mg base ["_law_one", "_law_part"] "_law_height" (defScope st__law_height) f cdv A outer s H E) (O : Ok X pg nm ad d E) : PSs X (defBody st__law_height) (tB X (pg.cal d) E T__law_height) := by
  subst hX
  have nd := sc__law_height.nd
  exact (b_cons (x_ret (s_bin .add s_int (s_maxd O (s_lc O false [(("_law_part" : Str), 1)] nd (s_sl (s_v 0) (s_so s_int) s_no) (blkOk_by (N := ["_law_one", "_law_part"]) (sc := defScope st__law_height) (by decide +kernel)) (fun _ _ _ _ _ => g_name 1 nd) (fun _ _ _ _ _ => t_tt) (fun _ _ _ _ _ => (s_call (O.blk) (s_cons (s_v 1) s_nil))))))) b_nil)
theorem sc__law_inner : FnScope ["_law_check_here"] ["_law_check_here"] (defScope st__law_inner) := ⟨rfl, rfl, rfl, by decide +kernel, rfl, by decide +kernel, by decide +kernel⟩
theorem d__law_inner {P : Program} {w : World} {K : PySem.W.Frag} {mg : Str → Option Value} {base : Heap} {ad : Str → Addr} {d : Nat} {f : Addr} (X : Cx) (cdv : Value) (A : Around) (outer : List PySem.Env) (s : Shared) (H : Hp) (E : XK) (hX : X = cxOf (L2.CX P w) P w K mg base ["_law_check_here"] "_law_inner" (defScope st__law_inner) f cdv A outer s H E) (O : Ok X pg nm ad d E) : PSs X (defBody st__law_inner) (tB X (pg.cal d) E T__law_inner) := by
  subst hX
  have nd := sc__law_inner.nd
  exact (b_cons (x_if (s_tcmp O .in_ (s_ix (s_v 0) s_int) (s_lst (s_cons s_str (s_cons s_str (s_cons s_str s_nil))))) (b_cons (x_ret (s_lst (s_cons (s_ix (s_v 0) s_int) (s_cons (s_ix (s_v 0) s_int) s_nil)))) b_nil) b_nil) (b_cons (x_if (s_tcmp O .eq (s_ix (s_v 0) s_int) s_str) (b_cons (x_ret (s_lst (s_cons (s_ix (s_v 0) s_int) s_nil))) b_nil) b_nil) (b_cons (x_if (s_tcmp O .eq (s_ix (s_v 0) s_int) s_str) (b_cons (x_ret (s_lst (s_cons (s_ix (s_v 0) s_int) s_nil))) b_nil) b_nil) (b_cons (x_ret (s_lst s_nil)) b_nil))))
theorem sc__law_size : FnScope ["_law_check_here", "_law_part"] ["_law_check_here"] (defScope st__law_size) := ⟨rfl, rfl, rfl, by decide +kernel, rfl, by decide +kernel, by decide +kernel⟩
theorem d__law_size {P : Program} {w : World} {K : PySem.W.Frag} {mg : Str → Option Value} {base : Heap} {ad : Str → Addr} {d : Nat} {f : Addr} (X : Cx) (cdv : Value) (A : Around) (outer : List PySem.Env) (s : Shared) (H : Hp) (E : XK) (hX : X = cxOf (L2.CX P w) P w K mg base ["_law_check_here", "_law_part"] "_law_size" (defScope st__law_size) f cdv A outer s H E) (O : Ok X pg nm ad d E) : PSs X (defBody st__law_size) (tB X (pg.cal d) E T__law_size) := by
  subst hX
  have nd := sc__law_size.nd
  exact (b_cons (x_ret (s_bin .add s_int (s_bfB O .sum (cf_sum O.calm) (by decide +kernel) (s_cons (s_lc O false [(("_law_part" : Str), 1)] nd (s_call O (s_cons (s_v 0) s_nil)) (blkOk_by (N := ["_law_check_here", "_law_part"]) (sc := defScope st__law_size) (by decide +kernel)) (fun _ _ _ _ _ => g_name 1 nd) (fun _ _ _ _ _ => t_tt) (fun _ _ _ _ _ => (s_call (O.blk) (s_cons (s_v 1) s_nil)))) s_nil)))) b_nil)
theorem sc__law_depth : FnScope ["_law_check_here", "_law_below", "_law_part"] ["_law_check_here"] (defScope st__law_depth) := ⟨rfl, rfl, rfl, by decide +kernel, rfl, by decide +kernel, by decide +kernel⟩
theorem d__law_depth {P : Program} {w : World} {K : PySem.W.Frag} {mg : Str → Option Value} {base : Heap} {ad : Str → Addr} {d : Nat} {f : Addr} (X : Cx) (cdv : Value) (A : Around) (outer : List PySem.Env) (s : Shared) (H : Hp) (E : XK) (hX : X = cxOf (L2.CX P w) P w K mg base ["_law_check_here", "_law_below", "_law_part"] "_law_depth" (defScope st__law_depth) f cdv A outer s H E) (O : Ok X pg nm ad d E) : PSs X (defBody st__law_depth) (tB X (pg.cal d) E T__law_depth) := by
  subst hX
  have nd := sc__law_depth.nd
  exact (b_cons (x_set 1 nd (s_maxd O (s_lc O false [(("_law_part" : Str), 2)] nd (s_call O (s_cons (s_v 0) s_nil)) (blkOk_by (N := ["_law_check_here", "_law_below", "_law_part"]) (sc := defScope st__law_depth) (by decide +kernel)) (fun _ _ _ _ _ => g_name 2 nd) (fun _ _ _ _ _ => t_tt) (fun _ _ _ _ _ => (s_call (O.blk) (s_cons (s_v 2) s_nil)))))) (b_cons (x_ret (s_bin .add (s_v 1) (s_bfT O .int cf_int (by decide +kernel) (s_cons (s_cmp O .notIn (s_ix (s_v 0) s_int) (s_lst (s_cons s_str (s_cons s_str s_nil)))) s_nil)))) b_nil))
theorem sc__law_labels : FnScope ["_law_check_here", "_law_found", "_law_part", "_law_label"] ["_law_check_here"] (defScope st__law_labels) := ⟨rfl, rfl, rfl, by decide +kernel, rfl, by decide +kernel, by decide +kernel⟩
theorem d__law_labels {P : Program} {w : World} {K : PySem.W.Frag} {mg : Str → Option Value} {base : Heap} {ad : Str → Addr} {d : Nat} {f : Addr} (X : Cx) (cdv : Value) (A : Around) (outer : List PySem.Env) (s : Shared) (H : Hp) (E : XK) (hX : X = cxOf (L2.CX P w) P w K mg base ["_law_check_here", "_law_found", "_law_part", "_law_label"] "_law_labels" (defScope st__law_labels) f cdv A outer s H E) (O : Ok X pg nm ad d E) : PSs X (defBody st__law_labels) (tB X (pg.cal d) E T__law_labels) := by
  subst hX
  have nd := sc__law_labels.nd
  exact (b_cons (x_set 1 nd (s_lst s_nil)) (b_cons (x_if (PW.pt (w_or (s_tcmp O .eq (s_ix (s_v 0) s_int) s_str) (w_or1 (s_tcmp O .eq (s_ix (s_v 0) s_int) s_str)))) (b_cons (x_ex (s_bm .append rfl PySem.F.plainAttrs_list PySem.F.slot_list_append PySem.F.type_list_append bm_append (s_v 1) (s_cons (s_ix (s_v 0) s_int) s_nil))) b_nil) b_nil) (b_cons (x_for O false [2] (s_call O (s_cons (s_v 0) s_nil)) (g_name 2 nd) (b_cons (x_set 1 nd (s_bin .add (s_v 1) (s_lc O false [(("_law_label" : Str), 3)] nd (s_call O (s_cons (s_v 2) s_nil)) (blkOk_by (N := ["_law_check_here", "_law_found", "_law_part", "_law_label"]) (sc := defScope st__law_labels) (by decide +kernel)) (fun _ _ _ _ _ => g_name 3 nd) (fun _ _ _ _ _ => (pts_one (s_tcmp (O.blk) .notIn (s_v 3) (s_v 1)))) (fun _ _ _ _ _ => (s_v 3))))) b_nil)) (b_cons (x_ret (s_v 1)) b_nil))))
theorem sc__law_holds : FnScope ["_law_one", "_law_other", "_law_number", "_law_side", "_law_check_here", "_law_size_here", "_law_height_here", "_law_turned", "_law_told", "_law_label"] ["_law_one", "_law_other", "_law_number", "_law_side"] (defScope st__law_holds) := ⟨rfl, rfl, rfl, by decide +kernel, rfl, by decide +kernel, by decide +kernel⟩
theorem d__law_holds {P : Program} {w : World} {K : PySem.W.Frag} {mg : Str → Option Value} {base : Heap} {ad : Str → Addr} {d : Nat} {f : Addr} (X : Cx) (cdv : Value) (A : Around) (outer : List PySem.Env) (s : Shared) (H : Hp) (E : XK) (hX : X = cxOf (L2.CX P w) P w K mg base ["_law_one", "_law_other", "_law_number", "_law_side", "_law_check_here", "_law_size_here", "_law_height_here", "_law_turned", "_law_told", "_law_label"] "_law_holds" (defScope st__law_holds) f cdv A outer s H E) (O : Ok X pg nm ad d E) : PSs X (defBody st__law_holds) (tB X (pg.cal d) E T__law_holds) := by
  subst hX
  have nd := sc__law_holds.nd
  exact (b_cons (x_set 4 nd (s_kcall O 2 ["number", "side"] (s_cons (s_v 0) (s_cons (s_v 1) s_nil)) (k_cons (s_v 2) (k_cons (s_v 3) k_nil)))) (b_cons (x_if (PW.pt (w_or (s_tcmp O .ne (s_v 4) (s_call O (s_cons (s_v 0) (s_cons (s_v 1) (s_cons (s_v 2) (s_cons (s_v 3) s_nil)))))) (w_or1 (s_tcmp O .isNotN (s_call O (s_cons (s_v 4) s_nil)) s_bl)))) (b_cons (x_ret s_bl) b_nil) b_nil) (b_cons (x_par 5 6 O.calm nd (s_cons (s_call O (s_cons (s_v 4) s_nil)) (s_cons (s_call O (s_cons (s_v 4) s_nil)) s_nil))) (b_cons (x_if (PW.pt (w_or (s_tcmp O .ne (s_call O (s_cons (s_v 4) s_nil)) (s_v 5)) (w_or (s_tcmp O .ne (s_call O (s_cons (s_v 4) s_nil)) (s_v 6)) (w_or1 (s_tcmp O .ne (s_call O (s_cons (s_v 4) s_nil)) (s_call O (s_cons (s_v 4) s_nil))))))) (b_cons (x_ret s_bl) b_nil) b_nil) (b_cons (x_if (PW.pt (w_or (s_tcmp O .gt (s_v 6) (s_bfB O .max2 (cf_max2 O.calm) (by decide +kernel) (s_cons (s_call O (s_cons (s_v 0) s_nil)) (s_cons (s_call O (s_cons (s_v 1) s_nil)) s_nil)))) (w_or1 (s_tcmp O .gt (s_v 5) (s_bin .sub (s_bin .mul s_int (s_bin .shl s_int (s_v 6))) s_int))))) (b_cons (x_ret s_bl) b_nil) b_nil) (b_cons (x_for O false [7] (s_lst (s_cons s_int (s_cons s_int s_nil))) (g_name 7 nd) (b_cons (x_set 8 nd (s_kcall O 2 ["side"] (s_cons (s_v 0) (s_cons (s_v 1) s_nil)) (k_cons (s_v 7) k_nil))) (b_cons (x_set 9 nd (s_tup (s_cons (s_v 2) (s_cons (s_bin .mod (s_bin .add (s_bin .add (s_v 3) s_int) (s_v 7)) s_int) s_nil)))) (b_cons (x_if (PW.pt (w_or (PW.pt (w_and (s_tcmp O .isNotN (s_v 8) s_bl) (w_and1 (s_tcmp O .isNotN (s_v 8) s_bl)))) (w_or1 (s_tcmp O .eq (s_v 8) (s_cmp O .in_ (s_v 9) (s_call O (s_cons (s_v 4) s_nil))))))) (b_cons (x_ret s_bl) b_nil) b_nil) b_nil)))) (b_cons (x_ret s_bl) b_nil)))))))
theorem sc_law : FnScope ["_law_script", "_law_state_here", "_law_one", "_law_other", "_law_number", "_law_side", "_law_pair"] ["_law_script"] (defScope st_law) := ⟨rfl, rfl, rfl, by decide +kernel, rfl, by decide +kernel, by decide +kernel⟩
theorem d_law {P : Program} {w : World} {K : PySem.W.Frag} {mg : Str → Option Value} {base : Heap} {ad : Str → Addr} {d : Nat} {f : Addr} (X : Cx) (cdv : Value) (A : Around) (outer : List PySem.Env) (s : Shared) (H : Hp) (E : XK) (hX : X = cxOf (L2.CX P w) P w K mg base ["_law_script", "_law_state_here", "_law_one", "_law_other", "_law_number", "_law_side", "_law_pair"] "law" (defScope st_law) f cdv A outer s H E) (O : Ok X pg nm ad d E) : PSs X (defBody st_law) (tB X (pg.cal d) E T_law) := by
  subst hX
  have nd := sc_law.nd
  exact (b_cons (x_set 1 nd (s_call O (s_cons (s_v 0) s_nil))) (b_cons (x_set 2 nd (s_call O (s_cons (s_v 1) (s_cons (s_bin .add s_int (s_call O (s_cons (s_v 1) (s_cons s_int s_nil)))) s_nil)))) (b_cons (x_set 3 nd (s_call O (s_cons (s_v 1) (s_cons (s_v 2) (s_cons s_int s_nil))))) (b_cons (x_set 4 nd (s_call O (s_cons (s_v 1) (s_cons (s_bin .pow s_int s_int) s_nil)))) (b_cons (x_set 5 nd (s_call O (s_cons (s_v 1) (s_cons s_int s_nil)))) (b_cons (x_for O false [6] (s_lst (s_cons (s_tup (s_cons (s_v 2) (s_cons (s_v 3) s_nil))) (s_cons (s_tup (s_cons (s_v 3) (s_cons (s_v 2) s_nil))) (s_cons (s_tup (s_cons (s_v 2) (s_cons (s_v 2) s_nil))) (s_cons (s_tup (s_cons (s_v 2) (s_cons (s_tup (s_cons s_str s_nil)) s_nil))) (s_cons (s_tup (s_cons (s_tup (s_cons s_str s_nil)) (s_cons (s_v 3) s_nil))) s_nil)))))) (g_name 6 nd) (b_cons (x_if (s_tnot (s_tt (s_call O (s_cons (s_ix (s_v 6) s_int) (s_cons (s_ix (s_v 6) s_int) (s_cons (s_v 4) (s_cons (s_v 5) s_nil))))))) (b_cons (x_ret s_bl) b_nil) b_nil) b_nil)) (b_cons (x_ret s_bl) b_nil)))))))
end Pr

end

section
set_option maxHeartbeats 4000000
namespace Pr
open PySem L2 Oz
variable {S S' : Sto} {d : Nat}
theorem call_eq {f : Str} {df : Df} (h : tbl.lookup f = some (.inl df)) (d : Nat) (us : List U) (S : Sto) : (pg.cal (d + 1)).call f us S = df.run (pg.cal d) us S := by
  show (match tbl.lookup f with | some (.inl df) => df.run (pg.cal d) us S | some (.inr g) => g (pg.cal d) us S | none => R.bad) = _
  rw [h]
theorem run_eq {np nn : Nat} {b : Sts} {Φ : Cal} {us : List U} {S : Sto} (h : us.length = np) : (⟨np, nn, false, b⟩ : Df).run Φ us S = (exs Φ b (us.map some ++ List.replicate (nn - np) none) S).fin := by
  unfold Df.run bindU startU
  subst h
  rw [if_neg (show ¬ (false = true) from Bool.false_ne_true), if_pos rfl]
/-! ### types -/
inductive Ty where
  | any | int | bool | unit | fn (a b : Ty) | pr (a b : Ty) | bx (a : Ty)
  deriving DecidableEq
namespace Ty
def hd : Ty → Str
  | any => "any" | int => "int" | bool => "bool" | unit => "unit" | fn _ _ => "fun" | pr _ _ => "pair" | bx _ => "box"
def pt : Ty → List Ty
  | fn a b => [a, b] | pr a b => [a, b] | bx a => [a] | _ => []
def kd : Ty → Nat
  | any => 0 | int => 1 | bool => 2 | unit => 3 | fn _ _ => 4 | pr _ _ => 5 | bx _ => 6
def dep : Ty → Nat
  | fn a b => 1 + max a.dep b.dep | pr a b => 1 + max a.dep b.dep | bx a => 1 + a.dep | _ => 1
theorem dep_pos (t : Ty) : 1 ≤ t.dep := by cases t <;> simp [dep] <;> omega
theorem dep_pt {t p : Ty} (h : p ∈ t.pt) : p.dep < t.dep := by
  cases t <;> simp [pt] at h <;> (try rcases h with rfl | rfl) <;> (try subst h) <;> simp [dep] <;> omega
theorem pt_len (t : Ty) : t.pt.length ≤ 2 := by cases t <;> simp [pt]
def nmK : Nat → Str
  | 0 => "any" | 1 => "int" | 2 => "bool" | 3 => "unit" | 4 => "fun" | 5 => "pair" | _ => "box"
theorem nm_inj : ∀ i j : Fin 7, nmK i = nmK j → i = j := by decide +kernel
theorem hd_nm (t : Ty) : t.hd = nmK t.kd := by cases t <;> rfl
theorem kd_lt (t : Ty) : t.kd < 7 := by cases t <;> simp [kd]
theorem hd_kd (a b : Ty) : a.hd = b.hd ↔ a.kd = b.kd := by
  rw [hd_nm, hd_nm]
  constructor
  · intro h
    have := nm_inj ⟨a.kd, a.kd_lt⟩ ⟨b.kd, b.kd_lt⟩ h
    exact congrArg Fin.val this
  · intro h
    rw [h]
theorem len_hd {a b : Ty} (h : a.hd = b.hd) : a.pt.length = b.pt.length := by
  rw [hd_kd] at h
  cases a <;> cases b <;> first | rfl | (simp [kd] at h)
end Ty
def tu : Ty → U
  | .any => .tup [.str "any"] | .int => .tup [.str "int"] | .bool => .tup [.str "bool"] | .unit => .tup [.str "unit"]
  | .fn a b => .tup [.str "fun", tu a, tu b] | .pr a b => .tup [.str "pair", tu a, tu b] | .bx a => .tup [.str "box", tu a]
theorem tu_eq (t : Ty) : tu t = .tup (.str t.hd :: t.pt.map tu) := by cases t <;> rfl
theorem tu_inj : ∀ a b : Ty, tu a = tu b → a = b := by
  intro a
  induction a with
  | any => intro b h; cases b <;> first | rfl | (rw [tu_eq, tu_eq] at h; simp only [U.tup.injEq, List.cons.injEq, U.str.injEq, Ty.hd_kd] at h; exact absurd h.1 (by simp [Ty.kd]))
  | int => intro b h; cases b <;> first | rfl | (rw [tu_eq, tu_eq] at h; simp only [U.tup.injEq, List.cons.injEq, U.str.injEq, Ty.hd_kd] at h; exact absurd h.1 (by simp [Ty.kd]))
  | bool => intro b h; cases b <;> first | rfl | (rw [tu_eq, tu_eq] at h; simp only [U.tup.injEq, List.cons.injEq, U.str.injEq, Ty.hd_kd] at h; exact absurd h.1 (by simp [Ty.kd]))
  | unit => intro b h; cases b <;> first | rfl | (rw [tu_eq, tu_eq] at h; simp only [U.tup.injEq, List.cons.injEq, U.str.injEq, Ty.hd_kd] at h; exact absurd h.1 (by simp [Ty.kd]))
  | fn x y ih1 ih2 =>
    intro b h
    cases b with
    | fn x' y' =>
      simp only [tu, U.tup.injEq, List.cons.injEq, and_true, true_and] at h
      rw [ih1 _ h.1, ih2 _ h.2]
    | _ => rw [tu_eq, tu_eq] at h; simp only [U.tup.injEq, List.cons.injEq, U.str.injEq, Ty.hd_kd] at h; exact absurd h.1 (by simp [Ty.kd])
  | pr x y ih1 ih2 =>
    intro b h
    cases b with
    | pr x' y' =>
      simp only [tu, U.tup.injEq, List.cons.injEq, and_true, true_and] at h
      rw [ih1 _ h.1, ih2 _ h.2]
    | _ => rw [tu_eq, tu_eq] at h; simp only [U.tup.injEq, List.cons.injEq, U.str.injEq, Ty.hd_kd] at h; exact absurd h.1 (by simp [Ty.kd])
  | bx x ih1 =>
    intro b h
    cases b with
    | bx x' =>
      simp only [tu, U.tup.injEq, List.cons.injEq, and_true, true_and] at h
      rw [ih1 _ h]
    | _ => rw [tu_eq, tu_eq] at h; simp only [U.tup.injEq, List.cons.injEq, U.str.injEq, Ty.hd_kd] at h; exact absurd h.1 (by simp [Ty.kd])
theorem st_tu : ∀ t : Ty, stU (tu t) = true
  | .any => rfl | .int => rfl | .bool => rfl | .unit => rfl
  | .fn a b => by simp [tu, stU, stUs, st_tu a, st_tu b]
  | .pr a b => by simp [tu, stU, stUs, st_tu a, st_tu b]
  | .bx a => by simp [tu, stU, stUs, st_tu a]
theorem pur_tu : ∀ t : Ty, purU (tu t) = true
  | .any => rfl | .int => rfl | .bool => rfl | .unit => rfl
  | .fn a b => by simp [tu, purU, purUs, pur_tu a, pur_tu b]
  | .pr a b => by simp [tu, purU, purUs, pur_tu a, pur_tu b]
  | .bx a => by simp [tu, purU, purUs, pur_tu a]
theorem lay_tu : ∀ t : Ty, (pdU (tu t)).canLay0 = true
  | .any => by decide +kernel
  | .int => by decide +kernel
  | .bool => by decide +kernel
  | .unit => by decide +kernel
  | .fn a b => by simp [tu, pdU, pdUs, PyData.canLay0, PyData.canLayAll0, lay_tu a, lay_tu b]; decide +kernel
  | .pr a b => by simp [tu, pdU, pdUs, PyData.canLay0, PyData.canLayAll0, lay_tu a, lay_tu b]; decide +kernel
  | .bx a => by simp [tu, pdU, pdUs, PyData.canLay0, PyData.canLayAll0, lay_tu a]; decide +kernel
theorem dep_tu : ∀ t : Ty, (pdU (tu t)).depth ≤ t.dep + 1
  | .any => by decide +kernel
  | .int => by decide +kernel
  | .bool => by decide +kernel
  | .unit => by decide +kernel
  | .fn a b => by
    have := dep_tu a
    have := dep_tu b
    simp only [tu, pdU, pdUs, PyData.depth, PyData.depthAll, Ty.dep]
    omega
  | .pr a b => by
    have := dep_tu a
    have := dep_tu b
    simp only [tu, pdU, pdUs, PyData.depth, PyData.depthAll, Ty.dep]
    omega
  | .bx a => by
    have := dep_tu a
    simp only [tu, pdU, pdUs, PyData.depth, PyData.depthAll, Ty.dep]
    omega
theorem ok_tu {t : Ty} (h : t.dep ≤ 20) : okU (tu t) = true := by
  have := dep_tu t
  unfold okU SeqAt.shaped
  rw [pur_tu, lay_tu, Bool.true_and, Bool.true_and]
  exact decide_eq_true (by omega)
theorem eqU_tu (a b : Ty) : eqU (tu a) (tu b) = decide (a = b) := by
  have h := eqU_st (tu a) (tu b) (st_tu a) (st_tu b)
  by_cases e : a = b
  · rw [e] at h ⊢
    rw [h.mpr rfl]
    simp
  · rw [decide_eq_false e]
    cases q : eqU (tu a) (tu b) with
    | false => rfl
    | true => exact absurd (tu_inj a b (h.mp q)) e
theorem eqR_tu {a b : Ty} (ha : a.dep ≤ 20) (hb : b.dep ≤ 20) : eqR (tu a) (tu b) S = some (decide (a = b)) := by
  have h1 := ok_tu ha
  have h2 := ok_tu hb
  have h3 := eqU_tu a b
  rw [tu_eq a, tu_eq b] at *
  rw [eqR_tup h1 h2, h3]
theorem c_eq {a b : Ty} (ha : a.dep ≤ 20) (hb : b.dep ≤ 20) : cmpU .eq (tu a) (tu b) S = .ok (.bl (decide (a = b))) S := by
  unfold cmpU cmpB
  rw [eqR_tu ha hb]
theorem c_ne {a b : Ty} (ha : a.dep ≤ 20) (hb : b.dep ≤ 20) : cmpU .ne (tu a) (tu b) S = .ok (.bl (!decide (a = b))) S := by
  unfold cmpU cmpB
  rw [eqR_tu ha hb]
  rfl
theorem tu_any : U.tup [.str "any"] = tu .any := rfl
theorem ix_hd (t : Ty) : ixU (tu t) (.int 0) S = .ok (.str t.hd) S := by cases t <;> rfl
theorem sl_pt (t : Ty) : slU (tu t) (some 1) none S = .ok (.tup (t.pt.map tu)) S := by cases t <;> rfl
theorem len_tu (t : Ty) : bfU .len [tu t] S = .ok (.int ((1 + t.pt.length : Nat) : Int)) S := by cases t <;> rfl
theorem ix_pt (t : Ty) {k : Nat} {p : Ty} (h : t.pt[k]? = some p) : ixU (tu t) (.int (1 + (k : Nat))) S = .ok (tu p) S := by
  rw [tu_eq, Oz.ix_tup]
  have e : atI (U.str t.hd :: t.pt.map tu) (1 + (k : Int)) = some (tu p) := by
    have := atI_nat_own (xs := U.str t.hd :: t.pt.map tu) (n := k + 1) (u := tu p) (by rw [List.getElem?_cons_succ, List.getElem?_map, h]; rfl)
    rw [show ((k + 1 : Nat) : Int) = 1 + (k : Int) by omega] at this
    exact this
  rw [e]
theorem szle {n : Nat} (h : n ≤ 1000) : n ≤ sizeLine := Nat.le_trans h (by decide)
theorem g_ANY (d : Nat) : (pg.cal d).glo "ANY" = some (tu .any) := by rw [cal_glo]; rfl
end Pr

end

section
set_option maxHeartbeats 4000000
namespace Oz
open PySem L2
section
variable {S : Sto} {i j : Int}
theorem mod_int (h : 0 < j) : binU .mod (.int i) (.int j) S = .ok (.int (i % j)) S := if_pos h
theorem mul_int (h : CMul i j) : binU .mul (.int i) (.int j) S = .ok (.int (i * j)) S := if_pos h
theorem fdiv_int (h : CDiv i j) : binU .fdiv (.int i) (.int j) S = .ok (.int (i / j)) S := if_pos h
theorem int_int : bfU .int [.int i] S = .ok (.int i) S := rfl
theorem mul_r (h1 : -(2 ^ 64) < j) (h2 : j < 2 ^ 64) : CMul i j := .inr ⟨h1, h2⟩
end
end Oz
namespace Pr
open PySem L2 Oz
variable {S S' : Sto} {d : Nat}
theorem sz2 : (2 ≤ sizeLine) = True := by decide
theorem sz3 : (3 ≤ sizeLine) = True := by decide
theorem sz5 : (5 ≤ sizeLine) = True := by decide
theorem sz1 : (1 ≤ sizeLine) = True := by decide
/-! ### the law's own numbers -/
theorem takes_eq {st cl : Nat} {most : Int} (hs : HasSt S st cl) (h0 : 0 < most) (h1 : most < 1000001) : ∃ v S', (pg.cal (d + 1)).call "_law_take" [.loc st, .int most] S = .ok (.int v) S' ∧ 0 ≤ v ∧ v < most ∧ HasSt S' st cl ∧ F2 S S' st cl := by
  obtain ⟨c, cs, h⟩ := hs
  rw [call_eq (df := ⟨2, 6, false, T__law_take⟩) (by kernel_rfl), run_eq (by rfl)]
  unfold T__law_take
  have hlen : (0 : Int) < ((cs.map U.int).length : Int) := by
    rw [List.length_map]
    have := List.length_pos_iff.mpr h.pos
    omega
  have hst : st < S.length := (List.getElem?_eq_some_iff.mp h.s).1
  have hcl : cl < S.length := (List.getElem?_eq_some_iff.mp h.t).1
  obtain ⟨a, ha⟩ : ∃ a : Nat, (a : Int) = c % ((cs.map U.int).length : Int) := ⟨(c % ((cs.map U.int).length : Int)).toNat, Int.toNat_of_nonneg (Int.emod_nonneg _ (by omega))⟩
  have hal : a < cs.length := by
    have q := Int.emod_lt_of_pos c hlen
    rw [← ha, List.length_map] at q
    omega
  have hat : atI (cs.map U.int) (a : Int) = some (.int cs[a]) := L2.atI_nat (by rw [List.getElem?_map, List.getElem?_eq_getElem hal]; rfl)
  have p0 : ∀ x y : U, atI [x, y] (0 : Int) = some x := fun _ _ => rfl
  have p1 : ∀ x y : U, atI [x, y] (1 : Int) = some y := fun _ _ => rfl
  have hcell : 0 ≤ cs[a] := h.nn _ (List.getElem_mem hal)
  simp_arith [ix_loc h.s, p0, p1, len_loc h.t, mod_int hlen, ← ha, ix_loc h.t, hat]
  by_cases hb : (1000000000000000000 : Int) ≤ cs[a]
  · have hi : setItemU (.loc cl) (.int a) (.int (cs[a] / most)) S = .ok () (S.set cl (.lst ((cs.set a (cs[a] / most)).map U.int))) := by
      unfold setItemU
      simp only [h.t]
      have hx : ixN (cs.map U.int).length (a : Int) = some a := by
        unfold ixN
        rw [if_pos (by omega), if_pos (by rw [List.length_map]; omega)]
        simp
      rw [hx, List.map_set]
    simp_arith [hb, decide_true, fdiv_int (show CDiv cs[a] most from ⟨h0, by omega⟩), hi, mod_int h0]
    refine ⟨_, _, rfl, Int.emod_nonneg _ (by omega), Int.emod_lt_of_pos _ h0, ⟨c, cs.set a (cs[a] / most), ?_, ?_, h.ne, ?_, ?_⟩, ⟨by simp, fun k hk h1 h2 => by rw [List.getElem?_set_ne (Ne.symm h2)]⟩⟩
    · rw [List.getElem?_set_ne (Ne.symm h.ne)]
      exact h.s
    · rw [List.getElem?_set_self hcl]
    · intro z
      have := congrArg List.length z
      simp at this
      exact h.pos this
    · intro x hx
      rcases List.mem_or_eq_of_mem_set hx with hx | hx
      · exact h.nn x hx
      · rw [hx]
        exact Int.ediv_nonneg hcell (by omega)
  · have hi : setItemU (.loc st) (.int 0) (.int (c + 1)) S = .ok () (S.set st (.lst [.int (c + 1), .loc cl])) := by
      unfold setItemU
      simp only [h.s]
      rfl
    have g1 : (S.set st (.lst [.int (c + 1), .loc cl]))[st]? = some (.lst [.int (c + 1), .loc cl]) := by rw [List.getElem?_set_self hst]
    simp_arith [hb, decide_false, ix_loc h.s, hi, ix_loc g1, p0, mul_int (mul_r (i := cs[a]) (j := 48271) (by decide) (by decide)), mul_int (mul_r (i := c + 1) (j := 69621) (by decide) (by decide)), int_int, mod_int (show (0 : Int) < 2147483647 by decide),
      mul_int (mul_r (i := (cs[a] * 48271 + (c + 1) * 69621) % 2147483647) (j := 16807) (by decide) (by decide)), mul_int (mul_r (i := c + 1) (j := 7919) (by decide) (by decide)), mod_int (show (0 : Int) < 1000000007 by decide),
      fdiv_int (show CDiv (((cs[a] * 48271 + (c + 1) * 69621) % 2147483647 * 16807 + (c + 1) * 7919) % 1000000007) 7 from ⟨by decide, by decide⟩), mod_int h0]
    refine ⟨_, _, rfl, Int.emod_nonneg _ (by omega), Int.emod_lt_of_pos _ h0, ⟨c + 1, cs, g1, ?_, h.ne, h.pos, h.nn⟩, ⟨by simp, fun k hk h1 h2 => by rw [List.getElem?_set_ne (Ne.symm h1)]⟩⟩
    rw [List.getElem?_set_ne h.ne]
    exact h.t
def absU (i : Int) : Int := if i < 0 then -i else i
theorem state_eq (ns : List Int) (hl : ns.length ≤ 63) : ∃ st cl S', (pg.cal (d + 1)).call "_law_state" [.loc 0] [.fro (ns.map U.int)] = .ok (.loc st) S' ∧ HasSt S' st cl := by
  rw [call_eq (df := ⟨1, 3, false, T__law_state⟩) (by kernel_rfl), run_eq (by rfl)]
  unfold T__law_state
  have hsl : slU (.loc 0) none (some 63) [.fro (ns.map U.int)] = .ok (.loc 1) [.fro (ns.map U.int), .lst (ns.map U.int)] := by
    have hc : cutA (ns.map U.int) none (some 63) = ns.map U.int := by
      unfold cutA
      have e1 : HT.sIx (ns.map U.int).length (ns.map U.int).length (some 63) = (ns.map U.int).length := by
        unfold HT.sIx
        dsimp only
        rw [if_neg (by decide), List.length_map]
        omega
      rw [e1, HT.sIx_none, Nat.sub_zero, List.drop_zero]
      exact List.take_length
    show R.ok (U.loc 1) ([Cel.fro (ns.map U.int)] ++ [Cel.lst (cutA (ns.map U.int) none (some 63))]) = _
    rw [hc]
    rfl
  simp_arith [hsl]
  have hit : iterU [.fro (ns.map U.int), .lst (ns.map U.int)] (.loc 1) = some (ns.map U.int, some 1) := rfl
  simp_arith [hit, wipeE]
  rw [lcI_all (g := fun u => match u with | .int i => .int (absU i) | u => u) (acc := []) (fun u hu => ?_) (fun x => ?_) rfl (by simp; exact Nat.le_trans hl (by decide))]
  · have hm : (ns.map U.int).map (fun u => match u with | .int i => U.int (absU i) | u => u) = (ns.map absU).map U.int := by
      simp only [List.map_map]
      rfl
    rw [hm]
    simp only [List.length_cons, List.length_nil, Nat.zero_add, Nat.reduceAdd, List.nil_append, List.set_cons_succ, List.set_cons_zero]
    have hln : bfU .len [.loc 2] [Cel.fro (ns.map U.int), Cel.lst (ns.map U.int), Cel.lst ((ns.map absU).map U.int)] = .ok (.int ((ns.map absU).map U.int).length) _ := len_loc (n := 2) rfl
    have hl0 : (((((ns.map absU).map U.int).length : Nat) : Int) = 0) = (ns = []) := by
      rw [List.length_map, List.length_map, eq_iff_iff]
      constructor
      · intro z
        exact List.length_eq_zero_iff.mp (by omega)
      · rintro rfl
        rfl
    have hpos : ∀ x ∈ ns.map absU, 0 ≤ x := fun x hx => by
      obtain ⟨i, _, rfl⟩ := List.mem_map.mp hx
      unfold absU
      split <;> omega
    simp_arith [hln, hl0]
    by_cases hn : ns = []
    · subst hn
      simp_arith [decide_true, sz1, sz2, List.length_cons, List.length_nil, Nat.zero_add, Nat.reduceAdd]
      exact ⟨4, 3, _, rfl, 0, [0], rfl, rfl, by decide, by decide, by decide⟩
    · simp_arith [hn, decide_false, sz1, sz2, List.length_cons, List.length_nil, Nat.zero_add, Nat.reduceAdd]
      exact ⟨3, 2, _, rfl, 0, ns.map absU, rfl, rfl, by decide, by simpa using hn, hpos⟩
  · obtain ⟨i, _, rfl⟩ := List.mem_map.mp hu
    exact ⟨_, rfl, fun S => ⟨rfl, rfl⟩⟩
  · unfold stays
    exact isLst_lst (us := ns.map U.int) rfl
end Pr

end

section
set_option maxHeartbeats 4000000
namespace Pr
open PySem L2 Oz
variable {S S' : Sto} {d : Nat}
/-! ### grounds -/
inductive Gd where
  | int | bool | unit | fn | pr | bx
  deriving DecidableEq
def Gd.nm : Gd → Str
  | int => "int" | bool => "bool" | unit => "unit" | fn => "fun" | pr => "pair" | bx => "box"
def Ty.gd : Ty → Gd
  | any => .int | int => .int | bool => .bool | unit => .unit | fn _ _ => .fn | pr _ _ => .pr | bx _ => .bx
def gty : Gd → Ty
  | .int => .int | .bool => .bool | .unit => .unit | .fn => .fn .any .any | .pr => .pr .any .any | .bx => .bx .any
theorem hd_gd {t : Ty} (h : t ≠ .any) : t.hd = t.gd.nm := by cases t <;> first | rfl | exact absurd rfl h
theorem gd_gty (g : Gd) : (gty g).gd = g := by cases g <;> rfl
theorem gty_ne (g : Gd) : gty g ≠ .any := by cases g <;> intro h <;> cases h
theorem nm_inj {a b : Gd} : (a.nm = b.nm) = (a = b) := by
  cases a <;> cases b <;> simp [Gd.nm, ofS_inj]
theorem nm_any (a : Gd) : (a.nm = ("any" : Str)) = False := by cases a <;> simp [Gd.nm, ofS_inj]
theorem dep_gty (g : Gd) : (gty g).dep ≤ 2 := by cases g <;> decide
/-! ### labels, checks -/
abbrev Lb := Int × Int
def lu (l : Lb) : U := .tup [.int l.1, .int l.2]
def tn (l : Lb) : Lb := (l.1, 1 - l.2)
inductive Ck where
  | any | same (g : Gd) | fn (s t : Ck) | pr (s t : Ck) | bx (s t : Ck) | give (c : Ck) | fail (g : Gd) (l : Lb) (h : Gd) | take (g : Gd) (l : Lb) (c : Ck)
  deriving DecidableEq
def cu : Ck → U
  | .any => .tup [.str "any"] | .same g => .tup [.str "same", .str g.nm] | .fn s t => .tup [.str "fun", cu s, cu t] | .pr s t => .tup [.str "pair", cu s, cu t] | .bx s t => .tup [.str "box", cu s, cu t]
  | .give c => .tup [.str "give", cu c] | .fail g l h => .tup [.str "fail", .str g.nm, lu l, .str h.nm] | .take g l c => .tup [.str "take", .str g.nm, lu l, cu c]
namespace Ck
/-- tuples in one another -/
def dp : Ck → Nat
  | any => 1 | same _ => 1 | fn s t => 1 + max s.dp t.dp | pr s t => 1 + max s.dp t.dp | bx s t => 1 + max s.dp t.dp | give c => 1 + c.dp | fail _ _ _ => 2 | take _ _ c => 1 + max 2 c.dp
def sz : Ck → Nat
  | any => 1 | same _ => 1 | fn s t => 1 + (s.sz + t.sz) | pr s t => 1 + (s.sz + t.sz) | bx s t => 1 + (s.sz + t.sz) | give c => 1 + c.sz | fail _ _ _ => 1 | take _ _ c => 1 + c.sz
def ht : Ck → Nat
  | any => 1 | same _ => 1 | fn s t => 1 + max s.ht t.ht | pr s t => 1 + max s.ht t.ht | bx s t => 1 + max s.ht t.ht | give c => c.ht | fail _ _ _ => 1 | take _ _ c => c.ht
def pl : Ck → Bool
  | same _ => true | fn _ _ => true | pr _ _ => true | bx _ _ => true | _ => false
/-- the ground of its values -/
def sg : Ck → Gd
  | any => .int | same g => g | fn _ _ => .fn | pr _ _ => .pr | bx _ _ => .bx | give c => c.sg | fail g _ _ => g | take g _ _ => g
def hd : Ck → Str
  | any => "any" | same _ => "same" | fn _ _ => "fun" | pr _ _ => "pair" | bx _ _ => "box" | give _ => "give" | fail _ _ _ => "fail" | take _ _ _ => "take"
theorem dp_pos (c : Ck) : 1 ≤ c.dp := by cases c <;> simp [dp] <;> omega
theorem ht_pos : ∀ c : Ck, 1 ≤ c.ht
  | any => by simp [ht] | same _ => by simp [ht] | fn _ _ => by simp [ht] <;> omega | pr _ _ => by simp [ht] <;> omega | bx _ _ => by simp [ht] <;> omega
  | give c => by simp only [ht]; exact ht_pos c
  | fail _ _ _ => by simp [ht]
  | take _ _ c => by simp only [ht]; exact ht_pos c
theorem sz_pos (c : Ck) : 1 ≤ c.sz := by cases c <;> simp [sz] <;> omega
end Ck
theorem lu_inj {a b : Lb} (h : lu a = lu b) : a = b := by
  simp only [lu, U.tup.injEq, List.cons.injEq, U.int.injEq, and_true] at h
  exact Prod.ext h.1 h.2
theorem cu_inj : ∀ {a b : Ck}, cu a = cu b → a = b
  | .any, b, h => by cases b <;> simp_all [cu, ofS_inj]
  | .same g, b, h => by cases b <;> simp_all [cu, ofS_inj, nm_inj]
  | .fn s t, b, h => by
    cases b <;> simp [cu, ofS_inj] at h
    rw [cu_inj h.1, cu_inj h.2]
  | .pr s t, b, h => by
    cases b <;> simp [cu, ofS_inj] at h
    rw [cu_inj h.1, cu_inj h.2]
  | .bx s t, b, h => by
    cases b <;> simp [cu, ofS_inj] at h
    rw [cu_inj h.1, cu_inj h.2]
  | .give c, b, h => by
    cases b <;> simp [cu, ofS_inj] at h
    rw [cu_inj h]
  | .fail g l k, b, h => by
    cases b <;> simp [cu, ofS_inj, nm_inj] at h
    rw [h.1, lu_inj h.2.1, h.2.2]
  | .take g l c, b, h => by
    cases b <;> simp [cu, ofS_inj, nm_inj] at h
    rw [h.1, lu_inj h.2.1, cu_inj h.2.2]
theorem si_lu (l : Lb) : siU (lu l) = true := rfl
theorem si_cu : ∀ c : Ck, siU (cu c) = true
  | .any => rfl | .same _ => rfl | .fail _ l _ => rfl
  | .fn s t => by simp [cu, siU, siUs, si_cu s, si_cu t]
  | .pr s t => by simp [cu, siU, siUs, si_cu s, si_cu t]
  | .bx s t => by simp [cu, siU, siUs, si_cu s, si_cu t]
  | .give c => by simp [cu, siU, siUs, si_cu c]
  | .take _ l c => by simp [cu, siU, siUs, si_cu c, si_lu l]
theorem pur_cu : ∀ c : Ck, purU (cu c) = true
  | .any => rfl | .same _ => rfl | .fail _ l _ => rfl
  | .fn s t => by simp [cu, purU, purUs, pur_cu s, pur_cu t]
  | .pr s t => by simp [cu, purU, purUs, pur_cu s, pur_cu t]
  | .bx s t => by simp [cu, purU, purUs, pur_cu s, pur_cu t]
  | .give c => by simp [cu, purU, purUs, pur_cu c]
  | .take _ l c => by simp [cu, lu, purU, purUs, pur_cu c]
theorem lay_nm (g : Gd) : (pdU (.str g.nm)).canLay0 = true := by cases g <;> decide +kernel
theorem lay_lu (l : Lb) : (pdU (lu l)).canLay0 = true := by simp [lu, pdU, pdUs, PyData.canLay0, PyData.canLayAll0]
theorem lay_cu : ∀ c : Ck, (pdU (cu c)).canLay0 = true
  | .any => by decide +kernel
  | .same g => by cases g <;> decide +kernel
  | .fail g l h => by
    have h1 := lay_nm g; have h2 := lay_nm h; have h3 := lay_lu l
    simp only [cu, pdU, pdUs, PyData.canLay0, PyData.canLayAll0, Bool.and_true, Bool.and_eq_true] at *
    exact ⟨by decide +kernel, h1, h3, h2⟩
  | .fn s t => by simp [cu, pdU, pdUs, PyData.canLay0, PyData.canLayAll0, lay_cu s, lay_cu t]; decide +kernel
  | .pr s t => by simp [cu, pdU, pdUs, PyData.canLay0, PyData.canLayAll0, lay_cu s, lay_cu t]; decide +kernel
  | .bx s t => by simp [cu, pdU, pdUs, PyData.canLay0, PyData.canLayAll0, lay_cu s, lay_cu t]; decide +kernel
  | .give c => by simp [cu, pdU, pdUs, PyData.canLay0, PyData.canLayAll0, lay_cu c]; decide +kernel
  | .take g l c => by
    have h1 := lay_nm g; have h3 := lay_lu l; have h4 := lay_cu c
    simp only [cu, pdU, pdUs, PyData.canLay0, PyData.canLayAll0, Bool.and_true, Bool.and_eq_true] at *
    exact ⟨by decide +kernel, h1, h3, h4⟩
theorem dep_cu : ∀ c : Ck, (pdU (cu c)).depth ≤ c.dp + 1
  | .any => by decide +kernel
  | .same g => by cases g <;> decide +kernel
  | .fail g l h => by simp [cu, lu, pdU, pdUs, PyData.depth, PyData.depthAll, Ck.dp]
  | .fn s t => by
    have := dep_cu s
    have := dep_cu t
    simp only [cu, pdU, pdUs, PyData.depth, PyData.depthAll, Ck.dp]
    omega
  | .pr s t => by
    have := dep_cu s
    have := dep_cu t
    simp only [cu, pdU, pdUs, PyData.depth, PyData.depthAll, Ck.dp]
    omega
  | .bx s t => by
    have := dep_cu s
    have := dep_cu t
    simp only [cu, pdU, pdUs, PyData.depth, PyData.depthAll, Ck.dp]
    omega
  | .give c => by
    have := dep_cu c
    simp only [cu, pdU, pdUs, PyData.depth, PyData.depthAll, Ck.dp]
    omega
  | .take g l c => by
    have := dep_cu c
    simp only [cu, lu, pdU, pdUs, PyData.depth, PyData.depthAll, Ck.dp]
    omega
theorem ok_cu {c : Ck} (h : c.dp ≤ 50) : okU (cu c) = true := by
  have := dep_cu c
  unfold okU SeqAt.shaped
  rw [pur_cu, lay_cu, Bool.true_and, Bool.true_and]
  exact decide_eq_true (by omega)
theorem eqU_cu (a b : Ck) : eqU (cu a) (cu b) = decide (a = b) := by
  have h := eqU_si (cu a) (cu b) (si_cu a) (si_cu b)
  by_cases e : a = b
  · rw [e] at h ⊢
    rw [h.mpr rfl]
    simp
  · rw [decide_eq_false e]
    cases q : eqU (cu a) (cu b) with
    | false => rfl
    | true => exact absurd (cu_inj (h.mp q)) e
theorem cu_tup (c : Ck) : ∃ us, cu c = .tup us := by cases c <;> exact ⟨_, rfl⟩
theorem eqR_cu {a b : Ck} (ha : a.dp ≤ 50) (hb : b.dp ≤ 50) : eqR (cu a) (cu b) S = some (decide (a = b)) := by
  have h1 := ok_cu ha
  have h2 := ok_cu hb
  have h3 := eqU_cu a b
  obtain ⟨xs, ex⟩ := cu_tup a
  obtain ⟨ys, ey⟩ := cu_tup b
  rw [ex] at h1 h3 ⊢
  rw [ey] at h2 h3 ⊢
  rw [eqR_tup h1 h2, h3]
theorem cc_eq {a b : Ck} (ha : a.dp ≤ 50) (hb : b.dp ≤ 50) : cmpU .eq (cu a) (cu b) S = .ok (.bl (decide (a = b))) S := by
  unfold cmpU cmpB
  rw [eqR_cu ha hb]
theorem cc_ne {a b : Ck} (ha : a.dp ≤ 50) (hb : b.dp ≤ 50) : cmpU .ne (cu a) (cu b) S = .ok (.bl (!decide (a = b))) S := by
  unfold cmpU cmpB
  rw [eqR_cu ha hb]
  rfl
theorem ixc_hd (c : Ck) : ixU (cu c) (.int 0) S = .ok (.str c.hd) S := by cases c <;> rfl
end Pr

end

section
set_option maxHeartbeats 4000000
namespace Pr
open PySem L2 Oz
/-! ### joining -/
def jn : Ck → Ck → Ck
  | .any, b => b
  | .fail g l h, _ => .fail g l h
  | .take g l c, b => .take g l (jn c b)
  | .give c, .any => .give c
  | .give c, .take g l i => if c.sg = g then jn c i else .fail c.sg l g
  | .give c, _ => .give c
  | a, .fail g l h => .fail g l h
  | a, .give c => .give (jn a c)
  | .same g, _ => .same g
  | .pr s t, .pr s' t' => .pr (jn s s') (jn t t')
  | .fn s t, .fn s' t' => .fn (jn s' s) (jn t t')
  | .bx s t, .bx s' t' => .bx (jn s' s) (jn t t')
  | a, _ => a
termination_by a b => a.sz + b.sz
decreasing_by all_goals (simp only [Ck.sz]; omega)
theorem jn_ht : ∀ (n : Nat) (a b : Ck), a.sz + b.sz ≤ n → (jn a b).ht ≤ max a.ht b.ht
  | 0, a, b, h => absurd a.sz_pos (by omega)
  | n + 1, a, b, h => by
    have pa := a.ht_pos
    have pb := b.ht_pos
    cases a with
    | any => rw [jn]; omega
    | fail g l k => rw [jn]; omega
    | take g l c =>
      have := jn_ht n c b (by simp only [Ck.sz] at h; omega)
      rw [jn]
      simp only [Ck.ht] at *
      omega
    | give c =>
      cases b with
      | take g l i =>
        have := jn_ht n c i (by simp only [Ck.sz] at h; omega)
        rw [jn]
        split
        · simp only [Ck.ht] at *
          omega
        · simp only [Ck.ht] at *
          omega
      | _ => rw [jn] <;> first | omega | simp
    | same g =>
      cases b with
      | give c =>
        have := jn_ht n (.same g) c (by simp only [Ck.sz] at h ⊢; omega)
        rw [jn]
        · simp only [Ck.ht] at *; omega
        all_goals simp
      | _ => rw [jn] <;> first | omega | simp
    | pr s t =>
      cases b with
      | give c =>
        have := jn_ht n (.pr s t) c (by simp only [Ck.sz] at h ⊢; omega)
        rw [jn]
        · simp only [Ck.ht] at *; omega
        all_goals simp
      | pr s' t' =>
        have h1 := jn_ht n s s' (by simp only [Ck.sz] at h; omega)
        have h2 := jn_ht n t t' (by simp only [Ck.sz] at h; omega)
        rw [jn]
        simp only [Ck.ht] at *
        omega
      | _ => rw [jn] <;> first | omega | simp
    | fn s t =>
      cases b with
      | give c =>
        have := jn_ht n (.fn s t) c (by simp only [Ck.sz] at h ⊢; omega)
        rw [jn]
        · simp only [Ck.ht] at *; omega
        all_goals simp
      | fn s' t' =>
        have h1 := jn_ht n s' s (by simp only [Ck.sz] at h; omega)
        have h2 := jn_ht n t t' (by simp only [Ck.sz] at h; omega)
        rw [jn]
        simp only [Ck.ht] at *
        omega
      | _ => rw [jn] <;> first | omega | simp
    | bx s t =>
      cases b with
      | give c =>
        have := jn_ht n (.bx s t) c (by simp only [Ck.sz] at h ⊢; omega)
        rw [jn]
        · simp only [Ck.ht] at *; omega
        all_goals simp
      | bx s' t' =>
        have h1 := jn_ht n s' s (by simp only [Ck.sz] at h; omega)
        have h2 := jn_ht n t t' (by simp only [Ck.sz] at h; omega)
        rw [jn]
        simp only [Ck.ht] at *
        omega
      | _ => rw [jn] <;> first | omega | simp
/-! ### from a type to a type -/
inductive Tk : Ck → Ty → Ty → Prop
  | any : Tk .any .any .any
  | same {g : Gd} : g = .int ∨ g = .bool ∨ g = .unit → Tk (.same g) (gty g) (gty g)
  | fn {s t : Ck} {a b c e : Ty} : Tk s c a → Tk t b e → Tk (.fn s t) (.fn a b) (.fn c e)
  | pr {s t : Ck} {a b c e : Ty} : Tk s a c → Tk t b e → Tk (.pr s t) (.pr a b) (.pr c e)
  | bx {s t : Ck} {a c : Ty} : Tk s c a → Tk t a c → Tk (.bx s t) (.bx a) (.bx c)
  | give {c : Ck} {a : Ty} : a ≠ .any → c.pl = true → Tk c a (gty a.gd) → Tk (.give c) a .any
  | fail {a b : Ty} {l : Lb} {h : Gd} : a ≠ .any → h ≠ a.gd → Tk (.fail a.gd l h) a b
  | take {g : Gd} {l : Lb} {c : Ck} {b : Ty} : Tk c (gty g) b → Tk (.take g l c) .any b
theorem Tk.src {c : Ck} {a b : Ty} (h : Tk c a b) (ha : a ≠ .any) : c.sg = a.gd ∧ c ≠ .any ∧ ∀ g l i, c ≠ .take g l i := by
  induction h with
  | any => exact absurd rfl ha
  | same hg => exact ⟨(gd_gty _).symm, by simp, by simp⟩
  | fn _ _ => exact ⟨rfl, by simp, by simp⟩
  | pr _ _ => exact ⟨rfl, by simp, by simp⟩
  | bx _ _ => exact ⟨rfl, by simp, by simp⟩
  | give h1 _ _ ih => exact ⟨(ih h1).1, by simp, by simp⟩
  | fail _ _ => exact ⟨rfl, by simp, by simp⟩
  | take _ _ => exact absurd rfl ha
/-- a check of values of any kind -/
theorem Tk.of_any {c : Ck} {b : Ty} (h : Tk c .any b) : (c = .any ∧ b = .any) ∨ ∃ g l i, c = .take g l i ∧ Tk i (gty g) b := by
  generalize ha : Ty.any = a at h
  cases h with
  | any => exact .inl ⟨rfl, rfl⟩
  | @same g hg => exact absurd ha.symm (gty_ne g)
  | fn _ _ => cases ha
  | pr _ _ => cases ha
  | bx _ _ => cases ha
  | give h1 _ _ => exact absurd ha.symm h1
  | fail h1 _ => exact absurd ha.symm h1
  | @take g l i b h => exact .inr ⟨g, l, i, rfl, h⟩
/-- a plain check: both types are of one kind -/
theorem Tk.plain {c : Ck} {a b : Ty} (h : Tk c a b) (hp : c.pl = true) : a ≠ .any ∧ b ≠ .any ∧ a.gd = b.gd := by
  cases h with
  | any => cases hp
  | @same g hg => exact ⟨gty_ne g, gty_ne g, rfl⟩
  | fn _ _ => exact ⟨by simp, by simp, rfl⟩
  | pr _ _ => exact ⟨by simp, by simp, rfl⟩
  | bx _ _ => exact ⟨by simp, by simp, rfl⟩
  | give _ _ _ => cases hp
  | fail _ _ => cases hp
  | take _ => cases hp
/-- behind a plain check -/
theorem Tk.next {c : Ck} {a b : Ty} (h : Tk c a b) (ha : a ≠ .any) : c.pl = true ∨ (∃ i, c = .give i ∧ b = .any ∧ i.pl = true ∧ Tk i a (gty a.gd)) ∨ ∃ l k, c = .fail a.gd l k ∧ k ≠ a.gd := by
  cases h with
  | any => exact absurd rfl ha
  | same _ => exact .inl rfl
  | fn _ _ => exact .inl rfl
  | pr _ _ => exact .inl rfl
  | bx _ _ => exact .inl rfl
  | give h1 h2 h3 => exact .inr (.inl ⟨_, rfl, rfl, h2, h3⟩)
  | @fail a b l k h1 h2 => exact .inr (.inr ⟨l, k, rfl, h2⟩)
  | take _ => exact absurd rfl ha
theorem jn_fail {c : Ck} {g : Gd} {l : Lb} {h : Gd} (hp : c.pl = true) : jn c (.fail g l h) = .fail g l h := by
  cases c <;> first | exact absurd (show false = true from hp) Bool.false_ne_true | (rw [jn] <;> simp)
theorem jn_give {c i : Ck} (hp : c.pl = true) : jn c (.give i) = .give (jn c i) := by
  cases c <;> first | exact absurd (show false = true from hp) Bool.false_ne_true | (rw [jn] <;> simp)
theorem pl_kinds {c i : Ck} {a b e : Ty} (h : Tk c a b) (h' : Tk i b e) (hp : c.pl = true) (hq : i.pl = true) : (∃ g, c = .same g ∧ i = .same g ∧ a = e ∧ jn c i = .same g) ∨
    (∃ s t s' t', c = .pr s t ∧ i = .pr s' t' ∧ jn c i = .pr (jn s s') (jn t t') ∧ ∃ a1 a2 b1 b2 e1 e2, a = .pr a1 a2 ∧ b = .pr b1 b2 ∧ e = .pr e1 e2 ∧ Tk s a1 b1 ∧ Tk t a2 b2 ∧ Tk s' b1 e1 ∧ Tk t' b2 e2) ∨
    (∃ s t s' t', c = .fn s t ∧ i = .fn s' t' ∧ jn c i = .fn (jn s' s) (jn t t') ∧ ∃ a1 a2 b1 b2 e1 e2, a = .fn a1 a2 ∧ b = .fn b1 b2 ∧ e = .fn e1 e2 ∧ Tk s b1 a1 ∧ Tk t a2 b2 ∧ Tk s' e1 b1 ∧ Tk t' b2 e2) ∨
    ∃ s t s' t', c = .bx s t ∧ i = .bx s' t' ∧ jn c i = .bx (jn s' s) (jn t t') ∧ ∃ a1 b1 e1, a = .bx a1 ∧ b = .bx b1 ∧ e = .bx e1 ∧ Tk s b1 a1 ∧ Tk t a1 b1 ∧ Tk s' e1 b1 ∧ Tk t' b1 e1 := by
  cases h with
  | any => cases hp
  | @same g hg =>
    left
    have e1 : jn (.same g) i = .same g := by cases i <;> first | exact absurd (show false = true from hq) Bool.false_ne_true | (rw [jn] <;> simp)
    generalize hb : gty g = b at h'
    cases h' with
    | any => cases hq
    | @same g' hg' =>
      have : g = g' := by rw [← gd_gty g, hb, gd_gty]
      subst this
      exact ⟨g, rfl, rfl, rfl, e1⟩
    | fn _ _ => cases g <;> simp [gty] at hb hg
    | pr _ _ => cases g <;> simp [gty] at hb hg
    | bx _ _ => cases g <;> simp [gty] at hb hg
    | give _ _ _ => cases hq
    | fail _ _ => cases hq
    | take _ => cases hq
  | @fn s t a1 a2 b1 b2 h1 h2 =>
    right; right; left
    generalize hb : Ty.fn b1 b2 = b at h'
    cases h' with
    | any => cases hq
    | @same g' hg' => cases g' <;> simp [gty] at hb hg'
    | @fn s' t' _ _ e1 e2 h3 h4 =>
      cases hb
      exact ⟨s, t, s', t', rfl, rfl, by rw [jn], _, _, _, _, _, _, rfl, rfl, rfl, h1, h2, h3, h4⟩
    | pr _ _ => cases hb
    | bx _ _ => cases hb
    | give _ _ _ => cases hq
    | fail _ _ => cases hq
    | take _ => cases hq
  | @pr s t a1 a2 b1 b2 h1 h2 =>
    right; left
    generalize hb : Ty.pr b1 b2 = b at h'
    cases h' with
    | any => cases hq
    | @same g' hg' => cases g' <;> simp [gty] at hb hg'
    | @pr s' t' _ _ e1 e2 h3 h4 =>
      cases hb
      exact ⟨s, t, s', t', rfl, rfl, by rw [jn], _, _, _, _, _, _, rfl, rfl, rfl, h1, h2, h3, h4⟩
    | fn _ _ => cases hb
    | bx _ _ => cases hb
    | give _ _ _ => cases hq
    | fail _ _ => cases hq
    | take _ => cases hq
  | @bx s t a1 b1 h1 h2 =>
    right; right; right
    generalize hb : Ty.bx b1 = b at h'
    cases h' with
    | any => cases hq
    | @same g' hg' => cases g' <;> simp [gty] at hb hg'
    | @bx s' t' _ e1 h3 h4 =>
      cases hb
      exact ⟨s, t, s', t', rfl, rfl, by rw [jn], _, _, _, rfl, rfl, rfl, h1, h2, h3, h4⟩
    | fn _ _ => cases hb
    | pr _ _ => cases hb
    | give _ _ _ => cases hq
    | fail _ _ => cases hq
    | take _ => cases hq
  | give _ _ _ => cases hp
  | fail _ _ => cases hp
  | take _ => cases hp
theorem jn_pl {c i : Ck} {a b e : Ty} (h : Tk c a b) (h' : Tk i b e) (hp : c.pl = true) (hq : i.pl = true) : (jn c i).pl = true := by
  rcases pl_kinds h h' hp hq with ⟨g, _, _, _, e⟩ | ⟨s, t, s', t', _, _, e, _⟩ | ⟨s, t, s', t', _, _, e, _⟩ | ⟨s, t, s', t', _, _, e, _⟩ <;> rw [e] <;> rfl
theorem jn_tk : ∀ (n : Nat) {s t : Ck} {a b c : Ty}, s.sz + t.sz ≤ n → Tk s a b → Tk t b c → Tk (jn s t) a c
  | 0, s, t, a, b, c, h, _, _ => absurd s.sz_pos (by omega)
  | n + 1, s, t, a, b, c, h, hs, ht => by
    by_cases ha : a = .any
    · subst ha
      rcases hs.of_any with ⟨rfl, rfl⟩ | ⟨g, l, i, rfl, hi⟩
      · rw [jn]; exact ht
      · rw [jn]
        exact .take (jn_tk n (by simp only [Ck.sz] at h; omega) hi ht)
    · rcases hs.next ha with hp | ⟨i, rfl, rfl, hip, hi⟩ | ⟨l, k, rfl, hk⟩
      · obtain ⟨_, hb, hab⟩ := hs.plain hp
        rcases ht.next hb with hq | ⟨j, rfl, rfl, hjp, hj⟩ | ⟨l, k, rfl, hk⟩
        · rcases pl_kinds hs ht hp hq with ⟨g, rfl, rfl, rfl, e⟩ | ⟨s1, t1, s2, t2, rfl, rfl, e, a1, a2, b1, b2, e1, e2, rfl, rfl, rfl, h1, h2, h3, h4⟩ | ⟨s1, t1, s2, t2, rfl, rfl, e, a1, a2, b1, b2, e1, e2, rfl, rfl, rfl, h1, h2, h3, h4⟩ | ⟨s1, t1, s2, t2, rfl, rfl, e, a1, b1, e1, rfl, rfl, rfl, h1, h2, h3, h4⟩
          · rw [e]
            cases hs with
            | same hg => 
              cases ht with
              | same _ => exact .same hg
          · rw [e]
            exact .pr (jn_tk n (by simp only [Ck.sz] at h; omega) h1 h3) (jn_tk n (by simp only [Ck.sz] at h; omega) h2 h4)
          · rw [e]
            exact .fn (jn_tk n (by simp only [Ck.sz] at h; omega) h3 h1) (jn_tk n (by simp only [Ck.sz] at h; omega) h2 h4)
          · rw [e]
            exact .bx (jn_tk n (by simp only [Ck.sz] at h; omega) h3 h1) (jn_tk n (by simp only [Ck.sz] at h; omega) h2 h4)
        · rw [jn_give hp]
          have := jn_tk n (s := s) (t := j) (by simp only [Ck.sz] at h; omega) hs hj
          rw [← hab] at this
          exact .give ha (jn_pl hs hj hp hjp) this
        · rw [jn_fail hp, ← hab]
          exact .fail ha (by rw [hab]; exact hk)
      · rcases ht.of_any with ⟨rfl, rfl⟩ | ⟨g, l, j, rfl, hj⟩
        · rw [jn]
          exact .give ha hip hi
        · rw [jn, (hi.src ha).1]
          by_cases hg : a.gd = g
          · rw [if_pos hg]
            rw [← hg] at hj
            exact jn_tk n (by simp only [Ck.sz] at h; omega) hi hj
          · rw [if_neg hg]
            exact .fail ha (Ne.symm hg)
      · rw [jn]
        exact .fail ha hk
/-! ### the first blame -/
def fb : Ck → Gd → Option Lb
  | .fail _ l _, _ => some l
  | .take g l c, g0 => if g = g0 then fb c g0 else some l
  | _, _ => none
theorem fb_pl {c : Ck} {g0 : Gd} (h : c.pl = true) : fb c g0 = none := by cases c <;> first | rfl | cases h
theorem fb_jn : ∀ (n : Nat) {s t : Ck} {a b c : Ty} {g0 : Gd}, s.sz + t.sz ≤ n → Tk s a b → Tk t b c → (a ≠ .any → g0 = a.gd) → fb (jn s t) g0 = (fb s g0).or (fb t g0)
  | 0, s, t, a, b, c, g0, h, _, _, _ => absurd s.sz_pos (by omega)
  | n + 1, s, t, a, b, c, g0, h, hs, ht, hg0 => by
    by_cases ha : a = .any
    · subst ha
      rcases hs.of_any with ⟨rfl, rfl⟩ | ⟨g, l, i, rfl, hi⟩
      · rw [jn]; rfl
      · rw [jn]
        simp only [fb]
        by_cases hg : g = g0
        · rw [if_pos hg, if_pos hg]
          exact fb_jn n (by simp only [Ck.sz] at h; omega) hi ht fun _ => by rw [gd_gty, hg]
        · rw [if_neg hg, if_neg hg]; rfl
    · have hg := hg0 ha
      rcases hs.next ha with hp | ⟨i, rfl, rfl, hip, hi⟩ | ⟨l, k, rfl, hk⟩
      · obtain ⟨_, hb, hab⟩ := hs.plain hp
        rw [fb_pl hp]
        rcases ht.next hb with hq | ⟨j, rfl, rfl, hjp, hj⟩ | ⟨l, k, rfl, hk⟩
        · rw [fb_pl (jn_pl hs ht hp hq), fb_pl hq]; rfl
        · rw [jn_give hp]; rfl
        · rw [jn_fail hp]; rfl
      · rcases ht.of_any with ⟨rfl, rfl⟩ | ⟨g, l, j, rfl, hj⟩
        · rw [jn]; rfl
        · rw [jn, (hi.src ha).1]
          by_cases hgg : a.gd = g
          · rw [if_pos hgg]
            have hj' : Tk j (gty a.gd) c := by rw [hgg]; exact hj
            rw [fb_jn n (by simp only [Ck.sz] at h; omega) hi hj' hg0, fb_pl hip]
            show fb j g0 = fb (.take g l j) g0
            simp only [fb]
            rw [if_pos (by rw [hg, hgg])]
          · rw [if_neg hgg]
            show some l = fb (.take g l j) g0
            simp only [fb]
            rw [if_neg (by rw [hg]; exact Ne.symm hgg)]
      · rw [jn]; rfl
end Pr

end

section
set_option maxHeartbeats 4000000
namespace Pr
open PySem L2 Oz
variable {S S' : Sto} {d : Nat}
/-! ### the check of a cast -/
mutual
def chkT : Ty → Lb → Ck
  | .any, _ => .any
  | .int, l => .take .int l (.same .int)
  | .bool, l => .take .bool l (.same .bool)
  | .unit, l => .take .unit l (.same .unit)
  | .fn a b, l => .take .fn l (.fn (chkF a (tn l)) (chkT b l))
  | .pr a b, l => .take .pr l (.pr (chkT a l) (chkT b l))
  | .bx a, l => .take .bx l (.bx (chkF a (tn l)) (chkT a l))
def chkF : Ty → Lb → Ck
  | .any, _ => .any
  | .int, _ => .give (.same .int)
  | .bool, _ => .give (.same .bool)
  | .unit, _ => .give (.same .unit)
  | .fn a b, l => .give (.fn (chkT a (tn l)) (chkF b l))
  | .pr a b, l => .give (.pr (chkF a l) (chkF b l))
  | .bx a, l => .give (.bx (chkT a (tn l)) (chkF a l))
end
def chk : Ty → Ty → Lb → Ck
  | .any, b, l => chkT b l
  | a, .any, l => chkF a l
  | .int, .int, _ => .same .int
  | .bool, .bool, _ => .same .bool
  | .unit, .unit, _ => .same .unit
  | .fn a b, .fn c e, l => .fn (chk c a (tn l)) (chk b e l)
  | .pr a b, .pr c e, l => .pr (chk a c l) (chk b e l)
  | .bx a, .bx c, l => .bx (chk c a (tn l)) (chk a c l)
  | _, _, _ => .any
termination_by a b => sizeOf a + sizeOf b
decreasing_by all_goals (simp only [Ty.fn.sizeOf_spec, Ty.pr.sizeOf_spec, Ty.bx.sizeOf_spec]; omega)
theorem chk_any (a : Ty) (l : Lb) : chk a .any l = chkF a l := by cases a <;> first | (rw [chk] <;> simp) | (rw [chk]; rfl)
theorem any_chk (a : Ty) (l : Lb) : chk .any a l = chkT a l := by rw [chk]
def fits : Ty → Ty → Bool
  | .any, _ => true
  | _, .any => true
  | .int, .int => true | .bool, .bool => true | .unit, .unit => true
  | .fn a b, .fn c e => fits a c && fits b e
  | .pr a b, .pr c e => fits a c && fits b e
  | .bx a, .bx c => fits a c
  | _, _ => false
theorem fits_any (a : Ty) : fits a .any = true := by cases a <;> rfl
theorem any_fits (a : Ty) : fits .any a = true := by cases a <;> rfl
theorem fits_symm : ∀ {a b : Ty}, fits a b = true → fits b a = true
  | .any, b, _ => by cases b <;> rfl
  | .int, b, h => by cases b <;> first | rfl | cases h
  | .bool, b, h => by cases b <;> first | rfl | cases h
  | .unit, b, h => by cases b <;> first | rfl | cases h
  | .fn a b, c, h => by
    cases c <;> first | rfl | (cases h; done) | skip
    simp only [fits, Bool.and_eq_true] at h ⊢
    exact ⟨fits_symm h.1, fits_symm h.2⟩
  | .pr a b, c, h => by
    cases c <;> first | rfl | (cases h; done) | skip
    simp only [fits, Bool.and_eq_true] at h ⊢
    exact ⟨fits_symm h.1, fits_symm h.2⟩
  | .bx a, c, h => by
    cases c <;> first | rfl | (cases h; done) | skip
    simp only [fits] at h ⊢
    exact fits_symm h
theorem fits_self : ∀ a : Ty, fits a a = true
  | .any => rfl | .int => rfl | .bool => rfl | .unit => rfl
  | .fn a b => by simp [fits, fits_self a, fits_self b]
  | .pr a b => by simp [fits, fits_self a, fits_self b]
  | .bx a => by simp [fits, fits_self a]
/-- both are of one kind -/
theorem fits_gd {a b : Ty} (h : fits a b = true) (ha : a ≠ .any) (hb : b ≠ .any) : a.gd = b.gd := by
  cases a <;> cases b <;> first | rfl | exact absurd rfl ha | exact absurd rfl hb | cases h
mutual
theorem tk_T : ∀ (a : Ty) (l : Lb), Tk (chkT a l) .any a
  | .any, _ => .any
  | .int, l => .take (.same (g := .int) (.inl rfl))
  | .bool, l => .take (.same (g := .bool) (.inr (.inl rfl)))
  | .unit, l => .take (.same (g := .unit) (.inr (.inr rfl)))
  | .fn a b, l => .take (g := .fn) (.fn (tk_F a (tn l)) (tk_T b l))
  | .pr a b, l => .take (g := .pr) (.pr (tk_T a l) (tk_T b l))
  | .bx a, l => .take (g := .bx) (.bx (tk_F a (tn l)) (tk_T a l))
theorem tk_F : ∀ (a : Ty) (l : Lb), Tk (chkF a l) a .any
  | .any, _ => .any
  | .int, l => .give (by simp) rfl (.same (g := .int) (.inl rfl))
  | .bool, l => .give (by simp) rfl (.same (g := .bool) (.inr (.inl rfl)))
  | .unit, l => .give (by simp) rfl (.same (g := .unit) (.inr (.inr rfl)))
  | .fn a b, l => .give (by simp) rfl (.fn (tk_T a (tn l)) (tk_F b l))
  | .pr a b, l => .give (by simp) rfl (.pr (tk_F a l) (tk_F b l))
  | .bx a, l => .give (by simp) rfl (.bx (tk_T a (tn l)) (tk_F a l))
end
theorem chk_tk : ∀ (n : Nat) {a b : Ty} {l : Lb}, a.dep + b.dep ≤ n → fits a b = true → Tk (chk a b l) a b
  | 0, a, b, l, h, _ => absurd a.dep_pos (by omega)
  | n + 1, a, b, l, h, hf => by
    cases a with
    | any => rw [any_chk]; exact tk_T b l
    | int => cases b <;> first | exact absurd (show false = true from hf) Bool.false_ne_true | (rw [chk_any]; exact tk_F _ l) | (rw [chk]; exact .same (g := .int) (.inl rfl))
    | bool => cases b <;> first | exact absurd (show false = true from hf) Bool.false_ne_true | (rw [chk_any]; exact tk_F _ l) | (rw [chk]; exact .same (g := .bool) (.inr (.inl rfl)))
    | unit => cases b <;> first | exact absurd (show false = true from hf) Bool.false_ne_true | (rw [chk_any]; exact tk_F _ l) | (rw [chk]; exact .same (g := .unit) (.inr (.inr rfl)))
    | fn a1 a2 =>
      cases b with
      | any => rw [chk_any]; exact tk_F _ l
      | fn b1 b2 =>
        simp only [fits, Bool.and_eq_true] at hf
        simp only [Ty.dep] at h
        rw [chk]
        exact .fn (chk_tk n (by omega) (fits_symm hf.1)) (chk_tk n (by omega) hf.2)
      | _ => cases hf
    | pr a1 a2 =>
      cases b with
      | any => rw [chk_any]; exact tk_F _ l
      | pr b1 b2 =>
        simp only [fits, Bool.and_eq_true] at hf
        simp only [Ty.dep] at h
        rw [chk]
        exact .pr (chk_tk n (by omega) hf.1) (chk_tk n (by omega) hf.2)
      | _ => cases hf
    | bx a1 =>
      cases b with
      | any => rw [chk_any]; exact tk_F _ l
      | bx b1 =>
        simp only [fits] at hf
        simp only [Ty.dep] at h
        rw [chk]
        exact .bx (chk_tk n (by omega) (fits_symm hf)) (chk_tk n (by omega) hf)
      | _ => cases hf
mutual
theorem ht_T : ∀ (a : Ty) (l : Lb), (chkT a l).ht ≤ a.dep
  | .any, _ => by simp [chkT, Ck.ht, Ty.dep]
  | .int, l => by simp [chkT, Ck.ht, Ty.dep]
  | .bool, l => by simp [chkT, Ck.ht, Ty.dep]
  | .unit, l => by simp [chkT, Ck.ht, Ty.dep]
  | .fn a b, l => by
    have := ht_F a (tn l); have := ht_T b l
    simp only [chkT, Ck.ht, Ty.dep]; omega
  | .pr a b, l => by
    have := ht_T a l; have := ht_T b l
    simp only [chkT, Ck.ht, Ty.dep]; omega
  | .bx a, l => by
    have := ht_F a (tn l); have := ht_T a l
    simp only [chkT, Ck.ht, Ty.dep]; omega
theorem ht_F : ∀ (a : Ty) (l : Lb), (chkF a l).ht ≤ a.dep
  | .any, _ => by simp [chkF, Ck.ht, Ty.dep]
  | .int, l => by simp [chkF, Ck.ht, Ty.dep]
  | .bool, l => by simp [chkF, Ck.ht, Ty.dep]
  | .unit, l => by simp [chkF, Ck.ht, Ty.dep]
  | .fn a b, l => by
    have := ht_T a (tn l); have := ht_F b l
    simp only [chkF, Ck.ht, Ty.dep]; omega
  | .pr a b, l => by
    have := ht_F a l; have := ht_F b l
    simp only [chkF, Ck.ht, Ty.dep]; omega
  | .bx a, l => by
    have := ht_T a (tn l); have := ht_F a l
    simp only [chkF, Ck.ht, Ty.dep]; omega
end
theorem chk_ht : ∀ (n : Nat) {a b : Ty} {l : Lb}, a.dep + b.dep ≤ n → fits a b = true → (chk a b l).ht ≤ max a.dep b.dep
  | 0, a, b, l, h, _ => absurd a.dep_pos (by omega)
  | n + 1, a, b, l, h, hf => by
    cases a with
    | any => rw [any_chk]; have := ht_T b l; omega
    | int => cases b <;> first | exact absurd (show false = true from hf) Bool.false_ne_true | (rw [chk_any]; have := ht_F .int l; omega) | (rw [chk]; simp [Ck.ht, Ty.dep])
    | bool => cases b <;> first | exact absurd (show false = true from hf) Bool.false_ne_true | (rw [chk_any]; have := ht_F .bool l; omega) | (rw [chk]; simp [Ck.ht, Ty.dep])
    | unit => cases b <;> first | exact absurd (show false = true from hf) Bool.false_ne_true | (rw [chk_any]; have := ht_F .unit l; omega) | (rw [chk]; simp [Ck.ht, Ty.dep])
    | fn a1 a2 =>
      cases b with
      | any => rw [chk_any]; have := ht_F (.fn a1 a2) l; omega
      | fn b1 b2 =>
        simp only [fits, Bool.and_eq_true] at hf
        simp only [Ty.dep] at h
        have h1 := chk_ht n (a := b1) (b := a1) (l := tn l) (by omega) (fits_symm hf.1)
        have h2 := chk_ht n (a := a2) (b := b2) (l := l) (by omega) hf.2
        rw [chk]
        simp only [Ck.ht, Ty.dep]; omega
      | _ => cases hf
    | pr a1 a2 =>
      cases b with
      | any => rw [chk_any]; have := ht_F (.pr a1 a2) l; omega
      | pr b1 b2 =>
        simp only [fits, Bool.and_eq_true] at hf
        simp only [Ty.dep] at h
        have h1 := chk_ht n (a := a1) (b := b1) (l := l) (by omega) hf.1
        have h2 := chk_ht n (a := a2) (b := b2) (l := l) (by omega) hf.2
        rw [chk]
        simp only [Ck.ht, Ty.dep]; omega
      | _ => cases hf
    | bx a1 =>
      cases b with
      | any => rw [chk_any]; have := ht_F (.bx a1) l; omega
      | bx b1 =>
        simp only [fits] at hf
        simp only [Ty.dep] at h
        have h1 := chk_ht n (a := b1) (b := a1) (l := tn l) (by omega) (fits_symm hf)
        have h2 := chk_ht n (a := a1) (b := b1) (l := l) (by omega) hf
        rw [chk]
        simp only [Ck.ht, Ty.dep]; omega
      | _ => cases hf
theorem tk_dp {c : Ck} {a b : Ty} (h : Tk c a b) : c.dp ≤ 3 * c.ht ∧ (a ≠ .any → c.dp + 1 ≤ 3 * c.ht) ∧ (c.pl = true → c.dp + 2 ≤ 3 * c.ht) := by
  induction h with
  | any => exact ⟨by decide, fun h => absurd rfl h, fun h => by cases h⟩
  | @same g hg => exact ⟨by simp [Ck.dp, Ck.ht], fun _ => by simp [Ck.dp, Ck.ht], fun _ => by simp [Ck.dp, Ck.ht]⟩
  | fn _ _ ih1 ih2 =>
    have := ih1.1; have := ih2.1
    simp only [Ck.dp, Ck.ht]
    exact ⟨by omega, fun _ => by omega, fun _ => by omega⟩
  | pr _ _ ih1 ih2 =>
    have := ih1.1; have := ih2.1
    simp only [Ck.dp, Ck.ht]
    exact ⟨by omega, fun _ => by omega, fun _ => by omega⟩
  | bx _ _ ih1 ih2 =>
    have := ih1.1; have := ih2.1
    simp only [Ck.dp, Ck.ht]
    exact ⟨by omega, fun _ => by omega, fun _ => by omega⟩
  | give h1 h2 _ ih =>
    have := ih.2.2 h2
    simp only [Ck.dp, Ck.ht]
    exact ⟨by omega, fun _ => by omega, fun h => by cases h⟩
  | fail _ _ => exact ⟨by simp [Ck.dp, Ck.ht], fun _ => by simp [Ck.dp, Ck.ht], fun h => by cases h⟩
  | @take g l c b _ ih =>
    have := ih.2.1 (gty_ne g)
    have := c.ht_pos
    simp only [Ck.dp, Ck.ht]
    exact ⟨by omega, fun h => absurd rfl h, fun h => by cases h⟩
theorem chkT_eq {a : Ty} {l : Lb} (h : a ≠ .any) : chkT a l = .take a.gd l (chk (gty a.gd) a l) := by
  cases a with
  | any => exact absurd rfl h
  | fn a b => simp only [gty, Ty.gd]; rw [chk, chk_any, any_chk, chkT]
  | pr a b => simp only [gty, Ty.gd]; rw [chk, any_chk, any_chk, chkT]
  | bx a => simp only [gty, Ty.gd]; rw [chk, chk_any, any_chk, chkT]
  | _ => simp only [gty, Ty.gd]; rw [chk, chkT]
theorem chkF_eq {a : Ty} {l : Lb} (h : a ≠ .any) : chkF a l = .give (chk a (gty a.gd) l) := by
  cases a with
  | any => exact absurd rfl h
  | fn a b => simp only [gty, Ty.gd]; rw [chk, chk_any, any_chk, chkF]
  | pr a b => simp only [gty, Ty.gd]; rw [chk, chk_any, chk_any, chkF]
  | bx a => simp only [gty, Ty.gd]; rw [chk, chk_any, any_chk, chkF]
  | _ => simp only [gty, Ty.gd]; rw [chk, chkF]
theorem fits_gty {a : Ty} (h : a ≠ .any) : fits a (gty a.gd) = true := by
  cases a <;> first | exact absurd rfl h | rfl | simp [fits, gty, Ty.gd, fits_any]
theorem dep_gd {a : Ty} (h : a ≠ .any) : (gty a.gd).dep ≤ a.dep := by
  cases a with
  | any => exact absurd rfl h
  | fn a b => have := a.dep_pos; have := b.dep_pos; simp only [gty, Ty.gd, Ty.dep]; omega
  | pr a b => have := a.dep_pos; have := b.dep_pos; simp only [gty, Ty.gd, Ty.dep]; omega
  | bx a => have := a.dep_pos; simp only [gty, Ty.gd, Ty.dep]; omega
  | _ => exact Nat.le_refl _
end Pr

end

section
set_option maxHeartbeats 4000000
namespace Pr
open PySem L2 Oz
variable {S S' : Sto} {d : Nat}
theorem kcall_eq {f : Str} {df : Df} (h : ktbl.lookup f = some df) (d : Nat) (us : List U) (S : Sto) : (pg.cal (d + 1)).kcal f us S = df.run (pg.cal d) us S := by
  show (match ktbl.lookup f with | some df => df.run (pg.cal d) us S | none => R.bad) = _
  rw [h]
theorem sz4 : (4 ≤ sizeLine) = True := by decide
def GT : List (Str × U) := [("int", tu .int), ("bool", tu .bool), ("unit", tu .unit), ("fun", tu (.fn .any .any)), ("pair", tu (.pr .any .any)), ("box", tu (.bx .any))]
theorem g_GT (d : Nat) : (pg.cal d).gd "GROUND_TYPES" = some GT := by rw [cal_gd]; rfl
theorem gt_at (g : Gd) : GT.lookup g.nm = some (tu (gty g)) := by cases g <;> rfl
theorem g_SG (d : Nat) : (pg.cal d).glo "SAME_GROUNDS" = some (.tup [.str "int", .str "bool", .str "unit"]) := by rw [cal_glo]; rfl
theorem in_sg (g : Gd) : cmpU .in_ (.str g.nm) (.tup [.str "int", .str "bool", .str "unit"]) S = .ok (.bl (decide (g = .int ∨ g = .bool ∨ g = .unit))) S := by cases g <;> rfl
theorem gtype_eq (g : Gd) (h : 1 ≤ d) : (pg.cal d).call "ground_type" [.str g.nm] S = .ok (tu (gty g)) S := by
  obtain ⟨d, rfl⟩ : ∃ e, d = e + 1 := ⟨d - 1, by omega⟩
  rw [call_eq (df := ⟨1, 1, false, T_ground_type⟩) (by kernel_rfl), run_eq (by rfl)]
  unfold T_ground_type
  simp_arith only [ev_gd (g_GT d), gt_at]
theorem turned_eq (l : Lb) (h : 1 ≤ d) : (pg.cal d).call "turned" [lu l] S = .ok (lu (tn l)) S := by
  obtain ⟨d, rfl⟩ : ∃ e, d = e + 1 := ⟨d - 1, by omega⟩
  rw [call_eq (df := ⟨1, 3, false, T_turned⟩) (by kernel_rfl), run_eq (by rfl)]
  unfold T_turned
  simp_arith only [lu, sz2, setN, setAll]
  rfl
theorem gd_hd {a : Ty} (h : a ≠ .any) : ixU (tu a) (.int 0) S = .ok (.str a.gd.nm) S := by rw [ix_hd, hd_gd h]
theorem lst1 {a b : Ty} : ixU (tu (.fn a b)) (.int (-1)) S = .ok (tu b) S ∧ ixU (tu (.pr a b)) (.int (-1)) S = .ok (tu b) S ∧ ixU (tu (.bx a)) (.int (-1)) S = .ok (tu a) S := ⟨rfl, rfl, rfl⟩
theorem ix1 {a b : Ty} : ixU (tu (.fn a b)) (.int 1) S = .ok (tu a) S ∧ ixU (tu (.pr a b)) (.int 1) S = .ok (tu a) S ∧ ixU (tu (.bx a)) (.int 1) S = .ok (tu a) S := ⟨rfl, rfl, rfl⟩
theorem ixb {a : Ty} : ixU (tu (.bx a)) (.int 1) S = .ok (tu a) S ∧ ixU (tu (.bx a)) (.int (-1)) S = .ok (tu a) S := ⟨rfl, rfl⟩
theorem ix2 {a b : Ty} : ixU (tu (.fn a b)) (.int 2) S = .ok (tu b) S ∧ ixU (tu (.pr a b)) (.int 2) S = .ok (tu b) S := ⟨rfl, rfl⟩
theorem check_eq : ∀ (n : Nat), n ≤ 15 → (∀ (a b : Ty) (l : Lb) (d : Nat) (S : Sto), a.dep ≤ n → b.dep ≤ n → fits a b = true → a ≠ .any → b ≠ .any → 4 * n ≤ d + 1 → (pg.cal d).call "check_between" [tu a, tu b, lu l] S = .ok (cu (chk a b l)) S) ∧
    ∀ (a b : Ty) (l : Lb) (d : Nat) (S : Sto), a.dep ≤ n → b.dep ≤ n → fits a b = true → 4 * n ≤ d → (pg.cal d).call "check_between" [tu a, tu b, lu l] S = .ok (cu (chk a b l)) S
  | 0, _ => ⟨fun a b l d S h _ _ _ _ _ => absurd a.dep_pos (by omega), fun a b l d S h _ _ _ => absurd a.dep_pos (by omega)⟩
  | n + 1, hn => by
    obtain ⟨_, IH⟩ := check_eq n (by omega)
    have Q : ∀ (a b : Ty) (l : Lb) (d : Nat) (S : Sto), a.dep ≤ n + 1 → b.dep ≤ n + 1 → fits a b = true → a ≠ .any → b ≠ .any → 4 * (n + 1) ≤ d + 1 → (pg.cal d).call "check_between" [tu a, tu b, lu l] S = .ok (cu (chk a b l)) S := by
      intro a b l d S ha hb hf na nb hd
      obtain ⟨d, rfl⟩ : ∃ e, d = e + 2 := ⟨d - 2, by omega⟩
      rw [call_eq (df := ⟨3, 4, false, T_check_between⟩) (by kernel_rfl), run_eq (by rfl)]
      unfold T_check_between
      have eA : ∀ {t : Ty} {S : Sto}, t.dep ≤ n + 1 → cmpU .eq (tu t) (tu .any) S = .ok (.bl (decide (t = .any))) S := fun h => c_eq (by omega) (by decide)
      simp_arith only [ev_g (g_ANY (d + 1)), ev_g (g_SG (d + 1)), eA ha, eA hb, na, nb, decide_false, gd_hd na, gd_hd nb, in_sg]
      cases a with
      | any => exact absurd rfl na
      | int => cases b <;> first | exact absurd (show false = true from hf) Bool.false_ne_true | exact absurd rfl nb | (simp_arith only [Ty.gd, or_false, decide_true, sz2]; rw [chk]; rfl)
      | bool => cases b <;> first | exact absurd (show false = true from hf) Bool.false_ne_true | exact absurd rfl nb | (simp_arith only [Ty.gd, or_false, false_or, or_true, decide_true, sz2, reduceCtorEq]; rw [chk]; rfl)
      | unit => cases b <;> first | exact absurd (show false = true from hf) Bool.false_ne_true | exact absurd rfl nb | (simp_arith only [Ty.gd, or_false, false_or, or_true, decide_true, sz2, reduceCtorEq]; rw [chk]; rfl)
      | fn a1 a2 =>
        cases b with
        | fn b1 b2 =>
          simp only [fits, Bool.and_eq_true] at hf
          simp only [Ty.dep] at ha hb
          simp_arith only [gd_hd na, Ty.gd, or_false, decide_false, reduceCtorEq, Gd.nm, ix1, lst1, turned_eq, Nat.le_add_left, IH b1 a1 (tn l) (d + 1) _ (by omega) (by omega) (fits_symm hf.1) (by omega), IH a2 b2 l (d + 1) _ (by omega) (by omega) hf.2 (by omega), sz3]
          rw [chk]; rfl
        | _ => first | exact absurd (show false = true from hf) Bool.false_ne_true | exact absurd rfl nb
      | pr a1 a2 =>
        cases b with
        | pr b1 b2 =>
          simp only [fits, Bool.and_eq_true] at hf
          simp only [Ty.dep] at ha hb
          have eE : ∀ {t u : Ty} {S : Sto}, t.dep ≤ n → u.dep ≤ n → cmpU .eq (tu t) (tu u) S = .ok (.bl (decide (t = u))) S := fun h h' => c_eq (by omega) (by omega)
          have e1 : (pg.cal (d + 1)).call "check_between_pairs" [tu (.pr a1 a2), tu (.pr b1 b2), lu l] S = .ok (cu (chk (.pr a1 a2) (.pr b1 b2) l)) S := by
            rw [call_eq (df := ⟨3, 4, false, T_check_between_pairs⟩) (by kernel_rfl), run_eq (by rfl)]
            unfold T_check_between_pairs
            simp_arith only [ix1, ix2, IH a1 b1 l d _ (by omega) (by omega) hf.1 (by omega), eE (show a1.dep ≤ n by omega) (show a2.dep ≤ n by omega), eE (show b1.dep ≤ n by omega) (show b2.dep ≤ n by omega), IH a2 b2 l d _ (by omega) (by omega) hf.2 (by omega), sz3]
            rw [chk]
            by_cases h1 : a1 = a2
            · subst h1
              by_cases h2 : b1 = b2
              · subst h2
                simp_arith only [decide_true, sz3]
                rfl
              · simp_arith only [decide_true, h2, decide_false, ix2, sz3, IH a1 b2 l d _ (show a1.dep ≤ n by omega) (show b2.dep ≤ n by omega) hf.2 (by omega)]
                rfl
            · simp_arith only [h1, decide_false, ix2, sz3, IH a2 b2 l d _ (show a2.dep ≤ n by omega) (show b2.dep ≤ n by omega) hf.2 (by omega)]
              rfl
          simp_arith only [gd_hd na, Ty.gd, or_false, decide_false, reduceCtorEq, Gd.nm, decide_true, e1]
        | _ => first | exact absurd (show false = true from hf) Bool.false_ne_true | exact absurd rfl nb
      | bx a1 =>
        cases b with
        | bx b1 =>
          simp only [fits] at hf
          simp only [Ty.dep] at ha hb
          simp_arith only [gd_hd na, Ty.gd, or_false, decide_false, reduceCtorEq, Gd.nm, ixb, turned_eq, Nat.le_add_left, IH b1 a1 (tn l) (d + 1) _ (by omega) (by omega) (fits_symm hf) (by omega), IH a1 b1 l (d + 1) _ (by omega) (by omega) hf (by omega), sz3]
          rw [chk]; rfl
        | _ => first | exact absurd (show false = true from hf) Bool.false_ne_true | exact absurd rfl nb
    refine ⟨Q, fun a b l d S ha hb hf hd => ?_⟩
    by_cases na : a = .any
    · by_cases nb : b = .any
      · subst na nb
        obtain ⟨d, rfl⟩ : ∃ e, d = e + 1 := ⟨d - 1, by omega⟩
        rw [call_eq (df := ⟨3, 4, false, T_check_between⟩) (by kernel_rfl), run_eq (by rfl)]
        unfold T_check_between
        have eA : ∀ {t : Ty} {S : Sto}, t.dep ≤ n + 1 → cmpU .eq (tu t) (tu .any) S = .ok (.bl (decide (t = .any))) S := fun h => c_eq (by omega) (by decide)
        simp_arith only [ev_g (g_ANY d), eA ha, decide_true, sz1]
        rw [chk, chkT]; rfl
      · subst na
        obtain ⟨d, rfl⟩ : ∃ e, d = e + 1 := ⟨d - 1, by omega⟩
        rw [call_eq (df := ⟨3, 4, false, T_check_between⟩) (by kernel_rfl), run_eq (by rfl)]
        unfold T_check_between
        have eA : ∀ {t : Ty} {S : Sto}, t.dep ≤ n + 1 → cmpU .eq (tu t) (tu .any) S = .ok (.bl (decide (t = .any))) S := fun h => c_eq (by omega) (by decide)
        have hg := dep_gd nb
        have q := Q (gty b.gd) b l d S (by omega) hb (fits_symm (fits_gty nb)) (gty_ne _) nb (by omega)
        simp_arith only [ev_g (g_ANY d), eA ha, eA hb, decide_true, decide_false, nb, gd_hd nb, gtype_eq b.gd (show 1 ≤ d by omega), q, sz4]
        rw [any_chk, chkT_eq nb]; rfl
    · by_cases nb : b = .any
      · subst nb
        obtain ⟨d, rfl⟩ : ∃ e, d = e + 1 := ⟨d - 1, by omega⟩
        rw [call_eq (df := ⟨3, 4, false, T_check_between⟩) (by kernel_rfl), run_eq (by rfl)]
        unfold T_check_between
        have eA : ∀ {t : Ty} {S : Sto}, t.dep ≤ n + 1 → cmpU .eq (tu t) (tu .any) S = .ok (.bl (decide (t = .any))) S := fun h => c_eq (by omega) (by decide)
        have hg := dep_gd na
        have q := Q a (gty a.gd) l d S ha (by omega) (fits_gty na) na (gty_ne _) (by omega)
        simp_arith only [ev_g (g_ANY d), eA ha, eA hb, decide_true, decide_false, na, gd_hd na, gtype_eq a.gd (show 1 ≤ d by omega), q, sz2]
        rw [chk_any, chkF_eq na]; rfl
      · exact Q a b l d S ha hb hf na nb (by omega)
theorem check_of_eq {a b : Ty} {k s : Int} (ha : a.dep ≤ 8) (hb : b.dep ≤ 8) (hf : fits a b = true) (h : 34 ≤ d) : (pg.cal d).kcal "check_of" [tu a, tu b, .int k, .int s] S = .ok (cu (chk a b (k, s))) S := by
  obtain ⟨d, rfl⟩ : ∃ e, d = e + 1 := ⟨d - 1, by omega⟩
  rw [kcall_eq (df := ⟨4, 4, false, T_check_of⟩) (by kernel_rfl), run_eq (by rfl)]
  unfold T_check_of
  have q := (check_eq 8 (by omega)).2 a b (k, s) d S ha hb hf (by omega)
  unfold lu at q
  simp_arith only [sz2, q]
end Pr

end

section
set_option maxHeartbeats 4000000
namespace Pr
open PySem L2 Oz
variable {S S' : Sto} {d : Nat}
theorem sground_eq {c : Ck} (h : c.pl = true) (hd : 1 ≤ d) : (pg.cal d).call "source_ground" [cu c] S = .ok (.str c.sg.nm) S := by
  obtain ⟨d, rfl⟩ : ∃ e, d = e + 1 := ⟨d - 1, by omega⟩
  rw [call_eq (df := ⟨1, 1, false, T_source_ground⟩) (by kernel_rfl), run_eq (by rfl)]
  have in1 : cmpU .in_ (.str "same") (.tup [.str "same", .str "fail"]) S = .ok (.bl true) S := by kernel_rfl
  have in2 : cmpU .in_ (.str "fun") (.tup [.str "same", .str "fail"]) S = .ok (.bl false) S := by kernel_rfl
  have in3 : cmpU .in_ (.str "pair") (.tup [.str "same", .str "fail"]) S = .ok (.bl false) S := by kernel_rfl
  have in4 : cmpU .in_ (.str "box") (.tup [.str "same", .str "fail"]) S = .ok (.bl false) S := by kernel_rfl
  have i1 : ∀ g : Gd, ixU (cu (.same g)) (.int 1) S = .ok (.str g.nm) S := fun g => rfl
  unfold T_source_ground
  cases c with
  | same g => simp_arith only [ixc_hd, Ck.hd, decide_false, decide_true, sz2, in1, i1, Ck.sg]
  | fn s t => simp_arith only [ixc_hd, Ck.hd, decide_false, decide_true, sz2, in2, Ck.sg, Gd.nm]
  | pr s t => simp_arith only [ixc_hd, Ck.hd, decide_false, decide_true, sz2, in3, Ck.sg, Gd.nm]
  | bx s t => simp_arith only [ixc_hd, Ck.hd, decide_false, decide_true, sz2, in4, Ck.sg, Gd.nm]
  | _ => cases h
theorem go_mtch {Φ : Cal} {env env' : Oz.Env} {e : E} {cs : Cs} {sts : Sts} {u : U} {S1 S2 : Sto} (h : ev Φ e env S = .ok u S1) (h' : exc Φ cs u env S1 = .nx env' S2) : exs Φ (.cons (.mtch e cs) sts) env S = exs Φ sts env' S2 := by
  rw [exs_cons, ex_mtch, h, on_ok, h', then_nx]
theorem cix (s t : Ck) : ixU (cu (.fn s t)) (.int 1) S = .ok (cu s) S ∧ ixU (cu (.fn s t)) (.int 2) S = .ok (cu t) S ∧ ixU (cu (.pr s t)) (.int 1) S = .ok (cu s) S ∧ ixU (cu (.pr s t)) (.int 2) S = .ok (cu t) S ∧ ixU (cu (.bx s t)) (.int 1) S = .ok (cu s) S ∧ ixU (cu (.bx s t)) (.int 2) S = .ok (cu t) S := ⟨rfl, rfl, rfl, rfl, rfl, rfl⟩
theorem c_eq_any {c : Ck} (h : c.dp ≤ 50) : cmpU .eq (cu c) (.tup [.str "any"]) S = .ok (.bl (decide (c = .any))) S := cc_eq (b := .any) h (by decide)
end Pr

end

section
set_option maxHeartbeats 4000000
namespace Oz
open PySem L2
section
variable {Φ : Cal} {env : Env} {e : E} {es : Es} {t : T} {sts body a b : Sts} {st cl i : Nat} {f : Str} {P Q : U → Prop} {us : List U} {S S' : Sto} {k : Bool}
/-- a call whose arguments are at hand -/
theorem Dr.callp (h : ∀ S, evs Φ es env S = .ok us S) (hc : Dc Φ st cl f us P) : Dr Φ st cl (.call f es) env P := Dr.call (Drs.pure h hc)
theorem Dc.imp (h : Dc Φ st cl f us P) (hi : ∀ u, P u → Q u) : Dc Φ st cl f us Q := fun S hs => by
  obtain ⟨u, S', e, p, r⟩ := h S hs
  exact ⟨u, S', e, hi u p, r⟩
theorem go_if {k : Bool} (h : evt Φ t env S = .ok k S') : exs Φ (.cons (.if_ t a b) sts) env S = (exs Φ (if k then a else b) env S').then_ fun env S => exs Φ sts env S := by
  rw [exs_cons, ex_if, h, on_ok]
  cases k <;> rfl
theorem go_ex {u : U} (h : ev Φ e env S = .ok u S') : exs Φ (.cons (.ex e) sts) env S = exs Φ sts env S' := by
  rw [exs_cons, ex_ex, h, on_ok, then_nx]
end
end Oz
namespace Pr
open PySem L2 Oz
variable {S S' : Sto} {d st cl : Nat}
/-! ### draws -/
def PI (m : Int) (u : U) : Prop := ∃ v : Int, u = .int v ∧ 0 ≤ v ∧ v < m
def PT (m : Nat) (u : U) : Prop := ∃ t : Ty, u = tu t ∧ t.dep ≤ m
def PF (a : Ty) (m : Nat) (u : U) : Prop := ∃ t : Ty, u = tu t ∧ t.dep ≤ m ∧ fits a t = true
theorem tk_of {m : Int} (h0 : 0 < m) (h1 : m < 1000001) (hd : 1 ≤ d) : Dc (pg.cal d) st cl "_law_take" [.loc st, .int m] (PI m) := fun S hs => by
  obtain ⟨d, rfl⟩ : ∃ e, d = e + 1 := ⟨d - 1, by omega⟩
  obtain ⟨v, S', e, a, b, c, f⟩ := takes_eq (d := d) hs h0 h1
  exact ⟨.int v, S', e, ⟨v, rfl, a, b⟩, c, f⟩
theorem six {v : Int} (h0 : 0 ≤ v) : ∃ t : Ty, t.dep ≤ 1 ∧ atI [tu .int, tu .any, tu .bool, tu .int, tu .unit, tu .any] (v % 6) = some (tu t) := by
  have h1 := Int.emod_nonneg v (show (6 : Int) ≠ 0 by decide)
  have h2 := Int.emod_lt_of_pos v (show (0 : Int) < 6 by decide)
  obtain ⟨k, hk⟩ : ∃ k : Nat, v % 6 = k := ⟨(v % 6).toNat, by omega⟩
  rw [hk]
  have hk6 : k < 6 := by omega
  have h6 : ∀ k : Fin 6, ∃ t : Ty, t.dep ≤ 1 ∧ [tu .int, tu .any, tu .bool, tu .int, tu .unit, tu .any][k.val]? = some (tu t) := by
    intro k
    match k with
    | ⟨0, _⟩ => exact ⟨.int, by decide, rfl⟩
    | ⟨1, _⟩ => exact ⟨.any, by decide, rfl⟩
    | ⟨2, _⟩ => exact ⟨.bool, by decide, rfl⟩
    | ⟨3, _⟩ => exact ⟨.int, by decide, rfl⟩
    | ⟨4, _⟩ => exact ⟨.unit, by decide, rfl⟩
    | ⟨5, _⟩ => exact ⟨.any, by decide, rfl⟩
  obtain ⟨t, a, b⟩ := h6 ⟨k, hk6⟩
  exact ⟨t, a, atI_nat_own b⟩
theorem and2 {Φ : Cal} {env : Oz.Env} {a b : E} {p q : Bool} (h1 : ∀ S, evt Φ (.e a) env S = .ok p S) (h2 : ∀ S, evt Φ (.e b) env S = .ok q S) (S : Sto) : evt Φ (.and (.e a) (.e b)) env S = .ok (p && q) S := by
  rw [evt_and, h1, bind_ok]
  cases p
  · rfl
  · rw [if_pos rfl, h2]; rfl
theorem ltype_eq : ∀ (n : Nat) (i : Int) (d : Nat), i.toNat ≤ n → n + 2 ≤ d → Dc (pg.cal d) st cl "_law_type" [.loc st, .int i] (PT (i.toNat + 1)) := by
  intro n
  induction n with
  | zero =>
    intro i d hi hd
    obtain ⟨d, rfl⟩ : ∃ e, d = e + 1 := ⟨d - 1, by omega⟩
    refine Dc.of (Φ := pg.cal d) (b := T__law_type) (env := [some (.loc st), some (.int i), none]) (fun S => by rw [call_eq (df := ⟨2, 3, false, T__law_type⟩) (by kernel_rfl), run_eq (by rfl)]; rfl) ?_
    unfold T__law_type
    refine Sx.set (Dr.callp (fun S => rfl) (tk_of (m := 9) (by decide) (by decide) (by omega))) fun u ⟨k, hu, k0, k9⟩ => ?_
    subst hu
    have hg : ¬ (0 < i) := by omega
    have ht : ∀ (x : Int) (S : Sto), evt (pg.cal d) (.and (.e (.cmp .gt (.v 1) (.k (.int 0)))) (.e (.cmp .eq (.v 2) (.k (.int x))))) [some (.loc st), some (.int i), some (.int k)] S = .ok false S := fun x S => by
      rw [and2 (p := false) (q := decide (k = x)) (fun S => by simp_arith only [hg, decide_false]) (fun S => by simp_arith only [true_and])]; rfl
    refine Sx.ifs (ht 0) (fun h => by cases h) fun _ => Sx.ifs (ht 1) (fun h => by cases h) fun _ => Sx.ifs (ht 2) (fun h => by cases h) fun _ => ?_
    obtain ⟨t, hd1, ha⟩ := six k0
    refine Sx.ret (Dr.pick (fun S hs => ⟨_, S, rfl, ⟨by decide, Dr.pure (u := .int (k % 6)) (fun S => by simp_arith only [mod_int (show (0 : Int) < 6 by decide)]) ⟨_, tu t, rfl, ha, t, rfl, by omega⟩⟩, hs, F2.refl⟩))
  | succ n ih =>
    intro i d hi hd
    obtain ⟨d, rfl⟩ : ∃ e, d = e + 1 := ⟨d - 1, by omega⟩
    refine Dc.of (Φ := pg.cal d) (b := T__law_type) (env := [some (.loc st), some (.int i), none]) (fun S => by rw [call_eq (df := ⟨2, 3, false, T__law_type⟩) (by kernel_rfl), run_eq (by rfl)]; rfl) ?_
    unfold T__law_type
    refine Sx.set (Dr.callp (fun S => rfl) (tk_of (m := 9) (by decide) (by decide) (by omega))) fun u ⟨k, hu, k0, k9⟩ => ?_
    subst hu
    have ht : ∀ (x : Int) (S : Sto), evt (pg.cal d) (.and (.e (.cmp .gt (.v 1) (.k (.int 0)))) (.e (.cmp .eq (.v 2) (.k (.int x))))) [some (.loc st), some (.int i), some (.int k)] S = .ok (decide (0 < i) && decide (k = x)) S := fun x S => by
      rw [and2 (p := decide (0 < i)) (q := decide (k = x)) (fun S => by simp_arith only [true_and]) (fun S => by simp_arith only [true_and])]
    have IH : 0 < i → Dc (pg.cal d) st cl "_law_type" [.loc st, .int (i - 1)] (PT i.toNat) := fun h => (ih (i - 1) d (by omega) (by omega)).imp fun u ⟨t, a, b⟩ => ⟨t, a, by omega⟩
    refine Sx.ifs (ht 0) (fun h => ?_) fun _ => Sx.ifs (ht 1) (fun h => ?_) fun _ => Sx.ifs (ht 2) (fun h => ?_) fun _ => ?_
    · simp only [Bool.and_eq_true, decide_eq_true_eq] at h
      refine Sx.ret (Dr.tup (Drs.cons (Dr.con (P := fun u => u = .str "fun") rfl) fun u1 h1 => Drs.cons (Dr.callp (fun S => rfl) (IH h.1)) fun u2 ⟨t1, e1, b1⟩ => Drs.cons (Dr.callp (fun S => rfl) (IH h.1)) fun u3 ⟨t2, e2, b2⟩ => Drs.nil ⟨(by decide : 3 ≤ sizeLine), .fn t1 t2, by rw [h1, e1, e2]; rfl, by simp only [Ty.dep]; omega⟩))
    · simp only [Bool.and_eq_true, decide_eq_true_eq] at h
      refine Sx.ret (Dr.tup (Drs.cons (Dr.con (P := fun u => u = .str "pair") rfl) fun u1 h1 => Drs.cons (Dr.callp (fun S => rfl) (IH h.1)) fun u2 ⟨t1, e1, b1⟩ => Drs.cons (Dr.callp (fun S => rfl) (IH h.1)) fun u3 ⟨t2, e2, b2⟩ => Drs.nil ⟨(by decide : 3 ≤ sizeLine), .pr t1 t2, by rw [h1, e1, e2]; rfl, by simp only [Ty.dep]; omega⟩))
    · simp only [Bool.and_eq_true, decide_eq_true_eq] at h
      refine Sx.ret (Dr.tup (Drs.cons (Dr.con (P := fun u => u = .str "box") rfl) fun u1 h1 => Drs.cons (Dr.callp (fun S => rfl) (IH h.1)) fun u2 ⟨t1, e1, b1⟩ => Drs.nil ⟨(by decide : 2 ≤ sizeLine), .bx t1, by rw [h1, e1]; rfl, by simp only [Ty.dep]; omega⟩))
    · obtain ⟨t, hd1, ha⟩ := six k0
      refine Sx.ret (Dr.pick (fun S hs => ⟨_, S, rfl, ⟨by decide, Dr.pure (u := .int (k % 6)) (fun S => by simp_arith only [mod_int (show (0 : Int) < 6 by decide)]) ⟨_, tu t, rfl, ha, t, rfl, by omega⟩⟩, hs, F2.refl⟩))
theorem lground_eq (g : Gd) (h : 1 ≤ d) : (pg.cal d).call "_law_ground_type" [.str g.nm] S = .ok (tu (gty g)) S := by
  obtain ⟨d, rfl⟩ : ∃ e, d = e + 1 := ⟨d - 1, by omega⟩
  rw [call_eq (df := ⟨1, 1, false, T__law_ground_type⟩) (by kernel_rfl), run_eq (by rfl)]
  cases g <;> kernel_rfl
theorem ixt_hd {a : Ty} : ixU (tu a) (.int 0) S = .ok (.str a.hd) S := ix_hd a
theorem lpartner_eq : ∀ (n : Nat) (a : Ty) (i : Int) (d : Nat), a.dep ≤ n → i ≤ 2 → n + 6 ≤ d → Dc (pg.cal d) st cl "_law_partner" [.loc st, tu a, .int i] (PF a (max a.dep (i.toNat + 1))) := by
  intro n
  induction n with
  | zero => intro a i d h _ _; exact absurd a.dep_pos (by omega)
  | succ n ih =>
    intro a i d ha hi hd
    obtain ⟨d, rfl⟩ : ∃ e, d = e + 1 := ⟨d - 1, by omega⟩
    refine Dc.of (Φ := pg.cal d) (b := T__law_partner) (env := [some (.loc st), some (tu a), some (.int i), none]) (fun S => by rw [call_eq (df := ⟨3, 4, false, T__law_partner⟩) (by kernel_rfl), run_eq (by rfl)]; rfl) ?_
    unfold T__law_partner
    refine Sx.set (Dr.callp (fun S => rfl) (tk_of (m := 4) (by decide) (by decide) (by omega))) fun u ⟨k, hu, k0, k9⟩ => ?_
    subst hu
    refine Sx.ifs (k := decide (k = 0)) (fun S => by simp_arith only [true_and]) (fun h => Sx.ret (Dr.pure (u := tu .any) (fun S => rfl) ⟨.any, rfl, by simp only [Ty.dep]; omega, fits_any a⟩)) fun _ => ?_
    refine Sx.ifs (k := decide (a = .any)) (fun S => by simp_arith only [ix_hd, show (("any" : Str)) = Ty.any.hd from rfl, Ty.hd_kd]; cases a <;> rfl) (fun h => ?_) fun h => ?_
    · simp only [decide_eq_true_eq] at h
      subst h
      exact Sx.ret (Dr.callp (fun S => rfl) ((ltype_eq i.toNat i d (Nat.le_refl _) (by omega)).imp fun u ⟨t, e, b⟩ => ⟨t, e, by omega, any_fits t⟩))
    · simp only [decide_eq_false_iff_not] at h
      have hIH : ∀ b : Ty, b.dep ≤ n → Dc (pg.cal d) st cl "_law_partner" [.loc st, tu b, .int (i - 1)] (PF b (max b.dep ((i - 1).toNat + 1))) := fun b hb => ih b (i - 1) d hb (by omega) (by omega)
      cases a with
      | any => exact absurd rfl h
      | fn x y =>
        simp only [Ty.dep] at ha
        have px := x.dep_pos
        refine Sx.ifs (k := true) (fun S => by simp_arith only [ix_hd, Ty.hd, decide_true]) (fun _ => ?_) (fun h => by cases h)
        refine Sx.ret (Dr.tup (Drs.cons (Dr.pure (P := fun u => u = .str "fun") (u := .str "fun") (fun S => by simp_arith only [ix_hd, Ty.hd]) rfl) fun u1 h1 => Drs.cons (Dr.callp (us := [.loc st, tu x, .int (i - 1)]) (fun S => by simp_arith only [ix1]) (hIH x (by omega))) fun u2 ⟨t1, e1, b1, f1⟩ => Drs.cons (Dr.callp (us := [.loc st, tu y, .int (i - 1)]) (fun S => by simp_arith only [ix2]) (hIH y (by omega))) fun u3 ⟨t2, e2, b2, f2⟩ => Drs.nil ⟨(by decide : 3 ≤ sizeLine), .fn t1 t2, by rw [h1, e1, e2]; rfl, by simp only [Ty.dep]; omega, by simp [fits, f1, f2]⟩))
      | pr x y =>
        simp only [Ty.dep] at ha
        have px := x.dep_pos
        refine Sx.ifs (k := true) (fun S => by simp_arith only [ix_hd, Ty.hd, decide_true, decide_false]) (fun _ => ?_) (fun h => by cases h)
        refine Sx.ret (Dr.tup (Drs.cons (Dr.pure (P := fun u => u = .str "pair") (u := .str "pair") (fun S => by simp_arith only [ix_hd, Ty.hd]) rfl) fun u1 h1 => Drs.cons (Dr.callp (us := [.loc st, tu x, .int (i - 1)]) (fun S => by simp_arith only [ix1]) (hIH x (by omega))) fun u2 ⟨t1, e1, b1, f1⟩ => Drs.cons (Dr.callp (us := [.loc st, tu y, .int (i - 1)]) (fun S => by simp_arith only [ix2]) (hIH y (by omega))) fun u3 ⟨t2, e2, b2, f2⟩ => Drs.nil ⟨(by decide : 3 ≤ sizeLine), .pr t1 t2, by rw [h1, e1, e2]; rfl, by simp only [Ty.dep]; omega, by simp [fits, f1, f2]⟩))
      | bx x =>
        simp only [Ty.dep] at ha
        have px := x.dep_pos
        refine Sx.ifs (k := false) (fun S => by simp_arith only [ix_hd, Ty.hd, decide_false]) (fun h => by cases h) fun _ => ?_
        refine Sx.ifs (k := true) (fun S => by simp_arith only [ix_hd, Ty.hd, decide_true]) (fun _ => ?_) (fun h => by cases h)
        refine Sx.ret (Dr.tup (Drs.cons (Dr.con (P := fun u => u = .str "box") rfl) fun u1 h1 => Drs.cons (Dr.callp (us := [.loc st, tu x, .int (i - 1)]) (fun S => by simp_arith only [ixb]) (hIH x (by omega))) fun u2 ⟨t1, e1, b1, f1⟩ => Drs.nil ⟨(by decide : 2 ≤ sizeLine), .bx t1, by rw [h1, e1]; rfl, by simp only [Ty.dep]; omega, by simp [fits, f1]⟩))
      | int =>
        refine Sx.ifs (k := false) (fun S => by simp_arith only [ix_hd, Ty.hd, decide_false]) (fun h => by cases h) fun _ => Sx.ifs (k := false) (fun S => by simp_arith only [ix_hd, Ty.hd, decide_false]) (fun h => by cases h) fun _ => ?_
        exact Sx.ret (Dr.var rfl ⟨.int, rfl, by simp only [Ty.dep]; omega, rfl⟩)
      | bool =>
        refine Sx.ifs (k := false) (fun S => by simp_arith only [ix_hd, Ty.hd, decide_false]) (fun h => by cases h) fun _ => Sx.ifs (k := false) (fun S => by simp_arith only [ix_hd, Ty.hd, decide_false]) (fun h => by cases h) fun _ => ?_
        exact Sx.ret (Dr.var rfl ⟨.bool, rfl, by simp only [Ty.dep]; omega, rfl⟩)
      | unit =>
        refine Sx.ifs (k := false) (fun S => by simp_arith only [ix_hd, Ty.hd, decide_false]) (fun h => by cases h) fun _ => Sx.ifs (k := false) (fun S => by simp_arith only [ix_hd, Ty.hd, decide_false]) (fun h => by cases h) fun _ => ?_
        exact Sx.ret (Dr.var rfl ⟨.unit, rfl, by simp only [Ty.dep]; omega, rfl⟩)
end Pr

end

section
set_option maxHeartbeats 4000000
namespace Pr
open PySem L2 Oz
variable {S S' : Sto} {d : Nat}
/-! ### the law's check of a cast -/
theorem len_ty (a b : Ty) : bfU .len [tu .int] S = .ok (.int 1) S ∧ bfU .len [tu .bool] S = .ok (.int 1) S ∧ bfU .len [tu .unit] S = .ok (.int 1) S ∧ bfU .len [tu (.fn a b)] S = .ok (.int 3) S ∧ bfU .len [tu (.pr a b)] S = .ok (.int 3) S ∧ bfU .len [tu (.bx a)] S = .ok (.int 2) S := ⟨rfl, rfl, rfl, rfl, rfl, rfl⟩
theorem lcheck_eq : ∀ (n : Nat), n ≤ 15 → (∀ (a b : Ty) (l : Lb) (d : Nat) (S : Sto), a.dep ≤ n → b.dep ≤ n → fits a b = true → a ≠ .any → b ≠ .any → 2 * n ≤ d + 1 → (pg.cal d).call "_law_check" [tu a, tu b, .int l.1, .int l.2] S = .ok (cu (chk a b l)) S) ∧
    ∀ (a b : Ty) (l : Lb) (d : Nat) (S : Sto), a.dep ≤ n → b.dep ≤ n → fits a b = true → 2 * n ≤ d → (pg.cal d).call "_law_check" [tu a, tu b, .int l.1, .int l.2] S = .ok (cu (chk a b l)) S
  | 0, _ => ⟨fun a b l d S h _ _ _ _ _ => absurd a.dep_pos (by omega), fun a b l d S h _ _ _ => absurd a.dep_pos (by omega)⟩
  | n + 1, hn => by
    obtain ⟨_, IH⟩ := lcheck_eq n (by omega)
    have Q : ∀ (a b : Ty) (l : Lb) (d : Nat) (S : Sto), a.dep ≤ n + 1 → b.dep ≤ n + 1 → fits a b = true → a ≠ .any → b ≠ .any → 2 * (n + 1) ≤ d + 1 → (pg.cal d).call "_law_check" [tu a, tu b, .int l.1, .int l.2] S = .ok (cu (chk a b l)) S := by
      intro a b l d S ha hb hf na nb hd
      obtain ⟨d, rfl⟩ : ∃ e, d = e + 1 := ⟨d - 1, by omega⟩
      rw [call_eq (df := ⟨4, 6, false, T__law_check⟩) (by kernel_rfl), run_eq (by rfl)]
      unfold T__law_check
      have IH' : ∀ (a b : Ty) (x y : Int) (S : Sto), a.dep ≤ n → b.dep ≤ n → fits a b = true → (pg.cal d).call "_law_check" [tu a, tu b, .int x, .int y] S = .ok (cu (chk a b (x, y))) S := fun a b x y S h1 h2 h3 => IH a b (x, y) d S h1 h2 h3 (by omega)
      cases a with
      | any => exact absurd rfl na
      | int => cases b <;> first | exact absurd (show false = true from hf) Bool.false_ne_true | exact absurd rfl nb | (simp_arith only [ix_hd, Ty.hd, decide_false, decide_true, len_ty .any .any, sz2]; rw [chk]; rfl)
      | bool => cases b <;> first | exact absurd (show false = true from hf) Bool.false_ne_true | exact absurd rfl nb | (simp_arith only [ix_hd, Ty.hd, decide_false, decide_true, len_ty .any .any, sz2]; rw [chk]; rfl)
      | unit => cases b <;> first | exact absurd (show false = true from hf) Bool.false_ne_true | exact absurd rfl nb | (simp_arith only [ix_hd, Ty.hd, decide_false, decide_true, len_ty .any .any, sz2]; rw [chk]; rfl)
      | fn a1 a2 =>
        cases b with
        | fn b1 b2 =>
          simp only [fits, Bool.and_eq_true] at hf
          simp only [Ty.dep] at ha hb
          simp_arith only [ix_hd, Ty.hd, decide_false, decide_true, len_ty a1 a2, Int.reduceEq, Int.reduceSub, ix1, ix2, IH' a2 b2 _ _ _ (by omega) (by omega) hf.2, IH' b1 a1 _ _ _ (by omega) (by omega) (fits_symm hf.1), sz3]
          rw [chk]; rfl
        | _ => first | exact absurd (show false = true from hf) Bool.false_ne_true | exact absurd rfl nb
      | pr a1 a2 =>
        cases b with
        | pr b1 b2 =>
          simp only [fits, Bool.and_eq_true] at hf
          simp only [Ty.dep] at ha hb
          simp_arith only [ix_hd, Ty.hd, decide_false, decide_true, len_ty a1 a2, Int.reduceEq, Int.reduceSub, ix1, ix2, IH' a2 b2 _ _ _ (by omega) (by omega) hf.2, IH' a1 b1 _ _ _ (by omega) (by omega) hf.1, sz3]
          rw [chk]; rfl
        | _ => first | exact absurd (show false = true from hf) Bool.false_ne_true | exact absurd rfl nb
      | bx a1 =>
        cases b with
        | bx b1 =>
          simp only [fits] at hf
          simp only [Ty.dep] at ha hb
          simp_arith only [ix_hd, Ty.hd, decide_false, decide_true, len_ty a1 a1, Int.reduceEq, Int.reduceSub, ixb, IH' a1 b1 _ _ _ (by omega) (by omega) hf, IH' b1 a1 _ _ _ (by omega) (by omega) (fits_symm hf), sz3]
          rw [chk]; rfl
        | _ => first | exact absurd (show false = true from hf) Bool.false_ne_true | exact absurd rfl nb
    refine ⟨Q, fun a b l d S ha hb hf hd => ?_⟩
    obtain ⟨d, rfl⟩ : ∃ e, d = e + 1 := ⟨d - 1, by omega⟩
    by_cases na : a = .any
    · by_cases nb : b = .any
      · subst na nb
        rw [call_eq (df := ⟨4, 6, false, T__law_check⟩) (by kernel_rfl), run_eq (by rfl)]
        unfold T__law_check
        simp_arith only [ix_hd, Ty.hd, decide_true, sz1]
        rw [chk, chkT]; rfl
      · subst na
        rw [call_eq (df := ⟨4, 6, false, T__law_check⟩) (by kernel_rfl), run_eq (by rfl)]
        unfold T__law_check
        have hg := dep_gd nb
        have q := Q (gty b.gd) b l d S (by omega) hb (fits_symm (fits_gty nb)) (gty_ne _) nb (by omega)
        simp_arith only [ix_hd, show Ty.any.hd = ("any" : Str) from rfl, hd_gd nb, nm_any, decide_true, decide_false, lground_eq b.gd (show 1 ≤ d by omega), q, sz2, sz4]
        rw [any_chk, chkT_eq nb]; rfl
    · by_cases nb : b = .any
      · subst nb
        rw [call_eq (df := ⟨4, 6, false, T__law_check⟩) (by kernel_rfl), run_eq (by rfl)]
        unfold T__law_check
        have hg := dep_gd na
        have q := Q a (gty a.gd) l d S ha (by omega) (fits_gty na) na (gty_ne _) (by omega)
        simp_arith only [ix_hd, show Ty.any.hd = ("any" : Str) from rfl, hd_gd na, nm_any, decide_true, decide_false, lground_eq a.gd (show 1 ≤ d by omega), q, sz2]
        rw [chk_any, chkF_eq na]; rfl
      · exact Q a b l (d + 1) S ha hb hf na nb (by omega)
end Pr

end

section
set_option maxHeartbeats 4000000
namespace Oz
open PySem PySem.Spec PyProof.Rows L2
section
variable {S S' S0 : Sto} {tp : Bool} {is : List Nat} {env : Env} {n m : Nat} {Φ : Cal} {elt it : E} {t : T} {α : Type} {l : List α} {fu : α → U}
theorem lcJ_filS {α : Type} {fu : α → U} {c : Env → Sto → R Bool} {f : Env → Sto → R U} {st : Sto → Bool} {Inv : Sto → Prop} {b : α → Bool} {g : α → U} (hi : ∀ S x, Inv S → Inv (S.set n (.lst x))) (hst : ∀ S, Inv S → st S = true) : ∀ {us : List α} {S : Sto} {acc : List U}
    (hf : ∀ u ∈ us, ∃ env', setN tp is (fu u) env = some env' ∧ ∀ S, Inv S → n < S.length → ∃ S', c env' S = .ok (b u) S' ∧ Inv S' ∧ S.length ≤ S'.length ∧ S'[n]? = S[n]? ∧ f env' S' = .ok (g u) S') (h0 : Inv S) (hS : S[n]? = some (.lst acc)) (hz : acc.length + us.length ≤ sizeLine),
    ∃ S', lcJ tp is env c f n st (us.map fu) S = .ok () S' ∧ Inv S' ∧ S.length ≤ S'.length ∧ S'[n]? = some (.lst (acc ++ (us.filter b).map g))
  | [], S, acc, hf, h0, hS, hz => ⟨S, by rw [List.map_nil, lcJ, if_pos (hst S h0)], h0, Nat.le_refl _, by simpa using hS⟩
  | u :: us, S, acc, hf, h0, hS, hz => by
    obtain ⟨env', e1, e2⟩ := hf u List.mem_cons_self
    have hn : n < S.length := (List.getElem?_eq_some_iff.mp hS).1
    obtain ⟨S1, ec, h1, l1, k1, e3⟩ := e2 S h0 hn
    have hS1 : S1[n]? = some (.lst acc) := k1.trans hS
    have hn1 : n < S1.length := by omega
    cases hb : b u with
    | true =>
      obtain ⟨S2, e4, h2, l2, k2⟩ := lcJ_filS (us := us) (acc := acc ++ [g u]) hi hst (fun v hv => hf v (List.mem_cons_of_mem _ hv)) (hi S1 (acc ++ [g u]) h1) (by rw [List.getElem?_set_self hn1]) (by simp at hz ⊢; omega)
      refine ⟨S2, ?_, h2, by simp at l2; omega, by rw [k2]; simp [hb]⟩
      rw [List.map_cons]
      unfold lcJ
      simp only [hst S h0, if_true, e1, ec, hb, bind_ok, e3, pushAt_ok hS1 (show acc.length < sizeLine by simp at hz; omega)]
      exact e4
    | false =>
      obtain ⟨S2, e4, h2, l2, k2⟩ := lcJ_filS (us := us) (acc := acc) hi hst (fun v hv => hf v (List.mem_cons_of_mem _ hv)) h1 hS1 (by simp at hz ⊢; omega)
      refine ⟨S2, ?_, h2, by omega, by rw [k2]; simp [hb]⟩
      rw [List.map_cons]
      unfold lcJ
      simp only [hst S h0, if_true, e1, ec, hb, bind_ok, Bool.false_eq_true, if_false]
      exact e4
/-- those items of a list of which the test is true; the test may look at what stood -/
theorem lcl_test {us : List U} {g : α → U} {k : α → Bool} (hit : ev Φ it env S = .ok (.loc m) S0) (hm : S0[m]? = some (.lst (l.map fu)))
    (h : ∀ u ∈ l, ∃ env', setN tp is (fu u) (wipeE env is) = some env' ∧ ∀ S1, Gr S0 S1 → ∃ S2, evt Φ t env' S1 = .ok (k u) S2 ∧ Gr S1 S2 ∧ ev Φ elt env' S2 = .ok (g u) S2) (hz : l.length ≤ sizeLine) :
    ∃ S', ev Φ (.lc is tp elt it t) env S = .ok (.loc S0.length) S' ∧ Gr S0 S' ∧ S'[S0.length]? = some (.lst ((l.filter k).map g)) := by
  have e0 : ev Φ (.lc is tp elt it t) env S = (lcJ tp is (wipeE env is) (fun env S => (evt Φ t env S).noex) (fun env S => (ev Φ elt env S).noex) S0.length (fun S => stays S (l.map fu) (some m)) (l.map fu) (S0 ++ [.lst []])).bind fun _ S' => .ok (.loc S0.length) S' := by
    rw [ev_lc, hit, bind_ok]
    simp only [iterU, hm, lcI_eq]
  rw [e0]
  obtain ⟨S', e, g1, _, q⟩ := lcJ_filS (tp := tp) (is := is) (env := wipeE env is) (n := S0.length) (c := fun env S => (evt Φ t env S).noex) (f := fun env S => (ev Φ elt env S).noex) (st := fun S => stays S (l.map fu) (some m)) (Inv := fun S1 => Gr S0 S1) (b := k) (g := g) (fu := fu) (us := l) (S := S0 ++ [.lst []]) (acc := [])
    (fun S1 x h1 => h1.set_new (Nat.le_refl _)) (fun S1 h1 => stays_lst (h1.at_ hm)) (fun u hu => by
      obtain ⟨env', e1, e2⟩ := h u hu
      refine ⟨env', e1, fun S1 h1 hn => ?_⟩
      obtain ⟨S2, e3, g2, e4⟩ := e2 S1 h1
      exact ⟨S2, by simp only [e3]; rfl, h1.trans g2, g2.1, g2.2 _ hn, by simp only [e4]; rfl⟩) Gr.push last_get (by simpa using hz)
  exact ⟨S', by rw [e, bind_ok], g1, by rw [q]; rfl⟩
theorem isi_of {e : E} {u : U} {t t' : String} {k : Bool} (h : ev Φ e env S = .ok u S') (ht : tyU S' u = some t') (hk : kitB t' t = some k) : ev Φ (.isi e t) env S = .ok (.bl k) S' := by
  rw [ev_isi, h, bind_ok]
  simp only [ht, hk]
end
end Oz
namespace Pr
open PySem L2 Oz
variable {S S' : Sto} {d : Nat}
theorem ints_map {α : Type} (f : α → Int) : ∀ l : List α, intsU (l.map fun x => U.int (f x)) = some (l.map f)
  | [] => rfl
  | x :: l => by simp [intsU, ints_map f l]
theorem maxd_loc {n : Nat} {us : List U} {ns : List Int} {k : Int} (h : S[n]? = some (.lst us)) (hi : intsU us = some ns) : bfU .maxd [.loc n, .int k] S = .ok (.int (if 0 < ns.length then maxI ns else k)) S := by
  unfold bfU maxdF
  simp only [list?, h, Option.bind_some, hi]
theorem sum_loc {n : Nat} {us : List U} {ns : List Int} (h : S[n]? = some (.lst us)) (hi : intsU us = some ns) : bfU .sum [.loc n] S = .ok (.int ns.sum) S := by
  unfold bfU sumF
  simp only [list?, h, Option.bind_some, hi]
/-! ### the parts of a check -/
namespace Ck
def sub : Ck → List Ck
  | fn s t => [s, t] | pr s t => [s, t] | bx s t => [s, t] | give c => [c] | take _ _ c => [c] | _ => []
def own : Ck → List Lb
  | fail _ l _ => [l] | take _ l _ => [l] | _ => []
theorem sub_dp {c s : Ck} (h : s ∈ c.sub) : s.dp < c.dp := by
  cases c <;> simp [sub] at h <;> (try rcases h with rfl | rfl) <;> (try subst h) <;> simp [dp] <;> omega
theorem sub_ht {c s : Ck} (h : s ∈ c.sub) : s.ht ≤ c.ht := by
  cases c <;> simp [sub] at h <;> (try rcases h with rfl | rfl) <;> (try subst h) <;> simp [ht] <;> omega
theorem sub_len (c : Ck) : c.sub.length ≤ 2 := by cases c <;> simp [sub]
theorem sz_sub (c : Ck) : (c.sz : Int) = 1 + (c.sub.map fun s => (s.sz : Int)).sum := by cases c <;> simp [sz, sub] <;> omega
def isW (c : Ck) : Bool := match c with | give _ => true | take _ _ _ => true | _ => false
theorem ht_sub (c : Ck) : (c.ht : Int) = (if 0 < (c.sub.map fun s => (s.ht : Int)).length then maxI (c.sub.map fun s => (s.ht : Int)) else 0) + (if c.isW then 0 else 1) := by
  cases c <;> simp [ht, sub, maxI, isW] <;> (try split) <;> omega
end Ck
theorem hd_in3 (c : Ck) {n : Nat} (h : S[n]? = some (.lst [.str "fun", .str "pair", .str "box"])) : cmpU .in_ (.str c.hd) (.loc n) S = .ok (.bl (match c with | .fn _ _ => true | .pr _ _ => true | .bx _ _ => true | _ => false)) S := by
  have e : inR (.str c.hd) (.loc n) S = some (match c with | .fn _ _ => true | .pr _ _ => true | .bx _ _ => true | _ => false) := by
    unfold inR
    simp only [items?, h]
    rw [if_pos (by rfl)]
    cases c <;> rfl
  unfold cmpU cmpB
  rw [e]
theorem hd_nin2 (c : Ck) {n : Nat} (h : S[n]? = some (.lst [.str "give", .str "take"])) : cmpU .notIn (.str c.hd) (.loc n) S = .ok (.bl (!c.isW)) S := by
  have e : inR (.str c.hd) (.loc n) S = some c.isW := by
    unfold inR
    simp only [items?, h]
    rw [if_pos (by rfl)]
    cases c <;> rfl
  unfold cmpU cmpB
  rw [e]
  rfl
theorem hd_in2 (c : Ck) : cmpU .in_ (.str c.hd) (.tup [.str "give", .str "take"]) S = .ok (.bl c.isW) S := by
  cases c <;> rfl
theorem cix1 (c : Ck) : ixU (cu (.give c)) (.int 1) S = .ok (cu c) S := rfl
theorem cix3 (g : Gd) (l : Lb) (c : Ck) : ixU (cu (.take g l c)) (.int 3) S = .ok (cu c) S ∧ ixU (cu (.take g l c)) (.int 1) S = .ok (.str g.nm) S ∧ ixU (cu (.take g l c)) (.int 2) S = .ok (lu l) S := ⟨rfl, rfl, rfl⟩
theorem linner_eq (c : Ck) (S : Sto) (h : 1 ≤ d) : ∃ m S', (pg.cal d).call "_law_inner" [cu c] S = .ok (.loc m) S' ∧ Gr S S' ∧ S'[m]? = some (.lst (c.sub.map cu)) := by
  obtain ⟨d, rfl⟩ : ∃ e, d = e + 1 := ⟨d - 1, by omega⟩
  rw [call_eq (df := ⟨1, 1, false, T__law_inner⟩) (by kernel_rfl), run_eq (by rfl)]
  unfold T__law_inner
  have g1 : Gr S (S ++ [.lst [.str "fun", .str "pair", .str "box"]]) := Gr.push
  have e1 := hd_in3 (S := S ++ [.lst [.str "fun", .str "pair", .str "box"]]) c last_get
  cases c with
  | fn s t => simp_arith only [ixc_hd, sz3, e1, cix, sz2]; exact ⟨_, _, rfl, g1.trans Gr.push, last_get⟩
  | pr s t => simp_arith only [ixc_hd, sz3, e1, cix, sz2]; exact ⟨_, _, rfl, g1.trans Gr.push, last_get⟩
  | bx s t => simp_arith only [ixc_hd, sz3, e1, cix, sz2]; exact ⟨_, _, rfl, g1.trans Gr.push, last_get⟩
  | give s => simp_arith only [ixc_hd, sz3, e1]; simp_arith only [Ck.hd, ixc_hd, cix1, sz1, decide_true]; exact ⟨_, _, rfl, g1.trans Gr.push, last_get⟩
  | take g l s => simp_arith only [ixc_hd, sz3, e1]; simp_arith only [Ck.hd, ixc_hd, cix3, sz1, decide_true, decide_false]; exact ⟨_, _, rfl, g1.trans Gr.push, last_get⟩
  | _ => simp_arith only [ixc_hd, sz3, e1]; simp_arith only [Ck.hd, ixc_hd, decide_false, Nat.zero_le]; exact ⟨_, _, rfl, g1.trans Gr.push, last_get⟩
theorem lsize_eq : ∀ (n : Nat) (c : Ck) (d : Nat) (S : Sto), c.dp ≤ n → n + 2 ≤ d → ∃ S', (pg.cal d).call "_law_size" [cu c] S = .ok (.int c.sz) S' ∧ Gr S S'
  | 0, c, d, S, h, _ => absurd c.dp_pos (by omega)
  | n + 1, c, d, S, h, hd => by
    obtain ⟨d, rfl⟩ : ∃ e, d = e + 1 := ⟨d - 1, by omega⟩
    rw [call_eq (df := ⟨1, 2, false, T__law_size⟩) (by kernel_rfl), run_eq (by rfl)]
    unfold T__law_size
    obtain ⟨m, S1, e1, g1, k1⟩ := linner_eq (d := d) c S (by omega)
    obtain ⟨S2, e2, g2, k2⟩ := lcl_pure (Φ := pg.cal d) (tp := false) (is := [1]) (env := [some (cu c), none]) (elt := .call "_law_size" (.cons (.v 1) .nil)) (it := .call "_law_inner" (.cons (.v 0) .nil)) (S := S) (S0 := S1) (m := m) (l := c.sub) (fu := cu) (g := fun s => .int s.sz) (by simp_arith only [true_and]; exact e1) k1 (fun p hp => ⟨_, rfl, fun S1 => by
      obtain ⟨S2, e2, g2⟩ := lsize_eq n p d S1 (by have := Ck.sub_dp hp; omega) (by omega)
      exact ⟨S2, (by simp_arith only [wipeE]; exact e2), g2⟩⟩) (szle (by have := c.sub_len; omega))
    refine ⟨S2, ?_, g1.trans g2⟩
    simp_arith only [e2, sum_loc k2 (ints_map (fun s : Ck => (s.sz : Int)) c.sub)]
    rw [← Ck.sz_sub]
theorem ldepth_eq : ∀ (n : Nat) (c : Ck) (d : Nat) (S : Sto), c.dp ≤ n → n + 2 ≤ d → ∃ S', (pg.cal d).call "_law_depth" [cu c] S = .ok (.int c.ht) S' ∧ Gr S S'
  | 0, c, d, S, h, _ => absurd c.dp_pos (by omega)
  | n + 1, c, d, S, h, hd => by
    obtain ⟨d, rfl⟩ : ∃ e, d = e + 1 := ⟨d - 1, by omega⟩
    rw [call_eq (df := ⟨1, 3, false, T__law_depth⟩) (by kernel_rfl), run_eq (by rfl)]
    unfold T__law_depth
    obtain ⟨m, S1, e1, g1, k1⟩ := linner_eq (d := d) c S (by omega)
    obtain ⟨S2, e2, g2, k2⟩ := lcl_pure (Φ := pg.cal d) (tp := false) (is := [2]) (env := [some (cu c), none, none]) (elt := .call "_law_depth" (.cons (.v 2) .nil)) (it := .call "_law_inner" (.cons (.v 0) .nil)) (S := S) (S0 := S1) (m := m) (l := c.sub) (fu := cu) (g := fun s => .int s.ht) (by simp_arith only [true_and]; exact e1) k1 (fun p hp => ⟨_, rfl, fun S1 => by
      obtain ⟨S2, e2, g2⟩ := ldepth_eq n p d S1 (by have := Ck.sub_dp hp; omega) (by omega)
      exact ⟨S2, (by simp_arith only [wipeE]; exact e2), g2⟩⟩) (szle (by have := c.sub_len; omega))
    have e3 := hd_nin2 (S := S2 ++ [.lst [.str "give", .str "take"]]) c last_get
    refine ⟨S2 ++ [.lst [.str "give", .str "take"]], ?_, (g1.trans g2).trans Gr.push⟩
    have ei : ∀ (k : Bool) (S : Sto), bfU .int [.bl k] S = .ok (.int (if k then 1 else 0)) S := fun _ _ => rfl
    simp_arith only [e2, maxd_loc k2 (ints_map (fun s : Ck => (s.ht : Int)) c.sub), ixc_hd, sz2, e3, ei]
    rw [Ck.ht_sub]
    cases hw : c.isW <;> simp
end Pr

end

section
set_option maxHeartbeats 4000000
namespace Pr
open PySem L2 Oz
variable {S S' : Sto} {d : Nat}
/-! ### labels -/
def mg (f xs : List Lb) : List Lb := f ++ xs.filter fun x => decide (x ∉ f)
namespace Ck
def lbs : Ck → List Lb
  | any => [] | same _ => [] | fail _ l _ => [l]
  | fn s t => mg (mg [] s.lbs) t.lbs | pr s t => mg (mg [] s.lbs) t.lbs | bx s t => mg (mg [] s.lbs) t.lbs
  | give c => mg [] c.lbs | take _ l c => mg [l] c.lbs
def ls : Ck → List Lb
  | any => [] | same _ => [] | fail _ l _ => [l]
  | fn s t => s.ls ++ t.ls | pr s t => s.ls ++ t.ls | bx s t => s.ls ++ t.ls
  | give c => c.ls | take _ l c => l :: c.ls
theorem lbs_fold (c : Ck) : c.lbs = c.sub.foldl (fun f s => mg f s.lbs) c.own := by cases c <;> rfl
end Ck
theorem mg_mem {f xs : List Lb} {l : Lb} : l ∈ mg f xs ↔ l ∈ f ∨ l ∈ xs := by
  unfold mg
  simp only [List.mem_append, List.mem_filter, decide_eq_true_eq]
  by_cases h : l ∈ f <;> simp [h]
theorem lbs_mem : ∀ {c : Ck} {l : Lb}, l ∈ c.lbs ↔ l ∈ c.ls
  | .any, _ => by simp [Ck.lbs, Ck.ls]
  | .same _, _ => by simp [Ck.lbs, Ck.ls]
  | .fail _ _ _, _ => by simp [Ck.lbs, Ck.ls]
  | .fn s t, l => by simp [Ck.lbs, Ck.ls, mg_mem, lbs_mem (c := s), lbs_mem (c := t)]
  | .pr s t, l => by simp [Ck.lbs, Ck.ls, mg_mem, lbs_mem (c := s), lbs_mem (c := t)]
  | .bx s t, l => by simp [Ck.lbs, Ck.ls, mg_mem, lbs_mem (c := s), lbs_mem (c := t)]
  | .give c, l => by simp [Ck.lbs, Ck.ls, mg_mem, lbs_mem (c := c)]
  | .take _ l' c, l => by simp [Ck.lbs, Ck.ls, mg_mem, lbs_mem (c := c)]
theorem mg_len (f xs : List Lb) : (mg f xs).length ≤ f.length + xs.length := by
  unfold mg
  rw [List.length_append]
  have := List.length_filter_le (fun x => decide (x ∉ f)) xs
  omega
theorem lbs_len : ∀ c : Ck, c.lbs.length ≤ c.sz
  | .any => by simp [Ck.lbs, Ck.sz]
  | .same _ => by simp [Ck.lbs, Ck.sz]
  | .fail _ _ _ => by simp [Ck.lbs, Ck.sz]
  | .fn s t => by
    have := lbs_len s; have := lbs_len t
    have h1 := mg_len [] s.lbs; have h2 := mg_len (mg [] s.lbs) t.lbs
    simp only [Ck.lbs, Ck.sz, List.length_nil] at *; omega
  | .pr s t => by
    have := lbs_len s; have := lbs_len t
    have h1 := mg_len [] s.lbs; have h2 := mg_len (mg [] s.lbs) t.lbs
    simp only [Ck.lbs, Ck.sz, List.length_nil] at *; omega
  | .bx s t => by
    have := lbs_len s; have := lbs_len t
    have h1 := mg_len [] s.lbs; have h2 := mg_len (mg [] s.lbs) t.lbs
    simp only [Ck.lbs, Ck.sz, List.length_nil] at *; omega
  | .give c => by
    have := lbs_len c; have h1 := mg_len [] c.lbs
    simp only [Ck.lbs, Ck.sz, List.length_nil] at *; omega
  | .take _ l c => by
    have := lbs_len c; have h1 := mg_len [l] c.lbs
    simp only [Ck.lbs, Ck.sz, List.length_cons, List.length_nil] at *; omega
theorem sub_sz {c s : Ck} (h : s ∈ c.sub) : s.sz < c.sz := by
  cases c <;> simp [Ck.sub] at h <;> (try rcases h with rfl | rfl) <;> (try subst h) <;> simp [Ck.sz] <;> omega
theorem ok_lu (l : Lb) : okU (lu l) = true := by
  unfold okU SeqAt.shaped
  rw [lay_lu]
  exact decide_eq_true (show (pdU (lu l)).depth ≤ 64 by simp [lu, pdU, pdUs, PyData.depth, PyData.depthAll])
theorem oks_lu (ls : List Lb) : okUs (ls.map lu) = true := by
  have h1 : purUs (ls.map lu) = true ∧ PyData.canLayAll0 (pdUs (ls.map lu)) = true ∧ PyData.depthAll (pdUs (ls.map lu)) ≤ 2 := by
    induction ls with
    | nil => exact ⟨rfl, rfl, Nat.zero_le _⟩
    | cons l ls ih =>
      obtain ⟨a, b, c⟩ := ih
      have e1 : purU (lu l) = true := rfl
      have e2 := lay_lu l
      have e3 : (pdU (lu l)).depth ≤ 2 := by simp [lu, pdU, pdUs, PyData.depth, PyData.depthAll]
      simp only [List.map_cons, purUs, pdUs, PyData.canLayAll0, PyData.depthAll, a, b, e1, e2, Bool.and_self, true_and]
      omega
  unfold okUs SeqAt.shaped
  rw [h1.1, Bool.true_and, Bool.and_eq_true]
  refine ⟨h1.2.1, decide_eq_true ?_⟩
  simp only [PyData.depth]
  have := h1.2.2
  omega
theorem eqU_lu (a b : Lb) : eqU (lu a) (lu b) = decide (a = b) := by
  have h := eqU_si (lu a) (lu b) rfl rfl
  by_cases e : a = b
  · rw [e] at h ⊢
    rw [h.mpr rfl]
    simp
  · rw [decide_eq_false e]
    cases q : eqU (lu a) (lu b) with
    | false => rfl
    | true => exact absurd (lu_inj (h.mp q)) e
theorem any_lu (l : Lb) (ls : List Lb) : ((ls.map lu).any fun y => eqU y (lu l)) = decide (l ∈ ls) := by
  induction ls with
  | nil => simp
  | cons x xs ih =>
    rw [List.map_cons, List.any_cons, ih, eqU_lu]
    by_cases h : x = l
    · subst h; simp
    · have h' : ¬ l = x := fun e => h e.symm
      simp [h, h']
theorem inR_lu {n : Nat} {l : Lb} {ls : List Lb} (h : S[n]? = some (.lst (ls.map lu))) : inR (lu l) (.loc n) S = some (decide (l ∈ ls)) := by
  have ho := ok_lu l
  have e := any_lu l ls
  unfold lu at ho e ⊢
  unfold inR
  simp only [items?, list?, h]
  rw [if_neg (by simp [flatU]), if_pos (by rw [ho]; exact oks_lu ls)]
  exact congrArg some e
theorem notin_lu {n : Nat} {l : Lb} {ls : List Lb} (h : S[n]? = some (.lst (ls.map lu))) : cmpU .notIn (lu l) (.loc n) S = .ok (.bl (decide (l ∉ ls))) S := by
  unfold cmpU cmpB
  rw [inR_lu h]
  simp
theorem in_lu {n : Nat} {l : Lb} {ls : List Lb} (h : S[n]? = some (.lst (ls.map lu))) : cmpU .in_ (lu l) (.loc n) S = .ok (.bl (decide (l ∈ ls))) S := by
  unfold cmpU cmpB
  rw [inR_lu h]
theorem foldl_len (xs : List Ck) (f : List Lb) : (xs.foldl (fun f s => mg f s.lbs) f).length ≤ f.length + (xs.map Ck.sz).sum := by
  induction xs generalizing f with
  | nil => simp
  | cons x xs ih =>
    have h1 := ih (mg f x.lbs)
    have h2 := mg_len f x.lbs
    have h3 := lbs_len x
    simp only [List.foldl_cons, List.map_cons, List.sum_cons]
    omega
theorem part_sz {c : Ck} {done : List Ck} {a : Ck} {r : List Ck} (h : done ++ a :: r = c.sub) : (done.map Ck.sz).sum + a.sz < c.sz := by
  have e : (c.sub.map Ck.sz).sum + 1 = c.sz := by cases c <;> simp [Ck.sub, Ck.sz] <;> omega
  rw [← h] at e
  simp at e
  omega
theorem ty_app {n : Nat} {us : List U} (h : S[n]? = some (.lst us)) : tyB .append (.loc n) S = true := by
  unfold tyB
  simp only [list?, h, Option.isSome]
theorem app_loc {n : Nat} {us : List U} {u : U} (h : S[n]? = some (.lst us)) (hz : us.length < sizeLine) : bmU .append (.loc n) [u] S = .ok .non (S.set n (.lst (us ++ [u]))) := by
  show appendF (.loc n) [u] S = _
  unfold appendF
  simp only [h, if_pos hz]
theorem llabels_eq : ∀ (n : Nat) (c : Ck) (d : Nat) (S : Sto), c.dp ≤ n → c.sz ≤ 1000 → n + 2 ≤ d → ∃ m S', (pg.cal d).call "_law_labels" [cu c] S = .ok (.loc m) S' ∧ Gr S S' ∧ S'[m]? = some (.lst (c.lbs.map lu))
  | 0, c, d, S, h, _, _ => absurd c.dp_pos (by omega)
  | n + 1, c, d, S, h, hz, hd => by
    obtain ⟨d, rfl⟩ : ∃ e, d = e + 1 := ⟨d - 1, by omega⟩
    rw [call_eq (df := ⟨1, 4, false, T__law_labels⟩) (by kernel_rfl), run_eq (by rfl)]
    unfold T__law_labels
    -- its own label
    obtain ⟨S1, e1, g1, k1⟩ : ∃ S1, (∀ rest, exs (pg.cal d) (.cons (.set false [1] (.lst .nil)) (.cons (.if_ (.or (.e (.cmp .eq (.ix (.v 0) (.k (.int 0))) (.k (.str "take")))) (.e (.cmp .eq (.ix (.v 0) (.k (.int 0))) (.k (.str "fail"))))) (.cons (.ex (.bm .append (.v 1) (.cons (.ix (.v 0) (.k (.int 2))) .nil))) .nil) .nil) rest)) [some (cu c), none, none, none] S = exs (pg.cal d) rest [some (cu c), some (.loc S.length), none, none] S1) ∧ Gr S S1 ∧ S1[S.length]? = some (.lst (c.own.map lu)) := by
      have hap : ∀ u : U, bmU .append (.loc S.length) [u] (S ++ [Cel.lst []]) = .ok .non (S ++ [Cel.lst [u]]) := fun u => by
        rw [app_loc last_get (by decide), last_set]; rfl
      have hty : tyB .append (.loc S.length) (S ++ [Cel.lst []]) = true := ty_app last_get
      cases c with
      | take g l s =>
        refine ⟨S ++ [.lst [lu l]], fun rest => ?_, Gr.push, last_get⟩
        rw [go_set (x := .loc S.length) (S' := S ++ [.lst []]) rfl]
        rw [go_if (k := true) (S' := S ++ [.lst []]) (by show evt (pg.cal d) _ [_, _, _, _] _ = _; simp_arith only [ixc_hd, Ck.hd, decide_true])]
        rw [if_pos rfl, go_ex (u := .non) (S' := S ++ [.lst [lu l]]) (by show ev (pg.cal d) _ [some (cu (.take g l s)), some (.loc S.length), none, none] _ = _; simp_arith only [hty, cix3, hap]), exs_nil, then_nx]
        rfl
      | fail g l s =>
        refine ⟨S ++ [.lst [lu l]], fun rest => ?_, Gr.push, last_get⟩
        rw [go_set (x := .loc S.length) (S' := S ++ [.lst []]) rfl]
        rw [go_if (k := true) (S' := S ++ [.lst []]) (by show evt (pg.cal d) _ [_, _, _, _] _ = _; simp_arith only [ixc_hd, Ck.hd, decide_true, decide_false])]
        rw [if_pos rfl, go_ex (u := .non) (S' := S ++ [.lst [lu l]]) (by show ev (pg.cal d) _ [some (cu (.fail g l s)), some (.loc S.length), none, none] _ = _; simp_arith only [hty, show ∀ S, ixU (cu (.fail g l s)) (.int 2) S = .ok (lu l) S from fun _ => rfl, hap]), exs_nil, then_nx]
        rfl
      | _ =>
        refine ⟨S ++ [.lst []], fun rest => ?_, Gr.push, last_get⟩
        rw [go_set (x := .loc S.length) (S' := S ++ [.lst []]) rfl]
        rw [go_skip (S' := S ++ [.lst []]) (by show evt (pg.cal d) _ [_, _, _, _] _ = _; simp_arith only [ixc_hd, Ck.hd, decide_false])]
        rfl
    show ∃ m S', (exs (pg.cal d) (.cons _ (.cons _ _)) [some (cu c), none, none, none] S).fin = _ ∧ _
    rw [e1]
    obtain ⟨m, S2, e2, g2, k2⟩ := linner_eq (d := d) c S1 (by omega)
    obtain ⟨env', S3, e3, f, x, he, hk, hg, hm⟩ := forI_inv (tp := false) (is := [2]) (f := fun env S => exs (pg.cal d) (.cons (.set false [1] (.bin .add (.v 1) (.lc [3] false (.v 3) (.call "_law_labels" (.cons (.v 2) .nil)) (.e (.cmp .notIn (.v 3) (.v 1)))))) .nil) env S) (all := c.sub.map cu) (src := some m) (L := c.sub) (fu := cu)
      (fun done env S4 => ∃ f x, env = [some (cu c), some (.loc f), x, none] ∧ S4[f]? = some (.lst ((done.foldl (fun f s => mg f s.lbs) c.own).map lu)) ∧ Gr S2 S4 ∧ S4[m]? = some (.lst (c.sub.map cu)))
      (fun done env S4 ⟨f, x, _, _, _, hm⟩ => stays_lst hm)
      (fun done a r env S4 hL ⟨f, x, he, hk, hg, hm⟩ => by
        have hmem : a ∈ c.sub := by rw [← hL]; simp
        obtain ⟨m2, S5, e5, g5, k5⟩ := llabels_eq n a d S4 (by have := Ck.sub_dp hmem; omega) (by have := sub_sz hmem; omega) (by omega)
        have hp := part_sz hL
        have hal := lbs_len a
        obtain ⟨S6, e6, g6, k6⟩ := lcl_test (Φ := pg.cal d) (tp := false) (is := [3]) (env := [some (cu c), some (.loc f), some (cu a), none]) (elt := .v 3) (it := .call "_law_labels" (.cons (.v 2) .nil)) (t := .e (.cmp .notIn (.v 3) (.v 1))) (S := S4) (S0 := S5) (m := m2) (l := a.lbs) (fu := lu) (g := lu) (us := []) (k := fun x => decide (x ∉ done.foldl (fun f s => mg f s.lbs) c.own))
          (by simp_arith only [true_and]; exact e5) k5 (fun p hp => ⟨_, rfl, fun S7 h7 => ⟨S7, by simp_arith only [wipeE, notin_lu (h7.at_ (g5.at_ hk))], Gr.refl, by simp_arith only [wipeE]⟩⟩) (szle (by omega))
        have hfl := foldl_len done c.own
        have hol : c.own.length ≤ 1 := by cases c <;> simp [Ck.own]
        have hk6 := (g5.trans g6).at_ hk
        have hz2 : ((done.foldl (fun f s => mg f s.lbs) c.own).map lu).length + ((a.lbs.filter fun x => decide (x ∉ done.foldl (fun f s => mg f s.lbs) c.own)).map lu).length ≤ sizeLine := by
          rw [List.length_map, List.length_map]
          have := List.length_filter_le (fun x => decide (x ∉ done.foldl (fun f s => mg f s.lbs) c.own)) a.lbs
          exact Nat.le_trans (show _ ≤ 2002 by omega) (by decide)
        refine ⟨[some (cu c), some (.loc f), some (cu a), none], by rw [he]; rfl, [some (cu c), some (.loc S6.length), some (cu a), none], S6 ++ [.lst ((done.foldl (fun f s => mg f s.lbs) c.own).map lu ++ (a.lbs.filter fun x => decide (x ∉ done.foldl (fun f s => mg f s.lbs) c.own)).map lu)], ?_, S6.length, some (cu a), rfl, ?_, ((hg.trans g5).trans g6).trans Gr.push, Gr.push.at_ (g6.at_ (g5.at_ hm))⟩
        · show exs (pg.cal d) _ [some (cu c), some (.loc f), some (cu a), none] S4 = _
          simp_arith only [e6, add_loc hk6 k6 hz2]
        · rw [last_get, List.foldl_append]
          rw [← List.map_append]
          rfl) c.sub [] [some (cu c), some (.loc S.length), none, none] S2 rfl ⟨S.length, none, rfl, g2.at_ k1, Gr.refl, k2⟩
    refine ⟨f, S3, fin_of ?_, (g1.trans g2).trans hg, by rw [Ck.lbs_fold]; exact hk⟩
    refine (go_for_loc (us := c.sub.map cu) (m := m) (S0 := S2) (by simp_arith only [true_and]; exact e2) k2 e3).trans ?_
    rw [he]
    exact go_ret (ev_v' rfl)
end Pr

end

section
set_option maxHeartbeats 4000000
namespace Pr
open PySem L2 Oz
variable {S S' : Sto} {d : Nat}
/-! ### sizes and heights of the program -/
def CA : List (Str × U) := [("fun", .tup [.int 1, .int 2]), ("pair", .tup [.int 1, .int 2]), ("box", .tup [.int 1, .int 2]), ("give", .tup [.int 1]), ("take", .tup [.int 3])]
theorem g_CA (d : Nat) : (pg.cal d).gd "CHECKS_AT" = some CA := by rw [cal_gd]; rfl
namespace Ck
def at_ : Ck → List Nat
  | fn _ _ => [1, 2] | pr _ _ => [1, 2] | bx _ _ => [1, 2] | give _ => [1] | take _ _ _ => [3] | _ => []
def its : Ck → List U
  | any => [.str "any"] | same g => [.str "same", .str g.nm] | fn s t => [.str "fun", cu s, cu t] | pr s t => [.str "pair", cu s, cu t] | bx s t => [.str "box", cu s, cu t]
  | give c => [.str "give", cu c] | fail g l h => [.str "fail", .str g.nm, lu l, .str h.nm] | take g l c => [.str "take", .str g.nm, lu l, cu c]
def dsub (c : Ck) : List Ck := if c.sub.take 1 = c.sub.drop 1 then c.sub.take 1 else c.sub
end Ck
theorem cu_its (c : Ck) : cu c = .tup c.its := by cases c <;> rfl
def iN (k : Nat) : U := .int (k : Nat)
theorem ca_at (c : Ck) : (CA.lookup c.hd).getD (.tup []) = .tup (c.at_.map iN) := by cases c <;> rfl
theorem cat_lt (c : Ck) {k : Nat} (h : k ∈ c.at_) : k < c.its.length := by cases c <;> simp [Ck.at_] at h <;> simp [Ck.its] <;> omega
theorem cat_sub (c : Ck) : c.at_.map (fun k => c.its.getD k .non) = c.sub.map cu := by cases c <;> rfl
theorem get_getD {us : List U} {k : Nat} (h : k < us.length) : us[k]? = some (us.getD k .non) := by simp [h]
theorem inside_eq (c : Ck) (S : Sto) (h : 1 ≤ d) : ∃ m S', (pg.cal d).call "inside" [cu c] S = .ok (.loc m) S' ∧ Gr S S' ∧ S'[m]? = some (.lst (c.sub.map cu)) := by
  obtain ⟨d, rfl⟩ : ∃ e, d = e + 1 := ⟨d - 1, by omega⟩
  rw [call_eq (df := ⟨1, 2, false, T_inside⟩) (by kernel_rfl), run_eq (by rfl)]
  unfold T_inside
  obtain ⟨S1, e, g, k⟩ := lc_pure (Φ := pg.cal d) (tp := false) (is := [1]) (env := [some (cu c), none]) (elt := .ix (.v 0) (.v 1)) (it := .gget "CHECKS_AT" (.ix (.v 0) (.k (.int 0))) (.tup .nil)) (S := S) (S0 := S) (l := c.at_) (fu := iN) (g := fun k => c.its.getD k .non)
    (by rw [ev_gget (g_CA d)]; simp_arith only [ixc_hd, Nat.zero_le]; rw [ca_at]) (fun k hk => ⟨_, rfl, fun S1 => ⟨S1, by simp_arith only [wipeE]; rw [cu_its, iN, Oz.ix_tup, atI_nat_own (get_getD (cat_lt c hk))], Gr.refl⟩⟩) (szle (by cases c <;> simp [Ck.at_]))
  exact ⟨S.length, S1, fin_of (go_ret e), g, by rw [k, cat_sub]⟩
theorem oks_cu {cs : List Ck} (h : ∀ c ∈ cs, c.dp ≤ 50) : okUs (cs.map cu) = true := by
  have h1 : purUs (cs.map cu) = true ∧ PyData.canLayAll0 (pdUs (cs.map cu)) = true ∧ PyData.depthAll (pdUs (cs.map cu)) ≤ 51 := by
    induction cs with
    | nil => exact ⟨rfl, rfl, Nat.zero_le _⟩
    | cons c cs ih =>
      obtain ⟨a, b, e⟩ := ih fun x hx => h x (List.mem_cons_of_mem _ hx)
      have e1 := pur_cu c
      have e2 := lay_cu c
      have e3 := dep_cu c
      have e4 := h c List.mem_cons_self
      simp only [List.map_cons, purUs, pdUs, PyData.canLayAll0, PyData.depthAll, a, b, e1, e2, Bool.and_self, true_and]
      omega
  unfold okUs SeqAt.shaped
  rw [h1.1, Bool.true_and, Bool.and_eq_true]
  refine ⟨h1.2.1, decide_eq_true ?_⟩
  simp only [PyData.depth]
  have := h1.2.2
  omega
theorem eqUs_cu : ∀ as bs : List Ck, eqUs (as.map cu) (bs.map cu) = decide (as = bs)
  | [], bs => by cases bs <;> simp [eqUs]
  | a :: as, bs => by
    cases bs with
    | nil => simp [eqUs]
    | cons b bs =>
      rw [List.map_cons, List.map_cons]
      simp only [eqUs]
      rw [eqU_cu, eqUs_cu as bs]
      by_cases h1 : a = b <;> by_cases h2 : as = bs <;> simp [h1, h2]
theorem eq_lists {m n : Nat} {as bs : List Ck} (h1 : S[m]? = some (.lst (as.map cu))) (h2 : S[n]? = some (.lst (bs.map cu))) (ha : ∀ c ∈ as, c.dp ≤ 50) (hb : ∀ c ∈ bs, c.dp ≤ 50) : cmpU .eq (.loc m) (.loc n) S = .ok (.bl (decide (as = bs))) S := by
  have e : eqR (.loc m) (.loc n) S = some (decide (as = bs)) := by
    unfold eqR
    simp only [list?, h1, h2, oks_cu ha, oks_cu hb, Bool.and_self, if_true, eqUs_cu]
  unfold cmpU cmpB
  rw [e]
theorem cut_take (us : List U) : cutA us none (some 1) = us.take 1 := by
  unfold cutA
  rw [HT.sIx_none, Nat.sub_zero, List.drop_zero]
  unfold HT.sIx
  dsimp only
  rw [if_neg (by decide)]
  cases us with
  | nil => rfl
  | cons u us => rw [show min (Int.toNat 1) (u :: us).length = 1 by simp]
theorem cut_drop (us : List U) : cutA us (some 1) none = us.drop 1 := by
  unfold cutA
  rw [HT.sIx_none]
  unfold HT.sIx
  dsimp only
  rw [if_neg (by decide)]
  cases us with
  | nil => rfl
  | cons u us =>
    rw [show min (Int.toNat 1) (u :: us).length = 1 by simp]
    exact List.take_of_length_le (by simp)
theorem sl_loc {m : Nat} {us : List U} {lo hi : Option Int} (h : S[m]? = some (.lst us)) : slU (.loc m) lo hi S = .ok (.loc S.length) (S ++ [Cel.lst (cutA us lo hi)]) := by
  show (match list? S (.loc m) with | some xs => R.ok (U.loc S.length) (S ++ [Cel.lst (cutA xs lo hi)]) | none => .bad) = _
  simp only [list?, h]
theorem sub_dp' {c s : Ck} (hc : c.dp ≤ 50) (h : s ∈ c.sub) : s.dp ≤ 50 := by have := Ck.sub_dp h; omega
theorem dinside_eq (c : Ck) (S : Sto) (hc : c.dp ≤ 50) (h : 2 ≤ d) : ∃ m S', (pg.cal d).call "different_inside" [cu c] S = .ok (.loc m) S' ∧ Gr S S' ∧ S'[m]? = some (.lst (c.dsub.map cu)) := by
  obtain ⟨d, rfl⟩ : ∃ e, d = e + 1 := ⟨d - 1, by omega⟩
  rw [call_eq (df := ⟨1, 2, false, T_different_inside⟩) (by kernel_rfl), run_eq (by rfl)]
  unfold T_different_inside
  obtain ⟨m, S1, e1, g1, k1⟩ := inside_eq (d := d) c S (by omega)
  have k2 : (S1 ++ [Cel.lst ((c.sub.take 1).map cu)])[m]? = some (.lst (c.sub.map cu)) := Gr.push.at_ k1
  have k3 : (S1 ++ [Cel.lst ((c.sub.take 1).map cu)] ++ [Cel.lst ((c.sub.drop 1).map cu)])[m]? = some (.lst (c.sub.map cu)) := Gr.push.at_ k2
  have k4 : (S1 ++ [Cel.lst ((c.sub.take 1).map cu)] ++ [Cel.lst ((c.sub.drop 1).map cu)])[S1.length]? = some (.lst ((c.sub.take 1).map cu)) := Gr.push.at_ last_get
  have e2 : slU (.loc m) none (some 1) S1 = .ok (.loc S1.length) (S1 ++ [Cel.lst ((c.sub.take 1).map cu)]) := by rw [sl_loc k1, cut_take, List.map_take]
  have e3 : slU (.loc m) (some 1) none (S1 ++ [Cel.lst ((c.sub.take 1).map cu)]) = .ok (.loc (S1 ++ [Cel.lst ((c.sub.take 1).map cu)]).length) (S1 ++ [Cel.lst ((c.sub.take 1).map cu)] ++ [Cel.lst ((c.sub.drop 1).map cu)]) := by rw [sl_loc k2, cut_drop, List.map_drop]
  have e4 := eq_lists (as := c.sub.take 1) (bs := c.sub.drop 1) k4 last_get (fun x hx => sub_dp' hc (List.mem_of_mem_take hx)) (fun x hx => sub_dp' hc (List.mem_of_mem_drop hx))
  have g3 : Gr S (S1 ++ [Cel.lst ((c.sub.take 1).map cu)] ++ [Cel.lst ((c.sub.drop 1).map cu)]) := (g1.trans Gr.push).trans Gr.push
  generalize hS3 : S1 ++ [Cel.lst ((c.sub.take 1).map cu)] ++ [Cel.lst ((c.sub.drop 1).map cu)] = S3 at *
  by_cases hq : c.sub.take 1 = c.sub.drop 1
  · have e5 : slU (.loc m) none (some 1) S3 = .ok (.loc S3.length) (S3 ++ [Cel.lst ((c.sub.take 1).map cu)]) := by rw [sl_loc k3, cut_take, List.map_take]
    refine ⟨S3.length, S3 ++ [Cel.lst ((c.sub.take 1).map cu)], ?_, g3.trans Gr.push, by rw [last_get, Ck.dsub, if_pos hq]⟩
    rw [decide_eq_true hq] at e4
    simp_arith only [e1, ev_ife, e2, e3, e4, e5]
  · refine ⟨m, S3, ?_, g3, by rw [k3, Ck.dsub, if_neg hq]⟩
    rw [decide_eq_false hq] at e4
    simp_arith only [e1, ev_ife, e2, e3, e4]
namespace Ck
theorem dsub_mem {c s : Ck} (h : s ∈ c.dsub) : s ∈ c.sub := by
  unfold dsub at h
  split at h
  · exact List.mem_of_mem_take h
  · exact h
theorem dsub_len (c : Ck) : c.dsub.length ≤ 2 := by
  have := c.sub_len
  unfold dsub
  split
  · rw [List.length_take]; omega
  · exact this
theorem dsub_two (c : Ck) : (c.dsub = c.sub) ∨ ∃ s, c.sub = [s, s] ∧ c.dsub = [s] := by
  unfold dsub
  by_cases h : c.sub.take 1 = c.sub.drop 1
  · rw [if_pos h]
    cases c with
    | fn s t => simp [sub] at h; subst h; exact .inr ⟨_, rfl, rfl⟩
    | pr s t => simp [sub] at h; subst h; exact .inr ⟨_, rfl, rfl⟩
    | bx s t => simp [sub] at h; subst h; exact .inr ⟨_, rfl, rfl⟩
    | give s => simp [sub] at h
    | take g l s => simp [sub] at h
    | _ => exact .inl rfl
  · rw [if_neg h]; exact .inl rfl
end Ck
theorem csize_eq : ∀ (n : Nat) (c : Ck) (d : Nat) (S : Sto), c.dp ≤ n → c.dp ≤ 50 → n + 3 ≤ d → c.sz ≤ 1000 → ∃ S', (pg.cal d).call "check_size" [cu c] S = .ok (.int c.sz) S' ∧ Gr S S'
  | 0, c, d, S, h, _, _, _ => absurd c.dp_pos (by omega)
  | n + 1, c, d, S, h, hc, hd, hz => by
    obtain ⟨d, rfl⟩ : ∃ e, d = e + 1 := ⟨d - 1, by omega⟩
    rw [call_eq (df := ⟨1, 3, false, T_check_size⟩) (by kernel_rfl), run_eq (by rfl)]
    unfold T_check_size
    obtain ⟨m, S1, e1, g1, k1⟩ := dinside_eq (d := d) c S hc (by omega)
    obtain ⟨S2, e2, g2, k2⟩ := lcl_pure (Φ := pg.cal d) (tp := false) (is := [2]) (env := [some (cu c), none, none]) (elt := .call "check_size" (.cons (.v 2) .nil)) (it := .call "different_inside" (.cons (.v 0) .nil)) (S := S) (S0 := S1) (m := m) (l := c.dsub) (fu := cu) (g := fun s => .int s.sz) (by simp_arith only [true_and]; exact e1) k1 (fun p hp => ⟨_, rfl, fun S1 => by
      obtain ⟨S2, e2, g2⟩ := csize_eq n p d S1 (by have := Ck.sub_dp (Ck.dsub_mem hp); omega) (sub_dp' hc (Ck.dsub_mem hp)) (by omega) (by have := sub_sz (Ck.dsub_mem hp); omega)
      exact ⟨S2, (by simp_arith only [wipeE]; exact e2), g2⟩⟩) (szle (by have := c.dsub_len; omega))
    obtain ⟨m3, S3, e3, g3, k3⟩ := inside_eq (d := d) c S2 (by omega)
    have k2' := g3.at_ k2
    refine ⟨S3, ?_, (g1.trans g2).trans g3⟩
    have hsum := c.sz_sub
    rcases c.dsub_two with hq | ⟨s, hq1, hq2⟩
    · have hlt : ¬ ((((c.dsub.map fun s => U.int (s.sz : Int)).length : Nat) : Int) < (((c.sub.map cu).length : Nat) : Int)) := by
        rw [hq]; simp
      simp_arith only [e2, len_loc k2, e3, len_loc k3, hlt, decide_false, sum_loc k2' (ints_map (fun s : Ck => (s.sz : Int)) c.dsub)]
      rw [hq, ← hsum]
    · have hlt : ((((c.dsub.map fun s => U.int (s.sz : Int)).length : Nat) : Int) < (((c.sub.map cu).length : Nat) : Int)) := by
        rw [hq1, hq2]; simp
      have p0 : atI (c.dsub.map fun s => U.int (s.sz : Int)) (0 : Int) = some (.int s.sz) := by rw [hq2]; rfl
      simp_arith only [e2, len_loc k2, e3, len_loc k3, hlt, decide_true, ix_loc k2', p0, mul_int (mul_r (i := 2) (j := (s.sz : Int)) (by omega) (by have := sub_sz (c := c) (s := s) (by rw [hq1]; simp); omega))]
      rw [hsum, hq1]
      simp
      omega
theorem cheight_eq : ∀ (n : Nat) (c : Ck) (d : Nat) (S : Sto), c.dp ≤ n → c.dp ≤ 50 → n + 3 ≤ d → ∃ S', (pg.cal d).call "check_height" [cu c] S = .ok (.int c.ht) S' ∧ Gr S S'
  | 0, c, d, S, h, _, _ => absurd c.dp_pos (by omega)
  | n + 1, c, d, S, h, hc, hd => by
    obtain ⟨d, rfl⟩ : ∃ e, d = e + 1 := ⟨d - 1, by omega⟩
    rw [call_eq (df := ⟨1, 3, false, T_check_height⟩) (by kernel_rfl), run_eq (by rfl)]
    unfold T_check_height
    obtain ⟨m, S1, e1, g1, k1⟩ := dinside_eq (d := d) c S hc (by omega)
    have hw : ev (pg.cal d) (.ife (.e (.cmp .in_ (.ix (.v 0) (.k (.int 0))) (.tup (.cons (.k (.str "give")) (.cons (.k (.str "take")) .nil))))) (.k (.int 0)) (.k (.int 1))) [some (cu c), none, none] S = .ok (.int (if c.isW then 0 else 1)) S := by
      simp_arith only [ev_ife, ixc_hd, sz2, hd_in2]
      cases c.isW <;> rfl
    obtain ⟨S2, e2, g2, k2⟩ := lcl_pure (Φ := pg.cal d) (tp := false) (is := [2]) (env := [some (cu c), some (.int (if c.isW then 0 else 1)), none]) (elt := .call "check_height" (.cons (.v 2) .nil)) (it := .call "different_inside" (.cons (.v 0) .nil)) (S := S) (S0 := S1) (m := m) (l := c.dsub) (fu := cu) (g := fun s => .int s.ht) (by simp_arith only [true_and]; exact e1) k1 (fun p hp => ⟨_, rfl, fun S1 => by
      obtain ⟨S2, e2, g2⟩ := cheight_eq n p d S1 (by have := Ck.sub_dp (Ck.dsub_mem hp); omega) (sub_dp' hc (Ck.dsub_mem hp)) (by omega)
      exact ⟨S2, (by simp_arith only [wipeE]; exact e2), g2⟩⟩) (szle (by have := c.dsub_len; omega))
    refine ⟨S2, ?_, g1.trans g2⟩
    refine fin_of ((go_set hw).trans (go_ret ?_))
    show ev (pg.cal d) _ [some (cu c), some (.int (if c.isW then 0 else 1)), none] S = _
    simp_arith only [e2, maxd_loc k2 (ints_map (fun s : Ck => (s.ht : Int)) c.dsub)]
    rw [c.ht_sub]
    rcases c.dsub_two with hq | ⟨s, hq1, hq2⟩
    · rw [hq, Int.add_comm]
    · rw [hq1, hq2]
      simp [maxI]
      omega
end Pr

end

section
set_option maxHeartbeats 4000000
namespace Pr
open PySem L2 Oz
variable {S S' : Sto} {d : Nat}
/-! ### is it a check? -/
def lok (l : Lb) : Prop := 0 ≤ l.1 ∧ 0 ≤ l.2 ∧ l.2 < 2
theorem k_tt : kitB "tuple" "tuple" = some true := by decide +kernel
theorem k_ss : kitB "str" "str" = some true := by decide +kernel
theorem k_ii : kitB "int" "int" = some true := by decide +kernel
theorem k_ib : kitB "int" "bool" = some false := by decide +kernel
theorem lenT (us : List U) : bfU .len [.tup us] S = .ok (.int us.length) S := rfl
theorem isnum_eq {i : Int} (h : 1 ≤ d) : (pg.cal d).call "is_number" [.int i] S = .ok (.bl (decide (0 ≤ i))) S := by
  obtain ⟨d, rfl⟩ : ∃ e, d = e + 1 := ⟨d - 1, by omega⟩
  rw [call_eq (df := ⟨1, 1, false, T_is_number⟩) (by kernel_rfl), run_eq (by rfl)]
  unfold T_is_number
  simp_arith only [tyU, k_ii, k_ib]
theorem islab_eq {l : Lb} (h : 2 ≤ d) (hl : lok l) : (pg.cal d).call "is_label" [lu l] S = .ok (.bl true) S := by
  obtain ⟨d, rfl⟩ : ∃ e, d = e + 1 := ⟨d - 1, by omega⟩
  rw [call_eq (df := ⟨1, 3, false, T_is_label⟩) (by kernel_rfl), run_eq (by rfl)]
  unfold T_is_label
  simp_arith only [lu, tyU, k_tt, lenT, setN, setAll, decide_false, isnum_eq (d := d) (by omega), decide_true, hl.1, hl.2.1, hl.2.2, show (((2 : Nat) : Int) = 2) = True from by simp]
theorem isgr_eq (g : Gd) (h : 1 ≤ d) : (pg.cal d).call "is_ground" [.str g.nm] S = .ok (.bl true) S := by
  obtain ⟨d, rfl⟩ : ∃ e, d = e + 1 := ⟨d - 1, by omega⟩
  rw [call_eq (df := ⟨1, 1, false, T_is_ground⟩) (by kernel_rfl), run_eq (by rfl)]
  unfold T_is_ground
  simp_arith only [tyU, k_ss, ev_din (g_GT d), gt_at, Option.isSome]
theorem sgr_eq {c : Ck} {a b : Ty} (T : Tk c a b) (ha : a ≠ .any) (hd : 2 ≤ d) : (pg.cal d).call "source_ground" [cu c] S = .ok (.str c.sg.nm) S := by
  rcases T.next ha with hp | ⟨i, rfl, rfl, hip, hi⟩ | ⟨l, k, rfl, hk⟩
  · exact sground_eq hp (by omega)
  · obtain ⟨d, rfl⟩ : ∃ e, d = e + 1 := ⟨d - 1, by omega⟩
    rw [call_eq (df := ⟨1, 1, false, T_source_ground⟩) (by kernel_rfl), run_eq (by rfl)]
    unfold T_source_ground
    simp_arith only [ixc_hd, Ck.hd, decide_true, cix1, sground_eq (d := d) hip (by omega), Ck.sg]
  · obtain ⟨d, rfl⟩ : ∃ e, d = e + 1 := ⟨d - 1, by omega⟩
    rw [call_eq (df := ⟨1, 1, false, T_source_ground⟩) (by kernel_rfl), run_eq (by rfl)]
    have in1 : cmpU .in_ (.str "fail") (.tup [.str "same", .str "fail"]) S = .ok (.bl true) S := by kernel_rfl
    unfold T_source_ground
    simp_arith only [ixc_hd, Ck.hd, decide_false, sz2, in1, show ixU (cu (.fail a.gd l k)) (.int 1) S = .ok (.str a.gd.nm) S from rfl, Ck.sg]
def LG : List (Str × U) := [("any", .int 1), ("same", .int 2), ("fun", .int 3), ("pair", .int 3), ("box", .int 3), ("give", .int 2), ("fail", .int 4), ("take", .int 4)]
theorem g_LG (d : Nat) : (pg.cal d).gd "LENGTHS" = some LG := by rw [cal_gd]; rfl
theorem lg_at (c : Ck) : LG.lookup c.hd = some (.int c.its.length) := by cases c <;> rfl
def HE : U := .tup [.str "any", .str "give", .str "fail", .str "take", .str "same", .str "fun", .str "pair", .str "box"]
def PH : U := .tup [.str "same", .str "fun", .str "pair", .str "box"]
def TH : U := .tup [.str "same", .str "fun", .str "pair", .str "box", .str "give", .str "fail"]
theorem g_HE (d : Nat) : (pg.cal d).glo "HEADS" = some HE := by rw [cal_glo]; rfl
theorem g_PH (d : Nat) : (pg.cal d).glo "PLAIN_HEADS" = some PH := by rw [cal_glo]; rfl
theorem g_TH (d : Nat) : (pg.cal d).glo "TAKEN_HEADS" = some TH := by rw [cal_glo]; rfl
theorem g_MH (d : Nat) : (pg.cal d).glo "MOST_HEIGHT" = some (.int 60) := by rw [cal_glo]; rfl
theorem in_HE (c : Ck) : cmpU .notIn (.str c.hd) HE S = .ok (.bl false) S := by cases c <;> rfl
theorem in_PH {c : Ck} (h : c.pl = true) : cmpU .notIn (.str c.hd) PH S = .ok (.bl false) S := by
  cases c <;> first | exact absurd (show false = true from h) Bool.false_ne_true | rfl
theorem in_TH {c : Ck} {a b : Ty} (T : Tk c a b) (ha : a ≠ .any) : cmpU .notIn (.str c.hd) TH S = .ok (.bl false) S := by
  rcases T.next ha with hp | ⟨i, rfl, rfl, hip, hi⟩ | ⟨l, k, rfl, hk⟩
  · cases c <;> first | exact absurd (show false = true from hp) Bool.false_ne_true | rfl
  · rfl
  · rfl
theorem ischk_eq : ∀ (n : Nat) {c : Ck} {a b : Ty} (d : Nat) (S : Sto) (most : Int) (hs : U), Tk c a b → (∀ l ∈ c.ls, lok l) → c.dp ≤ n → (c.ht : Int) ≤ most → n + 4 ≤ d → (∀ S, cmpU .notIn (.str c.hd) hs S = .ok (.bl false) S) → (pg.cal d).call "is_check_of" [cu c, hs, .int most] S = .ok (.bl true) S
  | 0, c, a, b, d, S, most, hs, _, _, h, _, _, _ => absurd c.dp_pos (by omega)
  | n + 1, c, a, b, d, S, most, hs, T, hl, h, hm, hd, hh => by
    obtain ⟨d, rfl⟩ : ∃ e, d = e + 1 := ⟨d - 1, by omega⟩
    rw [call_eq (df := ⟨3, 8, false, T_is_check_of⟩) (by kernel_rfl), run_eq (by rfl)]
    show (exs (pg.cal d) T_is_check_of [some (cu c), some hs, some (.int most), none, none, none, none, none] S).fin = _
    unfold T_is_check_of
    have hp := c.ht_pos
    have m0 : ¬ most = 0 := by omega
    have l0 : ¬ ((c.its.length : Nat) : Int) = 0 := by cases c <;> simp [Ck.its]
    rw [go_skip (S' := S) (by simp_arith only [m0, decide_false, cu_its, tyU, k_tt, lenT, l0])]
    rw [go_skip (S' := S) (by simp_arith only [ixc_hd, hh, ev_gd (g_LG d), lg_at]; simp only [cu_its]; simp_arith only [lenT, decide_true])]
    cases T with
    | any => simp_arith only [cu]
    | @same g hg =>
      have e := in_sg (S := S) g
      rw [decide_eq_true hg] at e
      simp_arith only [cu, ev_g (g_SG d), e]
    | @fn s t x y z w h1 h2 =>
      simp only [Ck.dp] at h
      simp only [Ck.ht] at hm
      simp only [Ck.ls, List.mem_append] at hl
      have q1 := fun S => ischk_eq n d S (most - 1) HE h1 (fun l hx => hl l (.inl hx)) (by omega) (by omega) (by omega) (fun S => in_HE s)
      have q2 := fun S => ischk_eq n d S (most - 1) HE h2 (fun l hx => hl l (.inr hx)) (by omega) (by omega) (by omega) (fun S => in_HE t)
      have m1 : exc (pg.cal d) (.cons (.seq [.lit "any"]) (.cons (.ret (.k (.bl true))) .nil) (.cons (.seq [.lit "same", .cap 3]) (.cons (.ret (.cmp .in_ (.v 3) (.g "SAME_GROUNDS"))) .nil) (.cons (.seq [.lit "give", .cap 4]) (.cons (.ret (.call "is_check_of" (.cons (.v 4) (.cons (.g "PLAIN_HEADS") (.cons (.v 2) .nil))))) .nil) (.cons (.seq [.lit "fail", .cap 3, .cap 5, .cap 6]) (.cons (.ret (.and (.call "is_ground" (.cons (.v 3) .nil)) (.and (.call "is_label" (.cons (.v 5) .nil)) (.and (.call "is_ground" (.cons (.v 6) .nil)) (.cmp .ne (.v 3) (.v 6)))))) .nil) (.cons (.seq [.lit "take", .cap 3, .cap 5, .cap 7]) (.cons (.ret (.and (.call "is_label" (.cons (.v 5) .nil)) (.and (.call "is_check_of" (.cons (.v 7) (.cons (.g "TAKEN_HEADS") (.cons (.v 2) .nil)))) (.cmp .eq (.call "source_ground" (.cons (.v 7) .nil)) (.v 3))))) .nil) .nil))))) (cu (.fn s t)) [some (cu (.fn s t)), some hs, some (.int most), none, none, none, none, none] S = .nx [some (cu (.fn s t)), some hs, some (.int most), none, none, none, none, none] S := by
        simp only [cu]; simp_arith only [true_and]
      rw [go_mtch (ev_v' rfl) m1]
      simp_arith only [cix, ev_g (g_HE d), q1, q2]
    | @pr s t x y z w h1 h2 =>
      simp only [Ck.dp] at h
      simp only [Ck.ht] at hm
      simp only [Ck.ls, List.mem_append] at hl
      have q1 := fun S => ischk_eq n d S (most - 1) HE h1 (fun l hx => hl l (.inl hx)) (by omega) (by omega) (by omega) (fun S => in_HE s)
      have q2 := fun S => ischk_eq n d S (most - 1) HE h2 (fun l hx => hl l (.inr hx)) (by omega) (by omega) (by omega) (fun S => in_HE t)
      have m1 : exc (pg.cal d) (.cons (.seq [.lit "any"]) (.cons (.ret (.k (.bl true))) .nil) (.cons (.seq [.lit "same", .cap 3]) (.cons (.ret (.cmp .in_ (.v 3) (.g "SAME_GROUNDS"))) .nil) (.cons (.seq [.lit "give", .cap 4]) (.cons (.ret (.call "is_check_of" (.cons (.v 4) (.cons (.g "PLAIN_HEADS") (.cons (.v 2) .nil))))) .nil) (.cons (.seq [.lit "fail", .cap 3, .cap 5, .cap 6]) (.cons (.ret (.and (.call "is_ground" (.cons (.v 3) .nil)) (.and (.call "is_label" (.cons (.v 5) .nil)) (.and (.call "is_ground" (.cons (.v 6) .nil)) (.cmp .ne (.v 3) (.v 6)))))) .nil) (.cons (.seq [.lit "take", .cap 3, .cap 5, .cap 7]) (.cons (.ret (.and (.call "is_label" (.cons (.v 5) .nil)) (.and (.call "is_check_of" (.cons (.v 7) (.cons (.g "TAKEN_HEADS") (.cons (.v 2) .nil)))) (.cmp .eq (.call "source_ground" (.cons (.v 7) .nil)) (.v 3))))) .nil) .nil))))) (cu (.pr s t)) [some (cu (.pr s t)), some hs, some (.int most), none, none, none, none, none] S = .nx [some (cu (.pr s t)), some hs, some (.int most), none, none, none, none, none] S := by
        simp only [cu]; simp_arith only [true_and]
      rw [go_mtch (ev_v' rfl) m1]
      simp_arith only [cix, ev_g (g_HE d), q1, q2]
    | @bx s t x y h1 h2 =>
      simp only [Ck.dp] at h
      simp only [Ck.ht] at hm
      simp only [Ck.ls, List.mem_append] at hl
      have q1 := fun S => ischk_eq n d S (most - 1) HE h1 (fun l hx => hl l (.inl hx)) (by omega) (by omega) (by omega) (fun S => in_HE s)
      have q2 := fun S => ischk_eq n d S (most - 1) HE h2 (fun l hx => hl l (.inr hx)) (by omega) (by omega) (by omega) (fun S => in_HE t)
      have m1 : exc (pg.cal d) (.cons (.seq [.lit "any"]) (.cons (.ret (.k (.bl true))) .nil) (.cons (.seq [.lit "same", .cap 3]) (.cons (.ret (.cmp .in_ (.v 3) (.g "SAME_GROUNDS"))) .nil) (.cons (.seq [.lit "give", .cap 4]) (.cons (.ret (.call "is_check_of" (.cons (.v 4) (.cons (.g "PLAIN_HEADS") (.cons (.v 2) .nil))))) .nil) (.cons (.seq [.lit "fail", .cap 3, .cap 5, .cap 6]) (.cons (.ret (.and (.call "is_ground" (.cons (.v 3) .nil)) (.and (.call "is_label" (.cons (.v 5) .nil)) (.and (.call "is_ground" (.cons (.v 6) .nil)) (.cmp .ne (.v 3) (.v 6)))))) .nil) (.cons (.seq [.lit "take", .cap 3, .cap 5, .cap 7]) (.cons (.ret (.and (.call "is_label" (.cons (.v 5) .nil)) (.and (.call "is_check_of" (.cons (.v 7) (.cons (.g "TAKEN_HEADS") (.cons (.v 2) .nil)))) (.cmp .eq (.call "source_ground" (.cons (.v 7) .nil)) (.v 3))))) .nil) .nil))))) (cu (.bx s t)) [some (cu (.bx s t)), some hs, some (.int most), none, none, none, none, none] S = .nx [some (cu (.bx s t)), some hs, some (.int most), none, none, none, none, none] S := by
        simp only [cu]; simp_arith only [true_and]
      rw [go_mtch (ev_v' rfl) m1]
      simp_arith only [cix, ev_g (g_HE d), q1, q2]
    | @give s x h1 h2 h3 =>
      simp only [Ck.dp] at h
      simp only [Ck.ht] at hm
      have q := ischk_eq n d S most PH h3 hl (by omega) (by omega) (by omega) (fun S => in_PH h2)
      simp_arith only [show cu (Ck.give s) = .tup [.str "give", cu s] from rfl, Nat.reduceLeDiff, ev_g (g_PH d), q]
    | @fail x y l k h1 h2 =>
      have ec : (a.gd.nm = k.nm) = False := by
        rw [nm_inj]
        exact eq_false (Ne.symm h2)
      simp_arith only [show cu (Ck.fail a.gd l k) = .tup [.str "fail", .str a.gd.nm, lu l, .str k.nm] from rfl, Nat.reduceLeDiff, isgr_eq (d := d) a.gd (by omega), isgr_eq (d := d) k (by omega), islab_eq (d := d) (by omega) (hl l (by simp [Ck.ls])), ec, decide_false]
    | @take g l i y h1 =>
      simp only [Ck.dp] at h
      simp only [Ck.ht] at hm
      simp only [Ck.ls, List.mem_cons] at hl
      have q := ischk_eq n d S most TH h1 (fun l hx => hl l (.inr hx)) (by omega) (by omega) (by omega) (fun S => in_TH h1 (gty_ne g))
      have es := sgr_eq (d := d) (S := S) h1 (gty_ne g) (by omega)
      rw [(h1.src (gty_ne g)).1, gd_gty] at es
      simp_arith only [show cu (Ck.take g l i) = .tup [.str "take", .str g.nm, lu l, cu i] from rfl, Nat.reduceLeDiff, ev_g (g_TH d), q, islab_eq (d := d) (by omega) (hl l (.inl rfl)), es, decide_true]
theorem ischeck_eq {c : Ck} {a b : Ty} (T : Tk c a b) (hl : ∀ l ∈ c.ls, lok l) (h1 : c.dp ≤ 50) (h2 : c.ht ≤ 60) (hd : 60 ≤ d) : (pg.cal d).call "is_check" [cu c] S = .ok (.bl true) S := by
  obtain ⟨d, rfl⟩ : ∃ e, d = e + 1 := ⟨d - 1, by omega⟩
  rw [call_eq (df := ⟨1, 1, false, T_is_check⟩) (by kernel_rfl), run_eq (by rfl)]
  unfold T_is_check
  have q := ischk_eq c.dp d S 60 HE T hl (Nat.le_refl _) (by omega) (by omega) (fun S => in_HE c)
  simp_arith only [ev_g (g_HE d), ev_g (g_MH d), q]
end Pr

end

section
set_option maxHeartbeats 4000000
namespace Pr
open PySem L2 Oz
variable {S S' : Sto} {d : Nat}
theorem tk_sz {c : Ck} {a b : Ty} (h : Tk c a b) : c.sz + 3 ≤ 3 * 2 ^ c.ht ∧ (a ≠ .any → c.sz + 4 ≤ 3 * 2 ^ c.ht) ∧ (c.pl = true → c.sz + 5 ≤ 3 * 2 ^ c.ht) := by
  have two : ∀ x y : Nat, 2 ^ (1 + max x y) = 2 * 2 ^ max x y := fun x y => by rw [Nat.add_comm, Nat.pow_succ, Nat.mul_comm]
  have mono : ∀ {x y : Nat}, x ≤ y → 2 ^ x ≤ 2 ^ y := fun h => Nat.pow_le_pow_right (by decide) h
  induction h with
  | any => exact ⟨by decide, fun h => absurd rfl h, fun h => by cases h⟩
  | @same g hg => exact ⟨by simp [Ck.sz, Ck.ht], fun _ => by simp [Ck.sz, Ck.ht], fun _ => by simp [Ck.sz, Ck.ht]⟩
  | @fn s t _ _ _ _ _ _ ih1 ih2 =>
    have h1 := ih1.1; have h2 := ih2.1
    have m1 := mono (Nat.le_max_left s.ht t.ht); have m2 := mono (Nat.le_max_right s.ht t.ht)
    simp only [Ck.sz, Ck.ht, two]
    exact ⟨by omega, fun _ => by omega, fun _ => by omega⟩
  | @pr s t _ _ _ _ _ _ ih1 ih2 =>
    have h1 := ih1.1; have h2 := ih2.1
    have m1 := mono (Nat.le_max_left s.ht t.ht); have m2 := mono (Nat.le_max_right s.ht t.ht)
    simp only [Ck.sz, Ck.ht, two]
    exact ⟨by omega, fun _ => by omega, fun _ => by omega⟩
  | @bx s t _ _ _ _ ih1 ih2 =>
    have h1 := ih1.1; have h2 := ih2.1
    have m1 := mono (Nat.le_max_left s.ht t.ht); have m2 := mono (Nat.le_max_right s.ht t.ht)
    simp only [Ck.sz, Ck.ht, two]
    exact ⟨by omega, fun _ => by omega, fun _ => by omega⟩
  | give h1 h2 _ ih =>
    have := ih.2.2 h2
    simp only [Ck.sz, Ck.ht]
    exact ⟨by omega, fun _ => by omega, fun h => by cases h⟩
  | fail _ _ => exact ⟨by simp [Ck.sz, Ck.ht], fun _ => by simp [Ck.sz, Ck.ht], fun h => by cases h⟩
  | @take g l c b _ ih =>
    have := ih.2.1 (gty_ne g)
    simp only [Ck.sz, Ck.ht]
    exact ⟨by omega, fun h => absurd rfl h, fun h => by cases h⟩
theorem tn_tn (l : Lb) : tn (tn l) = l := by
  show (l.1, 1 - (1 - l.2)) = l
  rw [Int.sub_sub_self]
end Pr

end

section
set_option maxHeartbeats 4000000
namespace Pr
open PySem L2 Oz
variable {S S' : Sto} {d : Nat}
theorem sz1' : (1 ≤ sizeLine) = True := by decide
theorem zip_dep {a b : Ty} {n : Nat} {p : Ty × Ty} (hp : p ∈ a.pt.zip b.pt) (ha : a.dep ≤ n + 1) (hb : b.dep ≤ n + 1) : p.1.dep ≤ n ∧ p.2.dep ≤ n := by
  have h1 := a.dep_pt (List.of_mem_zip hp).1
  have h2 := b.dep_pt (List.of_mem_zip hp).2
  omega
theorem zip_len (a b : Ty) : (a.pt.zip b.pt).length ≤ 2 := by
  have := a.pt_len
  rw [List.length_zip]
  omega
theorem ground_eq (a : Ty) (S : Sto) : (pg.cal (d + 1)).call "ground" [tu a] S = .ok (.str a.hd) S := by
  rw [call_eq (df := ⟨1, 1, false, T_ground⟩) (by kernel_rfl), run_eq (by rfl)]
  unfold T_ground
  simp_arith only [ix_hd]
def Ty.gt : Ty → Ty
  | .fn _ _ => .fn .any .any | .pr _ _ => .pr .any .any | .bx _ => .bx .any | a => a
theorem gtypeT_eq (a : Ty) (h : a ≠ .any) (S : Sto) : (pg.cal (d + 1)).call "ground_type" [.str a.hd] S = .ok (tu a.gt) S := by
  rw [call_eq (df := ⟨1, 1, false, T_ground_type⟩) (by kernel_rfl), run_eq (by rfl)]
  unfold T_ground_type
  have e : ev (pg.cal d) (.gd "GROUND_TYPES" (.v 0)) [some (.str a.hd)] S = .ok (tu a.gt) S := by
    rw [ev_gd (g_GT d), ev_v' rfl, bind_ok]
    cases a with
    | any => exact absurd rfl h
    | _ => rfl
  simp_arith only [Nat.sub_self, e]
theorem gt_facts (a : Ty) : a.gt.hd = a.hd ∧ a.gt.pt.length = a.pt.length ∧ (∀ p ∈ a.gt.pt, p = .any) ∧ a.gt.dep ≤ 2 := by
  cases a <;> simp [Ty.gt, Ty.hd, Ty.pt, Ty.dep]
end Pr

end

section
set_option maxHeartbeats 4000000
namespace Oz
open PySem L2
theorem bols_of : ∀ bs : List Bool, bolsU (bs.map U.bl) = some bs
  | [] => rfl
  | b :: bs => by simp [bolsU, bols_of bs]
theorem all_tup {S : Sto} (bs : List Bool) : bfU .all [.tup (bs.map U.bl)] S = .ok (.bl (bs.all id)) S := by
  show allF [.tup (bs.map U.bl)] S = _
  unfold allF
  simp only [bols_of]
section
variable {Φ : Cal} {env : Env} {elt : E} {es : Es} {S S0 : Sto} {us : List U} {i : Nat} {α : Type} {l : List α} {fu g : α → U}
theorem lczn_pure (he : evs Φ es env S = .ok us S0) (hz : zipNU us = some (l.map fu)) (h : PureAt Φ false [i] env elt l fu g) (hl : l.length ≤ sizeLine) : ∃ S', ev Φ (.lczn i elt es) env S = .ok (.loc S0.length) S' ∧ Gr S0 S' ∧ S'[S0.length]? = some (.lst (l.map g)) := by
  obtain ⟨S', e, g1, k⟩ := lcJ_pure (S := S0) h hl
  refine ⟨S', ?_, g1, k⟩
  rw [ev, he, bind_ok]
  simp only [hz]
  have e2 : (fun env S => (evt Φ .tt env S).noex) = fun (_ : Env) (S : Sto) => R.ok true S := by
    funext env S
    rfl
  rw [e2] at e
  exact e
end
end Oz
namespace Pr
open PySem L2 Oz
variable {S S' : Sto} {d : Nat}
def b4 (w x y z : Bool) : U := .tup [.bl w, .bl x, .bl y, .bl z]
/-! ### which sides are safe -/
def sa : Ty → Bool
  | .fn a b => decide (a = .any) && sa b | .pr a b => sa a && sa b | .bx a => decide (a = .any) | _ => true
def sf : Ty → Ty → Bool → Bool
  | .any, b, s => decide (b = .any) || !s
  | a, .any, s => s || sa a
  | .int, .int, _ => true | .bool, .bool, _ => true | .unit, .unit, _ => true
  | .fn a b, .fn c e, s => sf c a (!s) && sf b e s
  | .pr a b, .pr c e, s => sf a c s && sf b e s
  | .bx a, .bx c, s => sf a c s && sf c a (!s)
  | _, _, _ => false
termination_by a b => sizeOf a + sizeOf b
decreasing_by all_goals (simp only [Ty.fn.sizeOf_spec, Ty.pr.sizeOf_spec, Ty.bx.sizeOf_spec]; omega)
theorem sf_any (b : Ty) (s : Bool) : sf .any b s = (decide (b = .any) || !s) := by rw [sf]
theorem any_sf {a : Ty} (h : a ≠ .any) (s : Bool) : sf a .any s = (s || sa a) := by cases a <;> first | exact absurd rfl h | (rw [sf]; simp) | rw [sf]
theorem sf_ne {a b : Ty} (ha : a ≠ .any) (hb : b ≠ .any) (h : a.hd ≠ b.hd) (s : Bool) : sf a b s = false := by
  have h : ¬ a.kd = b.kd := fun z => h ((Ty.hd_kd a b).mpr z)
  cases a <;> cases b <;> first | exact absurd rfl ha | exact absurd rfl hb | exact absurd rfl h | (rw [sf] <;> simp)
theorem sf_gt {a : Ty} (h : a ≠ .any) : sf a a.gt false = sa a := by
  cases a with
  | any => exact absurd rfl h
  | int => show sf .int .int false = true; rw [sf]
  | bool => show sf .bool .bool false = true; rw [sf]
  | unit => show sf .unit .unit false = true; rw [sf]
  | fn x y =>
    rw [Ty.gt, sf, sf_any, sa]
    by_cases hy : y = .any
    · subst hy; rw [sf_any]; simp [sa]
    · rw [any_sf hy]; simp
  | pr x y =>
    rw [Ty.gt, sf, sa]
    by_cases hx : x = .any
    · subst hx
      rw [sf_any]
      by_cases hy : y = .any
      · subst hy; rw [sf_any]; simp [sa]
      · rw [any_sf hy]; simp [sa]
    · rw [any_sf hx]
      by_cases hy : y = .any
      · subst hy; rw [sf_any]; simp [sa]
      · rw [any_sf hy]; simp
  | bx x =>
    rw [Ty.gt, sf, sa, sf_any]
    by_cases hx : x = .any
    · subst hx; rw [sf_any]; simp
    · rw [any_sf hx]; simp [hx]
def ss (a b : Ty) : U := b4 (sf a b false) (sf a b true) (sf b a false) (sf b a true)
theorem g_ALL (d : Nat) : (pg.cal d).glo "ALL_SAFE" = some (b4 true true true true) := by rw [cal_glo]; rfl
theorem g_NONE (d : Nat) : (pg.cal d).glo "NONE_SAFE" = some (b4 false false false false) := by rw [cal_glo]; rfl
theorem dep_gt (a : Ty) (h : a ≠ .any) : a.gt.dep ≤ a.dep := by
  cases a with
  | any => exact absurd rfl h
  | fn a b => have := a.dep_pos; have := b.dep_pos; simp only [Ty.gt, Ty.dep]; omega
  | pr a b => have := a.dep_pos; have := b.dep_pos; simp only [Ty.gt, Ty.dep]; omega
  | bx a => have := a.dep_pos; simp only [Ty.gt, Ty.dep]; omega
  | _ => exact Nat.le_refl _
theorem gt_ne {a : Ty} (h : a ≠ .any) : a.gt ≠ .any := by cases a <;> first | exact absurd rfl h | (intro e; cases e)
theorem gt_hd (a : Ty) : a.gt.hd = a.hd := (gt_facts a).1
/-- the end: a row for each side -/
def Tend : E := .bf .tup (.cons (.lczn 6 (.bf .all (.cons (.v 6) .nil)) (.cons (.g "ALL_SAFE") (.star (.v 3) .nil))) .nil)
theorem tend_run {Φ : Cal} {env : Oz.Env} {n : Nat} {us : List U} {l : List (List Bool)} (hA : Φ.glo "ALL_SAFE" = some (b4 true true true true)) (h3 : env[3]? = some (some (.loc n))) (hlen : 6 < env.length) (hn : S[n]? = some (.lst us)) (hz : zipNU (b4 true true true true :: us) = some (l.map fun bs => .tup (bs.map U.bl))) (hl : l.length ≤ 1000) :
    ∃ S', ev Φ Tend env S = .ok (.tup (l.map fun bs => U.bl (bs.all id))) S' ∧ Gr S S' := by
  obtain ⟨S', e, g, k⟩ := lczn_pure (Φ := Φ) (i := 6) (env := env) (elt := .bf .all (.cons (.v 6) .nil)) (es := .cons (.g "ALL_SAFE") (.star (.v 3) .nil)) (S := S) (S0 := S) (us := b4 true true true true :: us) (l := l) (fu := fun bs => .tup (bs.map U.bl)) (g := fun bs => U.bl (bs.all id))
    (by
      rw [evs_cons, ev_g hA, bind_ok, evs, ev_v' h3, bind_ok]
      simp only [items?, hn]
      rw [evs_nil, bind_ok, bind_ok, List.append_nil]) hz
    (fun bs hbs => ⟨_, rfl, fun S1 => ⟨S1, by
      have hv : ((wipeE env [6]).set 6 (some (U.tup (bs.map U.bl))))[6]? = some (some (U.tup (bs.map U.bl))) := by
        rw [List.getElem?_set_self]
        show 6 < (env.set 6 none).length
        rw [List.length_set]
        exact hlen
      rw [ev_bf, evs_cons, ev_v' hv, bind_ok, evs_nil, bind_ok, bind_ok, all_tup], Gr.refl⟩⟩) (szle hl)
  refine ⟨S', ?_, g⟩
  unfold Tend
  rw [ev_bf, evs_cons, e, bind_ok, evs_nil, bind_ok, bind_ok]
  exact tup_loc k
end Pr

end

section
set_option maxHeartbeats 4000000
namespace Pr
open PySem L2 Oz
variable {S S' : Sto} {d : Nat}
theorem hd_any {a : Ty} (h : a ≠ .any) : decide (a.hd = Ty.any.hd) = false := by
  cases a <;> first | exact absurd rfl h | rfl
theorem inside_run {Φ : Cal} {a b : Ty} (hh : a.hd = b.hd) (IH : ∀ (x y : Ty) (S : Sto), x ∈ a.pt → y ∈ b.pt → ∃ S', Φ.call "safe_sides" [tu x, tu y] S = .ok (ss x y) S' ∧ Gr S S') (S : Sto) :
    ∃ S', ev Φ (.lcz [4, 5] (.call "safe_sides" (.cons (.v 4) (.cons (.v 5) .nil))) (.cons (.sl (.v 0) (.so (.k (.int 1))) .no) (.cons (.sl (.v 1) (.so (.k (.int 1))) .no) .nil)) .tt) [some (tu a), some (tu b), none, none, none, none, none] S = .ok (.loc S.length) S' ∧ Gr S S' ∧ S'[S.length]? = some (.lst ((a.pt.zip b.pt).map fun p => ss p.1 p.2)) := by
  exact lcz_pure (Φ := Φ) (is := [4, 5]) (S0 := S) (f := tu) (xs := a.pt) (ys := b.pt) (g := fun p => ss p.1 p.2) (by simp_arith only [sl_pt]) (fun p hp => ⟨_, rfl, fun S1 => by
    obtain ⟨S2, e, g⟩ := IH p.1 p.2 S1 (List.of_mem_zip hp).1 (List.of_mem_zip hp).2
    exact ⟨S2, (by simp_arith only [wipeE]; exact e), g⟩⟩) (szle (by have := zip_len a b; omega))
def Tl : Sts := (.cons (.set false [3] (.lcz [4, 5] (.call "safe_sides" (.cons (.v 4) (.cons (.v 5) .nil))) (.cons (.sl (.v 0) (.so (.k (.int 1))) .no) (.cons (.sl (.v 1) (.so (.k (.int 1))) .no) .nil)) .tt)) (.cons (.if_ (.e (.cmp .eq (.ix (.v 0) (.k (.int 0))) (.k (.str "fun")))) (.cons (.sub (.v 3) (.k (.int 0)) (.rev (.ix (.v 3) (.k (.int 0))))) .nil) .nil) (.cons (.if_ (.e (.cmp .eq (.ix (.v 0) (.k (.int 0))) (.k (.str "box")))) (.cons (.ex (.bm .append (.v 3) (.cons (.rev (.ix (.v 3) (.k (.int 0)))) .nil))) .nil) .nil) (.cons (.ret Tend) .nil))))
theorem rev_b4 (w x y z : Bool) (S : Sto) : revU (b4 w x y z) S = .ok (b4 z y x w) S := rfl
theorem ev_rev0 {Φ : Cal} {env : Oz.Env} {n : Nat} {w x y z : Bool} {us : List U} (h3 : env[3]? = some (some (.loc n))) (hn : S[n]? = some (.lst (b4 w x y z :: us))) : ev Φ (.rev (.ix (.v 3) (.k (.int 0)))) env S = .ok (b4 z y x w) S := by
  rw [ev_rev, ev_ix, ev_v' h3, bind_ok, ev_k, bind_ok, ix_loc hn, show atI (b4 w x y z :: us) (0 : Int) = some (b4 w x y z) from atI_nat_own (xs := b4 w x y z :: us) (n := 0) rfl, bind_ok, rev_b4]
theorem tl_run {Φ : Cal} (hA : Φ.glo "ALL_SAFE" = some (b4 true true true true)) {a b : Ty} (ha : a ≠ .any) (hb : b ≠ .any) (hh : a.hd = b.hd) (IH : ∀ (x y : Ty) (S : Sto), x ∈ a.pt → y ∈ b.pt → ∃ S', Φ.call "safe_sides" [tu x, tu y] S = .ok (ss x y) S' ∧ Gr S S') (S : Sto) :
    ∃ S', exs Φ Tl [some (tu a), some (tu b), none, none, none, none, none] S = .ret (ss a b) S' ∧ Gr S S' := by
  unfold Tl
  obtain ⟨S1, e1, g1, k1⟩ := inside_run hh IH S
  rw [go_set e1]
  show ∃ S', exs Φ _ [some (tu a), some (tu b), none, some (.loc S.length), none, none, none] S1 = _ ∧ _
  have hl1 : S.length < S1.length := (List.getElem?_eq_some_iff.mp k1).1
  have tF : ∀ (k : Str) (S : Sto), evt Φ (.e (.cmp .eq (.ix (.v 0) (.k (.int 0))) (.k (.str k)))) [some (tu a), some (tu b), none, some (.loc S.length), none, none, none] S = .ok (decide (a.hd = k)) S := fun k S => by simp_arith only [ix_hd]
  have tG : ∀ (k : Str) (S2 : Sto), evt Φ (.e (.cmp .eq (.ix (.v 0) (.k (.int 0))) (.k (.str k)))) [some (tu a), some (tu b), none, some (.loc S.length), none, none, none] S2 = .ok (decide (a.hd = k)) S2 := fun k S2 => by simp_arith only [ix_hd]
  have hk : a.kd = b.kd := (Ty.hd_kd a b).mp hh
  have fin : ∀ {S2 : Sto} {us : List U} {l : List (List Bool)}, Gr S S2 → S2[S.length]? = some (.lst us) → zipNU (b4 true true true true :: us) = some (l.map fun bs => .tup (bs.map U.bl)) → l.length ≤ 1000 → (.tup (l.map fun bs => U.bl (bs.all id))) = ss a b → ∃ S', exs Φ (.cons (.ret Tend) .nil) [some (tu a), some (tu b), none, some (.loc S.length), none, none, none] S2 = .ret (ss a b) S' ∧ Gr S S' := by
    intro S2 us l g hn hz hl he
    obtain ⟨S3, e3, g3⟩ := tend_run (Φ := Φ) (env := [some (tu a), some (tu b), none, some (.loc S.length), none, none, none]) hA rfl (by decide : 6 < 7) hn hz hl
    exact ⟨S3, by rw [go_ret e3, he], g.trans g3⟩
  cases a with
  | any => exact absurd rfl ha
  | int =>
    cases b <;> first | (simp [Ty.kd] at hk; done) | skip
    rw [go_skip (tG _ S1), go_skip (tG _ S1)]
    exact fin (l := [[true], [true], [true], [true]]) g1 k1 rfl (by decide) (by unfold ss; rw [sf, sf]; rfl)
  | bool =>
    cases b <;> first | (simp [Ty.kd] at hk; done) | skip
    rw [go_skip (tG _ S1), go_skip (tG _ S1)]
    exact fin (l := [[true], [true], [true], [true]]) g1 k1 rfl (by decide) (by unfold ss; rw [sf, sf]; rfl)
  | unit =>
    cases b <;> first | (simp [Ty.kd] at hk; done) | skip
    rw [go_skip (tG _ S1), go_skip (tG _ S1)]
    exact fin (l := [[true], [true], [true], [true]]) g1 k1 rfl (by decide) (by unfold ss; rw [sf, sf]; rfl)
  | fn x y =>
    cases b <;> first | (simp [Ty.kd] at hk; done) | skip
    rename_i u v
    have k1' : S1[S.length]? = some (.lst [ss x u, ss y v]) := k1
    rw [exs_cons, ex_if, tG, on_ok, if_pos (show decide (Ty.hd (.fn x y) = "fun") = true from rfl), exs_cons, ex_sub, ev_rev0 (S := S1) (env := [some (tu (.fn x y)), some (tu (.fn u v)), none, some (.loc S.length), none, none, none]) rfl k1', on_ok, ev_v' (u := .loc S.length) rfl, on_ok, ev_k, on_ok]
    have es : setItemU (.loc S.length) (.int 0) (b4 (sf u x true) (sf u x false) (sf x u true) (sf x u false)) S1 = .ok () (S1.set S.length (.lst [b4 (sf u x true) (sf u x false) (sf x u true) (sf x u false), ss y v])) := by
      unfold setItemU
      simp only [k1']
      rfl
    rw [es, on_ok, then_nx, exs_nil, then_nx, go_skip (tG _ _)]
    refine fin (us := [b4 (sf u x true) (sf u x false) (sf x u true) (sf x u false), ss y v]) (l := [[true, sf u x true, sf y v false], [true, sf u x false, sf y v true], [true, sf x u true, sf v y false], [true, sf x u false, sf v y true]]) (g1.set_new (Nat.le_refl _)) (List.getElem?_set_self hl1) rfl (show 4 ≤ 1000 by decide) ?_
    unfold ss
    rw [sf, sf, sf, sf]
    simp [b4]
  | pr x y =>
    cases b <;> first | (simp [Ty.kd] at hk; done) | skip
    rename_i u v
    have k1' : S1[S.length]? = some (.lst [ss x u, ss y v]) := k1
    rw [go_skip (tG _ S1), go_skip (tG _ S1)]
    refine fin (us := [ss x u, ss y v]) (l := [[true, sf x u false, sf y v false], [true, sf x u true, sf y v true], [true, sf u x false, sf v y false], [true, sf u x true, sf v y true]]) g1 k1' rfl (show 4 ≤ 1000 by decide) ?_
    unfold ss
    rw [sf, sf, sf, sf]
    simp [b4]
  | bx x =>
    cases b <;> first | (simp [Ty.kd] at hk; done) | skip
    rename_i u
    have k1' : S1[S.length]? = some (.lst [ss x u]) := k1
    rw [go_skip (tG _ S1), exs_cons, ex_if, tG, on_ok, if_pos (show decide (Ty.hd (.bx x) = "box") = true from rfl)]
    have ea : ev Φ (.bm .append (.v 3) (.cons (.rev (.ix (.v 3) (.k (.int 0)))) .nil)) [some (tu (.bx x)), some (tu (.bx u)), none, some (.loc S.length), none, none, none] S1 = .ok .non (S1.set S.length (.lst [ss x u, b4 (sf u x true) (sf u x false) (sf x u true) (sf x u false)])) := by
      have ty : tyB .append (.loc S.length) S1 = true := by
        unfold tyB
        simp only [list?, k1', Option.isSome]
      have ap : bmU .append (.loc S.length) [b4 (sf u x true) (sf u x false) (sf x u true) (sf x u false)] S1 = .ok .non (S1.set S.length (.lst [ss x u, b4 (sf u x true) (sf u x false) (sf x u true) (sf x u false)])) := by
        unfold bmU appendF
        simp only [k1']
        rw [if_pos (show [ss x u].length < sizeLine from (by decide : 1 < sizeLine))]
        rfl
      rw [ev_bm, ev_v' (u := .loc S.length) rfl, bind_ok, ty, if_pos rfl, evs_cons, ev_rev0 (S := S1) (env := [some (tu (.bx x)), some (tu (.bx u)), none, some (.loc S.length), none, none, none]) rfl k1', bind_ok, evs_nil, bind_ok, bind_ok, ap]
    rw [exs_cons, ex_ex, ea, on_ok, then_nx, exs_nil, then_nx]
    refine fin (us := [ss x u, b4 (sf u x true) (sf u x false) (sf x u true) (sf x u false)]) (l := [[true, sf x u false, sf u x true], [true, sf x u true, sf u x false], [true, sf u x false, sf x u true], [true, sf u x true, sf x u false]]) (g1.set_new (Nat.le_refl _)) (List.getElem?_set_self hl1) rfl (show 4 ≤ 1000 by decide) ?_
    unfold ss
    rw [sf, sf, sf, sf]
    simp [b4]
end Pr

end

section
set_option maxHeartbeats 4000000
namespace Pr
open PySem L2 Oz
variable {S S' : Sto} {d : Nat}
theorem T_ss_eq : T_safe_sides = .cons (.if_ (.and (.e (.cmp .eq (.v 0) (.g "ANY"))) (.e (.cmp .eq (.v 1) (.g "ANY")))) (.cons (.ret (.g "ALL_SAFE")) .nil) .nil) (.cons (.if_ (.e (.cmp .eq (.v 1) (.g "ANY"))) (.cons (.ret (.call "safe_sides_to_any" (.cons (.v 0) .nil))) .nil) .nil) (.cons (.if_ (.e (.cmp .eq (.v 0) (.g "ANY"))) (.cons (.set false [2] (.call "safe_sides_to_any" (.cons (.v 1) .nil))) (.cons (.ret (.bin .add (.sl (.v 2) (.so (.k (.int 2))) .no) (.sl (.v 2) .no (.so (.k (.int 2)))))) .nil)) .nil) (.cons (.if_ (.e (.cmp .ne (.ix (.v 0) (.k (.int 0))) (.ix (.v 1) (.k (.int 0))))) (.cons (.ret (.g "NONE_SAFE")) .nil) .nil) (.cons (.if_ (.and (.e (.cmp .eq (.ix (.v 0) (.k (.int 0))) (.k (.str "pair")))) (.and (.e (.cmp .eq (.ix (.v 0) (.k (.int 1))) (.ix (.v 0) (.k (.int 2))))) (.e (.cmp .eq (.ix (.v 1) (.k (.int 1))) (.ix (.v 1) (.k (.int 2))))))) (.cons (.ret (.call "safe_sides" (.cons (.ix (.v 0) (.k (.int 1))) (.cons (.ix (.v 1) (.k (.int 1))) .nil)))) .nil) .nil) Tl)))) := rfl
theorem ss_to_any {n : Nat} {a : Ty} (h : a ≠ .any) (Q : ∀ S, ∃ S', (pg.cal (d + 1)).call "safe_sides" [tu a, tu a.gt] S = .ok (ss a a.gt) S' ∧ Gr S S') (S : Sto) : ∃ S', (pg.cal (d + 2)).call "safe_sides_to_any" [tu a] S = .ok (ss a .any) S' ∧ Gr S S' := by
  rw [call_eq (df := ⟨1, 2, false, T_safe_sides_to_any⟩) (by kernel_rfl), run_eq (by rfl)]
  show ∃ S', (exs (pg.cal (d + 1)) T_safe_sides_to_any [some (tu a), none] S).fin = _ ∧ _
  unfold T_safe_sides_to_any
  obtain ⟨S1, e1, g1⟩ := Q S
  rw [go_set (x := ss a a.gt) (S' := S1) (by
    rw [ev_call, evs_cons, ev_v' (u := tu a) rfl, bind_ok, evs_cons, ev_call, evs_cons, ev_call, evs_cons, ev_v' (u := tu a) rfl, bind_ok, evs_nil, bind_ok, bind_ok, ground_eq, bind_ok, evs_nil, bind_ok, bind_ok, gtypeT_eq a h, bind_ok, evs_nil, bind_ok, bind_ok, bind_ok, e1])]
  refine ⟨S1, fin_of (go_ret ?_), g1⟩
  show ev _ _ [some (tu a), some (ss a a.gt)] S1 = _
  have i0 : ixU (ss a a.gt) (.int 0) S1 = .ok (.bl (sf a a.gt false)) S1 := rfl
  rw [ev_tup, evs_cons, ev_ix, ev_v' (u := ss a a.gt) rfl, bind_ok, ev_k, bind_ok, i0, bind_ok, evs_cons, ev_k, bind_ok, evs_cons, ev_k, bind_ok, evs_cons, ev_k, bind_ok, evs_nil, bind_ok, bind_ok, bind_ok, bind_ok, bind_ok, if_pos (show [_, _, _, _].length ≤ sizeLine from (by decide : 4 ≤ sizeLine))]
  unfold ss b4
  rw [sf_gt h, any_sf h, any_sf h, sf_any, sf_any]
  simp [h]
theorem ss_eq : ∀ (n : Nat), n ≤ 15 → (∀ (a b : Ty) (d : Nat) (S : Sto), a.dep ≤ n → b.dep ≤ n → a ≠ .any → b ≠ .any → 3 * n ≤ d + 2 → ∃ S', (pg.cal d).call "safe_sides" [tu a, tu b] S = .ok (ss a b) S' ∧ Gr S S') ∧
    ∀ (a b : Ty) (d : Nat) (S : Sto), a.dep ≤ n → b.dep ≤ n → 3 * n ≤ d → ∃ S', (pg.cal d).call "safe_sides" [tu a, tu b] S = .ok (ss a b) S' ∧ Gr S S'
  | 0, _ => ⟨fun a b d S h _ _ _ _ => absurd a.dep_pos (by omega), fun a b d S h _ _ => absurd a.dep_pos (by omega)⟩
  | n + 1, hn => by
    obtain ⟨_, IH⟩ := ss_eq n (by omega)
    have eA : ∀ {t : Ty} {S : Sto}, t.dep ≤ n + 1 → cmpU .eq (tu t) (tu .any) S = .ok (.bl (decide (t = .any))) S := fun h => c_eq (by omega) (by decide)
    have tA : ∀ {i : Nat} {t : Ty} {d : Nat} {env : Oz.Env} {S : Sto}, env[i]? = some (some (tu t)) → t.dep ≤ n + 1 → evt (pg.cal d) (.e (.cmp .eq (.v i) (.g "ANY"))) env S = .ok (decide (t = .any)) S := fun {i t d env S} h ht => by
      rw [evt_e, ev_cmp, ev_v' h, bind_ok, ev_g (g_ANY d), bind_ok, eA ht, bind_ok]; rfl
    have Q : ∀ (a b : Ty) (d : Nat) (S : Sto), a.dep ≤ n + 1 → b.dep ≤ n + 1 → a ≠ .any → b ≠ .any → 3 * (n + 1) ≤ d + 2 → ∃ S', (pg.cal d).call "safe_sides" [tu a, tu b] S = .ok (ss a b) S' ∧ Gr S S' := by
      intro a b d S ha hb na nb hd
      obtain ⟨d, rfl⟩ : ∃ e, d = e + 1 := ⟨d - 1, by omega⟩
      rw [call_eq (df := ⟨2, 7, false, T_safe_sides⟩) (by kernel_rfl), run_eq (by rfl)]
      show ∃ S', (exs (pg.cal d) T_safe_sides [some (tu a), some (tu b), none, none, none, none, none] S).fin = _ ∧ _
      rw [T_ss_eq]
      rw [go_skip (S' := S) (by rw [evt_and, tA (t := a) rfl ha, decide_eq_false na, bind_ok]; rfl), go_skip (S' := S) (by rw [tA (t := b) rfl hb, decide_eq_false nb]), go_skip (S' := S) (by rw [tA (t := a) rfl ha, decide_eq_false na])]
      have tN : evt (pg.cal d) (.e (.cmp .ne (.ix (.v 0) (.k (.int 0))) (.ix (.v 1) (.k (.int 0))))) [some (tu a), some (tu b), none, none, none, none, none] S = .ok (!decide (a.hd = b.hd)) S := by simp_arith only [ix_hd]
      by_cases hh : a.hd = b.hd
      · rw [decide_eq_true hh] at tN
        rw [go_skip tN]
        have IHp : ∀ (x y : Ty) (S : Sto), x ∈ a.pt → y ∈ b.pt → ∃ S', (pg.cal d).call "safe_sides" [tu x, tu y] S = .ok (ss x y) S' ∧ Gr S S' := fun x y S hx hy => IH x y d S (by have := a.dep_pt hx; omega) (by have := b.dep_pt hy; omega) (by omega)
        obtain ⟨S2, e2, g2⟩ := tl_run (g_ALL d) na nb hh IHp S
        have tail := e2
        by_cases hp : ∃ x u, a = .pr x x ∧ b = .pr u u
        · obtain ⟨x, u, rfl, rfl⟩ := hp
          obtain ⟨S3, e3, g3⟩ := IHp x u S (by simp [Ty.pt]) (by simp [Ty.pt])
          refine ⟨S3, ?_, g3⟩
          simp only [Ty.dep] at ha hb
          have cx : ∀ {t : Ty} {S : Sto}, t.dep ≤ n → cmpU .eq (tu t) (tu t) S = .ok (.bl true) S := fun h => by rw [c_eq (by omega) (by omega)]; simp
          have i1 : ∀ (t : Ty) (S : Sto), ixU (tu (.pr t t)) (.int 1) S = .ok (tu t) S ∧ ixU (tu (.pr t t)) (.int 2) S = .ok (tu t) S := fun t S => ⟨rfl, rfl⟩
          have tt : evt (pg.cal d) (.and (.e (.cmp .eq (.ix (.v 0) (.k (.int 0))) (.k (.str "pair")))) (.and (.e (.cmp .eq (.ix (.v 0) (.k (.int 1))) (.ix (.v 0) (.k (.int 2))))) (.e (.cmp .eq (.ix (.v 1) (.k (.int 1))) (.ix (.v 1) (.k (.int 2))))))) [some (tu (.pr x x)), some (tu (.pr u u)), none, none, none, none, none] S = .ok true S := by
            simp_arith only [ix_hd, Ty.hd, decide_true, i1, cx (show x.dep ≤ n by omega), cx (show u.dep ≤ n by omega)]
          rw [exs_cons, ex_if, tt, on_ok, if_pos rfl, go_ret (u := ss x u) (S' := S3) (by
            rw [ev_call, evs_cons, ev_ix, ev_v' (u := tu (.pr x x)) rfl, bind_ok, ev_k, bind_ok, (i1 x S).1, bind_ok, evs_cons, ev_ix, ev_v' (u := tu (.pr u u)) rfl, bind_ok, ev_k, bind_ok, (i1 u S).1, bind_ok, evs_nil, bind_ok, bind_ok, bind_ok, e3]), then_ret]
          show R.ok _ _ = _
          unfold ss
          rw [show ∀ s, sf (.pr x x) (.pr u u) s = (sf x u s && sf x u s) from fun s => by rw [sf], show ∀ s, sf (.pr x x) (.pr u u) s = (sf x u s && sf x u s) from fun s => by rw [sf], show ∀ s, sf (.pr u u) (.pr x x) s = (sf u x s && sf u x s) from fun s => by rw [sf], show ∀ s, sf (.pr u u) (.pr x x) s = (sf u x s && sf u x s) from fun s => by rw [sf]]
          simp only [Bool.and_self]
        · refine ⟨S2, ?_, g2⟩
          have tt : evt (pg.cal d) (.and (.e (.cmp .eq (.ix (.v 0) (.k (.int 0))) (.k (.str "pair")))) (.and (.e (.cmp .eq (.ix (.v 0) (.k (.int 1))) (.ix (.v 0) (.k (.int 2))))) (.e (.cmp .eq (.ix (.v 1) (.k (.int 1))) (.ix (.v 1) (.k (.int 2))))))) [some (tu a), some (tu b), none, none, none, none, none] S = .ok false S := by
            have hk : a.kd = b.kd := (Ty.hd_kd a b).mp hh
            cases a with
            | pr x y =>
              cases b <;> first | (simp [Ty.kd] at hk; done) | skip
              rename_i u v
              simp only [Ty.dep] at ha hb
              have i1 : ∀ (t t' : Ty) (S : Sto), ixU (tu (.pr t t')) (.int 1) S = .ok (tu t) S ∧ ixU (tu (.pr t t')) (.int 2) S = .ok (tu t') S := fun t t' S => ⟨rfl, rfl⟩
              by_cases h1 : x = y
              · have h2 : ¬ u = v := fun e => hp ⟨x, u, by rw [h1], by rw [e]⟩
                subst h1
                simp_arith only [ix_hd, Ty.hd, decide_true, i1, c_eq (show x.dep ≤ 20 by omega) (show x.dep ≤ 20 by omega), c_eq (show u.dep ≤ 20 by omega) (show v.dep ≤ 20 by omega), h2, decide_false]
              · simp_arith only [ix_hd, Ty.hd, decide_true, i1, c_eq (show x.dep ≤ 20 by omega) (show y.dep ≤ 20 by omega), h1, decide_false]
            | _ => simp_arith only [ix_hd, Ty.hd, decide_false]
          rw [go_skip tt, tail]
          rfl
      · rw [decide_eq_false hh] at tN
        refine ⟨S, ?_, Gr.refl⟩
        rw [exs_cons, ex_if, tN, on_ok, if_pos (show (!false) = true from rfl), go_ret (u := b4 false false false false) (S' := S) (ev_g (g_NONE d)), then_ret]
        show R.ok _ _ = _
        unfold ss
        rw [sf_ne na nb hh, sf_ne na nb hh, sf_ne nb na (Ne.symm hh), sf_ne nb na (Ne.symm hh)]
    refine ⟨Q, fun a b d S ha hb hd => ?_⟩
    by_cases na : a = .any
    · subst na
      by_cases nb : b = .any
      · subst nb
        obtain ⟨d, rfl⟩ : ∃ e, d = e + 1 := ⟨d - 1, by omega⟩
        rw [call_eq (df := ⟨2, 7, false, T_safe_sides⟩) (by kernel_rfl), run_eq (by rfl)]
        show ∃ S', (exs (pg.cal d) T_safe_sides [some (tu .any), some (tu .any), none, none, none, none, none] S).fin = _ ∧ _
        rw [T_ss_eq]
        refine ⟨S, ?_, Gr.refl⟩
        rw [exs_cons, ex_if, evt_and, tA (t := .any) rfl ha, decide_eq_true rfl, bind_ok, if_pos rfl, tA (t := .any) rfl ha, decide_eq_true rfl, on_ok, if_pos rfl, go_ret (u := b4 true true true true) (S' := S) (ev_g (g_ALL d)), then_ret]
        show R.ok _ _ = _
        unfold ss
        rw [sf_any, sf_any]
        rfl
      · obtain ⟨d, rfl⟩ : ∃ e, d = e + 3 := ⟨d - 3, by omega⟩
        rw [call_eq (df := ⟨2, 7, false, T_safe_sides⟩) (by kernel_rfl), run_eq (by rfl)]
        show ∃ S', (exs (pg.cal (d + 2)) T_safe_sides [some (tu .any), some (tu b), none, none, none, none, none] S).fin = _ ∧ _
        rw [T_ss_eq]
        obtain ⟨S2, e2, g2⟩ := ss_to_any (n := n) (d := d) nb (fun S => Q b b.gt (d + 1) S hb (by have := dep_gt b nb; omega) nb (gt_ne nb) (by omega)) S
        rw [go_skip (S' := S) (by rw [evt_and, tA (t := .any) rfl ha, decide_eq_true rfl, bind_ok, if_pos rfl, tA (t := b) rfl hb, decide_eq_false nb]), go_skip (S' := S) (by rw [tA (t := b) rfl hb, decide_eq_false nb]), exs_cons, ex_if, tA (t := .any) rfl ha, decide_eq_true rfl, on_ok, if_pos rfl]
        refine ⟨S2, ?_, g2⟩
        rw [go_set (x := ss b .any) (S' := S2) (by rw [ev_call, evs_cons, ev_v' (u := tu b) rfl, bind_ok, evs_nil, bind_ok, bind_ok, e2])]
        have e3 : ev (pg.cal (d + 2)) (.bin .add (.sl (.v 2) (.so (.k (.int 2))) .no) (.sl (.v 2) .no (.so (.k (.int 2))))) [some (tu .any), some (tu b), some (ss b .any), none, none, none, none] S2 = .ok (ss .any b) S2 := rfl
        show ((exs (pg.cal (d + 2)) _ [some (tu .any), some (tu b), some (ss b .any), none, none, none, none] S2).then_ _).fin = _
        rw [go_ret e3, then_ret]
        rfl
    · by_cases nb : b = .any
      · subst nb
        obtain ⟨d, rfl⟩ : ∃ e, d = e + 3 := ⟨d - 3, by omega⟩
        rw [call_eq (df := ⟨2, 7, false, T_safe_sides⟩) (by kernel_rfl), run_eq (by rfl)]
        show ∃ S', (exs (pg.cal (d + 2)) T_safe_sides [some (tu a), some (tu .any), none, none, none, none, none] S).fin = _ ∧ _
        rw [T_ss_eq]
        obtain ⟨S2, e2, g2⟩ := ss_to_any (n := n) (d := d) na (fun S => Q a a.gt (d + 1) S ha (by have := dep_gt a na; omega) na (gt_ne na) (by omega)) S
        rw [go_skip (S' := S) (by rw [evt_and, tA (t := a) rfl ha, decide_eq_false na, bind_ok]; rfl), exs_cons, ex_if, tA (t := .any) rfl hb, decide_eq_true rfl, on_ok, if_pos rfl]
        refine ⟨S2, ?_, g2⟩
        rw [go_ret (u := ss a .any) (S' := S2) (by rw [ev_call, evs_cons, ev_v' (u := tu a) rfl, bind_ok, evs_nil, bind_ok, bind_ok, e2]), then_ret]
        rfl
      · exact Q a b d S ha hb na nb (by omega)
theorem safe_eq {a b : Ty} {s : Bool} (S : Sto) (ha : a.dep ≤ 8) (hb : b.dep ≤ 8) (hd : 25 ≤ d) : ∃ S', (pg.cal d).kcal "safe" [tu a, tu b, .int (if s then 1 else 0)] S = .ok (.bl (sf a b s)) S' ∧ Gr S S' := by
  obtain ⟨d, rfl⟩ : ∃ e, d = e + 1 := ⟨d - 1, by omega⟩
  rw [kcall_eq (df := ⟨3, 3, false, T_safe⟩) (by kernel_rfl), run_eq (by rfl)]
  show ∃ S', (exs (pg.cal d) T_safe [some (tu a), some (tu b), some (.int (if s then 1 else 0))] S).fin = _ ∧ _
  unfold T_safe
  obtain ⟨S1, e1, g1⟩ := (ss_eq 8 (by omega)).2 a b d S ha hb (by omega)
  refine ⟨S1, fin_of (go_ret ?_), g1⟩
  rw [ev_ix, ev_call, evs_cons, ev_v' (u := tu a) rfl, bind_ok, evs_cons, ev_v' (u := tu b) rfl, bind_ok, evs_nil, bind_ok, bind_ok, bind_ok, e1, bind_ok, ev_v' (u := .int (if s then 1 else 0)) rfl, bind_ok]
  cases s <;> rfl
end Pr

end

section
set_option maxHeartbeats 4000000
namespace Pr
open PySem L2 Oz
variable {S S' : Sto} {d st cl : Nat}
mutual
theorem ls_T : ∀ (a : Ty) (l : Lb), (∀ x ∈ (chkT a l).ls, x = l ∨ x = tn l)
  | .any, _ => by simp [chkT, Ck.ls]
  | .int, l => by simp [chkT, Ck.ls]
  | .bool, l => by simp [chkT, Ck.ls]
  | .unit, l => by simp [chkT, Ck.ls]
  | .fn a b, l => by
    intro x hx
    simp only [chkT, Ck.ls, List.mem_cons, List.mem_append] at hx
    rcases hx with rfl | hx | hx
    · exact .inl rfl
    · rcases ls_F a (tn l) x hx with q | q
      · exact .inr q
      · exact .inl (by rw [q]; simp [tn]; rw [Int.sub_sub_self])
    · exact ls_T b l x hx
  | .pr a b, l => by
    intro x hx
    simp only [chkT, Ck.ls, List.mem_cons, List.mem_append] at hx
    rcases hx with rfl | hx | hx
    · exact .inl rfl
    · exact ls_T a l x hx
    · exact ls_T b l x hx
  | .bx a, l => by
    intro x hx
    simp only [chkT, Ck.ls, List.mem_cons, List.mem_append] at hx
    rcases hx with rfl | hx | hx
    · exact .inl rfl
    · rcases ls_F a (tn l) x hx with q | q
      · exact .inr q
      · exact .inl (by rw [q]; simp [tn]; rw [Int.sub_sub_self])
    · exact ls_T a l x hx
theorem ls_F : ∀ (a : Ty) (l : Lb), (∀ x ∈ (chkF a l).ls, x = l ∨ x = tn l)
  | .any, _ => by simp [chkF, Ck.ls]
  | .int, l => by simp [chkF, Ck.ls]
  | .bool, l => by simp [chkF, Ck.ls]
  | .unit, l => by simp [chkF, Ck.ls]
  | .fn a b, l => by
    intro x hx
    simp only [chkF, Ck.ls, List.mem_append] at hx
    rcases hx with hx | hx
    · rcases ls_T a (tn l) x hx with q | q
      · exact .inr q
      · exact .inl (by rw [q]; simp [tn]; rw [Int.sub_sub_self])
    · exact ls_F b l x hx
  | .pr a b, l => by
    intro x hx
    simp only [chkF, Ck.ls, List.mem_append] at hx
    rcases hx with hx | hx
    · exact ls_F a l x hx
    · exact ls_F b l x hx
  | .bx a, l => by
    intro x hx
    simp only [chkF, Ck.ls, List.mem_append] at hx
    rcases hx with hx | hx
    · rcases ls_T a (tn l) x hx with q | q
      · exact .inr q
      · exact .inl (by rw [q]; simp [tn]; rw [Int.sub_sub_self])
    · exact ls_F a l x hx
end
theorem chk_ls : ∀ (n : Nat) {a b : Ty} {l : Lb}, a.dep + b.dep ≤ n → fits a b = true → ∀ x ∈ (chk a b l).ls, x = l ∨ x = tn l
  | 0, a, b, l, h, _ => absurd a.dep_pos (by omega)
  | n + 1, a, b, l, h, hf => by
    intro x hx
    by_cases na : a = .any
    · subst na; rw [any_chk] at hx; exact ls_T b l x hx
    by_cases nb : b = .any
    · subst nb; rw [chk_any] at hx; exact ls_F a l x hx
    cases a with
    | any => exact absurd rfl na
    | fn a1 a2 =>
      cases b with
      | fn b1 b2 =>
        simp only [fits, Bool.and_eq_true] at hf
        simp only [Ty.dep] at h
        rw [chk] at hx
        simp only [Ck.ls, List.mem_append] at hx
        rcases hx with hx | hx
        · rcases chk_ls n (by omega) (fits_symm hf.1) x hx with q | q
          · exact .inr q
          · exact .inl (by rw [q, tn_tn])
        · exact chk_ls n (by omega) hf.2 x hx
      | any => exact absurd rfl nb
      | _ => exact absurd (show false = true from hf) Bool.false_ne_true
    | pr a1 a2 =>
      cases b with
      | pr b1 b2 =>
        simp only [fits, Bool.and_eq_true] at hf
        simp only [Ty.dep] at h
        rw [chk] at hx
        simp only [Ck.ls, List.mem_append] at hx
        rcases hx with hx | hx
        · exact chk_ls n (by omega) hf.1 x hx
        · exact chk_ls n (by omega) hf.2 x hx
      | any => exact absurd rfl nb
      | _ => exact absurd (show false = true from hf) Bool.false_ne_true
    | bx a1 =>
      cases b with
      | bx b1 =>
        simp only [fits] at hf
        simp only [Ty.dep] at h
        rw [chk] at hx
        simp only [Ck.ls, List.mem_append] at hx
        rcases hx with hx | hx
        · rcases chk_ls n (by omega) (fits_symm hf) x hx with q | q
          · exact .inr q
          · exact .inl (by rw [q, tn_tn])
        · exact chk_ls n (by omega) hf x hx
      | any => exact absurd rfl nb
      | _ => exact absurd (show false = true from hf) Bool.false_ne_true
    | _ => cases b <;> first | exact absurd rfl nb | exact absurd (show false = true from hf) Bool.false_ne_true | (rw [chk] at hx; simp [Ck.ls] at hx)
theorem tn_ne (l : Lb) : tn l ≠ l := fun e => by
  have := congrArg Prod.snd e
  simp only [tn] at this
  omega
mutual
theorem mem_T : ∀ (a : Ty) (l : Lb), (l ∈ (chkT a l).ls ↔ a ≠ .any) ∧ tn l ∉ (chkT a l).ls
  | .any, l => by simp [chkT, Ck.ls]
  | .int, l => by simp [chkT, Ck.ls, tn_ne]
  | .bool, l => by simp [chkT, Ck.ls, tn_ne]
  | .unit, l => by simp [chkT, Ck.ls, tn_ne]
  | .fn a b, l => by
    have h1 := mem_F a (tn l); have h2 := mem_T b l
    simp [chkT, Ck.ls, tn_ne, h1.1, h2.2]
  | .pr a b, l => by
    have h1 := mem_T a l; have h2 := mem_T b l
    simp [chkT, Ck.ls, tn_ne, h1.2, h2.2]
  | .bx a, l => by
    have h1 := mem_F a (tn l); have h2 := mem_T a l
    simp [chkT, Ck.ls, tn_ne, h1.1, h2.2]
theorem mem_F : ∀ (a : Ty) (l : Lb), l ∉ (chkF a l).ls ∧ (tn l ∈ (chkF a l).ls ↔ sa a = false)
  | .any, l => by simp [chkF, Ck.ls, sa]
  | .int, l => by simp [chkF, Ck.ls, sa]
  | .bool, l => by simp [chkF, Ck.ls, sa]
  | .unit, l => by simp [chkF, Ck.ls, sa]
  | .fn a b, l => by
    have h1 := mem_T a (tn l); have h2 := mem_F b l
    rw [tn_tn] at h1
    simp only [chkF, Ck.ls, List.mem_append, sa, h1.1, h2.2, h1.2, h2.1, or_self, not_false_eq_true, true_and, Bool.and_eq_false_iff, decide_eq_false_iff_not]
  | .pr a b, l => by
    have h1 := mem_F a l; have h2 := mem_F b l
    simp only [chkF, Ck.ls, List.mem_append, sa, h1.1, h2.2, h1.2, h2.1, or_self, not_false_eq_true, true_and, Bool.and_eq_false_iff]
  | .bx a, l => by
    have h1 := mem_T a (tn l); have h2 := mem_F a l
    rw [tn_tn] at h1
    simp only [chkF, Ck.ls, List.mem_append, sa, h1.1, h2.2, h1.2, h2.1, or_self, not_false_eq_true, true_and, decide_eq_false_iff_not]
    constructor
    · intro h
      rcases h with h | h
      · exact h
      · intro e; subst e; cases h
    · exact Or.inl
end
theorem mem_chk : ∀ (n : Nat) {a b : Ty} {l : Lb}, a.dep + b.dep ≤ n → fits a b = true → (l ∈ (chk a b l).ls ↔ sf a b true = false) ∧ (tn l ∈ (chk a b l).ls ↔ sf a b false = false)
  | 0, a, b, l, h, _ => absurd a.dep_pos (by omega)
  | n + 1, a, b, l, h, hf => by
    by_cases ha : a = .any
    · subst ha
      have := mem_T b l
      rw [any_chk, sf_any, sf_any]
      simp [this.1, this.2]
    · by_cases hb : b = .any
      · subst hb
        have := mem_F a l
        rw [chk_any, any_sf ha, any_sf ha]
        simp [this.1, this.2]
      · cases a with
        | any => exact absurd rfl ha
        | int => cases b <;> first | exact absurd rfl hb | exact absurd (show false = true from hf) Bool.false_ne_true | (rw [chk, sf, sf]; simp [Ck.ls])
        | bool => cases b <;> first | exact absurd rfl hb | exact absurd (show false = true from hf) Bool.false_ne_true | (rw [chk, sf, sf]; simp [Ck.ls])
        | unit => cases b <;> first | exact absurd rfl hb | exact absurd (show false = true from hf) Bool.false_ne_true | (rw [chk, sf, sf]; simp [Ck.ls])
        | fn x y =>
          cases b <;> first | exact absurd rfl hb | exact absurd (show false = true from hf) Bool.false_ne_true | skip
          rename_i u v
          simp only [fits, Bool.and_eq_true] at hf
          simp only [Ty.dep] at h
          have h1 := mem_chk n (a := u) (b := x) (l := tn l) (by omega) (fits_symm hf.1)
          have h2 := mem_chk n (a := y) (b := v) (l := l) (by omega) hf.2
          rw [tn_tn] at h1
          rw [chk, sf, sf]
          simp only [Ck.ls, List.mem_append, h1.1, h1.2, h2.1, h2.2, Bool.and_eq_false_iff, Bool.not_true, Bool.not_false, and_self, iff_self]
        | pr x y =>
          cases b <;> first | exact absurd rfl hb | exact absurd (show false = true from hf) Bool.false_ne_true | skip
          rename_i u v
          simp only [fits, Bool.and_eq_true] at hf
          simp only [Ty.dep] at h
          have h1 := mem_chk n (a := x) (b := u) (l := l) (by omega) hf.1
          have h2 := mem_chk n (a := y) (b := v) (l := l) (by omega) hf.2
          rw [chk, sf, sf]
          simp only [Ck.ls, List.mem_append, h1.1, h1.2, h2.1, h2.2, Bool.and_eq_false_iff, and_self, iff_self]
        | bx x =>
          cases b <;> first | exact absurd rfl hb | exact absurd (show false = true from hf) Bool.false_ne_true | skip
          rename_i u
          simp only [fits] at hf
          simp only [Ty.dep] at h
          have h1 := mem_chk n (a := u) (b := x) (l := tn l) (by omega) (fits_symm hf)
          have h2 := mem_chk n (a := x) (b := u) (l := l) (by omega) hf
          rw [tn_tn] at h1
          rw [chk, sf, sf]
          simp only [Ck.ls, List.mem_append, h1.1, h1.2, h2.1, h2.2, Bool.and_eq_false_iff, Bool.not_true, Bool.not_false, and_self, iff_self]
          constructor
          · exact ⟨Or.symm, Or.symm⟩
          · exact ⟨Or.symm, Or.symm⟩
end Pr

end

section
set_option maxHeartbeats 4000000
namespace Pr
open PySem L2 Oz
variable {S S' : Sto} {d st cl : Nat}
/-! ### the program's labels -/
def LA : List (Str × U) := [("fail", .int 2), ("take", .int 2)]
theorem g_LA (d : Nat) : (pg.cal d).gd "LABEL_AT" = some LA := by rw [cal_gd]; rfl
def als : Ck → List Lb
  | .any => [] | .same _ => [] | .fail _ l _ => [l] | .take _ l c => l :: als c | .give c => als c
  | .fn s t => if s = t then als s else als s ++ als t
  | .pr s t => if s = t then als s else als s ++ als t
  | .bx s t => if s = t then als s else als s ++ als t
theorem als_dsub (c : Ck) : als c = c.own ++ c.dsub.flatMap als := by
  cases c with
  | any => rfl
  | same g => rfl
  | fail g l h => rfl
  | give c => simp [als, Ck.own, Ck.dsub, Ck.sub]
  | take g l c => simp [als, Ck.own, Ck.dsub, Ck.sub]
  | fn s t => by_cases h : s = t <;> simp [als, Ck.own, Ck.dsub, Ck.sub, h]
  | pr s t => by_cases h : s = t <;> simp [als, Ck.own, Ck.dsub, Ck.sub, h]
  | bx s t => by_cases h : s = t <;> simp [als, Ck.own, Ck.dsub, Ck.sub, h]
theorem als_len : ∀ c : Ck, (als c).length ≤ c.sz
  | .any => by simp [als, Ck.sz]
  | .same _ => by simp [als, Ck.sz]
  | .fail _ _ _ => by simp [als, Ck.sz]
  | .give c => by have := als_len c; simp only [als, Ck.sz]; omega
  | .take _ l c => by have := als_len c; simp only [als, Ck.sz, List.length_cons]; omega
  | .fn s t => by
    have := als_len s; have := als_len t
    simp only [als, Ck.sz]; split
    · omega
    · rw [List.length_append]; omega
  | .pr s t => by
    have := als_len s; have := als_len t
    simp only [als, Ck.sz]; split
    · omega
    · rw [List.length_append]; omega
  | .bx s t => by
    have := als_len s; have := als_len t
    simp only [als, Ck.sz]; split
    · omega
    · rw [List.length_append]; omega
def dL (acc : List Lb) (l : Lb) : List Lb := if l ∈ acc then acc else acc ++ [l]
theorem mg_step (acc z : List Lb) (y : Lb) : dL (mg acc z) y = mg acc (dL z y) := by
  unfold dL
  by_cases hz : y ∈ z
  · rw [if_pos (mg_mem.mpr (.inr hz)), if_pos hz]
  · rw [if_neg hz]
    by_cases ha : y ∈ acc
    · rw [if_pos (mg_mem.mpr (.inl ha))]
      simp [mg, List.filter_append, ha]
    · rw [if_neg (fun h => (mg_mem.mp h).elim ha hz)]
      simp [mg, List.filter_append, ha]
theorem fold_mg : ∀ (ys acc z : List Lb), ys.foldl dL (mg acc z) = mg acc (ys.foldl dL z)
  | [], _, _ => rfl
  | y :: ys, acc, z => by rw [List.foldl_cons, List.foldl_cons, mg_step, fold_mg ys]
theorem mg_nil (xs : List Lb) : mg [] xs = xs := by simp [mg]
theorem nil_mg (xs : List Lb) : mg xs [] = xs := by simp [mg]
theorem mg_self (xs : List Lb) : mg xs xs = xs := by
  unfold mg
  have : xs.filter (fun x => decide (x ∉ xs)) = [] := by
    rw [List.filter_eq_nil_iff]
    intro x hx
    simp [hx]
  rw [this, List.append_nil]
theorem dd_als : ∀ c : Ck, (als c).foldl dL [] = c.lbs
  | .any => rfl
  | .same _ => rfl
  | .fail _ _ _ => by simp [als, dL, Ck.lbs]
  | .give c => by simp only [als, Ck.lbs, mg_nil]; exact dd_als c
  | .take _ l c => by
    simp only [als, Ck.lbs, List.foldl_cons]
    have := fold_mg (als c) [l] []
    rw [nil_mg, dd_als c] at this
    exact this
  | .fn s t => by
    simp only [als, Ck.lbs, mg_nil]
    split
    · rename_i h; rw [← h, dd_als s, mg_self]
    · rw [List.foldl_append, dd_als s]
      have := fold_mg (als t) s.lbs []
      rw [nil_mg, dd_als t] at this
      exact this
  | .pr s t => by
    simp only [als, Ck.lbs, mg_nil]
    split
    · rename_i h; rw [← h, dd_als s, mg_self]
    · rw [List.foldl_append, dd_als s]
      have := fold_mg (als t) s.lbs []
      rw [nil_mg, dd_als t] at this
      exact this
  | .bx s t => by
    simp only [als, Ck.lbs, mg_nil]
    split
    · rename_i h; rw [← h, dd_als s, mg_self]
    · rw [List.foldl_append, dd_als s]
      have := fold_mg (als t) s.lbs []
      rw [nil_mg, dd_als t] at this
      exact this
def lk (l : Lb) : List Key := [.inl l.1, .inl l.2]
theorem lk_inj {a b : Lb} : lk a = lk b ↔ a = b := by
  constructor
  · intro h
    simp only [lk, List.cons.injEq, Sum.inl.injEq, and_true] at h
    exact Prod.ext h.1 h.2
  · intro h; rw [h]
theorem dd1_lk (acc : List Lb) (l : Lb) : dd1 (acc.map lk) (lk l) = (dL acc l).map lk := by
  have e : ((acc.map lk).any fun j => decide (j = lk l)) = decide (l ∈ acc) := by
    induction acc with
    | nil => rfl
    | cons a acc ih =>
      rw [List.map_cons, List.any_cons, ih]
      by_cases h : a = l
      · subst h; simp
      · have h1 : ¬ lk a = lk l := fun e => h (lk_inj.mp e)
        have h2 : ¬ l = a := fun e => h e.symm
        simp [h1, h2]
  unfold dd1 dL
  rw [e]
  by_cases h : l ∈ acc <;> simp [h]
theorem dd_lk : ∀ (ls acc : List Lb), (ls.map lk).foldl dd1 (acc.map lk) = (ls.foldl dL acc).map lk
  | [], _ => rfl
  | l :: ls, acc => by rw [List.map_cons, List.foldl_cons, List.foldl_cons, dd1_lk, dd_lk ls]
theorem key_lk : ∀ ls : List Lb, keyTs (ls.map lu) = some (ls.map lk)
  | [] => rfl
  | l :: ls => by
    rw [List.map_cons, keyTs, key_lk ls]
    rfl
theorem uk_lk (ls : List Lb) : ((ls.map lk).map fun k => U.tup (k.map uK)) = ls.map lu := by
  rw [List.map_map]
  apply List.map_congr_left
  intro l _
  rfl
theorem own_step (c : Ck) {Φ : Cal} {rest : Sts} {n : Nat} {x2 : Option U} {S0 : Sto} (hg : Φ.gd "LABEL_AT" = some LA) (k0 : S0[n]? = some (.lst [])) :
    ∃ S1, exs Φ (.cons (.if_ (.e (.din "LABEL_AT" (.ix (.v 0) (.k (.int 0))))) (.cons (.ex (.bm .append (.v 1) (.cons (.ix (.v 0) (.gd "LABEL_AT" (.ix (.v 0) (.k (.int 0))))) .nil))) .nil) .nil) rest) [some (cu c), some (.loc n), x2] S0 = exs Φ rest [some (cu c), some (.loc n), x2] S1 ∧ (S1 = S0 ∨ S1 = S0.set n (.lst (c.own.map lu))) ∧ S1[n]? = some (.lst (c.own.map lu)) := by
  have hn : n < S0.length := (List.getElem?_eq_some_iff.mp k0).1
  have et : evt Φ (.e (.din "LABEL_AT" (.ix (.v 0) (.k (.int 0))))) [some (cu c), some (.loc n), x2] S0 = .ok (LA.lookup c.hd).isSome S0 := by
    rw [evt_e, ev_din hg, ev_ix, ev_v' (u := cu c) rfl, bind_ok, ev_k, bind_ok, ixc_hd, bind_ok]
    rfl
  have skip : c.own = [] → (LA.lookup c.hd).isSome = false → ∃ S1, exs Φ (.cons (.if_ (.e (.din "LABEL_AT" (.ix (.v 0) (.k (.int 0))))) (.cons (.ex (.bm .append (.v 1) (.cons (.ix (.v 0) (.gd "LABEL_AT" (.ix (.v 0) (.k (.int 0))))) .nil))) .nil) .nil) rest) [some (cu c), some (.loc n), x2] S0 = exs Φ rest [some (cu c), some (.loc n), x2] S1 ∧ (S1 = S0 ∨ S1 = S0.set n (.lst (c.own.map lu))) ∧ S1[n]? = some (.lst (c.own.map lu)) := fun h1 h2 => by
    rw [h2] at et
    exact ⟨S0, go_skip et, .inl rfl, by rw [h1]; exact k0⟩
  have put : ∀ l : Lb, c.own = [l] → (LA.lookup c.hd).isSome = true → ev Φ (.ix (.v 0) (.gd "LABEL_AT" (.ix (.v 0) (.k (.int 0))))) [some (cu c), some (.loc n), x2] S0 = .ok (lu l) S0 → ∃ S1, exs Φ (.cons (.if_ (.e (.din "LABEL_AT" (.ix (.v 0) (.k (.int 0))))) (.cons (.ex (.bm .append (.v 1) (.cons (.ix (.v 0) (.gd "LABEL_AT" (.ix (.v 0) (.k (.int 0))))) .nil))) .nil) .nil) rest) [some (cu c), some (.loc n), x2] S0 = exs Φ rest [some (cu c), some (.loc n), x2] S1 ∧ (S1 = S0 ∨ S1 = S0.set n (.lst (c.own.map lu))) ∧ S1[n]? = some (.lst (c.own.map lu)) := fun l h1 h2 h3 => by
    rw [h2] at et
    refine ⟨S0.set n (.lst (c.own.map lu)), ?_, .inr rfl, List.getElem?_set_self hn⟩
    rw [go_if et, if_pos rfl, go_ex (u := .non) (S' := S0.set n (.lst (c.own.map lu))) (by rw [ev_bm, ev_v' (u := .loc n) rfl, bind_ok, ty_app k0, if_pos rfl, evs_cons, h3, bind_ok, evs_nil, bind_ok, bind_ok, app_loc k0 (by decide), h1]; rfl), exs_nil, then_nx]
  cases c with
  | fail g l h =>
    refine put l rfl rfl ?_
    rw [ev_ix, ev_v' (u := cu (.fail g l h)) rfl, bind_ok, ev_gd hg, ev_ix, ev_v' (u := cu (.fail g l h)) rfl, bind_ok, ev_k, bind_ok, ixc_hd, bind_ok]
    rfl
  | take g l c =>
    refine put l rfl rfl ?_
    rw [ev_ix, ev_v' (u := cu (.take g l c)) rfl, bind_ok, ev_gd hg, ev_ix, ev_v' (u := cu (.take g l c)) rfl, bind_ok, ev_k, bind_ok, ixc_hd, bind_ok]
    rfl
  | _ => exact skip rfl rfl
theorem lu_cu (l : Lb) (c : Ck) : lu l ≠ cu c := by intro h; cases c <;> simp [lu, cu] at h
theorem alabels_eq : ∀ (n : Nat) (c : Ck) (d : Nat) (S : Sto), c.dp ≤ n → c.dp ≤ 50 → c.sz ≤ 1000 → n + 3 ≤ d → ∃ m S', (pg.cal d).call "all_labels" [cu c] S = .ok (.loc m) S' ∧ Gr S S' ∧ S'[m]? = some (.lst ((als c).map lu))
  | 0, c, d, S, h, _, _, _ => absurd c.dp_pos (by omega)
  | n + 1, c, d, S, h, hc, hz, hd => by
    obtain ⟨d, rfl⟩ : ∃ e, d = e + 1 := ⟨d - 1, by omega⟩
    rw [call_eq (df := ⟨1, 3, false, T_all_labels⟩) (by kernel_rfl), run_eq (by rfl)]
    show ∃ m S', (exs (pg.cal d) T_all_labels [some (cu c), none, none] S).fin = _ ∧ _
    unfold T_all_labels
    rw [go_set (x := .loc S.length) (S' := S ++ [.lst []]) rfl]
    have kn0 : (S ++ [Cel.lst []])[S.length]? = some (.lst []) := last_get
    have g00 : Gr S (S ++ [Cel.lst []]) := Gr.push
    generalize S ++ [Cel.lst []] = Sa at *
    show ∃ m S', (exs (pg.cal d) _ [some (cu c), some (.loc S.length), none] Sa).fin = _ ∧ _
    obtain ⟨S0, e0, hs, kn⟩ := own_step c (Φ := pg.cal d) (rest := (.cons (.for_ false [2] (.call "different_inside" (.cons (.v 0) .nil)) (.cons (.ex (.bm .extend (.v 1) (.cons (.call "all_labels" (.cons (.v 2) .nil)) .nil))) .nil)) (.cons (.ret (.v 1)) .nil))) (x2 := none) (g_LA d) kn0
    rw [e0]
    have g0 : Gr S S0 := by
      rcases hs with rfl | rfl
      · exact g00
      · exact g00.set_new (Nat.le_refl _)
    obtain ⟨m, S1, e1, g1, k1⟩ := dinside_eq (d := d) c S0 hc (by omega)
    have kn1 := g1.at_ kn
    have hmn : ∀ a, a ∈ c.dsub → m ≠ S.length := fun a ha e => by
      rw [e, kn1] at k1
      simp only [Option.some.injEq, Cel.lst.injEq] at k1
      have hm : cu a ∈ c.own.map lu := by rw [k1]; exact List.mem_map_of_mem ha
      obtain ⟨l, _, he⟩ := List.mem_map.mp hm
      exact lu_cu l a he
    have hlen : ∀ done a r, done ++ a :: r = c.dsub → (c.own ++ done.flatMap als).length + (als a).length ≤ 1000 := fun done a r he => by
      have h1 := als_len c
      rw [als_dsub, ← he] at h1
      simp only [List.flatMap_append, List.flatMap_cons, List.length_append] at h1 ⊢
      omega
    obtain ⟨env', S2, e2, ⟨x, he⟩, g2, kn2, km2⟩ := forI_inv (tp := false) (is := [2]) (f := fun env S => exs (pg.cal d) (.cons (.ex (.bm .extend (.v 1) (.cons (.call "all_labels" (.cons (.v 2) .nil)) .nil))) .nil) env S) (all := c.dsub.map cu) (src := some m) (L := c.dsub) (fu := cu)
      (fun done env Sx => (∃ x, env = [some (cu c), some (.loc S.length), x]) ∧ Gr S Sx ∧ Sx[S.length]? = some (.lst ((c.own ++ done.flatMap als).map lu)) ∧ Sx[m]? = some (.lst (c.dsub.map cu)))
      (fun done env Sx h => stays_lst h.2.2.2)
      (fun done a r env Sx he ⟨⟨x, hx⟩, gx, kx, mx⟩ => by
        have ha : a ∈ c.dsub := by rw [← he]; simp
        obtain ⟨q, S3, e3, g3, k3⟩ := alabels_eq n a d Sx (by have := Ck.sub_dp (Ck.dsub_mem ha); omega) (sub_dp' hc (Ck.dsub_mem ha)) (by have := sub_sz (Ck.dsub_mem ha); omega) (by omega)
        have kx3 := g3.at_ kx
        have mx3 := g3.at_ mx
        refine ⟨[some (cu c), some (.loc S.length), some (cu a)], by rw [hx]; rfl, [some (cu c), some (.loc S.length), some (cu a)], S3.set S.length (.lst ((c.own ++ done.flatMap als).map lu ++ (als a).map lu)), ?_, ⟨_, rfl⟩, (gx.trans g3).set_new (Nat.le_refl _), ?_, ?_⟩
        · show exs (pg.cal d) _ [some (cu c), some (.loc S.length), some (cu a)] Sx = _
          rw [go_ex (u := .non) (S' := S3.set S.length (.lst ((c.own ++ done.flatMap als).map lu ++ (als a).map lu))) (by
            rw [ev_bm, ev_v' (u := .loc S.length) rfl, bind_ok, ty_ext kx, if_pos rfl, evs_cons, ev_call, evs_cons, ev_v' (u := cu a) rfl, bind_ok, evs_nil, bind_ok, bind_ok, e3, bind_ok, evs_nil, bind_ok, bind_ok, extend_ok kx3 k3 (by rw [List.length_map, List.length_map]; exact szle (hlen done a r he))]), exs_nil]
        · rw [List.getElem?_set_self (List.getElem?_eq_some_iff.mp kx3).1]
          simp [List.flatMap_append]
        · rw [List.getElem?_set_ne (Ne.symm (hmn a ha))]
          exact mx3) c.dsub [] [some (cu c), some (.loc S.length), none] S1 rfl ⟨⟨_, rfl⟩, g0.trans g1, by simpa using kn1, k1⟩
    rw [go_for_loc (m := m) (S0 := S1) (us := c.dsub.map cu) (by show (pg.cal d).call "different_inside" [cu c] S0 = _; exact e1) k1 e2, he]
    exact ⟨S.length, S2, fin_of (go_ret rfl), g2, by rw [kn2, als_dsub]⟩
theorem labels_eq {c : Ck} (S : Sto) (hc : c.dp ≤ 50) (hz : c.sz ≤ 1000) (hd : 60 ≤ d) : ∃ m S', (pg.cal d).call "labels" [cu c] S = .ok (.loc m) S' ∧ Gr S S' ∧ S'[m]? = some (.lst (c.lbs.map lu)) := by
  obtain ⟨d, rfl⟩ : ∃ e, d = e + 1 := ⟨d - 1, by omega⟩
  rw [call_eq (df := ⟨1, 2, false, T_labels⟩) (by kernel_rfl), run_eq (by rfl)]
  show ∃ m S', (exs (pg.cal d) T_labels [some (cu c), none] S).fin = _ ∧ _
  unfold T_labels
  obtain ⟨m, S1, e1, g1, k1⟩ := alabels_eq c.dp c d S (Nat.le_refl _) hc hz (by omega)
  have hl : ((als c).map lu).length ≤ sizeLine ∧ 1 < ([some (cu c), none] : Oz.Env).length := ⟨by rw [List.length_map]; exact szle (Nat.le_trans (als_len c) hz), (by decide : 1 < 2)⟩
  have hdd : dd ((als c).map lk) = c.lbs.map lk := by
    have := dd_lk (als c) []
    rw [dd_als] at this
    exact this
  refine ⟨S1.length, S1 ++ [.lst (c.lbs.map lu)], fin_of (go_ret ?_), g1.trans Gr.push, last_get⟩
  have e2 : ev (pg.cal d) (.call "all_labels" (.cons (.v 0) .nil)) [some (cu c), none] S = .ok (.loc m) S1 := e1
  rw [ev, e2, bind_ok]
  simp only [iterU, k1, key_lk]
  rw [if_pos hl, hdd, uk_lk]
theorem eqUs_lu : ∀ ls : List Lb, eqUs (ls.map lu) (ls.map lu) = true
  | [] => rfl
  | l :: ls => by
    rw [List.map_cons]
    simp only [eqUs]
    rw [eqU_lu, eqUs_lu ls]
    simp
theorem ne_lbs {m k : Nat} {ls : List Lb} (h : S[m]? = some (.lst (ls.map lu))) (h' : S[k]? = some (.lst (ls.map lu))) : cmpU .ne (.loc m) (.loc k) S = .ok (.bl false) S := by
  have e : eqR (.loc m) (.loc k) S = some true := by
    unfold eqR
    simp only [list?, h, h', oks_lu, Bool.and_self, if_true, eqUs_lu]
  unfold cmpU cmpB
  rw [e]
  rfl
/-! ### heights -/
theorem Ty.dep_max (t : Ty) : (t.dep : Int) = 1 + (if 0 < (t.pt.map fun p => (p.dep : Int)).length then maxI (t.pt.map fun p => (p.dep : Int)) else 0) := by
  cases t <;> simp [Ty.dep, Ty.pt, maxI] <;> (try split) <;> omega
theorem lheight_eq : ∀ (n : Nat) (t : Ty) (d : Nat) (S : Sto), t.dep ≤ n → n ≤ d → ∃ S', (pg.cal d).call "_law_height" [tu t] S = .ok (.int t.dep) S' ∧ Gr S S'
  | 0, t, d, S, h, _ => absurd t.dep_pos (by omega)
  | n + 1, t, d, S, h, hd => by
    obtain ⟨d, rfl⟩ : ∃ e, d = e + 1 := ⟨d - 1, by omega⟩
    rw [call_eq (df := ⟨1, 2, false, T__law_height⟩) (by kernel_rfl), run_eq (by rfl)]
    unfold T__law_height
    obtain ⟨S1, e, g, k⟩ := lc_pure (Φ := pg.cal d) (tp := false) (is := [1]) (env := [some (tu t), none]) (elt := .call "_law_height" (.cons (.v 1) .nil)) (it := .sl (.v 0) (.so (.k (.int 1))) .no) (S := S) (S0 := S) (l := t.pt) (fu := tu) (g := fun p => .int p.dep) (by simp_arith only [sl_pt]) (fun p hp => ⟨_, rfl, fun S1 => by
      obtain ⟨S2, e2, g2⟩ := lheight_eq n p d S1 (by have := t.dep_pt hp; omega) (by omega)
      exact ⟨S2, (by simp_arith only [wipeE]; exact e2), g2⟩⟩) (szle (by have := t.pt_len; omega))
    refine ⟨S1, ?_, g⟩
    simp_arith only [e, maxd_loc k (ints_map (fun p : Ty => (p.dep : Int)) t.pt)]
    rw [Ty.dep_max]
end Pr

end

section
set_option maxHeartbeats 4000000
namespace Pr
open PySem L2 Oz
variable {S S' : Sto} {d st cl : Nat}
theorem shl1 {k : Nat} (h : k ≤ 100) : binU .shl (.int 1) (.int (k : Nat)) S = .ok (.int (2 ^ k : Nat)) S := by
  unfold binU
  simp only
  rw [if_pos ⟨by omega, by omega, by decide⟩]
  simp
def bi (s : Bool) : U := .int (if s then 1 else 0)
def HB : Sts := (.cons (.set false [8] (.kcall "safe" (.cons (.v 0) (.cons (.v 1) .nil)) (.cons (.v 7) .nil))) (.cons (.set false [9] (.tup (.cons (.v 2) (.cons (.bin .mod (.bin .add (.bin .add (.v 3) (.k (.int 1))) (.v 7)) (.k (.int 2))) .nil)))) (.cons (.if_ (.or (.and (.e (.cmp .isNotN (.v 8) (.k (.bl true)))) (.e (.cmp .isNotN (.v 8) (.k (.bl false))))) (.e (.cmp .eq (.v 8) (.cmp .in_ (.v 9) (.call "_law_labels" (.cons (.v 4) .nil)))))) (.cons (.ret (.k (.bl false))) .nil) .nil) .nil)))
theorem hb_eq {a b : Ty} {num side : Int} {x5 x6 x8 x9 : Option U} {s : Bool} (hd : 100 ≤ d) (ha : a.dep ≤ 5) (hb : b.dep ≤ 5) (hf : fits a b = true) (hs : 0 ≤ side ∧ side < 2) (S : Sto) :
    ∃ x8' x9' S', exs (pg.cal d) HB [some (tu a), some (tu b), some (.int num), some (.int side), some (cu (chk a b (num, side))), x5, x6, some (bi s), x8, x9] S = .nx [some (tu a), some (tu b), some (.int num), some (.int side), some (cu (chk a b (num, side))), x5, x6, some (bi s), x8', x9'] S' ∧ Gr S S' := by
  unfold HB
  have T := chk_tk (l := (num, side)) _ (Nat.le_refl _) hf
  have hh := chk_ht _ (l := (num, side)) (Nat.le_refl (a.dep + b.dep)) hf
  have hdp := (tk_dp T).1
  have hsz := (tk_sz T).1
  have h32 : 2 ^ (chk a b (num, side)).ht ≤ 2 ^ 5 := Nat.pow_le_pow_right (by decide) (by omega)
  obtain ⟨S1, e1, g1⟩ := safe_eq (d := d) (s := s) S (show a.dep ≤ 8 by omega) (show b.dep ≤ 8 by omega) (by omega)
  rw [go_set (x := .bl (sf a b s)) (S' := S1) (by
    rw [ev_kcall, evs_cons, ev_v' (u := tu a) rfl, bind_ok, evs_cons, ev_v' (u := tu b) rfl, bind_ok, evs_nil, bind_ok, bind_ok, bind_ok, evs_cons, ev_v' (u := bi s) rfl, bind_ok, evs_nil, bind_ok, bind_ok]
    exact e1)]
  -- the label
  have hl : ∃ l : Lb, l = (if s then (num, side) else tn (num, side)) ∧ binU .mod (.int (side + 1 + (if s then 1 else 0))) (.int 2) S1 = .ok (.int l.2) S1 ∧ l.1 = num := by
    refine ⟨_, rfl, ?_, by cases s <;> rfl⟩
    rw [mod_int (show (0 : Int) < 2 by decide)]
    cases s with
    | true =>
      have : (side + 1 + 1) % 2 = side := by omega
      simp [this]
    | false =>
      have : (side + 1 + 0) % 2 = 1 - side := by omega
      simp only [Bool.false_eq_true, if_false, tn]
      rw [this]
  obtain ⟨l, hle, hm, hl1⟩ := hl
  rw [go_set (x := lu l) (S' := S1) (by
    show ev (pg.cal d) _ [some (tu a), some (tu b), some (.int num), some (.int side), some (cu (chk a b (num, side))), x5, x6, some (bi s), some (.bl (sf a b s)), x9] S1 = _
    rw [ev_tup, evs_cons, ev_v' (u := .int num) rfl, bind_ok, evs_cons, ev_bin, ev_bin, ev_bin, ev_v' (u := .int side) rfl, bind_ok, ev_k, bind_ok, add_int, bind_ok, ev_v' (u := bi s) rfl, bind_ok]
    unfold bi
    rw [add_int, bind_ok, ev_k, bind_ok, hm, bind_ok, evs_nil, bind_ok, bind_ok, bind_ok, if_pos (show [_, _].length ≤ sizeLine from (by decide : 2 ≤ sizeLine))]
    unfold lu
    rw [hl1])]
  show ∃ x8' x9' S', exs (pg.cal d) _ [some (tu a), some (tu b), some (.int num), some (.int side), some (cu (chk a b (num, side))), x5, x6, some (bi s), some (.bl (sf a b s)), some (lu l)] S1 = _ ∧ _
  obtain ⟨m, S2, e2, g2, k2⟩ := llabels_eq (chk a b (num, side)).dp (chk a b (num, side)) d S1 (Nat.le_refl _) (by omega) (by omega)
  have hmem := mem_chk _ (l := (num, side)) (Nat.le_refl _) hf
  have hiff : decide (l ∈ (chk a b (num, side)).lbs) = !sf a b s := by
    rw [hle]
    cases s with
    | true =>
      have := hmem.1
      rw [if_pos rfl]
      cases h : sf a b true with
      | true => exact decide_eq_false fun h' => by rw [lbs_mem, this, h] at h'; cases h'
      | false => exact decide_eq_true (lbs_mem.mpr (this.mpr h))
    | false =>
      have := hmem.2
      rw [if_neg Bool.false_ne_true]
      cases h : sf a b false with
      | true => exact decide_eq_false fun h' => by rw [lbs_mem, this, h] at h'; cases h'
      | false => exact decide_eq_true (lbs_mem.mpr (this.mpr h))
  have t1 : evt (pg.cal d) (.and (.e (.cmp .isNotN (.v 8) (.k (.bl true)))) (.e (.cmp .isNotN (.v 8) (.k (.bl false))))) [some (tu a), some (tu b), some (.int num), some (.int side), some (cu (chk a b (num, side))), x5, x6, some (bi s), some (.bl (sf a b s)), some (lu l)] S1 = .ok false S1 := by
    have i1 : ∀ k : Bool, cmpU .isNotN (.bl (sf a b s)) (.bl k) S1 = .ok (.bl (!(sf a b s == k))) S1 := fun k => rfl
    rw [evt_and, evt_e, ev_cmp, ev_v' (u := .bl (sf a b s)) rfl, bind_ok, ev_k, bind_ok, i1, bind_ok]
    cases hs : sf a b s with
    | true => rfl
    | false =>
      show evt (pg.cal d) _ _ S1 = _
      rw [evt_e, ev_cmp, ev_v' (u := .bl (sf a b s)) (by rw [hs]; rfl), bind_ok, ev_k, bind_ok, i1, bind_ok, hs]
      rfl
  have t2 : evt (pg.cal d) (.e (.cmp .eq (.v 8) (.cmp .in_ (.v 9) (.call "_law_labels" (.cons (.v 4) .nil))))) [some (tu a), some (tu b), some (.int num), some (.int side), some (cu (chk a b (num, side))), x5, x6, some (bi s), some (.bl (sf a b s)), some (lu l)] S1 = .ok false S2 := by
    rw [evt_e, ev_cmp, ev_v' (u := .bl (sf a b s)) rfl, bind_ok, ev_cmp, ev_v' (u := lu l) rfl, bind_ok, ev_call, evs_cons, ev_v' (u := cu (chk a b (num, side))) rfl, bind_ok, evs_nil, bind_ok, bind_ok, e2, bind_ok, in_lu k2, bind_ok, hiff]
    cases sf a b s <;> rfl
  rw [go_skip (S' := S2) (by rw [evt_or, t1, bind_ok, if_neg Bool.false_ne_true, t2]), exs_nil]
  exact ⟨_, _, S2, rfl, g1.trans g2⟩
theorem holds_eq {a b : Ty} {num side : Int} (hd : 200 ≤ d) (ha : a.dep ≤ 5) (hb : b.dep ≤ 5) (hf : fits a b = true) (hn : 0 ≤ num) (hs : 0 ≤ side ∧ side < 2) (S : Sto) :
    ∃ S', (pg.cal d).call "_law_holds" [tu a, tu b, .int num, .int side] S = .ok (.bl true) S' ∧ Gr S S' := by
  obtain ⟨d, rfl⟩ : ∃ e, d = e + 1 := ⟨d - 1, by omega⟩
  rw [call_eq (df := ⟨4, 10, false, T__law_holds⟩) (by kernel_rfl), run_eq (by rfl)]
  show ∃ S', (exs (pg.cal d) T__law_holds [some (tu a), some (tu b), some (.int num), some (.int side), none, none, none, none, none, none] S).fin = _ ∧ _
  unfold T__law_holds
  have T := chk_tk (l := (num, side)) _ (Nat.le_refl _) hf
  have hh := chk_ht _ (l := (num, side)) (Nat.le_refl (a.dep + b.dep)) hf
  have hdp := (tk_dp T).1
  have hsz := (tk_sz T).1
  have h32 : 2 ^ (chk a b (num, side)).ht ≤ 2 ^ 5 := Nat.pow_le_pow_right (by decide) (by omega)
  have hls := chk_ls _ (l := (num, side)) (Nat.le_refl _) hf
  generalize hC : chk a b (num, side) = C at *
  have hlok : ∀ l ∈ C.ls, lok l := fun l hl => by
    rcases hls l hl with rfl | rfl
    · exact ⟨hn, hs.1, hs.2⟩
    · exact ⟨hn, by simp only [tn]; omega, by simp only [tn]; omega⟩
  have q0 := check_of_eq (d := d) (S := S) (k := num) (s := side) (show a.dep ≤ 8 by omega) (show b.dep ≤ 8 by omega) hf (by omega)
  rw [hC] at q0
  rw [go_set (x := cu C) (S' := S) (by
    rw [ev_kcall, evs_cons, ev_v' (u := tu a) rfl, bind_ok, evs_cons, ev_v' (u := tu b) rfl, bind_ok, evs_nil, bind_ok, bind_ok, bind_ok, evs_cons, ev_v' (u := .int num) rfl, bind_ok, evs_cons, ev_v' (u := .int side) rfl, bind_ok, evs_nil, bind_ok, bind_ok, bind_ok]
    exact q0)]
  show ∃ S', (exs (pg.cal d) _ [some (tu a), some (tu b), some (.int num), some (.int side), some (cu C), none, none, none, none, none] S).fin = _ ∧ _
  have q1 := (lcheck_eq 5 (by decide)).2 a b (num, side) d S ha hb hf (by omega)
  rw [hC] at q1
  have q2 := ischeck_eq (d := d) (S := S) T hlok (by omega) (by omega) (by omega)
  have t1 : evt (pg.cal d) (.e (.cmp .ne (.v 4) (.call "_law_check" (.cons (.v 0) (.cons (.v 1) (.cons (.v 2) (.cons (.v 3) .nil))))))) [some (tu a), some (tu b), some (.int num), some (.int side), some (cu C), none, none, none, none, none] S = .ok false S := by
    rw [evt_e, ev_cmp, ev_v' (u := cu C) rfl, bind_ok, ev_call, evs_cons, ev_v' (u := tu a) rfl, bind_ok, evs_cons, ev_v' (u := tu b) rfl, bind_ok, evs_cons, ev_v' (u := .int num) rfl, bind_ok, evs_cons, ev_v' (u := .int side) rfl, bind_ok, evs_nil, bind_ok, bind_ok, bind_ok, bind_ok, bind_ok, q1, bind_ok, cc_ne (by omega) (by omega), decide_eq_true rfl, bind_ok]
    rfl
  have t2 : evt (pg.cal d) (.e (.cmp .isNotN (.call "is_check" (.cons (.v 4) .nil)) (.k (.bl true)))) [some (tu a), some (tu b), some (.int num), some (.int side), some (cu C), none, none, none, none, none] S = .ok false S := by
    have isN : ∀ S, cmpU .isNotN (.bl true) (.bl true) S = .ok (.bl false) S := fun _ => rfl
    simp_arith only [q2, isN]
  rw [go_skip (S' := S) (by rw [evt_or, t1, bind_ok, if_neg Bool.false_ne_true, t2])]
  -- size, height
  obtain ⟨S1, e1, g1⟩ := lsize_eq C.dp C d S (Nat.le_refl _) (by omega)
  obtain ⟨S2, e2, g2⟩ := ldepth_eq C.dp C d S1 (Nat.le_refl _) (by omega)
  have ep : ex (pg.cal d) (.par 5 6 (.cons (.call "_law_size" (.cons (.v 4) .nil)) (.cons (.call "_law_depth" (.cons (.v 4) .nil)) .nil))) [some (tu a), some (tu b), some (.int num), some (.int side), some (cu C), none, none, none, none, none] S = .nx [some (tu a), some (tu b), some (.int num), some (.int side), some (cu C), some (.int C.sz), some (.int C.ht), none, none, none] S2 := by
    rw [ex, evs_cons, ev_call, evs_cons, ev_v' (u := cu C) rfl, bind_ok, evs_nil, bind_ok, bind_ok, e1, bind_ok, evs_cons, ev_call, evs_cons, ev_v' (u := cu C) rfl, bind_ok, evs_nil, bind_ok, bind_ok, e2, bind_ok, evs_nil, bind_ok, bind_ok, on_ok]
    rfl
  rw [exs_cons, ep, then_nx]
  obtain ⟨S3, e3, g3⟩ := csize_eq C.dp C d S2 (Nat.le_refl _) (by omega) (by omega) (by omega)
  obtain ⟨S4, e4, g4⟩ := cheight_eq C.dp C d S3 (Nat.le_refl _) (by omega) (by omega)
  obtain ⟨m5, S5, e5, g5, k5⟩ := labels_eq (d := d) (c := C) S4 (by omega) (by omega) (by omega)
  obtain ⟨m6, S6, e6, g6, k6⟩ := llabels_eq C.dp C d S5 (Nat.le_refl _) (by omega) (by omega)
  have t3 : evt (pg.cal d) (.e (.cmp .ne (.call "check_size" (.cons (.v 4) .nil)) (.v 5))) [some (tu a), some (tu b), some (.int num), some (.int side), some (cu C), some (.int C.sz), some (.int C.ht), none, none, none] S2 = .ok false S3 := by simp_arith only [e3, decide_true]
  have t4 : evt (pg.cal d) (.e (.cmp .ne (.call "check_height" (.cons (.v 4) .nil)) (.v 6))) [some (tu a), some (tu b), some (.int num), some (.int side), some (cu C), some (.int C.sz), some (.int C.ht), none, none, none] S3 = .ok false S4 := by simp_arith only [e4, decide_true]
  have t5 : evt (pg.cal d) (.e (.cmp .ne (.call "labels" (.cons (.v 4) .nil)) (.call "_law_labels" (.cons (.v 4) .nil)))) [some (tu a), some (tu b), some (.int num), some (.int side), some (cu C), some (.int C.sz), some (.int C.ht), none, none, none] S4 = .ok false S6 := by
    rw [evt_e, ev_cmp, ev_call, evs_cons, ev_v' (u := cu C) rfl, bind_ok, evs_nil, bind_ok, bind_ok, e5, bind_ok, ev_call, evs_cons, ev_v' (u := cu C) rfl, bind_ok, evs_nil, bind_ok, bind_ok, e6, bind_ok, ne_lbs (g6.at_ k5) k6, bind_ok]
    rfl
  rw [go_skip (S' := S6) (by rw [evt_or, t3, bind_ok, if_neg Bool.false_ne_true, evt_or, t4, bind_ok, if_neg Bool.false_ne_true, t5])]
  obtain ⟨S7, e7, g7⟩ := lheight_eq a.dep a d S6 (Nat.le_refl _) (by omega)
  obtain ⟨S8, e8, g8⟩ := lheight_eq b.dep b d S7 (Nat.le_refl _) (by omega)
  have mx : bfU .max2 [.int (a.dep : Nat), .int (b.dep : Nat)] S8 = .ok (.int (if ((b.dep : Nat) : Int) > (a.dep : Nat) then (b.dep : Nat) else (a.dep : Nat))) S8 := rfl
  have ng : ¬ ((if ((b.dep : Nat) : Int) > (a.dep : Nat) then ((b.dep : Nat) : Int) else (a.dep : Nat)) < (C.ht : Nat)) := by
    split <;> omega
  have ng2 : ¬ ((3 : Int) * (2 ^ C.ht : Nat) - 3 < (C.sz : Nat)) := by
    have := hsz
    omega
  rw [go_skip (S' := S8) (by
    simp_arith only [e7, e8, mx, ng, decide_false, shl1 (k := C.ht) (by omega), mul_int (mul_r (i := 3) (j := ((2 ^ C.ht : Nat) : Int)) (by omega) (by omega)), ng2])]
  -- which sides are safe
  have e0 : ev (pg.cal d) (.lst (.cons (.k (.int 0)) (.cons (.k (.int 1)) .nil))) [some (tu a), some (tu b), some (.int num), some (.int side), some (cu C), some (.int C.sz), some (.int C.ht), none, none, none] S8 = .ok (.loc S8.length) (S8 ++ [.lst ([false, true].map bi)]) := rfl
  have k0 : (S8 ++ [Cel.lst ([false, true].map bi)])[S8.length]? = some (.lst ([false, true].map bi)) := last_get
  have g0 : Gr S8 (S8 ++ [Cel.lst ([false, true].map bi)]) := Gr.push
  generalize S8 ++ [Cel.lst ([false, true].map bi)] = S9 at *
  obtain ⟨env', SA, eA, ⟨x7, x8, x9, he⟩, gA⟩ := forI_inv (tp := false) (is := [7]) (f := fun env S => exs (pg.cal d) HB env S) (all := [false, true].map bi) (src := some S8.length) (L := [false, true]) (fu := bi)
    (fun done env Sx => (∃ x7 x8 x9, env = [some (tu a), some (tu b), some (.int num), some (.int side), some (cu C), some (.int C.sz), some (.int C.ht), x7, x8, x9]) ∧ Gr S9 Sx)
    (fun done env Sx h => stays_lst (h.2.at_ k0))
    (fun done s r env Sx he ⟨⟨x7, x8, x9, henv⟩, g⟩ => by
      obtain ⟨x8', x9', S2, e2, g2⟩ := hb_eq (d := d) (a := a) (b := b) (num := num) (side := side) (x5 := some (.int C.sz)) (x6 := some (.int C.ht)) (x8 := x8) (x9 := x9) (s := s) (by omega) ha hb hf hs Sx
      rw [hC] at e2
      exact ⟨[some (tu a), some (tu b), some (.int num), some (.int side), some (cu C), some (.int C.sz), some (.int C.ht), some (bi s), x8, x9], by rw [henv]; rfl, _, S2, e2, ⟨_, _, _, rfl⟩, g.trans g2⟩)
    [false, true] [] [some (tu a), some (tu b), some (.int num), some (.int side), some (cu C), some (.int C.sz), some (.int C.ht), none, none, none] S9 rfl ⟨⟨_, _, _, rfl⟩, Gr.refl⟩
  have e10 := go_for_loc (sts := (.cons (.ret (.k (.bl true))) .nil)) e0 k0 eA
  unfold HB at e10
  refine ⟨SA, fin_of (u := .bl true) (e10.trans (go_ret rfl)), ?_⟩
  exact ((((((((g1.trans g2).trans g3).trans g4).trans g5).trans g6).trans g7).trans g8).trans g0).trans gA
end Pr

end

section
set_option maxHeartbeats 4000000
namespace Pr
open PySem L2 Oz
variable {S S' : Sto} {d st cl : Nat}
def LP : Sts := (.cons (.if_ (.not (.e (.call "_law_holds" (.cons (.ix (.v 6) (.k (.int 0))) (.cons (.ix (.v 6) (.k (.int 1))) (.cons (.v 4) (.cons (.v 5) .nil))))))) (.cons (.ret (.k (.bl false))) .nil) .nil) .nil)
theorem law_eq (ns : List Int) (hl : ns.length ≤ 63) : ∃ S', (⟨1, N_law.length, false, T_law⟩ : Df).run (pg.cal 677) [.loc 0] [.fro (ns.map U.int)] = .ok (.bl true) S' := by
  obtain ⟨st, cl, S0, q0, hs0⟩ := state_eq (d := 676) ns hl
  rw [run_eq (by rfl)]
  show ∃ S', (exs (pg.cal 677) T_law [some (.loc 0), none, none, none, none, none, none] _).fin = _
  unfold T_law
  rw [go_set (x := .loc st) (S' := S0) (by show (pg.cal 677).call "_law_state" [.loc 0] _ = _; exact q0)]
  obtain ⟨u1, S1, e1, ⟨v, rfl, v0, v4⟩, hs1, f1⟩ := tk_of (d := 677) (cl := cl) (st := st) (m := 4) (by decide) (by decide) (by omega) S0 hs0
  obtain ⟨u2, S2, e2, ⟨a, rfl, da⟩, hs2, f2⟩ := ltype_eq (st := st) (cl := cl) 4 (1 + v) 677 (by omega) (by omega) S1 hs1
  rw [go_set (x := tu a) (S' := S2) (by
    show ev (pg.cal 677) _ [some (.loc 0), some (.loc st), none, none, none, none, none] S0 = _
    rw [ev_call, evs_cons, ev_v' (u := .loc st) rfl, bind_ok, evs_cons, ev_bin, ev_k, bind_ok, ev_call, evs_cons, ev_v' (u := .loc st) rfl, bind_ok, evs_cons, ev_k, bind_ok, evs_nil, bind_ok, bind_ok, bind_ok, e1, bind_ok, add_int, bind_ok, evs_nil, bind_ok, bind_ok, bind_ok, e2])]
  have da5 : a.dep ≤ 5 := by omega
  obtain ⟨u3, S3, e3, ⟨b, rfl, db, hf⟩, hs3, f3⟩ := lpartner_eq (st := st) (cl := cl) 5 a 2 677 da5 (by decide) (by omega) S2 hs2
  rw [go_set (x := tu b) (S' := S3) (by
    show ev (pg.cal 677) _ [some (.loc 0), some (.loc st), some (tu a), none, none, none, none] S2 = _
    rw [ev_call, evs_cons, ev_v' (u := .loc st) rfl, bind_ok, evs_cons, ev_v' (u := tu a) rfl, bind_ok, evs_cons, ev_k, bind_ok, evs_nil, bind_ok, bind_ok, bind_ok, bind_ok, e3])]
  have db5 : b.dep ≤ 5 := by simp at db; omega
  obtain ⟨u4, S4, e4, ⟨num, rfl, n0, n1⟩, hs4, f4⟩ := tk_of (d := 677) (cl := cl) (st := st) (m := 1000000) (by decide) (by decide) (by omega) S3 hs3
  have pw : binU .pow (.int 10) (.int 6) S3 = .ok (.int 1000000) S3 := by
    unfold binU
    simp only
    rw [if_pos (by decide)]
    rfl
  rw [go_set (x := .int num) (S' := S4) (by
    show ev (pg.cal 677) _ [some (.loc 0), some (.loc st), some (tu a), some (tu b), none, none, none] S3 = _
    rw [ev_call, evs_cons, ev_v' (u := .loc st) rfl, bind_ok, evs_cons, ev_bin, ev_k, bind_ok, ev_k, bind_ok, pw, bind_ok, evs_nil, bind_ok, bind_ok, bind_ok, e4])]
  obtain ⟨u5, S5, e5, ⟨side, rfl, s0, s1⟩, hs5, f5⟩ := tk_of (d := 677) (cl := cl) (st := st) (m := 2) (by decide) (by decide) (by omega) S4 hs4
  rw [go_set (x := .int side) (S' := S5) (by
    show ev (pg.cal 677) _ [some (.loc 0), some (.loc st), some (tu a), some (tu b), some (.int num), none, none] S4 = _
    rw [ev_call, evs_cons, ev_v' (u := .loc st) rfl, bind_ok, evs_cons, ev_k, bind_ok, evs_nil, bind_ok, bind_ok, bind_ok, e5])]
  show ∃ S', (exs (pg.cal 677) _ [some (.loc 0), some (.loc st), some (tu a), some (tu b), some (.int num), some (.int side), none] S5).fin = _
  have e6 : ev (pg.cal 677) (.lst (.cons (.tup (.cons (.v 2) (.cons (.v 3) .nil))) (.cons (.tup (.cons (.v 3) (.cons (.v 2) .nil))) (.cons (.tup (.cons (.v 2) (.cons (.v 2) .nil))) (.cons (.tup (.cons (.v 2) (.cons (.tup (.cons (.k (.str "any")) .nil)) .nil))) (.cons (.tup (.cons (.tup (.cons (.k (.str "any")) .nil)) (.cons (.v 3) .nil))) .nil)))))) [some (.loc 0), some (.loc st), some (tu a), some (tu b), some (.int num), some (.int side), none] S5 = .ok (.loc S5.length) (S5 ++ [.lst ([(a, b), (b, a), (a, a), (a, .any), (.any, b)].map fun p => U.tup [tu p.1, tu p.2])]) := rfl
  have k6 : (S5 ++ [Cel.lst ([(a, b), (b, a), (a, a), (a, .any), (.any, b)].map fun p => U.tup [tu p.1, tu p.2])])[S5.length]? = some (.lst ([(a, b), (b, a), (a, a), (a, .any), (.any, b)].map fun p => U.tup [tu p.1, tu p.2])) := last_get
  generalize hS6 : S5 ++ [Cel.lst ([(a, b), (b, a), (a, a), (a, .any), (.any, b)].map fun p => U.tup [tu p.1, tu p.2])] = S6 at *
  have d1 : Ty.any.dep ≤ 5 := by decide
  have all : ∀ p ∈ [(a, b), (b, a), (a, a), (a, .any), (.any, b)], p.1.dep ≤ 5 ∧ p.2.dep ≤ 5 ∧ fits p.1 p.2 = true := fun p hp => by
    simp only [List.mem_cons, List.not_mem_nil, or_false] at hp
    rcases hp with rfl | rfl | rfl | rfl | rfl
    · exact ⟨da5, db5, hf⟩
    · exact ⟨db5, da5, fits_symm hf⟩
    · exact ⟨da5, da5, fits_self a⟩
    · exact ⟨da5, d1, fits_any a⟩
    · exact ⟨d1, db5, any_fits b⟩
  obtain ⟨env', S7, e7, -⟩ := forI_inv (tp := false) (is := [6]) (f := fun env S => exs (pg.cal 677) LP env S) (all := [(a, b), (b, a), (a, a), (a, .any), (.any, b)].map fun p => U.tup [tu p.1, tu p.2]) (src := some S5.length) (L := [(a, b), (b, a), (a, a), (a, .any), (.any, b)]) (fu := fun p => U.tup [tu p.1, tu p.2])
    (fun done env Sx => (∃ x6, env = [some (.loc 0), some (.loc st), some (tu a), some (tu b), some (.int num), some (.int side), x6]) ∧ Gr S6 Sx)
    (fun done env Sx h => stays_lst (h.2.at_ k6))
    (fun done p r env Sx he ⟨⟨x6, henv⟩, g⟩ => by
      obtain ⟨h1, h2, h3⟩ := all p (by rw [← he]; simp)
      obtain ⟨S8, e8, g8⟩ := holds_eq (d := 677) (num := num) (side := side) (by omega) h1 h2 h3 n0 ⟨s0, s1⟩ Sx
      have i0 : ixU (.tup [tu p.1, tu p.2]) (.int 0) Sx = .ok (tu p.1) Sx := rfl
      have i1 : ixU (.tup [tu p.1, tu p.2]) (.int 1) Sx = .ok (tu p.2) Sx := rfl
      refine ⟨[some (.loc 0), some (.loc st), some (tu a), some (tu b), some (.int num), some (.int side), some (.tup [tu p.1, tu p.2])], by rw [henv]; rfl, [some (.loc 0), some (.loc st), some (tu a), some (tu b), some (.int num), some (.int side), some (.tup [tu p.1, tu p.2])], S8, ?_, ⟨_, rfl⟩, g.trans g8⟩
      show exs (pg.cal 677) LP [some (.loc 0), some (.loc st), some (tu a), some (tu b), some (.int num), some (.int side), some (.tup [tu p.1, tu p.2])] Sx = _
      unfold LP
      rw [go_skip (S' := S8) (by
        rw [evt_not, evt_e, ev_call, evs_cons, ev_ix, ev_v' (u := .tup [tu p.1, tu p.2]) rfl, bind_ok, ev_k, bind_ok, i0, bind_ok, evs_cons, ev_ix, ev_v' (u := .tup [tu p.1, tu p.2]) rfl, bind_ok, ev_k, bind_ok, i1, bind_ok, evs_cons, ev_v' (u := .int num) rfl, bind_ok, evs_cons, ev_v' (u := .int side) rfl, bind_ok, evs_nil, bind_ok, bind_ok, bind_ok, bind_ok, bind_ok, e8, bind_ok]
        rfl), exs_nil])
    [(a, b), (b, a), (a, a), (a, .any), (.any, b)] [] [some (.loc 0), some (.loc st), some (tu a), some (tu b), some (.int num), some (.int side), none] S6 rfl ⟨⟨_, rfl⟩, Gr.refl⟩
  have e9 := go_for_loc (sts := (.cons (.ret (.k (.bl true))) .nil)) e6 k6 e7
  unfold LP at e9
  exact ⟨S7, fin_of (u := .bl true) (e9.trans (go_ret rfl))⟩
end Pr

end

section
set_option maxHeartbeats 4000000
namespace Pr
open PySem PySem.Spec PyProof.Rows L2 Oz He
def LR (K : PySem.W.Frag) (mg : Str → Option Value) (ad : Str → Addr) : Prop := True
def ex (K : PySem.W.Frag) : Bool := fnB tp K "law" && true
theorem lr_of {K : PySem.W.Frag} {h : Heap} {mg : Str → Option Value} (X : K.In h) (G : h.Ns mainGlobals mg) (hx : true = true) : LR K mg (adOf tp K) := trivial
end Pr

end

section
set_option maxHeartbeats 0
namespace Pr
open PySem PySem.Spec PyProof.Rows L2 Oz He
section
variable {P : Program} {w : World} {K : PySem.W.Frag} {mg : Str → Option Value} {base : Heap} {d : Nat}
def dd_ground : He.DefD := ⟨("ground", none), "ground", "ground", defArgs st_ground, defBody st_ground, defScope st_ground, [], []⟩
def dd_ground_type : He.DefD := ⟨("ground_type", none), "ground_type", "ground_type", defArgs st_ground_type, defBody st_ground_type, defScope st_ground_type, [], []⟩
def dd_safe : He.DefD := ⟨("safe", none), "safe", "safe", defArgs st_safe, defBody st_safe, defScope st_safe, [], []⟩
def dd_safe_sides : He.DefD := ⟨("safe_sides", none), "safe_sides", "safe_sides", defArgs st_safe_sides, defBody st_safe_sides, defScope st_safe_sides, [], []⟩
def dd_safe_sides_to_any : He.DefD := ⟨("safe_sides_to_any", none), "safe_sides_to_any", "safe_sides_to_any", defArgs st_safe_sides_to_any, defBody st_safe_sides_to_any, defScope st_safe_sides_to_any, [], []⟩
def dd_check_of : He.DefD := ⟨("check_of", none), "check_of", "check_of", defArgs st_check_of, defBody st_check_of, defScope st_check_of, [], []⟩
def dd_check_between : He.DefD := ⟨("check_between", none), "check_between", "check_between", defArgs st_check_between, defBody st_check_between, defScope st_check_between, [], []⟩
def dd_check_between_pairs : He.DefD := ⟨("check_between_pairs", none), "check_between_pairs", "check_between_pairs", defArgs st_check_between_pairs, defBody st_check_between_pairs, defScope st_check_between_pairs, [], []⟩
def dd_turned : He.DefD := ⟨("turned", none), "turned", "turned", defArgs st_turned, defBody st_turned, defScope st_turned, [], []⟩
def dd_source_ground : He.DefD := ⟨("source_ground", none), "source_ground", "source_ground", defArgs st_source_ground, defBody st_source_ground, defScope st_source_ground, [], []⟩
def dd_inside : He.DefD := ⟨("inside", none), "inside", "inside", defArgs st_inside, defBody st_inside, defScope st_inside, [], []⟩
def dd_different_inside : He.DefD := ⟨("different_inside", none), "different_inside", "different_inside", defArgs st_different_inside, defBody st_different_inside, defScope st_different_inside, [], []⟩
def dd_check_size : He.DefD := ⟨("check_size", none), "check_size", "check_size", defArgs st_check_size, defBody st_check_size, defScope st_check_size, [], []⟩
def dd_check_height : He.DefD := ⟨("check_height", none), "check_height", "check_height", defArgs st_check_height, defBody st_check_height, defScope st_check_height, [], []⟩
def dd_labels : He.DefD := ⟨("labels", none), "labels", "labels", defArgs st_labels, defBody st_labels, defScope st_labels, [], []⟩
def dd_all_labels : He.DefD := ⟨("all_labels", none), "all_labels", "all_labels", defArgs st_all_labels, defBody st_all_labels, defScope st_all_labels, [], []⟩
def dd_is_check : He.DefD := ⟨("is_check", none), "is_check", "is_check", defArgs st_is_check, defBody st_is_check, defScope st_is_check, [], []⟩
def dd_is_check_of : He.DefD := ⟨("is_check_of", none), "is_check_of", "is_check_of", defArgs st_is_check_of, defBody st_is_check_of, defScope st_is_check_of, [], []⟩
def dd_is_ground : He.DefD := ⟨("is_ground", none), "is_ground", "is_ground", defArgs st_is_ground, defBody st_is_ground, defScope st_is_ground, [], []⟩
def dd_is_label : He.DefD := ⟨("is_label", none), "is_label", "is_label", defArgs st_is_label, defBody st_is_label, defScope st_is_label, [], []⟩
def dd_is_number : He.DefD := ⟨("is_number", none), "is_number", "is_number", defArgs st_is_number, defBody st_is_number, defScope st_is_number, [], []⟩
def dd__law_state : He.DefD := ⟨("_law_state", none), "_law_state", "_law_state", defArgs st__law_state, defBody st__law_state, defScope st__law_state, [], []⟩
def dd__law_take : He.DefD := ⟨("_law_take", none), "_law_take", "_law_take", defArgs st__law_take, defBody st__law_take, defScope st__law_take, [], []⟩
def dd__law_type : He.DefD := ⟨("_law_type", none), "_law_type", "_law_type", defArgs st__law_type, defBody st__law_type, defScope st__law_type, [], []⟩
def dd__law_ground_type : He.DefD := ⟨("_law_ground_type", none), "_law_ground_type", "_law_ground_type", defArgs st__law_ground_type, defBody st__law_ground_type, defScope st__law_ground_type, [], []⟩
def dd__law_check : He.DefD := ⟨("_law_check", none), "_law_check", "_law_check", defArgs st__law_check, defBody st__law_check, defScope st__law_check, [], []⟩
def dd__law_partner : He.DefD := ⟨("_law_partner", none), "_law_partner", "_law_partner", defArgs st__law_partner, defBody st__law_partner, defScope st__law_partner, [], []⟩
def dd__law_height : He.DefD := ⟨("_law_height", none), "_law_height", "_law_height", defArgs st__law_height, defBody st__law_height, defScope st__law_height, [], []⟩
def dd__law_inner : He.DefD := ⟨("_law_inner", none), "_law_inner", "_law_inner", defArgs st__law_inner, defBody st__law_inner, defScope st__law_inner, [], []⟩
def dd__law_size : He.DefD := ⟨("_law_size", none), "_law_size", "_law_size", defArgs st__law_size, defBody st__law_size, defScope st__law_size, [], []⟩
def dd__law_depth : He.DefD := ⟨("_law_depth", none), "_law_depth", "_law_depth", defArgs st__law_depth, defBody st__law_depth, defScope st__law_depth, [], []⟩
def dd__law_labels : He.DefD := ⟨("_law_labels", none), "_law_labels", "_law_labels", defArgs st__law_labels, defBody st__law_labels, defScope st__law_labels, [], []⟩
def dd__law_holds : He.DefD := ⟨("_law_holds", none), "_law_holds", "_law_holds", defArgs st__law_holds, defBody st__law_holds, defScope st__law_holds, [], []⟩
def dd_law : He.DefD := ⟨("law", none), "law", "law", defArgs st_law, defBody st_law, defScope st_law, [], []⟩
theorem q_ground (c : Says tp ex w K) (A : AllFn P w K mg base pg nm (adOf tp K) d) : FnQ P w K mg base (L2.CX P w) (d + 3) (adOf tp K "ground") (spC K mg ((pg.cal (d + 1)).call "ground")) := by
  obtain ⟨fd, F0⟩ := c.defs "ground" dd_ground (by kernel_rfl)
  have F : FunD K "ground" "ground" (defArgs st_ground) (defBody st_ground) (defScope st_ground) [] [] (adOf tp K "ground") fd := F0
  exact fn_plain (fun_of F) (FunD.bindsN (ps := ["a_type"]) F fun _ _ _ _ _ _ us hl => match us, hl with | [_], _ => rfl) sc_ground A (by kernel_rfl) d_ground
theorem q_ground_type (c : Says tp ex w K) (A : AllFn P w K mg base pg nm (adOf tp K) d) : FnQ P w K mg base (L2.CX P w) (d + 3) (adOf tp K "ground_type") (spC K mg ((pg.cal (d + 1)).call "ground_type")) := by
  obtain ⟨fd, F0⟩ := c.defs "ground_type" dd_ground_type (by kernel_rfl)
  have F : FunD K "ground_type" "ground_type" (defArgs st_ground_type) (defBody st_ground_type) (defScope st_ground_type) [] [] (adOf tp K "ground_type") fd := F0
  exact fn_plain (fun_of F) (FunD.bindsN (ps := ["name"]) F fun _ _ _ _ _ _ us hl => match us, hl with | [_], _ => rfl) sc_ground_type A (by kernel_rfl) d_ground_type
theorem q_safe_sides (c : Says tp ex w K) (A : AllFn P w K mg base pg nm (adOf tp K) d) : FnQ P w K mg base (L2.CX P w) (d + 3) (adOf tp K "safe_sides") (spC K mg ((pg.cal (d + 1)).call "safe_sides")) := by
  obtain ⟨fd, F0⟩ := c.defs "safe_sides" dd_safe_sides (by kernel_rfl)
  have F : FunD K "safe_sides" "safe_sides" (defArgs st_safe_sides) (defBody st_safe_sides) (defScope st_safe_sides) [] [] (adOf tp K "safe_sides") fd := F0
  exact fn_plain (fun_of F) (FunD.bindsN (ps := ["one", "other"]) F fun _ _ _ _ _ _ us hl => match us, hl with | [_, _], _ => rfl) sc_safe_sides A (by kernel_rfl) d_safe_sides
theorem q_safe_sides_to_any (c : Says tp ex w K) (A : AllFn P w K mg base pg nm (adOf tp K) d) : FnQ P w K mg base (L2.CX P w) (d + 3) (adOf tp K "safe_sides_to_any") (spC K mg ((pg.cal (d + 1)).call "safe_sides_to_any")) := by
  obtain ⟨fd, F0⟩ := c.defs "safe_sides_to_any" dd_safe_sides_to_any (by kernel_rfl)
  have F : FunD K "safe_sides_to_any" "safe_sides_to_any" (defArgs st_safe_sides_to_any) (defBody st_safe_sides_to_any) (defScope st_safe_sides_to_any) [] [] (adOf tp K "safe_sides_to_any") fd := F0
  exact fn_plain (fun_of F) (FunD.bindsN (ps := ["a_type"]) F fun _ _ _ _ _ _ us hl => match us, hl with | [_], _ => rfl) sc_safe_sides_to_any A (by kernel_rfl) d_safe_sides_to_any
theorem q_check_between (c : Says tp ex w K) (A : AllFn P w K mg base pg nm (adOf tp K) d) : FnQ P w K mg base (L2.CX P w) (d + 3) (adOf tp K "check_between") (spC K mg ((pg.cal (d + 1)).call "check_between")) := by
  obtain ⟨fd, F0⟩ := c.defs "check_between" dd_check_between (by kernel_rfl)
  have F : FunD K "check_between" "check_between" (defArgs st_check_between) (defBody st_check_between) (defScope st_check_between) [] [] (adOf tp K "check_between") fd := F0
  exact fn_plain (fun_of F) (FunD.bindsN (ps := ["source", "target", "label"]) F fun _ _ _ _ _ _ us hl => match us, hl with | [_, _, _], _ => rfl) sc_check_between A (by kernel_rfl) d_check_between
theorem q_check_between_pairs (c : Says tp ex w K) (A : AllFn P w K mg base pg nm (adOf tp K) d) : FnQ P w K mg base (L2.CX P w) (d + 3) (adOf tp K "check_between_pairs") (spC K mg ((pg.cal (d + 1)).call "check_between_pairs")) := by
  obtain ⟨fd, F0⟩ := c.defs "check_between_pairs" dd_check_between_pairs (by kernel_rfl)
  have F : FunD K "check_between_pairs" "check_between_pairs" (defArgs st_check_between_pairs) (defBody st_check_between_pairs) (defScope st_check_between_pairs) [] [] (adOf tp K "check_between_pairs") fd := F0
  exact fn_plain (fun_of F) (FunD.bindsN (ps := ["source", "target", "label"]) F fun _ _ _ _ _ _ us hl => match us, hl with | [_, _, _], _ => rfl) sc_check_between_pairs A (by kernel_rfl) d_check_between_pairs
theorem q_turned (c : Says tp ex w K) (A : AllFn P w K mg base pg nm (adOf tp K) d) : FnQ P w K mg base (L2.CX P w) (d + 3) (adOf tp K "turned") (spC K mg ((pg.cal (d + 1)).call "turned")) := by
  obtain ⟨fd, F0⟩ := c.defs "turned" dd_turned (by kernel_rfl)
  have F : FunD K "turned" "turned" (defArgs st_turned) (defBody st_turned) (defScope st_turned) [] [] (adOf tp K "turned") fd := F0
  exact fn_plain (fun_of F) (FunD.bindsN (ps := ["label"]) F fun _ _ _ _ _ _ us hl => match us, hl with | [_], _ => rfl) sc_turned A (by kernel_rfl) d_turned
theorem q_source_ground (c : Says tp ex w K) (A : AllFn P w K mg base pg nm (adOf tp K) d) : FnQ P w K mg base (L2.CX P w) (d + 3) (adOf tp K "source_ground") (spC K mg ((pg.cal (d + 1)).call "source_ground")) := by
  obtain ⟨fd, F0⟩ := c.defs "source_ground" dd_source_ground (by kernel_rfl)
  have F : FunD K "source_ground" "source_ground" (defArgs st_source_ground) (defBody st_source_ground) (defScope st_source_ground) [] [] (adOf tp K "source_ground") fd := F0
  exact fn_plain (fun_of F) (FunD.bindsN (ps := ["check"]) F fun _ _ _ _ _ _ us hl => match us, hl with | [_], _ => rfl) sc_source_ground A (by kernel_rfl) d_source_ground
theorem q_inside (c : Says tp ex w K) (A : AllFn P w K mg base pg nm (adOf tp K) d) : FnQ P w K mg base (L2.CX P w) (d + 3) (adOf tp K "inside") (spC K mg ((pg.cal (d + 1)).call "inside")) := by
  obtain ⟨fd, F0⟩ := c.defs "inside" dd_inside (by kernel_rfl)
  have F : FunD K "inside" "inside" (defArgs st_inside) (defBody st_inside) (defScope st_inside) [] [] (adOf tp K "inside") fd := F0
  exact fn_plain (fun_of F) (FunD.bindsN (ps := ["check"]) F fun _ _ _ _ _ _ us hl => match us, hl with | [_], _ => rfl) sc_inside A (by kernel_rfl) d_inside
theorem q_different_inside (c : Says tp ex w K) (A : AllFn P w K mg base pg nm (adOf tp K) d) : FnQ P w K mg base (L2.CX P w) (d + 3) (adOf tp K "different_inside") (spC K mg ((pg.cal (d + 1)).call "different_inside")) := by
  obtain ⟨fd, F0⟩ := c.defs "different_inside" dd_different_inside (by kernel_rfl)
  have F : FunD K "different_inside" "different_inside" (defArgs st_different_inside) (defBody st_different_inside) (defScope st_different_inside) [] [] (adOf tp K "different_inside") fd := F0
  exact fn_plain (fun_of F) (FunD.bindsN (ps := ["check"]) F fun _ _ _ _ _ _ us hl => match us, hl with | [_], _ => rfl) sc_different_inside A (by kernel_rfl) d_different_inside
theorem q_check_size (c : Says tp ex w K) (A : AllFn P w K mg base pg nm (adOf tp K) d) : FnQ P w K mg base (L2.CX P w) (d + 3) (adOf tp K "check_size") (spC K mg ((pg.cal (d + 1)).call "check_size")) := by
  obtain ⟨fd, F0⟩ := c.defs "check_size" dd_check_size (by kernel_rfl)
  have F : FunD K "check_size" "check_size" (defArgs st_check_size) (defBody st_check_size) (defScope st_check_size) [] [] (adOf tp K "check_size") fd := F0
  exact fn_plain (fun_of F) (FunD.bindsN (ps := ["check"]) F fun _ _ _ _ _ _ us hl => match us, hl with | [_], _ => rfl) sc_check_size A (by kernel_rfl) d_check_size
theorem q_check_height (c : Says tp ex w K) (A : AllFn P w K mg base pg nm (adOf tp K) d) : FnQ P w K mg base (L2.CX P w) (d + 3) (adOf tp K "check_height") (spC K mg ((pg.cal (d + 1)).call "check_height")) := by
  obtain ⟨fd, F0⟩ := c.defs "check_height" dd_check_height (by kernel_rfl)
  have F : FunD K "check_height" "check_height" (defArgs st_check_height) (defBody st_check_height) (defScope st_check_height) [] [] (adOf tp K "check_height") fd := F0
  exact fn_plain (fun_of F) (FunD.bindsN (ps := ["check"]) F fun _ _ _ _ _ _ us hl => match us, hl with | [_], _ => rfl) sc_check_height A (by kernel_rfl) d_check_height
theorem q_labels (c : Says tp ex w K) (A : AllFn P w K mg base pg nm (adOf tp K) d) : FnQ P w K mg base (L2.CX P w) (d + 3) (adOf tp K "labels") (spC K mg ((pg.cal (d + 1)).call "labels")) := by
  obtain ⟨fd, F0⟩ := c.defs "labels" dd_labels (by kernel_rfl)
  have F : FunD K "labels" "labels" (defArgs st_labels) (defBody st_labels) (defScope st_labels) [] [] (adOf tp K "labels") fd := F0
  exact fn_plain (fun_of F) (FunD.bindsN (ps := ["check"]) F fun _ _ _ _ _ _ us hl => match us, hl with | [_], _ => rfl) sc_labels A (by kernel_rfl) d_labels
theorem q_all_labels (c : Says tp ex w K) (A : AllFn P w K mg base pg nm (adOf tp K) d) : FnQ P w K mg base (L2.CX P w) (d + 3) (adOf tp K "all_labels") (spC K mg ((pg.cal (d + 1)).call "all_labels")) := by
  obtain ⟨fd, F0⟩ := c.defs "all_labels" dd_all_labels (by kernel_rfl)
  have F : FunD K "all_labels" "all_labels" (defArgs st_all_labels) (defBody st_all_labels) (defScope st_all_labels) [] [] (adOf tp K "all_labels") fd := F0
  exact fn_plain (fun_of F) (FunD.bindsN (ps := ["check"]) F fun _ _ _ _ _ _ us hl => match us, hl with | [_], _ => rfl) sc_all_labels A (by kernel_rfl) d_all_labels
theorem q_is_check (c : Says tp ex w K) (A : AllFn P w K mg base pg nm (adOf tp K) d) : FnQ P w K mg base (L2.CX P w) (d + 3) (adOf tp K "is_check") (spC K mg ((pg.cal (d + 1)).call "is_check")) := by
  obtain ⟨fd, F0⟩ := c.defs "is_check" dd_is_check (by kernel_rfl)
  have F : FunD K "is_check" "is_check" (defArgs st_is_check) (defBody st_is_check) (defScope st_is_check) [] [] (adOf tp K "is_check") fd := F0
  exact fn_plain (fun_of F) (FunD.bindsN (ps := ["value"]) F fun _ _ _ _ _ _ us hl => match us, hl with | [_], _ => rfl) sc_is_check A (by kernel_rfl) d_is_check
theorem q_is_check_of (c : Says tp ex w K) (A : AllFn P w K mg base pg nm (adOf tp K) d) : FnQ P w K mg base (L2.CX P w) (d + 3) (adOf tp K "is_check_of") (spC K mg ((pg.cal (d + 1)).call "is_check_of")) := by
  obtain ⟨fd, F0⟩ := c.defs "is_check_of" dd_is_check_of (by kernel_rfl)
  have F : FunD K "is_check_of" "is_check_of" (defArgs st_is_check_of) (defBody st_is_check_of) (defScope st_is_check_of) [] [] (adOf tp K "is_check_of") fd := F0
  exact fn_plain (fun_of F) (FunD.bindsN (ps := ["value", "heads", "most"]) F fun _ _ _ _ _ _ us hl => match us, hl with | [_, _, _], _ => rfl) sc_is_check_of A (by kernel_rfl) d_is_check_of
theorem q_is_ground (c : Says tp ex w K) (A : AllFn P w K mg base pg nm (adOf tp K) d) : FnQ P w K mg base (L2.CX P w) (d + 3) (adOf tp K "is_ground") (spC K mg ((pg.cal (d + 1)).call "is_ground")) := by
  obtain ⟨fd, F0⟩ := c.defs "is_ground" dd_is_ground (by kernel_rfl)
  have F : FunD K "is_ground" "is_ground" (defArgs st_is_ground) (defBody st_is_ground) (defScope st_is_ground) [] [] (adOf tp K "is_ground") fd := F0
  exact fn_plain (fun_of F) (FunD.bindsN (ps := ["value"]) F fun _ _ _ _ _ _ us hl => match us, hl with | [_], _ => rfl) sc_is_ground A (by kernel_rfl) d_is_ground
theorem q_is_label (c : Says tp ex w K) (A : AllFn P w K mg base pg nm (adOf tp K) d) : FnQ P w K mg base (L2.CX P w) (d + 3) (adOf tp K "is_label") (spC K mg ((pg.cal (d + 1)).call "is_label")) := by
  obtain ⟨fd, F0⟩ := c.defs "is_label" dd_is_label (by kernel_rfl)
  have F : FunD K "is_label" "is_label" (defArgs st_is_label) (defBody st_is_label) (defScope st_is_label) [] [] (adOf tp K "is_label") fd := F0
  exact fn_plain (fun_of F) (FunD.bindsN (ps := ["value"]) F fun _ _ _ _ _ _ us hl => match us, hl with | [_], _ => rfl) sc_is_label A (by kernel_rfl) d_is_label
theorem q_is_number (c : Says tp ex w K) (A : AllFn P w K mg base pg nm (adOf tp K) d) : FnQ P w K mg base (L2.CX P w) (d + 3) (adOf tp K "is_number") (spC K mg ((pg.cal (d + 1)).call "is_number")) := by
  obtain ⟨fd, F0⟩ := c.defs "is_number" dd_is_number (by kernel_rfl)
  have F : FunD K "is_number" "is_number" (defArgs st_is_number) (defBody st_is_number) (defScope st_is_number) [] [] (adOf tp K "is_number") fd := F0
  exact fn_plain (fun_of F) (FunD.bindsN (ps := ["value"]) F fun _ _ _ _ _ _ us hl => match us, hl with | [_], _ => rfl) sc_is_number A (by kernel_rfl) d_is_number
theorem q__law_state (c : Says tp ex w K) (A : AllFn P w K mg base pg nm (adOf tp K) d) : FnQ P w K mg base (L2.CX P w) (d + 3) (adOf tp K "_law_state") (spC K mg ((pg.cal (d + 1)).call "_law_state")) := by
  obtain ⟨fd, F0⟩ := c.defs "_law_state" dd__law_state (by kernel_rfl)
  have F : FunD K "_law_state" "_law_state" (defArgs st__law_state) (defBody st__law_state) (defScope st__law_state) [] [] (adOf tp K "_law_state") fd := F0
  exact fn_plain (fun_of F) (FunD.bindsN (ps := ["_law_script"]) F fun _ _ _ _ _ _ us hl => match us, hl with | [_], _ => rfl) sc__law_state A (by kernel_rfl) d__law_state
theorem q__law_take (c : Says tp ex w K) (A : AllFn P w K mg base pg nm (adOf tp K) d) : FnQ P w K mg base (L2.CX P w) (d + 3) (adOf tp K "_law_take") (spC K mg ((pg.cal (d + 1)).call "_law_take")) := by
  obtain ⟨fd, F0⟩ := c.defs "_law_take" dd__law_take (by kernel_rfl)
  have F : FunD K "_law_take" "_law_take" (defArgs st__law_take) (defBody st__law_take) (defScope st__law_take) [] [] (adOf tp K "_law_take") fd := F0
  exact fn_plain (fun_of F) (FunD.bindsN (ps := ["_law_state_here", "_law_most"]) F fun _ _ _ _ _ _ us hl => match us, hl with | [_, _], _ => rfl) sc__law_take A (by kernel_rfl) d__law_take
theorem q__law_type (c : Says tp ex w K) (A : AllFn P w K mg base pg nm (adOf tp K) d) : FnQ P w K mg base (L2.CX P w) (d + 3) (adOf tp K "_law_type") (spC K mg ((pg.cal (d + 1)).call "_law_type")) := by
  obtain ⟨fd, F0⟩ := c.defs "_law_type" dd__law_type (by kernel_rfl)
  have F : FunD K "_law_type" "_law_type" (defArgs st__law_type) (defBody st__law_type) (defScope st__law_type) [] [] (adOf tp K "_law_type") fd := F0
  exact fn_plain (fun_of F) (FunD.bindsN (ps := ["_law_state_here", "_law_depth_here"]) F fun _ _ _ _ _ _ us hl => match us, hl with | [_, _], _ => rfl) sc__law_type A (by kernel_rfl) d__law_type
theorem q__law_ground_type (c : Says tp ex w K) (A : AllFn P w K mg base pg nm (adOf tp K) d) : FnQ P w K mg base (L2.CX P w) (d + 3) (adOf tp K "_law_ground_type") (spC K mg ((pg.cal (d + 1)).call "_law_ground_type")) := by
  obtain ⟨fd, F0⟩ := c.defs "_law_ground_type" dd__law_ground_type (by kernel_rfl)
  have F : FunD K "_law_ground_type" "_law_ground_type" (defArgs st__law_ground_type) (defBody st__law_ground_type) (defScope st__law_ground_type) [] [] (adOf tp K "_law_ground_type") fd := F0
  exact fn_plain (fun_of F) (FunD.bindsN (ps := ["_law_name"]) F fun _ _ _ _ _ _ us hl => match us, hl with | [_], _ => rfl) sc__law_ground_type A (by kernel_rfl) d__law_ground_type
theorem q__law_check (c : Says tp ex w K) (A : AllFn P w K mg base pg nm (adOf tp K) d) : FnQ P w K mg base (L2.CX P w) (d + 3) (adOf tp K "_law_check") (spC K mg ((pg.cal (d + 1)).call "_law_check")) := by
  obtain ⟨fd, F0⟩ := c.defs "_law_check" dd__law_check (by kernel_rfl)
  have F : FunD K "_law_check" "_law_check" (defArgs st__law_check) (defBody st__law_check) (defScope st__law_check) [] [] (adOf tp K "_law_check") fd := F0
  exact fn_plain (fun_of F) (FunD.bindsN (ps := ["_law_one", "_law_other", "_law_number", "_law_side"]) F fun _ _ _ _ _ _ us hl => match us, hl with | [_, _, _, _], _ => rfl) sc__law_check A (by kernel_rfl) d__law_check
theorem q__law_partner (c : Says tp ex w K) (A : AllFn P w K mg base pg nm (adOf tp K) d) : FnQ P w K mg base (L2.CX P w) (d + 3) (adOf tp K "_law_partner") (spC K mg ((pg.cal (d + 1)).call "_law_partner")) := by
  obtain ⟨fd, F0⟩ := c.defs "_law_partner" dd__law_partner (by kernel_rfl)
  have F : FunD K "_law_partner" "_law_partner" (defArgs st__law_partner) (defBody st__law_partner) (defScope st__law_partner) [] [] (adOf tp K "_law_partner") fd := F0
  exact fn_plain (fun_of F) (FunD.bindsN (ps := ["_law_state_here", "_law_one", "_law_depth_here"]) F fun _ _ _ _ _ _ us hl => match us, hl with | [_, _, _], _ => rfl) sc__law_partner A (by kernel_rfl) d__law_partner
theorem q__law_height (c : Says tp ex w K) (A : AllFn P w K mg base pg nm (adOf tp K) d) : FnQ P w K mg base (L2.CX P w) (d + 3) (adOf tp K "_law_height") (spC K mg ((pg.cal (d + 1)).call "_law_height")) := by
  obtain ⟨fd, F0⟩ := c.defs "_law_height" dd__law_height (by kernel_rfl)
  have F : FunD K "_law_height" "_law_height" (defArgs st__law_height) (defBody st__law_height) (defScope st__law_height) [] [] (adOf tp K "_law_height") fd := F0
  exact fn_plain (fun_of F) (FunD.bindsN (ps := ["_law_one"]) F fun _ _ _ _ _ _ us hl => match us, hl with | [_], _ => rfl) sc__law_height A (by kernel_rfl) d__law_height
theorem q__law_inner (c : Says tp ex w K) (A : AllFn P w K mg base pg nm (adOf tp K) d) : FnQ P w K mg base (L2.CX P w) (d + 3) (adOf tp K "_law_inner") (spC K mg ((pg.cal (d + 1)).call "_law_inner")) := by
  obtain ⟨fd, F0⟩ := c.defs "_law_inner" dd__law_inner (by kernel_rfl)
  have F : FunD K "_law_inner" "_law_inner" (defArgs st__law_inner) (defBody st__law_inner) (defScope st__law_inner) [] [] (adOf tp K "_law_inner") fd := F0
  exact fn_plain (fun_of F) (FunD.bindsN (ps := ["_law_check_here"]) F fun _ _ _ _ _ _ us hl => match us, hl with | [_], _ => rfl) sc__law_inner A (by kernel_rfl) d__law_inner
theorem q__law_size (c : Says tp ex w K) (A : AllFn P w K mg base pg nm (adOf tp K) d) : FnQ P w K mg base (L2.CX P w) (d + 3) (adOf tp K "_law_size") (spC K mg ((pg.cal (d + 1)).call "_law_size")) := by
  obtain ⟨fd, F0⟩ := c.defs "_law_size" dd__law_size (by kernel_rfl)
  have F : FunD K "_law_size" "_law_size" (defArgs st__law_size) (defBody st__law_size) (defScope st__law_size) [] [] (adOf tp K "_law_size") fd := F0
  exact fn_plain (fun_of F) (FunD.bindsN (ps := ["_law_check_here"]) F fun _ _ _ _ _ _ us hl => match us, hl with | [_], _ => rfl) sc__law_size A (by kernel_rfl) d__law_size
theorem q__law_depth (c : Says tp ex w K) (A : AllFn P w K mg base pg nm (adOf tp K) d) : FnQ P w K mg base (L2.CX P w) (d + 3) (adOf tp K "_law_depth") (spC K mg ((pg.cal (d + 1)).call "_law_depth")) := by
  obtain ⟨fd, F0⟩ := c.defs "_law_depth" dd__law_depth (by kernel_rfl)
  have F : FunD K "_law_depth" "_law_depth" (defArgs st__law_depth) (defBody st__law_depth) (defScope st__law_depth) [] [] (adOf tp K "_law_depth") fd := F0
  exact fn_plain (fun_of F) (FunD.bindsN (ps := ["_law_check_here"]) F fun _ _ _ _ _ _ us hl => match us, hl with | [_], _ => rfl) sc__law_depth A (by kernel_rfl) d__law_depth
theorem q__law_labels (c : Says tp ex w K) (A : AllFn P w K mg base pg nm (adOf tp K) d) : FnQ P w K mg base (L2.CX P w) (d + 3) (adOf tp K "_law_labels") (spC K mg ((pg.cal (d + 1)).call "_law_labels")) := by
  obtain ⟨fd, F0⟩ := c.defs "_law_labels" dd__law_labels (by kernel_rfl)
  have F : FunD K "_law_labels" "_law_labels" (defArgs st__law_labels) (defBody st__law_labels) (defScope st__law_labels) [] [] (adOf tp K "_law_labels") fd := F0
  exact fn_plain (fun_of F) (FunD.bindsN (ps := ["_law_check_here"]) F fun _ _ _ _ _ _ us hl => match us, hl with | [_], _ => rfl) sc__law_labels A (by kernel_rfl) d__law_labels
theorem q__law_holds (c : Says tp ex w K) (A : AllFn P w K mg base pg nm (adOf tp K) d) : FnQ P w K mg base (L2.CX P w) (d + 3) (adOf tp K "_law_holds") (spC K mg ((pg.cal (d + 1)).call "_law_holds")) := by
  obtain ⟨fd, F0⟩ := c.defs "_law_holds" dd__law_holds (by kernel_rfl)
  have F : FunD K "_law_holds" "_law_holds" (defArgs st__law_holds) (defBody st__law_holds) (defScope st__law_holds) [] [] (adOf tp K "_law_holds") fd := F0
  exact fn_plain (fun_of F) (FunD.bindsN (ps := ["_law_one", "_law_other", "_law_number", "_law_side"]) F fun _ _ _ _ _ _ us hl => match us, hl with | [_, _, _, _], _ => rfl) sc__law_holds A (by kernel_rfl) d__law_holds
theorem q_law (c : Says tp ex w K) (A : AllFn P w K mg base pg nm (adOf tp K) d) : FnQ P w K mg base (L2.CX P w) (d + 3) (adOf tp K "law") (spC K mg ((pg.cal (d + 1)).call "law")) := by
  obtain ⟨fd, F0⟩ := c.defs "law" dd_law (by kernel_rfl)
  have F : FunD K "law" "law" (defArgs st_law) (defBody st_law) (defScope st_law) [] [] (adOf tp K "law") fd := F0
  exact fn_plain (fun_of F) (FunD.bindsN (ps := ["_law_script"]) F fun _ _ _ _ _ _ us hl => match us, hl with | [_], _ => rfl) sc_law A (by kernel_rfl) d_law
theorem q_safe (c : Says tp ex w K) (A : AllFn P w K mg base pg nm (adOf tp K) d) : FnK P w K mg base (L2.CX P w) (d + 3) (adOf tp K "safe") 2 ["side"] (spC K mg ((pg.cal (d + 1)).kcal "safe")) := by
  obtain ⟨fd, F0⟩ := c.defs "safe" dd_safe (by kernel_rfl)
  have F : FunD K "safe" "safe" (defArgs st_safe) (defBody st_safe) (defScope st_safe) [] [] (adOf tp K "safe") fd := F0
  exact fn_kw (ps := ["source", "target", "side"]) (fun_of F) sc_safe A rfl (fun _ _ _ _ _ _ us ws hl hm => match us, ws, hl, hm with | [_, _], [_], _, _ => rfl) (by kernel_rfl) d_safe
theorem q_check_of (c : Says tp ex w K) (A : AllFn P w K mg base pg nm (adOf tp K) d) : FnK P w K mg base (L2.CX P w) (d + 3) (adOf tp K "check_of") 2 ["number", "side"] (spC K mg ((pg.cal (d + 1)).kcal "check_of")) := by
  obtain ⟨fd, F0⟩ := c.defs "check_of" dd_check_of (by kernel_rfl)
  have F : FunD K "check_of" "check_of" (defArgs st_check_of) (defBody st_check_of) (defScope st_check_of) [] [] (adOf tp K "check_of") fd := F0
  exact fn_kw (ps := ["source", "target", "number", "side"]) (fun_of F) sc_check_of A rfl (fun _ _ _ _ _ _ us ws hl hm => match us, ws, hl, hm with | [_, _], [_, _], _, _ => rfl) (by kernel_rfl) d_check_of
theorem kstep_all (c : Says tp ex w K) (A : AllFn P w K mg base pg nm (adOf tp K) d) : ∀ f n ks, (f, n, ks) ∈ nm.kws → FnK P w K mg base (L2.CX P w) (d + 3) (adOf tp K f) n ks (spC K mg ((pg.cal (d + 1)).kcal f)) := by
  intro f n ks h
  have h : (f, n, ks) ∈ ([("safe", 2, ["side"]), ("check_of", 2, ["number", "side"])] : List (Str × Nat × List Str)) := h
  simp only [List.mem_cons, Prod.mk.injEq, List.not_mem_nil, or_false] at h
  rcases h with ⟨rfl, rfl, rfl⟩ | ⟨rfl, rfl, rfl⟩
  · exact q_safe c A
  · exact q_check_of c A
theorem allT_cons {α : Type} {Q : Str → α → Prop} {x : Str × α} {xs : List (Str × α)} (h : Q x.1 x.2) (t : AllT Q xs) : AllT Q (x :: xs) := ⟨h, t⟩
theorem step_all (c : Says tp ex w K) (cL : LR K mg (adOf tp K)) (A : AllFn P w K mg base pg nm (adOf tp K) d) : AllT (fun f _ => FnQ P w K mg base (L2.CX P w) (d + 3) (adOf tp K f) (spC K mg ((pg.cal (d + 1)).call f))) tbl :=
  allT_cons (q_ground c A) (allT_cons (q_ground_type c A) (allT_cons (q_safe_sides c A) (allT_cons (q_safe_sides_to_any c A) (allT_cons (q_check_between c A) (allT_cons (q_check_between_pairs c A) (allT_cons (q_turned c A) (allT_cons (q_source_ground c A) (allT_cons (q_inside c A) (allT_cons (q_different_inside c A) (allT_cons (q_check_size c A) (allT_cons (q_check_height c A) (allT_cons (q_labels c A) (allT_cons (q_all_labels c A) (allT_cons (q_is_check c A) (allT_cons (q_is_check_of c A) (allT_cons (q_is_ground c A) (allT_cons (q_is_label c A) (allT_cons (q_is_number c A) (allT_cons (q__law_state c A) (allT_cons (q__law_take c A) (allT_cons (q__law_type c A) (allT_cons (q__law_ground_type c A) (allT_cons (q__law_check c A) (allT_cons (q__law_partner c A) (allT_cons (q__law_height c A) (allT_cons (q__law_inner c A) (allT_cons (q__law_size c A) (allT_cons (q__law_depth c A) (allT_cons (q__law_labels c A) (allT_cons (q__law_holds c A) (allT_cons (q_law c A) (trivial))))))))))))))))))))))))))))))))
theorem all_xc {h : Heap} (X : K.In h) (G : h.Ns mainGlobals mg) (c : Says tp ex w K) : ∀ C f, (C, f) ∈ nm.xcs → XcOk P w K mg base (adOf tp K) C f := by
  intro C f hq
  have hq : (C, f) ∈ ([] : List (Str × Str)) := hq
  cases hq
theorem all_defs {h : Heap} (X : K.In h) (G : h.Ns mainGlobals mg) (c : Says tp ex w K) (cL : LR K mg (adOf tp K)) : ∀ d, AllFn P w K mg base pg nm (adOf tp K) d :=
  all_fn (tbl := tbl) rfl (sta_of X G c rfl) (gd_of X G c rfl) (all_xc X G c) (fun d A => step_all c cL A) fun d A => kstep_all c A
theorem facts {h : Heap} {f : Addr} (X : K.In h) (G : h.Ns mainGlobals mg) (hfa : mg ("law" : Str) = some (.ref f)) (c : Says tp ex w K) (hl : fnB tp K "law" = true) (lr : ∀ {h : Heap}, K.In h → h.Ns mainGlobals mg → LR K mg (adOf tp K))
    (M : ∀ ns : List Int, ns.length ≤ 63 → ∃ S', (⟨1, N_law.length, false, T_law⟩ : Df).run (pg.cal 677) [.loc 0] [.fro (ns.map U.int)] = .ok (.bl true) S') :
    ∃ fd : FuncData, (∀ (s : Shared) (v : Value), BindsTo s fd ⟨[v], []⟩ [("_law_script", v)]) ∧ ∀ base : Heap, K.In base → base.Ns mainGlobals mg → FnAt callerA P w K mg base (fun _ _ _ _ _ _ => False) f fd ["_law_script"] (spLaw K) := by
  obtain ⟨fd, F0⟩ := c.defs "law" dd_law (by kernel_rfl)
  have F : FunD K "law" "law" (defArgs st_law) (defBody st_law) (defScope st_law) [] [] (adOf tp K "law") fd := F0
  have e := hfa.symm.trans (PySem.W.mg_of X G (eqO_ok (ba hl).1))
  cases e
  have b := FunD.bindsA (ps := ["_law_script"]) F fun _ _ _ _ _ _ us hl => match us, hl with | [_], _ => rfl
  exact ⟨fd, fun s v => b s [v] rfl, fun base XB GB => law0 (fn_law (N := N_law) (fun_of F) sc_law (all_defs XB GB c (lr XB GB) 677) d_law M)⟩
end
end Pr

end

section
set_option maxHeartbeats 0
open PySem PySem.W PySem.Calls PyProof.Rows
theorem PySem.Challenge.cw_halfnoted_k22_checks_of_casts_holds : PySem.Challenge.rw_halfnoted_k22_checks_of_casts.Holds := by
  w_on; o_law; k_head; (case hw => w_witness2)
  refine Oz.walk_at_caller (sn := "_law_script") (l := PySem.Challenge.rw_halfnoted_k22_checks_of_casts) rfl (by kernel_rfl) ?F
  intro w mg fa h Y G hmg0
  obtain ⟨K, KX, c0⟩ : ∃ K : PySem.W.Frag, K.In h ∧ Oz.obsO Pr.tp Pr.ex K = Oz.valO Pr.tp w := ⟨_, PySem.W.kIn_of Y, by kernel_rfl⟩
  have c := Oz.says_of c0
  have hmg : mg ("law" : PySem.Str) = some (.ref fa) := hmg0
  obtain ⟨hl, hx⟩ := He.ba c.more
  obtain ⟨fd, hb, hF⟩ := Pr.facts (P := (PySem.Challenge.rw_halfnoted_k22_checks_of_casts).prog) (w := w) KX G hmg c hl (fun X G => Pr.lr_of X G hx) Pr.law_eq
  exact ⟨K, fd, KX, hb, hF⟩

end
