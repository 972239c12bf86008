import PyProof.Rows.All
import Wide.All
import OpenK.AllK
import Wide.FinOn
import HandS.ForMost
import HandS.ForExc
import HandS.More
import HandS.Star
import HandS.MethStar
import HandS.IsInst
import HandS.TupAny
import HandS.StrMore
import HandS.Deep
import HandS.ExcInit
import HandS.Defaults
import HandS.Head0
import HandS.Head1
import HandS.Head2
import HandS.HeadEnd
import HandS.HeadHook1
import HandS.HeadHook2
import KE.KExcIs
import HandS.ExcField
import HandS.CallSlots
import PySem.Challenge.RW_halfnoted_k02_texts_that_are_refused
set_option Elab.async false
set_option linter.all false
set_option maxRecDepth 100000
section
set_option maxHeartbeats 4000000
/-! Oz1: a small language of my own for the program's defs: its syntax, its values, what it means. -/
namespace Oz
open PySem PySem.Spec PyProof.Rows L2

/-! ### values -/
inductive U where
  | non | bl (b : Bool) | int (i : Int) | str (x : Str) | tup (xs : List U) | loc (n : Nat)
inductive Cel where
  | lst (xs : List U) | fro (xs : List U) | ins (C : Str) (fs : List (Str × U)) | dic (kvs : List (Key × U))
abbrev Sto := List Cel
inductive R (α : Type) where
  | ok (a : α) (S : Sto) | exc (c : Str) (fs : List (Str × U)) (S : Sto) | bad
def R.bind {α β : Type} (r : R α) (f : α → Sto → R β) : R β :=
  match r with
  | .ok a S => f a S
  | .exc c fs S => .exc c fs S
  | .bad => .bad

mutual
def ueq : U → U → Bool
  | .non, .non => true
  | .bl a, .bl b => a == b
  | .int a, .int b => a == b
  | .str a, .str b => decide (a = b)
  | .tup a, .tup b => useq a b
  | .loc a, .loc b => a == b
  | _, _ => false
def useq : List U → List U → Bool
  | [], [] => true
  | a :: as, b :: bs => ueq a b && useq as bs
  | _, _ => false
end
mutual
theorem ueq_iff : ∀ a b : U, ueq a b = true ↔ a = b
  | .non, b => by cases b <;> simp [ueq]
  | .bl x, b => by cases b <;> simp [ueq]
  | .int x, b => by cases b <;> simp [ueq]
  | .str x, b => by cases b <;> simp [ueq]
  | .tup x, b => by cases b <;> simp [ueq, useq_iff]
  | .loc x, b => by cases b <;> simp [ueq]
theorem useq_iff : ∀ a b : List U, useq a b = true ↔ a = b
  | [], b => by cases b <;> simp [useq]
  | a :: as, b => by cases b <;> simp [useq, ueq_iff, useq_iff]
end
instance : DecidableEq U := fun a b => if h : ueq a b = true then .isTrue ((ueq_iff a b).mp h) else .isFalse fun e => h ((ueq_iff a b).mpr e)
def isLst (S : Sto) (n : Nat) (us : List U) : Bool :=
  match S[n]? with
  | some (.lst vs) => useq vs us
  | some (.fro vs) => useq vs us
  | _ => false
theorem isLst_iff {S : Sto} {n : Nat} {us : List U} (h : isLst S n us = true) : S[n]? = some (.lst us) ∨ S[n]? = some (.fro us) := by
  unfold isLst at h
  cases q : S[n]? with
  | none => rw [q] at h; cases h
  | some c =>
    rw [q] at h
    cases c with
    | lst vs => left; rw [(useq_iff vs us).mp h]
    | fro vs => right; rw [(useq_iff vs us).mp h]
    | ins C fs => cases h
    | dic kvs => cases h
theorem isLst_lst {S : Sto} {n : Nat} {us : List U} (h : S[n]? = some (.lst us)) : isLst S n us = true := by
  unfold isLst
  rw [h]
  exact (useq_iff us us).mpr rfl

/-! ### == of data: Python's -/
mutual
def eqU : U → U → Bool
  | .non, .non => true
  | .bl a, .bl b => a == b
  | .bl a, .int b => (if a then 1 else 0) == b
  | .int a, .bl b => a == (if b then 1 else 0)
  | .int a, .int b => a == b
  | .str a, .str b => a == b
  | .tup a, .tup b => eqUs a b
  | _, _ => false
def eqUs : List U → List U → Bool
  | [], [] => true
  | a :: as, b :: bs => eqU a b && eqUs as bs
  | _, _ => false
end
mutual
def pdU : U → PyData
  | .non => .none
  | .bl b => .bool b
  | .int i => .int i
  | .str x => .str x
  | .tup xs => .tuple (pdUs xs)
  | .loc _ => .none
def pdUs : List U → List PyData
  | [] => []
  | u :: us => pdU u :: pdUs us
end
mutual
def purU : U → Bool
  | .tup xs => purUs xs
  | .loc _ => false
  | _ => true
def purUs : List U → Bool
  | [] => true
  | u :: us => purU u && purUs us
end
mutual
theorem eqv_pd : ∀ a b : U, purU a = true → purU b = true → PyData.eqv (pdU a) (pdU b) = eqU a b
  | .non, b, _, hb => by cases b <;> simp_all [pdU, PyData.eqv, eqU, purU]
  | .bl x, b, _, hb => by cases b <;> simp_all [pdU, PyData.eqv, eqU, purU]
  | .int x, b, _, hb => by cases b <;> simp_all [pdU, PyData.eqv, eqU, purU]
  | .str x, b, _, hb => by cases b <;> simp_all [pdU, PyData.eqv, eqU, purU]
  | .tup x, b, ha, hb => by
    cases b with
    | tup y =>
      simp only [pdU, PyData.eqv, eqU]
      exact eqvs_pd x y (by simpa [purU] using ha) (by simpa [purU] using hb)
    | _ => simp_all [pdU, PyData.eqv, eqU, purU]
  | .loc x, b, ha, hb => by simp [purU] at ha
theorem eqvs_pd : ∀ a b : List U, purUs a = true → purUs b = true → PyData.eqvAll (pdUs a) (pdUs b) = eqUs a b
  | [], b, _, _ => by cases b <;> simp [pdUs, PyData.eqvAll, eqUs]
  | x :: xs, b, ha, hb => by
    cases b with
    | nil => simp [pdUs, PyData.eqvAll, eqUs]
    | cons y ys =>
      simp only [purUs, Bool.and_eq_true] at ha hb
      simp only [pdUs, PyData.eqvAll, eqUs]
      rw [eqv_pd x y ha.1 hb.1, eqvs_pd xs ys ha.2 hb.2]
end
/-- data that == takes -/
def okU (u : U) : Bool := purU u && SeqAt.shaped (pdU u)
def okUs (us : List U) : Bool := purUs us && SeqAt.shaped (.list (pdUs us))

/-! ### syntax -/
inductive Op where
  | add | sub | mul | fdiv | mod | pow | shl
inductive Cm where
  | eq | ne | lt | le | gt | ge | in_ | notIn | isN | isNotN
inductive Bf where
  | len | abs | int | max | sum | tup | list | min2 | max2 | str
inductive Bm where
  | append | startswith3 | pop
mutual
inductive E where
  | v (i : Nat) | k (u : U) | g (x : Str)
  | tup (es : Es) | lst (es : Es)
  | bin (o : Op) (a b : E) | neg (a : E)
  | cmp (o : Cm) (a b : E)
  | and (a b : E) | or (a b : E) | not (a : E)
  | ife (c : T) (a b : E)
  | ix (a i : E) | sl (a : E) (lo hi : Eo)
  | fld (a : E) (C f : Str)
  | call (f : Str) (es : Es) | meth (o : E) (C m : Str) (es : Es) | mk (C : Str) (es : Es)
  | bf (b : Bf) (es : Es) | bm (b : Bm) (o : E) (es : Es)
  | isi (a : E) (t : String)
  | lc (is : List Nat) (tp : Bool) (elt : E) (it : E) (c : T)
  | lcr (is : List Nat) (elt : E) (a b : E) (c : T)
inductive Eo where
  | no | so (e : E)
inductive Es where
  | nil | cons (e : E) (es : Es) | star (e : E) (es : Es)
inductive T where
  | tt | e (a : E) | and (a b : T) | or (a b : T) | not (a : T)
end
end Oz

end

section
set_option maxHeartbeats 4000000
/-! Oz2: what the small language means. -/
namespace Oz
open PySem PySem.Spec PyProof.Rows L2

instance (x : Str) (n : Int) : Decidable (PySem.MulOk x n) := by unfold PySem.MulOk; infer_instance
instance (i j : Int) : Decidable (CMul i j) := by unfold CMul; infer_instance
instance (i j : Int) : Decidable (CDiv i j) := by unfold CDiv; infer_instance
instance (i j : Int) : Decidable (CPow i j) := by unfold CPow; infer_instance

/-! ### operators by values -/
def binU (o : Op) (a b : U) (S : Sto) : R U :=
  match o, a, b with
  | .add, .int i, .int j => .ok (.int (i + j)) S
  | .add, .str x, .str y => if x.length + y.length ≤ sizeLine then .ok (.str (x ++ y)) S else .bad
  | .add, .tup xs, .tup ys => if xs.length + ys.length ≤ sizeLine then .ok (.tup (xs ++ ys)) S else .bad
  | .add, .loc m, .loc n =>
    match S[m]?, S[n]? with
    | some (.lst xs), some (.lst ys) => if xs.length + ys.length ≤ sizeLine then .ok (.loc S.length) (S ++ [.lst (xs ++ ys)]) else .bad
    | _, _ => .bad
  | .sub, .int i, .int j => .ok (.int (i - j)) S
  | .mul, .int i, .int j => if CMul i j then .ok (.int (i * j)) S else .bad
  | .mul, .str x, .int n => if PySem.MulOk x n then .ok (.str (PySem.Txt.mul x n)) S else .bad
  | .fdiv, .int i, .int j => if CDiv i j then .ok (.int (i / j)) S else .bad
  | .mod, .int i, .int j => if 0 < j then .ok (.int (i % j)) S else .bad
  | .pow, .int i, .int j => if CPow i j then .ok (.int (i ^ j.toNat)) S else .bad
  | .shl, .int i, .int j => if CPow i j then .ok (.int (i * 2 ^ j.toNat)) S else .bad
  | _, _, _ => .bad
def items? (S : Sto) : U → Option (List U)
  | .tup xs => some xs
  | .loc n =>
    match S[n]? with
    | some (.lst xs) => some xs
    | some (.fro xs) => some xs
    | _ => none
  | _ => none
def list? (S : Sto) : U → Option (List U)
  | .loc n =>
    match S[n]? with
    | some (.lst xs) => some xs
    | some (.fro xs) => some xs
    | _ => none
  | _ => none
def flatU : U → Bool
  | .non => true
  | .bl _ => true
  | .int _ => true
  | .str _ => true
  | _ => false
/-- == -/
def eqR (a b : U) (S : Sto) : Option Bool :=
  match a, b with
  | .int i, .int j => some (decide (i = j))
  | .str x, .str y => some (decide (x = y))
  | .loc m, .loc n =>
    match list? S (.loc m), list? S (.loc n) with
    | some xs, some ys => if okUs xs && okUs ys then some (eqUs xs ys) else none
    | _, _ => none
  | a, b => if okU a && okU b then some (eqU a b) else none
/-- in -/
def inR (a b : U) (S : Sto) : Option Bool :=
  match a, b with
  | .str x, .str z =>
    match x.cps.toList with
    | [c] => some (decide (c ∈ z.cps.toList))
    | _ => none
  | a, b =>
    match items? S b with
    | some xs =>
      if flatU a && xs.all flatU then some (xs.any fun y => eqU y a)
      else match list? S b with
        | some xs => if okU a && okUs xs then some (xs.any fun y => eqU y a) else none
        | none => none
    | none => none
def cmpB (o : Cm) (a b : U) (S : Sto) : Option Bool :=
  match o with
  | .eq => eqR a b S
  | .ne => (eqR a b S).map (!·)
  | .in_ => inR a b S
  | .notIn => (inR a b S).map (!·)
  | .isN => match b with | .non => some (decide (a = .non)) | _ => none
  | .isNotN => match b with | .non => some (!decide (a = .non)) | _ => none
  | .lt => match a, b with | .int i, .int j => some (decide (i < j)) | _, _ => none
  | .le => match a, b with | .int i, .int j => some (decide (i ≤ j)) | _, _ => none
  | .gt => match a, b with | .int i, .int j => some (decide (j < i)) | _, _ => none
  | .ge => match a, b with | .int i, .int j => some (decide (j ≤ i)) | _, _ => none
def rO {α : Type} (o : Option α) (S : Sto) : R α := match o with | some a => .ok a S | none => .bad
def cmpU (o : Cm) (a b : U) (S : Sto) : R U := match cmpB o a b S with | some k => .ok (.bl k) S | none => .bad
def ixU (a i : U) (S : Sto) : R U :=
  match a, i with
  | .str z, .int j => if z.length ≤ sizeLine then (match atI z.cps.toList j with | some c => .ok (.str ⟨#[c]⟩) S | none => .bad) else .bad
  | a, .int j =>
    match items? S a with
    | some xs => (match atI xs j with | some u => .ok u S | none => .bad)
    | none => .bad
  | _, _ => .bad
def cutA {α : Type} (xs : List α) (lo hi : Option Int) : List α := (xs.drop (HT.sIx xs.length 0 lo)).take (HT.sIx xs.length xs.length hi - HT.sIx xs.length 0 lo)
def slU (a : U) (lo hi : Option Int) (S : Sto) : R U :=
  match a with
  | .str z => if z.length ≤ sizeLine then .ok (.str (cutS z lo hi)) S else .bad
  | .tup xs => .ok (.tup (cutA xs lo hi)) S
  | .loc n => match list? S (.loc n) with | some xs => .ok (.loc S.length) (S ++ [.lst (cutA xs lo hi)]) | none => .bad
  | _ => .bad
def lenU (a : U) (S : Sto) : Option Nat :=
  match a with
  | .str z => if z.length ≤ sizeLine then some z.length else none
  | a => (items? S a).map List.length
def truU (a : U) (S : Sto) : Option Bool :=
  match a with
  | .non => some false
  | .bl b => some b
  | .int i => some (i != 0)
  | .str z => if z.length ≤ sizeLine then some ((z.length : Int) != 0) else none
  | a => (items? S a).map fun xs => !xs.isEmpty
def intsU : List U → Option (List Int)
  | [] => some []
  | .int i :: us => (intsU us).map (i :: ·)
  | _ :: _ => none
def maxI : List Int → Int
  | [] => 0
  | [i] => i
  | i :: is => if maxI is > i then maxI is else i
def lenF (us : List U) (S : Sto) : R U := match us with
  | [a] => (match lenU a S with | some n => .ok (.int (n : Nat)) S | none => .bad)
  | _ => .bad
def absF (us : List U) (S : Sto) : R U := match us with
  | [.int i] => .ok (.int (if i < 0 then -i else i)) S
  | _ => .bad
def intF (us : List U) (S : Sto) : R U := match us with
  | [.int i] => .ok (.int i) S
  | [.bl k] => .ok (.int (if k then 1 else 0)) S
  | [.str x] => (match PySem.intText? x with | some n => if x.length ≤ 640 then .ok (.int n) S else .bad | none => .bad)
  | _ => .bad
def maxF (us : List U) (S : Sto) : R U := match us with
  | [a] => (match (list? S a).bind intsU with | some ns => if 0 < ns.length then .ok (.int (maxI ns)) S else .bad | none => .bad)
  | _ => .bad
def sumF (us : List U) (S : Sto) : R U := match us with
  | [a] => (match (list? S a).bind intsU with | some ns => .ok (.int ns.sum) S | none => .bad)
  | _ => .bad
def max2F (us : List U) (S : Sto) : R U := match us with
  | [.int i, .int j] => .ok (.int (if j > i then j else i)) S
  | _ => .bad
def min2F (us : List U) (S : Sto) : R U := match us with
  | [.int i, .int j] => .ok (.int (if j < i then j else i)) S
  | _ => .bad
def tupF (us : List U) (S : Sto) : R U := match us with
  | [a] => (match items? S a with | some xs => .ok (.tup xs) S | none => .bad)
  | _ => .bad
def listF (us : List U) (S : Sto) : R U := match us with
  | [a] => (match items? S a with | some xs => .ok (.loc S.length) (S ++ [.lst xs]) | none => .bad)
  | _ => .bad
def strF (us : List U) (S : Sto) : R U := match us with
  | [.int i] => if i.natAbs.log2 < 1920 then .ok (.str (toString i)) S else .bad
  | _ => .bad
def bfU (b : Bf) (us : List U) (S : Sto) : R U := match b with
  | .len => lenF us S
  | .abs => absF us S
  | .int => intF us S
  | .max => maxF us S
  | .sum => sumF us S
  | .max2 => max2F us S
  | .min2 => min2F us S
  | .tup => tupF us S
  | .list => listF us S
  | .str => strF us S
def appendF (o : U) (us : List U) (S : Sto) : R U := match o, us with
  | .loc n, [u] => (match S[n]? with | some (.lst xs) => if xs.length < sizeLine then .ok .non (S.set n (.lst (xs ++ [u]))) else .bad | _ => .bad)
  | _, _ => .bad
def popF (o : U) (us : List U) (S : Sto) : R U := match o, us with
  | .loc n, [] => (match S[n]? with | some (.lst xs) => (match xs[xs.length - 1]? with | some u => .ok u (S.set n (.lst xs.dropLast)) | none => .bad) | _ => .bad)
  | _, _ => .bad
def startsF (o : U) (us : List U) (S : Sto) : R U := match o, us with
  | .str x, [.str y, .int i] => .ok (.bl (PySem.Txt.startswith3 x y i)) S
  | _, _ => .bad
def bmU (b : Bm) (o : U) (us : List U) (S : Sto) : R U := match b with
  | .append => appendF o us S
  | .pop => popF o us S
  | .startswith3 => startsF o us S
/-- what has such a method -/
def tyB (b : Bm) (o : U) (S : Sto) : Bool :=
  match b, o with
  | .append, o => (list? S o).isSome
  | .pop, o => (list? S o).isSome
  | .startswith3, .str _ => true
  | _, _ => false
def tyU (S : Sto) : U → Option String
  | .non => some "NoneType"
  | .bl _ => some "bool"
  | .int _ => some "int"
  | .str _ => some "str"
  | .tup _ => some "tuple"
  | .loc n =>
    match S[n]? with
    | some (.lst _) => some "list"
    | some (.fro _) => some "list"
    | some (.dic _) => some "dict"
    | _ => none

/-! ### the def's names -/
abbrev Env := List (Option U)
def setAll : List Nat → List U → Env → Env
  | i :: is, u :: us, env => setAll is us (env.set i (some u))
  | _, _, env => env
/-- a name, or names in parentheses -/
def setN (tp : Bool) (is : List Nat) (u : U) (env : Env) : Option Env :=
  if tp then match u with
    | .tup us => if us.length = is.length then some (setAll is us env) else none
    | _ => none
  else match is with
    | [i] => some (env.set i (some u))
    | _ => none
def wipeE (env : Env) : List Nat → Env
  | [] => env
  | i :: is => (wipeE env is).set i none
/-- what a for goes over: the items, the list that must stay -/
def iterU (S : Sto) : U → Option (List U × Option Nat)
  | .tup xs => some (xs, none)
  | .str z => some (z.cps.toList.map fun c => U.str ⟨#[c]⟩, none)
  | .loc n =>
    match S[n]? with
    | some (.lst xs) => some (xs, some n)
    | some (.fro xs) => some (xs, some n)
    | _ => none
  | _ => none
def stays (S : Sto) (us : List U) : Option Nat → Bool
  | none => true
  | some n => isLst S n us
def ranged (a b : Int) : List U := (List.range (b - a).toNat).map fun k => U.int (a + (k : Nat))

/-! ### the program around a def -/
structure Cal where
  call : Str → List U → Sto → R U
  init : Str → List U → Sto → R U
  glo : Str → Option U
  xf : Str → Option Str

/-- one more item for the list at n -/
def pushAt (n : Nat) (u : U) (S : Sto) : R Unit :=
  match S[n]? with
  | some (.lst acc) => if acc.length < sizeLine then .ok () (S.set n (.lst (acc ++ [u]))) else .bad
  | _ => .bad
/-- within a comprehension nothing may be raised -/
def R.noex {α : Type} (r : R α) : R α := match r with | .ok a S => .ok a S | _ => .bad
/-- a comprehension's turns: all the items, those to come -/
def lcI (tp : Bool) (is : List Nat) (env : Env) (c : Env → Sto → R Bool) (f : Env → Sto → R U) (n : Nat) (all : List U) (src : Option Nat) : List U → Sto → R Unit
  | [], S => if stays S all src then .ok () S else .bad
  | u :: us, S => if stays S all src then
      match setN tp is u env with
      | some env' => (c env' S).bind fun b S1 => if b then (f env' S1).bind fun y S2 => (pushAt n y S2).bind fun _ S3 => lcI tp is env c f n all src us S3 else lcI tp is env c f n all src us S1
      | none => .bad
    else .bad
mutual
def ev (Φ : Cal) : E → Env → Sto → R U
  | .v i, env, S => (match env[i]? with | some (some u) => .ok u S | _ => .bad)
  | .k u, _, S => .ok u S
  | .g x, _, S => rO (Φ.glo x) S
  | .tup es, env, S => (evs Φ es env S).bind fun us S => if us.length ≤ sizeLine then .ok (.tup us) S else .bad
  | .lst es, env, S => (evs Φ es env S).bind fun us S => if us.length ≤ sizeLine then .ok (.loc S.length) (S ++ [.lst us]) else .bad
  | .bin o a b, env, S => (ev Φ a env S).bind fun x S => (ev Φ b env S).bind fun y S => binU o x y S
  | .neg a, env, S => (ev Φ a env S).bind fun x S => (match x with | .int i => .ok (.int (-i)) S | _ => .bad)
  | .cmp o a b, env, S => (ev Φ a env S).bind fun x S => (ev Φ b env S).bind fun y S => cmpU o x y S
  | .and a b, env, S => (ev Φ a env S).bind fun x S => (match x with | .bl true => ev Φ b env S | .bl false => .ok (.bl false) S | _ => .bad)
  | .or a b, env, S => (ev Φ a env S).bind fun x S => (match x with | .bl true => .ok (.bl true) S | .bl false => ev Φ b env S | _ => .bad)
  | .not a, env, S => (ev Φ a env S).bind fun x S => (match x with | .bl k => .ok (.bl (!k)) S | _ => .bad)
  | .ife c a b, env, S => (evt Φ c env S).bind fun k S => if k then ev Φ a env S else ev Φ b env S
  | .ix a i, env, S => (ev Φ a env S).bind fun x S => (ev Φ i env S).bind fun y S => ixU x y S
  | .sl a lo hi, env, S => (ev Φ a env S).bind fun x S => (evo Φ lo env S).bind fun l S => (evo Φ hi env S).bind fun h S => slU x l h S
  | .fld a C f, env, S => (ev Φ a env S).bind fun x S => (match x with
      | .loc n => (match S[n]? with | some (.ins D fs) => if D = C then rO (fs.lookup f) S else .bad | _ => .bad)
      | _ => .bad)
  | .call f es, env, S => (evs Φ es env S).bind fun us S => Φ.call f us S
  | .meth o C m es, env, S => (ev Φ o env S).bind fun x S => (match x with
      | .loc n => (match S[n]? with
        | some (.ins D fs) => if D = C ∧ fs.lookup m = none then (evs Φ es env S).bind fun us S => Φ.call (C ++ "." ++ m) (.loc n :: us) S else .bad
        | _ => .bad)
      | _ => .bad)
  | .mk C es, env, S => (evs Φ es env S).bind fun us S => (Φ.init (C ++ ".__init__") (.loc S.length :: us) (S ++ [.ins C []])).bind fun u S' => (match u with | .non => .ok (.loc S.length) S' | _ => .bad)
  | .bf b es, env, S => (evs Φ es env S).bind fun us S => bfU b us S
  | .bm b o es, env, S => (ev Φ o env S).bind fun x S => if tyB b x S then (evs Φ es env S).bind fun us S => bmU b x us S else .bad
  | .isi a t, env, S => (ev Φ a env S).bind fun x S => (match tyU S x with | some t' => (match kitB t' t with | some k => .ok (.bl k) S | none => .bad) | none => .bad)
  | .lc is tp elt it c, env, S => (ev Φ it env S).bind fun x S => (match iterU S x with
      | some (us, src) => (lcI tp is (wipeE env is) (fun env S => (evt Φ c env S).noex) (fun env S => (ev Φ elt env S).noex) S.length us src us (S ++ [.lst []])).bind fun _ S' => .ok (.loc S.length) S'
      | none => .bad)
  | .lcr is elt a b c, env, S => (ev Φ a env S).bind fun x S => (ev Φ b env S).bind fun y S => (match x, y with
      | .int i, .int j => if -(2 ^ 62) ≤ i ∧ i < 2 ^ 62 ∧ -(2 ^ 62) ≤ j ∧ j < 2 ^ 62 then
          (lcI false is (wipeE env is) (fun env S => (evt Φ c env S).noex) (fun env S => (ev Φ elt env S).noex) S.length (ranged i j) none (ranged i j) (S ++ [.lst []])).bind fun _ S' => .ok (.loc S.length) S'
        else .bad
      | _, _ => .bad)
def evo (Φ : Cal) : Eo → Env → Sto → R (Option Int)
  | .no, _, S => .ok none S
  | .so e, env, S => (ev Φ e env S).bind fun x S => (match x with | .int i => .ok (some i) S | _ => .bad)
def evs (Φ : Cal) : Es → Env → Sto → R (List U)
  | .nil, _, S => .ok [] S
  | .cons e es, env, S => (ev Φ e env S).bind fun u S => (evs Φ es env S).bind fun us S => .ok (u :: us) S
  | .star e es, env, S => (ev Φ e env S).bind fun u S => (match items? S u with | some xs => (evs Φ es env S).bind fun us S => .ok (xs ++ us) S | none => .bad)
def evt (Φ : Cal) : T → Env → Sto → R Bool
  | .tt, _, S => .ok true S
  | .e a, env, S => (ev Φ a env S).bind fun x S => rO (truU x S) S
  | .and a b, env, S => (evt Φ a env S).bind fun k S => if k then evt Φ b env S else .ok false S
  | .or a b, env, S => (evt Φ a env S).bind fun k S => if k then .ok true S else evt Φ b env S
  | .not a, env, S => (evt Φ a env S).bind fun k S => .ok (!k) S
end

/-! ### statements -/
mutual
inductive St where
  | set (tp : Bool) (is : List Nat) (e : E)
  | sub (o i e : E)
  | aug (i : Nat) (o : Op) (e : E)
  | fset (o : E) (C f : Str) (e : E)
  | faug (o : E) (C f : Str) (op : Op) (e : E)
  | ex (e : E) | ret (e : E) | retN
  | if_ (c : T) (a b : Sts)
  | while_ (c : T) (b : Sts)
  | for_ (tp : Bool) (is : List Nat) (it : E) (b : Sts)
  | forr (i : Nat) (a b : E) (c : Sts)
  | raise (C : Str) (e : E)
  | pass | brk | cont
inductive Sts where
  | nil | cons (s : St) (b : Sts)
end
inductive O where
  | nx (env : Env) (S : Sto) | ret (u : U) (S : Sto) | bk (env : Env) (S : Sto) | ct (env : Env) (S : Sto)
  | exc (c : Str) (fs : List (Str × U)) (S : Sto) | bad
def R.on {α : Type} (r : R α) (f : α → Sto → O) : O :=
  match r with
  | .ok a S => f a S
  | .exc c fs S => .exc c fs S
  | .bad => .bad
def O.then_ (o : O) (f : Env → Sto → O) : O :=
  match o with
  | .nx env S => f env S
  | o => o
/-- a loop's turn has ended -/
def O.turn (o : O) (f : Env → Sto → O) : O :=
  match o with
  | .nx env S => f env S
  | .ct env S => f env S
  | .bk env S => .nx env S
  | o => o
def augU (o : Op) (a b : U) (S : Sto) : R U :=
  match o, a, b with
  | .add, .int i, .int j => .ok (.int (i + j)) S
  | .add, .str x, .str y => if x.length + y.length ≤ sizeLine then .ok (.str (x ++ y)) S else .bad
  | .sub, .int i, .int j => .ok (.int (i - j)) S
  | .mul, .int i, .int j => if CMul i j then .ok (.int (i * j)) S else .bad
  | _, _, _ => .bad
def putU (f : Str) (u : U) : List (Str × U) → List (Str × U)
  | [] => [(f, u)]
  | (g, v) :: r => if g = f then (f, u) :: r else (g, v) :: putU f u r
def setItemU (o i u : U) (S : Sto) : R Unit :=
  match o, i with
  | .loc n, .int k => (match S[n]? with
    | some (.lst xs) => (match ixN xs.length k with | some j => .ok () (S.set n (.lst (xs.set j u))) | none => .bad)
    | _ => .bad)
  | _, _ => .bad
def setFldU (o : U) (C f : Str) (u : U) (S : Sto) : R Unit :=
  match o with
  | .loc n => (match S[n]? with
    | some (.ins D fs) => if D = C ∧ fs.length < 900 then .ok () (S.set n (.ins C (putU f u fs))) else .bad
    | _ => .bad)
  | _ => .bad
def loopI (c : Env → Sto → R Bool) (f : Env → Sto → O) : Nat → Env → Sto → O
  | 0, _, _ => .bad
  | n + 1, env, S => (c env S).on fun k S => if k then (f env S).turn fun env S => loopI c f n env S else .nx env S
def forI (tp : Bool) (is : List Nat) (f : Env → Sto → O) (all : List U) (src : Option Nat) : List U → Env → Sto → O
  | [], env, S => if stays S all src then .nx env S else .bad
  | u :: us, env, S => if stays S all src then
      match setN tp is u env with
      | some env' => (f env' S).turn fun env S => forI tp is f all src us env S
      | none => .bad
    else .bad
def fuel : Nat := 16777216
mutual
def ex (Φ : Cal) : St → Env → Sto → O
  | .set tp is e, env, S => (ev Φ e env S).on fun u S => (match setN tp is u env with | some env => .nx env S | none => .bad)
  | .sub o i e, env, S => (ev Φ e env S).on fun u S => (ev Φ o env S).on fun a S => (ev Φ i env S).on fun k S => (setItemU a k u S).on fun _ S => .nx env S
  | .aug i o e, env, S => (match env[i]? with | some (some a) => (ev Φ e env S).on fun b S => (augU o a b S).on fun u S => .nx (env.set i (some u)) S | _ => .bad)
  | .fset o C f e, env, S => (ev Φ e env S).on fun u S => (ev Φ o env S).on fun a S => (setFldU a C f u S).on fun _ S => .nx env S
  | .faug o C f op e, env, S => (ev Φ o env S).on fun a S => (match a with
      | .loc n => (match S[n]? with
        | some (.ins D fs) => if D = C then (match fs.lookup f with | some x => (ev Φ e env S).on fun y S => (augU op x y S).on fun z S => (setFldU (.loc n) C f z S).on fun _ S => .nx env S | none => .bad) else .bad
        | _ => .bad)
      | _ => .bad)
  | .ex e, env, S => (ev Φ e env S).on fun _ S => .nx env S
  | .ret e, env, S => (ev Φ e env S).on fun u S => .ret u S
  | .retN, _, S => .ret .non S
  | .if_ c a b, env, S => (evt Φ c env S).on fun k S => if k then exs Φ a env S else exs Φ b env S
  | .while_ c b, env, S => loopI (fun env S => evt Φ c env S) (fun env S => exs Φ b env S) fuel env S
  | .for_ tp is it b, env, S => (ev Φ it env S).on fun x S => (match iterU S x with
      | some (us, src) => forI tp is (fun env S => exs Φ b env S) us src us env S
      | none => .bad)
  | .forr i a b c, env, S => (ev Φ a env S).on fun x S => (ev Φ b env S).on fun y S => (match x, y with
      | .int m, .int n => if -(2 ^ 62) ≤ m ∧ m < 2 ^ 62 ∧ -(2 ^ 62) ≤ n ∧ n < 2 ^ 62 then forI false [i] (fun env S => exs Φ c env S) (ranged m n) none (ranged m n) env S else .bad
      | _, _ => .bad)
  | .raise C e, env, S => (ev Φ e env S).on fun u S => (match Φ.xf C with | some f => .exc C [(f, u)] S | none => .bad)
  | .pass, env, S => .nx env S
  | .brk, env, S => .bk env S
  | .cont, env, S => .ct env S
def exs (Φ : Cal) : Sts → Env → Sto → O
  | .nil, env, S => .nx env S
  | .cons s b, env, S => (ex Φ s env S).then_ fun env S => exs Φ b env S
end
/-- a body's end is the call's -/
def O.fin (o : O) : R U :=
  match o with
  | .nx _ S => .ok .non S
  | .ret u S => .ok u S
  | .exc c fs S => .exc c fs S
  | _ => .bad
def startU (n : Nat) (us : List U) : Env := us.map some ++ List.replicate (n - us.length) none
/-- a def: how many parameters, how many names, its body; star: what is left over is a tuple, the last parameter -/
structure Df where
  np : Nat
  nn : Nat
  star : Bool
  body : Sts
def bindU (d : Df) (us : List U) : Option (List U) :=
  if d.star then (if d.np ≤ us.length ∧ us.length ≤ 1000 then some (us.take d.np ++ [.tup (us.drop d.np)]) else none)
  else if us.length = d.np then some us else none
def Df.run (d : Df) (Φ : Cal) (us : List U) (S : Sto) : R U :=
  match bindU d us with
  | some ws => (exs Φ d.body (startU d.nn ws) S).fin
  | none => .bad
structure Pg where
  defs : Str → Option (Df ⊕ (Cal → List U → Sto → R U))
  glo : Str → Option U
  xf : Str → Option Str
/-- calls to a depth -/
def Pg.cal (p : Pg) : Nat → Cal
  | 0 => ⟨fun _ _ _ => .bad, fun _ _ _ => .bad, p.glo, p.xf⟩
  | d + 1 => ⟨fun f us S => match p.defs f with | some (.inl df) => df.run (p.cal d) us S | some (.inr g) => g (p.cal d) us S | none => .bad, (p.cal d).call, p.glo, p.xf⟩
end Oz

end

section
set_option maxHeartbeats 4000000
/-! Oz3: how the small language's values and store stand in the model's heap. -/
namespace Oz
open PySem PySem.Spec PyProof.Rows L2

section
variable (K : PySem.W.Frag) (mg : Str → Option Value)
mutual
def RelU (ρ : List Addr) (H : Hp) : U → V → Prop
  | .non, v => v = .non
  | .bl b, v => v = .bl b
  | .int i, v => v = .int i
  | .str x, v => v = .str x
  | .tup us, v => ∃ a vs, v = .ref a ∧ SqT K H a vs ∧ RelUs ρ H us vs
  | .loc n, v => ∃ a, v = .ref a ∧ ρ[n]? = some a
def RelUs (ρ : List Addr) (H : Hp) : List U → List V → Prop
  | [], vs => vs = []
  | u :: us, vs => ∃ v vs', vs = v :: vs' ∧ RelU ρ H u v ∧ RelUs ρ H us vs'
end
/-- what never changes -/
def Imm : HO → Prop
  | .tup _ => True
  | .frz _ _ => True
  | .met _ _ => True
  | _ => False
structure Ext (ρ : List Addr) (H : Hp) (ρ' : List Addr) (H' : Hp) : Prop where
  pre : ∃ t, ρ' = ρ ++ t
  imm : ∀ a o, H a = some o → Imm o → H' a = some o
theorem Ext.refl {ρ : List Addr} {H : Hp} : Ext ρ H ρ H := ⟨⟨[], by simp⟩, fun _ _ h _ => h⟩
theorem Ext.trans {ρ ρ1 ρ2 : List Addr} {H H1 H2 : Hp} (a : Ext ρ H ρ1 H1) (b : Ext ρ1 H1 ρ2 H2) : Ext ρ H ρ2 H2 := by
  obtain ⟨t, e⟩ := a.pre
  obtain ⟨t', e'⟩ := b.pre
  exact ⟨⟨t ++ t', by rw [e', e, List.append_assoc]⟩, fun x o h i => b.imm x o (a.imm x o h i) i⟩
theorem Ext.at_ {ρ ρ' : List Addr} {H H' : Hp} (e : Ext ρ H ρ' H') {n : Nat} {a : Addr} (h : ρ[n]? = some a) : ρ'[n]? = some a := by
  obtain ⟨t, rfl⟩ := e.pre
  rw [List.getElem?_append_left (List.getElem?_eq_some_iff.mp h).1]
  exact h
theorem Ext.sqt {ρ ρ' : List Addr} {H H' : Hp} (e : Ext ρ H ρ' H') {a : Addr} {vs : List V} (h : SqT K H a vs) : SqT K H' a vs := by
  rcases h with (h | ⟨o, h⟩) | h
  · exact .inl (.inl (e.imm _ _ h trivial))
  · exact .inl (.inr ⟨o, e.imm _ _ h trivial⟩)
  · exact .inr h
variable {K mg}
mutual
theorem RelU.mono {ρ ρ' : List Addr} {H H' : Hp} (e : Ext ρ H ρ' H') : ∀ {u : U} {v : V}, RelU K ρ H u v → RelU K ρ' H' u v
  | .non, _, h => by simpa [RelU] using h
  | .bl _, _, h => by simpa [RelU] using h
  | .int _, _, h => by simpa [RelU] using h
  | .str _, _, h => by simpa [RelU] using h
  | .tup us, v, h => by
    simp only [RelU] at h ⊢
    obtain ⟨a, vs, rfl, hs, hr⟩ := h
    exact ⟨a, vs, rfl, e.sqt K hs, RelUs.mono e hr⟩
  | .loc n, v, h => by
    simp only [RelU] at h ⊢
    obtain ⟨a, rfl, hn⟩ := h
    exact ⟨a, rfl, e.at_ hn⟩
theorem RelUs.mono {ρ ρ' : List Addr} {H H' : Hp} (e : Ext ρ H ρ' H') : ∀ {us : List U} {vs : List V}, RelUs K ρ H us vs → RelUs K ρ' H' us vs
  | [], _, h => by simpa [RelUs] using h
  | u :: us, vs, h => by
    simp only [RelUs] at h ⊢
    obtain ⟨v, vs', rfl, h1, h2⟩ := h
    exact ⟨v, vs', rfl, RelU.mono e h1, RelUs.mono e h2⟩
end
theorem RelUs.length {ρ : List Addr} {H : Hp} : ∀ {us : List U} {vs : List V}, RelUs K ρ H us vs → vs.length = us.length
  | [], _, h => by simp only [RelUs] at h; subst h; rfl
  | u :: us, vs, h => by
    simp only [RelUs] at h
    obtain ⟨v, vs', rfl, _, h2⟩ := h
    simp [RelUs.length h2]
theorem RelUs.nil {ρ : List Addr} {H : Hp} : RelUs K ρ H [] [] := by simp [RelUs]
theorem RelUs.cons {ρ : List Addr} {H : Hp} {u : U} {us : List U} {v : V} {vs : List V} (h : RelU K ρ H u v) (hs : RelUs K ρ H us vs) : RelUs K ρ H (u :: us) (v :: vs) := by
  simp only [RelUs]
  exact ⟨v, vs, rfl, h, hs⟩
theorem RelUs.get {ρ : List Addr} {H : Hp} : ∀ {us : List U} {vs : List V} {i : Nat} {u : U}, RelUs K ρ H us vs → us[i]? = some u → ∃ v, vs[i]? = some v ∧ RelU K ρ H u v
  | [], _, _, _, _, e => by simp at e
  | u :: us, vs, i, w, h, e => by
    simp only [RelUs] at h
    obtain ⟨v, vs', rfl, h1, h2⟩ := h
    cases i with
    | zero => simp at e; subst e; exact ⟨v, rfl, h1⟩
    | succ i =>
      obtain ⟨v', e', r⟩ := RelUs.get h2 (i := i) (by simpa using e)
      exact ⟨v', by simpa using e', r⟩
theorem RelUs.append {ρ : List Addr} {H : Hp} : ∀ {us ws : List U} {vs xs : List V}, RelUs K ρ H us vs → RelUs K ρ H ws xs → RelUs K ρ H (us ++ ws) (vs ++ xs)
  | [], _, _, _, h, h' => by simp only [RelUs] at h; subst h; exact h'
  | u :: us, ws, vs, xs, h, h' => by
    simp only [RelUs] at h
    obtain ⟨v, vs', rfl, h1, h2⟩ := h
    exact RelUs.cons h1 (RelUs.append h2 h')
theorem RelUs.take {ρ : List Addr} {H : Hp} : ∀ {us : List U} {vs : List V} (n : Nat), RelUs K ρ H us vs → RelUs K ρ H (us.take n) (vs.take n)
  | [], _, _, h => by simp only [RelUs] at h; subst h; simp [RelUs]
  | u :: us, vs, 0, h => by simp [RelUs]
  | u :: us, vs, n + 1, h => by
    simp only [RelUs] at h
    obtain ⟨v, vs', rfl, h1, h2⟩ := h
    exact RelUs.cons h1 (RelUs.take n h2)
theorem RelUs.drop {ρ : List Addr} {H : Hp} : ∀ {us : List U} {vs : List V} (n : Nat), RelUs K ρ H us vs → RelUs K ρ H (us.drop n) (vs.drop n)
  | [], _, _, h => by simp only [RelUs] at h; subst h; simp [RelUs]
  | u :: us, vs, 0, h => by simpa using h
  | u :: us, vs, n + 1, h => by
    simp only [RelUs] at h
    obtain ⟨v, vs', rfl, h1, h2⟩ := h
    exact RelUs.drop n h2
theorem RelUs.set {ρ : List Addr} {H : Hp} {u : U} {v : V} (hu : RelU K ρ H u v) : ∀ {us : List U} {vs : List V} (n : Nat), RelUs K ρ H us vs → RelUs K ρ H (us.set n u) (vs.set n v)
  | [], _, _, h => by simp only [RelUs] at h; subst h; simp [RelUs]
  | w :: us, vs, 0, h => by
    simp only [RelUs] at h
    obtain ⟨v', vs', rfl, h1, h2⟩ := h
    exact RelUs.cons hu h2
  | w :: us, vs, n + 1, h => by
    simp only [RelUs] at h
    obtain ⟨v', vs', rfl, h1, h2⟩ := h
    exact RelUs.cons h1 (RelUs.set hu n h2)
theorem RelUs.dropLast {ρ : List Addr} {H : Hp} {us : List U} {vs : List V} (h : RelUs K ρ H us vs) : RelUs K ρ H us.dropLast vs.dropLast := by
  rw [List.dropLast_eq_take, List.dropLast_eq_take, h.length]
  exact RelUs.take _ h
theorem RelUs.cut {ρ : List Addr} {H : Hp} {us : List U} {vs : List V} (lo hi : Option Int) (h : RelUs K ρ H us vs) : RelUs K ρ H (cutA us lo hi) (cutV vs lo hi) := by
  unfold cutA cutV
  rw [h.length]
  exact RelUs.take _ (RelUs.drop _ h)
theorem RelUs.ints {ρ : List Addr} {H : Hp} : ∀ {us : List U} {ns : List Int} {vs : List V}, RelUs K ρ H us vs → intsU us = some ns → vs = ns.map V.int
  | [], ns, vs, h, e => by
    simp only [RelUs] at h
    simp only [intsU, Option.some.injEq] at e
    subst e h
    rfl
  | u :: us, ns, vs, h, e => by
    simp only [RelUs] at h
    obtain ⟨v, vs', rfl, h1, h2⟩ := h
    cases u <;> simp only [intsU] at e <;> try cases e
    rename_i i
    cases q : intsU us with
    | none => rw [q] at e; cases e
    | some ms =>
      rw [q] at e
      simp only [Option.map_some, Option.some.injEq] at e
      subst e
      have := RelUs.ints h2 q
      simp only [RelU] at h1
      subst h1 this
      rfl

/-- an instance's fields -/
def RelF (K : PySem.W.Frag) (ρ : List Addr) (H : Hp) (fs : List (Str × U)) (vfs : List (Str × V)) : Prop := Paired (fun (p : Str × U) (q : Str × V) => p.1 = q.1 ∧ RelU K ρ H p.2 q.2) fs vfs
theorem RelF.mono {ρ ρ' : List Addr} {H H' : Hp} (e : Ext ρ H ρ' H') {fs : List (Str × U)} {vfs : List (Str × V)} (h : RelF K ρ H fs vfs) : RelF K ρ' H' fs vfs :=
  L2.Paired.mapP h fun _ _ q => ⟨q.1, q.2.mono e⟩
theorem RelF.look {ρ : List Addr} {H : Hp} {f : Str} : ∀ {fs : List (Str × U)} {vfs : List (Str × V)}, RelF K ρ H fs vfs → (∀ u, fs.lookup f = some u → ∃ v, vfs.lookup f = some v ∧ RelU K ρ H u v) ∧ (fs.lookup f = none → vfs.lookup f = none)
  | [], _, .nil => ⟨fun u e => by simp at e, fun _ => rfl⟩
  | (g, u) :: fs, (g', v) :: vfs, .cons q r => by
    obtain ⟨rfl, h1⟩ := q
    have ih := RelF.look (f := f) r
    by_cases hg : f == g
    · constructor
      · intro w e
        simp only [List.lookup_cons, hg] at e ⊢
        cases e
        exact ⟨v, rfl, h1⟩
      · intro e
        simp only [List.lookup_cons, hg] at e
        cases e
    · have hg' : (f == g) = false := by simpa using hg
      constructor
      · intro w e
        simp only [List.lookup_cons, hg'] at e ⊢
        exact ih.1 w e
      · intro e
        simp only [List.lookup_cons, hg'] at e ⊢
        exact ih.2 e
theorem RelF.length {ρ : List Addr} {H : Hp} {fs : List (Str × U)} {vfs : List (Str × V)} (h : RelF K ρ H fs vfs) : fs.length = vfs.length := Paired.length h
theorem RelF.put {ρ : List Addr} {H : Hp} {f : Str} {u : U} {v : V} (hu : RelU K ρ H u v) : ∀ {fs : List (Str × U)} {vfs : List (Str × V)}, RelF K ρ H fs vfs → RelF K ρ H (putU f u fs) (L2.putF f v vfs)
  | [], _, .nil => .cons ⟨rfl, hu⟩ .nil
  | (g, w) :: fs, (g', x) :: vfs, .cons q r => by
    obtain ⟨rfl, h1⟩ := q
    unfold putU L2.putF
    by_cases hg : g = f
    · rw [if_pos hg, if_pos hg]
      exact .cons ⟨hg.symm, hu⟩ r
    · rw [if_neg hg, if_neg hg]
      exact .cons ⟨rfl, h1⟩ (RelF.put hu r)

/-- a list that is read only -/
def FroL (K : PySem.W.Frag) (H : Hp) (a : Addr) (vs : List V) : Prop := (∃ o, H a = some (.frz o (.lst vs))) ∨
  ∃ (o : Obj) (its : Array Value) (n : Nat), K.lookup a = some o ∧ o.cls = .type "list" ∧ o.dict = none ∧ o.data = .seq its n ∧ its.size ≤ sizeLine ∧ Vals vs its.toList
theorem FroL.sql {K : PySem.W.Frag} {H : Hp} {a : Addr} {vs : List V} (h : FroL K H a vs) : SqL K H a vs := by
  rcases h with ⟨o, h⟩ | h
  · exact .inl (.inr ⟨o, h⟩)
  · exact .inr h
theorem FroL.ext {K : PySem.W.Frag} {ρ ρ' : List Addr} {H H' : Hp} (e : Ext ρ H ρ' H') {a : Addr} {vs : List V} (h : FroL K H a vs) : FroL K H' a vs := by
  rcases h with ⟨o, h⟩ | h
  · exact .inl ⟨o, e.imm _ _ h trivial⟩
  · exact .inr h
def isFro : Cel → Bool
  | .fro _ => true
  | _ => false
def CelOk (K : PySem.W.Frag) (mg : Str → Option Value) (ρ : List Addr) (H : Hp) (a : Addr) : Cel → Prop
  | .lst us => ∃ vs, H a = some (.lst vs) ∧ RelUs K ρ H us vs
  | .fro us => ∃ vs, FroL K H a vs ∧ RelUs K ρ H us vs
  | .ins C fs => ∃ Ca dx vfs, mg C = some (.ref Ca) ∧ H a = some (.ins Ca dx vfs) ∧ RelF K ρ H fs vfs
  | .dic kvs => ∃ vkvs, H a = some (.dK vkvs) ∧ Paired (fun (p : Key × U) (q : Key × V) => p.1 = q.1 ∧ RelU K ρ H p.2 q.2) kvs vkvs
theorem CelOk.there {ρ : List Addr} {H : Hp} {a : Addr} {c : Cel} (h : CelOk K mg ρ H a c) (hf : isFro c = false) : ∃ o, H a = some o := by
  cases c with
  | lst us => obtain ⟨vs, e, _⟩ := h; exact ⟨_, e⟩
  | fro us => cases hf
  | ins C fs => obtain ⟨_, _, _, _, e, _⟩ := h; exact ⟨_, e⟩
  | dic kvs => obtain ⟨_, e, _⟩ := h; exact ⟨_, e⟩
theorem CelOk.keep {ρ ρ' : List Addr} {H H' : Hp} (e : Ext ρ H ρ' H') {a : Addr} {c : Cel} (h : CelOk K mg ρ H a c) (k : isFro c = false → ∀ o, H a = some o → H' a = some o) : CelOk K mg ρ' H' a c := by
  cases c with
  | lst us => obtain ⟨vs, q, r⟩ := h; exact ⟨vs, k rfl _ q, r.mono e⟩
  | fro us => obtain ⟨vs, q, r⟩ := h; exact ⟨vs, q.ext e, r.mono e⟩
  | ins C fs => obtain ⟨Ca, dx, vfs, m, q, r⟩ := h; exact ⟨Ca, dx, vfs, m, k rfl _ q, r.mono e⟩
  | dic kvs => obtain ⟨vk, q, r⟩ := h; exact ⟨vk, k rfl _ q, L2.Paired.mapP r fun _ _ z => ⟨z.1, z.2.mono e⟩⟩

structure Wok (K : PySem.W.Frag) (mg : Str → Option Value) (ρ : List Addr) (S : Sto) (H : Hp) : Prop where
  len : ρ.length = S.length
  nd : ∀ (m n : Nat) (a : Addr) (c c' : Cel), ρ[m]? = some a → ρ[n]? = some a → S[m]? = some c → S[n]? = some c' → isFro c = false → isFro c' = false → m = n
  ok : ∀ (n : Nat) (a : Addr) (c : Cel), ρ[n]? = some a → S[n]? = some c → CelOk K mg ρ H a c
theorem Wok.cel {ρ : List Addr} {S : Sto} {H : Hp} (w : Wok K mg ρ S H) {n : Nat} {c : Cel} (h : S[n]? = some c) : ∃ a, ρ[n]? = some a ∧ CelOk K mg ρ H a c := by
  have hn : n < S.length := (List.getElem?_eq_some_iff.mp h).1
  have hr : n < ρ.length := by rw [w.len]; exact hn
  exact ⟨ρ[n], List.getElem?_eq_getElem hr, w.ok n _ c (List.getElem?_eq_getElem hr) h⟩
theorem Wok.at_ {ρ : List Addr} {S : Sto} {H : Hp} (w : Wok K mg ρ S H) {n : Nat} {a : Addr} {c : Cel} (h : S[n]? = some c) (ha : ρ[n]? = some a) : CelOk K mg ρ H a c := w.ok n a c ha h
/-- the heap grows by what is not the store's -/
theorem Wok.grow {ρ : List Addr} {S : Sto} {H H' : Hp} (w : Wok K mg ρ S H) (k : ∀ a o, H a = some o → H' a = some o) : Wok K mg ρ S H' :=
  ⟨w.len, w.nd, fun n a c h1 h2 => (w.ok n a c h1 h2).keep ⟨⟨[], by simp⟩, fun a o h _ => k a o h⟩ fun _ o h => k a o h⟩
theorem Ext.grow {ρ : List Addr} {H H' : Hp} (k : ∀ a o, H a = some o → H' a = some o) : Ext ρ H ρ H' := ⟨⟨[], by simp⟩, fun a o h _ => k a o h⟩
theorem upd_grow {H : Hp} {p : Addr} {o : HO} (h : H p = none) : ∀ a u, H a = some u → upd H p o a = some u := fun a u e => by
  rw [upd_ne (ne_of_none e h)]
  exact e
/-- a new thing in the store -/
theorem Ext.push {ρ : List Addr} {H H' : Hp} {p : Addr} (k : ∀ a o, H a = some o → H' a = some o) : Ext ρ H (ρ ++ [p]) H' := ⟨⟨[p], rfl⟩, fun a o h _ => k a o h⟩
theorem Wok.push {ρ : List Addr} {S : Sto} {H H' : Hp} {p : Addr} {c : Cel} (w : Wok K mg ρ S H) (hp : H p = none) (k : ∀ a o, H a = some o → H' a = some o) (hc : CelOk K mg (ρ ++ [p]) H' p c) : Wok K mg (ρ ++ [p]) (S ++ [c]) H' := by
  have old : ∀ {n : Nat} {a : Addr}, (ρ ++ [p])[n]? = some a → n < S.length → ρ[n]? = some a := fun {n a} h hn => by
    rw [List.getElem?_append_left (by rw [w.len]; exact hn)] at h
    exact h
  have oldS : ∀ {n : Nat} {d : Cel}, (S ++ [c])[n]? = some d → n < S.length → S[n]? = some d := fun {n d} h hn => by
    rw [List.getElem?_append_left hn] at h
    exact h
  have last : ∀ {n : Nat} {a : Addr}, (ρ ++ [p])[n]? = some a → ¬ n < S.length → n = S.length ∧ a = p := fun {n a} h hn => by
    have e : n = ρ.length := by
      have := (List.getElem?_eq_some_iff.mp h).1
      simp at this
      have := w.len
      omega
    subst e
    rw [List.getElem?_append_right (Nat.le_refl _)] at h
    simp at h
    exact ⟨w.len, h.symm⟩
  have fresh : ∀ {n : Nat} {d : Cel}, ρ[n]? = some p → S[n]? = some d → isFro d = false → False := fun {n d} h1 h2 h3 => by
    obtain ⟨o, e⟩ := (w.ok n p d h1 h2).there h3
    rw [hp] at e
    cases e
  refine ⟨by simp [w.len], fun m n a d d' h1 h2 h3 h4 f1 f2 => ?_, fun n a d h1 h2 => ?_⟩
  · by_cases hm : m < S.length
    · by_cases hn : n < S.length
      · exact w.nd m n a d d' (old h1 hm) (old h2 hn) (oldS h3 hm) (oldS h4 hn) f1 f2
      · obtain ⟨_, rfl⟩ := last h2 hn
        exact (fresh (old h1 hm) (oldS h3 hm) f1).elim
    · obtain ⟨e1, rfl⟩ := last h1 hm
      by_cases hn : n < S.length
      · exact (fresh (old h2 hn) (oldS h4 hn) f2).elim
      · obtain ⟨e2, _⟩ := last h2 hn
        rw [e1, e2]
  · by_cases hn : n < S.length
    · exact (w.ok n a d (old h1 hn) (oldS h2 hn)).keep (Ext.push k) fun _ o h => k a o h
    · obtain ⟨e, rfl⟩ := last h1 hn
      subst e
      rw [List.getElem?_append_right (Nat.le_refl _)] at h2
      simp at h2
      subst h2
      exact hc
theorem push_at {ρ : List Addr} {p : Addr} {S : Sto} (h : ρ.length = S.length) : (ρ ++ [p])[S.length]? = some p := by
  rw [← h]
  simp
/-- a thing of the store is written -/
theorem Ext.write {ρ : List Addr} {H : Hp} {a : Addr} {o : HO} (hm : ∀ u, H a = some u → ¬ Imm u) : Ext ρ H ρ (upd H a o) := ⟨⟨[], by simp⟩, fun b u h i => by
  by_cases hb : b = a
  · subst hb
    exact absurd i (hm u h)
  · rw [upd_ne hb]
    exact h⟩
theorem Wok.write {ρ : List Addr} {S : Sto} {H : Hp} {n : Nat} {a : Addr} {o : HO} {c c0 : Cel} (w : Wok K mg ρ S H) (hn : ρ[n]? = some a) (h0 : S[n]? = some c0) (f0 : isFro c0 = false) (f1 : isFro c = false) (hm : ∀ u, H a = some u → ¬ Imm u) (hc : CelOk K mg ρ (upd H a o) a c) : Wok K mg ρ (S.set n c) (upd H a o) := by
  have hl : n < S.length := (List.getElem?_eq_some_iff.mp h0).1
  have look : ∀ {m : Nat} {d : Cel}, (S.set n c)[m]? = some d → (m = n ∧ d = c) ∨ (m ≠ n ∧ S[m]? = some d) := fun {m d} h => by
    by_cases e : m = n
    · subst e
      rw [List.getElem?_set_self hl] at h
      exact .inl ⟨rfl, (Option.some.inj h).symm⟩
    · rw [List.getElem?_set_ne (Ne.symm e)] at h
      exact .inr ⟨e, h⟩
  refine ⟨by simp [w.len], fun m k b d d' h1 h2 h3 h4 g1 g2 => ?_, fun m b d h1 h2 => ?_⟩
  · rcases look h3 with ⟨e3, _⟩ | ⟨e3, h5⟩
    · rcases look h4 with ⟨e4, _⟩ | ⟨e4, h6⟩
      · rw [e3, e4]
      · rw [e3] at h1 ⊢
        exact w.nd _ _ b c0 d' h1 h2 h0 h6 f0 g2
    · rcases look h4 with ⟨e4, _⟩ | ⟨e4, h6⟩
      · rw [e4] at h2 ⊢
        exact w.nd _ _ b d c0 h1 h2 h5 h0 g1 f0
      · exact w.nd _ _ b d d' h1 h2 h5 h6 g1 g2
  · rcases look h2 with ⟨rfl, rfl⟩ | ⟨e, h2⟩
    · rw [hn] at h1
      cases h1
      exact hc
    · refine (w.ok m b d h1 h2).keep (Ext.write hm) fun f u q => ?_
      have hb : b ≠ a := fun z => by
        subst z
        exact e (w.nd m n b d c0 h1 hn h2 h0 f f0)
      rw [upd_ne hb]
      exact q

/-! ### the def's names -/
structure EnvOk (K : PySem.W.Frag) (ρ : List Addr) (H : Hp) (env : Env) (σ : L2.St) : Prop where
  len : env.length = σ.length
  ok : ∀ (i : Nat) (u : U), env[i]? = some (some u) → ∃ v : V, σ[i]? = some (some v) ∧ RelU K ρ H u v
theorem EnvOk.mono {ρ ρ' : List Addr} {H H' : Hp} {env : Env} {σ : L2.St} (e : Ext ρ H ρ' H') (h : EnvOk K ρ H env σ) : EnvOk K ρ' H' env σ :=
  ⟨h.len, fun i u q => let ⟨v, a, b⟩ := h.ok i u q; ⟨v, a, b.mono e⟩⟩
theorem EnvOk.set {ρ : List Addr} {H : Hp} {env : Env} {σ : L2.St} (h : EnvOk K ρ H env σ) (i : Nat) {u : U} {v : V} (r : RelU K ρ H u v) : EnvOk K ρ H (env.set i (some u)) (σ.set i (some v)) := by
  refine ⟨by simp [h.len], fun j w q => ?_⟩
  by_cases hj : j = i
  · subst hj
    have hl : j < env.length := by
      have := (List.getElem?_eq_some_iff.mp q).1
      simpa using this
    rw [List.getElem?_set_self hl] at q
    cases q
    exact ⟨v, List.getElem?_set_self (by rw [← h.len]; exact hl), r⟩
  · rw [List.getElem?_set_ne (Ne.symm hj)] at q
    obtain ⟨x, a, b⟩ := h.ok j w q
    exact ⟨x, by rw [List.getElem?_set_ne (Ne.symm hj)]; exact a, b⟩
theorem EnvOk.setNone {ρ : List Addr} {H : Hp} {env : Env} {σ : L2.St} (h : EnvOk K ρ H env σ) (i : Nat) : EnvOk K ρ H (env.set i none) (σ.set i none) := by
  refine ⟨by simp [h.len], fun j w q => ?_⟩
  by_cases hj : j = i
  · subst hj
    have hl : j < env.length := by
      have := (List.getElem?_eq_some_iff.mp q).1
      simpa using this
    rw [List.getElem?_set_self hl] at q
    cases q
  · rw [List.getElem?_set_ne (Ne.symm hj)] at q
    obtain ⟨x, a, b⟩ := h.ok j w q
    exact ⟨x, by rw [List.getElem?_set_ne (Ne.symm hj)]; exact a, b⟩
theorem EnvOk.wipe {ρ : List Addr} {H : Hp} {env : Env} {σ : L2.St} (h : EnvOk K ρ H env σ) : ∀ is : List Nat, EnvOk K ρ H (wipeE env is) (L2.wipe σ is)
  | [] => h
  | i :: is => (EnvOk.wipe h is).setNone i

/-! ### what is wanted of an end -/
def Post {α β : Type} (mg : Str → Option Value) (K : PySem.W.Frag) (Rr : List Addr → Hp → α → β → Prop) (W : XK) (ρ : List Addr) (H : Hp) (r : R α) (Q : β → Hp → Prop) : Prop :=
  match r with
  | .ok a S => ∀ ρ' H' b, Ext ρ H ρ' H' → Wok K mg ρ' S H' → Rr ρ' H' a b → Q b H'
  | .exc c fs S => ∀ ρ' H' C d vfs, Ext ρ H ρ' H' → Wok K mg ρ' S H' → mg c = some (.ref C) → H' d = some (.xd vfs) → RelF K ρ' H' fs vfs → W (.ref C) (some d) H'
  | .bad => False
theorem Post.ext {α β : Type} {Rr : List Addr → Hp → α → β → Prop} {W : XK} {ρ ρ1 : List Addr} {H H1 : Hp} {r : R α} {Q : β → Hp → Prop} (e : Ext ρ H ρ1 H1) (h : Post mg K Rr W ρ H r Q) : Post mg K Rr W ρ1 H1 r Q := by
  cases r with
  | ok a S => exact fun ρ' H' b e' w r => h ρ' H' b (e.trans e') w r
  | exc c fs S => exact fun ρ' H' C d vfs e' w m x r => h ρ' H' C d vfs (e.trans e') w m x r
  | bad => exact h
theorem Post.imp {α β : Type} {Rr : List Addr → Hp → α → β → Prop} {W : XK} {ρ : List Addr} {H : Hp} {r : R α} {Q Q' : β → Hp → Prop} (h : Post mg K Rr W ρ H r Q) (i : ∀ b H, Q b H → Q' b H) : Post mg K Rr W ρ H r Q' := by
  cases r with
  | ok a S => exact fun ρ' H' b e' w r => i _ _ (h ρ' H' b e' w r)
  | exc c fs S => exact h
  | bad => exact h
/-- one after another -/
theorem Post.bind {α β γ δ : Type} {Rr : List Addr → Hp → α → γ → Prop} {Rs : List Addr → Hp → β → δ → Prop} {W : XK} {ρ : List Addr} {H : Hp} {r : R α} {f : α → Sto → R β} {Q : δ → Hp → Prop} (h : Post mg K Rs W ρ H (r.bind f) Q) :
    Post mg K Rr W ρ H r fun b H1 => ∃ ρ1 S1 a, Ext ρ H ρ1 H1 ∧ Wok K mg ρ1 S1 H1 ∧ Rr ρ1 H1 a b ∧ Post mg K Rs W ρ1 H1 (f a S1) Q := by
  cases r with
  | ok a S => exact fun ρ' H' b e w r => ⟨ρ', S, a, e, w, r, Post.ext e h⟩
  | exc c fs S => exact h
  | bad => exact h
end
end Oz

end

section
set_option maxHeartbeats 4000000
/-! Oz4: operators by values. -/
namespace Oz
open PySem PySem.Spec PyProof.Rows L2
section
variable {X : Cx} {W : XK}
/-- two values, then what f says -/
def r2 (X : Cx) (W : XK) (f : U → U → Sto → R U) : R2 := fun x y H Q => ∃ ρ S a b, Wok X.K X.mg ρ S H ∧ RelU X.K ρ H a x ∧ RelU X.K ρ H b y ∧ Post X.mg X.K (RelU X.K) W ρ H (f a b S) Q
theorem relInt {K : PySem.W.Frag} {ρ : List Addr} {H : Hp} {i : Int} : RelU K ρ H (.int i) (.int i) := by simp [RelU]
theorem relStr {K : PySem.W.Frag} {ρ : List Addr} {H : Hp} {i : Str} : RelU K ρ H (.str i) (.str i) := by simp [RelU]
theorem relBl {K : PySem.W.Frag} {ρ : List Addr} {H : Hp} {i : Bool} : RelU K ρ H (.bl i) (.bl i) := by simp [RelU]
theorem relNon {K : PySem.W.Frag} {ρ : List Addr} {H : Hp} : RelU K ρ H .non .non := by simp [RelU]
/-- the same store, a plain value -/
theorem Post.here {α β : Type} {K : PySem.W.Frag} {mg : Str → Option Value} {Rr : List Addr → Hp → α → β → Prop} {ρ : List Addr} {S : Sto} {H : Hp} {a : α} {b : β} {Q : β → Hp → Prop} (h : Post mg K Rr W ρ H (.ok a S) Q) (w : Wok K mg ρ S H) (r : Rr ρ H a b) : Q b H := h ρ H b Ext.refl w r
/-- a new tuple -/
theorem Post.tup {K : PySem.W.Frag} {mg : Str → Option Value} {ρ : List Addr} {S : Sto} {H : Hp} {us : List U} {vs : List V} {Q : VK} (h : Post mg K (RelU K) W ρ H (.ok (.tup us) S) Q) (w : Wok K mg ρ S H) (r : RelUs K ρ H us vs) {p : Addr} (hp : H p = none) : Q (.ref p) (upd H p (.tup vs)) := by
  have e : Ext ρ H ρ (upd H p (.tup vs)) := Ext.grow (upd_grow hp)
  refine h ρ _ _ e (w.grow (upd_grow hp)) ?_
  simp only [RelU]
  exact ⟨p, vs, rfl, .of upd_same, r.mono e⟩
/-- a new list -/
theorem Post.lst {K : PySem.W.Frag} {mg : Str → Option Value} {ρ : List Addr} {S : Sto} {H : Hp} {us : List U} {vs : List V} {Q : VK} (h : Post mg K (RelU K) W ρ H (.ok (.loc S.length) (S ++ [.lst us])) Q) (w : Wok K mg ρ S H) (r : RelUs K ρ H us vs) {p : Addr} (hp : H p = none) : Q (.ref p) (upd H p (.lst vs)) := by
  have e : Ext ρ H (ρ ++ [p]) (upd H p (.lst vs)) := Ext.push (upd_grow hp)
  refine h (ρ ++ [p]) _ _ e (w.push hp (upd_grow hp) ⟨vs, upd_same, r.mono e⟩) ?_
  simp only [RelU]
  exact ⟨p, rfl, push_at w.len⟩
theorem RelU.tup {K : PySem.W.Frag} {ρ : List Addr} {H : Hp} {us : List U} {v : V} (h : RelU K ρ H (.tup us) v) : ∃ a vs, v = .ref a ∧ SqT K H a vs ∧ RelUs K ρ H us vs := by simpa [RelU] using h
theorem RelU.loc {K : PySem.W.Frag} {ρ : List Addr} {H : Hp} {n : Nat} {v : V} (h : RelU K ρ H (.loc n) v) : ∃ a, v = .ref a ∧ ρ[n]? = some a := by simpa [RelU] using h
theorem RelU.int {K : PySem.W.Frag} {ρ : List Addr} {H : Hp} {n : Int} {v : V} (h : RelU K ρ H (.int n) v) : v = .int n := by simpa [RelU] using h
theorem RelU.str {K : PySem.W.Frag} {ρ : List Addr} {H : Hp} {n : Str} {v : V} (h : RelU K ρ H (.str n) v) : v = .str n := by simpa [RelU] using h
theorem RelU.bl {K : PySem.W.Frag} {ρ : List Addr} {H : Hp} {n : Bool} {v : V} (h : RelU K ρ H (.bl n) v) : v = .bl n := by simpa [RelU] using h
theorem RelU.non {K : PySem.W.Frag} {ρ : List Addr} {H : Hp} {v : V} (h : RelU K ρ H .non v) : v = .non := by simpa [RelU] using h
/-- a list that is read -/
theorem Wok.list {K : PySem.W.Frag} {mg : Str → Option Value} {ρ : List Addr} {S : Sto} {H : Hp} (w : Wok K mg ρ S H) {u : U} {us : List U} {v : V} (h : list? S u = some us) (r : RelU K ρ H u v) : ∃ a vs, v = .ref a ∧ SqL K H a vs ∧ RelUs K ρ H us vs := by
  unfold list? at h
  split at h
  · rename_i n
    obtain ⟨a, rfl, hn⟩ := r.loc
    split at h
    · rename_i xs hx
      cases h
      obtain ⟨vs, e, q⟩ := w.at_ hx hn
      exact ⟨a, vs, rfl, .of e, q⟩
    · rename_i xs hx
      cases h
      obtain ⟨vs, e, q⟩ := w.at_ hx hn
      exact ⟨a, vs, rfl, e.sql, q⟩
    · cases h
  · cases h
theorem list_items {S : Sto} {u : U} {us : List U} (h : items? S u = some us) : u = .tup us ∨ list? S u = some us := by
  unfold items? at h
  split at h
  · cases h; exact .inl rfl
  · exact .inr h
  · cases h
theorem Wok.items {K : PySem.W.Frag} {mg : Str → Option Value} {ρ : List Addr} {S : Sto} {H : Hp} (w : Wok K mg ρ S H) {u : U} {us : List U} {v : V} (h : items? S u = some us) (r : RelU K ρ H u v) : ∃ a vs, v = .ref a ∧ (SqL K H a vs ∨ SqT K H a vs) ∧ RelUs K ρ H us vs := by
  rcases list_items h with rfl | h
  · obtain ⟨a, vs, e, q, z⟩ := r.tup
    exact ⟨a, vs, e, .inr q, z⟩
  · obtain ⟨a, vs, e, q, z⟩ := w.list h r
    exact ⟨a, vs, e, .inl q, z⟩

def opOf : Op → Operator
  | .add => .Add | .sub => .Sub | .mul => .Mult | .fdiv => .FloorDiv | .mod => .Mod | .pow => .Pow | .shl => .LShift
theorem op_mul_str : OpR X (binaryOp .Mult) (fun x y H Q => ∃ z n, x = .str z ∧ y = .int n ∧ PySem.MulOk z n ∧ Q (.str (PySem.Txt.mul z n)) H) := by
  rintro pins s σ H x y v u Q I rx ry ⟨z, n, rfl, rfl, ok, q⟩
  obtain ⟨t, rfl⟩ := rx
  obtain ⟨t', rfl⟩ := ry
  exact PySem.SB.mul ok fun t2 k => ⟨.str _, H, I.tok _, ⟨_, rfl⟩, q⟩
theorem op_bin (o : Op) : OpR X (binaryOp (opOf o)) (r2 X W (binU o)) := by
  rintro pins s σ H x y v u Q I rx ry ⟨ρ, S, a, b, w, ra, rb, h⟩
  unfold binU at h
  split at h
  · cases ra.int; cases rb.int
    exact op_add pins s σ H _ _ v u Q I rx ry ⟨_, _, rfl, rfl, h.here w relInt⟩
  · cases ra.str; cases rb.str
    split at h
    · rename_i hz
      exact op_add_str pins s σ H _ _ v u Q I rx ry ⟨_, _, rfl, rfl, hz, h.here w relStr⟩
    · cases h
  · obtain ⟨p, vs, rfl, hp, hr⟩ := ra.tup
    obtain ⟨q, ws, rfl, hq, hs⟩ := rb.tup
    split at h
    · rename_i xs ys hz
      refine op_catA pins s σ H _ _ v u Q I rx ry ⟨p, q, vs, ws, rfl, rfl, hp, hq, by rw [hr.length, hs.length]; exact hz, fun e => ?_, fun e1 e2 => ?_, fun e1 e2 a ha => ?_⟩
      · have e' : xs = [] := by
          have := hr.length
          rw [e] at this
          exact List.length_eq_zero_iff.mp this.symm
        subst e'
        exact h.here w (by simp only [RelU]; exact ⟨q, ws, rfl, hq, by simpa using hs⟩)
      · have e' : ys = [] := by
          have := hs.length
          rw [e2] at this
          exact List.length_eq_zero_iff.mp this.symm
        subst e'
        exact h.here w (by simp only [RelU]; exact ⟨p, vs, rfl, hp, by simpa using hr⟩)
      · exact h.tup w (hr.append hs) ha
    · cases h
  · split at h
    · rename_i m n _ _ xs ys hx hy
      split at h
      · rename_i hz
        obtain ⟨a, rfl, ha⟩ := ra.loc
        obtain ⟨b, rfl, hb⟩ := rb.loc
        obtain ⟨vs, e1, q1⟩ := w.at_ hx ha
        obtain ⟨ws, e2, q2⟩ := w.at_ hy hb
        exact op_cat pins s σ H _ _ v u Q I rx ry ⟨a, b, vs, ws, rfl, rfl, e1, e2, by rw [q1.length, q2.length]; exact hz, fun p hp => h.lst w (q1.append q2) hp⟩
      · cases h
    · cases h
  · cases ra.int; cases rb.int
    exact op_sub pins s σ H _ _ v u Q I rx ry ⟨_, _, rfl, rfl, h.here w relInt⟩
  · cases ra.int; cases rb.int
    split at h
    · rename_i hz
      exact op_mul pins s σ H _ _ v u Q I rx ry ⟨_, _, rfl, rfl, hz, h.here w relInt⟩
    · cases h
  · cases ra.str; cases rb.int
    split at h
    · rename_i hz
      exact op_mul_str pins s σ H _ _ v u Q I rx ry ⟨_, _, rfl, rfl, hz, h.here w relStr⟩
    · cases h
  · cases ra.int; cases rb.int
    split at h
    · rename_i hz
      exact op_fdiv pins s σ H _ _ v u Q I rx ry ⟨_, _, rfl, rfl, hz, h.here w relInt⟩
    · cases h
  · cases ra.int; cases rb.int
    split at h
    · rename_i hz
      exact op_mod pins s σ H _ _ v u Q I rx ry ⟨_, _, rfl, rfl, hz, h.here w relInt⟩
    · cases h
  · cases ra.int; cases rb.int
    split at h
    · rename_i hz
      exact op_pow pins s σ H _ _ v u Q I rx ry ⟨_, _, rfl, rfl, hz, h.here w relInt⟩
    · cases h
  · cases ra.int; cases rb.int
    split at h
    · rename_i hz
      exact op_shl pins s σ H _ _ v u Q I rx ry ⟨_, _, rfl, rfl, hz, h.here w relInt⟩
    · cases h
  · cases h

/-! ### data for == -/
mutual
theorem dpU {K : PySem.W.Frag} {ρ : List Addr} {H : Hp} : ∀ {u : U} {v : V}, purU u = true → RelU K ρ H u v → Dp K H v (pdU u)
  | .non, v, _, r => by cases r.non; exact .non
  | .bl b, v, _, r => by cases r.bl; exact .bl b
  | .int i, v, _, r => by cases r.int; exact .int i
  | .str x, v, _, r => by cases r.str; exact .str x
  | .tup us, v, h, r => by
    obtain ⟨a, vs, rfl, hs, hr⟩ := r.tup
    exact .tup hs (dpUs (by simpa [purU] using h) hr)
  | .loc n, v, h, _ => by simp [purU] at h
theorem dpUs {K : PySem.W.Frag} {ρ : List Addr} {H : Hp} : ∀ {us : List U} {vs : List V}, purUs us = true → RelUs K ρ H us vs → DpAll K H vs (pdUs us)
  | [], vs, _, r => by simp only [RelUs] at r; subst r; exact .nil
  | u :: us, vs, h, r => by
    simp only [RelUs] at r
    obtain ⟨v, vs', rfl, h1, h2⟩ := r
    simp only [purUs, Bool.and_eq_true] at h
    exact .cons (dpU h.1 h1) (dpUs h.2 h2)
end
theorem okU_pur {u : U} (h : okU u = true) : purU u = true := by unfold okU at h; rw [Bool.and_eq_true] at h; exact h.1
theorem okU_shp {u : U} (h : okU u = true) : SeqAt.shaped (pdU u) = true := by unfold okU at h; rw [Bool.and_eq_true] at h; exact h.2
theorem okUs_pur {u : List U} (h : okUs u = true) : purUs u = true := by unfold okUs at h; rw [Bool.and_eq_true] at h; exact h.1
theorem okUs_shp {u : List U} (h : okUs u = true) : SeqAt.shaped (.list (pdUs u)) = true := by unfold okUs at h; rw [Bool.and_eq_true] at h; exact h.2
def rK (X : Cx) (f : U → U → Sto → Option Bool) (neg : Bool) : R2 := fun x y H Q => ∃ ρ S a b k, Wok X.K X.mg ρ S H ∧ RelU X.K ρ H a x ∧ RelU X.K ρ H b y ∧ f a b S = some k ∧ Q (.bl (if neg then !k else k)) H
theorem op_eqR (hu : X.A.units + 64 < cLine) (neg : Bool) : OpR X (compareOp (if neg then .NotEq else .Eq)) (rK X eqR neg) := by
  rintro pins s σ H x y v u Q I rx ry ⟨ρ, S, a, b, k, w, ra, rb, e, q⟩
  unfold eqR at e
  split at e
  · cases ra.int; cases rb.int; cases e
    cases neg
    · exact op_eq pins s σ H _ _ v u Q I rx ry ⟨rfl, by simpa using q⟩
    · exact op_ne pins s σ H _ _ v u Q I rx ry ⟨rfl, by simpa using q⟩
  · cases ra.str; cases rb.str; cases e
    cases neg
    · exact op_eq pins s σ H _ _ v u Q I rx ry ⟨rfl, by simpa using q⟩
    · exact op_ne pins s σ H _ _ v u Q I rx ry ⟨rfl, by simpa using q⟩
  · split at e
    · rename_i xs ys hx hy
      split at e
      · rename_i hz
        cases e
        rw [Bool.and_eq_true] at hz
        obtain ⟨a, vs, rfl, h1, r1⟩ := w.list hx ra
        obtain ⟨b, ws, rfl, h2, r2⟩ := w.list hy rb
        have d1 := dpUs (okUs_pur hz.1) r1
        have d2 := dpUs (okUs_pur hz.2) r2
        have ee : PyData.eqv (.list (pdUs xs)) (.list (pdUs ys)) = eqUs xs ys := by
          simp only [PyData.eqv]
          exact eqvs_pd _ _ (okUs_pur hz.1) (okUs_pur hz.2)
        cases neg
        · exact op_eqD hu pins s σ H _ _ v u Q I rx ry ⟨_, _, .lst h1 d1, .lst h2 d2, okUs_shp hz.1, okUs_shp hz.2, by rw [ee]; simpa using q⟩
        · exact op_neD hu pins s σ H _ _ v u Q I rx ry ⟨_, _, .lst h1 d1, .lst h2 d2, okUs_shp hz.1, okUs_shp hz.2, by rw [ee]; simpa using q⟩
      · cases e
    · cases e
  · split at e
    · rename_i hz
      cases e
      rw [Bool.and_eq_true] at hz
      have d1 := dpU (okU_pur hz.1) ra
      have d2 := dpU (okU_pur hz.2) rb
      have ee := eqv_pd _ _ (okU_pur hz.1) (okU_pur hz.2)
      cases neg
      · exact op_eqD hu pins s σ H _ _ v u Q I rx ry ⟨_, _, d1, d2, okU_shp hz.1, okU_shp hz.2, by rw [ee]; simpa using q⟩
      · exact op_neD hu pins s σ H _ _ v u Q I rx ry ⟨_, _, d1, d2, okU_shp hz.1, okU_shp hz.2, by rw [ee]; simpa using q⟩
    · cases e
theorem flat_rel {K : PySem.W.Frag} {ρ : List Addr} {H : Hp} {u : U} {v : V} (f : flatU u = true) (r : RelU K ρ H u v) : flatV v = true := by
  cases u with
  | non => cases r.non; rfl
  | bl b => cases r.bl; rfl
  | int b => cases r.int; rfl
  | str b => cases r.str; rfl
  | tup b => cases f
  | loc b => cases f
theorem flat_all {K : PySem.W.Frag} {ρ : List Addr} {H : Hp} : ∀ {us : List U} {vs : List V}, us.all flatU = true → RelUs K ρ H us vs → vs.all flatV = true
  | [], vs, _, r => by simp only [RelUs] at r; subst r; rfl
  | u :: us, vs, h, r => by
    simp only [RelUs] at r
    obtain ⟨v, vs', rfl, h1, h2⟩ := r
    simp only [List.all_cons, Bool.and_eq_true] at h ⊢
    exact ⟨flat_rel h.1 h1, flat_all h.2 h2⟩
theorem eqV_rel {K : PySem.W.Frag} {ρ : List Addr} {H : Hp} {u u' : U} {v v' : V} (f : flatU u = true) (f' : flatU u' = true) (r : RelU K ρ H u v) (r' : RelU K ρ H u' v') : eqV v v' = eqU u u' := by
  cases u <;> cases f <;> cases u' <;> cases f' <;> simp only [RelU] at r r' <;> subst r r' <;> simp [eqV, eqU]
theorem inV_rel {K : PySem.W.Frag} {ρ : List Addr} {H : Hp} {u : U} {v : V} (f : flatU u = true) (r : RelU K ρ H u v) : ∀ {us : List U} {vs : List V}, us.all flatU = true → RelUs K ρ H us vs → inV v vs = us.any fun y => eqU y u
  | [], vs, _, q => by simp only [RelUs] at q; subst q; rfl
  | u' :: us, vs, h, q => by
    simp only [RelUs] at q
    obtain ⟨v', vs', rfl, h1, h2⟩ := q
    simp only [List.all_cons, Bool.and_eq_true] at h
    have ih := inV_rel f r h.2 h2
    unfold inV at ih ⊢
    simp only [List.any_cons]
    rw [ih, eqV_rel h.1 f h1 r]
theorem any_pd {u : U} (hu : purU u = true) : ∀ {us : List U}, purUs us = true → ((pdUs us).any fun z => PyData.eqv z (pdU u)) = us.any fun y => eqU y u
  | [], _ => rfl
  | w :: us, h => by
    simp only [purUs, Bool.and_eq_true] at h
    simp only [pdUs, List.any_cons]
    rw [any_pd hu h.2, eqv_pd _ _ h.1 hu]
theorem op_inR (hu : X.A.units + 65 < cLine) (neg : Bool) : OpR X (compareOp (if neg then .NotIn else .In)) (rK X inR neg) := by
  rintro pins s σ H x y v u Q I rx ry ⟨ρ, S, a, b, k, w, ra, rb, e, q⟩
  unfold inR at e
  split at e
  · rename_i x' z'
    cases ra.str; cases rb.str
    split at e
    · rename_i c hc
      cases e
      have hx : x' = ⟨#[c]⟩ := by
        cases x'
        simp only [Str.mk.injEq]
        apply Array.ext'
        exact hc
      subst hx
      cases neg
      · exact op_in_sign pins s σ H _ _ v u Q I rx ry ⟨c, z', rfl, rfl, by simpa using q⟩
      · exact op_notIn_sign pins s σ H _ _ v u Q I rx ry ⟨c, z', rfl, rfl, by simpa using q⟩
    · cases e
  · split at e
    · rename_i xs hx
      obtain ⟨p, vs, rfl, hq, hr⟩ := w.items hx rb
      split at e
      · rename_i hz
        cases e
        rw [Bool.and_eq_true] at hz
        have fx := flat_rel hz.1 ra
        have fs := flat_all hz.2 hr
        have ee := inV_rel hz.1 ra hz.2 hr
        cases neg
        · exact op_in_seq pins s σ H _ _ v u Q I rx ry ⟨p, vs, rfl, hq, fx, fs, by rw [ee]; simpa using q⟩
        · exact op_notIn_seq pins s σ H _ _ v u Q I rx ry ⟨p, vs, rfl, hq, fx, fs, by rw [ee]; simpa using q⟩
      · split at e
        · rename_i ys hy
          split at e
          · rename_i hz
            cases e
            rw [Bool.and_eq_true] at hz
            obtain ⟨p', ws, e', hl, hr'⟩ := w.list hy rb
            have d1 := dpU (okU_pur hz.1) ra
            have d2 : Dp X.K H (V.ref p) (.list (pdUs ys)) := by
              cases e'
              exact .lst hl (dpUs (okUs_pur hz.2) hr')
            have ee := any_pd (okU_pur hz.1) (okUs_pur hz.2)
            cases neg
            · exact op_inD hu pins s σ H _ _ v u Q I rx ry ⟨_, _, d1, d2, okU_shp hz.1, okUs_shp hz.2, by rw [ee]; simpa using q⟩
            · exact op_notInD hu pins s σ H _ _ v u Q I rx ry ⟨_, _, d1, d2, okU_shp hz.1, okUs_shp hz.2, by rw [ee]; simpa using q⟩
          · cases e
        · cases e
    · cases e
def cmOf : Cm → CmpOp
  | .eq => .Eq | .ne => .NotEq | .lt => .Lt | .le => .LtE | .gt => .Gt | .ge => .GtE | .in_ => .In | .notIn => .NotIn | .isN => .Is | .isNotN => .IsNot
theorem decNon {K : PySem.W.Frag} {ρ : List Addr} {H : Hp} {u : U} {v : V} (r : RelU K ρ H u v) : decide (v = V.non) = decide (u = U.non) := by
  cases u with
  | non => cases r.non; simp
  | bl b => cases r.bl; simp
  | int b => cases r.int; simp
  | str b => cases r.str; simp
  | tup b => obtain ⟨_, _, rfl, _⟩ := r.tup; simp
  | loc b => obtain ⟨_, rfl, _⟩ := r.loc; simp
theorem op_cmp (hu : X.A.units + 65 < cLine) (o : Cm) : OpR X (compareOp (cmOf o)) (r2 X W (cmpU o)) := by
  rintro pins s σ H x y v u Q I rx ry ⟨ρ, S, a, b, w, ra, rb, h⟩
  unfold cmpU at h
  split at h
  · rename_i k hk
    have q : Q (.bl k) H := h.here w relBl
    cases o with
    | eq => exact op_eqR (by omega) false pins s σ H _ _ v u Q I rx ry ⟨ρ, S, a, b, k, w, ra, rb, hk, q⟩
    | ne =>
      simp only [cmpB, Option.map_eq_some_iff] at hk
      obtain ⟨k', hk, rfl⟩ := hk
      exact op_eqR (by omega) true pins s σ H _ _ v u Q I rx ry ⟨ρ, S, a, b, k', w, ra, rb, hk, q⟩
    | in_ => exact op_inR hu false pins s σ H _ _ v u Q I rx ry ⟨ρ, S, a, b, k, w, ra, rb, hk, q⟩
    | notIn =>
      simp only [cmpB, Option.map_eq_some_iff] at hk
      obtain ⟨k', hk, rfl⟩ := hk
      exact op_inR hu true pins s σ H _ _ v u Q I rx ry ⟨ρ, S, a, b, k', w, ra, rb, hk, q⟩
    | isN =>
      simp only [cmpB] at hk
      split at hk
      · cases hk
        cases rb.non
        exact op_isN pins s σ H _ _ v u Q I rx ry ⟨rfl, by rw [decNon ra]; exact q⟩
      · cases hk
    | isNotN =>
      simp only [cmpB] at hk
      split at hk
      · cases hk
        cases rb.non
        exact op_notN pins s σ H _ _ v u Q I rx ry ⟨rfl, by rw [decNon ra]; exact q⟩
      · cases hk
    | lt =>
      simp only [cmpB] at hk
      split at hk
      · cases hk; cases ra.int; cases rb.int
        exact op_lt pins s σ H _ _ v u Q I rx ry ⟨_, _, rfl, rfl, q⟩
      · cases hk
    | le =>
      simp only [cmpB] at hk
      split at hk
      · cases hk; cases ra.int; cases rb.int
        exact op_le pins s σ H _ _ v u Q I rx ry ⟨_, _, rfl, rfl, q⟩
      · cases hk
    | gt =>
      simp only [cmpB] at hk
      split at hk
      · cases hk; cases ra.int; cases rb.int
        exact op_gt pins s σ H _ _ v u Q I rx ry ⟨_, _, rfl, rfl, q⟩
      · cases hk
    | ge =>
      simp only [cmpB] at hk
      split at hk
      · cases hk; cases ra.int; cases rb.int
        exact op_ge pins s σ H _ _ v u Q I rx ry ⟨_, _, rfl, rfl, q⟩
      · cases hk
  · cases h
/-! ### items, slices -/
theorem at_rel {K : PySem.W.Frag} {ρ : List Addr} {H : Hp} {us : List U} {vs : List V} {j : Int} {u : U} (r : RelUs K ρ H us vs) (h : atI us j = some u) : ∃ v, atI vs j = some v ∧ RelU K ρ H u v := by
  unfold atI at h ⊢
  rw [r.length]
  cases q : ixN us.length j with
  | none => rw [q] at h; cases h
  | some k =>
    rw [q] at h
    obtain ⟨v, e, z⟩ := r.get (i := k) h
    exact ⟨v, e, z⟩
theorem ix_any : IxR X (r2 X W ixU) := by
  rintro value slice pins s σ H x y v u Q I rx ry ⟨ρ, S, a, b, w, ra, rb, h⟩ hs
  unfold ixU at h
  split at h
  · cases ra.str; cases rb.int
    split at h
    · rename_i hz
      split at h
      · rename_i c hc
        exact ix_str value slice pins s σ H _ _ v u Q I rx ry ⟨_, _, c, rfl, rfl, hz, hc, h.here w relStr⟩ hs
      · cases h
    · cases h
  · cases rb.int
    split at h
    · rename_i xs hx
      obtain ⟨p, vs, rfl, hq, hr⟩ := w.items hx ra
      split at h
      · rename_i c hc
        obtain ⟨z, hz, rz⟩ := at_rel hr hc
        rcases hq with hq | hq
        · exact ix_list value slice pins s σ H _ _ v u Q I rx ry ⟨p, vs, _, z, rfl, rfl, hq, hz, h.here w rz⟩ hs
        · exact ix_tup value slice pins s σ H _ _ v u Q I rx ry ⟨p, vs, _, z, rfl, rfl, hq, hz, h.here w rz⟩ hs
      · cases h
    · cases h
  · cases h
def rSl (X : Cx) (W : XK) : V → Option Int → Option Int → Hp → VK → Prop := fun x lo hi H Q => ∃ ρ S a, Wok X.K X.mg ρ S H ∧ RelU X.K ρ H a x ∧ Post X.mg X.K (RelU X.K) W ρ H (slU a lo hi S) Q
theorem sl_any : SlR X (rSl X W) := by
  rintro pins s σ H x v vl vu lo hi sl Q I rx hs pl pu ⟨ρ, S, a, w, ra, h⟩
  unfold slU at h
  split at h
  · cases ra.str
    split at h
    · rename_i hz
      exact sl_str pins s σ H _ v vl vu lo hi sl Q I rx hs pl pu ⟨_, rfl, hz, h.here w relStr⟩
    · cases h
  · rename_i xs
    obtain ⟨p, vs, rfl, hq, hr⟩ := ra.tup
    refine sl_tupA pins s σ H _ v vl vu lo hi sl Q I rx hs pl pu ⟨p, vs, rfl, hq, fun c => ?_, fun c q hq' => ?_⟩
    · refine h.here w ?_
      simp only [RelU]
      refine ⟨p, vs, rfl, hq, ?_⟩
      have e := RelUs.cut lo hi hr
      have e2 : cutV vs lo hi = vs := by
        unfold cutV
        rw [c.1, c.2]
        simp
      rw [e2] at e
      exact e
    · exact h.tup w (hr.cut lo hi) hq'
  · split at h
    · rename_i xs hx
      obtain ⟨p, vs, rfl, hq, hr⟩ := w.list hx ra
      exact sl_list pins s σ H _ v vl vu lo hi sl Q I rx hs pl pu ⟨p, vs, rfl, hq, fun q hq' => h.lst w (hr.cut lo hi) hq'⟩
    · cases h
  · cases h
end
end Oz

end

section
set_option maxHeartbeats 4000000
/-! Oz5: built-in functions, methods, and the rules of expressions. -/
namespace Oz
open PySem PySem.Spec PyProof.Rows L2
section
variable {X : Cx} {W : XK}
/-! ### built-in functions -/
def bfR (X : Cx) (W : XK) (b : Bf) : List V → Hp → VK → Prop := fun vs H Q => ∃ ρ S us, Wok X.K X.mg ρ S H ∧ RelUs X.K ρ H us vs ∧ Post X.mg X.K (RelU X.K) W ρ H (bfU b us S) Q
theorem rel1 {K : PySem.W.Frag} {ρ : List Addr} {H : Hp} {a : U} {vs : List V} (r : RelUs K ρ H [a] vs) : ∃ v, vs = [v] ∧ RelU K ρ H a v := by
  simp only [RelUs] at r
  obtain ⟨v, vs', rfl, h, rfl⟩ := r
  exact ⟨v, rfl, h⟩
theorem rel2 {K : PySem.W.Frag} {ρ : List Addr} {H : Hp} {a b : U} {vs : List V} (r : RelUs K ρ H [a, b] vs) : ∃ v w, vs = [v, w] ∧ RelU K ρ H a v ∧ RelU K ρ H b w := by
  simp only [RelUs] at r
  obtain ⟨v, vs', rfl, h, w, _, rfl, h2, rfl⟩ := r
  exact ⟨v, w, rfl, h, h2⟩
theorem lenV_rel {K : PySem.W.Frag} {mg : Str → Option Value} {ρ : List Addr} {S : Sto} {H : Hp} {a : U} {v : V} {n : Nat} (w : Wok K mg ρ S H) (r : RelU K ρ H a v) (h : lenU a S = some n) : LenV K v H n := by
  unfold lenU at h
  split at h
  · cases r.str
    split at h
    · rename_i hz; cases h; exact ⟨hz, rfl⟩
    · cases h
  · simp only [Option.map_eq_some_iff] at h
    obtain ⟨xs, hx, rfl⟩ := h
    obtain ⟨p, vs, rfl, hq, hr⟩ := w.items hx r
    rcases hq with hq | hq
    · exact .inl ⟨vs, hq, hr.length.symm⟩
    · exact .inr ⟨vs, hq, hr.length.symm⟩
theorem cf_len : CallR X (.builtin "len") (bfR X W .len) := by
  rintro pins s σ H vs us Q I rv ⟨ρ, S, ws, w, rs, h⟩
  replace h : Post X.mg X.K (RelU X.K) W ρ H (lenF ws S) Q := h
  unfold lenF at h
  split at h
  · obtain ⟨v, rfl, ra⟩ := rel1 rs
    split at h
    · rename_i n hn
      exact call_len pins s σ H _ us Q I rv ⟨v, n, rfl, lenV_rel w ra hn, h.here w relInt⟩
    · cases h
  · cases h
theorem cf_abs : CallR X (.builtin "abs") (bfR X W .abs) := by
  rintro pins s σ H vs us Q I rv ⟨ρ, S, ws, w, rs, h⟩
  replace h : Post X.mg X.K (RelU X.K) W ρ H (absF ws S) Q := h
  unfold absF at h
  split at h
  · obtain ⟨v, rfl, ra⟩ := rel1 rs
    cases ra.int
    exact call_abs pins s σ H _ us Q I rv ⟨_, rfl, h.here w relInt⟩
  · cases h
theorem cf_int : CallR X (.type "int") (bfR X W .int) := by
  rintro pins s σ H vs us Q I rv ⟨ρ, S, ws, w, rs, h⟩
  replace h : Post X.mg X.K (RelU X.K) W ρ H (intF ws S) Q := h
  unfold intF at h
  split at h
  · obtain ⟨v, rfl, ra⟩ := rel1 rs
    cases ra.int
    exact call_int1 pins s σ H _ us Q I rv (.inl ⟨_, rfl, h.here w relInt⟩)
  · obtain ⟨v, rfl, ra⟩ := rel1 rs
    cases ra.bl
    exact call_int1 pins s σ H _ us Q I rv (.inr ⟨_, rfl, h.here w relInt⟩)
  · obtain ⟨v, rfl, ra⟩ := rel1 rs
    cases ra.str
    split at h
    · rename_i n hn
      split at h
      · rename_i hz
        exact call_int_str pins s σ H _ us Q I rv ⟨_, n, rfl, hn, hz, h.here w relInt⟩
      · cases h
    · cases h
  · cases h
theorem maxI_ge : ∀ {ns : List Int} {y : Int}, y ∈ ns → y ≤ maxI ns
  | [i], y, h => by simp at h; subst h; exact Int.le_refl _
  | i :: j :: is, y, h => by
    have ih := fun z => @maxI_ge (j :: is) z
    unfold maxI
    rcases List.mem_cons.mp h with rfl | h
    · split <;> omega
    · have := ih y h
      split <;> omega
theorem maxI_mem : ∀ {ns : List Int}, 0 < ns.length → maxI ns ∈ ns
  | [i], _ => by simp [maxI]
  | i :: j :: is, _ => by
    have ih := @maxI_mem (j :: is) (by simp)
    unfold maxI
    split
    · exact List.mem_cons_of_mem _ ih
    · exact List.mem_cons_self
theorem cf_max (hc : X.calm = true) : CallR X (.builtin "max") (bfR X W .max) := by
  rintro pins s σ H vs us Q I rv ⟨ρ, S, ws, w, rs, h⟩
  replace h : Post X.mg X.K (RelU X.K) W ρ H (maxF ws S) Q := h
  unfold maxF at h
  split at h
  · obtain ⟨v, rfl, ra⟩ := rel1 rs
    split at h
    · rename_i ns hns
      split at h
      · rename_i hz
        rw [Option.bind_eq_some_iff] at hns
        obtain ⟨xs, hx, hi⟩ := hns
        obtain ⟨p, vs, rfl, hq, hr⟩ := w.list hx ra
        have e := hr.ints hi
        subst e
        refine cr_max hc pins s σ H _ us Q I rv ⟨p, ns, rfl, hq, hz, fun m hm hle => ?_⟩
        have e1 := maxI_ge hm
        have e2 := hle _ (maxI_mem hz)
        have e3 : m = maxI ns := by omega
        subst e3
        exact h.here w relInt
      · cases h
    · cases h
  · cases h
theorem cf_sum (hc : X.calm = true) : CallR X (.builtin "sum") (bfR X W .sum) := by
  rintro pins s σ H vs us Q I rv ⟨ρ, S, ws, w, rs, h⟩
  replace h : Post X.mg X.K (RelU X.K) W ρ H (sumF ws S) Q := h
  unfold sumF at h
  split at h
  · obtain ⟨v, rfl, ra⟩ := rel1 rs
    split at h
    · rename_i ns hns
      rw [Option.bind_eq_some_iff] at hns
      obtain ⟨xs, hx, hi⟩ := hns
      obtain ⟨p, vs, rfl, hq, hr⟩ := w.list hx ra
      have e := hr.ints hi
      subst e
      exact cr_sum hc pins s σ H _ us Q I rv ⟨p, ns, rfl, hq, h.here w relInt⟩
    · cases h
  · cases h
theorem cf_max2 (hc : X.calm = true) : CallR X (.builtin "max") (bfR X W .max2) := by
  rintro pins s σ H vs us Q I rv ⟨ρ, S, ws, w, rs, h⟩
  replace h : Post X.mg X.K (RelU X.K) W ρ H (max2F ws S) Q := h
  unfold max2F at h
  split at h
  · obtain ⟨v, v', rfl, ra, rb⟩ := rel2 rs
    cases ra.int; cases rb.int
    exact call_max2 hc pins s σ H _ us Q I rv ⟨_, _, rfl, h.here w relInt⟩
  · cases h
theorem cf_min2 (hc : X.calm = true) : CallR X (.builtin "min") (bfR X W .min2) := by
  rintro pins s σ H vs us Q I rv ⟨ρ, S, ws, w, rs, h⟩
  replace h : Post X.mg X.K (RelU X.K) W ρ H (min2F ws S) Q := h
  unfold min2F at h
  split at h
  · obtain ⟨v, v', rfl, ra, rb⟩ := rel2 rs
    cases ra.int; cases rb.int
    exact call_min2 hc pins s σ H _ us Q I rv ⟨_, _, rfl, h.here w relInt⟩
  · cases h
theorem cf_str : CallR X (.type "str") (bfR X W .str) := by
  rintro pins s σ H vs us Q I rv ⟨ρ, S, ws, w, rs, h⟩
  replace h : Post X.mg X.K (RelU X.K) W ρ H (strF ws S) Q := h
  unfold strF at h
  split at h
  · obtain ⟨v, rfl, ra⟩ := rel1 rs
    cases ra.int
    split at h
    · rename_i hz
      exact call_str_int pins s σ H _ us Q I rv ⟨_, rfl, hz, h.here w relStr⟩
    · cases h
  · cases h
theorem cf_tup : CallR X (.type "tuple") (bfR X W .tup) := by
  rintro pins s σ H vs us Q I rv ⟨ρ, S, ws, w, rs, h⟩
  replace h : Post X.mg X.K (RelU X.K) W ρ H (tupF ws S) Q := h
  unfold tupF at h
  split at h
  · obtain ⟨v, rfl, ra⟩ := rel1 rs
    split at h
    · rename_i xs hx
      obtain ⟨p, vs, rfl, hq, hr⟩ := w.items hx ra
      refine call_tuple_of pins s σ H _ us Q I rv ⟨p, vs, rfl, ?_⟩
      rcases hq with hq | hq
      · exact .inl ⟨hq, fun l hl => h.tup w hr hl⟩
      · exact .inr ⟨hq, h.here w (by simp only [RelU]; exact ⟨p, vs, rfl, hq, hr⟩)⟩
    · cases h
  · cases h
theorem cf_list : CallR X (.type "list") (bfR X W .list) := by
  rintro pins s σ H vs us Q I rv ⟨ρ, S, ws, w, rs, h⟩
  replace h : Post X.mg X.K (RelU X.K) W ρ H (listF ws S) Q := h
  unfold listF at h
  split at h
  · obtain ⟨v, rfl, ra⟩ := rel1 rs
    split at h
    · rename_i xs hx
      obtain ⟨p, vs, rfl, hq, hr⟩ := w.items hx ra
      exact call_list_of pins s σ H _ us Q I rv ⟨p, vs, rfl, hq, fun l hl => h.lst w hr hl⟩
    · cases h
  · cases h
/-! ### methods of built-in types -/
def bmR (X : Cx) (W : XK) (b : Bm) : V → List V → Hp → VK → Prop := fun x vs H Q => ∃ ρ S o us, Wok X.K X.mg ρ S H ∧ RelU X.K ρ H o x ∧ RelUs X.K ρ H us vs ∧ Post X.mg X.K (RelU X.K) W ρ H (bmU b o us S) Q
theorem lst_mut {H : Hp} {a : Addr} {vs : List V} (e : H a = some (.lst vs)) : ∀ u, H a = some u → ¬ Imm u := fun u q => by
  rw [e] at q
  cases q
  exact id
theorem ins_mut {H : Hp} {a C dx : Addr} {vs : List (Str × V)} (e : H a = some (.ins C dx vs)) : ∀ u, H a = some u → ¬ Imm u := fun u q => by
  rw [e] at q
  cases q
  exact id
/-- a list is written -/
theorem Post.set {α β : Type} {K : PySem.W.Frag} {mg : Str → Option Value} {Rr : List Addr → Hp → α → β → Prop} {ρ : List Addr} {S : Sto} {H : Hp} {n : Nat} {p : Addr} {us : List U} {vs vs0 : List V} {a : α} {b : β} {Q : β → Hp → Prop} (h : Post mg K Rr W ρ H (.ok a (S.set n (.lst us))) Q) (w : Wok K mg ρ S H)
    (hp : ρ[n]? = some p) {us0 : List U} (hs : S[n]? = some (.lst us0)) (e : H p = some (.lst vs0)) (r : RelUs K ρ H us vs) (hr : ∀ H', Ext ρ H ρ H' → Rr ρ H' a b) : Q b (upd H p (.lst vs)) := by
  have x : Ext ρ H ρ (upd H p (.lst vs)) := Ext.write (lst_mut e)
  exact h ρ _ b x (w.write hp hs rfl rfl (lst_mut e) ⟨vs, upd_same, r.mono x⟩) (hr _ x)
theorem bm_append : MtR X "list.append" (bmR X W .append) := by
  rintro pins s σ H x vs v us Q I rx rv ⟨ρ, S, o, ws, w, ro, rs, h⟩
  replace h : Post X.mg X.K (RelU X.K) W ρ H (appendF o ws S) Q := h
  unfold appendF at h
  split at h
  · obtain ⟨y, rfl, ry⟩ := rel1 rs
    obtain ⟨a, rfl, ha⟩ := ro.loc
    split at h
    · rename_i xs hx
      split at h
      · rename_i hz
        obtain ⟨vs, e, hr⟩ := w.at_ hx ha
        exact mt_append pins s σ H _ _ v us Q I rx rv ⟨a, vs, y, rfl, rfl, e, by rw [hr.length]; exact hz, h.set w ha hx e (hr.append (.cons ry .nil)) fun _ _ => relNon⟩
      · cases h
    · cases h
  · cases h
theorem dropLast_get {α : Type} {xs : List α} : xs[xs.length - 1]? = xs.getLast? := by
  rw [List.getLast?_eq_getElem?]
theorem bm_pop : MtR X "list.pop" (bmR X W .pop) := by
  rintro pins s σ H x vs v us Q I rx rv ⟨ρ, S, o, ws, w, ro, rs, h⟩
  replace h : Post X.mg X.K (RelU X.K) W ρ H (popF o ws S) Q := h
  unfold popF at h
  split at h
  · simp only [RelUs] at rs
    subst rs
    obtain ⟨a, rfl, ha⟩ := ro.loc
    split at h
    · rename_i xs hx
      split at h
      · rename_i y hy
        obtain ⟨vs, e, hr⟩ := w.at_ hx ha
        obtain ⟨z, hz, rz⟩ := hr.get hy
        exact mt_pop pins s σ H _ _ v us Q I rx rv ⟨a, vs, z, rfl, rfl, e, by rw [hr.length]; exact hz, h.set w ha hx e hr.dropLast fun _ x => rz.mono x⟩
      · cases h
    · cases h
  · cases h
theorem bm_startswith3 : MtR X "str.startswith" (bmR X W .startswith3) := by
  rintro pins s σ H x vs v us Q I rx rv ⟨ρ, S, o, ws, w, ro, rs, h⟩
  replace h : Post X.mg X.K (RelU X.K) W ρ H (startsF o ws S) Q := h
  unfold startsF at h
  split at h
  · obtain ⟨y, z, rfl, ry, rz⟩ := rel2 rs
    cases ro.str; cases ry.str; cases rz.int
    exact mt_startswith3 pins s σ H _ _ v us Q I rx rv ⟨_, _, _, rfl, rfl, h.here w relBl⟩
  · cases h
def tyOfB : Bm → String
  | .startswith3 => "str"
  | _ => "list"
theorem tyB_rel {K : PySem.W.Frag} {mg : Str → Option Value} {ρ : List Addr} {S : Sto} {H : Hp} {a : U} {v : V} {b : Bm} (w : Wok K mg ρ S H) (r : RelU K ρ H a v) (h : tyB b a S = true) : tyV K (tyOfB b) v H := by
  cases b with
  | startswith3 =>
    cases a with
    | str x => cases r.str; rfl
    | _ => cases h
  | append =>
    obtain ⟨xs, hx⟩ := Option.isSome_iff_exists.mp (show (list? S a).isSome = true from h)
    obtain ⟨p, vs, rfl, hq, hr⟩ := w.list hx r
    exact .inl ⟨rfl, vs, hq⟩
  | pop =>
    obtain ⟨xs, hx⟩ := Option.isSome_iff_exists.mp (show (list? S a).isSome = true from h)
    obtain ⟨p, vs, rfl, hq, hr⟩ := w.list hx r
    exact .inl ⟨rfl, vs, hq⟩
end
end Oz

end

section
set_option maxHeartbeats 4000000
/-! OzR: calls, where one level takes one frame. -/
namespace Oz
open PySem PySem.Spec PyProof.Rows L2
/-- room for k calls, one in another -/
structure Rm (k : Nat) (A : Around) : Prop where
  hd : A.handled = none
  dp : A.depth + k + 12 < recursionLimit
  un : A.units + 4 * k + 300 < cLine
theorem Rm.mono {j k : Nat} {A : Around} (r : Rm k A) (h : j ≤ k) : Rm j A := ⟨r.hd, by have := r.dp; omega, by have := r.un; omega⟩
theorem Rm.inner {k : Nat} {A : Around} (r : Rm (k + 1) A) (env : PySem.Env) : Rm k (A.deeper env) where
  hd := r.hd
  dp := by
    have := r.dp
    show A.depth + 1 + k + 12 < recursionLimit
    omega
  un := by
    have := r.un
    show A.units + 3 + 4 * k + 300 < cLine
    omega
theorem Rm.make {k : Nat} {A : Around} (r : Rm (k + 1) A) (C : Addr) (us : List Value) : Rm k (A.under (.builtin "type.__call__" ⟨.ref C :: us, []⟩)) where
  hd := r.hd
  dp := by
    have := r.dp
    rw [make_depth]
    omega
  un := by
    have := r.un
    rw [make_units]
    omega
theorem Rm.room {k : Nat} {A : Around} (r : Rm k A) : Room 2 A := ⟨r.hd, by have := r.dp; omega, by have := r.un; omega⟩
theorem Rm.depth {k : Nat} {A : Around} (r : Rm k A) : A.depth < recursionLimit := by have := r.dp; omega
theorem Rm.of {A : Around} (r : Room 231 A) : Rm 680 A := ⟨r.hd, by have := r.dp; omega, by have := r.un; omega⟩
/-- a promise by positional values -/
def FnQ (P : Program) (w : World) (K : PySem.W.Frag) (mg : Str → Option Value) (base : Heap) (CX : CXT) (k : Nat) (f : Addr) (sp : Sp) : Prop :=
  ∀ A outer s H us vs Q E, Rm k A → Env0 P w K mg base A outer s H → Vals vs us → sp vs H Q E → codeAny (model P w) A (.call (.ref f) ⟨us, []⟩) (CR CX outer P w H s Q E) s
section
variable {P : Program} {w : World} {K : PySem.W.Frag} {mg : Str → Option Value} {base : Heap} {CX : CXT} {j k : Nat} {f : Addr} {sp sp' : Sp}
theorem FnQ.mono (F : FnQ P w K mg base CX j f sp) (h : j ≤ k) : FnQ P w K mg base CX k f sp := fun A outer s H us vs Q E hr e0 r hs => F A outer s H us vs Q E (hr.mono h) e0 r hs
theorem FnQ.imp (F : FnQ P w K mg base CX k f sp) (h : ∀ vs H Q E, sp' vs H Q E → sp vs H Q E) : FnQ P w K mg base CX k f sp' := fun A outer s H us vs Q E hr e0 r hs => F A outer s H us vs Q E hr e0 r (h _ _ _ _ hs)
end
section
variable {X : Cx} {CX : CXT} {k : Nat} {f C : Addr} {sp : Sp} {E : XK}
theorem ends_of {pins : List (Addr × Obj)} {σ : L2.St} {H : Hp} {s : Shared} {Q : VK} (hx : Passes CX X E) (I : L2.Inv X pins σ H s) : ∀ (r : Result) (s' : Shared), CR CX X.stack X.prog X.w H s Q E r s' → (match r with | .ok (.ret v) => EP X pins σ Q v s' | .ok _ => False | .error e => X.xe e s')
  | .error e, s', hq => hx pins σ H s e s' I hq
  | .ok (.ret u), s', hq => I.after hq
  | .ok .next, _, hq => hq.elim
  | .ok .brk, _, hq => hq.elim
  | .ok .cont, _, hq => hq.elim
theorem run_fnQ {pins : List (Addr × Obj)} {σ : L2.St} {H : Hp} {s : Shared} {Q : VK} {us : List Value} {vs : List V} (F : FnQ X.prog X.w X.K X.mg X.base CX k f sp) (hr : Rm k X.A) (hx : Passes CX X E) (I : L2.Inv X pins σ H s) (r : Vals vs us) (h : sp vs H Q E) :
    wpAny (model X.prog X.w) X.A (call (.ref f) us) (EP X pins σ Q) X.xe s :=
  wpAny_call (codeAny_mono (F X.A X.stack s H us vs Q E hr I.env0 r h) fun z s' hq => ends_of hx I z s' hq)
theorem run_mkQ {pins : List (Addr × Obj)} {σ : L2.St} {H : Hp} {s : Shared} {Q : VK} {us : List Value} {vs : List V} (M : Mk X.K C f) (F : FnQ X.prog X.w X.K X.mg X.base CX k f sp) (hr : Rm (k + 1) X.A) (hx : Passes CX X E) (I : L2.Inv X pins σ H s) (r : Vals vs us)
    (h : ∀ x dx, H x = none → H dx = none → dx ≠ x → sp (.ref x :: vs) (upd (upd H dx (.own x)) x (.ins C dx [])) (fun v H2 => v = .non ∧ Q (.ref x) H2) E) : wpAny (model X.prog X.w) X.A (call (.ref C) us) (EP X pins σ Q) X.xe s := by
  have h0 : H s.heap.objs.size = none := I.hok.fresh (Nat.le_refl _)
  have h1 : H (s.heap.objs.size + 1) = none := I.hok.fresh (Nat.le_succ _)
  have hq := h _ _ h1 h0 (Nat.ne_of_lt (Nat.lt_succ_self _))
  have J := L2.Inv.made (C := C) I
  have rr : Vals (V.ref (s.heap.objs.size + 1) :: vs) (Value.ref (s.heap.objs.size + 1) :: us) := .cons rfl r
  have run := F _ X.stack _ _ (Value.ref (s.heap.objs.size + 1) :: us) _ _ E (hr.make C us) (J.env0.make C us []) rr hq
  refine wpAny_call (make_map (f := f) I.kIn M.makes M.init (beq_iff_eq.mp M.fn) (codeAny_mono run fun z s' hz => ?_))
  have hz' := ends_of hx J z s' hz
  match z, hz' with
  | .error e, q => exact q
  | .ok (.ret u), ⟨v, H', I3, rv, ev, q3⟩ =>
    subst ev
    exact ⟨rv, V.ref (s.heap.objs.size + 1), H', I3, rfl, q3⟩
  | .ok .next, q => exact q.elim
  | .ok .brk, q => exact q.elim
  | .ok .cont, q => exact q.elim
end
/-! ### a body -/
section
variable {CX : CXT} {P : Program} {w : World} {K : PySem.W.Frag} {mg : Str → Option Value} {base : Heap} {k : Nat} {f : Addr} {name qual : Str} {params : Arguments} {body : List Stmt} {scope : Scope} {dV kV doc pm cdv ct oc : Value} {an od : Option Addr}
  {osl : Array (Option Value)} {N ps : List Str}
theorem body_end {A : Around} {outer : List PySem.Env} {s0 s1 : Shared} {H0 H1 : Hp} {E : XK} {Q : VK} {fl : Flow} {s' : Shared} (un : Un (frs outer) [] H0 H1 s0.heap s1.heap) (ho : s1.os = s0.os)
    (h : SP (cxOf CX P w K mg base N qual scope f cdv A outer s1 H1 E) [] { nx := fun _ H' => Q .non H', rt := Q } fl s') : CR CX outer P w H0 s0 Q E (.ok (match fl with | .ret v => .ret v | _ => .ret .none)) s' := by
  have fin : ∀ {σ' : L2.St} {H' : Hp} {v : V} {u : Value}, L2.Inv (cxOf CX P w K mg base N qual scope f cdv A outer s1 H1 E) [] σ' H' s' → RelV v u → Q v H' → CE outer P w H0 s0 Q u s' :=
    fun J rv q => ⟨_, _, J.os.trans ho, J.bare, un.trans J.base, J.hok, rv, q⟩
  match fl, h with
  | .ret u, ⟨v, σ', H', J, rv, q⟩ => exact fin J rv q
  | .next, ⟨σ', H', J, q⟩ => exact fin (v := .non) (u := .none) J rfl q
  | .brk, ⟨_, _, _, q⟩ => exact q.elim
  | .cont, ⟨_, _, _, q⟩ => exact q.elim
/-- the arguments bound with objects laid on the way: G tells of the bound values and the heap -/
theorem run_body {A : Around} {outer : List PySem.Env} {s : Shared} {H : Hp} {args : Args} {Q : VK} {E : XK} {G : List V → Hp → Prop} (lk : K.lookup f = some ⟨oc, od, .func (PySem.W.fnOf name qual params body scope dV kV doc pm an cdv ct), osl⟩) (hcd : PySem.W.codeIn K cdv qual = true)
    (S : FnScope N ps scope) (hr : Rm (k + 1) A) (e0 : Env0 P w K mg base A outer s H) (hb : StX.Bnd CX P w K mg base (PySem.W.fnOf name qual params body scope dV kV doc pm an cdv ct) args ps A outer s H E G)
    (hbody : ∀ (s2 : Shared) (H2 : Hp) (vs : List V), G vs H2 → Rm k (A.deeper (envOfC qual scope s2.heap.objs.size f cdv)) → ∃ t, PSs (cxOf CX P w K mg base N qual scope f cdv A outer s2 H2 E) body t ∧ t { nx := fun _ H' => Q .non H', rt := Q } (L2.start N vs) H2) :
    codeAny (model P w) A (.call (.ref f) args) (CR CX outer P w H s Q E) s := by
  have KX : K.In s.heap := e0.mod.kin.keeps fun b o e => (e0.bs b o e).1
  refine codeAny_call_function hr.depth (KX _ _ lk) rfl S.co S.gen rfl (PySem.W.codeRec_of KX hcd) (hb _ _ _ fun s2 H2 vs us e2 un ho hx r hl g => ?_)
  have lim : s2.heap.NoLimit := e0.mod.nolimit.keeps fun b o e => (e2.bs b o e).1
  have hkind : ∀ y ∈ ps.zip us, scope.names.lookup y.1 = some .local ∨ (scope.names.lookup y.1 = some .cell ∧ ((cellsFrom (s2.heap.objs.size + 1) scope.names []).lookup y.1).isSome = true) := by
    intro y hy
    rcases S.par y.1 (List.of_mem_zip hy).1 with q | q
    · exact Or.inl q
    · exact Or.inr ⟨q, PySem.W.cellsFrom_some _ _ _ (Or.inl q)⟩
  refine wpAny_newFunctionEnv_cells (s := s2) S.kind hkind fun env he s1 x => ?_
  subst he
  refine ⟨lim.keeps x.toInCall.keep, codeAny_func ?_⟩
  obtain ⟨t, ht, hq⟩ := hbody s2 H2 vs g (hr.inner _)
  have I := inv_start (CX := CX) (E := E) (w := w) S hr.hd e2 hl r x
  refine wpAny_mono (ht.run [] s1 _ _ _ I hq) (fun fl s' hs => ?_) fun e s' hs => ?_
  · have z := body_end (cdv := cdv) un ho hs
    cases fl with
    | ret u => exact z
    | next => exact z
    | brk => exact z
    | cont => exact z
  · exact wpAny_mono hs (fun _ s'' z => hx e s'' z) fun e' s'' z => hx e' s'' z
end
end Oz

end

section
set_option maxHeartbeats 4000000
/-! Oz6: the rules of expressions. -/
namespace Oz
open PySem PySem.Spec PyProof.Rows L2
/-! ### what is asked of the program around -/
/-- a def's promise: it does what g does -/
def spC (K : PySem.W.Frag) (mg : Str → Option Value) (g : List U → Sto → R U) : Sp := fun vs H Q E => ∃ ρ S us, Wok K mg ρ S H ∧ RelUs K ρ H us vs ∧ Post mg K (RelU K) E ρ H (g us S) Q
structure Names where
  fns : List Str
  mets : List (Str × Str)
  clss : List Str
  flds : List (Str × Str)
  xcs : List (Str × Str)
  bins : List Str
/-- what the written part says, once for all -/
structure Sta (p : Pg) (nm : Names) (K : PySem.W.Frag) (mg : Str → Option Value) (ad : Str → Addr) : Prop where
  glo : ∀ x u, p.glo x = some u → ∃ w v, mg x = some w ∧ RelV v w ∧ ∀ ρ H, RelU K ρ H u v
  fn : ∀ f, f ∈ nm.fns → mg f = some (.ref (ad f)) ∧ PySem.W.keepIn K (.ref (ad f)) = true
  met : ∀ C m, (C, m) ∈ nm.mets → BMeth K (ad C) m (ad (C ++ "." ++ m))
  cls : ∀ C, C ∈ nm.clss → mg C = some (.ref (ad C)) ∧ Cls K (ad C) ∧ Mk K (ad C) (ad (C ++ ".__init__"))
  fld : ∀ C f, (C, f) ∈ nm.flds → NoAttr K (ad C) f
  bin : ∀ x, x ∈ nm.bins → mg x = none
/-- what an exception's __init__ does -/
def spX (C : Addr) (f : Str) : Sp := fun vs H Q _ => ∃ a y, vs = [.ref a, y] ∧ H a = some (exo a C none) ∧ ∀ dx, H dx = none → dx ≠ a → Q .non (upd (upd H dx (exd dx [(f, y)])) a (exo a C (some dx)))
structure XcOk (P : Program) (w : World) (K : PySem.W.Frag) (mg : Str → Option Value) (base : Heap) (ad : Str → Addr) (C f : Str) : Prop where
  gC : mg C = some (.ref (ad C))
  T : OexC K (ad C)
  iC : PySem.W.findIn K (.ref (ad C)) "__init__" = some (some (.ref (ad (C ++ ".__init__"))))
  tI : PySem.W.typeIn K (.ref (ad (C ++ ".__init__"))) = some (.type "function")
  fn : ∃ fd ps, FnOk P w K mg base (L2.CX P w) 1 (ad (C ++ ".__init__")) fd ps (spX (ad C) f) ∧ Binds K fd ps []
  kp : PySem.W.keepIn K (.ref (ad C)) = true
structure Ok (X : Cx) (p : Pg) (nm : Names) (ad : Str → Addr) (d : Nat) (W : XK) : Prop where
  sta : Sta p nm X.K X.mg ad
  xc : ∀ C f, (C, f) ∈ nm.xcs → XcOk X.prog X.w X.K X.mg X.base ad C f
  take : Takes X (fun cls d _ H => W cls d H)
  own : PassesOwn (model X.prog X.w) X.A X.env X.xe
  calm : X.calm = true
  room : Rm (d + 2) X.A
  pass : Passes (L2.CX X.prog X.w) X W
  call : ∀ f, FnQ X.prog X.w X.K X.mg X.base (L2.CX X.prog X.w) (d + 2) (ad f) (spC X.K X.mg ((p.cal d).call f))
  init : ∀ f, FnQ X.prog X.w X.K X.mg X.base (L2.CX X.prog X.w) (d + 1) (ad f) (spC X.K X.mg ((p.cal d).init f))
theorem Ok.hu {X : Cx} {p : Pg} {nm : Names} {ad : Str → Addr} {d : Nat} {W : XK} (O : Ok X p nm ad d W) : X.A.units + 65 < cLine := by
  have := O.room.un
  omega

/-! ### readings -/
def tE (X : Cx) (Φ : Cal) (W : XK) (e : E) : TE := fun σ H Q => ∃ ρ S env, Wok X.K X.mg ρ S H ∧ EnvOk X.K ρ H env σ ∧ Post X.mg X.K (RelU X.K) W ρ H (ev Φ e env S) Q
def tEs (X : Cx) (Φ : Cal) (W : XK) (e : Es) : TA := fun σ H Q => ∃ ρ S env, Wok X.K X.mg ρ S H ∧ EnvOk X.K ρ H env σ ∧ Post X.mg X.K (RelUs X.K) W ρ H (evs Φ e env S) Q
def Rid {α : Type} : List Addr → Hp → α → α → Prop := fun _ _ a b => a = b
def tTs (X : Cx) (Φ : Cal) (W : XK) (e : T) : TT := fun σ H Q => ∃ ρ S env, Wok X.K X.mg ρ S H ∧ EnvOk X.K ρ H env σ ∧ Post X.mg X.K Rid W ρ H (evt Φ e env S) Q
def tEo (X : Cx) (Φ : Cal) (W : XK) (e : Eo) : TO := fun σ H Q => ∃ ρ S env, Wok X.K X.mg ρ S H ∧ EnvOk X.K ρ H env σ ∧ Post X.mg X.K Rid W ρ H (evo Φ e env S) Q
theorem PEw {X : Cx} {e : Expr} {t t' : TE} (h : PE X e t) (i : ∀ σ H Q, t' σ H Q → t σ H Q) : PE X e t' := ⟨fun pins s σ H Q I q => h.run pins s σ H Q I (i _ _ _ q)⟩
theorem PTw' {X : Cx} {e : Expr} {t t' : TT} (h : PT X e t) (i : ∀ σ H Q, t' σ H Q → t σ H Q) : PT X e t' := ⟨fun pins s σ H Q I q => h.run pins s σ H Q I (i _ _ _ q)⟩
theorem PWw {X : Cx} {e : Expr} {t t' : TT} (h : PW X e t) (i : ∀ σ H Q, t' σ H Q → t σ H Q) : PW X e t' := ⟨fun wh pins s σ H Q I q => h.run wh pins s σ H Q I (i _ _ _ q)⟩
theorem PAw {X : Cx} {e : List Expr} {t t' : TA} (h : PA X e t) (i : ∀ σ H Q, t' σ H Q → t σ H Q) : PA X e t' := ⟨fun pos pins s σ H Q I q => h.run pos pins s σ H Q I (i _ _ _ q)⟩
theorem POw {X : Cx} {e : Option Expr} {t t' : TO} (h : PO X e t) (i : ∀ σ H Q, t' σ H Q → t σ H Q) : PO X e t' := ⟨fun pins s σ H Q I q => h.run pins s σ H Q I (i _ _ _ q)⟩

section
variable {X : Cx} {p : Pg} {nm : Names} {ad : Str → Addr} {d : Nat} {W : XK} {a b e c o : Expr} {es : List Expr} {ta tb te to : E} {tc td : T} {tes : Es} {pos : Pos}
/-! ### names, constants -/
theorem s_v (i : Nat) {x : Str} (hN : X.N[i]? = some x := by rfl) (hv : Vis X.env.scope x := by first | exact Or.inl rfl | exact Or.inr (Or.inl rfl) | exact Or.inr (Or.inr rfl)) (hd : (x == ("__debug__" : Str)) = false := by decide)
    (hcd : (x == ("__classdict__" : Str)) = false := by decide) {Φ : Cal} : PE X (.Name x pos) (tE X Φ W (.v i)) := by
  refine PEw (pe_var hN hv hd hcd) fun σ H Q ⟨ρ, S, env, w, eo, h⟩ => ?_
  rw [ev] at h
  split at h
  · rename_i u hu
    obtain ⟨v, e, r⟩ := eo.ok i u hu
    exact ⟨v, e, h.here w r⟩
  · cases h
theorem s_int {i : Int} {j : Nat} {Φ : Cal} : PE X (.Constant (.int i) j pos) (tE X Φ W (.k (.int i))) := PEw pe_int fun σ H Q ⟨ρ, S, env, w, eo, h⟩ => by rw [ev] at h; exact h.here w relInt
theorem s_bl {i : Bool} {j : Nat} {Φ : Cal} : PE X (.Constant (.bool i) j pos) (tE X Φ W (.k (.bl i))) := PEw pe_bl fun σ H Q ⟨ρ, S, env, w, eo, h⟩ => by rw [ev] at h; exact h.here w relBl
theorem s_str {i : Str} {j : Nat} {Φ : Cal} : PE X (.Constant (.str i) j pos) (tE X Φ W (.k (.str i))) := PEw pe_str fun σ H Q ⟨ρ, S, env, w, eo, h⟩ => by rw [ev] at h; exact h.here w relStr
theorem s_non {j : Nat} {Φ : Cal} : PE X (.Constant .none j pos) (tE X Φ W (.k .non)) := PEw pe_non fun σ H Q ⟨ρ, S, env, w, eo, h⟩ => by rw [ev] at h; exact h.here w relNon
theorem cal_glo (p : Pg) : ∀ d, (p.cal d).glo = p.glo
  | 0 => rfl
  | _ + 1 => rfl
theorem cal_xf (p : Pg) : ∀ d, (p.cal d).xf = p.xf
  | 0 => rfl
  | _ + 1 => rfl
theorem s_g (O : Ok X p nm ad d W) {x : Str} (hg : Gl X x := by rfl) (hp : (p.glo x).isSome = true := by decide +kernel) (hd : (x == ("__debug__" : Str)) = false := by decide) : PE X (.Name x pos) (tE X (p.cal d) W (.g x)) := by
  obtain ⟨u, hu⟩ := Option.isSome_iff_exists.mp hp
  obtain ⟨w0, v, hm, rv, ru⟩ := O.sta.glo x u hu
  refine PEw (pe_glob hg hm rv hd) fun σ H Q ⟨ρ, S, env, w, eo, h⟩ => ?_
  rw [ev, cal_glo, hu] at h
  exact h.here w (ru ρ H)

/-! ### argument lists, displays -/
theorem s_nil {Φ : Cal} : PA X [] (tEs X Φ W .nil) := PAw pa_nil fun σ H Q ⟨ρ, S, env, w, eo, h⟩ => by rw [evs] at h; exact h.here w RelUs.nil
theorem s_cons {Φ : Cal} (ha : PE X e (tE X Φ W te)) (hr : PA X es (tEs X Φ W tes)) (hs : starEach (e :: es) X.env = (false, eval e X.env) :: starEach es X.env := by rfl) : PA X (e :: es) (tEs X Φ W (.cons te tes)) := by
  refine PAw (pa_cons ha hr hs) fun σ H Q ⟨ρ, S, env, w, eo, h⟩ => ?_
  rw [evs] at h
  refine ⟨ρ, S, env, w, eo, (Post.bind h).imp fun x H1 ⟨ρ1, S1, u, e1, w1, r1, h1⟩ => ⟨ρ1, S1, env, w1, eo.mono e1, (Post.bind h1).imp fun xs H2 ⟨ρ2, S2, us, e2, w2, r2, h2⟩ => ?_⟩⟩
  exact h2.here w2 (RelUs.cons (r1.mono e2) r2)
theorem s_star {Φ : Cal} {sp : Pos} (ha : PE X e (tE X Φ W te)) (hr : PA X es (tEs X Φ W tes)) (hs : starEach (.Starred e sp :: es) X.env = (true, eval e X.env) :: starEach es X.env := by rfl) : PA X (.Starred e sp :: es) (tEs X Φ W (.star te tes)) := by
  refine PAw (StX.pa_star ha hr hs) fun σ H Q ⟨ρ, S, env, w, eo, h⟩ => ?_
  rw [evs] at h
  refine ⟨ρ, S, env, w, eo, (Post.bind h).imp fun x H1 ⟨ρ1, S1, u, e1, w1, r1, h1⟩ => ?_⟩
  split at h1
  · rename_i xs hx
    obtain ⟨a, vs, rfl, hq, hr⟩ := w1.items hx r1
    refine ⟨a, vs, rfl, hq.symm, ρ1, S1, env, w1, eo.mono e1, (Post.bind h1).imp fun ys H2 ⟨ρ2, S2, us, e2, w2, r2, h2⟩ => ?_⟩
    exact h2.here w2 ((hr.mono e2).append r2)
  · cases h1
theorem s_tup {Φ : Cal} {k : Nat} (h : PA X es (tEs X Φ W tes)) : PE X (.Tuple es k pos) (tE X Φ W (.tup tes)) := by
  refine PEw (pe_tup h) fun σ H Q ⟨ρ, S, env, w, eo, h⟩ => ?_
  rw [ev] at h
  refine ⟨ρ, S, env, w, eo, (Post.bind h).imp fun xs H1 ⟨ρ1, S1, us, e1, w1, r1, h1⟩ => ?_⟩
  split at h1
  · rename_i hz
    exact ⟨by rw [r1.length]; exact hz, fun q hq => h1.tup w1 r1 hq⟩
  · cases h1
theorem s_lst {Φ : Cal} (h : PA X es (tEs X Φ W tes)) : PE X (.List es pos) (tE X Φ W (.lst tes)) := by
  refine PEw (pe_lst h) fun σ H Q ⟨ρ, S, env, w, eo, h⟩ => ?_
  rw [ev] at h
  refine ⟨ρ, S, env, w, eo, (Post.bind h).imp fun xs H1 ⟨ρ1, S1, us, e1, w1, r1, h1⟩ => ?_⟩
  split at h1
  · rename_i hz
    exact ⟨by rw [r1.length]; exact hz, fun q hq => h1.lst w1 r1 hq⟩
  · cases h1

/-! ### operators -/
theorem two {Φ : Cal} {f : U → U → Sto → R U} {σ : L2.St} {H : Hp} {Q : VK} {ρ : List Addr} {S : Sto} {env : Env} (w : Wok X.K X.mg ρ S H) (eo : EnvOk X.K ρ H env σ)
    (h : Post X.mg X.K (RelU X.K) W ρ H ((ev Φ ta env S).bind fun x S => (ev Φ tb env S).bind fun y S => f x y S) Q) : tE X Φ W ta σ H fun x H1 => tE X Φ W tb σ H1 fun y H2 => r2 X W f x y H2 Q :=
  ⟨ρ, S, env, w, eo, (Post.bind h).imp fun x H1 ⟨ρ1, S1, u, e1, w1, r1, h1⟩ => ⟨ρ1, S1, env, w1, eo.mono e1, (Post.bind h1).imp fun y H2 ⟨ρ2, S2, u2, e2, w2, r2, h2⟩ => ⟨ρ2, S2, u, u2, w2, r1.mono e2, r2, h2⟩⟩⟩
theorem s_bin {Φ : Cal} (o : Op) (ha : PE X a (tE X Φ W ta)) (hb : PE X b (tE X Φ W tb)) : PE X (.BinOp a (opOf o) b pos) (tE X Φ W (.bin o ta tb)) :=
  PEw (pe_op (op_bin (W := W) o) ha hb) fun σ H Q ⟨ρ, S, env, w, eo, h⟩ => by rw [ev] at h; exact two w eo h
theorem s_neg {Φ : Cal} (ha : PE X a (tE X Φ W ta)) : PE X (.UnaryOp .USub a pos) (tE X Φ W (.neg ta)) := by
  refine PEw (pe_un un_neg ha) fun σ H Q ⟨ρ, S, env, w, eo, h⟩ => ?_
  rw [ev] at h
  refine ⟨ρ, S, env, w, eo, (Post.bind h).imp fun x H1 ⟨ρ1, S1, u, e1, w1, r1, h1⟩ => ?_⟩
  split at h1
  · cases r1.int
    exact ⟨_, rfl, h1.here w1 relInt⟩
  · cases h1
theorem s_cmp (O : Ok X p nm ad d W) {Φ : Cal} (o : Cm) (ha : PE X a (tE X Φ W ta)) (hb : PE X b (tE X Φ W tb)) (hm : behindInMarks (cmOf o) b = false := by rfl) : PE X (.Compare a [cmOf o] [b] pos) (tE X Φ W (.cmp o ta tb)) :=
  PEw (pe_cmpR (op_cmp (W := W) O.hu o) ha hb hm) fun σ H Q ⟨ρ, S, env, w, eo, h⟩ => by rw [ev] at h; exact two w eo h
theorem s_one {Φ : Cal} {op : BoolOp} (h : PE X a (tE X Φ W ta)) : PE X (.BoolOp op [a] pos) (tE X Φ W ta) := pe_one h
theorem s_and {Φ : Cal} {rest : List Expr} (ha : PE X a (tE X Φ W ta)) (hb : PE X (.BoolOp .And (b :: rest) pos) (tE X Φ W tb)) : PE X (.BoolOp .And (a :: b :: rest) pos) (tE X Φ W (.and ta tb)) := by
  refine PEw (pe_and ha hb) fun σ H Q ⟨ρ, S, env, w, eo, h⟩ => ?_
  rw [ev] at h
  refine ⟨ρ, S, env, w, eo, (Post.bind h).imp fun x H1 ⟨ρ1, S1, u, e1, w1, r1, h1⟩ => ?_⟩
  split at h1
  · cases r1.bl
    exact ⟨true, rfl, iteT ⟨ρ1, S1, env, w1, eo.mono e1, h1⟩⟩
  · cases r1.bl
    exact ⟨false, rfl, iteF (h1.here w1 relBl)⟩
  · cases h1
theorem s_or {Φ : Cal} {rest : List Expr} (ha : PE X a (tE X Φ W ta)) (hb : PE X (.BoolOp .Or (b :: rest) pos) (tE X Φ W tb)) : PE X (.BoolOp .Or (a :: b :: rest) pos) (tE X Φ W (.or ta tb)) := by
  refine PEw (pe_or ha hb) fun σ H Q ⟨ρ, S, env, w, eo, h⟩ => ?_
  rw [ev] at h
  refine ⟨ρ, S, env, w, eo, (Post.bind h).imp fun x H1 ⟨ρ1, S1, u, e1, w1, r1, h1⟩ => ?_⟩
  split at h1
  · cases r1.bl
    exact ⟨true, rfl, iteT (h1.here w1 relBl)⟩
  · cases r1.bl
    exact ⟨false, rfl, iteF ⟨ρ1, S1, env, w1, eo.mono e1, h1⟩⟩
  · cases h1
theorem s_not {Φ : Cal} (ha : PE X a (tE X Φ W ta)) : PE X (.UnaryOp .Not a pos) (tE X Φ W (.not ta)) := by
  refine PEw (pe_not ha) fun σ H Q ⟨ρ, S, env, w, eo, h⟩ => ?_
  rw [ev] at h
  refine ⟨ρ, S, env, w, eo, (Post.bind h).imp fun x H1 ⟨ρ1, S1, u, e1, w1, r1, h1⟩ => ?_⟩
  split at h1
  · cases r1.bl
    exact ⟨_, rfl, h1.here w1 relBl⟩
  · cases h1
theorem s_ife {Φ : Cal} (hc : PT X c (tTs X Φ W tc)) (ha : PE X a (tE X Φ W ta)) (hb : PE X b (tE X Φ W tb)) : PE X (.IfExp c a b pos) (tE X Φ W (.ife tc ta tb)) := by
  refine PEw (pe_ifExp hc ha hb) fun σ H Q ⟨ρ, S, env, w, eo, h⟩ => ?_
  rw [ev] at h
  refine ⟨ρ, S, env, w, eo, (Post.bind (Rr := Rid) h).imp fun x H1 ⟨ρ1, S1, u, e1, w1, r1, h1⟩ => ?_⟩
  cases r1
  cases x with
  | true => exact iteT ⟨ρ1, S1, env, w1, eo.mono e1, h1⟩
  | false => exact iteF ⟨ρ1, S1, env, w1, eo.mono e1, h1⟩
theorem s_ix {Φ : Cal} (ha : PE X a (tE X Φ W ta)) (hb : PE X b (tE X Φ W tb)) (hs : PlainIx b := by exact fun _ _ => rfl) : PE X (.Subscript a b pos) (tE X Φ W (.ix ta tb)) :=
  PEw (pe_ix (ix_any (W := W)) ha hb hs) fun σ H Q ⟨ρ, S, env, w, eo, h⟩ => by rw [ev] at h; exact two w eo h
theorem s_no {Φ : Cal} : PO X none (tEo X Φ W .no) := POw po_none fun σ H Q ⟨ρ, S, env, w, eo, h⟩ => by rw [evo] at h; exact h.here w rfl
theorem s_so {Φ : Cal} (h : PE X a (tE X Φ W ta)) : PO X (some a) (tEo X Φ W (.so ta)) := by
  refine POw (po_some h) fun σ H Q ⟨ρ, S, env, w, eo, h⟩ => ?_
  rw [evo] at h
  refine ⟨ρ, S, env, w, eo, (Post.bind h).imp fun x H1 ⟨ρ1, S1, u, e1, w1, r1, h1⟩ => ?_⟩
  split at h1
  · cases r1.int
    exact ⟨_, rfl, h1.here w1 rfl⟩
  · cases h1
theorem s_sl {Φ : Cal} {lo hi : Option Expr} {tl th : Eo} {p2 : Pos} (ha : PE X a (tE X Φ W ta)) (hl : PO X lo (tEo X Φ W tl)) (hh : PO X hi (tEo X Φ W th)) : PE X (.Subscript a (.Slice lo hi none p2) pos) (tE X Φ W (.sl ta tl th)) := by
  refine PEw (pe_slice (sl_any (W := W)) ha hl hh) fun σ H Q ⟨ρ, S, env, w, eo, h⟩ => ?_
  rw [ev] at h
  exact ⟨ρ, S, env, w, eo, (Post.bind h).imp fun x H1 ⟨ρ1, S1, u, e1, w1, r1, h1⟩ => ⟨ρ1, S1, env, w1, eo.mono e1, (Post.bind (Rr := Rid) h1).imp fun l H2 ⟨ρ2, S2, l', e2, w2, r2, h2⟩ =>
    ⟨ρ2, S2, env, w2, (eo.mono e1).mono e2, (Post.bind (Rr := Rid) h2).imp fun l2 H3 ⟨ρ3, S3, l3, e3, w3, r3, h3⟩ => by cases r2; cases r3; exact ⟨ρ3, S3, u, w3, (r1.mono e2).mono e3, h3⟩⟩⟩⟩
/-! ### fields, calls -/
theorem ins_at {ρ : List Addr} {S : Sto} {H : Hp} {n : Nat} {x : V} {C : Str} {fs : List (Str × U)} (O : Ok X p nm ad d W) (hC : C ∈ nm.clss) (w : Wok X.K X.mg ρ S H) (r : RelU X.K ρ H (.loc n) x) (h : S[n]? = some (.ins C fs)) :
    ∃ a dx vfs, x = .ref a ∧ ρ[n]? = some a ∧ H a = some (.ins (ad C) dx vfs) ∧ RelF X.K ρ H fs vfs := by
  obtain ⟨a, rfl, ha⟩ := r.loc
  obtain ⟨Ca, dx, vfs, m, e, q⟩ := w.at_ h ha
  rw [(O.sta.cls C hC).1] at m
  cases m
  exact ⟨a, dx, vfs, rfl, ha, e, q⟩
theorem s_fld (O : Ok X p nm ad d W) {Φ : Cal} (C : Str) {f : Str} (ha : PE X a (tE X Φ W ta)) (hC : C ∈ nm.clss := by decide +kernel) (hf : (C, f) ∈ nm.flds := by decide +kernel) (hb : attributeBase a f X.env (eval a X.env) = eval a X.env := by rfl) :
    PE X (.Attribute a f pos) (tE X Φ W (.fld ta C f)) := by
  refine PEw (pe_fld ha hb) fun σ H Q ⟨ρ, S, env, w, eo, h⟩ => ?_
  rw [ev] at h
  refine ⟨ρ, S, env, w, eo, (Post.bind h).imp fun x H1 ⟨ρ1, S1, u, e1, w1, r1, h1⟩ => ?_⟩
  split at h1
  · split at h1
    · rename_i hn
      split at h1
      · rename_i hD
        subst hD
        obtain ⟨a, dx, vfs, rfl, hn', e, q⟩ := ins_at O hC w1 r1 hn
        unfold rO at h1
        split at h1
        · rename_i u' hu
          obtain ⟨v, l, rv⟩ := (q.look (f := f)).1 u' hu
          exact ⟨a, _, dx, vfs, v, rfl, e, (O.sta.cls _ hC).2.1, O.sta.fld _ _ hf, l, h1.here w1 rv⟩
        · cases h1
      · cases h1
    · cases h1
  · cases h1
theorem s_call (O : Ok X p nm ad d W) {f : Str} {px : Pos} (ha : PA X (e :: es) (tEs X (p.cal d) W tes)) (hg : Gl X f := by rfl) (hf : f ∈ nm.fns := by decide +kernel) (hdb : (f == ("__debug__" : Str)) = false := by decide)
    (he : starEach (e :: es) X.env = (false, eval e X.env) :: starEach es X.env := by rfl) (hpl : (backTo pos (starEach es X.env)).any (·.1) = false := by rfl) : PE X (.Call (.Name f px) (e :: es) [] pos) (tE X (p.cal d) W (.call f tes)) := by
  refine ⟨fun pins s σ H Q I ⟨ρ, S, env, w, eo, h⟩ => ?_⟩
  obtain ⟨hm, hk⟩ := O.sta.fn f hf
  rw [ev] at h
  refine wpAny_Call_Name_kw (ld_glob I hg hm ?_ hdb)
  refine PySem.W.callWith_K (h₀ := X.base) I.ok.mod.kin hk (thn (ha.run pos pins s σ H _ I ⟨ρ, S, env, w, eo, Post.bind h⟩) fun us s1 ⟨vs, H1, I1, r, ρ1, S1, us', e1, w1, r1, h1⟩ => ⟨I1.kIn, ?_⟩) he hpl
  exact run_fnQ (O.call f) O.room O.pass I1 r ⟨ρ1, S1, us', w1, r1, h1⟩
theorem s_call0 (O : Ok X p nm ad d W) {f : Str} {px : Pos} (hg : Gl X f := by rfl) (hf : f ∈ nm.fns := by decide +kernel) (hdb : (f == ("__debug__" : Str)) = false := by decide) : PE X (.Call (.Name f px) [] [] pos) (tE X (p.cal d) W (.call f .nil)) := by
  refine ⟨fun pins s σ H Q I ⟨ρ, S, env, w, eo, h⟩ => ?_⟩
  obtain ⟨hm, hk⟩ := O.sta.fn f hf
  rw [ev] at h
  simp only [evs, R.bind] at h
  refine wpAny_Call_Name_kw (ld_glob I hg hm ?_ hdb)
  exact PySem.W.callWith_K0 I.kIn hk (run_fnQ (us := []) (O.call f) O.room O.pass I .nil ⟨ρ, S, [], w, RelUs.nil, h⟩)
/-- f(e, .., *y) -/
theorem s_callS (O : Ok X p nm ad d W) {f : Str} {px : Pos} (ha : PA X (e :: es) (tEs X (p.cal d) W tes)) (hg : Gl X f := by rfl) (hf : f ∈ nm.fns := by decide +kernel) (hdb : (f == ("__debug__" : Str)) = false := by decide)
    (he : starEach (e :: es) X.env = (false, eval e X.env) :: starEach es X.env := by rfl) (hst : (backTo pos (starEach es X.env)).any (·.1) = true := by rfl) : PE X (.Call (.Name f px) (e :: es) [] pos) (tE X (p.cal d) W (.call f tes)) := by
  refine ⟨fun pins s σ H Q I ⟨ρ, S, env, w, eo, h⟩ => ?_⟩
  obtain ⟨hm, hk⟩ := O.sta.fn f hf
  rw [ev] at h
  refine wpAny_Call_Name_kw (ld_glob I hg hm ?_ hdb)
  refine PySem.W.callWith_S2 (h₀ := X.base) I.ok.mod.kin hk (thn (ha.run pos pins s σ H _ I ⟨ρ, S, env, w, eo, Post.bind h⟩) fun us s1 ⟨vs, H1, I1, r, ρ1, S1, us', e1, w1, r1, h1⟩ => ⟨I1.kIn, ?_⟩) he hst
  exact run_fnQ (O.call f) O.room O.pass I1 r ⟨ρ1, S1, us', w1, r1, h1⟩
theorem met_split {Φ : Cal} {C m : Str} {ρ : List Addr} {S : Sto} {H : Hp} {x : V} {u : U} {env : Env} {Q : VK} (O : Ok X p nm ad d W) (hC : C ∈ nm.clss) (w : Wok X.K X.mg ρ S H)
    (h : Post X.mg X.K (RelU X.K) W ρ H (match u with
      | .loc n => (match S[n]? with
        | some (.ins D fs) => if D = C ∧ fs.lookup m = none then (evs Φ tes env S).bind fun us S => Φ.call (C ++ "." ++ m) (.loc n :: us) S else .bad
        | _ => .bad)
      | _ => .bad) Q) (r : RelU X.K ρ H u x) : ∃ n a dx vfs, u = .loc n ∧ x = .ref a ∧ ρ[n]? = some a ∧ H a = some (.ins (ad C) dx vfs) ∧ vfs.lookup m = none ∧ Post X.mg X.K (RelU X.K) W ρ H ((evs Φ tes env S).bind fun us S => Φ.call (C ++ "." ++ m) (.loc n :: us) S) Q := by
  split at h
  · rename_i n
    split at h
    · rename_i hn
      split at h
      · rename_i hD
        obtain ⟨rfl, hl⟩ := hD
        obtain ⟨a, dx, vfs, rfl, hn', e, q⟩ := ins_at O hC w r hn
        exact ⟨n, a, dx, vfs, rfl, rfl, hn', e, (q.look (f := m)).2 hl, h⟩
      · cases h
    · cases h
  · cases h
theorem relLoc {K : PySem.W.Frag} {ρ : List Addr} {H : Hp} {n : Nat} {a : Addr} (h : ρ[n]? = some a) : RelU K ρ H (.loc n) (.ref a) := by simp only [RelU]; exact ⟨a, rfl, h⟩
theorem s_meth (O : Ok X p nm ad d W) (C : Str) {m : Str} {apos : Pos} {pl : Sem Bool} (ho : PE X o (tE X (p.cal d) W to)) (ha : PA X (e :: es) (tEs X (p.cal d) W tes)) (hC : C ∈ nm.clss := by decide +kernel) (hm : (C, m) ∈ nm.mets := by decide +kernel)
    (hst : starEach (e :: es) X.env = (false, eval e X.env) :: starEach es X.env := by rfl) (hpl : (backTo pos (starEach es X.env)).any (·.1) = false := by rfl)
    (ht : eval (.Call (.Attribute o m apos) (e :: es) [] pos) X.env = (do
      let ov ← eval o X.env
      standAt apos.atName
      let (f, first) ← holding [ov] (getMethod ov m pl)
      callWith pos f first (backTo pos (starEach (e :: es) X.env)) (backToKw pos (keywordEach [] X.env))) := by rfl) :
    PE X (.Call (.Attribute o m apos) (e :: es) [] pos) (tE X (p.cal d) W (.meth to C m tes)) := by
  refine ⟨fun pins s σ H Q I ⟨ρ, S, env, w, eo, h⟩ => ?_⟩
  rw [ev] at h
  refine PySem.W.methodCall_KW (pl := pl) (thn (ho.run pins s σ H _ I ⟨ρ, S, env, w, eo, Post.bind h⟩) fun u s1 ⟨x, H1, I1, rx, ρ1, S1, u', e1, w1, r1, h1⟩ => ?_) ht
  obtain ⟨n, a, dx, vfs, rfl, rfl, hn, ea, l, h1⟩ := met_split O hC w1 h1 r1
  obtain rfl : u = Value.ref a := rx
  refine getmeth_ok I1 ea (O.sta.cls C hC).2.1 (O.sta.met C m hm).mt l ?_
  refine PySem.W.callWith_K (first := [.ref a]) (h₀ := X.base) I1.ok.mod.kin (O.sta.met C m hm).mt.kp (thn (ha.run pos pins s1 σ H1 _ I1 ⟨ρ1, S1, env, w1, eo.mono e1, Post.bind h1⟩) fun us s2 ⟨vs, H2, I2, r, ρ2, S2, us', e2, w2, r2, h2⟩ => ⟨I2.kIn, ?_⟩) hst hpl
  exact run_fnQ (us := .ref a :: us) (vs := .ref a :: vs) (O.call (C ++ "." ++ m)) O.room O.pass I2 (.cons rfl r) ⟨ρ2, S2, .loc n :: us', w2, RelUs.cons (relLoc (e2.at_ hn)) r2, h2⟩
theorem s_meth0 (O : Ok X p nm ad d W) (C : Str) {m : Str} {apos : Pos} {pl : Sem Bool} (ho : PE X o (tE X (p.cal d) W to)) (hC : C ∈ nm.clss := by decide +kernel) (hm : (C, m) ∈ nm.mets := by decide +kernel)
    (ht : eval (.Call (.Attribute o m apos) [] [] pos) X.env = (do
      let ov ← eval o X.env
      standAt apos.atName
      let (f, first) ← holding [ov] (getMethod ov m pl)
      callWith pos f first (backTo pos (starEach [] X.env)) (backToKw pos (keywordEach [] X.env))) := by rfl) :
    PE X (.Call (.Attribute o m apos) [] [] pos) (tE X (p.cal d) W (.meth to C m .nil)) := by
  refine ⟨fun pins s σ H Q I ⟨ρ, S, env, w, eo, h⟩ => ?_⟩
  rw [ev] at h
  refine PySem.W.methodCall_KW (pl := pl) (thn (ho.run pins s σ H _ I ⟨ρ, S, env, w, eo, Post.bind h⟩) fun u s1 ⟨x, H1, I1, rx, ρ1, S1, u', e1, w1, r1, h1⟩ => ?_) ht
  obtain ⟨n, a, dx, vfs, rfl, rfl, hn, e, l, h1⟩ := met_split O hC w1 h1 r1
  obtain rfl : u = Value.ref a := rx
  simp only [evs, R.bind] at h1
  refine getmeth_ok I1 e (O.sta.cls C hC).2.1 (O.sta.met C m hm).mt l ?_
  exact PySem.W.callWith_K0 (first := [.ref a]) I1.kIn (O.sta.met C m hm).mt.kp (run_fnQ (us := [.ref a]) (vs := [.ref a]) (O.call (C ++ "." ++ m)) O.room O.pass I1 (.cons rfl .nil) ⟨ρ1, S1, [.loc n], w1, RelUs.cons (relLoc hn) RelUs.nil, h1⟩)
/-- o.m( *y) -/
theorem s_methS (O : Ok X p nm ad d W) (C : Str) {m : Str} {sp apos : Pos} (ho : PE X o (tE X (p.cal d) W to)) (ha : PE X e (tE X (p.cal d) W te)) (hC : C ∈ nm.clss := by decide +kernel) (hm : (C, m) ∈ nm.mets := by decide +kernel)
    (hbase : attributeBase o m X.env (eval o X.env) = eval o X.env := by rfl) : PE X (.Call (.Attribute o m apos) [.Starred e sp] [] pos) (tE X (p.cal d) W (.meth to C m (.star te .nil))) := by
  refine ⟨fun pins s σ H Q I ⟨ρ, S, env, w, eo, h⟩ => ?_⟩
  rw [ev] at h
  refine starcall_of hbase (thn (ho.run pins s σ H _ I ⟨ρ, S, env, w, eo, Post.bind h⟩) fun uo s1 ⟨x, H1, I1, rx, ρ1, S1, u, e1, w1, r1, h1⟩ => ?_)
  obtain ⟨n, a, dx, vfs, rfl, rfl, hn, ea, l, h1⟩ := met_split O hC w1 h1 r1
  obtain rfl : uo = Value.ref a := rx
  have bm := O.sta.met C m hm
  refine getbound_ok I1 ea (O.sta.cls C hC).2.1 bm l fun q s2 hq I2 => ?_
  have x0 : Ext ρ1 H1 ρ1 (upd H1 q (.met (ad (C ++ "." ++ m)) a)) := Ext.grow (upd_grow hq)
  have w0 := w1.grow (upd_grow (o := .met (ad (C ++ "." ++ m)) a) hq)
  rw [evs] at h1
  refine PySem.W.ks_call (P := PySem.W.MethP X.K q (ad (C ++ "." ++ m)) (.ref a)) rfl (PySem.W.keeps_M bm.fi) (PySem.W.ks_lone ?_)
  have hp : tE X (p.cal d) W te σ (upd H1 q (.met (ad (C ++ "." ++ m)) a)) fun y H2 => ∃ b vs, y = .ref b ∧ (SqT X.K H2 b vs ∨ SqL X.K H2 b vs) ∧ H2 q = some (.met (ad (C ++ "." ++ m)) a) ∧ spC X.K X.mg ((p.cal d).call (C ++ "." ++ m)) (.ref a :: vs) H2 Q W := by
    refine ⟨ρ1, S1, env, w0, (eo.mono e1).mono x0, ?_⟩
    cases hev : ev (p.cal d) te env S1 with
    | ok u2 S2 =>
      rw [hev] at h1
      simp only [R.bind] at h1
      intro ρ2 H2 y e2 w2 r2
      cases hi : items? S2 u2 with
      | some us =>
        rw [hi] at h1
        simp only [evs, List.append_nil] at h1
        obtain ⟨b, vs, rfl, hb, hr⟩ := w2.items hi r2
        refine ⟨b, vs, rfl, hb.symm, e2.imm q _ upd_same trivial, ρ2, S2, .loc n :: us, w2, RelUs.cons (relLoc (e2.at_ hn)) hr, ?_⟩
        exact Post.ext (x0.trans e2) h1
      | none =>
        rw [hi] at h1
        exact h1.elim
    | exc c fs S2 =>
      rw [hev] at h1
      exact Post.ext x0 h1
    | bad =>
      rw [hev] at h1
      exact h1.elim
  refine thn (ha.run pins s2 σ _ _ I2 hp) fun v s3 ⟨y, H2, I3, ry, b, vs, ey, ht, hmq, hsp⟩ => ?_
  subst ey
  obtain rfl : v = Value.ref b := ry
  refine StX.star_any I3 ht fun us s4 I4 rv => ⟨met_P I4 hmq, wpAny_call (PySem.W.method_call (met_P I4 hmq).1 ?_)⟩
  exact codeAny_mono (O.call (C ++ "." ++ m) X.A X.stack s4 _ (.ref a :: us) (.ref a :: vs) Q W O.room I4.env0 (.cons rfl rv) hsp) fun z s' hz => ends_of O.pass I4 z s' hz
theorem s_mk (O : Ok X p nm ad d W) {C : Str} {px : Pos} (ha : PA X (e :: es) (tEs X (p.cal d) W tes)) (hg : Gl X C := by rfl) (hC : C ∈ nm.clss := by decide +kernel) (hdb : (C == ("__debug__" : Str)) = false := by decide)
    (he : starEach (e :: es) X.env = (false, eval e X.env) :: starEach es X.env := by rfl) (hpl : (backTo pos (starEach es X.env)).any (·.1) = false := by rfl) : PE X (.Call (.Name C px) (e :: es) [] pos) (tE X (p.cal d) W (.mk C tes)) := by
  obtain ⟨hm, hc, hM⟩ := O.sta.cls C hC
  refine ⟨fun pins s σ H Q I ⟨ρ, S, env, w, eo, h⟩ => ?_⟩
  rw [ev] at h
  refine wpAny_Call_Name_kw (ld_glob I hg hm ?_ hdb)
  refine PySem.W.callWith_K (h₀ := X.base) I.ok.mod.kin hM.kp (thn (ha.run pos pins s σ H _ I ⟨ρ, S, env, w, eo, Post.bind h⟩) fun us0 s1 ⟨vs, H1, I1, rr, ρ1, S1, us, e1, w1, r1, h1⟩ => ⟨I1.kIn, ?_⟩) he hpl
  refine run_mkQ hM (O.init (C ++ ".__init__")) O.room O.pass I1 rr ?_
  intro x dx hx hdx hne
  have g1 : ∀ a o, H1 a = some o → upd (upd H1 dx (.own x)) x (.ins (ad C) dx []) a = some o := fun a o q => by
    rw [upd_ne (ne_of_none q hx), upd_ne (ne_of_none q hdx)]
    exact q
  have e2 : Ext ρ1 H1 (ρ1 ++ [x]) (upd (upd H1 dx (.own x)) x (.ins (ad C) dx [])) := Ext.push g1
  have w2 := w1.push (c := .ins C []) hx g1 ⟨ad C, dx, [], hm, upd_same, .nil⟩
  have hn := push_at (p := x) w1.len
  refine ⟨ρ1 ++ [x], _, .loc S1.length :: us, w2, RelUs.cons (relLoc hn) (r1.mono e2), ?_⟩
  refine (Post.bind (Post.ext e2 h1)).imp fun v H2 ⟨ρ3, S3, u, e3, w3, r3, h3⟩ => ?_
  split at h3
  · cases r3.non
    exact ⟨rfl, h3.here w3 (relLoc (e3.at_ hn))⟩
  · cases h3
end
end Oz

end

section
set_option maxHeartbeats 4000000
/-! Oz7: tests, built-in calls, what is walked, comprehensions. -/
namespace Oz
open PySem PySem.Spec PyProof.Rows L2
section
variable {X : Cx} {p : Pg} {nm : Names} {ad : Str → Addr} {d : Nat} {W : XK} {Φ : Cal} {a b e c o : Expr} {es rest : List Expr} {ta tb te to : E} {tc td : T} {tes : Es} {pos : Pos}
/-! ### tests -/
theorem truV_rel {K : PySem.W.Frag} {mg : Str → Option Value} {ρ : List Addr} {S : Sto} {H : Hp} {a : U} {v : V} {k : Bool} (w : Wok K mg ρ S H) (r : RelU K ρ H a v) (h : truU a S = some k) : TruV K v H k := by
  unfold truU at h
  split at h
  · cases h; cases r.non; rfl
  · cases h; cases r.bl; rfl
  · cases h; cases r.int; rfl
  · cases r.str
    split at h
    · rename_i hz; cases h; exact ⟨hz, rfl⟩
    · cases h
  · rw [Option.map_eq_some_iff] at h
    obtain ⟨xs, hx, rfl⟩ := h
    obtain ⟨q, vs, rfl, hq, hr⟩ := w.items hx r
    have e : vs.isEmpty = xs.isEmpty := by
      have := hr.length
      cases xs <;> cases vs <;> simp_all
    rcases hq with hq | hq
    · exact .inl ⟨vs, hq, by rw [e]⟩
    · exact .inr (.inl ⟨vs, hq, by rw [e]⟩)
theorem s_tt (ha : PE X a (tE X Φ W ta)) (he : ∀ whole, isTrue a X.env whole = (do let v ← whole; standAt a.pos; holding [v] (truthy v)) := by intro _; rfl) : PT X a (tTs X Φ W (.e ta)) := by
  refine PTw' (pt_truth ha he) fun σ H Q ⟨ρ, S, env, w, eo, h⟩ => ?_
  rw [evt] at h
  refine ⟨ρ, S, env, w, eo, (Post.bind h).imp fun x H1 ⟨ρ1, S1, u, e1, w1, r1, h1⟩ => ?_⟩
  unfold rO at h1
  split at h1
  · rename_i k hk
    exact ⟨k, truV_rel w1 r1 hk, h1.here w1 rfl⟩
  · cases h1
theorem s_tcmp (O : Ok X p nm ad d W) (o : Cm) (ha : PE X a (tE X Φ W ta)) (hb : PE X b (tE X Φ W tb)) (hm : behindInMarks (cmOf o) b = false := by rfl) : PT X (.Compare a [cmOf o] [b] pos) (tTs X Φ W (.e (.cmp o ta tb))) := by
  refine PTw' (pt_cmpR (op_cmp (W := W) O.hu o) ha hb hm) fun σ H Q ⟨ρ, S, env, w, eo, h⟩ => ?_
  rw [evt, ev] at h
  have h0 : Post X.mg X.K Rid W ρ H ((ev Φ ta env S).bind fun x S => (ev Φ tb env S).bind fun y S => (cmpU o x y S).bind fun z S => rO (truU z S) S) Q := by
    cases hx : ev Φ ta env S with
    | ok x S1 =>
      rw [hx] at h
      simp only [R.bind] at h ⊢
      cases hy : ev Φ tb env S1 with
      | ok y S2 => rw [hy] at h; exact h
      | exc c fs S2 => rw [hy] at h; exact h
      | bad => rw [hy] at h; exact h
    | exc c fs S1 => rw [hx] at h; exact h
    | bad => rw [hx] at h; exact h
  refine ⟨ρ, S, env, w, eo, (Post.bind h0).imp fun x H1 ⟨ρ1, S1, u, e1, w1, r1, h1⟩ => ⟨ρ1, S1, env, w1, eo.mono e1, (Post.bind h1).imp fun y H2 ⟨ρ2, S2, u2, e2, w2, r2, h2⟩ => ?_⟩⟩
  refine ⟨ρ2, S2, u, u2, w2, r1.mono e2, r2, ?_⟩
  unfold cmpU at h2 ⊢
  split at h2
  · rename_i k hk
    intro ρ3 H3 v e3 w3 r3
    cases r3.bl
    exact ⟨k, rfl, h2 ρ3 H3 k e3 w3 rfl⟩
  · cases h2
theorem s_tnot (ha : PT X a (tTs X Φ W tc)) : PT X (.UnaryOp .Not a pos) (tTs X Φ W (.not tc)) := by
  refine PTw' (pt_not ha) fun σ H Q ⟨ρ, S, env, w, eo, h⟩ => ?_
  rw [evt] at h
  refine ⟨ρ, S, env, w, eo, (Post.bind (Rr := Rid) h).imp fun x H1 ⟨ρ1, S1, u, e1, w1, r1, h1⟩ => ?_⟩
  cases r1
  exact h1.here w1 rfl
theorem w_and1 (ha : PT X a (tTs X Φ W tc)) : PW X (.BoolOp .And [a] pos) (tTs X Φ W tc) := pw_and1 ha
theorem w_or1 (ha : PT X a (tTs X Φ W tc)) : PW X (.BoolOp .Or [a] pos) (tTs X Φ W tc) := pw_or1 ha
theorem w_and (ha : PT X a (tTs X Φ W tc)) (hb : PW X (.BoolOp .And (b :: rest) pos) (tTs X Φ W td)) : PW X (.BoolOp .And (a :: b :: rest) pos) (tTs X Φ W (.and tc td)) := by
  refine PWw (pw_and ha hb) fun σ H Q ⟨ρ, S, env, w, eo, h⟩ => ?_
  rw [evt] at h
  refine ⟨ρ, S, env, w, eo, (Post.bind (Rr := Rid) h).imp fun x H1 ⟨ρ1, S1, u, e1, w1, r1, h1⟩ => ?_⟩
  cases r1
  cases x with
  | true => exact iteT ⟨ρ1, S1, env, w1, eo.mono e1, h1⟩
  | false => exact iteF (h1.here w1 rfl)
theorem w_or (ha : PT X a (tTs X Φ W tc)) (hb : PW X (.BoolOp .Or (b :: rest) pos) (tTs X Φ W td)) : PW X (.BoolOp .Or (a :: b :: rest) pos) (tTs X Φ W (.or tc td)) := by
  refine PWw (pw_or ha hb) fun σ H Q ⟨ρ, S, env, w, eo, h⟩ => ?_
  rw [evt] at h
  refine ⟨ρ, S, env, w, eo, (Post.bind (Rr := Rid) h).imp fun x H1 ⟨ρ1, S1, u, e1, w1, r1, h1⟩ => ?_⟩
  cases r1
  cases x with
  | true => exact iteT (h1.here w1 rfl)
  | false => exact iteF ⟨ρ1, S1, env, w1, eo.mono e1, h1⟩
/-! ### built-in functions, methods -/
theorem bf_read {bf : Bf} {σ : L2.St} {H : Hp} {Q : VK} (h : tE X Φ W (.bf bf tes) σ H Q) : tEs X Φ W tes σ H fun vs H1 => bfR X W bf vs H1 Q := by
  obtain ⟨ρ, S, env, w, eo, h⟩ := h
  rw [ev] at h
  exact ⟨ρ, S, env, w, eo, (Post.bind h).imp fun x H1 ⟨ρ1, S1, u, e1, w1, r1, h1⟩ => ⟨ρ1, S1, u, w1, r1, h1⟩⟩
theorem s_bfB (O : Ok X p nm ad d W) (bf : Bf) {x : Str} {id : String} {px : Pos} (hc : CallR X (.builtin id) (bfR X W bf)) (hv : bootBuiltins x = some (.builtin id)) (ha : PA X (e :: es) (tEs X Φ W tes)) (hg : Gl X x := by rfl) (hm : x ∈ nm.bins := by decide +kernel) (hn : x ≠ "__name__" := by decide) (hdb : (x == ("__debug__" : Str)) = false := by decide)
    (he : starEach (e :: es) X.env = (false, eval e X.env) :: starEach es X.env := by rfl) (hpl : (backTo pos (starEach es X.env)).any (·.1) = false := by rfl) : PE X (.Call (.Name x px) (e :: es) [] pos) (tE X Φ W (.bf bf tes)) :=
  PEw (pe_callB hc hg (O.sta.bin x hm) hv ha hn hdb he hpl) fun σ H Q h => bf_read h
theorem s_bfT (O : Ok X p nm ad d W) (bf : Bf) {x : Str} {id : String} {px : Pos} (hc : CallR X (.type id) (bfR X W bf)) (hv : bootBuiltins x = some (.type id)) (ha : PA X (e :: es) (tEs X Φ W tes)) (hg : Gl X x := by rfl) (hm : x ∈ nm.bins := by decide +kernel) (hn : x ≠ "__name__" := by decide) (hdb : (x == ("__debug__" : Str)) = false := by decide)
    (he : starEach (e :: es) X.env = (false, eval e X.env) :: starEach es X.env := by rfl) (hpl : (backTo pos (starEach es X.env)).any (·.1) = false := by rfl) : PE X (.Call (.Name x px) (e :: es) [] pos) (tE X Φ W (.bf bf tes)) :=
  PEw (pe_callTy hc hg (O.sta.bin x hm) hv ha hn hdb he hpl) fun σ H Q h => bf_read h
theorem s_bm (bm : Bm) {Ty : String} {name : Str} {id : String} {apos : Pos} (hTy : Ty = tyOfB bm) (pa : PlainAttrs Ty) (slot : Slot Ty name id) (hty : typeOf (.builtin id) = pure (.type "method_descriptor")) (hm : MtR X id (bmR X W bm)) (ho : PE X o (tE X Φ W to)) (ha : PA X (e :: es) (tEs X Φ W tes))
    (hbase : attributeBase o name X.env (eval o X.env) = eval o X.env := by rfl)
    (hfew : ((backTo pos (starEach (e :: es) X.env)).all (fun x => !x.1) && (backToKw pos (keywordEach [] X.env)).all (fun x => x.1.isSome) && decide ((e :: es).length + ([] : List Keyword).length + (if ([] : List Keyword).isEmpty then 0 else 1) < 30)) = true := by rfl)
    (hline : (apos.endLine == pos.line) = true := by rfl) (hs : starEach (e :: es) X.env = (false, eval e X.env) :: starEach es X.env := by rfl) (hplain : (backTo pos (starEach es X.env)).any (·.1) = false := by rfl) : PE X (.Call (.Attribute o name apos) (e :: es) [] pos) (tE X Φ W (.bm bm to tes)) := by
  refine PEw (pe_bm pa slot hty hm ho ha hbase hfew hline hs hplain) fun σ H Q ⟨ρ, S, env, w, eo, h⟩ => ?_
  rw [ev] at h
  refine ⟨ρ, S, env, w, eo, (Post.bind h).imp fun x H1 ⟨ρ1, S1, u, e1, w1, r1, h1⟩ => ?_⟩
  split at h1
  · rename_i hb
    exact ⟨by rw [hTy]; exact tyB_rel w1 r1 hb, ρ1, S1, env, w1, eo.mono e1, (Post.bind h1).imp fun xs H2 ⟨ρ2, S2, us, e2, w2, r2, h2⟩ => ⟨ρ2, S2, u, us, w2, r1.mono e2, r2, h2⟩⟩
  · cases h1
theorem s_bm0 (bm : Bm) {Ty : String} {name : Str} {id : String} {apos : Pos} (hTy : Ty = tyOfB bm) (pa : PlainAttrs Ty) (slot : Slot Ty name id) (hty : typeOf (.builtin id) = pure (.type "method_descriptor")) (hm : MtR X id (bmR X W bm)) (ho : PE X o (tE X Φ W to))
    (hbase : attributeBase o name X.env (eval o X.env) = eval o X.env := by rfl) (hline : (apos.endLine == pos.line) = true := by rfl) : PE X (.Call (.Attribute o name apos) [] [] pos) (tE X Φ W (.bm bm to .nil)) := by
  refine PEw (pe_bm0 pa slot hty hm ho hbase hline) fun σ H Q ⟨ρ, S, env, w, eo, h⟩ => ?_
  rw [ev] at h
  refine ⟨ρ, S, env, w, eo, (Post.bind h).imp fun x H1 ⟨ρ1, S1, u, e1, w1, r1, h1⟩ => ?_⟩
  split at h1
  · rename_i hb
    simp only [evs, R.bind] at h1
    exact ⟨by rw [hTy]; exact tyB_rel w1 r1 hb, ρ1, S1, u, [], w1, r1, RelUs.nil, h1⟩
  · cases h1
/-! ### isinstance of built-in types -/
theorem tyU_rel {K : PySem.W.Frag} {mg : Str → Option Value} {ρ : List Addr} {S : Sto} {H : Hp} {a : U} {v : V} {t : String} (w : Wok K mg ρ S H) (r : RelU K ρ H a v) (h : tyU S a = some t) : TyX K H v (.type t) := by
  unfold tyU at h
  split at h
  · cases h; cases r.non; exact .base .non
  · cases h; cases r.bl; exact .base (.bl _)
  · cases h; cases r.int; exact .base (.int _)
  · cases h; cases r.str; exact .base (.str _)
  · cases h
    obtain ⟨q, vs, rfl, hq, _⟩ := r.tup
    rcases hq with (hq | ⟨o, hq⟩) | ⟨o, _, _, hk, hc, _⟩
    · exact .base (.tup hq)
    · exact .fTuple hq
    · exact .kTuple hk hc
  · obtain ⟨q, rfl, hn⟩ := r.loc
    split at h
    · rename_i hx
      cases h
      obtain ⟨vs, e, _⟩ := w.at_ hx hn
      exact .base (.lst e)
    · rename_i hx
      cases h
      obtain ⟨vs, e, _⟩ := w.at_ hx hn
      rcases e with ⟨o, e⟩ | ⟨o, its, n, hk, hc, _⟩
      · exact .base (.frz e)
      · exact .kList hk hc
    · rename_i hx
      cases h
      obtain ⟨vs, e, _⟩ := w.at_ hx hn
      exact .base (.dK e)
    · cases h
theorem s_isi (O : Ok X p nm ad d W) {t : String} {x : Str} {p1 p2 : Pos} (ha : PE X a (tE X Φ W ta)) (hvx : bootBuiltins x = some (.type t)) (hg : Gl X "isinstance" := by rfl) (hm : ("isinstance" : Str) ∈ nm.bins := by decide +kernel) (hgx : Gl X x := by rfl) (hmx : x ∈ nm.bins := by decide +kernel) (hnx : x ≠ "__name__" := by decide) (hdx : (x == ("__debug__" : Str)) = false := by decide)
    (he : starEach [a, .Name x p2] X.env = (false, eval a X.env) :: starEach [.Name x p2] X.env := by rfl) (he2 : starEach [Expr.Name x p2] X.env = (false, eval (.Name x p2) X.env) :: starEach [] X.env := by rfl) (hpl : (backTo pos (starEach [.Name x p2] X.env)).any (·.1) = false := by rfl) :
    PE X (.Call (.Name "isinstance" p1) [a, .Name x p2] [] pos) (tE X Φ W (.isi ta t)) := by
  refine PEw (pe_callB call_isi hg (O.sta.bin _ hm) boot_isinstance (pa_cons ha (pa_cons (pe_bltn hgx (O.sta.bin _ hmx) hvx (v := .ty t) rfl hnx hdx) pa_nil he2) he) (by decide) (by decide) he hpl) fun σ H Q ⟨ρ, S, env, w, eo, h⟩ => ?_
  rw [ev] at h
  refine ⟨ρ, S, env, w, eo, (Post.bind h).imp fun v H1 ⟨ρ1, S1, u, e1, w1, r1, h1⟩ => ?_⟩
  split at h1
  · rename_i t' ht
    split at h1
    · rename_i k hk
      exact ⟨v, .ty t, .type t', .type t, k, rfl, .ty t, tyU_rel w1 r1 ht, kit_ty hk, h1.here w1 relBl⟩
    · cases h1
  · cases h1
/-! ### what is walked -/
/-- J goes over all -/
def Goes (K : PySem.W.Frag) (mg : Str → Option Value) (J : It) (all : List U) (src : Option Nat) (ρ0 : List Addr) (H0 : Hp) : Prop :=
  ∀ ρ S H (i : Nat), Ext ρ0 H0 ρ H → Wok K mg ρ S H → stays S all src = true → (i < all.length → J.go i H ∧ ∀ x H', J.yld i H x H' → H' = H ∧ ∃ u, all[i]? = some u ∧ RelU K ρ H u x) ∧ (all.length ≤ i → J.stop i H)
def tI (X : Cx) (Φ : Cal) (W : XK) (te : E) : TI := fun σ H R => tE X Φ W te σ H fun x H1 => ∃ ρ1 S1 u all src, Wok X.K X.mg ρ1 S1 H1 ∧ RelU X.K ρ1 H1 u x ∧ iterU S1 u = some (all, src) ∧ ∀ J, Goes X.K X.mg J all src ρ1 H1 → R J H1
theorem goes_tup {K : PySem.W.Frag} {mg : Str → Option Value} {a : Addr} {vs : List V} {all : List U} {ρ0 : List Addr} {H0 : Hp} (h : SqT K H0 a vs) (r : RelUs K ρ0 H0 all vs) : Goes K mg (Itt K a) all none ρ0 H0 ∧ True := by
  refine ⟨fun ρ S H i e w _ => ⟨fun hi => ?_, fun hi => ⟨vs, e.sqt K h, by rw [r.length]; exact hi⟩⟩, trivial⟩
  obtain ⟨v, hv, rv⟩ := (r.mono e).get (List.getElem?_eq_getElem hi)
  exact ⟨⟨vs, v, e.sqt K h, hv⟩, fun x H' y => ⟨y.1, all[i], List.getElem?_eq_getElem hi, by
    have := y.2 vs (e.sqt K h)
    rw [hv] at this
    cases this
    exact rv⟩⟩
theorem goes_lst {K : PySem.W.Frag} {mg : Str → Option Value} {a : Addr} {n : Nat} {all : List U} {ρ0 : List Addr} {H0 : Hp} (hn : ρ0[n]? = some a) : Goes K mg (Itl K a) all (some n) ρ0 H0 := by
  intro ρ S H i e w st
  have hn' := e.at_ hn
  have hl : ∃ vs, SqL K H a vs ∧ RelUs K ρ H all vs := by
    rcases isLst_iff (show isLst S n all = true from st) with h | h
    · obtain ⟨vs, q, r⟩ := w.at_ h hn'
      exact ⟨vs, .of q, r⟩
    · obtain ⟨vs, q, r⟩ := w.at_ h hn'
      exact ⟨vs, q.sql, r⟩
  obtain ⟨vs, q, r⟩ := hl
  refine ⟨fun hi => ?_, fun hi => ⟨vs, q, by rw [r.length]; exact hi⟩⟩
  obtain ⟨v, hv, rv⟩ := r.get (List.getElem?_eq_getElem hi)
  exact ⟨⟨vs, v, q, hv⟩, fun x H' y => ⟨y.1, all[i], List.getElem?_eq_getElem hi, by
    have := y.2 vs q
    rw [hv] at this
    cases this
    exact rv⟩⟩
theorem goes_str {K : PySem.W.Frag} {mg : Str → Option Value} {z : Str} {ρ0 : List Addr} {H0 : Hp} : Goes K mg (Its z) (z.cps.toList.map fun c => U.str ⟨#[c]⟩) none ρ0 H0 := by
  intro ρ S H i e w st
  have hl : (z.cps.toList.map fun c => U.str ⟨#[c]⟩).length = z.cps.size := by simp
  refine ⟨fun hi => ⟨by rw [hl] at hi; exact hi, fun x H' y => ?_⟩, fun hi => by rw [hl] at hi; exact hi⟩
  obtain ⟨y1, c, hc, rfl⟩ := y
  refine ⟨y1, .str ⟨#[c]⟩, ?_, relStr⟩
  rw [List.getElem?_map, Array.getElem?_toList, hc]
  rfl
theorem goes_rng {K : PySem.W.Frag} {mg : Str → Option Value} {a b : Int} {ρ0 : List Addr} {H0 : Hp} : Goes K mg (Itr a (b - a).toNat) (ranged a b) none ρ0 H0 := by
  intro ρ S H i e w st
  have hl : (ranged a b).length = (b - a).toNat := by simp [ranged]
  refine ⟨fun hi => ⟨by rw [hl] at hi; exact hi, fun x H' y => ?_⟩, fun hi => by rw [hl] at hi; exact hi⟩
  obtain ⟨y1, rfl⟩ := y
  rw [hl] at hi
  refine ⟨y1, .int (a + (i : Nat)), ?_, relInt⟩
  unfold ranged
  rw [List.getElem?_map, List.getElem?_range hi]
  rfl
theorem pi_any {tg : Expr} (ha : PE X a (tE X Φ W ta)) : PI X tg a (tI X Φ W ta) := by
  constructor
  intro pins s σ H R I h
  refine thn (ha.run pins s σ H _ I h) fun v s1 ⟨x, H1, I1, r1, q1⟩ => ?_
  obtain ⟨ρ1, S1, u, all, src, w1, ru, hi, hR⟩ := q1
  unfold iterU at hi
  split at hi
  · cases hi
    obtain ⟨q, vs, rfl, hq, hr⟩ := ru.tup
    cases r1
    obtain ⟨its, rv, pt, _⟩ := I1.tuple hq
    refine wpAny_pyIter_tuple (show s1.heap.IsTuple q its.toArray from pt) ?_
    refine ⟨s1.heap.objs.size, [s1.heap.objs.size], _, _, H1, rfl, ?_, turn_tuple q _, ⟨_, Heap.get?_push_size _ rfl, rfl, rfl⟩, ?_, hR _ (goes_tup hq hr).1⟩
    · exact I1.kept (t' := s1.toks) fun b o e => Heap.get?_push_of_some _ e
    · intro b hb
      have eb : b = s1.heap.objs.size := by simpa using hb
      rw [eb]
      exact I1.fpOk (Nat.le_refl _) (I1.hok.fresh (Nat.le_refl _))
  · cases hi
    cases ru.str
    obtain ⟨t, rfl⟩ := r1
    have hg := hR _ (goes_str (K := X.K) (mg := X.mg))
    cases hz : (Array.all _ fun (x : Nat) => decide (x < 128))
    · exact wpAny_pyIter_wide hz (pi_one (tk := s1.toks) I1 _ (turn_str _ _ t "str_iterator" (.inr rfl)) ⟨_, Heap.get?_push_size _ rfl, rfl, rfl⟩ hg)
    · exact wpAny_pyIter_ascii hz (pi_one (tk := s1.toks) I1 _ (turn_str _ _ t "str_ascii_iterator" (.inl rfl)) ⟨_, Heap.get?_push_size _ rfl, rfl, rfl⟩ hg)
  · rename_i n
    obtain ⟨q, rfl, hn⟩ := ru.loc
    have hl : ∃ vs, SqL X.K H1 q vs ∧ src = some n := by
      split at hi
      · rename_i hx
        cases hi
        obtain ⟨vs, e, r⟩ := w1.at_ hx hn
        exact ⟨vs, .of e, rfl⟩
      · rename_i hx
        cases hi
        obtain ⟨vs, e, r⟩ := w1.at_ hx hn
        exact ⟨vs, e.sql, rfl⟩
      · cases hi
    obtain ⟨vs, hq, rfl⟩ := hl
    cases r1
    obtain ⟨its, rv, pl, _⟩ := I1.list hq
    refine wpAny_pyIter_list pl.isList ?_
    refine ⟨s1.heap.objs.size, [s1.heap.objs.size], _, _, H1, rfl, ?_, turn_list q _, ⟨_, Heap.get?_push_size _ rfl, rfl, rfl⟩, ?_, hR _ (goes_lst hn)⟩
    · exact I1.kept (t' := s1.toks) fun b o e => Heap.get?_push_of_some _ e
    · intro b hb
      have eb : b = s1.heap.objs.size := by simpa using hb
      rw [eb]
      exact I1.fpOk (Nat.le_refl _) (I1.hok.fresh (Nat.le_refl _))
  · cases hi
/-! ### targets -/
def gsOf : List Nat → TGs
  | [] => gNil
  | i :: is => gCons (gName i) (gsOf is)
def gOf (K : PySem.W.Frag) (tp : Bool) (is : List Nat) : TG := if tp then gTup K is.length (gsOf is) else match is with | [i] => gName i | _ => fun _ _ _ _ => False
theorem wipe_set {σ : L2.St} {i : Nat} {x : Option V} : ∀ {is : List Nat}, i ∈ is → wipe (σ.set i x) is = wipe σ is
  | j :: is, h => by
    unfold wipe
    by_cases hj : i = j
    · subst hj
      by_cases hm : i ∈ is
      · rw [wipe_set hm]
      · have sw : ∀ (js : List Nat), i ∉ js → wipe (σ.set i x) js = (wipe σ js).set i x := by
          intro js
          induction js with
          | nil => intro _; rfl
          | cons k ks ih =>
            intro hk
            simp only [List.mem_cons, not_or] at hk
            unfold wipe
            rw [ih hk.2, List.set_comm _ _ hk.1]
        rw [sw is hm, List.set_set]
    · rcases List.mem_cons.mp h with z | z
      · exact absurd z hj
      · rw [wipe_set z]
theorem gs_ok {K : PySem.W.Frag} {ρ : List Addr} {H : Hp} : ∀ {is : List Nat} {us : List U} {vs : List V} {env : Env} {σ : L2.St} {Q : L2.St → Hp → Prop} (js : List Nat), (∀ i ∈ is, i ∈ js) → us.length = is.length → EnvOk K ρ H env σ → RelUs K ρ H us vs →
    (∀ σ', EnvOk K ρ H (setAll is us env) σ' → wipe σ' js = wipe σ js → Q σ' H) → gsOf is vs σ H Q
  | [], us, vs, env, σ, Q, js, _, hl, eo, r, q => by
    cases us with
    | nil =>
      simp only [RelUs] at r
      subst r
      exact ⟨rfl, q σ eo rfl⟩
    | cons _ _ => simp at hl
  | i :: is, us, vs, env, σ, Q, js, hj, hl, eo, r, q => by
    cases us with
    | nil => simp at hl
    | cons u us =>
      simp only [RelUs] at r
      obtain ⟨v, vs', rfl, r1, r2⟩ := r
      refine ⟨v, vs', rfl, ?_⟩
      show gsOf is vs' (σ.set i (some v)) H Q
      refine gs_ok js (fun k hk => hj k (List.mem_cons_of_mem _ hk)) (by simpa using hl) (eo.set i r1) r2 fun σ' e1 e2 => q σ' e1 ?_
      rw [e2]
      exact wipe_set (hj i List.mem_cons_self)
theorem g_ok {K : PySem.W.Frag} {ρ : List Addr} {H : Hp} {tp : Bool} {is : List Nat} {u : U} {v : V} {env env' : Env} {σ : L2.St} {Q : L2.St → Hp → Prop} (h : setN tp is u env = some env') (eo : EnvOk K ρ H env σ) (r : RelU K ρ H u v)
    (q : ∀ σ', EnvOk K ρ H env' σ' → wipe σ' is = wipe σ is → Q σ' H) : gOf K tp is v σ H Q := by
  unfold setN at h
  unfold gOf
  cases tp with
  | true =>
    simp only [if_true] at h ⊢
    split at h
    · split at h
      · rename_i us hl
        cases h
        obtain ⟨a, vs, rfl, hq, hr⟩ := r.tup
        exact ⟨a, vs, rfl, hq, by rw [hr.length]; exact hl, gs_ok is (fun _ z => z) hl eo hr q⟩
      · cases h
    · cases h
  | false =>
    simp only [Bool.false_eq_true, if_false] at h ⊢
    split at h
    · rename_i i
      cases h
      exact q _ (eo.set i r) (wipe_set (by simp))
    · cases h
theorem g_name (i : Nat) {x : Str} (hN : X.N.Nodup) (hi : X.N[i]? = some x := by rfl) (hx : Loc X.env.scope x := by exact Or.inl rfl) (hf : X.fn x = true ∨ X.env.scope.names.lookup x = some .local := by first | exact .inl rfl | exact .inr rfl) : PG X (.Name x pos) (gOf X.K false [i]) := pg_name hN hi hx hf
theorem gs_nil : PGs X [] (gsOf []) := pgs_nil
theorem gs_cons (i : Nat) {is : List Nat} {x : Str} {px : Pos} (hN : X.N.Nodup) (h2 : PGs X es (gsOf is)) (hi : X.N[i]? = some x := by rfl) (hx : Loc X.env.scope x := by exact Or.inl rfl) (hf : X.fn x = true ∨ X.env.scope.names.lookup x = some .local := by first | exact .inl rfl | exact .inr rfl)
    (hs : (assignEach (.Name x px :: es) X.env).map (·.2) = assign (.Name x px) X.env :: (assignEach es X.env).map (·.2) := by rfl) : PGs X (.Name x px :: es) (gsOf (i :: is)) := pgs_cons (pg_name hN hi hx hf) h2 hs
theorem g_tup {is : List Nat} {k : Nat} (hc : X.calm = true) (h : PGs X es (gsOf is)) (hn : (assignEach es X.env).length = is.length := by rfl) (hst : (assignEach es X.env).findIdx? (·.1) = none := by rfl) : PG X (.Tuple es k pos) (gOf X.K true is) := pg_tup hc h hn hst

/-! ### comprehensions -/
abbrev W0 : XK := fun _ _ _ => False
theorem noex_post {α β : Type} {K : PySem.W.Frag} {mg : Str → Option Value} {Rr : List Addr → Hp → α → β → Prop} {ρ : List Addr} {H : Hp} {r : R α} {Q : β → Hp → Prop} (h : Post mg K Rr W ρ H r.noex Q) : Post mg K Rr W0 ρ H r Q := by
  cases r with
  | ok a S => exact h
  | exc c fs S => exact h.elim
  | bad => exact h.elim
theorem Post.bindN {α β γ δ : Type} {K : PySem.W.Frag} {mg : Str → Option Value} {Rr : List Addr → Hp → α → γ → Prop} {Rs : List Addr → Hp → β → δ → Prop} {ρ : List Addr} {H : Hp} {r : R α} {f : α → Sto → R β} {Q : δ → Hp → Prop} (h : Post mg K Rs W ρ H (r.noex.bind f) Q) :
    Post mg K Rr W0 ρ H r fun b H1 => ∃ ρ1 S1 a, Ext ρ H ρ1 H1 ∧ Wok K mg ρ1 S1 H1 ∧ Rr ρ1 H1 a b ∧ Post mg K Rs W ρ1 H1 (f a S1) Q := by
  cases r with
  | ok a S => exact Post.bind (r := .ok a S) h
  | exc c fs S => exact h.elim
  | bad => exact h.elim
theorem bind_assoc {α β γ : Type} (r : R α) (f : α → Sto → R β) (g : β → Sto → R γ) : (r.bind f).bind g = r.bind fun a S => (f a S).bind g := by
  cases r <;> rfl
theorem pushAt_rel {K : PySem.W.Frag} {mg : Str → Option Value} {ρ : List Addr} {S : Sto} {H : Hp} {n : Nat} {D : Addr} {u : U} {y : V} {Q : VK} {k : Sto → R U} (w : Wok K mg ρ S H) (hn : ρ[n]? = some D) (r : RelU K ρ H u y) (h : Post mg K (RelU K) W ρ H ((pushAt n u S).bind fun _ S => k S) Q) :
    ∃ acc, H D = some (.lst acc) ∧ acc.length < sizeLine ∧ ∃ S', Ext ρ H ρ (upd H D (.lst (acc ++ [y]))) ∧ Wok K mg ρ S' (upd H D (.lst (acc ++ [y]))) ∧ Post mg K (RelU K) W ρ (upd H D (.lst (acc ++ [y]))) (k S') Q := by
  unfold pushAt at h
  split at h
  · rename_i us hx
    split at h
    · rename_i hz
      obtain ⟨acc, e, q⟩ := w.at_ hx hn
      have x := Ext.write (ρ := ρ) (o := .lst (acc ++ [y])) (lst_mut e)
      exact ⟨acc, e, by rw [q.length]; exact hz, S.set n (.lst (us ++ [u])), x, w.write hn hx rfl rfl (lst_mut e) ⟨_, upd_same, (q.append (.cons r .nil)).mono x⟩, Post.ext x h⟩
    · cases h
  · cases h
/-- the turns -/
theorem lc_turns {tp : Bool} {is : List Nat} {J : It} {all : List U} {src : Option Nat} {ρ1 : List Addr} {S1 : Sto} {H1 : Hp} {σ : L2.St} {env : Env} {Q : VK} {D : Addr} {tx : T} (w1 : Wok X.K X.mg ρ1 S1 H1) (eo : EnvOk X.K ρ1 H1 env σ) (hg : Goes X.K X.mg J all src ρ1 H1) (hD : H1 D = none)
    (h : Post X.mg X.K (RelU X.K) W ρ1 H1 ((lcI tp is (wipeE env is) (fun env S => (evt Φ tx env S).noex) (fun env S => (ev Φ te env S).noex) S1.length all src all (S1 ++ [.lst []])).bind fun _ S' => .ok (.loc S1.length) S') Q) :
    ∃ W' : Nat → Nat → Hp → Prop, (∃ m, W' 0 m (upd H1 D (.lst []))) ∧ ∀ i m H, W' i m H → (J.stop i H ∧ Q (.ref D) H) ∨ (J.go i H ∧ ∃ Nx : Hp → Prop, (∀ H', Nx H' → ∃ m', m' < m ∧ W' (i + 1) m' H') ∧ ∀ x H', J.yld i H x H' → gOf X.K tp is x (wipe σ is) H' fun σ2 H2 => wipe σ2 is = wipe σ is ∧ tTs X Φ W0 tx σ2 H2 fun b H3 =>
      if b = true then tE X Φ W0 te σ2 H3 fun y H4 => ∃ acc, H4 D = some (.lst acc) ∧ acc.length < sizeLine ∧ Nx (upd H4 D (.lst (acc ++ [y]))) else Nx H3) := by
  have e0 : Ext ρ1 H1 (ρ1 ++ [D]) (upd H1 D (.lst [])) := Ext.push (upd_grow hD)
  have w0 := w1.push (c := .lst []) hD (upd_grow hD) ⟨[], upd_same, RelUs.nil⟩
  have hn := push_at (p := D) w1.len
  let Inv' : Nat → Hp → Prop := fun i H => i ≤ all.length ∧ ∃ ρ S, Ext (ρ1 ++ [D]) (upd H1 D (.lst [])) ρ H ∧ Wok X.K X.mg ρ S H ∧ ρ[S1.length]? = some D ∧
    Post X.mg X.K (RelU X.K) W ρ H ((lcI tp is (wipeE env is) (fun env S => (evt Φ tx env S).noex) (fun env S => (ev Φ te env S).noex) S1.length all src (all.drop i) S).bind fun _ S' => .ok (.loc S1.length) S') Q
  refine ⟨fun i m H => m = all.length - i ∧ Inv' i H, ⟨_, rfl, Nat.zero_le _, _, _, Ext.refl, w0, hn, Post.ext e0 (by simpa using h)⟩, ?_⟩
  rintro i m H ⟨rfl, hi, ρ, S, ex, w, hnD, hp⟩
  by_cases hlt : i < all.length
  · refine .inr ?_
    rw [List.drop_eq_getElem_cons hlt] at hp
    unfold lcI at hp
    split at hp
    · rename_i hst
      obtain ⟨hgo, hy⟩ := (hg ρ S H i (e0.trans ex) w hst).1 hlt
      refine ⟨hgo, Inv' (i + 1), fun H' q => ⟨all.length - (i + 1), by omega, rfl, q⟩, fun x H' yl => ?_⟩
      obtain ⟨rfl, u, hu, ru⟩ := hy x H' yl
      rw [List.getElem?_eq_getElem hlt] at hu
      cases hu
      split at hp
      · rename_i env' he
        refine g_ok he ((eo.mono (e0.trans ex)).wipe is) ru fun σ2 eo2 hw => ⟨by rw [hw, wipe_wipe], ρ, S, env', w, eo2, ?_⟩
        rw [bind_assoc] at hp
        refine (Post.bindN (Rr := Rid) hp).imp fun b H3 ⟨ρ3, S3, b', e3, w3, r3, h3⟩ => ?_
        cases r3
        cases b with
        | true =>
          refine iteT ⟨ρ3, S3, env', w3, eo2.mono e3, ?_⟩
          simp only [if_true] at h3
          rw [bind_assoc] at h3
          refine (Post.bindN h3).imp fun y H4 ⟨ρ4, S4, v4, e4, w4, r4, h4⟩ => ?_
          rw [bind_assoc] at h4
          obtain ⟨acc, ha, hz, S5, x5, w5, h5⟩ := pushAt_rel w4 (e4.at_ (e3.at_ hnD)) r4 h4
          exact ⟨acc, ha, hz, hlt, ρ4, S5, ((ex.trans e3).trans e4).trans x5, w5, e4.at_ (e3.at_ hnD), h5⟩
        | false =>
          refine iteF ⟨hlt, ρ3, S3, ex.trans e3, w3, e3.at_ hnD, ?_⟩
          simpa using h3
      · exact hp.elim
    · exact hp.elim
  · refine .inl ?_
    have e : i = all.length := by omega
    subst e
    rw [List.drop_length] at hp
    unfold lcI at hp
    split at hp
    · rename_i hst
      refine ⟨(hg ρ S H _ (e0.trans ex) w hst).2 (Nat.le_refl _), ?_⟩
      exact hp.here w (relLoc hnD)
    · exact hp.elim
where
  wipe_wipe {σ : L2.St} : ∀ {is : List Nat}, wipe (wipe σ is) is = wipe σ is := by
    intro is
    have : ∀ (js ks : List Nat) (τ : L2.St), (∀ j ∈ js, j ∈ ks) → wipe (wipe τ js) ks = wipe τ ks := by
      intro js
      induction js with
      | nil => intro ks τ _; rfl
      | cons j js ih =>
        intro ks τ hs
        show wipe ((wipe τ js).set j none) ks = _
        rw [wipe_set (hs j List.mem_cons_self)]
        exact ih ks τ fun k hk => hs k (List.mem_cons_of_mem _ hk)
    exact this is is σ fun _ z => z
end
end Oz

end

section
set_option maxHeartbeats 4000000
/-! Oz8: comprehensions and statements. -/
namespace Oz
open PySem PySem.Spec PyProof.Rows L2
section
variable {X : Cx} {p : Pg} {nm : Names} {ad : Str → Addr} {d : Nat} {W : XK} {Φ : Cal} {a b e c o : Expr} {es rest : List Expr} {ta tb te to : E} {tc td : T} {tes : Es} {pos : Pos}
theorem lc_read {tp : Bool} {is : List Nat} {it : E} {tx : T} {σ : L2.St} {H : Hp} {Q : VK} (h : tE X Φ W (.lc is tp te it tx) σ H Q) : tLc (tI X Φ W it) (gOf X.K tp is) (tTs X Φ W0 tx) (tE X Φ W0 te) is σ H Q := by
  obtain ⟨ρ, S, env, w, eo, h⟩ := h
  rw [ev] at h
  refine ⟨ρ, S, env, w, eo, (Post.bind h).imp fun x H1 ⟨ρ1, S1, u, e1, w1, r1, h1⟩ => ?_⟩
  split at h1
  · rename_i all src hi
    exact ⟨ρ1, S1, u, all, src, w1, r1, hi, fun J hg D hD => lc_turns w1 (eo.mono e1) hg hD h1⟩
  · exact h1.elim
theorem t_tt : PTs X [] (tTs X Φ W .tt) := ⟨fun pins s σ H Q I ⟨ρ, S, env, w, eo, h⟩ => (pts_nil (X := X)).run pins s σ H Q I (by rw [evt] at h; exact h.here w rfl)⟩
theorem s_lc (O : Ok X p nm ad d W) (tp : Bool) (own : List (Str × Nat)) {elt tg iter : Expr} {ifs : List Expr} {scope : Scope} {it : E} {tx : T} (hN : X.N.Nodup) (hi : PE X iter (tE X Φ W it)) (ok : BlkOk X.N X.env.scope scope own)
    (hg : ∀ (s : Shared) (H : Hp) (C : Addr) (cl : List (Str × Addr)) (fp : List Addr), PG (X.blk s H scope (compEnvC scope cl C X.env) fp) tg (gOf X.K tp (own.map (·.2))))
    (ht : ∀ (s : Shared) (H : Hp) (C : Addr) (cl : List (Str × Addr)) (fp : List Addr), PTs (X.blk s H scope (compEnvC scope cl C X.env) fp) ifs (tTs X Φ W0 tx))
    (he : ∀ (s : Shared) (H : Hp) (C : Addr) (cl : List (Str × Addr)) (fp : List Addr), PE (X.blk s H scope (compEnvC scope cl C X.env) fp) elt (tE X Φ W0 te)) (hs : ∀ x, foldedSetIterable iter X.env x = pure x := by intro _; rfl) :
    PE X (.ListComp elt [⟨tg, iter, ifs, 0⟩] scope pos) (tE X Φ W (.lc (own.map (·.2)) tp te it tx)) :=
  PEw (pe_lc O.calm hN (pi_any hi) ok hg ht he hs) fun σ H Q h => lc_read h
theorem Ok.blk {scope : Scope} {cenv : PySem.Env} {fp : List Addr} {s : Shared} {H : Hp} (O : Ok X p nm ad d W) : Ok (X.blk s H scope cenv fp) p nm ad d W0 := ⟨O.sta, O.xc, takes0, PassesOwn.never, O.calm, O.room, passL, O.call, O.init⟩
/-! ### range in a comprehension, in a for -/
def RngOf (te1 : Option E) (te2 : E) : E × E := (te1.getD (.k (.int 0)), te2)
def tR (X : Cx) (Φ : Cal) (W : XK) (ta tb : E) : TI := fun σ H R => tE X Φ W ta σ H fun x H1 => tE X Φ W tb σ H1 fun y H2 => ∃ ρ S m n, Wok X.K X.mg ρ S H2 ∧ x = .int m ∧ y = .int n ∧ (-(2 ^ 62) ≤ m ∧ m < 2 ^ 62 ∧ -(2 ^ 62) ≤ n ∧ n < 2 ^ 62) ∧ R (Itr m (n - m).toNat) H2
theorem PIw {tg : Expr} {t t' : TI} (h : PI X tg e t) (i : ∀ σ H Q, t' σ H Q → t σ H Q) : PI X tg e t' := ⟨fun pins s σ H Q I q => h.run pins s σ H Q I (i _ _ _ q)⟩
theorem pi_r2 (O : Ok X p nm ad d W) {tg : Expr} {px : Pos} (ha : PE X a (tE X Φ W ta)) (hb : PE X b (tE X Φ W tb)) (hg : Gl X "range" := by rfl) (hm : ("range" : Str) ∈ nm.bins := by decide +kernel)
    (hs : starEach [a, b] X.env = [(false, eval a X.env), (false, eval b X.env)] := by rfl) (hs2 : starEach [b] X.env = [(false, eval b X.env)] := by rfl) : PI X tg (.Call (.Name "range" px) [a, b] [] pos) (tR X Φ W ta tb) := by
  refine PIw (pi_range2 hg (O.sta.bin _ hm) (pa_cons ha (pa_cons hb pa_nil (by rw [hs2]; rfl)) (by rw [hs, hs2])) hs hs2) fun σ H R h => ?_
  obtain ⟨ρ, S, env, w, eo, h⟩ := h
  refine ⟨ρ, S, env, w, eo, h.imp fun x H1 h1 => ?_⟩
  obtain ⟨ρ1, S1, env1, w1, eo1, h1⟩ := h1
  refine ⟨ρ1, S1, env1, w1, eo1, h1.imp fun y H2 h2 => ?_⟩
  obtain ⟨ρ2, S2, m, n, w2, rfl, rfl, hb, hr⟩ := h2
  exact ⟨m, n, rfl, hb, hr⟩
theorem pi_r1 (O : Ok X p nm ad d W) {tg : Expr} {px : Pos} (hb : PE X b (tE X Φ W tb)) (hg : Gl X "range" := by rfl) (hm : ("range" : Str) ∈ nm.bins := by decide +kernel)
    (hs : starEach [b] X.env = [(false, eval b X.env)] := by rfl) : PI X tg (.Call (.Name "range" px) [b] [] pos) (tR X Φ W (.k (.int 0)) tb) := by
  refine PIw (pi_range1 hg (O.sta.bin _ hm) (pa_cons hb pa_nil (by rw [hs]; rfl)) hs) fun σ H R h => ?_
  obtain ⟨ρ, S, env, w, eo, h⟩ := h
  rw [ev] at h
  have h1 := h.here w relInt
  obtain ⟨ρ1, S1, env1, w1, eo1, h1⟩ := h1
  refine ⟨ρ1, S1, env1, w1, eo1, h1.imp fun y H2 h2 => ?_⟩
  obtain ⟨ρ2, S2, m, n, w2, e1, rfl, hb, hr⟩ := h2
  cases e1
  refine ⟨n, rfl, hb.2.2.1, hb.2.2.2, ?_⟩
  simpa using hr
theorem rng_read {σ : L2.St} {H : Hp} {ρ : List Addr} {S : Sto} {env : Env} {α β : Type} {Rr : List Addr → Hp → α → β → Prop} {Q : β → Hp → Prop} {f : U → U → Sto → R α} {R : It → Hp → Prop} (w : Wok X.K X.mg ρ S H) (eo : EnvOk X.K ρ H env σ)
    (h : Post X.mg X.K Rr W ρ H ((ev Φ ta env S).bind fun x S => (ev Φ tb env S).bind fun y S => f x y S) Q)
    (k : ∀ ρ2 S2 H2 x y, Wok X.K X.mg ρ2 S2 H2 → EnvOk X.K ρ2 H2 env σ → Post X.mg X.K Rr W ρ2 H2 (f x y S2) Q → ∃ m n, x = .int m ∧ y = .int n ∧ (-(2 ^ 62) ≤ m ∧ m < 2 ^ 62 ∧ -(2 ^ 62) ≤ n ∧ n < 2 ^ 62) ∧ R (Itr m (n - m).toNat) H2) : tR X Φ W ta tb σ H R := by
  refine ⟨ρ, S, env, w, eo, (Post.bind h).imp fun x H1 ⟨ρ1, S1, u, e1, w1, r1, h1⟩ => ⟨ρ1, S1, env, w1, eo.mono e1, (Post.bind h1).imp fun y H2 ⟨ρ2, S2, u2, e2, w2, r2, h2⟩ => ?_⟩⟩
  obtain ⟨m, n, rfl, rfl, hb, hr⟩ := k ρ2 S2 H2 u u2 w2 ((eo.mono e1).mono e2) h2
  cases r1.int
  cases r2.int
  exact ⟨ρ2, S2, m, n, w2, rfl, rfl, hb, hr⟩
theorem lcr_read {is : List Nat} {tx : T} {σ : L2.St} {H : Hp} {Q : VK} (h : tE X Φ W (.lcr is te ta tb tx) σ H Q) : tLc (tR X Φ W ta tb) (gOf X.K false is) (tTs X Φ W0 tx) (tE X Φ W0 te) is σ H Q := by
  obtain ⟨ρ, S, env, w, eo, h⟩ := h
  rw [ev] at h
  refine rng_read w eo h fun ρ2 S2 H2 x y w2 eo2 h2 => ?_
  split at h2
  · split at h2
    · rename_i m n hb
      exact ⟨m, n, rfl, rfl, hb, fun D hD => lc_turns w2 eo2 goes_rng hD h2⟩
    · exact h2.elim
  · exact h2.elim
theorem s_lcr (O : Ok X p nm ad d W) (own : List (Str × Nat)) {elt tg iter : Expr} {ifs : List Expr} {scope : Scope} {tx : T} (hN : X.N.Nodup) (hi : PI X tg iter (tR X Φ W ta tb)) (ok : BlkOk X.N X.env.scope scope own)
    (hg : ∀ (s : Shared) (H : Hp) (C : Addr) (cl : List (Str × Addr)) (fp : List Addr), PG (X.blk s H scope (compEnvC scope cl C X.env) fp) tg (gOf X.K false (own.map (·.2))))
    (ht : ∀ (s : Shared) (H : Hp) (C : Addr) (cl : List (Str × Addr)) (fp : List Addr), PTs (X.blk s H scope (compEnvC scope cl C X.env) fp) ifs (tTs X Φ W0 tx))
    (he : ∀ (s : Shared) (H : Hp) (C : Addr) (cl : List (Str × Addr)) (fp : List Addr), PE (X.blk s H scope (compEnvC scope cl C X.env) fp) elt (tE X Φ W0 te)) (hs : ∀ x, foldedSetIterable iter X.env x = pure x := by intro _; rfl) :
    PE X (.ListComp elt [⟨tg, iter, ifs, 0⟩] scope pos) (tE X Φ W (.lcr (own.map (·.2)) te ta tb tx)) :=
  PEw (pe_lc O.calm hN hi ok hg ht he hs) fun σ H Q h => lcr_read h

/-! ### statements -/
def PostS (mg : Str → Option Value) (K : PySem.W.Frag) (W : XK) (ρ : List Addr) (H : Hp) (o : O) (D : Ends) : Prop :=
  match o with
  | .nx env S => ∀ ρ' H' σ', Ext ρ H ρ' H' → Wok K mg ρ' S H' → EnvOk K ρ' H' env σ' → D.nx σ' H'
  | .ret u S => ∀ ρ' H' v, Ext ρ H ρ' H' → Wok K mg ρ' S H' → RelU K ρ' H' u v → D.rt v H'
  | .bk env S => ∀ ρ' H' σ', Ext ρ H ρ' H' → Wok K mg ρ' S H' → EnvOk K ρ' H' env σ' → D.bk σ' H'
  | .ct env S => ∀ ρ' H' σ', Ext ρ H ρ' H' → Wok K mg ρ' S H' → EnvOk K ρ' H' env σ' → D.ct σ' H'
  | .exc c fs S => ∀ ρ' H' C d vfs, Ext ρ H ρ' H' → Wok K mg ρ' S H' → mg c = some (.ref C) → H' d = some (.xd vfs) → RelF K ρ' H' fs vfs → W (.ref C) (some d) H'
  | .bad => False
def tS (X : Cx) (Φ : Cal) (W : XK) (s : St) : TS := fun D σ H => ∃ ρ S env, Wok X.K X.mg ρ S H ∧ EnvOk X.K ρ H env σ ∧ PostS X.mg X.K W ρ H (ex Φ s env S) D
def tB (X : Cx) (Φ : Cal) (W : XK) (s : Sts) : TS := fun D σ H => ∃ ρ S env, Wok X.K X.mg ρ S H ∧ EnvOk X.K ρ H env σ ∧ PostS X.mg X.K W ρ H (exs Φ s env S) D
theorem PSw {s : Stmt} {t t' : TS} (h : PS X s t) (i : ∀ D σ H, t' D σ H → t D σ H) : PS X s t' := ⟨fun pins s σ H D I q => h.run pins s σ H D I (i _ _ _ q)⟩
theorem PSsw {s : List Stmt} {t t' : TS} (h : PSs X s t) (i : ∀ D σ H, t' D σ H → t D σ H) : PSs X s t' := ⟨fun pins s σ H D I q => h.run pins s σ H D I (i _ _ _ q)⟩
section
variable {K : PySem.W.Frag} {mg : Str → Option Value}
theorem PostS.ext {ρ ρ1 : List Addr} {H H1 : Hp} {r : O} {D : Ends} (e : Ext ρ H ρ1 H1) (h : PostS mg K W ρ H r D) : PostS mg K W ρ1 H1 r D := by
  cases r with
  | nx a S => exact fun ρ' H' b e' w r => h ρ' H' b (e.trans e') w r
  | ret a S => exact fun ρ' H' b e' w r => h ρ' H' b (e.trans e') w r
  | bk a S => exact fun ρ' H' b e' w r => h ρ' H' b (e.trans e') w r
  | ct a S => exact fun ρ' H' b e' w r => h ρ' H' b (e.trans e') w r
  | exc c fs S => exact fun ρ' H' C d vfs e' w m x r => h ρ' H' C d vfs (e.trans e') w m x r
  | bad => exact h
theorem PostS.here {ρ : List Addr} {S : Sto} {H : Hp} {env : Env} {σ : L2.St} {D : Ends} (h : PostS mg K W ρ H (.nx env S) D) (w : Wok K mg ρ S H) (r : EnvOk K ρ H env σ) : D.nx σ H := h ρ H σ Ext.refl w r
theorem PostS.on {α β : Type} {Rr : List Addr → Hp → α → β → Prop} {ρ : List Addr} {H : Hp} {r : R α} {f : α → Sto → O} {D : Ends} (h : PostS mg K W ρ H (r.on f) D) :
    Post mg K Rr W ρ H r fun b H1 => ∃ ρ1 S1 a, Ext ρ H ρ1 H1 ∧ Wok K mg ρ1 S1 H1 ∧ Rr ρ1 H1 a b ∧ PostS mg K W ρ1 H1 (f a S1) D := by
  cases r with
  | ok a S => exact fun ρ' H' b e w r => ⟨ρ', S, a, e, w, r, PostS.ext e h⟩
  | exc c fs S => exact h
  | bad => exact h
/-- what stands behind a statement -/
def nxOf (mg : Str → Option Value) (K : PySem.W.Frag) (W : XK) (f : Env → Sto → O) (D : Ends) : L2.St → Hp → Prop := fun σ H1 => ∃ ρ1 S1 env1, Wok K mg ρ1 S1 H1 ∧ EnvOk K ρ1 H1 env1 σ ∧ PostS mg K W ρ1 H1 (f env1 S1) D
theorem PostS.then_ {ρ : List Addr} {H : Hp} {r : O} {f : Env → Sto → O} {D : Ends} (h : PostS mg K W ρ H (r.then_ f) D) : PostS mg K W ρ H r { D with nx := nxOf mg K W f D } := by
  cases r with
  | nx a S => exact fun ρ' H' b e' w r => ⟨ρ', S, a, w, r, PostS.ext e' h⟩
  | ret a S => exact h
  | bk a S => exact h
  | ct a S => exact h
  | exc c fs S => exact h
  | bad => exact h
end
theorem b_nil : PSs X [] (tB X Φ W .nil) := PSsw pss_nil fun D σ H ⟨ρ, S, env, w, eo, h⟩ => by rw [exs] at h; exact h.here w eo
theorem b_cons {st : Stmt} {sts : List Stmt} {ts : St} {tb : Sts} (h1 : PS X st (tS X Φ W ts)) (h2 : PSs X sts (tB X Φ W tb)) : PSs X (st :: sts) (tB X Φ W (.cons ts tb)) :=
  PSsw (pss_cons h1 h2) fun D σ H ⟨ρ, S, env, w, eo, h⟩ => by rw [exs] at h; exact ⟨ρ, S, env, w, eo, h.then_⟩
theorem x_ex (ha : PE X a (tE X Φ W ta)) (hs : swapsWith a none pos.line X.env = pure false := by rfl) : PS X (.Expr a pos) (tS X Φ W (.ex ta)) :=
  PSw (ps_expr ha hs) fun D σ H ⟨ρ, S, env, w, eo, h⟩ => by
    rw [ex] at h
    exact ⟨ρ, S, env, w, eo, (PostS.on h).imp fun x H1 ⟨ρ1, S1, u, e1, w1, r1, h1⟩ => h1.here w1 (eo.mono e1)⟩
theorem x_ret (ha : PE X a (tE X Φ W ta)) : PS X (.Return (some a) pos) (tS X Φ W (.ret ta)) :=
  PSw (ps_ret ha) fun D σ H ⟨ρ, S, env, w, eo, h⟩ => by
    rw [ex] at h
    exact ⟨ρ, S, env, w, eo, (PostS.on h).imp fun x H1 ⟨ρ1, S1, u, e1, w1, r1, h1⟩ => h1 ρ1 H1 x Ext.refl w1 r1⟩
theorem x_retN : PS X (.Return none pos) (tS X Φ W .retN) := PSw ps_retN fun D σ H ⟨ρ, S, env, w, eo, h⟩ => by rw [ex] at h; exact h ρ H _ Ext.refl w relNon
theorem x_pass : PS X (.Pass pos) (tS X Φ W .pass) := PSw ps_pass fun D σ H ⟨ρ, S, env, w, eo, h⟩ => by rw [ex] at h; exact h.here w eo
theorem x_brk : PS X (.Break pos) (tS X Φ W .brk) := PSw ps_break fun D σ H ⟨ρ, S, env, w, eo, h⟩ => by rw [ex] at h; exact h ρ H _ Ext.refl w eo
theorem x_cont : PS X (.Continue pos) (tS X Φ W .cont) := PSw ps_continue fun D σ H ⟨ρ, S, env, w, eo, h⟩ => by rw [ex] at h; exact h ρ H _ Ext.refl w eo
theorem x_if {sa sb : List Stmt} {tsa tsb : Sts} (hc : PT X c (tTs X Φ W tc)) (ha : PSs X sa (tB X Φ W tsa)) (hb : PSs X sb (tB X Φ W tsb)) : PS X (.If c sa sb pos) (tS X Φ W (.if_ tc tsa tsb)) :=
  PSw (ps_if hc ha hb) fun D σ H ⟨ρ, S, env, w, eo, h⟩ => by
    rw [ex] at h
    refine ⟨ρ, S, env, w, eo, (PostS.on (Rr := Rid) h).imp fun x H1 ⟨ρ1, S1, u, e1, w1, r1, h1⟩ => ?_⟩
    cases r1
    cases x with
    | true => exact iteT ⟨ρ1, S1, env, w1, eo.mono e1, h1⟩
    | false => exact iteF ⟨ρ1, S1, env, w1, eo.mono e1, h1⟩
theorem set_nx {tp : Bool} {is : List Nat} {D : Ends} {σ : L2.St} {H H1 : Hp} {ρ ρ1 : List Addr} {S1 : Sto} {env : Env} {u : U} {x : V} (e1 : Ext ρ H ρ1 H1) (eo : EnvOk X.K ρ H env σ) (w1 : Wok X.K X.mg ρ1 S1 H1) (r1 : RelU X.K ρ1 H1 u x)
    (h1 : PostS X.mg X.K W ρ1 H1 (match setN tp is u env with | some env => O.nx env S1 | none => .bad) D) : gOf X.K tp is x σ H1 D.nx := by
  split at h1
  · rename_i env' he
    exact g_ok he (eo.mono e1) r1 fun σ' eo' _ => h1.here w1 eo'
  · exact h1.elim
theorem x_set (i : Nat) {x : Str} {px : Pos} (hN : X.N.Nodup) (ha : PE X a (tE X Φ W ta)) (hi : X.N[i]? = some x := by rfl) (hx : Loc X.env.scope x := by first | exact Or.inl rfl | exact Or.inr rfl) (hs : swapsWith a (some (.Name x px)) pos.line X.env = pure false := by rfl)
    (hf : X.fn x = true ∨ X.env.scope.names.lookup x = some .local := by first | exact .inl rfl | exact .inr rfl) : PS X (.Assign [.Name x px] a pos) (tS X Φ W (.set false [i] ta)) :=
  PSw (ps_set hN hi hx ha hs hf) fun D σ H ⟨ρ, S, env, w, eo, h⟩ => by
    rw [ex] at h
    exact ⟨ρ, S, env, w, eo, (PostS.on h).imp fun x H1 ⟨ρ1, S1, u, e1, w1, r1, h1⟩ => set_nx (tp := false) (is := [i]) e1 eo w1 r1 h1⟩
theorem x_tup {is : List Nat} {k : Nat} {pt : Pos} (hc : X.calm = true) (ha : PE X a (tE X Φ W ta)) (hg : PGs X es (gsOf is)) (hn : (assignEach es X.env).length = is.length := by rfl) (hst : (assignEach es X.env).findIdx? (·.1) = none := by rfl)
    (hs : swapsWithSole [.Tuple es k pt] a pos.line X.env = pure false := by rfl) (hw : swappedStores [.Tuple es k pt] a X.env = pure none := by rfl) (h1 : (assignEach [.Tuple es k pt] X.env).map (·.2) = [assign (.Tuple es k pt) X.env] := by rfl) :
    PS X (.Assign [.Tuple es k pt] a pos) (tS X Φ W (.set true is ta)) :=
  PSw (ps_asg ha (g_tup hc hg hn hst) hs hw h1) fun D σ H ⟨ρ, S, env, w, eo, h⟩ => by
    rw [ex] at h
    exact ⟨ρ, S, env, w, eo, (PostS.on h).imp fun x H1 ⟨ρ1, S1, u, e1, w1, r1, h1⟩ => set_nx (tp := true) (is := is) e1 eo w1 r1 h1⟩
/-- name = [..] on one line -/
theorem x_setLc (O : Ok X p nm ad d W) (i : Nat) (tp : Bool) (own : List (Str × Nat)) {y : Str} {py spos : Pos} {elt tg iter : Expr} {ifs : List Expr} {scope : Scope} {it : E} {tx : T} (hN : X.N.Nodup) (hi : PE X iter (tE X Φ W it)) (ok : BlkOk X.N X.env.scope scope own)
    (hg : ∀ (s : Shared) (H : Hp) (C : Addr) (cl : List (Str × Addr)) (fp : List Addr), PG (X.blk s H scope (compEnvC scope cl C X.env) fp) tg (gOf X.K tp (own.map (·.2))))
    (ht : ∀ (s : Shared) (H : Hp) (C : Addr) (cl : List (Str × Addr)) (fp : List Addr), PTs (X.blk s H scope (compEnvC scope cl C X.env) fp) ifs (tTs X Φ W0 tx))
    (he : ∀ (s : Shared) (H : Hp) (C : Addr) (cl : List (Str × Addr)) (fp : List Addr), PE (X.blk s H scope (compEnvC scope cl C X.env) fp) elt (tE X Φ W0 te))
    (hsw : swapsWith (.ListComp elt [⟨tg, iter, ifs, 0⟩] scope pos) (some (.Name y py)) spos.line X.env = pure true) (hy : X.N[i]? = some y := by rfl) (hyl : X.env.scope.names.lookup y = some .local := by rfl) (hs : ∀ x, foldedSetIterable iter X.env x = pure x := by intro _; rfl) :
    PS X (.Assign [.Name y py] (.ListComp elt [⟨tg, iter, ifs, 0⟩] scope pos) spos) (tS X Φ W (.set false [i] (.lc (own.map (·.2)) tp te it tx))) :=
  PSw (ps_setLc O.calm hN hy hyl hsw (pi_any hi) ok hg ht he hs) fun D σ H ⟨ρ, S, env, w, eo, h⟩ => by
    rw [ex] at h
    exact lc_read ⟨ρ, S, env, w, eo, (PostS.on h).imp fun x H1 ⟨ρ1, S1, u, e1, w1, r1, h1⟩ => set_nx (tp := false) (is := [i]) e1 eo w1 r1 h1⟩
theorem x_setLcr (O : Ok X p nm ad d W) (i : Nat) (own : List (Str × Nat)) {y : Str} {py spos : Pos} {elt tg iter : Expr} {ifs : List Expr} {scope : Scope} {tx : T} (hN : X.N.Nodup) (hi : PI X tg iter (tR X Φ W ta tb)) (ok : BlkOk X.N X.env.scope scope own)
    (hg : ∀ (s : Shared) (H : Hp) (C : Addr) (cl : List (Str × Addr)) (fp : List Addr), PG (X.blk s H scope (compEnvC scope cl C X.env) fp) tg (gOf X.K false (own.map (·.2))))
    (ht : ∀ (s : Shared) (H : Hp) (C : Addr) (cl : List (Str × Addr)) (fp : List Addr), PTs (X.blk s H scope (compEnvC scope cl C X.env) fp) ifs (tTs X Φ W0 tx))
    (he : ∀ (s : Shared) (H : Hp) (C : Addr) (cl : List (Str × Addr)) (fp : List Addr), PE (X.blk s H scope (compEnvC scope cl C X.env) fp) elt (tE X Φ W0 te))
    (hsw : swapsWith (.ListComp elt [⟨tg, iter, ifs, 0⟩] scope pos) (some (.Name y py)) spos.line X.env = pure true) (hy : X.N[i]? = some y := by rfl) (hyl : X.env.scope.names.lookup y = some .local := by rfl) (hs : ∀ x, foldedSetIterable iter X.env x = pure x := by intro _; rfl) :
    PS X (.Assign [.Name y py] (.ListComp elt [⟨tg, iter, ifs, 0⟩] scope pos) spos) (tS X Φ W (.set false [i] (.lcr (own.map (·.2)) te ta tb tx))) :=
  PSw (ps_setLc O.calm hN hy hyl hsw hi ok hg ht he hs) fun D σ H ⟨ρ, S, env, w, eo, h⟩ => by
    rw [ex] at h
    exact lcr_read ⟨ρ, S, env, w, eo, (PostS.on h).imp fun x H1 ⟨ρ1, S1, u, e1, w1, r1, h1⟩ => set_nx (tp := false) (is := [i]) e1 eo w1 r1 h1⟩
/-! ### stores -/
theorem set_item : PSet X (fun o i v H Q => ∃ ρ S uo ui u, Wok X.K X.mg ρ S H ∧ RelU X.K ρ H uo o ∧ RelU X.K ρ H ui i ∧ RelU X.K ρ H u v ∧ Post X.mg X.K (Rid (α := Unit)) W ρ H (setItemU uo ui u S) (fun _ => Q)) := by
  rintro pins s σ H o i v ov iv u Q I ro ri rv ⟨ρ, S, uo, ui, uu, w, r1, r2, r3, h⟩
  unfold setItemU at h
  split at h
  · obtain ⟨a, rfl, ha⟩ := r1.loc
    cases r2.int
    split at h
    · rename_i xs hx
      split at h
      · rename_i j hj
        obtain ⟨vs, e, q⟩ := w.at_ hx ha
        exact set_list pins s σ H _ _ v ov iv u Q I ro ri rv ⟨a, vs, _, j, rfl, rfl, e, by rw [q.length]; exact hj, h.set w ha hx e (q.set r3 j) fun _ _ => rfl⟩
      · exact h.elim
    · exact h.elim
  · exact h.elim
theorem x_sub {i : Expr} {ti : E} {pt : Pos} (hc : PE X c (tE X Φ W te)) (ho : PE X o (tE X Φ W to)) (hi : PE X i (tE X Φ W ti)) (hs : swapsWithSole [.Subscript o i pt] c pos.line X.env = pure false := by rfl) (hw : swappedStores [.Subscript o i pt] c X.env = pure none := by rfl)
    (h1 : (assignEach [.Subscript o i pt] X.env).map (·.2) = [assign (.Subscript o i pt) X.env] := by rfl)
    (ha : ∀ v, assign (.Subscript o i pt) X.env v = (do
      let ov ← holding [v] (eval o X.env)
      let iv ← holding [v, ov] (eval i X.env)
      standAt pt
      holding [v, ov, iv] (setItem ov iv v)
      release [v, ov, iv] []) := by intro _; rfl) : PS X (.Assign [.Subscript o i pt] c pos) (tS X Φ W (.sub to ti te)) :=
  PSw (ps_asg hc (pg_sub ho hi (set_item (W := W)) ha) hs hw h1) fun D σ H ⟨ρ, S, env, w, eo, h⟩ => by
    rw [ex] at h
    refine ⟨ρ, S, env, w, eo, (PostS.on h).imp fun x H1 ⟨ρ1, S1, u, e1, w1, r1, h1⟩ => ⟨ρ1, S1, env, w1, eo.mono e1, (PostS.on h1).imp fun y H2 ⟨ρ2, S2, u2, e2, w2, r2, h2⟩ => ⟨ρ2, S2, env, w2, (eo.mono e1).mono e2, (PostS.on h2).imp fun z H3 ⟨ρ3, S3, u3, e3, w3, r3, h3⟩ => ?_⟩⟩⟩
    refine ⟨ρ3, S3, u2, u3, u, w3, r2.mono e3, r3, (r1.mono e2).mono e3, (PostS.on (Rr := Rid) h3).imp fun _ H4 ⟨ρ4, S4, _, e4, w4, _, h4⟩ => ?_⟩
    exact h4.here w4 ((((eo.mono e1).mono e2).mono e3).mono e4)
theorem aug_ip (op : Op) : PIp X (opOf op) (r2 X W (augU op)) := by
  rintro pins s σ H x y v u Q I rx ry ⟨ρ, S, a, b, w, ra, rb, h⟩
  unfold augU at h
  split at h
  · cases ra.int; cases rb.int
    exact iop_add pins s σ H _ _ v u Q I rx ry ⟨_, _, rfl, rfl, h.here w relInt⟩
  · cases ra.str; cases rb.str
    split at h
    · rename_i hz
      exact iop_add_str pins s σ H _ _ v u Q I rx ry ⟨_, _, rfl, rfl, hz, h.here w relStr⟩
    · exact h.elim
  · cases ra.int; cases rb.int
    exact iop_sub pins s σ H _ _ v u Q I rx ry ⟨_, _, rfl, rfl, h.here w relInt⟩
  · cases ra.int; cases rb.int
    split at h
    · rename_i hz
      exact iop_mul pins s σ H _ _ v u Q I rx ry ⟨_, _, rfl, rfl, hz, h.here w relInt⟩
    · exact h.elim
  · exact h.elim
theorem x_aug (op : Op) (i : Nat) {x : Str} {px : Pos} (hN : X.N.Nodup) (ha : PE X a (tE X Φ W ta)) (hi : X.N[i]? = some x := by rfl) (hx : Loc X.env.scope x := by first | exact Or.inl rfl | exact Or.inr rfl) (hf : X.fn x = true ∨ X.env.scope.names.lookup x = some .local := by first | exact .inl rfl | exact .inr rfl) :
    PS X (.AugAssign (.Name x px) (opOf op) a pos) (tS X Φ W (.aug i op ta)) :=
  PSw (ps_aug hN hi hx ha (aug_ip (W := W) op) hf) fun D σ H ⟨ρ, S, env, w, eo, h⟩ => by
    rw [ex] at h
    split at h
    · rename_i u hu
      obtain ⟨v, hv, rv⟩ := eo.ok i u hu
      refine ⟨v, hv, ρ, S, env, w, eo, (PostS.on h).imp fun y H1 ⟨ρ1, S1, u1, e1, w1, r1, h1⟩ => ⟨ρ1, S1, u, u1, w1, rv.mono e1, r1, (PostS.on h1).imp fun z H2 ⟨ρ2, S2, u2, e2, w2, r2, h2⟩ => ?_⟩⟩
      exact h2.here w2 (((eo.mono e1).mono e2).set i r2)
    · exact h.elim
theorem fld_put (O : Ok X p nm ad d W) {C f : Str} (hC : C ∈ nm.clss) {uo u : U} {x y : V} {H : Hp} {ρ : List Addr} {S : Sto} {Q : Hp → Prop} (w : Wok X.K X.mg ρ S H) (r1 : RelU X.K ρ H uo x) (r2 : RelU X.K ρ H u y) (h : Post X.mg X.K (Rid (α := Unit)) W ρ H (setFldU uo C f u S) (fun _ => Q)) :
    ∃ a dx vfs, x = .ref a ∧ H a = some (.ins (ad C) dx vfs) ∧ vfs.length < 1000 ∧ Q (upd H a (.ins (ad C) dx (putF f y vfs))) := by
  unfold setFldU at h
  split at h
  · split at h
    · rename_i hn
      split at h
      · rename_i hD
        obtain ⟨hD, hl⟩ := hD
        rw [hD] at hn
        obtain ⟨a, dx, vfs, rfl, hn', e, q⟩ := ins_at O hC w r1 hn
        have x := Ext.write (ρ := ρ) (o := .ins (ad C) dx (putF f y vfs)) (ins_mut e)
        refine ⟨a, dx, vfs, rfl, e, by rw [← q.length]; omega, h ρ _ () x (w.write hn' hn rfl rfl (ins_mut e) ?_) rfl⟩
        exact ⟨_, dx, _, (O.sta.cls _ hC).1, upd_same, (q.put r2).mono x⟩
      · exact h.elim
    · exact h.elim
  · exact h.elim
theorem x_fset (O : Ok X p nm ad d W) (C : Str) {f : Str} {pf : Pos} (ho : PE X o (tE X Φ W to)) (ha : PE X a (tE X Φ W ta)) (hC : C ∈ nm.clss := by decide +kernel) (hf : (C, f) ∈ nm.flds := by decide +kernel) (hs : swapsWith a (some (.Attribute o f pf)) pos.line X.env = pure false := by rfl) :
    PS X (.Assign [.Attribute o f pf] a pos) (tS X Φ W (.fset to C f ta)) :=
  PSw (ps_fld ho ha hs) fun D σ H ⟨ρ, S, env, w, eo, h⟩ => by
    rw [ex] at h
    refine ⟨ρ, S, env, w, eo, (PostS.on h).imp fun y H1 ⟨ρ1, S1, u, e1, w1, r1, h1⟩ => ⟨ρ1, S1, env, w1, eo.mono e1, (PostS.on h1).imp fun x H2 ⟨ρ2, S2, u2, e2, w2, r2, h2⟩ => ?_⟩⟩
    obtain ⟨q, dx, vfs, rfl, e, hl, hq⟩ := fld_put O hC w2 r2 (r1.mono e2) ((PostS.on (Rr := Rid) h2).imp (Q' := fun _ H3 => ∃ ρ3 S3, Ext ρ2 H2 ρ3 H3 ∧ Wok X.K X.mg ρ3 S3 H3 ∧ PostS X.mg X.K W ρ3 H3 (.nx env S3) D) fun _ H3 ⟨r, s, _, a, b, _, c⟩ => ⟨r, s, a, b, c⟩)
    obtain ⟨ρ3, S3, e3, w3, h3⟩ := hq
    exact ⟨q, ad C, dx, vfs, rfl, e, (O.sta.cls C hC).2.1, O.sta.fld C f hf, hl, h3.here w3 (((eo.mono e1).mono e2).mono e3)⟩
theorem x_faug (O : Ok X p nm ad d W) (op : Op) (C : Str) {f : Str} {pf : Pos} (ho : PE X o (tE X Φ W to)) (ha : PE X a (tE X Φ W ta)) (hC : C ∈ nm.clss := by decide +kernel) (hf : (C, f) ∈ nm.flds := by decide +kernel) :
    PS X (.AugAssign (.Attribute o f pf) (opOf op) a pos) (tS X Φ W (.faug to C f op ta)) :=
  PSw (ps_fldaug ho ha (rd := r2 X W (augU op)) (aug_ip op)) fun D σ H ⟨ρ, S, env, w, eo, h⟩ => by
    rw [ex] at h
    refine ⟨ρ, S, env, w, eo, (PostS.on h).imp fun x H1 ⟨ρ1, S1, u, e1, w1, r1, h1⟩ => ?_⟩
    split at h1
    · split at h1
      · rename_i hn
        split at h1
        · rename_i hD
          subst hD
          split at h1
          · rename_i u0 hu
            obtain ⟨q, dx, vfs, rfl, hn', e, qq⟩ := ins_at O hC w1 r1 hn
            obtain ⟨v0, l, rv⟩ := (qq.look (f := f)).1 u0 hu
            refine ⟨q, _, dx, vfs, v0, rfl, e, (O.sta.cls _ hC).2.1, O.sta.fld _ f hf, l, ρ1, S1, env, w1, eo.mono e1, (PostS.on h1).imp fun y H2 ⟨ρ2, S2, u2, e2, w2, r2, h2⟩ => ⟨ρ2, S2, u0, u2, w2, rv.mono e2, r2, (PostS.on h2).imp fun z H3 ⟨ρ3, S3, u3, e3, w3, r3, h3⟩ => ?_⟩⟩
            obtain ⟨q', dx', vfs', eq', e', hl, hq⟩ := fld_put O hC w3 (relLoc (e3.at_ (e2.at_ hn'))) r3 ((PostS.on (Rr := Rid) h3).imp (Q' := fun _ H4 => ∃ ρ4 S4, Ext ρ3 H3 ρ4 H4 ∧ Wok X.K X.mg ρ4 S4 H4 ∧ PostS X.mg X.K W ρ4 H4 (.nx env S4) D) fun _ H4 ⟨r, s, _, a, b, _, c⟩ => ⟨r, s, a, b, c⟩)
            cases eq'
            obtain ⟨ρ4, S4, e4, w4, h4⟩ := hq
            exact ⟨dx', vfs', e', hl, h4.here w4 ((((eo.mono e1).mono e2).mono e3).mono e4)⟩
          · exact h1.elim
        · exact h1.elim
      · exact h1.elim
    · exact h1.elim
/-! ### loops -/
theorem PostS.turn {K : PySem.W.Frag} {mg : Str → Option Value} {ρ : List Addr} {H : Hp} {r : O} {f : Env → Sto → O} {D : Ends} {N : L2.St → Hp → Prop} (h : PostS mg K W ρ H (r.turn f) D)
    (hN : ∀ ρ1 S1 env1 σ H1, Ext ρ H ρ1 H1 → Wok K mg ρ1 S1 H1 → EnvOk K ρ1 H1 env1 σ → PostS mg K W ρ1 H1 (f env1 S1) D → N σ H1) : PostS mg K W ρ H r { D with nx := N, ct := N, bk := D.nx } := by
  cases r with
  | nx a S => exact fun ρ' H' b e' w r => hN ρ' S a b H' e' w r (PostS.ext e' h)
  | ret a S => exact h
  | bk a S => exact h
  | ct a S => exact fun ρ' H' b e' w r => hN ρ' S a b H' e' w r (PostS.ext e' h)
  | exc c fs S => exact h
  | bad => exact h
theorem x_while (O : Ok X p nm ad d W) {body : List Stmt} {tb : Sts} (hc : PT X c (tTs X Φ W tc)) (hb : PSs X body (tB X Φ W tb)) : PS X (.While c body [] pos) (tS X Φ W (.while_ tc tb)) :=
  PSw (ps_while O.own hc hb) fun D σ H ⟨ρ, S, env, w, eo, h⟩ => by
    rw [ex] at h
    refine ⟨fun n σ H => ∃ ρ S env, Wok X.K X.mg ρ S H ∧ EnvOk X.K ρ H env σ ∧ PostS X.mg X.K W ρ H (loopI (fun env S => evt Φ tc env S) (fun env S => exs Φ tb env S) n env S) D, ⟨fuel, ρ, S, env, w, eo, h⟩, ?_⟩
    rintro n σ H ⟨ρ, S, env, w, eo, h⟩
    cases n with
    | zero => exact h.elim
    | succ n =>
      unfold loopI at h
      refine ⟨ρ, S, env, w, eo, (PostS.on (Rr := Rid) h).imp fun x H1 ⟨ρ1, S1, u, e1, w1, r1, h1⟩ => ?_⟩
      cases r1
      cases x with
      | true =>
        refine iteT ⟨fun σ H => ∃ ρ S env, Wok X.K X.mg ρ S H ∧ EnvOk X.K ρ H env σ ∧ PostS X.mg X.K W ρ H (loopI (fun env S => evt Φ tc env S) (fun env S => exs Φ tb env S) n env S) D, fun σ' H' q => ⟨n, Nat.lt_succ_self n, q⟩, ρ1, S1, env, w1, eo.mono e1, ?_⟩
        exact PostS.turn h1 fun ρ2 S2 env2 σ2 H2 _ w2 eo2 h2 => ⟨ρ2, S2, env2, w2, eo2, h2⟩
      | false => exact iteF (h1.here w1 (eo.mono e1))
theorem for_turns {tp : Bool} {is : List Nat} {tb : Sts} {J : It} {all : List U} {src : Option Nat} {ρ1 : List Addr} {S1 : Sto} {H1 : Hp} {σ : L2.St} {env : Env} {D : Ends} (w1 : Wok X.K X.mg ρ1 S1 H1) (eo : EnvOk X.K ρ1 H1 env σ) (hg : Goes X.K X.mg J all src ρ1 H1)
    (h : PostS X.mg X.K W ρ1 H1 (forI tp is (fun env S => exs Φ tb env S) all src all env S1) D) :
    ∃ W' : Nat → Nat → L2.St → Hp → Prop, (∃ m, W' 0 m σ H1) ∧ ∀ i m σ H, W' i m σ H → (J.stop i H ∧ D.nx σ H) ∨ (J.go i H ∧ ∃ N : L2.St → Hp → Prop, (∀ σ' H', N σ' H' → ∃ m', m' < m ∧ W' (i + 1) m' σ' H') ∧ ∀ x H', J.yld i H x H' → gOf X.K tp is x σ H' fun σ2 H2 => tB X Φ W tb { D with nx := N, ct := N, bk := D.nx } σ2 H2) := by
  let Inv' : Nat → L2.St → Hp → Prop := fun i σ H => i ≤ all.length ∧ ∃ ρ S env, Ext ρ1 H1 ρ H ∧ Wok X.K X.mg ρ S H ∧ EnvOk X.K ρ H env σ ∧ PostS X.mg X.K W ρ H (forI tp is (fun env S => exs Φ tb env S) all src (all.drop i) env S) D
  refine ⟨fun i m σ H => m = all.length - i ∧ Inv' i σ H, ⟨_, rfl, Nat.zero_le _, _, _, env, Ext.refl, w1, eo, by simpa using h⟩, ?_⟩
  rintro i m σ H ⟨rfl, hi, ρ, S, env, ex, w, eo, hp⟩
  by_cases hlt : i < all.length
  · refine .inr ?_
    rw [List.drop_eq_getElem_cons hlt] at hp
    unfold forI at hp
    split at hp
    · rename_i hst
      obtain ⟨hgo, hy⟩ := (hg ρ S H i ex w hst).1 hlt
      refine ⟨hgo, Inv' (i + 1), fun σ' H' q => ⟨all.length - (i + 1), by omega, rfl, q⟩, fun x H' yl => ?_⟩
      obtain ⟨rfl, u, hu, ru⟩ := hy x H' yl
      rw [List.getElem?_eq_getElem hlt] at hu
      cases hu
      split at hp
      · rename_i env' he
        refine g_ok he eo ru fun σ2 eo2 _ => ⟨ρ, S, env', w, eo2, ?_⟩
        exact PostS.turn hp fun ρ2 S2 env2 σ2 H2 x2 w2 eo2 h2 => ⟨hlt, ρ2, S2, env2, ex.trans x2, w2, eo2, h2⟩
      · exact hp.elim
    · exact hp.elim
  · refine .inl ?_
    have e : i = all.length := by omega
    subst e
    rw [List.drop_length] at hp
    unfold forI at hp
    split at hp
    · rename_i hst
      exact ⟨(hg ρ S H _ ex w hst).2 (Nat.le_refl _), hp.here w eo⟩
    · exact hp.elim
theorem x_for (O : Ok X p nm ad d W) (tp : Bool) (is : List Nat) {tg iter : Expr} {it : E} {body : List Stmt} {tb : Sts} (hi : PE X iter (tE X Φ W it)) (hg : PG X tg (gOf X.K tp is)) (hb : PSs X body (tB X Φ W tb)) (hs : ∀ x, foldedSetIterable iter X.env x = pure x := by intro _; rfl) :
    PS X (.For tg iter body [] pos) (tS X Φ W (.for_ tp is it tb)) :=
  PSw (ps_for O.own O.calm (pi_any hi) hg hb hs) fun D σ H ⟨ρ, S, env, w, eo, h⟩ => by
    rw [ex] at h
    refine ⟨ρ, S, env, w, eo, (PostS.on h).imp fun x H1 ⟨ρ1, S1, u, e1, w1, r1, h1⟩ => ?_⟩
    split at h1
    · rename_i all src hi'
      exact ⟨ρ1, S1, u, all, src, w1, r1, hi', fun J hg => for_turns w1 (eo.mono e1) hg h1⟩
    · exact h1.elim
theorem x_forr (O : Ok X p nm ad d W) (i : Nat) {tg iter : Expr} {body : List Stmt} {ts : Sts} (hi : PI X tg iter (tR X Φ W ta tb)) (hg : PG X tg (gOf X.K false [i])) (hb : PSs X body (tB X Φ W ts)) (hs : ∀ x, foldedSetIterable iter X.env x = pure x := by intro _; rfl) :
    PS X (.For tg iter body [] pos) (tS X Φ W (.forr i ta tb ts)) :=
  PSw (ps_for O.own O.calm hi hg hb hs) fun D σ H ⟨ρ, S, env, w, eo, h⟩ => by
    rw [ex] at h
    refine ⟨ρ, S, env, w, eo, (PostS.on h).imp fun x H1 ⟨ρ1, S1, u, e1, w1, r1, h1⟩ => ⟨ρ1, S1, env, w1, eo.mono e1, (PostS.on h1).imp fun y H2 ⟨ρ2, S2, u2, e2, w2, r2, h2⟩ => ?_⟩⟩
    split at h2
    · split at h2
      · rename_i hb
        cases r1.int
        cases r2.int
        exact ⟨ρ2, S2, _, _, w2, rfl, rfl, hb, for_turns w2 ((eo.mono e1).mono e2) goes_rng h2⟩
      · exact h2.elim
    · exact h2.elim
end
end Oz

end

section
set_option maxHeartbeats 4000000
/-! Oz9: raise, a def's body, all defs together. -/
namespace Oz
open PySem PySem.Spec PyProof.Rows L2
section
variable {X : Cx} {p : Pg} {nm : Names} {ad : Str → Addr} {d : Nat} {W : XK} {Φ : Cal} {a : Expr} {ta : E} {pos : Pos}
theorem x_raise (O : Ok X p nm ad d W) (f : Str) {C : Str} {px pc : Pos} (ha : PE X a (tE X (p.cal d) W ta)) (hC : (C, f) ∈ nm.xcs := by decide +kernel) (hx : p.xf C = some f := by decide +kernel) (hg : Gl X C := by rfl) (hdb : (C == ("__debug__" : Str)) = false := by decide)
    (he : starEach [a] X.env = (false, eval a X.env) :: starEach [] X.env := by rfl) (hpl : (backTo pc (starEach [] X.env)).any (·.1) = false := by rfl) : PS X (.Raise (some (.Call (.Name C px) [a] [] pc)) none pos) (tS X (p.cal d) W (.raise C ta)) := by
  have F := O.xc C f hC
  obtain ⟨fd, ps, F1, hb⟩ := F.fn
  have M := pmk_oex (X := X) (p := px) (dvs := []) (ds := []) F.T F.iC F.tI F1 O.room.room hb .nil passL hg F.gC (pa_cons ha pa_nil he) hdb he hpl
  refine PSw (ps_raise (W := fun cls d _ H => W cls d H) O.calm O.take M) fun D σ H ⟨ρ, S, env, w, eo, h⟩ => ?_
  rw [ex] at h
  refine ⟨ρ, S, env, w, eo, (PostS.on h).imp fun y H1 ⟨ρ1, S1, u, e1, w1, r1, h1⟩ => ⟨by show 1 ≤ 1000; decide, fun b hb => ⟨b, y, rfl, upd_same, fun dx hdx hne => ⟨rfl, dx, [(f, y)], upd_same, ?_, ?_, ?_⟩⟩⟩⟩
  · rw [upd_ne hne, upd_same]
  · rw [upd_ne hne] at hdx
    exact hdx
  · rw [upd_ne hne] at hdx
    rw [cal_xf, hx] at h1
    have e : upd (del (upd (upd (upd H1 b (exo b (ad C) none)) dx (exd dx [(f, y)])) b (exo b (ad C) (some dx))) b) dx (.xd [(f, y)]) = upd H1 dx (.xd [(f, y)]) := by
      funext c
      by_cases hc : c = dx
      · subst hc
        rw [upd_same, upd_same]
      · rw [upd_ne hc, upd_ne hc]
        by_cases hcb : c = b
        · subst hcb
          rw [del_same, hb]
        · rw [del_ne hcb, upd_ne hcb, upd_ne hc, upd_ne hcb]
    rw [e]
    have x : Ext ρ1 H1 ρ1 (upd H1 dx (.xd [(f, y)])) := Ext.grow (upd_grow hdx)
    exact h1 ρ1 _ (ad C) dx [(f, y)] x (w1.grow (upd_grow hdx)) F.gC upd_same (.cons ⟨rfl, r1.mono x⟩ .nil)
end
/-! ### a def -/
section
variable {P : Program} {w : World} {K : PySem.W.Frag} {mg : Str → Option Value} {base : Heap} {p : Pg} {nm : Names} {ad : Str → Addr} {d : Nat}
theorem env_start {K : PySem.W.Frag} {ρ : List Addr} {H : Hp} {us : List U} {vs : List V} {N : List Str} (r : RelUs K ρ H us vs) : EnvOk K ρ H (startU N.length us) (L2.start N vs) := by
  unfold startU L2.start
  rw [r.length]
  refine ⟨by simp [r.length], fun i u h => ?_⟩
  by_cases hi : i < us.length
  · rw [List.getElem?_append_left (by simpa using hi), List.getElem?_map] at h
    rw [List.getElem?_append_left (by rw [List.length_map, r.length]; exact hi), List.getElem?_map]
    cases q : us[i]? with
    | none => rw [q] at h; cases h
    | some z =>
      rw [q] at h
      cases h
      obtain ⟨v, e, rv⟩ := r.get q
      exact ⟨v, by rw [e]; rfl, rv⟩
  · rw [List.getElem?_append_right (by simpa using hi), List.getElem?_replicate] at h
    split at h <;> cases h
theorem fin_read {K : PySem.W.Frag} {mg : Str → Option Value} {W : XK} {ρ : List Addr} {H : Hp} {o : O} {Q : VK} (h : Post mg K (RelU K) W ρ H o.fin Q) : PostS mg K W ρ H o { nx := fun _ H' => Q .non H', rt := Q } := by
  cases o with
  | nx a S => exact fun ρ' H' b e' w r => h ρ' H' .non e' w relNon
  | ret a S => exact h
  | bk a S => exact h.elim
  | ct a S => exact h.elim
  | exc c fs S => exact h
  | bad => exact h.elim
/-- all that is asked of the program's defs at a depth -/
structure AllFn (P : Program) (w : World) (K : PySem.W.Frag) (mg : Str → Option Value) (base : Heap) (p : Pg) (nm : Names) (ad : Str → Addr) (d : Nat) : Prop where
  sta : Sta p nm K mg ad
  xc : ∀ C f, (C, f) ∈ nm.xcs → XcOk P w K mg base ad C f
  call : ∀ f, FnQ P w K mg base (L2.CX P w) (d + 2) (ad f) (spC K mg ((p.cal d).call f))
  init : ∀ f, FnQ P w K mg base (L2.CX P w) (d + 1) (ad f) (spC K mg ((p.cal d).init f))
theorem AllFn.ok {N : List Str} {qual : Str} {sc : Scope} {f : Addr} {cdv : Value} {A : Around} {outer : List PySem.Env} {s : Shared} {H : Hp} {E : XK} (F : AllFn P w K mg base p nm ad d) (hr : Rm (d + 2) (A.deeper (envOfC qual sc s.heap.objs.size f cdv))) :
    Ok (cxOf (L2.CX P w) P w K mg base N qual sc f cdv A outer s H E) p nm ad d E := by
  have tk : Takes (cxOf (L2.CX P w) P w K mg base N qual sc f cdv A outer s H E) (fun cls d _ H => E cls d H) := takes_of rfl rfl rfl rfl
  exact ⟨F.sta, F.xc, tk, passes_of rfl, rfl, hr, passes_call tk fun _ _ _ _ z => z, F.call, F.init⟩
/-- a plain def -/
theorem fn_plain {x qual nmf : Str} {st : Stmt} {f : Addr} {fd : FuncData} {N ps : List Str} {body : Sts} (F : L2.Fun K x qual st f fd) (hb : Binds K fd ps []) (S : FnScope N ps (defScope st)) (A : AllFn P w K mg base p nm ad d)
    (hp : p.defs nmf = some (.inl ⟨ps.length, N.length, false, body⟩))
    (D : ∀ (X : Cx) (cdv : Value) (A : Around) (outer : List PySem.Env) (s : Shared) (H : Hp) (E : XK), X = cxOf (L2.CX P w) P w K mg base N qual (defScope st) f cdv A outer s H E → Ok X p nm ad d E → PSs X (defBody st) (tB X (p.cal d) E body)) :
    FnQ P w K mg base (L2.CX P w) (d + 3) f (spC K mg ((p.cal (d + 1)).call nmf)) := by
  have hcall : ∀ us S, (p.cal (d + 1)).call nmf us S = (⟨ps.length, N.length, false, body⟩ : Df).run (p.cal d) us S := fun us S => by
    show (match p.defs nmf with | some (.inl df) => df.run (p.cal d) us S | some (.inr g) => g (p.cal d) us S | none => R.bad) = _
    rw [hp]
  obtain ⟨oc, od, kV, doc, pm, an, cdv, ct, osl, rfl, lk, hcd⟩ := F.ex
  intro A0 outer s H us vs Q E hr e0 r h
  obtain ⟨ρ, S0, ws, w0, rw_, h⟩ := h
  rw [hcall] at h
  unfold Df.run bindU at h
  rw [if_neg (show ¬ (false = true) from Bool.false_ne_true)] at h
  by_cases hl : ws.length = ps.length
  · rw [if_pos hl] at h
    have hlv : vs.length = ps.length := by rw [rw_.length]; exact hl
    have hlu : (us ++ []).length = ps.length := by rw [List.append_nil, ← r.length]; exact hlv
    have hb' := hb s us (e0.mod.kin.keeps fun b o e => (e0.bs b o e).1) hlu
    rw [List.append_nil] at hb'
    refine run_body (k := d + 2) lk hcd S hr e0 (G := fun xs H2 => xs = vs ∧ H2 = H) (fun A' Ex Q' z => hb' _ _ _ _ (z s H vs us e0 Un.refl rfl (fun _ _ q => q) r hlv ⟨rfl, rfl⟩)) fun s2 H2 xs ⟨hx, hH⟩ hr2 => ?_
    subst hx hH
    exact ⟨_, D _ cdv A0 outer s2 H2 E rfl (A.ok hr2), ρ, S0, startU N.length ws, w0, env_start rw_, fin_read h⟩
  · rw [if_neg hl] at h
    exact h.elim
/-- a def with a star parameter -/
theorem fn_starred {x qual nmf pv : Str} {st : Stmt} {f : Addr} {fd : FuncData} {N ps : List Str} {body : Sts} (F : L2.Fun K x qual st f fd) (S : FnScope N (ps ++ [pv]) (defScope st)) (A : AllFn P w K mg base p nm ad d)
    (hb : ∀ (kV doc pm : Value) (an : Option Addr) (cdv ct : Value) (us rest : List Value), us.length = ps.length → bindArgs (PySem.W.fnOf x qual (defArgs st) (defBody st) (defScope st) .none kV doc pm an cdv ct) ⟨us ++ rest, []⟩ = (newTuple rest >>= fun t => pure (ps.zip us ++ [(pv, t)])))
    (hp : p.defs nmf = some (.inl ⟨ps.length, N.length, true, body⟩))
    (D : ∀ (X : Cx) (cdv : Value) (A : Around) (outer : List PySem.Env) (s : Shared) (H : Hp) (E : XK), X = cxOf (L2.CX P w) P w K mg base N qual (defScope st) f cdv A outer s H E → Ok X p nm ad d E → PSs X (defBody st) (tB X (p.cal d) E body)) :
    FnQ P w K mg base (L2.CX P w) (d + 3) f (spC K mg ((p.cal (d + 1)).call nmf)) := by
  have hcall : ∀ us S, (p.cal (d + 1)).call nmf us S = (⟨ps.length, N.length, true, body⟩ : Df).run (p.cal d) us S := fun us S => by
    show (match p.defs nmf with | some (.inl df) => df.run (p.cal d) us S | some (.inr g) => g (p.cal d) us S | none => R.bad) = _
    rw [hp]
  obtain ⟨oc, od, kV, doc, pm, an, cdv, ct, osl, rfl, lk, hcd⟩ := F.ex
  intro A0 outer s H us vs Q E hr e0 r h
  obtain ⟨ρ, S0, ws, w0, rw_, h⟩ := h
  rw [hcall] at h
  unfold Df.run bindU at h
  rw [if_pos rfl] at h
  by_cases hl : ps.length ≤ ws.length ∧ ws.length ≤ 1000
  · rw [if_pos hl] at h
    replace h : Post mg K (RelU K) E ρ H (exs (p.cal d) body (startU N.length (ws.take ps.length ++ [.tup (ws.drop ps.length)])) S0).fin Q := h
    have hvl := rw_.length
    have hul : us.length = ws.length := by rw [← r.length, hvl]
    have eu : us = us.take ps.length ++ us.drop ps.length := (List.take_append_drop _ _).symm
    have h1 : (us.take ps.length).length = ps.length := by rw [List.length_take, hul]; omega
    have hz : (vs.drop ps.length).length ≤ sizeLine := by
      rw [List.length_drop, hvl]
      exact Nat.le_trans (Nat.sub_le _ _) (Nat.le_of_lt (small1000 hl.2))
    have hz2 : (us.drop ps.length).length ≤ sizeLine := by
      rw [List.length_drop, hul]
      exact Nat.le_trans (Nat.sub_le _ _) (Nat.le_of_lt (small1000 hl.2))
    have hn : H s.heap.objs.size = none := e0.hok.fresh (Nat.le_refl _)
    refine run_body (k := d + 2) (ps := ps ++ [pv]) lk hcd S hr e0 (G := fun xs H2 => ∃ q, H q = none ∧ xs = vs.take ps.length ++ [V.ref q] ∧ H2 = upd H q (.tup (vs.drop ps.length))) (fun A' Ex Q' z => ?_) fun s2 H2 xs ⟨q, hq, hx, hH⟩ hr2 => ?_
    · rw [eu, hb kV doc pm an cdv ct _ _ h1]
      refine wpAny_bind (wpAny_newTuple (wpAny_pure ?_) hz2)
      have new : ObjOk P w (upd H s.heap.objs.size (.tup (vs.drop ps.length))) (s.heap.push ({ cls := .type "tuple", data := .seq (us.drop ps.length).toArray } : Obj)) s.heap.objs.size (.tup (vs.drop ps.length)) :=
        ⟨hz, us.drop ps.length, r.drop _, ⟨_, Heap.get?_push_size _ rfl, rfl, _, rfl⟩⟩
      have un := StX.un_laid (fs := frs outer) (s := s) (o := ({ cls := .type "tuple", data := .seq (us.drop ps.length).toArray } : Obj)) (u := .tup (vs.drop ps.length)) hn
      have y := z _ _ (vs.take ps.length ++ [V.ref s.heap.objs.size]) (us.take ps.length ++ [Value.ref s.heap.objs.size]) (StX.env0_laid e0 new) un rfl
        (fun e s' => StX.cxUp outer s H _ _ E e s' un (fun b o q => Heap.get?_push_of_some _ q) rfl) ((r.take _).append (.cons rfl .nil)) (by rw [List.length_append, List.length_append, List.length_take, hvl]; simp; omega) ⟨_, hn, rfl, rfl⟩
      rw [List.zip_append h1.symm] at y
      exact y
    · subst hx hH
      have x : Ext ρ H ρ (upd H q (.tup (vs.drop ps.length))) := Ext.grow (upd_grow hq)
      refine ⟨_, D _ cdv A0 outer s2 _ E rfl (A.ok hr2), ρ, S0, startU N.length (ws.take ps.length ++ [U.tup (ws.drop ps.length)]), w0.grow (upd_grow hq), env_start (RelUs.append ((rw_.take _).mono x) (RelUs.cons (u := U.tup (ws.drop ps.length)) ?_ RelUs.nil)), fin_read (Post.ext x h)⟩
      simp only [RelU]
      exact ⟨q, _, rfl, .of upd_same, (rw_.drop _).mono x⟩
  · rw [if_neg hl] at h
    exact h.elim
/-! ### all defs -/
def AllT {α : Type} (Q : Str → α → Prop) : List (Str × α) → Prop
  | [] => True
  | x :: xs => Q x.1 x.2 ∧ AllT Q xs
theorem AllT.look {α : Type} {Q : Str → α → Prop} {f : Str} {a : α} : ∀ {l : List (Str × α)}, AllT Q l → l.lookup f = some a → Q f a
  | [], _, h => by simp at h
  | (g, b) :: l, ⟨h1, h2⟩, h => by
    simp only [List.lookup_cons] at h
    split at h
    · rename_i hg
      cases h
      have e : f = g := by simpa using hg
      subst e
      exact h1
    · exact AllT.look h2 h
theorem bad_fn {k : Nat} {f : Addr} {CX : CXT} {g : List U → Sto → R U} (h : ∀ us S, g us S = .bad) : FnQ P w K mg base CX k f (spC K mg g) := fun A outer s H us vs Q E hr e0 r hs => by
  obtain ⟨ρ, S0, us, w0, r, h'⟩ := hs
  rw [h] at h'
  exact h'.elim
theorem all_fn {tbl : List (Str × (Df ⊕ (Cal → List U → Sto → R U)))} (hp : p.defs = fun f => tbl.lookup f) (sta : Sta p nm K mg ad) (xc : ∀ C f, (C, f) ∈ nm.xcs → XcOk P w K mg base ad C f)
    (step : ∀ d, AllFn P w K mg base p nm ad d → AllT (fun f _ => FnQ P w K mg base (L2.CX P w) (d + 3) (ad f) (spC K mg ((p.cal (d + 1)).call f))) tbl) : ∀ d, AllFn P w K mg base p nm ad d
  | 0 => ⟨sta, xc, fun f => bad_fn fun _ _ => rfl, fun f => bad_fn fun _ _ => rfl⟩
  | d + 1 => by
    have ih := all_fn hp sta xc step d
    refine ⟨sta, xc, fun f => ?_, fun f => ih.call f⟩
    cases q : tbl.lookup f with
    | some a => exact (step d ih).look q
    | none =>
      refine bad_fn fun us S => ?_
      show (match p.defs f with | some (.inl df) => df.run (p.cal d) us S | some (.inr g) => g (p.cal d) us S | none => R.bad) = _
      rw [hp]
      simp only [q]
/-- the law is called -/
def spTop (K : PySem.W.Frag) (mg : Str → Option Value) (g : List U → Sto → R U) : Sp := fun vs H Q E => vs.length = 1 ∧ spC K mg g vs H Q E
end
end Oz

end

section
set_option maxHeartbeats 4000000
/-! Oz10: what the top leaves, as data. -/
namespace Oz
open PySem PySem.Spec PyProof.Rows L2 He
structure Top where
  fns : List Str
  clss : List Str
  mets : List (Str × Str)
  inis : List Str
  flds : List (Str × Str)
  xcs : List (Str × Str)
  bins : List Str
  glos : List (Str × U)
  defs : List (Str × DefD)
def dotN (C m : Str) : Str := C ++ "." ++ m
/-- where a def stands -/
def adOf (t : Top) (K : PySem.W.Frag) (f : Str) : Addr := match t.defs.lookup f with
  | some d => fAd K d.at_
  | none => ga K f
mutual
def relK (K : PySem.W.Frag) : U → Value → Bool
  | .non, .none => true
  | .bl b, .bool c => b == c
  | .int i, .int j _ => decide (i = j)
  | .str x, .str y _ => decide (x = y)
  | .tup us, .ref a => (match K.lookup a with
    | some ⟨.type c, _, .seq its _, _⟩ => decide (c = "tuple") && (decide (its.size ≤ sizeLine) && relKs K us its.toList)
    | _ => false)
  | _, _ => false
def relKs (K : PySem.W.Frag) : List U → List Value → Bool
  | [], [] => true
  | u :: us, v :: vs => relK K u v && relKs K us vs
  | _, _ => false
end
mutual
theorem relK_ok {K : PySem.W.Frag} : ∀ {u : U} {w : Value}, relK K u w = true → ∃ v, RelV v w ∧ ∀ ρ H, RelU K ρ H u v
  | .non, w, h => by
    cases w with
    | none => exact ⟨.non, rfl, fun _ _ => relNon⟩
    | _ => simp [relK] at h
  | .bl b, w, h => by
    cases w with
    | bool c =>
      simp [relK] at h
      subst h
      exact ⟨.bl b, rfl, fun _ _ => relBl⟩
    | _ => simp [relK] at h
  | .int i, w, h => by
    cases w with
    | int j t =>
      simp [relK] at h
      subst h
      exact ⟨.int i, ⟨t, rfl⟩, fun _ _ => relInt⟩
    | _ => simp [relK] at h
  | .str i, w, h => by
    cases w with
    | str j t =>
      simp [relK] at h
      subst h
      exact ⟨.str i, ⟨t, rfl⟩, fun _ _ => relStr⟩
    | _ => simp [relK] at h
  | .tup us, w, h => by
    cases w with
    | ref a =>
      unfold relK at h
      split at h
      · rename_i c od its n osl hk
        obtain ⟨h1, h2⟩ := ba h
        obtain ⟨h3, h4⟩ := ba h2
        obtain ⟨vs, rv, ru⟩ := relKs_ok h4
        refine ⟨.ref a, rfl, fun ρ H => ?_⟩
        simp only [RelU]
        exact ⟨a, vs, rfl, .inr ⟨_, its, n, hk, congrArg Value.type (of_decide_eq_true h1), rfl, of_decide_eq_true h3, rv⟩, ru ρ H⟩
      · cases h
    | _ => simp [relK] at h
  | .loc n, w, h => by cases w <;> simp [relK] at h
theorem relKs_ok {K : PySem.W.Frag} : ∀ {us : List U} {ws : List Value}, relKs K us ws = true → ∃ vs, Vals vs ws ∧ ∀ ρ H, RelUs K ρ H us vs
  | [], ws, h => by
    cases ws with
    | nil => exact ⟨[], .nil, fun _ _ => RelUs.nil⟩
    | cons _ _ => simp [relKs] at h
  | u :: us, ws, h => by
    cases ws with
    | nil => simp [relKs] at h
    | cons w ws =>
      obtain ⟨h1, h2⟩ := ba (show (relK K u w && relKs K us ws) = true by simpa [relKs] using h)
      obtain ⟨v, r1, r2⟩ := relK_ok h1
      obtain ⟨vs, r3, r4⟩ := relKs_ok h2
      exact ⟨v :: vs, .cons r1 r3, fun ρ H => RelUs.cons (r2 ρ H) (r4 ρ H)⟩
end
def oexB (K : PySem.W.Frag) (C : Addr) : Bool := match K.lookup C with
  | some ⟨.type "type", _, .cls cd, sl⟩ => (match cd.mro, sl.toList with
    | .ref C' :: bm, [_, _, _, _, some (.builtin n), _] => C' == C && (n == "ValueError.__new__" && (!cd.hasDel && (cd.hasDict && HandSPX.refsVE bm)))
    | _, _ => false)
  | _ => false
theorem oexB_ok {K : PySem.W.Frag} {C : Addr} (q : oexB K C = true) : ∃ nm q N bs bm sn sub ab col dd k0 k1 k2 k3 k5, K.lookup C = some (excClassObj nm q C N bs bm true sn sub ab col dd k0 k1 k2 k3 k5 "ValueError.__new__") ∧ HandSPX.refsVE bm = true := by
  unfold oexB at q
  split at q
  · rename_i dd cd sl ho
    split at q
    · rename_i C' bm k0 k1 k2 k3 n k5 hm hs
      simp only [Bool.and_eq_true, beq_iff_eq, Bool.not_eq_true'] at q
      obtain ⟨hC, hn, hdel, hd, ht⟩ := q
      obtain ⟨nm, bs, mro, ns, qn, hd', sn, sub, ab, col, del⟩ := cd
      dsimp only at hm hdel hd
      subst hm hdel hd hC hn
      have hsl : sl = #[k0, k1, k2, k3, some (.builtin "ValueError.__new__"), k5] := by
        obtain ⟨l⟩ := sl
        simp only at hs
        rw [hs]
      subst hsl
      exact ⟨nm, qn, ns, bs, bm, sn, sub, ab, col, dd, k0, k1, k2, k3, k5, ho, ht⟩
    · cases q
  · cases q
def Top.nm (t : Top) : Names := ⟨t.fns, t.mets, t.clss, t.flds, t.xcs, t.bins⟩
def fnB (t : Top) (K : PySem.W.Frag) (f : Str) : Bool := eqO (PySem.W.nsIn K mainGlobals f) (some (some (.ref (adOf t K f)))) && PySem.W.keepIn K (.ref (adOf t K f))
def metB (t : Top) (K : PySem.W.Frag) (q : Str × Str) : Bool :=
  eqO (PySem.W.findIn K (.ref (adOf t K q.1)) q.2) (some (some (.ref (adOf t K (dotN q.1 q.2))))) && (PySem.W.isFn K (.ref (adOf t K (dotN q.1 q.2))) && (PySem.W.keepIn K (.ref (adOf t K (dotN q.1 q.2))) &&
    (eqO (PySem.W.specialIn K (.ref (adOf t K (dotN q.1 q.2))) "__get__") (some (some (.builtin "function.__get__"))) && (decide (PySem.W.takesIn K (.ref (adOf t K (dotN q.1 q.2))) = some false) && (!PySem.W.copiedNames.contains q.2 && PySem.W.fnIn K (adOf t K (dotN q.1 q.2)))))))
def clsB (t : Top) (K : PySem.W.Frag) (C : Str) : Bool := eqO (PySem.W.nsIn K mainGlobals C) (some (some (.ref (adOf t K C)))) && (decide (adOf t K C = ga K C) && ((Fa.cls C).ok K && ((Fa.mkr C).ok K && decide (adOf t K (C ++ ".__init__") = ma K (ga K C) "__init__"))))
def xcB (t : Top) (K : PySem.W.Frag) (q : Str × Str) : Bool :=
  eqO (PySem.W.nsIn K mainGlobals q.1) (some (some (.ref (adOf t K q.1)))) && (oexB K (adOf t K q.1) && (eqO (PySem.W.findIn K (.ref (adOf t K q.1)) "__setattr__") (some (some (.builtin "object.__setattr__"))) && (decide (PySem.W.subIn K (.ref (adOf t K q.1)) (.type "BaseException") = some true) && (decide (PySem.W.typeIn K (.ref (adOf t K q.1)) = some (.type "type")) &&
    (eqO (PySem.W.findIn K (.ref (adOf t K q.1)) "__init__") (some (some (.ref (adOf t K (q.1 ++ ".__init__"))))) && (decide (PySem.W.typeIn K (.ref (adOf t K (q.1 ++ ".__init__"))) = some (.type "function")) && (PySem.W.keepIn K (.ref (adOf t K q.1)) && eqO (PySem.W.findIn K (.ref (adOf t K q.1)) q.2) (some none))))))))
def gloB (K : PySem.W.Frag) (q : Str × U) : Bool := match PySem.W.nsIn K mainGlobals q.1 with
  | some (some w) => relK K q.2 w
  | _ => false
def Top.ok (t : Top) (ex : PySem.W.Frag → Bool) (K : PySem.W.Frag) : Bool :=
  t.fns.all (fnB t K) && (t.mets.all (metB t K) && (t.clss.all (clsB t K) && (t.flds.all (fun q => eqO (PySem.W.findIn K (.ref (adOf t K q.1)) q.2) (some none)) && (t.xcs.all (xcB t K) && (t.bins.all (fun x => eqO (PySem.W.nsIn K mainGlobals x) (some none)) && (t.glos.all (gloB K) && (ex K && t.defs.all fun d => d.2.ok K)))))))
/-! ### the Hook -/
abbrev AlO : Type := Bool × List FnW
def obsO (t : Top) (ex : PySem.W.Frag → Bool) (K : PySem.W.Frag) : AlO := (t.ok ex K, t.defs.map fun d => fnW K d.2.at_)
def valO (t : Top) : AlO := (true, t.defs.map fun d => d.2.val)
def obsOG (n : Nat) (t : Top) (ex : PySem.W.Frag → Bool) (g : Addr → Option Obj) : AlO := obsO t ex (frG g (asD g n))
def hookO (n : Nat) (t : Top) (ex : PySem.W.Frag → Bool) : PySem.W.Hook where
  α := AlO
  obs := fun s => obsOG n t ex s.heap.get?
  val := fun _ => valO t
  says := fun _ h => ∃ K : PySem.W.Frag, K.In h ∧ obsO t ex K = valO t
  of := fun _ _ e => ⟨_, frG_in, e⟩
  keeps := fun _ _ _ ⟨K, hK, c⟩ k => ⟨K, PySem.W.Frag.In.keeps hK k, c⟩
theorem obsOG_eq {n : Nat} {t : Top} {ex : PySem.W.Frag → Bool} {g : Addr → Option Obj} {s : Shared} (h : ∀ a, g a = s.heap.get? a) : obsOG n t ex g = (hookO n t ex).obs s := by
  have e : g = s.heap.get? := funext h
  rw [e]
  rfl
/-- what it says -/
structure Says (t : Top) (ex : PySem.W.Frag → Bool) (K : PySem.W.Frag) : Prop where
  fns : ∀ f ∈ t.fns, fnB t K f = true
  mets : ∀ f ∈ t.mets, metB t K f = true
  clss : ∀ f ∈ t.clss, clsB t K f = true
  flds : ∀ q ∈ t.flds, PySem.W.findIn K (.ref (adOf t K q.1)) q.2 = some none
  xcs : ∀ f ∈ t.xcs, xcB t K f = true
  bins : ∀ x ∈ t.bins, PySem.W.nsIn K mainGlobals x = some none
  glos : ∀ q ∈ t.glos, gloB K q = true
  more : ex K = true
  defs : ∀ f d, t.defs.lookup f = some d → ∃ fd, FunD K d.name d.qual d.params d.body d.scope (d.dvs K) (d.kws K) (adOf t K f) fd
theorem lookup_mem' {α : Type} {f : Str} {a : α} : ∀ {l : List (Str × α)}, l.lookup f = some a → (f, a) ∈ l
  | [], h => by simp at h
  | (g, b) :: l, h => by
    simp only [List.lookup_cons] at h
    split at h
    · rename_i hg
      cases h
      have e : f = g := by simpa using hg
      subst e
      exact List.mem_cons_self
    · exact List.mem_cons_of_mem _ (lookup_mem' h)
theorem says_of {t : Top} {ex : PySem.W.Frag → Bool} {K : PySem.W.Frag} (e : obsO t ex K = valO t) : Says t ex K := by
  have e1 : t.ok ex K = true := congrArg (fun z : AlO => z.1) e
  have e2 : (t.defs.map fun d => fnW K d.2.at_) = t.defs.map fun d => d.2.val := congrArg (fun z : AlO => z.2) e
  obtain ⟨h1, e1⟩ := ba e1
  obtain ⟨h2, e1⟩ := ba e1
  obtain ⟨h3, e1⟩ := ba e1
  obtain ⟨h4, e1⟩ := ba e1
  obtain ⟨h5, e1⟩ := ba e1
  obtain ⟨h6, e1⟩ := ba e1
  obtain ⟨h7, e1⟩ := ba e1
  obtain ⟨h8, h9⟩ := ba e1
  refine ⟨List.all_eq_true.mp h1, List.all_eq_true.mp h2, List.all_eq_true.mp h3, fun q hq => eqO_ok (List.all_eq_true.mp h4 q hq), List.all_eq_true.mp h5, fun x hx => eqO_ok (List.all_eq_true.mp h6 x hx), List.all_eq_true.mp h7, h8, fun f d hd => ?_⟩
  have hm := lookup_mem' hd
  obtain ⟨i, hi, ei⟩ := List.mem_iff_getElem.mp hm
  have e3 : (t.defs.map fun d => fnW K d.2.at_)[i]? = (t.defs.map fun d => d.2.val)[i]? := by rw [e2]
  rw [List.getElem?_map, List.getElem?_map, List.getElem?_eq_getElem hi, ei] at e3
  have e4 : fnW K d.at_ = d.val := Option.some.inj e3
  have e5 : adOf t K f = fAd K d.at_ := by
    unfold adOf
    rw [hd]
  rw [e5]
  exact DefD.funD e4 (List.all_eq_true.mp h9 _ hm)
section
variable {t : Top} {ex : PySem.W.Frag → Bool} {K : PySem.W.Frag} {h : Heap} {mg : Str → Option Value} {p : Pg}
theorem sta_of (X : K.In h) (G : h.Ns mainGlobals mg) (c : Says t ex K) (hg : p.glo = fun x => t.glos.lookup x) : Sta p t.nm K mg (adOf t K) where
  glo := fun x u hx => by
    rw [hg] at hx
    have q := c.glos _ (lookup_mem' hx)
    unfold gloB at q
    split at q
    · rename_i w hw
      obtain ⟨v, r, ru⟩ := relK_ok q
      exact ⟨w, v, PySem.W.mg_of X G hw, r, ru⟩
    · cases q
  fn := fun f hf => by
    obtain ⟨h1, h2⟩ := ba (c.fns f hf)
    exact ⟨PySem.W.mg_of X G (eqO_ok h1), h2⟩
  met := fun C m hm => by
    obtain ⟨h1, q⟩ := ba (c.mets _ hm)
    obtain ⟨h2, q⟩ := ba q
    obtain ⟨h3, q⟩ := ba q
    obtain ⟨h4, q⟩ := ba q
    obtain ⟨h5, q⟩ := ba q
    obtain ⟨h6, h7⟩ := ba q
    exact ⟨⟨eqO_ok h1, h2, h3⟩, eqO_ok h4, of_decide_eq_true h5, by simpa using h6, h7⟩
  cls := fun C hC => by
    obtain ⟨h1, q⟩ := ba (c.clss _ hC)
    obtain ⟨h2, q⟩ := ba q
    obtain ⟨h3, q⟩ := ba q
    obtain ⟨h4, h5⟩ := ba q
    have e1 : adOf t K C = ga K C := of_decide_eq_true h2
    have e2 : adOf t K (C ++ ".__init__") = ma K (ga K C) "__init__" := of_decide_eq_true h5
    refine ⟨PySem.W.mg_of X G (eqO_ok h1), ?_, ?_⟩
    · rw [e1]; exact cls_ok h3
    · rw [e1, e2]; exact mkr_ok h4
  fld := fun C f hf => c.flds _ hf
  bin := fun x hx => PySem.W.mg_none_of X G (c.bins x hx)
/-- a def without defaults -/
theorem fun_of {st : Stmt} {x qual : Str} {f : Addr} {fd : FuncData} (F : FunD K x qual (defArgs st) (defBody st) (defScope st) [] [] f fd) : L2.Fun K x qual st f fd := by
  obtain ⟨oc, od, dV, kV, doc, pm, an, cdv, ct, osl, rfl, lk, hcd, hd, _⟩ := F.ex
  have e : dV = .none := by
    rcases hd with h | h
    · exact h.2
    · exact absurd rfl h.1
  subst e
  exact ⟨⟨oc, od, kV, doc, pm, an, cdv, ct, osl, rfl, lk, hcd⟩, F.kp⟩
/-- an exception's __init__: self.f = f -/
theorem xc_of {P : Program} {w : World} {base : Heap} {C f par : Str} {st : Stmt} {fd : FuncData} {p1 p2 p3 p4 : Pos} (X : K.In h) (G : h.Ns mainGlobals mg) (c : Says t ex K) (hm : (C, f) ∈ t.xcs) (F : L2.Fun K "__init__" (C ++ ".__init__") st (adOf t K (C ++ ".__init__")) fd) (hb : Binds K fd ["self", par] [])
    (S : FnScope ["self", par] ["self", par] (defScope st)) (eb : defBody st = [.Assign [.Attribute (.Name "self" p1) f p2] (.Name par p3) p4])
    (v0 : (defScope st).names.lookup ("self" : Str) = some .local) (v1 : (defScope st).names.lookup par = some .local) (hd : (par == ("__debug__" : Str)) = false) (hcd : (par == ("__classdict__" : Str)) = false)
    (hs : ∀ env : PySem.Env, swapsWith (.Name par p3) (some (.Attribute (.Name "self" p1) f p2)) p4.line env = pure false) : XcOk P w K mg base (adOf t K) C f := by
  obtain ⟨h1, q⟩ := ba (c.xcs _ hm)
  obtain ⟨h2, q⟩ := ba q
  obtain ⟨h3, q⟩ := ba q
  obtain ⟨h4, q⟩ := ba q
  obtain ⟨h5, q⟩ := ba q
  obtain ⟨h6, q⟩ := ba q
  obtain ⟨h7, q⟩ := ba q
  obtain ⟨h8, h9⟩ := ba q
  have T : OexC K (adOf t K C) := ⟨oexB_ok h2, eqO_ok h3, of_decide_eq_true h4, of_decide_eq_true h5, h8⟩
  refine ⟨PySem.W.mg_of X G (eqO_ok h1), T, eqO_ok h6, of_decide_eq_true h7, ⟨fd, ["self", par], ?_, hb⟩, h8⟩
  refine F.okX (k := 0) S (fun vs H Q E z => ?_) fun cdv A outer s H vs Q E hr z => ?_
  · obtain ⟨a, y, rfl, _⟩ := z
    rfl
  · obtain ⟨a, y, rfl, e, z⟩ := z
    refine ⟨_, by rw [eb]; exact pss_one (ps_ost (f := f) (pe_var (i := 0) rfl (.inl v0)) (pe_var (i := 1) rfl (.inl v1) hd hcd) (hs _)), ?_⟩
    exact ⟨y, rfl, .ref a, rfl, a, _, rfl, T, eqO_ok h9, .inl ⟨e, fun dx hdx hne => z dx hdx hne⟩⟩
end
end Oz
namespace Oz
open PySem PySem.Spec PyProof.Rows L2 He
/-! ### the law -/
def spLaw (K : PySem.W.Frag) : Sp := fun vs H Q _ => ∃ (a : Addr) (ns : List Int), vs = [.ref a] ∧ Only H ∧ SqL K H a (ns.map V.int) ∧ ns.length ≤ 63 ∧ ∀ H', Q (.bl true) H'
theorem froL_of {K : PySem.W.Frag} {H : Hp} {a : Addr} {vs : List V} (h : SqL K H a vs) (o : Only H) : FroL K H a vs := by
  rcases h with (h | h) | h
  · rcases o a with z | ⟨ob, xs, z⟩
    · rw [h] at z; cases z
    · rw [h] at z; cases z
  · exact .inl h
  · exact .inr h
theorem rel_ints {K : PySem.W.Frag} {ρ : List Addr} {H : Hp} : ∀ ns : List Int, RelUs K ρ H (ns.map U.int) (ns.map V.int)
  | [] => RelUs.nil
  | _ :: ns => RelUs.cons relInt (rel_ints ns)
section
variable {P : Program} {w : World} {K : PySem.W.Frag} {mg : Str → Option Value} {base : Heap} {p : Pg} {nm : Names} {ad : Str → Addr}
theorem fn_law {x qual : Str} {st : Stmt} {f : Addr} {fd : FuncData} {N : List Str} {body : Sts} (F : L2.Fun K x qual st f fd) (S : FnScope N ["script"] (defScope st)) (A : AllFn P w K mg base p nm ad 677)
    (D : ∀ (X : Cx) (cdv : Value) (A : Around) (outer : List PySem.Env) (s : Shared) (H : Hp) (E : XK), X = cxOf (L2.CX P w) P w K mg base N qual (defScope st) f cdv A outer s H E → Ok X p nm ad 677 E → PSs X (defBody st) (tB X (p.cal 677) E body))
    (law : ∀ ns : List Int, ns.length ≤ 63 → ∃ S', (⟨1, N.length, false, body⟩ : Df).run (p.cal 677) [.loc 0] [.fro (ns.map U.int)] = .ok (.bl true) S') : FnOk P w K mg base (L2.CX P w) 231 f fd ["script"] (spLaw K) := by
  obtain ⟨oc, od, kV, doc, pm, an, cdv, ct, osl, rfl, lk, hcd⟩ := F.ex
  refine ⟨fun vs H Q E h => ?_, fun A0 outer s H args us vs Q E hr e0 hb r h => ?_⟩
  · obtain ⟨a, ns, rfl, _⟩ := h
    rfl
  · obtain ⟨a, ns, rfl, ho, hS, hl, q⟩ := h
    have w0 : Wok K mg [a] [.fro (ns.map U.int)] H := by
      refine ⟨rfl, fun m n b c c' h1 h2 h3 h4 g1 g2 => ?_, fun n b c h1 h2 => ?_⟩
      · cases m with
        | zero =>
          simp at h3
          subst h3
          cases g1
        | succ m => simp at h3
      · cases n with
        | zero =>
          simp at h1 h2
          subst h1 h2
          exact ⟨_, froL_of hS ho, rel_ints ns⟩
        | succ n => simp at h1
    obtain ⟨S', e⟩ := law ns hl
    refine run_body (k := 679) lk hcd S (Rm.of hr) e0 (G := fun xs H2 => xs = [.ref a] ∧ H2 = H) (fun A' Ex Q' z => hb _ _ _ _ (z s H [.ref a] us e0 Un.refl rfl (fun _ _ q => q) r rfl ⟨rfl, rfl⟩)) fun s2 H2 xs ⟨hx, hH⟩ hr2 => ?_
    subst hx hH
    refine ⟨_, D _ cdv A0 outer s2 H2 E rfl (A.ok hr2), [a], [.fro (ns.map U.int)], startU N.length [.loc 0], w0, env_start (RelUs.cons (relLoc rfl) RelUs.nil), fin_read ?_⟩
    have e' : (exs (p.cal 677) body (startU N.length [.loc 0]) [.fro (ns.map U.int)]).fin = .ok (.bl true) S' := e
    rw [e']
    intro ρ' H' b x w' rb
    cases rb.bl
    exact q H'
end
end Oz

end

section
set_option maxHeartbeats 4000000
/-! OzX: a try whose suite asks the caught exception. -/
namespace Oz
open PySem PySem.Spec PyProof.Rows L2 He
/-- what a caught class must say -/
structure XiC (K : PySem.W.Frag) (C : Addr) : Prop where
  xf : XfC K C
  cl : (PySem.W.clsIn K C).isSome = true
  ha : PySem.W.findIn K (.ref C) "__class__" = some (some (.builtin "object.__class__"))
  hn : PySem.W.specialIn K (.builtin "object.__class__") "__get__" = some (some (.builtin "getset_descriptor.__get__"))
  ht : PySem.W.takesIn K (.builtin "object.__class__") = some true
  hm : PySem.W.mroIn K C (.type "object") = some true
def xiB (K : PySem.W.Frag) (C : Addr) : Bool := xfB K C && ((PySem.W.clsIn K C).isSome && (eqO (PySem.W.findIn K (.ref C) "__class__") (some (some (.builtin "object.__class__"))) &&
  (eqO (PySem.W.specialIn K (.builtin "object.__class__") "__get__") (some (some (.builtin "getset_descriptor.__get__"))) && (decide (PySem.W.takesIn K (.builtin "object.__class__") = some true) && decide (PySem.W.mroIn K C (.type "object") = some true)))))
theorem xiB_ok {K : PySem.W.Frag} {C : Addr} (h : xiB K C = true) : XiC K C := by
  obtain ⟨h1, h⟩ := ba h
  obtain ⟨h2, h⟩ := ba h
  obtain ⟨h3, h⟩ := ba h
  obtain ⟨h4, h⟩ := ba h
  obtain ⟨h5, h6⟩ := ba h
  exact ⟨xfB_ok h1, h2, eqO_ok h3, eqO_ok h4, of_decide_eq_true h5, of_decide_eq_true h6⟩
/-- isinstance(e, c), e the caught exception, with its own dict -/
def rIsX (K : PySem.W.Frag) (a : Addr) (cls : Value) (d : Option Addr) : List V → Hp → VK → Prop := fun xs H Q => ∃ (C dd : Addr) (fs : List (Str × V)) (c : V) (cv : Value) (b : Bool), cls = .ref C ∧ d = some dd ∧ XiC K C ∧ H dd = some (.xd fs) ∧ xs = [.ref a, c] ∧ ClsV c cv ∧ PySem.W.kitOne K (.ref C) cv = some b ∧ Q (.bl b) H
theorem call_isX {X : Cx} {a : Addr} {oe : Obj} {cls : Value} {d : Option Addr} {pn : List (Addr × Obj)} (hz : Zc cls d oe) (hf : ∃ vs, oe.data = .fields vs) : CallR (X.suite a ((a, oe) :: pn)) (.builtin "isinstance") (rIsX X.K a cls d) := by
  rintro pins s σ H xs us Q I r ⟨C, dd, fs, c, cv, b, rfl, rfl, T, hd, rfl, k, e, q⟩
  obtain ⟨u1, u2, rfl, r1, r2⟩ := vals2 r
  obtain rfl : u1 = Value.ref a := r1
  have e2 := k.eq r2
  subst e2
  obtain ⟨ha, _⟩ := I.pin (a, oe) (List.mem_append_left _ List.mem_cons_self)
  obtain ⟨vs, hv⟩ := hf
  obtain ⟨mA, hns, hr⟩ := (show ObjOk X.prog X.w H s.heap dd (.xd fs) from I.hok dd _ hd)
  obtain ⟨od, ho, _⟩ := lookIn_ns hns
  have J : PySem.W.InstAt s.heap a oe C (some od) := ⟨ha, hz.1, by unfold PySem.W.notCls; rw [hv], by rw [hz.2]; exact ho⟩
  exact PySem.W.kia_one (PySem.W.kitx_exc T.cl T.xf.ga T.xf.gg T.xf.exC T.ha T.hn T.ht T.hm) I.kIn J e (fun z => nomatch z) fun tk => ⟨.bl b, H, I.kept (t' := tk) fun _ _ z => z, rfl, q⟩
/-- a call within a try -/
theorem pe_callT {X : Cx} {k : Nat} {a : Addr} {sp : Sp} {Wx : WX} {f : Str} {px pos : Pos} {e : Expr} {es : List Expr} {t : TA} (F : FnQ X.prog X.w X.K X.mg X.base (L2.CX X.prog X.w) k a sp) (hr : Rm k X.A) (hm : X.mg f = some (.ref a)) (hk : PySem.W.keepIn X.K (.ref a) = true) (tk : Takes X Wx) (ha : PA X (e :: es) t)
    (hg : Gl X f := by rfl) (hdb : (f == ("__debug__" : Str)) = false := by decide) (he : starEach (e :: es) X.env = (false, eval e X.env) :: starEach es X.env := by rfl) (hpl : (backTo pos (starEach es X.env)).any (·.1) = false := by rfl) :
    PE X (.Call (.Name f px) (e :: es) [] pos) (fun σ H Q => t σ H fun vs H1 => sp vs H1 Q (WE Wx σ)) := by
  refine ⟨fun pins s σ H Q I h => ?_⟩
  refine wpAny_Call_Name_kw (ld_glob I hg hm ?_ hdb)
  refine PySem.W.callWith_K (h₀ := X.base) I.ok.mod.kin hk (thn (ha.run pos pins s σ H _ I h) fun us s1 ⟨vs, H1, I1, r, q⟩ => ⟨I1.kIn, ?_⟩) he hpl
  refine wpAny_call (codeAny_mono (F X.A X.stack s1 H1 us vs Q (WE Wx σ) hr I1.env0 r q) fun z s' hz => ?_)
  match z, hz with
  | .error er, hz => exact passAt tk σ pins H1 s1 er s' I1 hz
  | .ok (.ret u), hz => exact I1.after hz
  | .ok .next, hz => exact hz.elim
  | .ok .brk, hz => exact hz.elim
  | .ok .cont, hz => exact hz.elim
section
variable {X : Cx} {a : Addr} {oe : Obj} {cls : Value} {d : Option Addr} {pn : List (Addr × Obj)} {i : Nat} {n : Str} {p1 p2 p3 pos : Pos}
/-- the reading of a question for the caught exception's class -/
def tIsX (K : PySem.W.Frag) (a : Addr) (cls : Value) (d : Option Addr) (i : Nat) (cv : Value) : TE := fun σ H Q => σ[i]? = some (some (.ref a)) ∧ ∃ (C dd : Addr) (fs : List (Str × V)) (b : Bool), cls = .ref C ∧ d = some dd ∧ XiC K C ∧ H dd = some (.xd fs) ∧ PySem.W.kitOne K (.ref C) cv = some b ∧ Q (.bl b) H
theorem pe_isX {x : Str} {c : V} {cv : Value} (hz : Zc cls d oe) (hf : ∃ vs, oe.data = .fields vs) (hN : X.N[i]? = some n) (hv : Vis X.env.scope n) (hc : PE (X.suite a ((a, oe) :: pn)) (.Name x p3) (tC c)) (k : ClsV c cv) (hm : X.mg "isinstance" = none) (hg : Gl X "isinstance" := by rfl)
    (hd : (n == ("__debug__" : Str)) = false := by decide) (hcd : (n == ("__classdict__" : Str)) = false := by decide)
    (he : starEach [.Name n p2, .Name x p3] X.env = (false, eval (.Name n p2) X.env) :: starEach [.Name x p3] X.env := by rfl) (he2 : starEach [Expr.Name x p3] X.env = (false, eval (.Name x p3) X.env) :: starEach [] X.env := by rfl) (hpl : (backTo pos (starEach [.Name x p3] X.env)).any (·.1) = false := by rfl) :
    PE (X.suite a ((a, oe) :: pn)) (.Call (.Name "isinstance" p1) [.Name n p2, .Name x p3] [] pos) (tIsX X.K a cls d i cv) := by
  refine PEw (pe_callB (X := X.suite a ((a, oe) :: pn)) (call_isX hz hf) hg hm boot_isinstance (pa_cons (pe_var (X := X.suite a ((a, oe) :: pn)) hN hv hd hcd) (pa_cons hc pa_nil he2) he) (by decide) (by decide) he hpl) fun σ H Q ⟨hσ, C, dd, fs, b, h1, h2, T, h3, h4, q⟩ => ?_
  exact ⟨.ref a, hσ, C, dd, fs, c, cv, b, h1, h2, T, h3, rfl, k, h4, q⟩
def tFx (K : PySem.W.Frag) (a : Addr) (cls : Value) (d : Option Addr) (i : Nat) (f : Str) : TE := fun σ H Q => σ[i]? = some (some (.ref a)) ∧ ∃ (C dd : Addr) (fs : List (Str × V)) (v : V), cls = .ref C ∧ d = some dd ∧ XfC K C ∧ PySem.W.findIn K (.ref C) f = some none ∧ H dd = some (.xd fs) ∧ fs.lookup f = some v ∧ Q v H
theorem pe_fx {f : Str} (hz : Zc cls d oe) (hf : ∃ vs, oe.data = .fields vs) (hN : X.N[i]? = some n) (hv : Vis X.env.scope n) (hd : (n == ("__debug__" : Str)) = false := by decide) (hcd : (n == ("__classdict__" : Str)) = false := by decide)
    (hb : attributeBase (.Name n p2) f X.env (eval (.Name n p2) X.env) = eval (.Name n p2) X.env := by rfl) : PE (X.suite a ((a, oe) :: pn)) (.Attribute (.Name n p2) f pos) (tFx X.K a cls d i f) := by
  refine ⟨fun pins s σ H Q I ⟨hσ, C, dd, fs, v, h1, h2, T, hno, h3, h4, q⟩ => ?_⟩
  exact (pe_xf T hno hz hf (pe_var (X := X.suite a ((a, oe) :: pn)) hN hv hd hcd) hb).run pins s σ H Q I ⟨.ref a, hσ, rfl, h1, dd, fs, v, h2, h3, h4, q⟩
end
/-- nothing leaves the law -/
theorem law0 {P : Program} {w : World} {K : PySem.W.Frag} {mg : Str → Option Value} {base : Heap} {k : Nat} {f : Addr} {fd : FuncData} {ps : List Str} (F : FnOk P w K mg base (L2.CX P w) k f fd ps (spLaw K)) : FnOk P w K mg base (fun _ _ _ _ _ _ => False) k f fd ps (spLaw K) := by
  refine ⟨fun vs H Q E q => F.len vs H Q E q, fun A outer s H args us vs Q E hr he hb hv hs => codeAny_mono (F.run A outer s H args us vs Q (fun _ _ _ => False) hr he hb hv hs) fun r s' z => ?_⟩
  match r, z with
  | .error e, ⟨_, _, _, _, _, _, _, _, _, _, _, _, hE⟩ => exact hE.elim
  | .ok (.ret u), z => exact z
  | .ok .next, z => exact z
  | .ok .brk, z => exact z
  | .ok .cont, z => exact z
end Oz

end

section
set_option maxHeartbeats 4000000
/-! OzS: running the small language step by step. -/
namespace Oz
open PySem PySem.Spec PyProof.Rows L2
section
variable {α β : Type} {Φ : Cal} {env : Env} {S : Sto} {a b : U} {i j : Int} {x y : Str} {k : Bool} {c f : Str} {fs : List (Str × U)} {us : List U}
theorem bind_ok {u : α} {g : α → Sto → R β} : (R.ok u S).bind g = g u S := rfl
theorem bind_exc {g : α → Sto → R β} : (R.exc c fs S : R α).bind g = .exc c fs S := rfl
theorem bind_bad {g : α → Sto → R β} : (R.bad : R α).bind g = .bad := rfl
theorem on_ok {u : α} {g : α → Sto → O} : (R.ok u S).on g = g u S := rfl
theorem on_exc {g : α → Sto → O} : (R.exc c fs S : R α).on g = .exc c fs S := rfl
theorem then_nx {g : Env → Sto → O} : (O.nx env S).then_ g = g env S := rfl
theorem then_ret {g : Env → Sto → O} : (O.ret a S).then_ g = .ret a S := rfl
theorem then_exc {g : Env → Sto → O} : (O.exc c fs S).then_ g = .exc c fs S := rfl
theorem then_bk {g : Env → Sto → O} : (O.bk env S).then_ g = .bk env S := rfl
theorem then_ct {g : Env → Sto → O} : (O.ct env S).then_ g = .ct env S := rfl
theorem turn_nx {g : Env → Sto → O} : (O.nx env S).turn g = g env S := rfl
theorem turn_ret {g : Env → Sto → O} : (O.ret a S).turn g = .ret a S := rfl
theorem turn_exc {g : Env → Sto → O} : (O.exc c fs S).turn g = .exc c fs S := rfl
theorem fin_nx : (O.nx env S).fin = .ok .non S := rfl
theorem fin_ret : (O.ret a S).fin = .ok a S := rfl
theorem fin_exc : (O.exc c fs S).fin = .exc c fs S := rfl
theorem rO_some {u : α} : rO (some u) S = .ok u S := rfl
theorem noex_ok {u : α} : (R.ok u S).noex = .ok u S := rfl
theorem ev_v (n : Nat) : ev Φ (.v n) env S = (match env[n]? with | some (some u) => .ok u S | _ => .bad) := rfl
theorem ev_v' {n : Nat} {u : U} (h : env[n]? = some (some u)) : ev Φ (.v n) env S = .ok u S := by rw [ev_v, h]
theorem ev_k {u : U} : ev Φ (.k u) env S = .ok u S := rfl
theorem ev_g {u : U} (h : Φ.glo x = some u) : ev Φ (.g x) env S = .ok u S := by rw [ev, h]; rfl
theorem ev_tup {es : Es} : ev Φ (.tup es) env S = (evs Φ es env S).bind fun us S => if us.length ≤ sizeLine then .ok (.tup us) S else .bad := rfl
theorem ev_lst {es : Es} : ev Φ (.lst es) env S = (evs Φ es env S).bind fun us S => if us.length ≤ sizeLine then .ok (.loc S.length) (S ++ [.lst us]) else .bad := rfl
theorem ev_bin {o : Op} {e e' : E} : ev Φ (.bin o e e') env S = (ev Φ e env S).bind fun x S => (ev Φ e' env S).bind fun y S => binU o x y S := rfl
theorem ev_neg {e : E} : ev Φ (.neg e) env S = (ev Φ e env S).bind fun x S => (match x with | .int i => .ok (.int (-i)) S | _ => .bad) := rfl
theorem ev_cmp {o : Cm} {e e' : E} : ev Φ (.cmp o e e') env S = (ev Φ e env S).bind fun x S => (ev Φ e' env S).bind fun y S => cmpU o x y S := rfl
theorem ev_and {e e' : E} : ev Φ (.and e e') env S = (ev Φ e env S).bind fun x S => (match x with | .bl true => ev Φ e' env S | .bl false => .ok (.bl false) S | _ => .bad) := rfl
theorem ev_or {e e' : E} : ev Φ (.or e e') env S = (ev Φ e env S).bind fun x S => (match x with | .bl true => .ok (.bl true) S | .bl false => ev Φ e' env S | _ => .bad) := rfl
theorem ev_not {e : E} : ev Φ (.not e) env S = (ev Φ e env S).bind fun x S => (match x with | .bl k => .ok (.bl (!k)) S | _ => .bad) := rfl
theorem ev_ife {t : T} {e e' : E} : ev Φ (.ife t e e') env S = (evt Φ t env S).bind fun k S => if k then ev Φ e env S else ev Φ e' env S := rfl
theorem ev_ix {e e' : E} : ev Φ (.ix e e') env S = (ev Φ e env S).bind fun x S => (ev Φ e' env S).bind fun y S => ixU x y S := rfl
theorem ev_sl {e : E} {l h : Eo} : ev Φ (.sl e l h) env S = (ev Φ e env S).bind fun x S => (evo Φ l env S).bind fun l S => (evo Φ h env S).bind fun h S => slU x l h S := rfl
theorem ev_fld {e : E} {C : Str} : ev Φ (.fld e C f) env S = (ev Φ e env S).bind fun x S => (match x with
      | .loc n => (match S[n]? with | some (.ins D fs) => if D = C then rO (fs.lookup f) S else .bad | _ => .bad)
      | _ => .bad) := rfl
theorem ev_call {es : Es} : ev Φ (.call f es) env S = (evs Φ es env S).bind fun us S => Φ.call f us S := rfl
theorem ev_meth {e : E} {C : Str} {es : Es} : ev Φ (.meth e C f es) env S = (ev Φ e env S).bind fun x S => (match x with
      | .loc n => (match S[n]? with
        | some (.ins D fs) => if D = C ∧ fs.lookup f = none then (evs Φ es env S).bind fun us S => Φ.call (C ++ "." ++ f) (.loc n :: us) S else .bad
        | _ => .bad)
      | _ => .bad) := rfl
theorem ev_mk {C : Str} {es : Es} : ev Φ (.mk C es) env S = (evs Φ es env S).bind fun us S => (Φ.init (C ++ ".__init__") (.loc S.length :: us) (S ++ [.ins C []])).bind fun u S' => (match u with | .non => .ok (.loc S.length) S' | _ => .bad) := rfl
theorem ev_bf {g : Bf} {es : Es} : ev Φ (.bf g es) env S = (evs Φ es env S).bind fun us S => bfU g us S := rfl
theorem ev_bm {g : Bm} {e : E} {es : Es} : ev Φ (.bm g e es) env S = (ev Φ e env S).bind fun x S => if tyB g x S then (evs Φ es env S).bind fun us S => bmU g x us S else .bad := rfl
theorem ev_lc {is : List Nat} {tp : Bool} {e e' : E} {t : T} : ev Φ (.lc is tp e e' t) env S = (ev Φ e' env S).bind fun x S => (match iterU S x with
      | some (us, src) => (lcI tp is (wipeE env is) (fun env S => (evt Φ t env S).noex) (fun env S => (ev Φ e env S).noex) S.length us src us (S ++ [.lst []])).bind fun _ S' => .ok (.loc S.length) S'
      | none => .bad) := rfl
theorem evo_no : evo Φ .no env S = .ok none S := rfl
theorem evo_so {e : E} : evo Φ (.so e) env S = (ev Φ e env S).bind fun x S => (match x with | .int i => .ok (some i) S | _ => .bad) := rfl
theorem evs_nil : evs Φ .nil env S = .ok [] S := rfl
theorem evs_cons {e : E} {es : Es} : evs Φ (.cons e es) env S = (ev Φ e env S).bind fun u S => (evs Φ es env S).bind fun us S => .ok (u :: us) S := rfl
theorem evs_star {e : E} {es : Es} : evs Φ (.star e es) env S = (ev Φ e env S).bind fun u S => (match items? S u with | some xs => (evs Φ es env S).bind fun us S => .ok (xs ++ us) S | none => .bad) := rfl
theorem evt_tt : evt Φ .tt env S = .ok true S := rfl
theorem evt_e {e : E} : evt Φ (.e e) env S = (ev Φ e env S).bind fun x S => rO (truU x S) S := rfl
theorem evt_and {e e' : T} : evt Φ (.and e e') env S = (evt Φ e env S).bind fun k S => if k then evt Φ e' env S else .ok false S := rfl
theorem evt_or {e e' : T} : evt Φ (.or e e') env S = (evt Φ e env S).bind fun k S => if k then .ok true S else evt Φ e' env S := rfl
theorem evt_not {e : T} : evt Φ (.not e) env S = (evt Φ e env S).bind fun k S => .ok (!k) S := rfl
theorem ex_set {tp : Bool} {is : List Nat} {e : E} : ex Φ (.set tp is e) env S = (ev Φ e env S).on fun u S => (match setN tp is u env with | some env => .nx env S | none => .bad) := rfl
theorem ex_sub {o i e : E} : ex Φ (.sub o i e) env S = (ev Φ e env S).on fun u S => (ev Φ o env S).on fun a S => (ev Φ i env S).on fun k S => (setItemU a k u S).on fun _ S => .nx env S := rfl
theorem ex_aug {n : Nat} {o : Op} {e : E} : ex Φ (.aug n o e) env S = (match env[n]? with | some (some a) => (ev Φ e env S).on fun b S => (augU o a b S).on fun u S => .nx (env.set n (some u)) S | _ => .bad) := rfl
theorem ex_aug' {n : Nat} {u : U} {o : Op} {e : E} (h : env[n]? = some (some u)) : ex Φ (.aug n o e) env S = (ev Φ e env S).on fun b S => (augU o u b S).on fun u S => .nx (env.set n (some u)) S := by rw [ex_aug, h]
theorem ex_fset {o : E} {C : Str} {e : E} : ex Φ (.fset o C f e) env S = (ev Φ e env S).on fun u S => (ev Φ o env S).on fun a S => (setFldU a C f u S).on fun _ S => .nx env S := rfl
theorem ex_faug {o : E} {C : Str} {op : Op} {e : E} : ex Φ (.faug o C f op e) env S = (ev Φ o env S).on fun a S => (match a with
      | .loc n => (match S[n]? with
        | some (.ins D fs) => if D = C then (match fs.lookup f with | some x => (ev Φ e env S).on fun y S => (augU op x y S).on fun z S => (setFldU (.loc n) C f z S).on fun _ S => .nx env S | none => .bad) else .bad
        | _ => .bad)
      | _ => .bad) := rfl
theorem ex_ex {e : E} : ex Φ (.ex e) env S = (ev Φ e env S).on fun _ S => .nx env S := rfl
theorem ex_ret {e : E} : ex Φ (.ret e) env S = (ev Φ e env S).on fun u S => .ret u S := rfl
theorem ex_if {t : T} {s s' : Sts} : ex Φ (.if_ t s s') env S = (evt Φ t env S).on fun k S => if k then exs Φ s env S else exs Φ s' env S := rfl
theorem ex_while {t : T} {s : Sts} : ex Φ (.while_ t s) env S = loopI (fun env S => evt Φ t env S) (fun env S => exs Φ s env S) fuel env S := rfl
theorem ex_for {tp : Bool} {is : List Nat} {e : E} {s : Sts} : ex Φ (.for_ tp is e s) env S = (ev Φ e env S).on fun x S => (match iterU S x with
      | some (us, src) => forI tp is (fun env S => exs Φ s env S) us src us env S
      | none => .bad) := rfl
theorem ex_raise {C : Str} {e : E} {g : Str} (h : Φ.xf C = some g) : ex Φ (.raise C e) env S = (ev Φ e env S).on fun u S => .exc C [(g, u)] S := by rw [ex, h]
theorem exs_nil : exs Φ .nil env S = .nx env S := rfl
theorem exs_cons {s : St} {ss : Sts} : exs Φ (.cons s ss) env S = (ex Φ s env S).then_ fun env S => exs Φ ss env S := rfl
theorem tru_bl : truU (.bl k) S = some k := rfl
theorem tru_int : truU (.int i) S = some (i != 0) := rfl
theorem add_int : binU .add (.int i) (.int j) S = .ok (.int (i + j)) S := rfl
theorem sub_int : binU .sub (.int i) (.int j) S = .ok (.int (i - j)) S := rfl
theorem add_str (h : x.length + y.length ≤ sizeLine) : binU .add (.str x) (.str y) S = .ok (.str (x ++ y)) S := if_pos h
theorem add_tup {xs ys : List U} (h : xs.length + ys.length ≤ sizeLine) : binU .add (.tup xs) (.tup ys) S = .ok (.tup (xs ++ ys)) S := if_pos h
theorem aug_add_int : augU .add (.int i) (.int j) S = .ok (.int (i + j)) S := rfl
theorem aug_sub_int : augU .sub (.int i) (.int j) S = .ok (.int (i - j)) S := rfl
theorem c_eq_int : cmpU .eq (.int i) (.int j) S = .ok (.bl (decide (i = j))) S := rfl
theorem c_ne_int : cmpU .ne (.int i) (.int j) S = .ok (.bl (!decide (i = j))) S := rfl
theorem c_lt_int : cmpU .lt (.int i) (.int j) S = .ok (.bl (decide (i < j))) S := rfl
theorem c_le_int : cmpU .le (.int i) (.int j) S = .ok (.bl (decide (i ≤ j))) S := rfl
theorem c_gt_int : cmpU .gt (.int i) (.int j) S = .ok (.bl (decide (j < i))) S := rfl
theorem c_ge_int : cmpU .ge (.int i) (.int j) S = .ok (.bl (decide (j ≤ i))) S := rfl
theorem c_eq_str : cmpU .eq (.str x) (.str y) S = .ok (.bl (decide (x = y))) S := rfl
theorem c_ne_str : cmpU .ne (.str x) (.str y) S = .ok (.bl (!decide (x = y))) S := rfl
theorem ix_tup {xs : List U} : ixU (.tup xs) (.int i) S = (match atI xs i with | some u => .ok u S | none => .bad) := rfl
theorem ix_loc {n : Nat} {xs : List U} (h : S[n]? = some (.lst xs)) : ixU (.loc n) (.int i) S = (match atI xs i with | some u => .ok u S | none => .bad) := by
  simp only [ixU, items?, h] <;> rfl
theorem atI_nat_own {xs : List α} {n : Nat} {u : α} (h : xs[n]? = some u) : atI xs (n : Int) = some u := by
  have hl : n < xs.length := (List.getElem?_eq_some_iff.mp h).1
  unfold atI ixN
  rw [if_pos (by omega), if_pos (by omega)]
  simpa using h
theorem set_int {n : Nat} : setN false [n] a env = some (env.set n (some a)) := rfl
theorem set_tup {is : List Nat} (h : us.length = is.length) : setN true is (.tup us) env = some (setAll is us env) := if_pos h
theorem set_same {S : Sto} {n : Nat} {c : Cel} (h : S[n]? = some c) : S.set n c = S := by
  obtain ⟨hn, e⟩ := List.getElem?_eq_some_iff.mp h
  subst e
  simp
/-- a comprehension, all items taken -/
theorem lcI_all {tp : Bool} {is : List Nat} {env : Env} {c : Env → Sto → R Bool} {f : Env → Sto → R U} {n : Nat} {all : List U} {src : Option Nat} {g : U → U} : ∀ {us : List U} {S : Sto} {acc : List U}
    (hc : ∀ u ∈ us, ∃ env', setN tp is u env = some env' ∧ ∀ S, c env' S = .ok true S ∧ f env' S = .ok (g u) S) (hs : ∀ x, stays (S.set n (.lst x)) all src = true) (hS : S[n]? = some (.lst acc)) (hz : acc.length + us.length ≤ sizeLine),
    lcI tp is env c f n all src us S = .ok () (S.set n (.lst (acc ++ us.map g)))
  | [], S, acc, hc, hs, hS, hz => by
    have h0 : stays S all src = true := by have := hs acc; rwa [set_same hS] at this
    unfold lcI
    rw [if_pos h0, List.map_nil, List.append_nil, set_same hS]
  | u :: us, S, acc, hc, hs, hS, hz => by
    have h0 : stays S all src = true := by have := hs acc; rwa [set_same hS] at this
    obtain ⟨env', e1, e2⟩ := hc u List.mem_cons_self
    have hn : n < S.length := (List.getElem?_eq_some_iff.mp hS).1
    unfold lcI
    rw [if_pos h0]
    simp only [e1, (e2 S).1, (e2 S).2, bind_ok, if_true]
    have hp : pushAt n (g u) S = .ok () (S.set n (.lst (acc ++ [g u]))) := by
      unfold pushAt
      simp only [hS]
      rw [if_pos (by simp at hz; omega)]
    simp only [hp, bind_ok]
    rw [lcI_all (g := g) (acc := acc ++ [g u]) (fun v hv => hc v (List.mem_cons_of_mem _ hv)) (fun x => by rw [List.set_set]; exact hs x) (by rw [List.getElem?_set_self hn]) (by simp at hz ⊢; omega)]
    simp [List.set_set]
theorem last_get {S : Sto} {c : Cel} : (S ++ [c])[S.length]? = some c := by simp
theorem last_set {S : Sto} {c c' : Cel} : (S ++ [c]).set S.length c' = S ++ [c'] := by simp
theorem max_loc {S : Sto} {n : Nat} {us : List U} {ns : List Int} (h : S[n]? = some (.lst us)) (hi : intsU us = some ns) (hp : 0 < ns.length) : bfU .max [.loc n] S = .ok (.int (maxI ns)) S := by
  unfold bfU maxF
  simp only [list?, h, Option.bind_some, hi]
  rw [if_pos hp]
theorem tup_loc {S : Sto} {n : Nat} {us : List U} (h : S[n]? = some (.lst us)) : bfU .tup [.loc n] S = .ok (.tup us) S := by
  unfold bfU tupF
  simp only [items?, h]
theorem len_loc {S : Sto} {n : Nat} {us : List U} (h : S[n]? = some (.lst us)) : bfU .len [.loc n] S = .ok (.int us.length) S := by
  unfold bfU lenF lenU
  simp only [items?, h, Option.map_some]
theorem len_tup {S : Sto} {us : List U} : bfU .len [.tup us] S = .ok (.int us.length) S := rfl
theorem len_str {S : Sto} {x : Str} (h : x.length ≤ sizeLine) : bfU .len [.str x] S = .ok (.int x.length) S := by
  simp only [bfU, lenF, lenU, h, if_true]
end
end Oz

end
local macro_rules
  | `(tactic| simp_arith [$ls,*] $[$l:location]?) => `(tactic| simp only [Oz.bind_ok, Oz.bind_exc, Oz.bind_bad, Oz.on_ok, Oz.on_exc, Oz.then_nx, Oz.then_ret, Oz.then_exc, Oz.then_bk, Oz.then_ct, Oz.turn_nx, Oz.turn_ret, Oz.turn_exc, Oz.fin_nx, Oz.fin_ret, Oz.fin_exc, Oz.rO_some, Oz.noex_ok,
      Oz.ev_v, Oz.ev_k, Oz.ev_tup, Oz.ev_lst, Oz.ev_bin, Oz.ev_neg, Oz.ev_cmp, Oz.ev_and, Oz.ev_or, Oz.ev_not, Oz.ev_ife, Oz.ev_ix, Oz.ev_sl, Oz.ev_fld, Oz.ev_call, Oz.ev_meth, Oz.ev_mk, Oz.ev_bf, Oz.ev_bm, Oz.ev_lc, Oz.evo_no, Oz.evo_so, Oz.evs_nil, Oz.evs_cons, Oz.evs_star, Oz.evt_tt, Oz.evt_e, Oz.evt_and, Oz.evt_or, Oz.evt_not,
      Oz.ex_set, Oz.ex_sub, Oz.ex_aug, Oz.ex_fset, Oz.ex_faug, Oz.ex_ex, Oz.ex_ret, Oz.ex_if, Oz.ex_while, Oz.ex_for, Oz.exs_nil, Oz.exs_cons, Oz.tru_bl, Oz.tru_int, Oz.add_int, Oz.sub_int, Oz.aug_add_int, Oz.aug_sub_int, Oz.c_eq_int, Oz.c_ne_int, Oz.c_lt_int, Oz.c_le_int, Oz.c_gt_int, Oz.c_ge_int, Oz.c_eq_str, Oz.c_ne_str, Oz.ix_tup,
      Oz.set_int, List.replicate_succ, List.replicate_zero, List.getElem?_cons_zero, List.getElem?_cons_succ, List.set_cons_zero, List.set_cons_succ, List.map_cons, List.map_nil, List.cons_append, List.nil_append, List.append_nil, if_true, if_false, Bool.false_eq_true, Bool.true_eq_false, decide_eq_true_eq, true_and, and_true, $ls,*] $[$l:location]?)
section
set_option maxHeartbeats 4000000

end

section
set_option maxHeartbeats 4000000
/-! The program halfnoted_k02_texts_that_are_refused in the small language (printed by wip/tools/gen.py). -/
namespace Pr
open PySem L2 Oz
def top (i : Nat) : Stmt := PySem.Challenge.pw_halfnoted_k02_texts_that_are_refused.main.body.getD i (.Pass ⟨0, 0, 0, 0⟩)
abbrev st_tokenize : Stmt := top 17
def T_tokenize : Sts := (.cons (.if_ (.e (.cmp .gt (.bf .len (.cons (.v 0) .nil)) (.g "MOST_CHARACTERS"))) (.cons (.raise "Unbounded" (.k (.str "text"))) .nil) .nil) (.cons (.set false [1] (.lst .nil)) (.cons (.set false [2] (.k (.int 0))) (.cons (.while_ (.e (.cmp .lt (.v 2) (.bf .len (.cons (.v 0) .nil)))) (.cons (.if_ (.e (.cmp .in_ (.ix (.v 0) (.v 2)) (.g "SEPARATORS"))) (.cons (.aug 2 .add (.k (.int 1))) .nil) (.cons (.set true [3, 2] (.call "token_at" (.cons (.v 0) (.cons (.v 2) .nil)))) (.cons (.ex (.bm .append (.v 1) (.cons (.v 3) .nil))) .nil))) .nil)) (.cons (.ret (.v 1)) .nil)))))
def N_tokenize : List Str := ["text", "tokens", "at", "token"]
abbrev st_token_at : Stmt := top 18
def T_token_at : Sts := (.cons (.if_ (.e (.cmp .in_ (.ix (.v 0) (.v 1)) (.g "LETTERS"))) (.cons (.ret (.call "name_at" (.cons (.v 0) (.cons (.v 1) .nil)))) .nil) .nil) (.cons (.if_ (.e (.cmp .in_ (.ix (.v 0) (.v 1)) (.g "DIGITS"))) (.cons (.ret (.call "number_at" (.cons (.v 0) (.cons (.v 1) .nil)))) .nil) .nil) (.cons (.ret (.call "sign_at" (.cons (.v 0) (.cons (.v 1) .nil)))) .nil)))
def N_token_at : List Str := ["text", "at"]
abbrev st_name_at : Stmt := top 19
def T_name_at : Sts := (.cons (.set false [2] (.call "run_end" (.cons (.v 0) (.cons (.v 1) (.cons (.g "NAME_CHARACTERS") .nil))))) (.cons (.set false [3] (.sl (.v 0) (.so (.v 1)) (.so (.v 2)))) (.cons (.if_ (.e (.cmp .in_ (.v 3) (.g "WORDS"))) (.cons (.ret (.tup (.cons (.tup (.cons (.k (.str "word")) (.cons (.v 3) (.cons (.v 1) .nil)))) (.cons (.v 2) .nil)))) .nil) .nil) (.cons (.if_ (.e (.cmp .gt (.bf .len (.cons (.v 3) .nil)) (.g "MOST_NAME_CHARACTERS"))) (.cons (.raise "Malformed" (.v 1)) .nil) .nil) (.cons (.ret (.tup (.cons (.tup (.cons (.k (.str "name")) (.cons (.v 3) (.cons (.v 1) .nil)))) (.cons (.v 2) .nil)))) .nil)))))
def N_name_at : List Str := ["text", "at", "end", "name"]
abbrev st_number_at : Stmt := top 20
def T_number_at : Sts := (.cons (.set false [2] (.call "run_end" (.cons (.v 0) (.cons (.v 1) (.cons (.g "DIGITS") .nil))))) (.cons (.set false [3] (.sl (.v 0) (.so (.v 1)) (.so (.v 2)))) (.cons (.if_ (.or (.e (.cmp .gt (.bf .len (.cons (.v 3) .nil)) (.g "MOST_DIGITS"))) (.e (.cmp .ge (.bf .int (.cons (.v 3) .nil)) (.g "NUMBERS_END")))) (.cons (.raise "Malformed" (.v 1)) .nil) .nil) (.cons (.if_ (.and (.e (.cmp .eq (.ix (.v 3) (.k (.int 0))) (.k (.str "0")))) (.e (.cmp .gt (.bf .len (.cons (.v 3) .nil)) (.k (.int 1))))) (.cons (.raise "Malformed" (.v 1)) .nil) .nil) (.cons (.if_ (.and (.e (.cmp .lt (.v 2) (.bf .len (.cons (.v 0) .nil)))) (.e (.cmp .in_ (.ix (.v 0) (.v 2)) (.g "NAME_CHARACTERS")))) (.cons (.raise "Malformed" (.v 1)) .nil) .nil) (.cons (.ret (.tup (.cons (.tup (.cons (.k (.str "number")) (.cons (.bf .int (.cons (.v 3) .nil)) (.cons (.v 1) .nil)))) (.cons (.v 2) .nil)))) .nil))))))
def N_number_at : List Str := ["text", "at", "end", "digits"]
abbrev st_sign_at : Stmt := top 21
def T_sign_at : Sts := (.cons (.for_ false [2] (.g "SIGNS") (.cons (.if_ (.e (.bm .startswith3 (.v 0) (.cons (.v 2) (.cons (.v 1) .nil)))) (.cons (.ret (.tup (.cons (.tup (.cons (.k (.str "sign")) (.cons (.v 2) (.cons (.v 1) .nil)))) (.cons (.bin .add (.v 1) (.bf .len (.cons (.v 2) .nil))) .nil)))) .nil) .nil) .nil)) (.cons (.raise "Malformed" (.v 1)) .nil))
def N_sign_at : List Str := ["text", "at", "sign"]
abbrev st_run_end : Stmt := top 22
def T_run_end : Sts := (.cons (.set false [3] (.v 1)) (.cons (.while_ (.and (.e (.cmp .lt (.v 3) (.bf .len (.cons (.v 0) .nil)))) (.e (.cmp .in_ (.ix (.v 0) (.v 3)) (.v 2)))) (.cons (.aug 3 .add (.k (.int 1))) .nil)) (.cons (.ret (.v 3)) .nil)))
def N_run_end : List Str := ["text", "at", "characters", "end"]
abbrev st_read : Stmt := top 28
def T_read : Sts := (.cons (.set false [1] (.mk "Reader" (.cons (.v 0) .nil))) (.cons (.set true [2, 3] (.meth (.v 1) "Reader" "read_expression" .nil)) (.cons (.ex (.meth (.v 1) "Reader" "finish" .nil)) (.cons (.ret (.v 2)) .nil))))
def N_read : List Str := ["text", "reader", "tree", "_"]
abbrev st_read_type : Stmt := top 29
def T_read_type : Sts := (.cons (.set false [1] (.mk "Reader" (.cons (.v 0) .nil))) (.cons (.set true [2, 3] (.meth (.v 1) "Reader" "read_annotation" .nil)) (.cons (.ex (.meth (.v 1) "Reader" "finish" .nil)) (.cons (.ret (.v 2)) .nil))))
def N_read_type : List Str := ["text", "reader", "tree", "_"]
abbrev st_leaf : Stmt := top 30
def T_leaf : Sts := (.cons (.ret (.tup (.cons (.v 0) (.cons (.k (.int 1)) .nil)))) .nil)
def N_leaf : List Str := ["tree"]
abbrev st_built : Stmt := top 31
def T_built : Sts := (.cons (.set false [2] (.bin .add (.k (.int 1)) (.bf .max (.cons (.lc [3, 4] true (.v 4) (.v 1) .tt) .nil)))) (.cons (.if_ (.e (.cmp .gt (.v 2) (.g "MOST_DEPTH"))) (.cons (.raise "Unbounded" (.k (.str "depth"))) .nil) .nil) (.cons (.ret (.tup (.cons (.bin .add (.v 0) (.bf .tup (.cons (.lc [3, 4] true (.v 3) (.v 1) .tt) .nil))) (.cons (.v 2) .nil)))) .nil)))
def N_built : List Str := ["head", "inner", "depth", "tree", "deep"]
abbrev st__law_state : Stmt := top 34
def T__law_state : Sts := (.cons (.set false [1] (.lc [2] false (.bf .abs (.cons (.v 2) .nil)) (.sl (.v 0) .no (.so (.k (.int 63)))) .tt)) (.cons (.if_ (.e (.cmp .eq (.bf .len (.cons (.v 1) .nil)) (.k (.int 0)))) (.cons (.set false [1] (.lst (.cons (.k (.int 0)) .nil))) .nil) .nil) (.cons (.ret (.lst (.cons (.k (.int 0)) (.cons (.v 1) .nil)))) .nil)))
def N__law_state : List Str := ["script", "cells", "cell"]
abbrev st__law_take : Stmt := top 35
def T__law_take : Sts := (.cons (.set false [2] (.ix (.v 0) (.k (.int 1)))) (.cons (.set false [3] (.bin .mod (.ix (.v 0) (.k (.int 0))) (.bf .len (.cons (.v 2) .nil)))) (.cons (.set false [4] (.ix (.v 2) (.v 3))) (.cons (.if_ (.e (.cmp .ge (.v 4) (.k (.int 1000000000000000000)))) (.cons (.sub (.v 2) (.v 3) (.bin .fdiv (.v 4) (.v 1))) (.cons (.ret (.bin .mod (.v 4) (.v 1))) .nil)) .nil) (.cons (.sub (.v 0) (.k (.int 0)) (.bin .add (.ix (.v 0) (.k (.int 0))) (.k (.int 1)))) (.cons (.set false [5] (.bin .mod (.bf .int (.cons (.bin .add (.bin .mul (.v 4) (.k (.int 48271))) (.bin .mul (.ix (.v 0) (.k (.int 0))) (.k (.int 69621)))) .nil)) (.k (.int 2147483647)))) (.cons (.set false [5] (.bin .mod (.bf .int (.cons (.bin .add (.bin .mul (.v 5) (.k (.int 16807))) (.bin .mul (.ix (.v 0) (.k (.int 0))) (.k (.int 7919)))) .nil)) (.k (.int 1000000007)))) (.cons (.ret (.bin .mod (.bin .fdiv (.v 5) (.k (.int 7))) (.v 1))) .nil))))))))
def N__law_take : List Str := ["state", "most", "cells", "at", "cell", "mixed"]
abbrev st__law_bits : Stmt := top 36
def T__law_bits : Sts := (.cons (.ret (.lcr [2] (.call "_law_take" (.cons (.v 0) (.cons (.k (.int 2)) .nil))) (.k (.int 0)) (.v 1) .tt)) .nil)
def N__law_bits : List Str := ["state", "count", "k"]
abbrev st__law_text : Stmt := top 37
def T__law_text : Sts := (.cons (.set false [2] (.call "_law_take" (.cons (.v 0) (.cons (.k (.int 9)) .nil)))) (.cons (.if_ (.or (.e (.cmp .eq (.v 1) (.k (.int 0)))) (.e (.cmp .lt (.v 2) (.k (.int 2))))) (.cons (.ret (.ix (.lst (.cons (.k (.str "x")) (.cons (.k (.str "12")) (.cons (.k (.str "true")) (.cons (.k (.str "y_1")) (.cons (.k (.str "unit")) (.cons (.k (.str "(f 3)")) (.cons (.k (.str "(1, 2)")) (.cons (.k (.str "(x : int)")) .nil))))))))) (.call "_law_take" (.cons (.v 0) (.cons (.k (.int 8)) .nil))))) .nil) .nil) (.cons (.set false [3] (.call "_law_text" (.cons (.v 0) (.cons (.bin .sub (.v 1) (.k (.int 1))) .nil)))) (.cons (.if_ (.e (.cmp .eq (.v 2) (.k (.int 2)))) (.cons (.ret (.bin .add (.bin .add (.k (.str "(")) (.v 3)) (.k (.str ")")))) .nil) .nil) (.cons (.if_ (.e (.cmp .eq (.v 2) (.k (.int 3)))) (.cons (.ret (.bin .add (.bin .add (.k (.str "fst (")) (.v 3)) (.k (.str ")")))) .nil) .nil) (.cons (.set false [4] (.call "_law_text" (.cons (.v 0) (.cons (.bin .sub (.v 1) (.k (.int 1))) .nil)))) (.cons (.if_ (.e (.cmp .eq (.v 2) (.k (.int 4)))) (.cons (.ret (.bin .add (.bin .add (.bin .add (.bin .add (.k (.str "(let z = ")) (.v 3)) (.k (.str " in "))) (.v 4)) (.k (.str ")")))) .nil) .nil) (.cons (.if_ (.e (.cmp .eq (.v 2) (.k (.int 5)))) (.cons (.ret (.bin .add (.bin .add (.bin .add (.bin .add (.k (.str "(if ")) (.v 3)) (.k (.str " then "))) (.v 4)) (.k (.str " else x)")))) .nil) .nil) (.cons (.ret (.bin .add (.bin .add (.bin .add (.bin .add (.k (.str "(")) (.v 3)) (.ix (.lst (.cons (.k (.str " + ")) (.cons (.k (.str " - ")) (.cons (.k (.str " * ")) (.cons (.k (.str " < ")) (.cons (.k (.str " == ")) (.cons (.k (.str ")(")) .nil))))))) (.call "_law_take" (.cons (.v 0) (.cons (.k (.int 6)) .nil))))) (.v 4)) (.k (.str ")")))) .nil)))))))))
def N__law_text : List Str := ["state", "depth", "kind", "one", "two"]
abbrev st__law_raised : Stmt := top 38
abbrev st__law_limit : Stmt := top 39
def T__law_limit : Sts := (.cons (.set false [3] (.call "_law_raised" (.cons (.v 0) (.cons (.v 1) .nil)))) (.cons (.if_ (.e (.v 2)) (.cons (.ret (.cmp .eq (.v 3) (.tup (.cons (.k (.str "none")) (.cons (.k (.int 0)) .nil))))) .nil) .nil) (.cons (.ret (.cmp .eq (.v 3) (.tup (.cons (.k (.str "name")) (.cons (.k (.str "depth")) .nil))))) .nil)))
def N__law_limit : List Str := ["text", "is_type", "is_good", "told"]
abbrev st__law_chains : Stmt := top 40
def T__law_chains : Sts := (.cons (.set false [1] (.bin .add (.k (.int 24)) (.call "_law_take" (.cons (.v 0) (.cons (.k (.int 12)) .nil))))) (.cons (.if_ (.not (.e (.call "_law_limit" (.cons (.bin .add (.bin .add (.bin .mul (.k (.str "(")) (.v 1)) (.k (.str "x"))) (.bin .mul (.k (.str ")")) (.v 1))) (.cons (.k (.bl false)) (.cons (.cmp .lt (.v 1) (.k (.int 30))) .nil)))))) (.cons (.ret (.k (.bl false))) .nil) .nil) (.cons (.if_ (.not (.e (.call "_law_limit" (.cons (.bin .add (.bin .mul (.k (.str "not ")) (.bin .add (.v 1) (.k (.int 30)))) (.k (.str "x"))) (.cons (.k (.bl false)) (.cons (.cmp .lt (.v 1) (.k (.int 29))) .nil)))))) (.cons (.ret (.k (.bl false))) .nil) .nil) (.cons (.if_ (.not (.e (.call "_law_limit" (.cons (.bin .add (.k (.str "1")) (.bin .mul (.k (.str " + 1")) (.bin .add (.v 1) (.k (.int 30))))) (.cons (.k (.bl false)) (.cons (.cmp .lt (.v 1) (.k (.int 30))) .nil)))))) (.cons (.ret (.k (.bl false))) .nil) .nil) (.cons (.if_ (.not (.e (.call "_law_limit" (.cons (.bin .add (.bin .mul (.k (.str "box ")) (.bin .add (.v 1) (.k (.int 30)))) (.k (.str "int"))) (.cons (.k (.bl true)) (.cons (.cmp .lt (.v 1) (.k (.int 30))) .nil)))))) (.cons (.ret (.k (.bl false))) .nil) .nil) (.cons (.ret (.call "_law_limit" (.cons (.bin .add (.k (.str "int")) (.bin .mul (.k (.str " -> int")) (.bin .add (.v 1) (.k (.int 30))))) (.cons (.k (.bl true)) (.cons (.cmp .lt (.v 1) (.k (.int 30))) .nil))))) .nil))))))
def N__law_chains : List Str := ["state", "many"]
abbrev st_law : Stmt := top 41
def T_law : Sts := (.cons (.set false [1] (.call "_law_state" (.cons (.v 0) .nil))) (.cons (.set false [2] (.call "_law_text" (.cons (.v 1) (.cons (.bin .add (.k (.int 1)) (.call "_law_take" (.cons (.v 1) (.cons (.k (.int 3)) .nil)))) .nil)))) (.cons (.set false [3] (.bf .len (.cons (.v 2) .nil))) (.cons (.if_ (.or (.e (.cmp .ne (.call "_law_raised" (.cons (.v 2) (.cons (.k (.bl false)) .nil))) (.tup (.cons (.k (.str "none")) (.cons (.k (.int 0)) .nil))))) (.e (.cmp .ne (.call "_law_raised" (.cons (.k (.str "")) (.cons (.k (.bl false)) .nil))) (.tup (.cons (.k (.str "at")) (.cons (.k (.int 0)) .nil)))))) (.cons (.ret (.k (.bl false))) .nil) .nil) (.cons (.if_ (.or (.e (.cmp .ne (.call "_law_raised" (.cons (.bin .add (.v 2) (.k (.str " )"))) (.cons (.k (.bl false)) .nil))) (.tup (.cons (.k (.str "at")) (.cons (.bin .add (.v 3) (.k (.int 1))) .nil))))) (.e (.cmp .ne (.call "_law_raised" (.cons (.bin .add (.k (.str "( ")) (.v 2)) (.cons (.k (.bl false)) .nil))) (.tup (.cons (.k (.str "at")) (.cons (.bin .add (.v 3) (.k (.int 2))) .nil)))))) (.cons (.ret (.k (.bl false))) .nil) .nil) (.cons (.if_ (.or (.e (.cmp .ne (.call "_law_raised" (.cons (.bin .add (.v 2) (.k (.str " +"))) (.cons (.k (.bl false)) .nil))) (.tup (.cons (.k (.str "at")) (.cons (.bin .add (.v 3) (.k (.int 2))) .nil))))) (.e (.cmp .ne (.call "_law_raised" (.cons (.bin .add (.v 2) (.k (.str " $ 1"))) (.cons (.k (.bl false)) .nil))) (.tup (.cons (.k (.str "at")) (.cons (.bin .add (.v 3) (.k (.int 1))) .nil)))))) (.cons (.ret (.k (.bl false))) .nil) .nil) (.cons (.if_ (.or (.e (.cmp .ne (.call "_law_raised" (.cons (.bin .add (.v 2) (.k (.str " * 07"))) (.cons (.k (.bl false)) .nil))) (.tup (.cons (.k (.str "at")) (.cons (.bin .add (.v 3) (.k (.int 3))) .nil))))) (.e (.cmp .ne (.call "_law_raised" (.cons (.bin .add (.v 2) (.k (.str " * 3a"))) (.cons (.k (.bl false)) .nil))) (.tup (.cons (.k (.str "at")) (.cons (.bin .add (.v 3) (.k (.int 3))) .nil)))))) (.cons (.ret (.k (.bl false))) .nil) .nil) (.cons (.if_ (.e (.cmp .ne (.call "_law_raised" (.cons (.bin .add (.v 2) (.k (.str " * 2147483648"))) (.cons (.k (.bl false)) .nil))) (.tup (.cons (.k (.str "at")) (.cons (.bin .add (.v 3) (.k (.int 3))) .nil))))) (.cons (.ret (.k (.bl false))) .nil) .nil) (.cons (.if_ (.e (.cmp .ne (.call "_law_raised" (.cons (.bin .add (.v 2) (.k (.str " * 2147483647"))) (.cons (.k (.bl false)) .nil))) (.tup (.cons (.k (.str "none")) (.cons (.k (.int 0)) .nil))))) (.cons (.ret (.k (.bl false))) .nil) .nil) (.cons (.if_ (.e (.cmp .notIn (.call "_law_raised" (.cons (.bin .add (.bin .add (.v 2) (.k (.str " < "))) (.bin .mul (.k (.str "a")) (.k (.int 21)))) (.cons (.k (.bl false)) .nil))) (.lst (.cons (.tup (.cons (.k (.str "at")) (.cons (.bin .add (.v 3) (.k (.int 3))) .nil))) .nil)))) (.cons (.ret (.k (.bl false))) .nil) .nil) (.cons (.if_ (.e (.cmp .ne (.call "_law_raised" (.cons (.bin .add (.k (.str "fun x : int, bool => ")) (.v 2)) (.cons (.k (.bl false)) .nil))) (.tup (.cons (.k (.str "at")) (.cons (.k (.int 11)) .nil))))) (.cons (.ret (.k (.bl false))) .nil) .nil) (.cons (.if_ (.or (.e (.cmp .ne (.call "_law_raised" (.cons (.bin .add (.k (.str "let in = 1 in ")) (.v 2)) (.cons (.k (.bl false)) .nil))) (.tup (.cons (.k (.str "at")) (.cons (.k (.int 4)) .nil))))) (.e (.cmp .ne (.call "_law_raised" (.cons (.k (.str "1 == 2 == 3")) (.cons (.k (.bl false)) .nil))) (.tup (.cons (.k (.str "at")) (.cons (.k (.int 7)) .nil)))))) (.cons (.ret (.k (.bl false))) .nil) .nil) (.cons (.if_ (.or (.e (.cmp .ne (.call "_law_raised" (.cons (.bin .add (.k (.str "1")) (.bin .mul (.k (.str " ")) (.k (.int 9999)))) (.cons (.k (.bl false)) .nil))) (.tup (.cons (.k (.str "none")) (.cons (.k (.int 0)) .nil))))) (.e (.cmp .ne (.call "_law_raised" (.cons (.bin .add (.k (.str "1")) (.bin .mul (.k (.str " ")) (.k (.int 10000)))) (.cons (.k (.bl false)) .nil))) (.tup (.cons (.k (.str "name")) (.cons (.k (.str "text")) .nil)))))) (.cons (.ret (.k (.bl false))) .nil) .nil) (.cons (.ret (.call "_law_chains" (.cons (.v 1) .nil))) .nil))))))))))))))
def N_law : List Str := ["script", "state", "text", "size"]
abbrev st_Reader__init_ : Stmt := inClass (top 32) 0
def T_Reader__init_ : Sts := (.cons (.fset (.v 0) "Reader" "tokens" (.call "tokenize" (.cons (.v 1) .nil))) (.cons (.ex (.bm .append (.fld (.v 0) "Reader" "tokens") (.cons (.tup (.cons (.k (.str "end")) (.cons (.k (.str "")) (.cons (.bf .len (.cons (.v 1) .nil)) .nil)))) .nil))) (.cons (.fset (.v 0) "Reader" "done" (.k (.int 0))) (.cons (.fset (.v 0) "Reader" "opened" (.k (.int 0))) .nil))))
def N_Reader__init_ : List Str := ["self", "text"]
abbrev st_Reader_sees : Stmt := inClass (top 32) 1
def T_Reader_sees : Sts := (.cons (.ret (.cmp .in_ (.ix (.ix (.fld (.v 0) "Reader" "tokens") (.fld (.v 0) "Reader" "done")) (.k (.int 1))) (.v 1))) .nil)
def N_Reader_sees : List Str := ["self", "values"]
abbrev st_Reader_take : Stmt := inClass (top 32) 2
def T_Reader_take : Sts := (.cons (.if_ (.not (.e (.meth (.v 0) "Reader" "sees" (.star (.v 1) .nil)))) (.cons (.ex (.meth (.v 0) "Reader" "refuse" .nil)) .nil) .nil) (.cons (.faug (.v 0) "Reader" "done" .add (.k (.int 1))) (.cons (.ret (.ix (.ix (.fld (.v 0) "Reader" "tokens") (.bin .sub (.fld (.v 0) "Reader" "done") (.k (.int 1)))) (.k (.int 1)))) .nil)))
def N_Reader_take : List Str := ["self", "values"]
abbrev st_Reader_skips : Stmt := inClass (top 32) 3
def T_Reader_skips : Sts := (.cons (.set false [2] (.meth (.v 0) "Reader" "sees" (.cons (.v 1) .nil))) (.cons (.if_ (.e (.v 2)) (.cons (.faug (.v 0) "Reader" "done" .add (.k (.int 1))) .nil) .nil) (.cons (.ret (.v 2)) .nil)))
def N_Reader_skips : List Str := ["self", "value", "found"]
abbrev st_Reader_take_name : Stmt := inClass (top 32) 4
def T_Reader_take_name : Sts := (.cons (.set true [1, 2, 3] (.ix (.fld (.v 0) "Reader" "tokens") (.fld (.v 0) "Reader" "done"))) (.cons (.if_ (.e (.cmp .ne (.v 1) (.k (.str "name")))) (.cons (.ex (.meth (.v 0) "Reader" "refuse" .nil)) .nil) .nil) (.cons (.faug (.v 0) "Reader" "done" .add (.k (.int 1))) (.cons (.ret (.v 2)) .nil))))
def N_Reader_take_name : List Str := ["self", "kind", "value", "_"]
abbrev st_Reader_refuse : Stmt := inClass (top 32) 5
def T_Reader_refuse : Sts := (.cons (.raise "Malformed" (.ix (.ix (.fld (.v 0) "Reader" "tokens") (.fld (.v 0) "Reader" "done")) (.k (.int 2)))) .nil)
def N_Reader_refuse : List Str := ["self"]
abbrev st_Reader_finish : Stmt := inClass (top 32) 6
def T_Reader_finish : Sts := (.cons (.if_ (.e (.cmp .ne (.ix (.ix (.fld (.v 0) "Reader" "tokens") (.fld (.v 0) "Reader" "done")) (.k (.int 0))) (.k (.str "end")))) (.cons (.ex (.meth (.v 0) "Reader" "refuse" .nil)) .nil) .nil) .nil)
def N_Reader_finish : List Str := ["self"]
abbrev st_Reader_enter : Stmt := inClass (top 32) 7
def T_Reader_enter : Sts := (.cons (.if_ (.e (.cmp .eq (.fld (.v 0) "Reader" "opened") (.g "MOST_DEPTH"))) (.cons (.raise "Unbounded" (.k (.str "depth"))) .nil) .nil) (.cons (.faug (.v 0) "Reader" "opened" .add (.k (.int 1))) .nil))
def N_Reader_enter : List Str := ["self"]
abbrev st_Reader_leave : Stmt := inClass (top 32) 8
def T_Reader_leave : Sts := (.cons (.faug (.v 0) "Reader" "opened" .sub (.k (.int 1))) .nil)
def N_Reader_leave : List Str := ["self"]
abbrev st_Reader_read_expression : Stmt := inClass (top 32) 9
def T_Reader_read_expression : Sts := (.cons (.ex (.meth (.v 0) "Reader" "enter" .nil)) (.cons (.if_ (.e (.meth (.v 0) "Reader" "skips" (.cons (.k (.str "fun")) .nil))) (.cons (.set false [1] (.meth (.v 0) "Reader" "read_fun" .nil)) .nil) (.cons (.if_ (.e (.meth (.v 0) "Reader" "skips" (.cons (.k (.str "rec")) .nil))) (.cons (.set false [1] (.meth (.v 0) "Reader" "read_rec" .nil)) .nil) (.cons (.if_ (.e (.meth (.v 0) "Reader" "skips" (.cons (.k (.str "let")) .nil))) (.cons (.set false [1] (.meth (.v 0) "Reader" "read_let" .nil)) .nil) (.cons (.if_ (.e (.meth (.v 0) "Reader" "skips" (.cons (.k (.str "if")) .nil))) (.cons (.set false [1] (.meth (.v 0) "Reader" "read_if" .nil)) .nil) (.cons (.if_ (.e (.meth (.v 0) "Reader" "skips" (.cons (.k (.str "print")) .nil))) (.cons (.set false [1] (.meth (.v 0) "Reader" "read_print" .nil)) .nil) (.cons (.set false [1] (.meth (.v 0) "Reader" "read_comparison" .nil)) .nil)) .nil)) .nil)) .nil)) .nil)) (.cons (.ex (.meth (.v 0) "Reader" "leave" .nil)) (.cons (.ret (.v 1)) .nil))))
def N_Reader_read_expression : List Str := ["self", "found"]
abbrev st_Reader_read_fun : Stmt := inClass (top 32) 10
def T_Reader_read_fun : Sts := (.cons (.set false [1] (.meth (.v 0) "Reader" "take_name" .nil)) (.cons (.set false [2] (.g "UNWRITTEN")) (.cons (.if_ (.e (.meth (.v 0) "Reader" "skips" (.cons (.k (.str ":")) .nil))) (.cons (.set false [2] (.meth (.v 0) "Reader" "read_annotation" .nil)) .nil) .nil) (.cons (.ex (.meth (.v 0) "Reader" "take" (.cons (.k (.str "=>")) .nil))) (.cons (.set false [3] (.meth (.v 0) "Reader" "read_expression" .nil)) (.cons (.ret (.call "built" (.cons (.tup (.cons (.k (.str "fun")) (.cons (.v 1) .nil))) (.cons (.v 2) (.cons (.v 3) .nil))))) .nil))))))
def N_Reader_read_fun : List Str := ["self", "name", "given", "body"]
abbrev st_Reader_read_rec : Stmt := inClass (top 32) 11
def T_Reader_read_rec : Sts := (.cons (.set false [1] (.meth (.v 0) "Reader" "take_name" .nil)) (.cons (.ex (.meth (.v 0) "Reader" "take" (.cons (.k (.str "(")) .nil))) (.cons (.set false [2] (.meth (.v 0) "Reader" "take_name" .nil)) (.cons (.ex (.meth (.v 0) "Reader" "take" (.cons (.k (.str ":")) .nil))) (.cons (.set false [3] (.meth (.v 0) "Reader" "read_annotation" .nil)) (.cons (.ex (.meth (.v 0) "Reader" "take" (.cons (.k (.str ")")) .nil))) (.cons (.ex (.meth (.v 0) "Reader" "take" (.cons (.k (.str ":")) .nil))) (.cons (.set false [4] (.meth (.v 0) "Reader" "read_annotation" .nil)) (.cons (.ex (.meth (.v 0) "Reader" "take" (.cons (.k (.str "=>")) .nil))) (.cons (.set false [5] (.meth (.v 0) "Reader" "read_expression" .nil)) (.cons (.ret (.call "built" (.cons (.tup (.cons (.k (.str "rec")) (.cons (.v 1) (.cons (.v 2) .nil)))) (.cons (.v 3) (.cons (.v 4) (.cons (.v 5) .nil)))))) .nil)))))))))))
def N_Reader_read_rec : List Str := ["self", "own", "name", "given", "result", "body"]
abbrev st_Reader_read_let : Stmt := inClass (top 32) 12
def T_Reader_read_let : Sts := (.cons (.set false [1] (.meth (.v 0) "Reader" "take_name" .nil)) (.cons (.ex (.meth (.v 0) "Reader" "take" (.cons (.k (.str "=")) .nil))) (.cons (.set false [2] (.meth (.v 0) "Reader" "read_expression" .nil)) (.cons (.ex (.meth (.v 0) "Reader" "take" (.cons (.k (.str "in")) .nil))) (.cons (.set false [3] (.meth (.v 0) "Reader" "read_expression" .nil)) (.cons (.ret (.call "built" (.cons (.tup (.cons (.k (.str "let")) (.cons (.v 1) .nil))) (.cons (.v 2) (.cons (.v 3) .nil))))) .nil))))))
def N_Reader_read_let : List Str := ["self", "name", "bound", "body"]
abbrev st_Reader_read_if : Stmt := inClass (top 32) 13
def T_Reader_read_if : Sts := (.cons (.set false [1] (.meth (.v 0) "Reader" "read_expression" .nil)) (.cons (.ex (.meth (.v 0) "Reader" "take" (.cons (.k (.str "then")) .nil))) (.cons (.set false [2] (.meth (.v 0) "Reader" "read_expression" .nil)) (.cons (.ex (.meth (.v 0) "Reader" "take" (.cons (.k (.str "else")) .nil))) (.cons (.set false [3] (.meth (.v 0) "Reader" "read_expression" .nil)) (.cons (.ret (.call "built" (.cons (.tup (.cons (.k (.str "if")) .nil)) (.cons (.v 1) (.cons (.v 2) (.cons (.v 3) .nil)))))) .nil))))))
def N_Reader_read_if : List Str := ["self", "condition", "first", "second"]
abbrev st_Reader_read_print : Stmt := inClass (top 32) 14
def T_Reader_read_print : Sts := (.cons (.set false [1] (.meth (.v 0) "Reader" "read_sum" .nil)) (.cons (.ex (.meth (.v 0) "Reader" "take" (.cons (.k (.str ";")) .nil))) (.cons (.set false [2] (.meth (.v 0) "Reader" "read_expression" .nil)) (.cons (.ret (.call "built" (.cons (.tup (.cons (.k (.str "print")) .nil)) (.cons (.v 1) (.cons (.v 2) .nil))))) .nil))))
def N_Reader_read_print : List Str := ["self", "printed", "body"]
abbrev st_Reader_read_comparison : Stmt := inClass (top 32) 15
def T_Reader_read_comparison : Sts := (.cons (.set false [1] (.meth (.v 0) "Reader" "read_sum" .nil)) (.cons (.if_ (.not (.e (.meth (.v 0) "Reader" "sees" (.cons (.k (.str "<")) (.cons (.k (.str "==")) .nil))))) (.cons (.ret (.v 1)) .nil) .nil) (.cons (.set false [2] (.meth (.v 0) "Reader" "take" (.cons (.k (.str "<")) (.cons (.k (.str "==")) .nil)))) (.cons (.set false [3] (.meth (.v 0) "Reader" "read_sum" .nil)) (.cons (.ret (.call "built" (.cons (.tup (.cons (.k (.str "op")) (.cons (.v 2) .nil))) (.cons (.v 1) (.cons (.v 3) .nil))))) .nil)))))
def N_Reader_read_comparison : List Str := ["self", "left", "sign", "right"]
abbrev st_Reader_read_sum : Stmt := inClass (top 32) 16
def T_Reader_read_sum : Sts := (.cons (.set false [1] (.meth (.v 0) "Reader" "read_product" .nil)) (.cons (.while_ (.e (.meth (.v 0) "Reader" "sees" (.cons (.k (.str "+")) (.cons (.k (.str "-")) .nil)))) (.cons (.set false [2] (.meth (.v 0) "Reader" "take" (.cons (.k (.str "+")) (.cons (.k (.str "-")) .nil)))) (.cons (.set false [3] (.meth (.v 0) "Reader" "read_product" .nil)) (.cons (.set false [1] (.call "built" (.cons (.tup (.cons (.k (.str "op")) (.cons (.v 2) .nil))) (.cons (.v 1) (.cons (.v 3) .nil))))) .nil)))) (.cons (.ret (.v 1)) .nil)))
def N_Reader_read_sum : List Str := ["self", "left", "sign", "right"]
abbrev st_Reader_read_product : Stmt := inClass (top 32) 17
def T_Reader_read_product : Sts := (.cons (.set false [1] (.meth (.v 0) "Reader" "read_prefix" .nil)) (.cons (.while_ (.e (.meth (.v 0) "Reader" "skips" (.cons (.k (.str "*")) .nil))) (.cons (.set false [2] (.meth (.v 0) "Reader" "read_prefix" .nil)) (.cons (.set false [1] (.call "built" (.cons (.tup (.cons (.k (.str "op")) (.cons (.k (.str "*")) .nil))) (.cons (.v 1) (.cons (.v 2) .nil))))) .nil))) (.cons (.ret (.v 1)) .nil)))
def N_Reader_read_product : List Str := ["self", "left", "right"]
abbrev st_Reader_read_prefix : Stmt := inClass (top 32) 18
def T_Reader_read_prefix : Sts := (.cons (.ex (.meth (.v 0) "Reader" "enter" .nil)) (.cons (.if_ (.e (.meth (.v 0) "Reader" "sees" (.star (.g "PREFIXES") .nil))) (.cons (.set false [1] (.meth (.v 0) "Reader" "take" (.star (.g "PREFIXES") .nil))) (.cons (.set false [2] (.meth (.v 0) "Reader" "read_prefix" .nil)) (.cons (.set false [3] (.call "built" (.cons (.tup (.cons (.v 1) .nil)) (.cons (.v 2) .nil)))) .nil))) (.cons (.if_ (.e (.meth (.v 0) "Reader" "skips" (.cons (.k (.str "put")) .nil))) (.cons (.set false [4] (.meth (.v 0) "Reader" "read_atom" .nil)) (.cons (.set false [5] (.meth (.v 0) "Reader" "read_atom" .nil)) (.cons (.set false [3] (.call "built" (.cons (.tup (.cons (.k (.str "put")) .nil)) (.cons (.v 4) (.cons (.v 5) .nil))))) .nil))) (.cons (.set false [3] (.meth (.v 0) "Reader" "read_call" .nil)) .nil)) .nil)) (.cons (.ex (.meth (.v 0) "Reader" "leave" .nil)) (.cons (.ret (.v 3)) .nil))))
def N_Reader_read_prefix : List Str := ["self", "word", "operand", "found", "target", "stored"]
abbrev st_Reader_read_call : Stmt := inClass (top 32) 19
def T_Reader_read_call : Sts := (.cons (.set false [1] (.meth (.v 0) "Reader" "read_atom" .nil)) (.cons (.while_ (.e (.meth (.v 0) "Reader" "sees_atom" .nil)) (.cons (.set false [2] (.meth (.v 0) "Reader" "read_atom" .nil)) (.cons (.set false [1] (.call "built" (.cons (.tup (.cons (.k (.str "call")) .nil)) (.cons (.v 1) (.cons (.v 2) .nil))))) .nil))) (.cons (.ret (.v 1)) .nil)))
def N_Reader_read_call : List Str := ["self", "called", "passed"]
abbrev st_Reader_sees_atom : Stmt := inClass (top 32) 20
def T_Reader_sees_atom : Sts := (.cons (.set false [1] (.ix (.ix (.fld (.v 0) "Reader" "tokens") (.fld (.v 0) "Reader" "done")) (.k (.int 0)))) (.cons (.ret (.or (.cmp .in_ (.v 1) (.tup (.cons (.k (.str "number")) (.cons (.k (.str "name")) .nil)))) (.meth (.v 0) "Reader" "sees" (.cons (.k (.str "true")) (.cons (.k (.str "false")) (.cons (.k (.str "unit")) (.cons (.k (.str "(")) .nil))))))) .nil))
def N_Reader_sees_atom : List Str := ["self", "kind"]
abbrev st_Reader_read_atom : Stmt := inClass (top 32) 21
def T_Reader_read_atom : Sts := (.cons (.if_ (.not (.e (.meth (.v 0) "Reader" "sees_atom" .nil))) (.cons (.ex (.meth (.v 0) "Reader" "refuse" .nil)) .nil) .nil) (.cons (.set true [1, 2, 3] (.ix (.fld (.v 0) "Reader" "tokens") (.fld (.v 0) "Reader" "done"))) (.cons (.faug (.v 0) "Reader" "done" .add (.k (.int 1))) (.cons (.if_ (.e (.cmp .eq (.v 1) (.k (.str "number")))) (.cons (.ret (.call "leaf" (.cons (.k (.str "num")) (.cons (.v 2) .nil)))) .nil) .nil) (.cons (.if_ (.e (.cmp .eq (.v 1) (.k (.str "name")))) (.cons (.ret (.call "leaf" (.cons (.k (.str "name")) (.cons (.v 2) .nil)))) .nil) .nil) (.cons (.if_ (.e (.cmp .eq (.v 2) (.k (.str "unit")))) (.cons (.ret (.call "leaf" (.cons (.k (.str "unit")) .nil))) .nil) .nil) (.cons (.if_ (.e (.cmp .eq (.v 2) (.k (.str "(")))) (.cons (.ret (.meth (.v 0) "Reader" "read_group" .nil)) .nil) .nil) (.cons (.ret (.call "leaf" (.cons (.k (.str "flag")) (.cons (.cmp .eq (.v 2) (.k (.str "true"))) .nil)))) .nil))))))))
def N_Reader_read_atom : List Str := ["self", "kind", "value", "_"]
abbrev st_Reader_read_group : Stmt := inClass (top 32) 22
def T_Reader_read_group : Sts := (.cons (.set false [1] (.meth (.v 0) "Reader" "read_expression" .nil)) (.cons (.if_ (.e (.meth (.v 0) "Reader" "skips" (.cons (.k (.str ":")) .nil))) (.cons (.set false [2] (.meth (.v 0) "Reader" "read_annotation" .nil)) (.cons (.ex (.meth (.v 0) "Reader" "take" (.cons (.k (.str ")")) .nil))) (.cons (.ret (.call "built" (.cons (.tup (.cons (.k (.str "as")) .nil)) (.cons (.v 1) (.cons (.v 2) .nil))))) .nil))) .nil) (.cons (.if_ (.e (.meth (.v 0) "Reader" "skips" (.cons (.k (.str ",")) .nil))) (.cons (.set false [3] (.meth (.v 0) "Reader" "read_expression" .nil)) (.cons (.ex (.meth (.v 0) "Reader" "take" (.cons (.k (.str ")")) .nil))) (.cons (.ret (.call "built" (.cons (.tup (.cons (.k (.str "pair")) .nil)) (.cons (.v 1) (.cons (.v 3) .nil))))) .nil))) .nil) (.cons (.ex (.meth (.v 0) "Reader" "take" (.cons (.k (.str ")")) .nil))) (.cons (.ret (.v 1)) .nil)))))
def N_Reader_read_group : List Str := ["self", "found", "given", "second"]
abbrev st_Reader_read_annotation : Stmt := inClass (top 32) 23
def T_Reader_read_annotation : Sts := (.cons (.set false [1] (.meth (.v 0) "Reader" "read_simple" .nil)) (.cons (.if_ (.not (.e (.meth (.v 0) "Reader" "skips" (.cons (.k (.str "->")) .nil)))) (.cons (.ret (.v 1)) .nil) .nil) (.cons (.ex (.meth (.v 0) "Reader" "enter" .nil)) (.cons (.set false [2] (.meth (.v 0) "Reader" "read_annotation" .nil)) (.cons (.ex (.meth (.v 0) "Reader" "leave" .nil)) (.cons (.ret (.call "built" (.cons (.tup (.cons (.k (.str "fun")) .nil)) (.cons (.v 1) (.cons (.v 2) .nil))))) .nil))))))
def N_Reader_read_annotation : List Str := ["self", "first", "second"]
abbrev st_Reader_read_simple : Stmt := inClass (top 32) 24
def T_Reader_read_simple : Sts := (.cons (.ex (.meth (.v 0) "Reader" "enter" .nil)) (.cons (.if_ (.e (.meth (.v 0) "Reader" "skips" (.cons (.k (.str "box")) .nil))) (.cons (.set false [1] (.call "built" (.cons (.tup (.cons (.k (.str "box")) .nil)) (.cons (.meth (.v 0) "Reader" "read_simple" .nil) .nil)))) .nil) (.cons (.if_ (.e (.meth (.v 0) "Reader" "skips" (.cons (.k (.str "(")) .nil))) (.cons (.set false [1] (.meth (.v 0) "Reader" "read_annotation_group" .nil)) .nil) (.cons (.set false [1] (.call "leaf" (.cons (.meth (.v 0) "Reader" "take" (.star (.g "PLAIN_KINDS") .nil)) .nil))) .nil)) .nil)) (.cons (.ex (.meth (.v 0) "Reader" "leave" .nil)) (.cons (.ret (.v 1)) .nil))))
def N_Reader_read_simple : List Str := ["self", "found"]
abbrev st_Reader_read_annotation_group : Stmt := inClass (top 32) 25
def T_Reader_read_annotation_group : Sts := (.cons (.set false [1] (.meth (.v 0) "Reader" "read_annotation" .nil)) (.cons (.if_ (.not (.e (.meth (.v 0) "Reader" "skips" (.cons (.k (.str ",")) .nil)))) (.cons (.ex (.meth (.v 0) "Reader" "take" (.cons (.k (.str ")")) .nil))) (.cons (.ret (.v 1)) .nil)) .nil) (.cons (.set false [2] (.meth (.v 0) "Reader" "read_annotation" .nil)) (.cons (.ex (.meth (.v 0) "Reader" "take" (.cons (.k (.str ")")) .nil))) (.cons (.ret (.call "built" (.cons (.tup (.cons (.k (.str "pair")) .nil)) (.cons (.v 1) (.cons (.v 2) .nil))))) .nil)))))
def N_Reader_read_annotation_group : List Str := ["self", "first", "second"]
abbrev st_Malformed__init_ : Stmt := inClass (top 2) 0
abbrev st_Mismatched__init_ : Stmt := inClass (top 4) 0
abbrev st_Unbounded__init_ : Stmt := inClass (top 5) 0
abbrev st_Unknown__init_ : Stmt := inClass (top 3) 0
def tp_fns_0 : List Str := ["tokenize",
  "token_at",
  "name_at",
  "number_at",
  "sign_at",
  "run_end",
  "read",
  "read_type",
  "leaf",
  "built",
  "_law_state",
  "_law_take",
  "_law_bits",
  "_law_text",
  "_law_raised",
  "_law_limit",
  "_law_chains",
  "law"]
def tp_clss_0 : List Str := ["Reader"]
def tp_mets_0 : List (Str × Str) := [("Reader", "sees"),
  ("Reader", "take"),
  ("Reader", "skips"),
  ("Reader", "take_name"),
  ("Reader", "refuse"),
  ("Reader", "finish"),
  ("Reader", "enter"),
  ("Reader", "leave"),
  ("Reader", "read_expression"),
  ("Reader", "read_fun"),
  ("Reader", "read_rec"),
  ("Reader", "read_let"),
  ("Reader", "read_if"),
  ("Reader", "read_print"),
  ("Reader", "read_comparison"),
  ("Reader", "read_sum"),
  ("Reader", "read_product"),
  ("Reader", "read_prefix"),
  ("Reader", "read_call"),
  ("Reader", "sees_atom"),
  ("Reader", "read_atom"),
  ("Reader", "read_group"),
  ("Reader", "read_annotation"),
  ("Reader", "read_simple"),
  ("Reader", "read_annotation_group")]
def tp_inis_0 : List Str := []
def tp_flds_0 : List (Str × Str) := [("Reader", "done"),
  ("Reader", "opened"),
  ("Reader", "tokens")]
def tp_xcs_0 : List (Str × Str) := [("Malformed", "at"),
  ("Unbounded", "name")]
def tp_bins_0 : List Str := ["abs",
  "int",
  "len",
  "max",
  "range",
  "tuple"]
def tp_glos_0 : List (Str × U) := [("WORDS", (U.tup [(U.str "any"), (U.str "as"), (U.str "bool"), (U.str "box"), (U.str "else"), (U.str "false"), (U.str "fst"), (U.str "fun"), (U.str "get"), (U.str "if"), (U.str "in"), (U.str "int"), (U.str "let"), (U.str "not"), (U.str "print"), (U.str "put"), (U.str "rec"), (U.str "snd"), (U.str "then"), (U.str "true"), (U.str "unit")])),
  ("SIGNS", (U.tup [(U.str "=>"), (U.str "->"), (U.str "=="), (U.str "("), (U.str ")"), (U.str ","), (U.str ":"), (U.str ";"), (U.str "="), (U.str "+"), (U.str "-"), (U.str "*"), (U.str "<")])),
  ("SEPARATORS", (U.str " \n")),
  ("LETTERS", (U.str "abcdefghijklmnopqrstuvwxyz")),
  ("DIGITS", (U.str "0123456789")),
  ("NAME_CHARACTERS", (U.str "abcdefghijklmnopqrstuvwxyz0123456789_")),
  ("MOST_CHARACTERS", (U.int 10000)),
  ("MOST_NAME_CHARACTERS", (U.int 20)),
  ("MOST_DIGITS", (U.int 10)),
  ("NUMBERS_END", (U.int 2147483648)),
  ("MOST_DEPTH", (U.int 60)),
  ("PLAIN_KINDS", (U.tup [(U.str "int"), (U.str "bool"), (U.str "unit"), (U.str "any")])),
  ("PREFIXES", (U.tup [(U.str "fst"), (U.str "snd"), (U.str "box"), (U.str "get"), (U.str "not")])),
  ("UNWRITTEN", (U.tup [(U.tup [(U.str "any")]), (U.int 1)]))]
def tp_defs_0 : List (Str × He.DefD) := [("tokenize", ⟨("tokenize", none), "tokenize", "tokenize", defArgs st_tokenize, defBody st_tokenize, defScope st_tokenize, [], []⟩),
  ("token_at", ⟨("token_at", none), "token_at", "token_at", defArgs st_token_at, defBody st_token_at, defScope st_token_at, [], []⟩),
  ("name_at", ⟨("name_at", none), "name_at", "name_at", defArgs st_name_at, defBody st_name_at, defScope st_name_at, [], []⟩),
  ("number_at", ⟨("number_at", none), "number_at", "number_at", defArgs st_number_at, defBody st_number_at, defScope st_number_at, [], []⟩),
  ("sign_at", ⟨("sign_at", none), "sign_at", "sign_at", defArgs st_sign_at, defBody st_sign_at, defScope st_sign_at, [], []⟩),
  ("run_end", ⟨("run_end", none), "run_end", "run_end", defArgs st_run_end, defBody st_run_end, defScope st_run_end, [], []⟩),
  ("read", ⟨("read", none), "read", "read", defArgs st_read, defBody st_read, defScope st_read, [], []⟩),
  ("read_type", ⟨("read_type", none), "read_type", "read_type", defArgs st_read_type, defBody st_read_type, defScope st_read_type, [], []⟩),
  ("leaf", ⟨("leaf", none), "leaf", "leaf", defArgs st_leaf, defBody st_leaf, defScope st_leaf, [], []⟩),
  ("built", ⟨("built", none), "built", "built", defArgs st_built, defBody st_built, defScope st_built, [], []⟩),
  ("_law_state", ⟨("_law_state", none), "_law_state", "_law_state", defArgs st__law_state, defBody st__law_state, defScope st__law_state, [], []⟩),
  ("_law_take", ⟨("_law_take", none), "_law_take", "_law_take", defArgs st__law_take, defBody st__law_take, defScope st__law_take, [], []⟩),
  ("_law_bits", ⟨("_law_bits", none), "_law_bits", "_law_bits", defArgs st__law_bits, defBody st__law_bits, defScope st__law_bits, [], []⟩),
  ("_law_text", ⟨("_law_text", none), "_law_text", "_law_text", defArgs st__law_text, defBody st__law_text, defScope st__law_text, [], []⟩),
  ("_law_raised", ⟨("_law_raised", none), "_law_raised", "_law_raised", defArgs st__law_raised, defBody st__law_raised, defScope st__law_raised, [], []⟩),
  ("_law_limit", ⟨("_law_limit", none), "_law_limit", "_law_limit", defArgs st__law_limit, defBody st__law_limit, defScope st__law_limit, [], []⟩),
  ("_law_chains", ⟨("_law_chains", none), "_law_chains", "_law_chains", defArgs st__law_chains, defBody st__law_chains, defScope st__law_chains, [], []⟩),
  ("law", ⟨("law", none), "law", "law", defArgs st_law, defBody st_law, defScope st_law, [], []⟩),
  ("Reader.__init__", ⟨("Reader", some "__init__"), "__init__", "Reader.__init__", defArgs st_Reader__init_, defBody st_Reader__init_, defScope st_Reader__init_, [], []⟩),
  ("Reader.sees", ⟨("Reader", some "sees"), "sees", "Reader.sees", defArgs st_Reader_sees, defBody st_Reader_sees, defScope st_Reader_sees, [], []⟩),
  ("Reader.take", ⟨("Reader", some "take"), "take", "Reader.take", defArgs st_Reader_take, defBody st_Reader_take, defScope st_Reader_take, [], []⟩),
  ("Reader.skips", ⟨("Reader", some "skips"), "skips", "Reader.skips", defArgs st_Reader_skips, defBody st_Reader_skips, defScope st_Reader_skips, [], []⟩),
  ("Reader.take_name", ⟨("Reader", some "take_name"), "take_name", "Reader.take_name", defArgs st_Reader_take_name, defBody st_Reader_take_name, defScope st_Reader_take_name, [], []⟩),
  ("Reader.refuse", ⟨("Reader", some "refuse"), "refuse", "Reader.refuse", defArgs st_Reader_refuse, defBody st_Reader_refuse, defScope st_Reader_refuse, [], []⟩),
  ("Reader.finish", ⟨("Reader", some "finish"), "finish", "Reader.finish", defArgs st_Reader_finish, defBody st_Reader_finish, defScope st_Reader_finish, [], []⟩)]
def tp_defs_1 : List (Str × He.DefD) := [("Reader.enter", ⟨("Reader", some "enter"), "enter", "Reader.enter", defArgs st_Reader_enter, defBody st_Reader_enter, defScope st_Reader_enter, [], []⟩),
  ("Reader.leave", ⟨("Reader", some "leave"), "leave", "Reader.leave", defArgs st_Reader_leave, defBody st_Reader_leave, defScope st_Reader_leave, [], []⟩),
  ("Reader.read_expression", ⟨("Reader", some "read_expression"), "read_expression", "Reader.read_expression", defArgs st_Reader_read_expression, defBody st_Reader_read_expression, defScope st_Reader_read_expression, [], []⟩),
  ("Reader.read_fun", ⟨("Reader", some "read_fun"), "read_fun", "Reader.read_fun", defArgs st_Reader_read_fun, defBody st_Reader_read_fun, defScope st_Reader_read_fun, [], []⟩),
  ("Reader.read_rec", ⟨("Reader", some "read_rec"), "read_rec", "Reader.read_rec", defArgs st_Reader_read_rec, defBody st_Reader_read_rec, defScope st_Reader_read_rec, [], []⟩),
  ("Reader.read_let", ⟨("Reader", some "read_let"), "read_let", "Reader.read_let", defArgs st_Reader_read_let, defBody st_Reader_read_let, defScope st_Reader_read_let, [], []⟩),
  ("Reader.read_if", ⟨("Reader", some "read_if"), "read_if", "Reader.read_if", defArgs st_Reader_read_if, defBody st_Reader_read_if, defScope st_Reader_read_if, [], []⟩),
  ("Reader.read_print", ⟨("Reader", some "read_print"), "read_print", "Reader.read_print", defArgs st_Reader_read_print, defBody st_Reader_read_print, defScope st_Reader_read_print, [], []⟩),
  ("Reader.read_comparison", ⟨("Reader", some "read_comparison"), "read_comparison", "Reader.read_comparison", defArgs st_Reader_read_comparison, defBody st_Reader_read_comparison, defScope st_Reader_read_comparison, [], []⟩),
  ("Reader.read_sum", ⟨("Reader", some "read_sum"), "read_sum", "Reader.read_sum", defArgs st_Reader_read_sum, defBody st_Reader_read_sum, defScope st_Reader_read_sum, [], []⟩),
  ("Reader.read_product", ⟨("Reader", some "read_product"), "read_product", "Reader.read_product", defArgs st_Reader_read_product, defBody st_Reader_read_product, defScope st_Reader_read_product, [], []⟩),
  ("Reader.read_prefix", ⟨("Reader", some "read_prefix"), "read_prefix", "Reader.read_prefix", defArgs st_Reader_read_prefix, defBody st_Reader_read_prefix, defScope st_Reader_read_prefix, [], []⟩),
  ("Reader.read_call", ⟨("Reader", some "read_call"), "read_call", "Reader.read_call", defArgs st_Reader_read_call, defBody st_Reader_read_call, defScope st_Reader_read_call, [], []⟩),
  ("Reader.sees_atom", ⟨("Reader", some "sees_atom"), "sees_atom", "Reader.sees_atom", defArgs st_Reader_sees_atom, defBody st_Reader_sees_atom, defScope st_Reader_sees_atom, [], []⟩),
  ("Reader.read_atom", ⟨("Reader", some "read_atom"), "read_atom", "Reader.read_atom", defArgs st_Reader_read_atom, defBody st_Reader_read_atom, defScope st_Reader_read_atom, [], []⟩),
  ("Reader.read_group", ⟨("Reader", some "read_group"), "read_group", "Reader.read_group", defArgs st_Reader_read_group, defBody st_Reader_read_group, defScope st_Reader_read_group, [], []⟩),
  ("Reader.read_annotation", ⟨("Reader", some "read_annotation"), "read_annotation", "Reader.read_annotation", defArgs st_Reader_read_annotation, defBody st_Reader_read_annotation, defScope st_Reader_read_annotation, [], []⟩),
  ("Reader.read_simple", ⟨("Reader", some "read_simple"), "read_simple", "Reader.read_simple", defArgs st_Reader_read_simple, defBody st_Reader_read_simple, defScope st_Reader_read_simple, [], []⟩),
  ("Reader.read_annotation_group", ⟨("Reader", some "read_annotation_group"), "read_annotation_group", "Reader.read_annotation_group", defArgs st_Reader_read_annotation_group, defBody st_Reader_read_annotation_group, defScope st_Reader_read_annotation_group, [], []⟩),
  ("Malformed.__init__", ⟨("Malformed", some "__init__"), "__init__", "Malformed.__init__", defArgs st_Malformed__init_, defBody st_Malformed__init_, defScope st_Malformed__init_, [], []⟩),
  ("Mismatched.__init__", ⟨("Mismatched", some "__init__"), "__init__", "Mismatched.__init__", defArgs st_Mismatched__init_, defBody st_Mismatched__init_, defScope st_Mismatched__init_, [], []⟩),
  ("Unbounded.__init__", ⟨("Unbounded", some "__init__"), "__init__", "Unbounded.__init__", defArgs st_Unbounded__init_, defBody st_Unbounded__init_, defScope st_Unbounded__init_, [], []⟩),
  ("Unknown.__init__", ⟨("Unknown", some "__init__"), "__init__", "Unknown.__init__", defArgs st_Unknown__init_, defBody st_Unknown__init_, defScope st_Unknown__init_, [], []⟩)]
def tp : Top := { fns := tp_fns_0, clss := tp_clss_0, mets := tp_mets_0, inis := tp_inis_0, flds := tp_flds_0, xcs := tp_xcs_0, bins := tp_bins_0, glos := tp_glos_0, defs := tp_defs_0 ++ (tp_defs_1) }
end Pr

end

section
set_option maxHeartbeats 4000000
namespace Pr
open PySem PySem.Spec PyProof.Rows L2 Oz
def prim__law_raised : Cal → List U → Sto → R U := fun Φ us S => match us with
  | [t, .bl k] => (match Φ.call (if k = true then "read_type" else "read") [t] S with
    | .ok _ S1 => .ok (.tup [.str "none", .int 0]) S1
    | .exc c fs S1 => if c = "Malformed" then (match fs with | [(g, u)] => if g = "at" then .ok (.tup [.str "at", u]) S1 else .bad | _ => .bad) else if c = "Unbounded" then (match fs with | [(g, u)] => if g = "name" then .ok (.tup [.str "name", u]) S1 else .bad | _ => .bad) else .bad
    | .bad => .bad)
  | _ => .bad
def tb_0 : List (Str × (Df ⊕ (Cal → List U → Sto → R U))) := [("tokenize", .inl ⟨1, 4, false, T_tokenize⟩),
  ("token_at", .inl ⟨2, 2, false, T_token_at⟩),
  ("name_at", .inl ⟨2, 4, false, T_name_at⟩),
  ("number_at", .inl ⟨2, 4, false, T_number_at⟩),
  ("sign_at", .inl ⟨2, 3, false, T_sign_at⟩),
  ("run_end", .inl ⟨3, 4, false, T_run_end⟩),
  ("read", .inl ⟨1, 4, false, T_read⟩),
  ("read_type", .inl ⟨1, 4, false, T_read_type⟩),
  ("leaf", .inl ⟨0, 1, true, T_leaf⟩),
  ("built", .inl ⟨1, 5, true, T_built⟩),
  ("_law_state", .inl ⟨1, 3, false, T__law_state⟩),
  ("_law_take", .inl ⟨2, 6, false, T__law_take⟩),
  ("_law_bits", .inl ⟨2, 3, false, T__law_bits⟩),
  ("_law_text", .inl ⟨2, 5, false, T__law_text⟩),
  ("_law_raised", .inr prim__law_raised),
  ("_law_limit", .inl ⟨3, 4, false, T__law_limit⟩),
  ("_law_chains", .inl ⟨1, 2, false, T__law_chains⟩),
  ("law", .inl ⟨1, 4, false, T_law⟩),
  ("Reader.__init__", .inl ⟨2, 2, false, T_Reader__init_⟩),
  ("Reader.sees", .inl ⟨1, 2, true, T_Reader_sees⟩),
  ("Reader.take", .inl ⟨1, 2, true, T_Reader_take⟩),
  ("Reader.skips", .inl ⟨2, 3, false, T_Reader_skips⟩),
  ("Reader.take_name", .inl ⟨1, 4, false, T_Reader_take_name⟩),
  ("Reader.refuse", .inl ⟨1, 1, false, T_Reader_refuse⟩),
  ("Reader.finish", .inl ⟨1, 1, false, T_Reader_finish⟩)]
def tb_1 : List (Str × (Df ⊕ (Cal → List U → Sto → R U))) := [("Reader.enter", .inl ⟨1, 1, false, T_Reader_enter⟩),
  ("Reader.leave", .inl ⟨1, 1, false, T_Reader_leave⟩),
  ("Reader.read_expression", .inl ⟨1, 2, false, T_Reader_read_expression⟩),
  ("Reader.read_fun", .inl ⟨1, 4, false, T_Reader_read_fun⟩),
  ("Reader.read_rec", .inl ⟨1, 6, false, T_Reader_read_rec⟩),
  ("Reader.read_let", .inl ⟨1, 4, false, T_Reader_read_let⟩),
  ("Reader.read_if", .inl ⟨1, 4, false, T_Reader_read_if⟩),
  ("Reader.read_print", .inl ⟨1, 3, false, T_Reader_read_print⟩),
  ("Reader.read_comparison", .inl ⟨1, 4, false, T_Reader_read_comparison⟩),
  ("Reader.read_sum", .inl ⟨1, 4, false, T_Reader_read_sum⟩),
  ("Reader.read_product", .inl ⟨1, 3, false, T_Reader_read_product⟩),
  ("Reader.read_prefix", .inl ⟨1, 6, false, T_Reader_read_prefix⟩),
  ("Reader.read_call", .inl ⟨1, 3, false, T_Reader_read_call⟩),
  ("Reader.sees_atom", .inl ⟨1, 2, false, T_Reader_sees_atom⟩),
  ("Reader.read_atom", .inl ⟨1, 4, false, T_Reader_read_atom⟩),
  ("Reader.read_group", .inl ⟨1, 4, false, T_Reader_read_group⟩),
  ("Reader.read_annotation", .inl ⟨1, 3, false, T_Reader_read_annotation⟩),
  ("Reader.read_simple", .inl ⟨1, 2, false, T_Reader_read_simple⟩),
  ("Reader.read_annotation_group", .inl ⟨1, 3, false, T_Reader_read_annotation_group⟩)]
def tbl : List (Str × (Df ⊕ (Cal → List U → Sto → R U))) := tb_0 ++ (tb_1)
def pg : Pg := ⟨fun f => tbl.lookup f, fun x => tp.glos.lookup x, fun c => tp.xcs.lookup c⟩
def nm : Names := tp.nm
theorem sc_tokenize : FnScope ["text", "tokens", "at", "token"] ["text"] (defScope st_tokenize) := ⟨rfl, rfl, rfl, by decide +kernel, rfl, by decide +kernel, by decide +kernel⟩
theorem d_tokenize {P : Program} {w : World} {K : PySem.W.Frag} {mg : Str → Option Value} {base : Heap} {ad : Str → Addr} {d : Nat} {f : Addr} (X : Cx) (cdv : Value) (A : Around) (outer : List PySem.Env) (s : Shared) (H : Hp) (E : XK) (hX : X = cxOf (L2.CX P w) P w K mg base ["text", "tokens", "at", "token"] "tokenize" (defScope st_tokenize) f cdv A outer s H E) (O : Ok X pg nm ad d E) : PSs X (defBody st_tokenize) (tB X (pg.cal d) E T_tokenize) := by
  subst hX
  have nd := sc_tokenize.nd
  exact (b_cons (x_if (s_tcmp O .gt (s_bfB O .len cf_len (by decide +kernel) (s_cons (s_v 0) s_nil)) (s_g O)) (b_cons (x_raise O "name" s_str) b_nil) b_nil) (b_cons (x_set 1 nd (s_lst s_nil)) (b_cons (x_set 2 nd s_int) (b_cons (x_while O (s_tcmp O .lt (s_v 2) (s_bfB O .len cf_len (by decide +kernel) (s_cons (s_v 0) s_nil))) (b_cons (x_if (s_tcmp O .in_ (s_ix (s_v 0) (s_v 2)) (s_g O)) (b_cons (x_aug .add 2 nd s_int) b_nil) (b_cons (x_tup rfl (s_call O (s_cons (s_v 0) (s_cons (s_v 2) s_nil))) (gs_cons 3 nd (gs_cons 2 nd gs_nil))) (b_cons (x_ex (s_bm .append rfl PySem.F.plainAttrs_list PySem.F.slot_list_append PySem.F.type_list_append bm_append (s_v 1) (s_cons (s_v 3) s_nil))) b_nil))) b_nil)) (b_cons (x_ret (s_v 1)) b_nil)))))
theorem sc_token_at : FnScope ["text", "at"] ["text", "at"] (defScope st_token_at) := ⟨rfl, rfl, rfl, by decide +kernel, rfl, by decide +kernel, by decide +kernel⟩
theorem d_token_at {P : Program} {w : World} {K : PySem.W.Frag} {mg : Str → Option Value} {base : Heap} {ad : Str → Addr} {d : Nat} {f : Addr} (X : Cx) (cdv : Value) (A : Around) (outer : List PySem.Env) (s : Shared) (H : Hp) (E : XK) (hX : X = cxOf (L2.CX P w) P w K mg base ["text", "at"] "token_at" (defScope st_token_at) f cdv A outer s H E) (O : Ok X pg nm ad d E) : PSs X (defBody st_token_at) (tB X (pg.cal d) E T_token_at) := by
  subst hX
  have nd := sc_token_at.nd
  exact (b_cons (x_if (s_tcmp O .in_ (s_ix (s_v 0) (s_v 1)) (s_g O)) (b_cons (x_ret (s_call O (s_cons (s_v 0) (s_cons (s_v 1) s_nil)))) b_nil) b_nil) (b_cons (x_if (s_tcmp O .in_ (s_ix (s_v 0) (s_v 1)) (s_g O)) (b_cons (x_ret (s_call O (s_cons (s_v 0) (s_cons (s_v 1) s_nil)))) b_nil) b_nil) (b_cons (x_ret (s_call O (s_cons (s_v 0) (s_cons (s_v 1) s_nil)))) b_nil)))
theorem sc_name_at : FnScope ["text", "at", "end", "name"] ["text", "at"] (defScope st_name_at) := ⟨rfl, rfl, rfl, by decide +kernel, rfl, by decide +kernel, by decide +kernel⟩
theorem d_name_at {P : Program} {w : World} {K : PySem.W.Frag} {mg : Str → Option Value} {base : Heap} {ad : Str → Addr} {d : Nat} {f : Addr} (X : Cx) (cdv : Value) (A : Around) (outer : List PySem.Env) (s : Shared) (H : Hp) (E : XK) (hX : X = cxOf (L2.CX P w) P w K mg base ["text", "at", "end", "name"] "name_at" (defScope st_name_at) f cdv A outer s H E) (O : Ok X pg nm ad d E) : PSs X (defBody st_name_at) (tB X (pg.cal d) E T_name_at) := by
  subst hX
  have nd := sc_name_at.nd
  exact (b_cons (x_set 2 nd (s_call O (s_cons (s_v 0) (s_cons (s_v 1) (s_cons (s_g O) s_nil))))) (b_cons (x_set 3 nd (s_sl (s_v 0) (s_so (s_v 1)) (s_so (s_v 2)))) (b_cons (x_if (s_tcmp O .in_ (s_v 3) (s_g O)) (b_cons (x_ret (s_tup (s_cons (s_tup (s_cons s_str (s_cons (s_v 3) (s_cons (s_v 1) s_nil)))) (s_cons (s_v 2) s_nil)))) b_nil) b_nil) (b_cons (x_if (s_tcmp O .gt (s_bfB O .len cf_len (by decide +kernel) (s_cons (s_v 3) s_nil)) (s_g O)) (b_cons (x_raise O "at" (s_v 1)) b_nil) b_nil) (b_cons (x_ret (s_tup (s_cons (s_tup (s_cons s_str (s_cons (s_v 3) (s_cons (s_v 1) s_nil)))) (s_cons (s_v 2) s_nil)))) b_nil)))))
theorem sc_number_at : FnScope ["text", "at", "end", "digits"] ["text", "at"] (defScope st_number_at) := ⟨rfl, rfl, rfl, by decide +kernel, rfl, by decide +kernel, by decide +kernel⟩
theorem d_number_at {P : Program} {w : World} {K : PySem.W.Frag} {mg : Str → Option Value} {base : Heap} {ad : Str → Addr} {d : Nat} {f : Addr} (X : Cx) (cdv : Value) (A : Around) (outer : List PySem.Env) (s : Shared) (H : Hp) (E : XK) (hX : X = cxOf (L2.CX P w) P w K mg base ["text", "at", "end", "digits"] "number_at" (defScope st_number_at) f cdv A outer s H E) (O : Ok X pg nm ad d E) : PSs X (defBody st_number_at) (tB X (pg.cal d) E T_number_at) := by
  subst hX
  have nd := sc_number_at.nd
  exact (b_cons (x_set 2 nd (s_call O (s_cons (s_v 0) (s_cons (s_v 1) (s_cons (s_g O) s_nil))))) (b_cons (x_set 3 nd (s_sl (s_v 0) (s_so (s_v 1)) (s_so (s_v 2)))) (b_cons (x_if (PW.pt (w_or (s_tcmp O .gt (s_bfB O .len cf_len (by decide +kernel) (s_cons (s_v 3) s_nil)) (s_g O)) (w_or1 (s_tcmp O .ge (s_bfT O .int cf_int (by decide +kernel) (s_cons (s_v 3) s_nil)) (s_g O))))) (b_cons (x_raise O "at" (s_v 1)) b_nil) b_nil) (b_cons (x_if (PW.pt (w_and (s_tcmp O .eq (s_ix (s_v 3) s_int) s_str) (w_and1 (s_tcmp O .gt (s_bfB O .len cf_len (by decide +kernel) (s_cons (s_v 3) s_nil)) s_int)))) (b_cons (x_raise O "at" (s_v 1)) b_nil) b_nil) (b_cons (x_if (PW.pt (w_and (s_tcmp O .lt (s_v 2) (s_bfB O .len cf_len (by decide +kernel) (s_cons (s_v 0) s_nil))) (w_and1 (s_tcmp O .in_ (s_ix (s_v 0) (s_v 2)) (s_g O))))) (b_cons (x_raise O "at" (s_v 1)) b_nil) b_nil) (b_cons (x_ret (s_tup (s_cons (s_tup (s_cons s_str (s_cons (s_bfT O .int cf_int (by decide +kernel) (s_cons (s_v 3) s_nil)) (s_cons (s_v 1) s_nil)))) (s_cons (s_v 2) s_nil)))) b_nil))))))
theorem sc_sign_at : FnScope ["text", "at", "sign"] ["text", "at"] (defScope st_sign_at) := ⟨rfl, rfl, rfl, by decide +kernel, rfl, by decide +kernel, by decide +kernel⟩
theorem d_sign_at {P : Program} {w : World} {K : PySem.W.Frag} {mg : Str → Option Value} {base : Heap} {ad : Str → Addr} {d : Nat} {f : Addr} (X : Cx) (cdv : Value) (A : Around) (outer : List PySem.Env) (s : Shared) (H : Hp) (E : XK) (hX : X = cxOf (L2.CX P w) P w K mg base ["text", "at", "sign"] "sign_at" (defScope st_sign_at) f cdv A outer s H E) (O : Ok X pg nm ad d E) : PSs X (defBody st_sign_at) (tB X (pg.cal d) E T_sign_at) := by
  subst hX
  have nd := sc_sign_at.nd
  exact (b_cons (x_for O false [2] (s_g O) (g_name 2 nd) (b_cons (x_if (s_tt (s_bm .startswith3 rfl PySem.F.plainAttrs_str PySem.F.slot_str_startswith PySem.F.type_str_startswith bm_startswith3 (s_v 0) (s_cons (s_v 2) (s_cons (s_v 1) s_nil)))) (b_cons (x_ret (s_tup (s_cons (s_tup (s_cons s_str (s_cons (s_v 2) (s_cons (s_v 1) s_nil)))) (s_cons (s_bin .add (s_v 1) (s_bfB O .len cf_len (by decide +kernel) (s_cons (s_v 2) s_nil))) s_nil)))) b_nil) b_nil) b_nil)) (b_cons (x_raise O "at" (s_v 1)) b_nil))
theorem sc_run_end : FnScope ["text", "at", "characters", "end"] ["text", "at", "characters"] (defScope st_run_end) := ⟨rfl, rfl, rfl, by decide +kernel, rfl, by decide +kernel, by decide +kernel⟩
theorem d_run_end {P : Program} {w : World} {K : PySem.W.Frag} {mg : Str → Option Value} {base : Heap} {ad : Str → Addr} {d : Nat} {f : Addr} (X : Cx) (cdv : Value) (A : Around) (outer : List PySem.Env) (s : Shared) (H : Hp) (E : XK) (hX : X = cxOf (L2.CX P w) P w K mg base ["text", "at", "characters", "end"] "run_end" (defScope st_run_end) f cdv A outer s H E) (O : Ok X pg nm ad d E) : PSs X (defBody st_run_end) (tB X (pg.cal d) E T_run_end) := by
  subst hX
  have nd := sc_run_end.nd
  exact (b_cons (x_set 3 nd (s_v 1)) (b_cons (x_while O (PW.pt (w_and (s_tcmp O .lt (s_v 3) (s_bfB O .len cf_len (by decide +kernel) (s_cons (s_v 0) s_nil))) (w_and1 (s_tcmp O .in_ (s_ix (s_v 0) (s_v 3)) (s_v 2))))) (b_cons (x_aug .add 3 nd s_int) b_nil)) (b_cons (x_ret (s_v 3)) b_nil)))
theorem sc_read : FnScope ["text", "reader", "tree", "_"] ["text"] (defScope st_read) := ⟨rfl, rfl, rfl, by decide +kernel, rfl, by decide +kernel, by decide +kernel⟩
theorem d_read {P : Program} {w : World} {K : PySem.W.Frag} {mg : Str → Option Value} {base : Heap} {ad : Str → Addr} {d : Nat} {f : Addr} (X : Cx) (cdv : Value) (A : Around) (outer : List PySem.Env) (s : Shared) (H : Hp) (E : XK) (hX : X = cxOf (L2.CX P w) P w K mg base ["text", "reader", "tree", "_"] "read" (defScope st_read) f cdv A outer s H E) (O : Ok X pg nm ad d E) : PSs X (defBody st_read) (tB X (pg.cal d) E T_read) := by
  subst hX
  have nd := sc_read.nd
  exact (b_cons (x_set 1 nd (s_mk O (s_cons (s_v 0) s_nil))) (b_cons (x_tup rfl (s_meth0 O "Reader" (s_v 1)) (gs_cons 2 nd (gs_cons 3 nd gs_nil))) (b_cons (x_ex (s_meth0 O "Reader" (s_v 1))) (b_cons (x_ret (s_v 2)) b_nil))))
theorem sc_read_type : FnScope ["text", "reader", "tree", "_"] ["text"] (defScope st_read_type) := ⟨rfl, rfl, rfl, by decide +kernel, rfl, by decide +kernel, by decide +kernel⟩
theorem d_read_type {P : Program} {w : World} {K : PySem.W.Frag} {mg : Str → Option Value} {base : Heap} {ad : Str → Addr} {d : Nat} {f : Addr} (X : Cx) (cdv : Value) (A : Around) (outer : List PySem.Env) (s : Shared) (H : Hp) (E : XK) (hX : X = cxOf (L2.CX P w) P w K mg base ["text", "reader", "tree", "_"] "read_type" (defScope st_read_type) f cdv A outer s H E) (O : Ok X pg nm ad d E) : PSs X (defBody st_read_type) (tB X (pg.cal d) E T_read_type) := by
  subst hX
  have nd := sc_read_type.nd
  exact (b_cons (x_set 1 nd (s_mk O (s_cons (s_v 0) s_nil))) (b_cons (x_tup rfl (s_meth0 O "Reader" (s_v 1)) (gs_cons 2 nd (gs_cons 3 nd gs_nil))) (b_cons (x_ex (s_meth0 O "Reader" (s_v 1))) (b_cons (x_ret (s_v 2)) b_nil))))
theorem sc_leaf : FnScope ["tree"] ["tree"] (defScope st_leaf) := ⟨rfl, rfl, rfl, by decide +kernel, rfl, by decide +kernel, by decide +kernel⟩
theorem d_leaf {P : Program} {w : World} {K : PySem.W.Frag} {mg : Str → Option Value} {base : Heap} {ad : Str → Addr} {d : Nat} {f : Addr} (X : Cx) (cdv : Value) (A : Around) (outer : List PySem.Env) (s : Shared) (H : Hp) (E : XK) (hX : X = cxOf (L2.CX P w) P w K mg base ["tree"] "leaf" (defScope st_leaf) f cdv A outer s H E) (O : Ok X pg nm ad d E) : PSs X (defBody st_leaf) (tB X (pg.cal d) E T_leaf) := by
  subst hX
  have nd := sc_leaf.nd
  exact (b_cons (x_ret (s_tup (s_cons (s_v 0) (s_cons s_int s_nil)))) b_nil)
theorem sc_built : FnScope ["head", "inner", "depth", "tree", "deep"] ["head", "inner"] (defScope st_built) := ⟨rfl, rfl, rfl, by decide +kernel, rfl, by decide +kernel, by decide +kernel⟩
theorem d_built {P : Program} {w : World} {K : PySem.W.Frag} {mg : Str → Option Value} {base : Heap} {ad : Str → Addr} {d : Nat} {f : Addr} (X : Cx) (cdv : Value) (A : Around) (outer : List PySem.Env) (s : Shared) (H : Hp) (E : XK) (hX : X = cxOf (L2.CX P w) P w K mg base ["head", "inner", "depth", "tree", "deep"] "built" (defScope st_built) f cdv A outer s H E) (O : Ok X pg nm ad d E) : PSs X (defBody st_built) (tB X (pg.cal d) E T_built) := by
  subst hX
  have nd := sc_built.nd
  exact (b_cons (x_set 2 nd (s_bin .add s_int (s_bfB O .max (cf_max O.calm) (by decide +kernel) (s_cons (s_lc O true [(("tree" : Str), 3), (("deep" : Str), 4)] nd (s_v 1) (blkOk_by (N := ["head", "inner", "depth", "tree", "deep"]) (sc := defScope st_built) (by decide +kernel)) (fun _ _ _ _ _ => (g_tup rfl (gs_cons 3 nd (gs_cons 4 nd gs_nil)))) (fun _ _ _ _ _ => t_tt) (fun _ _ _ _ _ => (s_v 4))) s_nil)))) (b_cons (x_if (s_tcmp O .gt (s_v 2) (s_g O)) (b_cons (x_raise O "name" s_str) b_nil) b_nil) (b_cons (x_ret (s_tup (s_cons (s_bin .add (s_v 0) (s_bfT O .tup cf_tup (by decide +kernel) (s_cons (s_lc O true [(("tree" : Str), 3), (("deep" : Str), 4)] nd (s_v 1) (blkOk_by (N := ["head", "inner", "depth", "tree", "deep"]) (sc := defScope st_built) (by decide +kernel)) (fun _ _ _ _ _ => (g_tup rfl (gs_cons 3 nd (gs_cons 4 nd gs_nil)))) (fun _ _ _ _ _ => t_tt) (fun _ _ _ _ _ => (s_v 3))) s_nil))) (s_cons (s_v 2) s_nil)))) b_nil)))
theorem sc__law_state : FnScope ["script", "cells", "cell"] ["script"] (defScope st__law_state) := ⟨rfl, rfl, rfl, by decide +kernel, rfl, by decide +kernel, by decide +kernel⟩
theorem d__law_state {P : Program} {w : World} {K : PySem.W.Frag} {mg : Str → Option Value} {base : Heap} {ad : Str → Addr} {d : Nat} {f : Addr} (X : Cx) (cdv : Value) (A : Around) (outer : List PySem.Env) (s : Shared) (H : Hp) (E : XK) (hX : X = cxOf (L2.CX P w) P w K mg base ["script", "cells", "cell"] "_law_state" (defScope st__law_state) f cdv A outer s H E) (O : Ok X pg nm ad d E) : PSs X (defBody st__law_state) (tB X (pg.cal d) E T__law_state) := by
  subst hX
  have nd := sc__law_state.nd
  exact (b_cons (x_setLc O 1 false [(("cell" : Str), 2)] nd (s_sl (s_v 0) s_no (s_so s_int)) (blkOk_by (N := ["script", "cells", "cell"]) (sc := defScope st__law_state) (by decide +kernel)) (fun _ _ _ _ _ => g_name 2 nd) (fun _ _ _ _ _ => t_tt) (fun _ _ _ _ _ => (s_bfB (O.blk) .abs cf_abs (by decide +kernel) (s_cons (s_v 2) s_nil))) (sw_true rfl rfl rfl (by decide +kernel))) (b_cons (x_if (s_tcmp O .eq (s_bfB O .len cf_len (by decide +kernel) (s_cons (s_v 1) s_nil)) s_int) (b_cons (x_set 1 nd (s_lst (s_cons s_int s_nil))) b_nil) b_nil) (b_cons (x_ret (s_lst (s_cons s_int (s_cons (s_v 1) s_nil)))) b_nil)))
theorem sc__law_take : FnScope ["state", "most", "cells", "at", "cell", "mixed"] ["state", "most"] (defScope st__law_take) := ⟨rfl, rfl, rfl, by decide +kernel, rfl, by decide +kernel, by decide +kernel⟩
theorem d__law_take {P : Program} {w : World} {K : PySem.W.Frag} {mg : Str → Option Value} {base : Heap} {ad : Str → Addr} {d : Nat} {f : Addr} (X : Cx) (cdv : Value) (A : Around) (outer : List PySem.Env) (s : Shared) (H : Hp) (E : XK) (hX : X = cxOf (L2.CX P w) P w K mg base ["state", "most", "cells", "at", "cell", "mixed"] "_law_take" (defScope st__law_take) f cdv A outer s H E) (O : Ok X pg nm ad d E) : PSs X (defBody st__law_take) (tB X (pg.cal d) E T__law_take) := by
  subst hX
  have nd := sc__law_take.nd
  exact (b_cons (x_set 2 nd (s_ix (s_v 0) s_int)) (b_cons (x_set 3 nd (s_bin .mod (s_ix (s_v 0) s_int) (s_bfB O .len cf_len (by decide +kernel) (s_cons (s_v 2) s_nil)))) (b_cons (x_set 4 nd (s_ix (s_v 2) (s_v 3))) (b_cons (x_if (s_tcmp O .ge (s_v 4) s_int) (b_cons (x_sub (s_bin .fdiv (s_v 4) (s_v 1)) (s_v 2) (s_v 3)) (b_cons (x_ret (s_bin .mod (s_v 4) (s_v 1))) b_nil)) b_nil) (b_cons (x_sub (s_bin .add (s_ix (s_v 0) s_int) s_int) (s_v 0) s_int) (b_cons (x_set 5 nd (s_bin .mod (s_bfT O .int cf_int (by decide +kernel) (s_cons (s_bin .add (s_bin .mul (s_v 4) s_int) (s_bin .mul (s_ix (s_v 0) s_int) s_int)) s_nil)) s_int)) (b_cons (x_set 5 nd (s_bin .mod (s_bfT O .int cf_int (by decide +kernel) (s_cons (s_bin .add (s_bin .mul (s_v 5) s_int) (s_bin .mul (s_ix (s_v 0) s_int) s_int)) s_nil)) s_int)) (b_cons (x_ret (s_bin .mod (s_bin .fdiv (s_v 5) s_int) (s_v 1))) b_nil))))))))
theorem sc__law_bits : FnScope ["state", "count", "k"] ["state", "count"] (defScope st__law_bits) := ⟨rfl, rfl, rfl, by decide +kernel, rfl, by decide +kernel, by decide +kernel⟩
theorem d__law_bits {P : Program} {w : World} {K : PySem.W.Frag} {mg : Str → Option Value} {base : Heap} {ad : Str → Addr} {d : Nat} {f : Addr} (X : Cx) (cdv : Value) (A : Around) (outer : List PySem.Env) (s : Shared) (H : Hp) (E : XK) (hX : X = cxOf (L2.CX P w) P w K mg base ["state", "count", "k"] "_law_bits" (defScope st__law_bits) f cdv A outer s H E) (O : Ok X pg nm ad d E) : PSs X (defBody st__law_bits) (tB X (pg.cal d) E T__law_bits) := by
  subst hX
  have nd := sc__law_bits.nd
  exact (b_cons (x_ret (s_lcr O [(("k" : Str), 2)] nd (pi_r1 O (s_v 1)) (blkOk_by (N := ["state", "count", "k"]) (sc := defScope st__law_bits) (by decide +kernel)) (fun _ _ _ _ _ => g_name 2 nd) (fun _ _ _ _ _ => t_tt) (fun _ _ _ _ _ => (s_call (O.blk) (s_cons (s_v 0) (s_cons s_int s_nil)))))) b_nil)
theorem sc__law_text : FnScope ["state", "depth", "kind", "one", "two"] ["state", "depth"] (defScope st__law_text) := ⟨rfl, rfl, rfl, by decide +kernel, rfl, by decide +kernel, by decide +kernel⟩
theorem d__law_text {P : Program} {w : World} {K : PySem.W.Frag} {mg : Str → Option Value} {base : Heap} {ad : Str → Addr} {d : Nat} {f : Addr} (X : Cx) (cdv : Value) (A : Around) (outer : List PySem.Env) (s : Shared) (H : Hp) (E : XK) (hX : X = cxOf (L2.CX P w) P w K mg base ["state", "depth", "kind", "one", "two"] "_law_text" (defScope st__law_text) f cdv A outer s H E) (O : Ok X pg nm ad d E) : PSs X (defBody st__law_text) (tB X (pg.cal d) E T__law_text) := by
  subst hX
  have nd := sc__law_text.nd
  exact (b_cons (x_set 2 nd (s_call O (s_cons (s_v 0) (s_cons s_int s_nil)))) (b_cons (x_if (PW.pt (w_or (s_tcmp O .eq (s_v 1) s_int) (w_or1 (s_tcmp O .lt (s_v 2) s_int)))) (b_cons (x_ret (s_ix (s_lst (s_cons s_str (s_cons s_str (s_cons s_str (s_cons s_str (s_cons s_str (s_cons s_str (s_cons s_str (s_cons s_str s_nil))))))))) (s_call O (s_cons (s_v 0) (s_cons s_int s_nil))))) b_nil) b_nil) (b_cons (x_set 3 nd (s_call O (s_cons (s_v 0) (s_cons (s_bin .sub (s_v 1) s_int) s_nil)))) (b_cons (x_if (s_tcmp O .eq (s_v 2) s_int) (b_cons (x_ret (s_bin .add (s_bin .add s_str (s_v 3)) s_str)) b_nil) b_nil) (b_cons (x_if (s_tcmp O .eq (s_v 2) s_int) (b_cons (x_ret (s_bin .add (s_bin .add s_str (s_v 3)) s_str)) b_nil) b_nil) (b_cons (x_set 4 nd (s_call O (s_cons (s_v 0) (s_cons (s_bin .sub (s_v 1) s_int) s_nil)))) (b_cons (x_if (s_tcmp O .eq (s_v 2) s_int) (b_cons (x_ret (s_bin .add (s_bin .add (s_bin .add (s_bin .add s_str (s_v 3)) s_str) (s_v 4)) s_str)) b_nil) b_nil) (b_cons (x_if (s_tcmp O .eq (s_v 2) s_int) (b_cons (x_ret (s_bin .add (s_bin .add (s_bin .add (s_bin .add s_str (s_v 3)) s_str) (s_v 4)) s_str)) b_nil) b_nil) (b_cons (x_ret (s_bin .add (s_bin .add (s_bin .add (s_bin .add s_str (s_v 3)) (s_ix (s_lst (s_cons s_str (s_cons s_str (s_cons s_str (s_cons s_str (s_cons s_str (s_cons s_str s_nil))))))) (s_call O (s_cons (s_v 0) (s_cons s_int s_nil))))) (s_v 4)) s_str)) b_nil)))))))))
theorem sc__law_limit : FnScope ["text", "is_type", "is_good", "told"] ["text", "is_type", "is_good"] (defScope st__law_limit) := ⟨rfl, rfl, rfl, by decide +kernel, rfl, by decide +kernel, by decide +kernel⟩
theorem d__law_limit {P : Program} {w : World} {K : PySem.W.Frag} {mg : Str → Option Value} {base : Heap} {ad : Str → Addr} {d : Nat} {f : Addr} (X : Cx) (cdv : Value) (A : Around) (outer : List PySem.Env) (s : Shared) (H : Hp) (E : XK) (hX : X = cxOf (L2.CX P w) P w K mg base ["text", "is_type", "is_good", "told"] "_law_limit" (defScope st__law_limit) f cdv A outer s H E) (O : Ok X pg nm ad d E) : PSs X (defBody st__law_limit) (tB X (pg.cal d) E T__law_limit) := by
  subst hX
  have nd := sc__law_limit.nd
  exact (b_cons (x_set 3 nd (s_call O (s_cons (s_v 0) (s_cons (s_v 1) s_nil)))) (b_cons (x_if (s_tt (s_v 2)) (b_cons (x_ret (s_cmp O .eq (s_v 3) (s_tup (s_cons s_str (s_cons s_int s_nil))))) b_nil) b_nil) (b_cons (x_ret (s_cmp O .eq (s_v 3) (s_tup (s_cons s_str (s_cons s_str s_nil))))) b_nil)))
theorem sc__law_chains : FnScope ["state", "many"] ["state"] (defScope st__law_chains) := ⟨rfl, rfl, rfl, by decide +kernel, rfl, by decide +kernel, by decide +kernel⟩
theorem d__law_chains {P : Program} {w : World} {K : PySem.W.Frag} {mg : Str → Option Value} {base : Heap} {ad : Str → Addr} {d : Nat} {f : Addr} (X : Cx) (cdv : Value) (A : Around) (outer : List PySem.Env) (s : Shared) (H : Hp) (E : XK) (hX : X = cxOf (L2.CX P w) P w K mg base ["state", "many"] "_law_chains" (defScope st__law_chains) f cdv A outer s H E) (O : Ok X pg nm ad d E) : PSs X (defBody st__law_chains) (tB X (pg.cal d) E T__law_chains) := by
  subst hX
  have nd := sc__law_chains.nd
  exact (b_cons (x_set 1 nd (s_bin .add s_int (s_call O (s_cons (s_v 0) (s_cons s_int s_nil))))) (b_cons (x_if (s_tnot (s_tt (s_call O (s_cons (s_bin .add (s_bin .add (s_bin .mul s_str (s_v 1)) s_str) (s_bin .mul s_str (s_v 1))) (s_cons s_bl (s_cons (s_cmp O .lt (s_v 1) s_int) s_nil)))))) (b_cons (x_ret s_bl) b_nil) b_nil) (b_cons (x_if (s_tnot (s_tt (s_call O (s_cons (s_bin .add (s_bin .mul s_str (s_bin .add (s_v 1) s_int)) s_str) (s_cons s_bl (s_cons (s_cmp O .lt (s_v 1) s_int) s_nil)))))) (b_cons (x_ret s_bl) b_nil) b_nil) (b_cons (x_if (s_tnot (s_tt (s_call O (s_cons (s_bin .add s_str (s_bin .mul s_str (s_bin .add (s_v 1) s_int))) (s_cons s_bl (s_cons (s_cmp O .lt (s_v 1) s_int) s_nil)))))) (b_cons (x_ret s_bl) b_nil) b_nil) (b_cons (x_if (s_tnot (s_tt (s_call O (s_cons (s_bin .add (s_bin .mul s_str (s_bin .add (s_v 1) s_int)) s_str) (s_cons s_bl (s_cons (s_cmp O .lt (s_v 1) s_int) s_nil)))))) (b_cons (x_ret s_bl) b_nil) b_nil) (b_cons (x_ret (s_call O (s_cons (s_bin .add s_str (s_bin .mul s_str (s_bin .add (s_v 1) s_int))) (s_cons s_bl (s_cons (s_cmp O .lt (s_v 1) s_int) s_nil))))) b_nil))))))
theorem sc_law : FnScope ["script", "state", "text", "size"] ["script"] (defScope st_law) := ⟨rfl, rfl, rfl, by decide +kernel, rfl, by decide +kernel, by decide +kernel⟩
theorem d_law {P : Program} {w : World} {K : PySem.W.Frag} {mg : Str → Option Value} {base : Heap} {ad : Str → Addr} {d : Nat} {f : Addr} (X : Cx) (cdv : Value) (A : Around) (outer : List PySem.Env) (s : Shared) (H : Hp) (E : XK) (hX : X = cxOf (L2.CX P w) P w K mg base ["script", "state", "text", "size"] "law" (defScope st_law) f cdv A outer s H E) (O : Ok X pg nm ad d E) : PSs X (defBody st_law) (tB X (pg.cal d) E T_law) := by
  subst hX
  have nd := sc_law.nd
  exact (b_cons (x_set 1 nd (s_call O (s_cons (s_v 0) s_nil))) (b_cons (x_set 2 nd (s_call O (s_cons (s_v 1) (s_cons (s_bin .add s_int (s_call O (s_cons (s_v 1) (s_cons s_int s_nil)))) s_nil)))) (b_cons (x_set 3 nd (s_bfB O .len cf_len (by decide +kernel) (s_cons (s_v 2) s_nil))) (b_cons (x_if (PW.pt (w_or (s_tcmp O .ne (s_call O (s_cons (s_v 2) (s_cons s_bl s_nil))) (s_tup (s_cons s_str (s_cons s_int s_nil)))) (w_or1 (s_tcmp O .ne (s_call O (s_cons s_str (s_cons s_bl s_nil))) (s_tup (s_cons s_str (s_cons s_int s_nil))))))) (b_cons (x_ret s_bl) b_nil) b_nil) (b_cons (x_if (PW.pt (w_or (s_tcmp O .ne (s_call O (s_cons (s_bin .add (s_v 2) s_str) (s_cons s_bl s_nil))) (s_tup (s_cons s_str (s_cons (s_bin .add (s_v 3) s_int) s_nil)))) (w_or1 (s_tcmp O .ne (s_call O (s_cons (s_bin .add s_str (s_v 2)) (s_cons s_bl s_nil))) (s_tup (s_cons s_str (s_cons (s_bin .add (s_v 3) s_int) s_nil))))))) (b_cons (x_ret s_bl) b_nil) b_nil) (b_cons (x_if (PW.pt (w_or (s_tcmp O .ne (s_call O (s_cons (s_bin .add (s_v 2) s_str) (s_cons s_bl s_nil))) (s_tup (s_cons s_str (s_cons (s_bin .add (s_v 3) s_int) s_nil)))) (w_or1 (s_tcmp O .ne (s_call O (s_cons (s_bin .add (s_v 2) s_str) (s_cons s_bl s_nil))) (s_tup (s_cons s_str (s_cons (s_bin .add (s_v 3) s_int) s_nil))))))) (b_cons (x_ret s_bl) b_nil) b_nil) (b_cons (x_if (PW.pt (w_or (s_tcmp O .ne (s_call O (s_cons (s_bin .add (s_v 2) s_str) (s_cons s_bl s_nil))) (s_tup (s_cons s_str (s_cons (s_bin .add (s_v 3) s_int) s_nil)))) (w_or1 (s_tcmp O .ne (s_call O (s_cons (s_bin .add (s_v 2) s_str) (s_cons s_bl s_nil))) (s_tup (s_cons s_str (s_cons (s_bin .add (s_v 3) s_int) s_nil))))))) (b_cons (x_ret s_bl) b_nil) b_nil) (b_cons (x_if (s_tcmp O .ne (s_call O (s_cons (s_bin .add (s_v 2) s_str) (s_cons s_bl s_nil))) (s_tup (s_cons s_str (s_cons (s_bin .add (s_v 3) s_int) s_nil)))) (b_cons (x_ret s_bl) b_nil) b_nil) (b_cons (x_if (s_tcmp O .ne (s_call O (s_cons (s_bin .add (s_v 2) s_str) (s_cons s_bl s_nil))) (s_tup (s_cons s_str (s_cons s_int s_nil)))) (b_cons (x_ret s_bl) b_nil) b_nil) (b_cons (x_if (s_tcmp O .notIn (s_call O (s_cons (s_bin .add (s_bin .add (s_v 2) s_str) (s_bin .mul s_str s_int)) (s_cons s_bl s_nil))) (s_lst (s_cons (s_tup (s_cons s_str (s_cons (s_bin .add (s_v 3) s_int) s_nil))) s_nil))) (b_cons (x_ret s_bl) b_nil) b_nil) (b_cons (x_if (s_tcmp O .ne (s_call O (s_cons (s_bin .add s_str (s_v 2)) (s_cons s_bl s_nil))) (s_tup (s_cons s_str (s_cons s_int s_nil)))) (b_cons (x_ret s_bl) b_nil) b_nil) (b_cons (x_if (PW.pt (w_or (s_tcmp O .ne (s_call O (s_cons (s_bin .add s_str (s_v 2)) (s_cons s_bl s_nil))) (s_tup (s_cons s_str (s_cons s_int s_nil)))) (w_or1 (s_tcmp O .ne (s_call O (s_cons s_str (s_cons s_bl s_nil))) (s_tup (s_cons s_str (s_cons s_int s_nil))))))) (b_cons (x_ret s_bl) b_nil) b_nil) (b_cons (x_if (PW.pt (w_or (s_tcmp O .ne (s_call O (s_cons (s_bin .add s_str (s_bin .mul s_str s_int)) (s_cons s_bl s_nil))) (s_tup (s_cons s_str (s_cons s_int s_nil)))) (w_or1 (s_tcmp O .ne (s_call O (s_cons (s_bin .add s_str (s_bin .mul s_str s_int)) (s_cons s_bl s_nil))) (s_tup (s_cons s_str (s_cons s_str s_nil))))))) (b_cons (x_ret s_bl) b_nil) b_nil) (b_cons (x_ret (s_call O (s_cons (s_v 1) s_nil))) b_nil))))))))))))))
theorem sc_Reader__init_ : FnScope ["self", "text"] ["self", "text"] (defScope st_Reader__init_) := ⟨rfl, rfl, rfl, by decide +kernel, rfl, by decide +kernel, by decide +kernel⟩
theorem d_Reader__init_ {P : Program} {w : World} {K : PySem.W.Frag} {mg : Str → Option Value} {base : Heap} {ad : Str → Addr} {d : Nat} {f : Addr} (X : Cx) (cdv : Value) (A : Around) (outer : List PySem.Env) (s : Shared) (H : Hp) (E : XK) (hX : X = cxOf (L2.CX P w) P w K mg base ["self", "text"] "Reader.__init__" (defScope st_Reader__init_) f cdv A outer s H E) (O : Ok X pg nm ad d E) : PSs X (defBody st_Reader__init_) (tB X (pg.cal d) E T_Reader__init_) := by
  subst hX
  have nd := sc_Reader__init_.nd
  exact (b_cons (x_fset O "Reader" (s_v 0) (s_call O (s_cons (s_v 1) s_nil))) (b_cons (x_ex (s_bm .append rfl PySem.F.plainAttrs_list PySem.F.slot_list_append PySem.F.type_list_append bm_append (s_fld O "Reader" (s_v 0)) (s_cons (s_tup (s_cons s_str (s_cons s_str (s_cons (s_bfB O .len cf_len (by decide +kernel) (s_cons (s_v 1) s_nil)) s_nil)))) s_nil))) (b_cons (x_fset O "Reader" (s_v 0) s_int) (b_cons (x_fset O "Reader" (s_v 0) s_int) b_nil))))
theorem sc_Reader_sees : FnScope ["self", "values"] ["self", "values"] (defScope st_Reader_sees) := ⟨rfl, rfl, rfl, by decide +kernel, rfl, by decide +kernel, by decide +kernel⟩
theorem d_Reader_sees {P : Program} {w : World} {K : PySem.W.Frag} {mg : Str → Option Value} {base : Heap} {ad : Str → Addr} {d : Nat} {f : Addr} (X : Cx) (cdv : Value) (A : Around) (outer : List PySem.Env) (s : Shared) (H : Hp) (E : XK) (hX : X = cxOf (L2.CX P w) P w K mg base ["self", "values"] "Reader.sees" (defScope st_Reader_sees) f cdv A outer s H E) (O : Ok X pg nm ad d E) : PSs X (defBody st_Reader_sees) (tB X (pg.cal d) E T_Reader_sees) := by
  subst hX
  have nd := sc_Reader_sees.nd
  exact (b_cons (x_ret (s_cmp O .in_ (s_ix (s_ix (s_fld O "Reader" (s_v 0)) (s_fld O "Reader" (s_v 0))) s_int) (s_v 1))) b_nil)
theorem sc_Reader_take : FnScope ["self", "values"] ["self", "values"] (defScope st_Reader_take) := ⟨rfl, rfl, rfl, by decide +kernel, rfl, by decide +kernel, by decide +kernel⟩
theorem d_Reader_take {P : Program} {w : World} {K : PySem.W.Frag} {mg : Str → Option Value} {base : Heap} {ad : Str → Addr} {d : Nat} {f : Addr} (X : Cx) (cdv : Value) (A : Around) (outer : List PySem.Env) (s : Shared) (H : Hp) (E : XK) (hX : X = cxOf (L2.CX P w) P w K mg base ["self", "values"] "Reader.take" (defScope st_Reader_take) f cdv A outer s H E) (O : Ok X pg nm ad d E) : PSs X (defBody st_Reader_take) (tB X (pg.cal d) E T_Reader_take) := by
  subst hX
  have nd := sc_Reader_take.nd
  exact (b_cons (x_if (s_tnot (s_tt (s_methS O "Reader" (s_v 0) (s_v 1)))) (b_cons (x_ex (s_meth0 O "Reader" (s_v 0))) b_nil) b_nil) (b_cons (x_faug O .add "Reader" (s_v 0) s_int) (b_cons (x_ret (s_ix (s_ix (s_fld O "Reader" (s_v 0)) (s_bin .sub (s_fld O "Reader" (s_v 0)) s_int)) s_int)) b_nil)))
theorem sc_Reader_skips : FnScope ["self", "value", "found"] ["self", "value"] (defScope st_Reader_skips) := ⟨rfl, rfl, rfl, by decide +kernel, rfl, by decide +kernel, by decide +kernel⟩
theorem d_Reader_skips {P : Program} {w : World} {K : PySem.W.Frag} {mg : Str → Option Value} {base : Heap} {ad : Str → Addr} {d : Nat} {f : Addr} (X : Cx) (cdv : Value) (A : Around) (outer : List PySem.Env) (s : Shared) (H : Hp) (E : XK) (hX : X = cxOf (L2.CX P w) P w K mg base ["self", "value", "found"] "Reader.skips" (defScope st_Reader_skips) f cdv A outer s H E) (O : Ok X pg nm ad d E) : PSs X (defBody st_Reader_skips) (tB X (pg.cal d) E T_Reader_skips) := by
  subst hX
  have nd := sc_Reader_skips.nd
  exact (b_cons (x_set 2 nd (s_meth O "Reader" (s_v 0) (s_cons (s_v 1) s_nil))) (b_cons (x_if (s_tt (s_v 2)) (b_cons (x_faug O .add "Reader" (s_v 0) s_int) b_nil) b_nil) (b_cons (x_ret (s_v 2)) b_nil)))
theorem sc_Reader_take_name : FnScope ["self", "kind", "value", "_"] ["self"] (defScope st_Reader_take_name) := ⟨rfl, rfl, rfl, by decide +kernel, rfl, by decide +kernel, by decide +kernel⟩
theorem d_Reader_take_name {P : Program} {w : World} {K : PySem.W.Frag} {mg : Str → Option Value} {base : Heap} {ad : Str → Addr} {d : Nat} {f : Addr} (X : Cx) (cdv : Value) (A : Around) (outer : List PySem.Env) (s : Shared) (H : Hp) (E : XK) (hX : X = cxOf (L2.CX P w) P w K mg base ["self", "kind", "value", "_"] "Reader.take_name" (defScope st_Reader_take_name) f cdv A outer s H E) (O : Ok X pg nm ad d E) : PSs X (defBody st_Reader_take_name) (tB X (pg.cal d) E T_Reader_take_name) := by
  subst hX
  have nd := sc_Reader_take_name.nd
  exact (b_cons (x_tup rfl (s_ix (s_fld O "Reader" (s_v 0)) (s_fld O "Reader" (s_v 0))) (gs_cons 1 nd (gs_cons 2 nd (gs_cons 3 nd gs_nil)))) (b_cons (x_if (s_tcmp O .ne (s_v 1) s_str) (b_cons (x_ex (s_meth0 O "Reader" (s_v 0))) b_nil) b_nil) (b_cons (x_faug O .add "Reader" (s_v 0) s_int) (b_cons (x_ret (s_v 2)) b_nil))))
theorem sc_Reader_refuse : FnScope ["self"] ["self"] (defScope st_Reader_refuse) := ⟨rfl, rfl, rfl, by decide +kernel, rfl, by decide +kernel, by decide +kernel⟩
theorem d_Reader_refuse {P : Program} {w : World} {K : PySem.W.Frag} {mg : Str → Option Value} {base : Heap} {ad : Str → Addr} {d : Nat} {f : Addr} (X : Cx) (cdv : Value) (A : Around) (outer : List PySem.Env) (s : Shared) (H : Hp) (E : XK) (hX : X = cxOf (L2.CX P w) P w K mg base ["self"] "Reader.refuse" (defScope st_Reader_refuse) f cdv A outer s H E) (O : Ok X pg nm ad d E) : PSs X (defBody st_Reader_refuse) (tB X (pg.cal d) E T_Reader_refuse) := by
  subst hX
  have nd := sc_Reader_refuse.nd
  exact (b_cons (x_raise O "at" (s_ix (s_ix (s_fld O "Reader" (s_v 0)) (s_fld O "Reader" (s_v 0))) s_int)) b_nil)
theorem sc_Reader_finish : FnScope ["self"] ["self"] (defScope st_Reader_finish) := ⟨rfl, rfl, rfl, by decide +kernel, rfl, by decide +kernel, by decide +kernel⟩
theorem d_Reader_finish {P : Program} {w : World} {K : PySem.W.Frag} {mg : Str → Option Value} {base : Heap} {ad : Str → Addr} {d : Nat} {f : Addr} (X : Cx) (cdv : Value) (A : Around) (outer : List PySem.Env) (s : Shared) (H : Hp) (E : XK) (hX : X = cxOf (L2.CX P w) P w K mg base ["self"] "Reader.finish" (defScope st_Reader_finish) f cdv A outer s H E) (O : Ok X pg nm ad d E) : PSs X (defBody st_Reader_finish) (tB X (pg.cal d) E T_Reader_finish) := by
  subst hX
  have nd := sc_Reader_finish.nd
  exact (b_cons (x_if (s_tcmp O .ne (s_ix (s_ix (s_fld O "Reader" (s_v 0)) (s_fld O "Reader" (s_v 0))) s_int) s_str) (b_cons (x_ex (s_meth0 O "Reader" (s_v 0))) b_nil) b_nil) b_nil)
theorem sc_Reader_enter : FnScope ["self"] ["self"] (defScope st_Reader_enter) := ⟨rfl, rfl, rfl, by decide +kernel, rfl, by decide +kernel, by decide +kernel⟩
theorem d_Reader_enter {P : Program} {w : World} {K : PySem.W.Frag} {mg : Str → Option Value} {base : Heap} {ad : Str → Addr} {d : Nat} {f : Addr} (X : Cx) (cdv : Value) (A : Around) (outer : List PySem.Env) (s : Shared) (H : Hp) (E : XK) (hX : X = cxOf (L2.CX P w) P w K mg base ["self"] "Reader.enter" (defScope st_Reader_enter) f cdv A outer s H E) (O : Ok X pg nm ad d E) : PSs X (defBody st_Reader_enter) (tB X (pg.cal d) E T_Reader_enter) := by
  subst hX
  have nd := sc_Reader_enter.nd
  exact (b_cons (x_if (s_tcmp O .eq (s_fld O "Reader" (s_v 0)) (s_g O)) (b_cons (x_raise O "name" s_str) b_nil) b_nil) (b_cons (x_faug O .add "Reader" (s_v 0) s_int) b_nil))
theorem sc_Reader_leave : FnScope ["self"] ["self"] (defScope st_Reader_leave) := ⟨rfl, rfl, rfl, by decide +kernel, rfl, by decide +kernel, by decide +kernel⟩
theorem d_Reader_leave {P : Program} {w : World} {K : PySem.W.Frag} {mg : Str → Option Value} {base : Heap} {ad : Str → Addr} {d : Nat} {f : Addr} (X : Cx) (cdv : Value) (A : Around) (outer : List PySem.Env) (s : Shared) (H : Hp) (E : XK) (hX : X = cxOf (L2.CX P w) P w K mg base ["self"] "Reader.leave" (defScope st_Reader_leave) f cdv A outer s H E) (O : Ok X pg nm ad d E) : PSs X (defBody st_Reader_leave) (tB X (pg.cal d) E T_Reader_leave) := by
  subst hX
  have nd := sc_Reader_leave.nd
  exact (b_cons (x_faug O .sub "Reader" (s_v 0) s_int) b_nil)
theorem sc_Reader_read_expression : FnScope ["self", "found"] ["self"] (defScope st_Reader_read_expression) := ⟨rfl, rfl, rfl, by decide +kernel, rfl, by decide +kernel, by decide +kernel⟩
theorem d_Reader_read_expression {P : Program} {w : World} {K : PySem.W.Frag} {mg : Str → Option Value} {base : Heap} {ad : Str → Addr} {d : Nat} {f : Addr} (X : Cx) (cdv : Value) (A : Around) (outer : List PySem.Env) (s : Shared) (H : Hp) (E : XK) (hX : X = cxOf (L2.CX P w) P w K mg base ["self", "found"] "Reader.read_expression" (defScope st_Reader_read_expression) f cdv A outer s H E) (O : Ok X pg nm ad d E) : PSs X (defBody st_Reader_read_expression) (tB X (pg.cal d) E T_Reader_read_expression) := by
  subst hX
  have nd := sc_Reader_read_expression.nd
  exact (b_cons (x_ex (s_meth0 O "Reader" (s_v 0))) (b_cons (x_if (s_tt (s_meth O "Reader" (s_v 0) (s_cons s_str s_nil))) (b_cons (x_set 1 nd (s_meth0 O "Reader" (s_v 0))) b_nil) (b_cons (x_if (s_tt (s_meth O "Reader" (s_v 0) (s_cons s_str s_nil))) (b_cons (x_set 1 nd (s_meth0 O "Reader" (s_v 0))) b_nil) (b_cons (x_if (s_tt (s_meth O "Reader" (s_v 0) (s_cons s_str s_nil))) (b_cons (x_set 1 nd (s_meth0 O "Reader" (s_v 0))) b_nil) (b_cons (x_if (s_tt (s_meth O "Reader" (s_v 0) (s_cons s_str s_nil))) (b_cons (x_set 1 nd (s_meth0 O "Reader" (s_v 0))) b_nil) (b_cons (x_if (s_tt (s_meth O "Reader" (s_v 0) (s_cons s_str s_nil))) (b_cons (x_set 1 nd (s_meth0 O "Reader" (s_v 0))) b_nil) (b_cons (x_set 1 nd (s_meth0 O "Reader" (s_v 0))) b_nil)) b_nil)) b_nil)) b_nil)) b_nil)) (b_cons (x_ex (s_meth0 O "Reader" (s_v 0))) (b_cons (x_ret (s_v 1)) b_nil))))
theorem sc_Reader_read_fun : FnScope ["self", "name", "given", "body"] ["self"] (defScope st_Reader_read_fun) := ⟨rfl, rfl, rfl, by decide +kernel, rfl, by decide +kernel, by decide +kernel⟩
theorem d_Reader_read_fun {P : Program} {w : World} {K : PySem.W.Frag} {mg : Str → Option Value} {base : Heap} {ad : Str → Addr} {d : Nat} {f : Addr} (X : Cx) (cdv : Value) (A : Around) (outer : List PySem.Env) (s : Shared) (H : Hp) (E : XK) (hX : X = cxOf (L2.CX P w) P w K mg base ["self", "name", "given", "body"] "Reader.read_fun" (defScope st_Reader_read_fun) f cdv A outer s H E) (O : Ok X pg nm ad d E) : PSs X (defBody st_Reader_read_fun) (tB X (pg.cal d) E T_Reader_read_fun) := by
  subst hX
  have nd := sc_Reader_read_fun.nd
  exact (b_cons (x_set 1 nd (s_meth0 O "Reader" (s_v 0))) (b_cons (x_set 2 nd (s_g O)) (b_cons (x_if (s_tt (s_meth O "Reader" (s_v 0) (s_cons s_str s_nil))) (b_cons (x_set 2 nd (s_meth0 O "Reader" (s_v 0))) b_nil) b_nil) (b_cons (x_ex (s_meth O "Reader" (s_v 0) (s_cons s_str s_nil))) (b_cons (x_set 3 nd (s_meth0 O "Reader" (s_v 0))) (b_cons (x_ret (s_call O (s_cons (s_tup (s_cons s_str (s_cons (s_v 1) s_nil))) (s_cons (s_v 2) (s_cons (s_v 3) s_nil))))) b_nil))))))
theorem sc_Reader_read_rec : FnScope ["self", "own", "name", "given", "result", "body"] ["self"] (defScope st_Reader_read_rec) := ⟨rfl, rfl, rfl, by decide +kernel, rfl, by decide +kernel, by decide +kernel⟩
theorem d_Reader_read_rec {P : Program} {w : World} {K : PySem.W.Frag} {mg : Str → Option Value} {base : Heap} {ad : Str → Addr} {d : Nat} {f : Addr} (X : Cx) (cdv : Value) (A : Around) (outer : List PySem.Env) (s : Shared) (H : Hp) (E : XK) (hX : X = cxOf (L2.CX P w) P w K mg base ["self", "own", "name", "given", "result", "body"] "Reader.read_rec" (defScope st_Reader_read_rec) f cdv A outer s H E) (O : Ok X pg nm ad d E) : PSs X (defBody st_Reader_read_rec) (tB X (pg.cal d) E T_Reader_read_rec) := by
  subst hX
  have nd := sc_Reader_read_rec.nd
  exact (b_cons (x_set 1 nd (s_meth0 O "Reader" (s_v 0))) (b_cons (x_ex (s_meth O "Reader" (s_v 0) (s_cons s_str s_nil))) (b_cons (x_set 2 nd (s_meth0 O "Reader" (s_v 0))) (b_cons (x_ex (s_meth O "Reader" (s_v 0) (s_cons s_str s_nil))) (b_cons (x_set 3 nd (s_meth0 O "Reader" (s_v 0))) (b_cons (x_ex (s_meth O "Reader" (s_v 0) (s_cons s_str s_nil))) (b_cons (x_ex (s_meth O "Reader" (s_v 0) (s_cons s_str s_nil))) (b_cons (x_set 4 nd (s_meth0 O "Reader" (s_v 0))) (b_cons (x_ex (s_meth O "Reader" (s_v 0) (s_cons s_str s_nil))) (b_cons (x_set 5 nd (s_meth0 O "Reader" (s_v 0))) (b_cons (x_ret (s_call O (s_cons (s_tup (s_cons s_str (s_cons (s_v 1) (s_cons (s_v 2) s_nil)))) (s_cons (s_v 3) (s_cons (s_v 4) (s_cons (s_v 5) s_nil)))))) b_nil)))))))))))
theorem sc_Reader_read_let : FnScope ["self", "name", "bound", "body"] ["self"] (defScope st_Reader_read_let) := ⟨rfl, rfl, rfl, by decide +kernel, rfl, by decide +kernel, by decide +kernel⟩
theorem d_Reader_read_let {P : Program} {w : World} {K : PySem.W.Frag} {mg : Str → Option Value} {base : Heap} {ad : Str → Addr} {d : Nat} {f : Addr} (X : Cx) (cdv : Value) (A : Around) (outer : List PySem.Env) (s : Shared) (H : Hp) (E : XK) (hX : X = cxOf (L2.CX P w) P w K mg base ["self", "name", "bound", "body"] "Reader.read_let" (defScope st_Reader_read_let) f cdv A outer s H E) (O : Ok X pg nm ad d E) : PSs X (defBody st_Reader_read_let) (tB X (pg.cal d) E T_Reader_read_let) := by
  subst hX
  have nd := sc_Reader_read_let.nd
  exact (b_cons (x_set 1 nd (s_meth0 O "Reader" (s_v 0))) (b_cons (x_ex (s_meth O "Reader" (s_v 0) (s_cons s_str s_nil))) (b_cons (x_set 2 nd (s_meth0 O "Reader" (s_v 0))) (b_cons (x_ex (s_meth O "Reader" (s_v 0) (s_cons s_str s_nil))) (b_cons (x_set 3 nd (s_meth0 O "Reader" (s_v 0))) (b_cons (x_ret (s_call O (s_cons (s_tup (s_cons s_str (s_cons (s_v 1) s_nil))) (s_cons (s_v 2) (s_cons (s_v 3) s_nil))))) b_nil))))))
theorem sc_Reader_read_if : FnScope ["self", "condition", "first", "second"] ["self"] (defScope st_Reader_read_if) := ⟨rfl, rfl, rfl, by decide +kernel, rfl, by decide +kernel, by decide +kernel⟩
theorem d_Reader_read_if {P : Program} {w : World} {K : PySem.W.Frag} {mg : Str → Option Value} {base : Heap} {ad : Str → Addr} {d : Nat} {f : Addr} (X : Cx) (cdv : Value) (A : Around) (outer : List PySem.Env) (s : Shared) (H : Hp) (E : XK) (hX : X = cxOf (L2.CX P w) P w K mg base ["self", "condition", "first", "second"] "Reader.read_if" (defScope st_Reader_read_if) f cdv A outer s H E) (O : Ok X pg nm ad d E) : PSs X (defBody st_Reader_read_if) (tB X (pg.cal d) E T_Reader_read_if) := by
  subst hX
  have nd := sc_Reader_read_if.nd
  exact (b_cons (x_set 1 nd (s_meth0 O "Reader" (s_v 0))) (b_cons (x_ex (s_meth O "Reader" (s_v 0) (s_cons s_str s_nil))) (b_cons (x_set 2 nd (s_meth0 O "Reader" (s_v 0))) (b_cons (x_ex (s_meth O "Reader" (s_v 0) (s_cons s_str s_nil))) (b_cons (x_set 3 nd (s_meth0 O "Reader" (s_v 0))) (b_cons (x_ret (s_call O (s_cons (s_tup (s_cons s_str s_nil)) (s_cons (s_v 1) (s_cons (s_v 2) (s_cons (s_v 3) s_nil)))))) b_nil))))))
theorem sc_Reader_read_print : FnScope ["self", "printed", "body"] ["self"] (defScope st_Reader_read_print) := ⟨rfl, rfl, rfl, by decide +kernel, rfl, by decide +kernel, by decide +kernel⟩
theorem d_Reader_read_print {P : Program} {w : World} {K : PySem.W.Frag} {mg : Str → Option Value} {base : Heap} {ad : Str → Addr} {d : Nat} {f : Addr} (X : Cx) (cdv : Value) (A : Around) (outer : List PySem.Env) (s : Shared) (H : Hp) (E : XK) (hX : X = cxOf (L2.CX P w) P w K mg base ["self", "printed", "body"] "Reader.read_print" (defScope st_Reader_read_print) f cdv A outer s H E) (O : Ok X pg nm ad d E) : PSs X (defBody st_Reader_read_print) (tB X (pg.cal d) E T_Reader_read_print) := by
  subst hX
  have nd := sc_Reader_read_print.nd
  exact (b_cons (x_set 1 nd (s_meth0 O "Reader" (s_v 0))) (b_cons (x_ex (s_meth O "Reader" (s_v 0) (s_cons s_str s_nil))) (b_cons (x_set 2 nd (s_meth0 O "Reader" (s_v 0))) (b_cons (x_ret (s_call O (s_cons (s_tup (s_cons s_str s_nil)) (s_cons (s_v 1) (s_cons (s_v 2) s_nil))))) b_nil))))
theorem sc_Reader_read_comparison : FnScope ["self", "left", "sign", "right"] ["self"] (defScope st_Reader_read_comparison) := ⟨rfl, rfl, rfl, by decide +kernel, rfl, by decide +kernel, by decide +kernel⟩
theorem d_Reader_read_comparison {P : Program} {w : World} {K : PySem.W.Frag} {mg : Str → Option Value} {base : Heap} {ad : Str → Addr} {d : Nat} {f : Addr} (X : Cx) (cdv : Value) (A : Around) (outer : List PySem.Env) (s : Shared) (H : Hp) (E : XK) (hX : X = cxOf (L2.CX P w) P w K mg base ["self", "left", "sign", "right"] "Reader.read_comparison" (defScope st_Reader_read_comparison) f cdv A outer s H E) (O : Ok X pg nm ad d E) : PSs X (defBody st_Reader_read_comparison) (tB X (pg.cal d) E T_Reader_read_comparison) := by
  subst hX
  have nd := sc_Reader_read_comparison.nd
  exact (b_cons (x_set 1 nd (s_meth0 O "Reader" (s_v 0))) (b_cons (x_if (s_tnot (s_tt (s_meth O "Reader" (s_v 0) (s_cons s_str (s_cons s_str s_nil))))) (b_cons (x_ret (s_v 1)) b_nil) b_nil) (b_cons (x_set 2 nd (s_meth O "Reader" (s_v 0) (s_cons s_str (s_cons s_str s_nil)))) (b_cons (x_set 3 nd (s_meth0 O "Reader" (s_v 0))) (b_cons (x_ret (s_call O (s_cons (s_tup (s_cons s_str (s_cons (s_v 2) s_nil))) (s_cons (s_v 1) (s_cons (s_v 3) s_nil))))) b_nil)))))
theorem sc_Reader_read_sum : FnScope ["self", "left", "sign", "right"] ["self"] (defScope st_Reader_read_sum) := ⟨rfl, rfl, rfl, by decide +kernel, rfl, by decide +kernel, by decide +kernel⟩
theorem d_Reader_read_sum {P : Program} {w : World} {K : PySem.W.Frag} {mg : Str → Option Value} {base : Heap} {ad : Str → Addr} {d : Nat} {f : Addr} (X : Cx) (cdv : Value) (A : Around) (outer : List PySem.Env) (s : Shared) (H : Hp) (E : XK) (hX : X = cxOf (L2.CX P w) P w K mg base ["self", "left", "sign", "right"] "Reader.read_sum" (defScope st_Reader_read_sum) f cdv A outer s H E) (O : Ok X pg nm ad d E) : PSs X (defBody st_Reader_read_sum) (tB X (pg.cal d) E T_Reader_read_sum) := by
  subst hX
  have nd := sc_Reader_read_sum.nd
  exact (b_cons (x_set 1 nd (s_meth0 O "Reader" (s_v 0))) (b_cons (x_while O (s_tt (s_meth O "Reader" (s_v 0) (s_cons s_str (s_cons s_str s_nil)))) (b_cons (x_set 2 nd (s_meth O "Reader" (s_v 0) (s_cons s_str (s_cons s_str s_nil)))) (b_cons (x_set 3 nd (s_meth0 O "Reader" (s_v 0))) (b_cons (x_set 1 nd (s_call O (s_cons (s_tup (s_cons s_str (s_cons (s_v 2) s_nil))) (s_cons (s_v 1) (s_cons (s_v 3) s_nil))))) b_nil)))) (b_cons (x_ret (s_v 1)) b_nil)))
theorem sc_Reader_read_product : FnScope ["self", "left", "right"] ["self"] (defScope st_Reader_read_product) := ⟨rfl, rfl, rfl, by decide +kernel, rfl, by decide +kernel, by decide +kernel⟩
theorem d_Reader_read_product {P : Program} {w : World} {K : PySem.W.Frag} {mg : Str → Option Value} {base : Heap} {ad : Str → Addr} {d : Nat} {f : Addr} (X : Cx) (cdv : Value) (A : Around) (outer : List PySem.Env) (s : Shared) (H : Hp) (E : XK) (hX : X = cxOf (L2.CX P w) P w K mg base ["self", "left", "right"] "Reader.read_product" (defScope st_Reader_read_product) f cdv A outer s H E) (O : Ok X pg nm ad d E) : PSs X (defBody st_Reader_read_product) (tB X (pg.cal d) E T_Reader_read_product) := by
  subst hX
  have nd := sc_Reader_read_product.nd
  exact (b_cons (x_set 1 nd (s_meth0 O "Reader" (s_v 0))) (b_cons (x_while O (s_tt (s_meth O "Reader" (s_v 0) (s_cons s_str s_nil))) (b_cons (x_set 2 nd (s_meth0 O "Reader" (s_v 0))) (b_cons (x_set 1 nd (s_call O (s_cons (s_tup (s_cons s_str (s_cons s_str s_nil))) (s_cons (s_v 1) (s_cons (s_v 2) s_nil))))) b_nil))) (b_cons (x_ret (s_v 1)) b_nil)))
theorem sc_Reader_read_prefix : FnScope ["self", "word", "operand", "found", "target", "stored"] ["self"] (defScope st_Reader_read_prefix) := ⟨rfl, rfl, rfl, by decide +kernel, rfl, by decide +kernel, by decide +kernel⟩
theorem d_Reader_read_prefix {P : Program} {w : World} {K : PySem.W.Frag} {mg : Str → Option Value} {base : Heap} {ad : Str → Addr} {d : Nat} {f : Addr} (X : Cx) (cdv : Value) (A : Around) (outer : List PySem.Env) (s : Shared) (H : Hp) (E : XK) (hX : X = cxOf (L2.CX P w) P w K mg base ["self", "word", "operand", "found", "target", "stored"] "Reader.read_prefix" (defScope st_Reader_read_prefix) f cdv A outer s H E) (O : Ok X pg nm ad d E) : PSs X (defBody st_Reader_read_prefix) (tB X (pg.cal d) E T_Reader_read_prefix) := by
  subst hX
  have nd := sc_Reader_read_prefix.nd
  exact (b_cons (x_ex (s_meth0 O "Reader" (s_v 0))) (b_cons (x_if (s_tt (s_methS O "Reader" (s_v 0) (s_g O))) (b_cons (x_set 1 nd (s_methS O "Reader" (s_v 0) (s_g O))) (b_cons (x_set 2 nd (s_meth0 O "Reader" (s_v 0))) (b_cons (x_set 3 nd (s_call O (s_cons (s_tup (s_cons (s_v 1) s_nil)) (s_cons (s_v 2) s_nil)))) b_nil))) (b_cons (x_if (s_tt (s_meth O "Reader" (s_v 0) (s_cons s_str s_nil))) (b_cons (x_set 4 nd (s_meth0 O "Reader" (s_v 0))) (b_cons (x_set 5 nd (s_meth0 O "Reader" (s_v 0))) (b_cons (x_set 3 nd (s_call O (s_cons (s_tup (s_cons s_str s_nil)) (s_cons (s_v 4) (s_cons (s_v 5) s_nil))))) b_nil))) (b_cons (x_set 3 nd (s_meth0 O "Reader" (s_v 0))) b_nil)) b_nil)) (b_cons (x_ex (s_meth0 O "Reader" (s_v 0))) (b_cons (x_ret (s_v 3)) b_nil))))
theorem sc_Reader_read_call : FnScope ["self", "called", "passed"] ["self"] (defScope st_Reader_read_call) := ⟨rfl, rfl, rfl, by decide +kernel, rfl, by decide +kernel, by decide +kernel⟩
theorem d_Reader_read_call {P : Program} {w : World} {K : PySem.W.Frag} {mg : Str → Option Value} {base : Heap} {ad : Str → Addr} {d : Nat} {f : Addr} (X : Cx) (cdv : Value) (A : Around) (outer : List PySem.Env) (s : Shared) (H : Hp) (E : XK) (hX : X = cxOf (L2.CX P w) P w K mg base ["self", "called", "passed"] "Reader.read_call" (defScope st_Reader_read_call) f cdv A outer s H E) (O : Ok X pg nm ad d E) : PSs X (defBody st_Reader_read_call) (tB X (pg.cal d) E T_Reader_read_call) := by
  subst hX
  have nd := sc_Reader_read_call.nd
  exact (b_cons (x_set 1 nd (s_meth0 O "Reader" (s_v 0))) (b_cons (x_while O (s_tt (s_meth0 O "Reader" (s_v 0))) (b_cons (x_set 2 nd (s_meth0 O "Reader" (s_v 0))) (b_cons (x_set 1 nd (s_call O (s_cons (s_tup (s_cons s_str s_nil)) (s_cons (s_v 1) (s_cons (s_v 2) s_nil))))) b_nil))) (b_cons (x_ret (s_v 1)) b_nil)))
theorem sc_Reader_sees_atom : FnScope ["self", "kind"] ["self"] (defScope st_Reader_sees_atom) := ⟨rfl, rfl, rfl, by decide +kernel, rfl, by decide +kernel, by decide +kernel⟩
theorem d_Reader_sees_atom {P : Program} {w : World} {K : PySem.W.Frag} {mg : Str → Option Value} {base : Heap} {ad : Str → Addr} {d : Nat} {f : Addr} (X : Cx) (cdv : Value) (A : Around) (outer : List PySem.Env) (s : Shared) (H : Hp) (E : XK) (hX : X = cxOf (L2.CX P w) P w K mg base ["self", "kind"] "Reader.sees_atom" (defScope st_Reader_sees_atom) f cdv A outer s H E) (O : Ok X pg nm ad d E) : PSs X (defBody st_Reader_sees_atom) (tB X (pg.cal d) E T_Reader_sees_atom) := by
  subst hX
  have nd := sc_Reader_sees_atom.nd
  exact (b_cons (x_set 1 nd (s_ix (s_ix (s_fld O "Reader" (s_v 0)) (s_fld O "Reader" (s_v 0))) s_int)) (b_cons (x_ret (s_or (s_cmp O .in_ (s_v 1) (s_tup (s_cons s_str (s_cons s_str s_nil)))) (s_one (s_meth O "Reader" (s_v 0) (s_cons s_str (s_cons s_str (s_cons s_str (s_cons s_str s_nil)))))))) b_nil))
theorem sc_Reader_read_atom : FnScope ["self", "kind", "value", "_"] ["self"] (defScope st_Reader_read_atom) := ⟨rfl, rfl, rfl, by decide +kernel, rfl, by decide +kernel, by decide +kernel⟩
theorem d_Reader_read_atom {P : Program} {w : World} {K : PySem.W.Frag} {mg : Str → Option Value} {base : Heap} {ad : Str → Addr} {d : Nat} {f : Addr} (X : Cx) (cdv : Value) (A : Around) (outer : List PySem.Env) (s : Shared) (H : Hp) (E : XK) (hX : X = cxOf (L2.CX P w) P w K mg base ["self", "kind", "value", "_"] "Reader.read_atom" (defScope st_Reader_read_atom) f cdv A outer s H E) (O : Ok X pg nm ad d E) : PSs X (defBody st_Reader_read_atom) (tB X (pg.cal d) E T_Reader_read_atom) := by
  subst hX
  have nd := sc_Reader_read_atom.nd
  exact (b_cons (x_if (s_tnot (s_tt (s_meth0 O "Reader" (s_v 0)))) (b_cons (x_ex (s_meth0 O "Reader" (s_v 0))) b_nil) b_nil) (b_cons (x_tup rfl (s_ix (s_fld O "Reader" (s_v 0)) (s_fld O "Reader" (s_v 0))) (gs_cons 1 nd (gs_cons 2 nd (gs_cons 3 nd gs_nil)))) (b_cons (x_faug O .add "Reader" (s_v 0) s_int) (b_cons (x_if (s_tcmp O .eq (s_v 1) s_str) (b_cons (x_ret (s_call O (s_cons s_str (s_cons (s_v 2) s_nil)))) b_nil) b_nil) (b_cons (x_if (s_tcmp O .eq (s_v 1) s_str) (b_cons (x_ret (s_call O (s_cons s_str (s_cons (s_v 2) s_nil)))) b_nil) b_nil) (b_cons (x_if (s_tcmp O .eq (s_v 2) s_str) (b_cons (x_ret (s_call O (s_cons s_str s_nil))) b_nil) b_nil) (b_cons (x_if (s_tcmp O .eq (s_v 2) s_str) (b_cons (x_ret (s_meth0 O "Reader" (s_v 0))) b_nil) b_nil) (b_cons (x_ret (s_call O (s_cons s_str (s_cons (s_cmp O .eq (s_v 2) s_str) s_nil)))) b_nil))))))))
theorem sc_Reader_read_group : FnScope ["self", "found", "given", "second"] ["self"] (defScope st_Reader_read_group) := ⟨rfl, rfl, rfl, by decide +kernel, rfl, by decide +kernel, by decide +kernel⟩
theorem d_Reader_read_group {P : Program} {w : World} {K : PySem.W.Frag} {mg : Str → Option Value} {base : Heap} {ad : Str → Addr} {d : Nat} {f : Addr} (X : Cx) (cdv : Value) (A : Around) (outer : List PySem.Env) (s : Shared) (H : Hp) (E : XK) (hX : X = cxOf (L2.CX P w) P w K mg base ["self", "found", "given", "second"] "Reader.read_group" (defScope st_Reader_read_group) f cdv A outer s H E) (O : Ok X pg nm ad d E) : PSs X (defBody st_Reader_read_group) (tB X (pg.cal d) E T_Reader_read_group) := by
  subst hX
  have nd := sc_Reader_read_group.nd
  exact (b_cons (x_set 1 nd (s_meth0 O "Reader" (s_v 0))) (b_cons (x_if (s_tt (s_meth O "Reader" (s_v 0) (s_cons s_str s_nil))) (b_cons (x_set 2 nd (s_meth0 O "Reader" (s_v 0))) (b_cons (x_ex (s_meth O "Reader" (s_v 0) (s_cons s_str s_nil))) (b_cons (x_ret (s_call O (s_cons (s_tup (s_cons s_str s_nil)) (s_cons (s_v 1) (s_cons (s_v 2) s_nil))))) b_nil))) b_nil) (b_cons (x_if (s_tt (s_meth O "Reader" (s_v 0) (s_cons s_str s_nil))) (b_cons (x_set 3 nd (s_meth0 O "Reader" (s_v 0))) (b_cons (x_ex (s_meth O "Reader" (s_v 0) (s_cons s_str s_nil))) (b_cons (x_ret (s_call O (s_cons (s_tup (s_cons s_str s_nil)) (s_cons (s_v 1) (s_cons (s_v 3) s_nil))))) b_nil))) b_nil) (b_cons (x_ex (s_meth O "Reader" (s_v 0) (s_cons s_str s_nil))) (b_cons (x_ret (s_v 1)) b_nil)))))
theorem sc_Reader_read_annotation : FnScope ["self", "first", "second"] ["self"] (defScope st_Reader_read_annotation) := ⟨rfl, rfl, rfl, by decide +kernel, rfl, by decide +kernel, by decide +kernel⟩
theorem d_Reader_read_annotation {P : Program} {w : World} {K : PySem.W.Frag} {mg : Str → Option Value} {base : Heap} {ad : Str → Addr} {d : Nat} {f : Addr} (X : Cx) (cdv : Value) (A : Around) (outer : List PySem.Env) (s : Shared) (H : Hp) (E : XK) (hX : X = cxOf (L2.CX P w) P w K mg base ["self", "first", "second"] "Reader.read_annotation" (defScope st_Reader_read_annotation) f cdv A outer s H E) (O : Ok X pg nm ad d E) : PSs X (defBody st_Reader_read_annotation) (tB X (pg.cal d) E T_Reader_read_annotation) := by
  subst hX
  have nd := sc_Reader_read_annotation.nd
  exact (b_cons (x_set 1 nd (s_meth0 O "Reader" (s_v 0))) (b_cons (x_if (s_tnot (s_tt (s_meth O "Reader" (s_v 0) (s_cons s_str s_nil)))) (b_cons (x_ret (s_v 1)) b_nil) b_nil) (b_cons (x_ex (s_meth0 O "Reader" (s_v 0))) (b_cons (x_set 2 nd (s_meth0 O "Reader" (s_v 0))) (b_cons (x_ex (s_meth0 O "Reader" (s_v 0))) (b_cons (x_ret (s_call O (s_cons (s_tup (s_cons s_str s_nil)) (s_cons (s_v 1) (s_cons (s_v 2) s_nil))))) b_nil))))))
theorem sc_Reader_read_simple : FnScope ["self", "found"] ["self"] (defScope st_Reader_read_simple) := ⟨rfl, rfl, rfl, by decide +kernel, rfl, by decide +kernel, by decide +kernel⟩
theorem d_Reader_read_simple {P : Program} {w : World} {K : PySem.W.Frag} {mg : Str → Option Value} {base : Heap} {ad : Str → Addr} {d : Nat} {f : Addr} (X : Cx) (cdv : Value) (A : Around) (outer : List PySem.Env) (s : Shared) (H : Hp) (E : XK) (hX : X = cxOf (L2.CX P w) P w K mg base ["self", "found"] "Reader.read_simple" (defScope st_Reader_read_simple) f cdv A outer s H E) (O : Ok X pg nm ad d E) : PSs X (defBody st_Reader_read_simple) (tB X (pg.cal d) E T_Reader_read_simple) := by
  subst hX
  have nd := sc_Reader_read_simple.nd
  exact (b_cons (x_ex (s_meth0 O "Reader" (s_v 0))) (b_cons (x_if (s_tt (s_meth O "Reader" (s_v 0) (s_cons s_str s_nil))) (b_cons (x_set 1 nd (s_call O (s_cons (s_tup (s_cons s_str s_nil)) (s_cons (s_meth0 O "Reader" (s_v 0)) s_nil)))) b_nil) (b_cons (x_if (s_tt (s_meth O "Reader" (s_v 0) (s_cons s_str s_nil))) (b_cons (x_set 1 nd (s_meth0 O "Reader" (s_v 0))) b_nil) (b_cons (x_set 1 nd (s_call O (s_cons (s_methS O "Reader" (s_v 0) (s_g O)) s_nil))) b_nil)) b_nil)) (b_cons (x_ex (s_meth0 O "Reader" (s_v 0))) (b_cons (x_ret (s_v 1)) b_nil))))
theorem sc_Reader_read_annotation_group : FnScope ["self", "first", "second"] ["self"] (defScope st_Reader_read_annotation_group) := ⟨rfl, rfl, rfl, by decide +kernel, rfl, by decide +kernel, by decide +kernel⟩
theorem d_Reader_read_annotation_group {P : Program} {w : World} {K : PySem.W.Frag} {mg : Str → Option Value} {base : Heap} {ad : Str → Addr} {d : Nat} {f : Addr} (X : Cx) (cdv : Value) (A : Around) (outer : List PySem.Env) (s : Shared) (H : Hp) (E : XK) (hX : X = cxOf (L2.CX P w) P w K mg base ["self", "first", "second"] "Reader.read_annotation_group" (defScope st_Reader_read_annotation_group) f cdv A outer s H E) (O : Ok X pg nm ad d E) : PSs X (defBody st_Reader_read_annotation_group) (tB X (pg.cal d) E T_Reader_read_annotation_group) := by
  subst hX
  have nd := sc_Reader_read_annotation_group.nd
  exact (b_cons (x_set 1 nd (s_meth0 O "Reader" (s_v 0))) (b_cons (x_if (s_tnot (s_tt (s_meth O "Reader" (s_v 0) (s_cons s_str s_nil)))) (b_cons (x_ex (s_meth O "Reader" (s_v 0) (s_cons s_str s_nil))) (b_cons (x_ret (s_v 1)) b_nil)) b_nil) (b_cons (x_set 2 nd (s_meth0 O "Reader" (s_v 0))) (b_cons (x_ex (s_meth O "Reader" (s_v 0) (s_cons s_str s_nil))) (b_cons (x_ret (s_call O (s_cons (s_tup (s_cons s_str s_nil)) (s_cons (s_v 1) (s_cons (s_v 2) s_nil))))) b_nil)))))
end Pr

end

section
set_option maxHeartbeats 4000000
namespace Oz
open PySem
section
variable {α β : Type} {S : Sto}
theorem on_then {r : R α} {f : α → Sto → O} {g : Env → Sto → O} : (r.on f).then_ g = r.on fun a S => (f a S).then_ g := by cases r <;> rfl
theorem on_fin {r : R α} {f : α → Sto → O} : (r.on f).fin = r.bind fun a S => (f a S).fin := by cases r <;> rfl
theorem bind_on {γ : Type} {r : R α} {f : α → Sto → R γ} {g : γ → Sto → O} : (r.bind f).on g = r.on fun a S => (f a S).on g := by cases r <;> rfl
theorem bind_bind {γ : Type} {r : R α} {f : α → Sto → R γ} {g : γ → Sto → R β} : (r.bind f).bind g = r.bind fun a S => (f a S).bind g := by cases r <;> rfl
theorem bind_fin {r : R U} {f : U → Sto → O} : (r.on f).fin = r.bind fun a S => (f a S).fin := on_fin
theorem c_in_tup {a : U} {xs : List U} (ha : flatU a = true) (hx : xs.all flatU = true) : cmpU .in_ a (.tup xs) S = .ok (.bl (xs.any fun y => eqU y a)) S := by
  have e : inR a (.tup xs) S = some (xs.any fun y => eqU y a) := by
    cases a <;> simp [inR, items?, hx, flatU] at ha ⊢
  unfold cmpU cmpB
  simp only [e]
end
end Oz
namespace Pr
open PySem L2 Oz
theorem call_eq {f : Str} {df : Df} (h : tbl.lookup f = some (.inl df)) (d : Nat) (us : List U) (S : Sto) : (pg.cal (d + 1)).call f us S = df.run (pg.cal d) us S := by
  show (match tbl.lookup f with | some (.inl df) => df.run (pg.cal d) us S | some (.inr g) => g (pg.cal d) us S | none => R.bad) = _
  rw [h]
theorem run_eq {np nn : Nat} {b : Sts} {Φ : Cal} {us : List U} {S : Sto} (h : us.length = np) : (⟨np, nn, false, b⟩ : Df).run Φ us S = (exs Φ b (us.map some ++ List.replicate (nn - np) none) S).fin := by
  unfold Df.run bindU startU
  subst h
  rw [if_neg (show ¬ (false = true) from Bool.false_ne_true), if_pos rfl]
theorem run_star {np nn : Nat} {b : Sts} {Φ : Cal} {us : List U} {S : Sto} (h : np ≤ us.length) (h2 : us.length ≤ 1000) : (⟨np, nn, true, b⟩ : Df).run Φ us S = (exs Φ b ((us.take np ++ [U.tup (us.drop np)]).map some ++ List.replicate (nn - (np + 1)) none) S).fin := by
  unfold Df.run bindU startU
  rw [if_pos rfl, if_pos ⟨h, h2⟩]
  simp [Nat.min_eq_left h]
/-! ### tokens, the reader's cell -/
structure Tk where
  k : Str
  v : U
  a : Nat
def Tk.u (t : Tk) : U := .tup [.str t.k, t.v, .int t.a]
def Flat (ts : List Tk) : Prop := ∀ t ∈ ts, flatU t.v = true
def rdr (m : Nat) (i : Nat) (o : Int) : Cel := .ins "Reader" [("tokens", .loc m), ("done", .int i), ("opened", .int o)]
structure Rd (S : Sto) (n : Nat) (ts : List Tk) (i : Nat) (o : Int) (m : Nat) : Prop where
  r : S[n]? = some (.ins "Reader" [("tokens", .loc m), ("done", .int i), ("opened", .int o)])
  t : S[m]? = some (.lst (ts.map Tk.u))
  ne : m ≠ n
/-- only the cell at n changes, the store grows -/
def Fr (S S' : Sto) (n : Nat) : Prop := S.length ≤ S'.length ∧ ∀ k, k < S.length → k ≠ n → S'[k]? = S[k]?
theorem Fr.refl {S : Sto} {n : Nat} : Fr S S n := ⟨Nat.le_refl _, fun _ _ _ => rfl⟩
theorem Fr.trans {S S' S'' : Sto} {n : Nat} (a : Fr S S' n) (b : Fr S' S'' n) : Fr S S'' n := ⟨Nat.le_trans a.1 b.1, fun k h h' => (b.2 k (Nat.lt_of_lt_of_le h a.1) h').trans (a.2 k h h')⟩
theorem Fr.set {S : Sto} {n : Nat} {c : Cel} : Fr S (S.set n c) n := ⟨by simp, fun k h h' => by rw [List.getElem?_set_ne (Ne.symm h')]⟩
theorem Fr.push {S : Sto} {n : Nat} {c : Cel} : Fr S (S ++ [c]) n := ⟨by simp, fun k h h' => by rw [List.getElem?_append_left h]⟩
variable {S S' : Sto} {n m i d : Nat} {o : Int} {ts : List Tk} {t : Tk}
theorem Rd.set (h : Rd S n ts i o m) (i' : Nat) (o' : Int) : Rd (S.set n (rdr m i' o')) n ts i' o' m := by
  have hn : n < S.length := (List.getElem?_eq_some_iff.mp h.r).1
  exact ⟨by rw [List.getElem?_set_self hn]; rfl, by rw [List.getElem?_set_ne (Ne.symm h.ne)]; exact h.t, h.ne⟩
theorem Rd.grow (h : Rd S n ts i o m) (f : Fr S S' n) (e : S'[n]? = S[n]?) : Rd S' n ts i o m :=
  ⟨e.trans h.r, (f.2 m (List.getElem?_eq_some_iff.mp h.t).1 h.ne).trans h.t, h.ne⟩
theorem two_le0 : 0 + 1 + 1 ≤ sizeLine := by decide
theorem f_tokens {a b c : U} : List.lookup ("tokens" : Str) [(("tokens" : Str), a), ("done", b), ("opened", c)] = some a := rfl
theorem f_done {a b c : U} : List.lookup ("done" : Str) [(("tokens" : Str), a), ("done", b), ("opened", c)] = some b := rfl
theorem f_opened {a b c : U} : List.lookup ("opened" : Str) [(("tokens" : Str), a), ("done", b), ("opened", c)] = some c := rfl
theorem s_done (h : Rd S n ts i o m) (u : Nat) : setFldU (.loc n) "Reader" "done" (.int u) S = .ok () (S.set n (rdr m u o)) := by
  unfold setFldU
  simp only [h.r]
  rfl
theorem s_opened (h : Rd S n ts i o m) (u : Int) : setFldU (.loc n) "Reader" "opened" (.int u) S = .ok () (S.set n (rdr m i u)) := by
  unfold setFldU
  simp only [h.r]
  rfl
theorem tok_at (h : ts[i]? = some t) : atI (ts.map Tk.u) (i : Int) = some t.u := L2.atI_nat (by rw [List.getElem?_map, h]; rfl)
theorem a0 {a b c : U} : atI [a, b, c] 0 = some a := rfl
theorem a1 {a b c : U} : atI [a, b, c] 1 = some b := rfl
theorem a2 {a b c : U} : atI [a, b, c] 2 = some c := rfl
theorem g_depth (d : Nat) : (pg.cal d).glo "MOST_DEPTH" = some (.int 60) := by rw [cal_glo]; rfl
theorem xf_unb (d : Nat) : (pg.cal d).xf "Unbounded" = some "name" := by rw [cal_xf]; rfl
theorem xf_mal (d : Nat) : (pg.cal d).xf "Malformed" = some "at" := by rw [cal_xf]; rfl
/-! ### the reader's small methods -/
theorem enter_eq (h : Rd S n ts i o m) : (pg.cal (d + 1)).call "Reader.enter" [.loc n] S = if o = 60 then .exc "Unbounded" [("name", .str "depth")] S else .ok .non (S.set n (rdr m i (o + 1))) := by
  rw [call_eq (df := ⟨1, 1, false, T_Reader_enter⟩) (by kernel_rfl), run_eq (by rfl)]
  unfold T_Reader_enter
  simp_arith [h.r, f_opened, ev_g (g_depth d)]
  by_cases ho : o = 60
  · subst ho
    simp_arith [ex_raise (xf_unb d), decide_true]
  · simp_arith [ho, decide_false, h.r, f_opened, s_opened h]
theorem leave_eq (h : Rd S n ts i o m) : (pg.cal (d + 1)).call "Reader.leave" [.loc n] S = .ok .non (S.set n (rdr m i (o - 1))) := by
  rw [call_eq (df := ⟨1, 1, false, T_Reader_leave⟩) (by kernel_rfl), run_eq (by rfl)]
  unfold T_Reader_leave
  simp_arith [h.r, f_opened, s_opened h]
theorem refuse_eq (h : Rd S n ts i o m) (ht : ts[i]? = some t) : (pg.cal (d + 1)).call "Reader.refuse" [.loc n] S = .exc "Malformed" [("at", .int t.a)] S := by
  rw [call_eq (df := ⟨1, 1, false, T_Reader_refuse⟩) (by kernel_rfl), run_eq (by rfl)]
  unfold T_Reader_refuse
  simp_arith [ex_raise (xf_mal d), h.r, f_tokens, f_done, ix_loc h.t, tok_at ht, Tk.u, a2]
theorem sees_eq (h : Rd S n ts i o m) (ht : ts[i]? = some t) (hf : flatU t.v = true) {xs : List U} (hx : xs.all flatU = true) (hl : xs.length < 1000) : (pg.cal (d + 1)).call "Reader.sees" (.loc n :: xs) S = .ok (.bl (xs.any fun y => eqU y t.v)) S := by
  rw [call_eq (df := ⟨1, 2, true, T_Reader_sees⟩) (by kernel_rfl), run_star (by simp) (by simp; omega)]
  unfold T_Reader_sees
  simp_arith [List.take_succ_cons, List.take_zero, List.drop_succ_cons, List.drop_zero, h.r, f_tokens, f_done, ix_loc h.t, tok_at ht, Tk.u, a1, c_in_tup hf hx]
theorem lk_no {a b c : U} {g : Str} (h : (g == ("tokens" : Str) || g == ("done" : Str) || g == ("opened" : Str)) = false) : List.lookup g [(("tokens" : Str), a), ("done", b), ("opened", c)] = none := by
  simp only [Bool.or_eq_false_iff] at h
  simp only [List.lookup_cons, h.1.1, h.1.2, h.2, List.lookup_nil]
theorem n_sees {a b c : U} : List.lookup ("sees" : Str) [(("tokens" : Str), a), ("done", b), ("opened", c)] = none := rfl
theorem n_refuse {a b c : U} : List.lookup ("refuse" : Str) [(("tokens" : Str), a), ("done", b), ("opened", c)] = none := rfl
theorem q_sees : ("Reader" : Str) ++ "." ++ ("sees" : Str) = ("Reader.sees" : Str) := by decide +kernel
theorem q_refuse : ("Reader" : Str) ++ "." ++ ("refuse" : Str) = ("Reader.refuse" : Str) := by decide +kernel
theorem skips_eq (h : Rd S n ts i o m) (ht : ts[i]? = some t) (hf : flatU t.v = true) (x : Str) : (pg.cal (d + 2)).call "Reader.skips" [.loc n, .str x] S = if eqU (.str x) t.v = true then .ok (.bl true) (S.set n (rdr m (i + 1) o)) else .ok (.bl false) S := by
  rw [call_eq (df := ⟨2, 3, false, T_Reader_skips⟩) (by kernel_rfl), run_eq (by rfl)]
  unfold T_Reader_skips
  simp_arith [h.r, n_sees, q_sees, sees_eq (d := d) h ht hf (xs := [.str x]) rfl (by simp), List.any_cons, List.any_nil, Bool.or_false]
  by_cases e : eqU (.str x) t.v = true
  · have e1 : ((i : Int) + 1) = ((i + 1 : Nat) : Int) := by omega
    simp_arith [e, h.r, f_done, e1, s_done h]
  · simp only [Bool.not_eq_true] at e
    simp_arith [e]
theorem take_eq (h : Rd S n ts i o m) (ht : ts[i]? = some t) (hf : flatU t.v = true) {xs : List U} (hx : xs.all flatU = true) (hl : xs.length < 1000) : (pg.cal (d + 2)).call "Reader.take" (.loc n :: xs) S = if (xs.any fun y => eqU y t.v) = true then .ok t.v (S.set n (rdr m (i + 1) o)) else .exc "Malformed" [("at", .int t.a)] S := by
  rw [call_eq (df := ⟨1, 2, true, T_Reader_take⟩) (by kernel_rfl), run_star (by simp) (by simp; omega)]
  unfold T_Reader_take
  simp_arith [List.take_succ_cons, List.take_zero, List.drop_succ_cons, List.drop_zero, h.r, n_sees, q_sees, n_refuse, q_refuse, items?, sees_eq (d := d) h ht hf hx hl, refuse_eq (d := d) h ht]
  have e1 : ((i : Int) + 1) = ((i + 1 : Nat) : Int) := by omega
  by_cases e : (xs.any fun y => eqU y t.v) = true
  · have hs := h.set (i + 1) o
    have e2 : (((i + 1 : Nat) : Int) - 1) = (i : Int) := by omega
    simp_arith [e, Bool.not_true, h.r, f_done, e1, s_done h, hs.r, f_tokens, e2, ix_loc hs.t, tok_at ht, Tk.u, a1]
  · simp only [Bool.not_eq_true] at e
    simp_arith [e, Bool.not_false]
theorem take_name_eq (h : Rd S n ts i o m) (ht : ts[i]? = some t) : (pg.cal (d + 2)).call "Reader.take_name" [.loc n] S = if t.k = "name" then .ok t.v (S.set n (rdr m (i + 1) o)) else .exc "Malformed" [("at", .int t.a)] S := by
  rw [call_eq (df := ⟨1, 4, false, T_Reader_take_name⟩) (by kernel_rfl), run_eq (by rfl)]
  unfold T_Reader_take_name
  have e1 : ((i : Int) + 1) = ((i + 1 : Nat) : Int) := by omega
  simp_arith [h.r, f_tokens, f_done, ix_loc h.t, tok_at ht, Tk.u, setN, setAll, List.length_cons, List.length_nil, n_refuse, q_refuse, refuse_eq (d := d) h ht]
  by_cases e : t.k = "name"
  · simp_arith [e, decide_true, Bool.not_true, h.r, f_done, e1, s_done h]
  · simp_arith [e, decide_false, Bool.not_false]
theorem finish_eq (h : Rd S n ts i o m) (ht : ts[i]? = some t) : (pg.cal (d + 2)).call "Reader.finish" [.loc n] S = if t.k = "end" then .ok .non S else .exc "Malformed" [("at", .int t.a)] S := by
  rw [call_eq (df := ⟨1, 1, false, T_Reader_finish⟩) (by kernel_rfl), run_eq (by rfl)]
  unfold T_Reader_finish
  simp_arith [h.r, f_tokens, f_done, ix_loc h.t, tok_at ht, Tk.u, a0, n_refuse, q_refuse, refuse_eq (d := d) h ht]
  by_cases e : t.k = "end"
  · simp_arith [e, decide_true, Bool.not_true]
  · simp_arith [e, decide_false, Bool.not_false]
theorem leaf_eq {us : List U} (hl : us.length < 900) : (pg.cal (d + 1)).call "leaf" us S = .ok (.tup [.tup us, .int 1]) S := by
  rw [call_eq (df := ⟨0, 1, true, T_leaf⟩) (by kernel_rfl), run_star (by simp) (by omega)]
  unfold T_leaf
  simp_arith [List.take_zero, List.drop_zero, List.length_cons, List.length_nil, two_le0]
/-- a part of the tree with its depth -/
def pr (q : U × Int) : U := .tup [q.1, .int q.2]
theorem built_eq {hs : List U} {qs : List (U × Int)} (hq : qs ≠ []) (hl : qs.length < 900) (hh : hs.length < 900) : (pg.cal (d + 1)).call "built" (.tup hs :: qs.map pr) S =
    if 60 < 1 + maxI (qs.map (·.2)) then .exc "Unbounded" [("name", .str "depth")] (S ++ [.lst (qs.map fun q => .int q.2)]) else .ok (.tup [.tup (hs ++ qs.map (·.1)), .int (1 + maxI (qs.map (·.2)))]) (S ++ [.lst (qs.map fun q => .int q.2)] ++ [.lst (qs.map (·.1))]) := by
  rw [call_eq (df := ⟨1, 5, true, T_built⟩) (by kernel_rfl), run_star (by simp) (by simp; omega)]
  unfold T_built
  have z : ∀ k, k < 900 → k ≤ sizeLine := fun k hk => Nat.le_trans (Nat.le_of_lt hk) (by decide)
  have hin : ∀ l : List (U × Int), intsU (l.map fun q => U.int q.2) = some (l.map (·.2)) := fun l => by
    induction l with
    | nil => rfl
    | cons q l ih => simp [intsU, ih]
  have hp : 0 < (qs.map (·.2)).length := by rw [List.length_map]; exact List.length_pos_iff.mpr hq
  have m1 : (qs.map pr).map (fun u => match u with | .tup [_, y] => y | u => u) = qs.map fun q => U.int q.2 := by simp only [List.map_map]; rfl
  have m2 : (qs.map pr).map (fun u => match u with | .tup [y, _] => y | u => u) = qs.map (·.1) := by simp only [List.map_map]; rfl
  simp_arith [List.take_succ_cons, List.take_zero, List.drop_succ_cons, List.drop_zero, iterU, wipeE]
  rw [lcI_all (g := fun u => match u with | .tup [_, y] => y | u => u) (acc := []) (fun u hu => ?_) (fun _ => rfl) last_get (by simp; exact z _ hl), m1]
  · simp_arith [last_set, max_loc last_get (hin qs) hp, ev_g (g_depth d)]
    by_cases e : 60 < 1 + maxI (qs.map (·.2))
    · simp_arith [e, decide_true, ex_raise (xf_unb d)]
    · simp_arith [e, decide_false, iterU, wipeE]
      rw [lcI_all (g := fun u => match u with | .tup [y, _] => y | u => u) (acc := []) (fun u hu => ?_) (fun _ => rfl) last_get (by simp; exact z _ hl), m2]
      · simp_arith [last_set, tup_loc last_get, add_tup (show hs.length + (qs.map (·.1)).length ≤ sizeLine by rw [List.length_map]; exact Nat.le_trans (Nat.add_le_add (Nat.le_of_lt hh) (Nat.le_of_lt hl)) (by decide)), List.length_cons, List.length_nil, two_le0]
      · obtain ⟨q, _, rfl⟩ := List.mem_map.mp hu
        exact ⟨_, rfl, fun S => ⟨rfl, rfl⟩⟩
  · obtain ⟨q, _, rfl⟩ := List.mem_map.mp hu
    exact ⟨_, rfl, fun S => ⟨rfl, rfl⟩⟩
end Pr

end

section
set_option maxHeartbeats 4000000
namespace Oz
open PySem
section
variable {α β : Type} {S : Sto}
theorem bind_id {r : R α} : (r.bind fun a S => .ok a S) = r := by cases r <;> rfl
theorem then_ite {c : Prop} [Decidable c] {x y : O} {g : Env → Sto → O} : (if c then x else y).then_ g = if c then x.then_ g else y.then_ g := by split <;> rfl
theorem fin_ite {c : Prop} [Decidable c] {x y : O} : (if c then x else y).fin = if c then x.fin else y.fin := by split <;> rfl
theorem on_turn {r : R α} {f : α → Sto → O} {g : Env → Sto → O} : (r.on f).turn g = r.on fun a S => (f a S).turn g := by cases r <;> rfl
end
end Oz

end
local macro_rules
  | `(tactic| simp_arith only [$ls,*]) => `(tactic| simp_arith [Oz.on_then, Oz.on_fin, Oz.bind_on, Oz.bind_bind, Oz.bind_id, Oz.then_ite, Oz.fin_ite, Oz.on_turn, $ls,*])
section
set_option maxHeartbeats 4000000
namespace Pr
open PySem L2 Oz
/-! ### the reader over a list of tokens -/
inductive Ms (α : Type) where
  | ok (a : α) (i : Nat) (o : Int) | mal (a : Nat) | unb | no
def Ms.bind {α β : Type} (r : Ms α) (f : α → Nat → Int → Ms β) : Ms β := match r with
  | .ok a i o => f a i o
  | .mal a => .mal a
  | .unb => .unb
  | .no => .no
def mCur {α : Type} (ts : List Tk) (i : Nat) (f : Tk → Ms α) : Ms α := match ts[i]? with | some t => f t | none => .no
def mEnter (i : Nat) (o : Int) : Ms Unit := if o = 60 then .unb else .ok () i (o + 1)
def mLeave (i : Nat) (o : Int) : Ms Unit := .ok () i (o - 1)
def mSees (ts : List Tk) (xs : List U) (i : Nat) (o : Int) : Ms Bool := mCur ts i fun t => .ok (xs.any fun y => eqU y t.v) i o
def mSkips (ts : List Tk) (x : Str) (i : Nat) (o : Int) : Ms Bool := mCur ts i fun t => if eqU (.str x) t.v = true then .ok true (i + 1) o else .ok false i o
def mTake (ts : List Tk) (xs : List U) (i : Nat) (o : Int) : Ms U := mCur ts i fun t => if (xs.any fun y => eqU y t.v) = true then .ok t.v (i + 1) o else .mal t.a
def mName (ts : List Tk) (i : Nat) (o : Int) : Ms U := mCur ts i fun t => if t.k = "name" then .ok t.v (i + 1) o else .mal t.a
def mBuilt (hs : List U) (qs : List (U × Int)) (i : Nat) (o : Int) : Ms (U × Int) := if 60 < 1 + maxI (qs.map (·.2)) then .unb else .ok (.tup (hs ++ qs.map (·.1)), 1 + maxI (qs.map (·.2))) i o
def atomB (t : Tk) : Bool := decide (t.k = "number") || decide (t.k = "name") || ([U.str "true", .str "false", .str "unit", .str "("].any fun y => eqU y t.v)
def mAtom (ts : List Tk) (i : Nat) (o : Int) : Ms Bool := mCur ts i fun t => .ok (atomB t) i o
def mNext {α : Type} (a : α) (rest : α → Nat → Int → Ms α) : Option α → Nat → Int → Ms α
  | none, i, o => .ok a i o
  | some b, i, o => rest b i o
def mLoop {α : Type} (step : α → Nat → Int → Ms (Option α)) : Nat → α → Nat → Int → Ms α
  | 0, _, _, _ => .no
  | k + 1, a, i, o => (step a i o).bind (mNext a (mLoop step k))
inductive Nm where
  | expr | fun_ | rec_ | let_ | if_ | print | comp | sum | prod | prefix_ | call | atom | group | annot | simple | agroup
def unw : U × Int := (.tup [.str "any"], 1)
abbrev PT := List Tk → Nat → Int → Ms (U × Int)
def mAt (P : Nm → PT) (ts : List Tk) (i : Nat) (o : Int) (t : Tk) : Ms (U × Int) := if atomB t = true then
      (if t.k = "number" then .ok (.tup [.str "num", t.v], 1) (i + 1) o else if t.k = "name" then .ok (.tup [.str "name", t.v], 1) (i + 1) o
      else match t.v with
        | .str x => if x = "unit" then .ok (.tup [.str "unit"], 1) (i + 1) o else if x = "(" then P .group ts (i + 1) o else .ok (.tup [.str "flag", .bl (decide (x = "true"))], 1) (i + 1) o
        | _ => .no) else .mal t.a
def mB (P : Nm → PT) : Nm → PT
  | .expr, ts, i, o => (mEnter i o).bind fun _ i o =>
    (mSkips ts "fun" i o).bind fun b i o => if b = true then (P .fun_ ts i o).bind fun a i o => (mLeave i o).bind fun _ i o => .ok a i o else
    (mSkips ts "rec" i o).bind fun b i o => if b = true then (P .rec_ ts i o).bind fun a i o => (mLeave i o).bind fun _ i o => .ok a i o else
    (mSkips ts "let" i o).bind fun b i o => if b = true then (P .let_ ts i o).bind fun a i o => (mLeave i o).bind fun _ i o => .ok a i o else
    (mSkips ts "if" i o).bind fun b i o => if b = true then (P .if_ ts i o).bind fun a i o => (mLeave i o).bind fun _ i o => .ok a i o else
    (mSkips ts "print" i o).bind fun b i o => if b = true then (P .print ts i o).bind fun a i o => (mLeave i o).bind fun _ i o => .ok a i o else
    (P .comp ts i o).bind fun a i o => (mLeave i o).bind fun _ i o => .ok a i o
  | .fun_, ts, i, o => (mName ts i o).bind fun x i o => (mSkips ts ":" i o).bind fun b i o => if b = true then
      (P .annot ts i o).bind fun g i o => (mTake ts [.str "=>"] i o).bind fun _ i o => (P .expr ts i o).bind fun e i o => mBuilt [.str "fun", x] [g, e] i o
    else (mTake ts [.str "=>"] i o).bind fun _ i o => (P .expr ts i o).bind fun e i o => mBuilt [.str "fun", x] [unw, e] i o
  | .rec_, ts, i, o => (mName ts i o).bind fun f i o => (mTake ts [.str "("] i o).bind fun _ i o => (mName ts i o).bind fun x i o => (mTake ts [.str ":"] i o).bind fun _ i o =>
    (P .annot ts i o).bind fun g i o => (mTake ts [.str ")"] i o).bind fun _ i o => (mTake ts [.str ":"] i o).bind fun _ i o => (P .annot ts i o).bind fun r i o => (mTake ts [.str "=>"] i o).bind fun _ i o =>
    (P .expr ts i o).bind fun e i o => mBuilt [.str "rec", f, x] [g, r, e] i o
  | .let_, ts, i, o => (mName ts i o).bind fun x i o => (mTake ts [.str "="] i o).bind fun _ i o => (P .expr ts i o).bind fun e i o => (mTake ts [.str "in"] i o).bind fun _ i o => (P .expr ts i o).bind fun e' i o => mBuilt [.str "let", x] [e, e'] i o
  | .if_, ts, i, o => (P .expr ts i o).bind fun c i o => (mTake ts [.str "then"] i o).bind fun _ i o => (P .expr ts i o).bind fun e i o => (mTake ts [.str "else"] i o).bind fun _ i o => (P .expr ts i o).bind fun e' i o => mBuilt [.str "if"] [c, e, e'] i o
  | .print, ts, i, o => (P .sum ts i o).bind fun c i o => (mTake ts [.str ";"] i o).bind fun _ i o => (P .expr ts i o).bind fun e i o => mBuilt [.str "print"] [c, e] i o
  | .comp, ts, i, o => (P .sum ts i o).bind fun l i o => (mSees ts [.str "<", .str "=="] i o).bind fun b i o => if b = true then
      (mTake ts [.str "<", .str "=="] i o).bind fun s i o => (P .sum ts i o).bind fun r i o => mBuilt [.str "op", s] [l, r] i o
    else .ok l i o
  | .sum, ts, i, o => (P .prod ts i o).bind fun l i o => mLoop (fun l i o => (mSees ts [.str "+", .str "-"] i o).bind fun b i o => if b = true then
      (mTake ts [.str "+", .str "-"] i o).bind fun s i o => (P .prod ts i o).bind fun r i o => (mBuilt [.str "op", s] [l, r] i o).bind fun l i o => .ok (some l) i o else .ok none i o) 20000 l i o
  | .prod, ts, i, o => (P .prefix_ ts i o).bind fun l i o => mLoop (fun l i o => (mSkips ts "*" i o).bind fun b i o => if b = true then
      (P .prefix_ ts i o).bind fun r i o => (mBuilt [.str "op", .str "*"] [l, r] i o).bind fun l i o => .ok (some l) i o else .ok none i o) 20000 l i o
  | .prefix_, ts, i, o => (mEnter i o).bind fun _ i o => (mSees ts [.str "fst", .str "snd", .str "box", .str "get", .str "not"] i o).bind fun b i o => if b = true then
      (mTake ts [.str "fst", .str "snd", .str "box", .str "get", .str "not"] i o).bind fun w i o => (P .prefix_ ts i o).bind fun e i o => (mBuilt [w] [e] i o).bind fun a i o => (mLeave i o).bind fun _ i o => .ok a i o
    else (mSkips ts "put" i o).bind fun b i o => if b = true then
      (P .atom ts i o).bind fun x i o => (P .atom ts i o).bind fun y i o => (mBuilt [.str "put"] [x, y] i o).bind fun a i o => (mLeave i o).bind fun _ i o => .ok a i o
    else (P .call ts i o).bind fun a i o => (mLeave i o).bind fun _ i o => .ok a i o
  | .call, ts, i, o => (P .atom ts i o).bind fun l i o => mLoop (fun l i o => (mAtom ts i o).bind fun b i o => if b = true then
      (P .atom ts i o).bind fun r i o => (mBuilt [.str "call"] [l, r] i o).bind fun l i o => .ok (some l) i o else .ok none i o) 20000 l i o
  | .atom, ts, i, o => mCur ts i (mAt P ts i o)
  | .group, ts, i, o => (P .expr ts i o).bind fun f i o => (mSkips ts ":" i o).bind fun b i o => if b = true then
      (P .annot ts i o).bind fun g i o => (mTake ts [.str ")"] i o).bind fun _ i o => mBuilt [.str "as"] [f, g] i o
    else (mSkips ts "," i o).bind fun b i o => if b = true then
      (P .expr ts i o).bind fun g i o => (mTake ts [.str ")"] i o).bind fun _ i o => mBuilt [.str "pair"] [f, g] i o
    else (mTake ts [.str ")"] i o).bind fun _ i o => .ok f i o
  | .annot, ts, i, o => (P .simple ts i o).bind fun f i o => (mSkips ts "->" i o).bind fun b i o => if b = true then
      (mEnter i o).bind fun _ i o => (P .annot ts i o).bind fun g i o => (mLeave i o).bind fun _ i o => mBuilt [.str "fun"] [f, g] i o
    else .ok f i o
  | .simple, ts, i, o => (mEnter i o).bind fun _ i o => (mSkips ts "box" i o).bind fun b i o => if b = true then
      (P .simple ts i o).bind fun e i o => (mBuilt [.str "box"] [e] i o).bind fun a i o => (mLeave i o).bind fun _ i o => .ok a i o
    else (mSkips ts "(" i o).bind fun b i o => if b = true then (P .agroup ts i o).bind fun a i o => (mLeave i o).bind fun _ i o => .ok a i o
    else (mTake ts [.str "int", .str "bool", .str "unit", .str "any"] i o).bind fun v i o => (mLeave i o).bind fun _ i o => .ok (.tup [v], 1) i o
  | .agroup, ts, i, o => (P .annot ts i o).bind fun f i o => (mSkips ts "," i o).bind fun b i o => if b = true then
      (P .annot ts i o).bind fun g i o => (mTake ts [.str ")"] i o).bind fun _ i o => mBuilt [.str "pair"] [f, g] i o
    else (mTake ts [.str ")"] i o).bind fun _ i o => .ok f i o
def mP : Nat → Nm → PT
  | 0 => fun _ _ _ _ => .no
  | 1 => fun _ _ _ _ => .no
  | 2 => fun _ _ _ _ => .no
  | 3 => fun _ _ _ _ => .no
  | d + 4 => mB (mP (d + 3))
/-! ### the code does so -/
def SimR {α : Type} (enc : α → U) (r : R U) (x : Ms α) (S : Sto) (n m : Nat) (ts : List Tk) : Prop := match x with
  | .ok a i o => ∃ S', r = .ok (enc a) S' ∧ Rd S' n ts i o m ∧ Fr S S' n
  | .mal a => ∃ S', r = .exc "Malformed" [("at", .int a)] S' ∧ Fr S S' n
  | .unb => ∃ S', r = .exc "Unbounded" [("name", .str "depth")] S' ∧ Fr S S' n
  | .no => True
variable {S S' : Sto} {n m i d : Nat} {o : Int} {ts : List Tk} {α β : Type}
theorem SimR.bind {enc : α → U} {enc' : β → U} {r : R U} {x : Ms α} {g : U → Sto → R U} {f : α → Nat → Int → Ms β} (h : SimR enc r x S n m ts) (k : ∀ a i o S', Rd S' n ts i o m → Fr S S' n → SimR enc' (g (enc a) S') (f a i o) S' n m ts) : SimR enc' (r.bind g) (x.bind f) S n m ts := by
  cases x with
  | ok a i o =>
    obtain ⟨S1, rfl, h1, f1⟩ := h
    have q := k a i o S1 h1 f1
    show SimR enc' (g (enc a) S1) (f a i o) S n m ts
    revert q
    cases f a i o with
    | ok b i o => exact fun ⟨S2, e, h2, f2⟩ => ⟨S2, e, h2, f1.trans f2⟩
    | mal b => exact fun ⟨S2, e, f2⟩ => ⟨S2, e, f1.trans f2⟩
    | unb => exact fun ⟨S2, e, f2⟩ => ⟨S2, e, f1.trans f2⟩
    | no => exact fun q => q
  | mal b =>
    obtain ⟨S1, rfl, f1⟩ := h
    exact ⟨S1, rfl, f1⟩
  | unb =>
    obtain ⟨S1, rfl, f1⟩ := h
    exact ⟨S1, rfl, f1⟩
  | no => exact trivial
theorem SimR.ret {enc : α → U} {a : α} {S : Sto} (h : Rd S n ts i o m) : SimR enc (.ok (enc a) S) (.ok a i o) S n m ts := ⟨S, rfl, h, Fr.refl⟩
theorem sim_enter (h : Rd S n ts i o m) : SimR (fun _ : Unit => .non) ((pg.cal (d + 1)).call "Reader.enter" [.loc n] S) (mEnter i o) S n m ts := by
  rw [enter_eq h]
  unfold mEnter
  split
  · exact ⟨S, rfl, Fr.refl⟩
  · exact ⟨_, rfl, h.set _ _, Fr.set⟩
theorem sim_leave (h : Rd S n ts i o m) : SimR (fun _ : Unit => .non) ((pg.cal (d + 1)).call "Reader.leave" [.loc n] S) (mLeave i o) S n m ts := by
  rw [leave_eq h]
  exact ⟨_, rfl, h.set _ _, Fr.set⟩
theorem sim_sees (hF : Flat ts) (h : Rd S n ts i o m) {xs : List U} (hx : xs.all flatU = true) (hl : xs.length < 1000) : SimR U.bl ((pg.cal (d + 1)).call "Reader.sees" (.loc n :: xs) S) (mSees ts xs i o) S n m ts := by
  unfold mSees mCur
  cases ht : ts[i]? with
  | none => exact trivial
  | some t =>
    rw [sees_eq h ht (hF t (List.mem_of_getElem? ht)) hx hl]
    exact ⟨S, rfl, h, Fr.refl⟩
theorem sim_skips (hF : Flat ts) (h : Rd S n ts i o m) {x : Str} : SimR U.bl ((pg.cal (d + 2)).call "Reader.skips" [.loc n, .str x] S) (mSkips ts x i o) S n m ts := by
  unfold mSkips mCur
  cases ht : ts[i]? with
  | none => exact trivial
  | some t =>
    rw [skips_eq h ht (hF t (List.mem_of_getElem? ht))]
    dsimp only
    split
    · exact ⟨_, rfl, h.set _ _, Fr.set⟩
    · exact ⟨S, rfl, h, Fr.refl⟩
theorem sim_take (hF : Flat ts) (h : Rd S n ts i o m) {xs : List U} (hx : xs.all flatU = true) (hl : xs.length < 1000) : SimR id ((pg.cal (d + 2)).call "Reader.take" (.loc n :: xs) S) (mTake ts xs i o) S n m ts := by
  unfold mTake mCur
  cases ht : ts[i]? with
  | none => exact trivial
  | some t =>
    rw [take_eq h ht (hF t (List.mem_of_getElem? ht)) hx hl]
    dsimp only
    split
    · exact ⟨_, rfl, h.set _ _, Fr.set⟩
    · exact ⟨S, rfl, Fr.refl⟩
theorem sim_name (h : Rd S n ts i o m) : SimR id ((pg.cal (d + 2)).call "Reader.take_name" [.loc n] S) (mName ts i o) S n m ts := by
  unfold mName mCur
  cases ht : ts[i]? with
  | none => exact trivial
  | some t =>
    rw [take_name_eq h ht]
    dsimp only
    split
    · exact ⟨_, rfl, h.set _ _, Fr.set⟩
    · exact ⟨S, rfl, Fr.refl⟩
theorem sim_built (h : Rd S n ts i o m) {hs : List U} {qs : List (U × Int)} (hq : qs ≠ []) (hl : qs.length < 900) (hh : hs.length < 900) : SimR pr ((pg.cal (d + 1)).call "built" (.tup hs :: qs.map pr) S) (mBuilt hs qs i o) S n m ts := by
  rw [built_eq hq hl hh]
  unfold mBuilt
  have hn : n < S.length := (List.getElem?_eq_some_iff.mp h.r).1
  split
  · exact ⟨_, rfl, Fr.push⟩
  · refine ⟨_, rfl, ?_, Fr.trans Fr.push Fr.push⟩
    exact h.grow (Fr.trans Fr.push Fr.push) (by rw [List.append_assoc, List.getElem?_append_left hn])
end Pr

end

section
set_option maxHeartbeats 4000000
namespace Pr
open PySem L2 Oz
def nmS : Nm → Str
  | .expr => "Reader.read_expression" | .fun_ => "Reader.read_fun" | .rec_ => "Reader.read_rec" | .let_ => "Reader.read_let" | .if_ => "Reader.read_if" | .print => "Reader.read_print" | .comp => "Reader.read_comparison"
  | .sum => "Reader.read_sum" | .prod => "Reader.read_product" | .prefix_ => "Reader.read_prefix" | .call => "Reader.read_call" | .atom => "Reader.read_atom" | .group => "Reader.read_group" | .annot => "Reader.read_annotation"
  | .simple => "Reader.read_simple" | .agroup => "Reader.read_annotation_group"
theorem n_take {a b c : U} : List.lookup ("take" : Str) [(("tokens" : Str), a), ("done", b), ("opened", c)] = none := rfl
theorem q_take : ("Reader" : Str) ++ "." ++ ("take" : Str) = ("Reader.take" : Str) := by decide +kernel
theorem n_take_name {a b c : U} : List.lookup ("take_name" : Str) [(("tokens" : Str), a), ("done", b), ("opened", c)] = none := rfl
theorem q_take_name : ("Reader" : Str) ++ "." ++ ("take_name" : Str) = ("Reader.take_name" : Str) := by decide +kernel
theorem n_skips {a b c : U} : List.lookup ("skips" : Str) [(("tokens" : Str), a), ("done", b), ("opened", c)] = none := rfl
theorem q_skips : ("Reader" : Str) ++ "." ++ ("skips" : Str) = ("Reader.skips" : Str) := by decide +kernel
theorem n_finish {a b c : U} : List.lookup ("finish" : Str) [(("tokens" : Str), a), ("done", b), ("opened", c)] = none := rfl
theorem q_finish : ("Reader" : Str) ++ "." ++ ("finish" : Str) = ("Reader.finish" : Str) := by decide +kernel
theorem n_enter {a b c : U} : List.lookup ("enter" : Str) [(("tokens" : Str), a), ("done", b), ("opened", c)] = none := rfl
theorem q_enter : ("Reader" : Str) ++ "." ++ ("enter" : Str) = ("Reader.enter" : Str) := by decide +kernel
theorem n_leave {a b c : U} : List.lookup ("leave" : Str) [(("tokens" : Str), a), ("done", b), ("opened", c)] = none := rfl
theorem q_leave : ("Reader" : Str) ++ "." ++ ("leave" : Str) = ("Reader.leave" : Str) := by decide +kernel
theorem n_read_expression {a b c : U} : List.lookup ("read_expression" : Str) [(("tokens" : Str), a), ("done", b), ("opened", c)] = none := rfl
theorem q_read_expression : ("Reader" : Str) ++ "." ++ ("read_expression" : Str) = ("Reader.read_expression" : Str) := by decide +kernel
theorem n_read_fun {a b c : U} : List.lookup ("read_fun" : Str) [(("tokens" : Str), a), ("done", b), ("opened", c)] = none := rfl
theorem q_read_fun : ("Reader" : Str) ++ "." ++ ("read_fun" : Str) = ("Reader.read_fun" : Str) := by decide +kernel
theorem n_read_rec {a b c : U} : List.lookup ("read_rec" : Str) [(("tokens" : Str), a), ("done", b), ("opened", c)] = none := rfl
theorem q_read_rec : ("Reader" : Str) ++ "." ++ ("read_rec" : Str) = ("Reader.read_rec" : Str) := by decide +kernel
theorem n_read_let {a b c : U} : List.lookup ("read_let" : Str) [(("tokens" : Str), a), ("done", b), ("opened", c)] = none := rfl
theorem q_read_let : ("Reader" : Str) ++ "." ++ ("read_let" : Str) = ("Reader.read_let" : Str) := by decide +kernel
theorem n_read_if {a b c : U} : List.lookup ("read_if" : Str) [(("tokens" : Str), a), ("done", b), ("opened", c)] = none := rfl
theorem q_read_if : ("Reader" : Str) ++ "." ++ ("read_if" : Str) = ("Reader.read_if" : Str) := by decide +kernel
theorem n_read_print {a b c : U} : List.lookup ("read_print" : Str) [(("tokens" : Str), a), ("done", b), ("opened", c)] = none := rfl
theorem q_read_print : ("Reader" : Str) ++ "." ++ ("read_print" : Str) = ("Reader.read_print" : Str) := by decide +kernel
theorem n_read_comparison {a b c : U} : List.lookup ("read_comparison" : Str) [(("tokens" : Str), a), ("done", b), ("opened", c)] = none := rfl
theorem q_read_comparison : ("Reader" : Str) ++ "." ++ ("read_comparison" : Str) = ("Reader.read_comparison" : Str) := by decide +kernel
theorem n_read_sum {a b c : U} : List.lookup ("read_sum" : Str) [(("tokens" : Str), a), ("done", b), ("opened", c)] = none := rfl
theorem q_read_sum : ("Reader" : Str) ++ "." ++ ("read_sum" : Str) = ("Reader.read_sum" : Str) := by decide +kernel
theorem n_read_product {a b c : U} : List.lookup ("read_product" : Str) [(("tokens" : Str), a), ("done", b), ("opened", c)] = none := rfl
theorem q_read_product : ("Reader" : Str) ++ "." ++ ("read_product" : Str) = ("Reader.read_product" : Str) := by decide +kernel
theorem n_read_prefix {a b c : U} : List.lookup ("read_prefix" : Str) [(("tokens" : Str), a), ("done", b), ("opened", c)] = none := rfl
theorem q_read_prefix : ("Reader" : Str) ++ "." ++ ("read_prefix" : Str) = ("Reader.read_prefix" : Str) := by decide +kernel
theorem n_read_call {a b c : U} : List.lookup ("read_call" : Str) [(("tokens" : Str), a), ("done", b), ("opened", c)] = none := rfl
theorem q_read_call : ("Reader" : Str) ++ "." ++ ("read_call" : Str) = ("Reader.read_call" : Str) := by decide +kernel
theorem n_sees_atom {a b c : U} : List.lookup ("sees_atom" : Str) [(("tokens" : Str), a), ("done", b), ("opened", c)] = none := rfl
theorem q_sees_atom : ("Reader" : Str) ++ "." ++ ("sees_atom" : Str) = ("Reader.sees_atom" : Str) := by decide +kernel
theorem n_read_atom {a b c : U} : List.lookup ("read_atom" : Str) [(("tokens" : Str), a), ("done", b), ("opened", c)] = none := rfl
theorem q_read_atom : ("Reader" : Str) ++ "." ++ ("read_atom" : Str) = ("Reader.read_atom" : Str) := by decide +kernel
theorem n_read_group {a b c : U} : List.lookup ("read_group" : Str) [(("tokens" : Str), a), ("done", b), ("opened", c)] = none := rfl
theorem q_read_group : ("Reader" : Str) ++ "." ++ ("read_group" : Str) = ("Reader.read_group" : Str) := by decide +kernel
theorem n_read_annotation {a b c : U} : List.lookup ("read_annotation" : Str) [(("tokens" : Str), a), ("done", b), ("opened", c)] = none := rfl
theorem q_read_annotation : ("Reader" : Str) ++ "." ++ ("read_annotation" : Str) = ("Reader.read_annotation" : Str) := by decide +kernel
theorem n_read_simple {a b c : U} : List.lookup ("read_simple" : Str) [(("tokens" : Str), a), ("done", b), ("opened", c)] = none := rfl
theorem q_read_simple : ("Reader" : Str) ++ "." ++ ("read_simple" : Str) = ("Reader.read_simple" : Str) := by decide +kernel
theorem n_read_annotation_group {a b c : U} : List.lookup ("read_annotation_group" : Str) [(("tokens" : Str), a), ("done", b), ("opened", c)] = none := rfl
theorem q_read_annotation_group : ("Reader" : Str) ++ "." ++ ("read_annotation_group" : Str) = ("Reader.read_annotation_group" : Str) := by decide +kernel

end Pr
end
local macro_rules
  | `(tactic| simp_arith only [$ls,*] at ⊢) => `(tactic| simp_arith only [Pr.n_sees, Pr.q_sees, Pr.n_refuse, Pr.q_refuse, Pr.n_take, Pr.q_take, Pr.n_take_name, Pr.q_take_name, Pr.n_skips, Pr.q_skips, Pr.n_finish, Pr.q_finish, Pr.n_enter, Pr.q_enter, Pr.n_leave, Pr.q_leave, Pr.n_read_expression, Pr.q_read_expression, Pr.n_read_fun, Pr.q_read_fun, Pr.n_read_rec, Pr.q_read_rec, Pr.n_read_let, Pr.q_read_let, Pr.n_read_if, Pr.q_read_if, Pr.n_read_print, Pr.q_read_print, Pr.n_read_comparison, Pr.q_read_comparison, Pr.n_read_sum, Pr.q_read_sum, Pr.n_read_product, Pr.q_read_product, Pr.n_read_prefix, Pr.q_read_prefix, Pr.n_read_call, Pr.q_read_call, Pr.n_sees_atom, Pr.q_sees_atom, Pr.n_read_atom, Pr.q_read_atom, Pr.n_read_group, Pr.q_read_group, Pr.n_read_annotation, Pr.q_read_annotation, Pr.n_read_simple, Pr.q_read_simple, Pr.n_read_annotation_group, Pr.q_read_annotation_group, Oz.items?, id, $ls,*])
section
set_option maxHeartbeats 4000000
namespace Pr
open PySem L2 Oz
/-- what is asked of the calls at a depth -/
def SimP (d : Nat) (P : Nm → PT) : Prop := ∀ (nm : Nm) (S : Sto) (n m i : Nat) (o : Int) (ts : List Tk), Flat ts → Rd S n ts i o m → SimR pr ((pg.cal d).call (nmS nm) [.loc n] S) (P nm ts i o) S n m ts
variable {S S' : Sto} {n m i d : Nat} {o : Int} {ts : List Tk} {P : Nm → PT}
theorem sz1 : (1 ≤ sizeLine) = True := by decide
theorem sz2 : (2 ≤ sizeLine) = True := by decide
theorem sz3 : (3 ≤ sizeLine) = True := by decide
theorem g_pre (d : Nat) : (pg.cal d).glo "PREFIXES" = some (.tup [.str "fst", .str "snd", .str "box", .str "get", .str "not"]) := by rw [cal_glo]; rfl
theorem g_kinds (d : Nat) : (pg.cal d).glo "PLAIN_KINDS" = some (.tup [.str "int", .str "bool", .str "unit", .str "any"]) := by rw [cal_glo]; rfl
theorem g_unw (d : Nat) : (pg.cal d).glo "UNWRITTEN" = some (.tup [.tup [.str "any"], .int 1]) := by rw [cal_glo]; rfl
theorem sim_expr (IH : SimP (d + 3) P) (hF : Flat ts) (h : Rd S n ts i o m) : SimR pr ((pg.cal (d + 4)).call "Reader.read_expression" [.loc n] S) (mB P .expr ts i o) S n m ts := by
  rw [call_eq (df := ⟨1, 2, false, T_Reader_read_expression⟩) (by kernel_rfl), run_eq (by rfl)]
  unfold T_Reader_read_expression mB
  try simp_arith only [h.r, sz1, sz2, sz3, List.length_cons, List.length_nil, Nat.zero_add, Nat.reduceAdd, ev_g (g_pre (d + 3)), ev_g (g_kinds (d + 3)), ev_g (g_unw (d + 3)), Bool.not_true, Bool.not_false] at ⊢
  refine SimR.bind (sim_enter h) fun x1 i o S1 h1 _ => ?_
  try simp_arith only [h1.r, sz1, sz2, sz3, List.length_cons, List.length_nil, Nat.zero_add, Nat.reduceAdd, ev_g (g_pre (d + 3)), ev_g (g_kinds (d + 3)), ev_g (g_unw (d + 3)), Bool.not_true, Bool.not_false] at ⊢
  refine SimR.bind (sim_skips hF h1) fun x2 i o S2 h2 _ => ?_
  cases x2 with
  | true =>
    try simp_arith only [h2.r, sz1, sz2, sz3, List.length_cons, List.length_nil, Nat.zero_add, Nat.reduceAdd, ev_g (g_pre (d + 3)), ev_g (g_kinds (d + 3)), ev_g (g_unw (d + 3)), Bool.not_true, Bool.not_false] at ⊢
    refine SimR.bind (IH .fun_ _ _ _ _ _ _ hF h2) fun x3 i o S3 h3 _ => ?_
    try simp_arith only [h3.r, sz1, sz2, sz3, List.length_cons, List.length_nil, Nat.zero_add, Nat.reduceAdd, ev_g (g_pre (d + 3)), ev_g (g_kinds (d + 3)), ev_g (g_unw (d + 3)), Bool.not_true, Bool.not_false] at ⊢
    refine SimR.bind (sim_leave h3) fun x4 i o S4 h4 _ => ?_
    try simp_arith only [h4.r, sz1, sz2, sz3, List.length_cons, List.length_nil, Nat.zero_add, Nat.reduceAdd, ev_g (g_pre (d + 3)), ev_g (g_kinds (d + 3)), ev_g (g_unw (d + 3)), Bool.not_true, Bool.not_false] at ⊢
    exact SimR.ret (enc := pr) h4
  | false =>
    try simp_arith only [h2.r, sz1, sz2, sz3, List.length_cons, List.length_nil, Nat.zero_add, Nat.reduceAdd, ev_g (g_pre (d + 3)), ev_g (g_kinds (d + 3)), ev_g (g_unw (d + 3)), Bool.not_true, Bool.not_false] at ⊢
    refine SimR.bind (sim_skips hF h2) fun x6 i o S6 h6 _ => ?_
    cases x6 with
    | true =>
      try simp_arith only [h6.r, sz1, sz2, sz3, List.length_cons, List.length_nil, Nat.zero_add, Nat.reduceAdd, ev_g (g_pre (d + 3)), ev_g (g_kinds (d + 3)), ev_g (g_unw (d + 3)), Bool.not_true, Bool.not_false] at ⊢
      refine SimR.bind (IH .rec_ _ _ _ _ _ _ hF h6) fun x7 i o S7 h7 _ => ?_
      try simp_arith only [h7.r, sz1, sz2, sz3, List.length_cons, List.length_nil, Nat.zero_add, Nat.reduceAdd, ev_g (g_pre (d + 3)), ev_g (g_kinds (d + 3)), ev_g (g_unw (d + 3)), Bool.not_true, Bool.not_false] at ⊢
      refine SimR.bind (sim_leave h7) fun x8 i o S8 h8 _ => ?_
      try simp_arith only [h8.r, sz1, sz2, sz3, List.length_cons, List.length_nil, Nat.zero_add, Nat.reduceAdd, ev_g (g_pre (d + 3)), ev_g (g_kinds (d + 3)), ev_g (g_unw (d + 3)), Bool.not_true, Bool.not_false] at ⊢
      exact SimR.ret (enc := pr) h8
    | false =>
      try simp_arith only [h6.r, sz1, sz2, sz3, List.length_cons, List.length_nil, Nat.zero_add, Nat.reduceAdd, ev_g (g_pre (d + 3)), ev_g (g_kinds (d + 3)), ev_g (g_unw (d + 3)), Bool.not_true, Bool.not_false] at ⊢
      refine SimR.bind (sim_skips hF h6) fun x10 i o S10 h10 _ => ?_
      cases x10 with
      | true =>
        try simp_arith only [h10.r, sz1, sz2, sz3, List.length_cons, List.length_nil, Nat.zero_add, Nat.reduceAdd, ev_g (g_pre (d + 3)), ev_g (g_kinds (d + 3)), ev_g (g_unw (d + 3)), Bool.not_true, Bool.not_false] at ⊢
        refine SimR.bind (IH .let_ _ _ _ _ _ _ hF h10) fun x11 i o S11 h11 _ => ?_
        try simp_arith only [h11.r, sz1, sz2, sz3, List.length_cons, List.length_nil, Nat.zero_add, Nat.reduceAdd, ev_g (g_pre (d + 3)), ev_g (g_kinds (d + 3)), ev_g (g_unw (d + 3)), Bool.not_true, Bool.not_false] at ⊢
        refine SimR.bind (sim_leave h11) fun x12 i o S12 h12 _ => ?_
        try simp_arith only [h12.r, sz1, sz2, sz3, List.length_cons, List.length_nil, Nat.zero_add, Nat.reduceAdd, ev_g (g_pre (d + 3)), ev_g (g_kinds (d + 3)), ev_g (g_unw (d + 3)), Bool.not_true, Bool.not_false] at ⊢
        exact SimR.ret (enc := pr) h12
      | false =>
        try simp_arith only [h10.r, sz1, sz2, sz3, List.length_cons, List.length_nil, Nat.zero_add, Nat.reduceAdd, ev_g (g_pre (d + 3)), ev_g (g_kinds (d + 3)), ev_g (g_unw (d + 3)), Bool.not_true, Bool.not_false] at ⊢
        refine SimR.bind (sim_skips hF h10) fun x14 i o S14 h14 _ => ?_
        cases x14 with
        | true =>
          try simp_arith only [h14.r, sz1, sz2, sz3, List.length_cons, List.length_nil, Nat.zero_add, Nat.reduceAdd, ev_g (g_pre (d + 3)), ev_g (g_kinds (d + 3)), ev_g (g_unw (d + 3)), Bool.not_true, Bool.not_false] at ⊢
          refine SimR.bind (IH .if_ _ _ _ _ _ _ hF h14) fun x15 i o S15 h15 _ => ?_
          try simp_arith only [h15.r, sz1, sz2, sz3, List.length_cons, List.length_nil, Nat.zero_add, Nat.reduceAdd, ev_g (g_pre (d + 3)), ev_g (g_kinds (d + 3)), ev_g (g_unw (d + 3)), Bool.not_true, Bool.not_false] at ⊢
          refine SimR.bind (sim_leave h15) fun x16 i o S16 h16 _ => ?_
          try simp_arith only [h16.r, sz1, sz2, sz3, List.length_cons, List.length_nil, Nat.zero_add, Nat.reduceAdd, ev_g (g_pre (d + 3)), ev_g (g_kinds (d + 3)), ev_g (g_unw (d + 3)), Bool.not_true, Bool.not_false] at ⊢
          exact SimR.ret (enc := pr) h16
        | false =>
          try simp_arith only [h14.r, sz1, sz2, sz3, List.length_cons, List.length_nil, Nat.zero_add, Nat.reduceAdd, ev_g (g_pre (d + 3)), ev_g (g_kinds (d + 3)), ev_g (g_unw (d + 3)), Bool.not_true, Bool.not_false] at ⊢
          refine SimR.bind (sim_skips hF h14) fun x18 i o S18 h18 _ => ?_
          cases x18 with
          | true =>
            try simp_arith only [h18.r, sz1, sz2, sz3, List.length_cons, List.length_nil, Nat.zero_add, Nat.reduceAdd, ev_g (g_pre (d + 3)), ev_g (g_kinds (d + 3)), ev_g (g_unw (d + 3)), Bool.not_true, Bool.not_false] at ⊢
            refine SimR.bind (IH .print _ _ _ _ _ _ hF h18) fun x19 i o S19 h19 _ => ?_
            try simp_arith only [h19.r, sz1, sz2, sz3, List.length_cons, List.length_nil, Nat.zero_add, Nat.reduceAdd, ev_g (g_pre (d + 3)), ev_g (g_kinds (d + 3)), ev_g (g_unw (d + 3)), Bool.not_true, Bool.not_false] at ⊢
            refine SimR.bind (sim_leave h19) fun x20 i o S20 h20 _ => ?_
            try simp_arith only [h20.r, sz1, sz2, sz3, List.length_cons, List.length_nil, Nat.zero_add, Nat.reduceAdd, ev_g (g_pre (d + 3)), ev_g (g_kinds (d + 3)), ev_g (g_unw (d + 3)), Bool.not_true, Bool.not_false] at ⊢
            exact SimR.ret (enc := pr) h20
          | false =>
            try simp_arith only [h18.r, sz1, sz2, sz3, List.length_cons, List.length_nil, Nat.zero_add, Nat.reduceAdd, ev_g (g_pre (d + 3)), ev_g (g_kinds (d + 3)), ev_g (g_unw (d + 3)), Bool.not_true, Bool.not_false] at ⊢
            refine SimR.bind (IH .comp _ _ _ _ _ _ hF h18) fun x22 i o S22 h22 _ => ?_
            try simp_arith only [h22.r, sz1, sz2, sz3, List.length_cons, List.length_nil, Nat.zero_add, Nat.reduceAdd, ev_g (g_pre (d + 3)), ev_g (g_kinds (d + 3)), ev_g (g_unw (d + 3)), Bool.not_true, Bool.not_false] at ⊢
            refine SimR.bind (sim_leave h22) fun x23 i o S23 h23 _ => ?_
            try simp_arith only [h23.r, sz1, sz2, sz3, List.length_cons, List.length_nil, Nat.zero_add, Nat.reduceAdd, ev_g (g_pre (d + 3)), ev_g (g_kinds (d + 3)), ev_g (g_unw (d + 3)), Bool.not_true, Bool.not_false] at ⊢
            exact SimR.ret (enc := pr) h23
theorem sim_fun_ (IH : SimP (d + 3) P) (hF : Flat ts) (h : Rd S n ts i o m) : SimR pr ((pg.cal (d + 4)).call "Reader.read_fun" [.loc n] S) (mB P .fun_ ts i o) S n m ts := by
  rw [call_eq (df := ⟨1, 4, false, T_Reader_read_fun⟩) (by kernel_rfl), run_eq (by rfl)]
  unfold T_Reader_read_fun mB
  try simp_arith only [h.r, sz1, sz2, sz3, List.length_cons, List.length_nil, Nat.zero_add, Nat.reduceAdd, ev_g (g_pre (d + 3)), ev_g (g_kinds (d + 3)), ev_g (g_unw (d + 3)), Bool.not_true, Bool.not_false] at ⊢
  refine SimR.bind (sim_name h) fun x1 i o S1 h1 _ => ?_
  try simp_arith only [h1.r, sz1, sz2, sz3, List.length_cons, List.length_nil, Nat.zero_add, Nat.reduceAdd, ev_g (g_pre (d + 3)), ev_g (g_kinds (d + 3)), ev_g (g_unw (d + 3)), Bool.not_true, Bool.not_false] at ⊢
  refine SimR.bind (sim_skips hF h1) fun x2 i o S2 h2 _ => ?_
  cases x2 with
  | true =>
    try simp_arith only [h2.r, sz1, sz2, sz3, List.length_cons, List.length_nil, Nat.zero_add, Nat.reduceAdd, ev_g (g_pre (d + 3)), ev_g (g_kinds (d + 3)), ev_g (g_unw (d + 3)), Bool.not_true, Bool.not_false] at ⊢
    refine SimR.bind (IH .annot _ _ _ _ _ _ hF h2) fun x3 i o S3 h3 _ => ?_
    try simp_arith only [h3.r, sz1, sz2, sz3, List.length_cons, List.length_nil, Nat.zero_add, Nat.reduceAdd, ev_g (g_pre (d + 3)), ev_g (g_kinds (d + 3)), ev_g (g_unw (d + 3)), Bool.not_true, Bool.not_false] at ⊢
    refine SimR.bind (sim_take hF h3 rfl (by simp)) fun x4 i o S4 h4 _ => ?_
    try simp_arith only [h4.r, sz1, sz2, sz3, List.length_cons, List.length_nil, Nat.zero_add, Nat.reduceAdd, ev_g (g_pre (d + 3)), ev_g (g_kinds (d + 3)), ev_g (g_unw (d + 3)), Bool.not_true, Bool.not_false] at ⊢
    refine SimR.bind (IH .expr _ _ _ _ _ _ hF h4) fun x5 i o S5 h5 _ => ?_
    try simp_arith only [h5.r, sz1, sz2, sz3, List.length_cons, List.length_nil, Nat.zero_add, Nat.reduceAdd, ev_g (g_pre (d + 3)), ev_g (g_kinds (d + 3)), ev_g (g_unw (d + 3)), Bool.not_true, Bool.not_false] at ⊢
    exact sim_built (qs := [x3, x5]) h5 (by simp) (by simp) (by simp)
  | false =>
    try simp_arith only [h2.r, sz1, sz2, sz3, List.length_cons, List.length_nil, Nat.zero_add, Nat.reduceAdd, ev_g (g_pre (d + 3)), ev_g (g_kinds (d + 3)), ev_g (g_unw (d + 3)), Bool.not_true, Bool.not_false] at ⊢
    refine SimR.bind (sim_take hF h2 rfl (by simp)) fun x7 i o S7 h7 _ => ?_
    try simp_arith only [h7.r, sz1, sz2, sz3, List.length_cons, List.length_nil, Nat.zero_add, Nat.reduceAdd, ev_g (g_pre (d + 3)), ev_g (g_kinds (d + 3)), ev_g (g_unw (d + 3)), Bool.not_true, Bool.not_false] at ⊢
    refine SimR.bind (IH .expr _ _ _ _ _ _ hF h7) fun x8 i o S8 h8 _ => ?_
    try simp_arith only [h8.r, sz1, sz2, sz3, List.length_cons, List.length_nil, Nat.zero_add, Nat.reduceAdd, ev_g (g_pre (d + 3)), ev_g (g_kinds (d + 3)), ev_g (g_unw (d + 3)), Bool.not_true, Bool.not_false] at ⊢
    exact sim_built (qs := [unw, x8]) h8 (by simp) (by simp) (by simp)
theorem sim_rec_ (IH : SimP (d + 3) P) (hF : Flat ts) (h : Rd S n ts i o m) : SimR pr ((pg.cal (d + 4)).call "Reader.read_rec" [.loc n] S) (mB P .rec_ ts i o) S n m ts := by
  rw [call_eq (df := ⟨1, 6, false, T_Reader_read_rec⟩) (by kernel_rfl), run_eq (by rfl)]
  unfold T_Reader_read_rec mB
  try simp_arith only [h.r, sz1, sz2, sz3, List.length_cons, List.length_nil, Nat.zero_add, Nat.reduceAdd, ev_g (g_pre (d + 3)), ev_g (g_kinds (d + 3)), ev_g (g_unw (d + 3)), Bool.not_true, Bool.not_false] at ⊢
  refine SimR.bind (sim_name h) fun x1 i o S1 h1 _ => ?_
  try simp_arith only [h1.r, sz1, sz2, sz3, List.length_cons, List.length_nil, Nat.zero_add, Nat.reduceAdd, ev_g (g_pre (d + 3)), ev_g (g_kinds (d + 3)), ev_g (g_unw (d + 3)), Bool.not_true, Bool.not_false] at ⊢
  refine SimR.bind (sim_take hF h1 rfl (by simp)) fun x2 i o S2 h2 _ => ?_
  try simp_arith only [h2.r, sz1, sz2, sz3, List.length_cons, List.length_nil, Nat.zero_add, Nat.reduceAdd, ev_g (g_pre (d + 3)), ev_g (g_kinds (d + 3)), ev_g (g_unw (d + 3)), Bool.not_true, Bool.not_false] at ⊢
  refine SimR.bind (sim_name h2) fun x3 i o S3 h3 _ => ?_
  try simp_arith only [h3.r, sz1, sz2, sz3, List.length_cons, List.length_nil, Nat.zero_add, Nat.reduceAdd, ev_g (g_pre (d + 3)), ev_g (g_kinds (d + 3)), ev_g (g_unw (d + 3)), Bool.not_true, Bool.not_false] at ⊢
  refine SimR.bind (sim_take hF h3 rfl (by simp)) fun x4 i o S4 h4 _ => ?_
  try simp_arith only [h4.r, sz1, sz2, sz3, List.length_cons, List.length_nil, Nat.zero_add, Nat.reduceAdd, ev_g (g_pre (d + 3)), ev_g (g_kinds (d + 3)), ev_g (g_unw (d + 3)), Bool.not_true, Bool.not_false] at ⊢
  refine SimR.bind (IH .annot _ _ _ _ _ _ hF h4) fun x5 i o S5 h5 _ => ?_
  try simp_arith only [h5.r, sz1, sz2, sz3, List.length_cons, List.length_nil, Nat.zero_add, Nat.reduceAdd, ev_g (g_pre (d + 3)), ev_g (g_kinds (d + 3)), ev_g (g_unw (d + 3)), Bool.not_true, Bool.not_false] at ⊢
  refine SimR.bind (sim_take hF h5 rfl (by simp)) fun x6 i o S6 h6 _ => ?_
  try simp_arith only [h6.r, sz1, sz2, sz3, List.length_cons, List.length_nil, Nat.zero_add, Nat.reduceAdd, ev_g (g_pre (d + 3)), ev_g (g_kinds (d + 3)), ev_g (g_unw (d + 3)), Bool.not_true, Bool.not_false] at ⊢
  refine SimR.bind (sim_take hF h6 rfl (by simp)) fun x7 i o S7 h7 _ => ?_
  try simp_arith only [h7.r, sz1, sz2, sz3, List.length_cons, List.length_nil, Nat.zero_add, Nat.reduceAdd, ev_g (g_pre (d + 3)), ev_g (g_kinds (d + 3)), ev_g (g_unw (d + 3)), Bool.not_true, Bool.not_false] at ⊢
  refine SimR.bind (IH .annot _ _ _ _ _ _ hF h7) fun x8 i o S8 h8 _ => ?_
  try simp_arith only [h8.r, sz1, sz2, sz3, List.length_cons, List.length_nil, Nat.zero_add, Nat.reduceAdd, ev_g (g_pre (d + 3)), ev_g (g_kinds (d + 3)), ev_g (g_unw (d + 3)), Bool.not_true, Bool.not_false] at ⊢
  refine SimR.bind (sim_take hF h8 rfl (by simp)) fun x9 i o S9 h9 _ => ?_
  try simp_arith only [h9.r, sz1, sz2, sz3, List.length_cons, List.length_nil, Nat.zero_add, Nat.reduceAdd, ev_g (g_pre (d + 3)), ev_g (g_kinds (d + 3)), ev_g (g_unw (d + 3)), Bool.not_true, Bool.not_false] at ⊢
  refine SimR.bind (IH .expr _ _ _ _ _ _ hF h9) fun x10 i o S10 h10 _ => ?_
  try simp_arith only [h10.r, sz1, sz2, sz3, List.length_cons, List.length_nil, Nat.zero_add, Nat.reduceAdd, ev_g (g_pre (d + 3)), ev_g (g_kinds (d + 3)), ev_g (g_unw (d + 3)), Bool.not_true, Bool.not_false] at ⊢
  exact sim_built (qs := [x5, x8, x10]) h10 (by simp) (by simp) (by simp)
theorem sim_let_ (IH : SimP (d + 3) P) (hF : Flat ts) (h : Rd S n ts i o m) : SimR pr ((pg.cal (d + 4)).call "Reader.read_let" [.loc n] S) (mB P .let_ ts i o) S n m ts := by
  rw [call_eq (df := ⟨1, 4, false, T_Reader_read_let⟩) (by kernel_rfl), run_eq (by rfl)]
  unfold T_Reader_read_let mB
  try simp_arith only [h.r, sz1, sz2, sz3, List.length_cons, List.length_nil, Nat.zero_add, Nat.reduceAdd, ev_g (g_pre (d + 3)), ev_g (g_kinds (d + 3)), ev_g (g_unw (d + 3)), Bool.not_true, Bool.not_false] at ⊢
  refine SimR.bind (sim_name h) fun x1 i o S1 h1 _ => ?_
  try simp_arith only [h1.r, sz1, sz2, sz3, List.length_cons, List.length_nil, Nat.zero_add, Nat.reduceAdd, ev_g (g_pre (d + 3)), ev_g (g_kinds (d + 3)), ev_g (g_unw (d + 3)), Bool.not_true, Bool.not_false] at ⊢
  refine SimR.bind (sim_take hF h1 rfl (by simp)) fun x2 i o S2 h2 _ => ?_
  try simp_arith only [h2.r, sz1, sz2, sz3, List.length_cons, List.length_nil, Nat.zero_add, Nat.reduceAdd, ev_g (g_pre (d + 3)), ev_g (g_kinds (d + 3)), ev_g (g_unw (d + 3)), Bool.not_true, Bool.not_false] at ⊢
  refine SimR.bind (IH .expr _ _ _ _ _ _ hF h2) fun x3 i o S3 h3 _ => ?_
  try simp_arith only [h3.r, sz1, sz2, sz3, List.length_cons, List.length_nil, Nat.zero_add, Nat.reduceAdd, ev_g (g_pre (d + 3)), ev_g (g_kinds (d + 3)), ev_g (g_unw (d + 3)), Bool.not_true, Bool.not_false] at ⊢
  refine SimR.bind (sim_take hF h3 rfl (by simp)) fun x4 i o S4 h4 _ => ?_
  try simp_arith only [h4.r, sz1, sz2, sz3, List.length_cons, List.length_nil, Nat.zero_add, Nat.reduceAdd, ev_g (g_pre (d + 3)), ev_g (g_kinds (d + 3)), ev_g (g_unw (d + 3)), Bool.not_true, Bool.not_false] at ⊢
  refine SimR.bind (IH .expr _ _ _ _ _ _ hF h4) fun x5 i o S5 h5 _ => ?_
  try simp_arith only [h5.r, sz1, sz2, sz3, List.length_cons, List.length_nil, Nat.zero_add, Nat.reduceAdd, ev_g (g_pre (d + 3)), ev_g (g_kinds (d + 3)), ev_g (g_unw (d + 3)), Bool.not_true, Bool.not_false] at ⊢
  exact sim_built (qs := [x3, x5]) h5 (by simp) (by simp) (by simp)
theorem sim_if_ (IH : SimP (d + 3) P) (hF : Flat ts) (h : Rd S n ts i o m) : SimR pr ((pg.cal (d + 4)).call "Reader.read_if" [.loc n] S) (mB P .if_ ts i o) S n m ts := by
  rw [call_eq (df := ⟨1, 4, false, T_Reader_read_if⟩) (by kernel_rfl), run_eq (by rfl)]
  unfold T_Reader_read_if mB
  try simp_arith only [h.r, sz1, sz2, sz3, List.length_cons, List.length_nil, Nat.zero_add, Nat.reduceAdd, ev_g (g_pre (d + 3)), ev_g (g_kinds (d + 3)), ev_g (g_unw (d + 3)), Bool.not_true, Bool.not_false] at ⊢
  refine SimR.bind (IH .expr _ _ _ _ _ _ hF h) fun x1 i o S1 h1 _ => ?_
  try simp_arith only [h1.r, sz1, sz2, sz3, List.length_cons, List.length_nil, Nat.zero_add, Nat.reduceAdd, ev_g (g_pre (d + 3)), ev_g (g_kinds (d + 3)), ev_g (g_unw (d + 3)), Bool.not_true, Bool.not_false] at ⊢
  refine SimR.bind (sim_take hF h1 rfl (by simp)) fun x2 i o S2 h2 _ => ?_
  try simp_arith only [h2.r, sz1, sz2, sz3, List.length_cons, List.length_nil, Nat.zero_add, Nat.reduceAdd, ev_g (g_pre (d + 3)), ev_g (g_kinds (d + 3)), ev_g (g_unw (d + 3)), Bool.not_true, Bool.not_false] at ⊢
  refine SimR.bind (IH .expr _ _ _ _ _ _ hF h2) fun x3 i o S3 h3 _ => ?_
  try simp_arith only [h3.r, sz1, sz2, sz3, List.length_cons, List.length_nil, Nat.zero_add, Nat.reduceAdd, ev_g (g_pre (d + 3)), ev_g (g_kinds (d + 3)), ev_g (g_unw (d + 3)), Bool.not_true, Bool.not_false] at ⊢
  refine SimR.bind (sim_take hF h3 rfl (by simp)) fun x4 i o S4 h4 _ => ?_
  try simp_arith only [h4.r, sz1, sz2, sz3, List.length_cons, List.length_nil, Nat.zero_add, Nat.reduceAdd, ev_g (g_pre (d + 3)), ev_g (g_kinds (d + 3)), ev_g (g_unw (d + 3)), Bool.not_true, Bool.not_false] at ⊢
  refine SimR.bind (IH .expr _ _ _ _ _ _ hF h4) fun x5 i o S5 h5 _ => ?_
  try simp_arith only [h5.r, sz1, sz2, sz3, List.length_cons, List.length_nil, Nat.zero_add, Nat.reduceAdd, ev_g (g_pre (d + 3)), ev_g (g_kinds (d + 3)), ev_g (g_unw (d + 3)), Bool.not_true, Bool.not_false] at ⊢
  exact sim_built (qs := [x1, x3, x5]) h5 (by simp) (by simp) (by simp)
theorem sim_print (IH : SimP (d + 3) P) (hF : Flat ts) (h : Rd S n ts i o m) : SimR pr ((pg.cal (d + 4)).call "Reader.read_print" [.loc n] S) (mB P .print ts i o) S n m ts := by
  rw [call_eq (df := ⟨1, 3, false, T_Reader_read_print⟩) (by kernel_rfl), run_eq (by rfl)]
  unfold T_Reader_read_print mB
  try simp_arith only [h.r, sz1, sz2, sz3, List.length_cons, List.length_nil, Nat.zero_add, Nat.reduceAdd, ev_g (g_pre (d + 3)), ev_g (g_kinds (d + 3)), ev_g (g_unw (d + 3)), Bool.not_true, Bool.not_false] at ⊢
  refine SimR.bind (IH .sum _ _ _ _ _ _ hF h) fun x1 i o S1 h1 _ => ?_
  try simp_arith only [h1.r, sz1, sz2, sz3, List.length_cons, List.length_nil, Nat.zero_add, Nat.reduceAdd, ev_g (g_pre (d + 3)), ev_g (g_kinds (d + 3)), ev_g (g_unw (d + 3)), Bool.not_true, Bool.not_false] at ⊢
  refine SimR.bind (sim_take hF h1 rfl (by simp)) fun x2 i o S2 h2 _ => ?_
  try simp_arith only [h2.r, sz1, sz2, sz3, List.length_cons, List.length_nil, Nat.zero_add, Nat.reduceAdd, ev_g (g_pre (d + 3)), ev_g (g_kinds (d + 3)), ev_g (g_unw (d + 3)), Bool.not_true, Bool.not_false] at ⊢
  refine SimR.bind (IH .expr _ _ _ _ _ _ hF h2) fun x3 i o S3 h3 _ => ?_
  try simp_arith only [h3.r, sz1, sz2, sz3, List.length_cons, List.length_nil, Nat.zero_add, Nat.reduceAdd, ev_g (g_pre (d + 3)), ev_g (g_kinds (d + 3)), ev_g (g_unw (d + 3)), Bool.not_true, Bool.not_false] at ⊢
  exact sim_built (qs := [x1, x3]) h3 (by simp) (by simp) (by simp)
theorem sim_comp (IH : SimP (d + 3) P) (hF : Flat ts) (h : Rd S n ts i o m) : SimR pr ((pg.cal (d + 4)).call "Reader.read_comparison" [.loc n] S) (mB P .comp ts i o) S n m ts := by
  rw [call_eq (df := ⟨1, 4, false, T_Reader_read_comparison⟩) (by kernel_rfl), run_eq (by rfl)]
  unfold T_Reader_read_comparison mB
  try simp_arith only [h.r, sz1, sz2, sz3, List.length_cons, List.length_nil, Nat.zero_add, Nat.reduceAdd, ev_g (g_pre (d + 3)), ev_g (g_kinds (d + 3)), ev_g (g_unw (d + 3)), Bool.not_true, Bool.not_false] at ⊢
  refine SimR.bind (IH .sum _ _ _ _ _ _ hF h) fun x1 i o S1 h1 _ => ?_
  try simp_arith only [h1.r, sz1, sz2, sz3, List.length_cons, List.length_nil, Nat.zero_add, Nat.reduceAdd, ev_g (g_pre (d + 3)), ev_g (g_kinds (d + 3)), ev_g (g_unw (d + 3)), Bool.not_true, Bool.not_false] at ⊢
  refine SimR.bind (sim_sees hF h1 rfl (by simp)) fun x2 i o S2 h2 _ => ?_
  cases x2 with
  | true =>
    try simp_arith only [h2.r, sz1, sz2, sz3, List.length_cons, List.length_nil, Nat.zero_add, Nat.reduceAdd, ev_g (g_pre (d + 3)), ev_g (g_kinds (d + 3)), ev_g (g_unw (d + 3)), Bool.not_true, Bool.not_false] at ⊢
    refine SimR.bind (sim_take hF h2 rfl (by simp)) fun x3 i o S3 h3 _ => ?_
    try simp_arith only [h3.r, sz1, sz2, sz3, List.length_cons, List.length_nil, Nat.zero_add, Nat.reduceAdd, ev_g (g_pre (d + 3)), ev_g (g_kinds (d + 3)), ev_g (g_unw (d + 3)), Bool.not_true, Bool.not_false] at ⊢
    refine SimR.bind (IH .sum _ _ _ _ _ _ hF h3) fun x4 i o S4 h4 _ => ?_
    try simp_arith only [h4.r, sz1, sz2, sz3, List.length_cons, List.length_nil, Nat.zero_add, Nat.reduceAdd, ev_g (g_pre (d + 3)), ev_g (g_kinds (d + 3)), ev_g (g_unw (d + 3)), Bool.not_true, Bool.not_false] at ⊢
    exact sim_built (qs := [x1, x4]) h4 (by simp) (by simp) (by simp)
  | false =>
    try simp_arith only [h2.r, sz1, sz2, sz3, List.length_cons, List.length_nil, Nat.zero_add, Nat.reduceAdd, ev_g (g_pre (d + 3)), ev_g (g_kinds (d + 3)), ev_g (g_unw (d + 3)), Bool.not_true, Bool.not_false] at ⊢
    exact SimR.ret (enc := pr) h2
theorem sim_prefix_ (IH : SimP (d + 3) P) (hF : Flat ts) (h : Rd S n ts i o m) : SimR pr ((pg.cal (d + 4)).call "Reader.read_prefix" [.loc n] S) (mB P .prefix_ ts i o) S n m ts := by
  rw [call_eq (df := ⟨1, 6, false, T_Reader_read_prefix⟩) (by kernel_rfl), run_eq (by rfl)]
  unfold T_Reader_read_prefix mB
  try simp_arith only [h.r, sz1, sz2, sz3, List.length_cons, List.length_nil, Nat.zero_add, Nat.reduceAdd, ev_g (g_pre (d + 3)), ev_g (g_kinds (d + 3)), ev_g (g_unw (d + 3)), Bool.not_true, Bool.not_false] at ⊢
  refine SimR.bind (sim_enter h) fun x1 i o S1 h1 _ => ?_
  try simp_arith only [h1.r, sz1, sz2, sz3, List.length_cons, List.length_nil, Nat.zero_add, Nat.reduceAdd, ev_g (g_pre (d + 3)), ev_g (g_kinds (d + 3)), ev_g (g_unw (d + 3)), Bool.not_true, Bool.not_false] at ⊢
  refine SimR.bind (sim_sees hF h1 rfl (by simp)) fun x2 i o S2 h2 _ => ?_
  cases x2 with
  | true =>
    try simp_arith only [h2.r, sz1, sz2, sz3, List.length_cons, List.length_nil, Nat.zero_add, Nat.reduceAdd, ev_g (g_pre (d + 3)), ev_g (g_kinds (d + 3)), ev_g (g_unw (d + 3)), Bool.not_true, Bool.not_false] at ⊢
    refine SimR.bind (sim_take hF h2 rfl (by simp)) fun x3 i o S3 h3 _ => ?_
    try simp_arith only [h3.r, sz1, sz2, sz3, List.length_cons, List.length_nil, Nat.zero_add, Nat.reduceAdd, ev_g (g_pre (d + 3)), ev_g (g_kinds (d + 3)), ev_g (g_unw (d + 3)), Bool.not_true, Bool.not_false] at ⊢
    refine SimR.bind (IH .prefix_ _ _ _ _ _ _ hF h3) fun x4 i o S4 h4 _ => ?_
    try simp_arith only [h4.r, sz1, sz2, sz3, List.length_cons, List.length_nil, Nat.zero_add, Nat.reduceAdd, ev_g (g_pre (d + 3)), ev_g (g_kinds (d + 3)), ev_g (g_unw (d + 3)), Bool.not_true, Bool.not_false] at ⊢
    refine SimR.bind (sim_built (qs := [x4]) h4 (by simp) (by simp) (by simp)) fun x5 i o S5 h5 _ => ?_
    try simp_arith only [h5.r, sz1, sz2, sz3, List.length_cons, List.length_nil, Nat.zero_add, Nat.reduceAdd, ev_g (g_pre (d + 3)), ev_g (g_kinds (d + 3)), ev_g (g_unw (d + 3)), Bool.not_true, Bool.not_false] at ⊢
    refine SimR.bind (sim_leave h5) fun x6 i o S6 h6 _ => ?_
    try simp_arith only [h6.r, sz1, sz2, sz3, List.length_cons, List.length_nil, Nat.zero_add, Nat.reduceAdd, ev_g (g_pre (d + 3)), ev_g (g_kinds (d + 3)), ev_g (g_unw (d + 3)), Bool.not_true, Bool.not_false] at ⊢
    exact SimR.ret (enc := pr) h6
  | false =>
    try simp_arith only [h2.r, sz1, sz2, sz3, List.length_cons, List.length_nil, Nat.zero_add, Nat.reduceAdd, ev_g (g_pre (d + 3)), ev_g (g_kinds (d + 3)), ev_g (g_unw (d + 3)), Bool.not_true, Bool.not_false] at ⊢
    refine SimR.bind (sim_skips hF h2) fun x8 i o S8 h8 _ => ?_
    cases x8 with
    | true =>
      try simp_arith only [h8.r, sz1, sz2, sz3, List.length_cons, List.length_nil, Nat.zero_add, Nat.reduceAdd, ev_g (g_pre (d + 3)), ev_g (g_kinds (d + 3)), ev_g (g_unw (d + 3)), Bool.not_true, Bool.not_false] at ⊢
      refine SimR.bind (IH .atom _ _ _ _ _ _ hF h8) fun x9 i o S9 h9 _ => ?_
      try simp_arith only [h9.r, sz1, sz2, sz3, List.length_cons, List.length_nil, Nat.zero_add, Nat.reduceAdd, ev_g (g_pre (d + 3)), ev_g (g_kinds (d + 3)), ev_g (g_unw (d + 3)), Bool.not_true, Bool.not_false] at ⊢
      refine SimR.bind (IH .atom _ _ _ _ _ _ hF h9) fun x10 i o S10 h10 _ => ?_
      try simp_arith only [h10.r, sz1, sz2, sz3, List.length_cons, List.length_nil, Nat.zero_add, Nat.reduceAdd, ev_g (g_pre (d + 3)), ev_g (g_kinds (d + 3)), ev_g (g_unw (d + 3)), Bool.not_true, Bool.not_false] at ⊢
      refine SimR.bind (sim_built (qs := [x9, x10]) h10 (by simp) (by simp) (by simp)) fun x11 i o S11 h11 _ => ?_
      try simp_arith only [h11.r, sz1, sz2, sz3, List.length_cons, List.length_nil, Nat.zero_add, Nat.reduceAdd, ev_g (g_pre (d + 3)), ev_g (g_kinds (d + 3)), ev_g (g_unw (d + 3)), Bool.not_true, Bool.not_false] at ⊢
      refine SimR.bind (sim_leave h11) fun x12 i o S12 h12 _ => ?_
      try simp_arith only [h12.r, sz1, sz2, sz3, List.length_cons, List.length_nil, Nat.zero_add, Nat.reduceAdd, ev_g (g_pre (d + 3)), ev_g (g_kinds (d + 3)), ev_g (g_unw (d + 3)), Bool.not_true, Bool.not_false] at ⊢
      exact SimR.ret (enc := pr) h12
    | false =>
      try simp_arith only [h8.r, sz1, sz2, sz3, List.length_cons, List.length_nil, Nat.zero_add, Nat.reduceAdd, ev_g (g_pre (d + 3)), ev_g (g_kinds (d + 3)), ev_g (g_unw (d + 3)), Bool.not_true, Bool.not_false] at ⊢
      refine SimR.bind (IH .call _ _ _ _ _ _ hF h8) fun x14 i o S14 h14 _ => ?_
      try simp_arith only [h14.r, sz1, sz2, sz3, List.length_cons, List.length_nil, Nat.zero_add, Nat.reduceAdd, ev_g (g_pre (d + 3)), ev_g (g_kinds (d + 3)), ev_g (g_unw (d + 3)), Bool.not_true, Bool.not_false] at ⊢
      refine SimR.bind (sim_leave h14) fun x15 i o S15 h15 _ => ?_
      try simp_arith only [h15.r, sz1, sz2, sz3, List.length_cons, List.length_nil, Nat.zero_add, Nat.reduceAdd, ev_g (g_pre (d + 3)), ev_g (g_kinds (d + 3)), ev_g (g_unw (d + 3)), Bool.not_true, Bool.not_false] at ⊢
      exact SimR.ret (enc := pr) h15
theorem sim_group (IH : SimP (d + 3) P) (hF : Flat ts) (h : Rd S n ts i o m) : SimR pr ((pg.cal (d + 4)).call "Reader.read_group" [.loc n] S) (mB P .group ts i o) S n m ts := by
  rw [call_eq (df := ⟨1, 4, false, T_Reader_read_group⟩) (by kernel_rfl), run_eq (by rfl)]
  unfold T_Reader_read_group mB
  try simp_arith only [h.r, sz1, sz2, sz3, List.length_cons, List.length_nil, Nat.zero_add, Nat.reduceAdd, ev_g (g_pre (d + 3)), ev_g (g_kinds (d + 3)), ev_g (g_unw (d + 3)), Bool.not_true, Bool.not_false] at ⊢
  refine SimR.bind (IH .expr _ _ _ _ _ _ hF h) fun x1 i o S1 h1 _ => ?_
  try simp_arith only [h1.r, sz1, sz2, sz3, List.length_cons, List.length_nil, Nat.zero_add, Nat.reduceAdd, ev_g (g_pre (d + 3)), ev_g (g_kinds (d + 3)), ev_g (g_unw (d + 3)), Bool.not_true, Bool.not_false] at ⊢
  refine SimR.bind (sim_skips hF h1) fun x2 i o S2 h2 _ => ?_
  cases x2 with
  | true =>
    try simp_arith only [h2.r, sz1, sz2, sz3, List.length_cons, List.length_nil, Nat.zero_add, Nat.reduceAdd, ev_g (g_pre (d + 3)), ev_g (g_kinds (d + 3)), ev_g (g_unw (d + 3)), Bool.not_true, Bool.not_false] at ⊢
    refine SimR.bind (IH .annot _ _ _ _ _ _ hF h2) fun x3 i o S3 h3 _ => ?_
    try simp_arith only [h3.r, sz1, sz2, sz3, List.length_cons, List.length_nil, Nat.zero_add, Nat.reduceAdd, ev_g (g_pre (d + 3)), ev_g (g_kinds (d + 3)), ev_g (g_unw (d + 3)), Bool.not_true, Bool.not_false] at ⊢
    refine SimR.bind (sim_take hF h3 rfl (by simp)) fun x4 i o S4 h4 _ => ?_
    try simp_arith only [h4.r, sz1, sz2, sz3, List.length_cons, List.length_nil, Nat.zero_add, Nat.reduceAdd, ev_g (g_pre (d + 3)), ev_g (g_kinds (d + 3)), ev_g (g_unw (d + 3)), Bool.not_true, Bool.not_false] at ⊢
    exact sim_built (qs := [x1, x3]) h4 (by simp) (by simp) (by simp)
  | false =>
    try simp_arith only [h2.r, sz1, sz2, sz3, List.length_cons, List.length_nil, Nat.zero_add, Nat.reduceAdd, ev_g (g_pre (d + 3)), ev_g (g_kinds (d + 3)), ev_g (g_unw (d + 3)), Bool.not_true, Bool.not_false] at ⊢
    refine SimR.bind (sim_skips hF h2) fun x6 i o S6 h6 _ => ?_
    cases x6 with
    | true =>
      try simp_arith only [h6.r, sz1, sz2, sz3, List.length_cons, List.length_nil, Nat.zero_add, Nat.reduceAdd, ev_g (g_pre (d + 3)), ev_g (g_kinds (d + 3)), ev_g (g_unw (d + 3)), Bool.not_true, Bool.not_false] at ⊢
      refine SimR.bind (IH .expr _ _ _ _ _ _ hF h6) fun x7 i o S7 h7 _ => ?_
      try simp_arith only [h7.r, sz1, sz2, sz3, List.length_cons, List.length_nil, Nat.zero_add, Nat.reduceAdd, ev_g (g_pre (d + 3)), ev_g (g_kinds (d + 3)), ev_g (g_unw (d + 3)), Bool.not_true, Bool.not_false] at ⊢
      refine SimR.bind (sim_take hF h7 rfl (by simp)) fun x8 i o S8 h8 _ => ?_
      try simp_arith only [h8.r, sz1, sz2, sz3, List.length_cons, List.length_nil, Nat.zero_add, Nat.reduceAdd, ev_g (g_pre (d + 3)), ev_g (g_kinds (d + 3)), ev_g (g_unw (d + 3)), Bool.not_true, Bool.not_false] at ⊢
      exact sim_built (qs := [x1, x7]) h8 (by simp) (by simp) (by simp)
    | false =>
      try simp_arith only [h6.r, sz1, sz2, sz3, List.length_cons, List.length_nil, Nat.zero_add, Nat.reduceAdd, ev_g (g_pre (d + 3)), ev_g (g_kinds (d + 3)), ev_g (g_unw (d + 3)), Bool.not_true, Bool.not_false] at ⊢
      refine SimR.bind (sim_take hF h6 rfl (by simp)) fun x10 i o S10 h10 _ => ?_
      try simp_arith only [h10.r, sz1, sz2, sz3, List.length_cons, List.length_nil, Nat.zero_add, Nat.reduceAdd, ev_g (g_pre (d + 3)), ev_g (g_kinds (d + 3)), ev_g (g_unw (d + 3)), Bool.not_true, Bool.not_false] at ⊢
      exact SimR.ret (enc := pr) h10
theorem sim_annot (IH : SimP (d + 3) P) (hF : Flat ts) (h : Rd S n ts i o m) : SimR pr ((pg.cal (d + 4)).call "Reader.read_annotation" [.loc n] S) (mB P .annot ts i o) S n m ts := by
  rw [call_eq (df := ⟨1, 3, false, T_Reader_read_annotation⟩) (by kernel_rfl), run_eq (by rfl)]
  unfold T_Reader_read_annotation mB
  try simp_arith only [h.r, sz1, sz2, sz3, List.length_cons, List.length_nil, Nat.zero_add, Nat.reduceAdd, ev_g (g_pre (d + 3)), ev_g (g_kinds (d + 3)), ev_g (g_unw (d + 3)), Bool.not_true, Bool.not_false] at ⊢
  refine SimR.bind (IH .simple _ _ _ _ _ _ hF h) fun x1 i o S1 h1 _ => ?_
  try simp_arith only [h1.r, sz1, sz2, sz3, List.length_cons, List.length_nil, Nat.zero_add, Nat.reduceAdd, ev_g (g_pre (d + 3)), ev_g (g_kinds (d + 3)), ev_g (g_unw (d + 3)), Bool.not_true, Bool.not_false] at ⊢
  refine SimR.bind (sim_skips hF h1) fun x2 i o S2 h2 _ => ?_
  cases x2 with
  | true =>
    try simp_arith only [h2.r, sz1, sz2, sz3, List.length_cons, List.length_nil, Nat.zero_add, Nat.reduceAdd, ev_g (g_pre (d + 3)), ev_g (g_kinds (d + 3)), ev_g (g_unw (d + 3)), Bool.not_true, Bool.not_false] at ⊢
    refine SimR.bind (sim_enter h2) fun x3 i o S3 h3 _ => ?_
    try simp_arith only [h3.r, sz1, sz2, sz3, List.length_cons, List.length_nil, Nat.zero_add, Nat.reduceAdd, ev_g (g_pre (d + 3)), ev_g (g_kinds (d + 3)), ev_g (g_unw (d + 3)), Bool.not_true, Bool.not_false] at ⊢
    refine SimR.bind (IH .annot _ _ _ _ _ _ hF h3) fun x4 i o S4 h4 _ => ?_
    try simp_arith only [h4.r, sz1, sz2, sz3, List.length_cons, List.length_nil, Nat.zero_add, Nat.reduceAdd, ev_g (g_pre (d + 3)), ev_g (g_kinds (d + 3)), ev_g (g_unw (d + 3)), Bool.not_true, Bool.not_false] at ⊢
    refine SimR.bind (sim_leave h4) fun x5 i o S5 h5 _ => ?_
    try simp_arith only [h5.r, sz1, sz2, sz3, List.length_cons, List.length_nil, Nat.zero_add, Nat.reduceAdd, ev_g (g_pre (d + 3)), ev_g (g_kinds (d + 3)), ev_g (g_unw (d + 3)), Bool.not_true, Bool.not_false] at ⊢
    exact sim_built (qs := [x1, x4]) h5 (by simp) (by simp) (by simp)
  | false =>
    try simp_arith only [h2.r, sz1, sz2, sz3, List.length_cons, List.length_nil, Nat.zero_add, Nat.reduceAdd, ev_g (g_pre (d + 3)), ev_g (g_kinds (d + 3)), ev_g (g_unw (d + 3)), Bool.not_true, Bool.not_false] at ⊢
    exact SimR.ret (enc := pr) h2
theorem sim_agroup (IH : SimP (d + 3) P) (hF : Flat ts) (h : Rd S n ts i o m) : SimR pr ((pg.cal (d + 4)).call "Reader.read_annotation_group" [.loc n] S) (mB P .agroup ts i o) S n m ts := by
  rw [call_eq (df := ⟨1, 3, false, T_Reader_read_annotation_group⟩) (by kernel_rfl), run_eq (by rfl)]
  unfold T_Reader_read_annotation_group mB
  try simp_arith only [h.r, sz1, sz2, sz3, List.length_cons, List.length_nil, Nat.zero_add, Nat.reduceAdd, ev_g (g_pre (d + 3)), ev_g (g_kinds (d + 3)), ev_g (g_unw (d + 3)), Bool.not_true, Bool.not_false] at ⊢
  refine SimR.bind (IH .annot _ _ _ _ _ _ hF h) fun x1 i o S1 h1 _ => ?_
  try simp_arith only [h1.r, sz1, sz2, sz3, List.length_cons, List.length_nil, Nat.zero_add, Nat.reduceAdd, ev_g (g_pre (d + 3)), ev_g (g_kinds (d + 3)), ev_g (g_unw (d + 3)), Bool.not_true, Bool.not_false] at ⊢
  refine SimR.bind (sim_skips hF h1) fun x2 i o S2 h2 _ => ?_
  cases x2 with
  | true =>
    try simp_arith only [h2.r, sz1, sz2, sz3, List.length_cons, List.length_nil, Nat.zero_add, Nat.reduceAdd, ev_g (g_pre (d + 3)), ev_g (g_kinds (d + 3)), ev_g (g_unw (d + 3)), Bool.not_true, Bool.not_false] at ⊢
    refine SimR.bind (IH .annot _ _ _ _ _ _ hF h2) fun x3 i o S3 h3 _ => ?_
    try simp_arith only [h3.r, sz1, sz2, sz3, List.length_cons, List.length_nil, Nat.zero_add, Nat.reduceAdd, ev_g (g_pre (d + 3)), ev_g (g_kinds (d + 3)), ev_g (g_unw (d + 3)), Bool.not_true, Bool.not_false] at ⊢
    refine SimR.bind (sim_take hF h3 rfl (by simp)) fun x4 i o S4 h4 _ => ?_
    try simp_arith only [h4.r, sz1, sz2, sz3, List.length_cons, List.length_nil, Nat.zero_add, Nat.reduceAdd, ev_g (g_pre (d + 3)), ev_g (g_kinds (d + 3)), ev_g (g_unw (d + 3)), Bool.not_true, Bool.not_false] at ⊢
    exact sim_built (qs := [x1, x3]) h4 (by simp) (by simp) (by simp)
  | false =>
    try simp_arith only [h2.r, sz1, sz2, sz3, List.length_cons, List.length_nil, Nat.zero_add, Nat.reduceAdd, ev_g (g_pre (d + 3)), ev_g (g_kinds (d + 3)), ev_g (g_unw (d + 3)), Bool.not_true, Bool.not_false] at ⊢
    refine SimR.bind (sim_take hF h2 rfl (by simp)) fun x6 i o S6 h6 _ => ?_
    try simp_arith only [h6.r, sz1, sz2, sz3, List.length_cons, List.length_nil, Nat.zero_add, Nat.reduceAdd, ev_g (g_pre (d + 3)), ev_g (g_kinds (d + 3)), ev_g (g_unw (d + 3)), Bool.not_true, Bool.not_false] at ⊢
    exact SimR.ret (enc := pr) h6

end Pr

end

section
set_option maxHeartbeats 4000000
namespace Pr
open PySem L2 Oz
variable {S S' : Sto} {n m i d : Nat} {o : Int} {ts : List Tk} {P : Nm → PT}
theorem ms_bind {α β γ : Type} {r : Ms α} {f : α → Nat → Int → Ms β} {g : β → Nat → Int → Ms γ} : (r.bind f).bind g = r.bind fun a i o => (f a i o).bind g := by cases r <;> rfl
theorem ms_ok {α β : Type} {a : α} {f : α → Nat → Int → Ms β} : (Ms.ok a i o).bind f = f a i o := rfl
theorem leaf1 (d : Nat) (x : U) (S : Sto) : (pg.cal (d + 1)).call "leaf" [x] S = .ok (.tup [.tup [x], .int 1]) S := leaf_eq (by simp)
theorem leaf2 (d : Nat) (x y : U) (S : Sto) : (pg.cal (d + 1)).call "leaf" [x, y] S = .ok (.tup [.tup [x, y], .int 1]) S := leaf_eq (by simp)
theorem loop_sim {c : Oz.Env → Sto → R Bool} {f : Oz.Env → Sto → O} {Kx : Oz.Env → Sto → O} {step : (U × Int) → Nat → Int → Ms (Option (U × Int))} {E : (U × Int) → Oz.Env → Prop}
    (hs : ∀ l env S i o (G : Oz.Env → Sto → O) (rest : (U × Int) → Nat → Int → Ms (U × Int)), E l env → Rd S n ts i o m → (∀ l' env' S' i' o', E l' env' → Rd S' n ts i' o' m → SimR pr ((G env' S').then_ Kx).fin (rest l' i' o') S' n m ts) →
      SimR pr ((((c env S).on fun k S => if k then (f env S).turn G else .nx env S).then_ Kx).fin) ((step l i o).bind (mNext l rest)) S n m ts) :
    ∀ k N, k ≤ N → ∀ l env S i o, E l env → Rd S n ts i o m → SimR pr (((loopI c f N env S).then_ Kx).fin) (mLoop step k l i o) S n m ts
  | 0, _, _, _, _, _, _, _, _, _ => trivial
  | k + 1, N, hk, l, env, S, i, o, he, hr => by
    obtain ⟨N', rfl⟩ : ∃ N', N = N' + 1 := ⟨N - 1, by omega⟩
    unfold loopI mLoop
    exact hs l env S i o (fun env S => loopI c f N' env S) (mLoop step k) he hr fun l' env' S' i' o' he' hr' => loop_sim hs k N' (by omega) l' env' S' i' o' he' hr'
theorem sim_prod (IH : SimP (d + 3) P) (hF : Flat ts) (h : Rd S n ts i o m) : SimR pr ((pg.cal (d + 4)).call "Reader.read_product" [.loc n] S) (mB P .prod ts i o) S n m ts := by
  rw [call_eq (df := ⟨1, 3, false, T_Reader_read_product⟩) (by kernel_rfl), run_eq (by rfl)]
  unfold T_Reader_read_product mB
  simp_arith only [h.r] at ⊢
  refine SimR.bind (IH .prefix_ _ _ _ _ _ _ hF h) fun l i o S1 h1 _ => ?_
  refine loop_sim (E := fun l env => ∃ y, env = [some (.loc n), some (pr l), y]) (fun l env S i o G rest he hr k => ?_) 20000 fuel (by decide) l _ S1 i o ⟨none, rfl⟩ h1
  obtain ⟨y, rfl⟩ := he
  simp_arith only [hr.r, ms_bind] at ⊢
  refine SimR.bind (sim_skips hF hr) fun b i o S2 h2 _ => ?_
  cases b with
  | true =>
    simp_arith only [h2.r, ms_bind] at ⊢
    refine SimR.bind (IH .prefix_ _ _ _ _ _ _ hF h2) fun e i o S3 h3 _ => ?_
    simp_arith only [h3.r, ms_bind, sz1, sz2, List.length_cons, List.length_nil, Nat.zero_add, Nat.reduceAdd] at ⊢
    refine SimR.bind (sim_built (qs := [l, e]) h3 (by simp) (by simp) (by simp)) fun a i o S4 h4 _ => ?_
    simp_arith only [ms_ok, mNext] at ⊢
    exact k a _ S4 i o ⟨_, rfl⟩ h4
  | false =>
    simp_arith only [h2.r, ms_ok, mNext] at ⊢
    exact SimR.ret (enc := pr) h2
theorem sim_sum (IH : SimP (d + 3) P) (hF : Flat ts) (h : Rd S n ts i o m) : SimR pr ((pg.cal (d + 4)).call "Reader.read_sum" [.loc n] S) (mB P .sum ts i o) S n m ts := by
  rw [call_eq (df := ⟨1, 4, false, T_Reader_read_sum⟩) (by kernel_rfl), run_eq (by rfl)]
  unfold T_Reader_read_sum mB
  simp_arith only [h.r] at ⊢
  refine SimR.bind (IH .prod _ _ _ _ _ _ hF h) fun l i o S1 h1 _ => ?_
  refine loop_sim (E := fun l env => ∃ y z, env = [some (.loc n), some (pr l), y, z]) (fun l env S i o G rest he hr k => ?_) 20000 fuel (by decide) l _ S1 i o ⟨none, none, rfl⟩ h1
  obtain ⟨y, z, rfl⟩ := he
  simp_arith only [hr.r, ms_bind] at ⊢
  refine SimR.bind (sim_sees hF hr rfl (by simp)) fun b i o S2 h2 _ => ?_
  cases b with
  | true =>
    simp_arith only [h2.r, ms_bind] at ⊢
    refine SimR.bind (sim_take hF h2 rfl (by simp)) fun s i o S5 h5 _ => ?_
    simp_arith only [h5.r, ms_bind] at ⊢
    refine SimR.bind (IH .prod _ _ _ _ _ _ hF h5) fun e i o S3 h3 _ => ?_
    simp_arith only [h3.r, ms_bind, sz1, sz2, List.length_cons, List.length_nil, Nat.zero_add, Nat.reduceAdd] at ⊢
    refine SimR.bind (sim_built (qs := [l, e]) h3 (by simp) (by simp) (by simp)) fun a i o S4 h4 _ => ?_
    simp_arith only [ms_ok, mNext] at ⊢
    exact k a _ S4 i o ⟨_, _, rfl⟩ h4
  | false =>
    simp_arith only [h2.r, ms_ok, mNext] at ⊢
    exact SimR.ret (enc := pr) h2
theorem beq_dec (x y : Str) : (x == y) = decide (y = x) := by
  rw [Bool.eq_iff_iff, beq_iff_eq, decide_eq_true_iff]
  exact eq_comm
theorem kindB (t : Tk) : ([U.str "number", U.str "name"].any fun y => Oz.eqU y (.str t.k)) = (decide (t.k = "number") || decide (t.k = "name")) := by
  simp only [List.any_cons, List.any_nil, Bool.or_false, Oz.eqU, beq_dec]
theorem sees_atom_eq {t : Tk} (hF : Flat ts) (h : Rd S n ts i o m) (ht : ts[i]? = some t) : (pg.cal (d + 2)).call "Reader.sees_atom" [.loc n] S = .ok (.bl (atomB t)) S := by
  rw [call_eq (df := ⟨1, 2, false, T_Reader_sees_atom⟩) (by kernel_rfl), run_eq (by rfl)]
  unfold T_Reader_sees_atom
  have hf := hF t (List.mem_of_getElem? ht)
  simp_arith only [h.r, f_tokens, f_done, ix_loc h.t, tok_at ht, Tk.u, a0, sz2, List.length_cons, List.length_nil, Nat.zero_add, Nat.reduceAdd, c_in_tup (a := .str t.k) (xs := [.str "number", .str "name"]) rfl rfl, kindB,
    sees_eq (d := d) h ht hf (xs := [.str "true", .str "false", .str "unit", .str "("]) rfl (by simp)] at ⊢
  unfold atomB
  cases decide (t.k = "number") || decide (t.k = "name") <;> rfl
theorem sim_atomq (hF : Flat ts) (h : Rd S n ts i o m) : SimR U.bl ((pg.cal (d + 2)).call "Reader.sees_atom" [.loc n] S) (mAtom ts i o) S n m ts := by
  unfold mAtom mCur
  cases ht : ts[i]? with
  | none => exact trivial
  | some t =>
    rw [sees_atom_eq hF h ht]
    exact ⟨S, rfl, h, Fr.refl⟩
theorem sim_call (IH : SimP (d + 3) P) (hF : Flat ts) (h : Rd S n ts i o m) : SimR pr ((pg.cal (d + 4)).call "Reader.read_call" [.loc n] S) (mB P .call ts i o) S n m ts := by
  rw [call_eq (df := ⟨1, 3, false, T_Reader_read_call⟩) (by kernel_rfl), run_eq (by rfl)]
  unfold T_Reader_read_call mB
  simp_arith only [h.r] at ⊢
  refine SimR.bind (IH .atom _ _ _ _ _ _ hF h) fun l i o S1 h1 _ => ?_
  refine loop_sim (E := fun l env => ∃ y, env = [some (.loc n), some (pr l), y]) (fun l env S i o G rest he hr k => ?_) 20000 fuel (by decide) l _ S1 i o ⟨none, rfl⟩ h1
  obtain ⟨y, rfl⟩ := he
  simp_arith only [hr.r, ms_bind] at ⊢
  refine SimR.bind (sim_atomq hF hr) fun b i o S2 h2 _ => ?_
  cases b with
  | true =>
    simp_arith only [h2.r, ms_bind] at ⊢
    refine SimR.bind (IH .atom _ _ _ _ _ _ hF h2) fun e i o S3 h3 _ => ?_
    simp_arith only [h3.r, ms_bind, sz1, sz2, List.length_cons, List.length_nil, Nat.zero_add, Nat.reduceAdd] at ⊢
    refine SimR.bind (sim_built (qs := [l, e]) h3 (by simp) (by simp) (by simp)) fun a i o S4 h4 _ => ?_
    simp_arith only [ms_ok, mNext] at ⊢
    exact k a _ S4 i o ⟨_, rfl⟩ h4
  | false =>
    simp_arith only [h2.r, ms_ok, mNext] at ⊢
    exact SimR.ret (enc := pr) h2
theorem sim_simple (IH : SimP (d + 3) P) (hF : Flat ts) (h : Rd S n ts i o m) : SimR pr ((pg.cal (d + 4)).call "Reader.read_simple" [.loc n] S) (mB P .simple ts i o) S n m ts := by
  rw [call_eq (df := ⟨1, 2, false, T_Reader_read_simple⟩) (by kernel_rfl), run_eq (by rfl)]
  unfold T_Reader_read_simple mB
  simp_arith only [h.r] at ⊢
  refine SimR.bind (sim_enter h) fun _ i o S1 h1 _ => ?_
  simp_arith only [h1.r] at ⊢
  refine SimR.bind (sim_skips hF h1) fun b i o S2 h2 _ => ?_
  cases b with
  | true =>
    simp_arith only [h2.r, sz1, List.length_cons, List.length_nil, Nat.zero_add, Nat.reduceAdd] at ⊢
    refine SimR.bind (IH .simple _ _ _ _ _ _ hF h2) fun e i o S3 h3 _ => ?_
    refine SimR.bind (sim_built (qs := [e]) h3 (by simp) (by simp) (by simp)) fun a i o S4 h4 _ => ?_
    simp_arith only [h4.r] at ⊢
    refine SimR.bind (sim_leave h4) fun _ i o S5 h5 _ => ?_
    exact SimR.ret (enc := pr) h5
  | false =>
    simp_arith only [h2.r] at ⊢
    refine SimR.bind (sim_skips hF h2) fun b i o S3 h3 _ => ?_
    cases b with
    | true =>
      simp_arith only [h3.r] at ⊢
      refine SimR.bind (IH .agroup _ _ _ _ _ _ hF h3) fun e i o S4 h4 _ => ?_
      simp_arith only [h4.r] at ⊢
      refine SimR.bind (sim_leave h4) fun _ i o S5 h5 _ => ?_
      exact SimR.ret (enc := pr) h5
    | false =>
      simp_arith only [h3.r, ev_g (g_kinds (d + 3))] at ⊢
      refine SimR.bind (sim_take hF h3 rfl (by simp)) fun v i o S4 h4 _ => ?_
      simp_arith only [h4.r, leaf1 (d + 2)] at ⊢
      refine SimR.bind (sim_leave h4) fun _ i o S5 h5 _ => ?_
      exact SimR.ret (enc := pr) (a := (.tup [v], 1)) h5
theorem atom_str {t : Tk} (h : atomB t = true) (h1 : t.k ≠ "number") (h2 : t.k ≠ "name") : ∃ x, t.v = .str x ∧ (x = "true" ∨ x = "false" ∨ x = "unit" ∨ x = "(") := by
  unfold atomB at h
  rw [decide_eq_false h1, decide_eq_false h2] at h
  cases q : t.v with
  | str x =>
    rw [q] at h
    simp only [List.any_cons, List.any_nil, Bool.or_false, Oz.eqU, beq_dec, Bool.false_or, Bool.or_eq_true, decide_eq_true_iff] at h
    exact ⟨x, rfl, h⟩
  | _ => rw [q] at h; simp [Oz.eqU] at h
theorem sim_atom (IH : SimP (d + 3) P) (hF : Flat ts) (h : Rd S n ts i o m) : SimR pr ((pg.cal (d + 4)).call "Reader.read_atom" [.loc n] S) (mB P .atom ts i o) S n m ts := by
  show SimR pr _ (mCur ts i (mAt P ts i o)) S n m ts
  unfold mCur mAt
  cases ht : ts[i]? with
  | none => exact trivial
  | some t =>
    rw [call_eq (df := ⟨1, 4, false, T_Reader_read_atom⟩) (by kernel_rfl), run_eq (by rfl)]
    unfold T_Reader_read_atom
    have e1 : ((i : Int) + 1) = ((i + 1 : Nat) : Int) := by omega
    simp_arith only [h.r, sees_atom_eq (d := d + 1) hF h ht] at ⊢
    by_cases hb : atomB t = true
    · have hs := h.set (i + 1) o
      simp_arith only [hb, Bool.not_true, h.r, f_tokens, f_done, ix_loc h.t, tok_at ht, Tk.u, setN, setAll, List.length_cons, List.length_nil, e1, s_done h, hs.r] at ⊢
      by_cases k1 : t.k = "number"
      · simp_arith only [k1, decide_true, leaf2 (d + 2)] at ⊢
        exact ⟨_, rfl, hs, Fr.set⟩
      · by_cases k2 : t.k = "name"
        · simp_arith only [k1, k2, decide_true, decide_false, leaf2 (d + 2), show (("name" : Str) = "number") = False from by decide +kernel] at ⊢
          exact ⟨_, rfl, hs, Fr.set⟩
        · obtain ⟨x, hx, hx2⟩ := atom_str hb k1 k2
          simp_arith only [k1, k2, hx, decide_false] at ⊢
          by_cases x1 : x = "unit"
          · simp_arith only [x1, decide_true, leaf1 (d + 2)] at ⊢
            exact ⟨_, rfl, hs, Fr.set⟩
          · by_cases x2 : x = "("
            · simp_arith only [x1, x2, decide_true, decide_false, show (("(" : Str) = "unit") = False from by decide +kernel, hs.r] at ⊢
              have q := IH .group _ _ _ _ _ _ hF hs
              revert q
              show SimR pr ((pg.cal (d + 3)).call "Reader.read_group" [.loc n] (S.set n (rdr m (i + 1) o))) _ _ _ _ _ → _
              cases P .group ts (i + 1) o with
              | ok b i o => exact fun ⟨S2, e, h2, f2⟩ => ⟨S2, e, h2, Fr.set.trans f2⟩
              | mal b => exact fun ⟨S2, e, f2⟩ => ⟨S2, e, Fr.set.trans f2⟩
              | unb => exact fun ⟨S2, e, f2⟩ => ⟨S2, e, Fr.set.trans f2⟩
              | no => exact fun q => q
            · simp_arith only [x1, x2, decide_false, leaf2 (d + 2)] at ⊢
              exact ⟨_, rfl, hs, Fr.set⟩
    · simp only [Bool.not_eq_true] at hb
      simp_arith only [hb, Bool.not_false, h.r, refuse_eq (d := d + 2) h ht] at ⊢
      exact ⟨S, rfl, Fr.refl⟩
theorem sim_all : ∀ d, SimP d (mP d)
  | 0 => fun _ _ _ _ _ _ _ _ _ => trivial
  | 1 => fun _ _ _ _ _ _ _ _ _ => trivial
  | 2 => fun _ _ _ _ _ _ _ _ _ => trivial
  | 3 => fun _ _ _ _ _ _ _ _ _ => trivial
  | d + 4 => fun nm S n m i o ts hF h => by
    have IH := sim_all (d + 3)
    show SimR pr ((pg.cal (d + 4)).call (nmS nm) [.loc n] S) (mB (mP (d + 3)) nm ts i o) S n m ts
    cases nm with
    | expr => exact sim_expr IH hF h
    | fun_ => exact sim_fun_ IH hF h
    | rec_ => exact sim_rec_ IH hF h
    | let_ => exact sim_let_ IH hF h
    | if_ => exact sim_if_ IH hF h
    | print => exact sim_print IH hF h
    | comp => exact sim_comp IH hF h
    | sum => exact sim_sum IH hF h
    | prod => exact sim_prod IH hF h
    | prefix_ => exact sim_prefix_ IH hF h
    | call => exact sim_call IH hF h
    | atom => exact sim_atom IH hF h
    | group => exact sim_group IH hF h
    | annot => exact sim_annot IH hF h
    | simple => exact sim_simple IH hF h
    | agroup => exact sim_agroup IH hF h
end Pr

end

section
set_option maxHeartbeats 4000000
namespace Pr
open PySem L2 Oz
/-! ### the tokens of a text -/
def sx (l : List Nat) : Str := ⟨⟨l⟩⟩
variable {S S' : Sto} {d : Nat} {l : List Nat}
theorem len_sx : (sx l).length = l.length := rfl
theorem ix_sx {i c : Nat} (hz : l.length ≤ sizeLine) (h : l[i]? = some c) : ixU (.str (sx l)) (.int i) S = .ok (.str ⟨#[c]⟩) S := by
  have e : atI (sx l).cps.toList (i : Int) = some c := L2.atI_nat h
  unfold ixU
  simp only [len_sx, hz, if_true, e]
theorem in_sx {c : Nat} {z : Str} : cmpU .in_ (.str ⟨#[c]⟩) (.str z) S = .ok (.bl (decide (c ∈ z.cps.toList))) S := rfl
theorem len_tx (hz : l.length ≤ sizeLine) : bfU .len [.str (sx l)] S = .ok (.int l.length) S := len_str hz
def runL (cs : Str) (s : List Nat) : Nat := (s.takeWhile fun c => decide (c ∈ cs.cps.toList)).length
theorem run_loop {Φ : Cal} {cs : Str} {x : Option U} (hz : l.length ≤ sizeLine) : ∀ k N e, l.length - e ≤ k → k < N → e ≤ l.length →
    loopI (fun env S => evt Φ (.and (.e (.cmp .lt (.v 3) (.bf .len (.cons (.v 0) .nil)))) (.e (.cmp .in_ (.ix (.v 0) (.v 3)) (.v 2)))) env S) (fun env S => exs Φ (.cons (.aug 3 .add (.k (.int 1))) .nil) env S) N [some (.str (sx l)), x, some (.str cs), some (.int e)] S =
      .nx [some (.str (sx l)), x, some (.str cs), some (.int ((e + runL cs (l.drop e) : Nat) : Int))] S
  | k, 0, e, h1, h2, h3 => absurd h2 (Nat.not_lt_zero _)
  | k, N + 1, e, h1, h2, h3 => by
    unfold loopI
    simp_arith [len_tx hz]
    by_cases he : e < l.length
    · have he' : ((e : Int) < (l.length : Int)) := by omega
      have hg : l[e]? = some l[e] := List.getElem?_eq_getElem he
      have hd : l.drop e = l[e] :: l.drop (e + 1) := List.drop_eq_getElem_cons he
      simp_arith [he', decide_true, ix_sx hz hg, in_sx]
      by_cases hc : l[e] ∈ cs.cps.toList
      · have e1 : ((e : Int) + 1) = ((e + 1 : Nat) : Int) := by omega
        simp_arith [hc, decide_true, e1]
        obtain ⟨k', rfl⟩ : ∃ k', k = k' + 1 := ⟨k - 1, by omega⟩
        have ih := run_loop (Φ := Φ) (cs := cs) (x := x) hz k' N (e + 1) (by omega) (by omega) (by omega)
        simp_arith [true_and] at ih
        rw [ih]
        have e2 : e + runL cs (l.drop e) = e + 1 + runL cs (l.drop (e + 1)) := by
          rw [hd]
          unfold runL
          rw [List.takeWhile_cons_of_pos (by simpa using hc), List.length_cons]
          omega
        rw [e2]
      · simp_arith [hc, decide_false]
        have e2 : e + runL cs (l.drop e) = e := by
          rw [hd]
          unfold runL
          rw [List.takeWhile_cons_of_neg (by simpa using hc)]
          rfl
        rw [e2]
    · have he' : ¬ ((e : Int) < (l.length : Int)) := by omega
      simp_arith [he', decide_false]
      have e2 : e + runL cs (l.drop e) = e := by
        rw [List.drop_eq_nil_of_le (by omega)]
        rfl
      rw [e2]
theorem run_end_eq {cs : Str} {i : Nat} (hz : l.length ≤ 100000) (h : i ≤ l.length) : (pg.cal (d + 1)).call "run_end" [.str (sx l), .int i, .str cs] S = .ok (.int ((i + runL cs (l.drop i) : Nat) : Int)) S := by
  rw [call_eq (df := ⟨3, 4, false, T_run_end⟩) (by kernel_rfl), run_eq (by rfl)]
  unfold T_run_end
  have hs : l.length ≤ sizeLine := Nat.le_trans hz (by decide)
  simp only [exs_cons, ex_while]
  simp_arith [true_and]
  have q := run_loop (Φ := pg.cal d) (cs := cs) (x := some (.int i)) (S := S) hs l.length fuel i (by omega) (Nat.lt_of_le_of_lt hz (by decide)) h
  simp_arith [true_and] at q
  rw [q]
  simp_arith [true_and]
def wordsS : List Str := ["any", "as", "bool", "box", "else", "false", "fst", "fun", "get", "if", "in", "int", "let", "not", "print", "put", "rec", "snd", "then", "true", "unit"]
def signsS : List Str := ["=>", "->", "==", "(", ")", ",", ":", ";", "=", "+", "-", "*", "<"]
theorem g_words (d : Nat) : (pg.cal d).glo "WORDS" = some (.tup (wordsS.map U.str)) := by rw [cal_glo]; kernel_rfl
theorem g_signs (d : Nat) : (pg.cal d).glo "SIGNS" = some (.tup (signsS.map U.str)) := by rw [cal_glo]; kernel_rfl
theorem g_names (d : Nat) : (pg.cal d).glo "NAME_CHARACTERS" = some (.str "abcdefghijklmnopqrstuvwxyz0123456789_") := by rw [cal_glo]; kernel_rfl
theorem g_letters (d : Nat) : (pg.cal d).glo "LETTERS" = some (.str "abcdefghijklmnopqrstuvwxyz") := by rw [cal_glo]; kernel_rfl
theorem g_digits (d : Nat) : (pg.cal d).glo "DIGITS" = some (.str "0123456789") := by rw [cal_glo]; kernel_rfl
theorem g_seps (d : Nat) : (pg.cal d).glo "SEPARATORS" = some (.str " \n") := by rw [cal_glo]; kernel_rfl
theorem g_mostc (d : Nat) : (pg.cal d).glo "MOST_CHARACTERS" = some (.int 10000) := by rw [cal_glo]; kernel_rfl
theorem g_mostn (d : Nat) : (pg.cal d).glo "MOST_NAME_CHARACTERS" = some (.int 20) := by rw [cal_glo]; kernel_rfl
theorem g_mostd (d : Nat) : (pg.cal d).glo "MOST_DIGITS" = some (.int 10) := by rw [cal_glo]; kernel_rfl
theorem g_end (d : Nat) : (pg.cal d).glo "NUMBERS_END" = some (.int 2147483648) := by rw [cal_glo]; kernel_rfl
def nmL : List Nat := (("abcdefghijklmnopqrstuvwxyz0123456789_" : Str)).cps.toList
def ltL : List Nat := (("abcdefghijklmnopqrstuvwxyz" : Str)).cps.toList
def dgL : List Nat := (("0123456789" : Str)).cps.toList
def spL : List Nat := ((" \n" : Str)).cps.toList
inductive Tr where
  | ok (t : Tk) (w : Nat) | mal | no
def nameT (s : List Nat) (i : Nat) : Tr :=
  if (wordsS.map U.str).any (fun y => Oz.eqU y (.str (sx (s.takeWhile fun c => decide (c ∈ nmL))))) = true then .ok ⟨"word", .str (sx (s.takeWhile fun c => decide (c ∈ nmL))), i⟩ (s.takeWhile fun c => decide (c ∈ nmL)).length
  else if 20 < (s.takeWhile fun c => decide (c ∈ nmL)).length then .mal else .ok ⟨"name", .str (sx (s.takeWhile fun c => decide (c ∈ nmL))), i⟩ (s.takeWhile fun c => decide (c ∈ nmL)).length
def numT2 (s w : List Nat) (i : Nat) (v : Int) : Tr := match s[w.length]? with
  | some c => if c ∈ nmL then .mal else .ok ⟨"number", .int v, i⟩ w.length
  | none => .ok ⟨"number", .int v, i⟩ w.length
def numT1 (s w : List Nat) (i : Nat) : Tr := if 10 < w.length then .mal else match PySem.intText? (sx w) with
  | none => .no
  | some v => if 2147483648 ≤ v then .mal else if w[0]? = some 48 ∧ 1 < w.length then .mal else numT2 s w i v
def numT (s : List Nat) (i : Nat) : Tr := numT1 s (s.takeWhile fun c => decide (c ∈ dgL)) i
def sigT (s : List Nat) (i : Nat) : Tr := match signsS.find? (fun g => g.cps.toList.isPrefixOf s) with
  | some g => .ok ⟨"sign", .str g, i⟩ g.length
  | none => .mal
def tokT (s : List Nat) (i : Nat) : Tr := match s with
  | [] => .no
  | c :: _ => if c ∈ ltL then nameT s i else if c ∈ dgL then numT s i else sigT s i
/-- what such a call gives -/
def SimT (r : R U) (x : Tr) (i : Nat) (S : Sto) : Prop := match x with
  | .ok t w => r = .ok (.tup [t.u, .int ((i + w : Nat) : Int)]) S
  | .mal => r = .exc "Malformed" [("at", .int i)] S
  | .no => True
theorem take_while {p : Nat → Bool} : ∀ s : List Nat, s.take (s.takeWhile p).length = s.takeWhile p
  | [] => rfl
  | c :: s => by
    by_cases h : p c = true
    · rw [List.takeWhile_cons_of_pos h, List.length_cons, List.take_succ_cons, take_while s]
    · rw [List.takeWhile_cons_of_neg h]
      rfl
theorem while_le {p : Nat → Bool} (s : List Nat) : (s.takeWhile p).length ≤ s.length := by
  have h := congrArg List.length (take_while (p := p) s)
  rw [List.length_take] at h
  omega
theorem cut_sx {i e : Nat} (hi : i ≤ l.length) (he : e ≤ l.length) : cutS (sx l) (some (i : Int)) (some (e : Int)) = sx ((l.drop i).take (e - i)) := by
  unfold cutS
  rw [HT.sIx_nat, HT.sIx_nat]
  show Str.mk ((l.drop (min i l.length)).take (min e l.length - min i l.length)).toArray = _
  rw [Nat.min_eq_left hi, Nat.min_eq_left he]
  rfl
theorem sl_sx {i e : Nat} (hz : l.length ≤ sizeLine) (hi : i ≤ l.length) (he : e ≤ l.length) : slU (.str (sx l)) (some (i : Int)) (some (e : Int)) S = .ok (.str (sx ((l.drop i).take (e - i)))) S := by
  unfold slU
  simp only [len_sx, hz, if_true, cut_sx hi he]
theorem all_strs (ss : List Str) : (ss.map U.str).all flatU = true := by
  rw [List.all_eq_true]
  intro u hu
  obtain ⟨x, _, rfl⟩ := List.mem_map.mp hu
  rfl
theorem run_le {cs : Str} {i : Nat} (h : i ≤ l.length) : i + runL cs (l.drop i) ≤ l.length := by
  have q := while_le (p := fun c => decide (c ∈ cs.cps.toList)) (l.drop i)
  rw [List.length_drop] at q
  unfold runL
  omega
theorem run_cut {cs : Str} {i : Nat} : (l.drop i).take (i + runL cs (l.drop i) - i) = (l.drop i).takeWhile fun c => decide (c ∈ cs.cps.toList) := by
  rw [Nat.add_sub_cancel_left]
  exact take_while _
theorem sz3' : (3 ≤ sizeLine) = True := by decide
theorem sz2' : (2 ≤ sizeLine) = True := by decide
theorem name_at_eq {i : Nat} (hz : l.length ≤ 100000) (h : i ≤ l.length) : SimT ((pg.cal (d + 2)).call "name_at" [.str (sx l), .int i] S) (nameT (l.drop i) i) i S := by
  rw [call_eq (df := ⟨2, 4, false, T_name_at⟩) (by kernel_rfl), run_eq (by rfl)]
  unfold T_name_at
  have hs : l.length ≤ sizeLine := Nat.le_trans hz (by decide)
  have hw : i + runL "abcdefghijklmnopqrstuvwxyz0123456789_" (l.drop i) = i + ((l.drop i).takeWhile fun c => decide (c ∈ nmL)).length := rfl
  have hcut : (l.drop i).take (i + runL "abcdefghijklmnopqrstuvwxyz0123456789_" (l.drop i) - i) = (l.drop i).takeWhile fun c => decide (c ∈ nmL) := run_cut
  have hsw : ((l.drop i).takeWhile fun c => decide (c ∈ nmL)).length ≤ sizeLine := Nat.le_trans (Nat.le_trans (while_le _) (by rw [List.length_drop]; omega)) hs
  simp_arith [ev_g (g_names (d + 1)), run_end_eq (d := d) hz h, sl_sx hs h (run_le h), hcut, ev_g (g_words (d + 1))]
  rw [hw]
  unfold nameT
  generalize ((l.drop i).takeWhile fun c => decide (c ∈ nmL)) = w at hsw ⊢
  simp_arith [c_in_tup (a := .str (sx w)) rfl (all_strs wordsS)]
  by_cases hb : ((wordsS.map U.str).any fun y => Oz.eqU y (.str (sx w))) = true
  · simp_arith [hb, sz2', sz3', List.length_cons, List.length_nil, Nat.zero_add, Nat.reduceAdd]
    rfl
  · simp only [Bool.not_eq_true] at hb
    have e20 : ((20 : Int) < (w.length : Int)) = (20 < w.length) := by simp only [eq_iff_iff]; omega
    simp_arith [hb, len_tx hsw, ev_g (g_mostn (d + 1)), e20]
    by_cases h2 : 20 < w.length
    · simp_arith [h2, decide_true, ex_raise (xf_mal (d + 1))]
      rfl
    · simp_arith [h2, decide_false, sz2', sz3', List.length_cons, List.length_nil, Nat.zero_add, Nat.reduceAdd]
      rfl
theorem int_text {x : Str} {v : Int} (h : PySem.intText? x = some v) (hl : x.length ≤ 640) : bfU .int [.str x] S = .ok (.int v) S := by
  unfold bfU intF
  simp only [h, hl, if_true]
theorem number_at_eq {i : Nat} (hz : l.length ≤ 100000) (h : i < l.length) (hd : ∃ c, l[i]? = some c ∧ c ∈ dgL) : SimT ((pg.cal (d + 2)).call "number_at" [.str (sx l), .int i] S) (numT (l.drop i) i) i S := by
  rw [call_eq (df := ⟨2, 4, false, T_number_at⟩) (by kernel_rfl), run_eq (by rfl)]
  unfold T_number_at
  have hs : l.length ≤ sizeLine := Nat.le_trans hz (by decide)
  have hw : i + runL "0123456789" (l.drop i) = i + ((l.drop i).takeWhile fun c => decide (c ∈ dgL)).length := rfl
  have hcut : (l.drop i).take (i + runL "0123456789" (l.drop i) - i) = (l.drop i).takeWhile fun c => decide (c ∈ dgL) := run_cut
  have hsw : ((l.drop i).takeWhile fun c => decide (c ∈ dgL)).length ≤ sizeLine := Nat.le_trans (Nat.le_trans (while_le _) (by rw [List.length_drop]; omega)) hs
  have hle : i + ((l.drop i).takeWhile fun c => decide (c ∈ dgL)).length ≤ l.length := run_le (cs := "0123456789") (Nat.le_of_lt h)
  obtain ⟨c0, hc0, hc1⟩ := hd
  have hne : ((l.drop i).takeWhile fun c => decide (c ∈ dgL))[0]? = some c0 := by
    have hg : l.drop i = c0 :: l.drop (i + 1) := by rw [List.drop_eq_getElem_cons h, (List.getElem?_eq_some_iff.mp hc0).2]
    rw [hg, List.takeWhile_cons_of_pos (by simpa using hc1)]
    rfl
  simp_arith [ev_g (g_digits (d + 1)), run_end_eq (d := d) hz (Nat.le_of_lt h), sl_sx hs (Nat.le_of_lt h) (run_le (Nat.le_of_lt h)), hcut]
  rw [hw]
  unfold numT numT1
  have hg : ∀ k, (l.drop i)[k]? = l[i + k]? := fun k => by rw [List.getElem?_drop]
  generalize ((l.drop i).takeWhile fun c => decide (c ∈ dgL)) = w at hsw hle hne ⊢
  have e10 : ((10 : Int) < (w.length : Int)) = (10 < w.length) := by simp only [eq_iff_iff]; omega
  simp_arith [len_tx hsw, ev_g (g_mostd (d + 1)), e10]
  by_cases h10 : 10 < w.length
  · simp_arith [h10, decide_true, ex_raise (xf_mal (d + 1))]
    rfl
  · simp_arith [h10, decide_false]
    cases hv : PySem.intText? (sx w) with
    | none => exact trivial
    | some v =>
      simp_arith [int_text hv (Nat.le_trans (Nat.not_lt.mp h10) (by decide)), ev_g (g_end (d + 1))]
      by_cases hb : 2147483648 ≤ v
      · simp_arith [hb, decide_true, ex_raise (xf_mal (d + 1))]
        rfl
      · have hz0 : ixU (.str (sx w)) (.int 0) S = .ok (.str ⟨#[c0]⟩) S := ix_sx (i := 0) hsw hne
        simp_arith [hb, decide_false, hz0, hne, Option.some.injEq]
        have k1 : ((1 : Int) < (w.length : Int)) = (1 < w.length) := by simp only [eq_iff_iff]; omega
        have k2 : ((⟨#[c0]⟩ : Str) = "0") = (c0 = 48) := by
          have e0 : ("0" : Str) = ⟨#[48]⟩ := by decide +kernel
          rw [e0]
          simp
        simp_arith [k1, k2, len_tx hsw]
        by_cases hz1 : c0 = 48 ∧ 1 < w.length
        · simp_arith [hz1.1, hz1.2, decide_true, ex_raise (xf_mal (d + 1)), and_self]
          rfl
        · have hz2 : (if c0 = 48 then R.ok (decide (1 < w.length)) S else R.ok false S) = R.ok false S := by
            by_cases q1 : c0 = 48
            · have q2 : ¬ 1 < w.length := fun z => hz1 ⟨q1, z⟩
              simp [q1, q2]
            · simp [q1]
          rw [hz2, if_neg hz1]
          have k3 : (((i + w.length : Nat) : Int) < (l.length : Int)) = (i + w.length < l.length) := by simp only [eq_iff_iff]; omega
          simp_arith [len_tx hs, k3]
          unfold numT2
          rw [hg]
          by_cases he : i + w.length < l.length
          · have hge : l[i + w.length]? = some l[i + w.length] := List.getElem?_eq_getElem he
            simp_arith [he, decide_true, ix_sx hs hge, in_sx, ev_g (g_names (d + 1)), hge]
            by_cases hn : l[i + w.length] ∈ nmL
            · have hn' : l[i + w.length] ∈ (("abcdefghijklmnopqrstuvwxyz0123456789_" : Str)).cps.toList := hn
              simp_arith [hn, hn', decide_true, ex_raise (xf_mal (d + 1))]
              rfl
            · have hn' : ¬ l[i + w.length] ∈ (("abcdefghijklmnopqrstuvwxyz0123456789_" : Str)).cps.toList := hn
              simp_arith [hn, hn', decide_false, int_text hv (Nat.le_trans (Nat.not_lt.mp h10) (by decide)), sz2', sz3', List.length_cons, List.length_nil, Nat.zero_add, Nat.reduceAdd]
              rfl
          · have hge : l[i + w.length]? = none := List.getElem?_eq_none (by omega)
            simp_arith [he, decide_false, hge, int_text hv (Nat.le_trans (Nat.not_lt.mp h10) (by decide)), sz2', sz3', List.length_cons, List.length_nil, Nat.zero_add, Nat.reduceAdd]
            rfl
/-! ### signs -/
theorem starts_sx {i : Nat} (h : i ≤ l.length) (g : Str) : PySem.Txt.startswith3 (sx l) g (i : Int) = g.cps.toList.isPrefixOf (l.drop i) := by
  unfold PySem.Txt.startswith3
  have e : PySem.fromIndex (sx l).length (i : Int) = i := by
    unfold PySem.fromIndex
    rw [if_neg (by omega)]
    omega
  rw [e]
  unfold PySem.Builtin.Str.subAt
  rw [Bool.eq_iff_iff, List.isPrefixOf_iff_prefix, Bool.and_eq_true, decide_eq_true_iff, beq_iff_eq]
  have hg : g.length = g.cps.toList.length := rfl
  have ex : (sx l).cps.extract i (i + g.length) = g.cps ↔ (l.drop i).take g.length = g.cps.toList := by
    rw [← Array.toList_inj, Array.toList_extract]
    show (l.drop i).take (i + g.length - i) = _ ↔ _
    rw [Nat.add_sub_cancel_left]
  rw [ex, List.prefix_iff_eq_take, len_sx, ← hg]
  constructor
  · exact fun z => z.2.symm
  · intro z
    refine ⟨?_, z.symm⟩
    have q := congrArg List.length z
    rw [List.length_take, List.length_drop, ← hg] at q
    omega
def signB : Sts := .cons (.if_ (.e (.bm .startswith3 (.v 0) (.cons (.v 2) (.cons (.v 1) .nil)))) (.cons (.ret (.tup (.cons (.tup (.cons (.k (.str "sign")) (.cons (.v 2) (.cons (.v 1) .nil)))) (.cons (.bin .add (.v 1) (.bf .len (.cons (.v 2) .nil))) .nil)))) .nil) .nil) .nil
theorem sign_loop {i : Nat} (hs : l.length ≤ sizeLine) (h : i ≤ l.length) {Φ : Cal} : ∀ (gs all : List Str) (y : Option U), (∀ g ∈ gs, g.length ≤ sizeLine) →
    match gs.find? (fun g => g.cps.toList.isPrefixOf (l.drop i)) with
      | some g => forI false [2] (fun env S => exs Φ signB env S) (all.map U.str) none (gs.map U.str) [some (.str (sx l)), some (.int i), y] S = .ret (.tup [(Tk.mk "sign" (.str g) i).u, .int ((i + g.length : Nat) : Int)]) S
      | none => ∃ y', forI false [2] (fun env S => exs Φ signB env S) (all.map U.str) none (gs.map U.str) [some (.str (sx l)), some (.int i), y] S = .nx [some (.str (sx l)), some (.int i), y'] S
  | [], all, y, hg => ⟨y, rfl⟩
  | g :: gs, all, y, hg => by
    have hb : bmU .startswith3 (.str (sx l)) [.str g, .int i] S = .ok (.bl (g.cps.toList.isPrefixOf (l.drop i))) S := by
      show R.ok (U.bl (PySem.Txt.startswith3 (sx l) g (i : Int))) S = _
      rw [starts_sx h]
    have e1 : (i : Int) + (g.length : Int) = ((i + g.length : Nat) : Int) := by omega
    have step : forI false [2] (fun env S => exs Φ signB env S) (all.map U.str) none (U.str g :: gs.map U.str) [some (.str (sx l)), some (.int i), y] S =
        (exs Φ signB [some (.str (sx l)), some (.int i), some (.str g)] S).turn fun env S => forI false [2] (fun env S => exs Φ signB env S) (all.map U.str) none (gs.map U.str) env S := rfl
    rw [List.find?_cons, List.map_cons, step]
    have body : exs Φ signB [some (.str (sx l)), some (.int i), some (.str g)] S = if g.cps.toList.isPrefixOf (l.drop i) = true then .ret (.tup [(Tk.mk "sign" (.str g) i).u, .int ((i + g.length : Nat) : Int)]) S else .nx [some (.str (sx l)), some (.int i), some (.str g)] S := by
      unfold signB
      simp_arith [show tyB .startswith3 (.str (sx l)) S = true from rfl, hb]
      cases hp : g.cps.toList.isPrefixOf (l.drop i) with
      | true =>
        simp_arith [len_str (hg g List.mem_cons_self), sz2', sz3', List.length_cons, List.length_nil, Nat.zero_add, Nat.reduceAdd, e1]
        rfl
      | false => simp_arith [true_and]
    rw [body]
    cases hp : g.cps.toList.isPrefixOf (l.drop i) with
    | true => rfl
    | false => exact sign_loop hs h gs all (some (.str g)) (fun g hg' => hg g (List.mem_cons_of_mem _ hg'))
theorem signs_len : ∀ g ∈ signsS, g.length ≤ sizeLine := by
  have h : ∀ g ∈ signsS, g.length ≤ 10 := by decide +kernel
  exact fun g hg => Nat.le_trans (h g hg) (by decide)
theorem sign_at_eq {i : Nat} (hz : l.length ≤ 100000) (h : i ≤ l.length) : SimT ((pg.cal (d + 2)).call "sign_at" [.str (sx l), .int i] S) (sigT (l.drop i) i) i S := by
  rw [call_eq (df := ⟨2, 3, false, T_sign_at⟩) (by kernel_rfl), run_eq (by rfl)]
  have hT : T_sign_at = .cons (.for_ false [2] (.g "SIGNS") signB) (.cons (.raise "Malformed" (.v 1)) .nil) := rfl
  rw [hT]
  have hs : l.length ≤ sizeLine := Nat.le_trans hz (by decide)
  have q := sign_loop (S := S) hs h (Φ := pg.cal (d + 1)) signsS signsS none signs_len
  simp_arith [ev_g (g_signs (d + 1)), iterU]
  unfold sigT
  revert q
  cases signsS.find? (fun g => g.cps.toList.isPrefixOf (l.drop i)) with
  | some g =>
    intro q
    dsimp only at q
    rw [q]
    rfl
  | none =>
    rintro ⟨y', q⟩
    rw [q]
    simp_arith [ex_raise (xf_mal (d + 1))]
    rfl
theorem token_at_eq {i : Nat} (hz : l.length ≤ 100000) (h : i < l.length) : SimT ((pg.cal (d + 3)).call "token_at" [.str (sx l), .int i] S) (tokT (l.drop i) i) i S := by
  rw [call_eq (df := ⟨2, 2, false, T_token_at⟩) (by kernel_rfl), run_eq (by rfl)]
  unfold T_token_at
  have hs : l.length ≤ sizeLine := Nat.le_trans hz (by decide)
  have hg : l[i]? = some l[i] := List.getElem?_eq_getElem h
  have hd : l.drop i = l[i] :: l.drop (i + 1) := List.drop_eq_getElem_cons h
  simp_arith [ix_sx hs hg, ev_g (g_letters (d + 2)), ev_g (g_digits (d + 2)), in_sx, on_then, on_fin, bind_on, bind_bind, bind_id]
  unfold tokT
  rw [hd]
  dsimp only
  rw [← hd]
  by_cases h1 : l[i] ∈ ltL
  · have h1' : l[i] ∈ (("abcdefghijklmnopqrstuvwxyz" : Str)).cps.toList := h1
    rw [if_pos h1]
    have q := name_at_eq (S := S) (d := d) hz (Nat.le_of_lt h)
    simp_arith [h1', decide_true, on_then, on_fin, bind_on, bind_bind, bind_id]
    exact q
  · have h1' : ¬ l[i] ∈ (("abcdefghijklmnopqrstuvwxyz" : Str)).cps.toList := h1
    rw [if_neg h1]
    by_cases h2 : l[i] ∈ dgL
    · have h2' : l[i] ∈ (("0123456789" : Str)).cps.toList := h2
      rw [if_pos h2]
      have q := number_at_eq (S := S) (d := d) hz h ⟨_, hg, h2⟩
      simp_arith [h1', h2', decide_true, decide_false, ix_sx hs hg, ev_g (g_digits (d + 2)), in_sx, on_then, on_fin, bind_on, bind_bind, bind_id]
      exact q
    · have h2' : ¬ l[i] ∈ (("0123456789" : Str)).cps.toList := h2
      rw [if_neg h2]
      have q := sign_at_eq (S := S) (d := d) hz (Nat.le_of_lt h)
      simp_arith [h1', h2', decide_false, ix_sx hs hg, ev_g (g_digits (d + 2)), in_sx, on_then, on_fin, bind_on, bind_bind, bind_id]
      exact q
/-! ### the whole text -/
inductive Tz where
  | ok (ts : List Tk) | mal (a : Nat) | no
def Tz.push (t : Tk) : Tz → Tz
  | .ok ts => .ok (t :: ts)
  | x => x
/-- the tokens of what is left, it stands at i -/
def tz : Nat → List Nat → Nat → Tz
  | 0, _, _ => .no
  | _ + 1, [], _ => .ok []
  | k + 1, c :: s, i => if c ∈ spL then tz k s (i + 1) else match tokT (c :: s) i with
    | .ok t w => (tz k ((c :: s).drop w) (i + w)).push t
    | .mal => .mal i
    | .no => .no
theorem find_ok {s : List Nat} {g : Str} (h : signsS.find? (fun g => g.cps.toList.isPrefixOf s) = some g) : 1 ≤ g.length ∧ g.length ≤ s.length := by
  have h1 := List.find?_some h
  have h2 := List.mem_of_find?_eq_some h
  have h3 : ∀ g ∈ signsS, 1 ≤ g.length := by decide +kernel
  exact ⟨h3 g h2, (List.isPrefixOf_iff_prefix.mp h1).length_le⟩
theorem lt_nm {c : Nat} (h : c ∈ ltL) : c ∈ nmL := by
  have h0 : ∀ c ∈ ltL, c ∈ nmL := by decide +kernel
  exact h0 c h
theorem while_pos {p : Nat → Bool} {c : Nat} {s : List Nat} (h : p c = true) : 1 ≤ ((c :: s).takeWhile p).length := by
  rw [List.takeWhile_cons_of_pos h, List.length_cons]
  omega
theorem tokT_w {s : List Nat} {i w : Nat} {t : Tk} (h : tokT s i = .ok t w) : 1 ≤ w ∧ w ≤ s.length := by
  unfold tokT at h
  split at h
  · cases h
  · rename_i c s
    split at h
    · rename_i hc
      unfold nameT at h
      have h1 := while_pos (p := fun c => decide (c ∈ nmL)) (s := s) (show decide (c ∈ nmL) = true from decide_eq_true (lt_nm hc))
      have h2 := while_le (p := fun c => decide (c ∈ nmL)) (c :: s)
      split at h
      · cases h
        exact ⟨h1, h2⟩
      · split at h
        · cases h
        · cases h
          exact ⟨h1, h2⟩
    · split at h
      · rename_i hc
        unfold numT numT1 numT2 at h
        have h1 := while_pos (p := fun c => decide (c ∈ dgL)) (s := s) (show decide (c ∈ dgL) = true from decide_eq_true hc)
        have h2 := while_le (p := fun c => decide (c ∈ dgL)) (c :: s)
        split at h
        · cases h
        · split at h
          · cases h
          · split at h
            · cases h
            · split at h
              · cases h
              · split at h
                · split at h
                  · cases h
                  · cases h
                    exact ⟨h1, h2⟩
                · cases h
                  exact ⟨h1, h2⟩
      · unfold sigT at h
        split at h
        · rename_i g hg
          cases h
          exact find_ok hg
        · cases h
theorem then_id {o : O} : (o.then_ fun env S => .nx env S) = o := by cases o <;> rfl
def tokC : T := .e (.cmp .lt (.v 2) (.bf .len (.cons (.v 0) .nil)))
def tokB : Sts := .cons (.if_ (.e (.cmp .in_ (.ix (.v 0) (.v 2)) (.g "SEPARATORS"))) (.cons (.aug 2 .add (.k (.int 1))) .nil) (.cons (.set true [3, 2] (.call "token_at" (.cons (.v 0) (.cons (.v 2) .nil)))) (.cons (.ex (.bm .append (.v 1) (.cons (.v 3) .nil))) .nil))) .nil
theorem tok_loop (hz : l.length ≤ 100000) : ∀ (k N i q : Nat) (acc : List Tk) (y : Option U) (S : Sto), k ≤ N → S[q]? = some (.lst (acc.map Tk.u)) → i ≤ l.length → acc.length ≤ i →
    match tz k (l.drop i) i with
      | .ok ts => ∃ i' y', loopI (fun env S => evt (pg.cal (d + 3)) tokC env S) (fun env S => exs (pg.cal (d + 3)) tokB env S) N [some (.str (sx l)), some (.loc q), some (.int i), y] S = .nx [some (.str (sx l)), some (.loc q), i', y'] (S.set q (.lst ((acc ++ ts).map Tk.u)))
      | .mal a => ∃ ts', loopI (fun env S => evt (pg.cal (d + 3)) tokC env S) (fun env S => exs (pg.cal (d + 3)) tokB env S) N [some (.str (sx l)), some (.loc q), some (.int i), y] S = .exc "Malformed" [("at", .int a)] (S.set q (.lst ts'))
      | .no => True
  | 0, _, _, _, _, _, _, _, _, _, _ => trivial
  | k + 1, N, i, q, acc, y, S, hk, hS, hi, ha => by
    obtain ⟨N, rfl⟩ : ∃ N', N = N' + 1 := ⟨N - 1, by omega⟩
    have hs : l.length ≤ sizeLine := Nat.le_trans hz (by decide)
    have hc : evt (pg.cal (d + 3)) tokC [some (.str (sx l)), some (.loc q), some (.int i), y] S = .ok (decide (i < l.length)) S := by
      unfold tokC
      simp_arith [len_tx hs]
      have e : ((i : Int) < (l.length : Int)) = (i < l.length) := by simp only [eq_iff_iff]; omega
      rw [show decide ((i : Int) < (l.length : Int)) = decide (i < l.length) from by rw [decide_eq_decide, e]]
    have step : loopI (fun env S => evt (pg.cal (d + 3)) tokC env S) (fun env S => exs (pg.cal (d + 3)) tokB env S) (N + 1) [some (.str (sx l)), some (.loc q), some (.int i), y] S =
      (evt (pg.cal (d + 3)) tokC [some (.str (sx l)), some (.loc q), some (.int i), y] S).on fun b S => if b = true then (exs (pg.cal (d + 3)) tokB [some (.str (sx l)), some (.loc q), some (.int i), y] S).turn fun env S => loopI (fun env S => evt (pg.cal (d + 3)) tokC env S) (fun env S => exs (pg.cal (d + 3)) tokB env S) N env S else .nx [some (.str (sx l)), some (.loc q), some (.int i), y] S := rfl
    rw [step, hc, on_ok]
    by_cases h : i < l.length
    · have hg : l[i]? = some l[i] := List.getElem?_eq_getElem h
      have hd : l.drop i = l[i] :: l.drop (i + 1) := List.drop_eq_getElem_cons h
      rw [hd]
      unfold tz
      rw [← hd, if_pos (decide_eq_true h)]
      by_cases h1 : l[i] ∈ spL
      · rw [if_pos h1]
        have h1' : l[i] ∈ ((" \n" : Str)).cps.toList := h1
        have e1 : ((i : Int) + 1) = ((i + 1 : Nat) : Int) := by omega
        have body : exs (pg.cal (d + 3)) tokB [some (.str (sx l)), some (.loc q), some (.int i), y] S = .nx [some (.str (sx l)), some (.loc q), some (.int ((i + 1 : Nat) : Int)), y] S := by
          unfold tokB
          simp_arith [ix_sx hs hg, ev_g (g_seps (d + 3)), in_sx, h1', decide_true, e1]
        rw [body, turn_nx]
        exact tok_loop hz k N (i + 1) q acc y S (by omega) hS (by omega) (by omega)
      · rw [if_neg h1]
        have h1' : ¬ l[i] ∈ ((" \n" : Str)).cps.toList := h1
        have tk := token_at_eq (S := S) (d := d) hz h
        have body0 : exs (pg.cal (d + 3)) tokB [some (.str (sx l)), some (.loc q), some (.int i), y] S = (((pg.cal (d + 3)).call "token_at" [.str (sx l), .int i] S).on fun u S => (match setN true [3, 2] u [some (.str (sx l)), some (.loc q), some (.int i), y] with | some env => .nx env S | none => .bad)).then_ fun env S => exs (pg.cal (d + 3)) (.cons (.ex (.bm .append (.v 1) (.cons (.v 3) .nil))) .nil) env S := by
          unfold tokB
          simp_arith [ix_sx hs hg, ev_g (g_seps (d + 3)), in_sx, h1', decide_false]
          first | (simp only [then_id]; done) | (simp only [then_id]; rfl)
        rw [body0]
        revert tk
        cases ht : tokT (l.drop i) i with
        | ok t w =>
          intro tk
          have tk : _ = _ := tk
          rw [tk]
          obtain ⟨w1, w2⟩ := tokT_w ht
          rw [List.length_drop] at w2
          have hq : q < S.length := (List.getElem?_eq_some_iff.mp hS).1
          have hap : bmU .append (.loc q) [t.u] S = .ok .non (S.set q (.lst ((acc ++ [t]).map Tk.u))) := by
            show appendF (.loc q) [t.u] S = _
            unfold appendF
            simp only [hS]
            rw [if_pos (by rw [List.length_map]; exact Nat.lt_of_le_of_lt (Nat.le_trans ha (Nat.le_trans hi hz)) (by decide)), List.map_append]
            rfl
          have hty : tyB .append (.loc q) S = true := by
            show (list? S (.loc q)).isSome = true
            unfold list?
            simp only [hS, Option.isSome_some]
          have ih := tok_loop hz k N (i + w) q (acc ++ [t]) (some t.u) (S.set q (.lst ((acc ++ [t]).map Tk.u))) (by omega) (by rw [List.getElem?_set_self hq]) (by omega) (by rw [List.length_append]; simp; omega)
          have e2 : (((exs (pg.cal (d + 3)) (.cons (.ex (.bm .append (.v 1) (.cons (.v 3) .nil))) .nil) [some (.str (sx l)), some (.loc q), some (.int ((i + w : Nat) : Int)), some t.u] S))) = .nx [some (.str (sx l)), some (.loc q), some (.int ((i + w : Nat) : Int)), some t.u] (S.set q (.lst ((acc ++ [t]).map Tk.u))) := by
            simp_arith [hty, hap]
          have e3 : ∀ G : Oz.Env → Sto → O, (((R.ok (U.tup [t.u, .int ((i + w : Nat) : Int)]) S).on fun u S => (match setN true [3, 2] u [some (.str (sx l)), some (.loc q), some (.int i), y] with | some env => O.nx env S | none => .bad)).then_ fun env S => exs (pg.cal (d + 3)) (.cons (.ex (.bm .append (.v 1) (.cons (.v 3) .nil))) .nil) env S).turn G = G [some (.str (sx l)), some (.loc q), some (.int ((i + w : Nat) : Int)), some t.u] (S.set q (.lst ((acc ++ [t]).map Tk.u))) := fun G => by
            show (exs (pg.cal (d + 3)) (.cons (.ex (.bm .append (.v 1) (.cons (.v 3) .nil))) .nil) [some (.str (sx l)), some (.loc q), some (.int ((i + w : Nat) : Int)), some t.u] S).turn G = _
            rw [e2]
            rfl
          rw [e3]
          dsimp only
          rw [List.drop_drop]
          revert ih
          simp only [List.set_set]
          cases tz k (l.drop (i + w)) (i + w) with
          | ok ts =>
            simp only [Tz.push]
            rintro ⟨i', y', e⟩
            exact ⟨i', y', by rw [e, List.append_assoc]; rfl⟩
          | mal a =>
            simp only [Tz.push]
            rintro ⟨ts', e⟩
            exact ⟨ts', e⟩
          | no => exact fun _ => trivial
        | mal =>
          intro tk
          have tk : _ = _ := tk
          rw [tk]
          exact ⟨acc.map Tk.u, by rw [set_same hS]; rfl⟩
        | no => exact fun _ => trivial
    · rw [if_neg (by rw [decide_eq_false h]; exact Bool.false_ne_true)]
      have e : l.drop i = [] := List.drop_eq_nil_of_le (by omega)
      rw [e]
      unfold tz
      refine ⟨some (.int i), y, ?_⟩
      rw [List.append_nil, set_same hS]
/-- the tokens of a text, what is refused -/
def tkz (l : List Nat) : Tz := tz (l.length + 1) l 0
theorem tokenize_eq (hz : l.length ≤ 100000) : (10000 < l.length → (pg.cal (d + 4)).call "tokenize" [.str (sx l)] S = .exc "Unbounded" [("name", .str "text")] S) ∧ (l.length ≤ 10000 → match tkz l with
    | .ok ts => (pg.cal (d + 4)).call "tokenize" [.str (sx l)] S = .ok (.loc S.length) (S ++ [.lst (ts.map Tk.u)])
    | .mal a => ∃ ts', (pg.cal (d + 4)).call "tokenize" [.str (sx l)] S = .exc "Malformed" [("at", .int a)] (S ++ [.lst ts'])
    | .no => True) := by
  have hT : T_tokenize = .cons (.if_ (.e (.cmp .gt (.bf .len (.cons (.v 0) .nil)) (.g "MOST_CHARACTERS"))) (.cons (.raise "Unbounded" (.k (.str "text"))) .nil) .nil) (.cons (.set false [1] (.lst .nil)) (.cons (.set false [2] (.k (.int 0))) (.cons (.while_ tokC tokB) (.cons (.ret (.v 1)) .nil)))) := rfl
  have hs : l.length ≤ sizeLine := Nat.le_trans hz (by decide)
  have e1 : ((10000 : Int) < (l.length : Int)) = (10000 < l.length) := by simp only [eq_iff_iff]; omega
  refine ⟨fun h => ?_, fun h => ?_⟩
  · rw [call_eq (df := ⟨1, 4, false, T_tokenize⟩) (by kernel_rfl), run_eq (by rfl), hT]
    simp_arith [len_tx hs, ev_g (g_mostc (d + 3)), e1, h, decide_true, ex_raise (xf_unb (d + 3))]
  · have e2 : (pg.cal (d + 4)).call "tokenize" [.str (sx l)] S = ((loopI (fun env S => evt (pg.cal (d + 3)) tokC env S) (fun env S => exs (pg.cal (d + 3)) tokB env S) fuel [some (.str (sx l)), some (.loc S.length), some (.int (0 : Nat)), none] (S ++ [.lst []])).then_ fun env S => exs (pg.cal (d + 3)) (.cons (.ret (.v 1)) .nil) env S).fin := by
      rw [call_eq (df := ⟨1, 4, false, T_tokenize⟩) (by kernel_rfl), run_eq (by rfl), hT]
      have h' : ¬ 10000 < l.length := by omega
      simp only [exs_cons, ex_if, ex_set, ex_while]
      simp_arith [len_tx hs, ev_g (g_mostc (d + 3)), e1, h', decide_false, List.length_nil, Nat.zero_le]
      rfl
    have q := tok_loop (d := d) hz (l.length + 1) fuel 0 S.length [] none (S ++ [.lst []]) (Nat.le_trans (Nat.succ_le_succ hz) (by decide)) last_get (Nat.zero_le _) (Nat.zero_le _)
    rw [e2]
    unfold tkz
    revert q
    rw [List.drop_zero]
    cases tz (l.length + 1) l 0 with
    | ok ts =>
      rintro ⟨i', y', e⟩
      dsimp only
      rw [e, last_set]
      rfl
    | mal a =>
      rintro ⟨ts', e⟩
      refine ⟨ts', ?_⟩
      rw [e, last_set]
      rfl
    | no => exact fun _ => trivial
end Pr

end

section
set_option maxHeartbeats 4000000
namespace Pr
open PySem L2 Oz
variable {S S' : Sto} {n m i d : Nat} {o : Int} {l : List Nat} {ts : List Tk}
/-! ### tokens hold flat values -/
theorem tokT_flat {s : List Nat} {i w : Nat} {t : Tk} (h : tokT s i = .ok t w) : flatU t.v = true := by
  unfold tokT at h
  split at h
  · cases h
  · split at h
    · unfold nameT at h
      split at h
      · cases h; rfl
      · split at h
        · cases h
        · cases h; rfl
    · split at h
      · unfold numT numT1 numT2 at h
        split at h
        · cases h
        · split at h
          · cases h
          · split at h
            · cases h
            · split at h
              · cases h
              · split at h
                · split at h
                  · cases h
                  · cases h; rfl
                · cases h; rfl
      · unfold sigT at h
        split at h
        · cases h; rfl
        · cases h
theorem tz_flat : ∀ {k : Nat} {s : List Nat} {i : Nat} {ts : List Tk}, tz k s i = .ok ts → Flat ts
  | 0, _, _, _, h => by cases h
  | k + 1, [], _, _, h => by
    cases h
    exact fun t ht => by cases ht
  | k + 1, c :: s, i, ts, h => by
    unfold tz at h
    split at h
    · exact tz_flat h
    · split at h
      · rename_i t w ht
        cases q : tz k ((c :: s).drop w) (i + w) with
        | ok ts' =>
          rw [q] at h
          cases h
          intro u hu
          rcases List.mem_cons.mp hu with rfl | hu
          · exact tokT_flat ht
          · exact tz_flat q u hu
        | mal a => rw [q] at h; cases h
        | no => rw [q] at h; cases h
      · cases h
      · cases h
def endT (l : List Nat) : Tk := ⟨"end", .str "", l.length⟩
/-- old cells stay -/
def Gr (S S' : Sto) : Prop := S.length ≤ S'.length ∧ ∀ k, k < S.length → S'[k]? = S[k]?
theorem Gr.refl : Gr S S := ⟨Nat.le_refl _, fun _ _ => rfl⟩
theorem Gr.trans {S S' S'' : Sto} (a : Gr S S') (b : Gr S' S'') : Gr S S'' := ⟨Nat.le_trans a.1 b.1, fun k h => (b.2 k (Nat.lt_of_lt_of_le h a.1)).trans (a.2 k h)⟩
theorem Gr.push {c : Cel} : Gr S (S ++ [c]) := ⟨by simp, fun k h => List.getElem?_append_left h⟩
theorem Gr.of_fr {c : Cel} (f : Fr (S ++ [c]) S' S.length) : Gr S S' := ⟨Nat.le_trans (by simp) f.1, fun k h => by rw [f.2 k (by simp; omega) (by omega), List.getElem?_append_left h]⟩
theorem Gr.set_new {c c' : Cel} {k : Nat} (h : S.length ≤ k) {S1 : Sto} (g : Gr S S1) : Gr S (S1.set k c) := ⟨by simp; exact g.1, fun j hj => by rw [List.getElem?_set_ne (by omega)]; exact g.2 j hj⟩
theorem st_0 {x y : Cel} : (S ++ [x, y])[S.length]? = some x := by simp
theorem st_1 {x y : Cel} : (S ++ [x, y])[S.length + 1]? = some y := by simp
theorem st_s0 {x y z : Cel} : (S ++ [x, y]).set S.length z = S ++ [z, y] := by simp
theorem st_s1 {x y z : Cel} : (S ++ [x, y]).set (S.length + 1) z = S ++ [x, z] := by simp
theorem st_f {fs : List (Str × U)} {y : Cel} {f : Str} {u : U} (h : fs.length < 900) : setFldU (.loc S.length) "Reader" f u (S ++ [.ins "Reader" fs, y]) = .ok () (S ++ [.ins "Reader" (putU f u fs), y]) := by
  unfold setFldU
  simp only [st_0, h, and_self, if_true, st_s0]
theorem st_ap {x : Cel} {us : List U} {u : U} (h : us.length < sizeLine) : bmU .append (.loc (S.length + 1)) [u] (S ++ [x, .lst us]) = .ok .non (S ++ [x, .lst (us ++ [u])]) := by
  show appendF (.loc (S.length + 1)) [u] _ = _
  unfold appendF
  simp only [st_1, h, if_true, st_s1]
theorem st_ty {x : Cel} {us : List U} : tyB .append (.loc (S.length + 1)) (S ++ [x, .lst us]) = true := by
  show (list? _ (.loc (S.length + 1))).isSome = true
  unfold list?
  simp only [st_1, Option.isSome_some]
theorem pu1 {u : U} : putU "tokens" u [] = [(("tokens" : Str), u)] := rfl
theorem pu2 {u v : U} : putU "done" v [(("tokens" : Str), u)] = [(("tokens" : Str), u), ("done", v)] := rfl
theorem pu3 {u v w : U} : putU "opened" w [(("tokens" : Str), u), ("done", v)] = [(("tokens" : Str), u), ("done", v), ("opened", w)] := rfl
theorem lk1 {u : U} : List.lookup ("tokens" : Str) [(("tokens" : Str), u)] = some u := rfl
theorem tz_len : ∀ {k : Nat} {s : List Nat} {i : Nat} {ts : List Tk}, tz k s i = .ok ts → ts.length ≤ s.length
  | 0, _, _, _, h => by cases h
  | k + 1, [], _, _, h => by
    cases h
    exact Nat.le_refl _
  | k + 1, c :: s, i, ts, h => by
    unfold tz at h
    split at h
    · exact Nat.le_succ_of_le (tz_len h)
    · split at h
      · rename_i t w ht
        cases q : tz k ((c :: s).drop w) (i + w) with
        | ok ts' =>
          rw [q] at h
          cases h
          have h1 := tz_len q
          have h2 := (tokT_w ht).1
          rw [List.length_drop] at h1
          simp only [List.length_cons] at h1 ⊢
          omega
        | mal a => rw [q] at h; cases h
        | no => rw [q] at h; cases h
      · cases h
      · cases h
theorem init_eq (hl : l.length ≤ 10000) : match tkz l with
    | .ok ts => ∃ S', (pg.cal (d + 5)).call "Reader.__init__" [.loc S.length, .str (sx l)] (S ++ [.ins "Reader" []]) = .ok .non S' ∧ Rd S' S.length (ts ++ [endT l]) 0 0 (S.length + 1) ∧ Gr S S'
    | .mal a => ∃ S', (pg.cal (d + 5)).call "Reader.__init__" [.loc S.length, .str (sx l)] (S ++ [.ins "Reader" []]) = .exc "Malformed" [("at", .int a)] S' ∧ Gr S S'
    | .no => True := by
  rw [call_eq (df := ⟨2, 2, false, T_Reader__init_⟩) (by kernel_rfl), run_eq (by rfl)]
  have hz : l.length ≤ 100000 := Nat.le_trans hl (by decide)
  have hs : l.length ≤ sizeLine := Nat.le_trans hz (by decide)
  unfold T_Reader__init_
  have q := (tokenize_eq (d := d) (S := S ++ [.ins "Reader" []]) hz).2 hl
  revert q
  cases hk : tkz l with
  | no => exact fun _ => trivial
  | mal a =>
    rintro ⟨ts', q⟩
    refine ⟨S ++ [.ins "Reader" []] ++ [.lst ts'], ?_, Gr.trans Gr.push Gr.push⟩
    simp_arith [q]
  | ok ts =>
    intro q
    dsimp only at q ⊢
    have hll : (ts.map Tk.u).length < sizeLine := by
      rw [List.length_map]
      exact Nat.lt_of_le_of_lt (Nat.le_trans (tz_len hk) hz) (by decide)
    have e0 : (S ++ [Cel.ins "Reader" []]).length = S.length + 1 := by simp
    have e1 : S ++ [Cel.ins "Reader" []] ++ [Cel.lst (ts.map Tk.u)] = S ++ [Cel.ins "Reader" [], Cel.lst (ts.map Tk.u)] := by simp
    rw [e0, e1] at q
    refine ⟨S ++ [rdr (S.length + 1) 0 0, .lst ((ts ++ [endT l]).map Tk.u)], ?_, ⟨st_0, st_1, by omega⟩, ⟨by simp, fun k h => List.getElem?_append_left h⟩⟩
    have z1 : [(("tokens" : Str), U.loc (S.length + 1))].length < 900 := by simp
    have z2 : [(("tokens" : Str), U.loc (S.length + 1)), ("done", U.int 0)].length < 900 := by simp
    have z0 : ([] : List (Str × U)).length < 900 := by simp
    simp_arith [q, st_f z0, pu1, st_0, lk1, st_ty, len_tx hs, sz3', List.length_cons, List.length_nil, Nat.zero_add, Nat.reduceAdd, st_ap hll, st_f z1, pu2, st_f z2, pu3]
    rw [List.map_append]
    rfl
/-! ### read, read_type -/
inductive Out where
  | good (u : U) | mal (a : Nat) | unbT | unbD | no
def outP (nm : Nm) (dd : Nat) (ts : List Tk) : Out := match mP dd nm ts 0 0 with
  | .ok a i _ => (match ts[i]? with | some t => if t.k = "end" then .good a.1 else .mal t.a | none => .no)
  | .mal a => .mal a
  | .unb => .unbD
  | .no => .no
def outL (nm : Nm) (dd : Nat) (l : List Nat) : Out := if 10000 < l.length then .unbT else match tkz l with
  | .ok ts => outP nm dd (ts ++ [endT l])
  | .mal a => .mal a
  | .no => .no
/-- what such a call gives -/
def SimO (r : R U) (x : Out) (S : Sto) : Prop := match x with
  | .good u => ∃ S', r = .ok u S' ∧ Gr S S'
  | .mal a => ∃ S', r = .exc "Malformed" [("at", .int a)] S' ∧ Gr S S'
  | .unbT => ∃ S', r = .exc "Unbounded" [("name", .str "text")] S' ∧ Gr S S'
  | .unbD => ∃ S', r = .exc "Unbounded" [("name", .str "depth")] S' ∧ Gr S S'
  | .no => True
theorem init_unb (hl : 10000 < l.length) (hz : l.length ≤ 100000) : (pg.cal (d + 5)).call "Reader.__init__" [.loc S.length, .str (sx l)] (S ++ [.ins "Reader" []]) = .exc "Unbounded" [("name", .str "text")] (S ++ [.ins "Reader" []]) := by
  rw [call_eq (df := ⟨2, 2, false, T_Reader__init_⟩) (by kernel_rfl), run_eq (by rfl)]
  unfold T_Reader__init_
  have q := (tokenize_eq (d := d) (S := S ++ [.ins "Reader" []]) hz).1 hl
  simp_arith [q]
theorem q_init : ("Reader" : Str) ++ ".__init__" = ("Reader.__init__" : Str) := by decide +kernel
theorem cal_init (p : Pg) (d : Nat) : (p.cal (d + 1)).init = (p.cal d).call := rfl
theorem gr_of (h : Gr S S') {S'' : Sto} (f : Fr S' S'' S.length) : Gr S S'' := ⟨Nat.le_trans h.1 f.1, fun k hk => (f.2 k (Nat.lt_of_lt_of_le hk h.1) (by omega)).trans (h.2 k hk)⟩
theorem read_eq (hz : l.length ≤ 100000) : SimO ((pg.cal (d + 7)).call "read" [.str (sx l)] S) (outL .expr (d + 6) l) S := by
  rw [call_eq (df := ⟨1, 4, false, T_read⟩) (by kernel_rfl), run_eq (by rfl)]
  unfold T_read outL
  simp_arith [q_init, cal_init]
  by_cases hl : 10000 < l.length
  · rw [if_pos hl]
    simp_arith [init_unb (d := d) hl hz]
    exact ⟨_, rfl, Gr.push⟩
  · rw [if_neg hl]
    have q := init_eq (d := d) (S := S) (Nat.not_lt.mp hl)
    revert q
    cases hk : tkz l with
    | no => exact fun _ => trivial
    | mal a =>
      rintro ⟨S', q, g⟩
      simp_arith [q]
      exact ⟨_, rfl, g⟩
    | ok ts =>
      rintro ⟨S1, q, h1, g1⟩
      dsimp only
      have hF : Flat (ts ++ [endT l]) := fun t ht => by
        rcases List.mem_append.mp ht with ht | ht
        · exact tz_flat hk t ht
        · rw [List.mem_singleton.mp ht]
          rfl
      have p := sim_all (d + 6) .expr S1 S.length (S.length + 1) 0 0 (ts ++ [endT l]) hF h1
      simp_arith [q, h1.r, n_read_expression, q_read_expression]
      unfold outP
      revert p
      show SimR pr ((pg.cal (d + 6)).call "Reader.read_expression" [.loc S.length] S1) _ _ _ _ _ → _
      cases mP (d + 6) .expr (ts ++ [endT l]) 0 0 with
      | no => exact fun _ => trivial
      | mal a =>
        rintro ⟨S2, e, f2⟩
        rw [e]
        simp_arith [true_and]
        exact ⟨S2, rfl, gr_of g1 f2⟩
      | unb =>
        rintro ⟨S2, e, f2⟩
        rw [e]
        simp_arith [true_and]
        exact ⟨S2, rfl, gr_of g1 f2⟩
      | ok a i o =>
        rintro ⟨S2, e, h2, f2⟩
        rw [e]
        dsimp only
        cases ht : (ts ++ [endT l])[i]? with
        | none => exact trivial
        | some t =>
          have fe := finish_eq (d := d + 4) h2 ht
          unfold pr
          simp_arith [setN, setAll, List.length_cons, List.length_nil, h2.r, n_finish, q_finish, fe]
          by_cases ke : t.k = "end"
          · simp_arith [ke]
            exact ⟨S2, rfl, gr_of g1 f2⟩
          · simp_arith [ke]
            exact ⟨S2, rfl, gr_of g1 f2⟩
theorem read_type_eq (hz : l.length ≤ 100000) : SimO ((pg.cal (d + 7)).call "read_type" [.str (sx l)] S) (outL .annot (d + 6) l) S := by
  rw [call_eq (df := ⟨1, 4, false, T_read_type⟩) (by kernel_rfl), run_eq (by rfl)]
  unfold T_read_type outL
  simp_arith [q_init, cal_init]
  by_cases hl : 10000 < l.length
  · rw [if_pos hl]
    simp_arith [init_unb (d := d) hl hz]
    exact ⟨_, rfl, Gr.push⟩
  · rw [if_neg hl]
    have q := init_eq (d := d) (S := S) (Nat.not_lt.mp hl)
    revert q
    cases hk : tkz l with
    | no => exact fun _ => trivial
    | mal a =>
      rintro ⟨S', q, g⟩
      simp_arith [q]
      exact ⟨_, rfl, g⟩
    | ok ts =>
      rintro ⟨S1, q, h1, g1⟩
      dsimp only
      have hF : Flat (ts ++ [endT l]) := fun t ht => by
        rcases List.mem_append.mp ht with ht | ht
        · exact tz_flat hk t ht
        · rw [List.mem_singleton.mp ht]
          rfl
      have p := sim_all (d + 6) .annot S1 S.length (S.length + 1) 0 0 (ts ++ [endT l]) hF h1
      simp_arith [q, h1.r, n_read_annotation, q_read_annotation]
      unfold outP
      revert p
      show SimR pr ((pg.cal (d + 6)).call "Reader.read_annotation" [.loc S.length] S1) _ _ _ _ _ → _
      cases mP (d + 6) .annot (ts ++ [endT l]) 0 0 with
      | no => exact fun _ => trivial
      | mal a =>
        rintro ⟨S2, e, f2⟩
        rw [e]
        simp_arith [true_and]
        exact ⟨S2, rfl, gr_of g1 f2⟩
      | unb =>
        rintro ⟨S2, e, f2⟩
        rw [e]
        simp_arith [true_and]
        exact ⟨S2, rfl, gr_of g1 f2⟩
      | ok a i o =>
        rintro ⟨S2, e, h2, f2⟩
        rw [e]
        dsimp only
        cases ht : (ts ++ [endT l])[i]? with
        | none => exact trivial
        | some t =>
          have fe := finish_eq (d := d + 4) h2 ht
          unfold pr
          simp_arith [setN, setAll, List.length_cons, List.length_nil, h2.r, n_finish, q_finish, fe]
          by_cases ke : t.k = "end"
          · simp_arith [ke]
            exact ⟨S2, rfl, gr_of g1 f2⟩
          · simp_arith [ke]
            exact ⟨S2, rfl, gr_of g1 f2⟩
def told (dd : Nat) (k : Bool) (l : List Nat) : Option (Str × U) := match outL (if k = true then .annot else .expr) dd l with
  | .good _ => some ("none", .int 0)
  | .mal a => some ("at", .int a)
  | .unbT => some ("name", .str "text")
  | .unbD => some ("name", .str "depth")
  | .no => none
theorem raised_eq (hz : l.length ≤ 100000) {k : Bool} {x : Str} {u : U} (h : told (d + 6) k l = some (x, u)) : ∃ S', (pg.cal (d + 8)).call "_law_raised" [.str (sx l), .bl k] S = .ok (.tup [.str x, u]) S' ∧ Gr S S' := by
  have hc : (pg.cal (d + 8)).call "_law_raised" [.str (sx l), .bl k] S = prim__law_raised (pg.cal (d + 7)) [.str (sx l), .bl k] S := by
    show (match tbl.lookup ("_law_raised" : Str) with | some (.inl df) => df.run (pg.cal (d + 7)) [U.str (sx l), .bl k] S | some (.inr g) => g (pg.cal (d + 7)) [U.str (sx l), .bl k] S | none => R.bad) = _
    rw [show tbl.lookup ("_law_raised" : Str) = some (.inr prim__law_raised) by kernel_rfl]
  rw [hc]
  unfold prim__law_raised
  dsimp only
  have q : SimO ((pg.cal (d + 7)).call (if k = true then "read_type" else "read") [.str (sx l)] S) (outL (if k = true then .annot else .expr) (d + 6) l) S := by
    cases k with
    | true => exact read_type_eq hz
    | false => exact read_eq hz
  unfold told at h
  revert h q
  cases outL (if k = true then .annot else .expr) (d + 6) l with
  | good v =>
    rintro h ⟨S1, e, g⟩
    cases h
    rw [e]
    exact ⟨S1, rfl, g⟩
  | mal a =>
    rintro h ⟨S1, e, g⟩
    cases h
    rw [e]
    exact ⟨S1, rfl, g⟩
  | unbT =>
    rintro h ⟨S1, e, g⟩
    cases h
    rw [e]
    exact ⟨S1, rfl, g⟩
  | unbD =>
    rintro h ⟨S1, e, g⟩
    cases h
    rw [e]
    exact ⟨S1, rfl, g⟩
  | no =>
    rintro h _
    cases h
end Pr

end

section
set_option maxHeartbeats 4000000
namespace Oz
open PySem L2
section
variable {S : Sto} {i j : Int}
theorem mod_int (h : 0 < j) : binU .mod (.int i) (.int j) S = .ok (.int (i % j)) S := if_pos h
theorem mul_int (h : CMul i j) : binU .mul (.int i) (.int j) S = .ok (.int (i * j)) S := if_pos h
theorem fdiv_int (h : CDiv i j) : binU .fdiv (.int i) (.int j) S = .ok (.int (i / j)) S := if_pos h
theorem int_int : bfU .int [.int i] S = .ok (.int i) S := rfl
theorem mul_r (h1 : -(2 ^ 64) < j) (h2 : j < 2 ^ 64) : CMul i j := .inr ⟨h1, h2⟩
end
end Oz
namespace Pr
open PySem L2 Oz
variable {S S' : Sto} {d : Nat}
/-! ### the law's own numbers -/
structure Stt (S : Sto) (st cl : Nat) (c : Int) (cs : List Int) : Prop where
  s : S[st]? = some (.lst [.int c, .loc cl])
  t : S[cl]? = some (.lst (cs.map U.int))
  ne : st ≠ cl
  pos : cs ≠ []
  nn : ∀ x ∈ cs, 0 ≤ x
/-- only these two cells change -/
def F2 (S S' : Sto) (st cl : Nat) : Prop := S.length ≤ S'.length ∧ ∀ k, k < S.length → k ≠ st → k ≠ cl → S'[k]? = S[k]?
theorem F2.refl {st cl : Nat} : F2 S S st cl := ⟨Nat.le_refl _, fun _ _ _ _ => rfl⟩
theorem F2.trans {S1 S2 S3 : Sto} {st cl : Nat} (a : F2 S1 S2 st cl) (b : F2 S2 S3 st cl) : F2 S1 S3 st cl := ⟨Nat.le_trans a.1 b.1, fun k h h1 h2 => (b.2 k (Nat.lt_of_lt_of_le h a.1) h1 h2).trans (a.2 k h h1 h2)⟩
/-- the state is there still -/
def HasSt (S : Sto) (st cl : Nat) : Prop := ∃ c cs, Stt S st cl c cs
theorem HasSt.gr {st cl : Nat} (h : HasSt S st cl) (g : Gr S S') : HasSt S' st cl := by
  obtain ⟨c, cs, h⟩ := h
  exact ⟨c, cs, (g.2 st (List.getElem?_eq_some_iff.mp h.s).1).trans h.s, (g.2 cl (List.getElem?_eq_some_iff.mp h.t).1).trans h.t, h.ne, h.pos, h.nn⟩
theorem takes_eq {st cl : Nat} {most : Int} (hs : HasSt S st cl) (h0 : 0 < most) (h1 : most < 1000000) : ∃ v S', (pg.cal (d + 1)).call "_law_take" [.loc st, .int most] S = .ok (.int v) S' ∧ 0 ≤ v ∧ v < most ∧ HasSt S' st cl ∧ F2 S S' st cl := by
  obtain ⟨c, cs, h⟩ := hs
  rw [call_eq (df := ⟨2, 6, false, T__law_take⟩) (by kernel_rfl), run_eq (by rfl)]
  unfold T__law_take
  have hlen : (0 : Int) < ((cs.map U.int).length : Int) := by
    rw [List.length_map]
    have := List.length_pos_iff.mpr h.pos
    omega
  have hst : st < S.length := (List.getElem?_eq_some_iff.mp h.s).1
  have hcl : cl < S.length := (List.getElem?_eq_some_iff.mp h.t).1
  obtain ⟨a, ha⟩ : ∃ a : Nat, (a : Int) = c % ((cs.map U.int).length : Int) := ⟨(c % ((cs.map U.int).length : Int)).toNat, Int.toNat_of_nonneg (Int.emod_nonneg _ (by omega))⟩
  have hal : a < cs.length := by
    have q := Int.emod_lt_of_pos c hlen
    rw [← ha, List.length_map] at q
    omega
  have hat : atI (cs.map U.int) (a : Int) = some (.int cs[a]) := L2.atI_nat (by rw [List.getElem?_map, List.getElem?_eq_getElem hal]; rfl)
  have p0 : ∀ x y : U, atI [x, y] (0 : Int) = some x := fun _ _ => rfl
  have p1 : ∀ x y : U, atI [x, y] (1 : Int) = some y := fun _ _ => rfl
  have hcell : 0 ≤ cs[a] := h.nn _ (List.getElem_mem hal)
  simp_arith [ix_loc h.s, p0, p1, len_loc h.t, mod_int hlen, ← ha, ix_loc h.t, hat]
  by_cases hb : (1000000000000000000 : Int) ≤ cs[a]
  · have hi : setItemU (.loc cl) (.int a) (.int (cs[a] / most)) S = .ok () (S.set cl (.lst ((cs.set a (cs[a] / most)).map U.int))) := by
      unfold setItemU
      simp only [h.t]
      have hx : ixN (cs.map U.int).length (a : Int) = some a := by
        unfold ixN
        rw [if_pos (by omega), if_pos (by rw [List.length_map]; omega)]
        simp
      rw [hx, List.map_set]
    simp_arith [hb, decide_true, fdiv_int (show CDiv cs[a] most from ⟨h0, by omega⟩), hi, mod_int h0]
    refine ⟨_, _, rfl, Int.emod_nonneg _ (by omega), Int.emod_lt_of_pos _ h0, ⟨c, cs.set a (cs[a] / most), ?_, ?_, h.ne, ?_, ?_⟩, ⟨by simp, fun k hk h1 h2 => by rw [List.getElem?_set_ne (Ne.symm h2)]⟩⟩
    · rw [List.getElem?_set_ne (Ne.symm h.ne)]
      exact h.s
    · rw [List.getElem?_set_self hcl]
    · intro z
      have := congrArg List.length z
      simp at this
      exact h.pos this
    · intro x hx
      rcases List.mem_or_eq_of_mem_set hx with hx | hx
      · exact h.nn x hx
      · rw [hx]
        exact Int.ediv_nonneg hcell (by omega)
  · have hi : setItemU (.loc st) (.int 0) (.int (c + 1)) S = .ok () (S.set st (.lst [.int (c + 1), .loc cl])) := by
      unfold setItemU
      simp only [h.s]
      rfl
    have g1 : (S.set st (.lst [.int (c + 1), .loc cl]))[st]? = some (.lst [.int (c + 1), .loc cl]) := by rw [List.getElem?_set_self hst]
    simp_arith [hb, decide_false, ix_loc h.s, hi, ix_loc g1, p0, mul_int (mul_r (i := cs[a]) (j := 48271) (by decide) (by decide)), mul_int (mul_r (i := c + 1) (j := 69621) (by decide) (by decide)), int_int, mod_int (show (0 : Int) < 2147483647 by decide),
      mul_int (mul_r (i := (cs[a] * 48271 + (c + 1) * 69621) % 2147483647) (j := 16807) (by decide) (by decide)), mul_int (mul_r (i := c + 1) (j := 7919) (by decide) (by decide)), mod_int (show (0 : Int) < 1000000007 by decide),
      fdiv_int (show CDiv (((cs[a] * 48271 + (c + 1) * 69621) % 2147483647 * 16807 + (c + 1) * 7919) % 1000000007) 7 from ⟨by decide, by decide⟩), mod_int h0]
    refine ⟨_, _, rfl, Int.emod_nonneg _ (by omega), Int.emod_lt_of_pos _ h0, ⟨c + 1, cs, g1, ?_, h.ne, h.pos, h.nn⟩, ⟨by simp, fun k hk h1 h2 => by rw [List.getElem?_set_ne (Ne.symm h1)]⟩⟩
    rw [List.getElem?_set_ne h.ne]
    exact h.t
end Pr

end

section
set_option maxHeartbeats 4000000
namespace Pr
open PySem L2 Oz
variable {S S' : Sto} {d : Nat}
/-! ### the good texts -/
def tx (s : String) : List Nat := (Str.ofString s).cps.toList
def atomsS : List String := ["x", "12", "true", "y_1", "unit", "(f 3)", "(1, 2)", "(x : int)"]
def opsS : List String := [" + ", " - ", " * ", " < ", " == ", ")("]
inductive GT : Nat → List Nat → Prop where
  | atom {n : Nat} {a : String} : a ∈ atomsS → GT n (tx a)
  | par {n : Nat} {a : List Nat} : GT n a → GT (n + 1) (tx "(" ++ a ++ tx ")")
  | fst {n : Nat} {a : List Nat} : GT n a → GT (n + 1) (tx "fst (" ++ a ++ tx ")")
  | let_ {n : Nat} {a b : List Nat} : GT n a → GT n b → GT (n + 1) (tx "(let z = " ++ a ++ tx " in " ++ b ++ tx ")")
  | if_ {n : Nat} {a b : List Nat} : GT n a → GT n b → GT (n + 1) (tx "(if " ++ a ++ tx " then " ++ b ++ tx " else x)")
  | op {n : Nat} {a b : List Nat} {s : String} : s ∈ opsS → GT n a → GT n b → GT (n + 1) (tx "(" ++ a ++ tx s ++ b ++ tx ")")
theorem GT.len {n : Nat} {a : List Nat} (h : GT n a) : a.length + 20 ≤ 30 * 2 ^ n := by
  induction h with
  | atom ha =>
    rename_i n a
    have h0 : ∀ a ∈ atomsS, (tx a).length ≤ 9 := by decide +kernel
    have h1 := h0 a ha
    have h2 : 1 ≤ 2 ^ n := Nat.one_le_two_pow
    omega
  | par _ ih =>
    have e1 : (tx "(").length = 1 := by decide +kernel
    have e2 : (tx ")").length = 1 := by decide +kernel
    simp only [List.length_append, Nat.pow_succ]
    omega
  | fst _ ih =>
    have e1 : (tx "fst (").length = 5 := by decide +kernel
    have e2 : (tx ")").length = 1 := by decide +kernel
    simp only [List.length_append, Nat.pow_succ]
    omega
  | let_ _ _ ih1 ih2 =>
    have e1 : (tx "(let z = ").length = 9 := by decide +kernel
    have e2 : (tx " in ").length = 4 := by decide +kernel
    have e3 : (tx ")").length = 1 := by decide +kernel
    simp only [List.length_append, Nat.pow_succ]
    omega
  | if_ _ _ ih1 ih2 =>
    have e1 : (tx "(if ").length = 4 := by decide +kernel
    have e2 : (tx " then ").length = 6 := by decide +kernel
    have e3 : (tx " else x)").length = 8 := by decide +kernel
    simp only [List.length_append, Nat.pow_succ]
    omega
  | op hs _ _ ih1 ih2 =>
    rename_i s _ _
    have h0 : ∀ s ∈ opsS, (tx s).length ≤ 4 := by decide +kernel
    have h1 := h0 _ hs
    have e1 : (tx "(").length = 1 := by decide +kernel
    have e2 : (tx ")").length = 1 := by decide +kernel
    simp only [List.length_append, Nat.pow_succ]
    omega
theorem sx_tx (s : String) : (Str.ofString s) = sx (tx s) := rfl
theorem sx_app (a b : List Nat) : sx a ++ sx b = sx (a ++ b) := by
  show Str.mk (Array.mk a ++ Array.mk b) = Str.mk (Array.mk (a ++ b))
  simp
theorem add_sx {a b : List Nat} (h : a.length + b.length ≤ 100000) : binU .add (.str (sx a)) (.str (sx b)) S = .ok (.str (sx (a ++ b))) S := by
  rw [add_str (show (sx a).length + (sx b).length ≤ sizeLine from Nat.le_trans h (by decide)), sx_app]
theorem pick {ss : List String} {v : Int} (h0 : 0 ≤ v) (h1 : v < ss.length) : ∃ s ∈ ss, atI (ss.map fun s => U.str (Str.ofString s)) v = some (.str (sx (tx s))) := by
  obtain ⟨k, rfl⟩ : ∃ k : Nat, v = k := ⟨v.toNat, by omega⟩
  have hk : k < ss.length := by omega
  exact ⟨ss[k], List.getElem_mem hk, L2.atI_nat (by rw [List.getElem?_map, List.getElem?_eq_getElem hk]; rfl)⟩
theorem F2.push {st cl : Nat} {c : Cel} : F2 S (S ++ [c]) st cl := ⟨by simp, fun k h _ _ => List.getElem?_append_left h⟩
theorem ix_push {us : List U} {v : Int} {u : U} {S2 : Sto} {st cl : Nat} (f : F2 (S ++ [.lst us]) S2 st cl) (h1 : st < S.length) (h2 : cl < S.length) (h : atI us v = some u) : ixU (.loc S.length) (.int v) S2 = .ok u S2 := by
  have e : S2[S.length]? = some (.lst us) := (f.2 S.length (by simp) (by omega) (by omega)).trans last_get
  rw [ix_loc e, h]
theorem HasSt.lt {st cl : Nat} (h : HasSt S st cl) : st < S.length ∧ cl < S.length := by
  obtain ⟨c, cs, h⟩ := h
  exact ⟨(List.getElem?_eq_some_iff.mp h.s).1, (List.getElem?_eq_some_iff.mp h.t).1⟩
theorem sz6 : (6 ≤ sizeLine) = True := by decide
theorem sz8 : (8 ≤ sizeLine) = True := by decide
theorem text_eq {st cl : Nat} : ∀ (D : Nat) (S : Sto), D ≤ 3 → HasSt S st cl → ∃ a S', (pg.cal (d + D + 2)).call "_law_text" [.loc st, .int D] S = .ok (.str (sx a)) S' ∧ GT D a ∧ HasSt S' st cl ∧ F2 S S' st cl
  | D, S, hD, hs => by
    rw [call_eq (df := ⟨2, 5, false, T__law_text⟩) (by kernel_rfl), run_eq (by rfl)]
    unfold T__law_text
    obtain ⟨kind, S1, t1, k0, k9, hs1, f1⟩ := takes_eq (d := d + D) hs (most := 9) (by decide) (by decide)
    simp_arith [t1]
    by_cases hb : D = 0 ∨ kind < 2
    · obtain ⟨v, S2, t2, v0, v8, hs2, f2⟩ := takes_eq (d := d + D) (hs1.gr (Gr.push (c := .lst (atomsS.map fun s => U.str (Str.ofString s))))) (most := 8) (by decide) (by decide)
      obtain ⟨s, hs', hp⟩ := pick (ss := atomsS) v0 v8
      have hc : (if D = 0 then R.ok true S1 else R.ok (decide (kind < 2)) S1) = R.ok true S1 := by
        rcases hb with hb | hb
        · simp [hb]
        · simp [hb]
      have hD0 : ((D : Int) = 0) = (D = 0) := by simp only [eq_iff_iff]; omega
      simp_arith [hD0, decide_eq_true_eq]
      rw [hc]
      simp_arith [sz8, List.length_cons, List.length_nil, Nat.zero_add, Nat.reduceAdd]
      have t2' : (pg.cal (d + D + 1)).call "_law_take" [.loc st, .int 8] (S1 ++ [.lst [.str "x", .str "12", .str "true", .str "y_1", .str "unit", .str "(f 3)", .str "(1, 2)", .str "(x : int)"]]) = .ok (.int v) S2 := t2
      simp_arith [t2', ix_push f2 hs1.lt.1 hs1.lt.2 hp]
      exact ⟨tx s, S2, rfl, .atom hs', hs2, f1.trans (F2.push.trans f2)⟩
    · obtain ⟨D, rfl⟩ : ∃ D', D = D' + 1 := ⟨D - 1, by omega⟩
      have hD0 : (((D + 1 : Nat) : Int) = 0) = False := by simp only [eq_iff_iff, iff_false]; omega
      have hk2 : (kind < 2) = False := by simp only [eq_iff_iff, iff_false]; omega
      have e1 : (((D + 1 : Nat) : Int) - 1) = (D : Int) := by omega
      obtain ⟨a, S2, t2, ga, hs2, f2⟩ := text_eq D S1 (by omega) hs1
      have t2' : (pg.cal (d + (D + 1) + 1)).call "_law_text" [.loc st, .int D] S1 = .ok (.str (sx a)) S2 := t2
      have la : a.length ≤ 1000 := by
        have q := ga.len
        have q2 : 2 ^ D ≤ 2 ^ 2 := Nat.pow_le_pow_right (by decide) (by omega)
        omega
      simp_arith [hD0, hk2, decide_false, e1, t2']
      by_cases c2 : kind = 2
      · subst c2
        simp_arith [decide_true, sx_tx, add_sx (show (tx "(").length + a.length ≤ 100000 by rw [show (tx "(").length = 1 by decide +kernel]; omega), add_sx (show (tx "(" ++ a).length + (tx ")").length ≤ 100000 by rw [List.length_append, show (tx "(").length = 1 by decide +kernel, show (tx ")").length = 1 by decide +kernel]; omega)]
        exact ⟨_, S2, rfl, .par ga, hs2, f1.trans f2⟩
      · by_cases c3 : kind = 3
        · subst c3
          simp_arith [c2, decide_false, decide_true, sx_tx, add_sx (show (tx "fst (").length + a.length ≤ 100000 by rw [show (tx "fst (").length = 5 by decide +kernel]; omega), add_sx (show (tx "fst (" ++ a).length + (tx ")").length ≤ 100000 by rw [List.length_append, show (tx "fst (").length = 5 by decide +kernel, show (tx ")").length = 1 by decide +kernel]; omega)]
          exact ⟨_, S2, rfl, .fst ga, hs2, f1.trans f2⟩
        · obtain ⟨b, S3, t3, gb, hs3, f3⟩ := text_eq D S2 (by omega) hs2
          have t3' : (pg.cal (d + (D + 1) + 1)).call "_law_text" [.loc st, .int D] S2 = .ok (.str (sx b)) S3 := t3
          have lb : b.length ≤ 1000 := by
            have q := gb.len
            have q2 : 2 ^ D ≤ 2 ^ 2 := Nat.pow_le_pow_right (by decide) (by omega)
            omega
          have k3 : ∀ x y z : String, (tx x).length ≤ 9 → (tx y).length ≤ 9 → (tx z).length ≤ 9 → ∀ S : Sto, binU .add (.str (sx (tx x))) (.str (sx a)) S = .ok (.str (sx (tx x ++ a))) S ∧ binU .add (.str (sx (tx x ++ a))) (.str (sx (tx y))) S = .ok (.str (sx (tx x ++ a ++ tx y))) S ∧
              binU .add (.str (sx (tx x ++ a ++ tx y))) (.str (sx b)) S = .ok (.str (sx (tx x ++ a ++ tx y ++ b))) S ∧ binU .add (.str (sx (tx x ++ a ++ tx y ++ b))) (.str (sx (tx z))) S = .ok (.str (sx (tx x ++ a ++ tx y ++ b ++ tx z))) S := fun x y z hx hy hz S => by
            refine ⟨add_sx ?_, add_sx ?_, add_sx ?_, add_sx ?_⟩ <;> (try simp only [List.length_append]) <;> omega
          simp_arith [c2, c3, decide_false, e1, t3']
          by_cases c4 : kind = 4
          · subst c4
            obtain ⟨q1, q2, q3, q4⟩ := k3 "(let z = " " in " ")" (by decide +kernel) (by decide +kernel) (by decide +kernel) S3
            simp_arith [decide_true, sx_tx, q1, q2, q3, q4]
            exact ⟨_, S3, rfl, .let_ ga gb, hs3, f1.trans (f2.trans f3)⟩
          · by_cases c5 : kind = 5
            · subst c5
              obtain ⟨q1, q2, q3, q4⟩ := k3 "(if " " then " " else x)" (by decide +kernel) (by decide +kernel) (by decide +kernel) S3
              simp_arith [c4, decide_true, decide_false, sx_tx, q1, q2, q3, q4]
              exact ⟨_, S3, rfl, .if_ ga gb, hs3, f1.trans (f2.trans f3)⟩
            · obtain ⟨v, S4, t4, v0, v6, hs4, f4⟩ := takes_eq (d := d + (D + 1)) (hs3.gr (Gr.push (c := .lst (opsS.map fun s => U.str (Str.ofString s))))) (most := 6) (by decide) (by decide)
              obtain ⟨s, hs', hp⟩ := pick (ss := opsS) v0 v6
              have hsl : (tx s).length ≤ 9 := by
                have h0 : ∀ s ∈ opsS, (tx s).length ≤ 9 := by decide +kernel
                exact h0 s hs'
              have t4' : (pg.cal (d + (D + 1) + 1)).call (sx (tx "_law_take")) [.loc st, .int 6] (S3 ++ [.lst [.str (sx (tx " + ")), .str (sx (tx " - ")), .str (sx (tx " * ")), .str (sx (tx " < ")), .str (sx (tx " == ")), .str (sx (tx ")("))]]) = .ok (.int v) S4 := t4
              obtain ⟨q1, _, _, _⟩ := k3 "(" s ")" (by decide +kernel) hsl (by decide +kernel) S3
              obtain ⟨_, q2, q3, q4⟩ := k3 "(" s ")" (by decide +kernel) hsl (by decide +kernel) S4
              simp_arith [c4, c5, decide_false, sx_tx, q1, sz6, List.length_cons, List.length_nil, Nat.zero_add, Nat.reduceAdd, t4', ix_push f4 hs3.lt.1 hs3.lt.2 hp, q2, q3, q4]
              exact ⟨_, S4, rfl, .op hs' ga gb, hs4, f1.trans (f2.trans (f3.trans (F2.push.trans f4)))⟩
end Pr

end

section
set_option maxHeartbeats 4000000
namespace Pr
open PySem L2 Oz
/-! ### tokens piece by piece -/
theorem tz_fuel : ∀ (k k' : Nat) (s : List Nat) (i : Nat), s.length < k → s.length < k' → tz k s i = tz k' s i
  | 0, _, _, _, h, _ => absurd h (Nat.not_lt_zero _)
  | _ + 1, 0, _, _, _, h => absurd h (Nat.not_lt_zero _)
  | _ + 1, _ + 1, [], _, _, _ => rfl
  | k + 1, k' + 1, c :: s, i, h, h' => by
    unfold tz
    split
    · exact tz_fuel k k' s (i + 1) (by simpa using h) (by simpa using h')
    · split
      · rename_i t w ht
        have h1 := (tokT_w ht).1
        rw [tz_fuel k k' ((c :: s).drop w) (i + w) (by rw [List.length_drop]; simp at h ⊢; omega) (by rw [List.length_drop]; simp at h' ⊢; omega)]
      · rfl
      · rfl
def tk (s : List Nat) (i : Nat) : Tz := tz (s.length + 1) s i
theorem tk_of {k : Nat} {s : List Nat} {i : Nat} (h : s.length < k) : tz k s i = tk s i := tz_fuel _ _ _ _ h (by omega)
def pushAll (ts : List Tk) (x : Tz) : Tz := ts.foldr Tz.push x
theorem push_app {a b : List Tk} {x : Tz} : pushAll (a ++ b) x = pushAll a (pushAll b x) := by simp [pushAll]
def kv (t : Tk) : Str × U := (t.k, t.v)
/-- behind a name or number no name character stands -/
def Bd : List Nat → Prop
  | [] => True
  | c :: _ => c ∉ nmL
def LexS (a : List Nat) (sh : List (Str × U)) : Prop := ∀ r i, ∃ ts, ts.map kv = sh ∧ tk (a ++ r) i = pushAll ts (tk r (i + a.length))
def LexW (a : List Nat) (sh : List (Str × U)) : Prop := ∀ r i, Bd r → ∃ ts, ts.map kv = sh ∧ tk (a ++ r) i = pushAll ts (tk r (i + a.length))
theorem LexS.w {a : List Nat} {sh : List (Str × U)} (h : LexS a sh) : LexW a sh := fun r i _ => h r i
theorem LexS.app {a b : List Nat} {sa sb : List (Str × U)} (h : LexS a sa) (g : LexS b sb) : LexS (a ++ b) (sa ++ sb) := fun r i => by
  obtain ⟨t1, e1, q1⟩ := h (b ++ r) i
  obtain ⟨t2, e2, q2⟩ := g r (i + a.length)
  exact ⟨t1 ++ t2, by rw [List.map_append, e1, e2], by rw [List.append_assoc, q1, q2, push_app, List.length_append, Nat.add_assoc]⟩
theorem LexS.appW {a b : List Nat} {sa sb : List (Str × U)} (h : LexS a sa) (g : LexW b sb) : LexW (a ++ b) (sa ++ sb) := fun r i hr => by
  obtain ⟨t1, e1, q1⟩ := h (b ++ r) i
  obtain ⟨t2, e2, q2⟩ := g r (i + a.length) hr
  exact ⟨t1 ++ t2, by rw [List.map_append, e1, e2], by rw [List.append_assoc, q1, q2, push_app, List.length_append, Nat.add_assoc]⟩
theorem LexW.appS {a b : List Nat} {sa sb : List (Str × U)} (h : LexW a sa) (g : LexS b sb) (hb : ∃ c b', b = c :: b' ∧ c ∉ nmL) : LexS (a ++ b) (sa ++ sb) := fun r i => by
  obtain ⟨c, b', rfl, hc⟩ := hb
  obtain ⟨t1, e1, q1⟩ := h (c :: b' ++ r) i hc
  obtain ⟨t2, e2, q2⟩ := g r (i + a.length)
  exact ⟨t1 ++ t2, by rw [List.map_append, e1, e2], by rw [List.append_assoc, q1, q2, push_app, List.length_append, Nat.add_assoc]⟩
/-- a piece whose tokens the kernel sees -/
theorem LexS.mk {a : List Nat} {sh : List (Str × U)} {n : Nat} (f : Nat → List Tk) (hf : ∀ i, (f i).map kv = sh) (hn : n ≤ a.length) (h : ∀ (k : Nat) (r : List Nat) (i : Nat), tz (k + a.length + 1) (a ++ r) i = pushAll (f i) (tz (k + n + 1) r (i + a.length))) : LexS a sh := fun r i => by
  refine ⟨f i, hf i, ?_⟩
  have q := h r.length r i
  rw [tk_of (by rw [List.length_append]; omega), tk_of (by omega)] at q
  exact q
theorem lx_par : LexS (tx "(") [("sign", .str "(")] := LexS.mk (n := 0) (fun i => [⟨"sign", .str "(", i⟩]) (fun i => rfl) (Nat.zero_le _) (fun k r i => by kernel_rfl)
theorem lx_end : LexS (tx ")") [("sign", .str ")")] := LexS.mk (n := 0) (fun i => [⟨"sign", .str ")", i⟩]) (fun i => rfl) (Nat.zero_le _) (fun k r i => by kernel_rfl)
theorem lx_fst : LexS (tx "fst (") [("word", .str "fst"), ("sign", .str "(")] := LexS.mk (n := 2) (fun i => [⟨"word", .str "fst", i⟩, ⟨"sign", .str "(", i + 4⟩]) (fun i => rfl) (by decide +kernel) (fun k r i => by kernel_rfl)
theorem lx_let : LexS (tx "(let z = ") [("sign", .str "("), ("word", .str "let"), ("name", .str "z"), ("sign", .str "=")] := LexS.mk (n := 2) (fun i => [⟨"sign", .str "(", i⟩, ⟨"word", .str "let", i + 1⟩, ⟨"name", .str "z", i + 5⟩, ⟨"sign", .str "=", i + 7⟩]) (fun i => rfl) (by decide +kernel) (fun k r i => by kernel_rfl)
theorem lx_in : LexS (tx " in ") [("word", .str "in")] := LexS.mk (n := 1) (fun i => [⟨"word", .str "in", i + 1⟩]) (fun i => rfl) (by decide +kernel) (fun k r i => by kernel_rfl)
theorem lx_if : LexS (tx "(if ") [("sign", .str "("), ("word", .str "if")] := LexS.mk (n := 1) (fun i => [⟨"sign", .str "(", i + 0⟩, ⟨"word", .str "if", i + 1⟩]) (fun i => rfl) (by decide +kernel) (fun k r i => by kernel_rfl)
theorem lx_then : LexS (tx " then ") [("word", .str "then")] := LexS.mk (n := 3) (fun i => [⟨"word", .str "then", i + 1⟩]) (fun i => rfl) (by decide +kernel) (fun k r i => by kernel_rfl)
theorem lx_else : LexS (tx " else x)") [("word", .str "else"), ("name", .str "x"), ("sign", .str ")")] := LexS.mk (n := 3) (fun i => [⟨"word", .str "else", i + 1⟩, ⟨"name", .str "x", i + 6⟩, ⟨"sign", .str ")", i + 7⟩]) (fun i => rfl) (by decide +kernel) (fun k r i => by kernel_rfl)
theorem lx_add : LexS (tx " + ") [("sign", .str "+")] := LexS.mk (n := 0) (fun i => [⟨"sign", .str "+", i + 1⟩]) (fun i => rfl) (by decide +kernel) (fun k r i => by kernel_rfl)
theorem lx_sub : LexS (tx " - ") [("sign", .str "-")] := LexS.mk (n := 0) (fun i => [⟨"sign", .str "-", i + 1⟩]) (fun i => rfl) (by decide +kernel) (fun k r i => by kernel_rfl)
theorem lx_mul : LexS (tx " * ") [("sign", .str "*")] := LexS.mk (n := 0) (fun i => [⟨"sign", .str "*", i + 1⟩]) (fun i => rfl) (by decide +kernel) (fun k r i => by kernel_rfl)
theorem lx_lt : LexS (tx " < ") [("sign", .str "<")] := LexS.mk (n := 0) (fun i => [⟨"sign", .str "<", i + 1⟩]) (fun i => rfl) (by decide +kernel) (fun k r i => by kernel_rfl)
theorem lx_eq : LexS (tx " == ") [("sign", .str "==")] := LexS.mk (n := 1) (fun i => [⟨"sign", .str "==", i + 1⟩]) (fun i => rfl) (by decide +kernel) (fun k r i => by kernel_rfl)
theorem lx_app : LexS (tx ")(") [("sign", .str ")"), ("sign", .str "(")] := LexS.mk (n := 0) (fun i => [⟨"sign", .str ")", i + 0⟩, ⟨"sign", .str "(", i + 1⟩]) (fun i => rfl) (by decide +kernel) (fun k r i => by kernel_rfl)
theorem lx_a5 : LexS (tx "(f 3)") [("sign", .str "("), ("name", .str "f"), ("number", .int 3), ("sign", .str ")")] := LexS.mk (n := 0) (fun i => [⟨"sign", .str "(", i + 0⟩, ⟨"name", .str "f", i + 1⟩, ⟨"number", .int 3, i + 3⟩, ⟨"sign", .str ")", i + 4⟩]) (fun i => rfl) (by decide +kernel) (fun k r i => by kernel_rfl)
theorem lx_a6 : LexS (tx "(1, 2)") [("sign", .str "("), ("number", .int 1), ("sign", .str ","), ("number", .int 2), ("sign", .str ")")] := LexS.mk (n := 0) (fun i => [⟨"sign", .str "(", i + 0⟩, ⟨"number", .int 1, i + 1⟩, ⟨"sign", .str ",", i + 2⟩, ⟨"number", .int 2, i + 4⟩, ⟨"sign", .str ")", i + 5⟩]) (fun i => rfl) (by decide +kernel) (fun k r i => by kernel_rfl)
theorem lx_a7 : LexS (tx "(x : int)") [("sign", .str "("), ("name", .str "x"), ("sign", .str ":"), ("word", .str "int"), ("sign", .str ")")] := LexS.mk (n := 2) (fun i => [⟨"sign", .str "(", i + 0⟩, ⟨"name", .str "x", i + 1⟩, ⟨"sign", .str ":", i + 3⟩, ⟨"word", .str "int", i + 5⟩, ⟨"sign", .str ")", i + 8⟩]) (fun i => rfl) (by decide +kernel) (fun k r i => by kernel_rfl)
def nameW (w : List Nat) (i : Nat) : Tr :=
  if (wordsS.map U.str).any (fun y => Oz.eqU y (.str (sx w))) = true then .ok ⟨"word", .str (sx w), i⟩ w.length
  else if 20 < w.length then .mal else .ok ⟨"name", .str (sx w), i⟩ w.length
theorem while_app {p : Nat → Bool} {w r : List Nat} (h : ∀ c ∈ w, p c = true) (hr : ∀ c r', r = c :: r' → p c = false) : (w ++ r).takeWhile p = w := by
  rw [List.takeWhile_append_of_pos h]
  cases r with
  | nil => simp
  | cons c r =>
    rw [List.takeWhile_cons_of_neg (by rw [hr c r rfl]; exact Bool.false_ne_true), List.append_nil]
theorem name_app {w r : List Nat} {i : Nat} (h : w.all (fun c => decide (c ∈ nmL)) = true) (hr : Bd r) : nameT (w ++ r) i = nameW w i := by
  have e : (w ++ r).takeWhile (fun c => decide (c ∈ nmL)) = w := while_app (fun c hc => List.all_eq_true.mp h c hc) fun c r' e => by
    subst e
    exact decide_eq_false hr
  unfold nameT
  rw [e]
  rfl
theorem tk_tok {s : List Nat} {i w : Nat} {t : Tk} {c : Nat} {s' : List Nat} (hs : s = c :: s') (hc : c ∉ spL) (h : tokT s i = .ok t w) : tk s i = (tk (s.drop w) (i + w)).push t := by
  subst hs
  have h1 := (tokT_w h).1
  show tz ((c :: s').length + 1) (c :: s') i = _
  unfold tz
  rw [if_neg hc, h]
  dsimp only
  rw [tk_of (by rw [List.length_drop]; simp; omega)]
theorem LexW.name {w : List Nat} {c : Nat} {w' : List Nat} {t : Nat → Tk} {q : Str × U} (hw : w = c :: w') (h1 : c ∈ ltL) (h2 : c ∉ spL) (h : w.all (fun c => decide (c ∈ nmL)) = true) (hn : ∀ i, nameW w i = .ok (t i) w.length) (hq : ∀ i, kv (t i) = q) : LexW w [q] := fun r i hr => by
  refine ⟨[t i], by rw [List.map_singleton, hq], ?_⟩
  have e : tokT (w ++ r) i = .ok (t i) w.length := by
    rw [← hn, ← name_app h hr, hw]
    show (if c ∈ ltL then nameT (c :: (w' ++ r)) i else _) = _
    rw [if_pos h1]
    rfl
  rw [tk_tok (c := c) (s' := w' ++ r) (by rw [hw]; rfl) h2 e, List.drop_left]
  rfl
theorem lx_x : LexW (tx "x") [("name", .str "x")] := LexW.name (t := fun i => ⟨"name", .str "x", i⟩) (c := 120) (w' := []) (by decide +kernel) (by decide +kernel) (by decide +kernel) (by decide +kernel) (fun i => by kernel_rfl) (fun i => rfl)
theorem lx_true : LexW (tx "true") [("word", .str "true")] := LexW.name (t := fun i => ⟨"word", .str "true", i⟩) (c := 116) (w' := [114, 117, 101]) (by decide +kernel) (by decide +kernel) (by decide +kernel) (by decide +kernel) (fun i => by kernel_rfl) (fun i => rfl)
theorem lx_y : LexW (tx "y_1") [("name", .str "y_1")] := LexW.name (t := fun i => ⟨"name", .str "y_1", i⟩) (c := 121) (w' := [95, 49]) (by decide +kernel) (by decide +kernel) (by decide +kernel) (by decide +kernel) (fun i => by kernel_rfl) (fun i => rfl)
theorem lx_unit : LexW (tx "unit") [("word", .str "unit")] := LexW.name (t := fun i => ⟨"word", .str "unit", i⟩) (c := 117) (w' := [110, 105, 116]) (by decide +kernel) (by decide +kernel) (by decide +kernel) (by decide +kernel) (fun i => by kernel_rfl) (fun i => rfl)
theorem dg_nm {c : Nat} (h : c ∈ dgL) : c ∈ nmL := by
  have h0 : ∀ c ∈ dgL, c ∈ nmL := by decide +kernel
  exact h0 c h
theorem lx_num : LexW (tx "12") [("number", .int 12)] := fun r i hr => by
  refine ⟨[⟨"number", .int 12, i⟩], rfl, ?_⟩
  have ew : ((tx "12") ++ r).takeWhile (fun c => decide (c ∈ dgL)) = tx "12" := while_app (by decide +kernel) fun c r' e => by
    subst e
    exact decide_eq_false fun z => hr (dg_nm z)
  have e : tokT (tx "12" ++ r) i = .ok ⟨"number", .int 12, i⟩ 2 := by
    have e1 : tokT (tx "12" ++ r) i = numT (tx "12" ++ r) i := by kernel_rfl
    rw [e1]
    unfold numT
    rw [ew]
    have e2 : numT1 (tx "12" ++ r) (tx "12") i = numT2 (tx "12" ++ r) (tx "12") i 12 := by kernel_rfl
    rw [e2]
    unfold numT2
    cases r with
    | nil => kernel_rfl
    | cons c r =>
      have hc : (tx "12" ++ c :: r)[(tx "12").length]? = some c := by simp
      rw [hc]
      dsimp only
      rw [if_neg hr]
      kernel_rfl
  rw [tk_tok (c := 49) (s' := 50 :: r) (by kernel_rfl) (by decide +kernel) e]
  rfl
end Pr

end

section
set_option maxHeartbeats 4000000
namespace Pr
open PySem L2 Oz
/-! ### the reader over known tokens -/
variable {full : List Tk} {i i1 i2 : Nat} {o : Int} {t u : Tk} {r r1 r2 : List Tk} {P : Nm → PT} {a b : U × Int}
theorem cur {α : Type} {f : Tk → Ms α} (h : full.drop i = t :: r) : mCur full i f = f t := by
  have e : full[i]? = some t := by rw [← List.head?_drop, h]; rfl
  unfold mCur
  rw [e]
theorem nxt (h : full.drop i = t :: r) : full.drop (i + 1) = r := by
  rw [← List.drop_drop, h]
  rfl
theorem bok {α β : Type} {x : α} {f : α → Nat → Int → Ms β} : (Ms.ok x i o).bind f = f x i o := rfl
theorem skips_no (h : full.drop i = t :: r) {x : Str} (ht : Oz.eqU (.str x) t.v = false) : mSkips full x i o = .ok false i o := by
  unfold mSkips
  rw [cur h, ht]
  rfl
theorem skips_yes (h : full.drop i = t :: r) {x : Str} (ht : Oz.eqU (.str x) t.v = true) : mSkips full x i o = .ok true (i + 1) o := by
  unfold mSkips
  rw [cur h, ht]
  rfl
theorem sees_is (h : full.drop i = t :: r) {xs : List U} {k : Bool} (ht : (xs.any fun y => Oz.eqU y t.v) = k) : mSees full xs i o = .ok k i o := by
  unfold mSees
  rw [cur h, ht]
theorem take_yes (h : full.drop i = t :: r) {xs : List U} (ht : (xs.any fun y => Oz.eqU y t.v) = true) : mTake full xs i o = .ok t.v (i + 1) o := by
  unfold mTake
  rw [cur h, ht]
  rfl
theorem name_yes (h : full.drop i = t :: r) (ht : t.k = "name") : mName full i o = .ok t.v (i + 1) o := by
  unfold mName
  rw [cur h, if_pos ht]
theorem atom_is (h : full.drop i = t :: r) {k : Bool} (ht : atomB t = k) : mAtom full i o = .ok k i o := by
  unfold mAtom
  rw [cur h, ht]
theorem enter_ok (ho : o ≠ 60) : mEnter i o = .ok () i (o + 1) := if_neg ho
theorem leave_ok : mLeave i (o + 1) = .ok () i o := by
  unfold mLeave
  rw [Int.add_sub_cancel]
theorem built_ok {hs : List U} {qs : List (U × Int)} (h : 1 + maxI (qs.map (·.2)) ≤ 60) : mBuilt hs qs i o = .ok (.tup (hs ++ qs.map (·.1)), 1 + maxI (qs.map (·.2))) i o := if_neg (by omega)
theorem ff (x y : Ms (U × Int)) : (if (false : Bool) = true then x else y) = y := rfl
theorem tt (x y : Ms (U × Int)) : (if (true : Bool) = true then x else y) = x := rfl
theorem ffo (x y : Ms (Option (U × Int))) : (if (false : Bool) = true then x else y) = y := rfl
theorem tto (x y : Ms (Option (U × Int))) : (if (true : Bool) = true then x else y) = x := rfl
theorem mn_some {α : Type} {x y : α} {rest : α → Nat → Int → Ms α} : (Ms.ok (some y) i o).bind (mNext x rest) = rest y i o := rfl
theorem loop_step {α : Type} {step : α → Nat → Int → Ms (Option α)} {k : Nat} {x : α} : mLoop step (k + 1) x i o = (step x i o).bind (mNext x (mLoop step k)) := rfl
theorem prod_of (h : P .prefix_ full i o = .ok a i1 o) (hn : full.drop i1 = t :: r) (ht : Oz.eqU (.str "*") t.v = false) : mB P .prod full i o = .ok a i1 o := by
  simp only [mB]
  rw [h, bok, loop_step (k := 19999), skips_no hn ht]
  rfl
theorem prod_op (h : P .prefix_ full i o = .ok a i1 o) (hn : full.drop i1 = t :: r) (ht : Oz.eqU (.str "*") t.v = true) (h2 : P .prefix_ full (i1 + 1) o = .ok b i2 o) (hn2 : full.drop i2 = u :: r2) (hu : Oz.eqU (.str "*") u.v = false) (hd : 1 + maxI [a.2, b.2] ≤ 60) :
    mB P .prod full i o = .ok (.tup [.str "op", .str "*", a.1, b.1], 1 + maxI [a.2, b.2]) i2 o := by
  simp only [mB]
  rw [h, bok, loop_step (k := 19999), skips_yes hn ht, bok, tto, h2, bok, built_ok (qs := [a, b]) hd, bok, mn_some, loop_step (k := 19998), skips_no hn2 hu]
  rfl
theorem sum_of (h : P .prod full i o = .ok a i1 o) (hn : full.drop i1 = t :: r) (ht : ([U.str "+", .str "-"].any fun y => Oz.eqU y t.v) = false) : mB P .sum full i o = .ok a i1 o := by
  simp only [mB]
  rw [h, bok, loop_step (k := 19999), sees_is hn ht]
  rfl
theorem sum_op (h : P .prod full i o = .ok a i1 o) (hn : full.drop i1 = t :: r) (ht : ([U.str "+", .str "-"].any fun y => Oz.eqU y t.v) = true) (h2 : P .prod full (i1 + 1) o = .ok b i2 o) (hn2 : full.drop i2 = u :: r2) (hu : ([U.str "+", .str "-"].any fun y => Oz.eqU y u.v) = false) (hd : 1 + maxI [a.2, b.2] ≤ 60) :
    mB P .sum full i o = .ok (.tup [.str "op", t.v, a.1, b.1], 1 + maxI [a.2, b.2]) i2 o := by
  simp only [mB]
  rw [h, bok, loop_step (k := 19999), sees_is hn ht, bok, tto, take_yes hn ht, bok, h2, bok, built_ok (qs := [a, b]) hd, bok, mn_some, loop_step (k := 19998), sees_is hn2 hu]
  rfl
theorem comp_of (h : P .sum full i o = .ok a i1 o) (hn : full.drop i1 = t :: r) (ht : ([U.str "<", .str "=="].any fun y => Oz.eqU y t.v) = false) : mB P .comp full i o = .ok a i1 o := by
  simp only [mB]
  rw [h, bok, sees_is hn ht]
  rfl
theorem comp_op (h : P .sum full i o = .ok a i1 o) (hn : full.drop i1 = t :: r) (ht : ([U.str "<", .str "=="].any fun y => Oz.eqU y t.v) = true) (h2 : P .sum full (i1 + 1) o = .ok b i2 o) (hd : 1 + maxI [a.2, b.2] ≤ 60) :
    mB P .comp full i o = .ok (.tup [.str "op", t.v, a.1, b.1], 1 + maxI [a.2, b.2]) i2 o := by
  simp only [mB]
  rw [h, bok, sees_is hn ht, bok, tt, take_yes hn ht, bok, h2, bok, built_ok (qs := [a, b]) hd]
  rfl
def kwB (v : U) : Bool := Oz.eqU (.str "fun") v || Oz.eqU (.str "rec") v || Oz.eqU (.str "let") v || Oz.eqU (.str "if") v || Oz.eqU (.str "print") v
theorem expr_of (h0 : full.drop i = u :: r) (hu : kwB u.v = false) (ho : o ≠ 60) (h : P .comp full i (o + 1) = .ok a i1 (o + 1)) : mB P .expr full i o = .ok a i1 o := by
  unfold kwB at hu
  simp only [Bool.or_eq_false_iff] at hu
  obtain ⟨⟨⟨⟨k1, k2⟩, k3⟩, k4⟩, k5⟩ := hu
  simp only [mB]
  rw [enter_ok ho, bok, skips_no h0 k1, bok, ff, skips_no h0 k2, bok, ff, skips_no h0 k3, bok, ff, skips_no h0 k4, bok, ff, skips_no h0 k5, bok, ff, h, bok, leave_ok, bok]
theorem atom_group (h0 : full.drop i = u :: r) (hk : u.k = "sign") (hv : u.v = .str "(") (h : P .group full (i + 1) o = .ok a i1 o) : mB P .atom full i o = .ok a i1 o := by
  show mCur full i (mAt P full i o) = _
  rw [cur h0]
  obtain ⟨k, v, p⟩ := u
  dsimp only at hk hv
  subst hk hv
  unfold mAt
  rw [if_pos (by kernel_rfl), if_neg (show ¬ (("sign" : Str) = "number") by decide +kernel), if_neg (show ¬ (("sign" : Str) = "name") by decide +kernel)]
  dsimp only
  rw [if_neg (by decide +kernel), if_pos rfl, h]
theorem group_end (h : P .expr full i o = .ok a i1 o) (hn : full.drop i1 = u :: r) (hv : u.v = .str ")") : mB P .group full i o = .ok a (i1 + 1) o := by
  simp only [mB]
  rw [h, bok, skips_no hn (by rw [hv]; decide +kernel), bok, ff, skips_no hn (by rw [hv]; decide +kernel), bok, ff, take_yes hn (by rw [hv]; decide +kernel), bok]
theorem call_of (h : P .atom full i o = .ok a i1 o) (hn : full.drop i1 = t :: r) (ht : atomB t = false) : mB P .call full i o = .ok a i1 o := by
  simp only [mB]
  rw [h, bok, loop_step (k := 19999), atom_is hn ht]
  rfl
theorem call_app (h : P .atom full i o = .ok a i1 o) (hn : full.drop i1 = t :: r) (ht : atomB t = true) (h2 : P .atom full i1 o = .ok b i2 o) (hn2 : full.drop i2 = u :: r2) (hu : atomB u = false) (hd : 1 + maxI [a.2, b.2] ≤ 60) :
    mB P .call full i o = .ok (.tup [.str "call", a.1, b.1], 1 + maxI [a.2, b.2]) i2 o := by
  simp only [mB]
  rw [h, bok, loop_step (k := 19999), atom_is hn ht, bok, tto, h2, bok, built_ok (qs := [a, b]) hd, bok, mn_some, loop_step (k := 19998), atom_is hn2 hu]
  rfl
def pwB (v : U) : Bool := ([U.str "fst", .str "snd", .str "box", .str "get", .str "not"].any fun y => Oz.eqU y v) || Oz.eqU (.str "put") v
theorem prefix_call (h0 : full.drop i = u :: r) (hu : pwB u.v = false) (ho : o ≠ 60) (h : P .call full i (o + 1) = .ok a i1 (o + 1)) : mB P .prefix_ full i o = .ok a i1 o := by
  unfold pwB at hu
  simp only [Bool.or_eq_false_iff] at hu
  simp only [mB]
  rw [enter_ok ho, bok, sees_is h0 hu.1, bok, ff, skips_no h0 hu.2, bok, ff, h, bok, leave_ok, bok]
theorem prefix_word (h0 : full.drop i = u :: r) (hu : ([U.str "fst", .str "snd", .str "box", .str "get", .str "not"].any fun y => Oz.eqU y u.v) = true) (ho : o ≠ 60) (h : P .prefix_ full (i + 1) (o + 1) = .ok a i1 (o + 1)) (hd : 1 + maxI [a.2] ≤ 60) :
    mB P .prefix_ full i o = .ok (.tup [u.v, a.1], 1 + maxI [a.2]) i1 o := by
  simp only [mB]
  rw [enter_ok ho, bok, sees_is h0 hu, bok, tt, take_yes h0 hu, bok, h, bok, built_ok (qs := [a]) hd, bok, leave_ok, bok]
  rfl
end Pr

end

section
set_option maxHeartbeats 4000000
namespace Pr
open PySem L2 Oz
variable {full : List Tk} {i i1 i2 : Nat} {o : Int} {t u : Tk} {r r1 r2 : List Tk} {a b : U × Int} {g : Nat}
abbrev sg (x : Str) : Str × U := ("sign", .str x)
abbrev wd (x : Str) : Str × U := ("word", .str x)
abbrev na (x : Str) : Str × U := ("name", .str x)
theorem mP_pred {f : Nat} (h : 4 ≤ f) : mP f = mB (mP (f - 1)) := by
  obtain ⟨k, rfl⟩ : ∃ k, f = k + 4 := ⟨f - 4, by omega⟩
  rfl
theorem mP_suc (h : 3 ≤ g) : mP (g + 1) = mB (mP g) := mP_pred (by omega)
def opB (v : U) : Bool := Oz.eqU (.str "*") v || (([U.str "+", .str "-"].any fun y => Oz.eqU y v) || [U.str "<", .str "=="].any fun y => Oz.eqU y v)
theorem opB_no {v : U} (h : opB v = false) : Oz.eqU (.str "*") v = false ∧ ([U.str "+", .str "-"].any fun y => Oz.eqU y v) = false ∧ ([U.str "<", .str "=="].any fun y => Oz.eqU y v) = false := by
  unfold opB at h
  rw [Bool.or_eq_false_iff, Bool.or_eq_false_iff] at h
  exact h
/-- from a prefix to an expression -/
theorem expr_pfx (hg : 3 ≤ g) (h : mP g .prefix_ full i (o + 1) = .ok a i1 (o + 1)) (h0 : full.drop i = u :: r) (hu : kwB u.v = false) (ho : o ≠ 60) (hn : full.drop i1 = t :: r1) (ht : opB t.v = false) : mP (g + 4) .expr full i o = .ok a i1 o := by
  obtain ⟨q1, q2, q3⟩ := opB_no ht
  rw [mP_suc (by omega)]
  refine expr_of h0 hu ho ?_
  rw [mP_suc (by omega)]
  refine comp_of ?_ hn q3
  rw [mP_suc (by omega)]
  refine sum_of ?_ hn q2
  rw [mP_suc (by omega)]
  exact prod_of h hn q1
/-- an atom in parentheses -/
theorem atom_par (hg : 3 ≤ g) (h0 : full.drop i = u :: r) (hk : kv u = sg "(") (h : mP g .expr full (i + 1) o = .ok a i1 o) (hn : full.drop i1 = t :: r1) (ht : kv t = sg ")") : mP (g + 2) .atom full i o = .ok a (i1 + 1) o := by
  rw [mP_suc (by omega)]
  refine atom_group h0 (congrArg Prod.fst hk) (congrArg Prod.snd hk) ?_
  rw [mP_suc (by omega)]
  exact group_end h hn (congrArg Prod.snd ht)
/-- a prefix that is an atom -/
theorem pfx_atom (hg : 3 ≤ g) (h0 : full.drop i = u :: r) (hu : pwB u.v = false) (ho : o ≠ 60) (h : mP g .atom full i (o + 1) = .ok a i1 (o + 1)) (hn : full.drop i1 = t :: r1) (ht : atomB t = false) : mP (g + 2) .prefix_ full i o = .ok a i1 o := by
  rw [mP_suc (by omega)]
  refine prefix_call h0 hu ho ?_
  rw [mP_suc (by omega)]
  exact call_of h hn ht
def Pfx (sh : List (Str × U)) (n : Nat) : Prop := ∀ (full ts : List Tk) (t : Tk) (post : List Tk) (i : Nat) (o : Int) (f : Nat), full.drop i = ts ++ t :: post → ts.map kv = sh → atomB t = false → o + (4 * n + 4) ≤ 59 → 12 * n + 20 ≤ f →
  ∃ a, mP f .prefix_ full i o = .ok a (i + ts.length) o ∧ 1 ≤ a.2 ∧ a.2 ≤ 3 * n + 3
def Hd (sh : List (Str × U)) : Prop := ∃ q rest, sh = q :: rest ∧ kwB q.2 = false
theorem dropk {ts ss : List Tk} (h : full.drop i = ts ++ ss) : full.drop (i + ts.length) = ss := by
  rw [← List.drop_drop, h, List.drop_left]
theorem kv_cons {q : Str × U} {sh : List (Str × U)} {ts : List Tk} (h : ts.map kv = q :: sh) : ∃ u us, ts = u :: us ∧ kv u = q ∧ us.map kv = sh := by
  cases ts with
  | nil => cases h
  | cons u us =>
    simp only [List.map_cons, List.cons.injEq] at h
    exact ⟨u, us, rfl, h.1, h.2⟩
theorem kv_app {s1 s2 : List (Str × U)} {ts : List Tk} (h : ts.map kv = s1 ++ s2) : ∃ t1 t2, ts = t1 ++ t2 ∧ t1.map kv = s1 ∧ t2.map kv = s2 := by
  exact List.map_eq_append_iff.mp h
theorem atomB_kv {t : Tk} {q : Str × U} (h : kv t = q) : atomB t = (decide (q.1 = "number") || decide (q.1 = "name") || ([U.str "true", .str "false", .str "unit", .str "("].any fun y => Oz.eqU y q.2)) := by
  subst h
  rfl
theorem fin3 {f j : Nat} {a : U × Int} {B : Int} {k : Nat} (h : mP f .prefix_ full i o = .ok a j o) (hj : j = i + k) (l1 : 1 ≤ a.2) (l2 : a.2 ≤ B) : ∃ a, mP f .prefix_ full i o = .ok a (i + k) o ∧ 1 ≤ a.2 ∧ a.2 ≤ B := ⟨a, by rw [h, hj], l1, l2⟩
theorem max1 (x : Int) : maxI [x] = x := rfl
theorem max2 {x y m : Int} (hx : 1 ≤ x) (h1 : x ≤ m) (h2 : y ≤ m) : 1 ≤ 1 + maxI [x, y] ∧ 1 + maxI [x, y] ≤ 1 + m := by
  have e : maxI [x, y] = if y > x then y else x := rfl
  rw [e]
  split <;> omega
theorem max3 {x y z m : Int} (hx : 1 ≤ x) (h1 : x ≤ m) (h2 : y ≤ m) (h3 : z ≤ m) : 1 ≤ 1 + maxI [x, y, z] ∧ 1 + maxI [x, y, z] ≤ 1 + m := by
  have e : maxI [x, y, z] = if (if z > y then z else y) > x then (if z > y then z else y) else x := rfl
  rw [e]
  split <;> split <;> omega
theorem Pfx.pfx {sh : List (Str × U)} {n : Nat} {ta rest : List Tk} {e : Tk} (hp : Pfx sh n) (h1 : full.drop i = ta ++ e :: rest) (ka : ta.map kv = sh) (he : atomB e = false) (ho : o + (4 * n + 4) ≤ 59) (hf : 12 * n + 20 ≤ g) :
    ∃ a, mP g .prefix_ full i o = .ok a (i + ta.length) o ∧ 1 ≤ a.2 ∧ a.2 ≤ 3 * n + 3 := hp full ta e rest i o g h1 ka he ho hf
theorem Hd.kw {sh : List (Str × U)} {ta ss : List Tk} (hh : Hd sh) (ka : ta.map kv = sh) (h1 : full.drop i = ta ++ ss) : ∃ u r, full.drop i = u :: r ∧ kwB u.v = false := by
  obtain ⟨q, rest, rfl, hq⟩ := hh
  obtain ⟨ua, us, rfl, kua, _⟩ := kv_cons ka
  exact ⟨ua, us ++ ss, h1, by rw [← kua] at hq; exact hq⟩
theorem Pfx.expr {sh : List (Str × U)} {n : Nat} {ta rest : List Tk} {e : Tk} (hp : Pfx sh n) (hh : Hd sh) (h1 : full.drop i = ta ++ e :: rest) (ka : ta.map kv = sh) (he : atomB e = false) (hop : opB e.v = false) (ho : o + 1 + (4 * n + 4) ≤ 59) (hf : 12 * n + 20 ≤ g) :
    ∃ a, mP (g + 4) .expr full i o = .ok a (i + ta.length) o ∧ 1 ≤ a.2 ∧ a.2 ≤ 3 * n + 3 := by
  obtain ⟨a, ha, l1, l2⟩ := hp.pfx (o := o + 1) h1 ka he ho hf
  obtain ⟨u, r, h0, hu⟩ := hh.kw ka h1
  exact ⟨a, expr_pfx (by omega) ha h0 hu (by omega) (dropk h1) hop, l1, l2⟩
/-- ( .. ): a prefix, from an expression inside -/
theorem par_run (hg : 3 ≤ g) (h0 : full.drop i = u :: r) (ku : kv u = sg "(") (ho : o ≠ 60) (hx : mP g .expr full (i + 1) (o + 1) = .ok a i1 (o + 1)) {e : Tk} (h2 : full.drop i1 = e :: t :: r1) (ke : kv e = sg ")") (ht : atomB t = false) : mP (g + 4) .prefix_ full i o = .ok a (i1 + 1) o :=
  pfx_atom (by omega) h0 (by rw [show u.v = .str "(" from congrArg Prod.snd ku]; decide +kernel) ho (atom_par hg h0 ku hx h2 ke) (nxt h2) ht
/-- ( a ) -/
theorem par_pfx {sh : List (Str × U)} {n : Nat} (hp : Pfx sh n) (hh : Hd sh) {ts post : List Tk} {f : Nat} (hd : full.drop i = ts ++ t :: post) (hk : ts.map kv = sg "(" :: (sh ++ [sg ")"])) (ht : atomB t = false) (ho : o + (4 * n + 6) ≤ 59) (hf : 12 * n + 28 ≤ f) :
    ∃ a, mP f .prefix_ full i o = .ok a (i + ts.length) o ∧ 1 ≤ a.2 ∧ a.2 ≤ 3 * n + 3 := by
  obtain ⟨u, us, rfl, ku, hk⟩ := kv_cons hk
  obtain ⟨ta, te, rfl, ka, ke⟩ := kv_app hk
  obtain ⟨e, es, rfl, ke2, kn⟩ := kv_cons ke
  have hes : es = [] := List.map_eq_nil_iff.mp kn
  subst hes
  have h0 : full.drop i = u :: (ta ++ e :: t :: post) := by rw [hd]; simp
  have h1 := nxt h0
  have h2 : full.drop (i + 1 + ta.length) = e :: t :: post := dropk h1
  obtain ⟨g, rfl⟩ : ∃ g, f = g + 8 := ⟨f - 8, by omega⟩
  obtain ⟨a, hx, l1, l2⟩ := hp.expr (o := o + 1) (g := g) hh h1 ka (by rw [atomB_kv ke2]; decide +kernel) (by rw [show e.v = .str ")" from congrArg Prod.snd ke2]; decide +kernel) (by omega) (by omega)
  refine ⟨a, ?_, l1, l2⟩
  rw [par_run (by omega) h0 ku (by omega) hx h2 ke2 ht]
  simp only [List.length_cons, List.length_append, List.length_nil]
  congr 1
  omega
theorem pfx_par {sh : List (Str × U)} {n : Nat} (hp : Pfx sh n) (hh : Hd sh) : Pfx (sg "(" :: (sh ++ [sg ")"])) (n + 1) := by
  intro full ts t post i o f hd hk ht ho hf
  obtain ⟨a, ha, l1, l2⟩ := par_pfx (o := o) (f := f) hp hh hd hk ht (by omega) (by omega)
  exact ⟨a, ha, l1, by omega⟩
/-- fst ( a ) -/
theorem pfx_fst {sh : List (Str × U)} {n : Nat} (hp : Pfx sh n) (hh : Hd sh) (hn : n ≤ 8) : Pfx (wd "fst" :: sg "(" :: (sh ++ [sg ")"])) (n + 1) := by
  intro full ts t post i o f hd hk ht ho hf
  obtain ⟨u, us, rfl, ku, hk⟩ := kv_cons hk
  have h0 : full.drop i = u :: (us ++ t :: post) := by rw [hd]; rfl
  obtain ⟨g, rfl⟩ : ∃ g, f = g + 1 := ⟨f - 1, by omega⟩
  obtain ⟨a, ha, l1, l2⟩ := par_pfx (o := o + 1) (f := g) hp hh (nxt h0) hk ht (by omega) (by omega)
  refine ⟨(.tup [u.v, a.1], 1 + maxI [a.2]), ?_, by rw [max1]; omega, by rw [max1]; omega⟩
  rw [mP_suc (by omega), prefix_word h0 (by rw [show u.v = .str "fst" from congrArg Prod.snd ku]; decide +kernel) (by omega) ha (by rw [max1]; omega)]
  simp only [List.length_cons]
  congr 1
  omega
theorem expr_let {P : Nm → PT} (h0 : full.drop i = u :: r) (hv : u.v = .str "let") (ho : o ≠ 60) (h : P .let_ full (i + 1) (o + 1) = .ok a i1 (o + 1)) : mB P .expr full i o = .ok a i1 o := by
  simp only [mB]
  rw [enter_ok ho, bok, skips_no h0 (by rw [hv]; decide +kernel), bok, ff, skips_no h0 (by rw [hv]; decide +kernel), bok, ff, skips_yes h0 (by rw [hv]; decide +kernel), bok, tt, h, bok, leave_ok, bok]
theorem expr_if {P : Nm → PT} (h0 : full.drop i = u :: r) (hv : u.v = .str "if") (ho : o ≠ 60) (h : P .if_ full (i + 1) (o + 1) = .ok a i1 (o + 1)) : mB P .expr full i o = .ok a i1 o := by
  simp only [mB]
  rw [enter_ok ho, bok, skips_no h0 (by rw [hv]; decide +kernel), bok, ff, skips_no h0 (by rw [hv]; decide +kernel), bok, ff, skips_no h0 (by rw [hv]; decide +kernel), bok, ff, skips_yes h0 (by rw [hv]; decide +kernel), bok, tt, h, bok, leave_ok, bok]
theorem let_of {P : Nm → PT} {x q n : Tk} {r3 : List Tk} (h0 : full.drop i = x :: q :: r) (hx : x.k = "name") (hq : q.v = .str "=") (h : P .expr full (i + 1 + 1) o = .ok a i1 o) (hn : full.drop i1 = n :: r3) (hnv : n.v = .str "in") (h2 : P .expr full (i1 + 1) o = .ok b i2 o) (hd : 1 + maxI [a.2, b.2] ≤ 60) :
    mB P .let_ full i o = .ok (.tup [.str "let", x.v, a.1, b.1], 1 + maxI [a.2, b.2]) i2 o := by
  simp only [mB]
  rw [name_yes h0 hx, bok, take_yes (nxt h0) (by rw [hq]; decide +kernel), bok, h, bok, take_yes hn (by rw [hnv]; decide +kernel), bok, h2, bok, built_ok (qs := [a, b]) hd]
  rfl
theorem if_of {P : Nm → PT} {c : U × Int} {i3 : Nat} {n m : Tk} (h : P .expr full i o = .ok c i1 o) (hn : full.drop i1 = n :: r1) (hnv : n.v = .str "then") (h2 : P .expr full (i1 + 1) o = .ok a i2 o) (hm : full.drop i2 = m :: r2) (hmv : m.v = .str "else") (h3 : P .expr full (i2 + 1) o = .ok b i3 o) (hd : 1 + maxI [c.2, a.2, b.2] ≤ 60) :
    mB P .if_ full i o = .ok (.tup [.str "if", c.1, a.1, b.1], 1 + maxI [c.2, a.2, b.2]) i3 o := by
  simp only [mB]
  rw [h, bok, take_yes hn (by rw [hnv]; decide +kernel), bok, h2, bok, take_yes hm (by rw [hmv]; decide +kernel), bok, h3, bok, built_ok (qs := [c, a, b]) hd]
  rfl
theorem nop (x : Str) (e : Tk) (q : Str × U) (h : kv e = q) (h1 : (decide (q.1 = "number") || decide (q.1 = "name") || ([U.str "true", .str "false", .str "unit", .str "("].any fun y => Oz.eqU y q.2)) = false) : atomB e = false := by rw [atomB_kv h]; exact h1
/-- (let z = a in b) -/
theorem pfx_let {sa sb : List (Str × U)} {n : Nat} (hp : Pfx sa n) (hh : Hd sa) (hp2 : Pfx sb n) (hh2 : Hd sb) (hn : n ≤ 8) : Pfx (sg "(" :: wd "let" :: na "z" :: sg "=" :: (sa ++ wd "in" :: (sb ++ [sg ")"]))) (n + 1) := by
  intro full ts t post i o f hd hk ht ho hf
  obtain ⟨u, us, rfl, ku, hk⟩ := kv_cons hk
  obtain ⟨w, us, rfl, kw, hk⟩ := kv_cons hk
  obtain ⟨z, us, rfl, kz, hk⟩ := kv_cons hk
  obtain ⟨q, us, rfl, kq, hk⟩ := kv_cons hk
  obtain ⟨ta, te, rfl, ka, hk⟩ := kv_app hk
  obtain ⟨m, us, rfl, km, hk⟩ := kv_cons hk
  obtain ⟨tb, te, rfl, kb, ke⟩ := kv_app hk
  obtain ⟨e, es, rfl, ke2, kn⟩ := kv_cons ke
  have hes : es = [] := List.map_eq_nil_iff.mp kn
  subst hes
  have h0 : full.drop i = u :: w :: z :: q :: (ta ++ m :: (tb ++ e :: t :: post)) := by rw [hd]; simp
  have h1 := nxt h0
  have h2 := nxt h1
  have h3 := nxt (nxt h2)
  have h4 := dropk h3
  have h5 := nxt h4
  have h6 := dropk h5
  obtain ⟨g, rfl⟩ : ∃ g, f = g + 10 := ⟨f - 10, by omega⟩
  obtain ⟨a, ha, l1, l2⟩ := hp.expr (o := o + 1 + 1) (g := g) hh h3 ka (by rw [atomB_kv km]; decide +kernel) (by rw [show m.v = .str "in" from congrArg Prod.snd km]; decide +kernel) (by omega) (by omega)
  obtain ⟨b, hb, m1, m2⟩ := hp2.expr (o := o + 1 + 1) (g := g) hh2 h5 kb (by rw [atomB_kv ke2]; decide +kernel) (by rw [show e.v = .str ")" from congrArg Prod.snd ke2]; decide +kernel) (by omega) (by omega)
  have hm := max2 l1 l2 m2
  have hl := let_of (P := mP (g + 4)) h2 (congrArg Prod.fst kz) (congrArg Prod.snd kq) ha h4 (congrArg Prod.snd km) hb (by omega)
  have hx : mP (g + 6) .expr full (i + 1) (o + 1) = .ok (.tup [.str "let", z.v, a.1, b.1], 1 + maxI [a.2, b.2]) (i + 1 + 1 + 1 + 1 + ta.length + 1 + tb.length) (o + 1) := by
    rw [mP_suc (by omega)]
    refine expr_let h1 (congrArg Prod.snd kw) (by omega) ?_
    rw [mP_suc (by omega)]
    exact hl
  exact fin3 (par_run (by omega) h0 ku (by omega) hx h6 ke2 ht) (by simp only [List.length_cons, List.length_append, List.length_nil]; omega) hm.1 (Int.le_trans hm.2 (by omega))
/-- one token that is an atom -/
theorem pfx_one {q : Str × U} (n : Nat) (hq : pwB q.2 = false) (h : ∀ (P : Nm → PT) (full : List Tk) (u : Tk) (i : Nat) (o : Int), kv u = q → ∃ x, mAt P full i o u = .ok (x, 1) (i + 1) o) : Pfx [q] n := by
  intro full ts t post i o f hd hk ht ho hf
  obtain ⟨u, us, rfl, ku, kn⟩ := kv_cons hk
  have hes : us = [] := List.map_eq_nil_iff.mp kn
  subst hes
  obtain ⟨g, rfl⟩ : ∃ g, f = g + 3 := ⟨f - 3, by omega⟩
  obtain ⟨x, hx⟩ := h (mP g) full u i (o + 1) ku
  have hat : mP (g + 1) .atom full i (o + 1) = .ok (x, 1) (i + 1) (o + 1) := by
    rw [mP_suc (by omega)]
    show mCur full i (mAt (mP g) full i (o + 1)) = _
    rw [cur hd, hx]
  exact fin3 (pfx_atom (by omega) hd (by rw [show u.v = q.2 from congrArg Prod.snd ku]; exact hq) (by omega) hat (nxt hd) ht) (by simp) (show (1 : Int) ≤ 1 by decide) (show (1 : Int) ≤ 3 * n + 3 by omega)
theorem pfx_name (n : Nat) (x : Str) (hx : pwB (.str x) = false) : Pfx [na x] n := pfx_one n hx fun P full u i o ku => by
  obtain ⟨k, v, p⟩ := u
  have hk1 : k = "name" := congrArg Prod.fst ku
  have hv1 : v = .str x := congrArg Prod.snd ku
  subst hk1 hv1
  refine ⟨.tup [.str "name", .str x], ?_⟩
  unfold mAt
  rw [if_pos (by rw [atomB_kv (q := na x) rfl]; rfl), if_neg (show ¬ (("name" : Str) = "number") by decide +kernel), if_pos rfl]
theorem pfx_num (n : Nat) (x : Int) (hx : pwB (.int x) = false) : Pfx [("number", .int x)] n := pfx_one n hx fun P full u i o ku => by
  obtain ⟨k, v, p⟩ := u
  have hk1 : k = "number" := congrArg Prod.fst ku
  have hv1 : v = .int x := congrArg Prod.snd ku
  subst hk1 hv1
  refine ⟨.tup [.str "num", .int x], ?_⟩
  unfold mAt
  rw [if_pos (by rw [atomB_kv (q := ("number", .int x)) rfl]; rfl), if_pos rfl]
theorem pfx_true (n : Nat) : Pfx [wd "true"] n := pfx_one n (by decide +kernel) fun P full u i o ku => by
  obtain ⟨k, v, p⟩ := u
  have hk1 : k = "word" := congrArg Prod.fst ku
  have hv1 : v = .str "true" := congrArg Prod.snd ku
  subst hk1 hv1
  refine ⟨.tup [.str "flag", .bl (decide (("true" : Str) = "true"))], ?_⟩
  unfold mAt
  rw [if_pos (by kernel_rfl), if_neg (show ¬ (("word" : Str) = "number") by decide +kernel), if_neg (show ¬ (("word" : Str) = "name") by decide +kernel)]
  dsimp only
  rw [if_neg (show ¬ (("true" : Str) = "unit") by decide +kernel), if_neg (show ¬ (("true" : Str) = "(") by decide +kernel)]
theorem pfx_unit (n : Nat) : Pfx [wd "unit"] n := pfx_one n (by decide +kernel) fun P full u i o ku => by
  obtain ⟨k, v, p⟩ := u
  have hk1 : k = "word" := congrArg Prod.fst ku
  have hv1 : v = .str "unit" := congrArg Prod.snd ku
  subst hk1 hv1
  refine ⟨.tup [.str "unit"], ?_⟩
  unfold mAt
  rw [if_pos (by kernel_rfl), if_neg (show ¬ (("word" : Str) = "number") by decide +kernel), if_neg (show ¬ (("word" : Str) = "name") by decide +kernel)]
  dsimp only
  rw [if_pos rfl]
theorem pfx_x (n : Nat) : Pfx [na "x"] n := pfx_name n "x" (by decide +kernel)
/-- (if c then a else x) -/
theorem pfx_if {sa sb : List (Str × U)} {n : Nat} (hp : Pfx sa n) (hh : Hd sa) (hp2 : Pfx sb n) (hh2 : Hd sb) (hn : n ≤ 8) : Pfx (sg "(" :: wd "if" :: (sa ++ wd "then" :: (sb ++ [wd "else", na "x", sg ")"]))) (n + 1) := by
  intro full ts t post i o f hd hk ht ho hf
  obtain ⟨u, us, rfl, ku, hk⟩ := kv_cons hk
  obtain ⟨w, us, rfl, kw, hk⟩ := kv_cons hk
  obtain ⟨ta, te, rfl, ka, hk⟩ := kv_app hk
  obtain ⟨m, us, rfl, km, hk⟩ := kv_cons hk
  obtain ⟨tb, te, rfl, kb, ke⟩ := kv_app hk
  obtain ⟨q, es, rfl, kq, kn⟩ := kv_cons ke
  obtain ⟨x, es, rfl, kx, kn⟩ := kv_cons kn
  obtain ⟨e, es, rfl, ke2, kn⟩ := kv_cons kn
  have hes : es = [] := List.map_eq_nil_iff.mp kn
  subst hes
  have h0 : full.drop i = u :: w :: (ta ++ m :: (tb ++ q :: x :: e :: t :: post)) := by rw [hd]; simp
  have h1 := nxt h0
  have h2 := nxt h1
  have h3 := dropk h2
  have h4 := nxt h3
  have h5 := dropk h4
  have h6 := nxt h5
  have h7 := nxt h6
  obtain ⟨g, rfl⟩ : ∃ g, f = g + 10 := ⟨f - 10, by omega⟩
  obtain ⟨c, hc, l1, l2⟩ := hp.expr (o := o + 1 + 1) (g := g) hh h2 ka (by rw [atomB_kv km]; decide +kernel) (by rw [show m.v = .str "then" from congrArg Prod.snd km]; decide +kernel) (by omega) (by omega)
  obtain ⟨a, ha, m1, m2⟩ := hp2.expr (o := o + 1 + 1) (g := g) hh2 h4 kb (by rw [atomB_kv kq]; decide +kernel) (by rw [show q.v = .str "else" from congrArg Prod.snd kq]; decide +kernel) (by omega) (by omega)
  obtain ⟨b, hb, p1, p2⟩ := (pfx_x n).expr (o := o + 1 + 1) (g := g) (ta := [x]) (rest := t :: post) ⟨na "x", [], rfl, by decide +kernel⟩ h6 (by rw [List.map_singleton, kx]) (by rw [atomB_kv ke2]; decide +kernel) (by rw [show e.v = .str ")" from congrArg Prod.snd ke2]; decide +kernel) (by omega) (by omega)
  have hm := max3 l1 l2 m2 p2
  have hl := if_of (P := mP (g + 4)) hc h3 (congrArg Prod.snd km) ha h5 (congrArg Prod.snd kq) hb (by omega)
  have hx : mP (g + 6) .expr full (i + 1) (o + 1) = .ok (.tup [.str "if", c.1, a.1, b.1], 1 + maxI [c.2, a.2, b.2]) (i + 1 + 1 + ta.length + 1 + tb.length + 1 + 1) (o + 1) := by
    rw [mP_suc (by omega)]
    refine expr_if h1 (congrArg Prod.snd kw) (by omega) ?_
    rw [mP_suc (by omega)]
    exact hl
  exact fin3 (par_run (by omega) h0 ku (by omega) hx h7 ke2 ht) (by simp only [List.length_cons, List.length_append, List.length_nil]; omega) hm.1 (Int.le_trans hm.2 (by omega))
/-- (a s b), s an operator -/
theorem pfx_op {sa sb : List (Str × U)} {n : Nat} {s : Str} (hs : s = "+" ∨ s = "-" ∨ s = "*" ∨ s = "<" ∨ s = "==") (hp : Pfx sa n) (hh : Hd sa) (hp2 : Pfx sb n) (hh2 : Hd sb) (hn : n ≤ 8) : Pfx (sg "(" :: (sa ++ sg s :: (sb ++ [sg ")"]))) (n + 1) := by
  intro full ts t post i o f hd hk ht ho hf
  obtain ⟨u, us, rfl, ku, hk⟩ := kv_cons hk
  obtain ⟨ta, te, rfl, ka, hk⟩ := kv_app hk
  obtain ⟨m, us, rfl, km, hk⟩ := kv_cons hk
  obtain ⟨tb, te, rfl, kb, ke⟩ := kv_app hk
  obtain ⟨e, es, rfl, ke2, kn⟩ := kv_cons ke
  have hes : es = [] := List.map_eq_nil_iff.mp kn
  subst hes
  have h0 : full.drop i = u :: (ta ++ m :: (tb ++ e :: t :: post)) := by rw [hd]; simp
  have h1 := nxt h0
  have h2 := dropk h1
  have h3 := nxt h2
  have h4 := dropk h3
  obtain ⟨g, rfl⟩ : ∃ g, f = g + 8 := ⟨f - 8, by omega⟩
  have hmv : m.v = .str s := congrArg Prod.snd km
  have hev : e.v = .str ")" := congrArg Prod.snd ke2
  obtain ⟨a, ha, l1, l2⟩ := hp.pfx (o := o + 1 + 1) (g := g) h1 ka (by rw [atomB_kv km]; rcases hs with rfl | rfl | rfl | rfl | rfl <;> decide +kernel) (by omega) (by omega)
  obtain ⟨b, hb, m1, m2⟩ := hp2.pfx (o := o + 1 + 1) (g := g) h3 kb (by rw [atomB_kv ke2]; decide +kernel) (by omega) (by omega)
  have hm := max2 l1 l2 m2
  obtain ⟨v, r, hv, hvk⟩ := hh.kw ka h1
  have hx : mP (g + 4) .expr full (i + 1) (o + 1) = .ok (.tup [.str "op", .str s, a.1, b.1], 1 + maxI [a.2, b.2]) (i + 1 + ta.length + 1 + tb.length) (o + 1) := by
    rw [mP_suc (by omega)]
    refine expr_of hv hvk (by omega) ?_
    rw [mP_suc (by omega)]
    have star : ∀ {j o' : _} {x : U × Int} {i3 : Nat} {y : Tk} {r3 : List Tk}, mP g .prefix_ full j o' = .ok x i3 o' → full.drop i3 = y :: r3 → Oz.eqU (.str "*") y.v = false → mP (g + 1) .prod full j o' = .ok x i3 o' := fun h hn hy => by
      rw [mP_suc (by omega)]
      exact prod_of h hn hy
    have plus : ∀ {j o' : _} {x : U × Int} {i3 : Nat} {y : Tk} {r3 : List Tk}, mP g .prefix_ full j o' = .ok x i3 o' → full.drop i3 = y :: r3 → Oz.eqU (.str "*") y.v = false → ([U.str "+", .str "-"].any fun z => Oz.eqU z y.v) = false → mP (g + 2) .sum full j o' = .ok x i3 o' := fun h hn hy hz => by
      rw [mP_suc (by omega)]
      exact sum_of (star h hn hy) hn hz
    have e1 : Oz.eqU (.str "*") e.v = false := by rw [hev]; decide +kernel
    have e2 : ([U.str "+", .str "-"].any fun z => Oz.eqU z e.v) = false := by rw [hev]; decide +kernel
    have e3 : ([U.str "<", .str "=="].any fun z => Oz.eqU z e.v) = false := by rw [hev]; decide +kernel
    rcases hs with rfl | rfl | rfl | rfl | rfl
    · refine comp_of ?_ h4 e3
      rw [mP_suc (by omega), sum_op (star ha h2 (by rw [hmv]; decide +kernel)) h2 (by rw [hmv]; decide +kernel) (star hb h4 e1) h4 e2 (by omega), hmv]
    · refine comp_of ?_ h4 e3
      rw [mP_suc (by omega), sum_op (star ha h2 (by rw [hmv]; decide +kernel)) h2 (by rw [hmv]; decide +kernel) (star hb h4 e1) h4 e2 (by omega), hmv]
    · refine comp_of ?_ h4 e3
      rw [mP_suc (by omega)]
      refine sum_of ?_ h4 e2
      rw [mP_suc (by omega)]
      exact prod_op ha h2 (by rw [hmv]; decide +kernel) hb h4 e1 (by omega)
    · rw [comp_op (plus ha h2 (by rw [hmv]; decide +kernel) (by rw [hmv]; decide +kernel)) h2 (by rw [hmv]; decide +kernel) (plus hb h4 e1 e2) (by omega), hmv]
    · rw [comp_op (plus ha h2 (by rw [hmv]; decide +kernel) (by rw [hmv]; decide +kernel)) h2 (by rw [hmv]; decide +kernel) (plus hb h4 e1 e2) (by omega), hmv]
  exact fin3 (par_run (by omega) h0 ku (by omega) hx h4 ke2 ht) (by simp only [List.length_cons, List.length_append, List.length_nil]; omega) hm.1 (Int.le_trans hm.2 (by omega))
end Pr

end

section
set_option maxHeartbeats 4000000
namespace Pr
open PySem L2 Oz
variable {full : List Tk} {i i1 i2 : Nat} {o : Int} {t u : Tk} {r r1 r2 : List Tk} {a b : U × Int} {g : Nat}
/-- (a)(b) -/
theorem pfx_app {sa sb : List (Str × U)} {n : Nat} (hp : Pfx sa n) (hh : Hd sa) (hp2 : Pfx sb n) (hh2 : Hd sb) (hn : n ≤ 8) : Pfx (sg "(" :: (sa ++ sg ")" :: sg "(" :: (sb ++ [sg ")"]))) (n + 1) := by
  intro full ts t post i o f hd hk ht ho hf
  obtain ⟨u, us, rfl, ku, hk⟩ := kv_cons hk
  obtain ⟨ta, te, rfl, ka, hk⟩ := kv_app hk
  obtain ⟨m, us, rfl, km, hk⟩ := kv_cons hk
  obtain ⟨q, us, rfl, kq, hk⟩ := kv_cons hk
  obtain ⟨tb, te, rfl, kb, ke⟩ := kv_app hk
  obtain ⟨e, es, rfl, ke2, kn⟩ := kv_cons ke
  have hes : es = [] := List.map_eq_nil_iff.mp kn
  subst hes
  have h0 : full.drop i = u :: (ta ++ m :: q :: (tb ++ e :: t :: post)) := by rw [hd]; simp
  have h1 := nxt h0
  have h2 := dropk h1
  have h3 := nxt h2
  have h4 := nxt h3
  have h5 := dropk h4
  have h6 := nxt h5
  obtain ⟨g, rfl⟩ : ∃ g, f = g + 8 := ⟨f - 8, by omega⟩
  obtain ⟨a, ha, l1, l2⟩ := hp.expr (o := o + 1) (g := g) hh h1 ka (by rw [atomB_kv km]; decide +kernel) (by rw [show m.v = .str ")" from congrArg Prod.snd km]; decide +kernel) (by omega) (by omega)
  obtain ⟨b, hb, m1, m2⟩ := hp2.expr (o := o + 1) (g := g) hh2 h4 kb (by rw [atomB_kv ke2]; decide +kernel) (by rw [show e.v = .str ")" from congrArg Prod.snd ke2]; decide +kernel) (by omega) (by omega)
  have hm := max2 l1 l2 m2
  have x1 := atom_par (by omega) h0 ku ha h2 km
  have x2 := atom_par (by omega) h3 kq hb h5 ke2
  have hx : mP (g + 8) .prefix_ full i o = .ok (.tup [.str "call", a.1, b.1], 1 + maxI [a.2, b.2]) (i + 1 + ta.length + 1 + 1 + tb.length + 1) o := by
    rw [mP_suc (by omega)]
    refine prefix_call h0 (by rw [show u.v = .str "(" from congrArg Prod.snd ku]; decide +kernel) (by omega) ?_
    rw [mP_suc (by omega)]
    exact call_app x1 h3 (by rw [atomB_kv kq]; decide +kernel) x2 h6 ht (by omega)
  exact fin3 hx (by simp only [List.length_cons, List.length_append, List.length_nil]; omega) hm.1 (Int.le_trans hm.2 (by omega))
abbrev nu (x : Int) : Str × U := ("number", .int x)
theorem at_name {x : Str} (P : Nm → PT) (h : full.drop i = u :: r) (ku : kv u = na x) : mB P .atom full i o = .ok (.tup [.str "name", .str x], 1) (i + 1) o := by
  show mCur full i (mAt P full i o) = _
  rw [cur h]
  obtain ⟨k, v, p⟩ := u
  have hk1 : k = "name" := congrArg Prod.fst ku
  have hv1 : v = .str x := congrArg Prod.snd ku
  subst hk1 hv1
  unfold mAt
  rw [if_pos (by rw [atomB_kv (q := na x) rfl]; rfl), if_neg (show ¬ (("name" : Str) = "number") by decide +kernel), if_pos rfl]
theorem at_num {x : Int} (P : Nm → PT) (h : full.drop i = u :: r) (ku : kv u = nu x) : mB P .atom full i o = .ok (.tup [.str "num", .int x], 1) (i + 1) o := by
  show mCur full i (mAt P full i o) = _
  rw [cur h]
  obtain ⟨k, v, p⟩ := u
  have hk1 : k = "number" := congrArg Prod.fst ku
  have hv1 : v = .int x := congrArg Prod.snd ku
  subst hk1 hv1
  unfold mAt
  rw [if_pos (by rw [atomB_kv (q := nu x) rfl]; rfl), if_pos rfl]
/-- an expression of one token -/
theorem one_expr {x e : Tk} {rest : List Tk} {T : U} (hat : ∀ (P : Nm → PT) (o : Int), mB P .atom full i o = .ok (T, 1) (i + 1) o) (hp : pwB x.v = false) (hk : kwB x.v = false) (h : full.drop i = x :: e :: rest) (he : atomB e = false) (hop : opB e.v = false) (ho : o ≤ 58) (hg : 10 ≤ g) : mP g .expr full i o = .ok (T, 1) (i + 1) o := by
  obtain ⟨g, rfl⟩ : ∃ k, g = k + 7 := ⟨g - 7, by omega⟩
  have h1 : mP (g + 1) .atom full i (o + 1 + 1) = .ok (T, 1) (i + 1) (o + 1 + 1) := by
    rw [mP_suc (by omega)]
    exact hat _ _
  exact expr_pfx (g := g + 3) (by omega) (pfx_atom (g := g + 1) (by omega) h hp (by omega) h1 (nxt h) he) h hk (by omega) (nxt h) hop
theorem group_pair {P : Nm → PT} {c e : Tk} (h : P .expr full i o = .ok a i1 o) (hn : full.drop i1 = c :: r) (hc : c.v = .str ",") (h2 : P .expr full (i1 + 1) o = .ok b i2 o) (he : full.drop i2 = e :: r2) (hev : e.v = .str ")") (hd : 1 + maxI [a.2, b.2] ≤ 60) :
    mB P .group full i o = .ok (.tup [.str "pair", a.1, b.1], 1 + maxI [a.2, b.2]) (i2 + 1) o := by
  simp only [mB]
  rw [h, bok, skips_no hn (by rw [hc]; decide +kernel), bok, ff, skips_yes hn (by rw [hc]; decide +kernel), bok, tt, h2, bok, take_yes he (by rw [hev]; decide +kernel), bok, built_ok (qs := [a, b]) hd]
  rfl
theorem group_as {P : Nm → PT} {c e : Tk} (h : P .expr full i o = .ok a i1 o) (hn : full.drop i1 = c :: r) (hc : c.v = .str ":") (h2 : P .annot full (i1 + 1) o = .ok b i2 o) (he : full.drop i2 = e :: r2) (hev : e.v = .str ")") (hd : 1 + maxI [a.2, b.2] ≤ 60) :
    mB P .group full i o = .ok (.tup [.str "as", a.1, b.1], 1 + maxI [a.2, b.2]) (i2 + 1) o := by
  simp only [mB]
  rw [h, bok, skips_yes hn (by rw [hc]; decide +kernel), bok, tt, h2, bok, take_yes he (by rw [hev]; decide +kernel), bok, built_ok (qs := [a, b]) hd]
  rfl
theorem annot_int {e : Tk} (hg : 3 ≤ g) (h : full.drop i = u :: e :: r) (hu : u.v = .str "int") (he : Oz.eqU (.str "->") e.v = false) (ho : o ≠ 60) : mP (g + 2) .annot full i o = .ok (.tup [.str "int"], 1) (i + 1) o := by
  rw [mP_suc (by omega)]
  simp only [mB]
  rw [mP_suc hg]
  simp only [mB]
  rw [enter_ok ho, bok, skips_no h (by rw [hu]; decide +kernel), bok, ff, skips_no h (by rw [hu]; decide +kernel), bok, ff, take_yes h (by rw [hu]; decide +kernel), bok, leave_ok, bok, bok, skips_no (nxt h) he, bok, hu]
  rfl
theorem pfx_pair (n : Nat) : Pfx [sg "(", ("number", .int 1), sg ",", ("number", .int 2), sg ")"] n := by
  intro full ts t post i o f hd hk ht ho hf
  obtain ⟨u, us, rfl, ku, hk⟩ := kv_cons hk
  obtain ⟨x, us, rfl, kx, hk⟩ := kv_cons hk
  obtain ⟨c, us, rfl, kc, hk⟩ := kv_cons hk
  obtain ⟨y, us, rfl, ky, hk⟩ := kv_cons hk
  obtain ⟨e, us, rfl, ke, hk⟩ := kv_cons hk
  have hes : us = [] := List.map_eq_nil_iff.mp hk
  subst hes
  have h0 : full.drop i = u :: x :: c :: y :: e :: t :: post := hd
  have h1 := nxt h0
  have h2 := nxt h1
  have h3 := nxt h2
  have h4 := nxt h3
  have h5 := nxt h4
  obtain ⟨g, rfl⟩ : ∃ g, f = g + 8 := ⟨f - 8, by omega⟩
  have ha := one_expr (o := o + 1) (g := g + 4) (fun P o => at_num P h1 kx) (by rw [show x.v = .int 1 from congrArg Prod.snd kx]; decide +kernel) (by rw [show x.v = .int 1 from congrArg Prod.snd kx]; decide +kernel) h1 (by rw [atomB_kv kc]; decide +kernel) (by rw [show c.v = .str "," from congrArg Prod.snd kc]; decide +kernel) (by omega) (by omega)
  have hb := one_expr (o := o + 1) (g := g + 4) (fun P o => at_num P h3 ky) (by rw [show y.v = .int 2 from congrArg Prod.snd ky]; decide +kernel) (by rw [show y.v = .int 2 from congrArg Prod.snd ky]; decide +kernel) h3 (by rw [atomB_kv ke]; decide +kernel) (by rw [show e.v = .str ")" from congrArg Prod.snd ke]; decide +kernel) (by omega) (by omega)
  have hgr := group_pair (P := mP (g + 4)) ha h2 (congrArg Prod.snd kc) hb h4 (congrArg Prod.snd ke) (by decide)
  have hat : mP (g + 6) .atom full i (o + 1) = .ok (.tup [.str "pair", .tup [.str "num", .int 1], .tup [.str "num", .int 2]], 2) (i + 1 + 1 + 1 + 1 + 1) (o + 1) := by
    rw [mP_suc (by omega)]
    refine atom_group h0 (congrArg Prod.fst ku) (congrArg Prod.snd ku) ?_
    rw [mP_suc (by omega)]
    exact hgr
  exact fin3 (pfx_atom (by omega) h0 (by rw [show u.v = .str "(" from congrArg Prod.snd ku]; decide +kernel) (by omega) hat h5 ht) (by simp only [List.length_cons, List.length_nil]) (show (1 : Int) ≤ 2 by decide) (show (2 : Int) ≤ 3 * n + 3 by omega)
theorem pfx_as (n : Nat) : Pfx [sg "(", na "x", sg ":", wd "int", sg ")"] n := by
  intro full ts t post i o f hd hk ht ho hf
  obtain ⟨u, us, rfl, ku, hk⟩ := kv_cons hk
  obtain ⟨x, us, rfl, kx, hk⟩ := kv_cons hk
  obtain ⟨c, us, rfl, kc, hk⟩ := kv_cons hk
  obtain ⟨y, us, rfl, ky, hk⟩ := kv_cons hk
  obtain ⟨e, us, rfl, ke, hk⟩ := kv_cons hk
  have hes : us = [] := List.map_eq_nil_iff.mp hk
  subst hes
  have h0 : full.drop i = u :: x :: c :: y :: e :: t :: post := hd
  have h1 := nxt h0
  have h2 := nxt h1
  have h3 := nxt h2
  have h4 := nxt h3
  have h5 := nxt h4
  obtain ⟨g, rfl⟩ : ∃ g, f = g + 8 := ⟨f - 8, by omega⟩
  have ha := one_expr (o := o + 1) (g := g + 4) (fun P o => at_name P h1 kx) (by rw [show x.v = .str "x" from congrArg Prod.snd kx]; decide +kernel) (by rw [show x.v = .str "x" from congrArg Prod.snd kx]; decide +kernel) h1 (by rw [atomB_kv kc]; decide +kernel) (by rw [show c.v = .str ":" from congrArg Prod.snd kc]; decide +kernel) (by omega) (by omega)
  have hb := annot_int (g := g + 2) (o := o + 1) (by omega) h3 (congrArg Prod.snd ky) (by rw [show e.v = .str ")" from congrArg Prod.snd ke]; decide +kernel) (by omega)
  have hgr := group_as (P := mP (g + 4)) ha h2 (congrArg Prod.snd kc) hb h4 (congrArg Prod.snd ke) (by decide)
  have hat : mP (g + 6) .atom full i (o + 1) = .ok (.tup [.str "as", .tup [.str "name", .str "x"], .tup [.str "int"]], 2) (i + 1 + 1 + 1 + 1 + 1) (o + 1) := by
    rw [mP_suc (by omega)]
    refine atom_group h0 (congrArg Prod.fst ku) (congrArg Prod.snd ku) ?_
    rw [mP_suc (by omega)]
    exact hgr
  exact fin3 (pfx_atom (by omega) h0 (by rw [show u.v = .str "(" from congrArg Prod.snd ku]; decide +kernel) (by omega) hat h5 ht) (by simp only [List.length_cons, List.length_nil]) (show (1 : Int) ≤ 2 by decide) (show (2 : Int) ≤ 3 * n + 3 by omega)
theorem pfx_f3 (n : Nat) : Pfx [sg "(", na "f", ("number", .int 3), sg ")"] n := by
  intro full ts t post i o f hd hk ht ho hf
  obtain ⟨u, us, rfl, ku, hk⟩ := kv_cons hk
  obtain ⟨x, us, rfl, kx, hk⟩ := kv_cons hk
  obtain ⟨y, us, rfl, ky, hk⟩ := kv_cons hk
  obtain ⟨e, us, rfl, ke, hk⟩ := kv_cons hk
  have hes : us = [] := List.map_eq_nil_iff.mp hk
  subst hes
  have h0 : full.drop i = u :: x :: y :: e :: t :: post := hd
  have h1 := nxt h0
  have h2 := nxt h1
  have h3 := nxt h2
  have h4 := nxt h3
  obtain ⟨g, rfl⟩ : ∃ g, f = g + 12 := ⟨f - 12, by omega⟩
  have a1 : mP (g + 2) .atom full (i + 1) (o + 1 + 1 + 1) = .ok (.tup [.str "name", .str "f"], 1) (i + 1 + 1) (o + 1 + 1 + 1) := by
    rw [mP_suc (by omega)]
    exact at_name _ h1 kx
  have a2 : mP (g + 2) .atom full (i + 1 + 1) (o + 1 + 1 + 1) = .ok (.tup [.str "num", .int 3], 1) (i + 1 + 1 + 1) (o + 1 + 1 + 1) := by
    rw [mP_suc (by omega)]
    exact at_num _ h2 ky
  have hpx : mP (g + 4) .prefix_ full (i + 1) (o + 1 + 1) = .ok (.tup [.str "call", .tup [.str "name", .str "f"], .tup [.str "num", .int 3]], 2) (i + 1 + 1 + 1) (o + 1 + 1) := by
    rw [mP_suc (by omega)]
    refine prefix_call h1 (by rw [show x.v = .str "f" from congrArg Prod.snd kx]; decide +kernel) (by omega) ?_
    rw [mP_suc (by omega)]
    exact call_app a1 h2 (by rw [atomB_kv ky]; decide +kernel) a2 h3 (by rw [atomB_kv ke]; decide +kernel) (by decide)
  have hx := expr_pfx (g := g + 4) (by omega) hpx h1 (by rw [show x.v = .str "f" from congrArg Prod.snd kx]; decide +kernel) (by omega) h3 (by rw [show e.v = .str ")" from congrArg Prod.snd ke]; decide +kernel)
  exact fin3 (par_run (g := g + 8) (by omega) h0 ku (by omega) hx h3 ke ht) (by simp only [List.length_cons, List.length_nil]) (show (1 : Int) ≤ 2 by decide) (show (2 : Int) ≤ 3 * n + 3 by omega)
end Pr

end

section
set_option maxHeartbeats 4000000
namespace Pr
open PySem L2 Oz
theorem LexW.cast {a : List Nat} {s1 s2 : List (Str × U)} (h : LexW a s1) (e : s1 = s2) : LexW a s2 := e ▸ h
theorem hd_sg {sh : List (Str × U)} : Hd (sg "(" :: sh) := ⟨_, _, rfl, by decide +kernel⟩
/-- a good text: its tokens, and how they are read -/
theorem GT.read {n : Nat} {a : List Nat} (h : GT n a) (hn : n ≤ 8) : ∃ sh, LexW a sh ∧ Pfx sh n ∧ Hd sh := by
  induction h with
  | atom ha =>
    rename_i n a
    simp only [atomsS, List.mem_cons, List.not_mem_nil, or_false] at ha
    rcases ha with rfl | rfl | rfl | rfl | rfl | rfl | rfl | rfl
    · exact ⟨_, lx_x, pfx_x n, _, _, rfl, by decide +kernel⟩
    · exact ⟨_, lx_num, pfx_num n 12 (by decide +kernel), _, _, rfl, by decide +kernel⟩
    · exact ⟨_, lx_true, pfx_true n, _, _, rfl, by decide +kernel⟩
    · exact ⟨_, lx_y, pfx_name n "y_1" (by decide +kernel), _, _, rfl, by decide +kernel⟩
    · exact ⟨_, lx_unit, pfx_unit n, _, _, rfl, by decide +kernel⟩
    · exact ⟨_, lx_a5.w, pfx_f3 n, hd_sg⟩
    · exact ⟨_, lx_a6.w, pfx_pair n, hd_sg⟩
    · exact ⟨_, lx_a7.w, pfx_as n, hd_sg⟩
  | par _ ih =>
    obtain ⟨sh, l, p, hh⟩ := ih (by omega)
    exact ⟨_, (((lx_par.appW l).appS lx_end ⟨41, [], by decide +kernel, by decide +kernel⟩).w).cast (by simp), pfx_par p hh, hd_sg⟩
  | fst _ ih =>
    obtain ⟨sh, l, p, hh⟩ := ih (by omega)
    exact ⟨_, (((lx_fst.appW l).appS lx_end ⟨41, [], by decide +kernel, by decide +kernel⟩).w).cast (by simp), pfx_fst p hh (by omega), _, _, rfl, by decide +kernel⟩
  | let_ _ _ ih1 ih2 =>
    obtain ⟨sa, la, pa, ha⟩ := ih1 (by omega)
    obtain ⟨sb, lb, pb, hb⟩ := ih2 (by omega)
    exact ⟨_, ((((((lx_let.appW la).appS lx_in ⟨32, [105, 110, 32], by decide +kernel, by decide +kernel⟩).appW lb).appS lx_end ⟨41, [], by decide +kernel, by decide +kernel⟩)).w).cast (by simp), pfx_let pa ha pb hb (by omega), hd_sg⟩
  | if_ _ _ ih1 ih2 =>
    obtain ⟨sa, la, pa, ha⟩ := ih1 (by omega)
    obtain ⟨sb, lb, pb, hb⟩ := ih2 (by omega)
    exact ⟨_, ((((((lx_if.appW la).appS lx_then ⟨32, [116, 104, 101, 110, 32], by decide +kernel, by decide +kernel⟩).appW lb).appS lx_else ⟨32, [101, 108, 115, 101, 32, 120, 41], by decide +kernel, by decide +kernel⟩)).w).cast (by simp), pfx_if pa ha pb hb (by omega), hd_sg⟩
  | op hs _ _ ih1 ih2 =>
    obtain ⟨sa, la, pa, ha⟩ := ih1 (by omega)
    obtain ⟨sb, lb, pb, hb⟩ := ih2 (by omega)
    have go : ∀ {s : String} {c : Nat} {w : List Nat} {x : Str}, LexS (tx s) [sg x] → tx s = c :: w → c ∉ nmL → (x = "+" ∨ x = "-" ∨ x = "*" ∨ x = "<" ∨ x = "==") → ∃ sh, LexW (tx "(" ++ _ ++ tx s ++ _ ++ tx ")") sh ∧ Pfx sh _ ∧ Hd sh := fun ls hw hc hx =>
      ⟨_, ((((((lx_par.appW la).appS ls ⟨_, _, hw, hc⟩).appW lb).appS lx_end ⟨41, [], by decide +kernel, by decide +kernel⟩)).w).cast (by simp), pfx_op hx pa ha pb hb (by omega), hd_sg⟩
    simp only [opsS, List.mem_cons, List.not_mem_nil, or_false] at hs
    rcases hs with rfl | rfl | rfl | rfl | rfl | rfl
    · exact go (c := 32) (w := [43, 32]) lx_add (by decide +kernel) (by decide +kernel) (by simp)
    · exact go (c := 32) (w := [45, 32]) lx_sub (by decide +kernel) (by decide +kernel) (by simp)
    · exact go (c := 32) (w := [42, 32]) lx_mul (by decide +kernel) (by decide +kernel) (by simp)
    · exact go (c := 32) (w := [60, 32]) lx_lt (by decide +kernel) (by decide +kernel) (by simp)
    · exact go (c := 32) (w := [61, 61, 32]) lx_eq (by decide +kernel) (by decide +kernel) (by simp)
    · exact ⟨_, ((((((lx_par.appW la).appS lx_app ⟨41, [40], by decide +kernel, by decide +kernel⟩).appW lb).appS lx_end ⟨41, [], by decide +kernel, by decide +kernel⟩)).w).cast (by simp), pfx_app pa ha pb hb (by omega), hd_sg⟩
end Pr

end

section
set_option maxHeartbeats 4000000
namespace Pr
open PySem L2 Oz
abbrev atR (k : Nat) : Option (Str × U) := some ("at", .int k)
abbrev noneR : Option (Str × U) := some ("none", .int 0)
abbrev depR : Option (Str × U) := some ("name", .str "depth")
theorem push_ok {us : List Tk} : ∀ ts : List Tk, pushAll ts (.ok us) = .ok (ts ++ us)
  | [] => rfl
  | t :: ts => by
    show (pushAll ts (.ok us)).push t = _
    rw [push_ok ts]
    rfl
theorem push_mal {a : Nat} : ∀ ts : List Tk, pushAll ts (.mal a) = .mal a
  | [] => rfl
  | t :: ts => by
    show (pushAll ts (.mal a)).push t = _
    rw [push_mal ts]
    rfl
/-- a good text and what stands behind it -/
theorem GT.tail {n : Nat} {a : List Nat} (h : GT n a) (hn : n ≤ 3) (r : List Nat) (hr : Bd r) : ∃ ts sh, ts.map kv = sh ∧ Pfx sh n ∧ Hd sh ∧ tkz (a ++ r) = pushAll ts (tk r a.length) := by
  obtain ⟨sh, l, p, hh⟩ := h.read (by omega)
  obtain ⟨ts, e, q⟩ := l r 0 hr
  rw [Nat.zero_add] at q
  exact ⟨ts, sh, e, p, hh, q⟩
theorem GT.short {n : Nat} {a : List Nat} (h : GT n a) (hn : n ≤ 3) : a.length ≤ 220 := by
  have q := h.len
  have q2 : 2 ^ n ≤ 2 ^ 3 := Nat.pow_le_pow_right (by decide) hn
  omega
theorem told_mal {n dd : Nat} {a r : List Nat} {k : Nat} (h : GT n a) (hn : n ≤ 3) (hr : Bd r) (hl : r.length ≤ 1000) (e : ∀ i, tk r i = .mal (i + k)) : told dd false (a ++ r) = atR (a.length + k) := by
  obtain ⟨ts, sh, _, _, _, q⟩ := h.tail hn r hr
  have hs := h.short hn
  unfold told outL
  rw [if_neg (by rw [List.length_append]; omega), q, e, push_mal]
theorem endT_no {l : List Nat} : atomB (endT l) = false := by rw [atomB_kv (q := (("end", .str "") : Str × U)) rfl]; decide +kernel
theorem endT_op {l : List Nat} : opB (endT l).v = false := by show opB (.str "") = false; decide +kernel
/-- a good text, then one more token that ends the expression -/
theorem told_good {n dd : Nat} {a : List Nat} (h : GT n a) (hn : n ≤ 3) (hd : 100 ≤ dd) : told dd false a = noneR := by
  obtain ⟨ts, sh, k, p, hh, q⟩ := h.tail hn [] trivial
  rw [List.append_nil] at q
  have hs := h.short hn
  have q2 : tkz a = .ok ts := by rw [q, show tk [] a.length = .ok [] from rfl, push_ok, List.append_nil]
  obtain ⟨g, rfl⟩ : ∃ g, dd = g + 4 := ⟨dd - 4, by omega⟩
  obtain ⟨x, hx, _, _⟩ := p.expr (full := ts ++ [endT a]) (i := 0) (o := 0) (g := g) (ta := ts) (e := endT a) (rest := []) hh rfl k endT_no endT_op (by omega) (by omega)
  rw [Nat.zero_add] at hx
  unfold told outL outP
  rw [if_neg (by omega), q2]
  dsimp only
  rw [if_neg Bool.false_ne_true, hx]
  dsimp only
  rw [show (ts ++ [endT a])[ts.length]? = some (endT a) by simp]
  dsimp only
  rw [if_pos (show (endT a).k = "end" from rfl)]
theorem told_paren {n dd : Nat} {a : List Nat} (h : GT n a) (hn : n ≤ 3) (hd : 100 ≤ dd) : told dd false (a ++ tx " )") = atR (a.length + 1) := by
  obtain ⟨ts, sh, k, p, hh, q⟩ := h.tail hn (tx " )") (show (32 : Nat) ∉ nmL by decide +kernel)
  have hs := h.short hn
  have e2 : (tx " )").length = 2 := by decide +kernel
  have q2 : tkz (a ++ tx " )") = .ok (ts ++ [⟨"sign", .str ")", a.length + 1⟩]) := by rw [q, show tk (tx " )") a.length = .ok [⟨"sign", .str ")", a.length + 1⟩] by kernel_rfl, push_ok]
  obtain ⟨g, rfl⟩ : ∃ g, dd = g + 4 := ⟨dd - 4, by omega⟩
  obtain ⟨x, hx, _, _⟩ := p.expr (full := ts ++ [⟨"sign", .str ")", a.length + 1⟩] ++ [endT (a ++ tx " )")]) (i := 0) (o := 0) (g := g) (ta := ts) (e := ⟨"sign", .str ")", a.length + 1⟩) (rest := [endT (a ++ tx " )")]) hh (by simp) k (by rw [atomB_kv (q := sg ")") rfl]; decide +kernel) (by show opB (.str ")") = false; decide +kernel) (by omega) (by omega)
  rw [Nat.zero_add] at hx
  unfold told outL outP
  rw [if_neg (by rw [List.length_append, e2]; omega), q2]
  dsimp only
  rw [if_neg Bool.false_ne_true, hx]
  dsimp only
  rw [show (ts ++ [(⟨"sign", .str ")", a.length + 1⟩ : Tk)] ++ [endT (a ++ tx " )")])[ts.length]? = some ⟨"sign", .str ")", a.length + 1⟩ by simp]
  dsimp only
  rw [if_neg (show ¬ (("sign" : Str) = "end") by decide +kernel)]
theorem told_dollar {n dd : Nat} {a : List Nat} (h : GT n a) (hn : n ≤ 3) : told dd false (a ++ tx " $ 1") = atR (a.length + 1) := told_mal h hn (show (32 : Nat) ∉ nmL by decide +kernel) (by decide +kernel) (fun i => by kernel_rfl)
theorem told_07 {n dd : Nat} {a : List Nat} (h : GT n a) (hn : n ≤ 3) : told dd false (a ++ tx " * 07") = atR (a.length + 3) := told_mal h hn (show (32 : Nat) ∉ nmL by decide +kernel) (by decide +kernel) (fun i => by kernel_rfl)
theorem told_3a {n dd : Nat} {a : List Nat} (h : GT n a) (hn : n ≤ 3) : told dd false (a ++ tx " * 3a") = atR (a.length + 3) := told_mal h hn (show (32 : Nat) ∉ nmL by decide +kernel) (by decide +kernel) (fun i => by kernel_rfl)
theorem told_big {n dd : Nat} {a : List Nat} (h : GT n a) (hn : n ≤ 3) : told dd false (a ++ tx " * 2147483648") = atR (a.length + 3) := told_mal h hn (show (32 : Nat) ∉ nmL by decide +kernel) (by decide +kernel) (fun i => by kernel_rfl)
theorem told_long {n dd : Nat} {a : List Nat} (h : GT n a) (hn : n ≤ 3) : told dd false (a ++ tx " < aaaaaaaaaaaaaaaaaaaaa") = atR (a.length + 3) := told_mal h hn (show (32 : Nat) ∉ nmL by decide +kernel) (by decide +kernel) (fun i => by kernel_rfl)
end Pr

end

section
set_option maxHeartbeats 4000000
namespace Pr
open PySem L2 Oz
variable {full : List Tk} {i i1 i2 : Nat} {o : Int} {t u : Tk} {r r1 r2 : List Tk} {a b : U × Int} {g : Nat} {P : Nm → PT}
theorem bml {α β : Type} {x : Nat} {f : α → Nat → Int → Ms β} : (Ms.mal x : Ms α).bind f = .mal x := rfl
/-- no atom stands there -/
theorem pfx_bad (hg : 3 ≤ g) (h0 : full.drop i = u :: r) (hu : pwB u.v = false) (ho : o ≠ 60) (hb : atomB u = false) : mP (g + 3) .prefix_ full i o = .mal u.a := by
  have hu' := hu
  unfold pwB at hu'
  simp only [Bool.or_eq_false_iff] at hu'
  have h1 : mP (g + 1) .atom full i (o + 1) = .mal u.a := by
    rw [mP_suc hg]
    show mCur full i (mAt (mP g) full i (o + 1)) = _
    rw [cur h0]
    unfold mAt
    rw [hb]
    rfl
  have h2 : mP (g + 2) .call full i (o + 1) = .mal u.a := by
    rw [mP_suc (by omega)]
    simp only [mB]
    rw [h1, bml]
  rw [mP_suc (by omega)]
  simp only [mB]
  rw [enter_ok ho, bok, sees_is h0 hu'.1, bok, ff, skips_no h0 hu'.2, bok, ff, h2, bml]
abbrev plT (a : List Nat) : Tk := ⟨"sign", .str "+", a.length + 1⟩
theorem told_plus {n dd : Nat} {a : List Nat} (h : GT n a) (hn : n ≤ 3) (hd : 100 ≤ dd) : told dd false (a ++ tx " +") = atR (a.length + 2) := by
  obtain ⟨ts, sh, k, p, hh, q⟩ := h.tail hn (tx " +") (show (32 : Nat) ∉ nmL by decide +kernel)
  have hs := h.short hn
  have e2 : (tx " +").length = 2 := by decide +kernel
  have q2 : tkz (a ++ tx " +") = .ok (ts ++ [plT a]) := by rw [q, show tk (tx " +") a.length = .ok [plT a] by kernel_rfl, push_ok]
  obtain ⟨g, rfl⟩ : ∃ g, dd = g + 8 := ⟨dd - 8, by omega⟩
  have hd0 : (ts ++ [plT a] ++ [endT (a ++ tx " +")]).drop 0 = ts ++ plT a :: [endT (a ++ tx " +")] := by simp
  obtain ⟨x, hx, _, _⟩ := p.pfx (o := 1) (g := g + 4) hd0 k (by rw [atomB_kv (t := plT a) (q := sg "+") rfl]; decide +kernel) (by omega) (by omega)
  obtain ⟨v, r, hv, hvk⟩ := hh.kw k hd0
  have h2 := dropk hd0
  have h3 := nxt h2
  have bad : mP (g + 5) .prod (ts ++ [plT a] ++ [endT (a ++ tx " +")]) (0 + ts.length + 1) 1 = .mal (a.length + 2) := by
    rw [mP_suc (by omega)]
    simp only [mB]
    rw [pfx_bad (g := g + 1) (o := 1) (by omega) h3 (by show pwB (.str "") = false; decide +kernel) (by decide) endT_no, bml]
    show Ms.mal (a ++ tx " +").length = _
    rw [List.length_append, e2]
  have good : mP (g + 5) .prod (ts ++ [plT a] ++ [endT (a ++ tx " +")]) 0 1 = .ok x (0 + ts.length) 1 := by
    rw [mP_suc (by omega)]
    exact prod_of hx h2 (by show Oz.eqU (.str "*") (.str "+") = false; decide +kernel)
  have hsum : mP (g + 6) .sum (ts ++ [plT a] ++ [endT (a ++ tx " +")]) 0 1 = .mal (a.length + 2) := by
    rw [mP_suc (by omega)]
    simp only [mB]
    rw [good, bok, loop_step (k := 19999), sees_is h2 (k := true) (by show ([U.str "+", .str "-"].any fun y => Oz.eqU y (.str "+")) = true; decide +kernel), bok, tto, take_yes h2 (by show ([U.str "+", .str "-"].any fun y => Oz.eqU y (.str "+")) = true; decide +kernel), bok, bad, bml, bml]
  have hc : mP (g + 7) .comp (ts ++ [plT a] ++ [endT (a ++ tx " +")]) 0 1 = .mal (a.length + 2) := by
    rw [mP_suc (by omega)]
    simp only [mB]
    rw [hsum, bml]
  have hx : mP (g + 8) .expr (ts ++ [plT a] ++ [endT (a ++ tx " +")]) 0 0 = .mal (a.length + 2) := by
    rw [mP_suc (by omega)]
    unfold kwB at hvk
    simp only [Bool.or_eq_false_iff] at hvk
    obtain ⟨⟨⟨⟨k1, k2⟩, k3⟩, k4⟩, k5⟩ := hvk
    simp only [mB]
    rw [enter_ok (by decide), bok, skips_no hv k1, bok, ff, skips_no hv k2, bok, ff, skips_no hv k3, bok, ff, skips_no hv k4, bok, ff, skips_no hv k5, bok, ff]
    show (mP (g + 7) .comp _ 0 1).bind _ = _
    rw [hc, bml]
  unfold told outL outP
  rw [if_neg (by rw [List.length_append, e2]; omega), q2]
  dsimp only
  rw [if_neg Bool.false_ne_true, hx]
abbrev stT (a : List Nat) : Tk := ⟨"sign", .str "*", a.length + 1⟩
abbrev bgT (a : List Nat) : Tk := ⟨"number", .int 2147483647, a.length + 3⟩
theorem told_most {n dd : Nat} {a : List Nat} (h : GT n a) (hn : n ≤ 3) (hd : 100 ≤ dd) : told dd false (a ++ tx " * 2147483647") = noneR := by
  obtain ⟨ts, sh, k, p, hh, q⟩ := h.tail hn (tx " * 2147483647") (show (32 : Nat) ∉ nmL by decide +kernel)
  have hs := h.short hn
  have e2 : (tx " * 2147483647").length = 13 := by decide +kernel
  have q2 : tkz (a ++ tx " * 2147483647") = .ok (ts ++ [stT a, bgT a]) := by rw [q, show tk (tx " * 2147483647") a.length = .ok [stT a, bgT a] by kernel_rfl, push_ok]
  obtain ⟨g, rfl⟩ : ∃ g, dd = g + 8 := ⟨dd - 8, by omega⟩
  obtain ⟨full, hfull⟩ : ∃ full, full = ts ++ [stT a, bgT a] ++ [endT (a ++ tx " * 2147483647")] := ⟨_, rfl⟩
  have hd0 : full.drop 0 = ts ++ stT a :: [bgT a, endT (a ++ tx " * 2147483647")] := by rw [hfull]; simp
  obtain ⟨x, hx, l1, l2⟩ := p.pfx (o := 1) (g := g + 4) hd0 k (by rw [atomB_kv (t := stT a) (q := sg "*") rfl]; decide +kernel) (by omega) (by omega)
  obtain ⟨v, r, hv, hvk⟩ := hh.kw k hd0
  have h2 := dropk hd0
  have h3 := nxt h2
  have h4 := nxt h3
  obtain ⟨y, hy, m1, m2⟩ := (pfx_num 0 2147483647 (by decide +kernel)).pfx (o := 1) (g := g + 4) (ta := [bgT a]) (rest := []) h3 rfl endT_no (by omega) (by omega)
  have hm := max2 (m := 12) l1 (by omega) (show y.2 ≤ 12 by omega)
  have hp : mP (g + 5) .prod full 0 1 = .ok (.tup [.str "op", .str "*", x.1, y.1], 1 + maxI [x.2, y.2]) (0 + ts.length + 1 + 1) 1 := by
    rw [mP_suc (by omega)]
    exact prod_op hx h2 (by show Oz.eqU (.str "*") (.str "*") = true; decide +kernel) hy h4 (by show Oz.eqU (.str "*") (.str "") = false; decide +kernel) (by omega)
  have he : mP (g + 8) .expr full 0 0 = .ok (.tup [.str "op", .str "*", x.1, y.1], 1 + maxI [x.2, y.2]) (0 + ts.length + 1 + 1) 0 := by
    rw [mP_suc (by omega)]
    refine expr_of hv hvk (by decide) ?_
    show mP (g + 7) .comp full 0 1 = .ok _ _ 1
    rw [mP_suc (by omega)]
    refine comp_of ?_ h4 (by show ([U.str "<", .str "=="].any fun z => Oz.eqU z (.str "")) = false; decide +kernel)
    rw [mP_suc (by omega)]
    exact sum_of hp h4 (by show ([U.str "+", .str "-"].any fun z => Oz.eqU z (.str "")) = false; decide +kernel)
  unfold told outL outP
  rw [if_neg (by rw [List.length_append, e2]; omega), q2]
  dsimp only
  rw [if_neg Bool.false_ne_true, ← hfull, he]
  dsimp only
  have hg : full[0 + ts.length + 1 + 1]? = some (endT (a ++ tx " * 2147483647")) := by rw [← List.head?_drop, h4]; rfl
  rw [hg]
  dsimp only
  rw [if_pos (show (endT (a ++ tx " * 2147483647")).k = "end" from rfl)]
end Pr

end

section
set_option maxHeartbeats 4000000
namespace Pr
open PySem L2 Oz
variable {full : List Tk} {i i1 i2 : Nat} {o : Int} {t u : Tk} {r r1 r2 : List Tk} {a b : U × Int} {g : Nat} {P : Nm → PT}
theorem expr_mal {e : Nat} (hg : 3 ≤ g) (h0 : full.drop i = u :: r) (hu : kwB u.v = false) (ho : o ≠ 60) (h : mP g .prefix_ full i (o + 1) = .mal e) : mP (g + 4) .expr full i o = .mal e := by
  unfold kwB at hu
  simp only [Bool.or_eq_false_iff] at hu
  obtain ⟨⟨⟨⟨k1, k2⟩, k3⟩, k4⟩, k5⟩ := hu
  have h1 : mP (g + 1) .prod full i (o + 1) = .mal e := by
    rw [mP_suc hg]
    simp only [mB]
    rw [h, bml]
  have h2 : mP (g + 2) .sum full i (o + 1) = .mal e := by
    rw [mP_suc (by omega)]
    simp only [mB]
    rw [h1, bml]
  have h3 : mP (g + 3) .comp full i (o + 1) = .mal e := by
    rw [mP_suc (by omega)]
    simp only [mB]
    rw [h2, bml]
  rw [mP_suc (by omega)]
  simp only [mB]
  rw [enter_ok ho, bok, skips_no h0 k1, bok, ff, skips_no h0 k2, bok, ff, skips_no h0 k3, bok, ff, skips_no h0 k4, bok, ff, skips_no h0 k5, bok, ff, h3, bml]
theorem pfx_mal {e : Nat} (hg : 3 ≤ g) (h0 : full.drop i = u :: r) (hu : pwB u.v = false) (ho : o ≠ 60) (h : mP g .atom full i (o + 1) = .mal e) : mP (g + 2) .prefix_ full i o = .mal e := by
  unfold pwB at hu
  simp only [Bool.or_eq_false_iff] at hu
  have h2 : mP (g + 1) .call full i (o + 1) = .mal e := by
    rw [mP_suc hg]
    simp only [mB]
    rw [h, bml]
  rw [mP_suc (by omega)]
  simp only [mB]
  rw [enter_ok ho, bok, sees_is h0 hu.1, bok, ff, skips_no h0 hu.2, bok, ff, h2, bml]
theorem take_no (h : full.drop i = t :: r) {xs : List U} (ht : (xs.any fun y => Oz.eqU y t.v) = false) : mTake full xs i o = .mal t.a := by
  unfold mTake
  rw [cur h, ht]
  rfl
theorem group_bad (h : P .expr full i o = .ok a i1 o) (hn : full.drop i1 = u :: r) (hv : u.v = .str "") : mB P .group full i o = .mal u.a := by
  simp only [mB]
  rw [h, bok, skips_no hn (by rw [hv]; decide +kernel), bok, ff, skips_no hn (by rw [hv]; decide +kernel), bok, ff, take_no hn (by rw [hv]; decide +kernel), bml]
theorem lx_open : LexS (tx "( ") [sg "("] := LexS.mk (n := 0) (fun i => [⟨"sign", .str "(", i⟩]) (fun i => rfl) (Nat.zero_le _) (fun k r i => by kernel_rfl)
theorem told_open {n dd : Nat} {a : List Nat} (h : GT n a) (hn : n ≤ 3) (hd : 100 ≤ dd) : told dd false (tx "( " ++ a) = atR (a.length + 2) := by
  obtain ⟨sh, l, p, hh⟩ := h.read (by omega)
  have hs := h.short hn
  have e2 : (tx "( ").length = 2 := by decide +kernel
  obtain ⟨ts, k, q⟩ := (lx_open.appW l) [] 0 trivial
  rw [List.append_nil, show tk [] _ = .ok [] from rfl, push_ok, List.append_nil] at q
  obtain ⟨u, ts, rfl, ku, k⟩ := kv_cons k
  have k : ts.map kv = sh := k
  obtain ⟨full, hfull⟩ : ∃ full, full = u :: ts ++ [endT (tx "( " ++ a)] := ⟨_, rfl⟩
  have h0 : full.drop 0 = u :: (ts ++ [endT (tx "( " ++ a)]) := by rw [hfull]; simp
  have h1 := nxt h0
  obtain ⟨g, rfl⟩ : ∃ g, dd = g + 12 := ⟨dd - 12, by omega⟩
  obtain ⟨x, hx, l1, l2⟩ := p.expr (o := 2) (g := g) hh h1 k endT_no endT_op (by omega) (by omega)
  have hg : mP (g + 5) .group full (0 + 1) 2 = .mal (a.length + 2) := by
    rw [mP_suc (by omega), group_bad hx (dropk h1) rfl]
    show Ms.mal (tx "( " ++ a).length = _
    rw [List.length_append, e2, Nat.add_comm]
  have hat : mP (g + 6) .atom full 0 2 = .mal (a.length + 2) := by
    rw [mP_suc (by omega)]
    show mCur full 0 (mAt (mP (g + 5)) full 0 2) = _
    rw [cur h0]
    obtain ⟨kk, v, pp⟩ := u
    have hk1 : kk = "sign" := congrArg Prod.fst ku
    have hv1 : v = .str "(" := congrArg Prod.snd ku
    subst hk1 hv1
    unfold mAt
    rw [if_pos (by kernel_rfl), if_neg (show ¬ (("sign" : Str) = "number") by decide +kernel), if_neg (show ¬ (("sign" : Str) = "name") by decide +kernel)]
    dsimp only
    rw [if_neg (by decide +kernel), if_pos rfl, hg]
  have huv : u.v = .str "(" := congrArg Prod.snd ku
  have hpx : mP (g + 8) .prefix_ full 0 1 = .mal (a.length + 2) := pfx_mal (g := g + 6) (o := 1) (by omega) h0 (by rw [huv]; decide +kernel) (by decide) hat
  have hex : mP (g + 12) .expr full 0 0 = .mal (a.length + 2) := expr_mal (g := g + 8) (o := 0) (by omega) h0 (by rw [huv]; decide +kernel) (by decide) hpx
  unfold told outL outP
  have q2 : tkz (tx "( " ++ a) = .ok (u :: ts) := q
  rw [if_neg (by rw [List.length_append, e2]; omega), q2]
  dsimp only
  rw [if_neg Bool.false_ne_true, ← hfull, hex]
end Pr

end

section
set_option maxHeartbeats 4000000
namespace Pr
open PySem L2 Oz
variable {full : List Tk} {i i1 i2 : Nat} {o : Int} {t u : Tk} {r r1 r2 : List Tk} {a b : U × Int} {g : Nat} {P : Nm → PT}
theorem lexP {c : List Nat} {n : Nat} (f : Nat → List Tk) (h : ∀ (k : Nat) (r : List Nat) (i : Nat), tz (k + c.length + 1) (c ++ r) i = pushAll (f i) (tz (k + n + 1) r (i + c.length))) (r : List Nat) (i : Nat) : tk (c ++ r) i = pushAll (f i) (tk r (i + c.length)) := by
  have q := h r.length r i
  rw [tk_of (by rw [List.length_append]; omega), tk_of (by omega)] at q
  exact q
theorem tail_ok {n : Nat} {a : List Nat} (h : GT n a) (hn : n ≤ 3) (j : Nat) : ∃ ts, tk a j = .ok ts := by
  obtain ⟨sh, l, _, _⟩ := h.read (by omega)
  obtain ⟨ts, _, q⟩ := l [] j trivial
  rw [List.append_nil, show tk [] _ = .ok [] from rfl, push_ok, List.append_nil] at q
  exact ⟨ts, q⟩
theorem told_fun {n dd : Nat} {a : List Nat} (h : GT n a) (hn : n ≤ 3) (hd : 100 ≤ dd) : told dd false (tx "fun x : int, bool => " ++ a) = atR 11 := by
  have hs := h.short hn
  have e2 : (tx "fun x : int, bool => ").length = 21 := by decide +kernel
  obtain ⟨ts, q⟩ := tail_ok h hn (0 + (tx "fun x : int, bool => ").length)
  have q2 : tkz (tx "fun x : int, bool => " ++ a) = .ok ([⟨"word", .str "fun", 0⟩, ⟨"name", .str "x", 4⟩, ⟨"sign", .str ":", 6⟩, ⟨"word", .str "int", 8⟩, ⟨"sign", .str ",", 11⟩, ⟨"word", .str "bool", 13⟩, ⟨"sign", .str "=>", 18⟩] ++ ts) := by
    show tk _ 0 = _
    rw [lexP (n := 8) (fun i => [⟨"word", .str "fun", i⟩, ⟨"name", .str "x", i + 4⟩, ⟨"sign", .str ":", i + 6⟩, ⟨"word", .str "int", i + 8⟩, ⟨"sign", .str ",", i + 11⟩, ⟨"word", .str "bool", i + 13⟩, ⟨"sign", .str "=>", i + 18⟩]) (fun k r i => by kernel_rfl), q, push_ok]
  obtain ⟨full, hfull⟩ : ∃ full, full = [⟨"word", .str "fun", 0⟩, ⟨"name", .str "x", 4⟩, ⟨"sign", .str ":", 6⟩, ⟨"word", .str "int", 8⟩, ⟨"sign", .str ",", 11⟩, ⟨"word", .str "bool", 13⟩, ⟨"sign", .str "=>", 18⟩] ++ ts ++ [endT (tx "fun x : int, bool => " ++ a)] := ⟨_, rfl⟩
  have h0 : full.drop 0 = ⟨"word", .str "fun", 0⟩ :: ⟨"name", .str "x", 4⟩ :: ⟨"sign", .str ":", 6⟩ :: ⟨"word", .str "int", 8⟩ :: ⟨"sign", .str ",", 11⟩ :: (⟨"word", .str "bool", 13⟩ :: ⟨"sign", .str "=>", 18⟩ :: (ts ++ [endT (tx "fun x : int, bool => " ++ a)])) := by rw [hfull]; simp
  have h1 := nxt h0
  have h2 := nxt h1
  have h3 := nxt h2
  have h4 := nxt h3
  obtain ⟨g, rfl⟩ : ∃ g, dd = g + 4 := ⟨dd - 4, by omega⟩
  have hfn : mP (g + 3) .fun_ full (0 + 1) 1 = .mal 11 := by
    rw [mP_suc (by omega)]
    simp only [mB]
    rw [name_yes h1 rfl, bok, skips_yes h2 (by show Oz.eqU (.str ":") (.str ":") = true; decide +kernel), bok, tt, annot_int (g := g) (by omega) h3 rfl (by show Oz.eqU (.str "->") (.str ",") = false; decide +kernel) (by decide), bok, take_no h4 (by show ([U.str "=>"].any fun y => Oz.eqU y (.str ",")) = false; decide +kernel), bml]
  have hex : mP (g + 4) .expr full 0 0 = .mal 11 := by
    rw [mP_suc (by omega)]
    simp only [mB]
    rw [enter_ok (by decide), bok, skips_yes h0 (by show Oz.eqU (.str "fun") (.str "fun") = true; decide +kernel), bok, tt]
    show (mP (g + 3) .fun_ full (0 + 1) 1).bind _ = _
    rw [hfn, bml]
  unfold told outL outP
  rw [if_neg (by rw [List.length_append, e2]; omega), q2]
  dsimp only
  rw [if_neg Bool.false_ne_true, ← hfull, hex]
theorem told_let {n dd : Nat} {a : List Nat} (h : GT n a) (hn : n ≤ 3) (hd : 100 ≤ dd) : told dd false (tx "let in = 1 in " ++ a) = atR 4 := by
  have hs := h.short hn
  have e2 : (tx "let in = 1 in ").length = 14 := by decide +kernel
  obtain ⟨ts, q⟩ := tail_ok h hn (0 + (tx "let in = 1 in ").length)
  have q2 : tkz (tx "let in = 1 in " ++ a) = .ok ([⟨"word", .str "let", 0⟩, ⟨"word", .str "in", 4⟩, ⟨"sign", .str "=", 7⟩, ⟨"number", .int 1, 9⟩, ⟨"word", .str "in", 11⟩] ++ ts) := by
    show tk _ 0 = _
    rw [lexP (n := 4) (fun i => [⟨"word", .str "let", i⟩, ⟨"word", .str "in", i + 4⟩, ⟨"sign", .str "=", i + 7⟩, ⟨"number", .int 1, i + 9⟩, ⟨"word", .str "in", i + 11⟩]) (fun k r i => by kernel_rfl), q, push_ok]
  obtain ⟨full, hfull⟩ : ∃ full, full = [⟨"word", .str "let", 0⟩, ⟨"word", .str "in", 4⟩, ⟨"sign", .str "=", 7⟩, ⟨"number", .int 1, 9⟩, ⟨"word", .str "in", 11⟩] ++ ts ++ [endT (tx "let in = 1 in " ++ a)] := ⟨_, rfl⟩
  have h0 : full.drop 0 = ⟨"word", .str "let", 0⟩ :: ⟨"word", .str "in", 4⟩ :: (⟨"sign", .str "=", 7⟩ :: ⟨"number", .int 1, 9⟩ :: ⟨"word", .str "in", 11⟩ :: (ts ++ [endT (tx "let in = 1 in " ++ a)])) := by rw [hfull]; simp
  have h1 := nxt h0
  obtain ⟨g, rfl⟩ : ∃ g, dd = g + 4 := ⟨dd - 4, by omega⟩
  have hfn : mP (g + 3) .let_ full (0 + 1) 1 = .mal 4 := by
    rw [mP_suc (by omega)]
    simp only [mB]
    have hb : mName full (0 + 1) 1 = .mal 4 := by
      unfold mName
      rw [cur h1]
      exact if_neg (show ¬ (("word" : Str) = "name") by decide +kernel)
    rw [hb, bml]
  have hex : mP (g + 4) .expr full 0 0 = .mal 4 := by
    rw [mP_suc (by omega)]
    refine (?_ : mB (mP (g + 3)) .expr full 0 0 = _)
    simp only [mB]
    rw [enter_ok (by decide), bok, skips_no h0 (by show Oz.eqU (.str "fun") (.str "let") = false; decide +kernel), bok, ff, skips_no h0 (by show Oz.eqU (.str "rec") (.str "let") = false; decide +kernel), bok, ff, skips_yes h0 (by show Oz.eqU (.str "let") (.str "let") = true; decide +kernel), bok, tt]
    show (mP (g + 3) .let_ full (0 + 1) 1).bind _ = _
    rw [hfn, bml]
  unfold told outL outP
  rw [if_neg (by rw [List.length_append, e2]; omega), q2]
  dsimp only
  rw [if_neg Bool.false_ne_true, ← hfull, hex]
end Pr

end

section
set_option maxHeartbeats 4000000
namespace Pr
open PySem L2 Oz
abbrev txtR : Option (Str × U) := some ("name", .str "text")
def rep (k : Nat) (w : List Nat) : List Nat := (List.replicate k w).flatten
def rEq : Option (Str × U) → Option (Str × U) → Bool
  | some (a, b), some (c, d) => decide (a = c) && ueq b d
  | _, _ => false
theorem rEq_iff {x : Option (Str × U)} {a : Str} {b : U} (h : rEq x (some (a, b)) = true) : x = some (a, b) := by
  cases x with
  | none => cases h
  | some q =>
    obtain ⟨c, d⟩ := q
    simp only [rEq, Bool.and_eq_true, decide_eq_true_eq] at h
    rw [h.1, (ueq_iff d b).mp h.2]
def ms : List Nat := [24, 25, 26, 27, 28, 29, 30, 31, 32, 33, 34, 35]
theorem ch1 : ms.all (fun m => rEq (told 673 false (rep m (tx "(") ++ tx "x" ++ rep m (tx ")"))) (if m < 30 then noneR else depR)) = true := by decide +kernel
theorem ch2 : ms.all (fun m => rEq (told 673 false (rep (m + 30) (tx "not ") ++ tx "x")) (if m < 29 then noneR else depR)) = true := by decide +kernel
theorem ch3 : ms.all (fun m => rEq (told 673 false (tx "1" ++ rep (m + 30) (tx " + 1"))) (if m < 30 then noneR else depR)) = true := by decide +kernel
theorem ch4 : ms.all (fun m => rEq (told 673 true (rep (m + 30) (tx "box ") ++ tx "int")) (if m < 30 then noneR else depR)) = true := by decide +kernel
theorem ch5 : ms.all (fun m => rEq (told 673 true (tx "int" ++ rep (m + 30) (tx " -> int"))) (if m < 30 then noneR else depR)) = true := by decide +kernel
theorem k_empty : told 675 false (tx "") = atR 0 := rEq_iff (by decide +kernel)
theorem k_eq : told 675 false (tx "1 == 2 == 3") = atR 7 := rEq_iff (by decide +kernel)
/-- only separators -/
theorem tk_sp : ∀ (k i : Nat), tk (List.replicate k 32) i = .ok []
  | 0, _ => rfl
  | k + 1, i => by
    rw [List.replicate_succ]
    show tz ((32 :: List.replicate k 32).length + 1) (32 :: List.replicate k 32) i = _
    unfold tz
    rw [if_pos (by decide +kernel), tk_of (by simp), tk_sp k]
theorem one_sp (k : Nat) : tkz (tx "1" ++ List.replicate k 32) = .ok [⟨"number", .int 1, 0⟩] := by
  show tk _ 0 = _
  have hr : Bd (List.replicate k 32) := by
    cases k with
    | zero => trivial
    | succ k => exact (show (32 : Nat) ∉ nmL by decide +kernel)
  have e1 : tokT (tx "1" ++ List.replicate k 32) 0 = .ok ⟨"number", .int 1, 0⟩ 1 := by
    cases k with
    | zero => kernel_rfl
    | succ k => kernel_rfl
  rw [tk_tok (c := 49) (s' := List.replicate k 32) (by kernel_rfl) (by decide +kernel) e1]
  show (tk (List.replicate k 32) (0 + 1)).push _ = _
  rw [tk_sp]
  rfl
theorem k_9999 : told 675 false (tx "1" ++ List.replicate 9999 32) = noneR := by
  have e : (tx "1" ++ List.replicate 9999 32).length = 10000 := by rw [List.length_append, List.length_replicate]; decide +kernel
  unfold told outL
  rw [if_neg (by rw [e]; decide), one_sp]
  have e2 : endT (tx "1" ++ List.replicate 9999 32) = ⟨"end", .str "", 10000⟩ := by
    unfold endT
    rw [e]
  rw [e2]
  have e3 : outP .expr 675 ([⟨"number", .int 1, 0⟩] ++ [⟨"end", .str "", 10000⟩]) = .good (.tup [.str "num", .int 1]) := by kernel_rfl
  dsimp only
  rw [if_neg Bool.false_ne_true, e3]
theorem k_10000 : told 675 false (tx "1" ++ List.replicate 10000 32) = txtR := by
  have e : (tx "1" ++ List.replicate 10000 32).length = 10001 := by rw [List.length_append, List.length_replicate]; decide +kernel
  unfold told outL
  rw [if_pos (by rw [e]; decide)]
end Pr

end

section
set_option maxHeartbeats 4000000
namespace Pr
open PySem L2 Oz
variable {S S' : Sto} {d : Nat}
theorem fold_app (w : List Nat) : ∀ (k : Nat) (acc : Array Nat), ((List.replicate k (Array.mk w)).foldl (· ++ ·) acc) = Array.mk (acc.toList ++ rep k w)
  | 0, acc => by simp [rep]
  | k + 1, acc => by
    rw [List.replicate_succ, List.foldl_cons, fold_app w k]
    simp [rep, List.replicate_succ]
theorem mul_rep {w : List Nat} {k : Nat} (hk : 2 ≤ k) (hw : 1 ≤ w.length) : PySem.Txt.mul (sx w) (k : Int) = sx (rep k w) := by
  unfold PySem.Txt.mul
  have h1 : ¬ ((k : Int) < 1) := by omega
  have h2 : ((k : Int) == 1 || (sx w).length == 0) = false := by
    rw [Bool.or_eq_false_iff]
    refine ⟨by rw [beq_eq_false_iff_ne]; omega, ?_⟩
    rw [beq_eq_false_iff_ne, len_sx]
    omega
  rw [if_neg h1, h2, if_neg Bool.false_ne_true]
  show Str.mk ((List.replicate ((k : Int)).toNat (Array.mk w)).foldl (· ++ ·) #[]) = sx (rep k w)
  rw [Int.toNat_natCast, fold_app]
  rfl
theorem mul_ok {w : List Nat} {k : Nat} (hk : k ≤ 10000) (hw : w.length ≤ 20) : PySem.MulOk (sx w) (k : Int) := by
  unfold PySem.MulOk
  refine ⟨?_, fun h1 h2 => ?_, fun h1 h2 => ?_⟩
  · rw [Bool.or_eq_false_iff]
    exact ⟨decide_eq_false (by omega), decide_eq_false (by omega)⟩
  · have h3 : (20 : Int) ≤ (2 ^ 63 - 1) / (k : Int) := Int.le_ediv_of_mul_le (by omega) (by omega)
    rw [len_sx]
    omega
  · have h3 : (sx w).length * ((k : Int)).toNat ≤ 20 * 10000 := by
      rw [Int.toNat_natCast, len_sx]
      exact Nat.mul_le_mul hw hk
    exact decide_eq_false (Nat.not_lt.mpr (Nat.le_trans h3 (by decide)))
theorem mul_lit {s : String} {k : Nat} (h1 : 2 ≤ k) (h2 : k ≤ 10000) (h3 : 1 ≤ (tx s).length) (h4 : (tx s).length ≤ 20) : binU .mul (.str (Str.ofString s)) (.int (k : Int)) S = .ok (.str (sx (rep k (tx s)))) S := by
  have e : Str.ofString s = sx (tx s) := rfl
  rw [e]
  show (if PySem.MulOk (sx (tx s)) (k : Int) then R.ok (U.str (PySem.Txt.mul (sx (tx s)) (k : Int))) S else .bad) = _
  rw [if_pos (mul_ok h2 h4), mul_rep h1 h3]
theorem add_lit {a : List Nat} {s : String} (h : a.length + (tx s).length ≤ 100000) : binU .add (.str (sx a)) (.str (Str.ofString s)) S = .ok (.str (sx (a ++ tx s))) S := add_sx (b := tx s) h
theorem lit_add {a : List Nat} {s : String} (h : (tx s).length + a.length ≤ 100000) : binU .add (.str (Str.ofString s)) (.str (sx a)) S = .ok (.str (sx (tx s ++ a))) S := add_sx (a := tx s) h
theorem ok_si {x : Str} {i : Int} (h : PyData.strOk x = true) : okU (.tup [.str x, .int i]) = true := by simp [okU, okUs, purU, purUs, pdU, pdUs, PySem.SeqAt.shaped, PyData.canLay0, PyData.canLayAll0, PyData.depth, PyData.depthAll, h]
theorem ok_ss {x y : Str} (h : PyData.strOk x = true) (h2 : PyData.strOk y = true) : okU (.tup [.str x, .str y]) = true := by simp [okU, okUs, purU, purUs, pdU, pdUs, PySem.SeqAt.shaped, PyData.canLay0, PyData.canLayAll0, PyData.depth, PyData.depthAll, h, h2]
theorem ok_l1 {x : Str} {i : Int} (h : PyData.strOk x = true) : okUs [.tup [.str x, .int i]] = true := by simp [okU, okUs, purU, purUs, pdU, pdUs, PySem.SeqAt.shaped, PyData.canLay0, PyData.canLayAll0, PyData.depth, PyData.depthAll, h]
theorem eqq {a b : U} {k : Bool} (ha : okU a = true) (hb : okU b = true) (hn : ∀ n, a ≠ .loc n) (h : ∃ xs, a = .tup xs) (e : Oz.eqU a b = k) : eqR a b S = some k := by
  obtain ⟨xs, rfl⟩ := h
  unfold eqR
  simp only [ha, hb, Bool.and_self, if_true, e]
/-- a told answer is what is asked -/
theorem ne_same {a : U} (h : ∃ x y, a = .tup [.str x, y]) (ha : okU a = true) (he : Oz.eqU a a = true) : cmpU .ne a a S = .ok (.bl false) S := by
  obtain ⟨x, y, rfl⟩ := h
  unfold cmpU cmpB
  rw [eqq ha ha (fun n z => by cases z) ⟨_, rfl⟩ he]
  rfl
theorem eq_same {a : U} (h : ∃ x y, a = .tup [.str x, y]) (ha : okU a = true) (he : Oz.eqU a a = true) : cmpU .eq a a S = .ok (.bl true) S := by
  obtain ⟨x, y, rfl⟩ := h
  unfold cmpU cmpB
  rw [eqq ha ha (fun n z => by cases z) ⟨_, rfl⟩ he]
theorem ne_si {x : Str} {i : Int} (h : PyData.strOk x = true) : cmpU .ne (.tup [.str x, .int i]) (.tup [.str x, .int i]) S = .ok (.bl false) S := ne_same ⟨_, _, rfl⟩ (ok_si h) (by simp [Oz.eqU, Oz.eqUs])
theorem eq_si {x : Str} {i : Int} (h : PyData.strOk x = true) : cmpU .eq (.tup [.str x, .int i]) (.tup [.str x, .int i]) S = .ok (.bl true) S := eq_same ⟨_, _, rfl⟩ (ok_si h) (by simp [Oz.eqU, Oz.eqUs])
theorem ne_ss {x y : Str} (h : PyData.strOk x = true) (h2 : PyData.strOk y = true) : cmpU .ne (.tup [.str x, .str y]) (.tup [.str x, .str y]) S = .ok (.bl false) S := ne_same ⟨_, _, rfl⟩ (ok_ss h h2) (by simp [Oz.eqU, Oz.eqUs])
theorem eq_ss {x y : Str} (h : PyData.strOk x = true) (h2 : PyData.strOk y = true) : cmpU .eq (.tup [.str x, .str y]) (.tup [.str x, .str y]) S = .ok (.bl true) S := eq_same ⟨_, _, rfl⟩ (ok_ss h h2) (by simp [Oz.eqU, Oz.eqUs])
end Pr

end

section
set_option maxHeartbeats 4000000
namespace Pr
open PySem L2 Oz
variable {S S' : Sto} {d : Nat}
theorem limit_eq {l : List Nat} {k good : Bool} (hz : l.length ≤ 100000) (h : told (d + 6) k l = if good = true then noneR else depR) : ∃ S', (pg.cal (d + 9)).call "_law_limit" [.str (sx l), .bl k, .bl good] S = .ok (.bl true) S' ∧ Gr S S' := by
  rw [call_eq (df := ⟨3, 4, false, T__law_limit⟩) (by kernel_rfl), run_eq (by rfl)]
  unfold T__law_limit
  cases good with
  | true =>
    obtain ⟨S1, e, g⟩ := raised_eq (S := S) (d := d) hz (h.trans (if_pos rfl))
    refine ⟨S1, ?_, g⟩
    simp_arith [e, sz2', List.length_cons, List.length_nil, Nat.zero_add, Nat.reduceAdd, eq_si (x := "none") (i := 0) (by decide +kernel)]
  | false =>
    obtain ⟨S1, e, g⟩ := raised_eq (S := S) (d := d) hz (h.trans (if_neg Bool.false_ne_true))
    refine ⟨S1, ?_, g⟩
    simp_arith [e, sz2', List.length_cons, List.length_nil, Nat.zero_add, Nat.reduceAdd, eq_ss (x := "name") (y := "depth") (by decide +kernel) (by decide +kernel)]
def absU (i : Int) : Int := if i < 0 then -i else i
theorem state_eq (ns : List Int) (hl : ns.length ≤ 63) : ∃ st cl S', (pg.cal (d + 1)).call "_law_state" [.loc 0] [.fro (ns.map U.int)] = .ok (.loc st) S' ∧ HasSt S' st cl := by
  rw [call_eq (df := ⟨1, 3, false, T__law_state⟩) (by kernel_rfl), run_eq (by rfl)]
  unfold T__law_state
  have hsl : slU (.loc 0) none (some 63) [.fro (ns.map U.int)] = .ok (.loc 1) [.fro (ns.map U.int), .lst (ns.map U.int)] := by
    have hc : cutA (ns.map U.int) none (some 63) = ns.map U.int := by
      unfold cutA
      have e1 : HT.sIx (ns.map U.int).length (ns.map U.int).length (some 63) = (ns.map U.int).length := by
        unfold HT.sIx
        dsimp only
        rw [if_neg (by decide), List.length_map]
        omega
      rw [e1, HT.sIx_none, Nat.sub_zero, List.drop_zero]
      exact List.take_length
    show R.ok (U.loc 1) ([Cel.fro (ns.map U.int)] ++ [Cel.lst (cutA (ns.map U.int) none (some 63))]) = _
    rw [hc]
    rfl
  simp_arith [hsl]
  have hit : iterU [.fro (ns.map U.int), .lst (ns.map U.int)] (.loc 1) = some (ns.map U.int, some 1) := rfl
  simp_arith [hit, wipeE]
  rw [lcI_all (g := fun u => match u with | .int i => .int (absU i) | u => u) (acc := []) (fun u hu => ?_) (fun x => ?_) rfl (by simp; exact Nat.le_trans hl (by decide))]
  · have hm : (ns.map U.int).map (fun u => match u with | .int i => U.int (absU i) | u => u) = (ns.map absU).map U.int := by
      simp only [List.map_map]
      rfl
    rw [hm]
    simp only [List.length_cons, List.length_nil, Nat.zero_add, Nat.reduceAdd, List.nil_append, List.set_cons_succ, List.set_cons_zero]
    have hln : bfU .len [.loc 2] [Cel.fro (ns.map U.int), Cel.lst (ns.map U.int), Cel.lst ((ns.map absU).map U.int)] = .ok (.int ((ns.map absU).map U.int).length) _ := len_loc (n := 2) rfl
    have hl0 : (((((ns.map absU).map U.int).length : Nat) : Int) = 0) = (ns = []) := by
      rw [List.length_map, List.length_map, eq_iff_iff]
      constructor
      · intro z
        exact List.length_eq_zero_iff.mp (by omega)
      · rintro rfl
        rfl
    have hpos : ∀ x ∈ ns.map absU, 0 ≤ x := fun x hx => by
      obtain ⟨i, _, rfl⟩ := List.mem_map.mp hx
      unfold absU
      split <;> omega
    simp_arith [hln, hl0]
    by_cases hn : ns = []
    · subst hn
      simp_arith [decide_true, sz1, sz2, List.length_cons, List.length_nil, Nat.zero_add, Nat.reduceAdd]
      exact ⟨4, 3, _, rfl, 0, [0], rfl, rfl, by decide, by decide, by decide⟩
    · simp_arith [hn, decide_false, sz1, sz2, List.length_cons, List.length_nil, Nat.zero_add, Nat.reduceAdd]
      exact ⟨3, 2, _, rfl, 0, ns.map absU, rfl, rfl, by decide, by simpa using hn, hpos⟩
  · obtain ⟨i, _, rfl⟩ := List.mem_map.mp hu
    exact ⟨_, rfl, fun S => ⟨rfl, rfl⟩⟩
  · unfold stays
    exact isLst_lst (us := ns.map U.int) rfl
end Pr

end

section
set_option maxHeartbeats 4000000
namespace Pr
open PySem L2 Oz
variable {S S' : Sto}
theorem rEq_eq {x y : Option (Str × U)} (h : rEq x y = true) : x = y := by
  cases y with
  | none => cases x <;> cases h
  | some q => obtain ⟨a, b⟩ := q; exact rEq_iff h
theorem rep_len (k : Nat) (w : List Nat) : (rep k w).length = k * w.length := by
  unfold rep
  simp
theorem lim {l : List Nat} {k : Bool} {m n : Nat} (hz : l.length ≤ 100000) (h : rEq (told 673 k l) (if m < n then noneR else depR) = true) : ∃ S', (pg.cal 676).call "_law_limit" [.str (sx l), .bl k, .bl (decide (m < n))] S = .ok (.bl true) S' ∧ Gr S S' := by
  refine limit_eq (d := 667) hz ?_
  rw [rEq_eq h]
  by_cases q : m < n
  · rw [if_pos q, if_pos (decide_eq_true q)]
  · rw [if_neg q, if_neg (by rw [decide_eq_false q]; exact Bool.false_ne_true)]
theorem chains_eq {st cl : Nat} (hs : HasSt S st cl) : ∃ S', (pg.cal 677).call "_law_chains" [.loc st] S = .ok (.bl true) S' := by
  rw [call_eq (d := 676) (df := ⟨1, 2, false, T__law_chains⟩) (by kernel_rfl), run_eq (by rfl)]
  unfold T__law_chains
  obtain ⟨v, S1, t1, v0, v12, hs1, f1⟩ := takes_eq (d := 675) hs (most := 12) (by decide) (by decide)
  have t1 : (pg.cal 676).call "_law_take" [.loc st, .int 12] S = .ok (.int v) S1 := t1
  obtain ⟨m, hm⟩ : ∃ m : Nat, 24 + v = (m : Int) := ⟨(24 + v).toNat, by omega⟩
  have hmm : m ∈ ms := by
    have : 24 ≤ m ∧ m < 36 := by omega
    simp only [ms, List.mem_cons, List.not_mem_nil, or_false]
    omega
  have hb : 24 ≤ m ∧ m < 36 := by omega
  have l1 : (tx "(").length = 1 := by decide +kernel
  have l2 : (tx ")").length = 1 := by decide +kernel
  have l3 : (tx "x").length = 1 := by decide +kernel
  have l4 : (tx "not ").length = 4 := by decide +kernel
  have l5 : (tx " + 1").length = 4 := by decide +kernel
  have l6 : (tx "1").length = 1 := by decide +kernel
  have l7 : (tx "box ").length = 4 := by decide +kernel
  have l8 : (tx "int").length = 3 := by decide +kernel
  have l9 : (tx " -> int").length = 7 := by decide +kernel
  have e30 : ((m : Int) + 30) = ((m + 30 : Nat) : Int) := by omega
  have c30 : ((m : Int) < 30) = (m < 30) := by simp only [eq_iff_iff]; omega
  have c29 : ((m : Int) < 29) = (m < 29) := by simp only [eq_iff_iff]; omega
  obtain ⟨S2, q2, _⟩ := lim (S := S1) (by simp only [List.length_append, rep_len, l1, l2, l3]; omega) (List.all_eq_true.mp ch1 m hmm)
  obtain ⟨S3, q3, _⟩ := lim (S := S2) (by simp only [List.length_append, rep_len, l3, l4]; omega) (List.all_eq_true.mp ch2 m hmm)
  obtain ⟨S4, q4, _⟩ := lim (S := S3) (by simp only [List.length_append, rep_len, l5, l6]; omega) (List.all_eq_true.mp ch3 m hmm)
  obtain ⟨S5, q5, _⟩ := lim (S := S4) (by simp only [List.length_append, rep_len, l7, l8]; omega) (List.all_eq_true.mp ch4 m hmm)
  obtain ⟨S6, q6, _⟩ := lim (S := S5) (by simp only [List.length_append, rep_len, l8, l9]; omega) (List.all_eq_true.mp ch5 m hmm)
  refine ⟨S6, ?_⟩
  simp_arith [t1, hm, mul_lit (s := "(") (k := m) (by omega) (by omega) (by rw [l1]; omega) (by rw [l1]; omega), mul_lit (s := ")") (k := m) (by omega) (by omega) (by rw [l2]; omega) (by rw [l2]; omega), add_lit (a := rep m (tx "(")) (s := "x") (by rw [rep_len, l1, l3]; omega), add_sx (a := rep m (tx "(") ++ tx "x") (b := rep m (tx ")")) (by simp only [List.length_append, rep_len, l1, l2, l3]; omega), c30, q2, Bool.not_true, e30]
  simp_arith [e30, mul_lit (s := "not ") (k := m + 30) (by omega) (by omega) (by rw [l4]; omega) (by rw [l4]; omega), add_lit (a := rep (m + 30) (tx "not ")) (s := "x") (by simp only [rep_len, l4, l3]; omega), c29, q3, Bool.not_true]
  simp_arith [e30, mul_lit (s := " + 1") (k := m + 30) (by omega) (by omega) (by rw [l5]; omega) (by rw [l5]; omega), lit_add (a := rep (m + 30) (tx " + 1")) (s := "1") (by simp only [rep_len, l5, l6]; omega), c30, q4, Bool.not_true]
  simp_arith [e30, mul_lit (s := "box ") (k := m + 30) (by omega) (by omega) (by rw [l7]; omega) (by rw [l7]; omega), add_lit (a := rep (m + 30) (tx "box ")) (s := "int") (by simp only [rep_len, l7, l8]; omega), c30, q5, Bool.not_true]
  simp_arith [e30, mul_lit (s := " -> int") (k := m + 30) (by omega) (by omega) (by rw [l9]; omega) (by rw [l9]; omega), lit_add (a := rep (m + 30) (tx " -> int")) (s := "int") (by simp only [rep_len, l8, l9]; omega), c30, q6]
end Pr

end

section
set_option maxHeartbeats 8000000
namespace Pr
open PySem L2 Oz
variable {S S' : Sto}
theorem Rz {l : List Nat} {x : Str} {u : U} (hz : l.length ≤ 100000) (h : told 675 false l = some (x, u)) (S : Sto) : ∃ S', (pg.cal 677).call "_law_raised" [.str (sx l), .bl false] S = .ok (.tup [.str x, u]) S' ∧ Gr S S' := raised_eq (d := 669) hz h
theorem not_in_one {x : Str} {i : Int} (h : PyData.strOk x = true) : cmpU .notIn (.tup [.str x, .int i]) (.loc S.length) (S ++ [.lst [.tup [.str x, .int i]]]) = .ok (.bl false) (S ++ [.lst [.tup [.str x, .int i]]]) := by
  have e : inR (.tup [.str x, .int i]) (.loc S.length) (S ++ [.lst [.tup [.str x, .int i]]]) = some true := by
    unfold inR
    simp only [items?, list?, last_get, flatU, Bool.false_and, Bool.false_eq_true, if_false, ok_si h, ok_l1 h, Bool.and_self, if_true]
    simp [Oz.eqU, Oz.eqUs]
  unfold cmpU cmpB
  rw [e]
  rfl
theorem rep_one (k c : Nat) : rep k [c] = List.replicate k c := by simp [rep]
theorem e32 : tx " " = [32] := by decide +kernel
theorem e1' : (tx "1").length = 1 := by decide +kernel
theorem sp_len {k : Nat} (h : k ≤ 10000) : (tx "1" ++ List.replicate k 32).length ≤ 100000 := by rw [List.length_append, List.length_replicate, e1']; omega
theorem sp_a (S : Sto) : ∃ S', (pg.cal 677).call "_law_raised" [.str (sx (tx "1" ++ rep 9999 (tx " "))), .bl false] S = .ok (.tup [.str "none", .int 0]) S' ∧ Gr S S' := by
  rw [e32, rep_one]
  exact Rz (sp_len (by omega)) k_9999 S
theorem sp_b (S : Sto) : ∃ S', (pg.cal 677).call "_law_raised" [.str (sx (tx "1" ++ rep 10000 (tx " "))), .bl false] S = .ok (.tup [.str "name", .str "text"]) S' ∧ Gr S S' := by
  rw [e32, rep_one]
  exact Rz (sp_len (by omega)) k_10000 S
theorem sp_m {k : Nat} (h1 : 2 ≤ k) (h : k ≤ 10000) (S : Sto) : binU .mul (.str (Str.ofString " ")) (.int (k : Int)) S = .ok (.str (sx (rep k (tx " ")))) S := mul_lit (s := " ") h1 h (by rw [e32]; decide) (by rw [e32]; decide)
theorem sp_x {k : Nat} (h : k ≤ 10000) (S : Sto) : binU .add (.str (Str.ofString "1")) (.str (sx (rep k (tx " ")))) S = .ok (.str (sx (tx "1" ++ rep k (tx " ")))) S := lit_add (by rw [rep_len, e1', e32]; simp; omega)
section
variable {Φ : Cal} {env env' : Oz.Env} {S'' : Sto} {X Y : E} {x : Str} {u w : U} {t t' : T} {s : Oz.St} {b b' : Sts}
theorem tne (hx : ev Φ X env S = .ok (.str x) S) (hr : Φ.call "_law_raised" [.str x, .bl false] S = .ok u S') (hy : ev Φ Y env S' = .ok w S') (hn : cmpU .ne u w S' = .ok (.bl false) S') :
    evt Φ (.e (.cmp .ne (.call "_law_raised" (.cons X (.cons (.k (.bl false)) .nil))) Y)) env S = .ok false S' := by
  rw [evt_e, ev_cmp, ev_call, evs_cons, hx]
  simp only [bind_ok, evs_cons, ev_k, evs_nil, hr, hy, hn]
  rfl
theorem tni (hx : ev Φ X env S = .ok (.str x) S) (hr : Φ.call "_law_raised" [.str x, .bl false] S = .ok u S') (hy : ev Φ Y env S' = .ok w S'') (hn : cmpU .notIn u w S'' = .ok (.bl false) S'') :
    evt Φ (.e (.cmp .notIn (.call "_law_raised" (.cons X (.cons (.k (.bl false)) .nil))) Y)) env S = .ok false S'' := by
  rw [evt_e, ev_cmp, ev_call, evs_cons, hx]
  simp only [bind_ok, evs_cons, ev_k, evs_nil, hr, hy, hn]
  rfl
theorem or_skip (h : evt Φ t env S = .ok false S') (h' : evt Φ t' env S' = .ok false S'') : evt Φ (.or t t') env S = .ok false S'' := by
  rw [evt_or, h, bind_ok, if_neg Bool.false_ne_true, h']
theorem if_skip (h : evt Φ t env S = .ok false S') : ex Φ (.if_ t b .nil) env S = .nx env S' := by
  rw [ex_if, h, on_ok, if_neg Bool.false_ne_true, exs_nil]
theorem cons_go (h : ex Φ s env S = .nx env' S') : exs Φ (.cons s b) env S = exs Φ b env' S' := by
  rw [exs_cons, h, then_nx]
theorem set_go {i : Nat} (h : ev Φ X env S = .ok u S') : ex Φ (.set false [i] X) env S = .nx (env.set i (some u)) S' := by
  rw [ex_set, h, on_ok]; rfl
theorem add_go {a : U} (h : ev Φ X env S = .ok u S) (h' : ev Φ Y env S = .ok w S) (e : binU .add u w S = .ok a S) : ev Φ (.bin .add X Y) env S = .ok a S := by
  rw [ev_bin, h, bind_ok, h', bind_ok, e]
theorem mul_go {a : U} (h : ev Φ X env S = .ok u S) (h' : ev Φ Y env S = .ok w S) (e : binU .mul u w S = .ok a S) : ev Φ (.bin .mul X Y) env S = .ok a S := by
  rw [ev_bin, h, bind_ok, h', bind_ok, e]
theorem tup2 (h : ev Φ X env S = .ok u S) (h' : ev Φ Y env S = .ok w S) : ev Φ (.tup (.cons X (.cons Y .nil))) env S = .ok (.tup [u, w]) S := by
  rw [ev_tup, evs_cons, h, bind_ok, evs_cons, h', bind_ok, evs_nil, bind_ok, bind_ok, bind_ok, if_pos (show [u, w].length ≤ sizeLine from (by decide : 2 ≤ sizeLine))]
end
theorem core {Φ : Cal} {a : List Nat} {st : Nat} {v : Int} {D : Nat} {I S0 S1 S2 S3 S4 S5 S6 S7 S8 S9 S10 S11 S12 S13 S14 S15 S16 S17 S18 S19 : Sto} (hD : 1 + v = (D : Int)) (la : a.length ≤ 100000 - 1000)
    (q0 : Φ.call "_law_state" [.loc 0] I = .ok (.loc st) S0) (q1 : Φ.call "_law_take" [.loc st, .int 3] S0 = .ok (.int v) S1) (q2 : Φ.call "_law_text" [.loc st, .int (D : Nat)] S1 = .ok (.str (sx a)) S2)
    (r3 : Φ.call "_law_raised" [.str (sx a), .bl false] S2 = .ok (.tup [.str "none", .int 0]) S3)
    (r4 : Φ.call "_law_raised" [.str (Str.ofString ""), .bl false] S3 = .ok (.tup [.str "at", .int 0]) S4)
    (r5 : Φ.call "_law_raised" [.str (sx (a ++ tx " )")), .bl false] S4 = .ok (.tup [.str "at", .int ((a.length : Int) + 1)]) S5)
    (r6 : Φ.call "_law_raised" [.str (sx (tx "( " ++ a)), .bl false] S5 = .ok (.tup [.str "at", .int ((a.length : Int) + 2)]) S6)
    (r7 : Φ.call "_law_raised" [.str (sx (a ++ tx " +")), .bl false] S6 = .ok (.tup [.str "at", .int ((a.length : Int) + 2)]) S7)
    (r8 : Φ.call "_law_raised" [.str (sx (a ++ tx " $ 1")), .bl false] S7 = .ok (.tup [.str "at", .int ((a.length : Int) + 1)]) S8)
    (r9 : Φ.call "_law_raised" [.str (sx (a ++ tx " * 07")), .bl false] S8 = .ok (.tup [.str "at", .int ((a.length : Int) + 3)]) S9)
    (r10 : Φ.call "_law_raised" [.str (sx (a ++ tx " * 3a")), .bl false] S9 = .ok (.tup [.str "at", .int ((a.length : Int) + 3)]) S10)
    (r11 : Φ.call "_law_raised" [.str (sx (a ++ tx " * 2147483648")), .bl false] S10 = .ok (.tup [.str "at", .int ((a.length : Int) + 3)]) S11)
    (r12 : Φ.call "_law_raised" [.str (sx (a ++ tx " * 2147483647")), .bl false] S11 = .ok (.tup [.str "none", .int 0]) S12)
    (r13 : Φ.call "_law_raised" [.str (sx (a ++ tx " < " ++ rep 21 (tx "a"))), .bl false] S12 = .ok (.tup [.str "at", .int ((a.length : Int) + 3)]) S13)
    (r14 : Φ.call "_law_raised" [.str (sx (tx "fun x : int, bool => " ++ a)), .bl false] (S13 ++ [.lst [.tup [.str "at", .int ((a.length : Int) + 3)]]]) = .ok (.tup [.str "at", .int 11]) S14)
    (r15 : Φ.call "_law_raised" [.str (sx (tx "let in = 1 in " ++ a)), .bl false] S14 = .ok (.tup [.str "at", .int 4]) S15)
    (r16 : Φ.call "_law_raised" [.str (Str.ofString "1 == 2 == 3"), .bl false] S15 = .ok (.tup [.str "at", .int 7]) S16)
    (r17 : Φ.call "_law_raised" [.str (sx (tx "1" ++ rep 9999 (tx " "))), .bl false] S16 = .ok (.tup [.str "none", .int 0]) S17)
    (r18 : Φ.call "_law_raised" [.str (sx (tx "1" ++ rep 10000 (tx " "))), .bl false] S17 = .ok (.tup [.str "name", .str "text"]) S18)
    (r19 : Φ.call "_law_chains" [.loc st] S18 = .ok (.bl true) S19) : exs Φ T_law [some (.loc 0), none, none, none] I = .ret (.bl true) S19 := by
  have ln : ∀ s : String, (tx s).length ≤ 100 → a.length + (tx s).length ≤ 100000 := fun s h => by omega
  have ln2 : ∀ s : String, (tx s).length ≤ 100 → (tx s).length + a.length ≤ 100000 := fun s h => by omega
  have A := fun (s : String) (h : (tx s).length ≤ 100) (S : Sto) => add_lit (S := S) (a := a) (s := s) (ln s h)
  have B := fun (s : String) (h : (tx s).length ≤ 100) (S : Sto) => lit_add (S := S) (a := a) (s := s) (ln2 s h)
  have hat : PyData.strOk "at" = true := by decide +kernel
  have hno : PyData.strOk "none" = true := by decide +kernel
  have hs : a.length ≤ sizeLine := Nat.le_trans la (by decide)
  let en : Oz.Env := [some (.loc 0), some (.loc st), some (.str (sx a)), some (.int (a.length : Nat))]
  have V2 : ∀ S, ev Φ (.v 2) en S = .ok (.str (sx a)) S := fun S => rfl
  have V3 : ∀ S, ev Φ (.v 3) en S = .ok (.int (a.length : Nat)) S := fun S => rfl
  have K : ∀ (u : U) S, ev Φ (.k u) en S = .ok u S := fun u S => rfl
  have at_ : ∀ (k : Int) S, ev Φ (.tup (.cons (.k (.str "at")) (.cons (.bin .add (.v 3) (.k (.int k))) .nil))) en S = .ok (.tup [.str "at", .int ((a.length : Int) + k)]) S := fun k S => tup2 (K _ _) (add_go (V3 _) (K _ _) rfl)
  have kt : ∀ (u w : U) S, ev Φ (.tup (.cons (.k u) (.cons (.k w) .nil))) en S = .ok (.tup [u, w]) S := fun u w S => tup2 (K _ _) (K _ _)
  have r : ∀ (s : String) (h : (tx s).length ≤ 100) S, ev Φ (.bin .add (.v 2) (.k (.str (Str.ofString s)))) en S = .ok (.str (sx (a ++ tx s))) S := fun s h S => add_go (V2 _) (K _ _) (A s h S)
  have l : ∀ (s : String) (h : (tx s).length ≤ 100) S, ev Φ (.bin .add (.k (.str (Str.ofString s))) (.v 2)) en S = .ok (.str (sx (tx s ++ a))) S := fun s h S => add_go (K _ _) (V2 _) (B s h S)
  unfold T_law
  rw [cons_go (env' := [some (.loc 0), some (.loc st), none, none]) (S' := S0) (set_go (i := 1) (u := .loc st) (by rw [ev_call, evs_cons, ev_v' rfl, bind_ok, evs_nil, bind_ok, bind_ok, q0]))]
  rw [cons_go (env' := [some (.loc 0), some (.loc st), some (.str (sx a)), none]) (S' := S2) (set_go (i := 2) (u := .str (sx a)) (by
    rw [ev_call, evs_cons, ev_v' (u := .loc st) rfl, bind_ok, evs_cons, ev_bin, ev_k, bind_ok, ev_call, evs_cons, ev_v' (u := .loc st) rfl, bind_ok, evs_cons, ev_k, bind_ok, evs_nil, bind_ok, bind_ok, bind_ok, q1, bind_ok, add_int, bind_ok, evs_nil, bind_ok, bind_ok, bind_ok, hD, q2]))]
  rw [cons_go (env' := en) (S' := S2) (set_go (i := 3) (u := .int (a.length : Nat)) (by rw [ev_bf, evs_cons, ev_v' (u := .str (sx a)) rfl, bind_ok, evs_nil, bind_ok, bind_ok, len_str (by rw [len_sx]; exact hs), len_sx]))]
  rw [cons_go (if_skip (or_skip (tne (V2 _) r3 (kt _ _ _) (ne_si hno)) (tne (K _ _) r4 (kt _ _ _) (ne_si hat))))]
  rw [cons_go (if_skip (or_skip (tne (r " )" (by decide +kernel) _) r5 (at_ _ _) (ne_si hat)) (tne (l "( " (by decide +kernel) _) r6 (at_ _ _) (ne_si hat))))]
  rw [cons_go (if_skip (or_skip (tne (r " +" (by decide +kernel) _) r7 (at_ _ _) (ne_si hat)) (tne (r " $ 1" (by decide +kernel) _) r8 (at_ _ _) (ne_si hat))))]
  rw [cons_go (if_skip (or_skip (tne (r " * 07" (by decide +kernel) _) r9 (at_ _ _) (ne_si hat)) (tne (r " * 3a" (by decide +kernel) _) r10 (at_ _ _) (ne_si hat))))]
  rw [cons_go (if_skip (tne (r " * 2147483648" (by decide +kernel) _) r11 (at_ _ _) (ne_si hat)))]
  rw [cons_go (if_skip (tne (r " * 2147483647" (by decide +kernel) _) r12 (kt _ _ _) (ne_si hno)))]
  have M1 : ∀ S, binU .mul (.str (Str.ofString "a")) (.int 21) S = .ok (.str (sx (rep 21 (tx "a")))) S := fun S => mul_lit (s := "a") (k := 21) (by decide) (by decide) (by decide +kernel) (by decide +kernel)
  have M2 : ∀ S, binU .mul (.str (Str.ofString " ")) (.int 9999) S = .ok (.str (sx (rep 9999 (tx " ")))) S := fun S => sp_m (k := 9999) (by omega) (by omega) S
  have M3 : ∀ S, binU .mul (.str (Str.ofString " ")) (.int 10000) S = .ok (.str (sx (rep 10000 (tx " ")))) S := fun S => sp_m (k := 10000) (by omega) (by omega) S
  have X1 : ∀ S, binU .add (.str (sx (a ++ tx " < "))) (.str (sx (rep 21 (tx "a")))) S = .ok (.str (sx (a ++ tx " < " ++ rep 21 (tx "a")))) S := fun S => add_sx (by rw [List.length_append, rep_len, show (tx " < ").length = 3 by decide +kernel, show (tx "a").length = 1 by decide +kernel]; omega)
  rw [cons_go (if_skip (tni (add_go (r " < " (by decide +kernel) _) (mul_go (K _ _) (K _ _) (M1 _)) (X1 _)) r13
    (show ev Φ (.lst (.cons (.tup (.cons (.k (.str "at")) (.cons (.bin .add (.v 3) (.k (.int 3))) .nil))) .nil)) en S13 = .ok (.loc S13.length) (S13 ++ [.lst [.tup [.str "at", .int ((a.length : Int) + 3)]]]) by
      rw [ev_lst, evs_cons, at_, bind_ok, evs_nil, bind_ok, bind_ok, if_pos (show [_].length ≤ sizeLine from (by decide : 1 ≤ sizeLine))]) (not_in_one hat)))]
  rw [cons_go (if_skip (tne (l "fun x : int, bool => " (by decide +kernel) _) r14 (kt _ _ _) (ne_si hat)))]
  rw [cons_go (if_skip (or_skip (tne (l "let in = 1 in " (by decide +kernel) _) r15 (kt _ _ _) (ne_si hat)) (tne (K _ _) r16 (kt _ _ _) (ne_si hat))))]
  rw [cons_go (if_skip (or_skip (tne (add_go (K _ _) (mul_go (K _ _) (K _ _) (M2 _)) (sp_x (by omega) _)) r17 (kt _ _ _) (ne_si hno)) (tne (add_go (K _ _) (mul_go (K _ _) (K _ _) (M3 _)) (sp_x (by omega) _)) r18 (kt _ _ _) (ne_ss (by decide +kernel) (by decide +kernel)))))]
  rw [exs_cons, ex_ret, ev_call, evs_cons, ev_v' (u := .loc st) rfl, bind_ok, evs_nil, bind_ok, bind_ok, r19, on_ok, then_ret]
theorem law_eq (ns : List Int) (hl : ns.length ≤ 63) : ∃ S', (⟨1, N_law.length, false, T_law⟩ : Df).run (pg.cal 677) [.loc 0] [.fro (ns.map U.int)] = .ok (.bl true) S' := by
  obtain ⟨st, cl, S0, q0, hs0⟩ := state_eq (d := 676) ns hl
  obtain ⟨v, S1, q1, v0, v3, hs1, f1⟩ := takes_eq (d := 676) hs0 (most := 3) (by decide) (by decide)
  obtain ⟨D, hD⟩ : ∃ D : Nat, 1 + v = (D : Int) := ⟨(1 + v).toNat, by omega⟩
  have hD3 : D ≤ 3 := by omega
  obtain ⟨a, S2, q2, ga, hs2, f2⟩ := text_eq (d := 675 - D) (st := st) (cl := cl) D S1 hD3 hs1
  rw [show 675 - D + D + 2 = 677 by omega] at q2
  have la := ga.short hD3
  have q0 : (pg.cal 677).call "_law_state" [.loc 0] [.fro (ns.map U.int)] = .ok (.loc st) S0 := q0
  have q1 : (pg.cal 677).call "_law_take" [.loc st, .int 3] S0 = .ok (.int v) S1 := q1
  have hs : a.length ≤ sizeLine := Nat.le_trans la (by decide)
  have ln : ∀ s : String, (tx s).length ≤ 100 → a.length + (tx s).length ≤ 100000 := fun s h => by omega
  have ln2 : ∀ s : String, (tx s).length ≤ 100 → (tx s).length + a.length ≤ 100000 := fun s h => by omega
  have ln3 : ∀ s : String, (tx s).length ≤ 100 → (a ++ tx s).length ≤ 100000 := fun s h => by rw [List.length_append]; omega
  have ln4 : ∀ s : String, (tx s).length ≤ 100 → (tx s ++ a).length ≤ 100000 := fun s h => by rw [List.length_append]; omega
  have A := fun (s : String) (h : (tx s).length ≤ 100) (S : Sto) => add_lit (S := S) (a := a) (s := s) (ln s h)
  have B := fun (s : String) (h : (tx s).length ≤ 100) (S : Sto) => lit_add (S := S) (a := a) (s := s) (ln2 s h)
  obtain ⟨S3, r3, g3⟩ := Rz (by omega) (told_good (dd := 675) ga hD3 (by decide)) S2
  obtain ⟨S4, r4, g4⟩ := Rz (by decide +kernel) k_empty S3
  obtain ⟨S5, r5, g5⟩ := Rz (u := .int ((a.length : Int) + 1)) (ln3 _ (by decide +kernel)) (told_paren (dd := 675) ga hD3 (by decide)) S4
  obtain ⟨S6, r6, g6⟩ := Rz (u := .int ((a.length : Int) + 2)) (ln4 _ (by decide +kernel)) (told_open (dd := 675) ga hD3 (by decide)) S5
  obtain ⟨S7, r7, g7⟩ := Rz (u := .int ((a.length : Int) + 2)) (ln3 _ (by decide +kernel)) (told_plus (dd := 675) ga hD3 (by decide)) S6
  obtain ⟨S8, r8, g8⟩ := Rz (u := .int ((a.length : Int) + 1)) (ln3 _ (by decide +kernel)) (told_dollar (dd := 675) ga hD3) S7
  obtain ⟨S9, r9, g9⟩ := Rz (u := .int ((a.length : Int) + 3)) (ln3 _ (by decide +kernel)) (told_07 (dd := 675) ga hD3) S8
  obtain ⟨S10, r10, g10⟩ := Rz (u := .int ((a.length : Int) + 3)) (ln3 _ (by decide +kernel)) (told_3a (dd := 675) ga hD3) S9
  obtain ⟨S11, r11, g11⟩ := Rz (u := .int ((a.length : Int) + 3)) (ln3 _ (by decide +kernel)) (told_big (dd := 675) ga hD3) S10
  obtain ⟨S12, r12, g12⟩ := Rz (ln3 _ (by decide +kernel)) (told_most (dd := 675) ga hD3 (by decide)) S11
  have elong : a ++ tx " < " ++ rep 21 (tx "a") = a ++ tx " < aaaaaaaaaaaaaaaaaaaaa" := by
    rw [List.append_assoc]
    congr 1
  obtain ⟨S13, r13, g13⟩ := Rz (u := .int ((a.length : Int) + 3)) (ln3 _ (by decide +kernel)) (told_long (dd := 675) ga hD3) S12
  rw [← elong] at r13
  obtain ⟨S14, r14, g14⟩ := Rz (ln4 _ (by decide +kernel)) (told_fun (dd := 675) ga hD3 (by decide)) (S13 ++ [.lst [.tup [.str "at", .int ((a.length : Int) + 3)]]])
  obtain ⟨S15, r15, g15⟩ := Rz (ln4 _ (by decide +kernel)) (told_let (dd := 675) ga hD3 (by decide)) S14
  obtain ⟨S16, r16, g16⟩ := Rz (by decide +kernel) k_eq S15
  obtain ⟨S17, r17, g17⟩ := sp_a S16
  obtain ⟨S18, r18, g18⟩ := sp_b S17
  have hs18 : HasSt S18 st cl := (((((((((((((((((hs2.gr g3).gr g4).gr g5).gr g6).gr g7).gr g8).gr g9).gr g10).gr g11).gr g12).gr g13).gr Gr.push).gr g14).gr g15).gr g16).gr g17).gr g18)
  obtain ⟨S19, r19⟩ := chains_eq hs18
  have r4 : (pg.cal 677).call "_law_raised" [.str (Str.ofString ""), .bl false] S3 = .ok (.tup [.str "at", .int 0]) S4 := r4
  have r16 : (pg.cal 677).call "_law_raised" [.str (Str.ofString "1 == 2 == 3"), .bl false] S15 = .ok (.tup [.str "at", .int 7]) S16 := r16
  have r14 : (pg.cal 677).call "_law_raised" [.str (sx (tx "fun x : int, bool => " ++ a)), .bl false] (S13 ++ [.lst [.tup [.str "at", .int ((a.length : Int) + 3)]]]) = .ok (.tup [.str "at", .int 11]) S14 := r14
  have r15 : (pg.cal 677).call "_law_raised" [.str (sx (tx "let in = 1 in " ++ a)), .bl false] S14 = .ok (.tup [.str "at", .int 4]) S15 := r15
  have e := core hD (by have := la; omega) q0 q1 q2 r3 r4 r5 r6 r7 r8 r9 r10 r11 r12 r13 r14 r15 r16 r17 r18 r19
  refine ⟨S19, ?_⟩
  rw [run_eq (by rfl)]
  exact (congrArg O.fin e).trans fin_ret
end Pr

end

section
set_option maxHeartbeats 4000000
namespace Pr
open PySem PySem.Spec PyProof.Rows L2 Oz He
/-- what the caught classes say -/
structure LR (K : PySem.W.Frag) (mg : Str → Option Value) (ad : Str → Addr) : Prop where
  gR : mg "Refused" = some (.ref (ad "Refused"))
  gU : mg "Unknown" = some (.ref (ad "Unknown"))
  gM : mg "Mismatched" = some (.ref (ad "Mismatched"))
  bI : mg "isinstance" = none
  bV : mg "ValueError" = none
  bN : mg "int" = none
  x1 : ∀ C f, (C, f) ∈ nm.xcs → XiC K (ad C) ∧ PySem.W.findIn K (.ref (ad C)) f = some none ∧ PySem.W.exmOne K (.ref (ad C)) (.ref (ad "Refused")) = some true ∧ PySem.W.kitOne K (.ref (ad C)) (.type "ValueError") = some true ∧
    PySem.W.kitOne K (.ref (ad C)) (.ref (ad "Unknown")) = some false ∧ PySem.W.kitOne K (.ref (ad C)) (.ref (ad "Mismatched")) = some false ∧ PySem.W.kitOne K (.ref (ad C)) (.ref (ad "Malformed")) = some (decide (C = "Malformed")) ∧ PySem.W.kitOne K (.ref (ad C)) (.ref (ad "Unbounded")) = some (decide (C = "Unbounded"))
def tCT (sp : Sp) (Wx : WX) (t : TA) : TE := fun σ H Q => t σ H fun vs H1 => sp vs H1 Q (WE Wx σ)
abbrev q1 (K : PySem.W.Frag) (ad : Str → Addr) (a : Addr) (cls : Value) (d : Option Addr) : TT := tOr (L2.tNot (L2.tB (tIsX K a cls d 2 (.type "ValueError")))) (tOr (L2.tB (tIsX K a cls d 2 (.ref (ad "Unknown")))) (L2.tB (tIsX K a cls d 2 (.ref (ad "Mismatched")))))
def tWrong : TE := tTup (tCons (tC (.str "wrong")) (tCons (tC (.int 0)) tNil))
def tAt (K : PySem.W.Frag) (ad : Str → Addr) (a : Addr) (cls : Value) (d : Option Addr) : TE := tOp (rIxL K) (tLst (tCons (tTup (tCons (tC (.str "at")) (tCons (tFx K a cls d 2 "at") tNil))) (tCons tWrong tNil))) (tCB (fun xs H Q => (∃ i, xs = [.int i] ∧ Q (.int i) H) ∨ ∃ k, xs = [.bl k] ∧ Q (.int (if k then 1 else 0)) H) (tCons (tIsX K a cls d 2 (.ref (ad "Unbounded"))) tNil))
def tNm (K : PySem.W.Frag) (a : Addr) (cls : Value) (d : Option Addr) : TE := tTup (tCons (tC (.str "name")) (tCons (tFx K a cls d 2 "name") tNil))
def tSuite (K : PySem.W.Frag) (ad : Str → Addr) (a : Addr) (cls : Value) (d : Option Addr) : TS :=
  tSeq (tIfS (q1 K ad a cls d) (tRet tWrong) tNext) (tSeq (tIfS (L2.tB (tIsX K a cls d 2 (.ref (ad "Malformed")))) (tRet (tAt K ad a cls d)) tNext) (tSeq (tIfS (L2.tB (tIsX K a cls d 2 (.ref (ad "Unbounded")))) (tRet (tNm K a cls d)) tNext) (tRet tWrong)))
def tBody (K : PySem.W.Frag) (mg : Str → Option Value) (d : Nat) (Wx : WX) : TS := tIfS (L2.tB (tVar 1)) (tDrop (tCT (spC K mg ((pg.cal d).call "read_type")) Wx (tCons (tVar 0) tNil))) (tDrop (tCT (spC K mg ((pg.cal d).call "read")) Wx (tCons (tVar 0) tNil)))
def tRaised (K : PySem.W.Frag) (mg : Str → Option Value) (ad : Str → Addr) (d : Nat) : TS := tSeq (fun D σ H => tBody K mg d (wAs K (.ref (ad "Refused")) 2 (tSuite K ad) (fun _ _ _ _ => False) D) D σ H) (tRet (tTup (tCons (tC (.str "none")) (tCons (tC (.int 0)) tNil))))
theorem sc__law_raised : FnScope ["text", "is_type", "e"] ["text", "is_type"] (defScope st__law_raised) := ⟨rfl, rfl, rfl, by decide +kernel, rfl, by decide +kernel, by decide +kernel⟩
theorem d__law_raised {P : Program} {w : World} {K : PySem.W.Frag} {mg : Str → Option Value} {base : Heap} {ad : Str → Addr} {d : Nat} {f : Addr} (c : LR K mg ad) (X : Cx) (cdv : Value) (A : Around) (outer : List PySem.Env) (s : Shared) (H : Hp) (E : XK) (hX : X = cxOf (L2.CX P w) P w K mg base ["text", "is_type", "e"] "_law_raised" (defScope st__law_raised) f cdv A outer s H E) (O : Ok X pg nm ad d E) : PSs X (defBody st__law_raised) (tRaised K mg ad d) := by
  subst hX
  have nd := sc__law_raised.nd
  have vs : Vis (defScope st__law_raised) "e" := .inl rfl
  refine pss_cons (ps_try_as (i := 2) (tb := tBody K mg d) (ts := tSuite K ad) (Wout := fun _ _ _ _ => False) rfl rfl nd rfl rfl ⟨rfl, by decide, .inl c.gR⟩ takes0 (fun W pn xe tk _ => ?_) (fun a oe cls dd pn hz hf => ?_)) (pss_one (ps_ret (pe_tup (pa_cons pe_str (pa_cons pe_int pa_nil)))))
  · obtain ⟨hm1, hk1⟩ := O.sta.fn "read_type" (by decide +kernel)
    obtain ⟨hm2, hk2⟩ := O.sta.fn "read" (by decide +kernel)
    exact pss_one (ps_if (pt_val (pe_var (i := 1) rfl (.inl rfl))) (pss_one (ps_expr (pe_callT (O.call "read_type") O.room hm1 hk1 tk (pa_cons (pe_var (i := 0) rfl (.inl rfl)) pa_nil)))) (pss_one (ps_expr (pe_callT (O.call "read") O.room hm2 hk2 tk (pa_cons (pe_var (i := 0) rfl (.inl rfl)) pa_nil)))))
  · have gF := (O.xc "Malformed" "at" (by decide +kernel)).gC
    have gB := (O.xc "Unbounded" "name" (by decide +kernel)).gC
    exact pss_cons (ps_if (PW.pt (pw_or (pt_not (pt_val (pe_isX hz hf rfl vs (pe_bltn rfl c.bV (u := .type "ValueError") (by decide +kernel) (v := .ty "ValueError") rfl) (.ty _) c.bI))) (pw_or (pt_val (pe_isX hz hf rfl vs (pe_glob (v := .ref (ad "Unknown")) rfl c.gU rfl) (.own _) c.bI)) (pw_or1 (pt_val (pe_isX hz hf rfl vs (pe_glob (v := .ref (ad "Mismatched")) rfl c.gM rfl) (.own _) c.bI))))))
        (pss_one (ps_ret (pe_tup (pa_cons pe_str (pa_cons pe_int pa_nil))))) pss_nil)
      (pss_cons (ps_if (pt_val (pe_isX hz hf rfl vs (pe_glob (v := .ref (ad "Malformed")) rfl gF rfl) (.own _) c.bI)) (pss_one (ps_ret (pe_ix ix_list (pe_lst (pa_cons (pe_tup (pa_cons pe_str (pa_cons (pe_fx hz hf rfl vs) pa_nil))) (pa_cons (pe_tup (pa_cons pe_str (pa_cons pe_int pa_nil))) pa_nil)))
          (pe_callTy call_int1 rfl c.bN boot_int (pa_cons (pe_isX hz hf rfl vs (pe_glob (v := .ref (ad "Unbounded")) rfl gB rfl) (.own _) c.bI) pa_nil)) (fun _ _ => rfl)))) pss_nil)
      (pss_cons (ps_if (pt_val (pe_isX hz hf rfl vs (pe_glob (v := .ref (ad "Unbounded")) rfl gB rfl) (.own _) c.bI)) (pss_one (ps_ret (pe_tup (pa_cons pe_str (pa_cons (pe_fx hz hf rfl vs) pa_nil))))) pss_nil)
      (pss_one (ps_ret (pe_tup (pa_cons pe_str (pa_cons pe_int pa_nil)))))))
/-! ### the reading -/
section
variable {K : PySem.W.Frag} {mg : Str → Option Value} {ad : Str → Addr}
theorem two_le : 2 ≤ sizeLine := by decide
theorem suite_mal {a dx : Addr} {v : V} {D : Ends} {σ : L2.St} {H : Hp} (c : LR K mg ad) (hσ : σ[2]? = some (some (.ref a))) (hd : H dx = some (.xd [("at", v)])) (q : ∀ H' p, (∀ b o, H b = some o → H' b = some o) → H' p = some (.tup [.str "at", v]) → D.rt (.ref p) H') : tSuite K ad a (.ref (ad "Malformed")) (some dx) D σ H := by
  obtain ⟨T, hn, _, k1, k2, k3, k4, k5⟩ := c.x1 "Malformed" "at" (by decide +kernel)
  refine ⟨hσ, _, dx, _, _, rfl, rfl, T, hd, k1, _, rfl, ?_⟩
  refine (if_neg (by decide)).mpr ?_
  refine ⟨hσ, _, dx, _, _, rfl, rfl, T, hd, k2, _, rfl, ?_⟩
  refine (if_neg (by decide)).mpr ?_
  refine ⟨hσ, _, dx, _, _, rfl, rfl, T, hd, k3, _, rfl, ?_⟩
  refine (if_neg (by decide)).mpr ?_
  refine ⟨hσ, _, dx, _, _, rfl, rfl, T, hd, k4, _, rfl, ?_⟩
  refine (if_pos (by decide)).mpr ?_
  refine ⟨hσ, _, dx, _, v, rfl, rfl, T.xf, hn, hd, rfl, two_le, fun p1 h1 => ?_⟩
  refine ⟨two_le, fun p2 h2 => ⟨two_le, fun p3 h3 => ?_⟩⟩
  have e1 : ∀ b o, H b = some o → upd (upd (upd H p1 (.tup [.str "at", v])) p2 (.tup [.str "wrong", .int 0])) p3 (.lst [.ref p1, .ref p2]) b = some o := fun b o e => by
    rw [upd_ne (ne_of_none (upd_grow h2 _ _ (upd_grow h1 _ _ e)) h3), upd_ne (ne_of_none (upd_grow h1 _ _ e) h2), upd_ne (ne_of_none e h1)]
    exact e
  refine ⟨hσ, _, dx, _, _, rfl, rfl, T, e1 _ _ hd, k5, .inr ⟨_, rfl, ?_⟩⟩
  refine ⟨p3, _, _, _, rfl, rfl, .inl (.inl upd_same), rfl, q _ _ e1 ?_⟩
  rw [upd_ne (ne_of_none (upd_grow h2 _ _ upd_same) h3), upd_ne (ne_of_none upd_same h2), upd_same]
theorem suite_unb {a dx : Addr} {v : V} {D : Ends} {σ : L2.St} {H : Hp} (c : LR K mg ad) (hσ : σ[2]? = some (some (.ref a))) (hd : H dx = some (.xd [("name", v)])) (q : ∀ H' p, (∀ b o, H b = some o → H' b = some o) → H' p = some (.tup [.str "name", v]) → D.rt (.ref p) H') : tSuite K ad a (.ref (ad "Unbounded")) (some dx) D σ H := by
  obtain ⟨T, hn, _, k1, k2, k3, k4, k5⟩ := c.x1 "Unbounded" "name" (by decide +kernel)
  refine ⟨hσ, _, dx, _, _, rfl, rfl, T, hd, k1, _, rfl, ?_⟩
  refine (if_neg (by decide)).mpr ?_
  refine ⟨hσ, _, dx, _, _, rfl, rfl, T, hd, k2, _, rfl, ?_⟩
  refine (if_neg (by decide)).mpr ?_
  refine ⟨hσ, _, dx, _, _, rfl, rfl, T, hd, k3, _, rfl, ?_⟩
  refine (if_neg (by decide)).mpr ?_
  refine ⟨hσ, _, dx, _, _, rfl, rfl, T, hd, k4, _, rfl, ?_⟩
  refine (if_neg (by decide)).mpr ?_
  refine ⟨hσ, _, dx, _, _, rfl, rfl, T, hd, k5, _, rfl, ?_⟩
  refine (if_pos (by decide)).mpr ?_
  exact ⟨hσ, _, dx, _, v, rfl, rfl, T.xf, hn, hd, rfl, two_le, fun p1 h1 => q _ _ (fun b o e => upd_grow h1 _ _ e) upd_same⟩
theorem rel_tup2 {ρ : List Addr} {H : Hp} {p : Addr} {x y : U} {v z : V} (h : H p = some (.tup [v, z])) (r1 : RelU K ρ H x v) (r2 : RelU K ρ H y z) : RelU K ρ H (.tup [x, y]) (.ref p) := by
  simp only [RelU]
  exact ⟨p, _, rfl, .of h, RelUs.cons r1 (RelUs.cons r2 RelUs.nil)⟩
end
section
variable {P : Program} {w : World} {K : PySem.W.Frag} {mg : Str → Option Value} {base : Heap} {ad : Str → Addr} {d : Nat}
theorem read_raised (sta : Sta pg nm K mg ad) (gF : mg "Malformed" = some (.ref (ad "Malformed"))) (gB : mg "Unbounded" = some (.ref (ad "Unbounded"))) (c : LR K mg ad) {ρ : List Addr} {S : Sto} {H : Hp} {us : List U} {vs : List V} {Q : VK} {E : XK} (w0 : Wok K mg ρ S H) (r : RelUs K ρ H us vs)
    (h : Post mg K (RelU K) E ρ H (prim__law_raised (pg.cal d) us S) Q) : tRaised K mg ad d { nx := fun _ H' => Q .non H', rt := Q } (L2.start ["text", "is_type", "e"] vs) H := by
  unfold prim__law_raised at h
  split at h
  · rename_i t k
    simp only [RelUs] at r
    obtain ⟨v0, vs1, rfl, r0, v1, vs2, rfl, r1, rfl⟩ := r
    cases r1.bl
    have key : ∀ g : Str, Post mg K (RelU K) E ρ H (match (pg.cal d).call g [t] S with
        | .ok _ S1 => .ok (.tup [.str "none", .int 0]) S1
        | .exc c fs S1 => if c = "Malformed" then (match fs with | [(g, u)] => if g = "at" then .ok (.tup [.str "at", u]) S1 else .bad | _ => .bad) else if c = "Unbounded" then (match fs with | [(g, u)] => if g = "name" then .ok (.tup [.str "name", u]) S1 else .bad | _ => .bad) else .bad
        | .bad => .bad) Q → tDrop (tCT (spC K mg ((pg.cal d).call g)) (wAs K (.ref (ad "Refused")) 2 (tSuite K ad) (fun _ _ _ _ => False) { nx := fun σ' H' => tRet (tTup (tCons (tC (.str "none")) (tCons (tC (.int 0)) tNil))) { nx := fun _ H' => Q .non H', rt := Q } σ' H', rt := Q }) (tCons (tVar 0) tNil))
          { nx := fun σ' H' => tRet (tTup (tCons (tC (.str "none")) (tCons (tC (.int 0)) tNil))) { nx := fun _ H' => Q .non H', rt := Q } σ' H', rt := Q } (L2.start ["text", "is_type", "e"] [v0, .bl k]) H := by
      intro g hp
      refine ⟨v0, rfl, ρ, S, [t], w0, RelUs.cons r0 RelUs.nil, ?_⟩
      split at hp
      · rename_i u S1 hc
        rw [hc]
        intro ρ1 H1 v e1 w1 ru
        exact ⟨two_le, fun p hp' => hp ρ1 _ _ (e1.trans (Ext.grow (upd_grow hp'))) (w1.grow (upd_grow hp')) (rel_tup2 upd_same relStr relInt)⟩
      · rename_i cc fs S1 hc
        rw [hc]
        intro ρ1 H1 C dx vfs e1 w1 hC hdx rf
        split at hp
        · rename_i hcc
          subst hcc
          rw [gF] at hC
          cases hC
          split at hp
          · rename_i g1 u
            split at hp
            · rename_i hg
              subst hg
              cases rf with
              | cons hq ht =>
                cases ht
                rename_i q
                obtain ⟨g2, v⟩ := q
                obtain ⟨hg, rv⟩ := hq
                dsimp only at hg rv
                subst hg
                refine ⟨true, (c.x1 "Malformed" "at" (by decide +kernel)).2.2.1, fun _ a ha => suite_mal c rfl hdx fun H2 p k2 hp2 => ?_, fun z => by cases z⟩
                have x : Ext ρ1 H1 ρ1 H2 := Ext.grow k2
                exact hp ρ1 H2 _ (e1.trans x) (w1.grow k2) (rel_tup2 hp2 relStr (rv.mono x))
            · exact hp.elim
          · exact hp.elim
        · split at hp
          · rename_i hcc
            subst hcc
            rw [gB] at hC
            cases hC
            split at hp
            · rename_i g1 u
              split at hp
              · rename_i hg
                subst hg
                cases rf with
                | cons hq ht =>
                  cases ht
                  rename_i q
                  obtain ⟨g2, v⟩ := q
                  obtain ⟨hg, rv⟩ := hq
                  dsimp only at hg rv
                  subst hg
                  refine ⟨true, (c.x1 "Unbounded" "name" (by decide +kernel)).2.2.1, fun _ a ha => suite_unb c rfl hdx fun H2 p k2 hp2 => ?_, fun z => by cases z⟩
                  have x : Ext ρ1 H1 ρ1 H2 := Ext.grow k2
                  exact hp ρ1 H2 _ (e1.trans x) (w1.grow k2) (rel_tup2 hp2 relStr (rv.mono x))
              · exact hp.elim
            · exact hp.elim
          · exact hp.elim
      · exact hp.elim
    refine ⟨.bl k, rfl, k, rfl, ?_⟩
    cases k with
    | true => exact key _ h
    | false => exact key _ h
  · exact h.elim
theorem pr__law_raised {x : Str} {f : Addr} {fd : FuncData} (F : L2.Fun K x "_law_raised" st__law_raised f fd) (hb : Binds K fd ["text", "is_type"] []) (A : AllFn P w K mg base pg nm ad d) (c : LR K mg ad) : FnQ P w K mg base (L2.CX P w) (d + 3) f (spC K mg ((pg.cal (d + 1)).call "_law_raised")) := by
  obtain ⟨oc, od, kV, doc, pm, an, cdv, ct, osl, rfl, lk, hcd⟩ := F.ex
  intro A0 outer s H us vs Q E hr e0 r h
  obtain ⟨ρ, S0, ws, w0, rw_, h⟩ := h
  have h' : Post mg K (RelU K) E ρ H (prim__law_raised (pg.cal d) ws S0) Q := h
  have hl : ws.length = 2 := by
    unfold prim__law_raised at h'
    split at h'
    · rfl
    · exact h'.elim
  have hlv : vs.length = 2 := by rw [rw_.length]; exact hl
  have hlu : (us ++ []).length = 2 := by rw [List.append_nil, ← r.length]; exact hlv
  have hb' := hb s us (e0.mod.kin.keeps fun b o e => (e0.bs b o e).1) hlu
  rw [List.append_nil] at hb'
  refine run_body (k := d + 2) (N := ["text", "is_type", "e"]) lk hcd sc__law_raised hr e0 (G := fun xs H2 => xs = vs ∧ H2 = H) (fun A' Ex Q' z => hb' _ _ _ _ (z s H vs us e0 Un.refl rfl (fun _ _ q => q) r hlv ⟨rfl, rfl⟩)) fun s2 H2 xs ⟨hx, hH⟩ hr2 => ?_
  subst hx hH
  exact ⟨_, d__law_raised c _ cdv A0 outer s2 H2 E rfl (A.ok hr2), read_raised A.sta (A.xc "Malformed" "at" (by decide +kernel)).gC (A.xc "Unbounded" "name" (by decide +kernel)).gC c w0 rw_ h'⟩
end
def exLR (K : PySem.W.Frag) : Bool := (["Refused", "Unknown", "Mismatched"] : List Str).all (fun C => eqO (PySem.W.nsIn K mainGlobals C) (some (some (.ref (adOf tp K C))))) && ((["isinstance", "ValueError", "int"] : List Str).all (fun x => eqO (PySem.W.nsIn K mainGlobals x) (some none)) &&
  tp.xcs.all (fun q => xiB K (adOf tp K q.1) && (eqO (PySem.W.findIn K (.ref (adOf tp K q.1)) q.2) (some none) && (decide (PySem.W.exmOne K (.ref (adOf tp K q.1)) (.ref (adOf tp K "Refused")) = some true) && (decide (PySem.W.kitOne K (.ref (adOf tp K q.1)) (.type "ValueError") = some true) &&
    (decide (PySem.W.kitOne K (.ref (adOf tp K q.1)) (.ref (adOf tp K "Unknown")) = some false) && (decide (PySem.W.kitOne K (.ref (adOf tp K q.1)) (.ref (adOf tp K "Mismatched")) = some false) &&
    (decide (PySem.W.kitOne K (.ref (adOf tp K q.1)) (.ref (adOf tp K "Malformed")) = some (decide (q.1 = "Malformed"))) && decide (PySem.W.kitOne K (.ref (adOf tp K q.1)) (.ref (adOf tp K "Unbounded")) = some (decide (q.1 = "Unbounded")))))))))))
theorem lr_of {K : PySem.W.Frag} {h : Heap} {mg : Str → Option Value} (X : K.In h) (G : h.Ns mainGlobals mg) (e : exLR K = true) : LR K mg (adOf tp K) := by
  obtain ⟨h1, e⟩ := ba e
  obtain ⟨h2, h3⟩ := ba e
  have g := fun C hC => PySem.W.mg_of X G (eqO_ok (List.all_eq_true.mp h1 C hC))
  have b := fun C hC => PySem.W.mg_none_of X G (eqO_ok (List.all_eq_true.mp h2 C hC))
  refine ⟨g _ (by decide +kernel), g _ (by decide +kernel), g _ (by decide +kernel), b _ (by decide +kernel), b _ (by decide +kernel), b _ (by decide +kernel), fun C f hq => ?_⟩
  obtain ⟨k1, q⟩ := ba (List.all_eq_true.mp h3 (C, f) hq)
  obtain ⟨k2, q⟩ := ba q
  obtain ⟨k3, q⟩ := ba q
  obtain ⟨k4, q⟩ := ba q
  obtain ⟨k5, q⟩ := ba q
  obtain ⟨k6, q⟩ := ba q
  obtain ⟨k7, k8⟩ := ba q
  exact ⟨xiB_ok k1, eqO_ok k2, of_decide_eq_true k3, of_decide_eq_true k4, of_decide_eq_true k5, of_decide_eq_true k6, of_decide_eq_true k7, of_decide_eq_true k8⟩
def ex (K : PySem.W.Frag) : Bool := fnB tp K "law" && exLR K
end Pr

end

section
set_option maxHeartbeats 0
namespace Pr
open PySem PySem.Spec PyProof.Rows L2 Oz
def loose_0 : List PySem.Str := ["__name__", "Refused", "Malformed", "Unknown", "Mismatched", "Unbounded", "WORDS", "SIGNS", "SEPARATORS", "LETTERS", "DIGITS", "NAME_CHARACTERS", "MOST_CHARACTERS", "MOST_NAME_CHARACTERS", "MOST_DIGITS", "NUMBERS_END", "tokenize", "token_at", "name_at", "number_at", "sign_at", "run_end", "MOST_DEPTH", "PLAIN_KINDS", "PREFIXES"]
def loose_1 : List PySem.Str := ["UNWRITTEN", "read", "read_type", "leaf", "built", "Reader", "_law_state", "_law_take", "_law_bits", "_law_text", "_law_raised", "_law_limit", "_law_chains"]
def loose : List PySem.Str := loose_0 ++ loose_1
abbrev R0 : PySem.W.OpenRow := PySem.W.OpenLaw.row PySem.Challenge.rw_halfnoted_k02_texts_that_are_refused
abbrev hk : PySem.W.Hook := hookO 5 tp ex
def ob (s : PySem.W.SharedT) : AlO := obsOG 5 tp ex (HandSHeadRun.getT s)
theorem ob_eq (s : PySem.W.SharedT) : ob s = hk.obs s.abs := obsOG_eq (HandSHeadRun.getT_eq s)
theorem run (w : World) : HandSHeadRun.RunEq R0 (PySem.W.view R0.prog [41]) hk ob 4000 loose w := by
  intro os
  kernel_rfl
end Pr

end

section
set_option maxHeartbeats 0
namespace Pr
open PySem PySem.Spec PyProof.Rows L2 Oz He
section
variable {P : Program} {w : World} {K : PySem.W.Frag} {mg : Str → Option Value} {base : Heap} {d : Nat}
def dd_tokenize : He.DefD := ⟨("tokenize", none), "tokenize", "tokenize", defArgs st_tokenize, defBody st_tokenize, defScope st_tokenize, [], []⟩
def dd_token_at : He.DefD := ⟨("token_at", none), "token_at", "token_at", defArgs st_token_at, defBody st_token_at, defScope st_token_at, [], []⟩
def dd_name_at : He.DefD := ⟨("name_at", none), "name_at", "name_at", defArgs st_name_at, defBody st_name_at, defScope st_name_at, [], []⟩
def dd_number_at : He.DefD := ⟨("number_at", none), "number_at", "number_at", defArgs st_number_at, defBody st_number_at, defScope st_number_at, [], []⟩
def dd_sign_at : He.DefD := ⟨("sign_at", none), "sign_at", "sign_at", defArgs st_sign_at, defBody st_sign_at, defScope st_sign_at, [], []⟩
def dd_run_end : He.DefD := ⟨("run_end", none), "run_end", "run_end", defArgs st_run_end, defBody st_run_end, defScope st_run_end, [], []⟩
def dd_read : He.DefD := ⟨("read", none), "read", "read", defArgs st_read, defBody st_read, defScope st_read, [], []⟩
def dd_read_type : He.DefD := ⟨("read_type", none), "read_type", "read_type", defArgs st_read_type, defBody st_read_type, defScope st_read_type, [], []⟩
def dd_leaf : He.DefD := ⟨("leaf", none), "leaf", "leaf", defArgs st_leaf, defBody st_leaf, defScope st_leaf, [], []⟩
def dd_built : He.DefD := ⟨("built", none), "built", "built", defArgs st_built, defBody st_built, defScope st_built, [], []⟩
def dd__law_state : He.DefD := ⟨("_law_state", none), "_law_state", "_law_state", defArgs st__law_state, defBody st__law_state, defScope st__law_state, [], []⟩
def dd__law_take : He.DefD := ⟨("_law_take", none), "_law_take", "_law_take", defArgs st__law_take, defBody st__law_take, defScope st__law_take, [], []⟩
def dd__law_bits : He.DefD := ⟨("_law_bits", none), "_law_bits", "_law_bits", defArgs st__law_bits, defBody st__law_bits, defScope st__law_bits, [], []⟩
def dd__law_text : He.DefD := ⟨("_law_text", none), "_law_text", "_law_text", defArgs st__law_text, defBody st__law_text, defScope st__law_text, [], []⟩
def dd__law_raised : He.DefD := ⟨("_law_raised", none), "_law_raised", "_law_raised", defArgs st__law_raised, defBody st__law_raised, defScope st__law_raised, [], []⟩
def dd__law_limit : He.DefD := ⟨("_law_limit", none), "_law_limit", "_law_limit", defArgs st__law_limit, defBody st__law_limit, defScope st__law_limit, [], []⟩
def dd__law_chains : He.DefD := ⟨("_law_chains", none), "_law_chains", "_law_chains", defArgs st__law_chains, defBody st__law_chains, defScope st__law_chains, [], []⟩
def dd_law : He.DefD := ⟨("law", none), "law", "law", defArgs st_law, defBody st_law, defScope st_law, [], []⟩
def dd_Reader___init__ : He.DefD := ⟨("Reader", some "__init__"), "__init__", "Reader.__init__", defArgs st_Reader__init_, defBody st_Reader__init_, defScope st_Reader__init_, [], []⟩
def dd_Reader_sees : He.DefD := ⟨("Reader", some "sees"), "sees", "Reader.sees", defArgs st_Reader_sees, defBody st_Reader_sees, defScope st_Reader_sees, [], []⟩
def dd_Reader_take : He.DefD := ⟨("Reader", some "take"), "take", "Reader.take", defArgs st_Reader_take, defBody st_Reader_take, defScope st_Reader_take, [], []⟩
def dd_Reader_skips : He.DefD := ⟨("Reader", some "skips"), "skips", "Reader.skips", defArgs st_Reader_skips, defBody st_Reader_skips, defScope st_Reader_skips, [], []⟩
def dd_Reader_take_name : He.DefD := ⟨("Reader", some "take_name"), "take_name", "Reader.take_name", defArgs st_Reader_take_name, defBody st_Reader_take_name, defScope st_Reader_take_name, [], []⟩
def dd_Reader_refuse : He.DefD := ⟨("Reader", some "refuse"), "refuse", "Reader.refuse", defArgs st_Reader_refuse, defBody st_Reader_refuse, defScope st_Reader_refuse, [], []⟩
def dd_Reader_finish : He.DefD := ⟨("Reader", some "finish"), "finish", "Reader.finish", defArgs st_Reader_finish, defBody st_Reader_finish, defScope st_Reader_finish, [], []⟩
def dd_Reader_enter : He.DefD := ⟨("Reader", some "enter"), "enter", "Reader.enter", defArgs st_Reader_enter, defBody st_Reader_enter, defScope st_Reader_enter, [], []⟩
def dd_Reader_leave : He.DefD := ⟨("Reader", some "leave"), "leave", "Reader.leave", defArgs st_Reader_leave, defBody st_Reader_leave, defScope st_Reader_leave, [], []⟩
def dd_Reader_read_expression : He.DefD := ⟨("Reader", some "read_expression"), "read_expression", "Reader.read_expression", defArgs st_Reader_read_expression, defBody st_Reader_read_expression, defScope st_Reader_read_expression, [], []⟩
def dd_Reader_read_fun : He.DefD := ⟨("Reader", some "read_fun"), "read_fun", "Reader.read_fun", defArgs st_Reader_read_fun, defBody st_Reader_read_fun, defScope st_Reader_read_fun, [], []⟩
def dd_Reader_read_rec : He.DefD := ⟨("Reader", some "read_rec"), "read_rec", "Reader.read_rec", defArgs st_Reader_read_rec, defBody st_Reader_read_rec, defScope st_Reader_read_rec, [], []⟩
def dd_Reader_read_let : He.DefD := ⟨("Reader", some "read_let"), "read_let", "Reader.read_let", defArgs st_Reader_read_let, defBody st_Reader_read_let, defScope st_Reader_read_let, [], []⟩
def dd_Reader_read_if : He.DefD := ⟨("Reader", some "read_if"), "read_if", "Reader.read_if", defArgs st_Reader_read_if, defBody st_Reader_read_if, defScope st_Reader_read_if, [], []⟩
def dd_Reader_read_print : He.DefD := ⟨("Reader", some "read_print"), "read_print", "Reader.read_print", defArgs st_Reader_read_print, defBody st_Reader_read_print, defScope st_Reader_read_print, [], []⟩
def dd_Reader_read_comparison : He.DefD := ⟨("Reader", some "read_comparison"), "read_comparison", "Reader.read_comparison", defArgs st_Reader_read_comparison, defBody st_Reader_read_comparison, defScope st_Reader_read_comparison, [], []⟩
def dd_Reader_read_sum : He.DefD := ⟨("Reader", some "read_sum"), "read_sum", "Reader.read_sum", defArgs st_Reader_read_sum, defBody st_Reader_read_sum, defScope st_Reader_read_sum, [], []⟩
def dd_Reader_read_product : He.DefD := ⟨("Reader", some "read_product"), "read_product", "Reader.read_product", defArgs st_Reader_read_product, defBody st_Reader_read_product, defScope st_Reader_read_product, [], []⟩
def dd_Reader_read_prefix : He.DefD := ⟨("Reader", some "read_prefix"), "read_prefix", "Reader.read_prefix", defArgs st_Reader_read_prefix, defBody st_Reader_read_prefix, defScope st_Reader_read_prefix, [], []⟩
def dd_Reader_read_call : He.DefD := ⟨("Reader", some "read_call"), "read_call", "Reader.read_call", defArgs st_Reader_read_call, defBody st_Reader_read_call, defScope st_Reader_read_call, [], []⟩
def dd_Reader_sees_atom : He.DefD := ⟨("Reader", some "sees_atom"), "sees_atom", "Reader.sees_atom", defArgs st_Reader_sees_atom, defBody st_Reader_sees_atom, defScope st_Reader_sees_atom, [], []⟩
def dd_Reader_read_atom : He.DefD := ⟨("Reader", some "read_atom"), "read_atom", "Reader.read_atom", defArgs st_Reader_read_atom, defBody st_Reader_read_atom, defScope st_Reader_read_atom, [], []⟩
def dd_Reader_read_group : He.DefD := ⟨("Reader", some "read_group"), "read_group", "Reader.read_group", defArgs st_Reader_read_group, defBody st_Reader_read_group, defScope st_Reader_read_group, [], []⟩
def dd_Reader_read_annotation : He.DefD := ⟨("Reader", some "read_annotation"), "read_annotation", "Reader.read_annotation", defArgs st_Reader_read_annotation, defBody st_Reader_read_annotation, defScope st_Reader_read_annotation, [], []⟩
def dd_Reader_read_simple : He.DefD := ⟨("Reader", some "read_simple"), "read_simple", "Reader.read_simple", defArgs st_Reader_read_simple, defBody st_Reader_read_simple, defScope st_Reader_read_simple, [], []⟩
def dd_Reader_read_annotation_group : He.DefD := ⟨("Reader", some "read_annotation_group"), "read_annotation_group", "Reader.read_annotation_group", defArgs st_Reader_read_annotation_group, defBody st_Reader_read_annotation_group, defScope st_Reader_read_annotation_group, [], []⟩
def dd_Malformed___init__ : He.DefD := ⟨("Malformed", some "__init__"), "__init__", "Malformed.__init__", defArgs st_Malformed__init_, defBody st_Malformed__init_, defScope st_Malformed__init_, [], []⟩
def dd_Mismatched___init__ : He.DefD := ⟨("Mismatched", some "__init__"), "__init__", "Mismatched.__init__", defArgs st_Mismatched__init_, defBody st_Mismatched__init_, defScope st_Mismatched__init_, [], []⟩
def dd_Unbounded___init__ : He.DefD := ⟨("Unbounded", some "__init__"), "__init__", "Unbounded.__init__", defArgs st_Unbounded__init_, defBody st_Unbounded__init_, defScope st_Unbounded__init_, [], []⟩
def dd_Unknown___init__ : He.DefD := ⟨("Unknown", some "__init__"), "__init__", "Unknown.__init__", defArgs st_Unknown__init_, defBody st_Unknown__init_, defScope st_Unknown__init_, [], []⟩
theorem q_tokenize (c : Says tp ex K) (A : AllFn P w K mg base pg nm (adOf tp K) d) : FnQ P w K mg base (L2.CX P w) (d + 3) (adOf tp K "tokenize") (spC K mg ((pg.cal (d + 1)).call "tokenize")) := by
  obtain ⟨fd, F0⟩ := c.defs "tokenize" dd_tokenize (by kernel_rfl)
  have F : FunD K "tokenize" "tokenize" (defArgs st_tokenize) (defBody st_tokenize) (defScope st_tokenize) [] [] (adOf tp K "tokenize") fd := F0
  exact fn_plain (fun_of F) (FunD.bindsN (ps := ["text"]) F fun _ _ _ _ _ _ us hl => match us, hl with | [_], _ => rfl) sc_tokenize A (by kernel_rfl) d_tokenize
theorem q_token_at (c : Says tp ex K) (A : AllFn P w K mg base pg nm (adOf tp K) d) : FnQ P w K mg base (L2.CX P w) (d + 3) (adOf tp K "token_at") (spC K mg ((pg.cal (d + 1)).call "token_at")) := by
  obtain ⟨fd, F0⟩ := c.defs "token_at" dd_token_at (by kernel_rfl)
  have F : FunD K "token_at" "token_at" (defArgs st_token_at) (defBody st_token_at) (defScope st_token_at) [] [] (adOf tp K "token_at") fd := F0
  exact fn_plain (fun_of F) (FunD.bindsN (ps := ["text", "at"]) F fun _ _ _ _ _ _ us hl => match us, hl with | [_, _], _ => rfl) sc_token_at A (by kernel_rfl) d_token_at
theorem q_name_at (c : Says tp ex K) (A : AllFn P w K mg base pg nm (adOf tp K) d) : FnQ P w K mg base (L2.CX P w) (d + 3) (adOf tp K "name_at") (spC K mg ((pg.cal (d + 1)).call "name_at")) := by
  obtain ⟨fd, F0⟩ := c.defs "name_at" dd_name_at (by kernel_rfl)
  have F : FunD K "name_at" "name_at" (defArgs st_name_at) (defBody st_name_at) (defScope st_name_at) [] [] (adOf tp K "name_at") fd := F0
  exact fn_plain (fun_of F) (FunD.bindsN (ps := ["text", "at"]) F fun _ _ _ _ _ _ us hl => match us, hl with | [_, _], _ => rfl) sc_name_at A (by kernel_rfl) d_name_at
theorem q_number_at (c : Says tp ex K) (A : AllFn P w K mg base pg nm (adOf tp K) d) : FnQ P w K mg base (L2.CX P w) (d + 3) (adOf tp K "number_at") (spC K mg ((pg.cal (d + 1)).call "number_at")) := by
  obtain ⟨fd, F0⟩ := c.defs "number_at" dd_number_at (by kernel_rfl)
  have F : FunD K "number_at" "number_at" (defArgs st_number_at) (defBody st_number_at) (defScope st_number_at) [] [] (adOf tp K "number_at") fd := F0
  exact fn_plain (fun_of F) (FunD.bindsN (ps := ["text", "at"]) F fun _ _ _ _ _ _ us hl => match us, hl with | [_, _], _ => rfl) sc_number_at A (by kernel_rfl) d_number_at
theorem q_sign_at (c : Says tp ex K) (A : AllFn P w K mg base pg nm (adOf tp K) d) : FnQ P w K mg base (L2.CX P w) (d + 3) (adOf tp K "sign_at") (spC K mg ((pg.cal (d + 1)).call "sign_at")) := by
  obtain ⟨fd, F0⟩ := c.defs "sign_at" dd_sign_at (by kernel_rfl)
  have F : FunD K "sign_at" "sign_at" (defArgs st_sign_at) (defBody st_sign_at) (defScope st_sign_at) [] [] (adOf tp K "sign_at") fd := F0
  exact fn_plain (fun_of F) (FunD.bindsN (ps := ["text", "at"]) F fun _ _ _ _ _ _ us hl => match us, hl with | [_, _], _ => rfl) sc_sign_at A (by kernel_rfl) d_sign_at
theorem q_run_end (c : Says tp ex K) (A : AllFn P w K mg base pg nm (adOf tp K) d) : FnQ P w K mg base (L2.CX P w) (d + 3) (adOf tp K "run_end") (spC K mg ((pg.cal (d + 1)).call "run_end")) := by
  obtain ⟨fd, F0⟩ := c.defs "run_end" dd_run_end (by kernel_rfl)
  have F : FunD K "run_end" "run_end" (defArgs st_run_end) (defBody st_run_end) (defScope st_run_end) [] [] (adOf tp K "run_end") fd := F0
  exact fn_plain (fun_of F) (FunD.bindsN (ps := ["text", "at", "characters"]) F fun _ _ _ _ _ _ us hl => match us, hl with | [_, _, _], _ => rfl) sc_run_end A (by kernel_rfl) d_run_end
theorem q_read (c : Says tp ex K) (A : AllFn P w K mg base pg nm (adOf tp K) d) : FnQ P w K mg base (L2.CX P w) (d + 3) (adOf tp K "read") (spC K mg ((pg.cal (d + 1)).call "read")) := by
  obtain ⟨fd, F0⟩ := c.defs "read" dd_read (by kernel_rfl)
  have F : FunD K "read" "read" (defArgs st_read) (defBody st_read) (defScope st_read) [] [] (adOf tp K "read") fd := F0
  exact fn_plain (fun_of F) (FunD.bindsN (ps := ["text"]) F fun _ _ _ _ _ _ us hl => match us, hl with | [_], _ => rfl) sc_read A (by kernel_rfl) d_read
theorem q_read_type (c : Says tp ex K) (A : AllFn P w K mg base pg nm (adOf tp K) d) : FnQ P w K mg base (L2.CX P w) (d + 3) (adOf tp K "read_type") (spC K mg ((pg.cal (d + 1)).call "read_type")) := by
  obtain ⟨fd, F0⟩ := c.defs "read_type" dd_read_type (by kernel_rfl)
  have F : FunD K "read_type" "read_type" (defArgs st_read_type) (defBody st_read_type) (defScope st_read_type) [] [] (adOf tp K "read_type") fd := F0
  exact fn_plain (fun_of F) (FunD.bindsN (ps := ["text"]) F fun _ _ _ _ _ _ us hl => match us, hl with | [_], _ => rfl) sc_read_type A (by kernel_rfl) d_read_type
theorem q_leaf (c : Says tp ex K) (A : AllFn P w K mg base pg nm (adOf tp K) d) : FnQ P w K mg base (L2.CX P w) (d + 3) (adOf tp K "leaf") (spC K mg ((pg.cal (d + 1)).call "leaf")) := by
  obtain ⟨fd, F0⟩ := c.defs "leaf" dd_leaf (by kernel_rfl)
  have F : FunD K "leaf" "leaf" (defArgs st_leaf) (defBody st_leaf) (defScope st_leaf) [] [] (adOf tp K "leaf") fd := F0
  exact fn_starred (ps := []) (pv := "tree") (fun_of F) sc_leaf A (fun _ _ _ _ _ _ us rest hl => match us, rest, hl with | [], [], _ => rfl | [], _ :: _, _ => rfl) (by kernel_rfl) d_leaf
theorem q_built (c : Says tp ex K) (A : AllFn P w K mg base pg nm (adOf tp K) d) : FnQ P w K mg base (L2.CX P w) (d + 3) (adOf tp K "built") (spC K mg ((pg.cal (d + 1)).call "built")) := by
  obtain ⟨fd, F0⟩ := c.defs "built" dd_built (by kernel_rfl)
  have F : FunD K "built" "built" (defArgs st_built) (defBody st_built) (defScope st_built) [] [] (adOf tp K "built") fd := F0
  exact fn_starred (ps := ["head"]) (pv := "inner") (fun_of F) sc_built A (fun _ _ _ _ _ _ us rest hl => match us, rest, hl with | [_], [], _ => rfl | [_], _ :: _, _ => rfl) (by kernel_rfl) d_built
theorem q__law_state (c : Says tp ex K) (A : AllFn P w K mg base pg nm (adOf tp K) d) : FnQ P w K mg base (L2.CX P w) (d + 3) (adOf tp K "_law_state") (spC K mg ((pg.cal (d + 1)).call "_law_state")) := by
  obtain ⟨fd, F0⟩ := c.defs "_law_state" dd__law_state (by kernel_rfl)
  have F : FunD K "_law_state" "_law_state" (defArgs st__law_state) (defBody st__law_state) (defScope st__law_state) [] [] (adOf tp K "_law_state") fd := F0
  exact fn_plain (fun_of F) (FunD.bindsN (ps := ["script"]) F fun _ _ _ _ _ _ us hl => match us, hl with | [_], _ => rfl) sc__law_state A (by kernel_rfl) d__law_state
theorem q__law_take (c : Says tp ex K) (A : AllFn P w K mg base pg nm (adOf tp K) d) : FnQ P w K mg base (L2.CX P w) (d + 3) (adOf tp K "_law_take") (spC K mg ((pg.cal (d + 1)).call "_law_take")) := by
  obtain ⟨fd, F0⟩ := c.defs "_law_take" dd__law_take (by kernel_rfl)
  have F : FunD K "_law_take" "_law_take" (defArgs st__law_take) (defBody st__law_take) (defScope st__law_take) [] [] (adOf tp K "_law_take") fd := F0
  exact fn_plain (fun_of F) (FunD.bindsN (ps := ["state", "most"]) F fun _ _ _ _ _ _ us hl => match us, hl with | [_, _], _ => rfl) sc__law_take A (by kernel_rfl) d__law_take
theorem q__law_bits (c : Says tp ex K) (A : AllFn P w K mg base pg nm (adOf tp K) d) : FnQ P w K mg base (L2.CX P w) (d + 3) (adOf tp K "_law_bits") (spC K mg ((pg.cal (d + 1)).call "_law_bits")) := by
  obtain ⟨fd, F0⟩ := c.defs "_law_bits" dd__law_bits (by kernel_rfl)
  have F : FunD K "_law_bits" "_law_bits" (defArgs st__law_bits) (defBody st__law_bits) (defScope st__law_bits) [] [] (adOf tp K "_law_bits") fd := F0
  exact fn_plain (fun_of F) (FunD.bindsN (ps := ["state", "count"]) F fun _ _ _ _ _ _ us hl => match us, hl with | [_, _], _ => rfl) sc__law_bits A (by kernel_rfl) d__law_bits
theorem q__law_text (c : Says tp ex K) (A : AllFn P w K mg base pg nm (adOf tp K) d) : FnQ P w K mg base (L2.CX P w) (d + 3) (adOf tp K "_law_text") (spC K mg ((pg.cal (d + 1)).call "_law_text")) := by
  obtain ⟨fd, F0⟩ := c.defs "_law_text" dd__law_text (by kernel_rfl)
  have F : FunD K "_law_text" "_law_text" (defArgs st__law_text) (defBody st__law_text) (defScope st__law_text) [] [] (adOf tp K "_law_text") fd := F0
  exact fn_plain (fun_of F) (FunD.bindsN (ps := ["state", "depth"]) F fun _ _ _ _ _ _ us hl => match us, hl with | [_, _], _ => rfl) sc__law_text A (by kernel_rfl) d__law_text
theorem q__law_raised (c : Says tp ex K) (cL : LR K mg (adOf tp K)) (A : AllFn P w K mg base pg nm (adOf tp K) d) : FnQ P w K mg base (L2.CX P w) (d + 3) (adOf tp K "_law_raised") (spC K mg ((pg.cal (d + 1)).call "_law_raised")) := by
  obtain ⟨fd, F0⟩ := c.defs "_law_raised" dd__law_raised (by kernel_rfl)
  have F : FunD K "_law_raised" "_law_raised" (defArgs st__law_raised) (defBody st__law_raised) (defScope st__law_raised) [] [] (adOf tp K "_law_raised") fd := F0
  exact pr__law_raised (fun_of F) (FunD.bindsN F fun _ _ _ _ _ _ us hl => match us, hl with | [_, _], _ => rfl) A cL
theorem q__law_limit (c : Says tp ex K) (A : AllFn P w K mg base pg nm (adOf tp K) d) : FnQ P w K mg base (L2.CX P w) (d + 3) (adOf tp K "_law_limit") (spC K mg ((pg.cal (d + 1)).call "_law_limit")) := by
  obtain ⟨fd, F0⟩ := c.defs "_law_limit" dd__law_limit (by kernel_rfl)
  have F : FunD K "_law_limit" "_law_limit" (defArgs st__law_limit) (defBody st__law_limit) (defScope st__law_limit) [] [] (adOf tp K "_law_limit") fd := F0
  exact fn_plain (fun_of F) (FunD.bindsN (ps := ["text", "is_type", "is_good"]) F fun _ _ _ _ _ _ us hl => match us, hl with | [_, _, _], _ => rfl) sc__law_limit A (by kernel_rfl) d__law_limit
theorem q__law_chains (c : Says tp ex K) (A : AllFn P w K mg base pg nm (adOf tp K) d) : FnQ P w K mg base (L2.CX P w) (d + 3) (adOf tp K "_law_chains") (spC K mg ((pg.cal (d + 1)).call "_law_chains")) := by
  obtain ⟨fd, F0⟩ := c.defs "_law_chains" dd__law_chains (by kernel_rfl)
  have F : FunD K "_law_chains" "_law_chains" (defArgs st__law_chains) (defBody st__law_chains) (defScope st__law_chains) [] [] (adOf tp K "_law_chains") fd := F0
  exact fn_plain (fun_of F) (FunD.bindsN (ps := ["state"]) F fun _ _ _ _ _ _ us hl => match us, hl with | [_], _ => rfl) sc__law_chains A (by kernel_rfl) d__law_chains
theorem q_law (c : Says tp ex K) (A : AllFn P w K mg base pg nm (adOf tp K) d) : FnQ P w K mg base (L2.CX P w) (d + 3) (adOf tp K "law") (spC K mg ((pg.cal (d + 1)).call "law")) := by
  obtain ⟨fd, F0⟩ := c.defs "law" dd_law (by kernel_rfl)
  have F : FunD K "law" "law" (defArgs st_law) (defBody st_law) (defScope st_law) [] [] (adOf tp K "law") fd := F0
  exact fn_plain (fun_of F) (FunD.bindsN (ps := ["script"]) F fun _ _ _ _ _ _ us hl => match us, hl with | [_], _ => rfl) sc_law A (by kernel_rfl) d_law
theorem q_Reader___init__ (c : Says tp ex K) (A : AllFn P w K mg base pg nm (adOf tp K) d) : FnQ P w K mg base (L2.CX P w) (d + 3) (adOf tp K "Reader.__init__") (spC K mg ((pg.cal (d + 1)).call "Reader.__init__")) := by
  obtain ⟨fd, F0⟩ := c.defs "Reader.__init__" dd_Reader___init__ (by kernel_rfl)
  have F : FunD K "__init__" "Reader.__init__" (defArgs st_Reader__init_) (defBody st_Reader__init_) (defScope st_Reader__init_) [] [] (adOf tp K "Reader.__init__") fd := F0
  exact fn_plain (fun_of F) (FunD.bindsN (ps := ["self", "text"]) F fun _ _ _ _ _ _ us hl => match us, hl with | [_, _], _ => rfl) sc_Reader__init_ A (by kernel_rfl) d_Reader__init_
theorem q_Reader_sees (c : Says tp ex K) (A : AllFn P w K mg base pg nm (adOf tp K) d) : FnQ P w K mg base (L2.CX P w) (d + 3) (adOf tp K "Reader.sees") (spC K mg ((pg.cal (d + 1)).call "Reader.sees")) := by
  obtain ⟨fd, F0⟩ := c.defs "Reader.sees" dd_Reader_sees (by kernel_rfl)
  have F : FunD K "sees" "Reader.sees" (defArgs st_Reader_sees) (defBody st_Reader_sees) (defScope st_Reader_sees) [] [] (adOf tp K "Reader.sees") fd := F0
  exact fn_starred (ps := ["self"]) (pv := "values") (fun_of F) sc_Reader_sees A (fun _ _ _ _ _ _ us rest hl => match us, rest, hl with | [_], [], _ => rfl | [_], _ :: _, _ => rfl) (by kernel_rfl) d_Reader_sees
theorem q_Reader_take (c : Says tp ex K) (A : AllFn P w K mg base pg nm (adOf tp K) d) : FnQ P w K mg base (L2.CX P w) (d + 3) (adOf tp K "Reader.take") (spC K mg ((pg.cal (d + 1)).call "Reader.take")) := by
  obtain ⟨fd, F0⟩ := c.defs "Reader.take" dd_Reader_take (by kernel_rfl)
  have F : FunD K "take" "Reader.take" (defArgs st_Reader_take) (defBody st_Reader_take) (defScope st_Reader_take) [] [] (adOf tp K "Reader.take") fd := F0
  exact fn_starred (ps := ["self"]) (pv := "values") (fun_of F) sc_Reader_take A (fun _ _ _ _ _ _ us rest hl => match us, rest, hl with | [_], [], _ => rfl | [_], _ :: _, _ => rfl) (by kernel_rfl) d_Reader_take
theorem q_Reader_skips (c : Says tp ex K) (A : AllFn P w K mg base pg nm (adOf tp K) d) : FnQ P w K mg base (L2.CX P w) (d + 3) (adOf tp K "Reader.skips") (spC K mg ((pg.cal (d + 1)).call "Reader.skips")) := by
  obtain ⟨fd, F0⟩ := c.defs "Reader.skips" dd_Reader_skips (by kernel_rfl)
  have F : FunD K "skips" "Reader.skips" (defArgs st_Reader_skips) (defBody st_Reader_skips) (defScope st_Reader_skips) [] [] (adOf tp K "Reader.skips") fd := F0
  exact fn_plain (fun_of F) (FunD.bindsN (ps := ["self", "value"]) F fun _ _ _ _ _ _ us hl => match us, hl with | [_, _], _ => rfl) sc_Reader_skips A (by kernel_rfl) d_Reader_skips
theorem q_Reader_take_name (c : Says tp ex K) (A : AllFn P w K mg base pg nm (adOf tp K) d) : FnQ P w K mg base (L2.CX P w) (d + 3) (adOf tp K "Reader.take_name") (spC K mg ((pg.cal (d + 1)).call "Reader.take_name")) := by
  obtain ⟨fd, F0⟩ := c.defs "Reader.take_name" dd_Reader_take_name (by kernel_rfl)
  have F : FunD K "take_name" "Reader.take_name" (defArgs st_Reader_take_name) (defBody st_Reader_take_name) (defScope st_Reader_take_name) [] [] (adOf tp K "Reader.take_name") fd := F0
  exact fn_plain (fun_of F) (FunD.bindsN (ps := ["self"]) F fun _ _ _ _ _ _ us hl => match us, hl with | [_], _ => rfl) sc_Reader_take_name A (by kernel_rfl) d_Reader_take_name
theorem q_Reader_refuse (c : Says tp ex K) (A : AllFn P w K mg base pg nm (adOf tp K) d) : FnQ P w K mg base (L2.CX P w) (d + 3) (adOf tp K "Reader.refuse") (spC K mg ((pg.cal (d + 1)).call "Reader.refuse")) := by
  obtain ⟨fd, F0⟩ := c.defs "Reader.refuse" dd_Reader_refuse (by kernel_rfl)
  have F : FunD K "refuse" "Reader.refuse" (defArgs st_Reader_refuse) (defBody st_Reader_refuse) (defScope st_Reader_refuse) [] [] (adOf tp K "Reader.refuse") fd := F0
  exact fn_plain (fun_of F) (FunD.bindsN (ps := ["self"]) F fun _ _ _ _ _ _ us hl => match us, hl with | [_], _ => rfl) sc_Reader_refuse A (by kernel_rfl) d_Reader_refuse
theorem q_Reader_finish (c : Says tp ex K) (A : AllFn P w K mg base pg nm (adOf tp K) d) : FnQ P w K mg base (L2.CX P w) (d + 3) (adOf tp K "Reader.finish") (spC K mg ((pg.cal (d + 1)).call "Reader.finish")) := by
  obtain ⟨fd, F0⟩ := c.defs "Reader.finish" dd_Reader_finish (by kernel_rfl)
  have F : FunD K "finish" "Reader.finish" (defArgs st_Reader_finish) (defBody st_Reader_finish) (defScope st_Reader_finish) [] [] (adOf tp K "Reader.finish") fd := F0
  exact fn_plain (fun_of F) (FunD.bindsN (ps := ["self"]) F fun _ _ _ _ _ _ us hl => match us, hl with | [_], _ => rfl) sc_Reader_finish A (by kernel_rfl) d_Reader_finish
theorem q_Reader_enter (c : Says tp ex K) (A : AllFn P w K mg base pg nm (adOf tp K) d) : FnQ P w K mg base (L2.CX P w) (d + 3) (adOf tp K "Reader.enter") (spC K mg ((pg.cal (d + 1)).call "Reader.enter")) := by
  obtain ⟨fd, F0⟩ := c.defs "Reader.enter" dd_Reader_enter (by kernel_rfl)
  have F : FunD K "enter" "Reader.enter" (defArgs st_Reader_enter) (defBody st_Reader_enter) (defScope st_Reader_enter) [] [] (adOf tp K "Reader.enter") fd := F0
  exact fn_plain (fun_of F) (FunD.bindsN (ps := ["self"]) F fun _ _ _ _ _ _ us hl => match us, hl with | [_], _ => rfl) sc_Reader_enter A (by kernel_rfl) d_Reader_enter
theorem q_Reader_leave (c : Says tp ex K) (A : AllFn P w K mg base pg nm (adOf tp K) d) : FnQ P w K mg base (L2.CX P w) (d + 3) (adOf tp K "Reader.leave") (spC K mg ((pg.cal (d + 1)).call "Reader.leave")) := by
  obtain ⟨fd, F0⟩ := c.defs "Reader.leave" dd_Reader_leave (by kernel_rfl)
  have F : FunD K "leave" "Reader.leave" (defArgs st_Reader_leave) (defBody st_Reader_leave) (defScope st_Reader_leave) [] [] (adOf tp K "Reader.leave") fd := F0
  exact fn_plain (fun_of F) (FunD.bindsN (ps := ["self"]) F fun _ _ _ _ _ _ us hl => match us, hl with | [_], _ => rfl) sc_Reader_leave A (by kernel_rfl) d_Reader_leave
theorem q_Reader_read_expression (c : Says tp ex K) (A : AllFn P w K mg base pg nm (adOf tp K) d) : FnQ P w K mg base (L2.CX P w) (d + 3) (adOf tp K "Reader.read_expression") (spC K mg ((pg.cal (d + 1)).call "Reader.read_expression")) := by
  obtain ⟨fd, F0⟩ := c.defs "Reader.read_expression" dd_Reader_read_expression (by kernel_rfl)
  have F : FunD K "read_expression" "Reader.read_expression" (defArgs st_Reader_read_expression) (defBody st_Reader_read_expression) (defScope st_Reader_read_expression) [] [] (adOf tp K "Reader.read_expression") fd := F0
  exact fn_plain (fun_of F) (FunD.bindsN (ps := ["self"]) F fun _ _ _ _ _ _ us hl => match us, hl with | [_], _ => rfl) sc_Reader_read_expression A (by kernel_rfl) d_Reader_read_expression
theorem q_Reader_read_fun (c : Says tp ex K) (A : AllFn P w K mg base pg nm (adOf tp K) d) : FnQ P w K mg base (L2.CX P w) (d + 3) (adOf tp K "Reader.read_fun") (spC K mg ((pg.cal (d + 1)).call "Reader.read_fun")) := by
  obtain ⟨fd, F0⟩ := c.defs "Reader.read_fun" dd_Reader_read_fun (by kernel_rfl)
  have F : FunD K "read_fun" "Reader.read_fun" (defArgs st_Reader_read_fun) (defBody st_Reader_read_fun) (defScope st_Reader_read_fun) [] [] (adOf tp K "Reader.read_fun") fd := F0
  exact fn_plain (fun_of F) (FunD.bindsN (ps := ["self"]) F fun _ _ _ _ _ _ us hl => match us, hl with | [_], _ => rfl) sc_Reader_read_fun A (by kernel_rfl) d_Reader_read_fun
theorem q_Reader_read_rec (c : Says tp ex K) (A : AllFn P w K mg base pg nm (adOf tp K) d) : FnQ P w K mg base (L2.CX P w) (d + 3) (adOf tp K "Reader.read_rec") (spC K mg ((pg.cal (d + 1)).call "Reader.read_rec")) := by
  obtain ⟨fd, F0⟩ := c.defs "Reader.read_rec" dd_Reader_read_rec (by kernel_rfl)
  have F : FunD K "read_rec" "Reader.read_rec" (defArgs st_Reader_read_rec) (defBody st_Reader_read_rec) (defScope st_Reader_read_rec) [] [] (adOf tp K "Reader.read_rec") fd := F0
  exact fn_plain (fun_of F) (FunD.bindsN (ps := ["self"]) F fun _ _ _ _ _ _ us hl => match us, hl with | [_], _ => rfl) sc_Reader_read_rec A (by kernel_rfl) d_Reader_read_rec
theorem q_Reader_read_let (c : Says tp ex K) (A : AllFn P w K mg base pg nm (adOf tp K) d) : FnQ P w K mg base (L2.CX P w) (d + 3) (adOf tp K "Reader.read_let") (spC K mg ((pg.cal (d + 1)).call "Reader.read_let")) := by
  obtain ⟨fd, F0⟩ := c.defs "Reader.read_let" dd_Reader_read_let (by kernel_rfl)
  have F : FunD K "read_let" "Reader.read_let" (defArgs st_Reader_read_let) (defBody st_Reader_read_let) (defScope st_Reader_read_let) [] [] (adOf tp K "Reader.read_let") fd := F0
  exact fn_plain (fun_of F) (FunD.bindsN (ps := ["self"]) F fun _ _ _ _ _ _ us hl => match us, hl with | [_], _ => rfl) sc_Reader_read_let A (by kernel_rfl) d_Reader_read_let
theorem q_Reader_read_if (c : Says tp ex K) (A : AllFn P w K mg base pg nm (adOf tp K) d) : FnQ P w K mg base (L2.CX P w) (d + 3) (adOf tp K "Reader.read_if") (spC K mg ((pg.cal (d + 1)).call "Reader.read_if")) := by
  obtain ⟨fd, F0⟩ := c.defs "Reader.read_if" dd_Reader_read_if (by kernel_rfl)
  have F : FunD K "read_if" "Reader.read_if" (defArgs st_Reader_read_if) (defBody st_Reader_read_if) (defScope st_Reader_read_if) [] [] (adOf tp K "Reader.read_if") fd := F0
  exact fn_plain (fun_of F) (FunD.bindsN (ps := ["self"]) F fun _ _ _ _ _ _ us hl => match us, hl with | [_], _ => rfl) sc_Reader_read_if A (by kernel_rfl) d_Reader_read_if
theorem q_Reader_read_print (c : Says tp ex K) (A : AllFn P w K mg base pg nm (adOf tp K) d) : FnQ P w K mg base (L2.CX P w) (d + 3) (adOf tp K "Reader.read_print") (spC K mg ((pg.cal (d + 1)).call "Reader.read_print")) := by
  obtain ⟨fd, F0⟩ := c.defs "Reader.read_print" dd_Reader_read_print (by kernel_rfl)
  have F : FunD K "read_print" "Reader.read_print" (defArgs st_Reader_read_print) (defBody st_Reader_read_print) (defScope st_Reader_read_print) [] [] (adOf tp K "Reader.read_print") fd := F0
  exact fn_plain (fun_of F) (FunD.bindsN (ps := ["self"]) F fun _ _ _ _ _ _ us hl => match us, hl with | [_], _ => rfl) sc_Reader_read_print A (by kernel_rfl) d_Reader_read_print
theorem q_Reader_read_comparison (c : Says tp ex K) (A : AllFn P w K mg base pg nm (adOf tp K) d) : FnQ P w K mg base (L2.CX P w) (d + 3) (adOf tp K "Reader.read_comparison") (spC K mg ((pg.cal (d + 1)).call "Reader.read_comparison")) := by
  obtain ⟨fd, F0⟩ := c.defs "Reader.read_comparison" dd_Reader_read_comparison (by kernel_rfl)
  have F : FunD K "read_comparison" "Reader.read_comparison" (defArgs st_Reader_read_comparison) (defBody st_Reader_read_comparison) (defScope st_Reader_read_comparison) [] [] (adOf tp K "Reader.read_comparison") fd := F0
  exact fn_plain (fun_of F) (FunD.bindsN (ps := ["self"]) F fun _ _ _ _ _ _ us hl => match us, hl with | [_], _ => rfl) sc_Reader_read_comparison A (by kernel_rfl) d_Reader_read_comparison
theorem q_Reader_read_sum (c : Says tp ex K) (A : AllFn P w K mg base pg nm (adOf tp K) d) : FnQ P w K mg base (L2.CX P w) (d + 3) (adOf tp K "Reader.read_sum") (spC K mg ((pg.cal (d + 1)).call "Reader.read_sum")) := by
  obtain ⟨fd, F0⟩ := c.defs "Reader.read_sum" dd_Reader_read_sum (by kernel_rfl)
  have F : FunD K "read_sum" "Reader.read_sum" (defArgs st_Reader_read_sum) (defBody st_Reader_read_sum) (defScope st_Reader_read_sum) [] [] (adOf tp K "Reader.read_sum") fd := F0
  exact fn_plain (fun_of F) (FunD.bindsN (ps := ["self"]) F fun _ _ _ _ _ _ us hl => match us, hl with | [_], _ => rfl) sc_Reader_read_sum A (by kernel_rfl) d_Reader_read_sum
theorem q_Reader_read_product (c : Says tp ex K) (A : AllFn P w K mg base pg nm (adOf tp K) d) : FnQ P w K mg base (L2.CX P w) (d + 3) (adOf tp K "Reader.read_product") (spC K mg ((pg.cal (d + 1)).call "Reader.read_product")) := by
  obtain ⟨fd, F0⟩ := c.defs "Reader.read_product" dd_Reader_read_product (by kernel_rfl)
  have F : FunD K "read_product" "Reader.read_product" (defArgs st_Reader_read_product) (defBody st_Reader_read_product) (defScope st_Reader_read_product) [] [] (adOf tp K "Reader.read_product") fd := F0
  exact fn_plain (fun_of F) (FunD.bindsN (ps := ["self"]) F fun _ _ _ _ _ _ us hl => match us, hl with | [_], _ => rfl) sc_Reader_read_product A (by kernel_rfl) d_Reader_read_product
theorem q_Reader_read_prefix (c : Says tp ex K) (A : AllFn P w K mg base pg nm (adOf tp K) d) : FnQ P w K mg base (L2.CX P w) (d + 3) (adOf tp K "Reader.read_prefix") (spC K mg ((pg.cal (d + 1)).call "Reader.read_prefix")) := by
  obtain ⟨fd, F0⟩ := c.defs "Reader.read_prefix" dd_Reader_read_prefix (by kernel_rfl)
  have F : FunD K "read_prefix" "Reader.read_prefix" (defArgs st_Reader_read_prefix) (defBody st_Reader_read_prefix) (defScope st_Reader_read_prefix) [] [] (adOf tp K "Reader.read_prefix") fd := F0
  exact fn_plain (fun_of F) (FunD.bindsN (ps := ["self"]) F fun _ _ _ _ _ _ us hl => match us, hl with | [_], _ => rfl) sc_Reader_read_prefix A (by kernel_rfl) d_Reader_read_prefix
theorem q_Reader_read_call (c : Says tp ex K) (A : AllFn P w K mg base pg nm (adOf tp K) d) : FnQ P w K mg base (L2.CX P w) (d + 3) (adOf tp K "Reader.read_call") (spC K mg ((pg.cal (d + 1)).call "Reader.read_call")) := by
  obtain ⟨fd, F0⟩ := c.defs "Reader.read_call" dd_Reader_read_call (by kernel_rfl)
  have F : FunD K "read_call" "Reader.read_call" (defArgs st_Reader_read_call) (defBody st_Reader_read_call) (defScope st_Reader_read_call) [] [] (adOf tp K "Reader.read_call") fd := F0
  exact fn_plain (fun_of F) (FunD.bindsN (ps := ["self"]) F fun _ _ _ _ _ _ us hl => match us, hl with | [_], _ => rfl) sc_Reader_read_call A (by kernel_rfl) d_Reader_read_call
theorem q_Reader_sees_atom (c : Says tp ex K) (A : AllFn P w K mg base pg nm (adOf tp K) d) : FnQ P w K mg base (L2.CX P w) (d + 3) (adOf tp K "Reader.sees_atom") (spC K mg ((pg.cal (d + 1)).call "Reader.sees_atom")) := by
  obtain ⟨fd, F0⟩ := c.defs "Reader.sees_atom" dd_Reader_sees_atom (by kernel_rfl)
  have F : FunD K "sees_atom" "Reader.sees_atom" (defArgs st_Reader_sees_atom) (defBody st_Reader_sees_atom) (defScope st_Reader_sees_atom) [] [] (adOf tp K "Reader.sees_atom") fd := F0
  exact fn_plain (fun_of F) (FunD.bindsN (ps := ["self"]) F fun _ _ _ _ _ _ us hl => match us, hl with | [_], _ => rfl) sc_Reader_sees_atom A (by kernel_rfl) d_Reader_sees_atom
theorem q_Reader_read_atom (c : Says tp ex K) (A : AllFn P w K mg base pg nm (adOf tp K) d) : FnQ P w K mg base (L2.CX P w) (d + 3) (adOf tp K "Reader.read_atom") (spC K mg ((pg.cal (d + 1)).call "Reader.read_atom")) := by
  obtain ⟨fd, F0⟩ := c.defs "Reader.read_atom" dd_Reader_read_atom (by kernel_rfl)
  have F : FunD K "read_atom" "Reader.read_atom" (defArgs st_Reader_read_atom) (defBody st_Reader_read_atom) (defScope st_Reader_read_atom) [] [] (adOf tp K "Reader.read_atom") fd := F0
  exact fn_plain (fun_of F) (FunD.bindsN (ps := ["self"]) F fun _ _ _ _ _ _ us hl => match us, hl with | [_], _ => rfl) sc_Reader_read_atom A (by kernel_rfl) d_Reader_read_atom
theorem q_Reader_read_group (c : Says tp ex K) (A : AllFn P w K mg base pg nm (adOf tp K) d) : FnQ P w K mg base (L2.CX P w) (d + 3) (adOf tp K "Reader.read_group") (spC K mg ((pg.cal (d + 1)).call "Reader.read_group")) := by
  obtain ⟨fd, F0⟩ := c.defs "Reader.read_group" dd_Reader_read_group (by kernel_rfl)
  have F : FunD K "read_group" "Reader.read_group" (defArgs st_Reader_read_group) (defBody st_Reader_read_group) (defScope st_Reader_read_group) [] [] (adOf tp K "Reader.read_group") fd := F0
  exact fn_plain (fun_of F) (FunD.bindsN (ps := ["self"]) F fun _ _ _ _ _ _ us hl => match us, hl with | [_], _ => rfl) sc_Reader_read_group A (by kernel_rfl) d_Reader_read_group
theorem q_Reader_read_annotation (c : Says tp ex K) (A : AllFn P w K mg base pg nm (adOf tp K) d) : FnQ P w K mg base (L2.CX P w) (d + 3) (adOf tp K "Reader.read_annotation") (spC K mg ((pg.cal (d + 1)).call "Reader.read_annotation")) := by
  obtain ⟨fd, F0⟩ := c.defs "Reader.read_annotation" dd_Reader_read_annotation (by kernel_rfl)
  have F : FunD K "read_annotation" "Reader.read_annotation" (defArgs st_Reader_read_annotation) (defBody st_Reader_read_annotation) (defScope st_Reader_read_annotation) [] [] (adOf tp K "Reader.read_annotation") fd := F0
  exact fn_plain (fun_of F) (FunD.bindsN (ps := ["self"]) F fun _ _ _ _ _ _ us hl => match us, hl with | [_], _ => rfl) sc_Reader_read_annotation A (by kernel_rfl) d_Reader_read_annotation
theorem q_Reader_read_simple (c : Says tp ex K) (A : AllFn P w K mg base pg nm (adOf tp K) d) : FnQ P w K mg base (L2.CX P w) (d + 3) (adOf tp K "Reader.read_simple") (spC K mg ((pg.cal (d + 1)).call "Reader.read_simple")) := by
  obtain ⟨fd, F0⟩ := c.defs "Reader.read_simple" dd_Reader_read_simple (by kernel_rfl)
  have F : FunD K "read_simple" "Reader.read_simple" (defArgs st_Reader_read_simple) (defBody st_Reader_read_simple) (defScope st_Reader_read_simple) [] [] (adOf tp K "Reader.read_simple") fd := F0
  exact fn_plain (fun_of F) (FunD.bindsN (ps := ["self"]) F fun _ _ _ _ _ _ us hl => match us, hl with | [_], _ => rfl) sc_Reader_read_simple A (by kernel_rfl) d_Reader_read_simple
theorem q_Reader_read_annotation_group (c : Says tp ex K) (A : AllFn P w K mg base pg nm (adOf tp K) d) : FnQ P w K mg base (L2.CX P w) (d + 3) (adOf tp K "Reader.read_annotation_group") (spC K mg ((pg.cal (d + 1)).call "Reader.read_annotation_group")) := by
  obtain ⟨fd, F0⟩ := c.defs "Reader.read_annotation_group" dd_Reader_read_annotation_group (by kernel_rfl)
  have F : FunD K "read_annotation_group" "Reader.read_annotation_group" (defArgs st_Reader_read_annotation_group) (defBody st_Reader_read_annotation_group) (defScope st_Reader_read_annotation_group) [] [] (adOf tp K "Reader.read_annotation_group") fd := F0
  exact fn_plain (fun_of F) (FunD.bindsN (ps := ["self"]) F fun _ _ _ _ _ _ us hl => match us, hl with | [_], _ => rfl) sc_Reader_read_annotation_group A (by kernel_rfl) d_Reader_read_annotation_group
theorem allT_cons {α : Type} {Q : Str → α → Prop} {x : Str × α} {xs : List (Str × α)} (h : Q x.1 x.2) (t : AllT Q xs) : AllT Q (x :: xs) := ⟨h, t⟩
theorem step_all (c : Says tp ex K) (cL : LR K mg (adOf tp K)) (A : AllFn P w K mg base pg nm (adOf tp K) d) : AllT (fun f _ => FnQ P w K mg base (L2.CX P w) (d + 3) (adOf tp K f) (spC K mg ((pg.cal (d + 1)).call f))) tbl :=
  allT_cons (q_tokenize c A) (allT_cons (q_token_at c A) (allT_cons (q_name_at c A) (allT_cons (q_number_at c A) (allT_cons (q_sign_at c A) (allT_cons (q_run_end c A) (allT_cons (q_read c A) (allT_cons (q_read_type c A) (allT_cons (q_leaf c A) (allT_cons (q_built c A) (allT_cons (q__law_state c A) (allT_cons (q__law_take c A) (allT_cons (q__law_bits c A) (allT_cons (q__law_text c A) (allT_cons (q__law_raised c cL A) (allT_cons (q__law_limit c A) (allT_cons (q__law_chains c A) (allT_cons (q_law c A) (allT_cons (q_Reader___init__ c A) (allT_cons (q_Reader_sees c A) (allT_cons (q_Reader_take c A) (allT_cons (q_Reader_skips c A) (allT_cons (q_Reader_take_name c A) (allT_cons (q_Reader_refuse c A) (allT_cons (q_Reader_finish c A) (allT_cons (q_Reader_enter c A) (allT_cons (q_Reader_leave c A) (allT_cons (q_Reader_read_expression c A) (allT_cons (q_Reader_read_fun c A) (allT_cons (q_Reader_read_rec c A) (allT_cons (q_Reader_read_let c A) (allT_cons (q_Reader_read_if c A) (allT_cons (q_Reader_read_print c A) (allT_cons (q_Reader_read_comparison c A) (allT_cons (q_Reader_read_sum c A) (allT_cons (q_Reader_read_product c A) (allT_cons (q_Reader_read_prefix c A) (allT_cons (q_Reader_read_call c A) (allT_cons (q_Reader_sees_atom c A) (allT_cons (q_Reader_read_atom c A) (allT_cons (q_Reader_read_group c A) (allT_cons (q_Reader_read_annotation c A) (allT_cons (q_Reader_read_simple c A) (allT_cons (q_Reader_read_annotation_group c A) (trivial))))))))))))))))))))))))))))))))))))))))))))
theorem sc_xc_Malformed : FnScope ["self", "at"] ["self", "at"] (defScope st_Malformed__init_) := ⟨rfl, rfl, rfl, by decide +kernel, rfl, by decide +kernel, by decide +kernel⟩
theorem xc_Malformed {h : Heap} (X : K.In h) (G : h.Ns mainGlobals mg) (c : Says tp ex K) : XcOk P w K mg base (adOf tp K) "Malformed" "at" := by
  obtain ⟨fd, F0⟩ := c.defs "Malformed.__init__" dd_Malformed___init__ (by kernel_rfl)
  have F : FunD K "__init__" "Malformed.__init__" (defArgs st_Malformed__init_) (defBody st_Malformed__init_) (defScope st_Malformed__init_) [] [] (adOf tp K "Malformed.__init__") fd := F0
  exact xc_of X G c (by decide +kernel) (fun_of F) (FunD.bindsN (ps := ["self", "at"]) F fun _ _ _ _ _ _ us hl => match us, hl with | [_, _], _ => rfl) sc_xc_Malformed rfl rfl rfl (by decide) (by decide) (fun _ => rfl)
theorem sc_xc_Unbounded : FnScope ["self", "name"] ["self", "name"] (defScope st_Unbounded__init_) := ⟨rfl, rfl, rfl, by decide +kernel, rfl, by decide +kernel, by decide +kernel⟩
theorem xc_Unbounded {h : Heap} (X : K.In h) (G : h.Ns mainGlobals mg) (c : Says tp ex K) : XcOk P w K mg base (adOf tp K) "Unbounded" "name" := by
  obtain ⟨fd, F0⟩ := c.defs "Unbounded.__init__" dd_Unbounded___init__ (by kernel_rfl)
  have F : FunD K "__init__" "Unbounded.__init__" (defArgs st_Unbounded__init_) (defBody st_Unbounded__init_) (defScope st_Unbounded__init_) [] [] (adOf tp K "Unbounded.__init__") fd := F0
  exact xc_of X G c (by decide +kernel) (fun_of F) (FunD.bindsN (ps := ["self", "name"]) F fun _ _ _ _ _ _ us hl => match us, hl with | [_, _], _ => rfl) sc_xc_Unbounded rfl rfl rfl (by decide) (by decide) (fun _ => rfl)
theorem all_xc {h : Heap} (X : K.In h) (G : h.Ns mainGlobals mg) (c : Says tp ex K) : ∀ C f, (C, f) ∈ nm.xcs → XcOk P w K mg base (adOf tp K) C f := by
  intro C f hq
  have hq : (C, f) ∈ ([("Malformed", "at"), ("Unbounded", "name")] : List (Str × Str)) := hq
  simp only [List.mem_cons, Prod.mk.injEq, List.not_mem_nil, or_false] at hq
  rcases hq with ⟨rfl, rfl⟩ | ⟨rfl, rfl⟩
  · exact xc_Malformed X G c
  · exact xc_Unbounded X G c
theorem all_defs {h : Heap} (X : K.In h) (G : h.Ns mainGlobals mg) (c : Says tp ex K) (cL : LR K mg (adOf tp K)) : ∀ d, AllFn P w K mg base pg nm (adOf tp K) d :=
  all_fn (tbl := tbl) rfl (sta_of X G c rfl) (all_xc X G c) fun d A => step_all c cL A
theorem facts {h : Heap} {f : Addr} (X : K.In h) (G : h.Ns mainGlobals mg) (hfa : mg ("law" : Str) = some (.ref f)) (c : Says tp ex K) (hl : fnB tp K "law" = true) (lr : ∀ {h : Heap}, K.In h → h.Ns mainGlobals mg → LR K mg (adOf tp K))
    (M : ∀ ns : List Int, ns.length ≤ 63 → ∃ S', (⟨1, N_law.length, false, T_law⟩ : Df).run (pg.cal 677) [.loc 0] [.fro (ns.map U.int)] = .ok (.bl true) S') :
    ∃ fd : FuncData, (∀ (s : Shared) (v : Value), BindsTo s fd ⟨[v], []⟩ [("script", v)]) ∧ ∀ base : Heap, K.In base → base.Ns mainGlobals mg → FnOk P w K mg base (fun _ _ _ _ _ _ => False) 231 f fd ["script"] (spLaw K) := by
  obtain ⟨fd, F0⟩ := c.defs "law" dd_law (by kernel_rfl)
  have F : FunD K "law" "law" (defArgs st_law) (defBody st_law) (defScope st_law) [] [] (adOf tp K "law") fd := F0
  have e := hfa.symm.trans (PySem.W.mg_of X G (eqO_ok (ba hl).1))
  cases e
  have b := FunD.bindsA (ps := ["script"]) F fun _ _ _ _ _ _ us hl => match us, hl with | [_], _ => rfl
  exact ⟨fd, fun s v => b s [v] rfl, fun base XB GB => law0 (fn_law (N := N_law) (fun_of F) sc_law (all_defs XB GB c (lr XB GB) 677) d_law M)⟩
end
end Pr

end

section
set_option maxHeartbeats 0
open PySem PySem.W PySem.Calls PyProof.Rows
theorem Pr.holds (M : ∀ ns : List Int, ns.length ≤ 63 → ∃ S', (⟨1, Pr.N_law.length, false, Pr.T_law⟩ : Oz.Df).run (Pr.pg.cal 677) [.loc 0] [.fro (ns.map Oz.U.int)] = .ok (.bl true) S') : PySem.Challenge.rw_halfnoted_k02_texts_that_are_refused.Holds := by
  w_on; o_law
  refine HandSHeadRun.head_any (r := OpenLaw.row PySem.Challenge.rw_halfnoted_k02_texts_that_are_refused) (q := view (OpenLaw.row PySem.Challenge.rw_halfnoted_k02_texts_that_are_refused).prog [41]) (H := Pr.hk) (ob := Pr.ob) (M := 4000) (loose := Pr.loose) (d := HandSHeadRun.topDef (OpenLaw.row PySem.Challenge.rw_halfnoted_k02_texts_that_are_refused).prog 41) (kwd := []) Pr.ob_eq
    (by kernel_rfl) (fun s => by kernel_rfl) Pr.run (by kernel_rfl) (by kernel_rfl) (by kernel_rfl) (by rfl) (by first | assumption | decide +kernel) (by decide +kernel) ⟨rfl, rfl, rfl, rfl, rfl, by decide +kernel⟩ ?hw ?hc
  case hw => w_witness2
  case hc =>
    refine L2.walk_ofE (l := PySem.Challenge.rw_halfnoted_k02_texts_that_are_refused) (n := 63) (k := 231) (x := "script") (CX := fun _ _ _ _ _ _ => False) rfl (by decide) (by kernel_rfl) ⟨rfl, by decide, by decide⟩ ?F (fun _ _ _ _ z => z)
    intro w mg fa h Y G hmg0
    obtain ⟨K, KX, c0⟩ := Y
    have c := Oz.says_of c0
    have hmg : mg ("law" : PySem.Str) = some (.ref fa) := by
      have e : (HandSHeadRun.topDef (OpenLaw.row PySem.Challenge.rw_halfnoted_k02_texts_that_are_refused).prog 41).name = ("law" : PySem.Str) := by kernel_rfl
      rw [← e]
      exact hmg0
    obtain ⟨hl, hx⟩ := He.ba c.more
    obtain ⟨fd, hb, hF⟩ := Pr.facts (P := (PySem.Challenge.rw_halfnoted_k02_texts_that_are_refused).prog) (w := w) KX G hmg c hl (fun X G => Pr.lr_of X G hx) M
    exact ⟨K, fd, Oz.spLaw K, KX, hb, fun H a ns hl ho hS => ⟨a, ns, rfl, ho, hS, hl, fun _ => rfl⟩, hF⟩

end

section
set_option maxHeartbeats 0
open PySem PySem.W PyProof.Rows
theorem PySem.Challenge.cw_halfnoted_k02_texts_that_are_refused_holds : PySem.Challenge.rw_halfnoted_k02_texts_that_are_refused.Holds := by
  exact Pr.holds Pr.law_eq

end
