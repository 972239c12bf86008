import PyProof.Rows.All
import Wide.All
import OpenK.AllK
import Wide.FinOn
import HandS.ForMost
import HandS.ForExc
import HandS.More
import HandS.Star
import HandS.MethStar
import HandS.IsInst
import HandS.TupAny
import HandS.StrMore
import HandS.Deep
import HandS.ExcInit
import HandS.Zip
import HandS.Text
import HandS.Strs
import HandS.HeadHook3
import PyProof.ReprRoads
import PyProof.ReprReads
import PyProof.IsRules
import KE.KSuper
import HandS.ExcField
import KE.KExcIs
import HandS.DictComp
import HandS.Conv
import HandS.NoneIn
import HandS.Style
import HandS.Dict
import HandS.Defaults
import HandS.Head0
import HandS.Head1
import HandS.Head2
import HandS.HeadEnd
import HandS.HeadHook1
import HandS.HeadHook2
import PyProof.ConsumeS
import PyProof.Rows.CallKwBuiltin
import PyProof.Rows.MinMaxN
import HandS.SortKw
import HandS.CallSlots
import HandS.DeepEq
import PyProof.FactsAll.dict
import PyProof.CallFns
import HandS.Nested
import HandS.TryOnly
import PySem.Challenge.RW_halfnoted_k10_plain_casts
set_option Elab.async false
set_option linter.all false
set_option maxRecDepth 100000
section
set_option maxHeartbeats 4000000
namespace Oz
open PySem PySem.Spec PyProof.Rows L2
inductive U where
  | non | bl (b : Bool) | int (i : Int) | str (x : Str) | tup (xs : List U) | loc (n : Nat)
inductive Cel where
  | lst (xs : List U) | fro (xs : List U) | ins (C : Str) (fs : List (Str × U)) | dic (kvs : List (Key × U)) | fnc (f : Str)
noncomputable abbrev Sto := List Cel
inductive R (α : Type) where
  | ok (a : α) (S : Sto) | exc (c : Str) (fs : List (Str × U)) (S : Sto) | bad
noncomputable def R.bind {α β : Type} (r : R α) (f : α → Sto → R β) : R β :=
  match r with
  | .ok a S => f a S
  | .exc c fs S => .exc c fs S
  | .bad => .bad
mutual
noncomputable def ueq : U → U → Bool
  | .non, .non => true
  | .bl a, .bl b => a == b
  | .int a, .int b => a == b
  | .str a, .str b => decide (a = b)
  | .tup a, .tup b => useq a b
  | .loc a, .loc b => a == b
  | _, _ => false
noncomputable def useq : List U → List U → Bool
  | [], [] => true
  | a :: as, b :: bs => ueq a b && useq as bs
  | _, _ => false
end
mutual
theorem ueq_iff : ∀ a b : U, ueq a b = true ↔ a = b
  | .non, b => by cases b <;> simp [ueq]
  | .bl x, b => by cases b <;> simp [ueq]
  | .int x, b => by cases b <;> simp [ueq]
  | .str x, b => by cases b <;> simp [ueq]
  | .tup x, b => by cases b <;> simp [ueq, useq_iff]
  | .loc x, b => by cases b <;> simp [ueq]
theorem useq_iff : ∀ a b : List U, useq a b = true ↔ a = b
  | [], b => by cases b <;> simp [useq]
  | a :: as, b => by cases b <;> simp [useq, ueq_iff, useq_iff]
end
noncomputable instance : DecidableEq U := fun a b => if h : ueq a b = true then .isTrue ((ueq_iff a b).mp h) else .isFalse fun e => h ((ueq_iff a b).mpr e)
noncomputable def isLst (S : Sto) (n : Nat) (us : List U) : Bool :=
  match S[n]? with
  | some (.lst vs) => useq vs us
  | some (.fro vs) => useq vs us
  | _ => false
theorem isLst_iff {S : Sto} {n : Nat} {us : List U} (h : isLst S n us = true) : S[n]? = some (.lst us) ∨ S[n]? = some (.fro us) := by
  unfold isLst at h
  cases q : S[n]? with
  | none => rw [q] at h; cases h
  | some c =>
    rw [q] at h
    cases c with
    | lst vs => left; rw [(useq_iff vs us).mp h]
    | fro vs => right; rw [(useq_iff vs us).mp h]
    | ins C fs => cases h
    | dic kvs => cases h
    | fnc f => cases h
theorem isLst_lst {S : Sto} {n : Nat} {us : List U} (h : S[n]? = some (.lst us)) : isLst S n us = true := by
  unfold isLst
  rw [h]
  exact (useq_iff us us).mpr rfl
mutual
noncomputable def eqU : U → U → Bool
  | .non, .non => true
  | .bl a, .bl b => a == b
  | .bl a, .int b => (if a then 1 else 0) == b
  | .int a, .bl b => a == (if b then 1 else 0)
  | .int a, .int b => a == b
  | .str a, .str b => a == b
  | .tup a, .tup b => eqUs a b
  | _, _ => false
noncomputable def eqUs : List U → List U → Bool
  | [], [] => true
  | a :: as, b :: bs => eqU a b && eqUs as bs
  | _, _ => false
end
mutual
noncomputable def pdU : U → PyData
  | .non => .none
  | .bl b => .bool b
  | .int i => .int i
  | .str x => .str x
  | .tup xs => .tuple (pdUs xs)
  | .loc _ => .none
noncomputable def pdUs : List U → List PyData
  | [] => []
  | u :: us => pdU u :: pdUs us
end
mutual
noncomputable def purU : U → Bool
  | .tup xs => purUs xs
  | .loc _ => false
  | _ => true
noncomputable def purUs : List U → Bool
  | [] => true
  | u :: us => purU u && purUs us
end
mutual
theorem eqv_pd : ∀ a b : U, purU a = true → purU b = true → PyData.eqv (pdU a) (pdU b) = eqU a b
  | .non, b, _, hb => by cases b <;> simp_all [pdU, PyData.eqv, eqU, purU]
  | .bl x, b, _, hb => by cases b <;> simp_all [pdU, PyData.eqv, eqU, purU]
  | .int x, b, _, hb => by cases b <;> simp_all [pdU, PyData.eqv, eqU, purU]
  | .str x, b, _, hb => by cases b <;> simp_all [pdU, PyData.eqv, eqU, purU]
  | .tup x, b, ha, hb => by
    cases b with
    | tup y =>
      simp only [pdU, PyData.eqv, eqU]
      exact eqvs_pd x y (by simpa [purU] using ha) (by simpa [purU] using hb)
    | _ => simp_all [pdU, PyData.eqv, eqU, purU]
  | .loc x, b, ha, hb => by simp [purU] at ha
theorem eqvs_pd : ∀ a b : List U, purUs a = true → purUs b = true → PyData.eqvAll (pdUs a) (pdUs b) = eqUs a b
  | [], b, _, _ => by cases b <;> simp [pdUs, PyData.eqvAll, eqUs]
  | x :: xs, b, ha, hb => by
    cases b with
    | nil => simp [pdUs, PyData.eqvAll, eqUs]
    | cons y ys =>
      simp only [purUs, Bool.and_eq_true] at ha hb
      simp only [pdUs, PyData.eqvAll, eqUs]
      rw [eqv_pd x y ha.1 hb.1, eqvs_pd xs ys ha.2 hb.2]
end
/-- data that == takes -/
noncomputable def okU (u : U) : Bool := purU u && SeqAt.shaped (pdU u)
noncomputable def okUs (us : List U) : Bool := purUs us && SeqAt.shaped (.list (pdUs us))
inductive Op where
  | add | sub | mul | fdiv | mod | pow | shl
inductive Cm where
  | eq | ne | lt | le | gt | ge | in_ | notIn | isN | isNotN
inductive Bf where
  | len | abs | int | max | sum | tup | list | min2 | max2 | str | all | any | maxd | repr
inductive Bm where
  | append | startswith3 | pop | extend | join
set_option genSizeOf false
set_option genInjectivity false
mutual
inductive E where
  | v (i : Nat) | k (u : U) | g (x : Str)
  | tup (es : Es) | lst (es : Es)
  | bin (o : Op) (a b : E) | neg (a : E)
  | cmp (o : Cm) (a b : E)
  | and (a b : E) | or (a b : E) | not (a : E)
  | ife (c : T) (a b : E)
  | ix (a i : E) | sl (a : E) (lo hi : Eo)
  | fld (a : E) (C f : Str)
  | call (f : Str) (es : Es) | meth (o : E) (C m : Str) (es : Es) | mk (C : Str) (es : Es)
  | bf (b : Bf) (es : Es) | bm (b : Bm) (o : E) (es : Es)
  | isi (a : E) (t : String)
  | lc (is : List Nat) (tp : Bool) (elt : E) (it : E) (c : T)
  | lcr (is : List Nat) (elt : E) (a b : E) (c : T)
  | lcz (is : List Nat) (elt : E) (es : Es) (c : T)
  | gd (x : Str) (a : E) | gget (x : Str) (a b : E)
  | lc2 (is is1 : List Nat) (tp tp1 : Bool) (elt it it1 : E)
  | kcall (f : Str) (es ks : Es)
  | din (x : Str) (a : E)
  | rev (a : E)
  | lsd (i : Nat) (it : E)
  | lczn (i : Nat) (elt : E) (es : Es)
  | dnew | dat (a k : E) | dhas (b : Bool) (k a : E) | dm1 (a k v : E) | dm2 (a k v k2 v2 : E)
  | isio (a : E) (cs ds : List Str) | gfn (x : Str) (t : List (Str × Str)) (a : E) | callv (a : E) (fs : List Str) (es : Es)
  | dpl (es : Es) | xin (b : Bool) (a c : E) | xeq (b : Bool) (a c : E) | xrep (a : E) | gix (x : Str) (a : E) | mkN (C : Str) | dcp (a : E) | revl (a : E) | fldx (a : E) (cs : List Str) (f : Str)
inductive Eo where
  | no | so (e : E)
inductive Es where
  | nil | cons (e : E) (es : Es) | star (e : E) (es : Es)
inductive T where
  | tt | e (a : E) | and (a b : T) | or (a b : T) | not (a : T)
end
set_option genSizeOf true
set_option genInjectivity true
inductive Pi | lit (x : Str) | cap (i : Nat) | wild
inductive Pt | wild | val (x : Str) | seq (ps : List Pi)
end Oz
end
section
set_option maxHeartbeats 4000000
namespace Oz
open PySem PySem.Spec PyProof.Rows L2
noncomputable instance (x : Str) (n : Int) : Decidable (PySem.MulOk x n) := by unfold PySem.MulOk; infer_instance
noncomputable instance (i j : Int) : Decidable (CMul i j) := by unfold CMul; infer_instance
noncomputable instance (i j : Int) : Decidable (CDiv i j) := by unfold CDiv; infer_instance
noncomputable instance (i j : Int) : Decidable (CPow i j) := by unfold CPow; infer_instance
noncomputable def binU (o : Op) (a b : U) (S : Sto) : R U :=
  match o, a, b with
  | .add, .int i, .int j => .ok (.int (i + j)) S
  | .add, .str x, .str y => if x.length + y.length ≤ sizeLine then .ok (.str (x ++ y)) S else .bad
  | .add, .tup xs, .tup ys => if xs.length + ys.length ≤ sizeLine then .ok (.tup (xs ++ ys)) S else .bad
  | .add, .loc m, .loc n =>
    match S[m]?, S[n]? with
    | some (.lst xs), some (.lst ys) => if xs.length + ys.length ≤ sizeLine then .ok (.loc S.length) (S ++ [.lst (xs ++ ys)]) else .bad
    | _, _ => .bad
  | .sub, .int i, .int j => .ok (.int (i - j)) S
  | .mul, .int i, .int j => if CMul i j then .ok (.int (i * j)) S else .bad
  | .mul, .str x, .int n => if PySem.MulOk x n then .ok (.str (PySem.Txt.mul x n)) S else .bad
  | .fdiv, .int i, .int j => if CDiv i j then .ok (.int (i / j)) S else .bad
  | .mod, .int i, .int j => if 0 < j then .ok (.int (i % j)) S else .bad
  | .pow, .int i, .int j => if CPow i j then .ok (.int (i ^ j.toNat)) S else .bad
  | .shl, .int i, .int j => if CPow i j then .ok (.int (i * 2 ^ j.toNat)) S else .bad
  | _, _, _ => .bad
noncomputable def items? (S : Sto) : U → Option (List U)
  | .tup xs => some xs
  | .loc n =>
    match S[n]? with
    | some (.lst xs) => some xs
    | some (.fro xs) => some xs
    | _ => none
  | _ => none
noncomputable def list? (S : Sto) : U → Option (List U)
  | .loc n =>
    match S[n]? with
    | some (.lst xs) => some xs
    | some (.fro xs) => some xs
    | _ => none
  | _ => none
noncomputable def flatU : U → Bool
  | .non => true
  | .bl _ => true
  | .int _ => true
  | .str _ => true
  | _ => false
/-- == -/
noncomputable def eqR (a b : U) (S : Sto) : Option Bool :=
  match a, b with
  | .int i, .int j => some (decide (i = j))
  | .str x, .str y => some (decide (x = y))
  | .loc m, .loc n =>
    match list? S (.loc m), list? S (.loc n) with
    | some xs, some ys => if okUs xs && okUs ys then some (eqUs xs ys) else none
    | _, _ => none
  | a, b => if okU a && okU b then some (eqU a b) else none
/-- in -/
noncomputable def inR (a b : U) (S : Sto) : Option Bool :=
  match a, b with
  | .str x, .str z =>
    match x.cps.toList with
    | [c] => some (decide (c ∈ z.cps.toList))
    | _ => none
  | a, b =>
    match items? S b with
    | some xs =>
      if flatU a && xs.all flatU then some (xs.any fun y => eqU y a)
      else match list? S b with
        | some xs => if okU a && okUs xs then some (xs.any fun y => eqU y a) else none
        | none => none
    | none => none
noncomputable def cmpB (o : Cm) (a b : U) (S : Sto) : Option Bool :=
  match o with
  | .eq => eqR a b S
  | .ne => (eqR a b S).map (!·)
  | .in_ => inR a b S
  | .notIn => (inR a b S).map (!·)
  | .isN => match b with | .non => some (decide (a = .non)) | .bl k => (match a with | .bl j => some (j == k) | _ => none) | _ => none
  | .isNotN => match b with | .non => some (!decide (a = .non)) | .bl k => (match a with | .bl j => some (!(j == k)) | _ => none) | _ => none
  | .lt => match a, b with | .int i, .int j => some (decide (i < j)) | _, _ => none
  | .le => match a, b with | .int i, .int j => some (decide (i ≤ j)) | _, _ => none
  | .gt => match a, b with | .int i, .int j => some (decide (j < i)) | _, _ => none
  | .ge => match a, b with | .int i, .int j => some (decide (j ≤ i)) | _, _ => none
noncomputable def rO {α : Type} (o : Option α) (S : Sto) : R α := match o with | some a => .ok a S | none => .bad
noncomputable def cmpU (o : Cm) (a b : U) (S : Sto) : R U := match cmpB o a b S with | some k => .ok (.bl k) S | none => .bad
noncomputable def ixU (a i : U) (S : Sto) : R U :=
  match a, i with
  | .str z, .int j => if z.length ≤ sizeLine then (match atI z.cps.toList j with | some c => .ok (.str ⟨#[c]⟩) S | none => .bad) else .bad
  | a, .int j =>
    match items? S a with
    | some xs => (match atI xs j with | some u => .ok u S | none => .bad)
    | none => .bad
  | _, _ => .bad
noncomputable def cutA {α : Type} (xs : List α) (lo hi : Option Int) : List α := (xs.drop (HT.sIx xs.length 0 lo)).take (HT.sIx xs.length xs.length hi - HT.sIx xs.length 0 lo)
noncomputable def slU (a : U) (lo hi : Option Int) (S : Sto) : R U :=
  match a with
  | .str z => if z.length ≤ sizeLine then .ok (.str (cutS z lo hi)) S else .bad
  | .tup xs => .ok (.tup (cutA xs lo hi)) S
  | .loc n => match list? S (.loc n) with | some xs => .ok (.loc S.length) (S ++ [.lst (cutA xs lo hi)]) | none => .bad
  | _ => .bad
noncomputable def lenU (a : U) (S : Sto) : Option Nat :=
  match a with
  | .str z => if z.length ≤ sizeLine then some z.length else none
  | a => (items? S a).map List.length
noncomputable def truU (a : U) (S : Sto) : Option Bool :=
  match a with
  | .non => some false
  | .bl b => some b
  | .int i => some (i != 0)
  | .str z => if z.length ≤ sizeLine then some ((z.length : Int) != 0) else none
  | a => (items? S a).map fun xs => !xs.isEmpty
noncomputable def intsU : List U → Option (List Int)
  | [] => some []
  | .int i :: us => (intsU us).map (i :: ·)
  | _ :: _ => none
noncomputable def maxI : List Int → Int
  | [] => 0
  | [i] => i
  | i :: is => if maxI is > i then maxI is else i
noncomputable def lenF (us : List U) (S : Sto) : R U := match us with
  | [a] => (match lenU a S with | some n => .ok (.int (n : Nat)) S | none => .bad)
  | _ => .bad
noncomputable def absF (us : List U) (S : Sto) : R U := match us with
  | [.int i] => .ok (.int (if i < 0 then -i else i)) S
  | _ => .bad
noncomputable def intF (us : List U) (S : Sto) : R U := match us with
  | [.int i] => .ok (.int i) S
  | [.bl k] => .ok (.int (if k then 1 else 0)) S
  | [.str x] => (match PySem.intText? x with | some n => if x.length ≤ 640 then .ok (.int n) S else .bad | none => .bad)
  | _ => .bad
noncomputable def maxF (us : List U) (S : Sto) : R U := match us with
  | [a] => (match (list? S a).bind intsU with | some ns => if 0 < ns.length then .ok (.int (maxI ns)) S else .bad | none => .bad)
  | _ => .bad
noncomputable def sumF (us : List U) (S : Sto) : R U := match us with
  | [a] => (match (list? S a).bind intsU with | some ns => .ok (.int ns.sum) S | none => .bad)
  | _ => .bad
noncomputable def max2F (us : List U) (S : Sto) : R U := match us with
  | [.int i, .int j] => .ok (.int (if j > i then j else i)) S
  | _ => .bad
noncomputable def min2F (us : List U) (S : Sto) : R U := match us with
  | [.int i, .int j] => .ok (.int (if j < i then j else i)) S
  | _ => .bad
noncomputable def tupF (us : List U) (S : Sto) : R U := match us with
  | [a] => (match items? S a with | some xs => .ok (.tup xs) S | none => .bad)
  | _ => .bad
noncomputable def listF (us : List U) (S : Sto) : R U := match us with
  | [a] => (match items? S a with | some xs => .ok (.loc S.length) (S ++ [.lst xs]) | none => .bad)
  | _ => .bad
noncomputable def strF (us : List U) (S : Sto) : R U := match us with
  | [.int i] => if i.natAbs.log2 < 1920 then .ok (.str (toString i)) S else .bad
  | _ => .bad
noncomputable def bolsU : List U → Option (List Bool)
  | [] => some []
  | .bl i :: us => (bolsU us).map (i :: ·)
  | _ :: _ => none
noncomputable def allF (us : List U) (S : Sto) : R U := match us with
  | [.tup xs] => (match bolsU xs with | some ns => .ok (.bl (ns.all id)) S | none => .bad)
  | [a] => (match (list? S a).bind bolsU with | some ns => .ok (.bl (ns.all id)) S | none => .bad)
  | _ => .bad
noncomputable def anyF (us : List U) (S : Sto) : R U := match us with
  | [a] => (match (list? S a).bind bolsU with | some ns => .ok (.bl (ns.any id)) S | none => .bad)
  | _ => .bad
/-- max(xs, default=k) -/
noncomputable def maxdF (us : List U) (S : Sto) : R U := match us with
  | [a, .int k] => (match (list? S a).bind intsU with | some ns => .ok (.int (if 0 < ns.length then maxI ns else k)) S | none => .bad)
  | _ => .bad
/-- repr of data -/
noncomputable def reprOk (u : U) : Bool := (match u with | .tup _ => true | _ => false) && (okU u && ((pdU u).showable && decide ((pdU u).shown.length ≤ sizeLine)))
noncomputable def reprF (us : List U) (S : Sto) : R U := match us with
  | [a] => if reprOk a then .ok (.str (pdU a).shown) S else .bad
  | _ => .bad
noncomputable def bfU (b : Bf) (us : List U) (S : Sto) : R U := match b with
  | .repr => reprF us S
  | .all => allF us S
  | .any => anyF us S
  | .maxd => maxdF us S
  | .len => lenF us S
  | .abs => absF us S
  | .int => intF us S
  | .max => maxF us S
  | .sum => sumF us S
  | .max2 => max2F us S
  | .min2 => min2F us S
  | .tup => tupF us S
  | .list => listF us S
  | .str => strF us S
noncomputable def appendF (o : U) (us : List U) (S : Sto) : R U := match o, us with
  | .loc n, [u] => (match S[n]? with | some (.lst xs) => if xs.length < sizeLine then .ok .non (S.set n (.lst (xs ++ [u]))) else .bad | _ => .bad)
  | _, _ => .bad
noncomputable def popF (o : U) (us : List U) (S : Sto) : R U := match o, us with
  | .loc n, [] => (match S[n]? with | some (.lst xs) => (match xs[xs.length - 1]? with | some u => .ok u (S.set n (.lst xs.dropLast)) | none => .bad) | _ => .bad)
  | _, _ => .bad
noncomputable def extendF (o : U) (us : List U) (S : Sto) : R U := match o, us with
  | .loc n, [.loc m] => (match S[n]?, S[m]? with | some (.lst xs), some (.lst ys) => if xs.length + ys.length ≤ sizeLine then .ok .non (S.set n (.lst (xs ++ ys))) else .bad | _, _ => .bad)
  | _, _ => .bad
noncomputable def startsF (o : U) (us : List U) (S : Sto) : R U := match o, us with
  | .str x, [.str y, .int i] => .ok (.bl (PySem.Txt.startswith3 x y i)) S
  | _, _ => .bad
noncomputable def strsU : List U → Option (List Str)
  | [] => some []
  | .str x :: us => (strsU us).map (x :: ·)
  | _ :: _ => none
noncomputable def joinF (o : U) (us : List U) (S : Sto) : R U := match o, us with
  | .str a, [x] => (match (items? S x).bind strsU with | some ys => if (ys.map (·.length)).sum + ys.length * a.length ≤ 16777216 then .ok (.str (PySem.Txt.join a ys)) S else .bad | none => .bad)
  | _, _ => .bad
noncomputable def tindexF (o : U) (us : List U) (S : Sto) : R U := match o, us with
  | .tup xs, [.str z] => (match strsU xs with | some ys => (match ys.findIdx? (fun y => decide (y = z)) with | some j => .ok (.int (j : Nat)) S | none => .bad) | none => .bad)
  | _, _ => .bad
noncomputable def bmU (b : Bm) (o : U) (us : List U) (S : Sto) : R U := match b with
  | .append => appendF o us S
  | .extend => extendF o us S
  | .pop => popF o us S
  | .startswith3 => startsF o us S
  | .join => joinF o us S
/-- what has such a method -/
noncomputable def tyB (b : Bm) (o : U) (S : Sto) : Bool :=
  match b, o with
  | .append, o => (list? S o).isSome
  | .extend, o => (list? S o).isSome
  | .pop, o => (list? S o).isSome
  | .startswith3, .str _ => true
  | .join, .str _ => true
  | _, _ => false
noncomputable def tyU (S : Sto) : U → Option String
  | .non => some "NoneType"
  | .bl _ => some "bool"
  | .int _ => some "int"
  | .str _ => some "str"
  | .tup _ => some "tuple"
  | .loc n =>
    match S[n]? with
    | some (.lst _) => some "list"
    | some (.fro _) => some "list"
    | some (.dic _) => some "dict"
    | _ => none
noncomputable abbrev Env := List (Option U)
noncomputable def setAll : List Nat → List U → Env → Env
  | i :: is, u :: us, env => setAll is us (env.set i (some u))
  | _, _, env => env
/-- a name, or names in parentheses -/
noncomputable def setN (tp : Bool) (is : List Nat) (u : U) (env : Env) : Option Env :=
  if tp then match u with
    | .tup us => if us.length = is.length then some (setAll is us env) else none
    | _ => none
  else match is with
    | [i] => some (env.set i (some u))
    | _ => none
noncomputable def wipeE (env : Env) : List Nat → Env
  | [] => env
  | i :: is => (wipeE env is).set i none
/-- what a for goes over: the items, the list that must stay -/
noncomputable def iterU (S : Sto) : U → Option (List U × Option Nat)
  | .tup xs => some (xs, none)
  | .str z => some (z.cps.toList.map fun c => U.str ⟨#[c]⟩, none)
  | .loc n =>
    match S[n]? with
    | some (.lst xs) => some (xs, some n)
    | some (.fro xs) => some (xs, some n)
    | _ => none
  | _ => none
noncomputable def stays (S : Sto) (us : List U) : Option Nat → Bool
  | none => true
  | some n => isLst S n us
noncomputable def ranged (a b : Int) : List U := (List.range (b - a).toNat).map fun k => U.int (a + (k : Nat))
structure Cal where
  call : Str → List U → Sto → R U
  kcal : Str → List U → Sto → R U
  init : Str → List U → Sto → R U
  glo : Str → Option U
  xf : Str → Option Str
  gd : Str → Option (List (Str × U))
/-- one more item for the list at n -/
noncomputable def pushAt (n : Nat) (u : U) (S : Sto) : R Unit :=
  match S[n]? with
  | some (.lst acc) => if acc.length < sizeLine then .ok () (S.set n (.lst (acc ++ [u]))) else .bad
  | _ => .bad
/-- within a comprehension nothing may be raised -/
noncomputable def R.noex {α : Type} (r : R α) : R α := match r with | .ok a S => .ok a S | _ => .bad
/-- a comprehension's turns: all the items, those to come -/
noncomputable def lcI (tp : Bool) (is : List Nat) (env : Env) (c : Env → Sto → R Bool) (f : Env → Sto → R U) (n : Nat) (all : List U) (src : Option Nat) : List U → Sto → R Unit
  | [], S => if stays S all src then .ok () S else .bad
  | u :: us, S => if stays S all src then
      match setN tp is u env with
      | some env' => (c env' S).bind fun b S1 => if b then (f env' S1).bind fun y S2 => (pushAt n y S2).bind fun _ S3 => lcI tp is env c f n all src us S3 else lcI tp is env c f n all src us S1
      | none => .bad
    else .bad
/-- a comprehension's turns over zip: the items to come; st: what must stay -/
noncomputable def lcJ (tp : Bool) (is : List Nat) (env : Env) (c : Env → Sto → R Bool) (f : Env → Sto → R U) (n : Nat) (st : Sto → Bool) : List U → Sto → R Unit
  | [], S => if st S then .ok () S else .bad
  | u :: us, S => if st S then
      match setN tp is u env with
      | some env' => (c env' S).bind fun b S1 => if b then (f env' S1).bind fun y S2 => (pushAt n y S2).bind fun _ S3 => lcJ tp is env c f n st us S3 else lcJ tp is env c f n st us S1
      | none => .bad
    else .bad
/-- the turns of a second walk -/
noncomputable def lcK (is1 : List Nat) (tp1 : Bool) (f : Env → Sto → R U) (n : Nat) (all1 : List U) (src1 : Option Nat) (env : Env) : List U → Sto → R Unit
  | [], S => if stays S all1 src1 then .ok () S else .bad
  | u :: us, S => if stays S all1 src1 then
      match setN tp1 is1 u env with
      | some env' => (f env' S).bind fun y S2 => (pushAt n y S2).bind fun _ S3 => lcK is1 tp1 f n all1 src1 env us S3
      | none => .bad
    else .bad
/-- a comprehension's turns over two walks -/
noncomputable def lcL (tp tp1 : Bool) (is is1 : List Nat) (env : Env) (g f : Env → Sto → R U) (n : Nat) (all : List U) (src : Option Nat) : List U → Sto → R Unit
  | [], S => if stays S all src then .ok () S else .bad
  | u :: us, S => if stays S all src then
      match setN tp is u env with
      | some env' => (g env' S).bind fun x S1 => (match iterU S1 x with
        | some (us1, src1) => (lcK is1 tp1 f n us1 src1 (wipeE env' is1) us1 S1).bind fun _ S2 => lcL tp tp1 is is1 env g f n all src us S2
        | none => .bad)
      | none => .bad
    else .bad
noncomputable def zipped : List U → List U → List U
  | a :: as, b :: bs => .tup [a, b] :: zipped as bs
  | _, _ => []
/-- zip of two tuples, of two lists -/
noncomputable def zipU (S : Sto) : List U → Option (List U × (Sto → Bool))
  | [.tup xs, .tup ys] => some (zipped xs ys, fun _ => true)
  | [.loc m, .loc n] => (match list? S (.loc m), list? S (.loc n) with
    | some xs, some ys => some (zipped xs ys, fun S => isLst S m xs && isLst S n ys)
    | _, _ => none)
  | _ => none
/-- keys of dicts: ints and texts, tuples of them -/
noncomputable def keyU : U → Option Key
  | .int i => some (.inl i)
  | .str x => some (.inr x)
  | _ => none
noncomputable def keysU : List U → Option (List Key)
  | [] => some []
  | u :: us => (keyU u).bind fun k => (keysU us).map (k :: ·)
noncomputable def keyT : U → Option (List Key)
  | .tup us => keysU us
  | _ => none
noncomputable def keyTs : List U → Option (List (List Key))
  | [] => some []
  | u :: us => (keyT u).bind fun k => (keyTs us).map (k :: ·)
noncomputable def uK : Key → U
  | .inl i => .int i
  | .inr x => .str x
noncomputable def dd1 (acc : List (List Key)) (k : List Key) : List (List Key) := if (acc.any fun j => decide (j = k)) = true then acc else acc ++ [k]
noncomputable def dd (ks : List (List Key)) : List (List Key) := ks.foldl dd1 []
/-- dicts of texts and ints -/
noncomputable def putKU (kvs : List (Key × U)) (k : Key) (u : U) : List (Key × U) := if (kvs.any fun kv => decide (kv.1 = k)) = true then kvs.map (fun kv => if kv.1 = k then (kv.1, u) else kv) else kvs ++ [(k, u)]
noncomputable def mrgU (kvs more : List (Key × U)) : List (Key × U) := more.foldl (fun acc kv => putKU acc kv.1 kv.2) kvs
noncomputable def valU (kvs : List (Key × U)) (k : Key) : Option U := (kvs.find? fun kv => decide (kv.1 = k)).map (·.2)
noncomputable def datU (x y : U) (S : Sto) : R U := match x, keyU y with
  | .loc n, some k => (match S[n]? with | some (.dic kvs) => rO (valU kvs k) S | _ => .bad)
  | _, _ => .bad
noncomputable def dcpU (x : U) (S : Sto) : R U := match x with
  | .loc n => (match S[n]? with | some (.dic kvs) => .ok (.loc S.length) (S ++ [.dic kvs]) | _ => .bad)
  | _ => .bad
noncomputable def revlU (x : U) (S : Sto) : R U := match list? S x with
  | some us => .ok (.loc S.length) (S ++ [.lst us.reverse])
  | none => .bad
noncomputable def dsetU (x y v : U) (S : Sto) : R Unit := match x, keyU y with
  | .loc n, some k => (match S[n]? with | some (.dic kvs) => if kvs.length < sizeLine then .ok () (S.set n (.dic (putKU kvs k v))) else .bad | _ => .bad)
  | _, _ => .bad
noncomputable def dhasU (b : Bool) (x y : U) (S : Sto) : R U := match x, keyU y with
  | .loc n, some k => (match S[n]? with | some (.dic kvs) => .ok (.bl ((valU kvs k).isSome == b)) S | _ => .bad)
  | _, _ => .bad
noncomputable def keyPs : List (U × U) → Option (List (Key × U))
  | [] => some []
  | (y, z) :: ps => (keyU y).bind fun k => (keyPs ps).map ((k, z) :: ·)
/-- {**x, ..}: the new dict stands at n -/
noncomputable def dmOpen (n : Nat) (x : U) (S : Sto) : R Nat := match x with
  | .loc m => (match S[m]?, S[n]? with
    | some (.dic ms), some (.dic []) => if m ≠ n ∧ ms.length + 15 ≤ sizeLine then .ok S.length (S.set n (.dic (mrgU [] ms)) ++ [.dic []]) else .bad
    | _, _ => .bad)
  | _ => .bad
noncomputable def dmClose (n q : Nat) (ps : List (U × U)) (S : Sto) : R U := match S[n]?, S[q]?, keyPs ps with
  | some (.dic M), some (.dic []), some kvs => if M.length + kvs.length ≤ sizeLine ∧ n ≠ q then .ok (.loc n) ((S.set q (.dic (mrgU [] kvs))).set n (.dic (mrgU M (mrgU [] kvs)))) else .bad
  | _, _, _ => .bad
/-- zip of one tuple, of three -/
noncomputable def tupsU : List U → Option (List (List U))
  | [] => some []
  | .tup xs :: us => (tupsU us).map (xs :: ·)
  | _ :: _ => none
noncomputable def zipNU (us : List U) : Option (List U) :=
  match tupsU us with
  | some (xs :: cols) => if (cols.length = 0 ∨ cols.length = 2) ∧ cols.all (fun c => c.length == xs.length) = true then some ((List.range xs.length).map fun k => .tup ((xs :: cols).map fun c => c.getD k .non)) else none
  | _ => none
/-- x[::-1] -/
noncomputable def revU (a : U) (S : Sto) : R U :=
  match a with
  | .tup xs => .ok (.tup xs.reverse) S
  | _ => .bad
/-- what == tells from a text at once -/
noncomputable def othB (S : Sto) : U → Bool
  | .loc n => (match S[n]? with | some (.lst _) => true | some (.fro _) => true | some (.dic _) => true | _ => false)
  | _ => true
noncomputable def isStrU : U → Bool
  | .str _ => true
  | _ => false
noncomputable def eqT (y a : U) : Bool := match y, a with
  | .str x, .str z => x == z
  | _, _ => false
/-- anything in texts -/
noncomputable def xinR (a b : U) (S : Sto) : Option Bool := match items? S b with
  | some xs => if xs.all isStrU && othB S a then some (xs.any fun y => eqT y a) else none
  | none => none
/-- a text == anything -/
noncomputable def xeqR (a b : U) (S : Sto) : Option Bool := if isStrU a && othB S b then some (eqT a b) else none
mutual
/-- data with lists and an empty dict in it -/
noncomputable def pdS (S : Sto) : U → PyData
  | .non => .none
  | .bl b => .bool b
  | .int i => .int i
  | .str x => .str x
  | .tup xs => .tuple (pdSs S xs)
  | .loc n => (match S[n]? with | some (.lst xs) => .list (pdUs xs) | some (.fro xs) => .list (pdUs xs) | _ => .dict [])
noncomputable def pdSs (S : Sto) : List U → List PyData
  | [] => []
  | u :: us => pdS S u :: pdSs S us
end
mutual
noncomputable def okS (S : Sto) : U → Bool
  | .tup xs => okSs S xs
  | .loc n => (match S[n]? with | some (.lst xs) => purUs xs | some (.fro xs) => purUs xs | some (.dic []) => true | _ => false)
  | _ => true
noncomputable def okSs (S : Sto) : List U → Bool
  | [] => true
  | u :: us => okS S u && okSs S us
end
mutual
/-- no list in it -/
noncomputable def lfS (S : Sto) : U → Bool
  | .tup xs => lfSs S xs
  | .loc n => (match S[n]? with | some (.dic _) => true | _ => false)
  | _ => true
noncomputable def lfSs (S : Sto) : List U → Bool
  | [] => true
  | u :: us => lfS S u && lfSs S us
end
noncomputable def xrepR (u : U) (S : Sto) : R U := if okS S u && ((!(pdS S u).hasDict || lfS S u) && (decide ((pdS S u).depth ≤ 60) && ((pdS S u).showable && decide ((pdS S u).shown.length ≤ sizeLine)))) then .ok (.str (pdS S u).shown) S else .bad
/-- the pairs of a display -/
noncomputable def dplU : List U → Option (List (Key × U))
  | [] => some []
  | k :: v :: us => (keyU k).bind fun k => (dplU us).map ((k, v) :: ·)
  | _ => none
noncomputable def dplR (n : Nat) (us : List U) (S : Sto) : R U := match S[n]?, dplU us with
  | some (.dic []), some kvs => if kvs.length ≤ 15 then .ok (.loc n) (S.set n (.dic (mrgU [] kvs))) else .bad
  | _, _ => .bad
/-- isinstance(x, cs), cs own classes; ds: all whose objects may be asked of -/
noncomputable def isoU (S : Sto) (x : U) (cs ds : List Str) : Option Bool := match tyU S x with
  | some _ => some false
  | none => (match x with
    | .loc n => (match S[n]? with | some (.ins D _) => if D ∈ ds then some (decide (D ∈ cs)) else none | _ => none)
    | _ => none)
mutual
noncomputable def ev (Φ : Cal) : E → Env → Sto → R U
  | .v i, env, S => (match env[i]? with | some (some u) => .ok u S | _ => .bad)
  | .k u, _, S => .ok u S
  | .g x, _, S => rO (Φ.glo x) S
  | .tup es, env, S => (evs Φ es env S).bind fun us S => if us.length ≤ sizeLine then .ok (.tup us) S else .bad
  | .lst es, env, S => (evs Φ es env S).bind fun us S => if us.length ≤ sizeLine then .ok (.loc S.length) (S ++ [.lst us]) else .bad
  | .bin o a b, env, S => (ev Φ a env S).bind fun x S => (ev Φ b env S).bind fun y S => binU o x y S
  | .neg a, env, S => (ev Φ a env S).bind fun x S => (match x with | .int i => .ok (.int (-i)) S | _ => .bad)
  | .cmp o a b, env, S => (ev Φ a env S).bind fun x S => (ev Φ b env S).bind fun y S => cmpU o x y S
  | .and a b, env, S => (ev Φ a env S).bind fun x S => (match x with | .bl true => ev Φ b env S | .bl false => .ok (.bl false) S | _ => .bad)
  | .or a b, env, S => (ev Φ a env S).bind fun x S => (match x with | .bl true => .ok (.bl true) S | .bl false => ev Φ b env S | _ => .bad)
  | .not a, env, S => (ev Φ a env S).bind fun x S => (match x with | .bl k => .ok (.bl (!k)) S | _ => .bad)
  | .ife c a b, env, S => (evt Φ c env S).bind fun k S => if k then ev Φ a env S else ev Φ b env S
  | .ix a i, env, S => (ev Φ a env S).bind fun x S => (ev Φ i env S).bind fun y S => ixU x y S
  | .sl a lo hi, env, S => (ev Φ a env S).bind fun x S => (evo Φ lo env S).bind fun l S => (evo Φ hi env S).bind fun h S => slU x l h S
  | .fld a C f, env, S => (ev Φ a env S).bind fun x S => (match x with
      | .loc n => (match S[n]? with | some (.ins D fs) => if D = C then rO (fs.lookup f) S else .bad | _ => .bad)
      | _ => .bad)
  | .fldx a cs f, env, S => (ev Φ a env S).bind fun x S => (match x with
      | .loc n => (match S[n]? with | some (.ins D fs) => if D ∈ cs then rO (fs.lookup f) S else .bad | _ => .bad)
      | _ => .bad)
  | .dcp a, env, S => (ev Φ a env S).bind fun x S => dcpU x S
  | .revl a, env, S => (ev Φ a env S).bind fun x S => revlU x S
  | .mkN C, _, S => .ok (.loc S.length) (S ++ [.ins C []])
  | .call f es, env, S => (evs Φ es env S).bind fun us S => Φ.call f us S
  | .meth o C m es, env, S => (ev Φ o env S).bind fun x S => (match x with
      | .loc n => (match S[n]? with
        | some (.ins D fs) => if D = C ∧ fs.lookup m = none then (evs Φ es env S).bind fun us S => Φ.call (C ++ "." ++ m) (.loc n :: us) S else .bad
        | _ => .bad)
      | _ => .bad)
  | .mk C es, env, S => (evs Φ es env S).bind fun us S => (Φ.init (C ++ ".__init__") (.loc S.length :: us) (S ++ [.ins C []])).bind fun u S' => (match u with | .non => .ok (.loc S.length) S' | _ => .bad)
  | .bf b es, env, S => (evs Φ es env S).bind fun us S => bfU b us S
  | .bm b o es, env, S => (ev Φ o env S).bind fun x S => if tyB b x S then (evs Φ es env S).bind fun us S => bmU b x us S else .bad
  | .isi a t, env, S => (ev Φ a env S).bind fun x S => (match tyU S x with | some t' => (match kitB t' t with | some k => .ok (.bl k) S | none => .bad) | none => .bad)
  | .lc is tp elt it c, env, S => (ev Φ it env S).bind fun x S => (match iterU S x with
      | some (us, src) => (lcI tp is (wipeE env is) (fun env S => (evt Φ c env S).noex) (fun env S => (ev Φ elt env S).noex) S.length us src us (S ++ [.lst []])).bind fun _ S' => .ok (.loc S.length) S'
      | none => .bad)
  | .lcr is elt a b c, env, S => (ev Φ a env S).bind fun x S => (ev Φ b env S).bind fun y S => (match x, y with
      | .int i, .int j => if -(2 ^ 62) ≤ i ∧ i < 2 ^ 62 ∧ -(2 ^ 62) ≤ j ∧ j < 2 ^ 62 then
          (lcI false is (wipeE env is) (fun env S => (evt Φ c env S).noex) (fun env S => (ev Φ elt env S).noex) S.length (ranged i j) none (ranged i j) (S ++ [.lst []])).bind fun _ S' => .ok (.loc S.length) S'
        else .bad
      | _, _ => .bad)
  | .lcz is elt es c, env, S => (evs Φ es env S).bind fun us S => (match zipU S us with
      | some (all, st) => (lcJ true is (wipeE env is) (fun env S => (evt Φ c env S).noex) (fun env S => (ev Φ elt env S).noex) S.length st all (S ++ [.lst []])).bind fun _ S' => .ok (.loc S.length) S'
      | none => .bad)
  | .gd x a, env, S => (ev Φ a env S).bind fun k S => (match Φ.gd x, k with
      | some kvs, .str z => rO (kvs.lookup z) S
      | _, _ => .bad)
  | .gget x a b, env, S => (ev Φ a env S).bind fun k S => (ev Φ b env S).bind fun v S => (match Φ.gd x, k with
      | some kvs, .str z => .ok ((kvs.lookup z).getD v) S
      | _, _ => .bad)
  | .kcall f es ks, env, S => (evs Φ es env S).bind fun us S => (evs Φ ks env S).bind fun zs S => Φ.kcal f (us ++ zs) S
  | .din x a, env, S => (ev Φ a env S).bind fun k S => (match Φ.gd x, k with
      | some kvs, .str z => .ok (.bl (kvs.lookup z).isSome) S
      | _, _ => .bad)
  | .rev a, env, S => (ev Φ a env S).bind fun x S => revU x S
  | .dnew, _, S => .ok (.loc S.length) (S ++ [.dic []])
  | .dpl es, env, S => (evs Φ es env (S ++ [.dic []])).bind fun us S1 => dplR S.length us S1
  | .xin neg a b, env, S => (ev Φ a env S).bind fun x S => (ev Φ b env S).bind fun y S => (rO (xinR x y S) S).bind fun k S => .ok (.bl (if neg then !k else k)) S
  | .xeq neg a b, env, S => (ev Φ a env S).bind fun x S => (ev Φ b env S).bind fun y S => (rO (xeqR x y S) S).bind fun k S => .ok (.bl (if neg then !k else k)) S
  | .gix x a, env, S => (ev Φ a env S).bind fun k S => (match Φ.glo x with | some t => tindexF t [k] S | none => .bad)
  | .isio a cs ds, env, S => (ev Φ a env S).bind fun x S => (match isoU S x cs ds with | some k => .ok (.bl k) S | none => .bad)
  | .gfn _ t a, env, S => (ev Φ a env S).bind fun k S => (match k with
      | .str z => (match t.lookup z with | some f => .ok (.loc S.length) (S ++ [.fnc f]) | none => .bad)
      | _ => .bad)
  | .callv a fs es, env, S => (ev Φ a env S).bind fun u S => (match u with
      | .loc n => (match S[n]? with
        | some (.fnc f) => if f ∈ fs then (evs Φ es env S).bind fun us S => Φ.call f us S else .bad
        | _ => .bad)
      | _ => .bad)
  | .xrep a, env, S => (ev Φ a env S).bind fun x S => xrepR x S
  | .dat a k, env, S => (ev Φ a env S).bind fun x S => (ev Φ k env S).bind fun y S => datU x y S
  | .dhas b k a, env, S => (ev Φ k env S).bind fun y S => (ev Φ a env S).bind fun x S => dhasU b x y S
  | .dm1 a k v, env, S => (ev Φ a env (S ++ [.dic []])).bind fun x S1 => (dmOpen S.length x S1).bind fun q S2 => (ev Φ k env S2).bind fun y S3 => (ev Φ v env S3).bind fun z S4 => dmClose S.length q [(y, z)] S4
  | .dm2 a k v k2 v2, env, S => (ev Φ a env (S ++ [.dic []])).bind fun x S1 => (dmOpen S.length x S1).bind fun q S2 => (ev Φ k env S2).bind fun y S3 => (ev Φ v env S3).bind fun z S4 => (ev Φ k2 env S4).bind fun y2 S5 => (ev Φ v2 env S5).bind fun z2 S6 => dmClose S.length q [(y, z), (y2, z2)] S6
  | .lczn i elt es, env, S => (evs Φ es env S).bind fun us S => (match zipNU us with
      | some all => (lcJ false [i] (wipeE env [i]) (fun _ S => .ok true S) (fun env S => (ev Φ elt env S).noex) S.length (fun _ => true) all (S ++ [.lst []])).bind fun _ S' => .ok (.loc S.length) S'
      | none => .bad)
  | .lsd i it, env, S => (ev Φ it env S).bind fun x S => (match iterU S x with
      | some (us, _) => (match keyTs us with
        | some ks => if us.length ≤ sizeLine ∧ i < env.length then .ok (.loc S.length) (S ++ [.lst ((dd ks).map fun k => .tup (k.map uK))]) else .bad
        | none => .bad)
      | none => .bad)
  | .lc2 is is1 tp tp1 elt it it1, env, S => (ev Φ it env S).bind fun x S => (match iterU S x with
      | some (us, src) => (lcL tp tp1 is is1 (wipeE env (is ++ is1)) (fun env S => (ev Φ it1 env S).noex) (fun env S => (ev Φ elt env S).noex) S.length us src us (S ++ [.lst []])).bind fun _ S' => .ok (.loc S.length) S'
      | none => .bad)
noncomputable def evo (Φ : Cal) : Eo → Env → Sto → R (Option Int)
  | .no, _, S => .ok none S
  | .so e, env, S => (ev Φ e env S).bind fun x S => (match x with | .int i => .ok (some i) S | _ => .bad)
noncomputable def evs (Φ : Cal) : Es → Env → Sto → R (List U)
  | .nil, _, S => .ok [] S
  | .cons e es, env, S => (ev Φ e env S).bind fun u S => (evs Φ es env S).bind fun us S => .ok (u :: us) S
  | .star e es, env, S => (ev Φ e env S).bind fun u S => (match items? S u with | some xs => (evs Φ es env S).bind fun us S => .ok (xs ++ us) S | none => .bad)
noncomputable def evt (Φ : Cal) : T → Env → Sto → R Bool
  | .tt, _, S => .ok true S
  | .e a, env, S => (ev Φ a env S).bind fun x S => rO (truU x S) S
  | .and a b, env, S => (evt Φ a env S).bind fun k S => if k then evt Φ b env S else .ok false S
  | .or a b, env, S => (evt Φ a env S).bind fun k S => if k then .ok true S else evt Φ b env S
  | .not a, env, S => (evt Φ a env S).bind fun k S => .ok (!k) S
end
mutual
/-- a target of an assignment -/
inductive Tg where
  | nm (i : Nat) | sb (o i : E) | tp (ts : Tgs)
inductive Tgs where
  | nil | cons (t : Tg) (ts : Tgs)
end
noncomputable def Tgs.len : Tgs → Nat
  | .nil => 0
  | .cons _ ts => ts.len + 1
set_option genSizeOf false
set_option genInjectivity false
mutual
inductive St where
  | par (i j : Nat) (es : Es)
  | tset (t : Tg) (e : E)
  | set (tp : Bool) (is : List Nat) (e : E)
  | lset (is : List Nat) (e : E)
  | sub (o i e : E)
  | aug (i : Nat) (o : Op) (e : E)
  | fset (o : E) (C f : Str) (e : E)
  | faug (o : E) (C f : Str) (op : Op) (e : E)
  | ex (e : E) | ret (e : E) | retN
  | if_ (c : T) (a b : Sts)
  | while_ (c : T) (b : Sts)
  | for_ (tp : Bool) (is : List Nat) (it : E) (b : Sts)
  | forr (i : Nat) (a b : E) (c : Sts)
  | raise (C : Str) (e : E)
  | pass | brk | cont
  | mtch (e : E) (cs : Cs)
  | sup (i : Nat) (C g : Str) (es : Es)
  | dset (a k e : E)
  | tryf (i j : Nat) (e : E) (C f : Str)
  | tryr (e : E) (C : Str) (cs : List Str) (k : U)
inductive Sts where
  | nil | cons (s : St) (b : Sts)
inductive Cs where
  | nil | cons (p : Pt) (b : Sts) (cs : Cs)
end
set_option genSizeOf true
set_option genInjectivity true
inductive O where
  | nx (env : Env) (S : Sto) | ret (u : U) (S : Sto) | bk (env : Env) (S : Sto) | ct (env : Env) (S : Sto)
  | exc (c : Str) (fs : List (Str × U)) (S : Sto) | bad
noncomputable def R.on {α : Type} (r : R α) (f : α → Sto → O) : O :=
  match r with
  | .ok a S => f a S
  | .exc c fs S => .exc c fs S
  | .bad => .bad
noncomputable def O.then_ (o : O) (f : Env → Sto → O) : O :=
  match o with
  | .nx env S => f env S
  | o => o
/-- a loop's turn has ended -/
noncomputable def O.turn (o : O) (f : Env → Sto → O) : O :=
  match o with
  | .nx env S => f env S
  | .ct env S => f env S
  | .bk env S => .nx env S
  | o => o
noncomputable def augU (o : Op) (a b : U) (S : Sto) : R U :=
  match o, a, b with
  | .add, .int i, .int j => .ok (.int (i + j)) S
  | .add, .str x, .str y => if x.length + y.length ≤ sizeLine then .ok (.str (x ++ y)) S else .bad
  | .sub, .int i, .int j => .ok (.int (i - j)) S
  | .mul, .int i, .int j => if CMul i j then .ok (.int (i * j)) S else .bad
  | _, _, _ => .bad
noncomputable def putU (f : Str) (u : U) : List (Str × U) → List (Str × U)
  | [] => [(f, u)]
  | (g, v) :: r => if g = f then (f, u) :: r else (g, v) :: putU f u r
noncomputable def setItemU (o i u : U) (S : Sto) : R Unit :=
  match o, i with
  | .loc n, .int k => (match S[n]? with
    | some (.lst xs) => (match ixN xs.length k with | some j => .ok () (S.set n (.lst (xs.set j u))) | none => .bad)
    | _ => .bad)
  | _, _ => .bad
noncomputable def setFldU (o : U) (C f : Str) (u : U) (S : Sto) : R Unit :=
  match o with
  | .loc n => (match S[n]? with
    | some (.ins D fs) => if D = C ∧ fs.length < 900 then .ok () (S.set n (.ins C (putU f u fs))) else .bad
    | _ => .bad)
  | _ => .bad
noncomputable def loopI (c : Env → Sto → R Bool) (f : Env → Sto → O) : Nat → Env → Sto → O
  | 0, _, _ => .bad
  | n + 1, env, S => (c env S).on fun k S => if k then (f env S).turn fun env S => loopI c f n env S else .nx env S
noncomputable def forI (tp : Bool) (is : List Nat) (f : Env → Sto → O) (all : List U) (src : Option Nat) : List U → Env → Sto → O
  | [], env, S => if stays S all src then .nx env S else .bad
  | u :: us, env, S => if stays S all src then
      match setN tp is u env with
      | some env' => (f env' S).turn fun env S => forI tp is f all src us env S
      | none => .bad
    else .bad
mutual
noncomputable def setT (Φ : Cal) : Tg → U → Env → Sto → R Env
  | .nm i, u, env, S => .ok (env.set i (some u)) S
  | .sb o i, u, env, S => (ev Φ o env S).bind fun a S => (ev Φ i env S).bind fun k S => (setItemU a k u S).bind fun _ S => .ok env S
  | .tp ts, u, env, S => (match u with
      | .tup us => if us.length = ts.len then setTs Φ ts us env S else .bad
      | _ => .bad)
noncomputable def setTs (Φ : Cal) : Tgs → List U → Env → Sto → R Env
  | .nil, [], env, S => .ok env S
  | .cons t ts, u :: us, env, S => (setT Φ t u env S).bind fun env S => setTs Φ ts us env S
  | _, _, _, _ => .bad
end
/-- the items of a pattern: none: no reading; some none: no match -/
noncomputable def pisM : List Pi → List U → Env → Option (Option Env)
  | [], [], env => some (some env)
  | .lit x :: ps, .str y :: us, env => if y = x then pisM ps us env else some none
  | .cap i :: ps, u :: us, env => pisM ps us (env.set i (some u))
  | .wild :: ps, _ :: us, env => pisM ps us env
  | _, _, _ => none
noncomputable def ptM : Pt → U → Env → Option (Option Env)
  | .wild, _, env => some (some env)
  | .val x, .str y, env => some (if y = x then some env else none)
  | .seq ps, .tup us, env => if us.length = ps.length then pisM ps us env else some none
  | _, _, _ => none
noncomputable def fuel : Nat := 16777216
mutual
noncomputable def ex (Φ : Cal) : St → Env → Sto → O
  | .set tp is e, env, S => (ev Φ e env S).on fun u S => (match setN tp is u env with | some env => .nx env S | none => .bad)
  | .lset is e, env, S => (ev Φ e env S).on fun u S => (match list? S u with | some us => if us.length = is.length then .nx (setAll is us env) S else .bad | none => .bad)
  | .par i j es, env, S => (evs Φ es env S).on fun us S => (match us with | [u, v] => .nx ((env.set i (some u)).set j (some v)) S | _ => .bad)
  | .tset t e, env, S => (ev Φ e env S).on fun u S => (setT Φ t u env S).on fun env S => .nx env S
  | .sub o i e, env, S => (ev Φ e env S).on fun u S => (ev Φ o env S).on fun a S => (ev Φ i env S).on fun k S => (setItemU a k u S).on fun _ S => .nx env S
  | .aug i o e, env, S => (match env[i]? with | some (some a) => (ev Φ e env S).on fun b S => (augU o a b S).on fun u S => .nx (env.set i (some u)) S | _ => .bad)
  | .fset o C f e, env, S => (ev Φ e env S).on fun u S => (ev Φ o env S).on fun a S => (setFldU a C f u S).on fun _ S => .nx env S
  | .faug o C f op e, env, S => (ev Φ o env S).on fun a S => (match a with
      | .loc n => (match S[n]? with
        | some (.ins D fs) => if D = C then (match fs.lookup f with | some x => (ev Φ e env S).on fun y S => (augU op x y S).on fun z S => (setFldU (.loc n) C f z S).on fun _ S => .nx env S | none => .bad) else .bad
        | _ => .bad)
      | _ => .bad)
  | .ex e, env, S => (ev Φ e env S).on fun _ S => .nx env S
  | .ret e, env, S => (ev Φ e env S).on fun u S => .ret u S
  | .retN, _, S => .ret .non S
  | .if_ c a b, env, S => (evt Φ c env S).on fun k S => if k then exs Φ a env S else exs Φ b env S
  | .while_ c b, env, S => loopI (fun env S => evt Φ c env S) (fun env S => exs Φ b env S) fuel env S
  | .for_ tp is it b, env, S => (ev Φ it env S).on fun x S => (match iterU S x with
      | some (us, src) => forI tp is (fun env S => exs Φ b env S) us src us env S
      | none => .bad)
  | .forr i a b c, env, S => (ev Φ a env S).on fun x S => (ev Φ b env S).on fun y S => (match x, y with
      | .int m, .int n => if -(2 ^ 62) ≤ m ∧ m < 2 ^ 62 ∧ -(2 ^ 62) ≤ n ∧ n < 2 ^ 62 then forI false [i] (fun env S => exs Φ c env S) (ranged m n) none (ranged m n) env S else .bad
      | _, _ => .bad)
  | .raise C e, env, S => (ev Φ e env S).on fun u S => (match Φ.xf C with | some f => .exc C [(f, u)] S | none => .bad)
  | .pass, env, S => .nx env S
  | .brk, env, S => .bk env S
  | .cont, env, S => .ct env S
  | .mtch e cs, env, S => (ev Φ e env S).on fun u S => exc Φ cs u env S
  | .dset a k e, env, S => (ev Φ e env S).on fun v S => (ev Φ a env S).on fun x S => (ev Φ k env S).on fun y S => (dsetU x y v S).on fun _ S => .nx env S
  | .sup i C g es, env, S => (match env[i]? with
      | some (some (.loc n)) => (match S[n]? with
        | some (.ins D _) => if D = C then (evs Φ es env S).on fun us S => (Φ.call g (.loc n :: us) S).on fun _ S => .nx env S else .bad
        | _ => .bad)
      | _ => .bad)
  | .tryr e C cs k, env, S => (match ev Φ e env S with
      | .ok _ S1 => .nx env S1
      | .exc c _ S1 => if c ∈ cs then .ret k S1 else .bad
      | .bad => .bad)
  | .tryf i j e C f, env, S => (match ev Φ e env S with
      | .ok u S1 => .nx (env.set i (some u)) S1
      | .exc c fs S1 => if c = C then (match fs.lookup f with | some u => if j < env.length then .nx (((env.set j none).set i (some u)).set j none) S1 else .bad | none => .bad) else .bad
      | .bad => .bad)
noncomputable def exs (Φ : Cal) : Sts → Env → Sto → O
  | .nil, env, S => .nx env S
  | .cons s b, env, S => (ex Φ s env S).then_ fun env S => exs Φ b env S
noncomputable def exc (Φ : Cal) : Cs → U → Env → Sto → O
  | .nil, _, env, S => .nx env S
  | .cons p b cs, u, env, S => (match ptM p u env with
    | some (some env') => exs Φ b env' S
    | some none => exc Φ cs u env S
    | none => .bad)
end
/-- a body's end is the call's -/
noncomputable def O.fin (o : O) : R U :=
  match o with
  | .nx _ S => .ok .non S
  | .ret u S => .ok u S
  | .exc c fs S => .exc c fs S
  | _ => .bad
noncomputable def startU (n : Nat) (us : List U) : Env := us.map some ++ List.replicate (n - us.length) none
/-- a def: how many parameters, how many names, its body; star: what is left over is a tuple, the last parameter -/
structure Df where
  np : Nat
  nn : Nat
  star : Bool
  body : Sts
noncomputable def bindU (d : Df) (us : List U) : Option (List U) :=
  if d.star then (if d.np ≤ us.length ∧ us.length ≤ 1000 then some (us.take d.np ++ [.tup (us.drop d.np)]) else none)
  else if us.length = d.np then some us else none
noncomputable def Df.run (d : Df) (Φ : Cal) (us : List U) (S : Sto) : R U :=
  match bindU d us with
  | some ws => (exs Φ d.body (startU d.nn ws) S).fin
  | none => .bad
structure Pg where
  defs : Str → Option (Df ⊕ (Cal → List U → Sto → R U))
  kdefs : Str → Option Df
  glo : Str → Option U
  xf : Str → Option Str
  gd : Str → Option (List (Str × U))
/-- calls to a depth -/
noncomputable def Pg.cal (p : Pg) : Nat → Cal
  | 0 => ⟨fun _ _ _ => .bad, fun _ _ _ => .bad, fun _ _ _ => .bad, p.glo, p.xf, p.gd⟩
  | d + 1 => ⟨fun f us S => match p.defs f with | some (.inl df) => df.run (p.cal d) us S | some (.inr g) => g (p.cal d) us S | none => .bad,
    fun f us S => match p.kdefs f with | some df => df.run (p.cal d) us S | none => .bad, (p.cal d).call, p.glo, p.xf, p.gd⟩
end Oz
end
section
set_option maxHeartbeats 4000000
namespace Oz
open PySem PySem.Spec PyProof.Rows L2
section
variable (K : PySem.W.Frag) (mg : Str → Option Value)
mutual
noncomputable def RelU (ρ : List Addr) (H : Hp) : U → V → Prop
  | .non, v => v = .non
  | .bl b, v => v = .bl b
  | .int i, v => v = .int i
  | .str x, v => v = .str x
  | .tup us, v => ∃ a vs, v = .ref a ∧ SqT K H a vs ∧ RelUs ρ H us vs
  | .loc n, v => ∃ a, v = .ref a ∧ ρ[n]? = some a
noncomputable def RelUs (ρ : List Addr) (H : Hp) : List U → List V → Prop
  | [], vs => vs = []
  | u :: us, vs => ∃ v vs', vs = v :: vs' ∧ RelU ρ H u v ∧ RelUs ρ H us vs'
end
/-- what never changes -/
noncomputable def Imm : HO → Prop
  | .tup _ => True
  | .frz _ _ => True
  | .met _ _ => True
  | _ => False
structure Ext (ρ : List Addr) (H : Hp) (ρ' : List Addr) (H' : Hp) : Prop where
  pre : ∃ t, ρ' = ρ ++ t
  imm : ∀ a o, H a = some o → Imm o → H' a = some o
theorem Ext.refl {ρ : List Addr} {H : Hp} : Ext ρ H ρ H := ⟨⟨[], by simp⟩, fun _ _ h _ => h⟩
theorem Ext.trans {ρ ρ1 ρ2 : List Addr} {H H1 H2 : Hp} (a : Ext ρ H ρ1 H1) (b : Ext ρ1 H1 ρ2 H2) : Ext ρ H ρ2 H2 := by
  obtain ⟨t, e⟩ := a.pre
  obtain ⟨t', e'⟩ := b.pre
  exact ⟨⟨t ++ t', by rw [e', e, List.append_assoc]⟩, fun x o h i => b.imm x o (a.imm x o h i) i⟩
theorem Ext.at_ {ρ ρ' : List Addr} {H H' : Hp} (e : Ext ρ H ρ' H') {n : Nat} {a : Addr} (h : ρ[n]? = some a) : ρ'[n]? = some a := by
  obtain ⟨t, rfl⟩ := e.pre
  rw [List.getElem?_append_left (List.getElem?_eq_some_iff.mp h).1]
  exact h
theorem Ext.sqt {ρ ρ' : List Addr} {H H' : Hp} (e : Ext ρ H ρ' H') {a : Addr} {vs : List V} (h : SqT K H a vs) : SqT K H' a vs := by
  rcases h with (h | ⟨o, h⟩) | h
  · exact .inl (.inl (e.imm _ _ h trivial))
  · exact .inl (.inr ⟨o, e.imm _ _ h trivial⟩)
  · exact .inr h
variable {K mg}
mutual
theorem RelU.mono {ρ ρ' : List Addr} {H H' : Hp} (e : Ext ρ H ρ' H') : ∀ {u : U} {v : V}, RelU K ρ H u v → RelU K ρ' H' u v
  | .non, _, h => by simpa [RelU] using h
  | .bl _, _, h => by simpa [RelU] using h
  | .int _, _, h => by simpa [RelU] using h
  | .str _, _, h => by simpa [RelU] using h
  | .tup us, v, h => by
    simp only [RelU] at h ⊢
    obtain ⟨a, vs, rfl, hs, hr⟩ := h
    exact ⟨a, vs, rfl, e.sqt K hs, RelUs.mono e hr⟩
  | .loc n, v, h => by
    simp only [RelU] at h ⊢
    obtain ⟨a, rfl, hn⟩ := h
    exact ⟨a, rfl, e.at_ hn⟩
theorem RelUs.mono {ρ ρ' : List Addr} {H H' : Hp} (e : Ext ρ H ρ' H') : ∀ {us : List U} {vs : List V}, RelUs K ρ H us vs → RelUs K ρ' H' us vs
  | [], _, h => by simpa [RelUs] using h
  | u :: us, vs, h => by
    simp only [RelUs] at h ⊢
    obtain ⟨v, vs', rfl, h1, h2⟩ := h
    exact ⟨v, vs', rfl, RelU.mono e h1, RelUs.mono e h2⟩
end
theorem RelUs.length {ρ : List Addr} {H : Hp} : ∀ {us : List U} {vs : List V}, RelUs K ρ H us vs → vs.length = us.length
  | [], _, h => by simp only [RelUs] at h; subst h; rfl
  | u :: us, vs, h => by
    simp only [RelUs] at h
    obtain ⟨v, vs', rfl, _, h2⟩ := h
    simp [RelUs.length h2]
theorem RelUs.nil {ρ : List Addr} {H : Hp} : RelUs K ρ H [] [] := by simp [RelUs]
theorem RelUs.cons {ρ : List Addr} {H : Hp} {u : U} {us : List U} {v : V} {vs : List V} (h : RelU K ρ H u v) (hs : RelUs K ρ H us vs) : RelUs K ρ H (u :: us) (v :: vs) := by
  simp only [RelUs]
  exact ⟨v, vs, rfl, h, hs⟩
theorem RelUs.get {ρ : List Addr} {H : Hp} : ∀ {us : List U} {vs : List V} {i : Nat} {u : U}, RelUs K ρ H us vs → us[i]? = some u → ∃ v, vs[i]? = some v ∧ RelU K ρ H u v
  | [], _, _, _, _, e => by simp at e
  | u :: us, vs, i, w, h, e => by
    simp only [RelUs] at h
    obtain ⟨v, vs', rfl, h1, h2⟩ := h
    cases i with
    | zero => simp at e; subst e; exact ⟨v, rfl, h1⟩
    | succ i =>
      obtain ⟨v', e', r⟩ := RelUs.get h2 (i := i) (by simpa using e)
      exact ⟨v', by simpa using e', r⟩
theorem RelUs.append {ρ : List Addr} {H : Hp} : ∀ {us ws : List U} {vs xs : List V}, RelUs K ρ H us vs → RelUs K ρ H ws xs → RelUs K ρ H (us ++ ws) (vs ++ xs)
  | [], _, _, _, h, h' => by simp only [RelUs] at h; subst h; exact h'
  | u :: us, ws, vs, xs, h, h' => by
    simp only [RelUs] at h
    obtain ⟨v, vs', rfl, h1, h2⟩ := h
    exact RelUs.cons h1 (RelUs.append h2 h')
theorem RelUs.take {ρ : List Addr} {H : Hp} : ∀ {us : List U} {vs : List V} (n : Nat), RelUs K ρ H us vs → RelUs K ρ H (us.take n) (vs.take n)
  | [], _, _, h => by simp only [RelUs] at h; subst h; simp [RelUs]
  | u :: us, vs, 0, h => by simp [RelUs]
  | u :: us, vs, n + 1, h => by
    simp only [RelUs] at h
    obtain ⟨v, vs', rfl, h1, h2⟩ := h
    exact RelUs.cons h1 (RelUs.take n h2)
theorem RelUs.drop {ρ : List Addr} {H : Hp} : ∀ {us : List U} {vs : List V} (n : Nat), RelUs K ρ H us vs → RelUs K ρ H (us.drop n) (vs.drop n)
  | [], _, _, h => by simp only [RelUs] at h; subst h; simp [RelUs]
  | u :: us, vs, 0, h => by simpa using h
  | u :: us, vs, n + 1, h => by
    simp only [RelUs] at h
    obtain ⟨v, vs', rfl, h1, h2⟩ := h
    exact RelUs.drop n h2
theorem RelUs.set {ρ : List Addr} {H : Hp} {u : U} {v : V} (hu : RelU K ρ H u v) : ∀ {us : List U} {vs : List V} (n : Nat), RelUs K ρ H us vs → RelUs K ρ H (us.set n u) (vs.set n v)
  | [], _, _, h => by simp only [RelUs] at h; subst h; simp [RelUs]
  | w :: us, vs, 0, h => by
    simp only [RelUs] at h
    obtain ⟨v', vs', rfl, h1, h2⟩ := h
    exact RelUs.cons hu h2
  | w :: us, vs, n + 1, h => by
    simp only [RelUs] at h
    obtain ⟨v', vs', rfl, h1, h2⟩ := h
    exact RelUs.cons h1 (RelUs.set hu n h2)
theorem RelUs.dropLast {ρ : List Addr} {H : Hp} {us : List U} {vs : List V} (h : RelUs K ρ H us vs) : RelUs K ρ H us.dropLast vs.dropLast := by
  rw [List.dropLast_eq_take, List.dropLast_eq_take, h.length]
  exact RelUs.take _ h
theorem RelUs.cut {ρ : List Addr} {H : Hp} {us : List U} {vs : List V} (lo hi : Option Int) (h : RelUs K ρ H us vs) : RelUs K ρ H (cutA us lo hi) (cutV vs lo hi) := by
  unfold cutA cutV
  rw [h.length]
  exact RelUs.take _ (RelUs.drop _ h)
/-- an instance's fields -/
noncomputable def RelF (K : PySem.W.Frag) (ρ : List Addr) (H : Hp) (fs : List (Str × U)) (vfs : List (Str × V)) : Prop := Paired (fun (p : Str × U) (q : Str × V) => p.1 = q.1 ∧ RelU K ρ H p.2 q.2) fs vfs
theorem RelF.mono {ρ ρ' : List Addr} {H H' : Hp} (e : Ext ρ H ρ' H') {fs : List (Str × U)} {vfs : List (Str × V)} (h : RelF K ρ H fs vfs) : RelF K ρ' H' fs vfs :=
  L2.Paired.mapP h fun _ _ q => ⟨q.1, q.2.mono e⟩
theorem RelF.look {ρ : List Addr} {H : Hp} {f : Str} : ∀ {fs : List (Str × U)} {vfs : List (Str × V)}, RelF K ρ H fs vfs → (∀ u, fs.lookup f = some u → ∃ v, vfs.lookup f = some v ∧ RelU K ρ H u v) ∧ (fs.lookup f = none → vfs.lookup f = none)
  | [], _, .nil => ⟨fun u e => by simp at e, fun _ => rfl⟩
  | (g, u) :: fs, (g', v) :: vfs, .cons q r => by
    obtain ⟨rfl, h1⟩ := q
    have ih := RelF.look (f := f) r
    by_cases hg : f == g
    · constructor
      · intro w e
        simp only [List.lookup_cons, hg] at e ⊢
        cases e
        exact ⟨v, rfl, h1⟩
      · intro e
        simp only [List.lookup_cons, hg] at e
        cases e
    · have hg' : (f == g) = false := by simpa using hg
      constructor
      · intro w e
        simp only [List.lookup_cons, hg'] at e ⊢
        exact ih.1 w e
      · intro e
        simp only [List.lookup_cons, hg'] at e ⊢
        exact ih.2 e
theorem RelF.length {ρ : List Addr} {H : Hp} {fs : List (Str × U)} {vfs : List (Str × V)} (h : RelF K ρ H fs vfs) : fs.length = vfs.length := Paired.length h
theorem RelF.put {ρ : List Addr} {H : Hp} {f : Str} {u : U} {v : V} (hu : RelU K ρ H u v) : ∀ {fs : List (Str × U)} {vfs : List (Str × V)}, RelF K ρ H fs vfs → RelF K ρ H (putU f u fs) (L2.putF f v vfs)
  | [], _, .nil => .cons ⟨rfl, hu⟩ .nil
  | (g, w) :: fs, (g', x) :: vfs, .cons q r => by
    obtain ⟨rfl, h1⟩ := q
    unfold putU L2.putF
    by_cases hg : g = f
    · rw [if_pos hg, if_pos hg]
      exact .cons ⟨hg.symm, hu⟩ r
    · rw [if_neg hg, if_neg hg]
      exact .cons ⟨rfl, h1⟩ (RelF.put hu r)
/-- a list that is read only -/
noncomputable def FroL (K : PySem.W.Frag) (H : Hp) (a : Addr) (vs : List V) : Prop := (∃ o, H a = some (.frz o (.lst vs))) ∨
  ∃ (o : Obj) (its : Array Value) (n : Nat), K.lookup a = some o ∧ o.cls = .type "list" ∧ o.dict = none ∧ o.data = .seq its n ∧ its.size ≤ sizeLine ∧ Vals vs its.toList
theorem FroL.sql {K : PySem.W.Frag} {H : Hp} {a : Addr} {vs : List V} (h : FroL K H a vs) : SqL K H a vs := by
  rcases h with ⟨o, h⟩ | h
  · exact .inl (.inr ⟨o, h⟩)
  · exact .inr h
theorem FroL.ext {K : PySem.W.Frag} {ρ ρ' : List Addr} {H H' : Hp} (e : Ext ρ H ρ' H') {a : Addr} {vs : List V} (h : FroL K H a vs) : FroL K H' a vs := by
  rcases h with ⟨o, h⟩ | h
  · exact .inl ⟨o, e.imm _ _ h trivial⟩
  · exact .inr h
noncomputable def isFro : Cel → Bool
  | .fro _ => true
  | .fnc _ => true
  | _ => false
noncomputable def CelOk (K : PySem.W.Frag) (mg : Str → Option Value) (ρ : List Addr) (H : Hp) (a : Addr) : Cel → Prop
  | .lst us => ∃ vs, H a = some (.lst vs) ∧ RelUs K ρ H us vs
  | .fro us => ∃ vs, FroL K H a vs ∧ RelUs K ρ H us vs
  | .ins C fs => ∃ Ca dx vfs, mg C = some (.ref Ca) ∧ H a = some (.ins Ca dx vfs) ∧ RelF K ρ H fs vfs
  | .dic kvs => ∃ vkvs, H a = some (.dK vkvs) ∧ Paired (fun (p : Key × U) (q : Key × V) => p.1 = q.1 ∧ RelU K ρ H p.2 q.2) kvs vkvs
  | .fnc f => mg f = some (.ref a)
theorem CelOk.there {ρ : List Addr} {H : Hp} {a : Addr} {c : Cel} (h : CelOk K mg ρ H a c) (hf : isFro c = false) : ∃ o, H a = some o := by
  cases c with
  | lst us => obtain ⟨vs, e, _⟩ := h; exact ⟨_, e⟩
  | fro us => cases hf
  | ins C fs => obtain ⟨_, _, _, _, e, _⟩ := h; exact ⟨_, e⟩
  | dic kvs => obtain ⟨_, e, _⟩ := h; exact ⟨_, e⟩
  | fnc f => cases hf
theorem CelOk.keep {ρ ρ' : List Addr} {H H' : Hp} (e : Ext ρ H ρ' H') {a : Addr} {c : Cel} (h : CelOk K mg ρ H a c) (k : isFro c = false → ∀ o, H a = some o → H' a = some o) : CelOk K mg ρ' H' a c := by
  cases c with
  | lst us => obtain ⟨vs, q, r⟩ := h; exact ⟨vs, k rfl _ q, r.mono e⟩
  | fro us => obtain ⟨vs, q, r⟩ := h; exact ⟨vs, q.ext e, r.mono e⟩
  | ins C fs => obtain ⟨Ca, dx, vfs, m, q, r⟩ := h; exact ⟨Ca, dx, vfs, m, k rfl _ q, r.mono e⟩
  | dic kvs => obtain ⟨vk, q, r⟩ := h; exact ⟨vk, k rfl _ q, L2.Paired.mapP r fun _ _ z => ⟨z.1, z.2.mono e⟩⟩
  | fnc f => exact h
structure Wok (K : PySem.W.Frag) (mg : Str → Option Value) (ρ : List Addr) (S : Sto) (H : Hp) : Prop where
  len : ρ.length = S.length
  nd : ∀ (m n : Nat) (a : Addr) (c c' : Cel), ρ[m]? = some a → ρ[n]? = some a → S[m]? = some c → S[n]? = some c' → isFro c = false → isFro c' = false → m = n
  ok : ∀ (n : Nat) (a : Addr) (c : Cel), ρ[n]? = some a → S[n]? = some c → CelOk K mg ρ H a c
theorem Wok.at_ {ρ : List Addr} {S : Sto} {H : Hp} (w : Wok K mg ρ S H) {n : Nat} {a : Addr} {c : Cel} (h : S[n]? = some c) (ha : ρ[n]? = some a) : CelOk K mg ρ H a c := w.ok n a c ha h
/-- the heap grows by what is not the store's -/
theorem Wok.grow {ρ : List Addr} {S : Sto} {H H' : Hp} (w : Wok K mg ρ S H) (k : ∀ a o, H a = some o → H' a = some o) : Wok K mg ρ S H' :=
  ⟨w.len, w.nd, fun n a c h1 h2 => (w.ok n a c h1 h2).keep ⟨⟨[], by simp⟩, fun a o h _ => k a o h⟩ fun _ o h => k a o h⟩
theorem Ext.grow {ρ : List Addr} {H H' : Hp} (k : ∀ a o, H a = some o → H' a = some o) : Ext ρ H ρ H' := ⟨⟨[], by simp⟩, fun a o h _ => k a o h⟩
theorem upd_grow {H : Hp} {p : Addr} {o : HO} (h : H p = none) : ∀ a u, H a = some u → upd H p o a = some u := fun a u e => by
  rw [upd_ne (ne_of_none e h)]
  exact e
/-- a new thing in the store -/
theorem Ext.push {ρ : List Addr} {H H' : Hp} {p : Addr} (k : ∀ a o, H a = some o → H' a = some o) : Ext ρ H (ρ ++ [p]) H' := ⟨⟨[p], rfl⟩, fun a o h _ => k a o h⟩
theorem Wok.push {ρ : List Addr} {S : Sto} {H H' : Hp} {p : Addr} {c : Cel} (w : Wok K mg ρ S H) (hp : H p = none) (k : ∀ a o, H a = some o → H' a = some o) (hc : CelOk K mg (ρ ++ [p]) H' p c) : Wok K mg (ρ ++ [p]) (S ++ [c]) H' := by
  have old : ∀ {n : Nat} {a : Addr}, (ρ ++ [p])[n]? = some a → n < S.length → ρ[n]? = some a := fun {n a} h hn => by
    rw [List.getElem?_append_left (by rw [w.len]; exact hn)] at h
    exact h
  have oldS : ∀ {n : Nat} {d : Cel}, (S ++ [c])[n]? = some d → n < S.length → S[n]? = some d := fun {n d} h hn => by
    rw [List.getElem?_append_left hn] at h
    exact h
  have last : ∀ {n : Nat} {a : Addr}, (ρ ++ [p])[n]? = some a → ¬ n < S.length → n = S.length ∧ a = p := fun {n a} h hn => by
    have e : n = ρ.length := by
      have := (List.getElem?_eq_some_iff.mp h).1
      simp at this
      have := w.len
      omega
    subst e
    rw [List.getElem?_append_right (Nat.le_refl _)] at h
    simp at h
    exact ⟨w.len, h.symm⟩
  have fresh : ∀ {n : Nat} {d : Cel}, ρ[n]? = some p → S[n]? = some d → isFro d = false → False := fun {n d} h1 h2 h3 => by
    obtain ⟨o, e⟩ := (w.ok n p d h1 h2).there h3
    rw [hp] at e
    cases e
  refine ⟨by simp [w.len], fun m n a d d' h1 h2 h3 h4 f1 f2 => ?_, fun n a d h1 h2 => ?_⟩
  · by_cases hm : m < S.length
    · by_cases hn : n < S.length
      · exact w.nd m n a d d' (old h1 hm) (old h2 hn) (oldS h3 hm) (oldS h4 hn) f1 f2
      · obtain ⟨_, rfl⟩ := last h2 hn
        exact (fresh (old h1 hm) (oldS h3 hm) f1).elim
    · obtain ⟨e1, rfl⟩ := last h1 hm
      by_cases hn : n < S.length
      · exact (fresh (old h2 hn) (oldS h4 hn) f2).elim
      · obtain ⟨e2, _⟩ := last h2 hn
        rw [e1, e2]
  · by_cases hn : n < S.length
    · exact (w.ok n a d (old h1 hn) (oldS h2 hn)).keep (Ext.push k) fun _ o h => k a o h
    · obtain ⟨e, rfl⟩ := last h1 hn
      subst e
      rw [List.getElem?_append_right (Nat.le_refl _)] at h2
      simp at h2
      subst h2
      exact hc
/-- a cell that never changes may stand where another stands -/
theorem Wok.pushF {ρ : List Addr} {S : Sto} {H : Hp} {p : Addr} {c : Cel} (w : Wok K mg ρ S H) (hf : isFro c = true) (hc : CelOk K mg (ρ ++ [p]) H p c) : Wok K mg (ρ ++ [p]) (S ++ [c]) H := by
  have old : ∀ {n : Nat} {a : Addr}, (ρ ++ [p])[n]? = some a → n < S.length → ρ[n]? = some a := fun {n a} h hn => by
    rw [List.getElem?_append_left (by rw [w.len]; exact hn)] at h
    exact h
  have oldS : ∀ {n : Nat} {d : Cel}, (S ++ [c])[n]? = some d → n < S.length → S[n]? = some d := fun {n d} h hn => by
    rw [List.getElem?_append_left hn] at h
    exact h
  have last : ∀ {n : Nat} {d : Cel}, (S ++ [c])[n]? = some d → ¬ n < S.length → n = S.length ∧ d = c := fun {n d} h hn => by
    have e : n = S.length := by
      have := (List.getElem?_eq_some_iff.mp h).1
      simp at this
      omega
    subst e
    rw [List.getElem?_append_right (Nat.le_refl _)] at h
    simp at h
    exact ⟨rfl, h.symm⟩
  refine ⟨by simp [w.len], fun m n a d d' h1 h2 h3 h4 f1 f2 => ?_, fun n a d h1 h2 => ?_⟩
  · by_cases hm : m < S.length
    · by_cases hn : n < S.length
      · exact w.nd m n a d d' (old h1 hm) (old h2 hn) (oldS h3 hm) (oldS h4 hn) f1 f2
      · obtain ⟨_, rfl⟩ := last h4 hn
        rw [hf] at f2
        cases f2
    · obtain ⟨_, rfl⟩ := last h3 hm
      rw [hf] at f1
      cases f1
  · by_cases hn : n < S.length
    · exact (w.ok n a d (old h1 hn) (oldS h2 hn)).keep (Ext.push fun _ _ h => h) fun _ o h => h
    · obtain ⟨e, rfl⟩ := last h2 hn
      subst e
      rw [List.getElem?_append_right (by rw [w.len]; exact Nat.le_refl _)] at h1
      rw [w.len] at h1
      simp at h1
      subst h1
      exact hc
theorem push_at {ρ : List Addr} {p : Addr} {S : Sto} (h : ρ.length = S.length) : (ρ ++ [p])[S.length]? = some p := by
  rw [← h]
  simp
/-- a thing of the store is written -/
theorem Ext.write {ρ : List Addr} {H : Hp} {a : Addr} {o : HO} (hm : ∀ u, H a = some u → ¬ Imm u) : Ext ρ H ρ (upd H a o) := ⟨⟨[], by simp⟩, fun b u h i => by
  by_cases hb : b = a
  · subst hb
    exact absurd i (hm u h)
  · rw [upd_ne hb]
    exact h⟩
theorem Wok.write {ρ : List Addr} {S : Sto} {H : Hp} {n : Nat} {a : Addr} {o : HO} {c c0 : Cel} (w : Wok K mg ρ S H) (hn : ρ[n]? = some a) (h0 : S[n]? = some c0) (f0 : isFro c0 = false) (f1 : isFro c = false) (hm : ∀ u, H a = some u → ¬ Imm u) (hc : CelOk K mg ρ (upd H a o) a c) : Wok K mg ρ (S.set n c) (upd H a o) := by
  have hl : n < S.length := (List.getElem?_eq_some_iff.mp h0).1
  have look : ∀ {m : Nat} {d : Cel}, (S.set n c)[m]? = some d → (m = n ∧ d = c) ∨ (m ≠ n ∧ S[m]? = some d) := fun {m d} h => by
    by_cases e : m = n
    · subst e
      rw [List.getElem?_set_self hl] at h
      exact .inl ⟨rfl, (Option.some.inj h).symm⟩
    · rw [List.getElem?_set_ne (Ne.symm e)] at h
      exact .inr ⟨e, h⟩
  refine ⟨by simp [w.len], fun m k b d d' h1 h2 h3 h4 g1 g2 => ?_, fun m b d h1 h2 => ?_⟩
  · rcases look h3 with ⟨e3, _⟩ | ⟨e3, h5⟩
    · rcases look h4 with ⟨e4, _⟩ | ⟨e4, h6⟩
      · rw [e3, e4]
      · rw [e3] at h1 ⊢
        exact w.nd _ _ b c0 d' h1 h2 h0 h6 f0 g2
    · rcases look h4 with ⟨e4, _⟩ | ⟨e4, h6⟩
      · rw [e4] at h2 ⊢
        exact w.nd _ _ b d c0 h1 h2 h5 h0 g1 f0
      · exact w.nd _ _ b d d' h1 h2 h5 h6 g1 g2
  · rcases look h2 with ⟨rfl, rfl⟩ | ⟨e, h2⟩
    · rw [hn] at h1
      cases h1
      exact hc
    · refine (w.ok m b d h1 h2).keep (Ext.write hm) fun f u q => ?_
      have hb : b ≠ a := fun z => by
        subst z
        exact e (w.nd m n b d c0 h1 hn h2 h0 f f0)
      rw [upd_ne hb]
      exact q
structure EnvOk (K : PySem.W.Frag) (ρ : List Addr) (H : Hp) (env : Env) (σ : L2.St) : Prop where
  len : env.length = σ.length
  ok : ∀ (i : Nat) (u : U), env[i]? = some (some u) → ∃ v : V, σ[i]? = some (some v) ∧ RelU K ρ H u v
theorem EnvOk.mono {ρ ρ' : List Addr} {H H' : Hp} {env : Env} {σ : L2.St} (e : Ext ρ H ρ' H') (h : EnvOk K ρ H env σ) : EnvOk K ρ' H' env σ :=
  ⟨h.len, fun i u q => let ⟨v, a, b⟩ := h.ok i u q; ⟨v, a, b.mono e⟩⟩
theorem EnvOk.set {ρ : List Addr} {H : Hp} {env : Env} {σ : L2.St} (h : EnvOk K ρ H env σ) (i : Nat) {u : U} {v : V} (r : RelU K ρ H u v) : EnvOk K ρ H (env.set i (some u)) (σ.set i (some v)) := by
  refine ⟨by simp [h.len], fun j w q => ?_⟩
  by_cases hj : j = i
  · subst hj
    have hl : j < env.length := by
      have := (List.getElem?_eq_some_iff.mp q).1
      simpa using this
    rw [List.getElem?_set_self hl] at q
    cases q
    exact ⟨v, List.getElem?_set_self (by rw [← h.len]; exact hl), r⟩
  · rw [List.getElem?_set_ne (Ne.symm hj)] at q
    obtain ⟨x, a, b⟩ := h.ok j w q
    exact ⟨x, by rw [List.getElem?_set_ne (Ne.symm hj)]; exact a, b⟩
theorem EnvOk.setNone {ρ : List Addr} {H : Hp} {env : Env} {σ : L2.St} (h : EnvOk K ρ H env σ) (i : Nat) : EnvOk K ρ H (env.set i none) (σ.set i none) := by
  refine ⟨by simp [h.len], fun j w q => ?_⟩
  by_cases hj : j = i
  · subst hj
    have hl : j < env.length := by
      have := (List.getElem?_eq_some_iff.mp q).1
      simpa using this
    rw [List.getElem?_set_self hl] at q
    cases q
  · rw [List.getElem?_set_ne (Ne.symm hj)] at q
    obtain ⟨x, a, b⟩ := h.ok j w q
    exact ⟨x, by rw [List.getElem?_set_ne (Ne.symm hj)]; exact a, b⟩
theorem EnvOk.wipe {ρ : List Addr} {H : Hp} {env : Env} {σ : L2.St} (h : EnvOk K ρ H env σ) : ∀ is : List Nat, EnvOk K ρ H (wipeE env is) (L2.wipe σ is)
  | [] => h
  | i :: is => (EnvOk.wipe h is).setNone i
noncomputable def Post {α β : Type} (mg : Str → Option Value) (K : PySem.W.Frag) (Rr : List Addr → Hp → α → β → Prop) (W : XK) (ρ : List Addr) (H : Hp) (r : R α) (Q : β → Hp → Prop) : Prop :=
  match r with
  | .ok a S => ∀ ρ' H' b, Ext ρ H ρ' H' → Wok K mg ρ' S H' → Rr ρ' H' a b → Q b H'
  | .exc c fs S => ∀ ρ' H' C d vfs, Ext ρ H ρ' H' → Wok K mg ρ' S H' → mg c = some (.ref C) → H' d = some (.xd vfs) → RelF K ρ' H' fs vfs → W (.ref C) (some d) H'
  | .bad => False
theorem Post.ext {α β : Type} {Rr : List Addr → Hp → α → β → Prop} {W : XK} {ρ ρ1 : List Addr} {H H1 : Hp} {r : R α} {Q : β → Hp → Prop} (e : Ext ρ H ρ1 H1) (h : Post mg K Rr W ρ H r Q) : Post mg K Rr W ρ1 H1 r Q := by
  cases r with
  | ok a S => exact fun ρ' H' b e' w r => h ρ' H' b (e.trans e') w r
  | exc c fs S => exact fun ρ' H' C d vfs e' w m x r => h ρ' H' C d vfs (e.trans e') w m x r
  | bad => exact h
theorem Post.imp {α β : Type} {Rr : List Addr → Hp → α → β → Prop} {W : XK} {ρ : List Addr} {H : Hp} {r : R α} {Q Q' : β → Hp → Prop} (h : Post mg K Rr W ρ H r Q) (i : ∀ b H, Q b H → Q' b H) : Post mg K Rr W ρ H r Q' := by
  cases r with
  | ok a S => exact fun ρ' H' b e' w r => i _ _ (h ρ' H' b e' w r)
  | exc c fs S => exact h
  | bad => exact h
/-- one after another -/
theorem Post.bind {α β γ δ : Type} {Rr : List Addr → Hp → α → γ → Prop} {Rs : List Addr → Hp → β → δ → Prop} {W : XK} {ρ : List Addr} {H : Hp} {r : R α} {f : α → Sto → R β} {Q : δ → Hp → Prop} (h : Post mg K Rs W ρ H (r.bind f) Q) :
    Post mg K Rr W ρ H r fun b H1 => ∃ ρ1 S1 a, Ext ρ H ρ1 H1 ∧ Wok K mg ρ1 S1 H1 ∧ Rr ρ1 H1 a b ∧ Post mg K Rs W ρ1 H1 (f a S1) Q := by
  cases r with
  | ok a S => exact fun ρ' H' b e w r => ⟨ρ', S, a, e, w, r, Post.ext e h⟩
  | exc c fs S => exact h
  | bad => exact h
end
end Oz
end
section
set_option maxHeartbeats 4000000
namespace Oz
open PySem PySem.Spec PyProof.Rows L2
section
variable {X : Cx} {W : XK}
/-- two values, then what f says -/
noncomputable def r2 (X : Cx) (W : XK) (f : U → U → Sto → R U) : R2 := fun x y H Q => ∃ ρ S a b, Wok X.K X.mg ρ S H ∧ RelU X.K ρ H a x ∧ RelU X.K ρ H b y ∧ Post X.mg X.K (RelU X.K) W ρ H (f a b S) Q
theorem relInt {K : PySem.W.Frag} {ρ : List Addr} {H : Hp} {i : Int} : RelU K ρ H (.int i) (.int i) := by simp [RelU]
theorem relStr {K : PySem.W.Frag} {ρ : List Addr} {H : Hp} {i : Str} : RelU K ρ H (.str i) (.str i) := by simp [RelU]
theorem relBl {K : PySem.W.Frag} {ρ : List Addr} {H : Hp} {i : Bool} : RelU K ρ H (.bl i) (.bl i) := by simp [RelU]
theorem relNon {K : PySem.W.Frag} {ρ : List Addr} {H : Hp} : RelU K ρ H .non .non := by simp [RelU]
/-- the same store, a plain value -/
theorem Post.here {α β : Type} {K : PySem.W.Frag} {mg : Str → Option Value} {Rr : List Addr → Hp → α → β → Prop} {ρ : List Addr} {S : Sto} {H : Hp} {a : α} {b : β} {Q : β → Hp → Prop} (h : Post mg K Rr W ρ H (.ok a S) Q) (w : Wok K mg ρ S H) (r : Rr ρ H a b) : Q b H := h ρ H b Ext.refl w r
/-- a new tuple -/
theorem Post.tup {K : PySem.W.Frag} {mg : Str → Option Value} {ρ : List Addr} {S : Sto} {H : Hp} {us : List U} {vs : List V} {Q : VK} (h : Post mg K (RelU K) W ρ H (.ok (.tup us) S) Q) (w : Wok K mg ρ S H) (r : RelUs K ρ H us vs) {p : Addr} (hp : H p = none) : Q (.ref p) (upd H p (.tup vs)) := by
  have e : Ext ρ H ρ (upd H p (.tup vs)) := Ext.grow (upd_grow hp)
  refine h ρ _ _ e (w.grow (upd_grow hp)) ?_
  simp only [RelU]
  exact ⟨p, vs, rfl, .of upd_same, r.mono e⟩
/-- a new list -/
theorem Post.lst {K : PySem.W.Frag} {mg : Str → Option Value} {ρ : List Addr} {S : Sto} {H : Hp} {us : List U} {vs : List V} {Q : VK} (h : Post mg K (RelU K) W ρ H (.ok (.loc S.length) (S ++ [.lst us])) Q) (w : Wok K mg ρ S H) (r : RelUs K ρ H us vs) {p : Addr} (hp : H p = none) : Q (.ref p) (upd H p (.lst vs)) := by
  have e : Ext ρ H (ρ ++ [p]) (upd H p (.lst vs)) := Ext.push (upd_grow hp)
  refine h (ρ ++ [p]) _ _ e (w.push hp (upd_grow hp) ⟨vs, upd_same, r.mono e⟩) ?_
  simp only [RelU]
  exact ⟨p, rfl, push_at w.len⟩
theorem RelU.tup {K : PySem.W.Frag} {ρ : List Addr} {H : Hp} {us : List U} {v : V} (h : RelU K ρ H (.tup us) v) : ∃ a vs, v = .ref a ∧ SqT K H a vs ∧ RelUs K ρ H us vs := by simpa [RelU] using h
theorem RelU.loc {K : PySem.W.Frag} {ρ : List Addr} {H : Hp} {n : Nat} {v : V} (h : RelU K ρ H (.loc n) v) : ∃ a, v = .ref a ∧ ρ[n]? = some a := by simpa [RelU] using h
theorem RelU.int {K : PySem.W.Frag} {ρ : List Addr} {H : Hp} {n : Int} {v : V} (h : RelU K ρ H (.int n) v) : v = .int n := by simpa [RelU] using h
theorem RelU.str {K : PySem.W.Frag} {ρ : List Addr} {H : Hp} {n : Str} {v : V} (h : RelU K ρ H (.str n) v) : v = .str n := by simpa [RelU] using h
theorem RelU.bl {K : PySem.W.Frag} {ρ : List Addr} {H : Hp} {n : Bool} {v : V} (h : RelU K ρ H (.bl n) v) : v = .bl n := by simpa [RelU] using h
theorem RelU.non {K : PySem.W.Frag} {ρ : List Addr} {H : Hp} {v : V} (h : RelU K ρ H .non v) : v = .non := by simpa [RelU] using h
/-- a list that is read -/
theorem Wok.list {K : PySem.W.Frag} {mg : Str → Option Value} {ρ : List Addr} {S : Sto} {H : Hp} (w : Wok K mg ρ S H) {u : U} {us : List U} {v : V} (h : list? S u = some us) (r : RelU K ρ H u v) : ∃ a vs, v = .ref a ∧ SqL K H a vs ∧ RelUs K ρ H us vs := by
  unfold list? at h
  split at h
  · rename_i n
    obtain ⟨a, rfl, hn⟩ := r.loc
    split at h
    · rename_i xs hx
      cases h
      obtain ⟨vs, e, q⟩ := w.at_ hx hn
      exact ⟨a, vs, rfl, .of e, q⟩
    · rename_i xs hx
      cases h
      obtain ⟨vs, e, q⟩ := w.at_ hx hn
      exact ⟨a, vs, rfl, e.sql, q⟩
    · cases h
  · cases h
theorem list_items {S : Sto} {u : U} {us : List U} (h : items? S u = some us) : u = .tup us ∨ list? S u = some us := by
  unfold items? at h
  split at h
  · cases h; exact .inl rfl
  · exact .inr h
  · cases h
theorem Wok.items {K : PySem.W.Frag} {mg : Str → Option Value} {ρ : List Addr} {S : Sto} {H : Hp} (w : Wok K mg ρ S H) {u : U} {us : List U} {v : V} (h : items? S u = some us) (r : RelU K ρ H u v) : ∃ a vs, v = .ref a ∧ (SqL K H a vs ∨ SqT K H a vs) ∧ RelUs K ρ H us vs := by
  rcases list_items h with rfl | h
  · obtain ⟨a, vs, e, q, z⟩ := r.tup
    exact ⟨a, vs, e, .inr q, z⟩
  · obtain ⟨a, vs, e, q, z⟩ := w.list h r
    exact ⟨a, vs, e, .inl q, z⟩
noncomputable def opOf : Op → Operator
  | .add => .Add | .sub => .Sub | .mul => .Mult | .fdiv => .FloorDiv | .mod => .Mod | .pow => .Pow | .shl => .LShift
theorem op_mul_str : OpR X (binaryOp .Mult) (fun x y H Q => ∃ z n, x = .str z ∧ y = .int n ∧ PySem.MulOk z n ∧ Q (.str (PySem.Txt.mul z n)) H) := by
  rintro pins s σ H x y v u Q I rx ry ⟨z, n, rfl, rfl, ok, q⟩
  obtain ⟨t, rfl⟩ := rx
  obtain ⟨t', rfl⟩ := ry
  exact PySem.SB.mul ok fun t2 k => ⟨.str _, H, I.tok _, ⟨_, rfl⟩, q⟩
theorem op_bin (o : Op) : OpR X (binaryOp (opOf o)) (r2 X W (binU o)) := by
  rintro pins s σ H x y v u Q I rx ry ⟨ρ, S, a, b, w, ra, rb, h⟩
  unfold binU at h
  split at h
  · cases ra.int; cases rb.int
    exact op_add pins s σ H _ _ v u Q I rx ry ⟨_, _, rfl, rfl, h.here w relInt⟩
  · cases ra.str; cases rb.str
    split at h
    · rename_i hz
      exact op_add_str pins s σ H _ _ v u Q I rx ry ⟨_, _, rfl, rfl, hz, h.here w relStr⟩
    · cases h
  · obtain ⟨p, vs, rfl, hp, hr⟩ := ra.tup
    obtain ⟨q, ws, rfl, hq, hs⟩ := rb.tup
    split at h
    · rename_i xs ys hz
      refine op_catA pins s σ H _ _ v u Q I rx ry ⟨p, q, vs, ws, rfl, rfl, hp, hq, by rw [hr.length, hs.length]; exact hz, fun e => ?_, fun e1 e2 => ?_, fun e1 e2 a ha => ?_⟩
      · have e' : xs = [] := by
          have := hr.length
          rw [e] at this
          exact List.length_eq_zero_iff.mp this.symm
        subst e'
        exact h.here w (by simp only [RelU]; exact ⟨q, ws, rfl, hq, by simpa using hs⟩)
      · have e' : ys = [] := by
          have := hs.length
          rw [e2] at this
          exact List.length_eq_zero_iff.mp this.symm
        subst e'
        exact h.here w (by simp only [RelU]; exact ⟨p, vs, rfl, hp, by simpa using hr⟩)
      · exact h.tup w (hr.append hs) ha
    · cases h
  · split at h
    · rename_i m n _ _ xs ys hx hy
      split at h
      · rename_i hz
        obtain ⟨a, rfl, ha⟩ := ra.loc
        obtain ⟨b, rfl, hb⟩ := rb.loc
        obtain ⟨vs, e1, q1⟩ := w.at_ hx ha
        obtain ⟨ws, e2, q2⟩ := w.at_ hy hb
        exact op_cat pins s σ H _ _ v u Q I rx ry ⟨a, b, vs, ws, rfl, rfl, e1, e2, by rw [q1.length, q2.length]; exact hz, fun p hp => h.lst w (q1.append q2) hp⟩
      · cases h
    · cases h
  · cases ra.int; cases rb.int
    exact op_sub pins s σ H _ _ v u Q I rx ry ⟨_, _, rfl, rfl, h.here w relInt⟩
  · cases ra.int; cases rb.int
    split at h
    · rename_i hz
      exact op_mul pins s σ H _ _ v u Q I rx ry ⟨_, _, rfl, rfl, hz, h.here w relInt⟩
    · cases h
  · cases ra.str; cases rb.int
    split at h
    · rename_i hz
      exact op_mul_str pins s σ H _ _ v u Q I rx ry ⟨_, _, rfl, rfl, hz, h.here w relStr⟩
    · cases h
  · cases ra.int; cases rb.int
    split at h
    · rename_i hz
      exact op_fdiv pins s σ H _ _ v u Q I rx ry ⟨_, _, rfl, rfl, hz, h.here w relInt⟩
    · cases h
  · cases ra.int; cases rb.int
    split at h
    · rename_i hz
      exact op_mod pins s σ H _ _ v u Q I rx ry ⟨_, _, rfl, rfl, hz, h.here w relInt⟩
    · cases h
  · cases ra.int; cases rb.int
    split at h
    · rename_i hz
      exact op_pow pins s σ H _ _ v u Q I rx ry ⟨_, _, rfl, rfl, hz, h.here w relInt⟩
    · cases h
  · cases ra.int; cases rb.int
    split at h
    · rename_i hz
      exact op_shl pins s σ H _ _ v u Q I rx ry ⟨_, _, rfl, rfl, hz, h.here w relInt⟩
    · cases h
  · cases h
mutual
theorem dpU {K : PySem.W.Frag} {ρ : List Addr} {H : Hp} : ∀ {u : U} {v : V}, purU u = true → RelU K ρ H u v → Dp K H v (pdU u)
  | .non, v, _, r => by cases r.non; exact .non
  | .bl b, v, _, r => by cases r.bl; exact .bl b
  | .int i, v, _, r => by cases r.int; exact .int i
  | .str x, v, _, r => by cases r.str; exact .str x
  | .tup us, v, h, r => by
    obtain ⟨a, vs, rfl, hs, hr⟩ := r.tup
    exact .tup hs (dpUs (by simpa [purU] using h) hr)
  | .loc n, v, h, _ => by simp [purU] at h
theorem dpUs {K : PySem.W.Frag} {ρ : List Addr} {H : Hp} : ∀ {us : List U} {vs : List V}, purUs us = true → RelUs K ρ H us vs → DpAll K H vs (pdUs us)
  | [], vs, _, r => by simp only [RelUs] at r; subst r; exact .nil
  | u :: us, vs, h, r => by
    simp only [RelUs] at r
    obtain ⟨v, vs', rfl, h1, h2⟩ := r
    simp only [purUs, Bool.and_eq_true] at h
    exact .cons (dpU h.1 h1) (dpUs h.2 h2)
end
theorem okU_pur {u : U} (h : okU u = true) : purU u = true := by unfold okU at h; rw [Bool.and_eq_true] at h; exact h.1
theorem okU_shp {u : U} (h : okU u = true) : SeqAt.shaped (pdU u) = true := by unfold okU at h; rw [Bool.and_eq_true] at h; exact h.2
theorem okUs_pur {u : List U} (h : okUs u = true) : purUs u = true := by unfold okUs at h; rw [Bool.and_eq_true] at h; exact h.1
theorem okUs_shp {u : List U} (h : okUs u = true) : SeqAt.shaped (.list (pdUs u)) = true := by unfold okUs at h; rw [Bool.and_eq_true] at h; exact h.2
noncomputable def rK (X : Cx) (f : U → U → Sto → Option Bool) (neg : Bool) : R2 := fun x y H Q => ∃ ρ S a b k, Wok X.K X.mg ρ S H ∧ RelU X.K ρ H a x ∧ RelU X.K ρ H b y ∧ f a b S = some k ∧ Q (.bl (if neg then !k else k)) H
theorem op_eqR (hu : X.A.units + 64 < cLine) (neg : Bool) : OpR X (compareOp (if neg then .NotEq else .Eq)) (rK X eqR neg) := by
  rintro pins s σ H x y v u Q I rx ry ⟨ρ, S, a, b, k, w, ra, rb, e, q⟩
  unfold eqR at e
  split at e
  · cases ra.int; cases rb.int; cases e
    cases neg
    · exact op_eq pins s σ H _ _ v u Q I rx ry ⟨rfl, by simpa using q⟩
    · exact op_ne pins s σ H _ _ v u Q I rx ry ⟨rfl, by simpa using q⟩
  · cases ra.str; cases rb.str; cases e
    cases neg
    · exact op_eq pins s σ H _ _ v u Q I rx ry ⟨rfl, by simpa using q⟩
    · exact op_ne pins s σ H _ _ v u Q I rx ry ⟨rfl, by simpa using q⟩
  · split at e
    · rename_i xs ys hx hy
      split at e
      · rename_i hz
        cases e
        rw [Bool.and_eq_true] at hz
        obtain ⟨a, vs, rfl, h1, r1⟩ := w.list hx ra
        obtain ⟨b, ws, rfl, h2, r2⟩ := w.list hy rb
        have d1 := dpUs (okUs_pur hz.1) r1
        have d2 := dpUs (okUs_pur hz.2) r2
        have ee : PyData.eqv (.list (pdUs xs)) (.list (pdUs ys)) = eqUs xs ys := by
          simp only [PyData.eqv]
          exact eqvs_pd _ _ (okUs_pur hz.1) (okUs_pur hz.2)
        cases neg
        · exact op_eqD hu pins s σ H _ _ v u Q I rx ry ⟨_, _, .lst h1 d1, .lst h2 d2, okUs_shp hz.1, okUs_shp hz.2, by rw [ee]; simpa using q⟩
        · exact op_neD hu pins s σ H _ _ v u Q I rx ry ⟨_, _, .lst h1 d1, .lst h2 d2, okUs_shp hz.1, okUs_shp hz.2, by rw [ee]; simpa using q⟩
      · cases e
    · cases e
  · split at e
    · rename_i hz
      cases e
      rw [Bool.and_eq_true] at hz
      have d1 := dpU (okU_pur hz.1) ra
      have d2 := dpU (okU_pur hz.2) rb
      have ee := eqv_pd _ _ (okU_pur hz.1) (okU_pur hz.2)
      cases neg
      · exact op_eqD hu pins s σ H _ _ v u Q I rx ry ⟨_, _, d1, d2, okU_shp hz.1, okU_shp hz.2, by rw [ee]; simpa using q⟩
      · exact op_neD hu pins s σ H _ _ v u Q I rx ry ⟨_, _, d1, d2, okU_shp hz.1, okU_shp hz.2, by rw [ee]; simpa using q⟩
    · cases e
theorem flat_rel {K : PySem.W.Frag} {ρ : List Addr} {H : Hp} {u : U} {v : V} (f : flatU u = true) (r : RelU K ρ H u v) : flatV v = true := by
  cases u with
  | non => cases r.non; rfl
  | bl b => cases r.bl; rfl
  | int b => cases r.int; rfl
  | str b => cases r.str; rfl
  | tup b => cases f
  | loc b => cases f
theorem flat_all {K : PySem.W.Frag} {ρ : List Addr} {H : Hp} : ∀ {us : List U} {vs : List V}, us.all flatU = true → RelUs K ρ H us vs → vs.all flatV = true
  | [], vs, _, r => by simp only [RelUs] at r; subst r; rfl
  | u :: us, vs, h, r => by
    simp only [RelUs] at r
    obtain ⟨v, vs', rfl, h1, h2⟩ := r
    simp only [List.all_cons, Bool.and_eq_true] at h ⊢
    exact ⟨flat_rel h.1 h1, flat_all h.2 h2⟩
theorem eqV_rel {K : PySem.W.Frag} {ρ : List Addr} {H : Hp} {u u' : U} {v v' : V} (f : flatU u = true) (f' : flatU u' = true) (r : RelU K ρ H u v) (r' : RelU K ρ H u' v') : eqV v v' = eqU u u' := by
  cases u <;> cases f <;> cases u' <;> cases f' <;> simp only [RelU] at r r' <;> subst r r' <;> simp [eqV, eqU]
theorem inV_rel {K : PySem.W.Frag} {ρ : List Addr} {H : Hp} {u : U} {v : V} (f : flatU u = true) (r : RelU K ρ H u v) : ∀ {us : List U} {vs : List V}, us.all flatU = true → RelUs K ρ H us vs → inV v vs = us.any fun y => eqU y u
  | [], vs, _, q => by simp only [RelUs] at q; subst q; rfl
  | u' :: us, vs, h, q => by
    simp only [RelUs] at q
    obtain ⟨v', vs', rfl, h1, h2⟩ := q
    simp only [List.all_cons, Bool.and_eq_true] at h
    have ih := inV_rel f r h.2 h2
    unfold inV at ih ⊢
    simp only [List.any_cons]
    rw [ih, eqV_rel h.1 f h1 r]
theorem any_pd {u : U} (hu : purU u = true) : ∀ {us : List U}, purUs us = true → ((pdUs us).any fun z => PyData.eqv z (pdU u)) = us.any fun y => eqU y u
  | [], _ => rfl
  | w :: us, h => by
    simp only [purUs, Bool.and_eq_true] at h
    simp only [pdUs, List.any_cons]
    rw [any_pd hu h.2, eqv_pd _ _ h.1 hu]
theorem op_inR (hu : X.A.units + 65 < cLine) (neg : Bool) : OpR X (compareOp (if neg then .NotIn else .In)) (rK X inR neg) := by
  rintro pins s σ H x y v u Q I rx ry ⟨ρ, S, a, b, k, w, ra, rb, e, q⟩
  unfold inR at e
  split at e
  · rename_i x' z'
    cases ra.str; cases rb.str
    split at e
    · rename_i c hc
      cases e
      have hx : x' = ⟨#[c]⟩ := by
        cases x'
        simp only [Str.mk.injEq]
        apply Array.ext'
        exact hc
      subst hx
      cases neg
      · exact op_in_sign pins s σ H _ _ v u Q I rx ry ⟨c, z', rfl, rfl, by simpa using q⟩
      · exact op_notIn_sign pins s σ H _ _ v u Q I rx ry ⟨c, z', rfl, rfl, by simpa using q⟩
    · cases e
  · split at e
    · rename_i xs hx
      obtain ⟨p, vs, rfl, hq, hr⟩ := w.items hx rb
      split at e
      · rename_i hz
        cases e
        rw [Bool.and_eq_true] at hz
        have fx := flat_rel hz.1 ra
        have fs := flat_all hz.2 hr
        have ee := inV_rel hz.1 ra hz.2 hr
        cases neg
        · exact op_in_seq pins s σ H _ _ v u Q I rx ry ⟨p, vs, rfl, hq, fx, fs, by rw [ee]; simpa using q⟩
        · exact op_notIn_seq pins s σ H _ _ v u Q I rx ry ⟨p, vs, rfl, hq, fx, fs, by rw [ee]; simpa using q⟩
      · split at e
        · rename_i ys hy
          split at e
          · rename_i hz
            cases e
            rw [Bool.and_eq_true] at hz
            obtain ⟨p', ws, e', hl, hr'⟩ := w.list hy rb
            have d1 := dpU (okU_pur hz.1) ra
            have d2 : Dp X.K H (V.ref p) (.list (pdUs ys)) := by
              cases e'
              exact .lst hl (dpUs (okUs_pur hz.2) hr')
            have ee := any_pd (okU_pur hz.1) (okUs_pur hz.2)
            cases neg
            · exact op_inD hu pins s σ H _ _ v u Q I rx ry ⟨_, _, d1, d2, okU_shp hz.1, okUs_shp hz.2, by rw [ee]; simpa using q⟩
            · exact op_notInD hu pins s σ H _ _ v u Q I rx ry ⟨_, _, d1, d2, okU_shp hz.1, okUs_shp hz.2, by rw [ee]; simpa using q⟩
          · cases e
        · cases e
    · cases e
noncomputable def cmOf : Cm → CmpOp
  | .eq => .Eq | .ne => .NotEq | .lt => .Lt | .le => .LtE | .gt => .Gt | .ge => .GtE | .in_ => .In | .notIn => .NotIn | .isN => .Is | .isNotN => .IsNot
theorem decNon {K : PySem.W.Frag} {ρ : List Addr} {H : Hp} {u : U} {v : V} (r : RelU K ρ H u v) : decide (v = V.non) = decide (u = U.non) := by
  cases u with
  | non => cases r.non; simp
  | bl b => cases r.bl; simp
  | int b => cases r.int; simp
  | str b => cases r.str; simp
  | tup b => obtain ⟨_, _, rfl, _⟩ := r.tup; simp
  | loc b => obtain ⟨_, rfl, _⟩ := r.loc; simp
theorem op_isB (neg : Bool) : OpR X (compareOp (if neg then .IsNot else .Is)) (fun x y H Q => ∃ a b, x = .bl a ∧ y = .bl b ∧ Q (.bl (if neg then !(a == b) else (a == b))) H) := by
  rintro pins s σ H x y v u Q I rx ry ⟨a, b, rfl, rfl, q⟩
  cases rx
  cases ry
  have e : (Value.bool a == Value.bool b) = (a == b) := by cases a <;> cases b <;> rfl
  cases neg
  · refine wpAny_is_plain rfl ⟨.bl (a == b), H, I, ?_, q⟩
    rw [e]
    rfl
  · refine wpAny_isNot_plain rfl ⟨.bl (!(a == b)), H, I, ?_, q⟩
    rw [e]
    rfl
theorem op_cmp (hu : X.A.units + 65 < cLine) (o : Cm) : OpR X (compareOp (cmOf o)) (r2 X W (cmpU o)) := by
  rintro pins s σ H x y v u Q I rx ry ⟨ρ, S, a, b, w, ra, rb, h⟩
  unfold cmpU at h
  split at h
  · rename_i k hk
    have q : Q (.bl k) H := h.here w relBl
    cases o with
    | eq => exact op_eqR (by omega) false pins s σ H _ _ v u Q I rx ry ⟨ρ, S, a, b, k, w, ra, rb, hk, q⟩
    | ne =>
      simp only [cmpB, Option.map_eq_some_iff] at hk
      obtain ⟨k', hk, rfl⟩ := hk
      exact op_eqR (by omega) true pins s σ H _ _ v u Q I rx ry ⟨ρ, S, a, b, k', w, ra, rb, hk, q⟩
    | in_ => exact op_inR hu false pins s σ H _ _ v u Q I rx ry ⟨ρ, S, a, b, k, w, ra, rb, hk, q⟩
    | notIn =>
      simp only [cmpB, Option.map_eq_some_iff] at hk
      obtain ⟨k', hk, rfl⟩ := hk
      exact op_inR hu true pins s σ H _ _ v u Q I rx ry ⟨ρ, S, a, b, k', w, ra, rb, hk, q⟩
    | isN =>
      simp only [cmpB] at hk
      split at hk
      · cases hk
        cases rb.non
        exact op_isN pins s σ H _ _ v u Q I rx ry ⟨rfl, by rw [decNon ra]; exact q⟩
      · cases rb.bl
        split at hk
        · cases hk
          cases ra.bl
          exact op_isB false pins s σ H _ _ v u Q I rx ry ⟨_, _, rfl, rfl, q⟩
        · cases hk
      · cases hk
    | isNotN =>
      simp only [cmpB] at hk
      split at hk
      · cases hk
        cases rb.non
        exact op_notN pins s σ H _ _ v u Q I rx ry ⟨rfl, by rw [decNon ra]; exact q⟩
      · cases rb.bl
        split at hk
        · cases hk
          cases ra.bl
          exact op_isB true pins s σ H _ _ v u Q I rx ry ⟨_, _, rfl, rfl, q⟩
        · cases hk
      · cases hk
    | lt =>
      simp only [cmpB] at hk
      split at hk
      · cases hk; cases ra.int; cases rb.int
        exact op_lt pins s σ H _ _ v u Q I rx ry ⟨_, _, rfl, rfl, q⟩
      · cases hk
    | le =>
      simp only [cmpB] at hk
      split at hk
      · cases hk; cases ra.int; cases rb.int
        exact op_le pins s σ H _ _ v u Q I rx ry ⟨_, _, rfl, rfl, q⟩
      · cases hk
    | gt =>
      simp only [cmpB] at hk
      split at hk
      · cases hk; cases ra.int; cases rb.int
        exact op_gt pins s σ H _ _ v u Q I rx ry ⟨_, _, rfl, rfl, q⟩
      · cases hk
    | ge =>
      simp only [cmpB] at hk
      split at hk
      · cases hk; cases ra.int; cases rb.int
        exact op_ge pins s σ H _ _ v u Q I rx ry ⟨_, _, rfl, rfl, q⟩
      · cases hk
  · cases h
theorem at_rel {K : PySem.W.Frag} {ρ : List Addr} {H : Hp} {us : List U} {vs : List V} {j : Int} {u : U} (r : RelUs K ρ H us vs) (h : atI us j = some u) : ∃ v, atI vs j = some v ∧ RelU K ρ H u v := by
  unfold atI at h ⊢
  rw [r.length]
  cases q : ixN us.length j with
  | none => rw [q] at h; cases h
  | some k =>
    rw [q] at h
    obtain ⟨v, e, z⟩ := r.get (i := k) h
    exact ⟨v, e, z⟩
theorem ix_any : IxR X (r2 X W ixU) := by
  rintro value slice pins s σ H x y v u Q I rx ry ⟨ρ, S, a, b, w, ra, rb, h⟩ hs
  unfold ixU at h
  split at h
  · cases ra.str; cases rb.int
    split at h
    · rename_i hz
      split at h
      · rename_i c hc
        exact ix_str value slice pins s σ H _ _ v u Q I rx ry ⟨_, _, c, rfl, rfl, hz, hc, h.here w relStr⟩ hs
      · cases h
    · cases h
  · cases rb.int
    split at h
    · rename_i xs hx
      obtain ⟨p, vs, rfl, hq, hr⟩ := w.items hx ra
      split at h
      · rename_i c hc
        obtain ⟨z, hz, rz⟩ := at_rel hr hc
        rcases hq with hq | hq
        · exact ix_list value slice pins s σ H _ _ v u Q I rx ry ⟨p, vs, _, z, rfl, rfl, hq, hz, h.here w rz⟩ hs
        · exact ix_tup value slice pins s σ H _ _ v u Q I rx ry ⟨p, vs, _, z, rfl, rfl, hq, hz, h.here w rz⟩ hs
      · cases h
    · cases h
  · cases h
noncomputable def rSl (X : Cx) (W : XK) : V → Option Int → Option Int → Hp → VK → Prop := fun x lo hi H Q => ∃ ρ S a, Wok X.K X.mg ρ S H ∧ RelU X.K ρ H a x ∧ Post X.mg X.K (RelU X.K) W ρ H (slU a lo hi S) Q
theorem sl_any : SlR X (rSl X W) := by
  rintro pins s σ H x v vl vu lo hi sl Q I rx hs pl pu ⟨ρ, S, a, w, ra, h⟩
  unfold slU at h
  split at h
  · cases ra.str
    split at h
    · rename_i hz
      exact sl_str pins s σ H _ v vl vu lo hi sl Q I rx hs pl pu ⟨_, rfl, hz, h.here w relStr⟩
    · cases h
  · rename_i xs
    obtain ⟨p, vs, rfl, hq, hr⟩ := ra.tup
    refine sl_tupA pins s σ H _ v vl vu lo hi sl Q I rx hs pl pu ⟨p, vs, rfl, hq, fun c => ?_, fun c q hq' => ?_⟩
    · refine h.here w ?_
      simp only [RelU]
      refine ⟨p, vs, rfl, hq, ?_⟩
      have e := RelUs.cut lo hi hr
      have e2 : cutV vs lo hi = vs := by
        unfold cutV
        rw [c.1, c.2]
        simp
      rw [e2] at e
      exact e
    · exact h.tup w (hr.cut lo hi) hq'
  · split at h
    · rename_i xs hx
      obtain ⟨p, vs, rfl, hq, hr⟩ := w.list hx ra
      exact sl_list pins s σ H _ v vl vu lo hi sl Q I rx hs pl pu ⟨p, vs, rfl, hq, fun q hq' => h.lst w (hr.cut lo hi) hq'⟩
    · cases h
  · cases h
end
end Oz
end
section
set_option maxHeartbeats 4000000
namespace Oz
open PySem PySem.Spec PyProof.Rows L2
section
variable {X : Cx} {W : XK}
noncomputable def bfR (X : Cx) (W : XK) (b : Bf) : List V → Hp → VK → Prop := fun vs H Q => ∃ ρ S us, Wok X.K X.mg ρ S H ∧ RelUs X.K ρ H us vs ∧ Post X.mg X.K (RelU X.K) W ρ H (bfU b us S) Q
theorem rel1 {K : PySem.W.Frag} {ρ : List Addr} {H : Hp} {a : U} {vs : List V} (r : RelUs K ρ H [a] vs) : ∃ v, vs = [v] ∧ RelU K ρ H a v := by
  simp only [RelUs] at r
  obtain ⟨v, vs', rfl, h, rfl⟩ := r
  exact ⟨v, rfl, h⟩
theorem rel2 {K : PySem.W.Frag} {ρ : List Addr} {H : Hp} {a b : U} {vs : List V} (r : RelUs K ρ H [a, b] vs) : ∃ v w, vs = [v, w] ∧ RelU K ρ H a v ∧ RelU K ρ H b w := by
  simp only [RelUs] at r
  obtain ⟨v, vs', rfl, h, w, _, rfl, h2, rfl⟩ := r
  exact ⟨v, w, rfl, h, h2⟩
theorem lenV_rel {K : PySem.W.Frag} {mg : Str → Option Value} {ρ : List Addr} {S : Sto} {H : Hp} {a : U} {v : V} {n : Nat} (w : Wok K mg ρ S H) (r : RelU K ρ H a v) (h : lenU a S = some n) : LenV K v H n := by
  unfold lenU at h
  split at h
  · cases r.str
    split at h
    · rename_i hz; cases h; exact ⟨hz, rfl⟩
    · cases h
  · simp only [Option.map_eq_some_iff] at h
    obtain ⟨xs, hx, rfl⟩ := h
    obtain ⟨p, vs, rfl, hq, hr⟩ := w.items hx r
    rcases hq with hq | hq
    · exact .inl ⟨vs, hq, hr.length.symm⟩
    · exact .inr ⟨vs, hq, hr.length.symm⟩
theorem cf_len : CallR X (.builtin "len") (bfR X W .len) := by
  rintro pins s σ H vs us Q I rv ⟨ρ, S, ws, w, rs, h⟩
  replace h : Post X.mg X.K (RelU X.K) W ρ H (lenF ws S) Q := h
  unfold lenF at h
  split at h
  · obtain ⟨v, rfl, ra⟩ := rel1 rs
    split at h
    · rename_i n hn
      exact call_len pins s σ H _ us Q I rv ⟨v, n, rfl, lenV_rel w ra hn, h.here w relInt⟩
    · cases h
  · cases h
theorem cf_abs : CallR X (.builtin "abs") (bfR X W .abs) := by
  rintro pins s σ H vs us Q I rv ⟨ρ, S, ws, w, rs, h⟩
  replace h : Post X.mg X.K (RelU X.K) W ρ H (absF ws S) Q := h
  unfold absF at h
  split at h
  · obtain ⟨v, rfl, ra⟩ := rel1 rs
    cases ra.int
    exact call_abs pins s σ H _ us Q I rv ⟨_, rfl, h.here w relInt⟩
  · cases h
theorem cf_int : CallR X (.type "int") (bfR X W .int) := by
  rintro pins s σ H vs us Q I rv ⟨ρ, S, ws, w, rs, h⟩
  replace h : Post X.mg X.K (RelU X.K) W ρ H (intF ws S) Q := h
  unfold intF at h
  split at h
  · obtain ⟨v, rfl, ra⟩ := rel1 rs
    cases ra.int
    exact call_int1 pins s σ H _ us Q I rv (.inl ⟨_, rfl, h.here w relInt⟩)
  · obtain ⟨v, rfl, ra⟩ := rel1 rs
    cases ra.bl
    exact call_int1 pins s σ H _ us Q I rv (.inr ⟨_, rfl, h.here w relInt⟩)
  · obtain ⟨v, rfl, ra⟩ := rel1 rs
    cases ra.str
    split at h
    · rename_i n hn
      split at h
      · rename_i hz
        exact call_int_str pins s σ H _ us Q I rv ⟨_, n, rfl, hn, hz, h.here w relInt⟩
      · cases h
    · cases h
  · cases h
theorem cf_repr (hg : X.A.guards = some []) (hu : X.A.units + 70 < cLine) : CallR X (.builtin "repr") (bfR X W .repr) := by
  rintro pins s σ H vs us Q I rv ⟨ρ, S, ws, w, rs, h⟩
  replace h : Post X.mg X.K (RelU X.K) W ρ H (reprF ws S) Q := h
  unfold reprF at h
  split at h
  · rename_i a
    obtain ⟨v, rfl, ra⟩ := rel1 rs
    split at h
    · rename_i hk
      unfold reprOk at hk
      simp only [Bool.and_eq_true] at hk
      obtain ⟨h0, h1, h2, h3⟩ := hk
      have dp := dpU (okU_pur h1) ra
      have hsh := okU_shp h1
      have hdep := SeqAt.depth_of_shaped hsh
      obtain ⟨x, rfl, rx⟩ : ∃ x, us = [x] ∧ RelV v x := by
        cases rv with
        | cons r rr =>
          cases rr
          exact ⟨_, rfl, r⟩
      obtain ⟨as, rd⟩ := Dp.reads I _ _ _ dp rx
      have hr : ∃ p, x = .ref p := by
        cases a with
        | tup xs =>
          obtain ⟨p, _, e, _⟩ := ra.tup
          subst e
          exact ⟨p, rx⟩
        | _ => cases h0
      obtain ⟨p, rfl⟩ := hr
      refine repr_of_reads' (h₀ := s.heap) rd h2 (PyData.noDict_hsm (PyData.hasDict_of_canLay _ (SeqAt.canLay_of_shaped hsh))) hg (by omega) (fun _ _ e => e) (fun h' u tk hk => ⟨.str _, H, I.kept (t' := tk) hk, ⟨u, rfl⟩, h.here w relStr⟩) (of_decide_eq_true h3)
    · cases h
  · cases h
theorem cf_tup : CallR X (.type "tuple") (bfR X W .tup) := by
  rintro pins s σ H vs us Q I rv ⟨ρ, S, ws, w, rs, h⟩
  replace h : Post X.mg X.K (RelU X.K) W ρ H (tupF ws S) Q := h
  unfold tupF at h
  split at h
  · obtain ⟨v, rfl, ra⟩ := rel1 rs
    split at h
    · rename_i xs hx
      obtain ⟨p, vs, rfl, hq, hr⟩ := w.items hx ra
      refine call_tuple_of pins s σ H _ us Q I rv ⟨p, vs, rfl, ?_⟩
      rcases hq with hq | hq
      · exact .inl ⟨hq, fun l hl => h.tup w hr hl⟩
      · exact .inr ⟨hq, h.here w (by simp only [RelU]; exact ⟨p, vs, rfl, hq, hr⟩)⟩
    · cases h
  · cases h
noncomputable def bmR (X : Cx) (W : XK) (b : Bm) : V → List V → Hp → VK → Prop := fun x vs H Q => ∃ ρ S o us, Wok X.K X.mg ρ S H ∧ RelU X.K ρ H o x ∧ RelUs X.K ρ H us vs ∧ Post X.mg X.K (RelU X.K) W ρ H (bmU b o us S) Q
theorem lst_mut {H : Hp} {a : Addr} {vs : List V} (e : H a = some (.lst vs)) : ∀ u, H a = some u → ¬ Imm u := fun u q => by
  rw [e] at q
  cases q
  exact id
theorem ins_mut {H : Hp} {a C dx : Addr} {vs : List (Str × V)} (e : H a = some (.ins C dx vs)) : ∀ u, H a = some u → ¬ Imm u := fun u q => by
  rw [e] at q
  cases q
  exact id
/-- a list is written -/
theorem Post.set {α β : Type} {K : PySem.W.Frag} {mg : Str → Option Value} {Rr : List Addr → Hp → α → β → Prop} {ρ : List Addr} {S : Sto} {H : Hp} {n : Nat} {p : Addr} {us : List U} {vs vs0 : List V} {a : α} {b : β} {Q : β → Hp → Prop} (h : Post mg K Rr W ρ H (.ok a (S.set n (.lst us))) Q) (w : Wok K mg ρ S H)
    (hp : ρ[n]? = some p) {us0 : List U} (hs : S[n]? = some (.lst us0)) (e : H p = some (.lst vs0)) (r : RelUs K ρ H us vs) (hr : ∀ H', Ext ρ H ρ H' → Rr ρ H' a b) : Q b (upd H p (.lst vs)) := by
  have x : Ext ρ H ρ (upd H p (.lst vs)) := Ext.write (lst_mut e)
  exact h ρ _ b x (w.write hp hs rfl rfl (lst_mut e) ⟨vs, upd_same, r.mono x⟩) (hr _ x)
theorem bm_append : MtR X "list.append" (bmR X W .append) := by
  rintro pins s σ H x vs v us Q I rx rv ⟨ρ, S, o, ws, w, ro, rs, h⟩
  replace h : Post X.mg X.K (RelU X.K) W ρ H (appendF o ws S) Q := h
  unfold appendF at h
  split at h
  · obtain ⟨y, rfl, ry⟩ := rel1 rs
    obtain ⟨a, rfl, ha⟩ := ro.loc
    split at h
    · rename_i xs hx
      split at h
      · rename_i hz
        obtain ⟨vs, e, hr⟩ := w.at_ hx ha
        exact mt_append pins s σ H _ _ v us Q I rx rv ⟨a, vs, y, rfl, rfl, e, by rw [hr.length]; exact hz, h.set w ha hx e (hr.append (.cons ry .nil)) fun _ _ => relNon⟩
      · cases h
    · cases h
  · cases h
theorem bm_pop : MtR X "list.pop" (bmR X W .pop) := by
  rintro pins s σ H x vs v us Q I rx rv ⟨ρ, S, o, ws, w, ro, rs, h⟩
  replace h : Post X.mg X.K (RelU X.K) W ρ H (popF o ws S) Q := h
  unfold popF at h
  split at h
  · simp only [RelUs] at rs
    subst rs
    obtain ⟨a, rfl, ha⟩ := ro.loc
    split at h
    · rename_i xs hx
      split at h
      · rename_i y hy
        obtain ⟨vs, e, hr⟩ := w.at_ hx ha
        obtain ⟨z, hz, rz⟩ := hr.get hy
        exact mt_pop pins s σ H _ _ v us Q I rx rv ⟨a, vs, z, rfl, rfl, e, by rw [hr.length]; exact hz, h.set w ha hx e hr.dropLast fun _ x => rz.mono x⟩
      · cases h
    · cases h
  · cases h
noncomputable def tyOfB : Bm → String
  | .startswith3 => "str"
  | .join => "str"
  | _ => "list"
theorem tyB_rel {K : PySem.W.Frag} {mg : Str → Option Value} {ρ : List Addr} {S : Sto} {H : Hp} {a : U} {v : V} {b : Bm} (w : Wok K mg ρ S H) (r : RelU K ρ H a v) (h : tyB b a S = true) : tyV K (tyOfB b) v H := by
  cases b with
  | startswith3 =>
    cases a with
    | str x => cases r.str; rfl
    | _ => cases h
  | join =>
    cases a with
    | str x => cases r.str; rfl
    | _ => cases h
  | extend =>
    obtain ⟨xs, hx⟩ := Option.isSome_iff_exists.mp (show (list? S a).isSome = true from h)
    obtain ⟨p, vs, rfl, hq, hr⟩ := w.list hx r
    exact .inl ⟨rfl, vs, hq⟩
  | append =>
    obtain ⟨xs, hx⟩ := Option.isSome_iff_exists.mp (show (list? S a).isSome = true from h)
    obtain ⟨p, vs, rfl, hq, hr⟩ := w.list hx r
    exact .inl ⟨rfl, vs, hq⟩
  | pop =>
    obtain ⟨xs, hx⟩ := Option.isSome_iff_exists.mp (show (list? S a).isSome = true from h)
    obtain ⟨p, vs, rfl, hq, hr⟩ := w.list hx r
    exact .inl ⟨rfl, vs, hq⟩
end
end Oz
end
section
set_option maxHeartbeats 4000000
namespace Oz
open PySem PySem.Spec PyProof.Rows L2
/-- room for k calls, one in another -/
structure Rm (k : Nat) (A : Around) : Prop where
  hd : A.handled = none
  dp : A.depth + k + 12 < recursionLimit
  un : A.units + 4 * k + 300 < cLine
  gd : A.guards = some []
theorem Rm.inner {k : Nat} {A : Around} (r : Rm (k + 1) A) (env : PySem.Env) : Rm k (A.deeper env) where
  hd := r.hd
  dp := by
    have := r.dp
    show A.depth + 1 + k + 12 < recursionLimit
    omega
  un := by
    have := r.un
    show A.units + 3 + 4 * k + 300 < cLine
    omega
  gd := r.gd
theorem Rm.make {k : Nat} {A : Around} (r : Rm (k + 1) A) (C : Addr) (us : List Value) : Rm k (A.under (.builtin "type.__call__" ⟨.ref C :: us, []⟩)) where
  hd := r.hd
  dp := by
    have := r.dp
    rw [make_depth]
    omega
  un := by
    have := r.un
    rw [make_units]
    omega
  gd := by
    unfold Around.under
    simp only [r.gd]
    rfl
theorem Rm.room {k : Nat} {A : Around} (r : Rm k A) : Room 2 A := ⟨r.hd, by have := r.dp; omega, by have := r.un; omega⟩
theorem Rm.depth {k : Nat} {A : Around} (r : Rm k A) : A.depth < recursionLimit := by have := r.dp; omega
theorem rm_caller : Rm 680 callerA := ⟨rfl, by decide, by decide, rfl⟩
/-- a promise by positional values -/
noncomputable def FnQ (P : Program) (w : World) (K : PySem.W.Frag) (mg : Str → Option Value) (base : Heap) (CX : CXT) (k : Nat) (f : Addr) (sp : Sp) : Prop :=
  ∀ A outer s H us vs Q E, Rm k A → Env0 P w K mg base A outer s H → Vals vs us → sp vs H Q E → codeAny (model P w) A (.call (.ref f) ⟨us, []⟩) (CR CX outer P w H s Q E) s
/-- a promise by n positional values and the keywords ks -/
noncomputable def FnK (P : Program) (w : World) (K : PySem.W.Frag) (mg : Str → Option Value) (base : Heap) (CX : CXT) (k : Nat) (f : Addr) (n : Nat) (ks : List Str) (sp : Sp) : Prop :=
  ∀ A outer s H us ws vs zs Q E, Rm k A → Env0 P w K mg base A outer s H → Vals vs us → Vals zs ws → us.length = n → ws.length = ks.length → sp (vs ++ zs) H Q E → codeAny (model P w) A (.call (.ref f) ⟨us, ks.zip ws⟩) (CR CX outer P w H s Q E) s
section
variable {X : Cx} {CX : CXT} {k : Nat} {f C : Addr} {sp : Sp} {E : XK}
theorem ends_of {pins : List (Addr × Obj)} {σ : L2.St} {H : Hp} {s : Shared} {Q : VK} (hx : Passes CX X E) (I : L2.Inv X pins σ H s) : ∀ (r : Result) (s' : Shared), CR CX X.stack X.prog X.w H s Q E r s' → (match r with | .ok (.ret v) => EP X pins σ Q v s' | .ok _ => False | .error e => X.xe e s')
  | .error e, s', hq => hx pins σ H s e s' I hq
  | .ok (.ret u), s', hq => I.after hq
  | .ok .next, _, hq => hq.elim
  | .ok .brk, _, hq => hq.elim
  | .ok .cont, _, hq => hq.elim
theorem run_fnQ {pins : List (Addr × Obj)} {σ : L2.St} {H : Hp} {s : Shared} {Q : VK} {us : List Value} {vs : List V} (F : FnQ X.prog X.w X.K X.mg X.base CX k f sp) (hr : Rm k X.A) (hx : Passes CX X E) (I : L2.Inv X pins σ H s) (r : Vals vs us) (h : sp vs H Q E) :
    wpAny (model X.prog X.w) X.A (call (.ref f) us) (EP X pins σ Q) X.xe s :=
  wpAny_call (codeAny_mono (F X.A X.stack s H us vs Q E hr I.env0 r h) fun z s' hq => ends_of hx I z s' hq)
theorem run_mkQ {pins : List (Addr × Obj)} {σ : L2.St} {H : Hp} {s : Shared} {Q : VK} {us : List Value} {vs : List V} (M : Mk X.K C f) (F : FnQ X.prog X.w X.K X.mg X.base CX k f sp) (hr : Rm (k + 1) X.A) (hx : Passes CX X E) (I : L2.Inv X pins σ H s) (r : Vals vs us)
    (h : ∀ x dx, H x = none → H dx = none → dx ≠ x → sp (.ref x :: vs) (upd (upd H dx (.own x)) x (.ins C dx [])) (fun v H2 => v = .non ∧ Q (.ref x) H2) E) : wpAny (model X.prog X.w) X.A (call (.ref C) us) (EP X pins σ Q) X.xe s := by
  have h0 : H s.heap.objs.size = none := I.hok.fresh (Nat.le_refl _)
  have h1 : H (s.heap.objs.size + 1) = none := I.hok.fresh (Nat.le_succ _)
  have hq := h _ _ h1 h0 (Nat.ne_of_lt (Nat.lt_succ_self _))
  have J := L2.Inv.made (C := C) I
  have rr : Vals (V.ref (s.heap.objs.size + 1) :: vs) (Value.ref (s.heap.objs.size + 1) :: us) := .cons rfl r
  have run := F _ X.stack _ _ (Value.ref (s.heap.objs.size + 1) :: us) _ _ E (hr.make C us) (J.env0.make C us []) rr hq
  refine wpAny_call (make_map (f := f) I.kIn M.makes M.init (beq_iff_eq.mp M.fn) (codeAny_mono run fun z s' hz => ?_))
  have hz' := ends_of hx J z s' hz
  match z, hz' with
  | .error e, q => exact q
  | .ok (.ret u), ⟨v, H', I3, rv, ev, q3⟩ =>
    subst ev
    exact ⟨rv, V.ref (s.heap.objs.size + 1), H', I3, rfl, q3⟩
  | .ok .next, q => exact q.elim
  | .ok .brk, q => exact q.elim
  | .ok .cont, q => exact q.elim
end
section
variable {CX : CXT} {P : Program} {w : World} {K : PySem.W.Frag} {mg : Str → Option Value} {base : Heap} {k : Nat} {f : Addr} {name qual : Str} {params : Arguments} {body : List Stmt} {scope : Scope} {dV kV doc pm cdv ct oc : Value} {an od : Option Addr}
  {osl : Array (Option Value)} {N ps : List Str}
theorem body_end {A : Around} {outer : List PySem.Env} {s0 s1 : Shared} {H0 H1 : Hp} {E : XK} {Q : VK} {fl : Flow} {s' : Shared} (un : Un (frs outer) [] H0 H1 s0.heap s1.heap) (ho : s1.os = s0.os)
    (h : SP (cxOf CX P w K mg base N qual scope f cdv A outer s1 H1 E) [] { nx := fun _ H' => Q .non H', rt := Q } fl s') : CR CX outer P w H0 s0 Q E (.ok (match fl with | .ret v => .ret v | _ => .ret .none)) s' := by
  have fin : ∀ {σ' : L2.St} {H' : Hp} {v : V} {u : Value}, L2.Inv (cxOf CX P w K mg base N qual scope f cdv A outer s1 H1 E) [] σ' H' s' → RelV v u → Q v H' → CE outer P w H0 s0 Q u s' :=
    fun J rv q => ⟨_, _, J.os.trans ho, J.bare, un.trans J.base, J.hok, rv, q⟩
  match fl, h with
  | .ret u, ⟨v, σ', H', J, rv, q⟩ => exact fin J rv q
  | .next, ⟨σ', H', J, q⟩ => exact fin (v := .non) (u := .none) J rfl q
  | .brk, ⟨_, _, _, q⟩ => exact q.elim
  | .cont, ⟨_, _, _, q⟩ => exact q.elim
/-- the arguments bound with objects laid on the way: G tells of the bound values and the heap -/
theorem run_body {A : Around} {outer : List PySem.Env} {s : Shared} {H : Hp} {args : Args} {Q : VK} {E : XK} {G : List V → Hp → Prop} (lk : K.lookup f = some ⟨oc, od, .func (PySem.W.fnOf name qual params body scope dV kV doc pm an cdv ct), osl⟩) (hcd : PySem.W.codeIn K cdv qual = true)
    (S : FnScope N ps scope) (hr : Rm (k + 1) A) (e0 : Env0 P w K mg base A outer s H) (hb : StX.Bnd CX P w K mg base (PySem.W.fnOf name qual params body scope dV kV doc pm an cdv ct) args ps A outer s H E G)
    (hbody : ∀ (s2 : Shared) (H2 : Hp) (vs : List V), G vs H2 → Rm k (A.deeper (envOfC qual scope s2.heap.objs.size f cdv)) → ∃ t, PSs (cxOf CX P w K mg base N qual scope f cdv A outer s2 H2 E) body t ∧ t { nx := fun _ H' => Q .non H', rt := Q } (L2.start N vs) H2) :
    codeAny (model P w) A (.call (.ref f) args) (CR CX outer P w H s Q E) s := by
  have KX : K.In s.heap := e0.mod.kin.keeps fun b o e => (e0.bs b o e).1
  refine codeAny_call_function hr.depth (KX _ _ lk) rfl S.co S.gen rfl (PySem.W.codeRec_of KX hcd) (hb _ _ _ fun s2 H2 vs us e2 un ho hx r hl g => ?_)
  have lim : s2.heap.NoLimit := e0.mod.nolimit.keeps fun b o e => (e2.bs b o e).1
  have hkind : ∀ y ∈ ps.zip us, scope.names.lookup y.1 = some .local ∨ (scope.names.lookup y.1 = some .cell ∧ ((cellsFrom (s2.heap.objs.size + 1) scope.names []).lookup y.1).isSome = true) := by
    intro y hy
    rcases S.par y.1 (List.of_mem_zip hy).1 with q | q
    · exact Or.inl q
    · exact Or.inr ⟨q, PySem.W.cellsFrom_some _ _ _ (Or.inl q)⟩
  refine wpAny_newFunctionEnv_cells (s := s2) S.kind hkind fun env he s1 x => ?_
  subst he
  refine ⟨lim.keeps x.toInCall.keep, codeAny_func ?_⟩
  obtain ⟨t, ht, hq⟩ := hbody s2 H2 vs g (hr.inner _)
  have I := inv_start (CX := CX) (E := E) (w := w) S hr.hd e2 hl r x
  refine wpAny_mono (ht.run [] s1 _ _ _ I hq) (fun fl s' hs => ?_) fun e s' hs => ?_
  · have z := body_end (cdv := cdv) un ho hs
    cases fl with
    | ret u => exact z
    | next => exact z
    | brk => exact z
    | cont => exact z
  · exact wpAny_mono hs (fun _ s'' z => hx e s'' z) fun e' s'' z => hx e' s'' z
end
end Oz
end
section
set_option maxHeartbeats 4000000
namespace Oz
open PySem PySem.Spec PyProof.Rows L2
/-- a def's promise: it does what g does -/
noncomputable def spC (K : PySem.W.Frag) (mg : Str → Option Value) (g : List U → Sto → R U) : Sp := fun vs H Q E => ∃ ρ S us, Wok K mg ρ S H ∧ RelUs K ρ H us vs ∧ Post mg K (RelU K) E ρ H (g us S) Q
structure Names where
  fns : List Str
  mets : List (Str × Str)
  clss : List Str
  flds : List (Str × Str)
  xcs : List (Str × Str)
  bins : List Str
  kws : List (Str × Nat × List Str)
  ftb : List (Str × List (Str × Str)) := []
  iso : List (List Str × List Str) := []
  ncl : List Str := []
  sus : List (Str × Str × Str × Str) := []
  trs : List (Str × Str) := []
  tre : List (Str × Str) := []
noncomputable def Names.owns (nm : Names) : List Str := nm.clss ++ nm.ncl
/-- a class without __init__ -/
structure MkN (K : PySem.W.Frag) (C : Addr) : Prop where
  mks : PySem.W.makesIn K C = true
  hi : PySem.W.findIn K (.ref C) "__init__" = some (some (.builtin "object.__init__"))
  hs : PySem.W.subIn K (.ref C) (.type "object") = some true
  kp : PySem.W.keepIn K (.ref C) = true
/-- an exception that is caught and asked for its field -/
structure TrOk (K : PySem.W.Frag) (C : Addr) (f : Str) : Prop where
  xf : XfC K C
  nf : PySem.W.findIn K (.ref C) f = some none
  em : PySem.W.exmOne K (.ref C) (.ref C) = some true
/-- an exception of the class c is caught by the class C -/
structure TreOk (K : PySem.W.Frag) (mg : Str → Option Value) (ad : Str → Addr) (C c : Str) : Prop where
  gC : mg C = some (.ref (ad C))
  gc : mg c = some (.ref (ad c))
  em : PySem.W.exmOne K (.ref (ad c)) (.ref (ad C)) = some true
/-- super().m of an instance of C within the class B is the def g -/
structure SuOk (K : PySem.W.Frag) (ad : Str → Addr) (C B m g : Str) : Prop where
  fnd : PySem.W.ks_superIn K (ad C) (ad B) m = some (some (.ref (ad g)))
  ty : PySem.W.typeIn K (.ref (ad g)) = some (.type "function")
  fi : PySem.W.fnIn K (ad g) = true
  op : PySem.W.nsIn K cStatics "thirdparty.any" = some none
  sb : PySem.W.mroIn K (ad C) (.ref (ad B)) = some true
/-- is one of these the class? -/
noncomputable def kitL (K : PySem.W.Frag) (t : Value) : List Value → Option Bool
  | [u] => PySem.W.kitOne K t u
  | us => PySem.W.kitAny K t us
structure IsoOk (K : PySem.W.Frag) (ad : Str → Addr) (cs ds : List Str) : Prop where
  ty : ∀ t ∈ (["NoneType", "bool", "int", "str", "tuple", "list", "dict"] : List String), kitL K (.type t) (cs.map fun c => .ref (ad c)) = some false
  own : ∀ D ∈ ds, kitL K (.ref (ad D)) (cs.map fun c => .ref (ad c)) = some (decide (D ∈ cs))
  at1 : ∀ D ∈ ds, PySem.W.findIn K (.ref (ad D)) "__class__" = some (some (.builtin "object.__class__"))
  at2 : PySem.W.specialIn K (.builtin "object.__class__") "__get__" = some (some (.builtin "getset_descriptor.__get__"))
  at3 : PySem.W.takesIn K (.builtin "object.__class__") = some true
  at4 : ∀ D ∈ ds, PySem.W.mroIn K (ad D) (.type "object") = some true
/-- what the written part says, once for all -/
structure Sta (p : Pg) (nm : Names) (K : PySem.W.Frag) (mg : Str → Option Value) (ad : Str → Addr) : Prop where
  glo : ∀ x u, p.glo x = some u → ∃ w v, mg x = some w ∧ RelV v w ∧ ∀ ρ H, RelU K ρ H u v
  fn : ∀ f, f ∈ nm.fns → mg f = some (.ref (ad f)) ∧ PySem.W.keepIn K (.ref (ad f)) = true
  met : ∀ C m, (C, m) ∈ nm.mets → BMeth K (ad C) m (ad (C ++ "." ++ m))
  cls : ∀ C, C ∈ nm.clss → mg C = some (.ref (ad C)) ∧ Cls K (ad C) ∧ Mk K (ad C) (ad (C ++ ".__init__"))
  own : ∀ C, C ∈ nm.owns → mg C = some (.ref (ad C)) ∧ Cls K (ad C)
  ncl : ∀ C, C ∈ nm.ncl → MkN K (ad C)
  sus : ∀ q ∈ nm.sus, SuOk K ad q.1 q.2.1 q.2.2.1 q.2.2.2
  trs : ∀ q ∈ nm.trs, TrOk K (ad q.1) q.2
  tre : ∀ q ∈ nm.tre, TreOk K mg ad q.1 q.2
  fld : ∀ C f, (C, f) ∈ nm.flds → NoAttr K (ad C) f
  bin : ∀ x, x ∈ nm.bins → mg x = none
  iso : ∀ q ∈ nm.iso, IsoOk K ad q.1 q.2
  gtu : ∀ x us, p.glo x = some (.tup us) → ∃ a o, mg x = some (.ref a) ∧ K.lookup a = some o ∧ o.cls = .type "tuple" ∧ o.dict = none ∧ ∀ ρ H, RelU K ρ H (.tup us) (.ref a)
/-- what an exception's __init__ does -/
noncomputable def spX (C : Addr) (f : Str) : Sp := fun vs H Q _ => ∃ a y, vs = [.ref a, y] ∧ H a = some (exo a C none) ∧ ∀ dx, H dx = none → dx ≠ a → Q .non (upd (upd H dx (exd dx [(f, y)])) a (exo a C (some dx)))
structure XcOk (P : Program) (w : World) (K : PySem.W.Frag) (mg : Str → Option Value) (base : Heap) (ad : Str → Addr) (C f : Str) : Prop where
  gC : mg C = some (.ref (ad C))
  T : OexC K (ad C)
  iC : PySem.W.findIn K (.ref (ad C)) "__init__" = some (some (.ref (ad (C ++ ".__init__"))))
  tI : PySem.W.typeIn K (.ref (ad (C ++ ".__init__"))) = some (.type "function")
  fn : ∃ fd ps, FnOk P w K mg base (L2.CX P w) 1 (ad (C ++ ".__init__")) fd ps (spX (ad C) f) ∧ Binds K fd ps []
  kp : PySem.W.keepIn K (.ref (ad C)) = true
/-- the module's dicts with text keys -/
noncomputable def GdOk (p : Pg) (K : PySem.W.Frag) (mg : Str → Option Value) (w : World) : Prop := ∀ x kvs, p.gd x = some kvs → ∃ a es n, mg x = some (.ref a) ∧ KDict K w a es n ∧ (∀ z u, kvs.lookup z = some u → ∃ u0 v, PySem.W.nsIn K a z = some (some u0) ∧ RelV v u0 ∧ ∀ ρ H, RelU K ρ H u v) ∧ ∀ z, kvs.lookup z = none → PySem.W.nsIn K a z = some none
/-- a dict of functions at the top -/
noncomputable def FTab (K : PySem.W.Frag) (mg : Str → Option Value) (w : World) (ad : Str → Addr) (x : Str) (t : List (Str × Str)) : Prop := ∃ a es n, mg x = some (.ref a) ∧ KDict K w a es n ∧ ∀ z f, t.lookup z = some f → PySem.W.nsIn K a z = some (some (.ref (ad f))) ∧ mg f = some (.ref (ad f))
structure Ok (X : Cx) (p : Pg) (nm : Names) (ad : Str → Addr) (d : Nat) (W : XK) : Prop where
  sta : Sta p nm X.K X.mg ad
  gdi : GdOk p X.K X.mg X.w
  ftb : ∀ q ∈ nm.ftb, FTab X.K X.mg X.w ad q.1 q.2
  xc : ∀ C f, (C, f) ∈ nm.xcs → XcOk X.prog X.w X.K X.mg X.base ad C f
  take : Takes X (fun cls d _ H => W cls d H)
  own : PassesOwn (model X.prog X.w) X.A X.env X.xe
  calm : X.calm = true
  room : Rm (d + 2) X.A
  pass : Passes (L2.CX X.prog X.w) X W
  call : ∀ f, FnQ X.prog X.w X.K X.mg X.base (L2.CX X.prog X.w) (d + 2) (ad f) (spC X.K X.mg ((p.cal d).call f))
  init : ∀ f, FnQ X.prog X.w X.K X.mg X.base (L2.CX X.prog X.w) (d + 1) (ad f) (spC X.K X.mg ((p.cal d).init f))
  kcall : ∀ f n ks, (f, n, ks) ∈ nm.kws → FnK X.prog X.w X.K X.mg X.base (L2.CX X.prog X.w) (d + 2) (ad f) n ks (spC X.K X.mg ((p.cal d).kcal f))
theorem Ok.hu {X : Cx} {p : Pg} {nm : Names} {ad : Str → Addr} {d : Nat} {W : XK} (O : Ok X p nm ad d W) : X.A.units + 65 < cLine := by
  have := O.room.un
  omega
noncomputable def tE (X : Cx) (Φ : Cal) (W : XK) (e : E) : TE := fun σ H Q => ∃ ρ S env, Wok X.K X.mg ρ S H ∧ EnvOk X.K ρ H env σ ∧ Post X.mg X.K (RelU X.K) W ρ H (ev Φ e env S) Q
noncomputable def tEs (X : Cx) (Φ : Cal) (W : XK) (e : Es) : TA := fun σ H Q => ∃ ρ S env, Wok X.K X.mg ρ S H ∧ EnvOk X.K ρ H env σ ∧ Post X.mg X.K (RelUs X.K) W ρ H (evs Φ e env S) Q
noncomputable def Rid {α : Type} : List Addr → Hp → α → α → Prop := fun _ _ a b => a = b
noncomputable def tTs (X : Cx) (Φ : Cal) (W : XK) (e : T) : TT := fun σ H Q => ∃ ρ S env, Wok X.K X.mg ρ S H ∧ EnvOk X.K ρ H env σ ∧ Post X.mg X.K Rid W ρ H (evt Φ e env S) Q
noncomputable def tEo (X : Cx) (Φ : Cal) (W : XK) (e : Eo) : TO := fun σ H Q => ∃ ρ S env, Wok X.K X.mg ρ S H ∧ EnvOk X.K ρ H env σ ∧ Post X.mg X.K Rid W ρ H (evo Φ e env S) Q
theorem PEw {X : Cx} {e : Expr} {t t' : TE} (h : PE X e t) (i : ∀ σ H Q, t' σ H Q → t σ H Q) : PE X e t' := ⟨fun pins s σ H Q I q => h.run pins s σ H Q I (i _ _ _ q)⟩
theorem PTw' {X : Cx} {e : Expr} {t t' : TT} (h : PT X e t) (i : ∀ σ H Q, t' σ H Q → t σ H Q) : PT X e t' := ⟨fun pins s σ H Q I q => h.run pins s σ H Q I (i _ _ _ q)⟩
theorem PWw {X : Cx} {e : Expr} {t t' : TT} (h : PW X e t) (i : ∀ σ H Q, t' σ H Q → t σ H Q) : PW X e t' := ⟨fun wh pins s σ H Q I q => h.run wh pins s σ H Q I (i _ _ _ q)⟩
theorem PAw {X : Cx} {e : List Expr} {t t' : TA} (h : PA X e t) (i : ∀ σ H Q, t' σ H Q → t σ H Q) : PA X e t' := ⟨fun pos pins s σ H Q I q => h.run pos pins s σ H Q I (i _ _ _ q)⟩
theorem POw {X : Cx} {e : Option Expr} {t t' : TO} (h : PO X e t) (i : ∀ σ H Q, t' σ H Q → t σ H Q) : PO X e t' := ⟨fun pins s σ H Q I q => h.run pins s σ H Q I (i _ _ _ q)⟩
section
variable {X : Cx} {p : Pg} {nm : Names} {ad : Str → Addr} {d : Nat} {W : XK} {a b e c o : Expr} {es : List Expr} {ta tb te to : E} {tc td : T} {tes : Es} {pos : Pos}
theorem s_v (i : Nat) {x : Str} (hN : X.N[i]? = some x := by rfl) (hv : Vis X.env.scope x := by first | exact Or.inl rfl | exact Or.inr (Or.inl rfl) | exact Or.inr (Or.inr rfl)) (hd : (x == ("__debug__" : Str)) = false := by decide)
    (hcd : (x == ("__classdict__" : Str)) = false := by decide) {Φ : Cal} : PE X (.Name x pos) (tE X Φ W (.v i)) := by
  refine PEw (pe_var hN hv hd hcd) fun σ H Q ⟨ρ, S, env, w, eo, h⟩ => ?_
  rw [ev] at h
  split at h
  · rename_i u hu
    obtain ⟨v, e, r⟩ := eo.ok i u hu
    exact ⟨v, e, h.here w r⟩
  · cases h
theorem s_int {i : Int} {j : Nat} {Φ : Cal} : PE X (.Constant (.int i) j pos) (tE X Φ W (.k (.int i))) := PEw pe_int fun σ H Q ⟨ρ, S, env, w, eo, h⟩ => by rw [ev] at h; exact h.here w relInt
theorem s_bl {i : Bool} {j : Nat} {Φ : Cal} : PE X (.Constant (.bool i) j pos) (tE X Φ W (.k (.bl i))) := PEw pe_bl fun σ H Q ⟨ρ, S, env, w, eo, h⟩ => by rw [ev] at h; exact h.here w relBl
theorem s_str {i : Str} {j : Nat} {Φ : Cal} : PE X (.Constant (.str i) j pos) (tE X Φ W (.k (.str i))) := PEw pe_str fun σ H Q ⟨ρ, S, env, w, eo, h⟩ => by rw [ev] at h; exact h.here w relStr
theorem s_non {j : Nat} {Φ : Cal} : PE X (.Constant .none j pos) (tE X Φ W (.k .non)) := PEw pe_non fun σ H Q ⟨ρ, S, env, w, eo, h⟩ => by rw [ev] at h; exact h.here w relNon
theorem cal_glo (p : Pg) : ∀ d, (p.cal d).glo = p.glo
  | 0 => rfl
  | _ + 1 => rfl
theorem cal_xf (p : Pg) : ∀ d, (p.cal d).xf = p.xf
  | 0 => rfl
  | _ + 1 => rfl
theorem s_g (O : Ok X p nm ad d W) {x : Str} (hg : Gl X x := by rfl) (hp : (p.glo x).isSome = true := by decide +kernel) (hd : (x == ("__debug__" : Str)) = false := by decide) : PE X (.Name x pos) (tE X (p.cal d) W (.g x)) := by
  obtain ⟨u, hu⟩ := Option.isSome_iff_exists.mp hp
  obtain ⟨w0, v, hm, rv, ru⟩ := O.sta.glo x u hu
  refine PEw (pe_glob hg hm rv hd) fun σ H Q ⟨ρ, S, env, w, eo, h⟩ => ?_
  rw [ev, cal_glo, hu] at h
  exact h.here w (ru ρ H)
theorem cal_gd (p : Pg) : ∀ d, (p.cal d).gd = p.gd
  | 0 => rfl
  | _ + 1 => rfl
/-- an item of a dict of the module -/
theorem s_gd (O : Ok X p nm ad d W) {x : Str} {px : Pos} (hb : PE X b (tE X (p.cal d) W tb)) (hg : Gl X x := by rfl) (hp : (p.gd x).isSome = true := by decide +kernel) (hd : (x == ("__debug__" : Str)) = false := by decide) (hs : PlainIx b := by exact fun _ _ => rfl) :
    PE X (.Subscript (.Name x px) b pos) (tE X (p.cal d) W (.gd x tb)) := by
  obtain ⟨kvs, hk⟩ := Option.isSome_iff_exists.mp hp
  obtain ⟨a, es, n, hm, kd, hv, _⟩ := O.gdi x kvs hk
  refine PEw (pe_ix ix_kdict (pe_glob hg hm (v := .ref a) rfl hd) hb hs) fun σ H Q ⟨ρ, S, env, w, eo, h⟩ => ?_
  rw [ev, cal_gd, hk] at h
  refine ⟨ρ, S, env, w, eo, (Post.bind h).imp fun y H1 ⟨ρ1, S1, u, e1, w1, r1, h1⟩ => ?_⟩
  cases u with
  | str z =>
    cases r1.str
    replace h1 : Post X.mg X.K (RelU X.K) W ρ1 H1 (rO (kvs.lookup z) S1) Q := h1
    unfold rO at h1
    split at h1
    · rename_i u' hu
      obtain ⟨u0, v, hn, rv, ru⟩ := hv z u' hu
      exact ⟨a, z, v, rfl, rfl, ⟨es, n, u0, kd.at_, kd.lit, hn, rv⟩, h1.here w1 (ru ρ1 H1)⟩
    · cases h1
  | _ => exact h1.elim
/-- D.get(k, v) of a dict of the module -/
theorem s_gget (O : Ok X p nm ad d W) {x : Str} {px apos : Pos} (hb : PE X b (tE X (p.cal d) W tb)) (hc : PE X c (tE X (p.cal d) W te)) (hg : Gl X x := by rfl) (hp : (p.gd x).isSome = true := by decide +kernel) (hd : (x == ("__debug__" : Str)) = false := by decide)
    (base : attributeBase (.Name x px) "get" X.env (eval (.Name x px) X.env) = eval (.Name x px) X.env := by rfl)
    (few : ((backTo pos (starEach [b, c] X.env)).all (fun x => !x.1) && (backToKw pos (keywordEach [] X.env)).all (fun x => x.1.isSome) && decide (([b, c] : List Expr).length + ([] : List Keyword).length + (if ([] : List Keyword).isEmpty then 0 else 1) < 30)) = true := by rfl)
    (line : (apos.endLine == pos.line) = true := by rfl) (trees : backTo pos (starEach [b, c] X.env) = [(false, eval b X.env), (false, eval c X.env)] := by rfl) :
    PE X (.Call (.Attribute (.Name x px) "get" apos) [b, c] [] pos) (tE X (p.cal d) W (.gget x tb te)) := by
  obtain ⟨kvs, hk⟩ := Option.isSome_iff_exists.mp hp
  obtain ⟨a, es, n, hm, kd, hv, hn⟩ := O.gdi x kvs hk
  refine ⟨fun pins s σ H Q I ⟨ρ, S, env, w, eo, h⟩ => ?_⟩
  rw [ev, cal_gd, hk] at h
  have ld := (pe_glob (X := X) (x := x) (pos := px) hg hm (v := .ref a) rfl hd).run pins s σ H (fun v H1 => v = .ref a ∧ H1 = H) I ⟨rfl, rfl⟩
  refine wpAny_Call_method base few line PySem.F.plainAttrs_dict PySem.F.slot_dict_get PySem.F.type_dict_get (thn ld fun u s1 ⟨v, H1, I1, rv, ev1, eh⟩ => ?_)
  subst ev1 eh
  obtain rfl : u = Value.ref a := rv
  have mo := PySem.W.mapOf_K (prog := X.prog) (w := X.w) I1.kIn kd.at_ kd.lit
  refine ⟨mo.typeIs, fun q e => ?_, ?_⟩
  · cases e
    exact ⟨_, I1.kIn _ _ kd.at_, rfl⟩
  · rw [trees]
    refine Calls.callWith_builtin rfl (Calls.evalArgs_plain (Calls.spliced_cons (thn (hb.run pins s1 σ H1 _ I1 ⟨ρ, S, env, w, eo, Post.bind h⟩) fun iv s2 ⟨y, H2, I2, ry, ρ2, S2, k, e2, w2, r2, h2⟩ =>
      Calls.spliced_cons (thn (hc.run pins s2 σ H2 _ I2 ⟨ρ2, S2, env, w2, eo.mono e2, Post.bind h2⟩) fun fv s3 ⟨z, H3, I3, rz, ρ3, S3, v, e3, w3, r3, h3⟩ => Calls.spliced_nil ?_))))
    cases k with
    | str t =>
      cases r2.str
      obtain ⟨tk, rfl⟩ := ry
      replace h3 : Post X.mg X.K (RelU X.K) W ρ3 H3 (.ok ((kvs.lookup t).getD v) S3) Q := h3
      have mo3 := PySem.W.mapOf_K (prog := X.prog) (w := X.w) I3.kIn kd.at_ kd.lit
      cases hl : kvs.lookup t with
      | some u' =>
        obtain ⟨u0, v0, hn0, rv0, ru⟩ := hv t u' hl
        rw [hl] at h3
        refine PySem.call_meetsIn PySem.F.slot_dict_get mo3.typeIs PySem.F.entry_dict_get (PySem.F.args_dict_get_3 _ _ _) (meets_dict_get_default (strKind X.prog X.w) a (strKind_is X.prog X.w t tk) kd.low fv) ⟨_, mo3, ?_⟩
        rw [PySem.W.find_K kd.at_ hn0]
        exact ⟨v0, H3, I3.tok _, rv0, h3.here w3 (ru ρ3 H3)⟩
      | none =>
        rw [hl] at h3
        refine PySem.call_meetsIn PySem.F.slot_dict_get mo3.typeIs PySem.F.entry_dict_get (PySem.F.args_dict_get_3 _ _ _) (meets_dict_get_default (strKind X.prog X.w) a (strKind_is X.prog X.w t tk) kd.low fv) ⟨_, mo3, ?_⟩
        rw [PySem.W.find_K kd.at_ (hn t hl)]
        exact ⟨z, H3, I3.tok _, rz, h3.here w3 r3⟩
    | _ => exact h3.elim
theorem s_nil {Φ : Cal} : PA X [] (tEs X Φ W .nil) := PAw pa_nil fun σ H Q ⟨ρ, S, env, w, eo, h⟩ => by rw [evs] at h; exact h.here w RelUs.nil
theorem s_cons {Φ : Cal} (ha : PE X e (tE X Φ W te)) (hr : PA X es (tEs X Φ W tes)) (hs : starEach (e :: es) X.env = (false, eval e X.env) :: starEach es X.env := by rfl) : PA X (e :: es) (tEs X Φ W (.cons te tes)) := by
  refine PAw (pa_cons ha hr hs) fun σ H Q ⟨ρ, S, env, w, eo, h⟩ => ?_
  rw [evs] at h
  refine ⟨ρ, S, env, w, eo, (Post.bind h).imp fun x H1 ⟨ρ1, S1, u, e1, w1, r1, h1⟩ => ⟨ρ1, S1, env, w1, eo.mono e1, (Post.bind h1).imp fun xs H2 ⟨ρ2, S2, us, e2, w2, r2, h2⟩ => ?_⟩⟩
  exact h2.here w2 (RelUs.cons (r1.mono e2) r2)
theorem s_star {Φ : Cal} {sp : Pos} (ha : PE X e (tE X Φ W te)) (hr : PA X es (tEs X Φ W tes)) (hs : starEach (.Starred e sp :: es) X.env = (true, eval e X.env) :: starEach es X.env := by rfl) : PA X (.Starred e sp :: es) (tEs X Φ W (.star te tes)) := by
  refine PAw (StX.pa_star ha hr hs) fun σ H Q ⟨ρ, S, env, w, eo, h⟩ => ?_
  rw [evs] at h
  refine ⟨ρ, S, env, w, eo, (Post.bind h).imp fun x H1 ⟨ρ1, S1, u, e1, w1, r1, h1⟩ => ?_⟩
  split at h1
  · rename_i xs hx
    obtain ⟨a, vs, rfl, hq, hr⟩ := w1.items hx r1
    refine ⟨a, vs, rfl, hq.symm, ρ1, S1, env, w1, eo.mono e1, (Post.bind h1).imp fun ys H2 ⟨ρ2, S2, us, e2, w2, r2, h2⟩ => ?_⟩
    exact h2.here w2 ((hr.mono e2).append r2)
  · cases h1
theorem s_tup {Φ : Cal} {k : Nat} (h : PA X es (tEs X Φ W tes)) : PE X (.Tuple es k pos) (tE X Φ W (.tup tes)) := by
  refine PEw (pe_tup h) fun σ H Q ⟨ρ, S, env, w, eo, h⟩ => ?_
  rw [ev] at h
  refine ⟨ρ, S, env, w, eo, (Post.bind h).imp fun xs H1 ⟨ρ1, S1, us, e1, w1, r1, h1⟩ => ?_⟩
  split at h1
  · rename_i hz
    exact ⟨by rw [r1.length]; exact hz, fun q hq => h1.tup w1 r1 hq⟩
  · cases h1
theorem s_lst {Φ : Cal} (h : PA X es (tEs X Φ W tes)) : PE X (.List es pos) (tE X Φ W (.lst tes)) := by
  refine PEw (pe_lst h) fun σ H Q ⟨ρ, S, env, w, eo, h⟩ => ?_
  rw [ev] at h
  refine ⟨ρ, S, env, w, eo, (Post.bind h).imp fun xs H1 ⟨ρ1, S1, us, e1, w1, r1, h1⟩ => ?_⟩
  split at h1
  · rename_i hz
    exact ⟨by rw [r1.length]; exact hz, fun q hq => h1.lst w1 r1 hq⟩
  · cases h1
theorem two {Φ : Cal} {f : U → U → Sto → R U} {σ : L2.St} {H : Hp} {Q : VK} {ρ : List Addr} {S : Sto} {env : Env} (w : Wok X.K X.mg ρ S H) (eo : EnvOk X.K ρ H env σ)
    (h : Post X.mg X.K (RelU X.K) W ρ H ((ev Φ ta env S).bind fun x S => (ev Φ tb env S).bind fun y S => f x y S) Q) : tE X Φ W ta σ H fun x H1 => tE X Φ W tb σ H1 fun y H2 => r2 X W f x y H2 Q :=
  ⟨ρ, S, env, w, eo, (Post.bind h).imp fun x H1 ⟨ρ1, S1, u, e1, w1, r1, h1⟩ => ⟨ρ1, S1, env, w1, eo.mono e1, (Post.bind h1).imp fun y H2 ⟨ρ2, S2, u2, e2, w2, r2, h2⟩ => ⟨ρ2, S2, u, u2, w2, r1.mono e2, r2, h2⟩⟩⟩
theorem s_bin {Φ : Cal} (o : Op) (ha : PE X a (tE X Φ W ta)) (hb : PE X b (tE X Φ W tb)) : PE X (.BinOp a (opOf o) b pos) (tE X Φ W (.bin o ta tb)) :=
  PEw (pe_op (op_bin (W := W) o) ha hb) fun σ H Q ⟨ρ, S, env, w, eo, h⟩ => by rw [ev] at h; exact two w eo h
theorem s_neg {Φ : Cal} (ha : PE X a (tE X Φ W ta)) : PE X (.UnaryOp .USub a pos) (tE X Φ W (.neg ta)) := by
  refine PEw (pe_un un_neg ha) fun σ H Q ⟨ρ, S, env, w, eo, h⟩ => ?_
  rw [ev] at h
  refine ⟨ρ, S, env, w, eo, (Post.bind h).imp fun x H1 ⟨ρ1, S1, u, e1, w1, r1, h1⟩ => ?_⟩
  split at h1
  · cases r1.int
    exact ⟨_, rfl, h1.here w1 relInt⟩
  · cases h1
theorem s_cmp (O : Ok X p nm ad d W) {Φ : Cal} (o : Cm) (ha : PE X a (tE X Φ W ta)) (hb : PE X b (tE X Φ W tb)) (hm : behindInMarks (cmOf o) b = false := by rfl) : PE X (.Compare a [cmOf o] [b] pos) (tE X Φ W (.cmp o ta tb)) :=
  PEw (pe_cmpR (op_cmp (W := W) O.hu o) ha hb hm) fun σ H Q ⟨ρ, S, env, w, eo, h⟩ => by rw [ev] at h; exact two w eo h
theorem s_one {Φ : Cal} {op : BoolOp} (h : PE X a (tE X Φ W ta)) : PE X (.BoolOp op [a] pos) (tE X Φ W ta) := pe_one h
theorem s_and {Φ : Cal} {rest : List Expr} (ha : PE X a (tE X Φ W ta)) (hb : PE X (.BoolOp .And (b :: rest) pos) (tE X Φ W tb)) : PE X (.BoolOp .And (a :: b :: rest) pos) (tE X Φ W (.and ta tb)) := by
  refine PEw (pe_and ha hb) fun σ H Q ⟨ρ, S, env, w, eo, h⟩ => ?_
  rw [ev] at h
  refine ⟨ρ, S, env, w, eo, (Post.bind h).imp fun x H1 ⟨ρ1, S1, u, e1, w1, r1, h1⟩ => ?_⟩
  split at h1
  · cases r1.bl
    exact ⟨true, rfl, iteT ⟨ρ1, S1, env, w1, eo.mono e1, h1⟩⟩
  · cases r1.bl
    exact ⟨false, rfl, iteF (h1.here w1 relBl)⟩
  · cases h1
theorem s_not {Φ : Cal} (ha : PE X a (tE X Φ W ta)) : PE X (.UnaryOp .Not a pos) (tE X Φ W (.not ta)) := by
  refine PEw (pe_not ha) fun σ H Q ⟨ρ, S, env, w, eo, h⟩ => ?_
  rw [ev] at h
  refine ⟨ρ, S, env, w, eo, (Post.bind h).imp fun x H1 ⟨ρ1, S1, u, e1, w1, r1, h1⟩ => ?_⟩
  split at h1
  · cases r1.bl
    exact ⟨_, rfl, h1.here w1 relBl⟩
  · cases h1
theorem s_ife {Φ : Cal} (hc : PT X c (tTs X Φ W tc)) (ha : PE X a (tE X Φ W ta)) (hb : PE X b (tE X Φ W tb)) : PE X (.IfExp c a b pos) (tE X Φ W (.ife tc ta tb)) := by
  refine PEw (pe_ifExp hc ha hb) fun σ H Q ⟨ρ, S, env, w, eo, h⟩ => ?_
  rw [ev] at h
  refine ⟨ρ, S, env, w, eo, (Post.bind (Rr := Rid) h).imp fun x H1 ⟨ρ1, S1, u, e1, w1, r1, h1⟩ => ?_⟩
  cases r1
  cases x with
  | true => exact iteT ⟨ρ1, S1, env, w1, eo.mono e1, h1⟩
  | false => exact iteF ⟨ρ1, S1, env, w1, eo.mono e1, h1⟩
theorem s_ix {Φ : Cal} (ha : PE X a (tE X Φ W ta)) (hb : PE X b (tE X Φ W tb)) (hs : PlainIx b := by exact fun _ _ => rfl) : PE X (.Subscript a b pos) (tE X Φ W (.ix ta tb)) :=
  PEw (pe_ix (ix_any (W := W)) ha hb hs) fun σ H Q ⟨ρ, S, env, w, eo, h⟩ => by rw [ev] at h; exact two w eo h
theorem s_no {Φ : Cal} : PO X none (tEo X Φ W .no) := POw po_none fun σ H Q ⟨ρ, S, env, w, eo, h⟩ => by rw [evo] at h; exact h.here w rfl
theorem s_so {Φ : Cal} (h : PE X a (tE X Φ W ta)) : PO X (some a) (tEo X Φ W (.so ta)) := by
  refine POw (po_some h) fun σ H Q ⟨ρ, S, env, w, eo, h⟩ => ?_
  rw [evo] at h
  refine ⟨ρ, S, env, w, eo, (Post.bind h).imp fun x H1 ⟨ρ1, S1, u, e1, w1, r1, h1⟩ => ?_⟩
  split at h1
  · cases r1.int
    exact ⟨_, rfl, h1.here w1 rfl⟩
  · cases h1
theorem s_sl {Φ : Cal} {lo hi : Option Expr} {tl th : Eo} {p2 : Pos} (ha : PE X a (tE X Φ W ta)) (hl : PO X lo (tEo X Φ W tl)) (hh : PO X hi (tEo X Φ W th)) : PE X (.Subscript a (.Slice lo hi none p2) pos) (tE X Φ W (.sl ta tl th)) := by
  refine PEw (pe_slice (sl_any (W := W)) ha hl hh) fun σ H Q ⟨ρ, S, env, w, eo, h⟩ => ?_
  rw [ev] at h
  exact ⟨ρ, S, env, w, eo, (Post.bind h).imp fun x H1 ⟨ρ1, S1, u, e1, w1, r1, h1⟩ => ⟨ρ1, S1, env, w1, eo.mono e1, (Post.bind (Rr := Rid) h1).imp fun l H2 ⟨ρ2, S2, l', e2, w2, r2, h2⟩ =>
    ⟨ρ2, S2, env, w2, (eo.mono e1).mono e2, (Post.bind (Rr := Rid) h2).imp fun l2 H3 ⟨ρ3, S3, l3, e3, w3, r3, h3⟩ => by cases r2; cases r3; exact ⟨ρ3, S3, u, w3, (r1.mono e2).mono e3, h3⟩⟩⟩⟩
theorem ins_at {ρ : List Addr} {S : Sto} {H : Hp} {n : Nat} {x : V} {C : Str} {fs : List (Str × U)} (O : Ok X p nm ad d W) (hC : C ∈ nm.owns) (w : Wok X.K X.mg ρ S H) (r : RelU X.K ρ H (.loc n) x) (h : S[n]? = some (.ins C fs)) :
    ∃ a dx vfs, x = .ref a ∧ ρ[n]? = some a ∧ H a = some (.ins (ad C) dx vfs) ∧ RelF X.K ρ H fs vfs := by
  obtain ⟨a, rfl, ha⟩ := r.loc
  obtain ⟨Ca, dx, vfs, m, e, q⟩ := w.at_ h ha
  rw [(O.sta.own C hC).1] at m
  cases m
  exact ⟨a, dx, vfs, rfl, ha, e, q⟩
theorem s_fld (O : Ok X p nm ad d W) {Φ : Cal} (C : Str) {f : Str} (ha : PE X a (tE X Φ W ta)) (hC : C ∈ nm.owns := by decide +kernel) (hf : (C, f) ∈ nm.flds := by decide +kernel) (hb : attributeBase a f X.env (eval a X.env) = eval a X.env := by rfl) :
    PE X (.Attribute a f pos) (tE X Φ W (.fld ta C f)) := by
  refine PEw (pe_fld ha hb) fun σ H Q ⟨ρ, S, env, w, eo, h⟩ => ?_
  rw [ev] at h
  refine ⟨ρ, S, env, w, eo, (Post.bind h).imp fun x H1 ⟨ρ1, S1, u, e1, w1, r1, h1⟩ => ?_⟩
  split at h1
  · split at h1
    · rename_i hn
      split at h1
      · rename_i hD
        subst hD
        obtain ⟨a, dx, vfs, rfl, hn', e, q⟩ := ins_at O hC w1 r1 hn
        unfold rO at h1
        split at h1
        · rename_i u' hu
          obtain ⟨v, l, rv⟩ := (q.look (f := f)).1 u' hu
          exact ⟨a, _, dx, vfs, v, rfl, e, (O.sta.own _ hC).2, O.sta.fld _ _ hf, l, h1.here w1 rv⟩
        · cases h1
      · cases h1
    · cases h1
  · cases h1
theorem s_fldx (O : Ok X p nm ad d W) {Φ : Cal} (cs : List Str) {f : Str} (ha : PE X a (tE X Φ W ta)) (hC : ∀ C ∈ cs, C ∈ nm.owns := by decide +kernel) (hf : ∀ C ∈ cs, (C, f) ∈ nm.flds := by decide +kernel) (hb : attributeBase a f X.env (eval a X.env) = eval a X.env := by rfl) :
    PE X (.Attribute a f pos) (tE X Φ W (.fldx ta cs f)) := by
  refine PEw (pe_fld ha hb) fun σ H Q ⟨ρ, S, env, w, eo, h⟩ => ?_
  rw [ev] at h
  refine ⟨ρ, S, env, w, eo, (Post.bind h).imp fun x H1 ⟨ρ1, S1, u, e1, w1, r1, h1⟩ => ?_⟩
  split at h1
  · split at h1
    · rename_i hn
      split at h1
      · rename_i hD
        obtain ⟨a, dx, vfs, rfl, hn', e, q⟩ := ins_at O (hC _ hD) w1 r1 hn
        unfold rO at h1
        split at h1
        · rename_i u' hu
          obtain ⟨v, l, rv⟩ := (q.look (f := f)).1 u' hu
          exact ⟨a, _, dx, vfs, v, rfl, e, (O.sta.own _ (hC _ hD)).2, O.sta.fld _ _ (hf _ hD), l, h1.here w1 rv⟩
        · cases h1
      · cases h1
    · cases h1
  · cases h1
theorem s_call (O : Ok X p nm ad d W) {f : Str} {px : Pos} (ha : PA X (e :: es) (tEs X (p.cal d) W tes)) (hg : Gl X f := by rfl) (hf : f ∈ nm.fns := by decide +kernel) (hdb : (f == ("__debug__" : Str)) = false := by decide)
    (he : starEach (e :: es) X.env = (false, eval e X.env) :: starEach es X.env := by rfl) (hpl : (backTo pos (starEach es X.env)).any (·.1) = false := by rfl) : PE X (.Call (.Name f px) (e :: es) [] pos) (tE X (p.cal d) W (.call f tes)) := by
  refine ⟨fun pins s σ H Q I ⟨ρ, S, env, w, eo, h⟩ => ?_⟩
  obtain ⟨hm, hk⟩ := O.sta.fn f hf
  rw [ev] at h
  refine wpAny_Call_Name_kw (ld_glob I hg hm ?_ hdb)
  refine PySem.W.callWith_K (h₀ := X.base) I.ok.mod.kin hk (thn (ha.run pos pins s σ H _ I ⟨ρ, S, env, w, eo, Post.bind h⟩) fun us s1 ⟨vs, H1, I1, r, ρ1, S1, us', e1, w1, r1, h1⟩ => ⟨I1.kIn, ?_⟩) he hpl
  exact run_fnQ (O.call f) O.room O.pass I1 r ⟨ρ1, S1, us', w1, r1, h1⟩
/-- v(e, .., *y) of a function that a name holds -/
theorem s_callv (O : Ok X p nm ad d W) {f : Str} {px : Pos} {fs : List Str} {tv : E} (hv : PE X (.Name f px) (tE X (p.cal d) W tv)) (ha : PA X (e :: es) (tEs X (p.cal d) W tes)) (hf : ∀ f ∈ fs, f ∈ nm.fns := by decide +kernel)
    (he : starEach (e :: es) X.env = (false, eval e X.env) :: starEach es X.env := by rfl) (hst : (backTo pos (starEach es X.env)).any (·.1) = true := by rfl) : PE X (.Call (.Name f px) (e :: es) [] pos) (tE X (p.cal d) W (.callv tv fs tes)) := by
  refine ⟨fun pins s σ H Q I ⟨ρ, S, env, w, eo, h⟩ => ?_⟩
  rw [ev] at h
  refine wpAny_Call_Name_kw (thn (hv.run pins s σ H _ I ⟨ρ, S, env, w, eo, Post.bind h⟩) fun u0 s0 ⟨v0, H0, I0, rv0, ρ0, S0, u, e0, w0, r0, h0⟩ => ?_)
  cases u with
  | loc n =>
    obtain ⟨q, rfl, hq⟩ := r0.loc
    dsimp only at h0
    split at h0
    · rename_i g hS
      split at h0
      · rename_i hgf
        have hmg : X.mg g = some (.ref q) := w0.at_ hS hq
        obtain ⟨hm, hk⟩ := O.sta.fn g (hf g hgf)
        rw [hm] at hmg
        have eq : ad g = q := by
          injection hmg with z
          injection z
        subst eq
        cases rv0
        refine PySem.W.callWith_S2 (h₀ := X.base) I0.ok.mod.kin hk (thn (ha.run pos pins s0 σ H0 _ I0 ⟨ρ0, S0, env, w0, eo.mono e0, Post.bind h0⟩) fun us s1 ⟨vs, H1, I1, r, ρ1, S1, us', e1, w1, r1, h1⟩ => ⟨I1.kIn, ?_⟩) he hst
        exact run_fnQ (O.call g) O.room O.pass I1 r ⟨ρ1, S1, us', w1, r1, h1⟩
      · cases h0
    · cases h0
  | _ => exact h0.elim
theorem met_split {Φ : Cal} {C m : Str} {ρ : List Addr} {S : Sto} {H : Hp} {x : V} {u : U} {env : Env} {Q : VK} (O : Ok X p nm ad d W) (hC : C ∈ nm.owns) (w : Wok X.K X.mg ρ S H)
    (h : Post X.mg X.K (RelU X.K) W ρ H (match u with
      | .loc n => (match S[n]? with
        | some (.ins D fs) => if D = C ∧ fs.lookup m = none then (evs Φ tes env S).bind fun us S => Φ.call (C ++ "." ++ m) (.loc n :: us) S else .bad
        | _ => .bad)
      | _ => .bad) Q) (r : RelU X.K ρ H u x) : ∃ n a dx vfs, u = .loc n ∧ x = .ref a ∧ ρ[n]? = some a ∧ H a = some (.ins (ad C) dx vfs) ∧ vfs.lookup m = none ∧ Post X.mg X.K (RelU X.K) W ρ H ((evs Φ tes env S).bind fun us S => Φ.call (C ++ "." ++ m) (.loc n :: us) S) Q := by
  split at h
  · rename_i n
    split at h
    · rename_i hn
      split at h
      · rename_i hD
        obtain ⟨rfl, hl⟩ := hD
        obtain ⟨a, dx, vfs, rfl, hn', e, q⟩ := ins_at O hC w r hn
        exact ⟨n, a, dx, vfs, rfl, rfl, hn', e, (q.look (f := m)).2 hl, h⟩
      · cases h
    · cases h
  · cases h
theorem relLoc {K : PySem.W.Frag} {ρ : List Addr} {H : Hp} {n : Nat} {a : Addr} (h : ρ[n]? = some a) : RelU K ρ H (.loc n) (.ref a) := by simp only [RelU]; exact ⟨a, rfl, h⟩
/-- D[k] of a dict of functions -/
theorem s_gfn (O : Ok X p nm ad d W) {x : Str} {t : List (Str × Str)} {px : Pos} (hb : PE X b (tE X (p.cal d) W tb)) (hg : Gl X x := by rfl) (ht : (x, t) ∈ nm.ftb := by decide +kernel) (hd : (x == ("__debug__" : Str)) = false := by decide) (hs : PlainIx b := by exact fun _ _ => rfl) :
    PE X (.Subscript (.Name x px) b pos) (tE X (p.cal d) W (.gfn x t tb)) := by
  obtain ⟨a, es, n, hm, kd, hv⟩ := O.ftb _ ht
  refine PEw (pe_ix ix_kdict (pe_glob hg hm (v := .ref a) rfl hd) hb hs) fun σ H Q ⟨ρ, S, env, w, eo, h⟩ => ?_
  rw [ev] at h
  refine ⟨ρ, S, env, w, eo, (Post.bind h).imp fun y H1 ⟨ρ1, S1, u, e1, w1, r1, h1⟩ => ?_⟩
  cases u with
  | str z =>
    cases r1.str
    dsimp only at h1
    split at h1
    · rename_i f hf
      obtain ⟨hn, hmf⟩ := hv z f hf
      refine ⟨a, z, .ref (ad f), rfl, rfl, ⟨es, n, _, kd.at_, kd.lit, hn, rfl⟩, ?_⟩
      exact h1 (ρ1 ++ [ad f]) H1 _ (Ext.push fun _ _ h => h) (w1.pushF rfl hmf) (relLoc (push_at w1.len))
    · cases h1
  | _ => exact h1.elim
theorem s_meth (O : Ok X p nm ad d W) (C : Str) {m : Str} {apos : Pos} {pl : Sem Bool} (ho : PE X o (tE X (p.cal d) W to)) (ha : PA X (e :: es) (tEs X (p.cal d) W tes)) (hC : C ∈ nm.owns := by decide +kernel) (hm : (C, m) ∈ nm.mets := by decide +kernel)
    (hst : starEach (e :: es) X.env = (false, eval e X.env) :: starEach es X.env := by rfl) (hpl : (backTo pos (starEach es X.env)).any (·.1) = false := by rfl)
    (ht : eval (.Call (.Attribute o m apos) (e :: es) [] pos) X.env = (do
      let ov ← eval o X.env
      standAt apos.atName
      let (f, first) ← holding [ov] (getMethod ov m pl)
      callWith pos f first (backTo pos (starEach (e :: es) X.env)) (backToKw pos (keywordEach [] X.env))) := by rfl) :
    PE X (.Call (.Attribute o m apos) (e :: es) [] pos) (tE X (p.cal d) W (.meth to C m tes)) := by
  refine ⟨fun pins s σ H Q I ⟨ρ, S, env, w, eo, h⟩ => ?_⟩
  rw [ev] at h
  refine PySem.W.methodCall_KW (pl := pl) (thn (ho.run pins s σ H _ I ⟨ρ, S, env, w, eo, Post.bind h⟩) fun u s1 ⟨x, H1, I1, rx, ρ1, S1, u', e1, w1, r1, h1⟩ => ?_) ht
  obtain ⟨n, a, dx, vfs, rfl, rfl, hn, ea, l, h1⟩ := met_split O hC w1 h1 r1
  obtain rfl : u = Value.ref a := rx
  refine getmeth_ok I1 ea (O.sta.own C hC).2 (O.sta.met C m hm).mt l ?_
  refine PySem.W.callWith_K (first := [.ref a]) (h₀ := X.base) I1.ok.mod.kin (O.sta.met C m hm).mt.kp (thn (ha.run pos pins s1 σ H1 _ I1 ⟨ρ1, S1, env, w1, eo.mono e1, Post.bind h1⟩) fun us s2 ⟨vs, H2, I2, r, ρ2, S2, us', e2, w2, r2, h2⟩ => ⟨I2.kIn, ?_⟩) hst hpl
  exact run_fnQ (us := .ref a :: us) (vs := .ref a :: vs) (O.call (C ++ "." ++ m)) O.room O.pass I2 (.cons rfl r) ⟨ρ2, S2, .loc n :: us', w2, RelUs.cons (relLoc (e2.at_ hn)) r2, h2⟩
theorem s_meth0 (O : Ok X p nm ad d W) (C : Str) {m : Str} {apos : Pos} {pl : Sem Bool} (ho : PE X o (tE X (p.cal d) W to)) (hC : C ∈ nm.owns := by decide +kernel) (hm : (C, m) ∈ nm.mets := by decide +kernel)
    (ht : eval (.Call (.Attribute o m apos) [] [] pos) X.env = (do
      let ov ← eval o X.env
      standAt apos.atName
      let (f, first) ← holding [ov] (getMethod ov m pl)
      callWith pos f first (backTo pos (starEach [] X.env)) (backToKw pos (keywordEach [] X.env))) := by rfl) :
    PE X (.Call (.Attribute o m apos) [] [] pos) (tE X (p.cal d) W (.meth to C m .nil)) := by
  refine ⟨fun pins s σ H Q I ⟨ρ, S, env, w, eo, h⟩ => ?_⟩
  rw [ev] at h
  refine PySem.W.methodCall_KW (pl := pl) (thn (ho.run pins s σ H _ I ⟨ρ, S, env, w, eo, Post.bind h⟩) fun u s1 ⟨x, H1, I1, rx, ρ1, S1, u', e1, w1, r1, h1⟩ => ?_) ht
  obtain ⟨n, a, dx, vfs, rfl, rfl, hn, e, l, h1⟩ := met_split O hC w1 h1 r1
  obtain rfl : u = Value.ref a := rx
  simp only [evs, R.bind] at h1
  refine getmeth_ok I1 e (O.sta.own C hC).2 (O.sta.met C m hm).mt l ?_
  exact PySem.W.callWith_K0 (first := [.ref a]) I1.kIn (O.sta.met C m hm).mt.kp (run_fnQ (us := [.ref a]) (vs := [.ref a]) (O.call (C ++ "." ++ m)) O.room O.pass I1 (.cons rfl .nil) ⟨ρ1, S1, [.loc n], w1, RelUs.cons (relLoc hn) RelUs.nil, h1⟩)
theorem s_mk (O : Ok X p nm ad d W) {C : Str} {px : Pos} (ha : PA X (e :: es) (tEs X (p.cal d) W tes)) (hg : Gl X C := by rfl) (hC : C ∈ nm.clss := by decide +kernel) (hdb : (C == ("__debug__" : Str)) = false := by decide)
    (he : starEach (e :: es) X.env = (false, eval e X.env) :: starEach es X.env := by rfl) (hpl : (backTo pos (starEach es X.env)).any (·.1) = false := by rfl) : PE X (.Call (.Name C px) (e :: es) [] pos) (tE X (p.cal d) W (.mk C tes)) := by
  obtain ⟨hm, hc, hM⟩ := O.sta.cls C hC
  refine ⟨fun pins s σ H Q I ⟨ρ, S, env, w, eo, h⟩ => ?_⟩
  rw [ev] at h
  refine wpAny_Call_Name_kw (ld_glob I hg hm ?_ hdb)
  refine PySem.W.callWith_K (h₀ := X.base) I.ok.mod.kin hM.kp (thn (ha.run pos pins s σ H _ I ⟨ρ, S, env, w, eo, Post.bind h⟩) fun us0 s1 ⟨vs, H1, I1, rr, ρ1, S1, us, e1, w1, r1, h1⟩ => ⟨I1.kIn, ?_⟩) he hpl
  refine run_mkQ hM (O.init (C ++ ".__init__")) O.room O.pass I1 rr ?_
  intro x dx hx hdx hne
  have g1 : ∀ a o, H1 a = some o → upd (upd H1 dx (.own x)) x (.ins (ad C) dx []) a = some o := fun a o q => by
    rw [upd_ne (ne_of_none q hx), upd_ne (ne_of_none q hdx)]
    exact q
  have e2 : Ext ρ1 H1 (ρ1 ++ [x]) (upd (upd H1 dx (.own x)) x (.ins (ad C) dx [])) := Ext.push g1
  have w2 := w1.push (c := .ins C []) hx g1 ⟨ad C, dx, [], hm, upd_same, .nil⟩
  have hn := push_at (p := x) w1.len
  refine ⟨ρ1 ++ [x], _, .loc S1.length :: us, w2, RelUs.cons (relLoc hn) (r1.mono e2), ?_⟩
  refine (Post.bind (Post.ext e2 h1)).imp fun v H2 ⟨ρ3, S3, u, e3, w3, r3, h3⟩ => ?_
  split at h3
  · cases r3.non
    exact ⟨rfl, h3.here w3 (relLoc (e3.at_ hn))⟩
  · cases h3
end
end Oz
end
section
set_option maxHeartbeats 4000000
namespace Oz
open PySem PySem.Spec PyProof.Rows L2
section
variable {X : Cx} {p : Pg} {nm : Names} {ad : Str → Addr} {d : Nat} {W : XK} {Φ : Cal} {a b e c o : Expr} {es rest : List Expr} {ta tb te to : E} {tc td : T} {tes : Es} {pos : Pos}
theorem truV_rel {K : PySem.W.Frag} {mg : Str → Option Value} {ρ : List Addr} {S : Sto} {H : Hp} {a : U} {v : V} {k : Bool} (w : Wok K mg ρ S H) (r : RelU K ρ H a v) (h : truU a S = some k) : TruV K v H k := by
  unfold truU at h
  split at h
  · cases h; cases r.non; rfl
  · cases h; cases r.bl; rfl
  · cases h; cases r.int; rfl
  · cases r.str
    split at h
    · rename_i hz; cases h; exact ⟨hz, rfl⟩
    · cases h
  · rw [Option.map_eq_some_iff] at h
    obtain ⟨xs, hx, rfl⟩ := h
    obtain ⟨q, vs, rfl, hq, hr⟩ := w.items hx r
    have e : vs.isEmpty = xs.isEmpty := by
      have := hr.length
      cases xs <;> cases vs <;> simp_all
    rcases hq with hq | hq
    · exact .inl ⟨vs, hq, by rw [e]⟩
    · exact .inr (.inl ⟨vs, hq, by rw [e]⟩)
theorem s_tt (ha : PE X a (tE X Φ W ta)) (he : ∀ whole, isTrue a X.env whole = (do let v ← whole; standAt a.pos; holding [v] (truthy v)) := by intro _; rfl) : PT X a (tTs X Φ W (.e ta)) := by
  refine PTw' (pt_truth ha he) fun σ H Q ⟨ρ, S, env, w, eo, h⟩ => ?_
  rw [evt] at h
  refine ⟨ρ, S, env, w, eo, (Post.bind h).imp fun x H1 ⟨ρ1, S1, u, e1, w1, r1, h1⟩ => ?_⟩
  unfold rO at h1
  split at h1
  · rename_i k hk
    exact ⟨k, truV_rel w1 r1 hk, h1.here w1 rfl⟩
  · cases h1
theorem s_tcmp (O : Ok X p nm ad d W) (o : Cm) (ha : PE X a (tE X Φ W ta)) (hb : PE X b (tE X Φ W tb)) (hm : behindInMarks (cmOf o) b = false := by rfl) : PT X (.Compare a [cmOf o] [b] pos) (tTs X Φ W (.e (.cmp o ta tb))) := by
  refine PTw' (pt_cmpR (op_cmp (W := W) O.hu o) ha hb hm) fun σ H Q ⟨ρ, S, env, w, eo, h⟩ => ?_
  rw [evt, ev] at h
  have h0 : Post X.mg X.K Rid W ρ H ((ev Φ ta env S).bind fun x S => (ev Φ tb env S).bind fun y S => (cmpU o x y S).bind fun z S => rO (truU z S) S) Q := by
    cases hx : ev Φ ta env S with
    | ok x S1 =>
      rw [hx] at h
      simp only [R.bind] at h ⊢
      cases hy : ev Φ tb env S1 with
      | ok y S2 => rw [hy] at h; exact h
      | exc c fs S2 => rw [hy] at h; exact h
      | bad => rw [hy] at h; exact h
    | exc c fs S1 => rw [hx] at h; exact h
    | bad => rw [hx] at h; exact h
  refine ⟨ρ, S, env, w, eo, (Post.bind h0).imp fun x H1 ⟨ρ1, S1, u, e1, w1, r1, h1⟩ => ⟨ρ1, S1, env, w1, eo.mono e1, (Post.bind h1).imp fun y H2 ⟨ρ2, S2, u2, e2, w2, r2, h2⟩ => ?_⟩⟩
  refine ⟨ρ2, S2, u, u2, w2, r1.mono e2, r2, ?_⟩
  unfold cmpU at h2 ⊢
  split at h2
  · rename_i k hk
    intro ρ3 H3 v e3 w3 r3
    cases r3.bl
    exact ⟨k, rfl, h2 ρ3 H3 k e3 w3 rfl⟩
  · cases h2
theorem s_tnot (ha : PT X a (tTs X Φ W tc)) : PT X (.UnaryOp .Not a pos) (tTs X Φ W (.not tc)) := by
  refine PTw' (pt_not ha) fun σ H Q ⟨ρ, S, env, w, eo, h⟩ => ?_
  rw [evt] at h
  refine ⟨ρ, S, env, w, eo, (Post.bind (Rr := Rid) h).imp fun x H1 ⟨ρ1, S1, u, e1, w1, r1, h1⟩ => ?_⟩
  cases r1
  exact h1.here w1 rfl
theorem w_and1 (ha : PT X a (tTs X Φ W tc)) : PW X (.BoolOp .And [a] pos) (tTs X Φ W tc) := pw_and1 ha
theorem w_or1 (ha : PT X a (tTs X Φ W tc)) : PW X (.BoolOp .Or [a] pos) (tTs X Φ W tc) := pw_or1 ha
theorem w_and (ha : PT X a (tTs X Φ W tc)) (hb : PW X (.BoolOp .And (b :: rest) pos) (tTs X Φ W td)) : PW X (.BoolOp .And (a :: b :: rest) pos) (tTs X Φ W (.and tc td)) := by
  refine PWw (pw_and ha hb) fun σ H Q ⟨ρ, S, env, w, eo, h⟩ => ?_
  rw [evt] at h
  refine ⟨ρ, S, env, w, eo, (Post.bind (Rr := Rid) h).imp fun x H1 ⟨ρ1, S1, u, e1, w1, r1, h1⟩ => ?_⟩
  cases r1
  cases x with
  | true => exact iteT ⟨ρ1, S1, env, w1, eo.mono e1, h1⟩
  | false => exact iteF (h1.here w1 rfl)
theorem w_or (ha : PT X a (tTs X Φ W tc)) (hb : PW X (.BoolOp .Or (b :: rest) pos) (tTs X Φ W td)) : PW X (.BoolOp .Or (a :: b :: rest) pos) (tTs X Φ W (.or tc td)) := by
  refine PWw (pw_or ha hb) fun σ H Q ⟨ρ, S, env, w, eo, h⟩ => ?_
  rw [evt] at h
  refine ⟨ρ, S, env, w, eo, (Post.bind (Rr := Rid) h).imp fun x H1 ⟨ρ1, S1, u, e1, w1, r1, h1⟩ => ?_⟩
  cases r1
  cases x with
  | true => exact iteT (h1.here w1 rfl)
  | false => exact iteF ⟨ρ1, S1, env, w1, eo.mono e1, h1⟩
theorem bf_read {bf : Bf} {σ : L2.St} {H : Hp} {Q : VK} (h : tE X Φ W (.bf bf tes) σ H Q) : tEs X Φ W tes σ H fun vs H1 => bfR X W bf vs H1 Q := by
  obtain ⟨ρ, S, env, w, eo, h⟩ := h
  rw [ev] at h
  exact ⟨ρ, S, env, w, eo, (Post.bind h).imp fun x H1 ⟨ρ1, S1, u, e1, w1, r1, h1⟩ => ⟨ρ1, S1, u, w1, r1, h1⟩⟩
theorem s_bfB (O : Ok X p nm ad d W) (bf : Bf) {x : Str} {id : String} {px : Pos} (hc : CallR X (.builtin id) (bfR X W bf)) (hv : bootBuiltins x = some (.builtin id)) (ha : PA X (e :: es) (tEs X Φ W tes)) (hg : Gl X x := by rfl) (hm : x ∈ nm.bins := by decide +kernel) (hn : x ≠ "__name__" := by decide) (hdb : (x == ("__debug__" : Str)) = false := by decide)
    (he : starEach (e :: es) X.env = (false, eval e X.env) :: starEach es X.env := by rfl) (hpl : (backTo pos (starEach es X.env)).any (·.1) = false := by rfl) : PE X (.Call (.Name x px) (e :: es) [] pos) (tE X Φ W (.bf bf tes)) :=
  PEw (pe_callB hc hg (O.sta.bin x hm) hv ha hn hdb he hpl) fun σ H Q h => bf_read h
theorem s_bfT (O : Ok X p nm ad d W) (bf : Bf) {x : Str} {id : String} {px : Pos} (hc : CallR X (.type id) (bfR X W bf)) (hv : bootBuiltins x = some (.type id)) (ha : PA X (e :: es) (tEs X Φ W tes)) (hg : Gl X x := by rfl) (hm : x ∈ nm.bins := by decide +kernel) (hn : x ≠ "__name__" := by decide) (hdb : (x == ("__debug__" : Str)) = false := by decide)
    (he : starEach (e :: es) X.env = (false, eval e X.env) :: starEach es X.env := by rfl) (hpl : (backTo pos (starEach es X.env)).any (·.1) = false := by rfl) : PE X (.Call (.Name x px) (e :: es) [] pos) (tE X Φ W (.bf bf tes)) :=
  PEw (pe_callTy hc hg (O.sta.bin x hm) hv ha hn hdb he hpl) fun σ H Q h => bf_read h
theorem s_bm (bm : Bm) {Ty : String} {name : Str} {id : String} {apos : Pos} (hTy : Ty = tyOfB bm) (pa : PlainAttrs Ty) (slot : Slot Ty name id) (hty : typeOf (.builtin id) = pure (.type "method_descriptor")) (hm : MtR X id (bmR X W bm)) (ho : PE X o (tE X Φ W to)) (ha : PA X (e :: es) (tEs X Φ W tes))
    (hbase : attributeBase o name X.env (eval o X.env) = eval o X.env := by rfl)
    (hfew : ((backTo pos (starEach (e :: es) X.env)).all (fun x => !x.1) && (backToKw pos (keywordEach [] X.env)).all (fun x => x.1.isSome) && decide ((e :: es).length + ([] : List Keyword).length + (if ([] : List Keyword).isEmpty then 0 else 1) < 30)) = true := by rfl)
    (hline : (apos.endLine == pos.line) = true := by rfl) (hs : starEach (e :: es) X.env = (false, eval e X.env) :: starEach es X.env := by rfl) (hplain : (backTo pos (starEach es X.env)).any (·.1) = false := by rfl) : PE X (.Call (.Attribute o name apos) (e :: es) [] pos) (tE X Φ W (.bm bm to tes)) := by
  refine PEw (pe_bm pa slot hty hm ho ha hbase hfew hline hs hplain) fun σ H Q ⟨ρ, S, env, w, eo, h⟩ => ?_
  rw [ev] at h
  refine ⟨ρ, S, env, w, eo, (Post.bind h).imp fun x H1 ⟨ρ1, S1, u, e1, w1, r1, h1⟩ => ?_⟩
  split at h1
  · rename_i hb
    exact ⟨by rw [hTy]; exact tyB_rel w1 r1 hb, ρ1, S1, env, w1, eo.mono e1, (Post.bind h1).imp fun xs H2 ⟨ρ2, S2, us, e2, w2, r2, h2⟩ => ⟨ρ2, S2, u, us, w2, r1.mono e2, r2, h2⟩⟩
  · cases h1
theorem s_bm0 (bm : Bm) {Ty : String} {name : Str} {id : String} {apos : Pos} (hTy : Ty = tyOfB bm) (pa : PlainAttrs Ty) (slot : Slot Ty name id) (hty : typeOf (.builtin id) = pure (.type "method_descriptor")) (hm : MtR X id (bmR X W bm)) (ho : PE X o (tE X Φ W to))
    (hbase : attributeBase o name X.env (eval o X.env) = eval o X.env := by rfl) (hline : (apos.endLine == pos.line) = true := by rfl) : PE X (.Call (.Attribute o name apos) [] [] pos) (tE X Φ W (.bm bm to .nil)) := by
  refine PEw (pe_bm0 pa slot hty hm ho hbase hline) fun σ H Q ⟨ρ, S, env, w, eo, h⟩ => ?_
  rw [ev] at h
  refine ⟨ρ, S, env, w, eo, (Post.bind h).imp fun x H1 ⟨ρ1, S1, u, e1, w1, r1, h1⟩ => ?_⟩
  split at h1
  · rename_i hb
    simp only [evs, R.bind] at h1
    exact ⟨by rw [hTy]; exact tyB_rel w1 r1 hb, ρ1, S1, u, [], w1, r1, RelUs.nil, h1⟩
  · cases h1
theorem tyU_rel {K : PySem.W.Frag} {mg : Str → Option Value} {ρ : List Addr} {S : Sto} {H : Hp} {a : U} {v : V} {t : String} (w : Wok K mg ρ S H) (r : RelU K ρ H a v) (h : tyU S a = some t) : TyX K H v (.type t) := by
  unfold tyU at h
  split at h
  · cases h; cases r.non; exact .base .non
  · cases h; cases r.bl; exact .base (.bl _)
  · cases h; cases r.int; exact .base (.int _)
  · cases h; cases r.str; exact .base (.str _)
  · cases h
    obtain ⟨q, vs, rfl, hq, _⟩ := r.tup
    rcases hq with (hq | ⟨o, hq⟩) | ⟨o, _, _, hk, hc, _⟩
    · exact .base (.tup hq)
    · exact .fTuple hq
    · exact .kTuple hk hc
  · obtain ⟨q, rfl, hn⟩ := r.loc
    split at h
    · rename_i hx
      cases h
      obtain ⟨vs, e, _⟩ := w.at_ hx hn
      exact .base (.lst e)
    · rename_i hx
      cases h
      obtain ⟨vs, e, _⟩ := w.at_ hx hn
      rcases e with ⟨o, e⟩ | ⟨o, its, n, hk, hc, _⟩
      · exact .base (.frz e)
      · exact .kList hk hc
    · rename_i hx
      cases h
      obtain ⟨vs, e, _⟩ := w.at_ hx hn
      exact .base (.dK e)
    · cases h
theorem s_isi (O : Ok X p nm ad d W) {t : String} {x : Str} {p1 p2 : Pos} (ha : PE X a (tE X Φ W ta)) (hvx : bootBuiltins x = some (.type t)) (hg : Gl X "isinstance" := by rfl) (hm : ("isinstance" : Str) ∈ nm.bins := by decide +kernel) (hgx : Gl X x := by rfl) (hmx : x ∈ nm.bins := by decide +kernel) (hnx : x ≠ "__name__" := by decide) (hdx : (x == ("__debug__" : Str)) = false := by decide)
    (he : starEach [a, .Name x p2] X.env = (false, eval a X.env) :: starEach [.Name x p2] X.env := by rfl) (he2 : starEach [Expr.Name x p2] X.env = (false, eval (.Name x p2) X.env) :: starEach [] X.env := by rfl) (hpl : (backTo pos (starEach [.Name x p2] X.env)).any (·.1) = false := by rfl) :
    PE X (.Call (.Name "isinstance" p1) [a, .Name x p2] [] pos) (tE X Φ W (.isi ta t)) := by
  refine PEw (pe_callB call_isi hg (O.sta.bin _ hm) boot_isinstance (pa_cons ha (pa_cons (pe_bltn hgx (O.sta.bin _ hmx) hvx (v := .ty t) rfl hnx hdx) pa_nil he2) he) (by decide) (by decide) he hpl) fun σ H Q ⟨ρ, S, env, w, eo, h⟩ => ?_
  rw [ev] at h
  refine ⟨ρ, S, env, w, eo, (Post.bind h).imp fun v H1 ⟨ρ1, S1, u, e1, w1, r1, h1⟩ => ?_⟩
  split at h1
  · rename_i t' ht
    split at h1
    · rename_i k hk
      exact ⟨v, .ty t, .type t', .type t, k, rfl, .ty t, tyU_rel w1 r1 ht, kit_ty hk, h1.here w1 relBl⟩
    · cases h1
  · cases h1
/-- J goes over all -/
noncomputable def Goes (K : PySem.W.Frag) (mg : Str → Option Value) (J : It) (all : List U) (src : Option Nat) (ρ0 : List Addr) (H0 : Hp) : Prop :=
  ∀ ρ S H (i : Nat), Ext ρ0 H0 ρ H → Wok K mg ρ S H → stays S all src = true → (i < all.length → J.go i H ∧ ∀ x H', J.yld i H x H' → H' = H ∧ ∃ u, all[i]? = some u ∧ RelU K ρ H u x) ∧ (all.length ≤ i → J.stop i H)
noncomputable def tI (X : Cx) (Φ : Cal) (W : XK) (te : E) : TI := fun σ H R => tE X Φ W te σ H fun x H1 => ∃ ρ1 S1 u all src, Wok X.K X.mg ρ1 S1 H1 ∧ RelU X.K ρ1 H1 u x ∧ iterU S1 u = some (all, src) ∧ ∀ J, Goes X.K X.mg J all src ρ1 H1 → R J H1
theorem goes_tup {K : PySem.W.Frag} {mg : Str → Option Value} {a : Addr} {vs : List V} {all : List U} {ρ0 : List Addr} {H0 : Hp} (h : SqT K H0 a vs) (r : RelUs K ρ0 H0 all vs) : Goes K mg (Itt K a) all none ρ0 H0 ∧ True := by
  refine ⟨fun ρ S H i e w _ => ⟨fun hi => ?_, fun hi => ⟨vs, e.sqt K h, by rw [r.length]; exact hi⟩⟩, trivial⟩
  obtain ⟨v, hv, rv⟩ := (r.mono e).get (List.getElem?_eq_getElem hi)
  exact ⟨⟨vs, v, e.sqt K h, hv⟩, fun x H' y => ⟨y.1, all[i], List.getElem?_eq_getElem hi, by
    have := y.2 vs (e.sqt K h)
    rw [hv] at this
    cases this
    exact rv⟩⟩
theorem goes_lst {K : PySem.W.Frag} {mg : Str → Option Value} {a : Addr} {n : Nat} {all : List U} {ρ0 : List Addr} {H0 : Hp} (hn : ρ0[n]? = some a) : Goes K mg (Itl K a) all (some n) ρ0 H0 := by
  intro ρ S H i e w st
  have hn' := e.at_ hn
  have hl : ∃ vs, SqL K H a vs ∧ RelUs K ρ H all vs := by
    rcases isLst_iff (show isLst S n all = true from st) with h | h
    · obtain ⟨vs, q, r⟩ := w.at_ h hn'
      exact ⟨vs, .of q, r⟩
    · obtain ⟨vs, q, r⟩ := w.at_ h hn'
      exact ⟨vs, q.sql, r⟩
  obtain ⟨vs, q, r⟩ := hl
  refine ⟨fun hi => ?_, fun hi => ⟨vs, q, by rw [r.length]; exact hi⟩⟩
  obtain ⟨v, hv, rv⟩ := r.get (List.getElem?_eq_getElem hi)
  exact ⟨⟨vs, v, q, hv⟩, fun x H' y => ⟨y.1, all[i], List.getElem?_eq_getElem hi, by
    have := y.2 vs q
    rw [hv] at this
    cases this
    exact rv⟩⟩
theorem goes_str {K : PySem.W.Frag} {mg : Str → Option Value} {z : Str} {ρ0 : List Addr} {H0 : Hp} : Goes K mg (Its z) (z.cps.toList.map fun c => U.str ⟨#[c]⟩) none ρ0 H0 := by
  intro ρ S H i e w st
  have hl : (z.cps.toList.map fun c => U.str ⟨#[c]⟩).length = z.cps.size := by simp
  refine ⟨fun hi => ⟨by rw [hl] at hi; exact hi, fun x H' y => ?_⟩, fun hi => by rw [hl] at hi; exact hi⟩
  obtain ⟨y1, c, hc, rfl⟩ := y
  refine ⟨y1, .str ⟨#[c]⟩, ?_, relStr⟩
  rw [List.getElem?_map, Array.getElem?_toList, hc]
  rfl
theorem goes_rng {K : PySem.W.Frag} {mg : Str → Option Value} {a b : Int} {ρ0 : List Addr} {H0 : Hp} : Goes K mg (Itr a (b - a).toNat) (ranged a b) none ρ0 H0 := by
  intro ρ S H i e w st
  have hl : (ranged a b).length = (b - a).toNat := by simp [ranged]
  refine ⟨fun hi => ⟨by rw [hl] at hi; exact hi, fun x H' y => ?_⟩, fun hi => by rw [hl] at hi; exact hi⟩
  obtain ⟨y1, rfl⟩ := y
  rw [hl] at hi
  refine ⟨y1, .int (a + (i : Nat)), ?_, relInt⟩
  unfold ranged
  rw [List.getElem?_map, List.getElem?_range hi]
  rfl
theorem pi_any {tg : Expr} (ha : PE X a (tE X Φ W ta)) : PI X tg a (tI X Φ W ta) := by
  constructor
  intro pins s σ H R I h
  refine thn (ha.run pins s σ H _ I h) fun v s1 ⟨x, H1, I1, r1, q1⟩ => ?_
  obtain ⟨ρ1, S1, u, all, src, w1, ru, hi, hR⟩ := q1
  unfold iterU at hi
  split at hi
  · cases hi
    obtain ⟨q, vs, rfl, hq, hr⟩ := ru.tup
    cases r1
    obtain ⟨its, rv, pt, _⟩ := I1.tuple hq
    refine wpAny_pyIter_tuple (show s1.heap.IsTuple q its.toArray from pt) ?_
    refine ⟨s1.heap.objs.size, [s1.heap.objs.size], _, _, H1, rfl, ?_, turn_tuple q _, ⟨_, Heap.get?_push_size _ rfl, rfl, rfl⟩, ?_, hR _ (goes_tup hq hr).1⟩
    · exact I1.kept (t' := s1.toks) fun b o e => Heap.get?_push_of_some _ e
    · intro b hb
      have eb : b = s1.heap.objs.size := by simpa using hb
      rw [eb]
      exact I1.fpOk (Nat.le_refl _) (I1.hok.fresh (Nat.le_refl _))
  · cases hi
    cases ru.str
    obtain ⟨t, rfl⟩ := r1
    have hg := hR _ (goes_str (K := X.K) (mg := X.mg))
    cases hz : (Array.all _ fun (x : Nat) => decide (x < 128))
    · exact wpAny_pyIter_wide hz (pi_one (tk := s1.toks) I1 _ (turn_str _ _ t "str_iterator" (.inr rfl)) ⟨_, Heap.get?_push_size _ rfl, rfl, rfl⟩ hg)
    · exact wpAny_pyIter_ascii hz (pi_one (tk := s1.toks) I1 _ (turn_str _ _ t "str_ascii_iterator" (.inl rfl)) ⟨_, Heap.get?_push_size _ rfl, rfl, rfl⟩ hg)
  · rename_i n
    obtain ⟨q, rfl, hn⟩ := ru.loc
    have hl : ∃ vs, SqL X.K H1 q vs ∧ src = some n := by
      split at hi
      · rename_i hx
        cases hi
        obtain ⟨vs, e, r⟩ := w1.at_ hx hn
        exact ⟨vs, .of e, rfl⟩
      · rename_i hx
        cases hi
        obtain ⟨vs, e, r⟩ := w1.at_ hx hn
        exact ⟨vs, e.sql, rfl⟩
      · cases hi
    obtain ⟨vs, hq, rfl⟩ := hl
    cases r1
    obtain ⟨its, rv, pl, _⟩ := I1.list hq
    refine wpAny_pyIter_list pl.isList ?_
    refine ⟨s1.heap.objs.size, [s1.heap.objs.size], _, _, H1, rfl, ?_, turn_list q _, ⟨_, Heap.get?_push_size _ rfl, rfl, rfl⟩, ?_, hR _ (goes_lst hn)⟩
    · exact I1.kept (t' := s1.toks) fun b o e => Heap.get?_push_of_some _ e
    · intro b hb
      have eb : b = s1.heap.objs.size := by simpa using hb
      rw [eb]
      exact I1.fpOk (Nat.le_refl _) (I1.hok.fresh (Nat.le_refl _))
  · cases hi
noncomputable def gsOf : List Nat → TGs
  | [] => gNil
  | i :: is => gCons (gName i) (gsOf is)
noncomputable def gOf (K : PySem.W.Frag) (tp : Bool) (is : List Nat) : TG := if tp then gTup K is.length (gsOf is) else match is with | [i] => gName i | _ => fun _ _ _ _ => False
theorem wipe_set {σ : L2.St} {i : Nat} {x : Option V} : ∀ {is : List Nat}, i ∈ is → wipe (σ.set i x) is = wipe σ is
  | j :: is, h => by
    unfold wipe
    by_cases hj : i = j
    · subst hj
      by_cases hm : i ∈ is
      · rw [wipe_set hm]
      · have sw : ∀ (js : List Nat), i ∉ js → wipe (σ.set i x) js = (wipe σ js).set i x := by
          intro js
          induction js with
          | nil => intro _; rfl
          | cons k ks ih =>
            intro hk
            simp only [List.mem_cons, not_or] at hk
            unfold wipe
            rw [ih hk.2, List.set_comm _ _ hk.1]
        rw [sw is hm, List.set_set]
    · rcases List.mem_cons.mp h with z | z
      · exact absurd z hj
      · rw [wipe_set z]
theorem gs_ok {K : PySem.W.Frag} {ρ : List Addr} {H : Hp} : ∀ {is : List Nat} {us : List U} {vs : List V} {env : Env} {σ : L2.St} {Q : L2.St → Hp → Prop} (js : List Nat), (∀ i ∈ is, i ∈ js) → us.length = is.length → EnvOk K ρ H env σ → RelUs K ρ H us vs →
    (∀ σ', EnvOk K ρ H (setAll is us env) σ' → wipe σ' js = wipe σ js → Q σ' H) → gsOf is vs σ H Q
  | [], us, vs, env, σ, Q, js, _, hl, eo, r, q => by
    cases us with
    | nil =>
      simp only [RelUs] at r
      subst r
      exact ⟨rfl, q σ eo rfl⟩
    | cons _ _ => simp at hl
  | i :: is, us, vs, env, σ, Q, js, hj, hl, eo, r, q => by
    cases us with
    | nil => simp at hl
    | cons u us =>
      simp only [RelUs] at r
      obtain ⟨v, vs', rfl, r1, r2⟩ := r
      refine ⟨v, vs', rfl, ?_⟩
      show gsOf is vs' (σ.set i (some v)) H Q
      refine gs_ok js (fun k hk => hj k (List.mem_cons_of_mem _ hk)) (by simpa using hl) (eo.set i r1) r2 fun σ' e1 e2 => q σ' e1 ?_
      rw [e2]
      exact wipe_set (hj i List.mem_cons_self)
theorem g_ok {K : PySem.W.Frag} {ρ : List Addr} {H : Hp} {tp : Bool} {is : List Nat} {u : U} {v : V} {env env' : Env} {σ : L2.St} {Q : L2.St → Hp → Prop} (h : setN tp is u env = some env') (eo : EnvOk K ρ H env σ) (r : RelU K ρ H u v)
    (q : ∀ σ', EnvOk K ρ H env' σ' → wipe σ' is = wipe σ is → Q σ' H) : gOf K tp is v σ H Q := by
  unfold setN at h
  unfold gOf
  cases tp with
  | true =>
    simp only [if_true] at h ⊢
    split at h
    · split at h
      · rename_i us hl
        cases h
        obtain ⟨a, vs, rfl, hq, hr⟩ := r.tup
        exact ⟨a, vs, rfl, hq, by rw [hr.length]; exact hl, gs_ok is (fun _ z => z) hl eo hr q⟩
      · cases h
    · cases h
  | false =>
    simp only [Bool.false_eq_true, if_false] at h ⊢
    split at h
    · rename_i i
      cases h
      exact q _ (eo.set i r) (wipe_set (by simp))
    · cases h
theorem g_name (i : Nat) {x : Str} (hN : X.N.Nodup) (hi : X.N[i]? = some x := by rfl) (hx : Loc X.env.scope x := by first | exact Or.inl rfl | exact Or.inr rfl) (hf : X.fn x = true ∨ X.env.scope.names.lookup x = some .local := by first | exact .inl rfl | exact .inr rfl) : PG X (.Name x pos) (gOf X.K false [i]) := pg_name hN hi hx hf
theorem gs_nil : PGs X [] (gsOf []) := pgs_nil
theorem gs_cons (i : Nat) {is : List Nat} {x : Str} {px : Pos} (hN : X.N.Nodup) (h2 : PGs X es (gsOf is)) (hi : X.N[i]? = some x := by rfl) (hx : Loc X.env.scope x := by first | exact Or.inl rfl | exact Or.inr rfl) (hf : X.fn x = true ∨ X.env.scope.names.lookup x = some .local := by first | exact .inl rfl | exact .inr rfl)
    (hs : (assignEach (.Name x px :: es) X.env).map (·.2) = assign (.Name x px) X.env :: (assignEach es X.env).map (·.2) := by rfl) : PGs X (.Name x px :: es) (gsOf (i :: is)) := pgs_cons (pg_name hN hi hx hf) h2 hs
theorem g_tup {is : List Nat} {k : Nat} (hc : X.calm = true) (h : PGs X es (gsOf is)) (hn : (assignEach es X.env).length = is.length := by rfl) (hst : (assignEach es X.env).findIdx? (·.1) = none := by rfl) : PG X (.Tuple es k pos) (gOf X.K true is) := pg_tup hc h hn hst
noncomputable abbrev W0 : XK := fun _ _ _ => False
theorem Post.bindN {α β γ δ : Type} {K : PySem.W.Frag} {mg : Str → Option Value} {Rr : List Addr → Hp → α → γ → Prop} {Rs : List Addr → Hp → β → δ → Prop} {ρ : List Addr} {H : Hp} {r : R α} {f : α → Sto → R β} {Q : δ → Hp → Prop} (h : Post mg K Rs W ρ H (r.noex.bind f) Q) :
    Post mg K Rr W0 ρ H r fun b H1 => ∃ ρ1 S1 a, Ext ρ H ρ1 H1 ∧ Wok K mg ρ1 S1 H1 ∧ Rr ρ1 H1 a b ∧ Post mg K Rs W ρ1 H1 (f a S1) Q := by
  cases r with
  | ok a S => exact Post.bind (r := .ok a S) h
  | exc c fs S => exact h.elim
  | bad => exact h.elim
theorem bind_assoc {α β γ : Type} (r : R α) (f : α → Sto → R β) (g : β → Sto → R γ) : (r.bind f).bind g = r.bind fun a S => (f a S).bind g := by
  cases r <;> rfl
theorem pushAt_rel {K : PySem.W.Frag} {mg : Str → Option Value} {ρ : List Addr} {S : Sto} {H : Hp} {n : Nat} {D : Addr} {u : U} {y : V} {Q : VK} {k : Sto → R U} (w : Wok K mg ρ S H) (hn : ρ[n]? = some D) (r : RelU K ρ H u y) (h : Post mg K (RelU K) W ρ H ((pushAt n u S).bind fun _ S => k S) Q) :
    ∃ acc, H D = some (.lst acc) ∧ acc.length < sizeLine ∧ ∃ S', Ext ρ H ρ (upd H D (.lst (acc ++ [y]))) ∧ Wok K mg ρ S' (upd H D (.lst (acc ++ [y]))) ∧ Post mg K (RelU K) W ρ (upd H D (.lst (acc ++ [y]))) (k S') Q := by
  unfold pushAt at h
  split at h
  · rename_i us hx
    split at h
    · rename_i hz
      obtain ⟨acc, e, q⟩ := w.at_ hx hn
      have x := Ext.write (ρ := ρ) (o := .lst (acc ++ [y])) (lst_mut e)
      exact ⟨acc, e, by rw [q.length]; exact hz, S.set n (.lst (us ++ [u])), x, w.write hn hx rfl rfl (lst_mut e) ⟨_, upd_same, (q.append (.cons r .nil)).mono x⟩, Post.ext x h⟩
    · cases h
  · cases h
noncomputable def Goes' (K : PySem.W.Frag) (mg : Str → Option Value) (J : It) (all : List U) (st : Sto → Bool) (ρ0 : List Addr) (H0 : Hp) : Prop :=
  ∀ ρ S H (i : Nat), Ext ρ0 H0 ρ H → Wok K mg ρ S H → st S = true → (i < all.length → J.go i H ∧ ∀ x H', J.yld i H x H' → (∀ a o, H a = some o → H' a = some o) ∧ ∃ u, all[i]? = some u ∧ RelU K ρ H' u x) ∧ (all.length ≤ i → J.stop i H)
theorem zipped_len : ∀ xs ys : List U, (zipped xs ys).length = min xs.length ys.length
  | [], _ => by simp [zipped]
  | _ :: _, [] => by simp [zipped]
  | x :: xs, y :: ys => by simp [zipped, zipped_len xs ys]
theorem zipped_at : ∀ {xs ys : List U} {i : Nat} {a b : U}, xs[i]? = some a → ys[i]? = some b → (zipped xs ys)[i]? = some (.tup [a, b])
  | x :: xs, y :: ys, 0, a, b, h1, h2 => by simp at h1 h2; subst h1 h2; rfl
  | x :: xs, y :: ys, i + 1, a, b, h1, h2 => by
    simp only [List.getElem?_cons_succ] at h1 h2
    simp only [zipped, List.getElem?_cons_succ]
    exact zipped_at h1 h2
theorem goes_zipT {K : PySem.W.Frag} {mg : Str → Option Value} {a b : Addr} {vs ws : List V} {xs ys : List U} {ρ0 : List Addr} {H0 : Hp} (h1 : SqT K H0 a vs) (r1 : RelUs K ρ0 H0 xs vs) (h2 : SqT K H0 b ws) (r2 : RelUs K ρ0 H0 ys ws) : Goes' K mg (RZ.ItzT K a b) (zipped xs ys) (fun _ => true) ρ0 H0 := by
  intro ρ S H i e w _
  have l1 := r1.length
  have l2 := r2.length
  rw [zipped_len]
  refine ⟨fun hi => ?_, fun hi => ⟨vs, ws, e.sqt K h1, e.sqt K h2, by omega⟩⟩
  obtain ⟨v, hv, rv⟩ := (r1.mono e).get (List.getElem?_eq_getElem (show i < xs.length by omega))
  obtain ⟨v2, hv2, rv2⟩ := (r2.mono e).get (List.getElem?_eq_getElem (show i < ys.length by omega))
  refine ⟨⟨vs, ws, v, v2, e.sqt K h1, e.sqt K h2, hv, hv2⟩, fun x H' y => ?_⟩
  obtain ⟨T, x1, y1, rfl, hT, rfl, f1, f2⟩ := y
  have g1 := f1 _ (e.sqt K h1)
  have g2 := f2 _ (e.sqt K h2)
  rw [hv] at g1
  rw [hv2] at g2
  cases g1
  cases g2
  refine ⟨upd_grow hT, _, zipped_at (List.getElem?_eq_getElem (by omega)) (List.getElem?_eq_getElem (by omega)), ?_⟩
  have e2 : Ext ρ H ρ (upd H T (.tup [v, v2])) := Ext.grow (upd_grow hT)
  simp only [RelU]
  exact ⟨T, _, rfl, .of upd_same, RelUs.cons (rv.mono e2) (RelUs.cons (rv2.mono e2) RelUs.nil)⟩
theorem goes_zipL {K : PySem.W.Frag} {mg : Str → Option Value} {a b : Addr} {m n : Nat} {xs ys : List U} {ρ0 : List Addr} {H0 : Hp} (hm : ρ0[m]? = some a) (hn : ρ0[n]? = some b) : Goes' K mg (Itz K a b) (zipped xs ys) (fun S => isLst S m xs && isLst S n ys) ρ0 H0 := by
  intro ρ S H i e w st
  rw [Bool.and_eq_true] at st
  have look : ∀ {n : Nat} {a : Addr} {all : List U}, ρ0[n]? = some a → isLst S n all = true → ∃ vs, SqL K H a vs ∧ RelUs K ρ H all vs := fun {n a all} hn st => by
    have hn' := e.at_ hn
    rcases isLst_iff st with h | h
    · obtain ⟨vs, q, r⟩ := w.at_ h hn'
      exact ⟨vs, .of q, r⟩
    · obtain ⟨vs, q, r⟩ := w.at_ h hn'
      exact ⟨vs, q.sql, r⟩
  obtain ⟨vs, h1, r1⟩ := look hm st.1
  obtain ⟨ws, h2, r2⟩ := look hn st.2
  have l1 := r1.length
  have l2 := r2.length
  rw [zipped_len]
  refine ⟨fun hi => ?_, fun hi => ⟨vs, ws, h1, h2, by omega⟩⟩
  obtain ⟨v, hv, rv⟩ := r1.get (List.getElem?_eq_getElem (show i < xs.length by omega))
  obtain ⟨v2, hv2, rv2⟩ := r2.get (List.getElem?_eq_getElem (show i < ys.length by omega))
  refine ⟨⟨vs, ws, v, v2, h1, h2, hv, hv2⟩, fun x H' y => ?_⟩
  obtain ⟨T, x1, y1, rfl, hT, rfl, f1, f2⟩ := y
  have g1 := f1 _ h1
  have g2 := f2 _ h2
  rw [hv] at g1
  rw [hv2] at g2
  cases g1
  cases g2
  refine ⟨upd_grow hT, _, zipped_at (List.getElem?_eq_getElem (by omega)) (List.getElem?_eq_getElem (by omega)), ?_⟩
  have e2 : Ext ρ H ρ (upd H T (.tup [v, v2])) := Ext.grow (upd_grow hT)
  simp only [RelU]
  exact ⟨T, _, rfl, .of upd_same, RelUs.cons (rv.mono e2) (RelUs.cons (rv2.mono e2) RelUs.nil)⟩
/-- the turns -/
theorem lc_turns {tp : Bool} {is : List Nat} {J : It} {all : List U} {src : Option Nat} {ρ1 : List Addr} {S1 : Sto} {H1 : Hp} {σ : L2.St} {env : Env} {Q : VK} {D : Addr} {tx : T} (w1 : Wok X.K X.mg ρ1 S1 H1) (eo : EnvOk X.K ρ1 H1 env σ) (hg : Goes X.K X.mg J all src ρ1 H1) (hD : H1 D = none)
    (h : Post X.mg X.K (RelU X.K) W ρ1 H1 ((lcI tp is (wipeE env is) (fun env S => (evt Φ tx env S).noex) (fun env S => (ev Φ te env S).noex) S1.length all src all (S1 ++ [.lst []])).bind fun _ S' => .ok (.loc S1.length) S') Q) :
    ∃ W' : Nat → Nat → Hp → Prop, (∃ m, W' 0 m (upd H1 D (.lst []))) ∧ ∀ i m H, W' i m H → (J.stop i H ∧ Q (.ref D) H) ∨ (J.go i H ∧ ∃ Nx : Hp → Prop, (∀ H', Nx H' → ∃ m', m' < m ∧ W' (i + 1) m' H') ∧ ∀ x H', J.yld i H x H' → gOf X.K tp is x (wipe σ is) H' fun σ2 H2 => wipe σ2 is = wipe σ is ∧ tTs X Φ W0 tx σ2 H2 fun b H3 =>
      if b = true then tE X Φ W0 te σ2 H3 fun y H4 => ∃ acc, H4 D = some (.lst acc) ∧ acc.length < sizeLine ∧ Nx (upd H4 D (.lst (acc ++ [y]))) else Nx H3) := by
  have e0 : Ext ρ1 H1 (ρ1 ++ [D]) (upd H1 D (.lst [])) := Ext.push (upd_grow hD)
  have w0 := w1.push (c := .lst []) hD (upd_grow hD) ⟨[], upd_same, RelUs.nil⟩
  have hn := push_at (p := D) w1.len
  let Inv' : Nat → Hp → Prop := fun i H => i ≤ all.length ∧ ∃ ρ S, Ext (ρ1 ++ [D]) (upd H1 D (.lst [])) ρ H ∧ Wok X.K X.mg ρ S H ∧ ρ[S1.length]? = some D ∧
    Post X.mg X.K (RelU X.K) W ρ H ((lcI tp is (wipeE env is) (fun env S => (evt Φ tx env S).noex) (fun env S => (ev Φ te env S).noex) S1.length all src (all.drop i) S).bind fun _ S' => .ok (.loc S1.length) S') Q
  refine ⟨fun i m H => m = all.length - i ∧ Inv' i H, ⟨_, rfl, Nat.zero_le _, _, _, Ext.refl, w0, hn, Post.ext e0 (by simpa using h)⟩, ?_⟩
  rintro i m H ⟨rfl, hi, ρ, S, ex, w, hnD, hp⟩
  by_cases hlt : i < all.length
  · refine .inr ?_
    rw [List.drop_eq_getElem_cons hlt] at hp
    unfold lcI at hp
    split at hp
    · rename_i hst
      obtain ⟨hgo, hy⟩ := (hg ρ S H i (e0.trans ex) w hst).1 hlt
      refine ⟨hgo, Inv' (i + 1), fun H' q => ⟨all.length - (i + 1), by omega, rfl, q⟩, fun x H' yl => ?_⟩
      obtain ⟨rfl, u, hu, ru⟩ := hy x H' yl
      rw [List.getElem?_eq_getElem hlt] at hu
      cases hu
      split at hp
      · rename_i env' he
        refine g_ok he ((eo.mono (e0.trans ex)).wipe is) ru fun σ2 eo2 hw => ⟨by rw [hw, wipe_wipe], ρ, S, env', w, eo2, ?_⟩
        rw [bind_assoc] at hp
        refine (Post.bindN (Rr := Rid) hp).imp fun b H3 ⟨ρ3, S3, b', e3, w3, r3, h3⟩ => ?_
        cases r3
        cases b with
        | true =>
          refine iteT ⟨ρ3, S3, env', w3, eo2.mono e3, ?_⟩
          simp only [if_true] at h3
          rw [bind_assoc] at h3
          refine (Post.bindN h3).imp fun y H4 ⟨ρ4, S4, v4, e4, w4, r4, h4⟩ => ?_
          rw [bind_assoc] at h4
          obtain ⟨acc, ha, hz, S5, x5, w5, h5⟩ := pushAt_rel w4 (e4.at_ (e3.at_ hnD)) r4 h4
          exact ⟨acc, ha, hz, hlt, ρ4, S5, ((ex.trans e3).trans e4).trans x5, w5, e4.at_ (e3.at_ hnD), h5⟩
        | false =>
          refine iteF ⟨hlt, ρ3, S3, ex.trans e3, w3, e3.at_ hnD, ?_⟩
          simpa using h3
      · exact hp.elim
    · exact hp.elim
  · refine .inl ?_
    have e : i = all.length := by omega
    subst e
    rw [List.drop_length] at hp
    unfold lcI at hp
    split at hp
    · rename_i hst
      refine ⟨(hg ρ S H _ (e0.trans ex) w hst).2 (Nat.le_refl _), ?_⟩
      exact hp.here w (relLoc hnD)
    · exact hp.elim
where
  wipe_wipe {σ : L2.St} : ∀ {is : List Nat}, wipe (wipe σ is) is = wipe σ is := by
    intro is
    have : ∀ (js ks : List Nat) (τ : L2.St), (∀ j ∈ js, j ∈ ks) → wipe (wipe τ js) ks = wipe τ ks := by
      intro js
      induction js with
      | nil => intro ks τ _; rfl
      | cons j js ih =>
        intro ks τ hs
        show wipe ((wipe τ js).set j none) ks = _
        rw [wipe_set (hs j List.mem_cons_self)]
        exact ih ks τ fun k hk => hs k (List.mem_cons_of_mem _ hk)
    exact this is is σ fun _ z => z
theorem lc_turnsJ {tp : Bool} {is : List Nat} {J : It} {all : List U} {st : Sto → Bool} {ρ1 : List Addr} {S1 : Sto} {H1 : Hp} {σ : L2.St} {env : Env} {Q : VK} {D : Addr} {tx : T} (w1 : Wok X.K X.mg ρ1 S1 H1) (eo : EnvOk X.K ρ1 H1 env σ) (hg : Goes' X.K X.mg J all st ρ1 H1) (hD : H1 D = none)
    (h : Post X.mg X.K (RelU X.K) W ρ1 H1 ((lcJ tp is (wipeE env is) (fun env S => (evt Φ tx env S).noex) (fun env S => (ev Φ te env S).noex) S1.length st all (S1 ++ [.lst []])).bind fun _ S' => .ok (.loc S1.length) S') Q) :
    ∃ W' : Nat → Nat → Hp → Prop, (∃ m, W' 0 m (upd H1 D (.lst []))) ∧ ∀ i m H, W' i m H → (J.stop i H ∧ Q (.ref D) H) ∨ (J.go i H ∧ ∃ Nx : Hp → Prop, (∀ H', Nx H' → ∃ m', m' < m ∧ W' (i + 1) m' H') ∧ ∀ x H', J.yld i H x H' → gOf X.K tp is x (wipe σ is) H' fun σ2 H2 => wipe σ2 is = wipe σ is ∧ tTs X Φ W0 tx σ2 H2 fun b H3 =>
      if b = true then tE X Φ W0 te σ2 H3 fun y H4 => ∃ acc, H4 D = some (.lst acc) ∧ acc.length < sizeLine ∧ Nx (upd H4 D (.lst (acc ++ [y]))) else Nx H3) := by
  have e0 : Ext ρ1 H1 (ρ1 ++ [D]) (upd H1 D (.lst [])) := Ext.push (upd_grow hD)
  have w0 := w1.push (c := .lst []) hD (upd_grow hD) ⟨[], upd_same, RelUs.nil⟩
  have hn := push_at (p := D) w1.len
  let Inv' : Nat → Hp → Prop := fun i H => i ≤ all.length ∧ ∃ ρ S, Ext (ρ1 ++ [D]) (upd H1 D (.lst [])) ρ H ∧ Wok X.K X.mg ρ S H ∧ ρ[S1.length]? = some D ∧
    Post X.mg X.K (RelU X.K) W ρ H ((lcJ tp is (wipeE env is) (fun env S => (evt Φ tx env S).noex) (fun env S => (ev Φ te env S).noex) S1.length st (all.drop i) S).bind fun _ S' => .ok (.loc S1.length) S') Q
  refine ⟨fun i m H => m = all.length - i ∧ Inv' i H, ⟨_, rfl, Nat.zero_le _, _, _, Ext.refl, w0, hn, Post.ext e0 (by simpa using h)⟩, ?_⟩
  rintro i m H ⟨rfl, hi, ρ, S, ex, w, hnD, hp⟩
  by_cases hlt : i < all.length
  · refine .inr ?_
    rw [List.drop_eq_getElem_cons hlt] at hp
    unfold lcJ at hp
    split at hp
    · rename_i hst
      obtain ⟨hgo, hy⟩ := (hg ρ S H i (e0.trans ex) w hst).1 hlt
      refine ⟨hgo, Inv' (i + 1), fun H' q => ⟨all.length - (i + 1), by omega, rfl, q⟩, fun x H' yl => ?_⟩
      obtain ⟨gw, u, hu, ru⟩ := hy x H' yl
      have eg : Ext ρ H ρ H' := Ext.grow gw
      replace hp := Post.ext eg hp
      replace ex := ex.trans eg
      replace w := w.grow gw
      rw [List.getElem?_eq_getElem hlt] at hu
      cases hu
      split at hp
      · rename_i env' he
        refine g_ok he ((eo.mono (e0.trans ex)).wipe is) ru fun σ2 eo2 hw => ⟨by rw [hw, lc_turns.wipe_wipe], ρ, S, env', w, eo2, ?_⟩
        rw [bind_assoc] at hp
        refine (Post.bindN (Rr := Rid) hp).imp fun b H3 ⟨ρ3, S3, b', e3, w3, r3, h3⟩ => ?_
        cases r3
        cases b with
        | true =>
          refine iteT ⟨ρ3, S3, env', w3, eo2.mono e3, ?_⟩
          simp only [if_true] at h3
          rw [bind_assoc] at h3
          refine (Post.bindN h3).imp fun y H4 ⟨ρ4, S4, v4, e4, w4, r4, h4⟩ => ?_
          rw [bind_assoc] at h4
          obtain ⟨acc, ha, hz, S5, x5, w5, h5⟩ := pushAt_rel w4 (e4.at_ (e3.at_ hnD)) r4 h4
          exact ⟨acc, ha, hz, hlt, ρ4, S5, ((ex.trans e3).trans e4).trans x5, w5, e4.at_ (e3.at_ hnD), h5⟩
        | false =>
          refine iteF ⟨hlt, ρ3, S3, ex.trans e3, w3, e3.at_ hnD, ?_⟩
          simpa using h3
      · exact hp.elim
    · exact hp.elim
  · refine .inl ?_
    have e : i = all.length := by omega
    subst e
    rw [List.drop_length] at hp
    unfold lcJ at hp
    split at hp
    · rename_i hst
      refine ⟨(hg ρ S H _ (e0.trans ex) w hst).2 (Nat.le_refl _), ?_⟩
      exact hp.here w (relLoc hnD)
    · exact hp.elim
end
end Oz
end
section
set_option maxHeartbeats 4000000
namespace Oz
open PySem PySem.Spec PyProof.Rows L2
section
variable {X : Cx} {p : Pg} {nm : Names} {ad : Str → Addr} {d : Nat} {W : XK} {Φ : Cal} {a b e c o : Expr} {es rest : List Expr} {ta tb te to : E} {tc td : T} {tes : Es} {pos : Pos}
theorem lc_read {tp : Bool} {is : List Nat} {it : E} {tx : T} {σ : L2.St} {H : Hp} {Q : VK} (h : tE X Φ W (.lc is tp te it tx) σ H Q) : tLc (tI X Φ W it) (gOf X.K tp is) (tTs X Φ W0 tx) (tE X Φ W0 te) is σ H Q := by
  obtain ⟨ρ, S, env, w, eo, h⟩ := h
  rw [ev] at h
  refine ⟨ρ, S, env, w, eo, (Post.bind h).imp fun x H1 ⟨ρ1, S1, u, e1, w1, r1, h1⟩ => ?_⟩
  split at h1
  · rename_i all src hi
    exact ⟨ρ1, S1, u, all, src, w1, r1, hi, fun J hg D hD => lc_turns w1 (eo.mono e1) hg hD h1⟩
  · exact h1.elim
theorem t_tt : PTs X [] (tTs X Φ W .tt) := ⟨fun pins s σ H Q I ⟨ρ, S, env, w, eo, h⟩ => (pts_nil (X := X)).run pins s σ H Q I (by rw [evt] at h; exact h.here w rfl)⟩
theorem s_lc (O : Ok X p nm ad d W) (tp : Bool) (own : List (Str × Nat)) {elt tg iter : Expr} {ifs : List Expr} {scope : Scope} {it : E} {tx : T} (hN : X.N.Nodup) (hi : PE X iter (tE X Φ W it)) (ok : BlkOk X.N X.env.scope scope own)
    (hg : ∀ (s : Shared) (H : Hp) (C : Addr) (cl : List (Str × Addr)) (fp : List Addr), PG (X.blk s H scope (compEnvC scope cl C X.env) fp) tg (gOf X.K tp (own.map (·.2))))
    (ht : ∀ (s : Shared) (H : Hp) (C : Addr) (cl : List (Str × Addr)) (fp : List Addr), PTs (X.blk s H scope (compEnvC scope cl C X.env) fp) ifs (tTs X Φ W0 tx))
    (he : ∀ (s : Shared) (H : Hp) (C : Addr) (cl : List (Str × Addr)) (fp : List Addr), PE (X.blk s H scope (compEnvC scope cl C X.env) fp) elt (tE X Φ W0 te)) (hs : ∀ x, foldedSetIterable iter X.env x = pure x := by intro _; rfl) :
    PE X (.ListComp elt [⟨tg, iter, ifs, 0⟩] scope pos) (tE X Φ W (.lc (own.map (·.2)) tp te it tx)) :=
  PEw (pe_lc O.calm hN (pi_any hi) ok hg ht he hs) fun σ H Q h => lc_read h
/-- over zip -/
theorem lcz_read {is : List Nat} {tes : Es} {tx : T} {σ : L2.St} {H : Hp} {Q : VK} (h : tE X Φ W (.lcz is te tes tx) σ H Q) : tLc (RZ.iZipA X.K (tEs X Φ W tes)) (gOf X.K true is) (tTs X Φ W0 tx) (tE X Φ W0 te) is σ H Q := by
  obtain ⟨ρ, S, env, w, eo, h⟩ := h
  rw [ev] at h
  refine ⟨ρ, S, env, w, eo, (Post.bind h).imp fun x H1 ⟨ρ1, S1, u, e1, w1, r1, h1⟩ => ?_⟩
  split at h1
  · rename_i all st hi
    unfold zipU at hi
    split at hi
    · cases hi
      obtain ⟨v, v2, rfl, ra, rb⟩ := rel2 r1
      obtain ⟨q, vs, rfl, hq, hr⟩ := ra.tup
      obtain ⟨q2, vs2, rfl, hq2, hr2⟩ := rb.tup
      exact ⟨q, q2, vs, vs2, rfl, .inr ⟨hq, hq2, fun D hD => lc_turnsJ w1 (eo.mono e1) (goes_zipT hq hr hq2 hr2) hD h1⟩⟩
    · split at hi
      · rename_i xs ys hx hy
        cases hi
        obtain ⟨v, v2, rfl, ra, rb⟩ := rel2 r1
        obtain ⟨q, vs, e3, hq, hr⟩ := w1.list hx ra
        obtain ⟨q2, vs2, e4, hq2, hr2⟩ := w1.list hy rb
        obtain ⟨p, rfl, hp⟩ := ra.loc
        obtain ⟨p2, rfl, hp2⟩ := rb.loc
        cases e3
        cases e4
        exact ⟨q, q2, vs, vs2, rfl, .inl ⟨hq, hq2, fun D hD => lc_turnsJ w1 (eo.mono e1) (goes_zipL hp hp2) hD h1⟩⟩
      · cases hi
    · cases hi
  · exact h1.elim
theorem Ok.blk {scope : Scope} {cenv : PySem.Env} {fp : List Addr} {s : Shared} {H : Hp} (O : Ok X p nm ad d W) : Ok (X.blk s H scope cenv fp) p nm ad d W0 := ⟨O.sta, O.gdi, O.ftb, O.xc, takes0, PassesOwn.never, O.calm, O.room, passL, O.call, O.init, O.kcall⟩
noncomputable def tR (X : Cx) (Φ : Cal) (W : XK) (ta tb : E) : TI := fun σ H R => tE X Φ W ta σ H fun x H1 => tE X Φ W tb σ H1 fun y H2 => ∃ ρ S m n, Wok X.K X.mg ρ S H2 ∧ x = .int m ∧ y = .int n ∧ (-(2 ^ 62) ≤ m ∧ m < 2 ^ 62 ∧ -(2 ^ 62) ≤ n ∧ n < 2 ^ 62) ∧ R (Itr m (n - m).toNat) H2
theorem PIw {tg : Expr} {t t' : TI} (h : PI X tg e t) (i : ∀ σ H Q, t' σ H Q → t σ H Q) : PI X tg e t' := ⟨fun pins s σ H Q I q => h.run pins s σ H Q I (i _ _ _ q)⟩
theorem pi_r2 (O : Ok X p nm ad d W) {tg : Expr} {px : Pos} (ha : PE X a (tE X Φ W ta)) (hb : PE X b (tE X Φ W tb)) (hg : Gl X "range" := by rfl) (hm : ("range" : Str) ∈ nm.bins := by decide +kernel)
    (hs : starEach [a, b] X.env = [(false, eval a X.env), (false, eval b X.env)] := by rfl) (hs2 : starEach [b] X.env = [(false, eval b X.env)] := by rfl) : PI X tg (.Call (.Name "range" px) [a, b] [] pos) (tR X Φ W ta tb) := by
  refine PIw (pi_range2 hg (O.sta.bin _ hm) (pa_cons ha (pa_cons hb pa_nil (by rw [hs2]; rfl)) (by rw [hs, hs2])) hs hs2) fun σ H R h => ?_
  obtain ⟨ρ, S, env, w, eo, h⟩ := h
  refine ⟨ρ, S, env, w, eo, h.imp fun x H1 h1 => ?_⟩
  obtain ⟨ρ1, S1, env1, w1, eo1, h1⟩ := h1
  refine ⟨ρ1, S1, env1, w1, eo1, h1.imp fun y H2 h2 => ?_⟩
  obtain ⟨ρ2, S2, m, n, w2, rfl, rfl, hb, hr⟩ := h2
  exact ⟨m, n, rfl, hb, hr⟩
theorem pi_r1 (O : Ok X p nm ad d W) {tg : Expr} {px : Pos} (hb : PE X b (tE X Φ W tb)) (hg : Gl X "range" := by rfl) (hm : ("range" : Str) ∈ nm.bins := by decide +kernel)
    (hs : starEach [b] X.env = [(false, eval b X.env)] := by rfl) : PI X tg (.Call (.Name "range" px) [b] [] pos) (tR X Φ W (.k (.int 0)) tb) := by
  refine PIw (pi_range1 hg (O.sta.bin _ hm) (pa_cons hb pa_nil (by rw [hs]; rfl)) hs) fun σ H R h => ?_
  obtain ⟨ρ, S, env, w, eo, h⟩ := h
  rw [ev] at h
  have h1 := h.here w relInt
  obtain ⟨ρ1, S1, env1, w1, eo1, h1⟩ := h1
  refine ⟨ρ1, S1, env1, w1, eo1, h1.imp fun y H2 h2 => ?_⟩
  obtain ⟨ρ2, S2, m, n, w2, e1, rfl, hb, hr⟩ := h2
  cases e1
  refine ⟨n, rfl, hb.2.2.1, hb.2.2.2, ?_⟩
  simpa using hr
noncomputable def PostS (mg : Str → Option Value) (K : PySem.W.Frag) (W : XK) (ρ : List Addr) (H : Hp) (o : O) (D : Ends) : Prop :=
  match o with
  | .nx env S => ∀ ρ' H' σ', Ext ρ H ρ' H' → Wok K mg ρ' S H' → EnvOk K ρ' H' env σ' → D.nx σ' H'
  | .ret u S => ∀ ρ' H' v, Ext ρ H ρ' H' → Wok K mg ρ' S H' → RelU K ρ' H' u v → D.rt v H'
  | .bk env S => ∀ ρ' H' σ', Ext ρ H ρ' H' → Wok K mg ρ' S H' → EnvOk K ρ' H' env σ' → D.bk σ' H'
  | .ct env S => ∀ ρ' H' σ', Ext ρ H ρ' H' → Wok K mg ρ' S H' → EnvOk K ρ' H' env σ' → D.ct σ' H'
  | .exc c fs S => ∀ ρ' H' C d vfs, Ext ρ H ρ' H' → Wok K mg ρ' S H' → mg c = some (.ref C) → H' d = some (.xd vfs) → RelF K ρ' H' fs vfs → W (.ref C) (some d) H'
  | .bad => False
noncomputable def tS (X : Cx) (Φ : Cal) (W : XK) (s : St) : TS := fun D σ H => ∃ ρ S env, Wok X.K X.mg ρ S H ∧ EnvOk X.K ρ H env σ ∧ PostS X.mg X.K W ρ H (ex Φ s env S) D
noncomputable def tB (X : Cx) (Φ : Cal) (W : XK) (s : Sts) : TS := fun D σ H => ∃ ρ S env, Wok X.K X.mg ρ S H ∧ EnvOk X.K ρ H env σ ∧ PostS X.mg X.K W ρ H (exs Φ s env S) D
theorem PSw {s : Stmt} {t t' : TS} (h : PS X s t) (i : ∀ D σ H, t' D σ H → t D σ H) : PS X s t' := ⟨fun pins s σ H D I q => h.run pins s σ H D I (i _ _ _ q)⟩
theorem PSsw {s : List Stmt} {t t' : TS} (h : PSs X s t) (i : ∀ D σ H, t' D σ H → t D σ H) : PSs X s t' := ⟨fun pins s σ H D I q => h.run pins s σ H D I (i _ _ _ q)⟩
section
variable {K : PySem.W.Frag} {mg : Str → Option Value}
theorem PostS.ext {ρ ρ1 : List Addr} {H H1 : Hp} {r : O} {D : Ends} (e : Ext ρ H ρ1 H1) (h : PostS mg K W ρ H r D) : PostS mg K W ρ1 H1 r D := by
  cases r with
  | nx a S => exact fun ρ' H' b e' w r => h ρ' H' b (e.trans e') w r
  | ret a S => exact fun ρ' H' b e' w r => h ρ' H' b (e.trans e') w r
  | bk a S => exact fun ρ' H' b e' w r => h ρ' H' b (e.trans e') w r
  | ct a S => exact fun ρ' H' b e' w r => h ρ' H' b (e.trans e') w r
  | exc c fs S => exact fun ρ' H' C d vfs e' w m x r => h ρ' H' C d vfs (e.trans e') w m x r
  | bad => exact h
theorem PostS.here {ρ : List Addr} {S : Sto} {H : Hp} {env : Env} {σ : L2.St} {D : Ends} (h : PostS mg K W ρ H (.nx env S) D) (w : Wok K mg ρ S H) (r : EnvOk K ρ H env σ) : D.nx σ H := h ρ H σ Ext.refl w r
theorem PostS.on {α β : Type} {Rr : List Addr → Hp → α → β → Prop} {ρ : List Addr} {H : Hp} {r : R α} {f : α → Sto → O} {D : Ends} (h : PostS mg K W ρ H (r.on f) D) :
    Post mg K Rr W ρ H r fun b H1 => ∃ ρ1 S1 a, Ext ρ H ρ1 H1 ∧ Wok K mg ρ1 S1 H1 ∧ Rr ρ1 H1 a b ∧ PostS mg K W ρ1 H1 (f a S1) D := by
  cases r with
  | ok a S => exact fun ρ' H' b e w r => ⟨ρ', S, a, e, w, r, PostS.ext e h⟩
  | exc c fs S => exact h
  | bad => exact h
/-- what stands behind a statement -/
noncomputable def nxOf (mg : Str → Option Value) (K : PySem.W.Frag) (W : XK) (f : Env → Sto → O) (D : Ends) : L2.St → Hp → Prop := fun σ H1 => ∃ ρ1 S1 env1, Wok K mg ρ1 S1 H1 ∧ EnvOk K ρ1 H1 env1 σ ∧ PostS mg K W ρ1 H1 (f env1 S1) D
theorem PostS.then_ {ρ : List Addr} {H : Hp} {r : O} {f : Env → Sto → O} {D : Ends} (h : PostS mg K W ρ H (r.then_ f) D) : PostS mg K W ρ H r { D with nx := nxOf mg K W f D } := by
  cases r with
  | nx a S => exact fun ρ' H' b e' w r => ⟨ρ', S, a, w, r, PostS.ext e' h⟩
  | ret a S => exact h
  | bk a S => exact h
  | ct a S => exact h
  | exc c fs S => exact h
  | bad => exact h
end
theorem b_nil : PSs X [] (tB X Φ W .nil) := PSsw pss_nil fun D σ H ⟨ρ, S, env, w, eo, h⟩ => by rw [exs] at h; exact h.here w eo
theorem b_cons {st : Stmt} {sts : List Stmt} {ts : St} {tb : Sts} (h1 : PS X st (tS X Φ W ts)) (h2 : PSs X sts (tB X Φ W tb)) : PSs X (st :: sts) (tB X Φ W (.cons ts tb)) :=
  PSsw (pss_cons h1 h2) fun D σ H ⟨ρ, S, env, w, eo, h⟩ => by rw [exs] at h; exact ⟨ρ, S, env, w, eo, h.then_⟩
theorem x_ex (ha : PE X a (tE X Φ W ta)) (hs : swapsWith a none pos.line X.env = pure false := by rfl) : PS X (.Expr a pos) (tS X Φ W (.ex ta)) :=
  PSw (ps_expr ha hs) fun D σ H ⟨ρ, S, env, w, eo, h⟩ => by
    rw [ex] at h
    exact ⟨ρ, S, env, w, eo, (PostS.on h).imp fun x H1 ⟨ρ1, S1, u, e1, w1, r1, h1⟩ => h1.here w1 (eo.mono e1)⟩
theorem x_ret (ha : PE X a (tE X Φ W ta)) : PS X (.Return (some a) pos) (tS X Φ W (.ret ta)) :=
  PSw (ps_ret ha) fun D σ H ⟨ρ, S, env, w, eo, h⟩ => by
    rw [ex] at h
    exact ⟨ρ, S, env, w, eo, (PostS.on h).imp fun x H1 ⟨ρ1, S1, u, e1, w1, r1, h1⟩ => h1 ρ1 H1 x Ext.refl w1 r1⟩
theorem x_if {sa sb : List Stmt} {tsa tsb : Sts} (hc : PT X c (tTs X Φ W tc)) (ha : PSs X sa (tB X Φ W tsa)) (hb : PSs X sb (tB X Φ W tsb)) : PS X (.If c sa sb pos) (tS X Φ W (.if_ tc tsa tsb)) :=
  PSw (ps_if hc ha hb) fun D σ H ⟨ρ, S, env, w, eo, h⟩ => by
    rw [ex] at h
    refine ⟨ρ, S, env, w, eo, (PostS.on (Rr := Rid) h).imp fun x H1 ⟨ρ1, S1, u, e1, w1, r1, h1⟩ => ?_⟩
    cases r1
    cases x with
    | true => exact iteT ⟨ρ1, S1, env, w1, eo.mono e1, h1⟩
    | false => exact iteF ⟨ρ1, S1, env, w1, eo.mono e1, h1⟩
theorem set_nx {tp : Bool} {is : List Nat} {D : Ends} {σ : L2.St} {H H1 : Hp} {ρ ρ1 : List Addr} {S1 : Sto} {env : Env} {u : U} {x : V} (e1 : Ext ρ H ρ1 H1) (eo : EnvOk X.K ρ H env σ) (w1 : Wok X.K X.mg ρ1 S1 H1) (r1 : RelU X.K ρ1 H1 u x)
    (h1 : PostS X.mg X.K W ρ1 H1 (match setN tp is u env with | some env => O.nx env S1 | none => .bad) D) : gOf X.K tp is x σ H1 D.nx := by
  split at h1
  · rename_i env' he
    exact g_ok he (eo.mono e1) r1 fun σ' eo' _ => h1.here w1 eo'
  · exact h1.elim
theorem x_set (i : Nat) {x : Str} {px : Pos} (hN : X.N.Nodup) (ha : PE X a (tE X Φ W ta)) (hi : X.N[i]? = some x := by rfl) (hx : Loc X.env.scope x := by first | exact Or.inl rfl | exact Or.inr rfl) (hs : swapsWith a (some (.Name x px)) pos.line X.env = pure false := by rfl)
    (hf : X.fn x = true ∨ X.env.scope.names.lookup x = some .local := by first | exact .inl rfl | exact .inr rfl) : PS X (.Assign [.Name x px] a pos) (tS X Φ W (.set false [i] ta)) :=
  PSw (ps_set hN hi hx ha hs hf) fun D σ H ⟨ρ, S, env, w, eo, h⟩ => by
    rw [ex] at h
    exact ⟨ρ, S, env, w, eo, (PostS.on h).imp fun x H1 ⟨ρ1, S1, u, e1, w1, r1, h1⟩ => set_nx (tp := false) (is := [i]) e1 eo w1 r1 h1⟩
theorem x_tup {is : List Nat} {k : Nat} {pt : Pos} (hc : X.calm = true) (ha : PE X a (tE X Φ W ta)) (hg : PGs X es (gsOf is)) (hn : (assignEach es X.env).length = is.length := by rfl) (hst : (assignEach es X.env).findIdx? (·.1) = none := by rfl)
    (hs : swapsWithSole [.Tuple es k pt] a pos.line X.env = pure false := by rfl) (hw : swappedStores [.Tuple es k pt] a X.env = pure none := by rfl) (h1 : (assignEach [.Tuple es k pt] X.env).map (·.2) = [assign (.Tuple es k pt) X.env] := by rfl) :
    PS X (.Assign [.Tuple es k pt] a pos) (tS X Φ W (.set true is ta)) :=
  PSw (ps_asg ha (g_tup hc hg hn hst) hs hw h1) fun D σ H ⟨ρ, S, env, w, eo, h⟩ => by
    rw [ex] at h
    exact ⟨ρ, S, env, w, eo, (PostS.on h).imp fun x H1 ⟨ρ1, S1, u, e1, w1, r1, h1⟩ => set_nx (tp := true) (is := is) e1 eo w1 r1 h1⟩
/-- name = [..] on one line -/
theorem x_setLc (O : Ok X p nm ad d W) (i : Nat) (tp : Bool) (own : List (Str × Nat)) {y : Str} {py spos : Pos} {elt tg iter : Expr} {ifs : List Expr} {scope : Scope} {it : E} {tx : T} (hN : X.N.Nodup) (hi : PE X iter (tE X Φ W it)) (ok : BlkOk X.N X.env.scope scope own)
    (hg : ∀ (s : Shared) (H : Hp) (C : Addr) (cl : List (Str × Addr)) (fp : List Addr), PG (X.blk s H scope (compEnvC scope cl C X.env) fp) tg (gOf X.K tp (own.map (·.2))))
    (ht : ∀ (s : Shared) (H : Hp) (C : Addr) (cl : List (Str × Addr)) (fp : List Addr), PTs (X.blk s H scope (compEnvC scope cl C X.env) fp) ifs (tTs X Φ W0 tx))
    (he : ∀ (s : Shared) (H : Hp) (C : Addr) (cl : List (Str × Addr)) (fp : List Addr), PE (X.blk s H scope (compEnvC scope cl C X.env) fp) elt (tE X Φ W0 te))
    (hsw : swapsWith (.ListComp elt [⟨tg, iter, ifs, 0⟩] scope pos) (some (.Name y py)) spos.line X.env = pure true) (hy : X.N[i]? = some y := by rfl) (hyl : X.env.scope.names.lookup y = some .local := by rfl) (hs : ∀ x, foldedSetIterable iter X.env x = pure x := by intro _; rfl) :
    PS X (.Assign [.Name y py] (.ListComp elt [⟨tg, iter, ifs, 0⟩] scope pos) spos) (tS X Φ W (.set false [i] (.lc (own.map (·.2)) tp te it tx))) :=
  PSw (ps_setLc O.calm hN hy hyl hsw (pi_any hi) ok hg ht he hs) fun D σ H ⟨ρ, S, env, w, eo, h⟩ => by
    rw [ex] at h
    exact lc_read ⟨ρ, S, env, w, eo, (PostS.on h).imp fun x H1 ⟨ρ1, S1, u, e1, w1, r1, h1⟩ => set_nx (tp := false) (is := [i]) e1 eo w1 r1 h1⟩
theorem x_setLcz (O : Ok X p nm ad d W) (i : Nat) (own : List (Str × Nat)) {y : Str} {py spos : Pos} {elt e1 e2 : Expr} {ifs : List Expr} {scope : Scope} {tx : T} {elts : List Expr} {kk : Nat} {tpos pz pc : Pos} (hN : X.N.Nodup) (ha : PA X [e1, e2] (tEs X Φ W tes)) (ok : BlkOk X.N X.env.scope scope own)
    (hg : ∀ (s : Shared) (H : Hp) (C : Addr) (cl : List (Str × Addr)) (fp : List Addr), PG (X.blk s H scope (compEnvC scope cl C X.env) fp) (.Tuple elts kk tpos) (gOf X.K true (own.map (·.2))))
    (ht : ∀ (s : Shared) (H : Hp) (C : Addr) (cl : List (Str × Addr)) (fp : List Addr), PTs (X.blk s H scope (compEnvC scope cl C X.env) fp) ifs (tTs X Φ W0 tx))
    (he : ∀ (s : Shared) (H : Hp) (C : Addr) (cl : List (Str × Addr)) (fp : List Addr), PE (X.blk s H scope (compEnvC scope cl C X.env) fp) elt (tE X Φ W0 te))
    (hsw : swapsWith (.ListComp elt [⟨.Tuple elts kk tpos, .Call (.Name "zip" pz) [e1, e2] [] pc, ifs, 0⟩] scope pos) (some (.Name y py)) spos.line X.env = pure true) (hz : Gl X "zip" := by rfl) (hm : ("zip" : Str) ∈ nm.bins := by decide +kernel)
    (hs1 : starEach [e1, e2] X.env = (false, eval e1 X.env) :: starEach [e2] X.env := by rfl) (hpl : (backTo pc (starEach [e2] X.env)).any (·.1) = false := by rfl) (hy : X.N[i]? = some y := by rfl) (hyl : X.env.scope.names.lookup y = some .local := by rfl) (hs : ∀ x, foldedSetIterable (.Call (.Name "zip" pz) [e1, e2] [] pc) X.env x = pure x := by intro _; rfl) :
    PS X (.Assign [.Name y py] (.ListComp elt [⟨.Tuple elts kk tpos, .Call (.Name "zip" pz) [e1, e2] [] pc, ifs, 0⟩] scope pos) spos) (tS X Φ W (.set false [i] (.lcz (own.map (·.2)) te tes tx))) :=
  PSw (ps_setLc O.calm hN hy hyl hsw (RZ.pi_zipA hz (O.sta.bin _ hm) ha hs1 hpl) ok hg ht he hs) fun D σ H ⟨ρ, S, env, w, eo, h⟩ => by
    rw [ex] at h
    exact lcz_read ⟨ρ, S, env, w, eo, (PostS.on h).imp fun x H1 ⟨ρ1, S1, u, e1, w1, r1, h1⟩ => set_nx (tp := false) (is := [i]) e1 eo w1 r1 h1⟩
theorem set_item : PSet X (fun o i v H Q => ∃ ρ S uo ui u, Wok X.K X.mg ρ S H ∧ RelU X.K ρ H uo o ∧ RelU X.K ρ H ui i ∧ RelU X.K ρ H u v ∧ Post X.mg X.K (Rid (α := Unit)) W ρ H (setItemU uo ui u S) (fun _ => Q)) := by
  rintro pins s σ H o i v ov iv u Q I ro ri rv ⟨ρ, S, uo, ui, uu, w, r1, r2, r3, h⟩
  unfold setItemU at h
  split at h
  · obtain ⟨a, rfl, ha⟩ := r1.loc
    cases r2.int
    split at h
    · rename_i xs hx
      split at h
      · rename_i j hj
        obtain ⟨vs, e, q⟩ := w.at_ hx ha
        exact set_list pins s σ H _ _ v ov iv u Q I ro ri rv ⟨a, vs, _, j, rfl, rfl, e, by rw [q.length]; exact hj, h.set w ha hx e (q.set r3 j) fun _ _ => rfl⟩
      · exact h.elim
    · exact h.elim
  · exact h.elim
theorem x_sub {i : Expr} {ti : E} {pt : Pos} (hc : PE X c (tE X Φ W te)) (ho : PE X o (tE X Φ W to)) (hi : PE X i (tE X Φ W ti)) (hs : swapsWithSole [.Subscript o i pt] c pos.line X.env = pure false := by rfl) (hw : swappedStores [.Subscript o i pt] c X.env = pure none := by rfl)
    (h1 : (assignEach [.Subscript o i pt] X.env).map (·.2) = [assign (.Subscript o i pt) X.env] := by rfl)
    (ha : ∀ v, assign (.Subscript o i pt) X.env v = (do
      let ov ← holding [v] (eval o X.env)
      let iv ← holding [v, ov] (eval i X.env)
      standAt pt
      holding [v, ov, iv] (setItem ov iv v)
      release [v, ov, iv] []) := by intro _; rfl) : PS X (.Assign [.Subscript o i pt] c pos) (tS X Φ W (.sub to ti te)) :=
  PSw (ps_asg hc (pg_sub ho hi (set_item (W := W)) ha) hs hw h1) fun D σ H ⟨ρ, S, env, w, eo, h⟩ => by
    rw [ex] at h
    refine ⟨ρ, S, env, w, eo, (PostS.on h).imp fun x H1 ⟨ρ1, S1, u, e1, w1, r1, h1⟩ => ⟨ρ1, S1, env, w1, eo.mono e1, (PostS.on h1).imp fun y H2 ⟨ρ2, S2, u2, e2, w2, r2, h2⟩ => ⟨ρ2, S2, env, w2, (eo.mono e1).mono e2, (PostS.on h2).imp fun z H3 ⟨ρ3, S3, u3, e3, w3, r3, h3⟩ => ?_⟩⟩⟩
    refine ⟨ρ3, S3, u2, u3, u, w3, r2.mono e3, r3, (r1.mono e2).mono e3, (PostS.on (Rr := Rid) h3).imp fun _ H4 ⟨ρ4, S4, _, e4, w4, _, h4⟩ => ?_⟩
    exact h4.here w4 ((((eo.mono e1).mono e2).mono e3).mono e4)
theorem aug_ip (op : Op) : PIp X (opOf op) (r2 X W (augU op)) := by
  rintro pins s σ H x y v u Q I rx ry ⟨ρ, S, a, b, w, ra, rb, h⟩
  unfold augU at h
  split at h
  · cases ra.int; cases rb.int
    exact iop_add pins s σ H _ _ v u Q I rx ry ⟨_, _, rfl, rfl, h.here w relInt⟩
  · cases ra.str; cases rb.str
    split at h
    · rename_i hz
      exact iop_add_str pins s σ H _ _ v u Q I rx ry ⟨_, _, rfl, rfl, hz, h.here w relStr⟩
    · exact h.elim
  · cases ra.int; cases rb.int
    exact iop_sub pins s σ H _ _ v u Q I rx ry ⟨_, _, rfl, rfl, h.here w relInt⟩
  · cases ra.int; cases rb.int
    split at h
    · rename_i hz
      exact iop_mul pins s σ H _ _ v u Q I rx ry ⟨_, _, rfl, rfl, hz, h.here w relInt⟩
    · exact h.elim
  · exact h.elim
theorem fld_put (O : Ok X p nm ad d W) {C f : Str} (hC : C ∈ nm.owns) {uo u : U} {x y : V} {H : Hp} {ρ : List Addr} {S : Sto} {Q : Hp → Prop} (w : Wok X.K X.mg ρ S H) (r1 : RelU X.K ρ H uo x) (r2 : RelU X.K ρ H u y) (h : Post X.mg X.K (Rid (α := Unit)) W ρ H (setFldU uo C f u S) (fun _ => Q)) :
    ∃ a dx vfs, x = .ref a ∧ H a = some (.ins (ad C) dx vfs) ∧ vfs.length < 1000 ∧ Q (upd H a (.ins (ad C) dx (putF f y vfs))) := by
  unfold setFldU at h
  split at h
  · split at h
    · rename_i hn
      split at h
      · rename_i hD
        obtain ⟨hD, hl⟩ := hD
        rw [hD] at hn
        obtain ⟨a, dx, vfs, rfl, hn', e, q⟩ := ins_at O hC w r1 hn
        have x := Ext.write (ρ := ρ) (o := .ins (ad C) dx (putF f y vfs)) (ins_mut e)
        refine ⟨a, dx, vfs, rfl, e, by rw [← q.length]; omega, h ρ _ () x (w.write hn' hn rfl rfl (ins_mut e) ?_) rfl⟩
        exact ⟨_, dx, _, (O.sta.own _ hC).1, upd_same, (q.put r2).mono x⟩
      · exact h.elim
    · exact h.elim
  · exact h.elim
theorem x_fset (O : Ok X p nm ad d W) (C : Str) {f : Str} {pf : Pos} (ho : PE X o (tE X Φ W to)) (ha : PE X a (tE X Φ W ta)) (hC : C ∈ nm.owns := by decide +kernel) (hf : (C, f) ∈ nm.flds := by decide +kernel) (hs : swapsWith a (some (.Attribute o f pf)) pos.line X.env = pure false := by rfl) :
    PS X (.Assign [.Attribute o f pf] a pos) (tS X Φ W (.fset to C f ta)) :=
  PSw (ps_fld ho ha hs) fun D σ H ⟨ρ, S, env, w, eo, h⟩ => by
    rw [ex] at h
    refine ⟨ρ, S, env, w, eo, (PostS.on h).imp fun y H1 ⟨ρ1, S1, u, e1, w1, r1, h1⟩ => ⟨ρ1, S1, env, w1, eo.mono e1, (PostS.on h1).imp fun x H2 ⟨ρ2, S2, u2, e2, w2, r2, h2⟩ => ?_⟩⟩
    obtain ⟨q, dx, vfs, rfl, e, hl, hq⟩ := fld_put O hC w2 r2 (r1.mono e2) ((PostS.on (Rr := Rid) h2).imp (Q' := fun _ H3 => ∃ ρ3 S3, Ext ρ2 H2 ρ3 H3 ∧ Wok X.K X.mg ρ3 S3 H3 ∧ PostS X.mg X.K W ρ3 H3 (.nx env S3) D) fun _ H3 ⟨r, s, _, a, b, _, c⟩ => ⟨r, s, a, b, c⟩)
    obtain ⟨ρ3, S3, e3, w3, h3⟩ := hq
    exact ⟨q, ad C, dx, vfs, rfl, e, (O.sta.own C hC).2, O.sta.fld C f hf, hl, h3.here w3 (((eo.mono e1).mono e2).mono e3)⟩
theorem x_faug (O : Ok X p nm ad d W) (op : Op) (C : Str) {f : Str} {pf : Pos} (ho : PE X o (tE X Φ W to)) (ha : PE X a (tE X Φ W ta)) (hC : C ∈ nm.owns := by decide +kernel) (hf : (C, f) ∈ nm.flds := by decide +kernel) :
    PS X (.AugAssign (.Attribute o f pf) (opOf op) a pos) (tS X Φ W (.faug to C f op ta)) :=
  PSw (ps_fldaug ho ha (rd := r2 X W (augU op)) (aug_ip op)) fun D σ H ⟨ρ, S, env, w, eo, h⟩ => by
    rw [ex] at h
    refine ⟨ρ, S, env, w, eo, (PostS.on h).imp fun x H1 ⟨ρ1, S1, u, e1, w1, r1, h1⟩ => ?_⟩
    split at h1
    · split at h1
      · rename_i hn
        split at h1
        · rename_i hD
          subst hD
          split at h1
          · rename_i u0 hu
            obtain ⟨q, dx, vfs, rfl, hn', e, qq⟩ := ins_at O hC w1 r1 hn
            obtain ⟨v0, l, rv⟩ := (qq.look (f := f)).1 u0 hu
            refine ⟨q, _, dx, vfs, v0, rfl, e, (O.sta.own _ hC).2, O.sta.fld _ f hf, l, ρ1, S1, env, w1, eo.mono e1, (PostS.on h1).imp fun y H2 ⟨ρ2, S2, u2, e2, w2, r2, h2⟩ => ⟨ρ2, S2, u0, u2, w2, rv.mono e2, r2, (PostS.on h2).imp fun z H3 ⟨ρ3, S3, u3, e3, w3, r3, h3⟩ => ?_⟩⟩
            obtain ⟨q', dx', vfs', eq', e', hl, hq⟩ := fld_put O hC w3 (relLoc (e3.at_ (e2.at_ hn'))) r3 ((PostS.on (Rr := Rid) h3).imp (Q' := fun _ H4 => ∃ ρ4 S4, Ext ρ3 H3 ρ4 H4 ∧ Wok X.K X.mg ρ4 S4 H4 ∧ PostS X.mg X.K W ρ4 H4 (.nx env S4) D) fun _ H4 ⟨r, s, _, a, b, _, c⟩ => ⟨r, s, a, b, c⟩)
            cases eq'
            obtain ⟨ρ4, S4, e4, w4, h4⟩ := hq
            exact ⟨dx', vfs', e', hl, h4.here w4 ((((eo.mono e1).mono e2).mono e3).mono e4)⟩
          · exact h1.elim
        · exact h1.elim
      · exact h1.elim
    · exact h1.elim
noncomputable def tG (X : Cx) (Φ : Cal) (W : XK) (t : Tg) : TG := fun v σ H Q => ∃ ρ S env u, Wok X.K X.mg ρ S H ∧ EnvOk X.K ρ H env σ ∧ RelU X.K ρ H u v ∧ Post X.mg X.K (EnvOk X.K) W ρ H (setT Φ t u env S) Q
noncomputable def tGs (X : Cx) (Φ : Cal) (W : XK) (t : Tgs) : TGs := fun vs σ H Q => ∃ ρ S env us, Wok X.K X.mg ρ S H ∧ EnvOk X.K ρ H env σ ∧ RelUs X.K ρ H us vs ∧ Post X.mg X.K (EnvOk X.K) W ρ H (setTs Φ t us env S) Q
theorem PGw {e : Expr} {t t' : TG} (h : PG X e t) (i : ∀ v σ H Q, t' v σ H Q → t v σ H Q) : PG X e t' := ⟨fun pins s σ H v u Q I r q => h.run pins s σ H v u Q I r (i _ _ _ _ q)⟩
theorem PGsw {e : List Expr} {t t' : TGs} (h : PGs X e t) (i : ∀ v σ H Q, t' v σ H Q → t v σ H Q) : PGs X e t' := ⟨fun pins s σ H v u Q I r q => h.run pins s σ H v u Q I r (i _ _ _ _ q)⟩
theorem gt_nm (i : Nat) {x : Str} (hN : X.N.Nodup) (hi : X.N[i]? = some x := by rfl) (hx : Loc X.env.scope x := by first | exact Or.inl rfl | exact Or.inr rfl) (hf : X.fn x = true ∨ X.env.scope.names.lookup x = some .local := by first | exact .inl rfl | exact .inr rfl) : PG X (.Name x pos) (tG X Φ W (.nm i)) :=
  PGw (pg_name hN hi hx hf) fun v σ H Q ⟨ρ, S, env, u, w, eo, r, h⟩ => by
    rw [setT] at h
    exact h.here w (eo.set i r)
theorem gts_nil : PGs X [] (tGs X Φ W .nil) := PGsw pgs_nil fun v σ H Q ⟨ρ, S, env, us, w, eo, r, h⟩ => by
  cases us with
  | nil =>
    rw [setTs] at h
    simp only [RelUs] at r
    exact ⟨r, h.here w eo⟩
  | cons _ _ => exact h.elim
theorem gts_cons {t : Tg} {ts : Tgs} (h1 : PG X e (tG X Φ W t)) (h2 : PGs X es (tGs X Φ W ts)) (hs : (assignEach (e :: es) X.env).map (·.2) = assign e X.env :: (assignEach es X.env).map (·.2) := by rfl) : PGs X (e :: es) (tGs X Φ W (.cons t ts)) :=
  PGsw (pgs_cons h1 h2 hs) fun v σ H Q ⟨ρ, S, env, us, w, eo, r, h⟩ => by
    cases us with
    | nil => exact h.elim
    | cons u us =>
      rw [setTs] at h
      simp only [RelUs] at r
      obtain ⟨v1, vs1, rfl, r1, r2⟩ := r
      exact ⟨v1, vs1, rfl, ρ, S, env, u, w, eo, r1, (Post.bind h).imp fun σ' H' ⟨ρ1, S1, env1, e1, w1, eo1, h1⟩ => ⟨ρ1, S1, env1, us, w1, eo1, r2.mono e1, h1⟩⟩
theorem setT_tp {ts : Tgs} {u : U} {env : Env} {S : Sto} : setT Φ (.tp ts) u env S = (match u with
      | .tup us => if us.length = ts.len then setTs Φ ts us env S else .bad
      | _ => .bad) := by cases u <;> simp [setT]
theorem gt_tp {ts : Tgs} {k : Nat} (hc : X.calm = true) (h : PGs X es (tGs X Φ W ts)) (hn : (assignEach es X.env).length = ts.len := by rfl) (hst : (assignEach es X.env).findIdx? (·.1) = none := by rfl) : PG X (.Tuple es k pos) (tG X Φ W (.tp ts)) :=
  PGw (pg_tup hc h hn hst) fun v σ H Q ⟨ρ, S, env, u, w, eo, r, h⟩ => by
    cases u with
    | tup us =>
      replace h : Post X.mg X.K (EnvOk X.K) W ρ H (if us.length = ts.len then setTs Φ ts us env S else .bad) Q := by rw [setT_tp] at h; exact h
      split at h
      · rename_i hl
        obtain ⟨a, vs, rfl, hq, hr⟩ := r.tup
        exact ⟨a, vs, rfl, hq, by rw [hr.length]; exact hl, ρ, S, env, us, w, eo, hr, h⟩
      · exact h.elim
    | _ =>
      rw [setT_tp] at h
      exact h.elim
theorem x_tset {t : Tg} {tgt : Expr} (ha : PE X a (tE X Φ W ta)) (hg : PG X tgt (tG X Φ W t)) (hs : swapsWithSole [tgt] a pos.line X.env = pure false := by rfl) (hw : swappedStores [tgt] a X.env = pure none := by rfl) (h1 : (assignEach [tgt] X.env).map (·.2) = [assign tgt X.env] := by rfl) :
    PS X (.Assign [tgt] a pos) (tS X Φ W (.tset t ta)) :=
  PSw (ps_asg ha hg hs hw h1) fun D σ H ⟨ρ, S, env, w, eo, h⟩ => by
    rw [ex] at h
    refine ⟨ρ, S, env, w, eo, (PostS.on h).imp fun x H1 ⟨ρ1, S1, u, e1, w1, r1, h1⟩ => ⟨ρ1, S1, env, u, w1, eo.mono e1, r1, (PostS.on h1).imp fun σ' H2 ⟨ρ2, S2, env2, e2, w2, r2, h2⟩ => ?_⟩⟩
    exact h2.here w2 r2
theorem PostS.turn {K : PySem.W.Frag} {mg : Str → Option Value} {ρ : List Addr} {H : Hp} {r : O} {f : Env → Sto → O} {D : Ends} {N : L2.St → Hp → Prop} (h : PostS mg K W ρ H (r.turn f) D)
    (hN : ∀ ρ1 S1 env1 σ H1, Ext ρ H ρ1 H1 → Wok K mg ρ1 S1 H1 → EnvOk K ρ1 H1 env1 σ → PostS mg K W ρ1 H1 (f env1 S1) D → N σ H1) : PostS mg K W ρ H r { D with nx := N, ct := N, bk := D.nx } := by
  cases r with
  | nx a S => exact fun ρ' H' b e' w r => hN ρ' S a b H' e' w r (PostS.ext e' h)
  | ret a S => exact h
  | bk a S => exact h
  | ct a S => exact fun ρ' H' b e' w r => hN ρ' S a b H' e' w r (PostS.ext e' h)
  | exc c fs S => exact h
  | bad => exact h
theorem x_while (O : Ok X p nm ad d W) {body : List Stmt} {tb : Sts} (hc : PT X c (tTs X Φ W tc)) (hb : PSs X body (tB X Φ W tb)) : PS X (.While c body [] pos) (tS X Φ W (.while_ tc tb)) :=
  PSw (ps_while O.own hc hb) fun D σ H ⟨ρ, S, env, w, eo, h⟩ => by
    rw [ex] at h
    refine ⟨fun n σ H => ∃ ρ S env, Wok X.K X.mg ρ S H ∧ EnvOk X.K ρ H env σ ∧ PostS X.mg X.K W ρ H (loopI (fun env S => evt Φ tc env S) (fun env S => exs Φ tb env S) n env S) D, ⟨fuel, ρ, S, env, w, eo, h⟩, ?_⟩
    rintro n σ H ⟨ρ, S, env, w, eo, h⟩
    cases n with
    | zero => exact h.elim
    | succ n =>
      unfold loopI at h
      refine ⟨ρ, S, env, w, eo, (PostS.on (Rr := Rid) h).imp fun x H1 ⟨ρ1, S1, u, e1, w1, r1, h1⟩ => ?_⟩
      cases r1
      cases x with
      | true =>
        refine iteT ⟨fun σ H => ∃ ρ S env, Wok X.K X.mg ρ S H ∧ EnvOk X.K ρ H env σ ∧ PostS X.mg X.K W ρ H (loopI (fun env S => evt Φ tc env S) (fun env S => exs Φ tb env S) n env S) D, fun σ' H' q => ⟨n, Nat.lt_succ_self n, q⟩, ρ1, S1, env, w1, eo.mono e1, ?_⟩
        exact PostS.turn h1 fun ρ2 S2 env2 σ2 H2 _ w2 eo2 h2 => ⟨ρ2, S2, env2, w2, eo2, h2⟩
      | false => exact iteF (h1.here w1 (eo.mono e1))
theorem for_turns {tp : Bool} {is : List Nat} {tb : Sts} {J : It} {all : List U} {src : Option Nat} {ρ1 : List Addr} {S1 : Sto} {H1 : Hp} {σ : L2.St} {env : Env} {D : Ends} (w1 : Wok X.K X.mg ρ1 S1 H1) (eo : EnvOk X.K ρ1 H1 env σ) (hg : Goes X.K X.mg J all src ρ1 H1)
    (h : PostS X.mg X.K W ρ1 H1 (forI tp is (fun env S => exs Φ tb env S) all src all env S1) D) :
    ∃ W' : Nat → Nat → L2.St → Hp → Prop, (∃ m, W' 0 m σ H1) ∧ ∀ i m σ H, W' i m σ H → (J.stop i H ∧ D.nx σ H) ∨ (J.go i H ∧ ∃ N : L2.St → Hp → Prop, (∀ σ' H', N σ' H' → ∃ m', m' < m ∧ W' (i + 1) m' σ' H') ∧ ∀ x H', J.yld i H x H' → gOf X.K tp is x σ H' fun σ2 H2 => tB X Φ W tb { D with nx := N, ct := N, bk := D.nx } σ2 H2) := by
  let Inv' : Nat → L2.St → Hp → Prop := fun i σ H => i ≤ all.length ∧ ∃ ρ S env, Ext ρ1 H1 ρ H ∧ Wok X.K X.mg ρ S H ∧ EnvOk X.K ρ H env σ ∧ PostS X.mg X.K W ρ H (forI tp is (fun env S => exs Φ tb env S) all src (all.drop i) env S) D
  refine ⟨fun i m σ H => m = all.length - i ∧ Inv' i σ H, ⟨_, rfl, Nat.zero_le _, _, _, env, Ext.refl, w1, eo, by simpa using h⟩, ?_⟩
  rintro i m σ H ⟨rfl, hi, ρ, S, env, ex, w, eo, hp⟩
  by_cases hlt : i < all.length
  · refine .inr ?_
    rw [List.drop_eq_getElem_cons hlt] at hp
    unfold forI at hp
    split at hp
    · rename_i hst
      obtain ⟨hgo, hy⟩ := (hg ρ S H i ex w hst).1 hlt
      refine ⟨hgo, Inv' (i + 1), fun σ' H' q => ⟨all.length - (i + 1), by omega, rfl, q⟩, fun x H' yl => ?_⟩
      obtain ⟨rfl, u, hu, ru⟩ := hy x H' yl
      rw [List.getElem?_eq_getElem hlt] at hu
      cases hu
      split at hp
      · rename_i env' he
        refine g_ok he eo ru fun σ2 eo2 _ => ⟨ρ, S, env', w, eo2, ?_⟩
        exact PostS.turn hp fun ρ2 S2 env2 σ2 H2 x2 w2 eo2 h2 => ⟨hlt, ρ2, S2, env2, ex.trans x2, w2, eo2, h2⟩
      · exact hp.elim
    · exact hp.elim
  · refine .inl ?_
    have e : i = all.length := by omega
    subst e
    rw [List.drop_length] at hp
    unfold forI at hp
    split at hp
    · rename_i hst
      exact ⟨(hg ρ S H _ ex w hst).2 (Nat.le_refl _), hp.here w eo⟩
    · exact hp.elim
theorem x_for (O : Ok X p nm ad d W) (tp : Bool) (is : List Nat) {tg iter : Expr} {it : E} {body : List Stmt} {tb : Sts} (hi : PE X iter (tE X Φ W it)) (hg : PG X tg (gOf X.K tp is)) (hb : PSs X body (tB X Φ W tb)) (hs : ∀ x, foldedSetIterable iter X.env x = pure x := by intro _; rfl) :
    PS X (.For tg iter body [] pos) (tS X Φ W (.for_ tp is it tb)) :=
  PSw (ps_for O.own O.calm (pi_any hi) hg hb hs) fun D σ H ⟨ρ, S, env, w, eo, h⟩ => by
    rw [ex] at h
    refine ⟨ρ, S, env, w, eo, (PostS.on h).imp fun x H1 ⟨ρ1, S1, u, e1, w1, r1, h1⟩ => ?_⟩
    split at h1
    · rename_i all src hi'
      exact ⟨ρ1, S1, u, all, src, w1, r1, hi', fun J hg => for_turns w1 (eo.mono e1) hg h1⟩
    · exact h1.elim
theorem x_forr (O : Ok X p nm ad d W) (i : Nat) {tg iter : Expr} {body : List Stmt} {ts : Sts} (hi : PI X tg iter (tR X Φ W ta tb)) (hg : PG X tg (gOf X.K false [i])) (hb : PSs X body (tB X Φ W ts)) (hs : ∀ x, foldedSetIterable iter X.env x = pure x := by intro _; rfl) :
    PS X (.For tg iter body [] pos) (tS X Φ W (.forr i ta tb ts)) :=
  PSw (ps_for O.own O.calm hi hg hb hs) fun D σ H ⟨ρ, S, env, w, eo, h⟩ => by
    rw [ex] at h
    refine ⟨ρ, S, env, w, eo, (PostS.on h).imp fun x H1 ⟨ρ1, S1, u, e1, w1, r1, h1⟩ => ⟨ρ1, S1, env, w1, eo.mono e1, (PostS.on h1).imp fun y H2 ⟨ρ2, S2, u2, e2, w2, r2, h2⟩ => ?_⟩⟩
    split at h2
    · split at h2
      · rename_i hb
        cases r1.int
        cases r2.int
        exact ⟨ρ2, S2, _, _, w2, rfl, rfl, hb, for_turns w2 ((eo.mono e1).mono e2) goes_rng h2⟩
      · exact h2.elim
    · exact h2.elim
section
/-- the items of a pattern, as they are written -/
inductive PisOk (X : Cx) : List Pattern → List Pi → Prop
  | nil : PisOk X [] []
  | lit {x : Str} {j : Nat} {p1 p2 : Pos} {ps : List Pattern} {qs : List Pi} : PisOk X ps qs → PisOk X (.MatchValue (.Constant (.str x) j p1) p2 :: ps) (.lit x :: qs)
  | cap {i : Nat} {x : Str} {p1 : Pos} {ps : List Pattern} {qs : List Pi} : X.N[i]? = some x → Loc X.env.scope x → (X.fn x = true ∨ X.env.scope.names.lookup x = some .local) → PisOk X ps qs → PisOk X (.MatchAs none (some x) p1 :: ps) (.cap i :: qs)
  | wild {p1 : Pos} {ps : List Pattern} {qs : List Pi} : PisOk X ps qs → PisOk X (.MatchAs none none p1 :: ps) (.wild :: qs)
/-- names that are bound in order lead from env to env' -/
inductive Caps (X : Cx) (ρ : List Addr) (H : Hp) : Env → List (Str × Value) → Env → Prop
  | nil {env : Env} : Caps X ρ H env [] env
  | cons {env env' : Env} {i : Nat} {x : Str} {u : U} {v : V} {w : Value} {bs : List (Str × Value)} : X.N[i]? = some x → Loc X.env.scope x → (X.fn x = true ∨ X.env.scope.names.lookup x = some .local) → RelU X.K ρ H u v → RelV v w → Caps X ρ H (env.set i (some u)) bs env' → Caps X ρ H env ((x, w) :: bs) env'
theorem caps_run (hN : X.N.Nodup) {ρ : List Addr} {H : Hp} {env env' : Env} {bs : List (Str × Value)} (c : Caps X ρ H env bs env') : ∀ {pins : List (Addr × Obj)} {s : Shared} {σ : L2.St} {Q : Unit → Shared → Prop}, L2.Inv X pins σ H s → EnvOk X.K ρ H env σ → (∀ s' σ', L2.Inv X pins σ' H s' → EnvOk X.K ρ H env' σ' → Q () s') →
    wpAny (model X.prog X.w) X.A (assignInOrder (bs.map fun (n, _) => bindName X.env n) (bs.map (·.2))) Q X.xe s := by
  induction c with
  | nil => exact fun I eo q => assignInOrder_nil (q _ _ I eo)
  | @cons env env' i x u v w bs hi hx hf ru rv _ ih =>
    intro pins s σ Q I eo q
    refine assignInOrder_cons (wpAny_bindName (store_ok I hN hi hx rv (fun s2 I2 => ?_) hf))
    exact ih I2 (eo.set i ru) q
theorem each_run {ρ : List Addr} {H : Hp} {ps : List Pattern} {qs : List Pi} (P : PisOk X ps qs) : ∀ {us : List U} {vs : List V} {xs : List Value} {env : Env} {res : Option Env} {pins : List (Addr × Obj)} {s : Shared} {σ : L2.St} {Q : Option (List (Str × Value)) → Shared → Prop}, pisM qs us env = some res → L2.Inv X pins σ H s → RelUs X.K ρ H us vs → Vals vs xs →
    (∀ s', L2.Inv X pins σ H s' → (res = none → Q none s') ∧ ∀ env' bs, res = some env' → Caps X ρ H env bs env' → Q (some bs) s') → wpAny (model X.prog X.w) X.A (matchEach ps X.env xs) Q X.xe s := by
  induction P with
  | nil =>
    intro us vs xs env res pins s σ Q h I r rv q
    cases us with
    | cons _ _ => simp [pisM] at h
    | nil =>
      simp only [pisM, Option.some.injEq] at h
      subst h
      simp only [RelUs] at r
      subst r
      cases rv
      exact wpAny_matchEach_nil ((q s I).2 env [] rfl .nil)
  | @lit x j p1 p2 ps qs _ ih =>
    intro us vs xs env res pins s σ Q h I r rv q
    cases us with
    | nil => simp [pisM] at h
    | cons u us =>
      simp only [RelUs] at r
      obtain ⟨v, vs', rfl, r1, r2⟩ := r
      cases rv with
      | @cons _ v0 _ xs' rv1 rv2 =>
        cases u with
        | str y =>
          simp only [pisM] at h
          cases r1.str
          refine wpAny_matchEach_cons (wpAny_matchPattern_Value ?_)
          have hp := (pe_str (X := X) (x := x) (j := j) (pos := p1)).run pins s σ H (fun v H1 => v = .str x ∧ H1 = H) I ⟨rfl, rfl⟩
          refine thn hp fun c s1 ⟨vc, H1, I1, rc, ec, eh⟩ => ?_
          subst ec eh
          have hc := op_eq (X := X) pins s1 σ H1 (.str y) (.str x) _ _ (fun v H2 => v = .bl (decide (y = x)) ∧ H2 = H1) I1 rv1 rc ⟨rfl, by simp⟩
          refine thn hc fun b s2 ⟨vb, H2, I2, rb, eb, eh⟩ => ?_
          subst eb eh
          obtain rfl : b = Value.bool (decide (y = x)) := rb
          refine wpAny_truthy_bool ?_
          by_cases hyx : y = x
          · rw [if_pos hyx] at h
            rw [decide_eq_true hyx]
            simp only [if_true]
            refine ih h I2 r2 rv2 fun s3 I3 => ⟨fun e => (q s3 I3).1 e, fun env' bs e c => ?_⟩
            exact (q s3 I3).2 env' ([] ++ bs) e c
          · rw [if_neg hyx] at h
            cases h
            rw [decide_eq_false hyx]
            exact (q s2 I2).1 rfl
        | _ => simp [pisM] at h
  | @cap i x p1 ps qs hi hx hf _ ih =>
    intro us vs xs env res pins s σ Q h I r rv q
    cases us with
    | nil => simp [pisM] at h
    | cons u us =>
      simp only [RelUs] at r
      obtain ⟨v, vs', rfl, r1, r2⟩ := r
      cases rv with
      | @cons _ v0 _ xs' rv1 rv2 =>
        simp only [pisM] at h
        refine wpAny_matchEach_cons (wpAny_matchPattern_Capture ?_)
        refine ih h I r2 rv2 fun s3 I3 => ⟨fun e => (q s3 I3).1 e, fun env' bs e c => ?_⟩
        exact (q s3 I3).2 env' _ e (.cons hi hx hf r1 rv1 c)
  | @wild p1 ps qs _ ih =>
    intro us vs xs env res pins s σ Q h I r rv q
    cases us with
    | nil => simp [pisM] at h
    | cons u us =>
      simp only [RelUs] at r
      obtain ⟨v, vs', rfl, r1, r2⟩ := r
      cases rv with
      | @cons _ v0 _ xs' rv1 rv2 =>
        have h' : pisM qs us env = some res := by cases u <;> simpa [pisM] using h
        refine wpAny_matchEach_cons (wpAny_matchPattern_Capture ?_)
        refine ih h' I r2 rv2 fun s3 I3 => ⟨fun e => (q s3 I3).1 e, fun env' bs e c => ?_⟩
        exact (q s3 I3).2 env' _ e c
/-- a pattern, as it is written -/
inductive PtOk (X : Cx) : Pattern → Pt → Prop
  | wild {p1 : Pos} : PtOk X (.MatchAs none none p1) .wild
  | val {x : Str} {j : Nat} {p1 p2 : Pos} : PtOk X (.MatchValue (.Constant (.str x) j p1) p2) (.val x)
  | seq {ps : List Pattern} {qs : List Pi} {p1 : Pos} : PisOk X ps qs → (ps.findIdx? (·.isStar) = none) → ((ps.all fun p => p.isWildcard || (p.isStar && p.names.isEmpty)) = false) → PtOk X (.MatchSequence ps p1) (.seq qs)
theorem PisOk.length {ps : List Pattern} {qs : List Pi} (h : PisOk X ps qs) : ps.length = qs.length := by
  induction h with
  | nil => rfl
  | lit _ ih => simp [ih]
  | cap _ _ _ _ ih => simp [ih]
  | wild _ ih => simp [ih]
theorem pat_run (hc : X.calm = true) {ρ : List Addr} {H : Hp} {p : Pattern} {t : Pt} (P : PtOk X p t) {u : U} {v : V} {x : Value} {env : Env} {res : Option Env} {pins : List (Addr × Obj)} {s : Shared} {σ : L2.St} {Q : Option (List (Str × Value)) → Shared → Prop} (h : ptM t u env = some res) (I : L2.Inv X pins σ H s) (r : RelU X.K ρ H u v) (rv : RelV v x)
    (q : ∀ s', L2.Inv X pins σ H s' → (res = none → Q none s') ∧ ∀ env' bs, res = some env' → Caps X ρ H env bs env' → Q (some bs) s') : wpAny (model X.prog X.w) X.A (matchPattern p X.env x) Q X.xe s := by
  cases P with
  | wild =>
    have h' : some (some env) = some res := by cases u <;> simpa [ptM] using h
    cases h'
    exact wpAny_matchPattern_Capture ((q s I).2 env [] rfl .nil)
  | @val y j p1 p2 =>
    cases u with
    | str z =>
      simp only [ptM, Option.some.injEq] at h
      subst h
      cases r.str
      refine wpAny_matchPattern_Value ?_
      have hp := (pe_str (X := X) (x := y) (j := j) (pos := p1)).run pins s σ H (fun v H1 => v = .str y ∧ H1 = H) I ⟨rfl, rfl⟩
      refine thn hp fun c s1 ⟨vc, H1, I1, rc, ec, eh⟩ => ?_
      subst ec eh
      have hc := op_eq (X := X) pins s1 σ H1 (.str z) (.str y) _ _ (fun v H2 => v = .bl (decide (z = y)) ∧ H2 = H1) I1 rv rc ⟨rfl, by simp⟩
      refine thn hc fun b s2 ⟨vb, H2, I2, rb, eb, eh⟩ => ?_
      subst eb eh
      obtain rfl : b = Value.bool (decide (z = y)) := rb
      refine wpAny_truthy_bool ?_
      by_cases hzy : z = y
      · rw [decide_eq_true hzy]
        exact (q s2 I2).2 env [] (if_pos hzy) .nil
      · rw [decide_eq_false hzy]
        exact (q s2 I2).1 (if_neg hzy)
    | _ => simp [ptM] at h
  | @seq ps qs p1 P hstar hwild =>
    cases u with
    | tup us =>
      simp only [ptM] at h
      obtain ⟨a, vs, rfl, hq, hr⟩ := r.tup
      cases rv
      obtain ⟨its, rits, ht, hz⟩ := I.tuple hq
      have hl : its.toArray.size = us.length := by
        rw [List.size_toArray, ← rits.length, hr.length]
      have hfit : ((its.toArray.size : Nat) : Int) < 2 ^ 63 := by
        rw [List.size_toArray, ← rits.length]
        have : sizeLine < 2 ^ 62 := by decide
        omega
      by_cases hn : us.length = qs.length
      · rw [if_pos hn] at h
        have hn' : its.toArray.size = ps.length := by rw [hl, hn, P.length]
        refine matchSeq_tuple_hit ht hfit hn' ?_ hstar hwild
        rw [← hn']
        refine wpAny_unpackItems_tuple (I.ok.hd hc) (show s.heap.IsTuple a its.toArray from ht) fun h' hx => ?_
        have I1 : L2.Inv X pins σ H { s with heap := h', toks := s.toks + 1 + 1 } := I.kept (t' := s.toks + 1 + 1) fun b o e => hx b o (Nat.ne_of_lt (Heap.lt_size e)) e
        exact each_run P h I1 hr (by simpa using rits) q
      · rw [if_neg hn] at h
        cases h
        have hn' : its.toArray.size ≠ ps.length := by rw [hl, P.length]; exact hn
        exact matchSeq_tuple_miss ht hfit hn' ((q _ (I.tok _)).1 rfl) hstar hwild
    | _ => simp [ptM] at h
noncomputable def tCs (X : Cx) (Φ : Cal) (W : XK) (cs : Cs) (v : V) : TS := fun D σ H => ∃ ρ S env u, Wok X.K X.mg ρ S H ∧ EnvOk X.K ρ H env σ ∧ RelU X.K ρ H u v ∧ PostS X.mg X.K W ρ H (exc Φ cs u env S) D
structure PCs (X : Cx) (cs : List MatchCase) (t : V → TS) : Prop where
  run : ∀ (first : Bool) (pins : List (Addr × Obj)) (s : Shared) (σ : L2.St) (H : Hp) (D : Ends) (v : V) (x : Value), L2.Inv X pins σ H s → RelV v x → t v D σ H → wpAny (model X.prog X.w) X.A (matchCases cs X.env x first) (SP X pins D) X.xe s
theorem c_nil : PCs X [] (tCs X Φ W .nil) := ⟨fun first pins s σ H D v x I rv ⟨ρ, S, env, u, w, eo, r, h⟩ => by
  rw [exc] at h
  exact wpAny_matchCases_nil ⟨σ, H, I, h.here w eo⟩⟩
theorem c_cons {p : Pattern} {t : Pt} {body : List Stmt} {cs : List MatchCase} {tb : Sts} {ts : Cs} (hc : X.calm = true) (hN : X.N.Nodup) (hp : PtOk X p t) (hb : PSs X body (tB X Φ W tb)) (hr : PCs X cs (tCs X Φ W ts)) : PCs X (⟨p, none, body⟩ :: cs) (tCs X Φ W (.cons t tb ts)) :=
  ⟨fun first pins s σ H D v x I rv ⟨ρ, S, env, u, w, eo, r, h⟩ => by
    rw [exc] at h
    refine wpAny_matchCases_cons ?_
    cases hm : ptM t u env with
    | none => rw [hm] at h; exact h.elim
    | some res =>
      rw [hm] at h
      refine pat_run hc hp hm I r rv fun s' I' => ⟨fun e => ?_, fun env' bs e c => ?_⟩
      · subst e
        exact hr.run false pins s' σ H D v x I' rv ⟨ρ, S, env, u, w, eo, r, h⟩
      · subst e
        refine caps_run hN c I' eo fun s2 σ2 I2 eo2 => ?_
        exact hb.run pins s2 σ2 H D I2 ⟨ρ, S, env', w, eo2, h⟩⟩
theorem x_match {cs : List MatchCase} {ts : Cs} (ha : PE X a (tE X Φ W ta)) (hcs : PCs X cs (tCs X Φ W ts)) : PS X (.Match a cs pos) (tS X Φ W (.mtch ta ts)) :=
  ⟨fun pins s σ H D I ⟨ρ, S, env, w, eo, h⟩ => by
    rw [ex] at h
    refine wpAny_Match (thn (ha.run pins s σ H _ I ⟨ρ, S, env, w, eo, PostS.on h⟩) fun x s1 ⟨v, H1, I1, rv, ρ1, S1, u, e1, w1, r1, h1⟩ => ?_)
    exact hcs.run true pins s1 σ H1 D v x I1 rv ⟨ρ1, S1, env, u, w1, eo.mono e1, r1, h1⟩⟩
end
end
end Oz
end
section
set_option maxHeartbeats 4000000
namespace Oz
open PySem PySem.Spec PyProof.Rows L2
end Oz
end
section
set_option maxHeartbeats 4000000
namespace Oz
open PySem PySem.Spec PyProof.Rows L2
section
variable {prog : Program} {w : World} {A : Around} {E : Value → Shared → Prop} {s : Shared}
structure ZpApart (z TI TO : Addr) (its ls : List Addr) : Prop where
  tiz : TI ≠ z
  toz : TO ≠ z
  tito : TI ≠ TO
  it : ∀ i ∈ its, i ≠ z ∧ i ≠ TI ∧ i ≠ TO
  nd : its.Nodup
  l : ∀ l ∈ ls, l ≠ z ∧ l ≠ TO ∧ ∀ i ∈ its, l ≠ i
  len : ls.length = its.length
/-- the first m have gone on -/
noncomputable def ItsAt (h : Heap) (its ls : List Addr) (m k : Nat) : Prop := ∀ (j : Nat) (i l : Addr), its[j]? = some i → ls[j]? = some l → h.IsTupleIter i l (if j < m then k + 1 else k)
noncomputable def Frame (z TO : Addr) (its : List Addr) (h h' : Heap) : Prop := h.objs.size ≤ h'.objs.size ∧ ∀ c o, c ≠ z → c ≠ TO → c ∉ its → h.get? c = some o → h'.get? c = some o
/-- the k-th items -/
noncomputable def RowAt (h : Heap) (ls : List Addr) (k : Nat) (xs : List Value) : Prop := xs.length = ls.length ∧ ∀ (j : Nat) (l : Addr) (x : Value), ls[j]? = some l → xs[j]? = some x → ∃ items, h.IsTuple l items ∧ items[k]? = some x
theorem ItsAt.next {h h' : Heap} {its ls : List Addr} {m k : Nat} {i l : Addr} (nd : its.Nodup) (a : ItsAt h its ls m k) (hi : its[m]? = some i) (hl : ls[m]? = some l) (hit : h'.IsTupleIter i l (k + 1)) (sb : Heap.SameBut i h h') : ItsAt h' its ls (m + 1) k := by
  intro j i' l' e1 e2
  by_cases hj : j = m
  · subst hj
    rw [hi] at e1
    rw [hl] at e2
    cases e1
    cases e2
    rw [if_pos (Nat.lt_succ_self _)]
    exact hit
  · have hne : i' ≠ i := fun q => hj ((List.getElem?_inj (List.getElem?_eq_some_iff.mp e1).1 nd).mp (by rw [e1, hi, q]))
    have := a j i' l' e1 e2
    have e3 : (if j < m + 1 then k + 1 else k) = (if j < m then k + 1 else k) := by
      by_cases h1 : j < m
      · rw [if_pos h1, if_pos (by omega)]
      · rw [if_neg h1, if_neg (by omega)]
    rw [e3]
    exact this.extBut sb.extBut hne
theorem RowAt.frame {z TI TO : Addr} {its ls : List Addr} {k : Nat} {xs : List Value} {h h' : Heap} (D : ZpApart z TI TO its ls) (r : RowAt h ls k xs) (f : Frame z TO its h h') : RowAt h' ls k xs := by
  refine ⟨r.1, fun j l x e1 e2 => ?_⟩
  obtain ⟨items, ⟨o, ho, q⟩, hx⟩ := r.2 j l x e1 e2
  obtain ⟨a1, a2, a3⟩ := D.l l (List.mem_of_getElem? e1)
  exact ⟨items, ⟨o, f.2 l o a1 a2 (fun hm => a3 l hm rfl) ho, q⟩, hx⟩
end
end Oz
end
section
set_option maxHeartbeats 4000000
namespace Oz
open PySem PySem.Spec PyProof.Rows L2
end Oz
end
section
set_option maxHeartbeats 4000000
namespace Oz
open PySem PySem.Spec PyProof.Rows L2
end Oz
end
section
set_option maxHeartbeats 4000000
namespace Oz
open PySem PySem.Spec PyProof.Rows L2
end Oz
end
section
set_option maxHeartbeats 4000000
namespace Oz
open PySem PySem.Spec PyProof.Rows L2
section
variable {X : Cx} {p : Pg} {nm : Names} {ad : Str → Addr} {d : Nat} {W : XK} {Φ : Cal} {pos : Pos}
theorem RelUs.reverse {K : PySem.W.Frag} {ρ : List Addr} {H : Hp} : ∀ {us : List U} {vs : List V}, RelUs K ρ H us vs → RelUs K ρ H us.reverse vs.reverse
  | [], vs, h => by simp only [RelUs] at h; subst h; simp [RelUs]
  | u :: us, vs, h => by
    simp only [RelUs] at h
    obtain ⟨v, vs', rfl, h1, h2⟩ := h
    rw [List.reverse_cons, List.reverse_cons]
    exact RelUs.append (RelUs.reverse h2) (RelUs.cons h1 RelUs.nil)
end
end Oz
end
section
set_option maxHeartbeats 4000000
namespace Oz
open PySem PySem.Spec PyProof.Rows L2
end Oz
end
section
set_option maxHeartbeats 4000000
namespace Oz
open PySem PySem.Spec PyProof.Rows L2
section
variable {prog : Program} {w : World} {K : Type} [DecidableEq K] {knd : KeyKind prog w K} {A : Around} {E : Value → Shared → Prop} {s : Shared}
/-- the place that was found is the key's place -/
theorem place_of {es : Array DictEntry} {kvs : List (K × Value)} (hp : Pairs knd es.toList kvs) (k : K) : (es.findIdx? fun e => knd.is k e.key) = kvs.findIdx? fun kv => decide (kv.1 = k) := by
  have h := hp.findIdx k
  obtain ⟨l⟩ := es
  simpa using h
theorem dput_pairs {d : Addr} {kvs : List (K × Value)} {k : K} {key v : Value} {Q : Unit → Shared → Prop} (hkey : knd.is k key = true) (hm : s.heap.DictOf knd d kvs)
    (hQ : ∀ h', h'.DictOf knd d (stored kvs k v) → Heap.SameBut d s.heap h' → Q () { s with heap := h' }) (hz : kvs.length ≤ sizeLine) : wpAny (model prog w) A (dictPut d (knd.hash k) key v) Q E s := by
  obtain ⟨o, es, ep, ho, hc, hd, hk, hp, hn⟩ := hm
  have sz : es.size ≤ sizeLine := by
    have := hp.length
    rw [Array.length_toList] at this
    omega
  unfold dictPut
  refine wpAny_bind (wpAny_dictFind_of hkey ho hd hk ?_)
  have pl := place_of hp k
  rcases hf : es.findIdx? (fun e => knd.is k e.key) with _ | i
  · have out : k ∉ kvs.map (·.1) := not_mem_of_findIdx_none (pl ▸ hf)
    have no : ¬ (kvs.any fun kv => decide (kv.1 = k)) = true := fun h => by
      obtain ⟨kv, h1, h2⟩ := List.any_eq_true.mp h
      exact out (List.mem_map.mpr ⟨kv, h1, of_decide_eq_true h2⟩)
    have st : stored kvs k v = kvs ++ [(k, v)] := by unfold stored; rw [if_neg no]
    rw [hf]
    refine wpAny_updateDictKeys (f := fun q => q.push ⟨knd.hash k, key, v⟩) (hz := sz) (hf := by simp) ho hd (hQ _ ?_ (Heap.SameBut.update ..))
    rw [st]
    refine ⟨_, _, ep + 1, Heap.get?_update_self _ ho (Obj.isFreed_of_dict (Obj.data_mapDictKeys hd _)), hc.mapDictKeys _, Obj.data_mapDictKeys hd _, hk.push hkey _, ?_, ?_⟩
    · have q := hp.append hkey (knd.hash k) v
      obtain ⟨l⟩ := es
      simpa using q
    · rw [List.map_append]
      refine List.nodup_append.mpr ⟨hn, by simp, fun a ha b hb e => ?_⟩
      have : b = k := by simpa using hb
      exact out (by rw [← this, ← e]; exact ha)
  · have st : stored kvs k v = kvs.map (fun kv => if kv.1 = k then (kv.1, v) else kv) := by unfold stored; exact if_pos (any_of_findIdx_some (pl ▸ hf))
    rw [hf]
    refine wpAny_updateDict (f := fun q => q.modify i fun e => { e with val := v }) (hz := by simp) ho hd (hQ _ ?_ (Heap.SameBut.update ..))
    rw [st]
    refine ⟨_, _, ep, Heap.get?_update_self _ ho (Obj.isFreed_of_dict (Obj.data_mapDict hd _)), hc.mapDict _, Obj.data_mapDict hd _, hk.modify _ _, ?_, ?_⟩
    · have hl : (es.toList.findIdx? fun e => knd.is k e.key) = some i := by
        rw [← hf]
        obtain ⟨l⟩ := es
        simp
      have q := hp.modify hn hl v
      obtain ⟨l⟩ := es
      simpa using q
    · rw [keys_map_store]
      exact hn
end
section
variable {prog : Program} {w : World} {A : Around} {E : Value → Shared → Prop} {s : Shared}
theorem isSub_dict : isSubtype (.type "dict") (.type "dict") = pure true := isSubtype_dict_dict
theorem merge_in {d a : Addr} {kvs more : List (Key × Value)} {Q : Unit → Shared → Prop} (hda : d ≠ a) (has : (a == sysModules) = false) (hd : s.heap.DictOf (mixKind prog w) d kvs) (ha : s.heap.DictOf (mixKind prog w) a more)
    (hz : kvs.length + more.length ≤ sizeLine) (hQ : ∀ h', h'.DictOf (mixKind prog w) d (merged kvs more) → h'.DictOf (mixKind prog w) a more → Heap.SameBut d s.heap h' → Q () { s with heap := h' }) :
    wpAny (model prog w) A (mergeMapping d (.ref a) false) Q E s := by
  obtain ⟨oo, eso, epo, hoo, hco, hdo, hko, hpo, hno⟩ := id ha
  obtain ⟨od, esd, epd, hod, hcd, hdd, hkd, hpd, hnd⟩ := id hd
  have lens : more.length = eso.size := by
    have := hpo.length
    rw [Array.length_toList] at this
    exact this.symm
  have noref : ∀ e ∈ eso, ∀ r, e.key ≠ .ref r := fun e he r q => by
    obtain ⟨k, h1, _⟩ := hko e he
    rcases keyIs_shape (show keyIs k e.key = true from h1) with ⟨_, _, _, z⟩ | ⟨_, _, _, z⟩ <;> rw [z] at q <;> cases q
  unfold mergeMapping
  refine wpAny_bind (m := isInstance _ _) (wpAny_isInstance (T := "dict") (b := true) ha.typeIs isSub_dict ?_)
  simp only [if_true]
  refine wpAny_bind (wpAny_specialOf ha.typeIs PySem.F.slot_dict_iter.lookup ?_)
  refine wpAny_bind (wpAny_pure ?_)
  show wpAny _ _ (if (a == sysModules) = true then _ else _) _ _ _
  rw [if_neg (by rw [has]; exact Bool.false_ne_true)]
  refine wpAny_bind (wpAny_dictEntries hod hdd ?_)
  by_cases he : esd.isEmpty = true
  · rw [if_pos he]
    refine wpAny_bind (wpAny_dictEntries hoo hdo ?_)
    refine wpAny_bind ?_
    rw [← Array.forIn_toList]
    refine wpAny_forIn_list _ (fun rest _ s' => s = s' ∧ ∀ e ∈ rest, e ∈ eso) _ ?_ ?_ _ _ ⟨rfl, fun e h => by simpa using h⟩
    · rintro x rest b s' ⟨rfl, hin⟩
      have nr := noref x (hin x List.mem_cons_self)
      have ok : ∀ e ∈ rest, e ∈ eso := fun e h => hin e (List.mem_cons_of_mem _ h)
      cases hx : x.key with
      | ref r => exact absurd hx (nr r)
      | _ => exact wpAny_pure ⟨rfl, ok⟩
    · rintro b s' ⟨rfl, _⟩
      refine wpAny_bind (wpAny_dictEntries hoo hdo ?_)
      refine wpAny_bind (wpAny_dictEpoch hoo hdo ?_)
      refine wpAny_bind ?_
      refine wpAny_forIn_list _ (fun rest _ s' => ∃ h' j, s' = { s with heap := h' } ∧ rest = (List.range eso.size).drop j ∧ j ≤ eso.size ∧ h'.DictOf (mixKind prog w) d (merged kvs (more.take j)) ∧ h'.get? a = some oo ∧ Heap.SameBut d s.heap h') _ ?_ ?_ _ _ ⟨s.heap, 0, rfl, rfl, Nat.zero_le _, by simpa [merged] using hd, hoo, Heap.SameBut.refl _ _⟩
      · rintro x rest b s' ⟨h', j, rfl, hr, hj, hd', hoo', sb⟩
        have hlt : j < eso.size := by
          apply Decidable.byContradiction
          intro q
          rw [List.drop_eq_nil_of_le (by simp; omega)] at hr
          cases hr
        have hl2 : j < (List.range eso.size).length := by simpa using hlt
        rw [List.drop_eq_getElem_cons hl2, List.getElem_range] at hr
        cases hr
        refine wpAny_bind (wpAny_dictEntries hoo' hdo ?_)
        rw [Array.getElem?_eq_getElem hlt]
        have hm : x < more.length := by rw [lens]; exact hlt
        have hkv : more[x]? = some more[x] := List.getElem?_eq_getElem hm
        obtain ⟨hkey, hval⟩ := hpo.get? (e := eso[x]) (by simp [hlt]) hkv
        obtain ⟨k', hkey', hhash⟩ := hko eso[x] (Array.getElem_mem hlt)
        have ek : k' = more[x].1 := (mixKind prog w).inj _ _ _ hkey' hkey
        subst ek
        have room : (merged kvs (more.take x)).length ≤ sizeLine := by
          have e1 := merged_length_le kvs (more.take x)
          rw [List.length_take] at e1
          omega
        refine wpAny_bind (wpAny_holding ?_)
        rw [if_neg Bool.false_ne_true, hhash, hval]
        refine dput_pairs hkey hd' (fun h2 hd2 sb2 => ?_) room
        have hoo2 : h2.get? a = some oo := (sb2.2 a (Ne.symm hda)).trans hoo'
        refine wpAny_bind (wpAny_dictEpoch hoo2 hdo ?_)
        rw [if_neg (by simp)]
        exact wpAny_pure ⟨h2, x + 1, rfl, rfl, hlt, by rw [merged_take_succ kvs more x _ hkv]; exact hd2, hoo2, sb.trans sb2⟩
      · rintro b s' ⟨h', j, rfl, hr, hj, hd', hoo', sb⟩
        have hje : j = eso.size := by
          apply Nat.le_antisymm hj
          have := congrArg List.length hr
          simp at this
          omega
        refine wpAny_pure (hQ h' ?_ ⟨oo, eso, epo, hoo', hco, hdo, hko, hpo, hno⟩ sb)
        rw [hje, ← lens, List.take_length] at hd'
        exact hd'
  · rw [if_neg he]
    refine wpAny_bind (wpAny_dictEntries hoo hdo ?_)
    refine wpAny_bind (wpAny_dictEpoch hoo hdo ?_)
    refine wpAny_bind ?_
    refine wpAny_forIn_list _ (fun rest _ s' => ∃ h' j, s' = { s with heap := h' } ∧ rest = (List.range eso.size).drop j ∧ j ≤ eso.size ∧ h'.DictOf (mixKind prog w) d (merged kvs (more.take j)) ∧ h'.get? a = some oo ∧ Heap.SameBut d s.heap h') _ ?_ ?_ _ _ ⟨s.heap, 0, rfl, rfl, Nat.zero_le _, by simpa [merged] using hd, hoo, Heap.SameBut.refl _ _⟩
    · rintro x rest b s' ⟨h', j, rfl, hr, hj, hd', hoo', sb⟩
      have hlt : j < eso.size := by
        apply Decidable.byContradiction
        intro q
        rw [List.drop_eq_nil_of_le (by simp; omega)] at hr
        cases hr
      have hl2 : j < (List.range eso.size).length := by simpa using hlt
      rw [List.drop_eq_getElem_cons hl2, List.getElem_range] at hr
      cases hr
      refine wpAny_bind (wpAny_dictEntries hoo' hdo ?_)
      rw [Array.getElem?_eq_getElem hlt]
      have hm : x < more.length := by rw [lens]; exact hlt
      have hkv : more[x]? = some more[x] := List.getElem?_eq_getElem hm
      obtain ⟨hkey, hval⟩ := hpo.get? (e := eso[x]) (by simp [hlt]) hkv
      obtain ⟨k', hkey', hhash⟩ := hko eso[x] (Array.getElem_mem hlt)
      have ek : k' = more[x].1 := (mixKind prog w).inj _ _ _ hkey' hkey
      subst ek
      have room : (merged kvs (more.take x)).length ≤ sizeLine := by
        have e1 := merged_length_le kvs (more.take x)
        rw [List.length_take] at e1
        omega
      refine wpAny_bind (wpAny_holding ?_)
      rw [if_neg Bool.false_ne_true, hhash, hval]
      refine dput_pairs hkey hd' (fun h2 hd2 sb2 => ?_) room
      have hoo2 : h2.get? a = some oo := (sb2.2 a (Ne.symm hda)).trans hoo'
      refine wpAny_bind (wpAny_dictEpoch hoo2 hdo ?_)
      rw [if_neg (by simp)]
      exact wpAny_pure ⟨h2, x + 1, rfl, rfl, hlt, by rw [merged_take_succ kvs more x _ hkv]; exact hd2, hoo2, sb.trans sb2⟩
    · rintro b s' ⟨h', j, rfl, hr, hj, hd', hoo', sb⟩
      have hje : j = eso.size := by
        apply Nat.le_antisymm hj
        have := congrArg List.length hr
        simp at this
        omega
      refine wpAny_pure (hQ h' ?_ ⟨oo, eso, epo, hoo', hco, hdo, hko, hpo, hno⟩ sb)
      rw [hje, ← lens, List.take_length] at hd'
      exact hd'
end
end Oz
end
section
set_option maxHeartbeats 4000000
namespace Oz
open PySem PySem.Spec PyProof.Rows L2
section
variable {prog : Program} {w : World} {A : Around} {E : Value → Shared → Prop} {s : Shared}
/-- {**t0, ..}: 1 more -/
theorem disp1 {t0 k1 v1 : Sem Value} {Q : Value → Shared → Prop}
    (h : wpAny (model prog w) A t0 (fun m s1 => ∃ a more, m = .ref a ∧ (a == sysModules) = false ∧ s.heap.objs.size ≠ a ∧ s1.heap.DictOf (mixKind prog w) a more ∧ s1.heap.DictOf (mixKind prog w) s.heap.objs.size [] ∧ more.length + 15 ≤ sizeLine ∧
      ∀ h2, h2.DictOf (mixKind prog w) s.heap.objs.size (merged [] more) → Heap.SameBut s.heap.objs.size s1.heap h2 →
        wpAny (model prog w) A (evalPairs [(k1, v1)]) (fun vs s3 => ∃ kvs M, Carries (mixKind prog w) vs kvs ∧ M.length + kvs.length ≤ sizeLine ∧ s3.heap.DictOf (mixKind prog w) h2.objs.size [] ∧ s3.heap.DictOf (mixKind prog w) s.heap.objs.size M ∧ (h2.objs.size == sysModules) = false ∧ s.heap.objs.size ≠ h2.objs.size ∧
          ∀ h4 h5 t, h4.DictOf (mixKind prog w) h2.objs.size (merged [] kvs) → Heap.SameBut h2.objs.size s3.heap h4 → h5.DictOf (mixKind prog w) s.heap.objs.size (merged M (merged [] kvs)) → Heap.SameBut s.heap.objs.size h4 h5 → Q (.ref s.heap.objs.size) { s3 with heap := h5, toks := t }) E
          { s1 with heap := h2.push { cls := .type "dict", data := .dict #[] } }) E { s with heap := s.heap.push { cls := .type "dict", data := .dict #[] } }) : wpAny (model prog w) A (dictDisplay [(none, t0), (some k1, v1)]) Q E s := by
  unfold dictDisplay
  simp only [List.forIn_cons, List.forIn_nil, List.isEmpty_nil, if_true]
  refine wpAny_bind (wpAny_bind (wpAny_bind (wpAny_pure ?_)))
  refine wpAny_bind (wpAny_alloc ?_)
  refine wpAny_bind (wpAny_holding (wpAny_mono h (fun m s1 h1 => ?_) fun _ _ e => e))
  obtain ⟨a, more, rfl, has, hda, ha, hd, hz, q⟩ := h1
  refine wpAny_bind (wpAny_onRaise (wpAny_tryCatch (wpAny_onRaise (wpAny_holding (merge_in hda has hd ha (by simp only [List.length_nil]; omega) fun h2 hd2 ha2 sb2 => ?_)))))
  refine wpAny_pure ?_
  simp only [List.nil_append, List.length_singleton, List.isEmpty_cons, List.cons_append, List.length_cons, List.length_nil]
  rw [if_neg (by decide)]
  refine wpAny_bind (wpAny_pure (wpAny_pure ?_))
  simp only [List.isEmpty_cons, Bool.false_eq_true, if_false]
  refine wpAny_bind (wpAny_bind (wpAny_holding (wpAny_subDict (knd := mixKind prog w) (by simp) (wpAny_mono (q h2 hd2 sb2) (fun vs s3 h3 => ?_) fun _ _ e => e))))
  obtain ⟨kvs, M, hc, hkM, hs0, hm3, hsub, hdb, fin⟩ := h3
  refine ⟨kvs, hc, hs0, fun h4 hd4 sb4 => ?_⟩
  have hm4 : h4.DictOf (mixKind prog w) s.heap.objs.size M := by
    obtain ⟨o, es, ep, ho, r⟩ := hm3
    exact ⟨o, es, ep, (sb4.2 _ hdb).trans ho, r⟩
  have room : M.length + (merged ([] : List (Key × Value)) kvs).length ≤ sizeLine := by
    have e2 := merged_length_le ([] : List (Key × Value)) kvs
    simp only [List.length_nil] at e2
    omega
  refine wpAny_bind (wpAny_onRaise (wpAny_holding (merge_in hdb hsub hm4 hd4 room fun h5 hd5 hb5 sb5 => ?_)))
  refine wpAny_pure (wpAny_pure ?_)
  exact fin h4 h5 _ hd4 sb4 hd5 sb5
/-- {**t0, ..}: 2 more -/
theorem disp2 {t0 k1 v1 k2 v2 : Sem Value} {Q : Value → Shared → Prop}
    (h : wpAny (model prog w) A t0 (fun m s1 => ∃ a more, m = .ref a ∧ (a == sysModules) = false ∧ s.heap.objs.size ≠ a ∧ s1.heap.DictOf (mixKind prog w) a more ∧ s1.heap.DictOf (mixKind prog w) s.heap.objs.size [] ∧ more.length + 15 ≤ sizeLine ∧
      ∀ h2, h2.DictOf (mixKind prog w) s.heap.objs.size (merged [] more) → Heap.SameBut s.heap.objs.size s1.heap h2 →
        wpAny (model prog w) A (evalPairs [(k1, v1), (k2, v2)]) (fun vs s3 => ∃ kvs M, Carries (mixKind prog w) vs kvs ∧ M.length + kvs.length ≤ sizeLine ∧ s3.heap.DictOf (mixKind prog w) h2.objs.size [] ∧ s3.heap.DictOf (mixKind prog w) s.heap.objs.size M ∧ (h2.objs.size == sysModules) = false ∧ s.heap.objs.size ≠ h2.objs.size ∧
          ∀ h4 h5 t, h4.DictOf (mixKind prog w) h2.objs.size (merged [] kvs) → Heap.SameBut h2.objs.size s3.heap h4 → h5.DictOf (mixKind prog w) s.heap.objs.size (merged M (merged [] kvs)) → Heap.SameBut s.heap.objs.size h4 h5 → Q (.ref s.heap.objs.size) { s3 with heap := h5, toks := t }) E
          { s1 with heap := h2.push { cls := .type "dict", data := .dict #[] } }) E { s with heap := s.heap.push { cls := .type "dict", data := .dict #[] } }) : wpAny (model prog w) A (dictDisplay [(none, t0), (some k1, v1), (some k2, v2)]) Q E s := by
  unfold dictDisplay
  simp only [List.forIn_cons, List.forIn_nil, List.isEmpty_nil, if_true]
  refine wpAny_bind (wpAny_bind (wpAny_bind (wpAny_pure ?_)))
  refine wpAny_bind (wpAny_alloc ?_)
  refine wpAny_bind (wpAny_holding (wpAny_mono h (fun m s1 h1 => ?_) fun _ _ e => e))
  obtain ⟨a, more, rfl, has, hda, ha, hd, hz, q⟩ := h1
  refine wpAny_bind (wpAny_onRaise (wpAny_tryCatch (wpAny_onRaise (wpAny_holding (merge_in hda has hd ha (by simp only [List.length_nil]; omega) fun h2 hd2 ha2 sb2 => ?_)))))
  refine wpAny_pure ?_
  simp only [List.nil_append, List.length_singleton, List.isEmpty_cons, List.cons_append, List.length_cons, List.length_nil]
  rw [if_neg (by decide)]
  refine wpAny_bind (wpAny_pure ?_)
  dsimp only
  simp only [List.nil_append, List.length_singleton, List.isEmpty_cons, List.cons_append, List.length_cons, List.length_nil]
  rw [if_neg (by decide)]
  refine wpAny_bind (wpAny_pure (wpAny_pure ?_))
  simp only [List.isEmpty_cons, Bool.false_eq_true, if_false]
  refine wpAny_bind (wpAny_bind (wpAny_holding (wpAny_subDict (knd := mixKind prog w) (by simp) (wpAny_mono (q h2 hd2 sb2) (fun vs s3 h3 => ?_) fun _ _ e => e))))
  obtain ⟨kvs, M, hc, hkM, hs0, hm3, hsub, hdb, fin⟩ := h3
  refine ⟨kvs, hc, hs0, fun h4 hd4 sb4 => ?_⟩
  have hm4 : h4.DictOf (mixKind prog w) s.heap.objs.size M := by
    obtain ⟨o, es, ep, ho, r⟩ := hm3
    exact ⟨o, es, ep, (sb4.2 _ hdb).trans ho, r⟩
  have room : M.length + (merged ([] : List (Key × Value)) kvs).length ≤ sizeLine := by
    have e2 := merged_length_le ([] : List (Key × Value)) kvs
    simp only [List.length_nil] at e2
    omega
  refine wpAny_bind (wpAny_onRaise (wpAny_holding (merge_in hdb hsub hm4 hd4 room fun h5 hd5 hb5 sb5 => ?_)))
  refine wpAny_pure (wpAny_pure ?_)
  exact fin h4 h5 _ hd4 sb4 hd5 sb5
end
end Oz
end
section
set_option maxHeartbeats 4000000
namespace Oz
open PySem PySem.Spec PyProof.Rows L2
/-- {**e, k: v, ..}: the new dict at p, the one of the pairs at q -/
noncomputable def tDm (te : TE) (trs : List (TE × TE)) : TE := fun σ H Q => ∀ p, H p = none → te σ (upd H p (.dK [])) fun x H1 => ∃ a ms, x = .ref a ∧ H1 a = some (.dK ms) ∧ p ≠ a ∧ H1 p = some (.dK []) ∧ ms.length + 15 ≤ sizeLine ∧
  ∀ q, q ≠ p → upd H1 p (.dK (mergeK [] ms)) q = none → tPairs trs σ (upd (upd H1 p (.dK (mergeK [] ms))) q (.dK [])) fun ps H2 => ∃ kvs M : List (Key × V), ps = kvs.map (fun kv => (kV kv.1, kv.2)) ∧ M.length + kvs.length ≤ sizeLine ∧
    H2 p = some (.dK M) ∧ H2 q = some (.dK []) ∧ Q (.ref p) (upd (upd H2 q (.dK (mergeK [] kvs))) p (.dK (mergeK M (mergeK [] kvs))))
section
variable {X : Cx}
theorem length_mergeK0 (kvs : List (Key × V)) : (mergeK [] kvs).length ≤ kvs.length := by
  have := length_mergeK kvs []
  simpa using this
theorem pe_dm1 {pos : Pos} {e k v : Expr} {te : TE} {trs : List (TE × TE)} (he : PE X e te) (h : PPs X pos [some k] [v] trs) : PE X (.Dict [none, some k] [e, v] pos) (tDm te trs) := by
  constructor
  intro pins s σ H Q I hq
  rw [arm_eval_Dict]
  refine wpAny_bind (wpAny_standAt ?_)
  have fresh := I.hok.fresh (Nat.le_refl s.heap.objs.size)
  have I1 := I.laid (a := s.heap.objs.size) (o := .dK []) (h' := s.heap.push { cls := .type "dict", data := .dict #[] }) (t' := s.toks) (fun _ _ q => Heap.get?_push_of_some _ q) (Nat.le_refl _) (dk_empty s.heap I.big)
  show wpAny _ _ (dictDisplay [(none, do let x ← eval e X.env; standAt pos; pure x), (some (eval k X.env), do let x ← eval v X.env; standAt pos; pure x)]) _ _ s
  refine disp1 (wpAny_bind (thn (he.run pins _ σ _ _ I1 (hq _ fresh)) fun m s1 hm => wpAny_bind (wpAny_standAt (wpAny_pure ?_))))
  obtain ⟨x, H1, I2, rx, a, ms, rfl, ha, hpa, hp0, hz, q⟩ := hm
  cases rx
  obtain ⟨za, hda, vsa, rela, dda⟩ := dk_of I2.hok ha
  obtain ⟨zp, hdp, vsp, relp, ddp⟩ := dk_of I2.hok hp0
  cases relp
  refine ⟨a, vsa, rfl, hda, hpa, dda, ddp, by rw [← rela.length]; exact hz, fun h2 hd2 sb2 => ?_⟩
  have ex2 : ∃ o, h2.get? s.heap.objs.size = some o := let ⟨o, _, _, ho, _⟩ := hd2; ⟨o, ho⟩
  have rel2 : KV (mergeK [] ms) (merged [] vsa) := rela.merge .nil
  have z2 : (mergeK [] ms).length ≤ sizeLine := Nat.le_trans (length_mergeK0 ms) za
  have I3 := d_write (t' := s1.toks) I2 (by rw [hp0]; trivial) sb2 ex2 (dk_new z2 hdp rel2 hd2)
  have fq := I3.hok.fresh (Nat.le_refl h2.objs.size)
  have hqp : h2.objs.size ≠ s.heap.objs.size := by
    obtain ⟨o, ho⟩ := ex2
    exact Nat.ne_of_gt (Heap.lt_size ho)
  have I4 := I3.laid (a := h2.objs.size) (o := .dK []) (h' := h2.push { cls := .type "dict", data := .dict #[] }) (t' := s1.toks) (fun _ _ q => Heap.get?_push_of_some _ q) (Nat.le_refl _) (dk_empty h2 I3.big)
  refine thn (h.run pins _ σ _ _ I4 (q _ hqp fq)) fun ws s3 hw => ?_
  obtain ⟨ps, H2, I5, rel, kvs, M, rfl, lk, hp2, hq2, qq⟩ := hw
  obtain ⟨rs, c, rk⟩ := carries_of (P := X.prog) (w := X.w) rel
  obtain ⟨z5, hd5, vs5, rel5, dd5⟩ := dk_of I5.hok hq2
  cases rel5
  obtain ⟨z6, hd6, vs6, rel6, dd6⟩ := dk_of I5.hok hp2
  have lens : vs6.length + rs.length ≤ sizeLine := by
    have e1 := rel6.length
    have e2 := rk.length
    omega
  refine ⟨rs, vs6, c, lens, dd5, dd6, hd5, Ne.symm hqp, fun h4 h5 t hd4 sb4 hd5' sb5 => ?_⟩
  have ex4 : ∃ o, h4.get? h2.objs.size = some o := let ⟨o, _, _, ho, _⟩ := hd4; ⟨o, ho⟩
  have ex5 : ∃ o, h5.get? s.heap.objs.size = some o := let ⟨o, _, _, ho, _⟩ := hd5'; ⟨o, ho⟩
  have rk0 : KV (mergeK [] kvs) (merged [] rs) := rk.merge .nil
  have zk : (mergeK [] kvs).length ≤ sizeLine := by
    have := length_mergeK0 kvs
    have e2 := rk.length
    omega
  have I6 := d_write (t' := s3.toks) I5 (by rw [hq2]; trivial) sb4 ex4 (dk_new zk hd5 rk0 hd4)
  have hp6 : upd H2 h2.objs.size (.dK (mergeK [] kvs)) s.heap.objs.size = some (.dK M) := by rw [upd_ne (Ne.symm hqp)]; exact hp2
  have zz : (mergeK M (mergeK [] kvs)).length ≤ sizeLine := by
    have e1 := length_mergeK (mergeK [] kvs) M
    have e2 := length_mergeK0 kvs
    omega
  have I7 := d_write (t' := t) I6 (by rw [hp6]; trivial) sb5 ex5 (dk_new zz hd6 (rk0.merge rel6) hd5')
  exact ⟨.ref s.heap.objs.size, _, I7, rfl, qq⟩
theorem pe_dm2 {pos : Pos} {e k v k2 v2 : Expr} {te : TE} {trs : List (TE × TE)} (he : PE X e te) (h : PPs X pos [some k, some k2] [v, v2] trs) : PE X (.Dict [none, some k, some k2] [e, v, v2] pos) (tDm te trs) := by
  constructor
  intro pins s σ H Q I hq
  rw [arm_eval_Dict]
  refine wpAny_bind (wpAny_standAt ?_)
  have fresh := I.hok.fresh (Nat.le_refl s.heap.objs.size)
  have I1 := I.laid (a := s.heap.objs.size) (o := .dK []) (h' := s.heap.push { cls := .type "dict", data := .dict #[] }) (t' := s.toks) (fun _ _ q => Heap.get?_push_of_some _ q) (Nat.le_refl _) (dk_empty s.heap I.big)
  show wpAny _ _ (dictDisplay [(none, do let x ← eval e X.env; standAt pos; pure x), (some (eval k X.env), do let x ← eval v X.env; standAt pos; pure x), (some (eval k2 X.env), do let x ← eval v2 X.env; standAt pos; pure x)]) _ _ s
  refine disp2 (wpAny_bind (thn (he.run pins _ σ _ _ I1 (hq _ fresh)) fun m s1 hm => wpAny_bind (wpAny_standAt (wpAny_pure ?_))))
  obtain ⟨x, H1, I2, rx, a, ms, rfl, ha, hpa, hp0, hz, q⟩ := hm
  cases rx
  obtain ⟨za, hda, vsa, rela, dda⟩ := dk_of I2.hok ha
  obtain ⟨zp, hdp, vsp, relp, ddp⟩ := dk_of I2.hok hp0
  cases relp
  refine ⟨a, vsa, rfl, hda, hpa, dda, ddp, by rw [← rela.length]; exact hz, fun h2 hd2 sb2 => ?_⟩
  have ex2 : ∃ o, h2.get? s.heap.objs.size = some o := let ⟨o, _, _, ho, _⟩ := hd2; ⟨o, ho⟩
  have rel2 : KV (mergeK [] ms) (merged [] vsa) := rela.merge .nil
  have z2 : (mergeK [] ms).length ≤ sizeLine := Nat.le_trans (length_mergeK0 ms) za
  have I3 := d_write (t' := s1.toks) I2 (by rw [hp0]; trivial) sb2 ex2 (dk_new z2 hdp rel2 hd2)
  have fq := I3.hok.fresh (Nat.le_refl h2.objs.size)
  have hqp : h2.objs.size ≠ s.heap.objs.size := by
    obtain ⟨o, ho⟩ := ex2
    exact Nat.ne_of_gt (Heap.lt_size ho)
  have I4 := I3.laid (a := h2.objs.size) (o := .dK []) (h' := h2.push { cls := .type "dict", data := .dict #[] }) (t' := s1.toks) (fun _ _ q => Heap.get?_push_of_some _ q) (Nat.le_refl _) (dk_empty h2 I3.big)
  refine thn (h.run pins _ σ _ _ I4 (q _ hqp fq)) fun ws s3 hw => ?_
  obtain ⟨ps, H2, I5, rel, kvs, M, rfl, lk, hp2, hq2, qq⟩ := hw
  obtain ⟨rs, c, rk⟩ := carries_of (P := X.prog) (w := X.w) rel
  obtain ⟨z5, hd5, vs5, rel5, dd5⟩ := dk_of I5.hok hq2
  cases rel5
  obtain ⟨z6, hd6, vs6, rel6, dd6⟩ := dk_of I5.hok hp2
  have lens : vs6.length + rs.length ≤ sizeLine := by
    have e1 := rel6.length
    have e2 := rk.length
    omega
  refine ⟨rs, vs6, c, lens, dd5, dd6, hd5, Ne.symm hqp, fun h4 h5 t hd4 sb4 hd5' sb5 => ?_⟩
  have ex4 : ∃ o, h4.get? h2.objs.size = some o := let ⟨o, _, _, ho, _⟩ := hd4; ⟨o, ho⟩
  have ex5 : ∃ o, h5.get? s.heap.objs.size = some o := let ⟨o, _, _, ho, _⟩ := hd5'; ⟨o, ho⟩
  have rk0 : KV (mergeK [] kvs) (merged [] rs) := rk.merge .nil
  have zk : (mergeK [] kvs).length ≤ sizeLine := by
    have := length_mergeK0 kvs
    have e2 := rk.length
    omega
  have I6 := d_write (t' := s3.toks) I5 (by rw [hq2]; trivial) sb4 ex4 (dk_new zk hd5 rk0 hd4)
  have hp6 : upd H2 h2.objs.size (.dK (mergeK [] kvs)) s.heap.objs.size = some (.dK M) := by rw [upd_ne (Ne.symm hqp)]; exact hp2
  have zz : (mergeK M (mergeK [] kvs)).length ≤ sizeLine := by
    have e1 := length_mergeK (mergeK [] kvs) M
    have e2 := length_mergeK0 kvs
    omega
  have I7 := d_write (t' := t) I6 (by rw [hp6]; trivial) sb5 ex5 (dk_new zz hd6 (rk0.merge rel6) hd5')
  exact ⟨.ref s.heap.objs.size, _, I7, rfl, qq⟩
end
end Oz
end
section
set_option maxHeartbeats 4000000
namespace Oz
open PySem PySem.Spec PyProof.Rows L2
noncomputable abbrev KVR (K : PySem.W.Frag) (ρ : List Addr) (H : Hp) : List (Key × U) → List (Key × V) → Prop := Paired fun (p : Key × U) (q : Key × V) => p.1 = q.1 ∧ RelU K ρ H p.2 q.2
section
variable {K : PySem.W.Frag} {ρ ρ' : List Addr} {H H' : Hp}
theorem KVR.mono (e : Ext ρ H ρ' H') {a : List (Key × U)} {b : List (Key × V)} (h : KVR K ρ H a b) : KVR K ρ' H' a b := Paired.mapP h fun _ _ z => ⟨z.1, z.2.mono e⟩
theorem KVR.any {a : List (Key × U)} {b : List (Key × V)} (h : KVR K ρ H a b) (k : Key) : (a.any fun kv => decide (kv.1 = k)) = (b.any fun kv => decide (kv.1 = k)) := by
  unfold KVR at h
  induction h with
  | nil => rfl
  | cons q _ ih => rw [List.any_cons, List.any_cons, ih, q.1]
theorem KVR.put {a : List (Key × U)} {b : List (Key × V)} (h : KVR K ρ H a b) (k : Key) {u : U} {v : V} (r : RelU K ρ H u v) : KVR K ρ H (putKU a k u) (putK b k v) := by
  unfold putKU putK
  rw [h.any k]
  by_cases c : (b.any fun kv => decide (kv.1 = k)) = true
  · rw [if_pos c, if_pos c]
    clear c
    unfold KVR at h
    induction h with
    | nil => exact .nil
    | @cons p q ps qs e _ ih =>
      rw [List.map_cons, List.map_cons]
      refine .cons ?_ ih
      rw [← e.1]
      by_cases hk : p.1 = k
      · rw [if_pos hk, if_pos hk]; exact ⟨rfl, r⟩
      · rw [if_neg hk, if_neg hk]; exact e
  · rw [if_neg c, if_neg c]
    exact Paired.snoc h ⟨rfl, r⟩
theorem KVR.merge {more : List (Key × U)} {vm : List (Key × V)} (hm : KVR K ρ H more vm) : ∀ {a : List (Key × U)} {b : List (Key × V)}, KVR K ρ H a b → KVR K ρ H (mrgU a more) (mergeK b vm) := by
  unfold KVR at hm
  induction hm with
  | nil => exact fun h => h
  | @cons p q ps qs e _ ih =>
    intro a b h
    have := h.put p.1 e.2
    rw [e.1] at this
    have e2 : mrgU a (p :: ps) = mrgU (putKU a q.1 p.2) ps := by rw [← e.1]; rfl
    rw [e2]
    exact ih this
theorem KVR.val {a : List (Key × U)} {b : List (Key × V)} (h : KVR K ρ H a b) (k : Key) : (∀ u, valU a k = some u → ∃ v, valV b k = some v ∧ RelU K ρ H u v) ∧ (valU a k = none → valV b k = none) := by
  unfold KVR at h
  induction h with
  | nil => exact ⟨fun u e => by simp [valU] at e, fun _ => rfl⟩
  | @cons p q ps qs e _ ih =>
    unfold valU valV at ih ⊢
    rw [List.find?_cons, List.find?_cons, ← e.1]
    by_cases hk : p.1 = k
    · simp only [hk, decide_true, Option.map_some]
      exact ⟨fun u h => by cases h; exact ⟨_, rfl, e.2⟩, fun h => by cases h⟩
    · simp only [hk, decide_false]
      exact ih
theorem keyU_rel {u : U} {v : V} {k : Key} (h : keyU u = some k) (r : RelU K ρ H u v) : v = kV k := by
  cases u <;> simp only [keyU, reduceCtorEq, Option.some.injEq] at h <;> subst h <;> simp only [RelU] at r <;> exact r
end
section
variable {X : Cx} {p : Pg} {nm : Names} {ad : Str → Addr} {d : Nat} {W : XK} {Φ : Cal} {pos : Pos}
theorem s_dnew {Φ : Cal} : PE X (.Dict [] [] pos) (tE X Φ W .dnew) := PEw pe_dnewK fun σ H Q ⟨ρ, S, env, w, eo, h⟩ => by
  rw [ev] at h
  intro q hq
  exact h (ρ ++ [q]) (upd H q (.dK [])) (.ref q) (Ext.push (upd_grow hq)) (w.push hq (upd_grow hq) ⟨[], upd_same, .nil⟩) (relLoc (push_at w.len))
theorem s_dat (O : Ok X p nm ad d W) {a i : Expr} {ta ti : E} (ha : PE X a (tE X Φ W ta)) (hi : PE X i (tE X Φ W ti)) (hs : NoSl i := by exact fun _ _ => rfl) : PE X (.Subscript a i pos) (tE X Φ W (.dat ta ti)) :=
  PEw (pe_dget (by have := O.room.un; omega) ha hi hs) fun σ H Q ⟨ρ, S, env, w, eo, h⟩ => by
    rw [ev] at h
    refine ⟨ρ, S, env, w, eo, (Post.bind h).imp fun x H1 ⟨ρ1, S1, u, e1, w1, r1, h1⟩ => ⟨ρ1, S1, env, w1, eo.mono e1, (Post.bind h1).imp fun y H2 ⟨ρ2, S2, u2, e2, w2, r2, h2⟩ => ?_⟩⟩
    have key : ∃ n k, u = .loc n ∧ keyU u2 = some k := by
      cases u with
      | loc n =>
        cases hk : keyU u2 with
        | some k => exact ⟨n, k, rfl, rfl⟩
        | none => unfold datU at h2; rw [hk] at h2; exact h2.elim
      | _ => exact (show False from h2).elim
    obtain ⟨n, k, rfl, hk⟩ := key
    unfold datU at h2
    simp only [hk] at h2
    split at h2
    · rename_i kvs hn
      obtain ⟨q, rfl, hq⟩ := (r1.mono e2).loc
      obtain ⟨vk, hH, hr⟩ := w2.at_ hn hq
      cases hv : valU kvs k with
      | none => rw [hv] at h2; exact h2.elim
      | some z =>
        rw [hv] at h2
        obtain ⟨v, e, r⟩ := (KVR.val hr k).1 z hv
        have ey := keyU_rel hk r2
        subst ey
        exact ⟨q, v, rfl, by rw [← e]; exact DGet.k hH, h2.here w2 r⟩
    · exact h2.elim
end
end Oz
end
section
set_option maxHeartbeats 4000000
namespace Oz
open PySem PySem.Spec PyProof.Rows L2
section
variable {X : Cx} {p : Pg} {nm : Names} {ad : Str → Addr} {d : Nat} {W : XK} {Φ : Cal} {pos : Pos}
theorem KVR.nil_of {K : PySem.W.Frag} {ρ : List Addr} {H : Hp} {vk : List (Key × V)} (h : KVR K ρ H [] vk) : vk = [] := by cases h; rfl
theorem dic_mut {H : Hp} {a : Addr} {vk : List (Key × V)} (h : H a = some (.dK vk)) : ∀ u, H a = some u → ¬ Imm u := fun u e => by
  rw [h] at e
  cases e
  exact fun z => z
/-- the end of a display: the pairs go into the new dict -/
theorem dm_close {n q : Nat} {P A : Addr} {ρ : List Addr} {S : Sto} {H : Hp} {ps : List (U × U)} {vps : List (V × V)} {Q : VK} (w : Wok X.K X.mg ρ S H) (hP : ρ[n]? = some P) (hA : ρ[q]? = some A) (hr : Paired (fun (a : U × U) (b : V × V) => RelU X.K ρ H a.1 b.1 ∧ RelU X.K ρ H a.2 b.2) ps vps)
    (h : Post X.mg X.K (RelU X.K) W ρ H (dmClose n q ps S) Q) : ∃ kvs M : List (Key × V), vps = kvs.map (fun kv => (kV kv.1, kv.2)) ∧ M.length + kvs.length ≤ sizeLine ∧ H P = some (.dK M) ∧ H A = some (.dK []) ∧ Q (.ref P) (upd (upd H A (.dK (mergeK [] kvs))) P (.dK (mergeK M (mergeK [] kvs)))) := by
  unfold dmClose at h
  split at h
  · rename_i M0 kvs0 h1 h2 h3
    split at h
    · rename_i hz
      obtain ⟨hz, hnq⟩ := hz
      obtain ⟨M, hM, rM⟩ := w.at_ h1 hP
      obtain ⟨e0, hE, rE⟩ := w.at_ h2 hA
      have e0n := KVR.nil_of rE
      subst e0n
      have keys : ∀ {ps : List (U × U)} {vps : List (V × V)} {kvs0 : List (Key × U)}, keyPs ps = some kvs0 → Paired (fun (a : U × U) (b : V × V) => RelU X.K ρ H a.1 b.1 ∧ RelU X.K ρ H a.2 b.2) ps vps → ∃ kvs : List (Key × V), vps = kvs.map (fun kv => (kV kv.1, kv.2)) ∧ KVR X.K ρ H kvs0 kvs := by
        intro ps
        induction ps with
        | nil =>
          intro vps kvs0 e r
          cases r
          simp only [keyPs, Option.some.injEq] at e
          subst e
          exact ⟨[], rfl, .nil⟩
        | cons a ps ih =>
          intro vps kvs0 e r
          cases r with
          | @cons _ b _ bs q t =>
            obtain ⟨y, z⟩ := a
            simp only [keyPs, Option.bind_eq_some_iff, Option.map_eq_some_iff] at e
            obtain ⟨k, hk, ks, hks, rfl⟩ := e
            obtain ⟨kvs, e2, r2⟩ := ih hks t
            refine ⟨(k, b.2) :: kvs, ?_, .cons ⟨rfl, q.2⟩ r2⟩
            rw [e2, List.map_cons, ← keyU_rel hk q.1]
      obtain ⟨kvs, rfl, rk⟩ := keys h3 hr
      have l1 := Paired.length rM
      have l2 := Paired.length rk
      have hPA : P ≠ A := fun e => by
        subst e
        exact hnq (w.nd n q P _ _ hP hA h1 h2 rfl rfl)
      refine ⟨kvs, M, rfl, by omega, hM, hE, ?_⟩
      have rk0 : KVR X.K ρ H (mrgU [] kvs0) (mergeK [] kvs) := KVR.merge rk .nil
      have ex1 : Ext ρ H ρ (upd H A (.dK (mergeK [] kvs))) := Ext.write (dic_mut hE)
      have w1 := w.write (o := .dK (mergeK [] kvs)) (c := .dic (mrgU [] kvs0)) hA h2 rfl rfl (dic_mut hE) ⟨_, upd_same, rk0.mono ex1⟩
      have hM1 : (upd H A (.dK (mergeK [] kvs))) P = some (.dK M) := by rw [upd_ne hPA]; exact hM
      have h11 : (S.set q (.dic (mrgU [] kvs0)))[n]? = some (.dic M0) := by rw [List.getElem?_set_ne (Ne.symm hnq)]; exact h1
      have ex2 : Ext ρ (upd H A (.dK (mergeK [] kvs))) ρ (upd (upd H A (.dK (mergeK [] kvs))) P (.dK (mergeK M (mergeK [] kvs)))) := Ext.write (dic_mut hM1)
      have rfin : KVR X.K ρ H (mrgU M0 (mrgU [] kvs0)) (mergeK M (mergeK [] kvs)) := KVR.merge rk0 rM
      have w2 := w1.write (o := .dK (mergeK M (mergeK [] kvs))) (c := .dic (mrgU M0 (mrgU [] kvs0))) hP h11 rfl rfl (dic_mut hM1) ⟨_, upd_same, (rfin.mono ex1).mono ex2⟩
      exact h ρ _ (.ref P) (ex1.trans ex2) w2 (relLoc hP)
    · exact h.elim
  · exact h.elim
/-- its beginning -/
theorem dm_open {n : Nat} {P : Addr} {ρ : List Addr} {S : Sto} {H : Hp} {x : V} {u : U} {α β : Type} {Rr : List Addr → Hp → α → β → Prop} {f : Nat → Sto → R α} {Q : β → Hp → Prop} (w : Wok X.K X.mg ρ S H) (hP : ρ[n]? = some P) (hr : RelU X.K ρ H u x)
    (h : Post X.mg X.K Rr W ρ H ((dmOpen n u S).bind f) Q) : ∃ a vk S2, x = .ref a ∧ H a = some (.dK vk) ∧ P ≠ a ∧ H P = some (.dK []) ∧ vk.length + 15 ≤ sizeLine ∧ ∀ q, q ≠ P → upd H P (.dK (mergeK [] vk)) q = none →
      Ext ρ H (ρ ++ [q]) (upd (upd H P (.dK (mergeK [] vk))) q (.dK [])) ∧ Wok X.K X.mg (ρ ++ [q]) S2 (upd (upd H P (.dK (mergeK [] vk))) q (.dK [])) ∧ (ρ ++ [q])[S.length]? = some q ∧ Post X.mg X.K Rr W (ρ ++ [q]) (upd (upd H P (.dK (mergeK [] vk))) q (.dK [])) (f S.length S2) Q := by
  have key : ∃ m ms, u = .loc m ∧ S[m]? = some (.dic ms) ∧ S[n]? = some (.dic []) ∧ (m ≠ n ∧ ms.length + 15 ≤ sizeLine) ∧ Post X.mg X.K Rr W ρ H (f S.length (S.set n (.dic (mrgU [] ms)) ++ [.dic []])) Q := by
    unfold dmOpen at h
    cases u with
    | loc m =>
      dsimp only at h
      split at h
      · rename_i ms h1 h2
        by_cases hc : m ≠ n ∧ ms.length + 15 ≤ sizeLine
        · rw [if_pos hc] at h
          exact ⟨m, ms, rfl, h1, h2, hc, h⟩
        · rw [if_neg hc] at h
          exact h.elim
      · exact h.elim
    | _ => exact (show False from h).elim
  obtain ⟨m, ms, rfl, h1, h2, ⟨hmn, hz⟩, h⟩ := key
  obtain ⟨a, rfl, ha⟩ := hr.loc
  obtain ⟨vk, hH, rk⟩ := w.at_ h1 ha
  obtain ⟨e0, hE, rE⟩ := w.at_ h2 hP
  have e0n := KVR.nil_of rE
  subst e0n
  have l1 := Paired.length rk
  refine ⟨a, vk, S.set n (.dic (mrgU [] ms)) ++ [.dic []], rfl, hH, fun e => ?_, hE, by omega, fun q hq hn => ?_⟩
  · subst e
    exact hmn (w.nd m n _ _ _ ha hP h1 h2 rfl rfl)
  · have rk0 : KVR X.K ρ H (mrgU [] ms) (mergeK [] vk) := KVR.merge rk .nil
    have ex1 : Ext ρ H ρ (upd H P (.dK (mergeK [] vk))) := Ext.write (dic_mut hE)
    have w1 := w.write (o := .dK (mergeK [] vk)) (c := .dic (mrgU [] ms)) hP h2 rfl rfl (dic_mut hE) ⟨_, upd_same, rk0.mono ex1⟩
    have w2 := w1.push (c := .dic []) hn (upd_grow hn) ⟨[], upd_same, .nil⟩
    have ex2 := ex1.trans (Ext.push (ρ := ρ) (p := q) (upd_grow hn) (H' := upd (upd H P (.dK (mergeK [] vk))) q (.dK [])))
    exact ⟨ex2, w2, push_at w.len, Post.ext ex2 h⟩
theorem dm1_read {ta tk tv : E} {σ : L2.St} {H : Hp} {Q : VK} (h : tE X Φ W (.dm1 ta tk tv) σ H Q) : tDm (tE X Φ W ta) [(tE X Φ W tk, tE X Φ W tv)] σ H Q := by
  obtain ⟨ρ, S, env, w, eo, h⟩ := h
  rw [ev] at h
  intro P hp
  have e0 : Ext ρ H (ρ ++ [P]) (upd H P (.dK [])) := Ext.push (upd_grow hp)
  have w0 := w.push (c := .dic []) hp (upd_grow hp) ⟨[], upd_same, .nil⟩
  refine ⟨ρ ++ [P], _, env, w0, eo.mono e0, (Post.bind (Post.ext e0 h)).imp fun x H1 ⟨ρ1, S1, u, e1, w1, r1, h1⟩ => ?_⟩
  have hP1 := e1.at_ (push_at (p := P) w.len)
  obtain ⟨a, vk, S2, rfl, ha, hpa, hpe, hz, k⟩ := dm_open w1 hP1 r1 h1
  refine ⟨a, vk, rfl, ha, hpa, hpe, hz, fun q hq hn => ?_⟩
  obtain ⟨e2, w2, hA, h2⟩ := k q hq hn
  refine ⟨ρ1 ++ [q], S2, env, w2, ((eo.mono e0).mono e1).mono e2, (Post.bind h2).imp fun y H3 ⟨ρ3, S3, u3, e3, w3, r3, h3⟩ => ⟨ρ3, S3, env, w3, (((eo.mono e0).mono e1).mono e2).mono e3, (Post.bind h3).imp fun z H4 ⟨ρ4, S4, u4, e4, w4, r4, h4⟩ => ?_⟩⟩
  exact dm_close w4 (e4.at_ (e3.at_ (e2.at_ hP1))) (e4.at_ (e3.at_ hA)) (.cons ⟨r3.mono e4, r4⟩ .nil) h4
theorem s_dm1 {a k v : Expr} {ta tk tv : E} (ha : PE X a (tE X Φ W ta)) (hk : PE X k (tE X Φ W tk)) (hv : PE X v (tE X Φ W tv)) : PE X (.Dict [none, some k] [a, v] pos) (tE X Φ W (.dm1 ta tk tv)) :=
  PEw (pe_dm1 ha (pps_cons hk hv pps_nil)) fun σ H Q h => dm1_read h
theorem dm2_read {ta tk tv tk2 tv2 : E} {σ : L2.St} {H : Hp} {Q : VK} (h : tE X Φ W (.dm2 ta tk tv tk2 tv2) σ H Q) : tDm (tE X Φ W ta) [(tE X Φ W tk, tE X Φ W tv), (tE X Φ W tk2, tE X Φ W tv2)] σ H Q := by
  obtain ⟨ρ, S, env, w, eo, h⟩ := h
  rw [ev] at h
  intro P hp
  have e0 : Ext ρ H (ρ ++ [P]) (upd H P (.dK [])) := Ext.push (upd_grow hp)
  have w0 := w.push (c := .dic []) hp (upd_grow hp) ⟨[], upd_same, .nil⟩
  refine ⟨ρ ++ [P], _, env, w0, eo.mono e0, (Post.bind (Post.ext e0 h)).imp fun x H1 ⟨ρ1, S1, u, e1, w1, r1, h1⟩ => ?_⟩
  have hP1 := e1.at_ (push_at (p := P) w.len)
  obtain ⟨a, vk, S2, rfl, ha, hpa, hpe, hz, k⟩ := dm_open w1 hP1 r1 h1
  refine ⟨a, vk, rfl, ha, hpa, hpe, hz, fun q hq hn => ?_⟩
  obtain ⟨e2, w2, hA, h2⟩ := k q hq hn
  have eo2 := ((eo.mono e0).mono e1).mono e2
  refine ⟨ρ1 ++ [q], S2, env, w2, eo2, (Post.bind h2).imp fun y H3 ⟨ρ3, S3, u3, e3, w3, r3, h3⟩ => ⟨ρ3, S3, env, w3, eo2.mono e3, (Post.bind h3).imp fun z H4 ⟨ρ4, S4, u4, e4, w4, r4, h4⟩ => ⟨ρ4, S4, env, w4, (eo2.mono e3).mono e4, (Post.bind h4).imp fun y2 H5 ⟨ρ5, S5, u5, e5, w5, r5, h5⟩ => ⟨ρ5, S5, env, w5, ((eo2.mono e3).mono e4).mono e5, (Post.bind h5).imp fun z2 H6 ⟨ρ6, S6, u6, e6, w6, r6, h6⟩ => ?_⟩⟩⟩⟩
  exact dm_close w6 (e6.at_ (e5.at_ (e4.at_ (e3.at_ (e2.at_ hP1))))) (e6.at_ (e5.at_ (e4.at_ (e3.at_ hA)))) (.cons ⟨((r3.mono e4).mono e5).mono e6, (r4.mono e5).mono e6⟩ (.cons ⟨r5.mono e6, r6⟩ .nil)) h6
theorem s_dm2 {a k v k2 v2 : Expr} {ta tk tv tk2 tv2 : E} (ha : PE X a (tE X Φ W ta)) (hk : PE X k (tE X Φ W tk)) (hv : PE X v (tE X Φ W tv)) (hk2 : PE X k2 (tE X Φ W tk2)) (hv2 : PE X v2 (tE X Φ W tv2)) : PE X (.Dict [none, some k, some k2] [a, v, v2] pos) (tE X Φ W (.dm2 ta tk tv tk2 tv2)) :=
  PEw (pe_dm2 ha (pps_cons hk hv (pps_cons hk2 hv2 pps_nil))) fun σ H Q h => dm2_read h
end
end Oz
end
section
set_option maxHeartbeats 4000000
namespace Oz
open PySem PySem.Spec PyProof.Rows L2
section
variable {X : Cx} {p : Pg} {nm : Names} {ad : Str → Addr} {d : Nat} {W : XK} {Φ : Cal} {a : Expr} {ta : E} {pos : Pos}
theorem x_raise (O : Ok X p nm ad d W) (f : Str) {C : Str} {px pc : Pos} (ha : PE X a (tE X (p.cal d) W ta)) (hC : (C, f) ∈ nm.xcs := by decide +kernel) (hx : p.xf C = some f := by decide +kernel) (hg : Gl X C := by rfl) (hdb : (C == ("__debug__" : Str)) = false := by decide)
    (he : starEach [a] X.env = (false, eval a X.env) :: starEach [] X.env := by rfl) (hpl : (backTo pc (starEach [] X.env)).any (·.1) = false := by rfl) : PS X (.Raise (some (.Call (.Name C px) [a] [] pc)) none pos) (tS X (p.cal d) W (.raise C ta)) := by
  have F := O.xc C f hC
  obtain ⟨fd, ps, F1, hb⟩ := F.fn
  have M := pmk_oex (X := X) (p := px) (dvs := []) (ds := []) F.T F.iC F.tI F1 O.room.room hb .nil passL hg F.gC (pa_cons ha pa_nil he) hdb he hpl
  refine PSw (ps_raise (W := fun cls d _ H => W cls d H) O.calm O.take M) fun D σ H ⟨ρ, S, env, w, eo, h⟩ => ?_
  rw [ex] at h
  refine ⟨ρ, S, env, w, eo, (PostS.on h).imp fun y H1 ⟨ρ1, S1, u, e1, w1, r1, h1⟩ => ⟨by show 1 ≤ 1000; decide, fun b hb => ⟨b, y, rfl, upd_same, fun dx hdx hne => ⟨rfl, dx, [(f, y)], upd_same, ?_, ?_, ?_⟩⟩⟩⟩
  · rw [upd_ne hne, upd_same]
  · rw [upd_ne hne] at hdx
    exact hdx
  · rw [upd_ne hne] at hdx
    rw [cal_xf, hx] at h1
    have e : upd (del (upd (upd (upd H1 b (exo b (ad C) none)) dx (exd dx [(f, y)])) b (exo b (ad C) (some dx))) b) dx (.xd [(f, y)]) = upd H1 dx (.xd [(f, y)]) := by
      funext c
      by_cases hc : c = dx
      · subst hc
        rw [upd_same, upd_same]
      · rw [upd_ne hc, upd_ne hc]
        by_cases hcb : c = b
        · subst hcb
          rw [del_same, hb]
        · rw [del_ne hcb, upd_ne hcb, upd_ne hc, upd_ne hcb]
    rw [e]
    have x : Ext ρ1 H1 ρ1 (upd H1 dx (.xd [(f, y)])) := Ext.grow (upd_grow hdx)
    exact h1 ρ1 _ (ad C) dx [(f, y)] x (w1.grow (upd_grow hdx)) F.gC upd_same (.cons ⟨rfl, r1.mono x⟩ .nil)
end
section
variable {P : Program} {w : World} {K : PySem.W.Frag} {mg : Str → Option Value} {base : Heap} {p : Pg} {nm : Names} {ad : Str → Addr} {d : Nat}
theorem env_start {K : PySem.W.Frag} {ρ : List Addr} {H : Hp} {us : List U} {vs : List V} {N : List Str} (r : RelUs K ρ H us vs) : EnvOk K ρ H (startU N.length us) (L2.start N vs) := by
  unfold startU L2.start
  rw [r.length]
  refine ⟨by simp [r.length], fun i u h => ?_⟩
  by_cases hi : i < us.length
  · rw [List.getElem?_append_left (by simpa using hi), List.getElem?_map] at h
    rw [List.getElem?_append_left (by rw [List.length_map, r.length]; exact hi), List.getElem?_map]
    cases q : us[i]? with
    | none => rw [q] at h; cases h
    | some z =>
      rw [q] at h
      cases h
      obtain ⟨v, e, rv⟩ := r.get q
      exact ⟨v, by rw [e]; rfl, rv⟩
  · rw [List.getElem?_append_right (by simpa using hi), List.getElem?_replicate] at h
    split at h <;> cases h
theorem fin_read {K : PySem.W.Frag} {mg : Str → Option Value} {W : XK} {ρ : List Addr} {H : Hp} {o : O} {Q : VK} (h : Post mg K (RelU K) W ρ H o.fin Q) : PostS mg K W ρ H o { nx := fun _ H' => Q .non H', rt := Q } := by
  cases o with
  | nx a S => exact fun ρ' H' b e' w r => h ρ' H' .non e' w relNon
  | ret a S => exact h
  | bk a S => exact h.elim
  | ct a S => exact h.elim
  | exc c fs S => exact h
  | bad => exact h.elim
/-- all that is asked of the program's defs at a depth -/
structure AllFn (P : Program) (w : World) (K : PySem.W.Frag) (mg : Str → Option Value) (base : Heap) (p : Pg) (nm : Names) (ad : Str → Addr) (d : Nat) : Prop where
  sta : Sta p nm K mg ad
  gdi : GdOk p K mg w
  ftb : ∀ q ∈ nm.ftb, FTab K mg w ad q.1 q.2
  xc : ∀ C f, (C, f) ∈ nm.xcs → XcOk P w K mg base ad C f
  call : ∀ f, FnQ P w K mg base (L2.CX P w) (d + 2) (ad f) (spC K mg ((p.cal d).call f))
  init : ∀ f, FnQ P w K mg base (L2.CX P w) (d + 1) (ad f) (spC K mg ((p.cal d).init f))
  kcall : ∀ f n ks, (f, n, ks) ∈ nm.kws → FnK P w K mg base (L2.CX P w) (d + 2) (ad f) n ks (spC K mg ((p.cal d).kcal f))
theorem AllFn.ok {N : List Str} {qual : Str} {sc : Scope} {f : Addr} {cdv : Value} {A : Around} {outer : List PySem.Env} {s : Shared} {H : Hp} {E : XK} (F : AllFn P w K mg base p nm ad d) (hr : Rm (d + 2) (A.deeper (envOfC qual sc s.heap.objs.size f cdv))) :
    Ok (cxOf (L2.CX P w) P w K mg base N qual sc f cdv A outer s H E) p nm ad d E := by
  have tk : Takes (cxOf (L2.CX P w) P w K mg base N qual sc f cdv A outer s H E) (fun cls d _ H => E cls d H) := takes_of rfl rfl rfl rfl
  exact ⟨F.sta, F.gdi, F.ftb, F.xc, tk, passes_of rfl, rfl, hr, passes_call tk fun _ _ _ _ z => z, F.call, F.init, F.kcall⟩
/-- a plain def -/
theorem fn_plain {x qual nmf : Str} {st : Stmt} {f : Addr} {fd : FuncData} {N ps : List Str} {body : Sts} (F : L2.Fun K x qual st f fd) (hb : Binds K fd ps []) (S : FnScope N ps (defScope st)) (A : AllFn P w K mg base p nm ad d)
    (hp : p.defs nmf = some (.inl ⟨ps.length, N.length, false, body⟩))
    (D : ∀ (X : Cx) (cdv : Value) (A : Around) (outer : List PySem.Env) (s : Shared) (H : Hp) (E : XK), X = cxOf (L2.CX P w) P w K mg base N qual (defScope st) f cdv A outer s H E → Ok X p nm ad d E → PSs X (defBody st) (tB X (p.cal d) E body)) :
    FnQ P w K mg base (L2.CX P w) (d + 3) f (spC K mg ((p.cal (d + 1)).call nmf)) := by
  have hcall : ∀ us S, (p.cal (d + 1)).call nmf us S = (⟨ps.length, N.length, false, body⟩ : Df).run (p.cal d) us S := fun us S => by
    show (match p.defs nmf with | some (.inl df) => df.run (p.cal d) us S | some (.inr g) => g (p.cal d) us S | none => R.bad) = _
    rw [hp]
  obtain ⟨oc, od, kV, doc, pm, an, cdv, ct, osl, rfl, lk, hcd⟩ := F.ex
  intro A0 outer s H us vs Q E hr e0 r h
  obtain ⟨ρ, S0, ws, w0, rw_, h⟩ := h
  rw [hcall] at h
  unfold Df.run bindU at h
  rw [if_neg (show ¬ (false = true) from Bool.false_ne_true)] at h
  by_cases hl : ws.length = ps.length
  · rw [if_pos hl] at h
    have hlv : vs.length = ps.length := by rw [rw_.length]; exact hl
    have hlu : (us ++ []).length = ps.length := by rw [List.append_nil, ← r.length]; exact hlv
    have hb' := hb s us (e0.mod.kin.keeps fun b o e => (e0.bs b o e).1) hlu
    rw [List.append_nil] at hb'
    refine run_body (k := d + 2) lk hcd S hr e0 (G := fun xs H2 => xs = vs ∧ H2 = H) (fun A' Ex Q' z => hb' _ _ _ _ (z s H vs us e0 Un.refl rfl (fun _ _ q => q) r hlv ⟨rfl, rfl⟩)) fun s2 H2 xs ⟨hx, hH⟩ hr2 => ?_
    subst hx hH
    exact ⟨_, D _ cdv A0 outer s2 H2 E rfl (A.ok hr2), ρ, S0, startU N.length ws, w0, env_start rw_, fin_read h⟩
  · rw [if_neg hl] at h
    exact h.elim
noncomputable def AllT {α : Type} (Q : Str → α → Prop) : List (Str × α) → Prop
  | [] => True
  | x :: xs => Q x.1 x.2 ∧ AllT Q xs
theorem AllT.look {α : Type} {Q : Str → α → Prop} {f : Str} {a : α} : ∀ {l : List (Str × α)}, AllT Q l → l.lookup f = some a → Q f a
  | [], _, h => by simp at h
  | (g, b) :: l, ⟨h1, h2⟩, h => by
    simp only [List.lookup_cons] at h
    split at h
    · rename_i hg
      cases h
      have e : f = g := by simpa using hg
      subst e
      exact h1
    · exact AllT.look h2 h
theorem bad_fn {k : Nat} {f : Addr} {CX : CXT} {g : List U → Sto → R U} (h : ∀ us S, g us S = .bad) : FnQ P w K mg base CX k f (spC K mg g) := fun A outer s H us vs Q E hr e0 r hs => by
  obtain ⟨ρ, S0, us, w0, r, h'⟩ := hs
  rw [h] at h'
  exact h'.elim
theorem bad_fnk {k n : Nat} {ks : List Str} {f : Addr} {CX : CXT} {g : List U → Sto → R U} (h : ∀ us S, g us S = .bad) : FnK P w K mg base CX k f n ks (spC K mg g) := fun A outer s H us ws vs zs Q E hr e0 r rz l1 l2 hs => by
  obtain ⟨ρ, S0, us, w0, r, h'⟩ := hs
  rw [h] at h'
  exact h'.elim
theorem all_fn {tbl : List (Str × (Df ⊕ (Cal → List U → Sto → R U)))} (hp : p.defs = fun f => tbl.lookup f) (sta : Sta p nm K mg ad) (gdi : GdOk p K mg w) (ftb : ∀ q ∈ nm.ftb, FTab K mg w ad q.1 q.2) (xc : ∀ C f, (C, f) ∈ nm.xcs → XcOk P w K mg base ad C f)
    (step : ∀ d, AllFn P w K mg base p nm ad d → AllT (fun f _ => FnQ P w K mg base (L2.CX P w) (d + 3) (ad f) (spC K mg ((p.cal (d + 1)).call f))) tbl)
    (kstep : ∀ d, AllFn P w K mg base p nm ad d → ∀ f n ks, (f, n, ks) ∈ nm.kws → FnK P w K mg base (L2.CX P w) (d + 3) (ad f) n ks (spC K mg ((p.cal (d + 1)).kcal f))) : ∀ d, AllFn P w K mg base p nm ad d
  | 0 => ⟨sta, gdi, ftb, xc, fun f => bad_fn fun _ _ => rfl, fun f => bad_fn fun _ _ => rfl, fun f n ks _ => bad_fnk fun _ _ => rfl⟩
  | d + 1 => by
    have ih := all_fn hp sta gdi ftb xc step kstep d
    refine ⟨sta, gdi, ftb, xc, fun f => ?_, fun f => ih.call f, fun f n ks h => kstep d ih f n ks h⟩
    cases q : tbl.lookup f with
    | some a => exact (step d ih).look q
    | none =>
      refine bad_fn fun us S => ?_
      show (match p.defs f with | some (.inl df) => df.run (p.cal d) us S | some (.inr g) => g (p.cal d) us S | none => R.bad) = _
      rw [hp]
      simp only [q]
end
end Oz
end
section
set_option maxHeartbeats 4000000
namespace Oz
open PySem PySem.Spec PyProof.Rows L2 He
structure Top where
  fns : List Str
  clss : List Str
  mets : List (Str × Str)
  inis : List Str
  flds : List (Str × Str)
  xcs : List (Str × Str)
  bins : List Str
  glos : List (Str × U)
  gdis : List (Str × List (Str × U))
  defs : List (Str × DefD)
  kws : List (Str × Nat × List Str)
  ftb : List (Str × List (Str × Str)) := []
  iso : List (List Str × List Str) := []
  ncl : List Str := []
  sus : List (Str × Str × Str × Str) := []
  sups : List (Str × DefD × Str) := []
  file : Str := ""
  trs : List (Str × Str) := []
  tre : List (Str × Str) := []
noncomputable def dotN (C m : Str) : Str := C ++ "." ++ m
/-- where a def stands -/
noncomputable def adOf (t : Top) (K : PySem.W.Frag) (f : Str) : Addr := match t.defs.lookup f with
  | some d => fAd K d.at_
  | none => match t.sups.lookup f with
    | some d => fAd K d.1.at_
    | none => ga K f
mutual
noncomputable def relK (K : PySem.W.Frag) : U → Value → Bool
  | .non, .none => true
  | .bl b, .bool c => b == c
  | .int i, .int j _ => decide (i = j)
  | .str x, .str y _ => decide (x = y)
  | .tup us, .ref a => (match K.lookup a with
    | some ⟨.type c, none, .seq its _, _⟩ => decide (c = "tuple") && (decide (its.size ≤ sizeLine) && relKs K us its.toList)
    | _ => false)
  | _, _ => false
noncomputable def relKs (K : PySem.W.Frag) : List U → List Value → Bool
  | [], [] => true
  | u :: us, v :: vs => relK K u v && relKs K us vs
  | _, _ => false
end
mutual
theorem relK_ok {K : PySem.W.Frag} : ∀ {u : U} {w : Value}, relK K u w = true → ∃ v, RelV v w ∧ ∀ ρ H, RelU K ρ H u v
  | .non, w, h => by
    cases w with
    | none => exact ⟨.non, rfl, fun _ _ => relNon⟩
    | _ => simp [relK] at h
  | .bl b, w, h => by
    cases w with
    | bool c =>
      simp [relK] at h
      subst h
      exact ⟨.bl b, rfl, fun _ _ => relBl⟩
    | _ => simp [relK] at h
  | .int i, w, h => by
    cases w with
    | int j t =>
      simp [relK] at h
      subst h
      exact ⟨.int i, ⟨t, rfl⟩, fun _ _ => relInt⟩
    | _ => simp [relK] at h
  | .str i, w, h => by
    cases w with
    | str j t =>
      simp [relK] at h
      subst h
      exact ⟨.str i, ⟨t, rfl⟩, fun _ _ => relStr⟩
    | _ => simp [relK] at h
  | .tup us, w, h => by
    cases w with
    | ref a =>
      unfold relK at h
      split at h
      · rename_i c its n osl hk
        obtain ⟨h1, h2⟩ := ba h
        obtain ⟨h3, h4⟩ := ba h2
        obtain ⟨vs, rv, ru⟩ := relKs_ok h4
        refine ⟨.ref a, rfl, fun ρ H => ?_⟩
        simp only [RelU]
        exact ⟨a, vs, rfl, .inr ⟨_, its, n, hk, congrArg Value.type (of_decide_eq_true h1), rfl, of_decide_eq_true h3, rv⟩, ru ρ H⟩
      · cases h
    | _ => simp [relK] at h
  | .loc n, w, h => by cases w <;> simp [relK] at h
theorem relKs_ok {K : PySem.W.Frag} : ∀ {us : List U} {ws : List Value}, relKs K us ws = true → ∃ vs, Vals vs ws ∧ ∀ ρ H, RelUs K ρ H us vs
  | [], ws, h => by
    cases ws with
    | nil => exact ⟨[], .nil, fun _ _ => RelUs.nil⟩
    | cons _ _ => simp [relKs] at h
  | u :: us, ws, h => by
    cases ws with
    | nil => simp [relKs] at h
    | cons w ws =>
      obtain ⟨h1, h2⟩ := ba (show (relK K u w && relKs K us ws) = true by simpa [relKs] using h)
      obtain ⟨v, r1, r2⟩ := relK_ok h1
      obtain ⟨vs, r3, r4⟩ := relKs_ok h2
      exact ⟨v :: vs, .cons r1 r3, fun ρ H => RelUs.cons (r2 ρ H) (r4 ρ H)⟩
end
theorem relK_tup {K : PySem.W.Frag} {us : List U} {w : Value} (h : relK K (.tup us) w = true) : ∃ a o, w = .ref a ∧ K.lookup a = some o ∧ o.cls = .type "tuple" ∧ o.dict = none := by
  cases w with
  | ref a =>
    unfold relK at h
    split at h
    · rename_i c its n osl hk
      obtain ⟨h1, h2⟩ := ba h
      exact ⟨a, _, rfl, hk, congrArg Value.type (of_decide_eq_true h1), rfl⟩
    · cases h
  | _ => simp [relK] at h
noncomputable def oexB (K : PySem.W.Frag) (C : Addr) : Bool := match K.lookup C with
  | some ⟨.type "type", _, .cls cd, sl⟩ => (match cd.mro, sl.toList with
    | .ref C' :: bm, [_, _, _, _, some (.builtin n), _] => C' == C && (n == "ValueError.__new__" && (!cd.hasDel && (cd.hasDict && HandSPX.refsVE bm)))
    | _, _ => false)
  | _ => false
theorem oexB_ok {K : PySem.W.Frag} {C : Addr} (q : oexB K C = true) : ∃ nm q N bs bm sn sub ab col dd k0 k1 k2 k3 k5, K.lookup C = some (excClassObj nm q C N bs bm true sn sub ab col dd k0 k1 k2 k3 k5 "ValueError.__new__") ∧ HandSPX.refsVE bm = true := by
  unfold oexB at q
  split at q
  · rename_i dd cd sl ho
    split at q
    · rename_i C' bm k0 k1 k2 k3 n k5 hm hs
      simp only [Bool.and_eq_true, beq_iff_eq, Bool.not_eq_true'] at q
      obtain ⟨hC, hn, hdel, hd, ht⟩ := q
      obtain ⟨nm, bs, mro, ns, qn, hd', sn, sub, ab, col, del⟩ := cd
      dsimp only at hm hdel hd
      subst hm hdel hd hC hn
      have hsl : sl = #[k0, k1, k2, k3, some (.builtin "ValueError.__new__"), k5] := by
        obtain ⟨l⟩ := sl
        simp only at hs
        rw [hs]
      subst hsl
      exact ⟨nm, qn, ns, bs, bm, sn, sub, ab, col, dd, k0, k1, k2, k3, k5, ho, ht⟩
    · cases q
  · cases q
noncomputable def Top.nm (t : Top) : Names := ⟨t.fns, t.mets, t.clss, t.flds, t.xcs, t.bins, t.kws, t.ftb, t.iso, t.ncl, t.sus, t.trs, t.tre⟩
noncomputable def fnB (t : Top) (K : PySem.W.Frag) (f : Str) : Bool := eqO (PySem.W.nsIn K mainGlobals f) (some (some (.ref (adOf t K f)))) && PySem.W.keepIn K (.ref (adOf t K f))
noncomputable def metB (t : Top) (K : PySem.W.Frag) (q : Str × Str) : Bool :=
  eqO (PySem.W.findIn K (.ref (adOf t K q.1)) q.2) (some (some (.ref (adOf t K (dotN q.1 q.2))))) && (PySem.W.isFn K (.ref (adOf t K (dotN q.1 q.2))) && (PySem.W.keepIn K (.ref (adOf t K (dotN q.1 q.2))) &&
    (eqO (PySem.W.specialIn K (.ref (adOf t K (dotN q.1 q.2))) "__get__") (some (some (.builtin "function.__get__"))) && (decide (PySem.W.takesIn K (.ref (adOf t K (dotN q.1 q.2))) = some false) && (!PySem.W.copiedNames.contains q.2 && PySem.W.fnIn K (adOf t K (dotN q.1 q.2)))))))
noncomputable def clsB (t : Top) (K : PySem.W.Frag) (C : Str) : Bool := eqO (PySem.W.nsIn K mainGlobals C) (some (some (.ref (adOf t K C)))) && (decide (adOf t K C = ga K C) && ((Fa.cls C).ok K && ((Fa.mkr C).ok K && decide (adOf t K (C ++ ".__init__") = ma K (ga K C) "__init__"))))
noncomputable def xcB (t : Top) (K : PySem.W.Frag) (q : Str × Str) : Bool :=
  eqO (PySem.W.nsIn K mainGlobals q.1) (some (some (.ref (adOf t K q.1)))) && (oexB K (adOf t K q.1) && (eqO (PySem.W.findIn K (.ref (adOf t K q.1)) "__setattr__") (some (some (.builtin "object.__setattr__"))) && (decide (PySem.W.subIn K (.ref (adOf t K q.1)) (.type "BaseException") = some true) && (decide (PySem.W.typeIn K (.ref (adOf t K q.1)) = some (.type "type")) &&
    (eqO (PySem.W.findIn K (.ref (adOf t K q.1)) "__init__") (some (some (.ref (adOf t K (q.1 ++ ".__init__"))))) && (decide (PySem.W.typeIn K (.ref (adOf t K (q.1 ++ ".__init__"))) = some (.type "function")) && (PySem.W.keepIn K (.ref (adOf t K q.1)) && eqO (PySem.W.findIn K (.ref (adOf t K q.1)) q.2) (some none))))))))
noncomputable def gloB (K : PySem.W.Frag) (q : Str × U) : Bool := match PySem.W.nsIn K mainGlobals q.1 with
  | some (some w) => relK K q.2 w
  | _ => false
/-- a dict of the top: its values -/
noncomputable def gdiB (K : PySem.W.Frag) (q : Str × List (Str × U)) : Bool := eqO (PySem.W.nsIn K mainGlobals q.1) (some (some (.ref (ga K q.1)))) && q.2.all fun r => match PySem.W.nsIn K (ga K q.1) r.1 with
  | some (some w) => relK K r.2 w
  | _ => false
/-- a dict of functions of the top: its functions -/
noncomputable def ftbB (t : Top) (K : PySem.W.Frag) (q : Str × List (Str × Str)) : Bool := eqO (PySem.W.nsIn K mainGlobals q.1) (some (some (.ref (ga K q.1)))) && q.2.all fun r => eqO (PySem.W.nsIn K (ga K q.1) r.1) (some (some (.ref (adOf t K r.2)))) && eqO (PySem.W.nsIn K mainGlobals r.2) (some (some (.ref (adOf t K r.2))))
noncomputable def isoB (t : Top) (K : PySem.W.Frag) (q : List Str × List Str) : Bool :=
  ((["NoneType", "bool", "int", "str", "tuple", "list", "dict"] : List String).all fun y => decide (kitL K (.type y) (q.1.map fun c => .ref (adOf t K c)) = some false)) &&
  ((q.2.all fun D => decide (kitL K (.ref (adOf t K D)) (q.1.map fun c => .ref (adOf t K c)) = some (decide (D ∈ q.1)))) &&
  ((q.2.all fun D => eqO (PySem.W.findIn K (.ref (adOf t K D)) "__class__") (some (some (.builtin "object.__class__")))) &&
  (eqO (PySem.W.specialIn K (.builtin "object.__class__") "__get__") (some (some (.builtin "getset_descriptor.__get__"))) &&
  (decide (PySem.W.takesIn K (.builtin "object.__class__") = some true) && (q.2.all fun D => decide (PySem.W.mroIn K (adOf t K D) (.type "object") = some true))))))
theorem isoB_ok {t : Top} {K : PySem.W.Frag} {q : List Str × List Str} (h : isoB t K q = true) : IsoOk K (adOf t K) q.1 q.2 := by
  unfold isoB at h
  simp only [Bool.and_eq_true] at h
  obtain ⟨h1, h2, h3, h4, h5, h6⟩ := h
  exact ⟨fun y hy => of_decide_eq_true (List.all_eq_true.mp h1 y hy), fun D hD => of_decide_eq_true (List.all_eq_true.mp h2 D hD), fun D hD => eqO_ok (List.all_eq_true.mp h3 D hD), eqO_ok h4, of_decide_eq_true h5, fun D hD => of_decide_eq_true (List.all_eq_true.mp h6 D hD)⟩
noncomputable def nclB (t : Top) (K : PySem.W.Frag) (C : Str) : Bool := eqO (PySem.W.nsIn K mainGlobals C) (some (some (.ref (adOf t K C)))) && (decide (adOf t K C = ga K C) && ((Fa.cls C).ok K && (PySem.W.makesIn K (adOf t K C) && (eqO (PySem.W.findIn K (.ref (adOf t K C)) "__init__") (some (some (.builtin "object.__init__"))) &&
  (decide (PySem.W.subIn K (.ref (adOf t K C)) (.type "object") = some true) && PySem.W.keepIn K (.ref (adOf t K C)))))))
noncomputable def susB (t : Top) (K : PySem.W.Frag) (q : Str × Str × Str × Str) : Bool := eqO (PySem.W.ks_superIn K (adOf t K q.1) (adOf t K q.2.1) q.2.2.1) (some (some (.ref (adOf t K q.2.2.2)))) && (decide (PySem.W.typeIn K (.ref (adOf t K q.2.2.2)) = some (.type "function")) && (PySem.W.fnIn K (adOf t K q.2.2.2) &&
  (eqO (PySem.W.nsIn K cStatics "thirdparty.any") (some none) && decide (PySem.W.mroIn K (adOf t K q.1) (.ref (adOf t K q.2.1)) = some true))))
theorem susB_ok {t : Top} {K : PySem.W.Frag} {q : Str × Str × Str × Str} (h : susB t K q = true) : SuOk K (adOf t K) q.1 q.2.1 q.2.2.1 q.2.2.2 := by
  obtain ⟨h1, h⟩ := ba h
  obtain ⟨h2, h⟩ := ba h
  obtain ⟨h3, h⟩ := ba h
  obtain ⟨h4, h5⟩ := ba h
  exact ⟨eqO_ok h1, of_decide_eq_true h2, h3, eqO_ok h4, of_decide_eq_true h5⟩
noncomputable def treB (t : Top) (K : PySem.W.Frag) (q : Str × Str) : Bool := eqO (PySem.W.nsIn K mainGlobals q.1) (some (some (.ref (adOf t K q.1)))) && (eqO (PySem.W.nsIn K mainGlobals q.2) (some (some (.ref (adOf t K q.2)))) && decide (PySem.W.exmOne K (.ref (adOf t K q.2)) (.ref (adOf t K q.1)) = some true))
noncomputable def trB (t : Top) (K : PySem.W.Frag) (q : Str × Str) : Bool := xfB K (adOf t K q.1) && (eqO (PySem.W.findIn K (.ref (adOf t K q.1)) q.2) (some none) && decide (PySem.W.exmOne K (.ref (adOf t K q.1)) (.ref (adOf t K q.1)) = some true))
noncomputable def noneV : Value → Bool
  | .none => true
  | _ => false
theorem noneV_ok {v : Value} (h : noneV v = true) : v = .none := by
  cases v <;> first | rfl | cases h
noncomputable def cellB (K : PySem.W.Frag) (cc D : Addr) : Bool := match K.lookup cc with
  | some ⟨_, _, .cell (some (.ref a)), _⟩ => decide (a = D)
  | _ => false
noncomputable def fileB (K : PySem.W.Frag) (c : Addr) (file : Str) : Bool := match K.lookup c with
  | some ⟨_, _, .fields vs, _⟩ => (match (vs[2]? : Option Value) with | some (Value.str f _) => decide (f = file) | _ => false)
  | _ => false
noncomputable def closB (K : PySem.W.Frag) (D : Addr) (file : Str) : List (Str × Addr) → Value → Bool
  | [(x, cc)], .ref cda => decide (x = "__class__") && (cellB K cc D && (fileB K cda file && (PySem.W.clsIn K D).isSome))
  | _, _ => false
noncomputable def supB (t : Top) (K : PySem.W.Frag) (d : DefD) (B : Str) : Bool := PySem.W.keepIn K (.ref (fAd K d.at_)) && (match K.lookup (fAd K d.at_) with
  | some ⟨_, _, .func fd, _⟩ => PySem.W.codeIn K fd.code d.qual && (noneV fd.defaults && (noneV fd.kwdefaults && closB K (adOf t K B) t.file fd.closure fd.code))
  | _ => false)
/-- such a def -/
structure FunS (K : PySem.W.Frag) (x qual : Str) (params : Arguments) (body : List Stmt) (scope : Scope) (D : Addr) (file : Str) (f : Addr) : Prop where
  ex : ∃ (oc : Value) (od : Option Addr) (doc pm : Value) (an : Option Addr) (cc cda : Addr) (ct : Value) (osl : Array (Option Value)),
    K.lookup f = some ⟨oc, od, .func (PySem.W.fnX x qual params body scope [("__class__", cc)] .none .none doc pm an (.ref cda) ct), osl⟩ ∧ PySem.W.codeIn K (.ref cda) qual = true ∧
    (∃ (cl : Value) (cld : Option Addr) (csl : Array (Option Value)), K.lookup cc = some ⟨cl, cld, .cell (some (.ref D)), csl⟩) ∧
    (∃ (ccl : Value) (cdd : Option Addr) (vs : Array Value) (ccs : Array (Option Value)) (tk : Tok), K.lookup cda = some ⟨ccl, cdd, .fields vs, ccs⟩ ∧ vs[2]? = some (.str file tk))
  cls : ∃ cd, PySem.W.clsIn K D = some cd
  kp : PySem.W.keepIn K (.ref f) = true
noncomputable def clo0 : FnW → FnW := Option.map fun q => (q.1, q.2.1, q.2.2.1, q.2.2.2.1, q.2.2.2.2.1, q.2.2.2.2.2.1, q.2.2.2.2.2.2.1.map (fun c => (c.1, 0)), q.2.2.2.2.2.2.2)
noncomputable def valS (d : DefD) : FnW := some (d.name, d.qual, d.params, .stmts d.body, d.scope, mainGlobals, [("__class__", 0)], builtinsNs)
theorem funS_of {t : Top} {K : PySem.W.Frag} {d : DefD} {B : Str} (e : clo0 (fnW K d.at_) = valS d) (c : supB t K d B = true) : FunS K d.name d.qual d.params d.body d.scope (adOf t K B) t.file (fAd K d.at_) := by
  obtain ⟨kp, c2⟩ := ba c
  unfold fnW at e
  cases q : K.lookup (fAd K d.at_) with
  | none =>
    rw [q] at c2
    cases c2
  | some o =>
    obtain ⟨oc, od, dt, osl⟩ := o
    rw [q] at c2 e
    cases dt with
    | func fd =>
      obtain ⟨n1, n2, n3, n4, n5, n6, n7, n8, n9, n10, n11, n12, n13, n14, n15⟩ := fd
      have e2 : (some (n1, n2, n3, n4, n5, n6, n7.map (fun c => (c.1, (0 : Addr))), n15) : FnW) = some (d.name, d.qual, d.params, FuncBody.stmts d.body, d.scope, mainGlobals, [(("__class__" : Str), 0)], builtinsNs) := e
      simp only [Option.some.injEq, Prod.mk.injEq] at e2
      obtain ⟨h1, h2, h3, h4, h5, h6, h7, h8⟩ := e2
      subst h1 h2 h3 h4 h5 h6 h8
      have c3 : (PySem.W.codeIn K n13 d.qual && (noneV n8 && (noneV n9 && closB K (adOf t K B) t.file n7 n13))) = true := c2
      obtain ⟨k1, k2⟩ := ba c3
      obtain ⟨k3, k4⟩ := ba k2
      obtain ⟨k5, k6⟩ := ba k4
      rw [noneV_ok k3, noneV_ok k5] at q
      unfold closB at k6
      split at k6
      · rename_i x cc cda
        obtain ⟨j1, k6⟩ := ba k6
        obtain ⟨j2, k6⟩ := ba k6
        obtain ⟨j3, j4⟩ := ba k6
        have hx := of_decide_eq_true j1
        subst hx
        obtain ⟨cd, hcd⟩ := Option.isSome_iff_exists.mp j4
        refine ⟨⟨oc, od, n10, n11, n12, cc, cda, n14, osl, q, k1, ?_, ?_⟩, ⟨cd, hcd⟩, kp⟩
        · unfold cellB at j2
          split at j2
          · rename_i a b c hk
            have := of_decide_eq_true j2
            subst this
            exact ⟨_, _, _, hk⟩
          · cases j2
        · unfold fileB at j3
          split at j3
          · rename_i hk
            split at j3
            · rename_i hv
              have := of_decide_eq_true j3
              subst this
              exact ⟨_, _, _, _, _, hk, hv⟩
            · cases j3
          · cases j3
      · cases k6
    | _ => cases c2
noncomputable def Top.ok (t : Top) (ex : PySem.W.Frag → Bool) (K : PySem.W.Frag) : Bool :=
  t.fns.all (fnB t K) && (t.mets.all (metB t K) && (t.clss.all (clsB t K) && (t.flds.all (fun q => eqO (PySem.W.findIn K (.ref (adOf t K q.1)) q.2) (some none)) && (t.xcs.all (xcB t K) && (t.bins.all (fun x => eqO (PySem.W.nsIn K mainGlobals x) (some none)) && (t.glos.all (gloB K) && (t.gdis.all (gdiB K) && (t.ftb.all (ftbB t K) && (t.iso.all (isoB t K) && (ex K && (t.ncl.all (nclB t K) && (t.sus.all (susB t K) && (t.trs.all (trB t K) && (t.tre.all (treB t K) && (t.sups.all (fun d => supB t K d.2.1 d.2.2) && t.defs.all fun d => d.2.ok K)))))))))))))))
noncomputable abbrev AlO : Type := Bool × List FnW × List (Option (List (Option (Str × Int))))
noncomputable def obsO (t : Top) (ex : PySem.W.Frag → Bool) (K : PySem.W.Frag) : AlO := (t.ok ex K, (t.defs.map fun d => fnW K d.2.at_) ++ (t.sups.map fun d => clo0 (fnW K d.2.1.at_)), (t.gdis.map fun q => dicW K (ga K q.1)) ++ t.ftb.map fun q => dicW K (ga K q.1))
noncomputable def valO (t : Top) (w : World) : AlO := (true, (t.defs.map fun d => d.2.val) ++ (t.sups.map fun d => valS d.2.1), (t.gdis.map fun q => some (keysIn w.params (q.2.map (·.1)))) ++ t.ftb.map fun q => some (keysIn w.params (q.2.map (·.1))))
/-- what it says -/
structure Says (t : Top) (ex : PySem.W.Frag → Bool) (w : World) (K : PySem.W.Frag) : Prop where
  fns : ∀ f ∈ t.fns, fnB t K f = true
  mets : ∀ f ∈ t.mets, metB t K f = true
  clss : ∀ f ∈ t.clss, clsB t K f = true
  flds : ∀ q ∈ t.flds, PySem.W.findIn K (.ref (adOf t K q.1)) q.2 = some none
  xcs : ∀ f ∈ t.xcs, xcB t K f = true
  bins : ∀ x ∈ t.bins, PySem.W.nsIn K mainGlobals x = some none
  glos : ∀ q ∈ t.glos, gloB K q = true
  gdis : ∀ q ∈ t.gdis, gdiB K q = true
  gdik : ∀ q ∈ t.gdis, dicW K (ga K q.1) = some (keysIn w.params (q.2.map (·.1)))
  ftb : ∀ q ∈ t.ftb, ftbB t K q = true
  iso : ∀ q ∈ t.iso, isoB t K q = true
  ftbk : ∀ q ∈ t.ftb, dicW K (ga K q.1) = some (keysIn w.params (q.2.map (·.1)))
  more : ex K = true
  ncl : ∀ C ∈ t.ncl, nclB t K C = true
  sus : ∀ q ∈ t.sus, susB t K q = true
  trs : ∀ q ∈ t.trs, trB t K q = true
  tre : ∀ q ∈ t.tre, treB t K q = true
  sups : ∀ f d B, t.sups.lookup f = some (d, B) → t.defs.lookup f = none → FunS K d.name d.qual d.params d.body d.scope (adOf t K B) t.file (adOf t K f)
  defs : ∀ f d, t.defs.lookup f = some d → ∃ fd, FunD K d.name d.qual d.params d.body d.scope (d.dvs K) (d.kws K) (adOf t K f) fd
theorem lookup_mem' {α : Type} {f : Str} {a : α} : ∀ {l : List (Str × α)}, l.lookup f = some a → (f, a) ∈ l
  | [], h => by simp at h
  | (g, b) :: l, h => by
    simp only [List.lookup_cons] at h
    split at h
    · rename_i hg
      cases h
      have e : f = g := by simpa using hg
      subst e
      exact List.mem_cons_self
    · exact List.mem_cons_of_mem _ (lookup_mem' h)
theorem map_all {α β : Type} {f g : α → β} : ∀ {l : List α}, l.map f = l.map g → ∀ q ∈ l, f q = g q
  | a :: l, h, q, m => by
    simp only [List.map_cons, List.cons.injEq] at h
    rcases List.mem_cons.mp m with rfl | m
    · exact h.1
    · exact map_all h.2 q m
theorem says_of {t : Top} {ex : PySem.W.Frag → Bool} {w : World} {K : PySem.W.Frag} (e : obsO t ex K = valO t w) : Says t ex w K := by
  have e1 : t.ok ex K = true := congrArg (fun z : AlO => z.1) e
  have e20 : (t.defs.map fun d => fnW K d.2.at_) ++ (t.sups.map fun d => clo0 (fnW K d.2.1.at_)) = (t.defs.map fun d => d.2.val) ++ (t.sups.map fun d => valS d.2.1) := congrArg (fun z : AlO => z.2.1) e
  obtain ⟨e2, e2s⟩ := List.append_inj e20 (by simp)
  have e0 : (t.gdis.map fun q => dicW K (ga K q.1)) ++ (t.ftb.map fun q => dicW K (ga K q.1)) = (t.gdis.map fun q => some (keysIn w.params (q.2.map (·.1)))) ++ t.ftb.map fun q => some (keysIn w.params (q.2.map (·.1))) := congrArg (fun z : AlO => z.2.2) e
  obtain ⟨e9, e9b⟩ := List.append_inj e0 (by simp)
  obtain ⟨h1, e1⟩ := ba e1
  obtain ⟨h2, e1⟩ := ba e1
  obtain ⟨h3, e1⟩ := ba e1
  obtain ⟨h4, e1⟩ := ba e1
  obtain ⟨h5, e1⟩ := ba e1
  obtain ⟨h6, e1⟩ := ba e1
  obtain ⟨h7, e1⟩ := ba e1
  obtain ⟨h7b, e1⟩ := ba e1
  obtain ⟨h7c, e1⟩ := ba e1
  obtain ⟨h7d, e1⟩ := ba e1
  obtain ⟨h8, e1⟩ := ba e1
  obtain ⟨h8b, e1⟩ := ba e1
  obtain ⟨h8c, e1⟩ := ba e1
  obtain ⟨h8e, e1⟩ := ba e1
  obtain ⟨h8f, e1⟩ := ba e1
  obtain ⟨h8d, h9⟩ := ba e1
  refine ⟨List.all_eq_true.mp h1, List.all_eq_true.mp h2, List.all_eq_true.mp h3, fun q hq => eqO_ok (List.all_eq_true.mp h4 q hq), List.all_eq_true.mp h5, fun x hx => eqO_ok (List.all_eq_true.mp h6 x hx), List.all_eq_true.mp h7, List.all_eq_true.mp h7b, map_all e9, List.all_eq_true.mp h7c, List.all_eq_true.mp h7d, map_all e9b, h8, List.all_eq_true.mp h8b, List.all_eq_true.mp h8c, List.all_eq_true.mp h8e, List.all_eq_true.mp h8f, fun f d B hd hn => ?_, fun f d hd => ?_⟩
  · have hm := lookup_mem' hd
    have e5 : adOf t K f = fAd K d.at_ := by
      unfold adOf
      rw [hn, hd]
    rw [e5]
    exact funS_of (map_all e2s _ hm) (List.all_eq_true.mp h8d _ hm)
  have hm := lookup_mem' hd
  obtain ⟨i, hi, ei⟩ := List.mem_iff_getElem.mp hm
  have e3 : (t.defs.map fun d => fnW K d.2.at_)[i]? = (t.defs.map fun d => d.2.val)[i]? := by rw [e2]
  rw [List.getElem?_map, List.getElem?_map, List.getElem?_eq_getElem hi, ei] at e3
  have e4 : fnW K d.at_ = d.val := Option.some.inj e3
  have e5 : adOf t K f = fAd K d.at_ := by
    unfold adOf
    rw [hd]
  rw [e5]
  exact DefD.funD e4 (List.all_eq_true.mp h9 _ hm)
section
variable {t : Top} {ex : PySem.W.Frag → Bool} {w : World} {K : PySem.W.Frag} {h : Heap} {mg : Str → Option Value} {p : Pg}
theorem sta_of (X : K.In h) (G : h.Ns mainGlobals mg) (c : Says t ex w K) (hg : p.glo = fun x => t.glos.lookup x) : Sta p t.nm K mg (adOf t K) where
  glo := fun x u hx => by
    rw [hg] at hx
    have q := c.glos _ (lookup_mem' hx)
    unfold gloB at q
    split at q
    · rename_i w hw
      obtain ⟨v, r, ru⟩ := relK_ok q
      exact ⟨w, v, PySem.W.mg_of X G hw, r, ru⟩
    · cases q
  fn := fun f hf => by
    obtain ⟨h1, h2⟩ := ba (c.fns f hf)
    exact ⟨PySem.W.mg_of X G (eqO_ok h1), h2⟩
  met := fun C m hm => by
    obtain ⟨h1, q⟩ := ba (c.mets _ hm)
    obtain ⟨h2, q⟩ := ba q
    obtain ⟨h3, q⟩ := ba q
    obtain ⟨h4, q⟩ := ba q
    obtain ⟨h5, q⟩ := ba q
    obtain ⟨h6, h7⟩ := ba q
    exact ⟨⟨eqO_ok h1, h2, h3⟩, eqO_ok h4, of_decide_eq_true h5, by simpa using h6, h7⟩
  cls := fun C hC => by
    obtain ⟨h1, q⟩ := ba (c.clss _ hC)
    obtain ⟨h2, q⟩ := ba q
    obtain ⟨h3, q⟩ := ba q
    obtain ⟨h4, h5⟩ := ba q
    have e1 : adOf t K C = ga K C := of_decide_eq_true h2
    have e2 : adOf t K (C ++ ".__init__") = ma K (ga K C) "__init__" := of_decide_eq_true h5
    refine ⟨PySem.W.mg_of X G (eqO_ok h1), ?_, ?_⟩
    · rw [e1]; exact cls_ok h3
    · rw [e1, e2]; exact mkr_ok h4
  own := fun C hC => by
    rcases List.mem_append.mp hC with hC | hC
    · obtain ⟨h1, q⟩ := ba (c.clss _ hC)
      obtain ⟨h2, q⟩ := ba q
      obtain ⟨h3, q⟩ := ba q
      have e1 : adOf t K C = ga K C := of_decide_eq_true h2
      refine ⟨PySem.W.mg_of X G (eqO_ok h1), ?_⟩
      rw [e1]; exact cls_ok h3
    · obtain ⟨h1, q⟩ := ba (c.ncl _ hC)
      obtain ⟨h2, q⟩ := ba q
      obtain ⟨h3, q⟩ := ba q
      have e1 : adOf t K C = ga K C := of_decide_eq_true h2
      refine ⟨PySem.W.mg_of X G (eqO_ok h1), ?_⟩
      rw [e1]; exact cls_ok h3
  ncl := fun C hC => by
    obtain ⟨h1, q⟩ := ba (c.ncl _ hC)
    obtain ⟨h2, q⟩ := ba q
    obtain ⟨h3, q⟩ := ba q
    obtain ⟨h4, q⟩ := ba q
    obtain ⟨h5, q⟩ := ba q
    obtain ⟨h6, h7⟩ := ba q
    exact ⟨h4, eqO_ok h5, of_decide_eq_true h6, h7⟩
  sus := fun q hq => susB_ok (c.sus q hq)
  trs := fun q hq => by
    obtain ⟨h1, h⟩ := ba (c.trs q hq)
    obtain ⟨h2, h3⟩ := ba h
    exact ⟨xfB_ok h1, eqO_ok h2, of_decide_eq_true h3⟩
  tre := fun q hq => by
    obtain ⟨h1, h⟩ := ba (c.tre q hq)
    obtain ⟨h2, h3⟩ := ba h
    exact ⟨PySem.W.mg_of X G (eqO_ok h1), PySem.W.mg_of X G (eqO_ok h2), of_decide_eq_true h3⟩
  fld := fun C f hf => c.flds _ hf
  bin := fun x hx => PySem.W.mg_none_of X G (c.bins x hx)
  iso := fun q hq => isoB_ok (c.iso q hq)
  gtu := fun x us hx => by
    rw [hg] at hx
    have q := c.glos _ (lookup_mem' hx)
    unfold gloB at q
    split at q
    · rename_i w hw
      obtain ⟨a, o, rfl, h1, h2, h3⟩ := relK_tup q
      obtain ⟨v, r, ru⟩ := relK_ok q
      obtain ⟨z, vs, rfl, _⟩ := (ru [] (fun _ => none)).tup
      have e : Value.ref a = Value.ref z := r
      cases e
      exact ⟨a, o, PySem.W.mg_of X G hw, h1, h2, h3, ru⟩
    · cases q
theorem dicW_keys {K : PySem.W.Frag} {a : Addr} {l : List (Option (Str × Int))} {es : Array DictEntry} {n : Nat} (h : dicW K a = some l) (hl : K.lookup a = some ⟨.type "dict", none, .dict es n, #[]⟩) : es.toList.map He.keyOf = l := by
  unfold dicW at h
  rw [hl] at h
  simp only at h
  split at h
  · exact Option.some.inj h
  · cases h
theorem ns_miss {K : PySem.W.Frag} {w : World} {a : Addr} {ks : List Str} {es : Array DictEntry} {n : Nat} {z : Str} (hl : K.lookup a = some ⟨.type "dict", none, .dict es n, #[]⟩) (hk : es.toList.map He.keyOf = keysIn w.params ks) (hz : z ∉ ks) : PySem.W.nsIn K a z = some none := by
  have each : ∀ e ∈ es.toList, ∃ x t, e.key = .str x t ∧ x ∈ ks := fun e he => by
    have h1 : He.keyOf e ∈ keysIn w.params ks := by rw [← hk]; exact List.mem_map_of_mem he
    unfold keysIn at h1
    obtain ⟨k, hk1, hk2⟩ := List.mem_map.mp h1
    unfold He.keyOf at hk2
    split at hk2
    · rename_i x t q
      have h4 := Option.some.inj hk2
      obtain ⟨h5, h6⟩ := Prod.mk.inj h4
      exact ⟨x, t, q, by rw [← h5]; exact hk1⟩
    · cases hk2
  have f1 : es.toList.find? (·.key.isStr z) = none := by
    rw [List.find?_eq_none]
    intro e he hs
    obtain ⟨x, t, q, hx⟩ := each e he
    rw [q] at hs
    have e3 : x = z := by
      have := hs
      simp [Value.isStr] at this
      exact this
    rw [e3] at hx
    exact hz hx
  have f2 : es.toList.any (·.refKey) = false := by
    rw [List.any_eq_false]
    intro e he
    obtain ⟨x, t, q, hx⟩ := each e he
    unfold DictEntry.refKey
    rw [q]
    exact Bool.false_ne_true
  unfold PySem.W.nsIn
  rw [hl]
  simp only [f1, f2]
  rfl
theorem lookup_none_keys {α : Type} {z : Str} : ∀ {l : List (Str × α)}, l.lookup z = none → z ∉ l.map (·.1)
  | [], _ => by simp
  | (g, b) :: l, h => by
    simp only [List.lookup_cons] at h
    split at h
    · cases h
    · rename_i hg
      simp only [List.map_cons, List.mem_cons, not_or]
      exact ⟨fun e => by rw [e] at hg; simp at hg, lookup_none_keys h⟩
theorem gd_of (X : K.In h) (G : h.Ns mainGlobals mg) (c : Says t ex w K) (hg : p.gd = fun x => t.gdis.lookup x) : GdOk p K mg w := fun x kvs hx => by
  rw [hg] at hx
  have hm := lookup_mem' hx
  obtain ⟨q1, q2⟩ := ba (c.gdis _ hm)
  have hd := c.gdik _ hm
  obtain ⟨es, n, kd⟩ := dicW_ok hd
  refine ⟨ga K x, es, n, PySem.W.mg_of X G (eqO_ok q1), kd, fun z u hz => ?_, fun z hz => ns_miss kd.at_ (dicW_keys hd kd.at_) (lookup_none_keys hz)⟩
  have q3 := List.all_eq_true.mp q2 _ (lookup_mem' hz)
  dsimp only at q3
  split at q3
  · rename_i u0 hu
    obtain ⟨v, rv, ru⟩ := relK_ok q3
    exact ⟨u0, v, hu, rv, ru⟩
  · cases q3
theorem ft_of (X : K.In h) (G : h.Ns mainGlobals mg) (c : Says t ex w K) : ∀ q ∈ t.nm.ftb, FTab K mg w (adOf t K) q.1 q.2 := fun q hq => by
  have hm : q ∈ t.ftb := hq
  obtain ⟨q1, q2⟩ := ba (c.ftb _ hm)
  obtain ⟨es, n, kd⟩ := dicW_ok (c.ftbk _ hm)
  refine ⟨ga K q.1, es, n, PySem.W.mg_of X G (eqO_ok q1), kd, fun z f hz => ?_⟩
  obtain ⟨q3, q4⟩ := ba (List.all_eq_true.mp q2 _ (lookup_mem' hz))
  exact ⟨eqO_ok q3, PySem.W.mg_of X G (eqO_ok q4)⟩
/-- a def without defaults -/
theorem fun_of {st : Stmt} {x qual : Str} {f : Addr} {fd : FuncData} (F : FunD K x qual (defArgs st) (defBody st) (defScope st) [] [] f fd) : L2.Fun K x qual st f fd := by
  obtain ⟨oc, od, dV, kV, doc, pm, an, cdv, ct, osl, rfl, lk, hcd, hd, _⟩ := F.ex
  have e : dV = .none := by
    rcases hd with h | h
    · exact h.2
    · exact absurd rfl h.1
  subst e
  exact ⟨⟨oc, od, kV, doc, pm, an, cdv, ct, osl, rfl, lk, hcd⟩, F.kp⟩
/-- an exception's __init__: self.f = f -/
theorem xc_of {P : Program} {base : Heap} {C f par : Str} {st : Stmt} {fd : FuncData} {p1 p2 p3 p4 : Pos} (X : K.In h) (G : h.Ns mainGlobals mg) (c : Says t ex w K) (hm : (C, f) ∈ t.xcs) (F : L2.Fun K "__init__" (C ++ ".__init__") st (adOf t K (C ++ ".__init__")) fd) (hb : Binds K fd ["self", par] [])
    (S : FnScope ["self", par] ["self", par] (defScope st)) (eb : defBody st = [.Assign [.Attribute (.Name "self" p1) f p2] (.Name par p3) p4])
    (v0 : (defScope st).names.lookup ("self" : Str) = some .local) (v1 : (defScope st).names.lookup par = some .local) (hd : (par == ("__debug__" : Str)) = false) (hcd : (par == ("__classdict__" : Str)) = false)
    (hs : ∀ env : PySem.Env, swapsWith (.Name par p3) (some (.Attribute (.Name "self" p1) f p2)) p4.line env = pure false) : XcOk P w K mg base (adOf t K) C f := by
  obtain ⟨h1, q⟩ := ba (c.xcs _ hm)
  obtain ⟨h2, q⟩ := ba q
  obtain ⟨h3, q⟩ := ba q
  obtain ⟨h4, q⟩ := ba q
  obtain ⟨h5, q⟩ := ba q
  obtain ⟨h6, q⟩ := ba q
  obtain ⟨h7, q⟩ := ba q
  obtain ⟨h8, h9⟩ := ba q
  have T : OexC K (adOf t K C) := ⟨oexB_ok h2, eqO_ok h3, of_decide_eq_true h4, of_decide_eq_true h5, h8⟩
  refine ⟨PySem.W.mg_of X G (eqO_ok h1), T, eqO_ok h6, of_decide_eq_true h7, ⟨fd, ["self", par], ?_, hb⟩, h8⟩
  refine F.okX (k := 0) S (fun vs H Q E z => ?_) fun cdv A outer s H vs Q E hr z => ?_
  · obtain ⟨a, y, rfl, _⟩ := z
    rfl
  · obtain ⟨a, y, rfl, e, z⟩ := z
    refine ⟨_, by rw [eb]; exact pss_one (ps_ost (f := f) (pe_var (i := 0) rfl (.inl v0)) (pe_var (i := 1) rfl (.inl v1) hd hcd) (hs _)), ?_⟩
    exact ⟨y, rfl, .ref a, rfl, a, _, rfl, T, eqO_ok h9, .inl ⟨e, fun dx hdx hne => z dx hdx hne⟩⟩
end
end Oz
namespace Oz
open PySem PySem.Spec PyProof.Rows L2 He
noncomputable def spLaw (K : PySem.W.Frag) : Sp := fun vs H Q _ => ∃ (a : Addr) (ns : List Int), vs = [.ref a] ∧ Only H ∧ SqL K H a (ns.map V.int) ∧ ns.length ≤ 63 ∧ ∀ H', Q (.bl true) H'
theorem froL_of {K : PySem.W.Frag} {H : Hp} {a : Addr} {vs : List V} (h : SqL K H a vs) (o : Only H) : FroL K H a vs := by
  rcases h with (h | h) | h
  · rcases o a with z | ⟨ob, xs, z⟩
    · rw [h] at z; cases z
    · rw [h] at z; cases z
  · exact .inl h
  · exact .inr h
theorem rel_ints {K : PySem.W.Frag} {ρ : List Addr} {H : Hp} : ∀ ns : List Int, RelUs K ρ H (ns.map U.int) (ns.map V.int)
  | [] => RelUs.nil
  | _ :: ns => RelUs.cons relInt (rel_ints ns)
section
variable {P : Program} {w : World} {K : PySem.W.Frag} {mg : Str → Option Value} {base : Heap} {p : Pg} {nm : Names} {ad : Str → Addr}
/-- a promise at one place -/
noncomputable def FnAt (A0 : Around) (P : Program) (w : World) (K : PySem.W.Frag) (mg : Str → Option Value) (base : Heap) (CX : CXT) (f : Addr) (fd : FuncData) (ps : List Str) (sp : Sp) : Prop :=
  ∀ outer s H args us vs Q E, Env0 P w K mg base A0 outer s H → BindsTo s fd args (ps.zip us) → Vals vs us → sp vs H Q E → codeAny (model P w) A0 (.call (.ref f) args) (CR CX outer P w H s Q E) s
theorem fn_law {sn x qual : Str} {st : Stmt} {f : Addr} {fd : FuncData} {N : List Str} {body : Sts} (F : L2.Fun K x qual st f fd) (S : FnScope N [sn] (defScope st)) (A : AllFn P w K mg base p nm ad 677)
    (D : ∀ (X : Cx) (cdv : Value) (A : Around) (outer : List PySem.Env) (s : Shared) (H : Hp) (E : XK), X = cxOf (L2.CX P w) P w K mg base N qual (defScope st) f cdv A outer s H E → Ok X p nm ad 677 E → PSs X (defBody st) (tB X (p.cal 677) E body))
    (law : ∀ ns : List Int, ns.length ≤ 63 → ∃ S', (⟨1, N.length, false, body⟩ : Df).run (p.cal 677) [.loc 0] [.fro (ns.map U.int)] = .ok (.bl true) S') : FnAt callerA P w K mg base (L2.CX P w) f fd [sn] (spLaw K) := by
  obtain ⟨oc, od, kV, doc, pm, an, cdv, ct, osl, rfl, lk, hcd⟩ := F.ex
  intro outer s H args us vs Q E e0 hb r h
  · obtain ⟨a, ns, rfl, ho, hS, hl, q⟩ := h
    have w0 : Wok K mg [a] [.fro (ns.map U.int)] H := by
      refine ⟨rfl, fun m n b c c' h1 h2 h3 h4 g1 g2 => ?_, fun n b c h1 h2 => ?_⟩
      · cases m with
        | zero =>
          simp at h3
          subst h3
          cases g1
        | succ m => simp at h3
      · cases n with
        | zero =>
          simp at h1 h2
          subst h1 h2
          exact ⟨_, froL_of hS ho, rel_ints ns⟩
        | succ n => simp at h1
    obtain ⟨S', e⟩ := law ns hl
    refine run_body (k := 679) lk hcd S rm_caller e0 (G := fun xs H2 => xs = [.ref a] ∧ H2 = H) (fun A' Ex Q' z => hb _ _ _ _ (z s H [.ref a] us e0 Un.refl rfl (fun _ _ q => q) r rfl ⟨rfl, rfl⟩)) fun s2 H2 xs ⟨hx, hH⟩ hr2 => ?_
    subst hx hH
    refine ⟨_, D _ cdv callerA outer s2 H2 E rfl (A.ok hr2), [a], [.fro (ns.map U.int)], startU N.length [.loc 0], w0, env_start (RelUs.cons (relLoc rfl) RelUs.nil), fin_read ?_⟩
    have e' : (exs (p.cal 677) body (startU N.length [.loc 0]) [.fro (ns.map U.int)]).fin = .ok (.bl true) S' := e
    rw [e']
    intro ρ' H' b x w' rb
    cases rb.bl
    exact q H'
end
end Oz
end
section
set_option maxHeartbeats 4000000
namespace Oz
open PySem PySem.Spec PyProof.Rows L2
end Oz
end
section
set_option maxHeartbeats 4000000
namespace Oz
open PySem PySem.Spec PyProof.Rows L2 He
/-- a call within a try -/
theorem pe_callT {X : Cx} {k : Nat} {a : Addr} {sp : Sp} {Wx : WX} {f : Str} {px pos : Pos} {e : Expr} {es : List Expr} {t : TA} (F : FnQ X.prog X.w X.K X.mg X.base (L2.CX X.prog X.w) k a sp) (hr : Rm k X.A) (hm : X.mg f = some (.ref a)) (hk : PySem.W.keepIn X.K (.ref a) = true) (tk : Takes X Wx) (ha : PA X (e :: es) t)
    (hg : Gl X f := by rfl) (hdb : (f == ("__debug__" : Str)) = false := by decide) (he : starEach (e :: es) X.env = (false, eval e X.env) :: starEach es X.env := by rfl) (hpl : (backTo pos (starEach es X.env)).any (·.1) = false := by rfl) :
    PE X (.Call (.Name f px) (e :: es) [] pos) (fun σ H Q => t σ H fun vs H1 => sp vs H1 Q (WE Wx σ)) := by
  refine ⟨fun pins s σ H Q I h => ?_⟩
  refine wpAny_Call_Name_kw (ld_glob I hg hm ?_ hdb)
  refine PySem.W.callWith_K (h₀ := X.base) I.ok.mod.kin hk (thn (ha.run pos pins s σ H _ I h) fun us s1 ⟨vs, H1, I1, r, q⟩ => ⟨I1.kIn, ?_⟩) he hpl
  refine wpAny_call (codeAny_mono (F X.A X.stack s1 H1 us vs Q (WE Wx σ) hr I1.env0 r q) fun z s' hz => ?_)
  match z, hz with
  | .error er, hz => exact passAt tk σ pins H1 s1 er s' I1 hz
  | .ok (.ret u), hz => exact I1.after hz
  | .ok .next, hz => exact hz.elim
  | .ok .brk, hz => exact hz.elim
  | .ok .cont, hz => exact hz.elim
section
variable {X : Cx} {a : Addr} {oe : Obj} {cls : Value} {d : Option Addr} {pn : List (Addr × Obj)} {i : Nat} {n : Str} {p1 p2 p3 pos : Pos}
noncomputable def tFx (K : PySem.W.Frag) (a : Addr) (cls : Value) (d : Option Addr) (i : Nat) (f : Str) : TE := fun σ H Q => σ[i]? = some (some (.ref a)) ∧ ∃ (C dd : Addr) (fs : List (Str × V)) (v : V), cls = .ref C ∧ d = some dd ∧ XfC K C ∧ PySem.W.findIn K (.ref C) f = some none ∧ H dd = some (.xd fs) ∧ fs.lookup f = some v ∧ Q v H
theorem pe_fx {f : Str} (hz : Zc cls d oe) (hf : ∃ vs, oe.data = .fields vs) (hN : X.N[i]? = some n) (hv : Vis X.env.scope n) (hd : (n == ("__debug__" : Str)) = false := by decide) (hcd : (n == ("__classdict__" : Str)) = false := by decide)
    (hb : attributeBase (.Name n p2) f X.env (eval (.Name n p2) X.env) = eval (.Name n p2) X.env := by rfl) : PE (X.suite a ((a, oe) :: pn)) (.Attribute (.Name n p2) f pos) (tFx X.K a cls d i f) := by
  refine ⟨fun pins s σ H Q I ⟨hσ, C, dd, fs, v, h1, h2, T, hno, h3, h4, q⟩ => ?_⟩
  exact (pe_xf T hno hz hf (pe_var (X := X.suite a ((a, oe) :: pn)) hN hv hd hcd) hb).run pins s σ H Q I ⟨.ref a, hσ, rfl, h1, dd, fs, v, h2, h3, h4, q⟩
end
/-- nothing leaves the law -/
theorem law0 {P : Program} {w : World} {K : PySem.W.Frag} {mg : Str → Option Value} {base : Heap} {f : Addr} {fd : FuncData} {ps : List Str} (F : FnAt callerA P w K mg base (L2.CX P w) f fd ps (spLaw K)) : FnAt callerA P w K mg base (fun _ _ _ _ _ _ => False) f fd ps (spLaw K) := by
  intro outer s H args us vs Q E he hb hv hs
  refine codeAny_mono (F outer s H args us vs Q (fun _ _ _ => False) he hb hv hs) fun r s' z => ?_
  match r, z with
  | .error e, ⟨_, _, _, _, _, _, _, _, _, _, _, _, hE⟩ => exact hE.elim
  | .ok (.ret u), z => exact z
  | .ok .next, z => exact z
  | .ok .brk, z => exact z
  | .ok .cont, z => exact z
section
variable {P : Program} {w : World} {K : PySem.W.Frag} {mg mb : Str → Option Value} {fa a : Addr} {fd : FuncData} {s₁ : Shared} {vs : List Value} {ns : List Int}
/-- from an abstract heap that tracks the script alone, or nothing -/
theorem call_from {sn : Str} (H : Hp) (KX : K.In s₁.heap) (hns : s₁.heap.Ns mainGlobals mg) (hb : s₁.heap.Ns builtinsNs mb) (hbb : ∀ x : Str, x ≠ "__name__" → mb x = bootBuiltins x) (hlim : s₁.heap.NoLimit) (hg : s₁.gens = #[]) (ha : s₁.heap.get? a = some { cls := .type "list", data := .seq vs.toArray })
    (hl : ns.length ≤ 63) (F : ∀ base : Heap, K.In base → base.Ns mainGlobals mg → FnAt callerA P w K mg base (fun _ _ _ _ _ _ => False) fa fd [sn] (spLaw K)) (hbind : ∀ (s : Shared) (u : Value), BindsTo s fd ⟨[u], []⟩ [(sn, u)])
    (hO : Only H) (hS : SqL K H a (ns.map V.int)) (hok : HOk P w H s₁.heap) (hA : ∀ b, H b ≠ none → b = a) (hK : H a ≠ none → K.lookup a = none) :
    codeAny (model P w) callerA (.call (.ref fa) ⟨[.ref a], []⟩) (fun r s' => r = .ok (.ret (.bool true)) ∧ OldK s₁.heap s'.heap ∧ s'.os = s₁.os ∧ AllBare s'.gens) s₁ := by
  have off : ∀ {b : Addr} {o : Obj}, s₁.heap.get? b = some o → (∀ xs n, o.data ≠ .seq xs n) → H b = none := fun {b o} e d => by
    rcases Option.eq_none_or_eq_some (H b) with q | ⟨u, q⟩
    · exact q
    · have z := hA b (by rw [q]; exact Option.some_ne_none u)
      rw [z, ha] at e
      cases e
      exact absurd rfl (d _ _)
  have names : ∀ {b : Addr} {m : Str → Option Value}, s₁.heap.Ns b m → (hidT s₁.heap H).Ns b m := fun {b m} q => by
    obtain ⟨o, es, ep, e, d, r⟩ := q
    exact ⟨o, es, ep, hidT_get e (off e fun xs n z => by rw [d] at z; cases z), d, r⟩
  have written : K.In (hidT s₁.heap H) := fun b o e => by
    refine hidT_get (KX b o e) ?_
    rcases Option.eq_none_or_eq_some (H b) with q | ⟨u, q⟩
    · exact q
    · have z := hA b (by rw [q]; exact Option.some_ne_none u)
      rw [z] at e q
      rw [hK (by rw [q]; exact Option.some_ne_none u)] at e
      cases e
  obtain ⟨mc, lim1, lim2⟩ := hlim
  have md : Mod K mg (hidT s₁.heap H) := ⟨written, names hns, ⟨mb, names hb, hbb⟩, ⟨mc, names lim1, lim2⟩⟩
  have e0 : Env0 P w K mg (hidT s₁.heap H) callerA [] s₁ H := ⟨rfl, md, fun b o e => of_hidT e, Nat.le_of_eq (hidT_size _ _), trivial, fun b hb => (List.not_mem_nil (show b ∈ ([] : List Addr) from hb)).elim, hok, .of_eq hg⟩
  have run := F _ written (names hns) [] s₁ H ⟨[.ref a], []⟩ [.ref a] [.ref a] (fun v _ => v = .bl true) (fun _ _ _ => False) e0 (hbind s₁ (.ref a)) (.cons rfl .nil) ⟨a, ns, rfl, hO, hS, hl, fun _ => rfl⟩
  refine codeAny_mono run fun r s' h => ?_
  match r, h with
  | .ok (.ret u), h =>
    obtain ⟨v, H', os, bare, un, hok', rv, q⟩ := h
    subst q
    obtain rfl : u = Value.bool true := rv
    refine ⟨rfl, OldK.of_keep fun b o e => ?_, os, bare⟩
    rcases hO b with q | ⟨ob, xs, q⟩
    · exact un.keep b o e q (fun z => List.not_mem_nil (show b ∈ ([] : List Addr) from z)) (fun z => by simp at z)
    · have c1 := (hok b _ q).1
      have c2 := (hok' b _ (un.frzs b ob _ q)).1
      rw [e] at c1
      cases c1
      exact c2
theorem call_script {sn : Str} (KX : K.In s₁.heap) (hns : s₁.heap.Ns mainGlobals mg) (hb : s₁.heap.Ns builtinsNs mb) (hbb : ∀ x : Str, x ≠ "__name__" → mb x = bootBuiltins x) (hlim : s₁.heap.NoLimit) (hg : s₁.gens = #[]) (ha : s₁.heap.get? a = some { cls := .type "list", data := .seq vs.toArray }) (hi : IntsAre vs ns)
    (hl : ns.length ≤ 63) (F : ∀ base : Heap, K.In base → base.Ns mainGlobals mg → FnAt callerA P w K mg base (fun _ _ _ _ _ _ => False) fa fd [sn] (spLaw K)) (hbind : ∀ (s : Shared) (u : Value), BindsTo s fd ⟨[u], []⟩ [(sn, u)]) :
    codeAny (model P w) callerA (.call (.ref fa) ⟨[.ref a], []⟩) (fun r s' => r = .ok (.ret (.bool true)) ∧ OldK s₁.heap s'.heap ∧ s'.os = s₁.os ∧ AllBare s'.gens) s₁ := by
  have rv := vals_ints hi
  have sz : ns.length ≤ sizeLine := Nat.le_trans hl (by decide)
  rcases Option.eq_none_or_eq_some (K.lookup a) with hk | ⟨o, hk⟩
  · let H : Hp := fun b => if b = a then some (.frz { cls := .type "list", data := .seq vs.toArray } (.lst (ns.map V.int))) else none
    have at_ : H a = some (.frz { cls := .type "list", data := .seq vs.toArray } (.lst (ns.map V.int))) := if_pos rfl
    have out : ∀ {b}, b ≠ a → H b = none := fun hb => if_neg hb
    refine call_from H KX hns hb hbb hlim hg ha hl F hbind (fun b => ?_) (.inl (.inr ⟨_, at_⟩)) (fun b u z => ?_) (fun b z => ?_) fun _ => hk
    · by_cases q : b = a
      · subst q; exact .inr ⟨_, _, at_⟩
      · exact .inl (out q)
    · by_cases q : b = a
      · subst q
        rw [at_] at z
        cases z
        exact ⟨ha, by rw [List.length_map]; exact sz, vs, _, rv, ha⟩
      · rw [out q] at z
        cases z
    · by_cases q : b = a
      · exact q
      · exact absurd (out q) z
  · have e := KX a o hk
    rw [ha] at e
    cases e
    refine call_from (fun _ => none) KX hns hb hbb hlim hg ha hl F hbind (fun _ => .inl rfl) (.inr ⟨_, vs.toArray, _, hk, rfl, rfl, rfl, by rw [List.size_toArray, hi.length]; exact sz, by simpa using rv⟩) (fun b u z => nomatch (show (none : Option HO) = some u from z)) (fun b z => absurd rfl z) fun z => absurd rfl z
end
/-- the goal behind k_head -/
theorem walk_at_caller {sn : Str} {l : PySem.W.OpenLaw} {q : Program} {loose : List Str} {XP : (Str → Option Value) → Heap → Prop} {YP : World → Heap → Prop} {d : DefRec} (hn : l.most = some 63) (hdf : d.params.defaults = [])
    (F : ∀ (w : World) (mg : Str → Option Value) (fa : Addr) (h : Heap), YP w h → h.Ns mainGlobals mg → mg d.name = some (.ref fa) →
      ∃ (K : PySem.W.Frag) (fd : FuncData), K.In h ∧ (∀ (s : Shared) (u : Value), BindsTo s fd ⟨[u], []⟩ [(sn, u)]) ∧ ∀ base : Heap, K.In base → base.Ns mainGlobals mg → FnAt callerA l.prog w K mg base (fun _ _ _ _ _ _ => False) fa fd [sn] (spLaw K)) :
    PySem.W.WalkO q loose XP YP l.row.toRowW d [] (fun f vs => PySem.call f vs) := by
  refine Att.attach_call hn hdf fun w s₀ s₁ mg mb fa o pm cd doc a vs ns G Y ho hd hcd hmg hobj hints hlen hg => ?_
  obtain ⟨K, fd, KX, hb, hF⟩ := F w mg fa _ Y G.T.g hmg
  exact call_script KX G.T.g G.T.b G.T.builtins G.T.nolimit hg hobj hints hlen hF hb
end Oz
end
section
set_option maxHeartbeats 4000000
namespace Oz
open PySem PySem.Spec PyProof.Rows L2
section
variable {α β : Type} {Φ : Cal} {env : Env} {S : Sto} {a b : U} {i j : Int} {x y : Str} {k : Bool} {c f : Str} {fs : List (Str × U)} {us : List U}
theorem bind_ok {u : α} {g : α → Sto → R β} : (R.ok u S).bind g = g u S := rfl
theorem bind_exc {g : α → Sto → R β} : (R.exc c fs S : R α).bind g = .exc c fs S := rfl
theorem bind_bad {g : α → Sto → R β} : (R.bad : R α).bind g = .bad := rfl
theorem on_ok {u : α} {g : α → Sto → O} : (R.ok u S).on g = g u S := rfl
theorem on_exc {g : α → Sto → O} : (R.exc c fs S : R α).on g = .exc c fs S := rfl
theorem then_nx {g : Env → Sto → O} : (O.nx env S).then_ g = g env S := rfl
theorem then_ret {g : Env → Sto → O} : (O.ret a S).then_ g = .ret a S := rfl
theorem then_exc {g : Env → Sto → O} : (O.exc c fs S).then_ g = .exc c fs S := rfl
theorem then_bk {g : Env → Sto → O} : (O.bk env S).then_ g = .bk env S := rfl
theorem then_ct {g : Env → Sto → O} : (O.ct env S).then_ g = .ct env S := rfl
theorem turn_nx {g : Env → Sto → O} : (O.nx env S).turn g = g env S := rfl
theorem turn_ret {g : Env → Sto → O} : (O.ret a S).turn g = .ret a S := rfl
theorem turn_exc {g : Env → Sto → O} : (O.exc c fs S).turn g = .exc c fs S := rfl
theorem fin_nx : (O.nx env S).fin = .ok .non S := rfl
theorem fin_ret : (O.ret a S).fin = .ok a S := rfl
theorem fin_exc : (O.exc c fs S).fin = .exc c fs S := rfl
theorem rO_some {u : α} : rO (some u) S = .ok u S := rfl
theorem noex_ok {u : α} : (R.ok u S).noex = .ok u S := rfl
theorem ev_v (n : Nat) : ev Φ (.v n) env S = (match env[n]? with | some (some u) => .ok u S | _ => .bad) := rfl
theorem ev_v' {n : Nat} {u : U} (h : env[n]? = some (some u)) : ev Φ (.v n) env S = .ok u S := by rw [ev_v, h]
theorem ev_k {u : U} : ev Φ (.k u) env S = .ok u S := rfl
theorem ev_g {u : U} (h : Φ.glo x = some u) : ev Φ (.g x) env S = .ok u S := by rw [ev, h]; rfl
theorem ev_tup {es : Es} : ev Φ (.tup es) env S = (evs Φ es env S).bind fun us S => if us.length ≤ sizeLine then .ok (.tup us) S else .bad := rfl
theorem ev_lst {es : Es} : ev Φ (.lst es) env S = (evs Φ es env S).bind fun us S => if us.length ≤ sizeLine then .ok (.loc S.length) (S ++ [.lst us]) else .bad := rfl
theorem ev_bin {o : Op} {e e' : E} : ev Φ (.bin o e e') env S = (ev Φ e env S).bind fun x S => (ev Φ e' env S).bind fun y S => binU o x y S := rfl
theorem ev_neg {e : E} : ev Φ (.neg e) env S = (ev Φ e env S).bind fun x S => (match x with | .int i => .ok (.int (-i)) S | _ => .bad) := rfl
theorem ev_cmp {o : Cm} {e e' : E} : ev Φ (.cmp o e e') env S = (ev Φ e env S).bind fun x S => (ev Φ e' env S).bind fun y S => cmpU o x y S := rfl
theorem ev_and {e e' : E} : ev Φ (.and e e') env S = (ev Φ e env S).bind fun x S => (match x with | .bl true => ev Φ e' env S | .bl false => .ok (.bl false) S | _ => .bad) := rfl
theorem ev_or {e e' : E} : ev Φ (.or e e') env S = (ev Φ e env S).bind fun x S => (match x with | .bl true => .ok (.bl true) S | .bl false => ev Φ e' env S | _ => .bad) := rfl
theorem ev_not {e : E} : ev Φ (.not e) env S = (ev Φ e env S).bind fun x S => (match x with | .bl k => .ok (.bl (!k)) S | _ => .bad) := rfl
theorem ev_ife {t : T} {e e' : E} : ev Φ (.ife t e e') env S = (evt Φ t env S).bind fun k S => if k then ev Φ e env S else ev Φ e' env S := rfl
theorem ev_ix {e e' : E} : ev Φ (.ix e e') env S = (ev Φ e env S).bind fun x S => (ev Φ e' env S).bind fun y S => ixU x y S := rfl
theorem ev_sl {e : E} {l h : Eo} : ev Φ (.sl e l h) env S = (ev Φ e env S).bind fun x S => (evo Φ l env S).bind fun l S => (evo Φ h env S).bind fun h S => slU x l h S := rfl
theorem ev_fld {e : E} {C : Str} : ev Φ (.fld e C f) env S = (ev Φ e env S).bind fun x S => (match x with
      | .loc n => (match S[n]? with | some (.ins D fs) => if D = C then rO (fs.lookup f) S else .bad | _ => .bad)
      | _ => .bad) := rfl
theorem ev_call {es : Es} : ev Φ (.call f es) env S = (evs Φ es env S).bind fun us S => Φ.call f us S := rfl
theorem ev_meth {e : E} {C : Str} {es : Es} : ev Φ (.meth e C f es) env S = (ev Φ e env S).bind fun x S => (match x with
      | .loc n => (match S[n]? with
        | some (.ins D fs) => if D = C ∧ fs.lookup f = none then (evs Φ es env S).bind fun us S => Φ.call (C ++ "." ++ f) (.loc n :: us) S else .bad
        | _ => .bad)
      | _ => .bad) := rfl
theorem ev_mk {C : Str} {es : Es} : ev Φ (.mk C es) env S = (evs Φ es env S).bind fun us S => (Φ.init (C ++ ".__init__") (.loc S.length :: us) (S ++ [.ins C []])).bind fun u S' => (match u with | .non => .ok (.loc S.length) S' | _ => .bad) := rfl
theorem ev_bf {g : Bf} {es : Es} : ev Φ (.bf g es) env S = (evs Φ es env S).bind fun us S => bfU g us S := rfl
theorem ev_bm {g : Bm} {e : E} {es : Es} : ev Φ (.bm g e es) env S = (ev Φ e env S).bind fun x S => if tyB g x S then (evs Φ es env S).bind fun us S => bmU g x us S else .bad := rfl
theorem ev_lc {is : List Nat} {tp : Bool} {e e' : E} {t : T} : ev Φ (.lc is tp e e' t) env S = (ev Φ e' env S).bind fun x S => (match iterU S x with
      | some (us, src) => (lcI tp is (wipeE env is) (fun env S => (evt Φ t env S).noex) (fun env S => (ev Φ e env S).noex) S.length us src us (S ++ [.lst []])).bind fun _ S' => .ok (.loc S.length) S'
      | none => .bad) := rfl
theorem evo_no : evo Φ .no env S = .ok none S := rfl
theorem evo_so {e : E} : evo Φ (.so e) env S = (ev Φ e env S).bind fun x S => (match x with | .int i => .ok (some i) S | _ => .bad) := rfl
theorem evs_nil : evs Φ .nil env S = .ok [] S := rfl
theorem evs_cons {e : E} {es : Es} : evs Φ (.cons e es) env S = (ev Φ e env S).bind fun u S => (evs Φ es env S).bind fun us S => .ok (u :: us) S := rfl
theorem evs_star {e : E} {es : Es} : evs Φ (.star e es) env S = (ev Φ e env S).bind fun u S => (match items? S u with | some xs => (evs Φ es env S).bind fun us S => .ok (xs ++ us) S | none => .bad) := rfl
theorem evt_tt : evt Φ .tt env S = .ok true S := rfl
theorem evt_e {e : E} : evt Φ (.e e) env S = (ev Φ e env S).bind fun x S => rO (truU x S) S := rfl
theorem evt_and {e e' : T} : evt Φ (.and e e') env S = (evt Φ e env S).bind fun k S => if k then evt Φ e' env S else .ok false S := rfl
theorem evt_or {e e' : T} : evt Φ (.or e e') env S = (evt Φ e env S).bind fun k S => if k then .ok true S else evt Φ e' env S := rfl
theorem evt_not {e : T} : evt Φ (.not e) env S = (evt Φ e env S).bind fun k S => .ok (!k) S := rfl
theorem ex_set {tp : Bool} {is : List Nat} {e : E} : ex Φ (.set tp is e) env S = (ev Φ e env S).on fun u S => (match setN tp is u env with | some env => .nx env S | none => .bad) := rfl
theorem ex_sub {o i e : E} : ex Φ (.sub o i e) env S = (ev Φ e env S).on fun u S => (ev Φ o env S).on fun a S => (ev Φ i env S).on fun k S => (setItemU a k u S).on fun _ S => .nx env S := rfl
theorem ex_aug {n : Nat} {o : Op} {e : E} : ex Φ (.aug n o e) env S = (match env[n]? with | some (some a) => (ev Φ e env S).on fun b S => (augU o a b S).on fun u S => .nx (env.set n (some u)) S | _ => .bad) := rfl
theorem ex_fset {o : E} {C : Str} {e : E} : ex Φ (.fset o C f e) env S = (ev Φ e env S).on fun u S => (ev Φ o env S).on fun a S => (setFldU a C f u S).on fun _ S => .nx env S := rfl
theorem ex_faug {o : E} {C : Str} {op : Op} {e : E} : ex Φ (.faug o C f op e) env S = (ev Φ o env S).on fun a S => (match a with
      | .loc n => (match S[n]? with
        | some (.ins D fs) => if D = C then (match fs.lookup f with | some x => (ev Φ e env S).on fun y S => (augU op x y S).on fun z S => (setFldU (.loc n) C f z S).on fun _ S => .nx env S | none => .bad) else .bad
        | _ => .bad)
      | _ => .bad) := rfl
theorem ex_ex {e : E} : ex Φ (.ex e) env S = (ev Φ e env S).on fun _ S => .nx env S := rfl
theorem ex_ret {e : E} : ex Φ (.ret e) env S = (ev Φ e env S).on fun u S => .ret u S := rfl
theorem ex_if {t : T} {s s' : Sts} : ex Φ (.if_ t s s') env S = (evt Φ t env S).on fun k S => if k then exs Φ s env S else exs Φ s' env S := rfl
theorem ex_while {t : T} {s : Sts} : ex Φ (.while_ t s) env S = loopI (fun env S => evt Φ t env S) (fun env S => exs Φ s env S) fuel env S := rfl
theorem ex_for {tp : Bool} {is : List Nat} {e : E} {s : Sts} : ex Φ (.for_ tp is e s) env S = (ev Φ e env S).on fun x S => (match iterU S x with
      | some (us, src) => forI tp is (fun env S => exs Φ s env S) us src us env S
      | none => .bad) := rfl
theorem ex_raise {C : Str} {e : E} {g : Str} (h : Φ.xf C = some g) : ex Φ (.raise C e) env S = (ev Φ e env S).on fun u S => .exc C [(g, u)] S := by rw [ex, h]
theorem exs_nil : exs Φ .nil env S = .nx env S := rfl
theorem exs_cons {s : St} {ss : Sts} : exs Φ (.cons s ss) env S = (ex Φ s env S).then_ fun env S => exs Φ ss env S := rfl
theorem tru_bl : truU (.bl k) S = some k := rfl
theorem tru_int : truU (.int i) S = some (i != 0) := rfl
theorem add_int : binU .add (.int i) (.int j) S = .ok (.int (i + j)) S := rfl
theorem sub_int : binU .sub (.int i) (.int j) S = .ok (.int (i - j)) S := rfl
theorem add_tup {xs ys : List U} (h : xs.length + ys.length ≤ sizeLine) : binU .add (.tup xs) (.tup ys) S = .ok (.tup (xs ++ ys)) S := if_pos h
theorem aug_add_int : augU .add (.int i) (.int j) S = .ok (.int (i + j)) S := rfl
theorem aug_sub_int : augU .sub (.int i) (.int j) S = .ok (.int (i - j)) S := rfl
theorem c_eq_int : cmpU .eq (.int i) (.int j) S = .ok (.bl (decide (i = j))) S := rfl
theorem c_ne_int : cmpU .ne (.int i) (.int j) S = .ok (.bl (!decide (i = j))) S := rfl
theorem c_lt_int : cmpU .lt (.int i) (.int j) S = .ok (.bl (decide (i < j))) S := rfl
theorem c_le_int : cmpU .le (.int i) (.int j) S = .ok (.bl (decide (i ≤ j))) S := rfl
theorem c_gt_int : cmpU .gt (.int i) (.int j) S = .ok (.bl (decide (j < i))) S := rfl
theorem c_ge_int : cmpU .ge (.int i) (.int j) S = .ok (.bl (decide (j ≤ i))) S := rfl
theorem c_eq_str : cmpU .eq (.str x) (.str y) S = .ok (.bl (decide (x = y))) S := rfl
theorem c_ne_str : cmpU .ne (.str x) (.str y) S = .ok (.bl (!decide (x = y))) S := rfl
theorem ix_tup {xs : List U} : ixU (.tup xs) (.int i) S = (match atI xs i with | some u => .ok u S | none => .bad) := rfl
theorem ix_loc {n : Nat} {xs : List U} (h : S[n]? = some (.lst xs)) : ixU (.loc n) (.int i) S = (match atI xs i with | some u => .ok u S | none => .bad) := by
  simp only [ixU, items?, h] <;> rfl
theorem atI_nat_own {xs : List α} {n : Nat} {u : α} (h : xs[n]? = some u) : atI xs (n : Int) = some u := by
  have hl : n < xs.length := (List.getElem?_eq_some_iff.mp h).1
  unfold atI ixN
  rw [if_pos (by omega), if_pos (by omega)]
  simpa using h
theorem set_int {n : Nat} : setN false [n] a env = some (env.set n (some a)) := rfl
theorem set_tup {is : List Nat} (h : us.length = is.length) : setN true is (.tup us) env = some (setAll is us env) := if_pos h
theorem set_same {S : Sto} {n : Nat} {c : Cel} (h : S[n]? = some c) : S.set n c = S := by
  obtain ⟨hn, e⟩ := List.getElem?_eq_some_iff.mp h
  subst e
  simp
/-- a comprehension, all items taken -/
theorem lcI_all {tp : Bool} {is : List Nat} {env : Env} {c : Env → Sto → R Bool} {f : Env → Sto → R U} {n : Nat} {all : List U} {src : Option Nat} {g : U → U} : ∀ {us : List U} {S : Sto} {acc : List U}
    (hc : ∀ u ∈ us, ∃ env', setN tp is u env = some env' ∧ ∀ S, c env' S = .ok true S ∧ f env' S = .ok (g u) S) (hs : ∀ x, stays (S.set n (.lst x)) all src = true) (hS : S[n]? = some (.lst acc)) (hz : acc.length + us.length ≤ sizeLine),
    lcI tp is env c f n all src us S = .ok () (S.set n (.lst (acc ++ us.map g)))
  | [], S, acc, hc, hs, hS, hz => by
    have h0 : stays S all src = true := by have := hs acc; rwa [set_same hS] at this
    unfold lcI
    rw [if_pos h0, List.map_nil, List.append_nil, set_same hS]
  | u :: us, S, acc, hc, hs, hS, hz => by
    have h0 : stays S all src = true := by have := hs acc; rwa [set_same hS] at this
    obtain ⟨env', e1, e2⟩ := hc u List.mem_cons_self
    have hn : n < S.length := (List.getElem?_eq_some_iff.mp hS).1
    unfold lcI
    rw [if_pos h0]
    simp only [e1, (e2 S).1, (e2 S).2, bind_ok, if_true]
    have hp : pushAt n (g u) S = .ok () (S.set n (.lst (acc ++ [g u]))) := by
      unfold pushAt
      simp only [hS]
      rw [if_pos (by simp at hz; omega)]
    simp only [hp, bind_ok]
    rw [lcI_all (g := g) (acc := acc ++ [g u]) (fun v hv => hc v (List.mem_cons_of_mem _ hv)) (fun x => by rw [List.set_set]; exact hs x) (by rw [List.getElem?_set_self hn]) (by simp at hz ⊢; omega)]
    simp [List.set_set]
theorem last_get {S : Sto} {c : Cel} : (S ++ [c])[S.length]? = some c := by simp
theorem last_set {S : Sto} {c c' : Cel} : (S ++ [c]).set S.length c' = S ++ [c'] := by simp
theorem tup_loc {S : Sto} {n : Nat} {us : List U} (h : S[n]? = some (.lst us)) : bfU .tup [.loc n] S = .ok (.tup us) S := by
  unfold bfU tupF
  simp only [items?, h]
theorem len_loc {S : Sto} {n : Nat} {us : List U} (h : S[n]? = some (.lst us)) : bfU .len [.loc n] S = .ok (.int us.length) S := by
  unfold bfU lenF lenU
  simp only [items?, h, Option.map_some]
end
end Oz
end
section
set_option maxHeartbeats 4000000
namespace Oz
open PySem PySem.Spec PyProof.Rows L2
section
variable {S S' S'' : Sto}
/-- nothing that stood is changed -/
noncomputable def Gr (S S' : Sto) : Prop := S.length ≤ S'.length ∧ ∀ k, k < S.length → S'[k]? = S[k]?
theorem Gr.refl : Gr S S := ⟨Nat.le_refl _, fun _ _ => rfl⟩
theorem Gr.trans (a : Gr S S') (b : Gr S' S'') : Gr S S'' := ⟨Nat.le_trans a.1 b.1, fun k h => (b.2 k (Nat.lt_of_lt_of_le h a.1)).trans (a.2 k h)⟩
theorem Gr.push {c : Cel} : Gr S (S ++ [c]) := ⟨by simp, fun k h => List.getElem?_append_left h⟩
theorem Gr.set_new {c : Cel} {k : Nat} (h : S.length ≤ k) (g : Gr S S') : Gr S (S'.set k c) := ⟨by simp; exact g.1, fun j hj => by rw [List.getElem?_set_ne (by omega)]; exact g.2 j hj⟩
theorem Gr.at_ (g : Gr S S') {k : Nat} {c : Cel} (h : S[k]? = some c) : S'[k]? = some c := (g.2 k (List.getElem?_eq_some_iff.mp h).1).trans h
inductive All2 {α β : Type} (Q : α → β → Prop) : List α → List β → Prop
  | nil : All2 Q [] []
  | cons {a : α} {b : β} {as : List α} {bs : List β} : Q a b → All2 Q as bs → All2 Q (a :: as) (b :: bs)
theorem All2.length {α β : Type} {Q : α → β → Prop} {as : List α} {bs : List β} (h : All2 Q as bs) : bs.length = as.length := by
  induction h with
  | nil => rfl
  | cons _ _ ih => simp [ih]
theorem All2.map_eq {α β : Type} {g : α → β} {as : List α} {bs : List β} (h : All2 (fun a b => b = g a) as bs) : bs = as.map g := by
  induction h with
  | nil => rfl
  | cons q _ ih => rw [q, ih]; rfl
variable {tp : Bool} {is : List Nat} {env : Env} {n : Nat}
theorem lcI_none {c : Env → Sto → R Bool} {f : Env → Sto → R U} {all : List U} : ∀ (us : List U) (S : Sto), lcI tp is env c f n all none us S = lcJ tp is env c f n (fun _ => true) us S
  | [], S => rfl
  | u :: us, S => by
    unfold lcI lcJ
    simp only [stays, if_true]
    cases setN tp is u env with
    | none => rfl
    | some env' =>
      simp only
      congr 1
      funext b S1
      cases b with
      | true =>
        simp only [if_true]
        congr 1
        funext y S2
        congr 1
        funext _ S3
        exact lcI_none us S3
      | false =>
        simp only [Bool.false_eq_true, if_false]
        exact lcI_none us S1
theorem pushAt_ok {u : U} {acc : List U} (h : S[n]? = some (.lst acc)) (hz : acc.length < sizeLine) : pushAt n u S = .ok () (S.set n (.lst (acc ++ [u]))) := by
  unfold pushAt
  simp only [h]
  rw [if_pos hz]
theorem lcJ_rel {α : Type} {fu : α → U} {c : Env → Sto → R Bool} {f : Env → Sto → R U} {Inv : Sto → Prop} {Q : α → U → Prop} (hi : ∀ S x, Inv S → Inv (S.set n (.lst x))) : ∀ {us : List α} {S : Sto} {acc : List U}
    (hf : ∀ u ∈ us, ∃ env', setN tp is (fu u) env = some env' ∧ ∀ S, Inv S → n < S.length → c env' S = .ok true S ∧ ∃ y S', f env' S = .ok y S' ∧ Q u y ∧ Inv S' ∧ S.length ≤ S'.length ∧ S'[n]? = S[n]?) (h0 : Inv S) (hS : S[n]? = some (.lst acc)) (hz : acc.length + us.length ≤ sizeLine),
    ∃ ys S', lcJ tp is env c f n (fun _ => true) (us.map fu) S = .ok () S' ∧ All2 Q us ys ∧ Inv S' ∧ S.length ≤ S'.length ∧ S'[n]? = some (.lst (acc ++ ys))
  | [], S, acc, hf, h0, hS, hz => ⟨[], S, rfl, .nil, h0, Nat.le_refl _, by rw [List.append_nil]; exact hS⟩
  | u :: us, S, acc, hf, h0, hS, hz => by
    obtain ⟨env', e1, e2⟩ := hf u List.mem_cons_self
    have hn : n < S.length := (List.getElem?_eq_some_iff.mp hS).1
    obtain ⟨ec, y, S1, e3, q, h1, l1, k1⟩ := e2 S h0 hn
    have hS1 : S1[n]? = some (.lst acc) := k1.trans hS
    have hn1 : n < S1.length := by omega
    obtain ⟨ys, S2, e4, q2, h2, l2, k2⟩ := lcJ_rel (us := us) (acc := acc ++ [y]) hi (fun v hv => hf v (List.mem_cons_of_mem _ hv)) (hi S1 (acc ++ [y]) h1) (by rw [List.getElem?_set_self hn1]) (by simp at hz ⊢; omega)
    refine ⟨y :: ys, S2, ?_, .cons q q2, h2, by simp at l2; omega, by rw [k2, List.append_assoc]; rfl⟩
    rw [List.map_cons]
    unfold lcJ
    simp only [if_true, e1, ec, bind_ok, e3, pushAt_ok hS1 (show acc.length < sizeLine by simp at hz; omega)]
    exact e4
end
section
variable {S S0 : Sto} {Φ : Cal} {tp : Bool} {is : List Nat} {env : Env} {elt it a b : E} {es : Es} {t : T} {us xs ys : List U} {i j : Int}
theorem lc_run (hit : ev Φ it env S = .ok (.tup us) S0) : ev Φ (.lc is tp elt it t) env S = (lcJ tp is (wipeE env is) (fun env S => (evt Φ t env S).noex) (fun env S => (ev Φ elt env S).noex) S0.length (fun _ => true) us (S0 ++ [.lst []])).bind fun _ S' => .ok (.loc S0.length) S' := by
  rw [ev_lc, hit, bind_ok]
  simp only [iterU, lcI_none]
theorem lcz_run (he : evs Φ es env S = .ok [.tup xs, .tup ys] S0) : ev Φ (.lcz is elt es t) env S = (lcJ true is (wipeE env is) (fun env S => (evt Φ t env S).noex) (fun env S => (ev Φ elt env S).noex) S0.length (fun _ => true) (zipped xs ys) (S0 ++ [.lst []])).bind fun _ S' => .ok (.loc S0.length) S' := by
  rw [ev, he, bind_ok]
  simp only [zipU]
/-- each item by a pure function -/
noncomputable def PureAt {α : Type} (Φ : Cal) (tp : Bool) (is : List Nat) (env : Env) (elt : E) (l : List α) (fu g : α → U) : Prop := ∀ u ∈ l, ∃ env', setN tp is (fu u) (wipeE env is) = some env' ∧ ∀ S1, ∃ S2, ev Φ elt env' S1 = .ok (g u) S2 ∧ Gr S1 S2
variable {α : Type} {l : List α} {fu g : α → U} {k : α → Bool}
theorem lcJ_pure (h : PureAt Φ tp is env elt l fu g) (hz : l.length ≤ sizeLine) : ∃ S', (lcJ tp is (wipeE env is) (fun env S => (evt Φ .tt env S).noex) (fun env S => (ev Φ elt env S).noex) S.length (fun _ => true) (l.map fu) (S ++ [.lst []])).bind (fun _ S' => (R.ok (U.loc S.length) S' : R U)) = .ok (.loc S.length) S' ∧ Gr S S' ∧ S'[S.length]? = some (.lst (l.map g)) := by
  obtain ⟨ys, S', e, q, g1, _, k⟩ := lcJ_rel (tp := tp) (is := is) (env := wipeE env is) (n := S.length) (c := fun env S => (evt Φ .tt env S).noex) (f := fun env S => (ev Φ elt env S).noex) (Inv := fun S1 => Gr S S1) (Q := fun u y => y = g u) (fu := fu) (us := l) (S := S ++ [.lst []]) (acc := [])
    (fun S1 x h1 => h1.set_new (Nat.le_refl _)) (fun u hu => by
      obtain ⟨env', e1, e2⟩ := h u hu
      refine ⟨env', e1, fun S1 h1 hn => ⟨rfl, ?_⟩⟩
      obtain ⟨S2, e3, g2⟩ := e2 S1
      exact ⟨g u, S2, by simp only [e3]; rfl, rfl, h1.trans g2, g2.1, g2.2 _ hn⟩) Gr.push last_get (by simpa using hz)
  exact ⟨S', by rw [e, bind_ok], g1, by rw [k, q.map_eq]; rfl⟩
theorem lc_pure (hit : ev Φ it env S = .ok (.tup (l.map fu)) S0) (h : PureAt Φ tp is env elt l fu g) (hz : l.length ≤ sizeLine) : ∃ S', ev Φ (.lc is tp elt it .tt) env S = .ok (.loc S0.length) S' ∧ Gr S0 S' ∧ S'[S0.length]? = some (.lst (l.map g)) := by
  rw [lc_run hit]
  exact lcJ_pure h hz
theorem zipped_map {β : Type} {f : β → U} : ∀ xs ys : List β, zipped (xs.map f) (ys.map f) = (xs.zip ys).map fun p => .tup [f p.1, f p.2]
  | [], _ => by simp [zipped]
  | _ :: _, [] => by simp [zipped]
  | x :: xs, y :: ys => by simp [zipped, zipped_map xs ys]
theorem lcz_pure {β : Type} {f : β → U} {xs ys : List β} {g : β × β → U} (he : evs Φ es env S = .ok [.tup (xs.map f), .tup (ys.map f)] S0) (h : PureAt Φ true is env elt (xs.zip ys) (fun p => .tup [f p.1, f p.2]) g) (hz : (xs.zip ys).length ≤ sizeLine) :
    ∃ S', ev Φ (.lcz is elt es .tt) env S = .ok (.loc S0.length) S' ∧ Gr S0 S' ∧ S'[S0.length]? = some (.lst ((xs.zip ys).map g)) := by
  rw [lcz_run he, zipped_map]
  exact lcJ_pure h hz
/-- only the cells st, cl change -/
noncomputable def F2 (S S' : Sto) (st cl : Nat) : Prop := S.length ≤ S'.length ∧ ∀ k, k < S.length → k ≠ st → k ≠ cl → S'[k]? = S[k]?
theorem F2.refl {st cl : Nat} : F2 S S st cl := ⟨Nat.le_refl _, fun _ _ _ _ => rfl⟩
theorem F2.trans {S1 S2 S3 : Sto} {st cl : Nat} (a : F2 S1 S2 st cl) (b : F2 S2 S3 st cl) : F2 S1 S3 st cl := ⟨Nat.le_trans a.1 b.1, fun k h h1 h2 => (b.2 k (Nat.lt_of_lt_of_le h a.1) h1 h2).trans (a.2 k h h1 h2)⟩
theorem F2.push {st cl : Nat} {c : Cel} : F2 S (S ++ [c]) st cl := ⟨by simp, fun k h _ _ => List.getElem?_append_left h⟩
theorem Gr.f2 {S S' : Sto} {st cl : Nat} (g : Gr S S') : F2 S S' st cl := ⟨g.1, fun k h _ _ => g.2 k h⟩
structure Stt (S : Sto) (st cl : Nat) (c : Int) (cs : List Int) : Prop where
  s : S[st]? = some (.lst [.int c, .loc cl])
  t : S[cl]? = some (.lst (cs.map U.int))
  ne : st ≠ cl
  pos : cs ≠ []
  nn : ∀ x ∈ cs, 0 ≤ x
noncomputable def HasSt (S : Sto) (st cl : Nat) : Prop := ∃ c cs, Stt S st cl c cs
theorem HasSt.gr {S S' : Sto} {st cl : Nat} (h : HasSt S st cl) (g : Gr S S') : HasSt S' st cl := by
  obtain ⟨c, cs, h⟩ := h
  exact ⟨c, cs, g.at_ h.s, g.at_ h.t, h.ne, h.pos, h.nn⟩
theorem HasSt.lt {S : Sto} {st cl : Nat} (h : HasSt S st cl) : st < S.length ∧ cl < S.length := by
  obtain ⟨c, cs, h⟩ := h
  exact ⟨(List.getElem?_eq_some_iff.mp h.s).1, (List.getElem?_eq_some_iff.mp h.t).1⟩
theorem HasSt.set {S : Sto} {st cl n : Nat} {c : Cel} (h : HasSt S st cl) (h1 : n ≠ st) (h2 : n ≠ cl) : HasSt (S.set n c) st cl := by
  obtain ⟨a, cs, h⟩ := h
  exact ⟨a, cs, by rw [List.getElem?_set_ne h1]; exact h.s, by rw [List.getElem?_set_ne h2]; exact h.t, h.ne, h.pos, h.nn⟩
end
section
variable {Φ : Cal} {S : Sto} {env : Env} {e : E} {t : String} {x k : U}
theorem ev_isi : ev Φ (.isi e t) env S = (ev Φ e env S).bind fun x S => (match tyU S x with | some t' => (match kitB t' t with | some k => .ok (.bl k) S | none => .bad) | none => .bad) := rfl
theorem ev_gd {x : Str} {kvs : List (Str × U)} (h : Φ.gd x = some kvs) : ev Φ (.gd x e) env S = (ev Φ e env S).bind fun k S => (match k with | .str z => rO (kvs.lookup z) S | _ => .bad) := by
  rw [ev, h]
  congr 1
  funext k S
  cases k <;> rfl
end
mutual
noncomputable def stU : U → Bool
  | .str _ => true
  | .tup xs => stUs xs
  | _ => false
noncomputable def stUs : List U → Bool
  | [] => true
  | u :: us => stU u && stUs us
end
mutual
theorem eqU_st : ∀ a b : U, stU a = true → stU b = true → (eqU a b = true ↔ a = b)
  | .str x, b, _, hb => by cases b <;> simp_all [stU, eqU]
  | .tup x, b, ha, hb => by
    cases b with
    | tup y =>
      simp only [eqU, U.tup.injEq]
      exact eqUs_st x y (by simpa [stU] using ha) (by simpa [stU] using hb)
    | _ => simp_all [stU, eqU]
  | .non, b, ha, hb => by simp [stU] at ha
  | .bl _, b, ha, hb => by simp [stU] at ha
  | .int _, b, ha, hb => by simp [stU] at ha
  | .loc _, b, ha, hb => by simp [stU] at ha
theorem eqUs_st : ∀ a b : List U, stUs a = true → stUs b = true → (eqUs a b = true ↔ a = b)
  | [], b, _, _ => by cases b <;> simp [eqUs]
  | x :: xs, b, ha, hb => by
    cases b with
    | nil => simp [eqUs]
    | cons y ys =>
      simp only [stUs, Bool.and_eq_true] at ha hb
      simp only [eqUs, Bool.and_eq_true, List.cons.injEq]
      rw [eqU_st x y ha.1 hb.1, eqUs_st xs ys ha.2 hb.2]
end
theorem eqR_tup {xs ys : List U} {S : Sto} (h : okU (.tup xs) = true) (h' : okU (.tup ys) = true) : eqR (.tup xs) (.tup ys) S = some (eqU (.tup xs) (.tup ys)) := by
  unfold eqR
  simp only [h, h', Bool.and_self, if_true]
section
variable {Φ : Cal} {env : Env} {e a b : E} {es : Es} {t t' : T} {sts : Sts} {u w x y : U} {k : Bool} {f : Str} {o : Cm} {i : Nat}
noncomputable def Ev (Φ : Cal) (e : E) (env : Env) (u : U) : Prop := ∀ S, ∃ S', ev Φ e env S = .ok u S'
noncomputable def Et (Φ : Cal) (t : T) (env : Env) (k : Bool) : Prop := ∀ S, ∃ S', evt Φ t env S = .ok k S'
noncomputable def Ex (Φ : Cal) (sts : Sts) (env : Env) (u : U) : Prop := ∀ S, ∃ S', exs Φ sts env S = .ret u S'
theorem Et.not (h : Et Φ t env k) : Et Φ (.not t) env (!k) := fun S => by
  obtain ⟨S1, e1⟩ := h S
  exact ⟨S1, by rw [evt_not, e1, bind_ok]⟩
theorem Ex.stop (h : Et Φ t env true) (h' : Ev Φ e env u) {s : Sts} : Ex Φ (.cons (.if_ t (.cons (.ret e) .nil) s) sts) env u := fun S => by
  obtain ⟨S1, e1⟩ := h S
  obtain ⟨S2, e2⟩ := h' S1
  exact ⟨S2, by rw [exs_cons, ex_if, e1, on_ok, if_pos rfl, exs_cons, ex_ret, e2, on_ok, then_ret, then_ret]⟩
/-- one statement, in a store -/
theorem go_set {S S' : Sto} (h : ev Φ e env S = .ok x S') : exs Φ (.cons (.set false [i] e) sts) env S = exs Φ sts (env.set i (some x)) S' := by
  rw [exs_cons, ex_set, h, on_ok]
  rfl
theorem go_skip {S S' : Sto} {s : Sts} (h : evt Φ t env S = .ok false S') : exs Φ (.cons (.if_ t s .nil) sts) env S = exs Φ sts env S' := by
  rw [exs_cons, ex_if, h, on_ok, if_neg Bool.false_ne_true, exs_nil, then_nx]
theorem go_if_set {S S' S'' : Sto} {s : Sts} (h : evt Φ t env S = .ok true S') (h' : ev Φ e env S' = .ok x S'') : exs Φ (.cons (.if_ t (.cons (.set false [i] e) .nil) s) sts) env S = exs Φ sts (env.set i (some x)) S'' := by
  rw [exs_cons, ex_if, h, on_ok, if_pos rfl, go_set h', exs_nil, then_nx]
end
theorem ofS_inj {a b : String} : (Str.ofString a = Str.ofString b) = (a = b) := by
  apply propext
  constructor
  · intro h
    rw [Str.ofString_eq_toList, Str.ofString_eq_toList] at h
    have h1 : a.toList.map Char.toNat = b.toList.map Char.toNat := by
      have := congrArg (fun z : Str => z.cps.toList) h
      simpa using this
    have h2 : a.toList = b.toList := (List.map_inj_right fun x y e => by
      have := congrArg Char.ofNat e
      simpa using this).mp h1
    exact String.toList_inj.mp h2
  · rintro rfl; rfl
section
variable {Φ : Cal} {env : Env} {S : Sto} {e : E} {cs : Cs} {p : Pt} {b : Sts} {u : U} {us : List U} {ps : List Pi} {x y : Str} {i : Nat} {es ks : Es} {f : Str}
theorem ex_mtch : ex Φ (.mtch e cs) env S = (ev Φ e env S).on fun u S => exc Φ cs u env S := rfl
theorem exc_nil : exc Φ .nil u env S = .nx env S := rfl
theorem exc_cons : exc Φ (.cons p b cs) u env S = (match ptM p u env with
    | some (some env') => exs Φ b env' S
    | some none => exc Φ cs u env S
    | none => .bad) := rfl
theorem pt_wild : ptM .wild u env = some (some env) := by cases u <;> rfl
theorem pt_val : ptM (.val x) (.str y) env = some (if y = x then some env else none) := rfl
theorem pt_seq : ptM (.seq ps) (.tup us) env = if us.length = ps.length then pisM ps us env else some none := rfl
theorem pi_nil : pisM [] [] env = some (some env) := rfl
theorem pi_lit : pisM (.lit x :: ps) (.str y :: us) env = if y = x then pisM ps us env else some none := rfl
theorem pi_cap : pisM (.cap i :: ps) (u :: us) env = pisM ps us (env.set i (some u)) := by cases u <;> rfl
theorem pi_wild : pisM (.wild :: ps) (u :: us) env = pisM ps us env := by cases u <;> rfl
theorem ev_kcall : ev Φ (.kcall f es ks) env S = (evs Φ es env S).bind fun us S => (evs Φ ks env S).bind fun zs S => Φ.kcal f (us ++ zs) S := rfl
end
end Oz
end
section
set_option maxHeartbeats 4000000
namespace Oz
open PySem PySem.Spec PyProof.Rows L2
section
variable {S S' : Sto} {tp tp1 : Bool} {is is1 : List Nat} {env : Env} {n m : Nat}
theorem lcI_eq {c : Env → Sto → R Bool} {f : Env → Sto → R U} {all : List U} {src : Option Nat} : ∀ (us : List U) (S : Sto), lcI tp is env c f n all src us S = lcJ tp is env c f n (fun S => stays S all src) us S
  | [], S => rfl
  | u :: us, S => by
    unfold lcI lcJ
    cases stays S all src with
    | false => rfl
    | true =>
      simp only [if_true]
      cases setN tp is u env with
      | none => rfl
      | some env' =>
        simp only
        congr 1
        funext b S1
        cases b with
        | true =>
          simp only [if_true]
          congr 1
          funext y S2
          congr 1
          funext _ S3
          exact lcI_eq us S3
        | false =>
          simp only [Bool.false_eq_true, if_false]
          exact lcI_eq us S1
variable {Φ : Cal} {S0 : Sto} {elt it it1 : E} {α β : Type} {l : List α} {fu : α → U}
theorem stays_lst {us : List U} (h : S[m]? = some (.lst us)) : stays S us (some m) = true := isLst_lst h
theorem lcl_run {us : List U} (hit : ev Φ it env S = .ok (.loc m) S0) (hm : S0[m]? = some (.lst us)) : ev Φ (.lc is tp elt it .tt) env S = (lcJ tp is (wipeE env is) (fun env S => (evt Φ .tt env S).noex) (fun env S => (ev Φ elt env S).noex) S0.length (fun S => stays S us (some m)) us (S0 ++ [.lst []])).bind fun _ S' => .ok (.loc S0.length) S' := by
  rw [ev_lc, hit, bind_ok]
  simp only [iterU, hm, lcI_eq]
theorem go_ret {sts : Sts} {u : U} {e : E} (h : ev Φ e env S = .ok u S') : exs Φ (.cons (.ret e) sts) env S = .ret u S' := by
  rw [exs_cons, ex_ret, h, on_ok, then_ret]
theorem fin_of {b : Sts} {u : U} (h : exs Φ b env S = .ret u S') : (exs Φ b env S).fin = .ok u S' := by rw [h]; rfl
theorem ev_gget {x : Str} {kvs : List (Str × U)} {a b : E} (h : Φ.gd x = some kvs) : ev Φ (.gget x a b) env S = (ev Φ a env S).bind fun k S => (ev Φ b env S).bind fun v S => (match k with | .str z => .ok ((kvs.lookup z).getD v) S | _ => .bad) := by
  rw [ev, h]
  congr 1
  funext k S
  congr 1
  funext v S
  cases k <;> rfl
end
end Oz
end
section
set_option maxHeartbeats 4000000
namespace Oz
open PySem PySem.Spec PyProof.Rows L2
section
variable {Φ : Cal} {env : Env} {e e' : E} {es : Es} {t : T} {sts body : Sts} {st cl i : Nat} {f : Str} {P : U → Prop} {Q R : U → Prop} {k : Bool} {Ps : List U → Prop}
noncomputable def Dr (Φ : Cal) (st cl : Nat) (e : E) (env : Env) (P : U → Prop) : Prop := ∀ S, HasSt S st cl → ∃ u S', ev Φ e env S = .ok u S' ∧ P u ∧ HasSt S' st cl ∧ F2 S S' st cl
theorem Dr.add {P' : U → Prop} (h : Dr Φ st cl e env P) (h' : ∀ u, P u → Dr Φ st cl e' env P') (hc : ∀ u v, P u → P' v → ∃ xs ys, u = .tup xs ∧ v = .tup ys ∧ xs.length + ys.length ≤ sizeLine ∧ Q (.tup (xs ++ ys))) : Dr Φ st cl (.bin .add e e') env Q := fun S hs => by
  obtain ⟨u, S1, e1, p1, hs1, f1⟩ := h S hs
  obtain ⟨v, S2, e2, p2, hs2, f2⟩ := h' u p1 S1 hs1
  obtain ⟨xs, ys, rfl, rfl, hz, q⟩ := hc u v p1 p2
  exact ⟨_, S2, by rw [ev_bin, e1, bind_ok, e2, bind_ok, add_tup hz], q, hs2, f1.trans f2⟩
end
end Oz
end
section
set_option maxHeartbeats 4000000
namespace Oz
open PySem PySem.Spec PyProof.Rows L2
noncomputable abbrev Ks := List (Nat × List U)
structure Hs (S : Sto) (st cl : Nat) (K : Ks) : Prop where
  h : HasSt S st cl
  k : ∀ p ∈ K, S[p.1]? = some (.lst p.2) ∧ p.1 ≠ st ∧ p.1 ≠ cl
section
variable {Φ : Cal} {env : Env} {e e' : E} {es : Es} {t : T} {sts body : Sts} {st cl i j : Nat} {f : Str} {P P' : U → Ks → Prop} {Q : U → Prop} {Ps : List U → Ks → Prop} {K K1 : Ks} {S S' : Sto} {us : List U}
theorem Hs.sub (h : Hs S st cl K1) (s : ∀ p ∈ K, p ∈ K1) : Hs S st cl K := ⟨h.h, fun p hp => h.k p (s p hp)⟩
noncomputable def Des (Φ : Cal) (st cl : Nat) (K : Ks) (es : Es) (env : Env) (P : List U → Ks → Prop) : Prop := ∀ S, Hs S st cl K → ∃ us K' S', evs Φ es env S = .ok us S' ∧ P us K' ∧ (∀ p ∈ K, p ∈ K') ∧ Hs S' st cl K' ∧ F2 S S' st cl
noncomputable def Se (Φ : Cal) (st cl : Nat) (K : Ks) (sts : Sts) (env : Env) (Q : U → Prop) : Prop := ∀ S, Hs S st cl K → ∃ u S', exs Φ sts env S = .ret u S' ∧ Q u ∧ HasSt S' st cl ∧ F2 S S' st cl
noncomputable def Dk (Φ : Cal) (st cl : Nat) (K : Ks) (f : Str) (us : List U) (Q : U → Prop) : Prop := ∀ S, Hs S st cl K → ∃ u S', Φ.call f us S = .ok u S' ∧ Q u ∧ HasSt S' st cl ∧ F2 S S' st cl
theorem Se.par (h : Des Φ st cl K es env fun us K' => ∃ u v, us = [u, v] ∧ Se Φ st cl K' sts ((env.set i (some u)).set j (some v)) Q) : Se Φ st cl K (.cons (.par i j es) sts) env Q := fun S hs => by
  obtain ⟨us, K1, S1, e1, ⟨u, v, rfl, p1⟩, s1, hs1, f1⟩ := h S hs
  obtain ⟨w, S2, e2, p2, hs2, f2⟩ := p1 S1 hs1
  exact ⟨w, S2, by rw [exs_cons, ex, e1, on_ok]; exact e2, p2, hs2, f1.trans f2⟩
theorem Dk.sub (h : Dk Φ st cl K f us Q) (s : ∀ p ∈ K, p ∈ K1) : Dk Φ st cl K1 f us Q := fun S hs => h S (hs.sub s)
end
end Oz
end
section
set_option maxHeartbeats 4000000
namespace Oz
open PySem PySem.Spec PyProof.Rows L2
open PySem.AutoSeq1 (wpAny_loadPart')
section
variable {X : Cx} {p : Pg} {nm : Names} {ad : Str → Addr} {d : Nat} {W : XK} {Φ : Cal} {pos : Pos} {a b : Expr} {ta tb : E}
theorem dhas_readT {b : Bool} {ta ti : E} {σ : L2.St} {H : Hp} {Q : Bool → Hp → Prop} (h : tTs X Φ W (.e (.dhas b ti ta)) σ H Q) : (tE X Φ W ti) σ H fun y H1 => (tE X Φ W ta) σ H1 fun x H2 => ∃ c o, x = .ref c ∧ DGet H2 c y o ∧ Q (o.isSome == b) H2 := by
  obtain ⟨ρ, S, env, w, eo, h⟩ := h
  rw [evt, ev] at h
  have h0 : Post X.mg X.K Rid W ρ H ((ev Φ ti env S).bind fun y S => (ev Φ ta env S).bind fun x S => (dhasU b x y S).bind fun z S => rO (truU z S) S) Q := by
    cases hx : ev Φ ti env S with
    | ok x S1 =>
      rw [hx] at h
      simp only [R.bind] at h ⊢
      cases hy : ev Φ ta env S1 with
      | ok y S2 => rw [hy] at h; exact h
      | exc c fs S2 => rw [hy] at h; exact h
      | bad => rw [hy] at h; exact h
    | exc c fs S1 => rw [hx] at h; exact h
    | bad => rw [hx] at h; exact h
  refine ⟨ρ, S, env, w, eo, (Post.bind h0).imp fun y H1 ⟨ρ1, S1, u2, e1, w1, r2, h1⟩ => ⟨ρ1, S1, env, w1, eo.mono e1, (Post.bind h1).imp fun x H2 ⟨ρ2, S2, u, e2, w2, r1, h2⟩ => ?_⟩⟩
  have key : ∃ n k, u = .loc n ∧ keyU u2 = some k := by
    cases u with
    | loc n =>
      cases hk : keyU u2 with
      | some k => exact ⟨n, k, rfl, rfl⟩
      | none => unfold dhasU at h2; rw [hk] at h2; exact h2.elim
    | _ => exact (show False from h2).elim
  obtain ⟨n, k, rfl, hk⟩ := key
  unfold dhasU at h2
  simp only [hk] at h2
  split at h2
  · rename_i kvs hn
    obtain ⟨q, rfl, hq⟩ := r1.loc
    obtain ⟨vk, hH, hr⟩ := w2.at_ hn hq
    have ey := keyU_rel hk (r2.mono e2)
    subst ey
    have es : (valU kvs k).isSome = (valV vk k).isSome := by
      cases hv : valU kvs k with
      | none => rw [(KVR.val hr k).2 hv]; rfl
      | some z => obtain ⟨v, e, _⟩ := (KVR.val hr k).1 z hv; rw [e]; rfl
    rw [es] at h2
    exact ⟨q, valV vk k, rfl, DGet.k hH, h2.here w2 rfl⟩
  · exact h2.elim
theorem s_tdhasNo (O : Ok X p nm ad d W) {a i : Expr} {ta ti : E} (hi : PE X i (tE X Φ W ti)) (ha : PE X a (tE X Φ W ta)) (hm : behindInMarks CmpOp.NotIn a = false := by rfl) : PT X (.Compare i [.NotIn] [a] pos) (tTs X Φ W (.e (.dhas false ti ta))) :=
  PTw' (pt_cmp (pc_dnotin (by have := O.room.un; omega) hi ha) hm) fun σ H Q h => by
    obtain ⟨ρ, S, env, w, eo, h⟩ := dhas_readT h
    exact ⟨ρ, S, env, w, eo, h.imp fun y H1 ⟨ρ1, S1, env1, w1, eo1, h1⟩ => ⟨ρ1, S1, env1, w1, eo1, h1.imp fun x H2 ⟨c, o, hx, g, q⟩ => ⟨c, o, hx, g, _, rfl, by cases ho : o.isSome <;> rw [ho] at q <;> exact q⟩⟩⟩
end
section
variable {X : Cx} {p : Pg} {nm : Names} {ad : Str → Addr} {d : Nat} {W : XK} {Φ : Cal} {pos : Pos} {a b : Expr} {ta tb : E}
noncomputable def flatP : List (V × V) → List V
  | [] => []
  | p :: ps => p.1 :: p.2 :: flatP ps
structure PD (X : Cx) (Φ : Cal) (W : XK) (pos : Pos) (keys : List (Option Expr)) (vals : List Expr) (es : Es) : Prop where
  ex : ∃ trs, PPs X pos keys vals trs ∧ ∀ σ H ρ S env Q Qp, Wok X.K X.mg ρ S H → EnvOk X.K ρ H env σ → Post X.mg X.K (RelUs X.K) W ρ H (evs Φ es env S) Q → (∀ ps H', Q (flatP ps) H' → Qp ps H') → tPairs trs σ H Qp
theorem pd_nil : PD X Φ W pos [] [] .nil := ⟨[], pps_nil, fun σ H ρ S env Q Qp w eo h i => by
  rw [evs] at h
  exact i _ _ (h.here w RelUs.nil)⟩
theorem pd_cons {k v : Expr} {ks : List (Option Expr)} {vs : List Expr} {tk tv : E} {es : Es} (hk : PE X k (tE X Φ W tk)) (hv : PE X v (tE X Φ W tv)) (hr : PD X Φ W pos ks vs es) : PD X Φ W pos (some k :: ks) (v :: vs) (.cons tk (.cons tv es)) := by
  obtain ⟨trs, hp, hq⟩ := hr.ex
  refine ⟨_, pps_cons hk hv hp, fun σ H ρ S env Q Qp w eo h i => ?_⟩
  rw [evs] at h
  refine ⟨ρ, S, env, w, eo, (Post.bind h).imp fun x H1 ⟨ρ1, S1, u, e1, w1, r1, h1⟩ => ?_⟩
  rw [evs, bind_assoc] at h1
  refine ⟨ρ1, S1, env, w1, eo.mono e1, (Post.bind h1).imp fun y H2 ⟨ρ2, S2, u2, e2, w2, r2, h2⟩ => ?_⟩
  rw [bind_assoc] at h2
  refine hq σ H2 ρ2 S2 env (fun zs H3 => Q (x :: y :: zs) H3) _ w2 ((eo.mono e1).mono e2) ((Post.bind (Rr := RelUs X.K) h2).imp fun zs H3 ⟨ρ3, S3, us, e3, w3, r3, h3⟩ => ?_) fun ps H3 q => i _ _ q
  exact h3.here w3 (RelUs.cons ((r1.mono e2).mono e3) (RelUs.cons (r2.mono e3) r3))
theorem dpl_vals {K : PySem.W.Frag} {ρ : List Addr} {H : Hp} : ∀ {us : List U} {ps : List (V × V)} {kvs0 : List (Key × U)}, dplU us = some kvs0 → RelUs K ρ H us (flatP ps) → ∃ kvs : List (Key × V), ps = kvs.map (fun kv => (kV kv.1, kv.2)) ∧ KVR K ρ H kvs0 kvs
  | [], ps, kvs0, e, r => by
    cases ps with
    | nil => simp only [dplU, Option.some.injEq] at e; subst e; exact ⟨[], rfl, .nil⟩
    | cons p ps => simp [RelUs, flatP] at r
  | [u], ps, kvs0, e, r => by simp [dplU] at e
  | u :: u2 :: us, ps, kvs0, e, r => by
    cases ps with
    | nil => simp [RelUs, flatP] at r
    | cons p ps =>
      simp only [RelUs, flatP] at r
      obtain ⟨v, vs', e1, h1, v2, vs2, e2, h2, h3⟩ := r
      simp only [List.cons.injEq] at e1
      obtain ⟨rfl, rfl⟩ := e1
      simp only [List.cons.injEq] at e2
      obtain ⟨rfl, rfl⟩ := e2
      simp only [dplU, Option.bind_eq_some_iff, Option.map_eq_some_iff] at e
      obtain ⟨k, hk, ks, hks, rfl⟩ := e
      obtain ⟨kvs, e3, r3⟩ := dpl_vals hks h3
      refine ⟨(k, p.2) :: kvs, ?_, .cons ⟨rfl, h2⟩ r3⟩
      rw [List.map_cons, ← e3, ← keyU_rel hk h1]
theorem s_dpl {keys : List (Option Expr)} {vals : List Expr} {es : Es} (h : PD X Φ W pos keys vals es) (hall : keys.all (·.isSome) = true := by rfl) (hl : keys.length = vals.length := by rfl) (h0 : keys ≠ [] := by exact fun z => nomatch z) (h15 : keys.length ≤ 15 := by decide) : PE X (.Dict keys vals pos) (tE X Φ W (.dpl es)) := by
  obtain ⟨trs, hp, hq⟩ := h.ex
  refine PEw (pe_disp hp hall hl h0 h15) fun σ H Q ⟨ρ, S, env, w, eo, h⟩ => ?_
  rw [ev] at h
  intro P hP
  have e0 : Ext ρ H (ρ ++ [P]) (upd H P (.dK [])) := Ext.push (upd_grow hP)
  have w0 := w.push (c := .dic []) hP (upd_grow hP) ⟨[], upd_same, .nil⟩
  have hP0 := push_at (p := P) w.len
  refine hq σ (upd H P (.dK [])) (ρ ++ [P]) (S ++ [.dic []]) env _ _ w0 (eo.mono e0) (Post.bind (Rr := RelUs X.K) (Post.ext e0 h)) fun ps H2 ⟨ρ2, S2, us, e2, w2, r2, h2⟩ => ?_
  unfold dplR at h2
  split at h2
  · rename_i kvs0 hn hd
    split at h2
    · rename_i hz
      have hP2 := e2.at_ hP0
      obtain ⟨vk, hH, rk⟩ := w2.at_ hn hP2
      have evk := KVR.nil_of rk
      subst evk
      obtain ⟨kvs, e3, r3⟩ := dpl_vals hd r2
      have l3 := Paired.length r3
      refine ⟨hH, kvs, e3, by omega, ?_⟩
      have ex1 : Ext ρ2 H2 ρ2 (upd H2 P (.dK (mergeK [] kvs))) := Ext.write (dic_mut hH)
      have w3 := w2.write (o := .dK (mergeK [] kvs)) (c := .dic (mrgU [] kvs0)) hP2 hn rfl rfl (dic_mut hH) ⟨_, upd_same, (KVR.merge r3 .nil).mono ex1⟩
      exact h2 ρ2 _ (.ref P) ex1 w3 (relLoc hP2)
    · exact h2.elim
  · exact h2.elim
end
end Oz
end
section
set_option maxHeartbeats 4000000
namespace Oz
open PySem PySem.Spec PyProof.Rows L2
section
variable {X : Cx} {p : Pg} {nm : Names} {ad : Str → Addr} {d : Nat} {W : XK} {pos : Pos}
/-- C() -/
theorem s_mk0 (O : Ok X p nm ad d W) {C : Str} {px : Pos} (hg : Gl X C := by rfl) (hC : C ∈ nm.clss := by decide +kernel) (hdb : (C == ("__debug__" : Str)) = false := by decide) : PE X (.Call (.Name C px) [] [] pos) (tE X (p.cal d) W (.mk C .nil)) := by
  obtain ⟨hm, hc, hM⟩ := O.sta.cls C hC
  refine ⟨fun pins s σ H Q I ⟨ρ, S, env, w, eo, h⟩ => ?_⟩
  rw [ev] at h
  simp only [evs] at h
  replace h : Post X.mg X.K (RelU X.K) W ρ H (((p.cal d).init (C ++ ".__init__") (.loc S.length :: []) (S ++ [.ins C []])).bind fun u S' => (match u with | .non => .ok (.loc S.length) S' | _ => .bad)) Q := h
  refine wpAny_Call_Name_kw (ld_glob I hg hm ?_ hdb)
  refine PySem.W.callWith_K0 I.kIn hM.kp ?_
  refine run_mkQ (us := []) hM (O.init (C ++ ".__init__")) O.room O.pass I .nil ?_
  intro x dx hx hdx hne
  have g1 : ∀ a o, H a = some o → upd (upd H dx (.own x)) x (.ins (ad C) dx []) a = some o := fun a o q => by
    rw [upd_ne (ne_of_none q hx), upd_ne (ne_of_none q hdx)]
    exact q
  have e2 : Ext ρ H (ρ ++ [x]) (upd (upd H dx (.own x)) x (.ins (ad C) dx [])) := Ext.push g1
  have w2 := w.push (c := .ins C []) hx g1 ⟨ad C, dx, [], hm, upd_same, .nil⟩
  have hn := push_at (p := x) w.len
  refine ⟨ρ ++ [x], _, .loc S.length :: [], w2, RelUs.cons (relLoc hn) RelUs.nil, ?_⟩
  refine (Post.bind (Post.ext e2 h)).imp fun v H2 ⟨ρ3, S3, u, e3, w3, r3, h3⟩ => ?_
  split at h3
  · cases r3.non
    exact ⟨rfl, h3.here w3 (relLoc (e3.at_ hn))⟩
  · cases h3
end
end Oz
end
section
set_option maxHeartbeats 4000000
namespace Oz
open PySem PySem.Spec PyProof.Rows L2
theorem tyU_mem {S : Sto} {u : U} {t : String} (h : tyU S u = some t) : t ∈ (["NoneType", "bool", "int", "str", "tuple", "list", "dict"] : List String) := by
  cases u with
  | loc n =>
    simp only [tyU] at h
    split at h <;> first | (cases h; simp) | cases h
  | _ => cases h; simp
section
variable {X : Cx} {p : Pg} {nm : Names} {ad : Str → Addr} {d : Nat} {W : XK} {pos : Pos} {Φ : Cal} {a : Expr} {ta : E}
theorem iso_ty (O : Ok X p nm ad d W) {cs ds : List Str} (I : IsoOk X.K ad cs ds) (hds : ∀ D ∈ ds, D ∈ nm.clss) {ρ : List Addr} {S : Sto} {H : Hp} {u : U} {x : V} {k : Bool} (w : Wok X.K X.mg ρ S H) (r : RelU X.K ρ H u x) (h : isoU S u cs ds = some k) :
    ∃ t, TyX X.K H x t ∧ kitL X.K t (cs.map fun c => .ref (ad c)) = some k := by
  unfold isoU at h
  split at h
  · rename_i t ht
    cases h
    exact ⟨.type t, tyU_rel w r ht, I.ty t (tyU_mem ht)⟩
  · split at h
    · rename_i n _
      split at h
      · rename_i D fs hS
        split at h
        · rename_i hD
          cases h
          obtain ⟨q, rfl, hq⟩ := r.loc
          obtain ⟨Ca, dx, vfs, hm, hH, _⟩ := w.at_ hS hq
          obtain ⟨hm2, hc, _⟩ := O.sta.cls D (hds D hD)
          rw [hm] at hm2
          have e : Ca = ad D := by
            injection hm2 with z
            injection z
          subst e
          exact ⟨.ref (ad D), .base (.ins hH hc (I.at1 D hD) I.at2 I.at3 (I.at4 D hD)), I.own D hD⟩
        · cases h
      · cases h
    · cases h
theorem s_iso1 (O : Ok X p nm ad d W) {C : Str} {ds : List Str} {p1 p2 : Pos} (ha : PE X a (tE X Φ W ta)) (hi : ([C], ds) ∈ nm.iso := by decide +kernel) (hds : ∀ D ∈ ds, D ∈ nm.clss := by decide +kernel) (hC : C ∈ nm.clss := by decide +kernel) (hg : Gl X "isinstance" := by rfl) (hm : ("isinstance" : Str) ∈ nm.bins := by decide +kernel) (hgx : Gl X C := by rfl) (hdx : (C == ("__debug__" : Str)) = false := by decide)
    (he : starEach [a, .Name C p2] X.env = (false, eval a X.env) :: starEach [.Name C p2] X.env := by rfl) (he2 : starEach [Expr.Name C p2] X.env = (false, eval (.Name C p2) X.env) :: starEach [] X.env := by rfl) (hpl : (backTo pos (starEach [.Name C p2] X.env)).any (·.1) = false := by rfl) :
    PE X (.Call (.Name "isinstance" p1) [a, .Name C p2] [] pos) (tE X Φ W (.isio ta [C] ds)) := by
  refine PEw (pe_callB call_isi hg (O.sta.bin _ hm) boot_isinstance (pa_cons ha (pa_cons (pe_glob hgx (O.sta.cls C hC).1 (v := .ref (ad C)) rfl hdx) pa_nil he2) he) (by decide) (by decide) he hpl) fun σ H Q ⟨ρ, S, env, w, eo, h⟩ => ?_
  rw [ev] at h
  refine ⟨ρ, S, env, w, eo, (Post.bind h).imp fun v H1 ⟨ρ1, S1, u, e1, w1, r1, h1⟩ => ?_⟩
  split at h1
  · rename_i k hk
    obtain ⟨t, ht, hkt⟩ := iso_ty O (O.sta.iso _ hi) hds w1 r1 hk
    exact ⟨v, .ref (ad C), t, .ref (ad C), k, rfl, .own _, ht, hkt, h1.here w1 relBl⟩
  · cases h1
theorem s_iso2 (O : Ok X p nm ad d W) {C D : Str} {ds : List Str} {p1 p2 p3 p4 : Pos} {j : Nat} (ha : PE X a (tE X Φ W ta)) (hi : ([C, D], ds) ∈ nm.iso := by decide +kernel) (hds : ∀ D ∈ ds, D ∈ nm.clss := by decide +kernel) (hC : C ∈ nm.clss := by decide +kernel) (hD : D ∈ nm.clss := by decide +kernel) (hg : Gl X "isinstance" := by rfl) (hm : ("isinstance" : Str) ∈ nm.bins := by decide +kernel) (hgx : Gl X C := by rfl) (hgy : Gl X D := by rfl)
    (hdx : (C == ("__debug__" : Str)) = false := by decide) (hdy : (D == ("__debug__" : Str)) = false := by decide)
    (he : starEach [a, .Tuple [.Name C p2, .Name D p3] j p4] X.env = (false, eval a X.env) :: starEach [.Tuple [.Name C p2, .Name D p3] j p4] X.env := by rfl) (he2 : starEach [Expr.Tuple [.Name C p2, .Name D p3] j p4] X.env = (false, eval (.Tuple [.Name C p2, .Name D p3] j p4) X.env) :: starEach [] X.env := by rfl)
    (he3 : starEach [Expr.Name C p2, .Name D p3] X.env = (false, eval (.Name C p2) X.env) :: starEach [.Name D p3] X.env := by rfl) (he4 : starEach [Expr.Name D p3] X.env = (false, eval (.Name D p3) X.env) :: starEach [] X.env := by rfl)
    (hpl : (backTo pos (starEach [.Tuple [.Name C p2, .Name D p3] j p4] X.env)).any (·.1) = false := by rfl) :
    PE X (.Call (.Name "isinstance" p1) [a, .Tuple [.Name C p2, .Name D p3] j p4] [] pos) (tE X Φ W (.isio ta [C, D] ds)) := by
  refine PEw (pe_callB call_isiT hg (O.sta.bin _ hm) boot_isinstance (pa_cons ha (pa_cons (pe_tup (pa_cons (pe_glob hgx (O.sta.cls C hC).1 (v := .ref (ad C)) rfl hdx) (pa_cons (pe_glob hgy (O.sta.cls D hD).1 (v := .ref (ad D)) rfl hdy) pa_nil he4) he3)) pa_nil he2) he) (by decide) (by decide) he hpl) fun σ H Q ⟨ρ, S, env, w, eo, h⟩ => ?_
  rw [ev] at h
  refine ⟨ρ, S, env, w, eo, (Post.bind h).imp fun v H1 ⟨ρ1, S1, u, e1, w1, r1, h1⟩ => ?_⟩
  split at h1
  · rename_i k hk
    refine ⟨(by decide : 2 ≤ sizeLine), fun q hq => ?_⟩
    have g := Ext.grow (ρ := ρ1) (upd_grow (o := .tup [.ref (ad C), .ref (ad D)]) hq)
    have w2 := w1.grow (upd_grow (o := .tup [.ref (ad C), .ref (ad D)]) hq)
    obtain ⟨t, ht, hkt⟩ := iso_ty O (O.sta.iso _ hi) hds w2 (r1.mono g) hk
    exact ⟨v, q, _, t, [.ref (ad C), .ref (ad D)], k, rfl, upd_same, .cons (.own _) (.cons (.own _) .nil), ht, hkt, h1 ρ1 _ _ g w2 relBl⟩
  · cases h1
end
end Oz
end
section
set_option maxHeartbeats 4000000
namespace Oz
open PySem PySem.Spec PyProof.Rows L2
theorem looks_obj {K : PySem.W.Frag} {M : Model} {h : Heap} {x C : Addr} {o : Obj} (hK : K.In h) (hx : h.get? x = some o) (hc : o.cls = .ref C) (hs : PySem.W.subIn K (.ref C) (.type "object") = some true) : PySem.W.Looks M h (isInstance (.ref x) (.type "object")) true := fun A Q E s hk hq => by
  have hl := hk _ _ hx
  unfold isInstance typeOf
  refine wpAny_bind (wpAny_bind (PySem.AutoSeq1.wpAny_loadPart' hl ?_))
  refine wpAny_pure ?_
  show wpAny M A (isSubtype o.cls (.type "object")) Q E s
  rw [hc]
  exact PySem.W.looks_subIn hK hs A Q E s hk hq
section
variable {X : Cx} {pins : List (Addr × Obj)} {σ : L2.St} {H : Hp} {s : Shared} {Q : VK} {C : Addr}
/-- C() of a class whose __init__ is object's -/
theorem run_mkN (mk : PySem.W.makesIn X.K C = true) (hi : PySem.W.findIn X.K (.ref C) "__init__" = some (some (.builtin "object.__init__"))) (hs : PySem.W.subIn X.K (.ref C) (.type "object") = some true) (I : L2.Inv X pins σ H s)
    (h : ∀ x dx, H x = none → H dx = none → dx ≠ x → Q (.ref x) (upd (upd H dx (.own x)) x (.ins C dx []))) : wpAny (model X.prog X.w) X.A (call (.ref C) []) (EP X pins σ Q) X.xe s := by
  have h0 : H s.heap.objs.size = none := I.hok.fresh (Nat.le_refl _)
  have h1 : H (s.heap.objs.size + 1) = none := I.hok.fresh (Nat.le_succ _)
  have hq := h _ _ h1 h0 (Nat.ne_of_lt (Nat.lt_succ_self _))
  have J := L2.Inv.made (C := C) I
  refine wpAny_call (make_map0 I.kIn mk hi (fun self => by rw [PySem.W.oi_bind]; exact fun A Q E s _ hq => wpAny_pure hq) ?_)
  refine codeAny_call_builtin PySem.W.oi_plain PySem.W.entry_oi ?_
  refine PySem.W.check_slot PySem.W.oi_kind PySem.W.oi_split (looks_obj (o := PySem.W.instObj C s.heap.objs.size) J.kIn ?hx rfl hs) (PySem.W.oi_args _) ?_
  case hx =>
    refine Heap.get?_push_at ?_ rfl
    show _ = (s.heap.objs.push _).size
    simp
  show wpAny _ _ (ret Value.none) _ _ _
  refine wpAny_pure ?_
  exact ⟨rfl, .ref (s.heap.objs.size + 1), _, J, rfl, hq⟩
end
end Oz
namespace Oz
open PySem PySem.Spec PyProof.Rows L2
section
variable {X : Cx} {p : Pg} {nm : Names} {ad : Str → Addr} {d : Nat} {W : XK} {pos : Pos} {Φ : Cal}
/-- C() of a class without __init__ -/
theorem s_mkN (O : Ok X p nm ad d W) {C : Str} {px : Pos} (hg : Gl X C := by rfl) (hC : C ∈ nm.ncl := by decide +kernel) (hdb : (C == ("__debug__" : Str)) = false := by decide) : PE X (.Call (.Name C px) [] [] pos) (tE X Φ W (.mkN C)) := by
  have hM := O.sta.ncl C hC
  obtain ⟨hm, hc⟩ := O.sta.own C (List.mem_append_right _ hC)
  refine ⟨fun pins s σ H Q I ⟨ρ, S, env, w, eo, h⟩ => ?_⟩
  rw [ev] at h
  refine wpAny_Call_Name_kw (ld_glob I hg hm ?_ hdb)
  refine PySem.W.callWith_K0 I.kIn hM.kp ?_
  refine run_mkN hM.mks hM.hi hM.hs I ?_
  intro x dx hx hdx hne
  have g1 : ∀ a o, H a = some o → upd (upd H dx (.own x)) x (.ins (ad C) dx []) a = some o := fun a o q => by
    rw [upd_ne (ne_of_none q hx), upd_ne (ne_of_none q hdx)]
    exact q
  have e2 : Ext ρ H (ρ ++ [x]) (upd (upd H dx (.own x)) x (.ins (ad C) dx [])) := Ext.push g1
  have w2 := w.push (c := .ins C []) hx g1 ⟨ad C, dx, [], hm, upd_same, .nil⟩
  exact h (ρ ++ [x]) _ _ e2 w2 (relLoc (push_at w.len))
end
end Oz
end
section
set_option maxHeartbeats 4000000
namespace Oz
open PySem PySem.Spec PyProof.Rows L2 NdefX
structure SupP (P : Program) (file : Str) : Prop where
  f : ((P.main.file : Str) == file) = true
  t : (P.main.scope.names.lookup ("super" : Str)).isSome = false
/-- what the running def has for super() -/
structure SupX (X : Cx) (D : Addr) (i : Nat) : Prop where
  ks : X.env.kindOf "super" = some .globalImplicit
  kc : X.env.kindOf "__class__" = some .free
  fu : ∃ (f : Addr) (oc : Value) (od : Option Addr) (fd : FuncData) (osl : Array (Option Value)) (ar : Arg), X.env.func = some f ∧ X.K.lookup f = some ⟨oc, od, .func fd, osl⟩ ∧ (fd.params.posonlyargs ++ fd.params.args).head? = some ar ∧ X.N[i]? = some ar.arg ∧ X.env.kindOf ar.arg = some .local
  co : ∃ (c : Addr) (o : Obj) (vs : Array Value) (file : Str) (tk : Tok), X.env.code = .ref c ∧ X.K.lookup c = some o ∧ o.data = .fields vs ∧ vs[2]? = some (.str file tk) ∧ ((X.prog.main.file : Str) == file) = true
  top : (X.prog.main.scope.names.lookup ("super" : Str)).isSome = false
  cell : ∃ (c : Addr) (o : Obj), X.env.cells.lookup ("__class__" : Str) = some c ∧ X.K.lookup c = some o ∧ o.data = .cell (some (.ref D))
  cls : ∃ cd, PySem.W.clsIn X.K D = some cd
  mgs : X.mg "super" = none
/-- statements of the def's own body: they may ask which code runs -/
structure PZs (X : Cx) (st : List Stmt) (t : TS) : Prop where
  run : ∀ (body : List Stmt) (pins : List (Addr × Obj)) (s : Shared) (σ : L2.St) (H : Hp) (D : Ends), L2.Inv X pins σ H s → t D σ H → _root_.PySem.wpAt (model X.prog X.w) X.A (.func body X.env) (execs st X.env) (SP X pins D) X.xe s
section
variable {X : Cx} {p : Pg} {nm : Names} {ad : Str → Addr} {d : Nat} {W : XK} {Φ : Cal} {e : Expr} {es : List Expr} {tes : Es} {st : Stmt} {rest : List Stmt} {ts : St} {b : Sts} {i : Nat}
theorem z_of {t : TS} (h : PSs X rest t) : PZs X rest t := ⟨fun _ pins s σ H D I q => wpAt_of_wpAny (h.run pins s σ H D I q)⟩
theorem z_cons (h1 : PS X st (tS X Φ W ts)) (h2 : PZs X rest (tB X Φ W b)) : PZs X (st :: rest) (tB X Φ W (.cons ts b)) := by
  refine ⟨fun body pins s σ H D I ⟨ρ, S, env, w, eo, h⟩ => ?_⟩
  rw [exs] at h
  refine PySem.ks_wpAt_execs_cons (wpAt_of_wpAny (thn (h1.run pins s σ H _ I ⟨ρ, S, env, w, eo, h.then_⟩) fun f s1 q => ?_))
  cases f with
  | next =>
    obtain ⟨σ', H', I', q⟩ := q
    exact h2.run body pins s1 σ' H' D I' q
  | ret v => exact q
  | brk => exact q
  | cont => exact q
theorem z_sup (O : Ok X p nm ad d W) (B : Str) (Z : SupX X (ad B) i) {C m g : Str} {p0 p1 apos pos epos : Pos} {pl : Sem Bool} (ha : PA X (e :: es) (tEs X (p.cal d) W tes)) (hr : PZs X rest (tB X (p.cal d) W b)) (hC : C ∈ nm.owns := by decide +kernel) (hq : (C, B, m, g) ∈ nm.sus := by decide +kernel)
    (hat : (m == ("__class__" : Str)) = false := by decide)
    (hi : interactive X.env = false := by rfl) (hs : swapsWith (.Call (.Attribute (.Call (.Name "super" p0) [] [] p1) m apos) (e :: es) [] pos) none epos.line X.env = pure false := by rfl)
    (he : eval (.Call (.Attribute (.Call (.Name "super" p0) [] [] p1) m apos) (e :: es) [] pos) X.env = (do
      let ov ← attributeBase (.Call (.Name "super" p0) [] [] p1) m X.env (eval (.Call (.Name "super" p0) [] [] p1) X.env)
      standAt apos.atName
      let (f, first) ← holding [ov] (getMethod ov m pl)
      callWith pos f first (backTo pos (starEach (e :: es) X.env)) []) := by rfl)
    (hst : starEach (e :: es) X.env = (false, eval e X.env) :: starEach es X.env := by rfl) (hpl : (backTo pos (starEach es X.env)).any (·.1) = false := by rfl) :
    PZs X (.Expr (.Call (.Attribute (.Call (.Name "super" p0) [] [] p1) m apos) (e :: es) [] pos) epos :: rest) (tB X (p.cal d) W (.cons (.sup i C g tes) b)) := by
  refine ⟨fun body pins s σ H D I ⟨ρ, S, env, w, eo, h⟩ => ?_⟩
  rw [exs, ex] at h
  have su := O.sta.sus _ hq
  obtain ⟨n, a, dx, vfs, hv, hn, ea, h⟩ : ∃ n a dx vfs, σ[i]? = some (some (.ref a)) ∧ ρ[n]? = some a ∧ H a = some (.ins (ad C) dx vfs) ∧ PostS X.mg X.K W ρ H (Oz.O.then_ ((evs (p.cal d) tes env S).on fun us S => ((p.cal d).call g (.loc n :: us) S).on fun _ S => .nx env S) fun env S => exs (p.cal d) b env S) D := by
    split at h
    · rename_i n hE
      split at h
      · rename_i C' fs hS
        split at h
        · rename_i hC'
          subst hC'
          obtain ⟨v, hv, rv⟩ := eo.ok i _ hE
          obtain ⟨a, dx, vfs, rfl, hn, ea, _⟩ := ins_at O hC w rv hS
          exact ⟨n, a, dx, vfs, hv, hn, ea, h⟩
        · exact h.elim
      · exact h.elim
    · exact h.elim
  replace h := PostS.then_ h
  refine PySem.ks_wpAt_execs_cons (PySem.ks_wpAt_Expr_any (PySem.ks_wpAt_MethodCall (pl := pl) ?_ he) hi hs)
  obtain ⟨f, foc, fod, fd, fosl, ar, z1, z2, z3, z4, z5⟩ := Z.fu
  obtain ⟨cc, occ, cvs, file, tk, y1, y2, y3, y4, y5⟩ := Z.co
  obtain ⟨ce, oce, x1, x2, x3⟩ := Z.cell
  obtain ⟨cdD, hcd⟩ := Z.cls
  obtain ⟨mb, hmb, hboot⟩ := I.mod.blt
  refine PySem.ks_wpAt_super_base Z.ks Z.kc hat z1 (I.kIn _ _ z2) rfl z3 y1 (I.kIn _ _ y2) y3 y4 y5 Z.top ?_
  refine PySem.W.ks_loadName_global I.ok.kind Z.ks (Calls.loadGlobal_builtin (by rw [I.ok.glob]; exact I.mod.glob.keeps I.bk) Z.mgs (by rw [I.ok.blt]; exact hmb.keeps I.bk) ((hboot _ (by decide +kernel)).trans (by first | rfl | decide +kernel)) ⟨rfl, ?_⟩)
  refine wpAny_loadName_free I.ok.kind Z.kc x1 ⟨_, I.kIn _ _ x2, x3⟩ ?_
  obtain ⟨ml, hml, hloc⟩ := I.loc
  obtain ⟨u, ru, hlook⟩ := hloc i ar.arg _ z4 hv (.inl z5)
  obtain rfl : u = Value.ref a := ru
  have hma : ml ar.arg = some (.ref a) := by
    rcases hlook with ⟨_, h2⟩ | ⟨h2, _⟩
    · exact h2
    · rcases h2 with h2 | h2 <;> rw [z5] at h2 <;> cases h2
  refine wpAny_loadName_local I.ok.kind z5 hml hma ?_
  obtain ⟨oD, hD1, hD2⟩ : ∃ oD, s.heap.get? (ad B) = some oD ∧ oD.data = .cls cdD := by
    unfold PySem.W.clsIn at hcd
    split at hcd
    · rename_i c d cd' sl ho
      cases hcd
      exact ⟨_, I.kIn _ _ ho, rfl⟩
    · cases hcd
  obtain ⟨mA, OM, _, _, _, _⟩ := ins_get I.hok ea
  obtain ⟨od, J, _⟩ := OM.look
  obtain ⟨hh, gg, dd, tt, os⟩ := s
  refine PySem.ks_wpAny_isType_cls hD1 hD2 ⟨rfl, ?_⟩
  refine PySem.ks_wpAny_call_super hD1 hD2 J.at_ J.cls (fun c e => ?_) (PySem.W.looks_mroIn I.kIn su.sb) (fun h' e1 k => ?_)
  · have := J.no
    unfold PySem.W.notCls at this
    rw [e] at this
    exact Bool.noConfusion this
  have I1 : L2.Inv X pins σ H ⟨h', gg, dd, tt, os⟩ := I.kept (t' := tt) k
  obtain ⟨mA', OM', _, _, _, _⟩ := ins_get I1.hok ea
  obtain ⟨od', J1, _⟩ := OM'.look
  cases hc : PySem.W.clsIn X.K (ad C) with
  | none =>
    have fnd := su.fnd
    unfold PySem.W.ks_superIn at fnd
    rw [hc] at fnd
    cases fnd
  | some cd =>
    have fnd := su.fnd
    unfold PySem.W.ks_superIn at fnd
    rw [hc] at fnd
    obtain ⟨of, hof, hofc⟩ : ∃ of, h'.get? (ad g) = some of ∧ of.cls = .type "function" := by
      have ht' : (X.K.lookup (ad g)).map (·.cls) = some (.type "function") := su.ty
      cases z : X.K.lookup (ad g) with
      | none => rw [z] at ht'; cases ht'
      | some of => rw [z] at ht'; exact ⟨of, I1.kIn _ _ z, Option.some.inj ht'⟩
    refine PySem.ks_wpAny_getMethod_super e1 (PySem.W.looks_opaque I1.kIn su.op) (l₀ := cd.mro) ?_ rfl I1.kIn fnd hof hofc (PySem.W.ks_ne I1.kIn J1 hc) hat ?_
    · exact fun A Q E s k q => wpAny_bind ((PySem.W.looks_clsIn I1.kIn hc) A _ E s k (wpAny_pure q))
    · have hqn : H h'.objs.size = none := I1.hok.fresh (Nat.le_refl _)
      have I2 : L2.Inv X pins σ (upd H h'.objs.size (.met (ad g) a)) ⟨h'.push (PySem.W.methodObj (.ref (ad g)) (.ref a)), gg, dd, tt + 1, os⟩ :=
        I1.laid (t' := tt + 1) (a := h'.objs.size) (o := .met (ad g) a) (fun b u z => Heap.get?_push_of_some _ z) (Nat.le_refl _)
          (show (h'.push (PySem.W.methodObj (.ref (ad g)) (.ref a))).get? h'.objs.size = some (PySem.W.methodObj (.ref (ad g)) (.ref a)) from Heap.get?_push_size h' rfl)
      have x0 : Ext ρ H ρ (upd H h'.objs.size (.met (ad g) a)) := Ext.grow (upd_grow hqn)
      have w0 := w.grow (upd_grow (o := .met (ad g) a) hqn)
      have mq : upd H h'.objs.size (.met (ad g) a) h'.objs.size = some (.met (ad g) a) := upd_same
      generalize upd H h'.objs.size (.met (ad g) a) = H2 at *
      generalize h'.objs.size = q at *
      dsimp only
      rw [hst]
      refine callwith_met (g := ad g) (a := a) (X := X) (by show ((false || (backTo pos (starEach es X.env)).any (·.1)) || false) = false; rw [hpl]; rfl) su.fi ?_
      have run := ha.run pos pins _ σ H2 (fun vs H3 => ∃ ρ3 S3 us, Ext ρ H2 ρ3 H3 ∧ Wok X.K X.mg ρ3 S3 H3 ∧ RelUs X.K ρ3 H3 us vs ∧ PostS X.mg X.K W ρ3 H3 (((p.cal d).call g (.loc n :: us) S3).on fun _ S => .nx env S) { D with nx := nxOf X.mg X.K W (fun env S => exs (p.cal d) b env S) D }) I2
        ⟨ρ, S, env, w0, eo.mono x0, (PostS.on (Rr := RelUs X.K) (PostS.ext x0 h)).imp fun vs H3 ⟨ρ3, S3, us, e3, w3, r3, h3⟩ => ⟨ρ3, S3, us, e3, w3, r3, h3⟩⟩
      rw [hst] at run
      refine Calls.evalArgs_plain (thn run fun us s3 ⟨vs, H3, I3, rr, ρ3, S3, us', e3, w3, r3, h3⟩ => ?_)
      have mq3 : H3 q = some (.met (ad g) a) := e3.imm q _ mq trivial
      refine ⟨met_P I3 mq3, ?_⟩
      refine wpAny_call (call_met I3 mq3 (codeAny_mono (O.call g X.A X.stack s3 H3 (.ref a :: us) (.ref a :: vs) (fun v H4 => ∃ σ4, σ4 = σ ∧ nxOf X.mg X.K W (fun env S => exs (p.cal d) b env S) D σ4 H4) W O.room I3.env0 (.cons rfl rr) ⟨ρ3, S3, .loc n :: us', w3, RelUs.cons (relLoc (e3.at_ hn)) r3, ?_⟩) fun z s' hz => ?_))
      · exact (PostS.on (Rr := RelU X.K) h3).imp fun v H4 ⟨ρ4, S4, u, e4, w4, r4, h4⟩ => ⟨σ, rfl, h4.here w4 (((eo.mono x0).mono e3).mono e4)⟩
      · have y := ends_of O.pass I3 z s' hz
        match z, y with
        | .error er, y => exact y
        | .ok (.ret v), ⟨v', H4, I4, _, σ4, e4, q4⟩ =>
          subst e4
          exact hr.run body pins s' σ4 H4 D I4 q4
        | .ok .next, y => exact y.elim
        | .ok .brk, y => exact y.elim
        | .ok .cont, y => exact y.elim
end
section
variable {P : Program} {w : World} {K : PySem.W.Frag} {mg : Str → Option Value} {base : Heap} {p : Pg} {nm : Names} {ad : Str → Addr} {d : Nat}
/-- its words -/
noncomputable abbrev nfS (x qual : Str) (st : Stmt) (cc cda : Addr) : NF := ⟨x, qual, defArgs st, defBody st, defScope st, [("__class__", cc)], cda⟩
theorem startF_start {N : List Str} {vs : List V} (h : vs.length < N.length) : startF N vs [none] = L2.start N vs := by
  unfold startF L2.start
  have e : N.length - vs.length = (N.length - vs.length - 1) + 1 := by omega
  rw [e, List.replicate_succ]
  simp
theorem AllFn.okS {N : List Str} {F : NF} {f : Addr} {A : Around} {outer : List PySem.Env} {s : Shared} {H : Hp} {E : XK} (G : AllFn P w K mg base p nm ad d) (hr : Rm (d + 2) (A.deeper (envF F f s.heap.objs.size))) :
    Ok (ncx (L2.CX P w) P w K mg base N F f A outer s H E) p nm ad d E := by
  have tk : Takes (ncx (L2.CX P w) P w K mg base N F f A outer s H E) (fun cls d _ H => E cls d H) := takes_of rfl rfl rfl rfl
  exact ⟨G.sta, G.gdi, G.ftb, G.xc, tk, passes_of rfl, rfl, hr, passes_call tk fun _ _ _ _ z => z, G.call, G.init, G.kcall⟩
theorem fn_super {x qual nmf file : Str} {st : Stmt} {f D : Addr} {N ps : List Str} {body : Sts} {ar : Arg} (F : FunS K x qual (defArgs st) (defBody st) (defScope st) D file f) (hP : SupP P file) (S : NScope N ps ["__class__"] (defScope st)) (G : AllFn P w K mg base p nm ad d)
    (hb : ∀ (doc pm : Value) (an : Option Addr) (cdv ct : Value) (cl : List (Str × Addr)) (us : List Value), us.length = ps.length → bindArgs (PySem.W.fnX x qual (defArgs st) (defBody st) (defScope st) cl .none .none doc pm an cdv ct) ⟨us, []⟩ = pure (ps.zip us))
    (hp : p.defs nmf = some (.inl ⟨ps.length, N.length, false, body⟩)) (hks : (defScope st).names.lookup ("super" : Str) = some .globalImplicit) (hkc : (defScope st).names.lookup ("__class__" : Str) = some .free) (hms : ("super" : Str) ∈ nm.bins)
    (h1 : ((defArgs st).posonlyargs ++ (defArgs st).args).head? = some ar) (h2 : N[0]? = some ar.arg) (h3 : (defScope st).names.lookup ar.arg = some .local)
    (Dv : ∀ (X : Cx) (cc cda : Addr) (A : Around) (outer : List PySem.Env) (s : Shared) (H : Hp) (E : XK), X = ncx (L2.CX P w) P w K mg base N (nfS x qual st cc cda) f A outer s H E → Ok X p nm ad d E → SupX X D 0 → PZs X (defBody st) (tB X (p.cal d) E body)) :
    FnQ P w K mg base (L2.CX P w) (d + 3) f (spC K mg ((p.cal (d + 1)).call nmf)) := by
  have hcall : ∀ us S, (p.cal (d + 1)).call nmf us S = (⟨ps.length, N.length, false, body⟩ : Df).run (p.cal d) us S := fun us S => by
    show (match p.defs nmf with | some (.inl df) => df.run (p.cal d) us S | some (.inr g) => g (p.cal d) us S | none => R.bad) = _
    rw [hp]
  obtain ⟨oc, od, doc, pm, an, cc, cda, ct, osl, lk, hcd, ⟨cl, cld, csl, hcell⟩, ⟨ccl, cdd, cvs, ccs, tk, hcode, hfile⟩⟩ := F.ex
  intro A0 outer s H us vs Q E hr e0 r h
  obtain ⟨ρ, S0, ws, w0, rw_, h⟩ := h
  rw [hcall] at h
  unfold Df.run bindU at h
  rw [if_neg (show ¬ (false = true) from Bool.false_ne_true)] at h
  by_cases hl : ws.length = ps.length
  · rw [if_pos hl] at h
    have hlv : vs.length = ps.length := by rw [rw_.length]; exact hl
    have hlN : vs.length < N.length := by
      have q := congrArg List.length S.pre
      rw [List.length_take, List.length_append] at q
      simp at q
      omega
    have KX : K.In s.heap := e0.mod.kin.keeps fun b o e => (e0.bs b o e).1
    have lim : s.heap.NoLimit := e0.mod.nolimit.keeps fun b o e => (e0.bs b o e).1
    have hKn : ∀ {b : Addr} {o : Obj}, K.lookup b = some o → H b = none := fun {b o} e => (e0.bs b o (e0.mod.kin _ _ e)).2
    have C : CellsAt [("__class__", cc)] ["__class__"] [none] s.heap H := by
      refine ⟨rfl, fun y c e => ?_, fun x y c e1 e2 => ?_, fun i y e => ?_⟩
      · simp only [List.lookup_cons] at e
        split at e
        · cases e
          exact ⟨hKn hcell, _, _, KX _ _ hcell, rfl⟩
        · cases e
      · simp only [List.lookup_cons] at e1 e2
        split at e1
        · rename_i q1
          split at e2
          · rename_i q2
            exact (eq_of_beq q1).trans (eq_of_beq q2).symm
          · cases e2
        · cases e1
      · cases i with
        | zero =>
          cases e
          refine ⟨cc, rfl, fun v z => ?_⟩
          cases z
        | succ i => simp at e
    refine codeAny_call_function hr.depth (KX _ _ lk) rfl S.co S.gen rfl (PySem.W.codeRec_of KX hcd) ?_
    rw [hb doc pm an (.ref cda) ct [("__class__", cc)] us (by rw [← r.length]; exact hlv)]
    refine wpAny_pure (wpAny_newFunctionEnv S.nocell (fun ⟨n, _⟩ hy => S.par n (List.of_mem_zip hy).1) (fun h₁ hns hsb => ⟨lim.fresh _ hsb, ?_⟩) S.kind)
    show codeAny _ _ (.func (defBody st) (envF (nfS x qual st cc cda) f s.heap.objs.size)) _ _
    refine PySem.ks_codeAny_funcAt ?_
    have kp : ∀ b o, s.heap.get? b = some o → h₁.get? b = some o := fun b o e => hsb.extBut b o (Nat.ne_of_lt (Heap.lt_size e)) (Heap.get?_push_of_some _ e)
    have I : L2.Inv (ncx (L2.CX P w) P w K mg base N (nfS x qual st cc cda) f A0 outer s H E) [] (startF N vs [none]) H { s with heap := h₁, toks := s.toks + (ps.zip us).length } := inv_startN S hr.hd e0 hlv r C hns kp
    have ok := G.okS (N := N) (F := nfS x qual st cc cda) (f := f) (outer := outer) (H := H) (E := E) (hr.inner (envF (nfS x qual st cc cda) f s.heap.objs.size))
    have sx : SupX (ncx (L2.CX P w) P w K mg base N (nfS x qual st cc cda) f A0 outer s H E) D 0 :=
      ⟨hks, hkc, ⟨f, oc, od, _, osl, ar, rfl, lk, h1, h2, h3⟩, ⟨cda, _, cvs, file, tk, rfl, hcode, rfl, hfile, hP.f⟩, hP.t, ⟨cc, _, rfl, hcell, rfl⟩, F.cls, G.sta.bin _ hms⟩
    rw [startF_start hlN] at I
    have run := (Dv _ cc cda A0 outer s H E rfl ok sx).run (defBody st) [] _ (L2.start N vs) H { nx := fun _ H' => Q .non H', rt := Q } I ⟨ρ, S0, startU N.length ws, w0, env_start rw_, fin_read h⟩
    refine PySem.ks_wpAt_mono run (fun fl s' hs => ?_) fun e s' hs => hs
    have fin : ∀ {σ' : L2.St} {H' : Hp} {v : V} {u : Value}, L2.Inv (ncx (L2.CX P w) P w K mg base N (nfS x qual st cc cda) f A0 outer s H E) [] σ' H' s' → L2.RelV v u → Q v H' → CE outer P w H s Q u s' :=
      fun {σ' H' v u} J rv q => ⟨v, H', J.os, J.bare, J.base, J.hok, rv, q⟩
    cases fl with
    | ret u =>
      obtain ⟨v, σ', H', J, rv, q⟩ := hs
      exact fin J rv q
    | next =>
      obtain ⟨σ', H', J, q⟩ := hs
      exact fin (v := V.non) (u := Value.none) J rfl q
    | brk =>
      obtain ⟨_, _, _, q⟩ := hs
      exact False.elim q
    | cont =>
      obtain ⟨_, _, _, q⟩ := hs
      exact False.elim q
  · rw [if_neg hl] at h
    exact h.elim
end
end Oz
end
section
set_option maxHeartbeats 4000000
namespace Oz
open PySem PySem.Spec PyProof.Rows L2
/-- an expression within a try: what is wanted of exceptions may depend on the names -/
structure PX (X : Cx) (Φ : Cal) (e : Expr) (te : E) : Prop where
  run : ∀ (pn : List (Addr × Obj)) (xe : Value → Shared → Prop) (Wx : WX), Takes (X.tr pn xe) Wx → PE (X.tr pn xe) e (fun σ H Q => tE X Φ (WE Wx σ) te σ H Q)
structure PXA (X : Cx) (Φ : Cal) (es : List Expr) (tes : Es) : Prop where
  run : ∀ (pn : List (Addr × Obj)) (xe : Value → Shared → Prop) (Wx : WX), Takes (X.tr pn xe) Wx → PA (X.tr pn xe) es (fun σ H Q => tEs X Φ (WE Wx σ) tes σ H Q)
section
variable {X : Cx} {p : Pg} {nm : Names} {ad : Str → Addr} {d : Nat} {W : XK} {Φ : Cal} {a e o : Expr} {es : List Expr} {ta te to : E} {tes : Es} {pos : Pos}
theorem p_str {i : Str} {j : Nat} : PX X Φ (.Constant (.str i) j pos) (.k (.str i)) := ⟨fun pn xe Wx tk => ⟨fun pins s σ H Q I h => (s_str (X := X.tr pn xe) (W := WE Wx σ)).run pins s σ H Q I h⟩⟩
theorem p_v (i : Nat) {x : Str} (hN : X.N[i]? = some x := by rfl) (hv : Vis X.env.scope x := by first | exact Or.inl rfl | exact Or.inr (Or.inl rfl) | exact Or.inr (Or.inr rfl)) (hd : (x == ("__debug__" : Str)) = false := by decide)
    (hcd : (x == ("__classdict__" : Str)) = false := by decide) : PX X Φ (.Name x pos) (.v i) := ⟨fun pn xe Wx tk => ⟨fun pins s σ H Q I h => (s_v (X := X.tr pn xe) (W := WE Wx σ) i hN hv hd hcd).run pins s σ H Q I h⟩⟩
theorem p_nil : PXA X Φ [] .nil := ⟨fun pn xe Wx tk => ⟨fun pos pins s σ H Q I h => (s_nil (X := X.tr pn xe) (W := WE Wx σ)).run pos pins s σ H Q I h⟩⟩
theorem p_cons (ha : PX X Φ e te) (hr : PXA X Φ es tes) (hs : starEach (e :: es) X.env = (false, eval e X.env) :: starEach es X.env := by rfl) : PXA X Φ (e :: es) (.cons te tes) := ⟨fun pn xe Wx tk => by
  refine PAw (pa_cons (ha.run pn xe Wx tk) (hr.run pn xe Wx tk) hs) fun σ H Q ⟨ρ, S, env, w, eo, h⟩ => ?_
  rw [evs] at h
  refine ⟨ρ, S, env, w, eo, (Post.bind h).imp fun x H1 ⟨ρ1, S1, u, e1, w1, r1, h1⟩ => ⟨ρ1, S1, env, w1, eo.mono e1, (Post.bind h1).imp fun xs H2 ⟨ρ2, S2, us, e2, w2, r2, h2⟩ => ?_⟩⟩
  exact h2.here w2 (RelUs.cons (r1.mono e2) r2)⟩
theorem p_tup {k : Nat} (h : PXA X Φ es tes) : PX X Φ (.Tuple es k pos) (.tup tes) := ⟨fun pn xe Wx tk => by
  refine PEw (pe_tup (h.run pn xe Wx tk)) fun σ H Q ⟨ρ, S, env, w, eo, h⟩ => ?_
  rw [ev] at h
  refine ⟨ρ, S, env, w, eo, (Post.bind h).imp fun xs H1 ⟨ρ1, S1, us, e1, w1, r1, h1⟩ => ?_⟩
  split at h1
  · rename_i hz
    exact ⟨by rw [r1.length]; exact hz, fun q hq => h1.tup w1 r1 hq⟩
  · cases h1⟩
theorem p_call (O : Ok X p nm ad d W) {f : Str} {px : Pos} (ha : PXA X (p.cal d) (e :: es) tes) (hg : Gl X f := by rfl) (hf : f ∈ nm.fns := by decide +kernel) (hdb : (f == ("__debug__" : Str)) = false := by decide)
    (he : starEach (e :: es) X.env = (false, eval e X.env) :: starEach es X.env := by rfl) (hpl : (backTo pos (starEach es X.env)).any (·.1) = false := by rfl) : PX X (p.cal d) (.Call (.Name f px) (e :: es) [] pos) (.call f tes) := ⟨fun pn xe Wx tk => by
  obtain ⟨hm, hk⟩ := O.sta.fn f hf
  refine PEw (pe_callT (X := X.tr pn xe) (O.call f) O.room hm hk tk (ha.run pn xe Wx tk) hg hdb he hpl) fun σ H Q ⟨ρ, S, env, w, eo, h⟩ => ?_
  rw [ev] at h
  exact ⟨ρ, S, env, w, eo, (Post.bind h).imp fun vs H1 ⟨ρ1, S1, us, e1, w1, r1, h1⟩ => ⟨ρ1, S1, us, w1, r1, h1⟩⟩⟩
theorem endsT {X : Cx} {pins : List (Addr × Obj)} {σ : L2.St} {H : Hp} {s : Shared} {Q : VK} {Wx : WX} (tk : Takes X Wx) (I : L2.Inv X pins σ H s) : ∀ (r : Result) (s' : Shared), CR (L2.CX X.prog X.w) X.stack X.prog X.w H s Q (WE Wx σ) r s' → (match r with | .ok (.ret v) => EP X pins σ Q v s' | .ok _ => False | .error e => X.xe e s')
  | .error e, s', hq => passAt tk σ pins H s e s' I hq
  | .ok (.ret u), s', hq => I.after hq
  | .ok .next, _, hq => hq.elim
  | .ok .brk, _, hq => hq.elim
  | .ok .cont, _, hq => hq.elim
theorem p_meth0 (O : Ok X p nm ad d W) (C : Str) {m : Str} {apos : Pos} {pl : Sem Bool} (ho : PX X (p.cal d) o to) (hC : C ∈ nm.owns := by decide +kernel) (hm : (C, m) ∈ nm.mets := by decide +kernel)
    (ht : eval (.Call (.Attribute o m apos) [] [] pos) X.env = (do
      let ov ← eval o X.env
      standAt apos.atName
      let (f, first) ← holding [ov] (getMethod ov m pl)
      callWith pos f first (backTo pos (starEach [] X.env)) (backToKw pos (keywordEach [] X.env))) := by rfl) :
    PX X (p.cal d) (.Call (.Attribute o m apos) [] [] pos) (.meth to C m .nil) := ⟨fun pn xe Wx tk => by
  refine ⟨fun pins s σ H Q I ⟨ρ, S, env, w, eo, h⟩ => ?_⟩
  rw [ev] at h
  refine PySem.W.methodCall_KW (pl := pl) (thn ((ho.run pn xe Wx tk).run pins s σ H _ I ⟨ρ, S, env, w, eo, Post.bind h⟩) fun u s1 ⟨x, H1, I1, rx, ρ1, S1, u', e1, w1, r1, h1⟩ => ?_) ht
  obtain ⟨n, a, dx, vfs, rfl, rfl, hn, e, l, h1⟩ : ∃ n a dx vfs, u' = .loc n ∧ x = .ref a ∧ ρ1[n]? = some a ∧ H1 a = some (.ins (ad C) dx vfs) ∧ vfs.lookup m = none ∧ Post X.mg X.K (RelU X.K) (WE Wx σ) ρ1 H1 ((p.cal d).call (C ++ "." ++ m) [.loc n] S1) Q := by
    split at h1
    · rename_i n
      split at h1
      · rename_i hn
        split at h1
        · rename_i hD
          obtain ⟨rfl, hl⟩ := hD
          obtain ⟨a, dx, vfs, rfl, hn', e, q⟩ := ins_at O hC w1 r1 hn
          exact ⟨n, a, dx, vfs, rfl, rfl, hn', e, (q.look (f := m)).2 hl, h1⟩
        · cases h1
      · cases h1
    · cases h1
  obtain rfl : u = Value.ref a := rx
  refine getmeth_ok I1 e (O.sta.own C hC).2 (O.sta.met C m hm).mt l ?_
  refine PySem.W.callWith_K0 (first := [.ref a]) I1.kIn (O.sta.met C m hm).mt.kp ?_
  refine wpAny_call (codeAny_mono (O.call (C ++ "." ++ m) X.A X.stack s1 H1 [.ref a] [.ref a] Q (WE Wx σ) O.room I1.env0 (.cons rfl .nil) ⟨ρ1, S1, [.loc n], w1, RelUs.cons (relLoc hn) RelUs.nil, h1⟩) fun z s' hz => endsT tk I1 z s' hz)⟩
theorem EnvOk.dropσ {K : PySem.W.Frag} {ρ : List Addr} {H : Hp} {env : Env} {σ : L2.St} (h : EnvOk K ρ H env σ) (j : Nat) (o : Option V) : EnvOk K ρ H (env.set j none) (σ.set j o) := by
  refine ⟨by rw [List.length_set, List.length_set]; exact h.len, fun i u e => ?_⟩
  by_cases hi : j = i
  · subst hi
    rw [List.getElem?_set] at e
    split at e
    · split at e <;> cases e
    · rename_i q
      exact absurd rfl q
  · rw [List.getElem?_set_ne hi] at e ⊢
    exact h.ok i u e
theorem x_tryf (O : Ok X p nm ad d W) (i j : Nat) {xi xj C f : Str} {p1 p2 p3 p4 p5 p6 p7 p8 : Pos} (hx : PX X (p.cal d) e te) (hN : X.N.Nodup) (hi : X.N[i]? = some xi := by rfl) (hj : X.N[j]? = some xj := by rfl)
    (hxi : X.env.scope.names.lookup xi = some .local := by rfl) (hxj : X.env.scope.names.lookup xj = some .local := by rfl) (hst : X.stack = X.env :: X.outer := by rfl) (hfr : X.env.frame = some X.env.locals := by rfl)
    (hxc : (C, f) ∈ nm.xcs := by decide +kernel) (htr : (C, f) ∈ nm.trs := by decide +kernel) (hg : Gl X C := by rfl) (hdb : (C == ("__debug__" : Str)) = false := by decide)
    (hs : swapsWith e (some (.Name xi p1)) p2.line X.env = pure false := by rfl) (hs2 : swapsWith (.Attribute (.Name xj p4) f p5) (some (.Name xi p3)) p6.line X.env = pure false := by rfl)
    (hd : (xj == ("__debug__" : Str)) = false := by decide) (hcd : (xj == ("__classdict__" : Str)) = false := by decide)
    (hb : attributeBase (.Name xj p4) f X.env (eval (.Name xj p4) X.env) = eval (.Name xj p4) X.env := by rfl) :
    PS X (.Try [.Assign [.Name xi p1] e p2] [.ExceptHandler (some (.Name C p7)) (some xj) [.Assign [.Name xi p3] (.Attribute (.Name xj p4) f p5) p6] p8] [] [] pos) (tS X (p.cal d) W (.tryf i j te C f)) := by
  have gC := (O.xc C f hxc).gC
  have T := O.sta.trs _ htr
  refine PSw (ps_try_as (i := j) (c := .ref (ad C)) (tb := fun Wx D σ H => tAsg (fun σ H Q => tE X (p.cal d) (WE Wx σ) te σ H Q) (gName i) D σ H) (ts := fun a cls dd => tAsg (tFx X.K a cls dd j f) (gName i)) (Wout := fun _ _ _ _ => False) hst hfr hN hj hxj ⟨hg, hdb, .inl gC⟩ takes0 (fun Wx pn xe tk _ => ?_) (fun a oe cls dd pn hz hf => ?_)) fun D σ H ⟨ρ, S, env, w, eo, h⟩ => ?_
  · have q := ps_set (X := X.tr pn xe) hN hi (.inl hxi) (hx.run pn xe Wx tk) hs (.inr hxi)
    exact PSsw (pss_cons q pss_nil) fun D σ H h => h
  · have q := ps_set (X := X.suite a ((a, oe) :: pn)) (pos := p6) (pos' := p3) hN hi (.inl hxi) (pe_fx (X := X) (pos := p5) (p2 := p4) (f := f) hz hf hj (.inl hxj) hd hcd hb) hs2 (.inr hxi)
    exact PSsw (pss_cons q pss_nil) fun D σ H h => h
  · rw [ex] at h
    refine ⟨ρ, S, env, w, eo, ?_⟩
    split at h
    · rename_i u S1 he
      rw [he]
      exact fun ρ1 H1 v e1 w1 r1 => h ρ1 H1 _ e1 w1 ((eo.mono e1).set i r1)
    · rename_i c fs S1 he
      rw [he]
      split at h
      · rename_i hc
        subst hc
        split at h
        · rename_i u hu
          split at h
          · rename_i hlt
            intro ρ1 H1 Ca dx vfs e1 w1 hC hdx rf
            rw [gC] at hC
            cases hC
            obtain ⟨v, hv, rv⟩ := (rf.look (f := f)).1 u hu
            refine ⟨true, T.em, fun _ a ha => ?_, fun z => by cases z⟩
            refine ⟨?_, _, dx, vfs, v, rfl, rfl, T.xf, T.nf, hdx, hv, ?_⟩
            · rw [List.getElem?_set_self (by rw [← eo.len]; exact hlt)]
            · exact h ρ1 H1 _ e1 w1 ((((eo.mono e1).dropσ j _).set i rv).setNone j)
          · exact h.elim
        · exact h.elim
      · exact h.elim
    · exact h.elim
theorem x_tryr (O : Ok X p nm ad d W) {C : Str} {cs : List Str} {k : U} {v : V} {c : Expr} {p2 p6 p7 p8 : Pos} (hx : PX X (p.cal d) e te)
    (hk : ∀ (Y : Cx), PE Y c (fun σ H Q => Q v H)) (hr : ∀ K ρ H, RelU K ρ H k v) (hst : X.stack = X.env :: X.outer := by rfl) (hfr : X.env.frame = some X.env.locals := by rfl)
    (htr : ∀ c ∈ cs, (C, c) ∈ nm.tre := by decide +kernel) (hne : ∃ c, c ∈ cs := by exact ⟨_, List.mem_cons_self⟩) (hg : Gl X C := by rfl) (hdb : (C == ("__debug__" : Str)) = false := by decide)
    (hs : swapsWith e none p2.line X.env = pure false := by rfl) :
    PS X (.Try [.Expr e p2] [.ExceptHandler (some (.Name C p7)) none [.Return (some c) p6] p8] [] [] pos) (tS X (p.cal d) W (.tryr te C cs k)) := by
  obtain ⟨c0, hc0⟩ := hne
  have gC := (O.sta.tre _ (htr c0 hc0)).gC
  refine PSw (ps_try_only (c := .ref (ad C)) (tb := fun Wx D σ H => tE X (p.cal d) (WE Wx σ) te σ H (fun _ H' => D.nx σ H')) (ts := fun a cls dd D σ H => D.rt v H) (Wout := fun _ _ _ _ => False) hst hfr ⟨hg, hdb, .inl gC⟩ takes0 (fun Wx pn xe tk _ => ?_) (fun a oe cls dd pn hz hf => ?_)) fun D σ H ⟨ρ, S, env, w, eo, h⟩ => ?_
  · have q := ps_expr (X := X.tr pn xe) (hx.run pn xe Wx tk) hs
    exact PSsw (pss_cons q pss_nil) fun D σ H h => h
  · have q := ps_ret (X := X.suite a ((a, oe) :: pn)) (pos := p6) (hk _)
    exact PSsw (pss_cons q pss_nil) fun D σ H h => h
  · rw [ex] at h
    refine ⟨ρ, S, env, w, eo, ?_⟩
    split at h
    · rename_i u S1 he
      rw [he]
      exact fun ρ1 H1 v e1 w1 r1 => h ρ1 H1 _ e1 w1 (eo.mono e1)
    · rename_i c fs S1 he
      rw [he]
      split at h
      · rename_i hc
        intro ρ1 H1 Ca dx vfs e1 w1 hC hdx rf
        have T := O.sta.tre _ (htr c hc)
        rw [T.gc] at hC
        cases hC
        exact ⟨true, T.em, fun _ a ha => h ρ1 H1 _ e1 w1 (hr _ _ _), fun z => by cases z⟩
      · exact h.elim
    · exact h.elim
theorem boot_dict : bootBuiltins ("dict" : Str) = some (.type "dict") := by first | rfl | decide +kernel
theorem call_dcp : CallR X (.type "dict") (fun xs H Q => ∃ (a : Addr) (kvs : List (Key × V)), xs = [.ref a] ∧ H a = some (.dK kvs) ∧ ∀ q, H q = none → Q (.ref q) (upd H q (.dK kvs))) := by
  rintro pins s σ H xs us Q I r ⟨c, kvs, rfl, e, h⟩
  cases r with
  | cons r1 r2 =>
    cases r2
    rename_i u
    obtain rfl : u = Value.ref c := r1
    exact d_copyOf I (.inl e) fun q s' hq I' => ⟨.ref q, _, I', rfl, h q hq⟩
theorem s_dcp (O : Ok X p nm ad d W) {px : Pos} (ha : PE X a (tE X Φ W ta)) (hg : Gl X "dict" := by rfl) (hm : ("dict" : Str) ∈ nm.bins := by decide +kernel) (he : starEach [a] X.env = (false, eval a X.env) :: starEach [] X.env := by rfl) (hpl : (backTo pos (starEach [] X.env)).any (·.1) = false := by rfl) :
    PE X (.Call (.Name "dict" px) [a] [] pos) (tE X Φ W (.dcp ta)) := by
  refine PEw (pe_callTy call_dcp hg (O.sta.bin _ hm) boot_dict (pa_cons ha pa_nil he) (by decide) (by decide) he hpl) fun σ H Q ⟨ρ, S, env, w, eo, h⟩ => ?_
  rw [ev] at h
  refine ⟨ρ, S, env, w, eo, (Post.bind h).imp fun v H1 ⟨ρ1, S1, u, e1, w1, r1, h1⟩ => ?_⟩
  unfold dcpU at h1
  split at h1
  · split at h1
    · rename_i kvs hn
      obtain ⟨q, rfl, hq⟩ := r1.loc
      obtain ⟨vk, hH, hr⟩ := w1.at_ hn hq
      refine ⟨q, vk, rfl, hH, fun q2 hq2 => ?_⟩
      have e2 : Ext ρ1 H1 (ρ1 ++ [q2]) (upd H1 q2 (.dK vk)) := Ext.push (upd_grow hq2)
      exact h1 (ρ1 ++ [q2]) _ _ e2 (w1.push (c := .dic kvs) hq2 (upd_grow hq2) ⟨vk, upd_same, KVR.mono e2 hr⟩) (relLoc (push_at w1.len))
    · exact h1.elim
  · exact h1.elim
theorem s_revl {a : Expr} {ta : E} {k : Nat} {p1 p2 p3 : Pos} (ha : PE X a (tE X Φ W ta)) : PE X (.Subscript a (.Slice none none (some (.UnaryOp .USub (.Constant (.int 1) k p1) p2)) p3) pos) (tE X Φ W (.revl ta)) := by
  refine PEw (pe_revL ha) fun σ H Q ⟨ρ, S, env, w, eo, h⟩ => ?_
  rw [ev] at h
  refine ⟨ρ, S, env, w, eo, (Post.bind h).imp fun v H1 ⟨ρ1, S1, u, e1, w1, r1, h1⟩ => ?_⟩
  unfold revlU at h1
  split at h1
  · rename_i us hn
    obtain ⟨q, vs, rfl, hq, hr⟩ := w1.list hn r1
    refine ⟨q, vs, rfl, hq, fun q2 hq2 => ?_⟩
    have e2 : Ext ρ1 H1 (ρ1 ++ [q2]) (upd H1 q2 (.lst vs.reverse)) := Ext.push (upd_grow hq2)
    exact h1 (ρ1 ++ [q2]) _ _ e2 (w1.push (c := .lst us.reverse) hq2 (upd_grow hq2) ⟨vs.reverse, upd_same, RelUs.mono e2 hr.reverse⟩) (relLoc (push_at w1.len))
  · exact h1.elim
theorem x_dset (O : Ok X p nm ad d W) {o i v : Expr} {to ti tv : E} {p1 : Pos} (ho : PE X o (tE X Φ W to)) (hi : PE X i (tE X Φ W ti)) (hv : PE X v (tE X Φ W tv)) (hs : swapsWith v (some (.Subscript o i p1)) pos.line X.env = pure false := by rfl) :
    PS X (.Assign [.Subscript o i p1] v pos) (tS X Φ W (.dset to ti tv)) :=
  PSw (ps_dput (by have := O.room.un; omega) ho hi hv hs) fun D σ H ⟨ρ, S, env, w, eo, h⟩ => by
    rw [ex] at h
    refine ⟨ρ, S, env, w, eo, (PostS.on h).imp fun z H1 ⟨ρ1, S1, u1, e1, w1, r1, h1⟩ => ⟨ρ1, S1, env, w1, eo.mono e1, (PostS.on h1).imp fun x H2 ⟨ρ2, S2, u2, e2, w2, r2, h2⟩ => ⟨ρ2, S2, env, w2, (eo.mono e1).mono e2, (PostS.on h2).imp fun y H3 ⟨ρ3, S3, u3, e3, w3, r3, h3⟩ => ?_⟩⟩⟩
    have key : ∃ n k, u2 = .loc n ∧ keyU u3 = some k := by
      cases u2 with
      | loc n =>
        cases hk : keyU u3 with
        | some k => exact ⟨n, k, rfl, rfl⟩
        | none => unfold dsetU at h3; rw [hk] at h3; exact h3.elim
      | _ => exact (show False from h3).elim
    obtain ⟨n, k, rfl, hk⟩ := key
    unfold dsetU at h3
    simp only [hk] at h3
    split at h3
    · rename_i kvs hn
      split at h3
      · rename_i hz
        obtain ⟨q, rfl, hq⟩ := (r2.mono e3).loc
        obtain ⟨vk, hH, hr⟩ := w3.at_ hn hq
        have ey := keyU_rel hk r3
        subst ey
        have hl : vk.length < sizeLine := by rw [← Paired.length hr]; exact hz
        have ex1 : Ext ρ3 H3 ρ3 (upd H3 q (.dK (putK vk k z))) := Ext.write (dic_mut hH)
        have rz := (r1.mono e2).mono e3
        have w4 := w3.write (o := .dK (putK vk k z)) (c := .dic (putKU kvs k u1)) hq hn rfl rfl (dic_mut hH) ⟨_, upd_same, KVR.mono ex1 (KVR.put hr k rz)⟩
        exact ⟨q, _, rfl, DPut.k hH hl, h3 ρ3 _ _ ex1 w4 ((((eo.mono e1).mono e2).mono e3).mono ex1)⟩
      · exact h3.elim
    · exact h3.elim
end
end Oz
end
section
set_option maxHeartbeats 4000000
namespace Pr
open PySem L2 Oz
noncomputable def top (i : Nat) : Stmt := PySem.Challenge.pw_halfnoted_k10_plain_casts.main.body.getD i (.Pass ⟨0, 0, 0, 0⟩)
noncomputable abbrev st_consistent : Stmt := top 6
noncomputable def T_consistent : Sts := (.cons (.ret (.cmp .isNotN (.call "meeting" (.cons (.v 0) (.cons (.v 1) .nil))) (.k .non))) .nil)
noncomputable abbrev st_meeting : Stmt := top 7
noncomputable def T_meeting : Sts := (.cons (.if_ (.or (.e (.cmp .eq (.v 0) (.g "ANY"))) (.e (.cmp .eq (.v 0) (.v 1)))) (.cons (.ret (.v 1)) .nil) .nil) (.cons (.if_ (.e (.cmp .eq (.v 1) (.g "ANY"))) (.cons (.ret (.v 0)) .nil) .nil) (.cons (.if_ (.e (.cmp .ne (.ix (.v 0) (.k (.int 0))) (.ix (.v 1) (.k (.int 0))))) (.cons (.ret (.k .non)) .nil) .nil) (.cons (.set false [2] (.lcz [3, 4] (.call "meeting" (.cons (.v 3) (.cons (.v 4) .nil))) (.cons (.sl (.v 0) (.so (.k (.int 1))) .no) (.cons (.sl (.v 1) (.so (.k (.int 1))) .no) .nil)) .tt)) (.cons (.if_ (.e (.cmp .in_ (.k .non) (.v 2))) (.cons (.ret (.k .non)) .nil) .nil) (.cons (.ret (.tup (.cons (.ix (.v 0) (.k (.int 0))) (.star (.v 2) .nil)))) .nil))))))
noncomputable abbrev st_ground : Stmt := top 8
noncomputable def T_ground : Sts := (.cons (.ret (.ix (.v 0) (.k (.int 0)))) .nil)
noncomputable abbrev st_ground_type : Stmt := top 9
noncomputable def T_ground_type : Sts := (.cons (.ret (.gd "GROUND_TYPES" (.v 0))) .nil)
noncomputable abbrev st_parts : Stmt := top 12
noncomputable def T_parts : Sts := (.cons (.ret (.lc [1] false (.ix (.v 0) (.v 1)) (.gd "PARTS_AT" (.ix (.v 0) (.k (.int 0)))) .tt)) .nil)
noncomputable abbrev st_bare : Stmt := top 22
noncomputable def T_bare : Sts := (.cons (.while_ (.e (.isio (.v 0) ["Injected", "Wrapped"] ["Box", "Elaborator", "Evaluation", "Frame", "Function", "Injected", "Part", "Wrapped"])) (.cons (.set false [0] (.fldx (.v 0) ["Injected", "Wrapped"] "inside")) .nil)) (.cons (.ret (.v 0)) .nil))
noncomputable abbrev st_ground_of : Stmt := top 23
noncomputable def T_ground_of : Sts := (.cons (.set false [1] (.call "bare" (.cons (.v 0) .nil))) (.cons (.if_ (.e (.cmp .isN (.v 1) (.k .non))) (.cons (.ret (.k (.str "unit"))) .nil) .nil) (.cons (.if_ (.e (.isi (.v 1) "bool")) (.cons (.ret (.k (.str "bool"))) .nil) .nil) (.cons (.if_ (.e (.isi (.v 1) "int")) (.cons (.ret (.k (.str "int"))) .nil) .nil) (.cons (.if_ (.e (.isi (.v 1) "tuple")) (.cons (.ret (.k (.str "pair"))) .nil) .nil) (.cons (.ret (.ife (.e (.isio (.v 1) ["Box"] ["Box", "Elaborator", "Evaluation", "Frame", "Function", "Injected", "Part", "Wrapped"])) (.k (.str "box")) (.k (.str "fun")))) .nil))))))
noncomputable abbrev st_shape : Stmt := top 24
noncomputable def T_shape : Sts := (.cons (.set false [1] (.call "ground_of" (.cons (.v 0) .nil))) (.cons (.if_ (.e (.cmp .in_ (.v 1) (.tup (.cons (.k (.str "int")) (.cons (.k (.str "bool")) .nil))))) (.cons (.ret (.tup (.cons (.v 1) (.cons (.call "bare" (.cons (.v 0) .nil)) .nil)))) .nil) .nil) (.cons (.ret (.tup (.cons (.v 1) .nil))) .nil)))
noncomputable abbrev st_operated : Stmt := top 25
noncomputable def T_operated : Sts := (.cons (.mtch (.ix (.v 1) (.k (.int 0))) (.cons (.val "pair") (.cons (.ret (.tup (.cons (.ix (.v 2) (.k (.int 0))) (.cons (.ix (.v 2) (.k (.int 1))) .nil)))) .nil) (.cons (.val "fst") (.cons (.ret (.call "half" (.cons (.v 0) (.cons (.ix (.v 2) (.k (.int 0))) (.cons (.k (.int 0)) .nil))))) .nil) (.cons (.val "snd") (.cons (.ret (.call "half" (.cons (.v 0) (.cons (.ix (.v 2) (.k (.int 0))) (.cons (.k (.int 1)) .nil))))) .nil) (.cons (.val "box") (.cons (.ret (.mk "Box" (.cons (.ix (.v 2) (.k (.int 0))) .nil))) .nil) (.cons (.val "get") (.cons (.ret (.call "got" (.cons (.v 0) (.cons (.ix (.v 2) (.k (.int 0))) .nil)))) .nil) (.cons (.val "put") (.cons (.ret (.call "put" (.cons (.v 0) (.cons (.ix (.v 2) (.k (.int 0))) (.cons (.ix (.v 2) (.k (.int 1))) .nil))))) .nil) (.cons (.val "op") (.cons (.ret (.call "computed" (.cons (.ix (.v 1) (.k (.int 1))) (.cons (.ix (.v 2) (.k (.int 0))) (.cons (.ix (.v 2) (.k (.int 1))) .nil))))) .nil) (.cons (.val "not") (.cons (.ret (.not (.ix (.v 2) (.k (.int 0))))) .nil) .nil))))))))) .nil)
noncomputable abbrev st_half : Stmt := top 26
noncomputable def T_half : Sts := (.cons (.set true [3, 4] (.call "unwrapped" (.cons (.v 0) (.cons (.v 1) (.cons (.v 2) .nil))))) (.cons (.ret (.call "made_all" (.cons (.v 0) (.cons (.v 4) (.cons (.ix (.v 3) (.v 2)) .nil))))) .nil))
noncomputable abbrev st_got : Stmt := top 27
noncomputable def T_got : Sts := (.cons (.set true [2, 3] (.call "unwrapped" (.cons (.v 0) (.cons (.v 1) (.cons (.k (.int 1)) .nil))))) (.cons (.ret (.call "made_all" (.cons (.v 0) (.cons (.v 3) (.cons (.fld (.v 2) "Box" "held") .nil))))) .nil))
noncomputable abbrev st_put : Stmt := top 28
noncomputable def T_put : Sts := (.cons (.set true [3, 4] (.call "unwrapped" (.cons (.v 0) (.cons (.v 1) (.cons (.k (.int 0)) .nil))))) (.cons (.fset (.v 3) "Box" "held" (.call "made_all" (.cons (.v 0) (.cons (.revl (.v 4)) (.cons (.v 2) .nil))))) (.cons (.ret (.k .non)) .nil)))
noncomputable abbrev st_unwrapped : Stmt := top 29
noncomputable def T_unwrapped : Sts := (.cons (.set false [3] (.lst .nil)) (.cons (.while_ (.e (.isio (.v 1) ["Wrapped"] ["Box", "Elaborator", "Evaluation", "Frame", "Function", "Injected", "Part", "Wrapped"])) (.cons (.ex (.bm .append (.v 3) (.cons (.ix (.meth (.v 0) "Casts" "halves" (.cons (.fld (.v 1) "Wrapped" "by") .nil)) (.v 2)) .nil))) (.cons (.set false [1] (.fld (.v 1) "Wrapped" "inside")) .nil))) (.cons (.ret (.tup (.cons (.v 1) (.cons (.revl (.v 3)) .nil)))) .nil)))
noncomputable abbrev st_called_inside : Stmt := top 30
noncomputable def T_called_inside : Sts := (.cons (.while_ (.e (.isio (.v 1) ["Wrapped"] ["Box", "Elaborator", "Evaluation", "Frame", "Function", "Injected", "Part", "Wrapped"])) (.cons (.set true [4, 5] (.meth (.v 0) "Casts" "halves" (.cons (.fld (.v 1) "Wrapped" "by") .nil))) (.cons (.set false [2] (.meth (.v 0) "Casts" "made" (.cons (.v 4) (.cons (.v 2) .nil)))) (.cons (.set false [3] (.meth (.v 0) "Casts" "added" (.cons (.v 5) (.cons (.v 3) .nil)))) (.cons (.set false [1] (.fld (.v 1) "Wrapped" "inside")) .nil))))) (.cons (.ret (.tup (.cons (.v 1) (.cons (.v 2) (.cons (.v 3) .nil))))) .nil))
noncomputable abbrev st_made_all : Stmt := top 31
noncomputable def T_made_all : Sts := (.cons (.for_ false [3] (.v 1) (.cons (.set false [2] (.meth (.v 0) "Casts" "made" (.cons (.v 3) (.cons (.v 2) .nil)))) .nil)) (.cons (.ret (.v 2)) .nil))
noncomputable abbrev st_computed : Stmt := top 32
noncomputable def T_computed : Sts := (.cons (.mtch (.v 0) (.cons (.val "<") (.cons (.ret (.cmp .lt (.v 1) (.v 2))) .nil) (.cons (.val "==") (.cons (.ret (.cmp .eq (.v 1) (.v 2))) .nil) (.cons (.val "+") (.cons (.ret (.call "in_range" (.cons (.bin .add (.v 1) (.v 2)) .nil))) .nil) (.cons (.val "-") (.cons (.ret (.call "in_range" (.cons (.bin .sub (.v 1) (.v 2)) .nil))) .nil) (.cons (.val "*") (.cons (.ret (.call "in_range" (.cons (.bin .mul (.v 1) (.v 2)) .nil))) .nil) .nil)))))) .nil)
noncomputable abbrev st_in_range : Stmt := top 33
noncomputable def T_in_range : Sts := (.cons (.ret (.bin .sub (.bin .mod (.bin .add (.v 0) (.bin .pow (.k (.int 2)) (.k (.int 31)))) (.bin .pow (.k (.int 2)) (.k (.int 32)))) (.bin .pow (.k (.int 2)) (.k (.int 31))))) .nil)
noncomputable abbrev st_run_plain : Stmt := top 42
noncomputable def T_run_plain : Sts := (.cons (.ret (.meth (.mk "Evaluation" (.cons (.mkN "Casts") (.cons (.v 0) (.cons (.v 1) .nil)))) "Evaluation" "outcome" .nil)) .nil)
noncomputable abbrev st_elaborate : Stmt := top 46
noncomputable def T_elaborate : Sts := (.cons (.set false [1] (.meth (.mk "Elaborator" .nil) "Elaborator" "elaborated" (.cons (.v 0) (.cons .dnew .nil)))) (.cons (.ret (.tup (.cons (.fld (.v 1) "Part" "core") (.cons (.fld (.v 1) "Part" "of_type") .nil)))) .nil))
noncomputable abbrev st_fit : Stmt := top 48
noncomputable def T_fit : Sts := (.cons (.if_ (.not (.e (.call "consistent" (.cons (.fld (.v 0) "Part" "of_type") (.cons (.v 1) .nil))))) (.cons (.raise "Mismatched" (.fld (.v 0) "Part" "number")) .nil) .nil) (.cons (.if_ (.e (.cmp .eq (.fld (.v 0) "Part" "of_type") (.v 1))) (.cons (.ret (.fld (.v 0) "Part" "core")) .nil) .nil) (.cons (.ret (.tup (.cons (.k (.str "cast")) (.cons (.fld (.v 0) "Part" "number") (.cons (.fld (.v 0) "Part" "of_type") (.cons (.v 1) (.cons (.fld (.v 0) "Part" "core") .nil))))))) .nil)))
noncomputable abbrev st_opened : Stmt := top 49
noncomputable def T_opened : Sts := (.cons (.set false [2] (.fld (.v 0) "Part" "of_type")) (.cons (.if_ (.e (.cmp .eq (.v 2) (.g "ANY"))) (.cons (.set false [2] (.call "ground_type" (.cons (.v 1) .nil))) .nil) .nil) (.cons (.if_ (.e (.cmp .ne (.ix (.v 2) (.k (.int 0))) (.v 1))) (.cons (.raise "Mismatched" (.fld (.v 0) "Part" "number")) .nil) .nil) (.cons (.ret (.tup (.cons (.call "fit" (.cons (.v 0) (.cons (.v 2) .nil))) (.cons (.sl (.v 2) (.so (.k (.int 1))) .no) .nil)))) .nil))))
noncomputable abbrev st_constant_rule : Stmt := top 50
noncomputable def T_constant_rule : Sts := (.cons (.ret (.tup (.cons (.v 0) (.cons (.gd "CONSTANT_TYPES" (.ix (.v 0) (.k (.int 0)))) .nil)))) .nil)
noncomputable abbrev st_call_rule : Stmt := top 51
noncomputable def T_call_rule : Sts := (.cons (.tset (.tp (.cons (.nm 3) (.cons (.tp (.cons (.nm 4) (.cons (.nm 5) .nil))) .nil))) (.call "opened" (.cons (.v 1) (.cons (.k (.str "fun")) .nil)))) (.cons (.ret (.tup (.cons (.tup (.cons (.k (.str "call")) (.cons (.v 3) (.cons (.call "fit" (.cons (.v 2) (.cons (.v 4) .nil))) .nil)))) (.cons (.v 5) .nil)))) .nil))
noncomputable abbrev st_if_rule : Stmt := top 52
noncomputable def T_if_rule : Sts := (.cons (.set false [4] (.call "fit" (.cons (.v 1) (.cons (.g "BOOL") .nil)))) (.cons (.set false [5] (.call "meeting" (.cons (.fld (.v 2) "Part" "of_type") (.cons (.fld (.v 3) "Part" "of_type") .nil)))) (.cons (.if_ (.e (.cmp .isN (.v 5) (.k .non))) (.cons (.raise "Mismatched" (.fld (.v 3) "Part" "number")) .nil) .nil) (.cons (.ret (.tup (.cons (.tup (.cons (.k (.str "if")) (.cons (.v 4) (.cons (.call "fit" (.cons (.v 2) (.cons (.v 5) .nil))) (.cons (.call "fit" (.cons (.v 3) (.cons (.v 5) .nil))) .nil))))) (.cons (.v 5) .nil)))) .nil))))
noncomputable abbrev st_pair_rule : Stmt := top 53
noncomputable def T_pair_rule : Sts := (.cons (.ret (.tup (.cons (.tup (.cons (.k (.str "pair")) (.cons (.fld (.v 1) "Part" "core") (.cons (.fld (.v 2) "Part" "core") .nil)))) (.cons (.tup (.cons (.k (.str "pair")) (.cons (.fld (.v 1) "Part" "of_type") (.cons (.fld (.v 2) "Part" "of_type") .nil)))) .nil)))) .nil)
noncomputable abbrev st_half_rule : Stmt := top 54
noncomputable def T_half_rule : Sts := (.cons (.tset (.tp (.cons (.nm 2) (.cons (.tp (.cons (.nm 3) (.cons (.nm 4) .nil))) .nil))) (.call "opened" (.cons (.v 1) (.cons (.k (.str "pair")) .nil)))) (.cons (.set false [5] (.ife (.e (.cmp .eq (.ix (.v 0) (.k (.int 0))) (.k (.str "fst")))) (.v 3) (.v 4))) (.cons (.ret (.tup (.cons (.tup (.cons (.ix (.v 0) (.k (.int 0))) (.cons (.v 2) .nil))) (.cons (.v 5) .nil)))) .nil)))
noncomputable abbrev st_box_rule : Stmt := top 55
noncomputable def T_box_rule : Sts := (.cons (.ret (.tup (.cons (.tup (.cons (.k (.str "box")) (.cons (.fld (.v 1) "Part" "core") .nil))) (.cons (.tup (.cons (.k (.str "box")) (.cons (.fld (.v 1) "Part" "of_type") .nil))) .nil)))) .nil)
noncomputable abbrev st_get_rule : Stmt := top 56
noncomputable def T_get_rule : Sts := (.cons (.tset (.tp (.cons (.nm 2) (.cons (.tp (.cons (.nm 3) .nil)) .nil))) (.call "opened" (.cons (.v 1) (.cons (.k (.str "box")) .nil)))) (.cons (.ret (.tup (.cons (.tup (.cons (.k (.str "get")) (.cons (.v 2) .nil))) (.cons (.v 3) .nil)))) .nil))
noncomputable abbrev st_put_rule : Stmt := top 57
noncomputable def T_put_rule : Sts := (.cons (.tset (.tp (.cons (.nm 3) (.cons (.tp (.cons (.nm 4) .nil)) .nil))) (.call "opened" (.cons (.v 1) (.cons (.k (.str "box")) .nil)))) (.cons (.ret (.tup (.cons (.tup (.cons (.k (.str "put")) (.cons (.v 3) (.cons (.call "fit" (.cons (.v 2) (.cons (.v 4) .nil))) .nil)))) (.cons (.g "UNIT") .nil)))) .nil))
noncomputable abbrev st_op_rule : Stmt := top 58
noncomputable def T_op_rule : Sts := (.cons (.set false [3] (.ix (.v 0) (.k (.int 1)))) (.cons (.set false [4] (.ife (.e (.cmp .in_ (.v 3) (.tup (.cons (.k (.str "<")) (.cons (.k (.str "==")) .nil))))) (.g "BOOL") (.g "INT"))) (.cons (.ret (.tup (.cons (.tup (.cons (.k (.str "op")) (.cons (.v 3) (.cons (.call "fit" (.cons (.v 1) (.cons (.g "INT") .nil))) (.cons (.call "fit" (.cons (.v 2) (.cons (.g "INT") .nil))) .nil))))) (.cons (.v 4) .nil)))) .nil)))
noncomputable abbrev st_not_rule : Stmt := top 59
noncomputable def T_not_rule : Sts := (.cons (.ret (.tup (.cons (.tup (.cons (.k (.str "not")) (.cons (.call "fit" (.cons (.v 1) (.cons (.g "BOOL") .nil))) .nil))) (.cons (.g "BOOL") .nil)))) .nil)
noncomputable abbrev st_print_rule : Stmt := top 60
noncomputable def T_print_rule : Sts := (.cons (.ret (.tup (.cons (.tup (.cons (.k (.str "print")) (.cons (.call "fit" (.cons (.v 1) (.cons (.g "INT") .nil))) (.cons (.fld (.v 2) "Part" "core") .nil)))) (.cons (.fld (.v 2) "Part" "of_type") .nil)))) .nil)
noncomputable abbrev st_as_rule : Stmt := top 61
noncomputable def T_as_rule : Sts := (.cons (.ret (.tup (.cons (.call "fit" (.cons (.v 1) (.cons (.ix (.v 0) (.k (.int 2))) .nil))) (.cons (.ix (.v 0) (.k (.int 2))) .nil)))) .nil)
noncomputable abbrev st__law_state : Stmt := top 65
noncomputable def T__law_state : Sts := (.cons (.set false [1] (.lc [2] false (.bf .abs (.cons (.v 2) .nil)) (.sl (.v 0) .no (.so (.k (.int 63)))) .tt)) (.cons (.if_ (.e (.cmp .eq (.bf .len (.cons (.v 1) .nil)) (.k (.int 0)))) (.cons (.set false [1] (.lst (.cons (.k (.int 0)) .nil))) .nil) .nil) (.cons (.ret (.lst (.cons (.k (.int 0)) (.cons (.v 1) .nil)))) .nil)))
noncomputable abbrev st__law_take : Stmt := top 66
noncomputable def T__law_take : Sts := (.cons (.set false [2] (.ix (.v 0) (.k (.int 1)))) (.cons (.set false [3] (.bin .mod (.ix (.v 0) (.k (.int 0))) (.bf .len (.cons (.v 2) .nil)))) (.cons (.set false [4] (.ix (.v 2) (.v 3))) (.cons (.if_ (.e (.cmp .ge (.v 4) (.k (.int 1000000000000000000)))) (.cons (.sub (.v 2) (.v 3) (.bin .fdiv (.v 4) (.v 1))) (.cons (.ret (.bin .mod (.v 4) (.v 1))) .nil)) .nil) (.cons (.sub (.v 0) (.k (.int 0)) (.bin .add (.ix (.v 0) (.k (.int 0))) (.k (.int 1)))) (.cons (.set false [5] (.bin .mod (.bf .int (.cons (.bin .add (.bin .mul (.v 4) (.k (.int 48271))) (.bin .mul (.ix (.v 0) (.k (.int 0))) (.k (.int 69621)))) .nil)) (.k (.int 2147483647)))) (.cons (.set false [5] (.bin .mod (.bf .int (.cons (.bin .add (.bin .mul (.v 5) (.k (.int 16807))) (.bin .mul (.ix (.v 0) (.k (.int 0))) (.k (.int 7919)))) .nil)) (.k (.int 1000000007)))) (.cons (.ret (.bin .mod (.bin .fdiv (.v 5) (.k (.int 7))) (.v 1))) .nil))))))))
noncomputable abbrev st__law_chain : Stmt := top 68
noncomputable def T__law_chain : Sts := (.cons (.set false [3] (.lst (.cons (.v 1) .nil))) (.cons (.set false [4] (.v 1)) (.cons (.forr 5 (.k (.int 0)) (.v 2) (.cons (.if_ (.and (.e (.cmp .ne (.v 4) (.k (.str "any")))) (.e (.cmp .eq (.call "_law_take" (.cons (.v 0) (.cons (.k (.int 2)) .nil))) (.k (.int 0))))) (.cons (.set false [4] (.k (.str "any"))) .nil) (.cons (.if_ (.e (.cmp .eq (.v 4) (.k (.str "any")))) (.cons (.set false [4] (.ix (.lst (.cons (.k (.str "int")) (.cons (.k (.str "bool")) (.cons (.v 1) (.cons (.v 1) .nil))))) (.call "_law_take" (.cons (.v 0) (.cons (.k (.int 4)) .nil))))) .nil) .nil) .nil)) (.cons (.ex (.bm .append (.v 3) (.cons (.v 4) .nil))) .nil))) (.cons (.ret (.v 3)) .nil))))
noncomputable abbrev st__law_type : Stmt := top 69
noncomputable def T__law_type : Sts := (.cons (.ret (.tup (.cons (.v 0) .nil))) .nil)
noncomputable abbrev st__law_wrap : Stmt := top 70
noncomputable def T__law_wrap : Sts := (.cons (.for_ false [2] (.sl (.v 1) (.so (.k (.int 1))) .no) (.cons (.set false [0] (.tup (.cons (.k (.str "as")) (.cons (.v 0) (.cons (.call "_law_type" (.cons (.v 2) .nil)) .nil))))) .nil)) (.cons (.ret (.v 0)) .nil))
noncomputable abbrev st__law_blame : Stmt := top 71
noncomputable def T__law_blame : Sts := (.cons (.forr 3 (.k (.int 1)) (.bf .len (.cons (.v 0) .nil)) (.cons (.if_ (.and (.e (.cmp .notIn (.ix (.v 0) (.v 3)) (.lst (.cons (.k (.str "any")) (.cons (.v 2) .nil))))) (.e (.cmp .ne (.ix (.v 0) (.v 3)) (.ix (.v 0) (.bin .sub (.v 3) (.k (.int 1))))))) (.cons (.ret (.bin .sub (.bin .sub (.bin .add (.v 1) (.bf .len (.cons (.v 0) .nil))) (.k (.int 1))) (.v 3))) .nil) .nil) .nil)) (.cons (.ret (.neg (.k (.int 1)))) .nil))
noncomputable abbrev st__law_simple : Stmt := top 72
noncomputable def T__law_simple : Sts := (.cons (.set false [2] (.call "_law_chain" (.cons (.v 0) (.cons (.v 1) (.cons (.call "_law_take" (.cons (.v 0) (.cons (.k (.int 7)) .nil))) .nil))))) (.cons (.set false [3] (.dat (.dpl (.cons (.k (.str "int")) (.cons (.tup (.cons (.k (.str "num")) (.cons (.k (.int 5)) .nil))) (.cons (.k (.str "bool")) (.cons (.tup (.cons (.k (.str "flag")) (.cons (.k (.bl true)) .nil))) .nil))))) (.v 1))) (.cons (.set false [4] (.call "_law_blame" (.cons (.v 2) (.cons (.k (.int 1)) (.cons (.v 1) .nil))))) (.cons (.set false [5] (.dat (.dpl (.cons (.k (.str "int")) (.cons (.tup (.cons (.k (.str "value")) (.cons (.tup (.cons (.k (.str "int")) (.cons (.k (.int 5)) .nil))) .nil))) (.cons (.k (.str "bool")) (.cons (.tup (.cons (.k (.str "value")) (.cons (.tup (.cons (.k (.str "bool")) (.cons (.k (.bl true)) .nil))) .nil))) .nil))))) (.v 1))) (.cons (.if_ (.e (.cmp .ge (.v 4) (.k (.int 0)))) (.cons (.set false [5] (.tup (.cons (.k (.str "blame")) (.cons (.v 4) (.cons (.k (.int 1)) .nil))))) .nil) .nil) (.cons (.ret (.tup (.cons (.call "_law_wrap" (.cons (.v 3) (.cons (.v 2) .nil))) (.cons (.v 5) .nil)))) .nil))))))
noncomputable abbrev st__law_called : Stmt := top 73
noncomputable def T__law_called : Sts := (.cons (.set false [2] (.ix (.lst (.cons (.k (.str "int")) (.cons (.k (.str "bool")) .nil))) (.call "_law_take" (.cons (.v 0) (.cons (.k (.int 2)) .nil))))) (.cons (.set false [3] (.tup (.cons (.k (.str "fun")) (.cons (.k (.str "x")) (.cons (.tup (.cons (.v 1) .nil)) (.cons (.tup (.cons (.k (.str "name")) (.cons (.k (.str "x")) .nil))) .nil)))))) (.cons (.set false [4] (.ix (.lst (.cons (.k (.str "any")) (.cons (.v 1) (.cons (.k (.str "any")) (.cons (.k (.str "any")) .nil))))) (.call "_law_take" (.cons (.v 0) (.cons (.k (.int 4)) .nil))))) (.cons (.set false [5] (.ix (.lst (.cons (.k (.str "any")) (.cons (.v 1) (.cons (.k (.str "any")) (.cons (.k (.str "any")) .nil))))) (.call "_law_take" (.cons (.v 0) (.cons (.k (.int 4)) .nil))))) (.cons (.set false [6] (.tup (.cons (.k (.str "fun")) (.cons (.tup (.cons (.v 4) .nil)) (.cons (.tup (.cons (.v 5) .nil)) .nil))))) (.cons (.set false [7] (.dat (.dpl (.cons (.k (.str "int")) (.cons (.tup (.cons (.k (.str "num")) (.cons (.k (.int 5)) .nil))) (.cons (.k (.str "bool")) (.cons (.tup (.cons (.k (.str "flag")) (.cons (.k (.bl true)) .nil))) .nil))))) (.v 2))) (.cons (.set false [8] (.tup (.cons (.k (.str "call")) (.cons (.tup (.cons (.k (.str "as")) (.cons (.tup (.cons (.k (.str "as")) (.cons (.v 3) (.cons (.tup (.cons (.k (.str "any")) .nil)) .nil)))) (.cons (.v 6) .nil)))) (.cons (.v 7) .nil))))) (.cons (.if_ (.and (.e (.cmp .eq (.v 4) (.v 1))) (.e (.cmp .ne (.v 2) (.v 1)))) (.cons (.ret (.tup (.cons (.v 8) (.cons (.tup (.cons (.k (.str "refused")) (.cons (.k (.int 0)) .nil))) .nil)))) .nil) .nil) (.cons (.if_ (.e (.cmp .ne (.v 2) (.v 1))) (.cons (.ret (.tup (.cons (.v 8) (.cons (.tup (.cons (.k (.str "blame")) (.cons (.k (.int 3)) (.cons (.k (.int 0)) .nil)))) .nil)))) .nil) .nil) (.cons (.ret (.tup (.cons (.v 8) (.cons (.tup (.cons (.k (.str "value")) (.cons (.tup (.cons (.v 1) (.cons (.ix (.v 7) (.k (.int 1))) .nil))) .nil))) .nil)))) .nil))))))))))
noncomputable abbrev st__law_boxed : Stmt := top 74
noncomputable def T__law_boxed : Sts := (.cons (.set false [2] (.dpl (.cons (.k (.str "int")) (.cons (.tup (.cons (.k (.str "num")) (.cons (.k (.int 5)) .nil))) (.cons (.k (.str "bool")) (.cons (.tup (.cons (.k (.str "flag")) (.cons (.k (.bl true)) .nil))) .nil)))))) (.cons (.set false [3] (.ix (.lst (.cons (.k (.str "int")) (.cons (.k (.str "bool")) .nil))) (.call "_law_take" (.cons (.v 0) (.cons (.k (.int 2)) .nil))))) (.cons (.set false [4] (.tup (.cons (.k (.str "box")) (.cons (.dat (.v 2) (.v 1)) .nil)))) (.cons (.set false [5] (.tup (.cons (.k (.str "as")) (.cons (.v 4) (.cons (.tup (.cons (.k (.str "box")) (.cons (.tup (.cons (.k (.str "any")) .nil)) .nil))) .nil))))) (.cons (.set false [6] (.tup (.cons (.k (.str "let")) (.cons (.k (.str "u")) (.cons (.tup (.cons (.k (.str "put")) (.cons (.tup (.cons (.k (.str "name")) (.cons (.k (.str "b")) .nil))) (.cons (.dat (.v 2) (.v 3)) .nil)))) (.cons (.tup (.cons (.k (.str "get")) (.cons (.tup (.cons (.k (.str "name")) (.cons (.k (.str "b")) .nil))) .nil))) .nil)))))) (.cons (.set false [7] (.tup (.cons (.k (.str "value")) (.cons (.tup (.cons (.v 1) (.cons (.ix (.dat (.v 2) (.v 1)) (.k (.int 1))) .nil))) .nil)))) (.cons (.if_ (.e (.cmp .ne (.v 3) (.v 1))) (.cons (.set false [7] (.tup (.cons (.k (.str "blame")) (.cons (.k (.int 2)) (.cons (.k (.int 0)) .nil))))) .nil) .nil) (.cons (.ret (.tup (.cons (.tup (.cons (.k (.str "let")) (.cons (.k (.str "b")) (.cons (.v 5) (.cons (.v 6) .nil))))) (.cons (.v 7) .nil)))) .nil))))))))
noncomputable abbrev st__law_refused : Stmt := top 75
noncomputable def T__law_refused : Sts := (.cons (.tryr (.call "elaborate" (.cons (.v 0) .nil)) "Refused" ["Mismatched", "Stopped", "Unknown"] (.bl true)) (.cons (.ret (.k (.bl false))) .nil))
noncomputable abbrev st_law : Stmt := top 76
noncomputable def T_law : Sts := (.cons (.set false [1] (.call "_law_state" (.cons (.v 0) .nil))) (.cons (.set false [2] (.ix (.lst (.cons (.k (.str "int")) (.cons (.k (.str "bool")) .nil))) (.call "_law_take" (.cons (.v 1) (.cons (.k (.int 2)) .nil))))) (.cons (.set false [3] (.call "_law_take" (.cons (.v 1) (.cons (.k (.int 3)) .nil)))) (.cons (.if_ (.e (.cmp .eq (.v 3) (.k (.int 0)))) (.cons (.set true [4, 5] (.call "_law_simple" (.cons (.v 1) (.cons (.v 2) .nil)))) .nil) (.cons (.if_ (.e (.cmp .eq (.v 3) (.k (.int 1)))) (.cons (.set true [4, 5] (.call "_law_called" (.cons (.v 1) (.cons (.v 2) .nil)))) .nil) (.cons (.set true [4, 5] (.call "_law_boxed" (.cons (.v 1) (.cons (.v 2) .nil)))) .nil)) .nil)) (.cons (.if_ (.e (.cmp .eq (.v 5) (.tup (.cons (.k (.str "refused")) (.cons (.k (.int 0)) .nil))))) (.cons (.ret (.call "_law_refused" (.cons (.v 4) .nil))) .nil) .nil) (.cons (.set false [6] (.call "run_plain" (.cons (.ix (.call "elaborate" (.cons (.v 4) .nil)) (.k (.int 0))) (.cons (.bin .add (.k (.int 1)) (.call "_law_take" (.cons (.v 1) (.cons (.k (.int 3)) .nil)))) .nil)))) (.cons (.ret (.and (.cmp .eq (.v 6) (.tup (.cons (.tup .nil) (.cons (.v 5) .nil)))) (.cmp .eq (.bf .repr (.cons (.v 6) .nil)) (.bf .repr (.cons (.tup (.cons (.tup .nil) (.cons (.v 5) .nil))) .nil))))) .nil)))))))
noncomputable def N_law : List Str := ["script", "state", "base", "kind", "expression", "end", "told"]
noncomputable abbrev st_Box__init_ : Stmt := inClass (top 19) 0
noncomputable def T_Box__init_ : Sts := (.cons (.fset (.v 0) "Box" "held" (.v 1)) .nil)
noncomputable abbrev st_Casts_of_cast : Stmt := inClass (top 43) 0
noncomputable def T_Casts_of_cast : Sts := (.cons (.ret (.tup (.cons (.v 2) (.cons (.v 3) (.cons (.v 1) (.cons (.k (.int 1)) .nil)))))) .nil)
noncomputable abbrev st_Casts_added : Stmt := inClass (top 43) 1
noncomputable def T_Casts_added : Sts := (.cons (.ret (.tup (.cons (.v 1) (.cons (.v 2) .nil)))) .nil)
noncomputable abbrev st_Casts_settled : Stmt := inClass (top 43) 2
noncomputable def T_Casts_settled : Sts := (.cons (.while_ (.e (.cmp .isNotN (.v 1) (.k .non))) (.cons (.set true [3, 1] (.v 1)) (.cons (.set false [2] (.meth (.v 0) "Casts" "made" (.cons (.v 3) (.cons (.v 2) .nil)))) .nil))) (.cons (.ret (.v 2)) .nil))
noncomputable abbrev st_Casts_made : Stmt := inClass (top 43) 3
noncomputable def T_Casts_made : Sts := (.cons (.set true [3, 4, 5, 6] (.v 1)) (.cons (.if_ (.and (.e (.cmp .eq (.v 3) (.g "ANY"))) (.e (.cmp .eq (.v 4) (.g "ANY")))) (.cons (.ret (.v 2)) .nil) .nil) (.cons (.if_ (.e (.cmp .eq (.v 4) (.g "ANY"))) (.cons (.set false [7] (.call "ground" (.cons (.v 3) .nil))) (.cons (.ret (.mk "Injected" (.cons (.meth (.v 0) "Casts" "made" (.cons (.tup (.cons (.v 3) (.cons (.call "ground_type" (.cons (.v 7) .nil)) (.cons (.v 5) (.cons (.v 6) .nil))))) (.cons (.v 2) .nil))) (.cons (.v 7) .nil)))) .nil)) .nil) (.cons (.if_ (.e (.cmp .eq (.v 3) (.g "ANY"))) (.cons (.if_ (.e (.cmp .ne (.fld (.v 2) "Injected" "ground") (.call "ground" (.cons (.v 4) .nil)))) (.cons (.raise "Stopped" (.tup (.cons (.k (.str "blame")) (.cons (.v 5) (.cons (.v 6) .nil))))) .nil) .nil) (.cons (.ret (.meth (.v 0) "Casts" "made" (.cons (.tup (.cons (.call "ground_type" (.cons (.fld (.v 2) "Injected" "ground") .nil)) (.cons (.v 4) (.cons (.v 5) (.cons (.v 6) .nil))))) (.cons (.fld (.v 2) "Injected" "inside") .nil)))) .nil)) .nil) (.cons (.if_ (.e (.cmp .eq (.bf .len (.cons (.v 3) .nil)) (.k (.int 1)))) (.cons (.ret (.v 2)) .nil) .nil) (.cons (.ret (.mk "Wrapped" (.cons (.v 2) (.cons (.v 1) .nil)))) .nil))))))
noncomputable abbrev st_Casts_halves : Stmt := inClass (top 43) 4
noncomputable def T_Casts_halves : Sts := (.cons (.set true [2, 3, 4, 5] (.v 1)) (.cons (.set false [6] (.tup (.cons (.ix (.v 2) (.neg (.k (.int 1)))) (.cons (.ix (.v 3) (.neg (.k (.int 1)))) (.cons (.v 4) (.cons (.v 5) .nil)))))) (.cons (.if_ (.e (.cmp .eq (.ix (.v 2) (.k (.int 0))) (.k (.str "pair")))) (.cons (.ret (.tup (.cons (.tup (.cons (.ix (.v 2) (.k (.int 1))) (.cons (.ix (.v 3) (.k (.int 1))) (.cons (.v 4) (.cons (.v 5) .nil))))) (.cons (.v 6) .nil)))) .nil) .nil) (.cons (.ret (.tup (.cons (.tup (.cons (.ix (.v 3) (.k (.int 1))) (.cons (.ix (.v 2) (.k (.int 1))) (.cons (.v 4) (.cons (.bin .sub (.k (.int 1)) (.v 5)) .nil))))) (.cons (.v 6) .nil)))) .nil))))
noncomputable abbrev st_Elaborator__init_ : Stmt := inClass (top 63) 0
noncomputable def T_Elaborator__init_ : Sts := (.cons (.fset (.v 0) "Elaborator" "reached" (.k (.int 0))) .nil)
noncomputable abbrev st_Elaborator_elaborated : Stmt := inClass (top 63) 1
noncomputable def T_Elaborator_elaborated : Sts := (.cons (.set false [3] (.fld (.v 0) "Elaborator" "reached")) (.cons (.faug (.v 0) "Elaborator" "reached" .add (.k (.int 1))) (.cons (.set true [4, 5] (.meth (.v 0) "Elaborator" "core_and_type" (.cons (.v 1) (.cons (.v 2) .nil)))) (.cons (.ret (.mk "Part" (.cons (.v 3) (.cons (.v 4) (.cons (.v 5) .nil))))) .nil))))
noncomputable abbrev st_Elaborator_core_and_type : Stmt := inClass (top 63) 2
noncomputable def T_Elaborator_core_and_type : Sts := (.cons (.mtch (.v 1) (.cons (.seq [.lit "name", .cap 3]) (.cons (.if_ (.e (.dhas false (.v 3) (.v 2))) (.cons (.raise "Unknown" (.v 3)) .nil) .nil) (.cons (.ret (.tup (.cons (.v 1) (.cons (.dat (.v 2) (.v 3)) .nil)))) .nil)) (.cons (.seq [.lit "fun", .cap 3, .cap 4, .cap 5]) (.cons (.set false [6] (.meth (.v 0) "Elaborator" "elaborated" (.cons (.v 5) (.cons (.dm1 (.v 2) (.v 3) (.v 4)) .nil)))) (.cons (.ret (.tup (.cons (.tup (.cons (.k (.str "fun")) (.cons (.v 3) (.cons (.v 4) (.cons (.fld (.v 6) "Part" "core") .nil))))) (.cons (.tup (.cons (.k (.str "fun")) (.cons (.v 4) (.cons (.fld (.v 6) "Part" "of_type") .nil)))) .nil)))) .nil)) (.cons (.seq [.lit "rec", .cap 7, .cap 3, .cap 4, .cap 8, .cap 5]) (.cons (.set false [6] (.meth (.v 0) "Elaborator" "elaborated" (.cons (.v 5) (.cons (.dm2 (.v 2) (.v 7) (.tup (.cons (.k (.str "fun")) (.cons (.v 4) (.cons (.v 8) .nil)))) (.v 3) (.v 4)) .nil)))) (.cons (.ret (.tup (.cons (.tup (.cons (.k (.str "rec")) (.cons (.v 7) (.cons (.v 3) (.cons (.v 4) (.cons (.v 8) (.cons (.call "fit" (.cons (.v 6) (.cons (.v 8) .nil))) .nil))))))) (.cons (.tup (.cons (.k (.str "fun")) (.cons (.v 4) (.cons (.v 8) .nil)))) .nil)))) .nil)) (.cons (.seq [.lit "let", .cap 3, .cap 9, .cap 5]) (.cons (.set false [10] (.meth (.v 0) "Elaborator" "elaborated" (.cons (.v 9) (.cons (.v 2) .nil)))) (.cons (.set false [6] (.meth (.v 0) "Elaborator" "elaborated" (.cons (.v 5) (.cons (.dm1 (.v 2) (.v 3) (.fld (.v 10) "Part" "of_type")) .nil)))) (.cons (.ret (.tup (.cons (.tup (.cons (.k (.str "let")) (.cons (.v 3) (.cons (.fld (.v 10) "Part" "core") (.cons (.fld (.v 6) "Part" "core") .nil))))) (.cons (.fld (.v 6) "Part" "of_type") .nil)))) .nil))) (.cons .wild (.cons (.set false [11] (.gfn "RULES" [("num", "constant_rule"), ("flag", "constant_rule"), ("unit", "constant_rule"), ("call", "call_rule"), ("if", "if_rule"), ("pair", "pair_rule"), ("fst", "half_rule"), ("snd", "half_rule"), ("box", "box_rule"), ("get", "get_rule"), ("put", "put_rule"), ("op", "op_rule"), ("not", "not_rule"), ("print", "print_rule"), ("as", "as_rule")] (.ix (.v 1) (.k (.int 0))))) (.cons (.set false [12] (.lc [13] false (.meth (.v 0) "Elaborator" "elaborated" (.cons (.v 13) (.cons (.v 2) .nil))) (.call "parts" (.cons (.v 1) .nil)) .tt)) (.cons (.ret (.callv (.v 11) ["as_rule", "box_rule", "call_rule", "constant_rule", "get_rule", "half_rule", "if_rule", "not_rule", "op_rule", "pair_rule", "print_rule", "put_rule"] (.cons (.v 1) (.star (.v 12) .nil)))) .nil))) .nil)))))) .nil)
noncomputable abbrev st_Evaluation__init_ : Stmt := inClass (top 40) 0
noncomputable def T_Evaluation__init_ : Sts := (.cons (.sup 0 "Evaluation" "Evaluation^Run.__init__" (.cons (.v 1) (.cons (.v 3) .nil))) (.cons (.fset (.v 0) "Evaluation" "core" (.v 2)) (.cons (.fset (.v 0) "Evaluation" "frames" (.lst .nil)) (.cons (.fset (.v 0) "Evaluation" "value" (.k .non)) .nil))))
noncomputable abbrev st_Evaluation_of_Run__init_ : Stmt := inClass (top 36) 0
noncomputable def T_Evaluation_of_Run__init_ : Sts := (.cons (.fset (.v 0) "Evaluation" "casting" (.v 1)) (.cons (.fset (.v 0) "Evaluation" "calls" (.v 2)) (.cons (.fset (.v 0) "Evaluation" "prints" (.lst .nil)) .nil)))
noncomputable abbrev st_Evaluation_last_value : Stmt := inClass (top 40) 1
noncomputable def T_Evaluation_last_value : Sts := (.cons (.ex (.meth (.v 0) "Evaluation" "begin" (.cons (.fld (.v 0) "Evaluation" "core") (.cons .dnew (.cons (.k .non) .nil))))) (.cons (.while_ (.e (.fld (.v 0) "Evaluation" "frames")) (.cons (.ex (.meth (.v 0) "Evaluation" "step" .nil)) .nil)) (.cons (.ret (.fld (.v 0) "Evaluation" "value")) .nil)))
noncomputable abbrev st_Evaluation_begin : Stmt := inClass (top 40) 2
noncomputable def T_Evaluation_begin : Sts := (.cons (.ex (.bm .append (.fld (.v 0) "Evaluation" "frames") (.cons (.mk "Frame" (.cons (.v 1) (.cons (.v 2) (.cons (.v 3) .nil)))) .nil))) .nil)
noncomputable abbrev st_Evaluation_step : Stmt := inClass (top 40) 3
noncomputable def T_Evaluation_step : Sts := (.cons (.set false [1] (.ix (.fld (.v 0) "Evaluation" "frames") (.neg (.k (.int 1))))) (.cons (.if_ (.e (.cmp .lt (.bf .len (.cons (.fld (.v 1) "Frame" "known") .nil)) (.bf .len (.cons (.fld (.v 1) "Frame" "awaited") .nil)))) (.cons (.ex (.meth (.v 0) "Evaluation" "begin" (.cons (.ix (.fld (.v 1) "Frame" "awaited") (.bf .len (.cons (.fld (.v 1) "Frame" "known") .nil))) (.cons (.fld (.v 1) "Frame" "scope") (.cons (.k .non) .nil))))) .nil) (.cons (.ex (.bm .pop (.fld (.v 0) "Evaluation" "frames") .nil)) (.cons (.ex (.meth (.v 0) "Evaluation" "go_on" (.cons (.v 1) .nil))) .nil))) .nil))
noncomputable abbrev st_Evaluation_go_on : Stmt := inClass (top 40) 4
noncomputable def T_Evaluation_go_on : Sts := (.cons (.mtch (.fld (.v 1) "Frame" "core") (.cons (.seq [.lit "cast", .cap 2, .cap 3, .cap 4, .cap 5]) (.cons (.set false [6] (.meth (.fld (.v 0) "Evaluation" "casting") "Casts" "of_cast" (.cons (.v 2) (.cons (.v 3) (.cons (.v 4) .nil))))) (.cons (.ex (.meth (.v 0) "Evaluation" "begin" (.cons (.v 5) (.cons (.fld (.v 1) "Frame" "scope") (.cons (.meth (.fld (.v 0) "Evaluation" "casting") "Casts" "added" (.cons (.v 6) (.cons (.fld (.v 1) "Frame" "pending") .nil))) .nil))))) .nil)) (.cons (.seq [.lit "let", .cap 7, .wild, .cap 8]) (.cons (.ex (.meth (.v 0) "Evaluation" "begin" (.cons (.v 8) (.cons (.dm1 (.fld (.v 1) "Frame" "scope") (.v 7) (.ix (.fld (.v 1) "Frame" "known") (.k (.int 0)))) (.cons (.fld (.v 1) "Frame" "pending") .nil))))) .nil) (.cons (.seq [.lit "if", .wild, .cap 9, .cap 10]) (.cons (.ex (.meth (.v 0) "Evaluation" "begin" (.cons (.ife (.e (.ix (.fld (.v 1) "Frame" "known") (.k (.int 0)))) (.v 9) (.v 10)) (.cons (.fld (.v 1) "Frame" "scope") (.cons (.fld (.v 1) "Frame" "pending") .nil))))) .nil) (.cons (.seq [.lit "print", .wild, .cap 8]) (.cons (.ex (.bm .append (.fld (.v 0) "Evaluation" "prints") (.cons (.ix (.fld (.v 1) "Frame" "known") (.k (.int 0))) .nil))) (.cons (.ex (.meth (.v 0) "Evaluation" "begin" (.cons (.v 8) (.cons (.fld (.v 1) "Frame" "scope") (.cons (.fld (.v 1) "Frame" "pending") .nil))))) .nil)) (.cons (.seq [.lit "call", .wild, .wild]) (.cons (.ex (.meth (.v 0) "Evaluation" "call" (.cons (.ix (.fld (.v 1) "Frame" "known") (.k (.int 0))) (.cons (.ix (.fld (.v 1) "Frame" "known") (.k (.int 1))) (.cons (.fld (.v 1) "Frame" "pending") .nil))))) .nil) (.cons .wild (.cons (.ex (.meth (.v 0) "Evaluation" "give" (.cons (.meth (.fld (.v 0) "Evaluation" "casting") "Casts" "settled" (.cons (.fld (.v 1) "Frame" "pending") (.cons (.meth (.v 0) "Evaluation" "value_of" (.cons (.v 1) .nil)) .nil))) .nil))) .nil) .nil))))))) .nil)
noncomputable abbrev st_Evaluation_call : Stmt := inClass (top 40) 5
noncomputable def T_Evaluation_call : Sts := (.cons (.set true [4, 2, 3] (.call "called_inside" (.cons (.fld (.v 0) "Evaluation" "casting") (.cons (.v 1) (.cons (.v 2) (.cons (.v 3) .nil)))))) (.cons (.ex (.meth (.v 0) "Evaluation" "begin" (.cons (.fld (.v 4) "Function" "body") (.cons (.meth (.v 4) "Function" "scope_with" (.cons (.v 2) .nil)) (.cons (.v 3) .nil))))) (.cons (.ex (.meth (.v 0) "Evaluation" "enter" .nil)) .nil)))
noncomputable abbrev st_Evaluation_give : Stmt := inClass (top 40) 6
noncomputable def T_Evaluation_give : Sts := (.cons (.if_ (.e (.fld (.v 0) "Evaluation" "frames")) (.cons (.ex (.bm .append (.fld (.ix (.fld (.v 0) "Evaluation" "frames") (.neg (.k (.int 1)))) "Frame" "known") (.cons (.v 1) .nil))) .nil) (.cons (.fset (.v 0) "Evaluation" "value" (.v 1)) .nil)) .nil)
noncomputable abbrev st_Evaluation_value_of : Stmt := inClass (top 40) 7
noncomputable def T_Evaluation_value_of : Sts := (.cons (.mtch (.fld (.v 1) "Frame" "core") (.cons (.seq [.lit "num", .cap 2]) (.cons (.ret (.v 2)) .nil) (.cons (.seq [.lit "flag", .cap 3]) (.cons (.ret (.v 3)) .nil) (.cons (.seq [.lit "unit"]) (.cons (.ret (.k .non)) .nil) (.cons (.seq [.lit "name", .cap 4]) (.cons (.ret (.dat (.fld (.v 1) "Frame" "scope") (.v 4))) .nil) (.cons (.seq [.lit "fun", .cap 4, .wild, .cap 5]) (.cons (.ret (.mk "Function" (.cons (.k .non) (.cons (.v 4) (.cons (.v 5) (.cons (.fld (.v 1) "Frame" "scope") .nil)))))) .nil) (.cons (.seq [.lit "rec", .cap 6, .cap 4, .wild, .wild, .cap 5]) (.cons (.ret (.mk "Function" (.cons (.v 6) (.cons (.v 4) (.cons (.v 5) (.cons (.fld (.v 1) "Frame" "scope") .nil)))))) .nil) (.cons .wild (.cons (.ret (.call "operated" (.cons (.fld (.v 0) "Evaluation" "casting") (.cons (.fld (.v 1) "Frame" "core") (.cons (.fld (.v 1) "Frame" "known") .nil))))) .nil) .nil)))))))) .nil)
noncomputable abbrev st_Evaluation_enter : Stmt := inClass (top 36) 1
noncomputable def T_Evaluation_enter : Sts := (.cons (.if_ (.e (.cmp .eq (.fld (.v 0) "Evaluation" "calls") (.k (.int 0)))) (.cons (.raise "Stopped" (.tup (.cons (.k (.str "calls")) .nil))) .nil) .nil) (.cons (.faug (.v 0) "Evaluation" "calls" .sub (.k (.int 1))) .nil))
noncomputable abbrev st_Evaluation_outcome : Stmt := inClass (top 36) 2
noncomputable def T_Evaluation_outcome : Sts := (.cons (.tryf 1 2 (.tup (.cons (.k (.str "value")) (.cons (.call "shape" (.cons (.meth (.v 0) "Evaluation" "last_value" .nil) .nil)) .nil))) "Stopped" "end") (.cons (.ret (.tup (.cons (.bf .tup (.cons (.fld (.v 0) "Evaluation" "prints") .nil)) (.cons (.v 1) .nil)))) .nil))
noncomputable abbrev st_Frame__init_ : Stmt := inClass (top 39) 0
noncomputable def T_Frame__init_ : Sts := (.cons (.fset (.v 0) "Frame" "core" (.v 1)) (.cons (.fset (.v 0) "Frame" "scope" (.v 2)) (.cons (.fset (.v 0) "Frame" "pending" (.v 3)) (.cons (.fset (.v 0) "Frame" "awaited" (.sl (.call "parts" (.cons (.v 1) .nil)) .no (.so (.gget "AWAITED" (.ix (.v 1) (.k (.int 0))) (.k (.int 3)))))) (.cons (.fset (.v 0) "Frame" "known" (.lst .nil)) .nil)))))
noncomputable abbrev st_Function__init_ : Stmt := inClass (top 18) 0
noncomputable def T_Function__init_ : Sts := (.cons (.fset (.v 0) "Function" "own" (.v 1)) (.cons (.fset (.v 0) "Function" "name" (.v 2)) (.cons (.fset (.v 0) "Function" "body" (.v 3)) (.cons (.fset (.v 0) "Function" "scope" (.v 4)) .nil))))
noncomputable abbrev st_Function_scope_with : Stmt := inClass (top 18) 1
noncomputable def T_Function_scope_with : Sts := (.cons (.set false [2] (.dcp (.fld (.v 0) "Function" "scope"))) (.cons (.if_ (.e (.cmp .isNotN (.fld (.v 0) "Function" "own") (.k .non))) (.cons (.dset (.v 2) (.fld (.v 0) "Function" "own") (.v 0)) .nil) .nil) (.cons (.dset (.v 2) (.fld (.v 0) "Function" "name") (.v 1)) (.cons (.ret (.v 2)) .nil))))
noncomputable abbrev st_Injected__init_ : Stmt := inClass (top 21) 0
noncomputable def T_Injected__init_ : Sts := (.cons (.fset (.v 0) "Injected" "inside" (.v 1)) (.cons (.fset (.v 0) "Injected" "ground" (.v 2)) .nil))
noncomputable abbrev st_Part__init_ : Stmt := inClass (top 47) 0
noncomputable def T_Part__init_ : Sts := (.cons (.fset (.v 0) "Part" "number" (.v 1)) (.cons (.fset (.v 0) "Part" "core" (.v 2)) (.cons (.fset (.v 0) "Part" "of_type" (.v 3)) .nil)))
noncomputable abbrev st_Wrapped__init_ : Stmt := inClass (top 20) 0
noncomputable def T_Wrapped__init_ : Sts := (.cons (.fset (.v 0) "Wrapped" "inside" (.v 1)) (.cons (.fset (.v 0) "Wrapped" "by" (.v 2)) .nil))
noncomputable abbrev st_Mismatched__init_ : Stmt := inClass (top 16) 0
noncomputable abbrev st_Stopped__init_ : Stmt := inClass (top 35) 0
noncomputable abbrev st_Unknown__init_ : Stmt := inClass (top 15) 0
noncomputable def tp_fns_0 : List Str := ["consistent",
  "meeting",
  "ground",
  "ground_type",
  "parts",
  "bare",
  "ground_of",
  "shape",
  "operated",
  "half",
  "got",
  "put",
  "unwrapped",
  "called_inside",
  "made_all",
  "computed",
  "in_range",
  "run_plain",
  "elaborate",
  "fit",
  "opened",
  "constant_rule",
  "call_rule",
  "if_rule",
  "pair_rule"]
noncomputable def tp_fns_1 : List Str := ["half_rule",
  "box_rule",
  "get_rule",
  "put_rule",
  "op_rule",
  "not_rule",
  "print_rule",
  "as_rule",
  "_law_state",
  "_law_take",
  "_law_chain",
  "_law_type",
  "_law_wrap",
  "_law_blame",
  "_law_simple",
  "_law_called",
  "_law_boxed",
  "_law_refused",
  "law"]
noncomputable def tp_clss_0 : List Str := ["Box",
  "Elaborator",
  "Evaluation",
  "Frame",
  "Function",
  "Injected",
  "Part",
  "Wrapped"]
noncomputable def tp_mets_0 : List (Str × Str) := [("Casts", "of_cast"),
  ("Casts", "added"),
  ("Casts", "settled"),
  ("Casts", "made"),
  ("Casts", "halves"),
  ("Elaborator", "elaborated"),
  ("Elaborator", "core_and_type"),
  ("Evaluation", "last_value"),
  ("Evaluation", "begin"),
  ("Evaluation", "step"),
  ("Evaluation", "go_on"),
  ("Evaluation", "call"),
  ("Evaluation", "give"),
  ("Evaluation", "value_of"),
  ("Evaluation", "enter"),
  ("Evaluation", "outcome"),
  ("Function", "scope_with")]
noncomputable def tp_inis_0 : List Str := []
noncomputable def tp_flds_0 : List (Str × Str) := [("Box", "held"),
  ("Elaborator", "reached"),
  ("Evaluation", "calls"),
  ("Evaluation", "casting"),
  ("Evaluation", "core"),
  ("Evaluation", "frames"),
  ("Evaluation", "prints"),
  ("Evaluation", "value"),
  ("Frame", "awaited"),
  ("Frame", "core"),
  ("Frame", "known"),
  ("Frame", "pending"),
  ("Frame", "scope"),
  ("Function", "body"),
  ("Function", "name"),
  ("Function", "own"),
  ("Function", "scope"),
  ("Injected", "ground"),
  ("Injected", "inside"),
  ("Part", "core"),
  ("Part", "number"),
  ("Part", "of_type"),
  ("Wrapped", "by"),
  ("Wrapped", "inside")]
noncomputable def tp_xcs_0 : List (Str × Str) := [("Mismatched", "number"),
  ("Stopped", "end"),
  ("Unknown", "name")]
noncomputable def tp_bins_0 : List Str := ["abs",
  "bool",
  "dict",
  "int",
  "isinstance",
  "len",
  "range",
  "repr",
  "super",
  "tuple",
  "zip"]
noncomputable def tp_glos_0 : List (Str × U) := [("ANY", (U.tup [(U.str "any")])),
  ("INT", (U.tup [(U.str "int")])),
  ("BOOL", (U.tup [(U.str "bool")])),
  ("UNIT", (U.tup [(U.str "unit")]))]
noncomputable def tp_gdis_0 : List (Str × List (Str × U)) := [("GROUND_TYPES", [("int", (U.tup [(U.str "int")])), ("bool", (U.tup [(U.str "bool")])), ("unit", (U.tup [(U.str "unit")])), ("fun", (U.tup [(U.str "fun"), (U.tup [(U.str "any")]), (U.tup [(U.str "any")])])), ("pair", (U.tup [(U.str "pair"), (U.tup [(U.str "any")]), (U.tup [(U.str "any")])])), ("box", (U.tup [(U.str "box"), (U.tup [(U.str "any")])]))]),
  ("PARTS_AT", [("num", (U.tup [])), ("flag", (U.tup [])), ("unit", (U.tup [])), ("name", (U.tup [])), ("call", (U.tup [(U.int 1), (U.int 2)])), ("fun", (U.tup [(U.int 3)])), ("rec", (U.tup [(U.int 5)])), ("let", (U.tup [(U.int 2), (U.int 3)])), ("if", (U.tup [(U.int 1), (U.int 2), (U.int 3)])), ("pair", (U.tup [(U.int 1), (U.int 2)])), ("fst", (U.tup [(U.int 1)])), ("snd", (U.tup [(U.int 1)])), ("box", (U.tup [(U.int 1)])), ("get", (U.tup [(U.int 1)])), ("put", (U.tup [(U.int 1), (U.int 2)])), ("op", (U.tup [(U.int 2), (U.int 3)])), ("not", (U.tup [(U.int 1)])), ("print", (U.tup [(U.int 1), (U.int 2)])), ("as", (U.tup [(U.int 1)])), ("cast", (U.tup [(U.int 4)]))]),
  ("AWAITED", [("fun", (U.int 0)), ("rec", (U.int 0)), ("cast", (U.int 0)), ("let", (U.int 1)), ("if", (U.int 1)), ("print", (U.int 1))]),
  ("CONSTANT_TYPES", [("num", (U.tup [(U.str "int")])), ("flag", (U.tup [(U.str "bool")])), ("unit", (U.tup [(U.str "unit")]))])]
noncomputable def tp_defs_0 : List (Str × He.DefD) := [("consistent", ⟨("consistent", none), "consistent", "consistent", defArgs st_consistent, defBody st_consistent, defScope st_consistent, [], []⟩),
  ("meeting", ⟨("meeting", none), "meeting", "meeting", defArgs st_meeting, defBody st_meeting, defScope st_meeting, [], []⟩),
  ("ground", ⟨("ground", none), "ground", "ground", defArgs st_ground, defBody st_ground, defScope st_ground, [], []⟩),
  ("ground_type", ⟨("ground_type", none), "ground_type", "ground_type", defArgs st_ground_type, defBody st_ground_type, defScope st_ground_type, [], []⟩),
  ("parts", ⟨("parts", none), "parts", "parts", defArgs st_parts, defBody st_parts, defScope st_parts, [], []⟩),
  ("bare", ⟨("bare", none), "bare", "bare", defArgs st_bare, defBody st_bare, defScope st_bare, [], []⟩),
  ("ground_of", ⟨("ground_of", none), "ground_of", "ground_of", defArgs st_ground_of, defBody st_ground_of, defScope st_ground_of, [], []⟩),
  ("shape", ⟨("shape", none), "shape", "shape", defArgs st_shape, defBody st_shape, defScope st_shape, [], []⟩),
  ("operated", ⟨("operated", none), "operated", "operated", defArgs st_operated, defBody st_operated, defScope st_operated, [], []⟩),
  ("half", ⟨("half", none), "half", "half", defArgs st_half, defBody st_half, defScope st_half, [], []⟩),
  ("got", ⟨("got", none), "got", "got", defArgs st_got, defBody st_got, defScope st_got, [], []⟩),
  ("put", ⟨("put", none), "put", "put", defArgs st_put, defBody st_put, defScope st_put, [], []⟩),
  ("unwrapped", ⟨("unwrapped", none), "unwrapped", "unwrapped", defArgs st_unwrapped, defBody st_unwrapped, defScope st_unwrapped, [], []⟩),
  ("called_inside", ⟨("called_inside", none), "called_inside", "called_inside", defArgs st_called_inside, defBody st_called_inside, defScope st_called_inside, [], []⟩),
  ("made_all", ⟨("made_all", none), "made_all", "made_all", defArgs st_made_all, defBody st_made_all, defScope st_made_all, [], []⟩),
  ("computed", ⟨("computed", none), "computed", "computed", defArgs st_computed, defBody st_computed, defScope st_computed, [], []⟩),
  ("in_range", ⟨("in_range", none), "in_range", "in_range", defArgs st_in_range, defBody st_in_range, defScope st_in_range, [], []⟩),
  ("run_plain", ⟨("run_plain", none), "run_plain", "run_plain", defArgs st_run_plain, defBody st_run_plain, defScope st_run_plain, [], []⟩),
  ("elaborate", ⟨("elaborate", none), "elaborate", "elaborate", defArgs st_elaborate, defBody st_elaborate, defScope st_elaborate, [], []⟩),
  ("fit", ⟨("fit", none), "fit", "fit", defArgs st_fit, defBody st_fit, defScope st_fit, [], []⟩),
  ("opened", ⟨("opened", none), "opened", "opened", defArgs st_opened, defBody st_opened, defScope st_opened, [], []⟩),
  ("constant_rule", ⟨("constant_rule", none), "constant_rule", "constant_rule", defArgs st_constant_rule, defBody st_constant_rule, defScope st_constant_rule, [], []⟩),
  ("call_rule", ⟨("call_rule", none), "call_rule", "call_rule", defArgs st_call_rule, defBody st_call_rule, defScope st_call_rule, [], []⟩),
  ("if_rule", ⟨("if_rule", none), "if_rule", "if_rule", defArgs st_if_rule, defBody st_if_rule, defScope st_if_rule, [], []⟩),
  ("pair_rule", ⟨("pair_rule", none), "pair_rule", "pair_rule", defArgs st_pair_rule, defBody st_pair_rule, defScope st_pair_rule, [], []⟩)]
noncomputable def tp_defs_1 : List (Str × He.DefD) := [("half_rule", ⟨("half_rule", none), "half_rule", "half_rule", defArgs st_half_rule, defBody st_half_rule, defScope st_half_rule, [], []⟩),
  ("box_rule", ⟨("box_rule", none), "box_rule", "box_rule", defArgs st_box_rule, defBody st_box_rule, defScope st_box_rule, [], []⟩),
  ("get_rule", ⟨("get_rule", none), "get_rule", "get_rule", defArgs st_get_rule, defBody st_get_rule, defScope st_get_rule, [], []⟩),
  ("put_rule", ⟨("put_rule", none), "put_rule", "put_rule", defArgs st_put_rule, defBody st_put_rule, defScope st_put_rule, [], []⟩),
  ("op_rule", ⟨("op_rule", none), "op_rule", "op_rule", defArgs st_op_rule, defBody st_op_rule, defScope st_op_rule, [], []⟩),
  ("not_rule", ⟨("not_rule", none), "not_rule", "not_rule", defArgs st_not_rule, defBody st_not_rule, defScope st_not_rule, [], []⟩),
  ("print_rule", ⟨("print_rule", none), "print_rule", "print_rule", defArgs st_print_rule, defBody st_print_rule, defScope st_print_rule, [], []⟩),
  ("as_rule", ⟨("as_rule", none), "as_rule", "as_rule", defArgs st_as_rule, defBody st_as_rule, defScope st_as_rule, [], []⟩),
  ("_law_state", ⟨("_law_state", none), "_law_state", "_law_state", defArgs st__law_state, defBody st__law_state, defScope st__law_state, [], []⟩),
  ("_law_take", ⟨("_law_take", none), "_law_take", "_law_take", defArgs st__law_take, defBody st__law_take, defScope st__law_take, [], []⟩),
  ("_law_chain", ⟨("_law_chain", none), "_law_chain", "_law_chain", defArgs st__law_chain, defBody st__law_chain, defScope st__law_chain, [], []⟩),
  ("_law_type", ⟨("_law_type", none), "_law_type", "_law_type", defArgs st__law_type, defBody st__law_type, defScope st__law_type, [], []⟩),
  ("_law_wrap", ⟨("_law_wrap", none), "_law_wrap", "_law_wrap", defArgs st__law_wrap, defBody st__law_wrap, defScope st__law_wrap, [], []⟩),
  ("_law_blame", ⟨("_law_blame", none), "_law_blame", "_law_blame", defArgs st__law_blame, defBody st__law_blame, defScope st__law_blame, [], []⟩),
  ("_law_simple", ⟨("_law_simple", none), "_law_simple", "_law_simple", defArgs st__law_simple, defBody st__law_simple, defScope st__law_simple, [], []⟩),
  ("_law_called", ⟨("_law_called", none), "_law_called", "_law_called", defArgs st__law_called, defBody st__law_called, defScope st__law_called, [], []⟩),
  ("_law_boxed", ⟨("_law_boxed", none), "_law_boxed", "_law_boxed", defArgs st__law_boxed, defBody st__law_boxed, defScope st__law_boxed, [], []⟩),
  ("_law_refused", ⟨("_law_refused", none), "_law_refused", "_law_refused", defArgs st__law_refused, defBody st__law_refused, defScope st__law_refused, [], []⟩),
  ("law", ⟨("law", none), "law", "law", defArgs st_law, defBody st_law, defScope st_law, [], []⟩),
  ("Box.__init__", ⟨("Box", some "__init__"), "__init__", "Box.__init__", defArgs st_Box__init_, defBody st_Box__init_, defScope st_Box__init_, [], []⟩),
  ("Casts.of_cast", ⟨("Casts", some "of_cast"), "of_cast", "Casts.of_cast", defArgs st_Casts_of_cast, defBody st_Casts_of_cast, defScope st_Casts_of_cast, [], []⟩),
  ("Casts.added", ⟨("Casts", some "added"), "added", "Casts.added", defArgs st_Casts_added, defBody st_Casts_added, defScope st_Casts_added, [], []⟩),
  ("Casts.settled", ⟨("Casts", some "settled"), "settled", "Casts.settled", defArgs st_Casts_settled, defBody st_Casts_settled, defScope st_Casts_settled, [], []⟩),
  ("Casts.made", ⟨("Casts", some "made"), "made", "Casts.made", defArgs st_Casts_made, defBody st_Casts_made, defScope st_Casts_made, [], []⟩),
  ("Casts.halves", ⟨("Casts", some "halves"), "halves", "Casts.halves", defArgs st_Casts_halves, defBody st_Casts_halves, defScope st_Casts_halves, [], []⟩)]
noncomputable def tp_defs_2 : List (Str × He.DefD) := [("Elaborator.__init__", ⟨("Elaborator", some "__init__"), "__init__", "Elaborator.__init__", defArgs st_Elaborator__init_, defBody st_Elaborator__init_, defScope st_Elaborator__init_, [], []⟩),
  ("Elaborator.elaborated", ⟨("Elaborator", some "elaborated"), "elaborated", "Elaborator.elaborated", defArgs st_Elaborator_elaborated, defBody st_Elaborator_elaborated, defScope st_Elaborator_elaborated, [], []⟩),
  ("Elaborator.core_and_type", ⟨("Elaborator", some "core_and_type"), "core_and_type", "Elaborator.core_and_type", defArgs st_Elaborator_core_and_type, defBody st_Elaborator_core_and_type, defScope st_Elaborator_core_and_type, [], []⟩),
  ("Evaluation^Run.__init__", ⟨("Run", some "__init__"), "__init__", "Run.__init__", defArgs st_Evaluation_of_Run__init_, defBody st_Evaluation_of_Run__init_, defScope st_Evaluation_of_Run__init_, [], []⟩),
  ("Evaluation.last_value", ⟨("Evaluation", some "last_value"), "last_value", "Evaluation.last_value", defArgs st_Evaluation_last_value, defBody st_Evaluation_last_value, defScope st_Evaluation_last_value, [], []⟩),
  ("Evaluation.begin", ⟨("Evaluation", some "begin"), "begin", "Evaluation.begin", defArgs st_Evaluation_begin, defBody st_Evaluation_begin, defScope st_Evaluation_begin, [], []⟩),
  ("Evaluation.step", ⟨("Evaluation", some "step"), "step", "Evaluation.step", defArgs st_Evaluation_step, defBody st_Evaluation_step, defScope st_Evaluation_step, [], []⟩),
  ("Evaluation.go_on", ⟨("Evaluation", some "go_on"), "go_on", "Evaluation.go_on", defArgs st_Evaluation_go_on, defBody st_Evaluation_go_on, defScope st_Evaluation_go_on, [], []⟩),
  ("Evaluation.call", ⟨("Evaluation", some "call"), "call", "Evaluation.call", defArgs st_Evaluation_call, defBody st_Evaluation_call, defScope st_Evaluation_call, [], []⟩),
  ("Evaluation.give", ⟨("Evaluation", some "give"), "give", "Evaluation.give", defArgs st_Evaluation_give, defBody st_Evaluation_give, defScope st_Evaluation_give, [], []⟩),
  ("Evaluation.value_of", ⟨("Evaluation", some "value_of"), "value_of", "Evaluation.value_of", defArgs st_Evaluation_value_of, defBody st_Evaluation_value_of, defScope st_Evaluation_value_of, [], []⟩),
  ("Evaluation.enter", ⟨("Evaluation", some "enter"), "enter", "Run.enter", defArgs st_Evaluation_enter, defBody st_Evaluation_enter, defScope st_Evaluation_enter, [], []⟩),
  ("Evaluation.outcome", ⟨("Evaluation", some "outcome"), "outcome", "Run.outcome", defArgs st_Evaluation_outcome, defBody st_Evaluation_outcome, defScope st_Evaluation_outcome, [], []⟩),
  ("Frame.__init__", ⟨("Frame", some "__init__"), "__init__", "Frame.__init__", defArgs st_Frame__init_, defBody st_Frame__init_, defScope st_Frame__init_, [], []⟩),
  ("Function.__init__", ⟨("Function", some "__init__"), "__init__", "Function.__init__", defArgs st_Function__init_, defBody st_Function__init_, defScope st_Function__init_, [], []⟩),
  ("Function.scope_with", ⟨("Function", some "scope_with"), "scope_with", "Function.scope_with", defArgs st_Function_scope_with, defBody st_Function_scope_with, defScope st_Function_scope_with, [], []⟩),
  ("Injected.__init__", ⟨("Injected", some "__init__"), "__init__", "Injected.__init__", defArgs st_Injected__init_, defBody st_Injected__init_, defScope st_Injected__init_, [], []⟩),
  ("Part.__init__", ⟨("Part", some "__init__"), "__init__", "Part.__init__", defArgs st_Part__init_, defBody st_Part__init_, defScope st_Part__init_, [], []⟩),
  ("Wrapped.__init__", ⟨("Wrapped", some "__init__"), "__init__", "Wrapped.__init__", defArgs st_Wrapped__init_, defBody st_Wrapped__init_, defScope st_Wrapped__init_, [], []⟩),
  ("Mismatched.__init__", ⟨("Mismatched", some "__init__"), "__init__", "Mismatched.__init__", defArgs st_Mismatched__init_, defBody st_Mismatched__init_, defScope st_Mismatched__init_, [], []⟩),
  ("Stopped.__init__", ⟨("Stopped", some "__init__"), "__init__", "Stopped.__init__", defArgs st_Stopped__init_, defBody st_Stopped__init_, defScope st_Stopped__init_, [], []⟩),
  ("Unknown.__init__", ⟨("Unknown", some "__init__"), "__init__", "Unknown.__init__", defArgs st_Unknown__init_, defBody st_Unknown__init_, defScope st_Unknown__init_, [], []⟩)]
noncomputable def tp_sups_0 : List (Str × He.DefD × Str) := [("Evaluation.__init__", ⟨("Evaluation", some "__init__"), "__init__", "Evaluation.__init__", defArgs st_Evaluation__init_, defBody st_Evaluation__init_, defScope st_Evaluation__init_, [], []⟩, "Evaluation")]
noncomputable def tp_ncl_0 : List Str := ["Casts"]
noncomputable def tp_sus_0 : List (Str × Str × Str × Str) := [("Evaluation", "Evaluation", "__init__", "Evaluation^Run.__init__")]
noncomputable def tp_trs_0 : List (Str × Str) := [("Stopped", "end")]
noncomputable def tp_tre_0 : List (Str × Str) := [("Refused", "Mismatched"),
  ("Refused", "Stopped"),
  ("Refused", "Unknown")]
noncomputable def tp_kws_0 : List (Str × Nat × List Str) := []
noncomputable def tp_ftb_0 : List (Str × List (Str × Str)) := [("RULES", [("num", "constant_rule"), ("flag", "constant_rule"), ("unit", "constant_rule"), ("call", "call_rule"), ("if", "if_rule"), ("pair", "pair_rule"), ("fst", "half_rule"), ("snd", "half_rule"), ("box", "box_rule"), ("get", "get_rule"), ("put", "put_rule"), ("op", "op_rule"), ("not", "not_rule"), ("print", "print_rule"), ("as", "as_rule")])]
noncomputable def tp_iso_0 : List (List Str × List Str) := [(["Box"], ["Box", "Elaborator", "Evaluation", "Frame", "Function", "Injected", "Part", "Wrapped"]),
  (["Injected", "Wrapped"], ["Box", "Elaborator", "Evaluation", "Frame", "Function", "Injected", "Part", "Wrapped"]),
  (["Wrapped"], ["Box", "Elaborator", "Evaluation", "Frame", "Function", "Injected", "Part", "Wrapped"])]
noncomputable def tp : Top := { file := "/claim/cut.py", fns := tp_fns_0 ++ (tp_fns_1), clss := tp_clss_0, mets := tp_mets_0, inis := tp_inis_0, flds := tp_flds_0, xcs := tp_xcs_0, bins := tp_bins_0, glos := tp_glos_0, gdis := tp_gdis_0, defs := tp_defs_0 ++ (tp_defs_1 ++ (tp_defs_2)), sups := tp_sups_0, ncl := tp_ncl_0, sus := tp_sus_0, trs := tp_trs_0, tre := tp_tre_0, kws := tp_kws_0, ftb := tp_ftb_0, iso := tp_iso_0 }
end Pr
end
section
set_option maxHeartbeats 4000000
namespace Pr
open PySem PySem.Spec PyProof.Rows L2 Oz
noncomputable def tb_0 : List (Str × (Df ⊕ (Cal → List U → Sto → R U))) := [("consistent", .inl ⟨2, 2, false, T_consistent⟩),
  ("meeting", .inl ⟨2, 5, false, T_meeting⟩),
  ("ground", .inl ⟨1, 1, false, T_ground⟩),
  ("ground_type", .inl ⟨1, 1, false, T_ground_type⟩),
  ("parts", .inl ⟨1, 2, false, T_parts⟩),
  ("bare", .inl ⟨1, 1, false, T_bare⟩),
  ("ground_of", .inl ⟨1, 2, false, T_ground_of⟩),
  ("shape", .inl ⟨1, 2, false, T_shape⟩),
  ("operated", .inl ⟨3, 3, false, T_operated⟩),
  ("half", .inl ⟨3, 5, false, T_half⟩),
  ("got", .inl ⟨2, 4, false, T_got⟩),
  ("put", .inl ⟨3, 5, false, T_put⟩),
  ("unwrapped", .inl ⟨3, 4, false, T_unwrapped⟩),
  ("called_inside", .inl ⟨4, 6, false, T_called_inside⟩),
  ("made_all", .inl ⟨3, 4, false, T_made_all⟩),
  ("computed", .inl ⟨3, 3, false, T_computed⟩),
  ("in_range", .inl ⟨1, 1, false, T_in_range⟩),
  ("run_plain", .inl ⟨2, 2, false, T_run_plain⟩),
  ("elaborate", .inl ⟨1, 2, false, T_elaborate⟩),
  ("fit", .inl ⟨2, 2, false, T_fit⟩),
  ("opened", .inl ⟨2, 3, false, T_opened⟩),
  ("constant_rule", .inl ⟨1, 1, false, T_constant_rule⟩),
  ("call_rule", .inl ⟨3, 6, false, T_call_rule⟩),
  ("if_rule", .inl ⟨4, 6, false, T_if_rule⟩),
  ("pair_rule", .inl ⟨3, 3, false, T_pair_rule⟩)]
noncomputable def tb_1 : List (Str × (Df ⊕ (Cal → List U → Sto → R U))) := [("half_rule", .inl ⟨2, 6, false, T_half_rule⟩),
  ("box_rule", .inl ⟨2, 2, false, T_box_rule⟩),
  ("get_rule", .inl ⟨2, 4, false, T_get_rule⟩),
  ("put_rule", .inl ⟨3, 5, false, T_put_rule⟩),
  ("op_rule", .inl ⟨3, 5, false, T_op_rule⟩),
  ("not_rule", .inl ⟨2, 2, false, T_not_rule⟩),
  ("print_rule", .inl ⟨3, 3, false, T_print_rule⟩),
  ("as_rule", .inl ⟨2, 2, false, T_as_rule⟩),
  ("_law_state", .inl ⟨1, 3, false, T__law_state⟩),
  ("_law_take", .inl ⟨2, 6, false, T__law_take⟩),
  ("_law_chain", .inl ⟨3, 6, false, T__law_chain⟩),
  ("_law_type", .inl ⟨1, 1, false, T__law_type⟩),
  ("_law_wrap", .inl ⟨2, 3, false, T__law_wrap⟩),
  ("_law_blame", .inl ⟨3, 4, false, T__law_blame⟩),
  ("_law_simple", .inl ⟨2, 6, false, T__law_simple⟩),
  ("_law_called", .inl ⟨2, 9, false, T__law_called⟩),
  ("_law_boxed", .inl ⟨2, 8, false, T__law_boxed⟩),
  ("_law_refused", .inl ⟨1, 1, false, T__law_refused⟩),
  ("law", .inl ⟨1, 7, false, T_law⟩),
  ("Box.__init__", .inl ⟨2, 2, false, T_Box__init_⟩),
  ("Casts.of_cast", .inl ⟨4, 4, false, T_Casts_of_cast⟩),
  ("Casts.added", .inl ⟨3, 3, false, T_Casts_added⟩),
  ("Casts.settled", .inl ⟨3, 4, false, T_Casts_settled⟩),
  ("Casts.made", .inl ⟨3, 8, false, T_Casts_made⟩),
  ("Casts.halves", .inl ⟨2, 7, false, T_Casts_halves⟩)]
noncomputable def tb_2 : List (Str × (Df ⊕ (Cal → List U → Sto → R U))) := [("Elaborator.__init__", .inl ⟨1, 1, false, T_Elaborator__init_⟩),
  ("Elaborator.elaborated", .inl ⟨3, 6, false, T_Elaborator_elaborated⟩),
  ("Elaborator.core_and_type", .inl ⟨3, 14, false, T_Elaborator_core_and_type⟩),
  ("Evaluation.__init__", .inl ⟨4, 5, false, T_Evaluation__init_⟩),
  ("Evaluation^Run.__init__", .inl ⟨3, 3, false, T_Evaluation_of_Run__init_⟩),
  ("Evaluation.last_value", .inl ⟨1, 1, false, T_Evaluation_last_value⟩),
  ("Evaluation.begin", .inl ⟨4, 4, false, T_Evaluation_begin⟩),
  ("Evaluation.step", .inl ⟨1, 2, false, T_Evaluation_step⟩),
  ("Evaluation.go_on", .inl ⟨2, 11, false, T_Evaluation_go_on⟩),
  ("Evaluation.call", .inl ⟨4, 5, false, T_Evaluation_call⟩),
  ("Evaluation.give", .inl ⟨2, 2, false, T_Evaluation_give⟩),
  ("Evaluation.value_of", .inl ⟨2, 7, false, T_Evaluation_value_of⟩),
  ("Evaluation.enter", .inl ⟨1, 1, false, T_Evaluation_enter⟩),
  ("Evaluation.outcome", .inl ⟨1, 3, false, T_Evaluation_outcome⟩),
  ("Frame.__init__", .inl ⟨4, 4, false, T_Frame__init_⟩),
  ("Function.__init__", .inl ⟨5, 5, false, T_Function__init_⟩),
  ("Function.scope_with", .inl ⟨2, 3, false, T_Function_scope_with⟩),
  ("Injected.__init__", .inl ⟨3, 3, false, T_Injected__init_⟩),
  ("Part.__init__", .inl ⟨4, 4, false, T_Part__init_⟩),
  ("Wrapped.__init__", .inl ⟨3, 3, false, T_Wrapped__init_⟩)]
noncomputable def ktb_0 : List (Str × Df) := []
noncomputable def tbl : List (Str × (Df ⊕ (Cal → List U → Sto → R U))) := tb_0 ++ (tb_1 ++ (tb_2))
noncomputable def ktbl : List (Str × Df) := ktb_0
noncomputable def pg : Pg := ⟨fun f => tbl.lookup f, fun f => ktbl.lookup f, fun x => tp.glos.lookup x, fun c => tp.xcs.lookup c, fun x => tp.gdis.lookup x⟩
noncomputable def nm : Names := tp.nm
theorem sc_consistent : FnScope ["one", "other"] ["one", "other"] (defScope st_consistent) := ⟨rfl, rfl, rfl, by decide +kernel, rfl, by decide +kernel, by decide +kernel⟩
theorem d_consistent {P : Program} {w : World} {K : PySem.W.Frag} {mg : Str → Option Value} {base : Heap} {ad : Str → Addr} {d : Nat} {f : Addr} (X : Cx) (cdv : Value) (A : Around) (outer : List PySem.Env) (s : Shared) (H : Hp) (E : XK) (hX : X = cxOf (L2.CX P w) P w K mg base ["one", "other"] "consistent" (defScope st_consistent) f cdv A outer s H E) (O : Ok X pg nm ad d E) : PSs X (defBody st_consistent) (tB X (pg.cal d) E T_consistent) := by
  subst hX
  have nd := sc_consistent.nd
  exact (b_cons (x_ret (s_cmp O .isNotN (s_call O (s_cons (s_v 0) (s_cons (s_v 1) s_nil))) s_non)) b_nil)
theorem sc_meeting : FnScope ["one", "other", "met", "first", "second"] ["one", "other"] (defScope st_meeting) := ⟨rfl, rfl, rfl, by decide +kernel, rfl, by decide +kernel, by decide +kernel⟩
theorem d_meeting {P : Program} {w : World} {K : PySem.W.Frag} {mg : Str → Option Value} {base : Heap} {ad : Str → Addr} {d : Nat} {f : Addr} (X : Cx) (cdv : Value) (A : Around) (outer : List PySem.Env) (s : Shared) (H : Hp) (E : XK) (hX : X = cxOf (L2.CX P w) P w K mg base ["one", "other", "met", "first", "second"] "meeting" (defScope st_meeting) f cdv A outer s H E) (O : Ok X pg nm ad d E) : PSs X (defBody st_meeting) (tB X (pg.cal d) E T_meeting) := by
  subst hX
  have nd := sc_meeting.nd
  exact (b_cons (x_if (PW.pt (w_or (s_tcmp O .eq (s_v 0) (s_g O)) (w_or1 (s_tcmp O .eq (s_v 0) (s_v 1))))) (b_cons (x_ret (s_v 1)) b_nil) b_nil) (b_cons (x_if (s_tcmp O .eq (s_v 1) (s_g O)) (b_cons (x_ret (s_v 0)) b_nil) b_nil) (b_cons (x_if (s_tcmp O .ne (s_ix (s_v 0) s_int) (s_ix (s_v 1) s_int)) (b_cons (x_ret s_non) b_nil) b_nil) (b_cons (x_setLcz O 2 [(("first" : Str), 3), (("second" : Str), 4)] nd (s_cons (s_sl (s_v 0) (s_so s_int) s_no) (s_cons (s_sl (s_v 1) (s_so s_int) s_no) s_nil)) (blkOk_by (N := ["one", "other", "met", "first", "second"]) (sc := defScope st_meeting) (by decide +kernel)) (fun _ _ _ _ _ => (g_tup rfl (gs_cons 3 nd (gs_cons 4 nd gs_nil)))) (fun _ _ _ _ _ => t_tt) (fun _ _ _ _ _ => (s_call (O.blk) (s_cons (s_v 3) (s_cons (s_v 4) s_nil)))) (sw_true rfl rfl rfl (by decide +kernel))) (b_cons (x_if (s_tcmp O .in_ s_non (s_v 2)) (b_cons (x_ret s_non) b_nil) b_nil) (b_cons (x_ret (s_tup (s_cons (s_ix (s_v 0) s_int) (s_star (s_v 2) s_nil)))) b_nil))))))
theorem sc_ground : FnScope ["a_type"] ["a_type"] (defScope st_ground) := ⟨rfl, rfl, rfl, by decide +kernel, rfl, by decide +kernel, by decide +kernel⟩
theorem d_ground {P : Program} {w : World} {K : PySem.W.Frag} {mg : Str → Option Value} {base : Heap} {ad : Str → Addr} {d : Nat} {f : Addr} (X : Cx) (cdv : Value) (A : Around) (outer : List PySem.Env) (s : Shared) (H : Hp) (E : XK) (hX : X = cxOf (L2.CX P w) P w K mg base ["a_type"] "ground" (defScope st_ground) f cdv A outer s H E) (O : Ok X pg nm ad d E) : PSs X (defBody st_ground) (tB X (pg.cal d) E T_ground) := by
  subst hX
  have nd := sc_ground.nd
  exact (b_cons (x_ret (s_ix (s_v 0) s_int)) b_nil)
theorem sc_ground_type : FnScope ["name"] ["name"] (defScope st_ground_type) := ⟨rfl, rfl, rfl, by decide +kernel, rfl, by decide +kernel, by decide +kernel⟩
theorem d_ground_type {P : Program} {w : World} {K : PySem.W.Frag} {mg : Str → Option Value} {base : Heap} {ad : Str → Addr} {d : Nat} {f : Addr} (X : Cx) (cdv : Value) (A : Around) (outer : List PySem.Env) (s : Shared) (H : Hp) (E : XK) (hX : X = cxOf (L2.CX P w) P w K mg base ["name"] "ground_type" (defScope st_ground_type) f cdv A outer s H E) (O : Ok X pg nm ad d E) : PSs X (defBody st_ground_type) (tB X (pg.cal d) E T_ground_type) := by
  subst hX
  have nd := sc_ground_type.nd
  exact (b_cons (x_ret (s_gd O (s_v 0))) b_nil)
theorem sc_parts : FnScope ["expression", "at"] ["expression"] (defScope st_parts) := ⟨rfl, rfl, rfl, by decide +kernel, rfl, by decide +kernel, by decide +kernel⟩
theorem d_parts {P : Program} {w : World} {K : PySem.W.Frag} {mg : Str → Option Value} {base : Heap} {ad : Str → Addr} {d : Nat} {f : Addr} (X : Cx) (cdv : Value) (A : Around) (outer : List PySem.Env) (s : Shared) (H : Hp) (E : XK) (hX : X = cxOf (L2.CX P w) P w K mg base ["expression", "at"] "parts" (defScope st_parts) f cdv A outer s H E) (O : Ok X pg nm ad d E) : PSs X (defBody st_parts) (tB X (pg.cal d) E T_parts) := by
  subst hX
  have nd := sc_parts.nd
  exact (b_cons (x_ret (s_lc O false [(("at" : Str), 1)] nd (s_gd O (s_ix (s_v 0) s_int)) (blkOk_by (N := ["expression", "at"]) (sc := defScope st_parts) (by decide +kernel)) (fun _ _ _ _ _ => g_name 1 nd) (fun _ _ _ _ _ => t_tt) (fun _ _ _ _ _ => (s_ix (s_v 0) (s_v 1))))) b_nil)
theorem sc_bare : FnScope ["value"] ["value"] (defScope st_bare) := ⟨rfl, rfl, rfl, by decide +kernel, rfl, by decide +kernel, by decide +kernel⟩
theorem d_bare {P : Program} {w : World} {K : PySem.W.Frag} {mg : Str → Option Value} {base : Heap} {ad : Str → Addr} {d : Nat} {f : Addr} (X : Cx) (cdv : Value) (A : Around) (outer : List PySem.Env) (s : Shared) (H : Hp) (E : XK) (hX : X = cxOf (L2.CX P w) P w K mg base ["value"] "bare" (defScope st_bare) f cdv A outer s H E) (O : Ok X pg nm ad d E) : PSs X (defBody st_bare) (tB X (pg.cal d) E T_bare) := by
  subst hX
  have nd := sc_bare.nd
  exact (b_cons (x_while O (s_tt (s_iso2 O (s_v 0))) (b_cons (x_set 0 nd (s_fldx O ["Injected", "Wrapped"] (s_v 0))) b_nil)) (b_cons (x_ret (s_v 0)) b_nil))
theorem sc_ground_of : FnScope ["value", "inner"] ["value"] (defScope st_ground_of) := ⟨rfl, rfl, rfl, by decide +kernel, rfl, by decide +kernel, by decide +kernel⟩
theorem d_ground_of {P : Program} {w : World} {K : PySem.W.Frag} {mg : Str → Option Value} {base : Heap} {ad : Str → Addr} {d : Nat} {f : Addr} (X : Cx) (cdv : Value) (A : Around) (outer : List PySem.Env) (s : Shared) (H : Hp) (E : XK) (hX : X = cxOf (L2.CX P w) P w K mg base ["value", "inner"] "ground_of" (defScope st_ground_of) f cdv A outer s H E) (O : Ok X pg nm ad d E) : PSs X (defBody st_ground_of) (tB X (pg.cal d) E T_ground_of) := by
  subst hX
  have nd := sc_ground_of.nd
  exact (b_cons (x_set 1 nd (s_call O (s_cons (s_v 0) s_nil))) (b_cons (x_if (s_tcmp O .isN (s_v 1) s_non) (b_cons (x_ret s_str) b_nil) b_nil) (b_cons (x_if (s_tt (s_isi O (s_v 1) (by decide +kernel))) (b_cons (x_ret s_str) b_nil) b_nil) (b_cons (x_if (s_tt (s_isi O (s_v 1) (by decide +kernel))) (b_cons (x_ret s_str) b_nil) b_nil) (b_cons (x_if (s_tt (s_isi O (s_v 1) (by decide +kernel))) (b_cons (x_ret s_str) b_nil) b_nil) (b_cons (x_ret (s_ife (s_tt (s_iso1 O (s_v 1))) s_str s_str)) b_nil))))))
theorem sc_shape : FnScope ["value", "name"] ["value"] (defScope st_shape) := ⟨rfl, rfl, rfl, by decide +kernel, rfl, by decide +kernel, by decide +kernel⟩
theorem d_shape {P : Program} {w : World} {K : PySem.W.Frag} {mg : Str → Option Value} {base : Heap} {ad : Str → Addr} {d : Nat} {f : Addr} (X : Cx) (cdv : Value) (A : Around) (outer : List PySem.Env) (s : Shared) (H : Hp) (E : XK) (hX : X = cxOf (L2.CX P w) P w K mg base ["value", "name"] "shape" (defScope st_shape) f cdv A outer s H E) (O : Ok X pg nm ad d E) : PSs X (defBody st_shape) (tB X (pg.cal d) E T_shape) := by
  subst hX
  have nd := sc_shape.nd
  exact (b_cons (x_set 1 nd (s_call O (s_cons (s_v 0) s_nil))) (b_cons (x_if (s_tcmp O .in_ (s_v 1) (s_tup (s_cons s_str (s_cons s_str s_nil)))) (b_cons (x_ret (s_tup (s_cons (s_v 1) (s_cons (s_call O (s_cons (s_v 0) s_nil)) s_nil)))) b_nil) b_nil) (b_cons (x_ret (s_tup (s_cons (s_v 1) s_nil))) b_nil)))
theorem sc_operated : FnScope ["casting", "form", "values"] ["casting", "form", "values"] (defScope st_operated) := ⟨rfl, rfl, rfl, by decide +kernel, rfl, by decide +kernel, by decide +kernel⟩
theorem d_operated {P : Program} {w : World} {K : PySem.W.Frag} {mg : Str → Option Value} {base : Heap} {ad : Str → Addr} {d : Nat} {f : Addr} (X : Cx) (cdv : Value) (A : Around) (outer : List PySem.Env) (s : Shared) (H : Hp) (E : XK) (hX : X = cxOf (L2.CX P w) P w K mg base ["casting", "form", "values"] "operated" (defScope st_operated) f cdv A outer s H E) (O : Ok X pg nm ad d E) : PSs X (defBody st_operated) (tB X (pg.cal d) E T_operated) := by
  subst hX
  have nd := sc_operated.nd
  exact (b_cons (x_match (s_ix (s_v 1) s_int) (c_cons O.calm nd PtOk.val (b_cons (x_ret (s_tup (s_cons (s_ix (s_v 2) s_int) (s_cons (s_ix (s_v 2) s_int) s_nil)))) b_nil) (c_cons O.calm nd PtOk.val (b_cons (x_ret (s_call O (s_cons (s_v 0) (s_cons (s_ix (s_v 2) s_int) (s_cons s_int s_nil))))) b_nil) (c_cons O.calm nd PtOk.val (b_cons (x_ret (s_call O (s_cons (s_v 0) (s_cons (s_ix (s_v 2) s_int) (s_cons s_int s_nil))))) b_nil) (c_cons O.calm nd PtOk.val (b_cons (x_ret (s_mk O (s_cons (s_ix (s_v 2) s_int) s_nil))) b_nil) (c_cons O.calm nd PtOk.val (b_cons (x_ret (s_call O (s_cons (s_v 0) (s_cons (s_ix (s_v 2) s_int) s_nil)))) b_nil) (c_cons O.calm nd PtOk.val (b_cons (x_ret (s_call O (s_cons (s_v 0) (s_cons (s_ix (s_v 2) s_int) (s_cons (s_ix (s_v 2) s_int) s_nil))))) b_nil) (c_cons O.calm nd PtOk.val (b_cons (x_ret (s_call O (s_cons (s_ix (s_v 1) s_int) (s_cons (s_ix (s_v 2) s_int) (s_cons (s_ix (s_v 2) s_int) s_nil))))) b_nil) (c_cons O.calm nd PtOk.val (b_cons (x_ret (s_not (s_ix (s_v 2) s_int))) b_nil) c_nil))))))))) b_nil)
theorem sc_half : FnScope ["casting", "pair", "at", "inner", "done"] ["casting", "pair", "at"] (defScope st_half) := ⟨rfl, rfl, rfl, by decide +kernel, rfl, by decide +kernel, by decide +kernel⟩
theorem d_half {P : Program} {w : World} {K : PySem.W.Frag} {mg : Str → Option Value} {base : Heap} {ad : Str → Addr} {d : Nat} {f : Addr} (X : Cx) (cdv : Value) (A : Around) (outer : List PySem.Env) (s : Shared) (H : Hp) (E : XK) (hX : X = cxOf (L2.CX P w) P w K mg base ["casting", "pair", "at", "inner", "done"] "half" (defScope st_half) f cdv A outer s H E) (O : Ok X pg nm ad d E) : PSs X (defBody st_half) (tB X (pg.cal d) E T_half) := by
  subst hX
  have nd := sc_half.nd
  exact (b_cons (x_tup rfl (s_call O (s_cons (s_v 0) (s_cons (s_v 1) (s_cons (s_v 2) s_nil)))) (gs_cons 3 nd (gs_cons 4 nd gs_nil))) (b_cons (x_ret (s_call O (s_cons (s_v 0) (s_cons (s_v 4) (s_cons (s_ix (s_v 3) (s_v 2)) s_nil))))) b_nil))
theorem sc_got : FnScope ["casting", "box", "inner", "done"] ["casting", "box"] (defScope st_got) := ⟨rfl, rfl, rfl, by decide +kernel, rfl, by decide +kernel, by decide +kernel⟩
theorem d_got {P : Program} {w : World} {K : PySem.W.Frag} {mg : Str → Option Value} {base : Heap} {ad : Str → Addr} {d : Nat} {f : Addr} (X : Cx) (cdv : Value) (A : Around) (outer : List PySem.Env) (s : Shared) (H : Hp) (E : XK) (hX : X = cxOf (L2.CX P w) P w K mg base ["casting", "box", "inner", "done"] "got" (defScope st_got) f cdv A outer s H E) (O : Ok X pg nm ad d E) : PSs X (defBody st_got) (tB X (pg.cal d) E T_got) := by
  subst hX
  have nd := sc_got.nd
  exact (b_cons (x_tup rfl (s_call O (s_cons (s_v 0) (s_cons (s_v 1) (s_cons s_int s_nil)))) (gs_cons 2 nd (gs_cons 3 nd gs_nil))) (b_cons (x_ret (s_call O (s_cons (s_v 0) (s_cons (s_v 3) (s_cons (s_fld O "Box" (s_v 2)) s_nil))))) b_nil))
theorem sc_put : FnScope ["casting", "box", "stored", "inner", "done"] ["casting", "box", "stored"] (defScope st_put) := ⟨rfl, rfl, rfl, by decide +kernel, rfl, by decide +kernel, by decide +kernel⟩
theorem d_put {P : Program} {w : World} {K : PySem.W.Frag} {mg : Str → Option Value} {base : Heap} {ad : Str → Addr} {d : Nat} {f : Addr} (X : Cx) (cdv : Value) (A : Around) (outer : List PySem.Env) (s : Shared) (H : Hp) (E : XK) (hX : X = cxOf (L2.CX P w) P w K mg base ["casting", "box", "stored", "inner", "done"] "put" (defScope st_put) f cdv A outer s H E) (O : Ok X pg nm ad d E) : PSs X (defBody st_put) (tB X (pg.cal d) E T_put) := by
  subst hX
  have nd := sc_put.nd
  exact (b_cons (x_tup rfl (s_call O (s_cons (s_v 0) (s_cons (s_v 1) (s_cons s_int s_nil)))) (gs_cons 3 nd (gs_cons 4 nd gs_nil))) (b_cons (x_fset O "Box" (s_v 3) (s_call O (s_cons (s_v 0) (s_cons (s_revl (s_v 4)) (s_cons (s_v 2) s_nil))))) (b_cons (x_ret s_non) b_nil)))
theorem sc_unwrapped : FnScope ["casting", "value", "at", "found"] ["casting", "value", "at"] (defScope st_unwrapped) := ⟨rfl, rfl, rfl, by decide +kernel, rfl, by decide +kernel, by decide +kernel⟩
theorem d_unwrapped {P : Program} {w : World} {K : PySem.W.Frag} {mg : Str → Option Value} {base : Heap} {ad : Str → Addr} {d : Nat} {f : Addr} (X : Cx) (cdv : Value) (A : Around) (outer : List PySem.Env) (s : Shared) (H : Hp) (E : XK) (hX : X = cxOf (L2.CX P w) P w K mg base ["casting", "value", "at", "found"] "unwrapped" (defScope st_unwrapped) f cdv A outer s H E) (O : Ok X pg nm ad d E) : PSs X (defBody st_unwrapped) (tB X (pg.cal d) E T_unwrapped) := by
  subst hX
  have nd := sc_unwrapped.nd
  exact (b_cons (x_set 3 nd (s_lst s_nil)) (b_cons (x_while O (s_tt (s_iso1 O (s_v 1))) (b_cons (x_ex (s_bm .append rfl PySem.F.plainAttrs_list PySem.F.slot_list_append PySem.F.type_list_append bm_append (s_v 3) (s_cons (s_ix (s_meth O "Casts" (s_v 0) (s_cons (s_fld O "Wrapped" (s_v 1)) s_nil)) (s_v 2)) s_nil))) (b_cons (x_set 1 nd (s_fld O "Wrapped" (s_v 1))) b_nil))) (b_cons (x_ret (s_tup (s_cons (s_v 1) (s_cons (s_revl (s_v 3)) s_nil)))) b_nil)))
theorem sc_called_inside : FnScope ["casting", "function", "argument", "pending", "into", "out"] ["casting", "function", "argument", "pending"] (defScope st_called_inside) := ⟨rfl, rfl, rfl, by decide +kernel, rfl, by decide +kernel, by decide +kernel⟩
theorem d_called_inside {P : Program} {w : World} {K : PySem.W.Frag} {mg : Str → Option Value} {base : Heap} {ad : Str → Addr} {d : Nat} {f : Addr} (X : Cx) (cdv : Value) (A : Around) (outer : List PySem.Env) (s : Shared) (H : Hp) (E : XK) (hX : X = cxOf (L2.CX P w) P w K mg base ["casting", "function", "argument", "pending", "into", "out"] "called_inside" (defScope st_called_inside) f cdv A outer s H E) (O : Ok X pg nm ad d E) : PSs X (defBody st_called_inside) (tB X (pg.cal d) E T_called_inside) := by
  subst hX
  have nd := sc_called_inside.nd
  exact (b_cons (x_while O (s_tt (s_iso1 O (s_v 1))) (b_cons (x_tup rfl (s_meth O "Casts" (s_v 0) (s_cons (s_fld O "Wrapped" (s_v 1)) s_nil)) (gs_cons 4 nd (gs_cons 5 nd gs_nil))) (b_cons (x_set 2 nd (s_meth O "Casts" (s_v 0) (s_cons (s_v 4) (s_cons (s_v 2) s_nil)))) (b_cons (x_set 3 nd (s_meth O "Casts" (s_v 0) (s_cons (s_v 5) (s_cons (s_v 3) s_nil)))) (b_cons (x_set 1 nd (s_fld O "Wrapped" (s_v 1))) b_nil))))) (b_cons (x_ret (s_tup (s_cons (s_v 1) (s_cons (s_v 2) (s_cons (s_v 3) s_nil))))) b_nil))
theorem sc_made_all : FnScope ["casting", "done", "value", "by"] ["casting", "done", "value"] (defScope st_made_all) := ⟨rfl, rfl, rfl, by decide +kernel, rfl, by decide +kernel, by decide +kernel⟩
theorem d_made_all {P : Program} {w : World} {K : PySem.W.Frag} {mg : Str → Option Value} {base : Heap} {ad : Str → Addr} {d : Nat} {f : Addr} (X : Cx) (cdv : Value) (A : Around) (outer : List PySem.Env) (s : Shared) (H : Hp) (E : XK) (hX : X = cxOf (L2.CX P w) P w K mg base ["casting", "done", "value", "by"] "made_all" (defScope st_made_all) f cdv A outer s H E) (O : Ok X pg nm ad d E) : PSs X (defBody st_made_all) (tB X (pg.cal d) E T_made_all) := by
  subst hX
  have nd := sc_made_all.nd
  exact (b_cons (x_for O false [3] (s_v 1) (g_name 3 nd) (b_cons (x_set 2 nd (s_meth O "Casts" (s_v 0) (s_cons (s_v 3) (s_cons (s_v 2) s_nil)))) b_nil)) (b_cons (x_ret (s_v 2)) b_nil))
theorem sc_computed : FnScope ["sign", "left", "right"] ["sign", "left", "right"] (defScope st_computed) := ⟨rfl, rfl, rfl, by decide +kernel, rfl, by decide +kernel, by decide +kernel⟩
theorem d_computed {P : Program} {w : World} {K : PySem.W.Frag} {mg : Str → Option Value} {base : Heap} {ad : Str → Addr} {d : Nat} {f : Addr} (X : Cx) (cdv : Value) (A : Around) (outer : List PySem.Env) (s : Shared) (H : Hp) (E : XK) (hX : X = cxOf (L2.CX P w) P w K mg base ["sign", "left", "right"] "computed" (defScope st_computed) f cdv A outer s H E) (O : Ok X pg nm ad d E) : PSs X (defBody st_computed) (tB X (pg.cal d) E T_computed) := by
  subst hX
  have nd := sc_computed.nd
  exact (b_cons (x_match (s_v 0) (c_cons O.calm nd PtOk.val (b_cons (x_ret (s_cmp O .lt (s_v 1) (s_v 2))) b_nil) (c_cons O.calm nd PtOk.val (b_cons (x_ret (s_cmp O .eq (s_v 1) (s_v 2))) b_nil) (c_cons O.calm nd PtOk.val (b_cons (x_ret (s_call O (s_cons (s_bin .add (s_v 1) (s_v 2)) s_nil))) b_nil) (c_cons O.calm nd PtOk.val (b_cons (x_ret (s_call O (s_cons (s_bin .sub (s_v 1) (s_v 2)) s_nil))) b_nil) (c_cons O.calm nd PtOk.val (b_cons (x_ret (s_call O (s_cons (s_bin .mul (s_v 1) (s_v 2)) s_nil))) b_nil) c_nil)))))) b_nil)
theorem sc_in_range : FnScope ["number"] ["number"] (defScope st_in_range) := ⟨rfl, rfl, rfl, by decide +kernel, rfl, by decide +kernel, by decide +kernel⟩
theorem d_in_range {P : Program} {w : World} {K : PySem.W.Frag} {mg : Str → Option Value} {base : Heap} {ad : Str → Addr} {d : Nat} {f : Addr} (X : Cx) (cdv : Value) (A : Around) (outer : List PySem.Env) (s : Shared) (H : Hp) (E : XK) (hX : X = cxOf (L2.CX P w) P w K mg base ["number"] "in_range" (defScope st_in_range) f cdv A outer s H E) (O : Ok X pg nm ad d E) : PSs X (defBody st_in_range) (tB X (pg.cal d) E T_in_range) := by
  subst hX
  have nd := sc_in_range.nd
  exact (b_cons (x_ret (s_bin .sub (s_bin .mod (s_bin .add (s_v 0) (s_bin .pow s_int s_int)) (s_bin .pow s_int s_int)) (s_bin .pow s_int s_int))) b_nil)
theorem sc_run_plain : FnScope ["core", "calls"] ["core", "calls"] (defScope st_run_plain) := ⟨rfl, rfl, rfl, by decide +kernel, rfl, by decide +kernel, by decide +kernel⟩
theorem d_run_plain {P : Program} {w : World} {K : PySem.W.Frag} {mg : Str → Option Value} {base : Heap} {ad : Str → Addr} {d : Nat} {f : Addr} (X : Cx) (cdv : Value) (A : Around) (outer : List PySem.Env) (s : Shared) (H : Hp) (E : XK) (hX : X = cxOf (L2.CX P w) P w K mg base ["core", "calls"] "run_plain" (defScope st_run_plain) f cdv A outer s H E) (O : Ok X pg nm ad d E) : PSs X (defBody st_run_plain) (tB X (pg.cal d) E T_run_plain) := by
  subst hX
  have nd := sc_run_plain.nd
  exact (b_cons (x_ret (s_meth0 O "Evaluation" (s_mk O (s_cons (s_mkN O) (s_cons (s_v 0) (s_cons (s_v 1) s_nil)))))) b_nil)
theorem sc_elaborate : FnScope ["expression", "whole"] ["expression"] (defScope st_elaborate) := ⟨rfl, rfl, rfl, by decide +kernel, rfl, by decide +kernel, by decide +kernel⟩
theorem d_elaborate {P : Program} {w : World} {K : PySem.W.Frag} {mg : Str → Option Value} {base : Heap} {ad : Str → Addr} {d : Nat} {f : Addr} (X : Cx) (cdv : Value) (A : Around) (outer : List PySem.Env) (s : Shared) (H : Hp) (E : XK) (hX : X = cxOf (L2.CX P w) P w K mg base ["expression", "whole"] "elaborate" (defScope st_elaborate) f cdv A outer s H E) (O : Ok X pg nm ad d E) : PSs X (defBody st_elaborate) (tB X (pg.cal d) E T_elaborate) := by
  subst hX
  have nd := sc_elaborate.nd
  exact (b_cons (x_set 1 nd (s_meth O "Elaborator" (s_mk0 O) (s_cons (s_v 0) (s_cons s_dnew s_nil)))) (b_cons (x_ret (s_tup (s_cons (s_fld O "Part" (s_v 1)) (s_cons (s_fld O "Part" (s_v 1)) s_nil)))) b_nil))
theorem sc_fit : FnScope ["part", "target"] ["part", "target"] (defScope st_fit) := ⟨rfl, rfl, rfl, by decide +kernel, rfl, by decide +kernel, by decide +kernel⟩
theorem d_fit {P : Program} {w : World} {K : PySem.W.Frag} {mg : Str → Option Value} {base : Heap} {ad : Str → Addr} {d : Nat} {f : Addr} (X : Cx) (cdv : Value) (A : Around) (outer : List PySem.Env) (s : Shared) (H : Hp) (E : XK) (hX : X = cxOf (L2.CX P w) P w K mg base ["part", "target"] "fit" (defScope st_fit) f cdv A outer s H E) (O : Ok X pg nm ad d E) : PSs X (defBody st_fit) (tB X (pg.cal d) E T_fit) := by
  subst hX
  have nd := sc_fit.nd
  exact (b_cons (x_if (s_tnot (s_tt (s_call O (s_cons (s_fld O "Part" (s_v 0)) (s_cons (s_v 1) s_nil))))) (b_cons (x_raise O "number" (s_fld O "Part" (s_v 0))) b_nil) b_nil) (b_cons (x_if (s_tcmp O .eq (s_fld O "Part" (s_v 0)) (s_v 1)) (b_cons (x_ret (s_fld O "Part" (s_v 0))) b_nil) b_nil) (b_cons (x_ret (s_tup (s_cons s_str (s_cons (s_fld O "Part" (s_v 0)) (s_cons (s_fld O "Part" (s_v 0)) (s_cons (s_v 1) (s_cons (s_fld O "Part" (s_v 0)) s_nil))))))) b_nil)))
theorem sc_opened : FnScope ["part", "name", "wanted"] ["part", "name"] (defScope st_opened) := ⟨rfl, rfl, rfl, by decide +kernel, rfl, by decide +kernel, by decide +kernel⟩
theorem d_opened {P : Program} {w : World} {K : PySem.W.Frag} {mg : Str → Option Value} {base : Heap} {ad : Str → Addr} {d : Nat} {f : Addr} (X : Cx) (cdv : Value) (A : Around) (outer : List PySem.Env) (s : Shared) (H : Hp) (E : XK) (hX : X = cxOf (L2.CX P w) P w K mg base ["part", "name", "wanted"] "opened" (defScope st_opened) f cdv A outer s H E) (O : Ok X pg nm ad d E) : PSs X (defBody st_opened) (tB X (pg.cal d) E T_opened) := by
  subst hX
  have nd := sc_opened.nd
  exact (b_cons (x_set 2 nd (s_fld O "Part" (s_v 0))) (b_cons (x_if (s_tcmp O .eq (s_v 2) (s_g O)) (b_cons (x_set 2 nd (s_call O (s_cons (s_v 1) s_nil))) b_nil) b_nil) (b_cons (x_if (s_tcmp O .ne (s_ix (s_v 2) s_int) (s_v 1)) (b_cons (x_raise O "number" (s_fld O "Part" (s_v 0))) b_nil) b_nil) (b_cons (x_ret (s_tup (s_cons (s_call O (s_cons (s_v 0) (s_cons (s_v 2) s_nil))) (s_cons (s_sl (s_v 2) (s_so s_int) s_no) s_nil)))) b_nil))))
theorem sc_constant_rule : FnScope ["expression"] ["expression"] (defScope st_constant_rule) := ⟨rfl, rfl, rfl, by decide +kernel, rfl, by decide +kernel, by decide +kernel⟩
theorem d_constant_rule {P : Program} {w : World} {K : PySem.W.Frag} {mg : Str → Option Value} {base : Heap} {ad : Str → Addr} {d : Nat} {f : Addr} (X : Cx) (cdv : Value) (A : Around) (outer : List PySem.Env) (s : Shared) (H : Hp) (E : XK) (hX : X = cxOf (L2.CX P w) P w K mg base ["expression"] "constant_rule" (defScope st_constant_rule) f cdv A outer s H E) (O : Ok X pg nm ad d E) : PSs X (defBody st_constant_rule) (tB X (pg.cal d) E T_constant_rule) := by
  subst hX
  have nd := sc_constant_rule.nd
  exact (b_cons (x_ret (s_tup (s_cons (s_v 0) (s_cons (s_gd O (s_ix (s_v 0) s_int)) s_nil)))) b_nil)
theorem sc_call_rule : FnScope ["_", "called", "passed", "called_core", "given", "result"] ["_", "called", "passed"] (defScope st_call_rule) := ⟨rfl, rfl, rfl, by decide +kernel, rfl, by decide +kernel, by decide +kernel⟩
theorem d_call_rule {P : Program} {w : World} {K : PySem.W.Frag} {mg : Str → Option Value} {base : Heap} {ad : Str → Addr} {d : Nat} {f : Addr} (X : Cx) (cdv : Value) (A : Around) (outer : List PySem.Env) (s : Shared) (H : Hp) (E : XK) (hX : X = cxOf (L2.CX P w) P w K mg base ["_", "called", "passed", "called_core", "given", "result"] "call_rule" (defScope st_call_rule) f cdv A outer s H E) (O : Ok X pg nm ad d E) : PSs X (defBody st_call_rule) (tB X (pg.cal d) E T_call_rule) := by
  subst hX
  have nd := sc_call_rule.nd
  exact (b_cons (x_tset (s_call O (s_cons (s_v 1) (s_cons s_str s_nil))) (gt_tp O.calm (gts_cons (gt_nm 3 nd) (gts_cons (gt_tp O.calm (gts_cons (gt_nm 4 nd) (gts_cons (gt_nm 5 nd) gts_nil))) gts_nil)))) (b_cons (x_ret (s_tup (s_cons (s_tup (s_cons s_str (s_cons (s_v 3) (s_cons (s_call O (s_cons (s_v 2) (s_cons (s_v 4) s_nil))) s_nil)))) (s_cons (s_v 5) s_nil)))) b_nil))
theorem sc_if_rule : FnScope ["_", "condition", "first", "second", "condition_core", "met"] ["_", "condition", "first", "second"] (defScope st_if_rule) := ⟨rfl, rfl, rfl, by decide +kernel, rfl, by decide +kernel, by decide +kernel⟩
theorem d_if_rule {P : Program} {w : World} {K : PySem.W.Frag} {mg : Str → Option Value} {base : Heap} {ad : Str → Addr} {d : Nat} {f : Addr} (X : Cx) (cdv : Value) (A : Around) (outer : List PySem.Env) (s : Shared) (H : Hp) (E : XK) (hX : X = cxOf (L2.CX P w) P w K mg base ["_", "condition", "first", "second", "condition_core", "met"] "if_rule" (defScope st_if_rule) f cdv A outer s H E) (O : Ok X pg nm ad d E) : PSs X (defBody st_if_rule) (tB X (pg.cal d) E T_if_rule) := by
  subst hX
  have nd := sc_if_rule.nd
  exact (b_cons (x_set 4 nd (s_call O (s_cons (s_v 1) (s_cons (s_g O) s_nil)))) (b_cons (x_set 5 nd (s_call O (s_cons (s_fld O "Part" (s_v 2)) (s_cons (s_fld O "Part" (s_v 3)) s_nil)))) (b_cons (x_if (s_tcmp O .isN (s_v 5) s_non) (b_cons (x_raise O "number" (s_fld O "Part" (s_v 3))) b_nil) b_nil) (b_cons (x_ret (s_tup (s_cons (s_tup (s_cons s_str (s_cons (s_v 4) (s_cons (s_call O (s_cons (s_v 2) (s_cons (s_v 5) s_nil))) (s_cons (s_call O (s_cons (s_v 3) (s_cons (s_v 5) s_nil))) s_nil))))) (s_cons (s_v 5) s_nil)))) b_nil))))
theorem sc_pair_rule : FnScope ["_", "first", "second"] ["_", "first", "second"] (defScope st_pair_rule) := ⟨rfl, rfl, rfl, by decide +kernel, rfl, by decide +kernel, by decide +kernel⟩
theorem d_pair_rule {P : Program} {w : World} {K : PySem.W.Frag} {mg : Str → Option Value} {base : Heap} {ad : Str → Addr} {d : Nat} {f : Addr} (X : Cx) (cdv : Value) (A : Around) (outer : List PySem.Env) (s : Shared) (H : Hp) (E : XK) (hX : X = cxOf (L2.CX P w) P w K mg base ["_", "first", "second"] "pair_rule" (defScope st_pair_rule) f cdv A outer s H E) (O : Ok X pg nm ad d E) : PSs X (defBody st_pair_rule) (tB X (pg.cal d) E T_pair_rule) := by
  subst hX
  have nd := sc_pair_rule.nd
  exact (b_cons (x_ret (s_tup (s_cons (s_tup (s_cons s_str (s_cons (s_fld O "Part" (s_v 1)) (s_cons (s_fld O "Part" (s_v 2)) s_nil)))) (s_cons (s_tup (s_cons s_str (s_cons (s_fld O "Part" (s_v 1)) (s_cons (s_fld O "Part" (s_v 2)) s_nil)))) s_nil)))) b_nil)
theorem sc_half_rule : FnScope ["expression", "whole", "whole_core", "first", "second", "half"] ["expression", "whole"] (defScope st_half_rule) := ⟨rfl, rfl, rfl, by decide +kernel, rfl, by decide +kernel, by decide +kernel⟩
theorem d_half_rule {P : Program} {w : World} {K : PySem.W.Frag} {mg : Str → Option Value} {base : Heap} {ad : Str → Addr} {d : Nat} {f : Addr} (X : Cx) (cdv : Value) (A : Around) (outer : List PySem.Env) (s : Shared) (H : Hp) (E : XK) (hX : X = cxOf (L2.CX P w) P w K mg base ["expression", "whole", "whole_core", "first", "second", "half"] "half_rule" (defScope st_half_rule) f cdv A outer s H E) (O : Ok X pg nm ad d E) : PSs X (defBody st_half_rule) (tB X (pg.cal d) E T_half_rule) := by
  subst hX
  have nd := sc_half_rule.nd
  exact (b_cons (x_tset (s_call O (s_cons (s_v 1) (s_cons s_str s_nil))) (gt_tp O.calm (gts_cons (gt_nm 2 nd) (gts_cons (gt_tp O.calm (gts_cons (gt_nm 3 nd) (gts_cons (gt_nm 4 nd) gts_nil))) gts_nil)))) (b_cons (x_set 5 nd (s_ife (s_tcmp O .eq (s_ix (s_v 0) s_int) s_str) (s_v 3) (s_v 4))) (b_cons (x_ret (s_tup (s_cons (s_tup (s_cons (s_ix (s_v 0) s_int) (s_cons (s_v 2) s_nil))) (s_cons (s_v 5) s_nil)))) b_nil)))
theorem sc_box_rule : FnScope ["_", "held"] ["_", "held"] (defScope st_box_rule) := ⟨rfl, rfl, rfl, by decide +kernel, rfl, by decide +kernel, by decide +kernel⟩
theorem d_box_rule {P : Program} {w : World} {K : PySem.W.Frag} {mg : Str → Option Value} {base : Heap} {ad : Str → Addr} {d : Nat} {f : Addr} (X : Cx) (cdv : Value) (A : Around) (outer : List PySem.Env) (s : Shared) (H : Hp) (E : XK) (hX : X = cxOf (L2.CX P w) P w K mg base ["_", "held"] "box_rule" (defScope st_box_rule) f cdv A outer s H E) (O : Ok X pg nm ad d E) : PSs X (defBody st_box_rule) (tB X (pg.cal d) E T_box_rule) := by
  subst hX
  have nd := sc_box_rule.nd
  exact (b_cons (x_ret (s_tup (s_cons (s_tup (s_cons s_str (s_cons (s_fld O "Part" (s_v 1)) s_nil))) (s_cons (s_tup (s_cons s_str (s_cons (s_fld O "Part" (s_v 1)) s_nil))) s_nil)))) b_nil)
theorem sc_get_rule : FnScope ["_", "box", "box_core", "held"] ["_", "box"] (defScope st_get_rule) := ⟨rfl, rfl, rfl, by decide +kernel, rfl, by decide +kernel, by decide +kernel⟩
theorem d_get_rule {P : Program} {w : World} {K : PySem.W.Frag} {mg : Str → Option Value} {base : Heap} {ad : Str → Addr} {d : Nat} {f : Addr} (X : Cx) (cdv : Value) (A : Around) (outer : List PySem.Env) (s : Shared) (H : Hp) (E : XK) (hX : X = cxOf (L2.CX P w) P w K mg base ["_", "box", "box_core", "held"] "get_rule" (defScope st_get_rule) f cdv A outer s H E) (O : Ok X pg nm ad d E) : PSs X (defBody st_get_rule) (tB X (pg.cal d) E T_get_rule) := by
  subst hX
  have nd := sc_get_rule.nd
  exact (b_cons (x_tset (s_call O (s_cons (s_v 1) (s_cons s_str s_nil))) (gt_tp O.calm (gts_cons (gt_nm 2 nd) (gts_cons (gt_tp O.calm (gts_cons (gt_nm 3 nd) gts_nil)) gts_nil)))) (b_cons (x_ret (s_tup (s_cons (s_tup (s_cons s_str (s_cons (s_v 2) s_nil))) (s_cons (s_v 3) s_nil)))) b_nil))
theorem sc_put_rule : FnScope ["_", "box", "stored", "box_core", "held"] ["_", "box", "stored"] (defScope st_put_rule) := ⟨rfl, rfl, rfl, by decide +kernel, rfl, by decide +kernel, by decide +kernel⟩
theorem d_put_rule {P : Program} {w : World} {K : PySem.W.Frag} {mg : Str → Option Value} {base : Heap} {ad : Str → Addr} {d : Nat} {f : Addr} (X : Cx) (cdv : Value) (A : Around) (outer : List PySem.Env) (s : Shared) (H : Hp) (E : XK) (hX : X = cxOf (L2.CX P w) P w K mg base ["_", "box", "stored", "box_core", "held"] "put_rule" (defScope st_put_rule) f cdv A outer s H E) (O : Ok X pg nm ad d E) : PSs X (defBody st_put_rule) (tB X (pg.cal d) E T_put_rule) := by
  subst hX
  have nd := sc_put_rule.nd
  exact (b_cons (x_tset (s_call O (s_cons (s_v 1) (s_cons s_str s_nil))) (gt_tp O.calm (gts_cons (gt_nm 3 nd) (gts_cons (gt_tp O.calm (gts_cons (gt_nm 4 nd) gts_nil)) gts_nil)))) (b_cons (x_ret (s_tup (s_cons (s_tup (s_cons s_str (s_cons (s_v 3) (s_cons (s_call O (s_cons (s_v 2) (s_cons (s_v 4) s_nil))) s_nil)))) (s_cons (s_g O) s_nil)))) b_nil))
theorem sc_op_rule : FnScope ["expression", "left", "right", "sign", "result"] ["expression", "left", "right"] (defScope st_op_rule) := ⟨rfl, rfl, rfl, by decide +kernel, rfl, by decide +kernel, by decide +kernel⟩
theorem d_op_rule {P : Program} {w : World} {K : PySem.W.Frag} {mg : Str → Option Value} {base : Heap} {ad : Str → Addr} {d : Nat} {f : Addr} (X : Cx) (cdv : Value) (A : Around) (outer : List PySem.Env) (s : Shared) (H : Hp) (E : XK) (hX : X = cxOf (L2.CX P w) P w K mg base ["expression", "left", "right", "sign", "result"] "op_rule" (defScope st_op_rule) f cdv A outer s H E) (O : Ok X pg nm ad d E) : PSs X (defBody st_op_rule) (tB X (pg.cal d) E T_op_rule) := by
  subst hX
  have nd := sc_op_rule.nd
  exact (b_cons (x_set 3 nd (s_ix (s_v 0) s_int)) (b_cons (x_set 4 nd (s_ife (s_tcmp O .in_ (s_v 3) (s_tup (s_cons s_str (s_cons s_str s_nil)))) (s_g O) (s_g O))) (b_cons (x_ret (s_tup (s_cons (s_tup (s_cons s_str (s_cons (s_v 3) (s_cons (s_call O (s_cons (s_v 1) (s_cons (s_g O) s_nil))) (s_cons (s_call O (s_cons (s_v 2) (s_cons (s_g O) s_nil))) s_nil))))) (s_cons (s_v 4) s_nil)))) b_nil)))
theorem sc_not_rule : FnScope ["_", "operand"] ["_", "operand"] (defScope st_not_rule) := ⟨rfl, rfl, rfl, by decide +kernel, rfl, by decide +kernel, by decide +kernel⟩
theorem d_not_rule {P : Program} {w : World} {K : PySem.W.Frag} {mg : Str → Option Value} {base : Heap} {ad : Str → Addr} {d : Nat} {f : Addr} (X : Cx) (cdv : Value) (A : Around) (outer : List PySem.Env) (s : Shared) (H : Hp) (E : XK) (hX : X = cxOf (L2.CX P w) P w K mg base ["_", "operand"] "not_rule" (defScope st_not_rule) f cdv A outer s H E) (O : Ok X pg nm ad d E) : PSs X (defBody st_not_rule) (tB X (pg.cal d) E T_not_rule) := by
  subst hX
  have nd := sc_not_rule.nd
  exact (b_cons (x_ret (s_tup (s_cons (s_tup (s_cons s_str (s_cons (s_call O (s_cons (s_v 1) (s_cons (s_g O) s_nil))) s_nil))) (s_cons (s_g O) s_nil)))) b_nil)
theorem sc_print_rule : FnScope ["_", "printed", "body"] ["_", "printed", "body"] (defScope st_print_rule) := ⟨rfl, rfl, rfl, by decide +kernel, rfl, by decide +kernel, by decide +kernel⟩
theorem d_print_rule {P : Program} {w : World} {K : PySem.W.Frag} {mg : Str → Option Value} {base : Heap} {ad : Str → Addr} {d : Nat} {f : Addr} (X : Cx) (cdv : Value) (A : Around) (outer : List PySem.Env) (s : Shared) (H : Hp) (E : XK) (hX : X = cxOf (L2.CX P w) P w K mg base ["_", "printed", "body"] "print_rule" (defScope st_print_rule) f cdv A outer s H E) (O : Ok X pg nm ad d E) : PSs X (defBody st_print_rule) (tB X (pg.cal d) E T_print_rule) := by
  subst hX
  have nd := sc_print_rule.nd
  exact (b_cons (x_ret (s_tup (s_cons (s_tup (s_cons s_str (s_cons (s_call O (s_cons (s_v 1) (s_cons (s_g O) s_nil))) (s_cons (s_fld O "Part" (s_v 2)) s_nil)))) (s_cons (s_fld O "Part" (s_v 2)) s_nil)))) b_nil)
theorem sc_as_rule : FnScope ["expression", "annotated"] ["expression", "annotated"] (defScope st_as_rule) := ⟨rfl, rfl, rfl, by decide +kernel, rfl, by decide +kernel, by decide +kernel⟩
theorem d_as_rule {P : Program} {w : World} {K : PySem.W.Frag} {mg : Str → Option Value} {base : Heap} {ad : Str → Addr} {d : Nat} {f : Addr} (X : Cx) (cdv : Value) (A : Around) (outer : List PySem.Env) (s : Shared) (H : Hp) (E : XK) (hX : X = cxOf (L2.CX P w) P w K mg base ["expression", "annotated"] "as_rule" (defScope st_as_rule) f cdv A outer s H E) (O : Ok X pg nm ad d E) : PSs X (defBody st_as_rule) (tB X (pg.cal d) E T_as_rule) := by
  subst hX
  have nd := sc_as_rule.nd
  exact (b_cons (x_ret (s_tup (s_cons (s_call O (s_cons (s_v 1) (s_cons (s_ix (s_v 0) s_int) s_nil))) (s_cons (s_ix (s_v 0) s_int) s_nil)))) b_nil)
theorem sc__law_state : FnScope ["script", "cells", "cell"] ["script"] (defScope st__law_state) := ⟨rfl, rfl, rfl, by decide +kernel, rfl, by decide +kernel, by decide +kernel⟩
theorem d__law_state {P : Program} {w : World} {K : PySem.W.Frag} {mg : Str → Option Value} {base : Heap} {ad : Str → Addr} {d : Nat} {f : Addr} (X : Cx) (cdv : Value) (A : Around) (outer : List PySem.Env) (s : Shared) (H : Hp) (E : XK) (hX : X = cxOf (L2.CX P w) P w K mg base ["script", "cells", "cell"] "_law_state" (defScope st__law_state) f cdv A outer s H E) (O : Ok X pg nm ad d E) : PSs X (defBody st__law_state) (tB X (pg.cal d) E T__law_state) := by
  subst hX
  have nd := sc__law_state.nd
  exact (b_cons (x_setLc O 1 false [(("cell" : Str), 2)] nd (s_sl (s_v 0) s_no (s_so s_int)) (blkOk_by (N := ["script", "cells", "cell"]) (sc := defScope st__law_state) (by decide +kernel)) (fun _ _ _ _ _ => g_name 2 nd) (fun _ _ _ _ _ => t_tt) (fun _ _ _ _ _ => (s_bfB (O.blk) .abs cf_abs (by decide +kernel) (s_cons (s_v 2) s_nil))) (sw_true rfl rfl rfl (by decide +kernel))) (b_cons (x_if (s_tcmp O .eq (s_bfB O .len cf_len (by decide +kernel) (s_cons (s_v 1) s_nil)) s_int) (b_cons (x_set 1 nd (s_lst (s_cons s_int s_nil))) b_nil) b_nil) (b_cons (x_ret (s_lst (s_cons s_int (s_cons (s_v 1) s_nil)))) b_nil)))
theorem sc__law_take : FnScope ["state", "most", "cells", "at", "cell", "mixed"] ["state", "most"] (defScope st__law_take) := ⟨rfl, rfl, rfl, by decide +kernel, rfl, by decide +kernel, by decide +kernel⟩
theorem d__law_take {P : Program} {w : World} {K : PySem.W.Frag} {mg : Str → Option Value} {base : Heap} {ad : Str → Addr} {d : Nat} {f : Addr} (X : Cx) (cdv : Value) (A : Around) (outer : List PySem.Env) (s : Shared) (H : Hp) (E : XK) (hX : X = cxOf (L2.CX P w) P w K mg base ["state", "most", "cells", "at", "cell", "mixed"] "_law_take" (defScope st__law_take) f cdv A outer s H E) (O : Ok X pg nm ad d E) : PSs X (defBody st__law_take) (tB X (pg.cal d) E T__law_take) := by
  subst hX
  have nd := sc__law_take.nd
  exact (b_cons (x_set 2 nd (s_ix (s_v 0) s_int)) (b_cons (x_set 3 nd (s_bin .mod (s_ix (s_v 0) s_int) (s_bfB O .len cf_len (by decide +kernel) (s_cons (s_v 2) s_nil)))) (b_cons (x_set 4 nd (s_ix (s_v 2) (s_v 3))) (b_cons (x_if (s_tcmp O .ge (s_v 4) s_int) (b_cons (x_sub (s_bin .fdiv (s_v 4) (s_v 1)) (s_v 2) (s_v 3)) (b_cons (x_ret (s_bin .mod (s_v 4) (s_v 1))) b_nil)) b_nil) (b_cons (x_sub (s_bin .add (s_ix (s_v 0) s_int) s_int) (s_v 0) s_int) (b_cons (x_set 5 nd (s_bin .mod (s_bfT O .int cf_int (by decide +kernel) (s_cons (s_bin .add (s_bin .mul (s_v 4) s_int) (s_bin .mul (s_ix (s_v 0) s_int) s_int)) s_nil)) s_int)) (b_cons (x_set 5 nd (s_bin .mod (s_bfT O .int cf_int (by decide +kernel) (s_cons (s_bin .add (s_bin .mul (s_v 5) s_int) (s_bin .mul (s_ix (s_v 0) s_int) s_int)) s_nil)) s_int)) (b_cons (x_ret (s_bin .mod (s_bin .fdiv (s_v 5) s_int) (s_v 1))) b_nil))))))))
theorem sc__law_chain : FnScope ["state", "base", "many", "kinds", "known", "k"] ["state", "base", "many"] (defScope st__law_chain) := ⟨rfl, rfl, rfl, by decide +kernel, rfl, by decide +kernel, by decide +kernel⟩
theorem d__law_chain {P : Program} {w : World} {K : PySem.W.Frag} {mg : Str → Option Value} {base : Heap} {ad : Str → Addr} {d : Nat} {f : Addr} (X : Cx) (cdv : Value) (A : Around) (outer : List PySem.Env) (s : Shared) (H : Hp) (E : XK) (hX : X = cxOf (L2.CX P w) P w K mg base ["state", "base", "many", "kinds", "known", "k"] "_law_chain" (defScope st__law_chain) f cdv A outer s H E) (O : Ok X pg nm ad d E) : PSs X (defBody st__law_chain) (tB X (pg.cal d) E T__law_chain) := by
  subst hX
  have nd := sc__law_chain.nd
  exact (b_cons (x_set 3 nd (s_lst (s_cons (s_v 1) s_nil))) (b_cons (x_set 4 nd (s_v 1)) (b_cons (x_forr O 5 (pi_r1 O (s_v 2)) (g_name 5 nd) (b_cons (x_if (PW.pt (w_and (s_tcmp O .ne (s_v 4) s_str) (w_and1 (s_tcmp O .eq (s_call O (s_cons (s_v 0) (s_cons s_int s_nil))) s_int)))) (b_cons (x_set 4 nd s_str) b_nil) (b_cons (x_if (s_tcmp O .eq (s_v 4) s_str) (b_cons (x_set 4 nd (s_ix (s_lst (s_cons s_str (s_cons s_str (s_cons (s_v 1) (s_cons (s_v 1) s_nil))))) (s_call O (s_cons (s_v 0) (s_cons s_int s_nil))))) b_nil) b_nil) b_nil)) (b_cons (x_ex (s_bm .append rfl PySem.F.plainAttrs_list PySem.F.slot_list_append PySem.F.type_list_append bm_append (s_v 3) (s_cons (s_v 4) s_nil))) b_nil))) (b_cons (x_ret (s_v 3)) b_nil))))
theorem sc__law_type : FnScope ["word"] ["word"] (defScope st__law_type) := ⟨rfl, rfl, rfl, by decide +kernel, rfl, by decide +kernel, by decide +kernel⟩
theorem d__law_type {P : Program} {w : World} {K : PySem.W.Frag} {mg : Str → Option Value} {base : Heap} {ad : Str → Addr} {d : Nat} {f : Addr} (X : Cx) (cdv : Value) (A : Around) (outer : List PySem.Env) (s : Shared) (H : Hp) (E : XK) (hX : X = cxOf (L2.CX P w) P w K mg base ["word"] "_law_type" (defScope st__law_type) f cdv A outer s H E) (O : Ok X pg nm ad d E) : PSs X (defBody st__law_type) (tB X (pg.cal d) E T__law_type) := by
  subst hX
  have nd := sc__law_type.nd
  exact (b_cons (x_ret (s_tup (s_cons (s_v 0) s_nil))) b_nil)
theorem sc__law_wrap : FnScope ["expression", "kinds", "word"] ["expression", "kinds"] (defScope st__law_wrap) := ⟨rfl, rfl, rfl, by decide +kernel, rfl, by decide +kernel, by decide +kernel⟩
theorem d__law_wrap {P : Program} {w : World} {K : PySem.W.Frag} {mg : Str → Option Value} {base : Heap} {ad : Str → Addr} {d : Nat} {f : Addr} (X : Cx) (cdv : Value) (A : Around) (outer : List PySem.Env) (s : Shared) (H : Hp) (E : XK) (hX : X = cxOf (L2.CX P w) P w K mg base ["expression", "kinds", "word"] "_law_wrap" (defScope st__law_wrap) f cdv A outer s H E) (O : Ok X pg nm ad d E) : PSs X (defBody st__law_wrap) (tB X (pg.cal d) E T__law_wrap) := by
  subst hX
  have nd := sc__law_wrap.nd
  exact (b_cons (x_for O false [2] (s_sl (s_v 1) (s_so s_int) s_no) (g_name 2 nd) (b_cons (x_set 0 nd (s_tup (s_cons s_str (s_cons (s_v 0) (s_cons (s_call O (s_cons (s_v 2) s_nil)) s_nil))))) b_nil)) (b_cons (x_ret (s_v 0)) b_nil))
theorem sc__law_blame : FnScope ["kinds", "first", "base", "k"] ["kinds", "first", "base"] (defScope st__law_blame) := ⟨rfl, rfl, rfl, by decide +kernel, rfl, by decide +kernel, by decide +kernel⟩
theorem d__law_blame {P : Program} {w : World} {K : PySem.W.Frag} {mg : Str → Option Value} {base : Heap} {ad : Str → Addr} {d : Nat} {f : Addr} (X : Cx) (cdv : Value) (A : Around) (outer : List PySem.Env) (s : Shared) (H : Hp) (E : XK) (hX : X = cxOf (L2.CX P w) P w K mg base ["kinds", "first", "base", "k"] "_law_blame" (defScope st__law_blame) f cdv A outer s H E) (O : Ok X pg nm ad d E) : PSs X (defBody st__law_blame) (tB X (pg.cal d) E T__law_blame) := by
  subst hX
  have nd := sc__law_blame.nd
  exact (b_cons (x_forr O 3 (pi_r2 O s_int (s_bfB O .len cf_len (by decide +kernel) (s_cons (s_v 0) s_nil))) (g_name 3 nd) (b_cons (x_if (PW.pt (w_and (s_tcmp O .notIn (s_ix (s_v 0) (s_v 3)) (s_lst (s_cons s_str (s_cons (s_v 2) s_nil)))) (w_and1 (s_tcmp O .ne (s_ix (s_v 0) (s_v 3)) (s_ix (s_v 0) (s_bin .sub (s_v 3) s_int)))))) (b_cons (x_ret (s_bin .sub (s_bin .sub (s_bin .add (s_v 1) (s_bfB O .len cf_len (by decide +kernel) (s_cons (s_v 0) s_nil))) s_int) (s_v 3))) b_nil) b_nil) b_nil)) (b_cons (x_ret (s_neg s_int)) b_nil))
theorem sc__law_simple : FnScope ["state", "base", "kinds", "value", "number", "end"] ["state", "base"] (defScope st__law_simple) := ⟨rfl, rfl, rfl, by decide +kernel, rfl, by decide +kernel, by decide +kernel⟩
theorem d__law_simple {P : Program} {w : World} {K : PySem.W.Frag} {mg : Str → Option Value} {base : Heap} {ad : Str → Addr} {d : Nat} {f : Addr} (X : Cx) (cdv : Value) (A : Around) (outer : List PySem.Env) (s : Shared) (H : Hp) (E : XK) (hX : X = cxOf (L2.CX P w) P w K mg base ["state", "base", "kinds", "value", "number", "end"] "_law_simple" (defScope st__law_simple) f cdv A outer s H E) (O : Ok X pg nm ad d E) : PSs X (defBody st__law_simple) (tB X (pg.cal d) E T__law_simple) := by
  subst hX
  have nd := sc__law_simple.nd
  exact (b_cons (x_set 2 nd (s_call O (s_cons (s_v 0) (s_cons (s_v 1) (s_cons (s_call O (s_cons (s_v 0) (s_cons s_int s_nil))) s_nil))))) (b_cons (x_set 3 nd (s_dat O (s_dpl (pd_cons s_str (s_tup (s_cons s_str (s_cons s_int s_nil))) (pd_cons s_str (s_tup (s_cons s_str (s_cons s_bl s_nil))) pd_nil))) (s_v 1))) (b_cons (x_set 4 nd (s_call O (s_cons (s_v 2) (s_cons s_int (s_cons (s_v 1) s_nil))))) (b_cons (x_set 5 nd (s_dat O (s_dpl (pd_cons s_str (s_tup (s_cons s_str (s_cons (s_tup (s_cons s_str (s_cons s_int s_nil))) s_nil))) (pd_cons s_str (s_tup (s_cons s_str (s_cons (s_tup (s_cons s_str (s_cons s_bl s_nil))) s_nil))) pd_nil))) (s_v 1))) (b_cons (x_if (s_tcmp O .ge (s_v 4) s_int) (b_cons (x_set 5 nd (s_tup (s_cons s_str (s_cons (s_v 4) (s_cons s_int s_nil))))) b_nil) b_nil) (b_cons (x_ret (s_tup (s_cons (s_call O (s_cons (s_v 3) (s_cons (s_v 2) s_nil))) (s_cons (s_v 5) s_nil)))) b_nil))))))
theorem sc__law_called : FnScope ["state", "base", "argument", "function", "parameter", "result", "seen", "value", "call"] ["state", "base"] (defScope st__law_called) := ⟨rfl, rfl, rfl, by decide +kernel, rfl, by decide +kernel, by decide +kernel⟩
theorem d__law_called {P : Program} {w : World} {K : PySem.W.Frag} {mg : Str → Option Value} {base : Heap} {ad : Str → Addr} {d : Nat} {f : Addr} (X : Cx) (cdv : Value) (A : Around) (outer : List PySem.Env) (s : Shared) (H : Hp) (E : XK) (hX : X = cxOf (L2.CX P w) P w K mg base ["state", "base", "argument", "function", "parameter", "result", "seen", "value", "call"] "_law_called" (defScope st__law_called) f cdv A outer s H E) (O : Ok X pg nm ad d E) : PSs X (defBody st__law_called) (tB X (pg.cal d) E T__law_called) := by
  subst hX
  have nd := sc__law_called.nd
  exact (b_cons (x_set 2 nd (s_ix (s_lst (s_cons s_str (s_cons s_str s_nil))) (s_call O (s_cons (s_v 0) (s_cons s_int s_nil))))) (b_cons (x_set 3 nd (s_tup (s_cons s_str (s_cons s_str (s_cons (s_tup (s_cons (s_v 1) s_nil)) (s_cons (s_tup (s_cons s_str (s_cons s_str s_nil))) s_nil)))))) (b_cons (x_set 4 nd (s_ix (s_lst (s_cons s_str (s_cons (s_v 1) (s_cons s_str (s_cons s_str s_nil))))) (s_call O (s_cons (s_v 0) (s_cons s_int s_nil))))) (b_cons (x_set 5 nd (s_ix (s_lst (s_cons s_str (s_cons (s_v 1) (s_cons s_str (s_cons s_str s_nil))))) (s_call O (s_cons (s_v 0) (s_cons s_int s_nil))))) (b_cons (x_set 6 nd (s_tup (s_cons s_str (s_cons (s_tup (s_cons (s_v 4) s_nil)) (s_cons (s_tup (s_cons (s_v 5) s_nil)) s_nil))))) (b_cons (x_set 7 nd (s_dat O (s_dpl (pd_cons s_str (s_tup (s_cons s_str (s_cons s_int s_nil))) (pd_cons s_str (s_tup (s_cons s_str (s_cons s_bl s_nil))) pd_nil))) (s_v 2))) (b_cons (x_set 8 nd (s_tup (s_cons s_str (s_cons (s_tup (s_cons s_str (s_cons (s_tup (s_cons s_str (s_cons (s_v 3) (s_cons (s_tup (s_cons s_str s_nil)) s_nil)))) (s_cons (s_v 6) s_nil)))) (s_cons (s_v 7) s_nil))))) (b_cons (x_if (PW.pt (w_and (s_tcmp O .eq (s_v 4) (s_v 1)) (w_and1 (s_tcmp O .ne (s_v 2) (s_v 1))))) (b_cons (x_ret (s_tup (s_cons (s_v 8) (s_cons (s_tup (s_cons s_str (s_cons s_int s_nil))) s_nil)))) b_nil) b_nil) (b_cons (x_if (s_tcmp O .ne (s_v 2) (s_v 1)) (b_cons (x_ret (s_tup (s_cons (s_v 8) (s_cons (s_tup (s_cons s_str (s_cons s_int (s_cons s_int s_nil)))) s_nil)))) b_nil) b_nil) (b_cons (x_ret (s_tup (s_cons (s_v 8) (s_cons (s_tup (s_cons s_str (s_cons (s_tup (s_cons (s_v 1) (s_cons (s_ix (s_v 7) s_int) s_nil))) s_nil))) s_nil)))) b_nil))))))))))
theorem sc__law_boxed : FnScope ["state", "base", "value", "content", "box", "loose", "body", "end"] ["state", "base"] (defScope st__law_boxed) := ⟨rfl, rfl, rfl, by decide +kernel, rfl, by decide +kernel, by decide +kernel⟩
theorem d__law_boxed {P : Program} {w : World} {K : PySem.W.Frag} {mg : Str → Option Value} {base : Heap} {ad : Str → Addr} {d : Nat} {f : Addr} (X : Cx) (cdv : Value) (A : Around) (outer : List PySem.Env) (s : Shared) (H : Hp) (E : XK) (hX : X = cxOf (L2.CX P w) P w K mg base ["state", "base", "value", "content", "box", "loose", "body", "end"] "_law_boxed" (defScope st__law_boxed) f cdv A outer s H E) (O : Ok X pg nm ad d E) : PSs X (defBody st__law_boxed) (tB X (pg.cal d) E T__law_boxed) := by
  subst hX
  have nd := sc__law_boxed.nd
  exact (b_cons (x_set 2 nd (s_dpl (pd_cons s_str (s_tup (s_cons s_str (s_cons s_int s_nil))) (pd_cons s_str (s_tup (s_cons s_str (s_cons s_bl s_nil))) pd_nil)))) (b_cons (x_set 3 nd (s_ix (s_lst (s_cons s_str (s_cons s_str s_nil))) (s_call O (s_cons (s_v 0) (s_cons s_int s_nil))))) (b_cons (x_set 4 nd (s_tup (s_cons s_str (s_cons (s_dat O (s_v 2) (s_v 1)) s_nil)))) (b_cons (x_set 5 nd (s_tup (s_cons s_str (s_cons (s_v 4) (s_cons (s_tup (s_cons s_str (s_cons (s_tup (s_cons s_str s_nil)) s_nil))) s_nil))))) (b_cons (x_set 6 nd (s_tup (s_cons s_str (s_cons s_str (s_cons (s_tup (s_cons s_str (s_cons (s_tup (s_cons s_str (s_cons s_str s_nil))) (s_cons (s_dat O (s_v 2) (s_v 3)) s_nil)))) (s_cons (s_tup (s_cons s_str (s_cons (s_tup (s_cons s_str (s_cons s_str s_nil))) s_nil))) s_nil)))))) (b_cons (x_set 7 nd (s_tup (s_cons s_str (s_cons (s_tup (s_cons (s_v 1) (s_cons (s_ix (s_dat O (s_v 2) (s_v 1)) s_int) s_nil))) s_nil)))) (b_cons (x_if (s_tcmp O .ne (s_v 3) (s_v 1)) (b_cons (x_set 7 nd (s_tup (s_cons s_str (s_cons s_int (s_cons s_int s_nil))))) b_nil) b_nil) (b_cons (x_ret (s_tup (s_cons (s_tup (s_cons s_str (s_cons s_str (s_cons (s_v 5) (s_cons (s_v 6) s_nil))))) (s_cons (s_v 7) s_nil)))) b_nil))))))))
theorem sc__law_refused : FnScope ["expression"] ["expression"] (defScope st__law_refused) := ⟨rfl, rfl, rfl, by decide +kernel, rfl, by decide +kernel, by decide +kernel⟩
theorem d__law_refused {P : Program} {w : World} {K : PySem.W.Frag} {mg : Str → Option Value} {base : Heap} {ad : Str → Addr} {d : Nat} {f : Addr} (X : Cx) (cdv : Value) (A : Around) (outer : List PySem.Env) (s : Shared) (H : Hp) (E : XK) (hX : X = cxOf (L2.CX P w) P w K mg base ["expression"] "_law_refused" (defScope st__law_refused) f cdv A outer s H E) (O : Ok X pg nm ad d E) : PSs X (defBody st__law_refused) (tB X (pg.cal d) E T__law_refused) := by
  subst hX
  have nd := sc__law_refused.nd
  exact (b_cons (x_tryr O (v := .bl true) (p_call O (p_cons (p_v 0) p_nil)) (fun _ => pe_bl) (fun _ _ _ => relBl)) (b_cons (x_ret s_bl) b_nil))
theorem sc_law : FnScope ["script", "state", "base", "kind", "expression", "end", "told"] ["script"] (defScope st_law) := ⟨rfl, rfl, rfl, by decide +kernel, rfl, by decide +kernel, by decide +kernel⟩
theorem d_law {P : Program} {w : World} {K : PySem.W.Frag} {mg : Str → Option Value} {base : Heap} {ad : Str → Addr} {d : Nat} {f : Addr} (X : Cx) (cdv : Value) (A : Around) (outer : List PySem.Env) (s : Shared) (H : Hp) (E : XK) (hX : X = cxOf (L2.CX P w) P w K mg base ["script", "state", "base", "kind", "expression", "end", "told"] "law" (defScope st_law) f cdv A outer s H E) (O : Ok X pg nm ad d E) : PSs X (defBody st_law) (tB X (pg.cal d) E T_law) := by
  subst hX
  have nd := sc_law.nd
  exact (b_cons (x_set 1 nd (s_call O (s_cons (s_v 0) s_nil))) (b_cons (x_set 2 nd (s_ix (s_lst (s_cons s_str (s_cons s_str s_nil))) (s_call O (s_cons (s_v 1) (s_cons s_int s_nil))))) (b_cons (x_set 3 nd (s_call O (s_cons (s_v 1) (s_cons s_int s_nil)))) (b_cons (x_if (s_tcmp O .eq (s_v 3) s_int) (b_cons (x_tup rfl (s_call O (s_cons (s_v 1) (s_cons (s_v 2) s_nil))) (gs_cons 4 nd (gs_cons 5 nd gs_nil))) b_nil) (b_cons (x_if (s_tcmp O .eq (s_v 3) s_int) (b_cons (x_tup rfl (s_call O (s_cons (s_v 1) (s_cons (s_v 2) s_nil))) (gs_cons 4 nd (gs_cons 5 nd gs_nil))) b_nil) (b_cons (x_tup rfl (s_call O (s_cons (s_v 1) (s_cons (s_v 2) s_nil))) (gs_cons 4 nd (gs_cons 5 nd gs_nil))) b_nil)) b_nil)) (b_cons (x_if (s_tcmp O .eq (s_v 5) (s_tup (s_cons s_str (s_cons s_int s_nil)))) (b_cons (x_ret (s_call O (s_cons (s_v 4) s_nil))) b_nil) b_nil) (b_cons (x_set 6 nd (s_call O (s_cons (s_ix (s_call O (s_cons (s_v 4) s_nil)) s_int) (s_cons (s_bin .add s_int (s_call O (s_cons (s_v 1) (s_cons s_int s_nil)))) s_nil)))) (b_cons (x_ret (s_and (s_cmp O .eq (s_v 6) (s_tup (s_cons (s_tup s_nil) (s_cons (s_v 5) s_nil)))) (s_one (s_cmp O .eq (s_bfB O .repr (cf_repr O.room.gd (by have := O.room.un; omega)) (by decide +kernel) (s_cons (s_v 6) s_nil)) (s_bfB O .repr (cf_repr O.room.gd (by have := O.room.un; omega)) (by decide +kernel) (s_cons (s_tup (s_cons (s_tup s_nil) (s_cons (s_v 5) s_nil))) s_nil)))))) b_nil)))))))
theorem sc_Box__init_ : FnScope ["self", "held"] ["self", "held"] (defScope st_Box__init_) := ⟨rfl, rfl, rfl, by decide +kernel, rfl, by decide +kernel, by decide +kernel⟩
theorem d_Box__init_ {P : Program} {w : World} {K : PySem.W.Frag} {mg : Str → Option Value} {base : Heap} {ad : Str → Addr} {d : Nat} {f : Addr} (X : Cx) (cdv : Value) (A : Around) (outer : List PySem.Env) (s : Shared) (H : Hp) (E : XK) (hX : X = cxOf (L2.CX P w) P w K mg base ["self", "held"] "Box.__init__" (defScope st_Box__init_) f cdv A outer s H E) (O : Ok X pg nm ad d E) : PSs X (defBody st_Box__init_) (tB X (pg.cal d) E T_Box__init_) := by
  subst hX
  have nd := sc_Box__init_.nd
  exact (b_cons (x_fset O "Box" (s_v 0) (s_v 1)) b_nil)
theorem sc_Casts_of_cast : FnScope ["self", "number", "source", "target"] ["self", "number", "source", "target"] (defScope st_Casts_of_cast) := ⟨rfl, rfl, rfl, by decide +kernel, rfl, by decide +kernel, by decide +kernel⟩
theorem d_Casts_of_cast {P : Program} {w : World} {K : PySem.W.Frag} {mg : Str → Option Value} {base : Heap} {ad : Str → Addr} {d : Nat} {f : Addr} (X : Cx) (cdv : Value) (A : Around) (outer : List PySem.Env) (s : Shared) (H : Hp) (E : XK) (hX : X = cxOf (L2.CX P w) P w K mg base ["self", "number", "source", "target"] "Casts.of_cast" (defScope st_Casts_of_cast) f cdv A outer s H E) (O : Ok X pg nm ad d E) : PSs X (defBody st_Casts_of_cast) (tB X (pg.cal d) E T_Casts_of_cast) := by
  subst hX
  have nd := sc_Casts_of_cast.nd
  exact (b_cons (x_ret (s_tup (s_cons (s_v 2) (s_cons (s_v 3) (s_cons (s_v 1) (s_cons s_int s_nil)))))) b_nil)
theorem sc_Casts_added : FnScope ["self", "new", "pending"] ["self", "new", "pending"] (defScope st_Casts_added) := ⟨rfl, rfl, rfl, by decide +kernel, rfl, by decide +kernel, by decide +kernel⟩
theorem d_Casts_added {P : Program} {w : World} {K : PySem.W.Frag} {mg : Str → Option Value} {base : Heap} {ad : Str → Addr} {d : Nat} {f : Addr} (X : Cx) (cdv : Value) (A : Around) (outer : List PySem.Env) (s : Shared) (H : Hp) (E : XK) (hX : X = cxOf (L2.CX P w) P w K mg base ["self", "new", "pending"] "Casts.added" (defScope st_Casts_added) f cdv A outer s H E) (O : Ok X pg nm ad d E) : PSs X (defBody st_Casts_added) (tB X (pg.cal d) E T_Casts_added) := by
  subst hX
  have nd := sc_Casts_added.nd
  exact (b_cons (x_ret (s_tup (s_cons (s_v 1) (s_cons (s_v 2) s_nil)))) b_nil)
theorem sc_Casts_settled : FnScope ["self", "pending", "value", "cast"] ["self", "pending", "value"] (defScope st_Casts_settled) := ⟨rfl, rfl, rfl, by decide +kernel, rfl, by decide +kernel, by decide +kernel⟩
theorem d_Casts_settled {P : Program} {w : World} {K : PySem.W.Frag} {mg : Str → Option Value} {base : Heap} {ad : Str → Addr} {d : Nat} {f : Addr} (X : Cx) (cdv : Value) (A : Around) (outer : List PySem.Env) (s : Shared) (H : Hp) (E : XK) (hX : X = cxOf (L2.CX P w) P w K mg base ["self", "pending", "value", "cast"] "Casts.settled" (defScope st_Casts_settled) f cdv A outer s H E) (O : Ok X pg nm ad d E) : PSs X (defBody st_Casts_settled) (tB X (pg.cal d) E T_Casts_settled) := by
  subst hX
  have nd := sc_Casts_settled.nd
  exact (b_cons (x_while O (s_tcmp O .isNotN (s_v 1) s_non) (b_cons (x_tup rfl (s_v 1) (gs_cons 3 nd (gs_cons 1 nd gs_nil))) (b_cons (x_set 2 nd (s_meth O "Casts" (s_v 0) (s_cons (s_v 3) (s_cons (s_v 2) s_nil)))) b_nil))) (b_cons (x_ret (s_v 2)) b_nil))
theorem sc_Casts_made : FnScope ["self", "cast", "value", "source", "target", "number", "side", "name"] ["self", "cast", "value"] (defScope st_Casts_made) := ⟨rfl, rfl, rfl, by decide +kernel, rfl, by decide +kernel, by decide +kernel⟩
theorem d_Casts_made {P : Program} {w : World} {K : PySem.W.Frag} {mg : Str → Option Value} {base : Heap} {ad : Str → Addr} {d : Nat} {f : Addr} (X : Cx) (cdv : Value) (A : Around) (outer : List PySem.Env) (s : Shared) (H : Hp) (E : XK) (hX : X = cxOf (L2.CX P w) P w K mg base ["self", "cast", "value", "source", "target", "number", "side", "name"] "Casts.made" (defScope st_Casts_made) f cdv A outer s H E) (O : Ok X pg nm ad d E) : PSs X (defBody st_Casts_made) (tB X (pg.cal d) E T_Casts_made) := by
  subst hX
  have nd := sc_Casts_made.nd
  exact (b_cons (x_tup rfl (s_v 1) (gs_cons 3 nd (gs_cons 4 nd (gs_cons 5 nd (gs_cons 6 nd gs_nil))))) (b_cons (x_if (PW.pt (w_and (s_tcmp O .eq (s_v 3) (s_g O)) (w_and1 (s_tcmp O .eq (s_v 4) (s_g O))))) (b_cons (x_ret (s_v 2)) b_nil) b_nil) (b_cons (x_if (s_tcmp O .eq (s_v 4) (s_g O)) (b_cons (x_set 7 nd (s_call O (s_cons (s_v 3) s_nil))) (b_cons (x_ret (s_mk O (s_cons (s_meth O "Casts" (s_v 0) (s_cons (s_tup (s_cons (s_v 3) (s_cons (s_call O (s_cons (s_v 7) s_nil)) (s_cons (s_v 5) (s_cons (s_v 6) s_nil))))) (s_cons (s_v 2) s_nil))) (s_cons (s_v 7) s_nil)))) b_nil)) b_nil) (b_cons (x_if (s_tcmp O .eq (s_v 3) (s_g O)) (b_cons (x_if (s_tcmp O .ne (s_fld O "Injected" (s_v 2)) (s_call O (s_cons (s_v 4) s_nil))) (b_cons (x_raise O "end" (s_tup (s_cons s_str (s_cons (s_v 5) (s_cons (s_v 6) s_nil))))) b_nil) b_nil) (b_cons (x_ret (s_meth O "Casts" (s_v 0) (s_cons (s_tup (s_cons (s_call O (s_cons (s_fld O "Injected" (s_v 2)) s_nil)) (s_cons (s_v 4) (s_cons (s_v 5) (s_cons (s_v 6) s_nil))))) (s_cons (s_fld O "Injected" (s_v 2)) s_nil)))) b_nil)) b_nil) (b_cons (x_if (s_tcmp O .eq (s_bfB O .len cf_len (by decide +kernel) (s_cons (s_v 3) s_nil)) s_int) (b_cons (x_ret (s_v 2)) b_nil) b_nil) (b_cons (x_ret (s_mk O (s_cons (s_v 2) (s_cons (s_v 1) s_nil)))) b_nil))))))
theorem sc_Casts_halves : FnScope ["self", "cast", "source", "target", "number", "side", "out"] ["self", "cast"] (defScope st_Casts_halves) := ⟨rfl, rfl, rfl, by decide +kernel, rfl, by decide +kernel, by decide +kernel⟩
theorem d_Casts_halves {P : Program} {w : World} {K : PySem.W.Frag} {mg : Str → Option Value} {base : Heap} {ad : Str → Addr} {d : Nat} {f : Addr} (X : Cx) (cdv : Value) (A : Around) (outer : List PySem.Env) (s : Shared) (H : Hp) (E : XK) (hX : X = cxOf (L2.CX P w) P w K mg base ["self", "cast", "source", "target", "number", "side", "out"] "Casts.halves" (defScope st_Casts_halves) f cdv A outer s H E) (O : Ok X pg nm ad d E) : PSs X (defBody st_Casts_halves) (tB X (pg.cal d) E T_Casts_halves) := by
  subst hX
  have nd := sc_Casts_halves.nd
  exact (b_cons (x_tup rfl (s_v 1) (gs_cons 2 nd (gs_cons 3 nd (gs_cons 4 nd (gs_cons 5 nd gs_nil))))) (b_cons (x_set 6 nd (s_tup (s_cons (s_ix (s_v 2) (s_neg s_int)) (s_cons (s_ix (s_v 3) (s_neg s_int)) (s_cons (s_v 4) (s_cons (s_v 5) s_nil)))))) (b_cons (x_if (s_tcmp O .eq (s_ix (s_v 2) s_int) s_str) (b_cons (x_ret (s_tup (s_cons (s_tup (s_cons (s_ix (s_v 2) s_int) (s_cons (s_ix (s_v 3) s_int) (s_cons (s_v 4) (s_cons (s_v 5) s_nil))))) (s_cons (s_v 6) s_nil)))) b_nil) b_nil) (b_cons (x_ret (s_tup (s_cons (s_tup (s_cons (s_ix (s_v 3) s_int) (s_cons (s_ix (s_v 2) s_int) (s_cons (s_v 4) (s_cons (s_bin .sub s_int (s_v 5)) s_nil))))) (s_cons (s_v 6) s_nil)))) b_nil))))
theorem sc_Elaborator__init_ : FnScope ["self"] ["self"] (defScope st_Elaborator__init_) := ⟨rfl, rfl, rfl, by decide +kernel, rfl, by decide +kernel, by decide +kernel⟩
theorem d_Elaborator__init_ {P : Program} {w : World} {K : PySem.W.Frag} {mg : Str → Option Value} {base : Heap} {ad : Str → Addr} {d : Nat} {f : Addr} (X : Cx) (cdv : Value) (A : Around) (outer : List PySem.Env) (s : Shared) (H : Hp) (E : XK) (hX : X = cxOf (L2.CX P w) P w K mg base ["self"] "Elaborator.__init__" (defScope st_Elaborator__init_) f cdv A outer s H E) (O : Ok X pg nm ad d E) : PSs X (defBody st_Elaborator__init_) (tB X (pg.cal d) E T_Elaborator__init_) := by
  subst hX
  have nd := sc_Elaborator__init_.nd
  exact (b_cons (x_fset O "Elaborator" (s_v 0) s_int) b_nil)
theorem sc_Elaborator_elaborated : FnScope ["self", "expression", "scope", "number", "core", "of_type"] ["self", "expression", "scope"] (defScope st_Elaborator_elaborated) := ⟨rfl, rfl, rfl, by decide +kernel, rfl, by decide +kernel, by decide +kernel⟩
theorem d_Elaborator_elaborated {P : Program} {w : World} {K : PySem.W.Frag} {mg : Str → Option Value} {base : Heap} {ad : Str → Addr} {d : Nat} {f : Addr} (X : Cx) (cdv : Value) (A : Around) (outer : List PySem.Env) (s : Shared) (H : Hp) (E : XK) (hX : X = cxOf (L2.CX P w) P w K mg base ["self", "expression", "scope", "number", "core", "of_type"] "Elaborator.elaborated" (defScope st_Elaborator_elaborated) f cdv A outer s H E) (O : Ok X pg nm ad d E) : PSs X (defBody st_Elaborator_elaborated) (tB X (pg.cal d) E T_Elaborator_elaborated) := by
  subst hX
  have nd := sc_Elaborator_elaborated.nd
  exact (b_cons (x_set 3 nd (s_fld O "Elaborator" (s_v 0))) (b_cons (x_faug O .add "Elaborator" (s_v 0) s_int) (b_cons (x_tup rfl (s_meth O "Elaborator" (s_v 0) (s_cons (s_v 1) (s_cons (s_v 2) s_nil))) (gs_cons 4 nd (gs_cons 5 nd gs_nil))) (b_cons (x_ret (s_mk O (s_cons (s_v 3) (s_cons (s_v 4) (s_cons (s_v 5) s_nil))))) b_nil))))
theorem sc_Elaborator_core_and_type : FnScope ["self", "expression", "scope", "name", "given", "body", "inner", "own", "result", "bound", "outer", "rule", "found", "part"] ["self", "expression", "scope"] (defScope st_Elaborator_core_and_type) := ⟨rfl, rfl, rfl, by decide +kernel, rfl, by decide +kernel, by decide +kernel⟩
theorem d_Elaborator_core_and_type {P : Program} {w : World} {K : PySem.W.Frag} {mg : Str → Option Value} {base : Heap} {ad : Str → Addr} {d : Nat} {f : Addr} (X : Cx) (cdv : Value) (A : Around) (outer : List PySem.Env) (s : Shared) (H : Hp) (E : XK) (hX : X = cxOf (L2.CX P w) P w K mg base ["self", "expression", "scope", "name", "given", "body", "inner", "own", "result", "bound", "outer", "rule", "found", "part"] "Elaborator.core_and_type" (defScope st_Elaborator_core_and_type) f cdv A outer s H E) (O : Ok X pg nm ad d E) : PSs X (defBody st_Elaborator_core_and_type) (tB X (pg.cal d) E T_Elaborator_core_and_type) := by
  subst hX
  have nd := sc_Elaborator_core_and_type.nd
  exact (b_cons (x_match (s_v 1) (c_cons O.calm nd (PtOk.seq (PisOk.lit (PisOk.cap (i := 3) rfl (by first | exact Or.inl rfl | exact Or.inr rfl) (by first | exact .inl rfl | exact .inr rfl) PisOk.nil)) rfl rfl) (b_cons (x_if (s_tdhasNo O (s_v 3) (s_v 2)) (b_cons (x_raise O "name" (s_v 3)) b_nil) b_nil) (b_cons (x_ret (s_tup (s_cons (s_v 1) (s_cons (s_dat O (s_v 2) (s_v 3)) s_nil)))) b_nil)) (c_cons O.calm nd (PtOk.seq (PisOk.lit (PisOk.cap (i := 3) rfl (by first | exact Or.inl rfl | exact Or.inr rfl) (by first | exact .inl rfl | exact .inr rfl) (PisOk.cap (i := 4) rfl (by first | exact Or.inl rfl | exact Or.inr rfl) (by first | exact .inl rfl | exact .inr rfl) (PisOk.cap (i := 5) rfl (by first | exact Or.inl rfl | exact Or.inr rfl) (by first | exact .inl rfl | exact .inr rfl) PisOk.nil)))) rfl rfl) (b_cons (x_set 6 nd (s_meth O "Elaborator" (s_v 0) (s_cons (s_v 5) (s_cons (s_dm1 (s_v 2) (s_v 3) (s_v 4)) s_nil)))) (b_cons (x_ret (s_tup (s_cons (s_tup (s_cons s_str (s_cons (s_v 3) (s_cons (s_v 4) (s_cons (s_fld O "Part" (s_v 6)) s_nil))))) (s_cons (s_tup (s_cons s_str (s_cons (s_v 4) (s_cons (s_fld O "Part" (s_v 6)) s_nil)))) s_nil)))) b_nil)) (c_cons O.calm nd (PtOk.seq (PisOk.lit (PisOk.cap (i := 7) rfl (by first | exact Or.inl rfl | exact Or.inr rfl) (by first | exact .inl rfl | exact .inr rfl) (PisOk.cap (i := 3) rfl (by first | exact Or.inl rfl | exact Or.inr rfl) (by first | exact .inl rfl | exact .inr rfl) (PisOk.cap (i := 4) rfl (by first | exact Or.inl rfl | exact Or.inr rfl) (by first | exact .inl rfl | exact .inr rfl) (PisOk.cap (i := 8) rfl (by first | exact Or.inl rfl | exact Or.inr rfl) (by first | exact .inl rfl | exact .inr rfl) (PisOk.cap (i := 5) rfl (by first | exact Or.inl rfl | exact Or.inr rfl) (by first | exact .inl rfl | exact .inr rfl) PisOk.nil)))))) rfl rfl) (b_cons (x_set 6 nd (s_meth O "Elaborator" (s_v 0) (s_cons (s_v 5) (s_cons (s_dm2 (s_v 2) (s_v 7) (s_tup (s_cons s_str (s_cons (s_v 4) (s_cons (s_v 8) s_nil)))) (s_v 3) (s_v 4)) s_nil)))) (b_cons (x_ret (s_tup (s_cons (s_tup (s_cons s_str (s_cons (s_v 7) (s_cons (s_v 3) (s_cons (s_v 4) (s_cons (s_v 8) (s_cons (s_call O (s_cons (s_v 6) (s_cons (s_v 8) s_nil))) s_nil))))))) (s_cons (s_tup (s_cons s_str (s_cons (s_v 4) (s_cons (s_v 8) s_nil)))) s_nil)))) b_nil)) (c_cons O.calm nd (PtOk.seq (PisOk.lit (PisOk.cap (i := 3) rfl (by first | exact Or.inl rfl | exact Or.inr rfl) (by first | exact .inl rfl | exact .inr rfl) (PisOk.cap (i := 9) rfl (by first | exact Or.inl rfl | exact Or.inr rfl) (by first | exact .inl rfl | exact .inr rfl) (PisOk.cap (i := 5) rfl (by first | exact Or.inl rfl | exact Or.inr rfl) (by first | exact .inl rfl | exact .inr rfl) PisOk.nil)))) rfl rfl) (b_cons (x_set 10 nd (s_meth O "Elaborator" (s_v 0) (s_cons (s_v 9) (s_cons (s_v 2) s_nil)))) (b_cons (x_set 6 nd (s_meth O "Elaborator" (s_v 0) (s_cons (s_v 5) (s_cons (s_dm1 (s_v 2) (s_v 3) (s_fld O "Part" (s_v 10))) s_nil)))) (b_cons (x_ret (s_tup (s_cons (s_tup (s_cons s_str (s_cons (s_v 3) (s_cons (s_fld O "Part" (s_v 10)) (s_cons (s_fld O "Part" (s_v 6)) s_nil))))) (s_cons (s_fld O "Part" (s_v 6)) s_nil)))) b_nil))) (c_cons O.calm nd PtOk.wild (b_cons (x_set 11 nd (s_gfn O (s_ix (s_v 1) s_int))) (b_cons (x_setLc O 12 false [(("part" : Str), 13)] nd (s_call O (s_cons (s_v 1) s_nil)) (blkOk_by (N := ["self", "expression", "scope", "name", "given", "body", "inner", "own", "result", "bound", "outer", "rule", "found", "part"]) (sc := defScope st_Elaborator_core_and_type) (by decide +kernel)) (fun _ _ _ _ _ => g_name 13 nd) (fun _ _ _ _ _ => t_tt) (fun _ _ _ _ _ => (s_meth (O.blk) "Elaborator" (s_v 0) (s_cons (s_v 13) (s_cons (s_v 2) s_nil)))) (sw_true rfl rfl rfl (by decide +kernel))) (b_cons (x_ret (s_callv O (s_v 11) (s_cons (s_v 1) (s_star (s_v 12) s_nil)))) b_nil))) c_nil)))))) b_nil)
theorem sc_Evaluation__init_ : NdefX.NScope ["self", "casting", "core", "calls", "__class__"] ["self", "casting", "core", "calls"] ["__class__"] (defScope st_Evaluation__init_) := NdefX.nscope_by (by decide +kernel)
theorem d_Evaluation__init_ {P : Program} {w : World} {K : PySem.W.Frag} {mg : Str → Option Value} {base : Heap} {ad : Str → Addr} {d : Nat} {f : Addr} (X : Cx) (cc cda : Addr) (A : Around) (outer : List PySem.Env) (s : Shared) (H : Hp) (E : XK) (hX : X = NdefX.ncx (L2.CX P w) P w K mg base ["self", "casting", "core", "calls", "__class__"] (nfS "__init__" "Evaluation.__init__" st_Evaluation__init_ cc cda) f A outer s H E) (O : Ok X pg nm ad d E) (Z : SupX X (ad "Evaluation") 0) : PZs X (defBody st_Evaluation__init_) (tB X (pg.cal d) E T_Evaluation__init_) := by
  subst hX
  have nd := sc_Evaluation__init_.nd
  exact (z_sup O "Evaluation" Z (s_cons (s_v 1) (s_cons (s_v 3) s_nil)) (z_cons (x_fset O "Evaluation" (s_v 0) (s_v 2)) (z_cons (x_fset O "Evaluation" (s_v 0) (s_lst s_nil)) (z_cons (x_fset O "Evaluation" (s_v 0) s_non) (z_of b_nil)))))
theorem sc_Evaluation_of_Run__init_ : FnScope ["self", "casting", "calls"] ["self", "casting", "calls"] (defScope st_Evaluation_of_Run__init_) := ⟨rfl, rfl, rfl, by decide +kernel, rfl, by decide +kernel, by decide +kernel⟩
theorem d_Evaluation_of_Run__init_ {P : Program} {w : World} {K : PySem.W.Frag} {mg : Str → Option Value} {base : Heap} {ad : Str → Addr} {d : Nat} {f : Addr} (X : Cx) (cdv : Value) (A : Around) (outer : List PySem.Env) (s : Shared) (H : Hp) (E : XK) (hX : X = cxOf (L2.CX P w) P w K mg base ["self", "casting", "calls"] "Run.__init__" (defScope st_Evaluation_of_Run__init_) f cdv A outer s H E) (O : Ok X pg nm ad d E) : PSs X (defBody st_Evaluation_of_Run__init_) (tB X (pg.cal d) E T_Evaluation_of_Run__init_) := by
  subst hX
  have nd := sc_Evaluation_of_Run__init_.nd
  exact (b_cons (x_fset O "Evaluation" (s_v 0) (s_v 1)) (b_cons (x_fset O "Evaluation" (s_v 0) (s_v 2)) (b_cons (x_fset O "Evaluation" (s_v 0) (s_lst s_nil)) b_nil)))
theorem sc_Evaluation_last_value : FnScope ["self"] ["self"] (defScope st_Evaluation_last_value) := ⟨rfl, rfl, rfl, by decide +kernel, rfl, by decide +kernel, by decide +kernel⟩
theorem d_Evaluation_last_value {P : Program} {w : World} {K : PySem.W.Frag} {mg : Str → Option Value} {base : Heap} {ad : Str → Addr} {d : Nat} {f : Addr} (X : Cx) (cdv : Value) (A : Around) (outer : List PySem.Env) (s : Shared) (H : Hp) (E : XK) (hX : X = cxOf (L2.CX P w) P w K mg base ["self"] "Evaluation.last_value" (defScope st_Evaluation_last_value) f cdv A outer s H E) (O : Ok X pg nm ad d E) : PSs X (defBody st_Evaluation_last_value) (tB X (pg.cal d) E T_Evaluation_last_value) := by
  subst hX
  have nd := sc_Evaluation_last_value.nd
  exact (b_cons (x_ex (s_meth O "Evaluation" (s_v 0) (s_cons (s_fld O "Evaluation" (s_v 0)) (s_cons s_dnew (s_cons s_non s_nil))))) (b_cons (x_while O (s_tt (s_fld O "Evaluation" (s_v 0))) (b_cons (x_ex (s_meth0 O "Evaluation" (s_v 0))) b_nil)) (b_cons (x_ret (s_fld O "Evaluation" (s_v 0))) b_nil)))
theorem sc_Evaluation_begin : FnScope ["self", "core", "scope", "pending"] ["self", "core", "scope", "pending"] (defScope st_Evaluation_begin) := ⟨rfl, rfl, rfl, by decide +kernel, rfl, by decide +kernel, by decide +kernel⟩
theorem d_Evaluation_begin {P : Program} {w : World} {K : PySem.W.Frag} {mg : Str → Option Value} {base : Heap} {ad : Str → Addr} {d : Nat} {f : Addr} (X : Cx) (cdv : Value) (A : Around) (outer : List PySem.Env) (s : Shared) (H : Hp) (E : XK) (hX : X = cxOf (L2.CX P w) P w K mg base ["self", "core", "scope", "pending"] "Evaluation.begin" (defScope st_Evaluation_begin) f cdv A outer s H E) (O : Ok X pg nm ad d E) : PSs X (defBody st_Evaluation_begin) (tB X (pg.cal d) E T_Evaluation_begin) := by
  subst hX
  have nd := sc_Evaluation_begin.nd
  exact (b_cons (x_ex (s_bm .append rfl PySem.F.plainAttrs_list PySem.F.slot_list_append PySem.F.type_list_append bm_append (s_fld O "Evaluation" (s_v 0)) (s_cons (s_mk O (s_cons (s_v 1) (s_cons (s_v 2) (s_cons (s_v 3) s_nil)))) s_nil))) b_nil)
theorem sc_Evaluation_step : FnScope ["self", "last"] ["self"] (defScope st_Evaluation_step) := ⟨rfl, rfl, rfl, by decide +kernel, rfl, by decide +kernel, by decide +kernel⟩
theorem d_Evaluation_step {P : Program} {w : World} {K : PySem.W.Frag} {mg : Str → Option Value} {base : Heap} {ad : Str → Addr} {d : Nat} {f : Addr} (X : Cx) (cdv : Value) (A : Around) (outer : List PySem.Env) (s : Shared) (H : Hp) (E : XK) (hX : X = cxOf (L2.CX P w) P w K mg base ["self", "last"] "Evaluation.step" (defScope st_Evaluation_step) f cdv A outer s H E) (O : Ok X pg nm ad d E) : PSs X (defBody st_Evaluation_step) (tB X (pg.cal d) E T_Evaluation_step) := by
  subst hX
  have nd := sc_Evaluation_step.nd
  exact (b_cons (x_set 1 nd (s_ix (s_fld O "Evaluation" (s_v 0)) (s_neg s_int))) (b_cons (x_if (s_tcmp O .lt (s_bfB O .len cf_len (by decide +kernel) (s_cons (s_fld O "Frame" (s_v 1)) s_nil)) (s_bfB O .len cf_len (by decide +kernel) (s_cons (s_fld O "Frame" (s_v 1)) s_nil))) (b_cons (x_ex (s_meth O "Evaluation" (s_v 0) (s_cons (s_ix (s_fld O "Frame" (s_v 1)) (s_bfB O .len cf_len (by decide +kernel) (s_cons (s_fld O "Frame" (s_v 1)) s_nil))) (s_cons (s_fld O "Frame" (s_v 1)) (s_cons s_non s_nil))))) b_nil) (b_cons (x_ex (s_bm0 .pop rfl PySem.F.plainAttrs_list PySem.F.slot_list_pop PySem.F.type_list_pop bm_pop (s_fld O "Evaluation" (s_v 0)))) (b_cons (x_ex (s_meth O "Evaluation" (s_v 0) (s_cons (s_v 1) s_nil))) b_nil))) b_nil))
theorem sc_Evaluation_go_on : FnScope ["self", "frame", "number", "source", "target", "part", "by", "name", "body", "first", "second"] ["self", "frame"] (defScope st_Evaluation_go_on) := ⟨rfl, rfl, rfl, by decide +kernel, rfl, by decide +kernel, by decide +kernel⟩
theorem d_Evaluation_go_on {P : Program} {w : World} {K : PySem.W.Frag} {mg : Str → Option Value} {base : Heap} {ad : Str → Addr} {d : Nat} {f : Addr} (X : Cx) (cdv : Value) (A : Around) (outer : List PySem.Env) (s : Shared) (H : Hp) (E : XK) (hX : X = cxOf (L2.CX P w) P w K mg base ["self", "frame", "number", "source", "target", "part", "by", "name", "body", "first", "second"] "Evaluation.go_on" (defScope st_Evaluation_go_on) f cdv A outer s H E) (O : Ok X pg nm ad d E) : PSs X (defBody st_Evaluation_go_on) (tB X (pg.cal d) E T_Evaluation_go_on) := by
  subst hX
  have nd := sc_Evaluation_go_on.nd
  exact (b_cons (x_match (s_fld O "Frame" (s_v 1)) (c_cons O.calm nd (PtOk.seq (PisOk.lit (PisOk.cap (i := 2) rfl (by first | exact Or.inl rfl | exact Or.inr rfl) (by first | exact .inl rfl | exact .inr rfl) (PisOk.cap (i := 3) rfl (by first | exact Or.inl rfl | exact Or.inr rfl) (by first | exact .inl rfl | exact .inr rfl) (PisOk.cap (i := 4) rfl (by first | exact Or.inl rfl | exact Or.inr rfl) (by first | exact .inl rfl | exact .inr rfl) (PisOk.cap (i := 5) rfl (by first | exact Or.inl rfl | exact Or.inr rfl) (by first | exact .inl rfl | exact .inr rfl) PisOk.nil))))) rfl rfl) (b_cons (x_set 6 nd (s_meth O "Casts" (s_fld O "Evaluation" (s_v 0)) (s_cons (s_v 2) (s_cons (s_v 3) (s_cons (s_v 4) s_nil))))) (b_cons (x_ex (s_meth O "Evaluation" (s_v 0) (s_cons (s_v 5) (s_cons (s_fld O "Frame" (s_v 1)) (s_cons (s_meth O "Casts" (s_fld O "Evaluation" (s_v 0)) (s_cons (s_v 6) (s_cons (s_fld O "Frame" (s_v 1)) s_nil))) s_nil))))) b_nil)) (c_cons O.calm nd (PtOk.seq (PisOk.lit (PisOk.cap (i := 7) rfl (by first | exact Or.inl rfl | exact Or.inr rfl) (by first | exact .inl rfl | exact .inr rfl) (PisOk.wild (PisOk.cap (i := 8) rfl (by first | exact Or.inl rfl | exact Or.inr rfl) (by first | exact .inl rfl | exact .inr rfl) PisOk.nil)))) rfl rfl) (b_cons (x_ex (s_meth O "Evaluation" (s_v 0) (s_cons (s_v 8) (s_cons (s_dm1 (s_fld O "Frame" (s_v 1)) (s_v 7) (s_ix (s_fld O "Frame" (s_v 1)) s_int)) (s_cons (s_fld O "Frame" (s_v 1)) s_nil))))) b_nil) (c_cons O.calm nd (PtOk.seq (PisOk.lit (PisOk.wild (PisOk.cap (i := 9) rfl (by first | exact Or.inl rfl | exact Or.inr rfl) (by first | exact .inl rfl | exact .inr rfl) (PisOk.cap (i := 10) rfl (by first | exact Or.inl rfl | exact Or.inr rfl) (by first | exact .inl rfl | exact .inr rfl) PisOk.nil)))) rfl rfl) (b_cons (x_ex (s_meth O "Evaluation" (s_v 0) (s_cons (s_ife (s_tt (s_ix (s_fld O "Frame" (s_v 1)) s_int)) (s_v 9) (s_v 10)) (s_cons (s_fld O "Frame" (s_v 1)) (s_cons (s_fld O "Frame" (s_v 1)) s_nil))))) b_nil) (c_cons O.calm nd (PtOk.seq (PisOk.lit (PisOk.wild (PisOk.cap (i := 8) rfl (by first | exact Or.inl rfl | exact Or.inr rfl) (by first | exact .inl rfl | exact .inr rfl) PisOk.nil))) rfl rfl) (b_cons (x_ex (s_bm .append rfl PySem.F.plainAttrs_list PySem.F.slot_list_append PySem.F.type_list_append bm_append (s_fld O "Evaluation" (s_v 0)) (s_cons (s_ix (s_fld O "Frame" (s_v 1)) s_int) s_nil))) (b_cons (x_ex (s_meth O "Evaluation" (s_v 0) (s_cons (s_v 8) (s_cons (s_fld O "Frame" (s_v 1)) (s_cons (s_fld O "Frame" (s_v 1)) s_nil))))) b_nil)) (c_cons O.calm nd (PtOk.seq (PisOk.lit (PisOk.wild (PisOk.wild PisOk.nil))) rfl rfl) (b_cons (x_ex (s_meth O "Evaluation" (s_v 0) (s_cons (s_ix (s_fld O "Frame" (s_v 1)) s_int) (s_cons (s_ix (s_fld O "Frame" (s_v 1)) s_int) (s_cons (s_fld O "Frame" (s_v 1)) s_nil))))) b_nil) (c_cons O.calm nd PtOk.wild (b_cons (x_ex (s_meth O "Evaluation" (s_v 0) (s_cons (s_meth O "Casts" (s_fld O "Evaluation" (s_v 0)) (s_cons (s_fld O "Frame" (s_v 1)) (s_cons (s_meth O "Evaluation" (s_v 0) (s_cons (s_v 1) s_nil)) s_nil))) s_nil))) b_nil) c_nil))))))) b_nil)
theorem sc_Evaluation_call : FnScope ["self", "function", "argument", "pending", "inner"] ["self", "function", "argument", "pending"] (defScope st_Evaluation_call) := ⟨rfl, rfl, rfl, by decide +kernel, rfl, by decide +kernel, by decide +kernel⟩
theorem d_Evaluation_call {P : Program} {w : World} {K : PySem.W.Frag} {mg : Str → Option Value} {base : Heap} {ad : Str → Addr} {d : Nat} {f : Addr} (X : Cx) (cdv : Value) (A : Around) (outer : List PySem.Env) (s : Shared) (H : Hp) (E : XK) (hX : X = cxOf (L2.CX P w) P w K mg base ["self", "function", "argument", "pending", "inner"] "Evaluation.call" (defScope st_Evaluation_call) f cdv A outer s H E) (O : Ok X pg nm ad d E) : PSs X (defBody st_Evaluation_call) (tB X (pg.cal d) E T_Evaluation_call) := by
  subst hX
  have nd := sc_Evaluation_call.nd
  exact (b_cons (x_tup rfl (s_call O (s_cons (s_fld O "Evaluation" (s_v 0)) (s_cons (s_v 1) (s_cons (s_v 2) (s_cons (s_v 3) s_nil))))) (gs_cons 4 nd (gs_cons 2 nd (gs_cons 3 nd gs_nil)))) (b_cons (x_ex (s_meth O "Evaluation" (s_v 0) (s_cons (s_fld O "Function" (s_v 4)) (s_cons (s_meth O "Function" (s_v 4) (s_cons (s_v 2) s_nil)) (s_cons (s_v 3) s_nil))))) (b_cons (x_ex (s_meth0 O "Evaluation" (s_v 0))) b_nil)))
theorem sc_Evaluation_give : FnScope ["self", "value"] ["self", "value"] (defScope st_Evaluation_give) := ⟨rfl, rfl, rfl, by decide +kernel, rfl, by decide +kernel, by decide +kernel⟩
theorem d_Evaluation_give {P : Program} {w : World} {K : PySem.W.Frag} {mg : Str → Option Value} {base : Heap} {ad : Str → Addr} {d : Nat} {f : Addr} (X : Cx) (cdv : Value) (A : Around) (outer : List PySem.Env) (s : Shared) (H : Hp) (E : XK) (hX : X = cxOf (L2.CX P w) P w K mg base ["self", "value"] "Evaluation.give" (defScope st_Evaluation_give) f cdv A outer s H E) (O : Ok X pg nm ad d E) : PSs X (defBody st_Evaluation_give) (tB X (pg.cal d) E T_Evaluation_give) := by
  subst hX
  have nd := sc_Evaluation_give.nd
  exact (b_cons (x_if (s_tt (s_fld O "Evaluation" (s_v 0))) (b_cons (x_ex (s_bm .append rfl PySem.F.plainAttrs_list PySem.F.slot_list_append PySem.F.type_list_append bm_append (s_fld O "Frame" (s_ix (s_fld O "Evaluation" (s_v 0)) (s_neg s_int))) (s_cons (s_v 1) s_nil))) b_nil) (b_cons (x_fset O "Evaluation" (s_v 0) (s_v 1)) b_nil)) b_nil)
theorem sc_Evaluation_value_of : FnScope ["self", "frame", "number", "flag", "name", "body", "own"] ["self", "frame"] (defScope st_Evaluation_value_of) := ⟨rfl, rfl, rfl, by decide +kernel, rfl, by decide +kernel, by decide +kernel⟩
theorem d_Evaluation_value_of {P : Program} {w : World} {K : PySem.W.Frag} {mg : Str → Option Value} {base : Heap} {ad : Str → Addr} {d : Nat} {f : Addr} (X : Cx) (cdv : Value) (A : Around) (outer : List PySem.Env) (s : Shared) (H : Hp) (E : XK) (hX : X = cxOf (L2.CX P w) P w K mg base ["self", "frame", "number", "flag", "name", "body", "own"] "Evaluation.value_of" (defScope st_Evaluation_value_of) f cdv A outer s H E) (O : Ok X pg nm ad d E) : PSs X (defBody st_Evaluation_value_of) (tB X (pg.cal d) E T_Evaluation_value_of) := by
  subst hX
  have nd := sc_Evaluation_value_of.nd
  exact (b_cons (x_match (s_fld O "Frame" (s_v 1)) (c_cons O.calm nd (PtOk.seq (PisOk.lit (PisOk.cap (i := 2) rfl (by first | exact Or.inl rfl | exact Or.inr rfl) (by first | exact .inl rfl | exact .inr rfl) PisOk.nil)) rfl rfl) (b_cons (x_ret (s_v 2)) b_nil) (c_cons O.calm nd (PtOk.seq (PisOk.lit (PisOk.cap (i := 3) rfl (by first | exact Or.inl rfl | exact Or.inr rfl) (by first | exact .inl rfl | exact .inr rfl) PisOk.nil)) rfl rfl) (b_cons (x_ret (s_v 3)) b_nil) (c_cons O.calm nd (PtOk.seq (PisOk.lit PisOk.nil) rfl rfl) (b_cons (x_ret s_non) b_nil) (c_cons O.calm nd (PtOk.seq (PisOk.lit (PisOk.cap (i := 4) rfl (by first | exact Or.inl rfl | exact Or.inr rfl) (by first | exact .inl rfl | exact .inr rfl) PisOk.nil)) rfl rfl) (b_cons (x_ret (s_dat O (s_fld O "Frame" (s_v 1)) (s_v 4))) b_nil) (c_cons O.calm nd (PtOk.seq (PisOk.lit (PisOk.cap (i := 4) rfl (by first | exact Or.inl rfl | exact Or.inr rfl) (by first | exact .inl rfl | exact .inr rfl) (PisOk.wild (PisOk.cap (i := 5) rfl (by first | exact Or.inl rfl | exact Or.inr rfl) (by first | exact .inl rfl | exact .inr rfl) PisOk.nil)))) rfl rfl) (b_cons (x_ret (s_mk O (s_cons s_non (s_cons (s_v 4) (s_cons (s_v 5) (s_cons (s_fld O "Frame" (s_v 1)) s_nil)))))) b_nil) (c_cons O.calm nd (PtOk.seq (PisOk.lit (PisOk.cap (i := 6) rfl (by first | exact Or.inl rfl | exact Or.inr rfl) (by first | exact .inl rfl | exact .inr rfl) (PisOk.cap (i := 4) rfl (by first | exact Or.inl rfl | exact Or.inr rfl) (by first | exact .inl rfl | exact .inr rfl) (PisOk.wild (PisOk.wild (PisOk.cap (i := 5) rfl (by first | exact Or.inl rfl | exact Or.inr rfl) (by first | exact .inl rfl | exact .inr rfl) PisOk.nil)))))) rfl rfl) (b_cons (x_ret (s_mk O (s_cons (s_v 6) (s_cons (s_v 4) (s_cons (s_v 5) (s_cons (s_fld O "Frame" (s_v 1)) s_nil)))))) b_nil) (c_cons O.calm nd PtOk.wild (b_cons (x_ret (s_call O (s_cons (s_fld O "Evaluation" (s_v 0)) (s_cons (s_fld O "Frame" (s_v 1)) (s_cons (s_fld O "Frame" (s_v 1)) s_nil))))) b_nil) c_nil)))))))) b_nil)
theorem sc_Evaluation_enter : FnScope ["self"] ["self"] (defScope st_Evaluation_enter) := ⟨rfl, rfl, rfl, by decide +kernel, rfl, by decide +kernel, by decide +kernel⟩
theorem d_Evaluation_enter {P : Program} {w : World} {K : PySem.W.Frag} {mg : Str → Option Value} {base : Heap} {ad : Str → Addr} {d : Nat} {f : Addr} (X : Cx) (cdv : Value) (A : Around) (outer : List PySem.Env) (s : Shared) (H : Hp) (E : XK) (hX : X = cxOf (L2.CX P w) P w K mg base ["self"] "Run.enter" (defScope st_Evaluation_enter) f cdv A outer s H E) (O : Ok X pg nm ad d E) : PSs X (defBody st_Evaluation_enter) (tB X (pg.cal d) E T_Evaluation_enter) := by
  subst hX
  have nd := sc_Evaluation_enter.nd
  exact (b_cons (x_if (s_tcmp O .eq (s_fld O "Evaluation" (s_v 0)) s_int) (b_cons (x_raise O "end" (s_tup (s_cons s_str s_nil))) b_nil) b_nil) (b_cons (x_faug O .sub "Evaluation" (s_v 0) s_int) b_nil))
theorem sc_Evaluation_outcome : FnScope ["self", "end", "stopped"] ["self"] (defScope st_Evaluation_outcome) := ⟨rfl, rfl, rfl, by decide +kernel, rfl, by decide +kernel, by decide +kernel⟩
theorem d_Evaluation_outcome {P : Program} {w : World} {K : PySem.W.Frag} {mg : Str → Option Value} {base : Heap} {ad : Str → Addr} {d : Nat} {f : Addr} (X : Cx) (cdv : Value) (A : Around) (outer : List PySem.Env) (s : Shared) (H : Hp) (E : XK) (hX : X = cxOf (L2.CX P w) P w K mg base ["self", "end", "stopped"] "Run.outcome" (defScope st_Evaluation_outcome) f cdv A outer s H E) (O : Ok X pg nm ad d E) : PSs X (defBody st_Evaluation_outcome) (tB X (pg.cal d) E T_Evaluation_outcome) := by
  subst hX
  have nd := sc_Evaluation_outcome.nd
  exact (b_cons (x_tryf O 1 2 (p_tup (p_cons p_str (p_cons (p_call O (p_cons (p_meth0 O "Evaluation" (p_v 0)) p_nil)) p_nil))) nd) (b_cons (x_ret (s_tup (s_cons (s_bfT O .tup cf_tup (by decide +kernel) (s_cons (s_fld O "Evaluation" (s_v 0)) s_nil)) (s_cons (s_v 1) s_nil)))) b_nil))
theorem sc_Frame__init_ : FnScope ["self", "core", "scope", "pending"] ["self", "core", "scope", "pending"] (defScope st_Frame__init_) := ⟨rfl, rfl, rfl, by decide +kernel, rfl, by decide +kernel, by decide +kernel⟩
theorem d_Frame__init_ {P : Program} {w : World} {K : PySem.W.Frag} {mg : Str → Option Value} {base : Heap} {ad : Str → Addr} {d : Nat} {f : Addr} (X : Cx) (cdv : Value) (A : Around) (outer : List PySem.Env) (s : Shared) (H : Hp) (E : XK) (hX : X = cxOf (L2.CX P w) P w K mg base ["self", "core", "scope", "pending"] "Frame.__init__" (defScope st_Frame__init_) f cdv A outer s H E) (O : Ok X pg nm ad d E) : PSs X (defBody st_Frame__init_) (tB X (pg.cal d) E T_Frame__init_) := by
  subst hX
  have nd := sc_Frame__init_.nd
  exact (b_cons (x_fset O "Frame" (s_v 0) (s_v 1)) (b_cons (x_fset O "Frame" (s_v 0) (s_v 2)) (b_cons (x_fset O "Frame" (s_v 0) (s_v 3)) (b_cons (x_fset O "Frame" (s_v 0) (s_sl (s_call O (s_cons (s_v 1) s_nil)) s_no (s_so (s_gget O (s_ix (s_v 1) s_int) s_int)))) (b_cons (x_fset O "Frame" (s_v 0) (s_lst s_nil)) b_nil)))))
theorem sc_Function__init_ : FnScope ["self", "own", "name", "body", "scope"] ["self", "own", "name", "body", "scope"] (defScope st_Function__init_) := ⟨rfl, rfl, rfl, by decide +kernel, rfl, by decide +kernel, by decide +kernel⟩
theorem d_Function__init_ {P : Program} {w : World} {K : PySem.W.Frag} {mg : Str → Option Value} {base : Heap} {ad : Str → Addr} {d : Nat} {f : Addr} (X : Cx) (cdv : Value) (A : Around) (outer : List PySem.Env) (s : Shared) (H : Hp) (E : XK) (hX : X = cxOf (L2.CX P w) P w K mg base ["self", "own", "name", "body", "scope"] "Function.__init__" (defScope st_Function__init_) f cdv A outer s H E) (O : Ok X pg nm ad d E) : PSs X (defBody st_Function__init_) (tB X (pg.cal d) E T_Function__init_) := by
  subst hX
  have nd := sc_Function__init_.nd
  exact (b_cons (x_fset O "Function" (s_v 0) (s_v 1)) (b_cons (x_fset O "Function" (s_v 0) (s_v 2)) (b_cons (x_fset O "Function" (s_v 0) (s_v 3)) (b_cons (x_fset O "Function" (s_v 0) (s_v 4)) b_nil))))
theorem sc_Function_scope_with : FnScope ["self", "argument", "scope"] ["self", "argument"] (defScope st_Function_scope_with) := ⟨rfl, rfl, rfl, by decide +kernel, rfl, by decide +kernel, by decide +kernel⟩
theorem d_Function_scope_with {P : Program} {w : World} {K : PySem.W.Frag} {mg : Str → Option Value} {base : Heap} {ad : Str → Addr} {d : Nat} {f : Addr} (X : Cx) (cdv : Value) (A : Around) (outer : List PySem.Env) (s : Shared) (H : Hp) (E : XK) (hX : X = cxOf (L2.CX P w) P w K mg base ["self", "argument", "scope"] "Function.scope_with" (defScope st_Function_scope_with) f cdv A outer s H E) (O : Ok X pg nm ad d E) : PSs X (defBody st_Function_scope_with) (tB X (pg.cal d) E T_Function_scope_with) := by
  subst hX
  have nd := sc_Function_scope_with.nd
  exact (b_cons (x_set 2 nd (s_dcp O (s_fld O "Function" (s_v 0)))) (b_cons (x_if (s_tcmp O .isNotN (s_fld O "Function" (s_v 0)) s_non) (b_cons (x_dset O (s_v 2) (s_fld O "Function" (s_v 0)) (s_v 0)) b_nil) b_nil) (b_cons (x_dset O (s_v 2) (s_fld O "Function" (s_v 0)) (s_v 1)) (b_cons (x_ret (s_v 2)) b_nil))))
theorem sc_Injected__init_ : FnScope ["self", "inside", "name"] ["self", "inside", "name"] (defScope st_Injected__init_) := ⟨rfl, rfl, rfl, by decide +kernel, rfl, by decide +kernel, by decide +kernel⟩
theorem d_Injected__init_ {P : Program} {w : World} {K : PySem.W.Frag} {mg : Str → Option Value} {base : Heap} {ad : Str → Addr} {d : Nat} {f : Addr} (X : Cx) (cdv : Value) (A : Around) (outer : List PySem.Env) (s : Shared) (H : Hp) (E : XK) (hX : X = cxOf (L2.CX P w) P w K mg base ["self", "inside", "name"] "Injected.__init__" (defScope st_Injected__init_) f cdv A outer s H E) (O : Ok X pg nm ad d E) : PSs X (defBody st_Injected__init_) (tB X (pg.cal d) E T_Injected__init_) := by
  subst hX
  have nd := sc_Injected__init_.nd
  exact (b_cons (x_fset O "Injected" (s_v 0) (s_v 1)) (b_cons (x_fset O "Injected" (s_v 0) (s_v 2)) b_nil))
theorem sc_Part__init_ : FnScope ["self", "number", "core", "of_type"] ["self", "number", "core", "of_type"] (defScope st_Part__init_) := ⟨rfl, rfl, rfl, by decide +kernel, rfl, by decide +kernel, by decide +kernel⟩
theorem d_Part__init_ {P : Program} {w : World} {K : PySem.W.Frag} {mg : Str → Option Value} {base : Heap} {ad : Str → Addr} {d : Nat} {f : Addr} (X : Cx) (cdv : Value) (A : Around) (outer : List PySem.Env) (s : Shared) (H : Hp) (E : XK) (hX : X = cxOf (L2.CX P w) P w K mg base ["self", "number", "core", "of_type"] "Part.__init__" (defScope st_Part__init_) f cdv A outer s H E) (O : Ok X pg nm ad d E) : PSs X (defBody st_Part__init_) (tB X (pg.cal d) E T_Part__init_) := by
  subst hX
  have nd := sc_Part__init_.nd
  exact (b_cons (x_fset O "Part" (s_v 0) (s_v 1)) (b_cons (x_fset O "Part" (s_v 0) (s_v 2)) (b_cons (x_fset O "Part" (s_v 0) (s_v 3)) b_nil)))
theorem sc_Wrapped__init_ : FnScope ["self", "inside", "by"] ["self", "inside", "by"] (defScope st_Wrapped__init_) := ⟨rfl, rfl, rfl, by decide +kernel, rfl, by decide +kernel, by decide +kernel⟩
theorem d_Wrapped__init_ {P : Program} {w : World} {K : PySem.W.Frag} {mg : Str → Option Value} {base : Heap} {ad : Str → Addr} {d : Nat} {f : Addr} (X : Cx) (cdv : Value) (A : Around) (outer : List PySem.Env) (s : Shared) (H : Hp) (E : XK) (hX : X = cxOf (L2.CX P w) P w K mg base ["self", "inside", "by"] "Wrapped.__init__" (defScope st_Wrapped__init_) f cdv A outer s H E) (O : Ok X pg nm ad d E) : PSs X (defBody st_Wrapped__init_) (tB X (pg.cal d) E T_Wrapped__init_) := by
  subst hX
  have nd := sc_Wrapped__init_.nd
  exact (b_cons (x_fset O "Wrapped" (s_v 0) (s_v 1)) (b_cons (x_fset O "Wrapped" (s_v 0) (s_v 2)) b_nil))
end Pr
end
section
set_option maxHeartbeats 4000000
namespace Pr
open PySem L2 Oz
variable {S S' : Sto} {d : Nat}
theorem call_eq {f : Str} {df : Df} (h : tbl.lookup f = some (.inl df)) (d : Nat) (us : List U) (S : Sto) : (pg.cal (d + 1)).call f us S = df.run (pg.cal d) us S := by
  show (match tbl.lookup f with | some (.inl df) => df.run (pg.cal d) us S | some (.inr g) => g (pg.cal d) us S | none => R.bad) = _
  rw [h]
theorem run_eq {np nn : Nat} {b : Sts} {Φ : Cal} {us : List U} {S : Sto} (h : us.length = np) : (⟨np, nn, false, b⟩ : Df).run Φ us S = (exs Φ b (us.map some ++ List.replicate (nn - np) none) S).fin := by
  unfold Df.run bindU startU
  subst h
  rw [if_neg (show ¬ (false = true) from Bool.false_ne_true), if_pos rfl]
inductive Ty where
  | any | int | bool | unit | fn (a b : Ty) | bx (a : Ty)
  deriving DecidableEq
namespace Ty
noncomputable def hd : Ty → Str
  | any => "any" | int => "int" | bool => "bool" | unit => "unit" | fn _ _ => "fun" | bx _ => "box"
noncomputable def pt : Ty → List Ty
  | fn a b => [a, b] | bx a => [a] | _ => []
noncomputable def kd : Ty → Nat
  | any => 0 | int => 1 | bool => 2 | unit => 3 | fn _ _ => 4 | bx _ => 6
noncomputable def dep : Ty → Nat
  | fn a b => 1 + max a.dep b.dep | bx a => 1 + a.dep | _ => 1
theorem dep_pos (t : Ty) : 1 ≤ t.dep := by cases t <;> simp [dep] <;> omega
theorem dep_pt {t p : Ty} (h : p ∈ t.pt) : p.dep < t.dep := by
  cases t <;> simp [pt] at h <;> (try rcases h with rfl | rfl) <;> (try subst h) <;> simp [dep] <;> omega
theorem pt_len (t : Ty) : t.pt.length ≤ 2 := by cases t <;> simp [pt]
noncomputable def nmK : Nat → Str
  | 0 => "any" | 1 => "int" | 2 => "bool" | 3 => "unit" | 4 => "fun" | 5 => "pair" | _ => "box"
theorem nm_inj : ∀ i j : Fin 7, nmK i = nmK j → i = j := by decide +kernel
theorem hd_nm (t : Ty) : t.hd = nmK t.kd := by cases t <;> rfl
theorem kd_lt (t : Ty) : t.kd < 7 := by cases t <;> simp [kd]
theorem hd_kd (a b : Ty) : a.hd = b.hd ↔ a.kd = b.kd := by
  rw [hd_nm, hd_nm]
  constructor
  · intro h
    have := nm_inj ⟨a.kd, a.kd_lt⟩ ⟨b.kd, b.kd_lt⟩ h
    exact congrArg Fin.val this
  · intro h
    rw [h]
end Ty
noncomputable def tu : Ty → U
  | .any => .tup [.str "any"] | .int => .tup [.str "int"] | .bool => .tup [.str "bool"] | .unit => .tup [.str "unit"]
  | .fn a b => .tup [.str "fun", tu a, tu b] | .bx a => .tup [.str "box", tu a]
theorem tu_eq (t : Ty) : tu t = .tup (.str t.hd :: t.pt.map tu) := by cases t <;> rfl
theorem tu_inj : ∀ a b : Ty, tu a = tu b → a = b := by
  intro a
  induction a with
  | any => intro b h; cases b <;> first | rfl | (rw [tu_eq, tu_eq] at h; simp only [U.tup.injEq, List.cons.injEq, U.str.injEq, Ty.hd_kd] at h; exact absurd h.1 (by simp [Ty.kd]))
  | int => intro b h; cases b <;> first | rfl | (rw [tu_eq, tu_eq] at h; simp only [U.tup.injEq, List.cons.injEq, U.str.injEq, Ty.hd_kd] at h; exact absurd h.1 (by simp [Ty.kd]))
  | bool => intro b h; cases b <;> first | rfl | (rw [tu_eq, tu_eq] at h; simp only [U.tup.injEq, List.cons.injEq, U.str.injEq, Ty.hd_kd] at h; exact absurd h.1 (by simp [Ty.kd]))
  | unit => intro b h; cases b <;> first | rfl | (rw [tu_eq, tu_eq] at h; simp only [U.tup.injEq, List.cons.injEq, U.str.injEq, Ty.hd_kd] at h; exact absurd h.1 (by simp [Ty.kd]))
  | fn x y ih1 ih2 =>
    intro b h
    cases b with
    | fn x' y' =>
      simp only [tu, U.tup.injEq, List.cons.injEq, and_true, true_and] at h
      rw [ih1 _ h.1, ih2 _ h.2]
    | _ => rw [tu_eq, tu_eq] at h; simp only [U.tup.injEq, List.cons.injEq, U.str.injEq, Ty.hd_kd] at h; exact absurd h.1 (by simp [Ty.kd])
  | bx x ih1 =>
    intro b h
    cases b with
    | bx x' =>
      simp only [tu, U.tup.injEq, List.cons.injEq, and_true, true_and] at h
      rw [ih1 _ h]
    | _ => rw [tu_eq, tu_eq] at h; simp only [U.tup.injEq, List.cons.injEq, U.str.injEq, Ty.hd_kd] at h; exact absurd h.1 (by simp [Ty.kd])
theorem st_tu : ∀ t : Ty, stU (tu t) = true
  | .any => rfl | .int => rfl | .bool => rfl | .unit => rfl
  | .fn a b => by simp [tu, stU, stUs, st_tu a, st_tu b]
  | .bx a => by simp [tu, stU, stUs, st_tu a]
theorem pur_tu : ∀ t : Ty, purU (tu t) = true
  | .any => rfl | .int => rfl | .bool => rfl | .unit => rfl
  | .fn a b => by simp [tu, purU, purUs, pur_tu a, pur_tu b]
  | .bx a => by simp [tu, purU, purUs, pur_tu a]
theorem lay_tu : ∀ t : Ty, (pdU (tu t)).canLay0 = true
  | .any => by decide +kernel
  | .int => by decide +kernel
  | .bool => by decide +kernel
  | .unit => by decide +kernel
  | .fn a b => by simp [tu, pdU, pdUs, PyData.canLay0, PyData.canLayAll0, lay_tu a, lay_tu b]; decide +kernel
  | .bx a => by simp [tu, pdU, pdUs, PyData.canLay0, PyData.canLayAll0, lay_tu a]; decide +kernel
theorem dep_tu : ∀ t : Ty, (pdU (tu t)).depth ≤ t.dep + 1
  | .any => by decide +kernel
  | .int => by decide +kernel
  | .bool => by decide +kernel
  | .unit => by decide +kernel
  | .fn a b => by
    have := dep_tu a
    have := dep_tu b
    simp only [tu, pdU, pdUs, PyData.depth, PyData.depthAll, Ty.dep]
    omega
  | .bx a => by
    have := dep_tu a
    simp only [tu, pdU, pdUs, PyData.depth, PyData.depthAll, Ty.dep]
    omega
theorem ok_tu {t : Ty} (h : t.dep ≤ 20) : okU (tu t) = true := by
  have := dep_tu t
  unfold okU SeqAt.shaped
  rw [pur_tu, lay_tu, Bool.true_and, Bool.true_and]
  exact decide_eq_true (by omega)
theorem eqU_tu (a b : Ty) : eqU (tu a) (tu b) = decide (a = b) := by
  have h := eqU_st (tu a) (tu b) (st_tu a) (st_tu b)
  by_cases e : a = b
  · rw [e] at h ⊢
    rw [h.mpr rfl]
    simp
  · rw [decide_eq_false e]
    cases q : eqU (tu a) (tu b) with
    | false => rfl
    | true => exact absurd (tu_inj a b (h.mp q)) e
theorem eqR_tu {a b : Ty} (ha : a.dep ≤ 20) (hb : b.dep ≤ 20) : eqR (tu a) (tu b) S = some (decide (a = b)) := by
  have h1 := ok_tu ha
  have h2 := ok_tu hb
  have h3 := eqU_tu a b
  rw [tu_eq a, tu_eq b] at *
  rw [eqR_tup h1 h2, h3]
theorem c_eq {a b : Ty} (ha : a.dep ≤ 20) (hb : b.dep ≤ 20) : cmpU .eq (tu a) (tu b) S = .ok (.bl (decide (a = b))) S := by
  unfold cmpU cmpB
  rw [eqR_tu ha hb]
theorem ix_hd (t : Ty) : ixU (tu t) (.int 0) S = .ok (.str t.hd) S := by cases t <;> rfl
theorem sl_pt (t : Ty) : slU (tu t) (some 1) none S = .ok (.tup (t.pt.map tu)) S := by cases t <;> rfl
theorem len_tu (t : Ty) : bfU .len [tu t] S = .ok (.int ((1 + t.pt.length : Nat) : Int)) S := by cases t <;> rfl
theorem szle {n : Nat} (h : n ≤ 1000) : n ≤ sizeLine := Nat.le_trans h (by decide)
theorem g_ANY (d : Nat) : (pg.cal d).glo "ANY" = some (tu .any) := by rw [cal_glo]; rfl
end Pr
end
section
set_option maxHeartbeats 4000000
namespace Oz
open PySem L2
section
variable {S : Sto} {i j : Int}
theorem mod_int (h : 0 < j) : binU .mod (.int i) (.int j) S = .ok (.int (i % j)) S := if_pos h
theorem mul_int (h : CMul i j) : binU .mul (.int i) (.int j) S = .ok (.int (i * j)) S := if_pos h
theorem fdiv_int (h : CDiv i j) : binU .fdiv (.int i) (.int j) S = .ok (.int (i / j)) S := if_pos h
theorem int_int : bfU .int [.int i] S = .ok (.int i) S := rfl
theorem mul_r (h1 : -(2 ^ 64) < j) (h2 : j < 2 ^ 64) : CMul i j := .inr ⟨h1, h2⟩
end
end Oz
namespace Pr
open PySem L2 Oz
variable {S S' : Sto} {d : Nat}
theorem sz2 : (2 ≤ sizeLine) = True := by decide
theorem sz1 : (1 ≤ sizeLine) = True := by decide
theorem takes_eq {st cl : Nat} {most : Int} (hs : HasSt S st cl) (h0 : 0 < most) (h1 : most < 1000001) : ∃ v S', (pg.cal (d + 1)).call "_law_take" [.loc st, .int most] S = .ok (.int v) S' ∧ 0 ≤ v ∧ v < most ∧ HasSt S' st cl ∧ F2 S S' st cl := by
  obtain ⟨c, cs, h⟩ := hs
  rw [call_eq (df := ⟨2, 6, false, T__law_take⟩) (by kernel_rfl), run_eq (by rfl)]
  unfold T__law_take
  have hlen : (0 : Int) < ((cs.map U.int).length : Int) := by
    rw [List.length_map]
    have := List.length_pos_iff.mpr h.pos
    omega
  have hst : st < S.length := (List.getElem?_eq_some_iff.mp h.s).1
  have hcl : cl < S.length := (List.getElem?_eq_some_iff.mp h.t).1
  obtain ⟨a, ha⟩ : ∃ a : Nat, (a : Int) = c % ((cs.map U.int).length : Int) := ⟨(c % ((cs.map U.int).length : Int)).toNat, Int.toNat_of_nonneg (Int.emod_nonneg _ (by omega))⟩
  have hal : a < cs.length := by
    have q := Int.emod_lt_of_pos c hlen
    rw [← ha, List.length_map] at q
    omega
  have hat : atI (cs.map U.int) (a : Int) = some (.int cs[a]) := L2.atI_nat (by rw [List.getElem?_map, List.getElem?_eq_getElem hal]; rfl)
  have p0 : ∀ x y : U, atI [x, y] (0 : Int) = some x := fun _ _ => rfl
  have p1 : ∀ x y : U, atI [x, y] (1 : Int) = some y := fun _ _ => rfl
  have hcell : 0 ≤ cs[a] := h.nn _ (List.getElem_mem hal)
  simp only [Oz.bind_ok, Oz.bind_exc, Oz.bind_bad, Oz.on_ok, Oz.on_exc, Oz.then_nx, Oz.then_ret, Oz.then_exc, Oz.then_bk, Oz.then_ct, Oz.turn_nx, Oz.turn_ret, Oz.turn_exc, Oz.fin_nx, Oz.fin_ret, Oz.fin_exc, Oz.rO_some, Oz.noex_ok, Oz.ev_v, Oz.ev_k, Oz.ev_tup, Oz.ev_lst, Oz.ev_bin, Oz.ev_neg, Oz.ev_cmp, Oz.ev_and, Oz.ev_or, Oz.ev_not, Oz.ev_ife, Oz.ev_ix, Oz.ev_sl, Oz.ev_fld, Oz.ev_call, Oz.ev_meth, Oz.ev_mk, Oz.ev_bf, Oz.ev_bm, Oz.ev_lc, Oz.evo_no, Oz.evo_so, Oz.evs_nil, Oz.evs_cons, Oz.evs_star, Oz.evt_tt, Oz.evt_e, Oz.evt_and, Oz.evt_or, Oz.evt_not, Oz.ex_set, Oz.ex_sub, Oz.ex_aug, Oz.ex_fset, Oz.ex_faug, Oz.ex_ex, Oz.ex_ret, Oz.ex_if, Oz.ex_while, Oz.ex_for, Oz.exs_nil, Oz.exs_cons, Oz.tru_bl, Oz.tru_int, Oz.add_int, Oz.sub_int, Oz.aug_add_int, Oz.aug_sub_int, Oz.c_eq_int, Oz.c_ne_int, Oz.c_lt_int, Oz.c_le_int, Oz.c_gt_int, Oz.c_ge_int, Oz.c_eq_str, Oz.c_ne_str, Oz.ix_tup, Oz.set_int, List.replicate_succ, List.replicate_zero, List.getElem?_cons_zero, List.getElem?_cons_succ, List.set_cons_zero, List.set_cons_succ, List.map_cons, List.map_nil, List.cons_append, List.nil_append, List.append_nil, if_true, if_false, Bool.false_eq_true, Bool.true_eq_false, decide_eq_true_eq, true_and, and_true, ix_loc h.s, p0, p1, len_loc h.t, mod_int hlen, ← ha, ix_loc h.t, hat]
  by_cases hb : (1000000000000000000 : Int) ≤ cs[a]
  · have hi : setItemU (.loc cl) (.int a) (.int (cs[a] / most)) S = .ok () (S.set cl (.lst ((cs.set a (cs[a] / most)).map U.int))) := by
      unfold setItemU
      simp only [h.t]
      have hx : ixN (cs.map U.int).length (a : Int) = some a := by
        unfold ixN
        rw [if_pos (by omega), if_pos (by rw [List.length_map]; omega)]
        simp
      rw [hx, List.map_set]
    simp only [Oz.bind_ok, Oz.bind_exc, Oz.bind_bad, Oz.on_ok, Oz.on_exc, Oz.then_nx, Oz.then_ret, Oz.then_exc, Oz.then_bk, Oz.then_ct, Oz.turn_nx, Oz.turn_ret, Oz.turn_exc, Oz.fin_nx, Oz.fin_ret, Oz.fin_exc, Oz.rO_some, Oz.noex_ok, Oz.ev_v, Oz.ev_k, Oz.ev_tup, Oz.ev_lst, Oz.ev_bin, Oz.ev_neg, Oz.ev_cmp, Oz.ev_and, Oz.ev_or, Oz.ev_not, Oz.ev_ife, Oz.ev_ix, Oz.ev_sl, Oz.ev_fld, Oz.ev_call, Oz.ev_meth, Oz.ev_mk, Oz.ev_bf, Oz.ev_bm, Oz.ev_lc, Oz.evo_no, Oz.evo_so, Oz.evs_nil, Oz.evs_cons, Oz.evs_star, Oz.evt_tt, Oz.evt_e, Oz.evt_and, Oz.evt_or, Oz.evt_not, Oz.ex_set, Oz.ex_sub, Oz.ex_aug, Oz.ex_fset, Oz.ex_faug, Oz.ex_ex, Oz.ex_ret, Oz.ex_if, Oz.ex_while, Oz.ex_for, Oz.exs_nil, Oz.exs_cons, Oz.tru_bl, Oz.tru_int, Oz.add_int, Oz.sub_int, Oz.aug_add_int, Oz.aug_sub_int, Oz.c_eq_int, Oz.c_ne_int, Oz.c_lt_int, Oz.c_le_int, Oz.c_gt_int, Oz.c_ge_int, Oz.c_eq_str, Oz.c_ne_str, Oz.ix_tup, Oz.set_int, List.replicate_succ, List.replicate_zero, List.getElem?_cons_zero, List.getElem?_cons_succ, List.set_cons_zero, List.set_cons_succ, List.map_cons, List.map_nil, List.cons_append, List.nil_append, List.append_nil, if_true, if_false, Bool.false_eq_true, Bool.true_eq_false, decide_eq_true_eq, true_and, and_true, hb, decide_true, fdiv_int (show CDiv cs[a] most from ⟨h0, by omega⟩), hi, mod_int h0]
    refine ⟨_, _, rfl, Int.emod_nonneg _ (by omega), Int.emod_lt_of_pos _ h0, ⟨c, cs.set a (cs[a] / most), ?_, ?_, h.ne, ?_, ?_⟩, ⟨by simp, fun k hk h1 h2 => by rw [List.getElem?_set_ne (Ne.symm h2)]⟩⟩
    · rw [List.getElem?_set_ne (Ne.symm h.ne)]
      exact h.s
    · rw [List.getElem?_set_self hcl]
    · intro z
      have := congrArg List.length z
      simp at this
      exact h.pos this
    · intro x hx
      rcases List.mem_or_eq_of_mem_set hx with hx | hx
      · exact h.nn x hx
      · rw [hx]
        exact Int.ediv_nonneg hcell (by omega)
  · have hi : setItemU (.loc st) (.int 0) (.int (c + 1)) S = .ok () (S.set st (.lst [.int (c + 1), .loc cl])) := by
      unfold setItemU
      simp only [h.s]
      rfl
    have g1 : (S.set st (.lst [.int (c + 1), .loc cl]))[st]? = some (.lst [.int (c + 1), .loc cl]) := by rw [List.getElem?_set_self hst]
    simp only [Oz.bind_ok, Oz.bind_exc, Oz.bind_bad, Oz.on_ok, Oz.on_exc, Oz.then_nx, Oz.then_ret, Oz.then_exc, Oz.then_bk, Oz.then_ct, Oz.turn_nx, Oz.turn_ret, Oz.turn_exc, Oz.fin_nx, Oz.fin_ret, Oz.fin_exc, Oz.rO_some, Oz.noex_ok, Oz.ev_v, Oz.ev_k, Oz.ev_tup, Oz.ev_lst, Oz.ev_bin, Oz.ev_neg, Oz.ev_cmp, Oz.ev_and, Oz.ev_or, Oz.ev_not, Oz.ev_ife, Oz.ev_ix, Oz.ev_sl, Oz.ev_fld, Oz.ev_call, Oz.ev_meth, Oz.ev_mk, Oz.ev_bf, Oz.ev_bm, Oz.ev_lc, Oz.evo_no, Oz.evo_so, Oz.evs_nil, Oz.evs_cons, Oz.evs_star, Oz.evt_tt, Oz.evt_e, Oz.evt_and, Oz.evt_or, Oz.evt_not, Oz.ex_set, Oz.ex_sub, Oz.ex_aug, Oz.ex_fset, Oz.ex_faug, Oz.ex_ex, Oz.ex_ret, Oz.ex_if, Oz.ex_while, Oz.ex_for, Oz.exs_nil, Oz.exs_cons, Oz.tru_bl, Oz.tru_int, Oz.add_int, Oz.sub_int, Oz.aug_add_int, Oz.aug_sub_int, Oz.c_eq_int, Oz.c_ne_int, Oz.c_lt_int, Oz.c_le_int, Oz.c_gt_int, Oz.c_ge_int, Oz.c_eq_str, Oz.c_ne_str, Oz.ix_tup, Oz.set_int, List.replicate_succ, List.replicate_zero, List.getElem?_cons_zero, List.getElem?_cons_succ, List.set_cons_zero, List.set_cons_succ, List.map_cons, List.map_nil, List.cons_append, List.nil_append, List.append_nil, if_true, if_false, Bool.false_eq_true, Bool.true_eq_false, decide_eq_true_eq, true_and, and_true, hb, decide_false, ix_loc h.s, hi, ix_loc g1, p0, mul_int (mul_r (i := cs[a]) (j := 48271) (by decide) (by decide)), mul_int (mul_r (i := c + 1) (j := 69621) (by decide) (by decide)), int_int, mod_int (show (0 : Int) < 2147483647 by decide),
      mul_int (mul_r (i := (cs[a] * 48271 + (c + 1) * 69621) % 2147483647) (j := 16807) (by decide) (by decide)), mul_int (mul_r (i := c + 1) (j := 7919) (by decide) (by decide)), mod_int (show (0 : Int) < 1000000007 by decide),
      fdiv_int (show CDiv (((cs[a] * 48271 + (c + 1) * 69621) % 2147483647 * 16807 + (c + 1) * 7919) % 1000000007) 7 from ⟨by decide, by decide⟩), mod_int h0]
    refine ⟨_, _, rfl, Int.emod_nonneg _ (by omega), Int.emod_lt_of_pos _ h0, ⟨c + 1, cs, g1, ?_, h.ne, h.pos, h.nn⟩, ⟨by simp, fun k hk h1 h2 => by rw [List.getElem?_set_ne (Ne.symm h1)]⟩⟩
    rw [List.getElem?_set_ne h.ne]
    exact h.t
noncomputable def absU (i : Int) : Int := if i < 0 then -i else i
theorem state_eq (ns : List Int) (hl : ns.length ≤ 63) : ∃ st cl S', (pg.cal (d + 1)).call "_law_state" [.loc 0] [.fro (ns.map U.int)] = .ok (.loc st) S' ∧ HasSt S' st cl := by
  rw [call_eq (df := ⟨1, 3, false, T__law_state⟩) (by kernel_rfl), run_eq (by rfl)]
  unfold T__law_state
  have hsl : slU (.loc 0) none (some 63) [.fro (ns.map U.int)] = .ok (.loc 1) [.fro (ns.map U.int), .lst (ns.map U.int)] := by
    have hc : cutA (ns.map U.int) none (some 63) = ns.map U.int := by
      unfold cutA
      have e1 : HT.sIx (ns.map U.int).length (ns.map U.int).length (some 63) = (ns.map U.int).length := by
        unfold HT.sIx
        dsimp only
        rw [if_neg (by decide), List.length_map]
        omega
      rw [e1, HT.sIx_none, Nat.sub_zero, List.drop_zero]
      exact List.take_length
    show R.ok (U.loc 1) ([Cel.fro (ns.map U.int)] ++ [Cel.lst (cutA (ns.map U.int) none (some 63))]) = _
    rw [hc]
    rfl
  simp only [Oz.bind_ok, Oz.bind_exc, Oz.bind_bad, Oz.on_ok, Oz.on_exc, Oz.then_nx, Oz.then_ret, Oz.then_exc, Oz.then_bk, Oz.then_ct, Oz.turn_nx, Oz.turn_ret, Oz.turn_exc, Oz.fin_nx, Oz.fin_ret, Oz.fin_exc, Oz.rO_some, Oz.noex_ok, Oz.ev_v, Oz.ev_k, Oz.ev_tup, Oz.ev_lst, Oz.ev_bin, Oz.ev_neg, Oz.ev_cmp, Oz.ev_and, Oz.ev_or, Oz.ev_not, Oz.ev_ife, Oz.ev_ix, Oz.ev_sl, Oz.ev_fld, Oz.ev_call, Oz.ev_meth, Oz.ev_mk, Oz.ev_bf, Oz.ev_bm, Oz.ev_lc, Oz.evo_no, Oz.evo_so, Oz.evs_nil, Oz.evs_cons, Oz.evs_star, Oz.evt_tt, Oz.evt_e, Oz.evt_and, Oz.evt_or, Oz.evt_not, Oz.ex_set, Oz.ex_sub, Oz.ex_aug, Oz.ex_fset, Oz.ex_faug, Oz.ex_ex, Oz.ex_ret, Oz.ex_if, Oz.ex_while, Oz.ex_for, Oz.exs_nil, Oz.exs_cons, Oz.tru_bl, Oz.tru_int, Oz.add_int, Oz.sub_int, Oz.aug_add_int, Oz.aug_sub_int, Oz.c_eq_int, Oz.c_ne_int, Oz.c_lt_int, Oz.c_le_int, Oz.c_gt_int, Oz.c_ge_int, Oz.c_eq_str, Oz.c_ne_str, Oz.ix_tup, Oz.set_int, List.replicate_succ, List.replicate_zero, List.getElem?_cons_zero, List.getElem?_cons_succ, List.set_cons_zero, List.set_cons_succ, List.map_cons, List.map_nil, List.cons_append, List.nil_append, List.append_nil, if_true, if_false, Bool.false_eq_true, Bool.true_eq_false, decide_eq_true_eq, true_and, and_true, hsl]
  have hit : iterU [.fro (ns.map U.int), .lst (ns.map U.int)] (.loc 1) = some (ns.map U.int, some 1) := rfl
  simp only [Oz.bind_ok, Oz.bind_exc, Oz.bind_bad, Oz.on_ok, Oz.on_exc, Oz.then_nx, Oz.then_ret, Oz.then_exc, Oz.then_bk, Oz.then_ct, Oz.turn_nx, Oz.turn_ret, Oz.turn_exc, Oz.fin_nx, Oz.fin_ret, Oz.fin_exc, Oz.rO_some, Oz.noex_ok, Oz.ev_v, Oz.ev_k, Oz.ev_tup, Oz.ev_lst, Oz.ev_bin, Oz.ev_neg, Oz.ev_cmp, Oz.ev_and, Oz.ev_or, Oz.ev_not, Oz.ev_ife, Oz.ev_ix, Oz.ev_sl, Oz.ev_fld, Oz.ev_call, Oz.ev_meth, Oz.ev_mk, Oz.ev_bf, Oz.ev_bm, Oz.ev_lc, Oz.evo_no, Oz.evo_so, Oz.evs_nil, Oz.evs_cons, Oz.evs_star, Oz.evt_tt, Oz.evt_e, Oz.evt_and, Oz.evt_or, Oz.evt_not, Oz.ex_set, Oz.ex_sub, Oz.ex_aug, Oz.ex_fset, Oz.ex_faug, Oz.ex_ex, Oz.ex_ret, Oz.ex_if, Oz.ex_while, Oz.ex_for, Oz.exs_nil, Oz.exs_cons, Oz.tru_bl, Oz.tru_int, Oz.add_int, Oz.sub_int, Oz.aug_add_int, Oz.aug_sub_int, Oz.c_eq_int, Oz.c_ne_int, Oz.c_lt_int, Oz.c_le_int, Oz.c_gt_int, Oz.c_ge_int, Oz.c_eq_str, Oz.c_ne_str, Oz.ix_tup, Oz.set_int, List.replicate_succ, List.replicate_zero, List.getElem?_cons_zero, List.getElem?_cons_succ, List.set_cons_zero, List.set_cons_succ, List.map_cons, List.map_nil, List.cons_append, List.nil_append, List.append_nil, if_true, if_false, Bool.false_eq_true, Bool.true_eq_false, decide_eq_true_eq, true_and, and_true, hit, wipeE]
  rw [lcI_all (g := fun u => match u with | .int i => .int (absU i) | u => u) (acc := []) (fun u hu => ?_) (fun x => ?_) rfl (by simp; exact Nat.le_trans hl (by decide))]
  · have hm : (ns.map U.int).map (fun u => match u with | .int i => U.int (absU i) | u => u) = (ns.map absU).map U.int := by
      simp only [List.map_map]
      rfl
    rw [hm]
    simp only [List.length_cons, List.length_nil, Nat.zero_add, Nat.reduceAdd, List.nil_append, List.set_cons_succ, List.set_cons_zero]
    have hln : bfU .len [.loc 2] [Cel.fro (ns.map U.int), Cel.lst (ns.map U.int), Cel.lst ((ns.map absU).map U.int)] = .ok (.int ((ns.map absU).map U.int).length) _ := len_loc (n := 2) rfl
    have hl0 : (((((ns.map absU).map U.int).length : Nat) : Int) = 0) = (ns = []) := by
      rw [List.length_map, List.length_map, eq_iff_iff]
      constructor
      · intro z
        exact List.length_eq_zero_iff.mp (by omega)
      · rintro rfl
        rfl
    have hpos : ∀ x ∈ ns.map absU, 0 ≤ x := fun x hx => by
      obtain ⟨i, _, rfl⟩ := List.mem_map.mp hx
      unfold absU
      split <;> omega
    simp only [Oz.bind_ok, Oz.bind_exc, Oz.bind_bad, Oz.on_ok, Oz.on_exc, Oz.then_nx, Oz.then_ret, Oz.then_exc, Oz.then_bk, Oz.then_ct, Oz.turn_nx, Oz.turn_ret, Oz.turn_exc, Oz.fin_nx, Oz.fin_ret, Oz.fin_exc, Oz.rO_some, Oz.noex_ok, Oz.ev_v, Oz.ev_k, Oz.ev_tup, Oz.ev_lst, Oz.ev_bin, Oz.ev_neg, Oz.ev_cmp, Oz.ev_and, Oz.ev_or, Oz.ev_not, Oz.ev_ife, Oz.ev_ix, Oz.ev_sl, Oz.ev_fld, Oz.ev_call, Oz.ev_meth, Oz.ev_mk, Oz.ev_bf, Oz.ev_bm, Oz.ev_lc, Oz.evo_no, Oz.evo_so, Oz.evs_nil, Oz.evs_cons, Oz.evs_star, Oz.evt_tt, Oz.evt_e, Oz.evt_and, Oz.evt_or, Oz.evt_not, Oz.ex_set, Oz.ex_sub, Oz.ex_aug, Oz.ex_fset, Oz.ex_faug, Oz.ex_ex, Oz.ex_ret, Oz.ex_if, Oz.ex_while, Oz.ex_for, Oz.exs_nil, Oz.exs_cons, Oz.tru_bl, Oz.tru_int, Oz.add_int, Oz.sub_int, Oz.aug_add_int, Oz.aug_sub_int, Oz.c_eq_int, Oz.c_ne_int, Oz.c_lt_int, Oz.c_le_int, Oz.c_gt_int, Oz.c_ge_int, Oz.c_eq_str, Oz.c_ne_str, Oz.ix_tup, Oz.set_int, List.replicate_succ, List.replicate_zero, List.getElem?_cons_zero, List.getElem?_cons_succ, List.set_cons_zero, List.set_cons_succ, List.map_cons, List.map_nil, List.cons_append, List.nil_append, List.append_nil, if_true, if_false, Bool.false_eq_true, Bool.true_eq_false, decide_eq_true_eq, true_and, and_true, hln, hl0]
    by_cases hn : ns = []
    · subst hn
      simp only [Oz.bind_ok, Oz.bind_exc, Oz.bind_bad, Oz.on_ok, Oz.on_exc, Oz.then_nx, Oz.then_ret, Oz.then_exc, Oz.then_bk, Oz.then_ct, Oz.turn_nx, Oz.turn_ret, Oz.turn_exc, Oz.fin_nx, Oz.fin_ret, Oz.fin_exc, Oz.rO_some, Oz.noex_ok, Oz.ev_v, Oz.ev_k, Oz.ev_tup, Oz.ev_lst, Oz.ev_bin, Oz.ev_neg, Oz.ev_cmp, Oz.ev_and, Oz.ev_or, Oz.ev_not, Oz.ev_ife, Oz.ev_ix, Oz.ev_sl, Oz.ev_fld, Oz.ev_call, Oz.ev_meth, Oz.ev_mk, Oz.ev_bf, Oz.ev_bm, Oz.ev_lc, Oz.evo_no, Oz.evo_so, Oz.evs_nil, Oz.evs_cons, Oz.evs_star, Oz.evt_tt, Oz.evt_e, Oz.evt_and, Oz.evt_or, Oz.evt_not, Oz.ex_set, Oz.ex_sub, Oz.ex_aug, Oz.ex_fset, Oz.ex_faug, Oz.ex_ex, Oz.ex_ret, Oz.ex_if, Oz.ex_while, Oz.ex_for, Oz.exs_nil, Oz.exs_cons, Oz.tru_bl, Oz.tru_int, Oz.add_int, Oz.sub_int, Oz.aug_add_int, Oz.aug_sub_int, Oz.c_eq_int, Oz.c_ne_int, Oz.c_lt_int, Oz.c_le_int, Oz.c_gt_int, Oz.c_ge_int, Oz.c_eq_str, Oz.c_ne_str, Oz.ix_tup, Oz.set_int, List.replicate_succ, List.replicate_zero, List.getElem?_cons_zero, List.getElem?_cons_succ, List.set_cons_zero, List.set_cons_succ, List.map_cons, List.map_nil, List.cons_append, List.nil_append, List.append_nil, if_true, if_false, Bool.false_eq_true, Bool.true_eq_false, decide_eq_true_eq, true_and, and_true, decide_true, sz1, sz2, List.length_cons, List.length_nil, Nat.zero_add, Nat.reduceAdd]
      exact ⟨4, 3, _, rfl, 0, [0], rfl, rfl, by decide, by decide, by decide⟩
    · simp only [Oz.bind_ok, Oz.bind_exc, Oz.bind_bad, Oz.on_ok, Oz.on_exc, Oz.then_nx, Oz.then_ret, Oz.then_exc, Oz.then_bk, Oz.then_ct, Oz.turn_nx, Oz.turn_ret, Oz.turn_exc, Oz.fin_nx, Oz.fin_ret, Oz.fin_exc, Oz.rO_some, Oz.noex_ok, Oz.ev_v, Oz.ev_k, Oz.ev_tup, Oz.ev_lst, Oz.ev_bin, Oz.ev_neg, Oz.ev_cmp, Oz.ev_and, Oz.ev_or, Oz.ev_not, Oz.ev_ife, Oz.ev_ix, Oz.ev_sl, Oz.ev_fld, Oz.ev_call, Oz.ev_meth, Oz.ev_mk, Oz.ev_bf, Oz.ev_bm, Oz.ev_lc, Oz.evo_no, Oz.evo_so, Oz.evs_nil, Oz.evs_cons, Oz.evs_star, Oz.evt_tt, Oz.evt_e, Oz.evt_and, Oz.evt_or, Oz.evt_not, Oz.ex_set, Oz.ex_sub, Oz.ex_aug, Oz.ex_fset, Oz.ex_faug, Oz.ex_ex, Oz.ex_ret, Oz.ex_if, Oz.ex_while, Oz.ex_for, Oz.exs_nil, Oz.exs_cons, Oz.tru_bl, Oz.tru_int, Oz.add_int, Oz.sub_int, Oz.aug_add_int, Oz.aug_sub_int, Oz.c_eq_int, Oz.c_ne_int, Oz.c_lt_int, Oz.c_le_int, Oz.c_gt_int, Oz.c_ge_int, Oz.c_eq_str, Oz.c_ne_str, Oz.ix_tup, Oz.set_int, List.replicate_succ, List.replicate_zero, List.getElem?_cons_zero, List.getElem?_cons_succ, List.set_cons_zero, List.set_cons_succ, List.map_cons, List.map_nil, List.cons_append, List.nil_append, List.append_nil, if_true, if_false, Bool.false_eq_true, Bool.true_eq_false, decide_eq_true_eq, true_and, and_true, hn, decide_false, sz1, sz2, List.length_cons, List.length_nil, Nat.zero_add, Nat.reduceAdd]
      exact ⟨3, 2, _, rfl, 0, ns.map absU, rfl, rfl, by decide, by simpa using hn, hpos⟩
  · obtain ⟨i, _, rfl⟩ := List.mem_map.mp hu
    exact ⟨_, rfl, fun S => ⟨rfl, rfl⟩⟩
  · unfold stays
    exact isLst_lst (us := ns.map U.int) rfl
end Pr
end
section
set_option maxHeartbeats 4000000
namespace Pr
open PySem L2 Oz
variable {S S' : Sto} {d : Nat}
namespace Ty
noncomputable def fits : Ty → Ty → Bool
  | any, _ => true
  | _, any => true
  | int, int => true | bool, bool => true | unit, unit => true
  | fn a b, fn c e => fits a c && fits b e
  | bx a, bx c => fits a c
  | _, _ => false
noncomputable def under : Ty → Ty → Bool
  | any, _ => true
  | int, int => true | bool, bool => true | unit, unit => true
  | fn a b, fn c e => under a c && under b e
  | bx a, bx c => under a c
  | _, _ => false
noncomputable def meet : Ty → Ty → Ty
  | any, b => b
  | a, any => a
  | fn a b, fn c e => fn (meet a c) (meet b e)
  | bx a, bx c => bx (meet a c)
  | a, _ => a
theorem fits_any (b : Ty) : fits any b = true := by cases b <;> rfl
theorem any_fits (a : Ty) : fits a any = true := by cases a <;> rfl
theorem meet_any (b : Ty) : meet any b = b := by cases b <;> rfl
theorem any_meet (a : Ty) : meet a any = a := by cases a <;> rfl
theorem fits_self : ∀ a : Ty, fits a a = true
  | any => rfl | int => rfl | bool => rfl | unit => rfl
  | fn a b => by simp [fits, fits_self a, fits_self b]
  | bx a => by simp [fits, fits_self a]
theorem meet_self : ∀ a : Ty, meet a a = a
  | any => rfl | int => rfl | bool => rfl | unit => rfl
  | fn a b => by simp [meet, meet_self a, meet_self b]
  | bx a => by simp [meet, meet_self a]
theorem fits_hd {a b : Ty} (ha : a ≠ any) (hb : b ≠ any) (h : a.hd = b.hd) : fits a b = (a.pt.zip b.pt).all fun p => fits p.1 p.2 := by
  rw [hd_kd] at h
  cases a <;> cases b <;> simp_all [kd, fits, pt]
theorem fits_ne {a b : Ty} (ha : a ≠ any) (hb : b ≠ any) (h : a.hd ≠ b.hd) : fits a b = false := by
  have h : ¬ a.kd = b.kd := fun z => h ((hd_kd a b).mpr z)
  cases a <;> cases b <;> simp_all [kd, fits]
theorem meet_hd {a b : Ty} (ha : a ≠ any) (hb : b ≠ any) (h : a.hd = b.hd) : tu (meet a b) = .tup (.str a.hd :: (a.pt.zip b.pt).map fun p => tu (meet p.1 p.2)) := by
  rw [hd_kd] at h
  cases a <;> cases b <;> simp_all [kd, meet, pt, tu, hd]
theorem dep_meet : ∀ a b : Ty, (meet a b).dep ≤ max a.dep b.dep
  | any, b => by rw [meet_any]; omega
  | a, any => by rw [any_meet]; omega
  | fn a b, fn c e => by
    have := dep_meet a c
    have := dep_meet b e
    simp only [meet, dep]
    omega
  | bx a, bx c => by
    have := dep_meet a c
    simp only [meet, dep]
    omega
  | int, int => by simp [meet] | int, bool => by simp [meet, dep] | int, unit => by simp [meet, dep] | int, fn _ _ => by simp [meet, dep] <;> omega | int, bx _ => by simp [meet, dep] <;> omega
  | bool, int => by simp [meet, dep] | bool, bool => by simp [meet] | bool, unit => by simp [meet, dep] | bool, fn _ _ => by simp [meet, dep] <;> omega | bool, bx _ => by simp [meet, dep] <;> omega
  | unit, int => by simp [meet, dep] | unit, bool => by simp [meet, dep] | unit, unit => by simp [meet] | unit, fn _ _ => by simp [meet, dep] <;> omega | unit, bx _ => by simp [meet, dep] <;> omega
  | fn _ _, int => by simp [meet, dep] <;> omega | fn _ _, bool => by simp [meet, dep] <;> omega | fn _ _, unit => by simp [meet, dep] <;> omega | fn _ _, bx _ => by simp [meet, dep] <;> omega
  | bx _, int => by simp [meet, dep] <;> omega | bx _, bool => by simp [meet, dep] <;> omega | bx _, unit => by simp [meet, dep] <;> omega | bx _, fn _ _ => by simp [meet, dep] <;> omega
end Ty
noncomputable def ou : Option Ty → U
  | none => .non
  | some t => tu t
theorem okUs_of {α : Type} {f : α → U} : ∀ {l : List α}, (∀ x ∈ l, purU (f x) = true ∧ (pdU (f x)).canLay0 = true ∧ (pdU (f x)).depth ≤ 30) → okUs (l.map f) = true := by
  intro l h
  have h1 : purUs (l.map f) = true ∧ PyData.canLayAll0 (pdUs (l.map f)) = true ∧ PyData.depthAll (pdUs (l.map f)) ≤ 30 := by
    induction l with
    | nil => exact ⟨rfl, rfl, Nat.zero_le _⟩
    | cons x l ih =>
      obtain ⟨a, b, c⟩ := h x List.mem_cons_self
      obtain ⟨a', b', c'⟩ := ih fun y hy => h y (List.mem_cons_of_mem _ hy)
      simp only [List.map_cons, purUs, pdUs, PyData.canLayAll0, PyData.depthAll, a, b, a', b', Bool.and_self, true_and]
      omega
  unfold okUs SeqAt.shaped
  rw [h1.1, Bool.true_and, Bool.and_eq_true]
  refine ⟨h1.2.1, decide_eq_true ?_⟩
  simp only [PyData.depth]
  have := h1.2.2
  omega
theorem ok_ou {o : Option Ty} (h : ∀ t, o = some t → t.dep ≤ 20) : purU (ou o) = true ∧ (pdU (ou o)).canLay0 = true ∧ (pdU (ou o)).depth ≤ 30 := by
  cases o with
  | none => exact ⟨rfl, rfl, by decide⟩
  | some t => exact ⟨pur_tu t, lay_tu t, by have := dep_tu t; have := h t rfl; show (pdU (tu t)).depth ≤ 30; omega⟩
theorem in_non {n : Nat} {xs : List U} (h : S[n]? = some (.lst xs)) (ok : okUs xs = true) : cmpU .in_ .non (.loc n) S = .ok (.bl (xs.any fun y => eqU y .non)) S := by
  have e : inR .non (.loc n) S = some (xs.any fun y => eqU y .non) := by
    unfold inR
    simp only [items?, list?, h]
    split
    · rfl
    · rw [if_pos (by rw [ok]; decide)]
  unfold cmpU cmpB
  rw [e]
/-- what meeting gives -/
noncomputable def met (a b : Ty) : Option Ty := if a.fits b = true then some (a.meet b) else none
theorem any_met (a b : List Ty) : (((a.zip b).map fun p => ou (met p.1 p.2)).any fun y => eqU y .non) = !(a.zip b).all fun p => p.1.fits p.2 := by
  induction a.zip b with
  | nil => rfl
  | cons p l ih =>
    simp only [List.map_cons, List.any_cons, List.all_cons, ih, Bool.not_and]
    congr 1
    unfold met
    cases h : p.1.fits p.2 with
    | true =>
      rw [if_pos rfl]
      show eqU (tu _) .non = _
      rw [tu_eq]
      rfl
    | false => rw [if_neg Bool.false_ne_true]; rfl
theorem met_map {a b : List Ty} (h : ((a.zip b).all fun p => p.1.fits p.2) = true) : ((a.zip b).map fun p => ou (met p.1 p.2)) = (a.zip b).map fun p => tu (p.1.meet p.2) := by
  refine List.map_congr_left fun p hp => ?_
  have := List.all_eq_true.mp h p hp
  unfold met
  rw [if_pos this]
  rfl
theorem zip_dep {a b : Ty} {n : Nat} {p : Ty × Ty} (hp : p ∈ a.pt.zip b.pt) (ha : a.dep ≤ n + 1) (hb : b.dep ≤ n + 1) : p.1.dep ≤ n ∧ p.2.dep ≤ n := by
  have h1 := a.dep_pt (List.of_mem_zip hp).1
  have h2 := b.dep_pt (List.of_mem_zip hp).2
  omega
theorem zip_len (a b : Ty) : (a.pt.zip b.pt).length ≤ 2 := by
  have := a.pt_len
  rw [List.length_zip]
  omega
theorem str_ne {x y : Str} (h : x ≠ y) : decide (x = y) = false := decide_eq_false h
theorem items_loc {n : Nat} {xs : List U} (h : S[n]? = some (.lst xs)) : items? S (.loc n) = some xs := by
  simp only [items?, h]
/-- the branches of an if -/
theorem or_tt {p q : Bool} {S : Sto} : ((if p = true then R.ok true S else R.ok q S) : R Bool) = R.ok (p || q) S := by cases p <;> rfl
theorem meeting_eq : ∀ (n : Nat) (a b : Ty) (S : Sto), a.dep ≤ n → b.dep ≤ n → n ≤ 15 → ∃ S', (pg.cal (d + n + 1)).call "meeting" [tu a, tu b] S = .ok (ou (met a b)) S' ∧ Gr S S'
  | 0, a, b, S, h, _, _ => absurd a.dep_pos (by omega)
  | n + 1, a, b, S, ha, hb, hn => by
    rw [call_eq (df := ⟨2, 5, false, T_meeting⟩) (by kernel_rfl), run_eq (by rfl)]
    unfold T_meeting
    have eA : ∀ {t : Ty} {S : Sto}, t.dep ≤ n + 1 → cmpU .eq (tu t) (tu .any) S = .ok (.bl (decide (t = .any))) S := fun h => c_eq (by omega) (by decide)
    have eB : ∀ {S : Sto}, cmpU .eq (tu a) (tu b) S = .ok (.bl (decide (a = b))) S := c_eq (by omega) (by omega)
    simp only [Oz.bind_ok, Oz.bind_exc, Oz.bind_bad, Oz.on_ok, Oz.on_exc, Oz.then_nx, Oz.then_ret, Oz.then_exc, Oz.then_bk, Oz.then_ct, Oz.turn_nx, Oz.turn_ret, Oz.turn_exc, Oz.fin_nx, Oz.fin_ret, Oz.fin_exc, Oz.rO_some, Oz.noex_ok, Oz.ev_v, Oz.ev_k, Oz.ev_tup, Oz.ev_lst, Oz.ev_bin, Oz.ev_neg, Oz.ev_cmp, Oz.ev_and, Oz.ev_or, Oz.ev_not, Oz.ev_ife, Oz.ev_ix, Oz.ev_sl, Oz.ev_call, Oz.ev_bf, Oz.ev_bm, Oz.ev_isi, Oz.evo_no, Oz.evo_so, Oz.evs_nil, Oz.evs_cons, Oz.evs_star, Oz.evt_tt, Oz.evt_e, Oz.evt_and, Oz.evt_or, Oz.evt_not, Oz.ex_mtch, Oz.exc_nil, Oz.exc_cons, Oz.pt_wild, Oz.pt_val, Oz.pt_seq, Oz.pi_nil, Oz.pi_lit, Oz.pi_cap, Oz.pi_wild, Oz.ev_kcall, Oz.ofS_inj, String.reduceEq, Nat.reduceEqDiff, Oz.ex_set, Oz.ex_sub, Oz.ex_aug, Oz.ex_ex, Oz.ex_ret, Oz.ex_if, Oz.exs_nil, Oz.exs_cons, Oz.tru_bl, Oz.tru_int, Oz.add_int, Oz.sub_int, Oz.aug_add_int, Oz.aug_sub_int, Oz.c_eq_int, Oz.c_ne_int, Oz.c_lt_int, Oz.c_le_int, Oz.c_gt_int, Oz.c_ge_int, Oz.c_eq_str, Oz.c_ne_str, Oz.set_int, List.replicate_succ, List.replicate_zero, List.getElem?_cons_zero, List.getElem?_cons_succ, List.set_cons_zero, List.set_cons_succ, List.map_cons, List.map_nil, List.cons_append, List.nil_append, List.append_nil, if_true, if_false, Bool.false_eq_true, Bool.true_eq_false, decide_eq_true_eq, true_and, and_true, Bool.not_true, Bool.not_false, List.length_cons, List.length_nil, Nat.zero_add, Nat.reduceAdd, ev_g (g_ANY (d + (n + 1))), eA ha, eB, or_tt]
    by_cases h1 : a = .any ∨ a = b
    · have hc : (decide (a = Ty.any) || decide (a = b)) = true := by simpa using h1
      refine ⟨S, ?_, Gr.refl⟩
      simp only [Oz.bind_ok, Oz.bind_exc, Oz.bind_bad, Oz.on_ok, Oz.on_exc, Oz.then_nx, Oz.then_ret, Oz.then_exc, Oz.then_bk, Oz.then_ct, Oz.turn_nx, Oz.turn_ret, Oz.turn_exc, Oz.fin_nx, Oz.fin_ret, Oz.fin_exc, Oz.rO_some, Oz.noex_ok, Oz.ev_v, Oz.ev_k, Oz.ev_tup, Oz.ev_lst, Oz.ev_bin, Oz.ev_neg, Oz.ev_cmp, Oz.ev_and, Oz.ev_or, Oz.ev_not, Oz.ev_ife, Oz.ev_ix, Oz.ev_sl, Oz.ev_call, Oz.ev_bf, Oz.ev_bm, Oz.ev_isi, Oz.evo_no, Oz.evo_so, Oz.evs_nil, Oz.evs_cons, Oz.evs_star, Oz.evt_tt, Oz.evt_e, Oz.evt_and, Oz.evt_or, Oz.evt_not, Oz.ex_mtch, Oz.exc_nil, Oz.exc_cons, Oz.pt_wild, Oz.pt_val, Oz.pt_seq, Oz.pi_nil, Oz.pi_lit, Oz.pi_cap, Oz.pi_wild, Oz.ev_kcall, Oz.ofS_inj, String.reduceEq, Nat.reduceEqDiff, Oz.ex_set, Oz.ex_sub, Oz.ex_aug, Oz.ex_ex, Oz.ex_ret, Oz.ex_if, Oz.exs_nil, Oz.exs_cons, Oz.tru_bl, Oz.tru_int, Oz.add_int, Oz.sub_int, Oz.aug_add_int, Oz.aug_sub_int, Oz.c_eq_int, Oz.c_ne_int, Oz.c_lt_int, Oz.c_le_int, Oz.c_gt_int, Oz.c_ge_int, Oz.c_eq_str, Oz.c_ne_str, Oz.set_int, List.replicate_succ, List.replicate_zero, List.getElem?_cons_zero, List.getElem?_cons_succ, List.set_cons_zero, List.set_cons_succ, List.map_cons, List.map_nil, List.cons_append, List.nil_append, List.append_nil, if_true, if_false, Bool.false_eq_true, Bool.true_eq_false, decide_eq_true_eq, true_and, and_true, Bool.not_true, Bool.not_false, List.length_cons, List.length_nil, Nat.zero_add, Nat.reduceAdd, hc]
      rcases h1 with rfl | rfl
      · unfold met; rw [if_pos (Ty.fits_any b), Ty.meet_any]; rfl
      · unfold met; rw [if_pos (Ty.fits_self a), Ty.meet_self]; rfl
    · have hc : (decide (a = Ty.any) || decide (a = b)) = false := by simpa using h1
      rw [not_or] at h1
      simp only [Oz.bind_ok, Oz.bind_exc, Oz.bind_bad, Oz.on_ok, Oz.on_exc, Oz.then_nx, Oz.then_ret, Oz.then_exc, Oz.then_bk, Oz.then_ct, Oz.turn_nx, Oz.turn_ret, Oz.turn_exc, Oz.fin_nx, Oz.fin_ret, Oz.fin_exc, Oz.rO_some, Oz.noex_ok, Oz.ev_v, Oz.ev_k, Oz.ev_tup, Oz.ev_lst, Oz.ev_bin, Oz.ev_neg, Oz.ev_cmp, Oz.ev_and, Oz.ev_or, Oz.ev_not, Oz.ev_ife, Oz.ev_ix, Oz.ev_sl, Oz.ev_call, Oz.ev_bf, Oz.ev_bm, Oz.ev_isi, Oz.evo_no, Oz.evo_so, Oz.evs_nil, Oz.evs_cons, Oz.evs_star, Oz.evt_tt, Oz.evt_e, Oz.evt_and, Oz.evt_or, Oz.evt_not, Oz.ex_mtch, Oz.exc_nil, Oz.exc_cons, Oz.pt_wild, Oz.pt_val, Oz.pt_seq, Oz.pi_nil, Oz.pi_lit, Oz.pi_cap, Oz.pi_wild, Oz.ev_kcall, Oz.ofS_inj, String.reduceEq, Nat.reduceEqDiff, Oz.ex_set, Oz.ex_sub, Oz.ex_aug, Oz.ex_ex, Oz.ex_ret, Oz.ex_if, Oz.exs_nil, Oz.exs_cons, Oz.tru_bl, Oz.tru_int, Oz.add_int, Oz.sub_int, Oz.aug_add_int, Oz.aug_sub_int, Oz.c_eq_int, Oz.c_ne_int, Oz.c_lt_int, Oz.c_le_int, Oz.c_gt_int, Oz.c_ge_int, Oz.c_eq_str, Oz.c_ne_str, Oz.set_int, List.replicate_succ, List.replicate_zero, List.getElem?_cons_zero, List.getElem?_cons_succ, List.set_cons_zero, List.set_cons_succ, List.map_cons, List.map_nil, List.cons_append, List.nil_append, List.append_nil, if_true, if_false, Bool.false_eq_true, Bool.true_eq_false, decide_eq_true_eq, true_and, and_true, Bool.not_true, Bool.not_false, List.length_cons, List.length_nil, Nat.zero_add, Nat.reduceAdd, hc, eA hb]
      by_cases h2 : b = .any
      · subst h2
        refine ⟨S, ?_, Gr.refl⟩
        simp only [Oz.bind_ok, Oz.bind_exc, Oz.bind_bad, Oz.on_ok, Oz.on_exc, Oz.then_nx, Oz.then_ret, Oz.then_exc, Oz.then_bk, Oz.then_ct, Oz.turn_nx, Oz.turn_ret, Oz.turn_exc, Oz.fin_nx, Oz.fin_ret, Oz.fin_exc, Oz.rO_some, Oz.noex_ok, Oz.ev_v, Oz.ev_k, Oz.ev_tup, Oz.ev_lst, Oz.ev_bin, Oz.ev_neg, Oz.ev_cmp, Oz.ev_and, Oz.ev_or, Oz.ev_not, Oz.ev_ife, Oz.ev_ix, Oz.ev_sl, Oz.ev_call, Oz.ev_bf, Oz.ev_bm, Oz.ev_isi, Oz.evo_no, Oz.evo_so, Oz.evs_nil, Oz.evs_cons, Oz.evs_star, Oz.evt_tt, Oz.evt_e, Oz.evt_and, Oz.evt_or, Oz.evt_not, Oz.ex_mtch, Oz.exc_nil, Oz.exc_cons, Oz.pt_wild, Oz.pt_val, Oz.pt_seq, Oz.pi_nil, Oz.pi_lit, Oz.pi_cap, Oz.pi_wild, Oz.ev_kcall, Oz.ofS_inj, String.reduceEq, Nat.reduceEqDiff, Oz.ex_set, Oz.ex_sub, Oz.ex_aug, Oz.ex_ex, Oz.ex_ret, Oz.ex_if, Oz.exs_nil, Oz.exs_cons, Oz.tru_bl, Oz.tru_int, Oz.add_int, Oz.sub_int, Oz.aug_add_int, Oz.aug_sub_int, Oz.c_eq_int, Oz.c_ne_int, Oz.c_lt_int, Oz.c_le_int, Oz.c_gt_int, Oz.c_ge_int, Oz.c_eq_str, Oz.c_ne_str, Oz.set_int, List.replicate_succ, List.replicate_zero, List.getElem?_cons_zero, List.getElem?_cons_succ, List.set_cons_zero, List.set_cons_succ, List.map_cons, List.map_nil, List.cons_append, List.nil_append, List.append_nil, if_true, if_false, Bool.false_eq_true, Bool.true_eq_false, decide_eq_true_eq, true_and, and_true, Bool.not_true, Bool.not_false, List.length_cons, List.length_nil, Nat.zero_add, Nat.reduceAdd, decide_true]
        unfold met; rw [if_pos (Ty.any_fits a), Ty.any_meet]; rfl
      · simp only [Oz.bind_ok, Oz.bind_exc, Oz.bind_bad, Oz.on_ok, Oz.on_exc, Oz.then_nx, Oz.then_ret, Oz.then_exc, Oz.then_bk, Oz.then_ct, Oz.turn_nx, Oz.turn_ret, Oz.turn_exc, Oz.fin_nx, Oz.fin_ret, Oz.fin_exc, Oz.rO_some, Oz.noex_ok, Oz.ev_v, Oz.ev_k, Oz.ev_tup, Oz.ev_lst, Oz.ev_bin, Oz.ev_neg, Oz.ev_cmp, Oz.ev_and, Oz.ev_or, Oz.ev_not, Oz.ev_ife, Oz.ev_ix, Oz.ev_sl, Oz.ev_call, Oz.ev_bf, Oz.ev_bm, Oz.ev_isi, Oz.evo_no, Oz.evo_so, Oz.evs_nil, Oz.evs_cons, Oz.evs_star, Oz.evt_tt, Oz.evt_e, Oz.evt_and, Oz.evt_or, Oz.evt_not, Oz.ex_mtch, Oz.exc_nil, Oz.exc_cons, Oz.pt_wild, Oz.pt_val, Oz.pt_seq, Oz.pi_nil, Oz.pi_lit, Oz.pi_cap, Oz.pi_wild, Oz.ev_kcall, Oz.ofS_inj, String.reduceEq, Nat.reduceEqDiff, Oz.ex_set, Oz.ex_sub, Oz.ex_aug, Oz.ex_ex, Oz.ex_ret, Oz.ex_if, Oz.exs_nil, Oz.exs_cons, Oz.tru_bl, Oz.tru_int, Oz.add_int, Oz.sub_int, Oz.aug_add_int, Oz.aug_sub_int, Oz.c_eq_int, Oz.c_ne_int, Oz.c_lt_int, Oz.c_le_int, Oz.c_gt_int, Oz.c_ge_int, Oz.c_eq_str, Oz.c_ne_str, Oz.set_int, List.replicate_succ, List.replicate_zero, List.getElem?_cons_zero, List.getElem?_cons_succ, List.set_cons_zero, List.set_cons_succ, List.map_cons, List.map_nil, List.cons_append, List.nil_append, List.append_nil, if_true, if_false, Bool.false_eq_true, Bool.true_eq_false, decide_eq_true_eq, true_and, and_true, Bool.not_true, Bool.not_false, List.length_cons, List.length_nil, Nat.zero_add, Nat.reduceAdd, h2, ix_hd]
        by_cases h3 : a.hd = b.hd
        · obtain ⟨S1, e, g, k⟩ := lcz_pure (Φ := pg.cal (d + (n + 1))) (is := [3, 4]) (env := [some (tu a), some (tu b), none, none, none]) (elt := .call "meeting" (.cons (.v 3) (.cons (.v 4) .nil))) (es := .cons (.sl (.v 0) (.so (.k (.int 1))) .no) (.cons (.sl (.v 1) (.so (.k (.int 1))) .no) .nil)) (S := S) (S0 := S) (f := tu) (xs := a.pt) (ys := b.pt) (g := fun p => ou (met p.1 p.2)) (by simp only [Oz.bind_ok, Oz.bind_exc, Oz.bind_bad, Oz.on_ok, Oz.on_exc, Oz.then_nx, Oz.then_ret, Oz.then_exc, Oz.then_bk, Oz.then_ct, Oz.turn_nx, Oz.turn_ret, Oz.turn_exc, Oz.fin_nx, Oz.fin_ret, Oz.fin_exc, Oz.rO_some, Oz.noex_ok, Oz.ev_v, Oz.ev_k, Oz.ev_tup, Oz.ev_lst, Oz.ev_bin, Oz.ev_neg, Oz.ev_cmp, Oz.ev_and, Oz.ev_or, Oz.ev_not, Oz.ev_ife, Oz.ev_ix, Oz.ev_sl, Oz.ev_call, Oz.ev_bf, Oz.ev_bm, Oz.ev_isi, Oz.evo_no, Oz.evo_so, Oz.evs_nil, Oz.evs_cons, Oz.evs_star, Oz.evt_tt, Oz.evt_e, Oz.evt_and, Oz.evt_or, Oz.evt_not, Oz.ex_mtch, Oz.exc_nil, Oz.exc_cons, Oz.pt_wild, Oz.pt_val, Oz.pt_seq, Oz.pi_nil, Oz.pi_lit, Oz.pi_cap, Oz.pi_wild, Oz.ev_kcall, Oz.ofS_inj, String.reduceEq, Nat.reduceEqDiff, Oz.ex_set, Oz.ex_sub, Oz.ex_aug, Oz.ex_ex, Oz.ex_ret, Oz.ex_if, Oz.exs_nil, Oz.exs_cons, Oz.tru_bl, Oz.tru_int, Oz.add_int, Oz.sub_int, Oz.aug_add_int, Oz.aug_sub_int, Oz.c_eq_int, Oz.c_ne_int, Oz.c_lt_int, Oz.c_le_int, Oz.c_gt_int, Oz.c_ge_int, Oz.c_eq_str, Oz.c_ne_str, Oz.set_int, List.replicate_succ, List.replicate_zero, List.getElem?_cons_zero, List.getElem?_cons_succ, List.set_cons_zero, List.set_cons_succ, List.map_cons, List.map_nil, List.cons_append, List.nil_append, List.append_nil, if_true, if_false, Bool.false_eq_true, Bool.true_eq_false, decide_eq_true_eq, true_and, and_true, Bool.not_true, Bool.not_false, List.length_cons, List.length_nil, Nat.zero_add, Nat.reduceAdd, sl_pt]) (fun p hp => ⟨_, rfl, fun S1 => by
            obtain ⟨hp1, hp2⟩ := zip_dep hp ha hb
            obtain ⟨S2, e2, g2⟩ := meeting_eq n p.1 p.2 S1 hp1 hp2 (by omega)
            exact ⟨S2, (by simp only [Oz.bind_ok, Oz.bind_exc, Oz.bind_bad, Oz.on_ok, Oz.on_exc, Oz.then_nx, Oz.then_ret, Oz.then_exc, Oz.then_bk, Oz.then_ct, Oz.turn_nx, Oz.turn_ret, Oz.turn_exc, Oz.fin_nx, Oz.fin_ret, Oz.fin_exc, Oz.rO_some, Oz.noex_ok, Oz.ev_v, Oz.ev_k, Oz.ev_tup, Oz.ev_lst, Oz.ev_bin, Oz.ev_neg, Oz.ev_cmp, Oz.ev_and, Oz.ev_or, Oz.ev_not, Oz.ev_ife, Oz.ev_ix, Oz.ev_sl, Oz.ev_call, Oz.ev_bf, Oz.ev_bm, Oz.ev_isi, Oz.evo_no, Oz.evo_so, Oz.evs_nil, Oz.evs_cons, Oz.evs_star, Oz.evt_tt, Oz.evt_e, Oz.evt_and, Oz.evt_or, Oz.evt_not, Oz.ex_mtch, Oz.exc_nil, Oz.exc_cons, Oz.pt_wild, Oz.pt_val, Oz.pt_seq, Oz.pi_nil, Oz.pi_lit, Oz.pi_cap, Oz.pi_wild, Oz.ev_kcall, Oz.ofS_inj, String.reduceEq, Nat.reduceEqDiff, Oz.ex_set, Oz.ex_sub, Oz.ex_aug, Oz.ex_ex, Oz.ex_ret, Oz.ex_if, Oz.exs_nil, Oz.exs_cons, Oz.tru_bl, Oz.tru_int, Oz.add_int, Oz.sub_int, Oz.aug_add_int, Oz.aug_sub_int, Oz.c_eq_int, Oz.c_ne_int, Oz.c_lt_int, Oz.c_le_int, Oz.c_gt_int, Oz.c_ge_int, Oz.c_eq_str, Oz.c_ne_str, Oz.set_int, List.replicate_succ, List.replicate_zero, List.getElem?_cons_zero, List.getElem?_cons_succ, List.set_cons_zero, List.set_cons_succ, List.map_cons, List.map_nil, List.cons_append, List.nil_append, List.append_nil, if_true, if_false, Bool.false_eq_true, Bool.true_eq_false, decide_eq_true_eq, true_and, and_true, Bool.not_true, Bool.not_false, List.length_cons, List.length_nil, Nat.zero_add, Nat.reduceAdd, wipeE, setAll]; exact e2), g2⟩⟩) (szle (by have := zip_len a b; omega))
          have okm : okUs ((a.pt.zip b.pt).map fun p => ou (met p.1 p.2)) = true := okUs_of fun p hp => ok_ou fun t ht => by
            obtain ⟨hp1, hp2⟩ := zip_dep hp ha hb
            unfold met at ht
            split at ht
            · cases ht
              have := Ty.dep_meet p.1 p.2
              omega
            · cases ht
          refine ⟨S1, ?_, g⟩
          simp only [Oz.bind_ok, Oz.bind_exc, Oz.bind_bad, Oz.on_ok, Oz.on_exc, Oz.then_nx, Oz.then_ret, Oz.then_exc, Oz.then_bk, Oz.then_ct, Oz.turn_nx, Oz.turn_ret, Oz.turn_exc, Oz.fin_nx, Oz.fin_ret, Oz.fin_exc, Oz.rO_some, Oz.noex_ok, Oz.ev_v, Oz.ev_k, Oz.ev_tup, Oz.ev_lst, Oz.ev_bin, Oz.ev_neg, Oz.ev_cmp, Oz.ev_and, Oz.ev_or, Oz.ev_not, Oz.ev_ife, Oz.ev_ix, Oz.ev_sl, Oz.ev_call, Oz.ev_bf, Oz.ev_bm, Oz.ev_isi, Oz.evo_no, Oz.evo_so, Oz.evs_nil, Oz.evs_cons, Oz.evs_star, Oz.evt_tt, Oz.evt_e, Oz.evt_and, Oz.evt_or, Oz.evt_not, Oz.ex_mtch, Oz.exc_nil, Oz.exc_cons, Oz.pt_wild, Oz.pt_val, Oz.pt_seq, Oz.pi_nil, Oz.pi_lit, Oz.pi_cap, Oz.pi_wild, Oz.ev_kcall, Oz.ofS_inj, String.reduceEq, Nat.reduceEqDiff, Oz.ex_set, Oz.ex_sub, Oz.ex_aug, Oz.ex_ex, Oz.ex_ret, Oz.ex_if, Oz.exs_nil, Oz.exs_cons, Oz.tru_bl, Oz.tru_int, Oz.add_int, Oz.sub_int, Oz.aug_add_int, Oz.aug_sub_int, Oz.c_eq_int, Oz.c_ne_int, Oz.c_lt_int, Oz.c_le_int, Oz.c_gt_int, Oz.c_ge_int, Oz.c_eq_str, Oz.c_ne_str, Oz.set_int, List.replicate_succ, List.replicate_zero, List.getElem?_cons_zero, List.getElem?_cons_succ, List.set_cons_zero, List.set_cons_succ, List.map_cons, List.map_nil, List.cons_append, List.nil_append, List.append_nil, if_true, if_false, Bool.false_eq_true, Bool.true_eq_false, decide_eq_true_eq, true_and, and_true, Bool.not_true, Bool.not_false, List.length_cons, List.length_nil, Nat.zero_add, Nat.reduceAdd, h3, decide_true, e, in_non k okm, any_met]
          have hf := Ty.fits_hd h1.1 h2 h3
          cases hq : (a.pt.zip b.pt).all fun p => p.1.fits p.2 with
          | true =>
            rw [met_map hq] at k
            have hl : ((a.pt.zip b.pt).map fun p => tu (p.1.meet p.2)).length + 1 ≤ sizeLine := by
              rw [List.length_map]
              exact szle (by have := zip_len a b; omega)
            simp only [Oz.bind_ok, Oz.bind_exc, Oz.bind_bad, Oz.on_ok, Oz.on_exc, Oz.then_nx, Oz.then_ret, Oz.then_exc, Oz.then_bk, Oz.then_ct, Oz.turn_nx, Oz.turn_ret, Oz.turn_exc, Oz.fin_nx, Oz.fin_ret, Oz.fin_exc, Oz.rO_some, Oz.noex_ok, Oz.ev_v, Oz.ev_k, Oz.ev_tup, Oz.ev_lst, Oz.ev_bin, Oz.ev_neg, Oz.ev_cmp, Oz.ev_and, Oz.ev_or, Oz.ev_not, Oz.ev_ife, Oz.ev_ix, Oz.ev_sl, Oz.ev_call, Oz.ev_bf, Oz.ev_bm, Oz.ev_isi, Oz.evo_no, Oz.evo_so, Oz.evs_nil, Oz.evs_cons, Oz.evs_star, Oz.evt_tt, Oz.evt_e, Oz.evt_and, Oz.evt_or, Oz.evt_not, Oz.ex_mtch, Oz.exc_nil, Oz.exc_cons, Oz.pt_wild, Oz.pt_val, Oz.pt_seq, Oz.pi_nil, Oz.pi_lit, Oz.pi_cap, Oz.pi_wild, Oz.ev_kcall, Oz.ofS_inj, String.reduceEq, Nat.reduceEqDiff, Oz.ex_set, Oz.ex_sub, Oz.ex_aug, Oz.ex_ex, Oz.ex_ret, Oz.ex_if, Oz.exs_nil, Oz.exs_cons, Oz.tru_bl, Oz.tru_int, Oz.add_int, Oz.sub_int, Oz.aug_add_int, Oz.aug_sub_int, Oz.c_eq_int, Oz.c_ne_int, Oz.c_lt_int, Oz.c_le_int, Oz.c_gt_int, Oz.c_ge_int, Oz.c_eq_str, Oz.c_ne_str, Oz.set_int, List.replicate_succ, List.replicate_zero, List.getElem?_cons_zero, List.getElem?_cons_succ, List.set_cons_zero, List.set_cons_succ, List.map_cons, List.map_nil, List.cons_append, List.nil_append, List.append_nil, if_true, if_false, Bool.false_eq_true, Bool.true_eq_false, decide_eq_true_eq, true_and, and_true, Bool.not_true, Bool.not_false, List.length_cons, List.length_nil, Nat.zero_add, Nat.reduceAdd, ix_hd, items_loc k, hl]
            unfold met
            rw [hf, if_pos hq]
            show _ = R.ok (tu (a.meet b)) S1
            rw [Ty.meet_hd h1.1 h2 h3, h3]
          | false =>
            simp only [Oz.bind_ok, Oz.bind_exc, Oz.bind_bad, Oz.on_ok, Oz.on_exc, Oz.then_nx, Oz.then_ret, Oz.then_exc, Oz.then_bk, Oz.then_ct, Oz.turn_nx, Oz.turn_ret, Oz.turn_exc, Oz.fin_nx, Oz.fin_ret, Oz.fin_exc, Oz.rO_some, Oz.noex_ok, Oz.ev_v, Oz.ev_k, Oz.ev_tup, Oz.ev_lst, Oz.ev_bin, Oz.ev_neg, Oz.ev_cmp, Oz.ev_and, Oz.ev_or, Oz.ev_not, Oz.ev_ife, Oz.ev_ix, Oz.ev_sl, Oz.ev_call, Oz.ev_bf, Oz.ev_bm, Oz.ev_isi, Oz.evo_no, Oz.evo_so, Oz.evs_nil, Oz.evs_cons, Oz.evs_star, Oz.evt_tt, Oz.evt_e, Oz.evt_and, Oz.evt_or, Oz.evt_not, Oz.ex_mtch, Oz.exc_nil, Oz.exc_cons, Oz.pt_wild, Oz.pt_val, Oz.pt_seq, Oz.pi_nil, Oz.pi_lit, Oz.pi_cap, Oz.pi_wild, Oz.ev_kcall, Oz.ofS_inj, String.reduceEq, Nat.reduceEqDiff, Oz.ex_set, Oz.ex_sub, Oz.ex_aug, Oz.ex_ex, Oz.ex_ret, Oz.ex_if, Oz.exs_nil, Oz.exs_cons, Oz.tru_bl, Oz.tru_int, Oz.add_int, Oz.sub_int, Oz.aug_add_int, Oz.aug_sub_int, Oz.c_eq_int, Oz.c_ne_int, Oz.c_lt_int, Oz.c_le_int, Oz.c_gt_int, Oz.c_ge_int, Oz.c_eq_str, Oz.c_ne_str, Oz.set_int, List.replicate_succ, List.replicate_zero, List.getElem?_cons_zero, List.getElem?_cons_succ, List.set_cons_zero, List.set_cons_succ, List.map_cons, List.map_nil, List.cons_append, List.nil_append, List.append_nil, if_true, if_false, Bool.false_eq_true, Bool.true_eq_false, decide_eq_true_eq, true_and, and_true, Bool.not_true, Bool.not_false, List.length_cons, List.length_nil, Nat.zero_add, Nat.reduceAdd, Bool.not_false]
            unfold met
            rw [hf, hq]
            rfl
        · refine ⟨S, ?_, Gr.refl⟩
          simp only [Oz.bind_ok, Oz.bind_exc, Oz.bind_bad, Oz.on_ok, Oz.on_exc, Oz.then_nx, Oz.then_ret, Oz.then_exc, Oz.then_bk, Oz.then_ct, Oz.turn_nx, Oz.turn_ret, Oz.turn_exc, Oz.fin_nx, Oz.fin_ret, Oz.fin_exc, Oz.rO_some, Oz.noex_ok, Oz.ev_v, Oz.ev_k, Oz.ev_tup, Oz.ev_lst, Oz.ev_bin, Oz.ev_neg, Oz.ev_cmp, Oz.ev_and, Oz.ev_or, Oz.ev_not, Oz.ev_ife, Oz.ev_ix, Oz.ev_sl, Oz.ev_call, Oz.ev_bf, Oz.ev_bm, Oz.ev_isi, Oz.evo_no, Oz.evo_so, Oz.evs_nil, Oz.evs_cons, Oz.evs_star, Oz.evt_tt, Oz.evt_e, Oz.evt_and, Oz.evt_or, Oz.evt_not, Oz.ex_mtch, Oz.exc_nil, Oz.exc_cons, Oz.pt_wild, Oz.pt_val, Oz.pt_seq, Oz.pi_nil, Oz.pi_lit, Oz.pi_cap, Oz.pi_wild, Oz.ev_kcall, Oz.ofS_inj, String.reduceEq, Nat.reduceEqDiff, Oz.ex_set, Oz.ex_sub, Oz.ex_aug, Oz.ex_ex, Oz.ex_ret, Oz.ex_if, Oz.exs_nil, Oz.exs_cons, Oz.tru_bl, Oz.tru_int, Oz.add_int, Oz.sub_int, Oz.aug_add_int, Oz.aug_sub_int, Oz.c_eq_int, Oz.c_ne_int, Oz.c_lt_int, Oz.c_le_int, Oz.c_gt_int, Oz.c_ge_int, Oz.c_eq_str, Oz.c_ne_str, Oz.set_int, List.replicate_succ, List.replicate_zero, List.getElem?_cons_zero, List.getElem?_cons_succ, List.set_cons_zero, List.set_cons_succ, List.map_cons, List.map_nil, List.cons_append, List.nil_append, List.append_nil, if_true, if_false, Bool.false_eq_true, Bool.true_eq_false, decide_eq_true_eq, true_and, and_true, Bool.not_true, Bool.not_false, List.length_cons, List.length_nil, Nat.zero_add, Nat.reduceAdd, str_ne h3]
          unfold met
          rw [Ty.fits_ne h1.1 h2 h3]
          rfl
theorem consistent_eq (n : Nat) (a b : Ty) (S : Sto) (ha : a.dep ≤ n) (hb : b.dep ≤ n) (hn : n ≤ 15) : ∃ S', (pg.cal (d + n + 2)).call "consistent" [tu a, tu b] S = .ok (.bl (a.fits b)) S' ∧ Gr S S' := by
  rw [call_eq (df := ⟨2, 2, false, T_consistent⟩) (by kernel_rfl), run_eq (by rfl)]
  unfold T_consistent
  obtain ⟨S1, e, g⟩ := meeting_eq (d := d) n a b S ha hb hn
  refine ⟨S1, ?_, g⟩
  have ec : cmpU .isNotN (ou (met a b)) .non S1 = .ok (.bl (a.fits b)) S1 := by
    unfold cmpU cmpB met
    cases a.fits b with
    | true =>
      rw [if_pos rfl]
      show R.ok (U.bl (!decide (tu _ = U.non))) S1 = _
      rw [tu_eq]
      rfl
    | false => rw [if_neg Bool.false_ne_true]; rfl
  simp only [Oz.bind_ok, Oz.bind_exc, Oz.bind_bad, Oz.on_ok, Oz.on_exc, Oz.then_nx, Oz.then_ret, Oz.then_exc, Oz.then_bk, Oz.then_ct, Oz.turn_nx, Oz.turn_ret, Oz.turn_exc, Oz.fin_nx, Oz.fin_ret, Oz.fin_exc, Oz.rO_some, Oz.noex_ok, Oz.ev_v, Oz.ev_k, Oz.ev_tup, Oz.ev_lst, Oz.ev_bin, Oz.ev_neg, Oz.ev_cmp, Oz.ev_and, Oz.ev_or, Oz.ev_not, Oz.ev_ife, Oz.ev_ix, Oz.ev_sl, Oz.ev_call, Oz.ev_bf, Oz.ev_bm, Oz.ev_isi, Oz.evo_no, Oz.evo_so, Oz.evs_nil, Oz.evs_cons, Oz.evs_star, Oz.evt_tt, Oz.evt_e, Oz.evt_and, Oz.evt_or, Oz.evt_not, Oz.ex_mtch, Oz.exc_nil, Oz.exc_cons, Oz.pt_wild, Oz.pt_val, Oz.pt_seq, Oz.pi_nil, Oz.pi_lit, Oz.pi_cap, Oz.pi_wild, Oz.ev_kcall, Oz.ofS_inj, String.reduceEq, Nat.reduceEqDiff, Oz.ex_set, Oz.ex_sub, Oz.ex_aug, Oz.ex_ex, Oz.ex_ret, Oz.ex_if, Oz.exs_nil, Oz.exs_cons, Oz.tru_bl, Oz.tru_int, Oz.add_int, Oz.sub_int, Oz.aug_add_int, Oz.aug_sub_int, Oz.c_eq_int, Oz.c_ne_int, Oz.c_lt_int, Oz.c_le_int, Oz.c_gt_int, Oz.c_ge_int, Oz.c_eq_str, Oz.c_ne_str, Oz.set_int, List.replicate_succ, List.replicate_zero, List.getElem?_cons_zero, List.getElem?_cons_succ, List.set_cons_zero, List.set_cons_succ, List.map_cons, List.map_nil, List.cons_append, List.nil_append, List.append_nil, if_true, if_false, Bool.false_eq_true, Bool.true_eq_false, decide_eq_true_eq, true_and, and_true, Bool.not_true, Bool.not_false, List.length_cons, List.length_nil, Nat.zero_add, Nat.reduceAdd, e, ec]
end Pr
end
section
set_option maxHeartbeats 4000000
namespace Pr
open PySem L2 Oz
variable {S S' : Sto} {d : Nat}
inductive Tx where
  | num (n : Int) | flag (b : Bool) | name (x : Str)
  | call (a b : Tx) | fn (x : Str) (t : Ty) (b : Tx)
  | lt (x : Str) (a b : Tx) | box (a : Tx) | get (a : Tx) | put (a b : Tx)
  | as (a : Tx) (t : Ty) | cast (n : Int) (s t : Ty) (a : Tx)
namespace Tx
noncomputable def eu : Tx → U
  | num n => .tup [.str "num", .int n] | flag b => .tup [.str "flag", .bl b] | name x => .tup [.str "name", .str x]
  | call a b => .tup [.str "call", eu a, eu b] | fn x t b => .tup [.str "fun", .str x, tu t, eu b]
  | lt x a b => .tup [.str "let", .str x, eu a, eu b]
  | box a => .tup [.str "box", eu a] | get a => .tup [.str "get", eu a] | put a b => .tup [.str "put", eu a, eu b]
  | as a t => .tup [.str "as", eu a, tu t] | cast n s t a => .tup [.str "cast", .int n, tu s, tu t, eu a]
noncomputable def its : Tx → List U
  | num n => [.str "num", .int n] | flag b => [.str "flag", .bl b] | name x => [.str "name", .str x]
  | call a b => [.str "call", eu a, eu b] | fn x t b => [.str "fun", .str x, tu t, eu b]
  | lt x a b => [.str "let", .str x, eu a, eu b]
  | box a => [.str "box", eu a] | get a => [.str "get", eu a] | put a b => [.str "put", eu a, eu b]
  | as a t => [.str "as", eu a, tu t] | cast n s t a => [.str "cast", .int n, tu s, tu t, eu a]
theorem eu_its (t : Tx) : eu t = .tup t.its := by cases t <;> rfl
noncomputable def hd : Tx → Str
  | num _ => "num" | flag _ => "flag" | name _ => "name" | call _ _ => "call" | fn _ _ _ => "fun" | lt _ _ _ => "let"
  | box _ => "box" | get _ => "get" | put _ _ => "put" | as _ _ => "as" | cast _ _ _ _ => "cast"
noncomputable def kids : Tx → List Tx
  | num _ => [] | flag _ => [] | name _ => [] | call a b => [a, b] | fn _ _ b => [b] | lt _ a b => [a, b]
  | box a => [a] | get a => [a] | put a b => [a, b] | as a _ => [a] | cast _ _ _ a => [a]
noncomputable def ptsAt : Tx → List Nat
  | num _ => [] | flag _ => [] | name _ => [] | call _ _ => [1, 2] | fn _ _ _ => [3] | lt _ _ _ => [2, 3]
  | box _ => [1] | get _ => [1] | put _ _ => [1, 2] | as _ _ => [1] | cast _ _ _ _ => [4]
noncomputable def ht : Tx → Nat
  | num _ => 1 | flag _ => 1 | name _ => 1 | call a b => max a.ht b.ht + 1 | fn _ _ b => b.ht + 1 | lt _ a b => max a.ht b.ht + 1
  | box a => a.ht + 1 | get a => a.ht + 1 | put a b => max a.ht b.ht + 1 | as a _ => a.ht + 1 | cast _ _ _ a => a.ht + 1
theorem ht_pos (t : Tx) : 1 ≤ t.ht := by cases t <;> simp [ht]
theorem kid_ht {t a : Tx} (h : a ∈ t.kids) : a.ht < t.ht := by
  cases t <;> simp [kids] at h <;> (try rcases h with rfl | rfl) <;> (try subst h) <;> simp [ht] <;> omega
end Tx
open Tx
noncomputable def PA : List (Str × U) := [("num", (U.tup [])), ("flag", (U.tup [])), ("unit", (U.tup [])), ("name", (U.tup [])), ("call", (U.tup [(U.int 1), (U.int 2)])), ("fun", (U.tup [(U.int 3)])), ("rec", (U.tup [(U.int 5)])), ("let", (U.tup [(U.int 2), (U.int 3)])), ("if", (U.tup [(U.int 1), (U.int 2), (U.int 3)])),
  ("pair", (U.tup [(U.int 1), (U.int 2)])), ("fst", (U.tup [(U.int 1)])), ("snd", (U.tup [(U.int 1)])), ("box", (U.tup [(U.int 1)])), ("get", (U.tup [(U.int 1)])), ("put", (U.tup [(U.int 1), (U.int 2)])), ("op", (U.tup [(U.int 2), (U.int 3)])), ("not", (U.tup [(U.int 1)])), ("print", (U.tup [(U.int 1), (U.int 2)])), ("as", (U.tup [(U.int 1)])), ("cast", (U.tup [(U.int 4)]))]
theorem g_PA (d : Nat) : (pg.cal d).gd "PARTS_AT" = some PA := by rw [cal_gd]; rfl
noncomputable def iN (k : Nat) : U := .int (k : Nat)
theorem pa_at (t : Tx) : PA.lookup t.hd = some (.tup (t.ptsAt.map iN)) := by cases t <;> rfl
theorem ix_head (t : Tx) : ixU (eu t) (.int 0) S = .ok (.str t.hd) S := by cases t <;> rfl
theorem ix_at (t : Tx) {k : Nat} {u : U} (h : t.its[k]? = some u) : ixU (eu t) (iN k) S = .ok u S := by
  rw [Tx.eu_its, iN, Oz.ix_tup, atI_nat_own h]
theorem kid_at (t : Tx) : t.ptsAt.map (fun k => t.its.getD k .non) = t.kids.map eu := by cases t <;> rfl
theorem pts_lt (t : Tx) {k : Nat} (h : k ∈ t.ptsAt) : k < t.its.length := by
  cases t <;> simp [Tx.ptsAt] at h <;> simp [Tx.its] <;> omega
theorem get_getD {us : List U} {k : Nat} (h : k < us.length) : us[k]? = some (us.getD k .non) := by simp [h]
theorem parts_eq (t : Tx) (S : Sto) : ∃ S', (pg.cal (d + 1)).call "parts" [eu t] S = .ok (.loc S.length) S' ∧ Gr S S' ∧ S'[S.length]? = some (.lst (t.kids.map eu)) := by
  rw [call_eq (df := ⟨1, 2, false, T_parts⟩) (by kernel_rfl), run_eq (by rfl)]
  unfold T_parts
  obtain ⟨S1, e, g, k⟩ := lc_pure (Φ := pg.cal d) (tp := false) (is := [1]) (env := [some (eu t), none]) (elt := .ix (.v 0) (.v 1)) (it := .gd "PARTS_AT" (.ix (.v 0) (.k (.int 0)))) (S := S) (S0 := S) (l := t.ptsAt) (fu := iN) (g := fun k => t.its.getD k .non)
    (by rw [ev_gd (g_PA d)]; simp only [Oz.bind_ok, Oz.bind_exc, Oz.bind_bad, Oz.on_ok, Oz.on_exc, Oz.then_nx, Oz.then_ret, Oz.then_exc, Oz.then_bk, Oz.then_ct, Oz.turn_nx, Oz.turn_ret, Oz.turn_exc, Oz.fin_nx, Oz.fin_ret, Oz.fin_exc, Oz.rO_some, Oz.noex_ok, Oz.ev_v, Oz.ev_k, Oz.ev_tup, Oz.ev_lst, Oz.ev_bin, Oz.ev_neg, Oz.ev_cmp, Oz.ev_and, Oz.ev_or, Oz.ev_not, Oz.ev_ife, Oz.ev_ix, Oz.ev_sl, Oz.ev_call, Oz.ev_bf, Oz.ev_bm, Oz.ev_isi, Oz.evo_no, Oz.evo_so, Oz.evs_nil, Oz.evs_cons, Oz.evs_star, Oz.evt_tt, Oz.evt_e, Oz.evt_and, Oz.evt_or, Oz.evt_not, Oz.ex_mtch, Oz.exc_nil, Oz.exc_cons, Oz.pt_wild, Oz.pt_val, Oz.pt_seq, Oz.pi_nil, Oz.pi_lit, Oz.pi_cap, Oz.pi_wild, Oz.ev_kcall, Oz.ofS_inj, String.reduceEq, Nat.reduceEqDiff, Oz.ex_set, Oz.ex_sub, Oz.ex_aug, Oz.ex_ex, Oz.ex_ret, Oz.ex_if, Oz.exs_nil, Oz.exs_cons, Oz.tru_bl, Oz.tru_int, Oz.add_int, Oz.sub_int, Oz.aug_add_int, Oz.aug_sub_int, Oz.c_eq_int, Oz.c_ne_int, Oz.c_lt_int, Oz.c_le_int, Oz.c_gt_int, Oz.c_ge_int, Oz.c_eq_str, Oz.c_ne_str, Oz.set_int, List.replicate_succ, List.replicate_zero, List.getElem?_cons_zero, List.getElem?_cons_succ, List.set_cons_zero, List.set_cons_succ, List.map_cons, List.map_nil, List.cons_append, List.nil_append, List.append_nil, if_true, if_false, Bool.false_eq_true, Bool.true_eq_false, decide_eq_true_eq, true_and, and_true, Bool.not_true, Bool.not_false, List.length_cons, List.length_nil, Nat.zero_add, Nat.reduceAdd, ix_head]; rw [pa_at]; rfl) (fun k hk => ⟨_, rfl, fun S1 => ⟨S1, by simp only [Oz.bind_ok, Oz.bind_exc, Oz.bind_bad, Oz.on_ok, Oz.on_exc, Oz.then_nx, Oz.then_ret, Oz.then_exc, Oz.then_bk, Oz.then_ct, Oz.turn_nx, Oz.turn_ret, Oz.turn_exc, Oz.fin_nx, Oz.fin_ret, Oz.fin_exc, Oz.rO_some, Oz.noex_ok, Oz.ev_v, Oz.ev_k, Oz.ev_tup, Oz.ev_lst, Oz.ev_bin, Oz.ev_neg, Oz.ev_cmp, Oz.ev_and, Oz.ev_or, Oz.ev_not, Oz.ev_ife, Oz.ev_ix, Oz.ev_sl, Oz.ev_call, Oz.ev_bf, Oz.ev_bm, Oz.ev_isi, Oz.evo_no, Oz.evo_so, Oz.evs_nil, Oz.evs_cons, Oz.evs_star, Oz.evt_tt, Oz.evt_e, Oz.evt_and, Oz.evt_or, Oz.evt_not, Oz.ex_mtch, Oz.exc_nil, Oz.exc_cons, Oz.pt_wild, Oz.pt_val, Oz.pt_seq, Oz.pi_nil, Oz.pi_lit, Oz.pi_cap, Oz.pi_wild, Oz.ev_kcall, Oz.ofS_inj, String.reduceEq, Nat.reduceEqDiff, Oz.ex_set, Oz.ex_sub, Oz.ex_aug, Oz.ex_ex, Oz.ex_ret, Oz.ex_if, Oz.exs_nil, Oz.exs_cons, Oz.tru_bl, Oz.tru_int, Oz.add_int, Oz.sub_int, Oz.aug_add_int, Oz.aug_sub_int, Oz.c_eq_int, Oz.c_ne_int, Oz.c_lt_int, Oz.c_le_int, Oz.c_gt_int, Oz.c_ge_int, Oz.c_eq_str, Oz.c_ne_str, Oz.set_int, List.replicate_succ, List.replicate_zero, List.getElem?_cons_zero, List.getElem?_cons_succ, List.set_cons_zero, List.set_cons_succ, List.map_cons, List.map_nil, List.cons_append, List.nil_append, List.append_nil, if_true, if_false, Bool.false_eq_true, Bool.true_eq_false, decide_eq_true_eq, true_and, and_true, Bool.not_true, Bool.not_false, List.length_cons, List.length_nil, Nat.zero_add, Nat.reduceAdd, wipeE]; exact ix_at t (get_getD (pts_lt t hk)), Gr.refl⟩⟩) (szle (by cases t <;> simp [Tx.ptsAt]))
  refine ⟨S1, fin_of (go_ret e), g, by rw [k, kid_at]⟩
theorem lcJ_steps {α : Type} {tp : Bool} {is : List Nat} {env : Oz.Env} {n : Nat} {c : Oz.Env → Sto → R Bool} {f : Oz.Env → Sto → R U} {st : Sto → Bool} {fu : α → U} {L : List α} {I : List α → List U → Sto → Prop} (hset : ∀ done ys S x, I done ys S → I done ys (S.set n (.lst x))) (hst : ∀ done ys S, I done ys S → st S = true)
    (hf : ∀ done a r ys S, done ++ a :: r = L → I done ys S → n < S.length → ∃ env', setN tp is (fu a) env = some env' ∧ c env' S = .ok true S ∧ ∃ y S', f env' S = .ok y S' ∧ I (done ++ [a]) (ys ++ [y]) S' ∧ S.length ≤ S'.length ∧ S'[n]? = S[n]?) (hz : L.length ≤ sizeLine) :
    ∀ (r done : List α) (ys : List U) (S : Sto), done ++ r = L → ys.length = done.length → I done ys S → S[n]? = some (.lst ys) → ∃ ys' S', lcJ tp is env c f n st (r.map fu) S = .ok () S' ∧ I L ys' S' ∧ S'[n]? = some (.lst ys')
  | [], done, ys, S, e, hl, h, hS => by
    rw [List.append_nil] at e
    subst e
    exact ⟨ys, S, by rw [List.map_nil, lcJ, if_pos (hst _ _ _ h)], h, hS⟩
  | a :: r, done, ys, S, e, hl, h, hS => by
    have hn : n < S.length := (List.getElem?_eq_some_iff.mp hS).1
    obtain ⟨env', e1, e2, y, S1, e3, h1, l1, k1⟩ := hf done a r ys S e h hn
    have hS1 : S1[n]? = some (.lst ys) := k1.trans hS
    have hn1 : n < S1.length := by omega
    have hlen : ys.length < sizeLine := by
      have := congrArg List.length e
      rw [List.length_append, List.length_cons] at this
      omega
    obtain ⟨ys', S2, e4, h2, k2⟩ := lcJ_steps hset hst hf hz r (done ++ [a]) (ys ++ [y]) (S1.set n (.lst (ys ++ [y]))) (by rw [List.append_assoc]; exact e) (by rw [List.length_append, List.length_append, hl]; rfl) (hset _ _ _ _ h1) (by rw [List.getElem?_set_self hn1])
    refine ⟨ys', S2, ?_, h2, k2⟩
    rw [List.map_cons, lcJ, if_pos (hst _ _ _ h)]
    simp only [e1, e2, bind_ok, if_true, e3, pushAt_ok hS1 hlen]
    exact e4
end Pr
end
section
set_option maxHeartbeats 4000000
namespace Pr
open PySem L2 Oz
variable {S S' : Sto} {d : Nat}
section
variable {α : Type} {f : α → U}
noncomputable def lkA : List (Str × α) → Str → Option α
  | [], _ => none
  | p :: r, x => if p.1 = x then some p.2 else lkA r x
noncomputable def putA (sc : List (Str × α)) (x : Str) (v : α) : List (Str × α) := if (sc.any fun p => decide (p.1 = x)) = true then sc.map (fun p => if p.1 = x then (p.1, v) else p) else sc ++ [(x, v)]
noncomputable def kvA (f : α → U) (sc : List (Str × α)) : List (Key × U) := sc.map fun p => (Sum.inr p.1, f p.2)
theorem inr_eq {x y : Str} : ((Sum.inr x : Key) = Sum.inr y) = (x = y) := by simp
theorem val_kvA (sc : List (Str × α)) (x : Str) : valU (kvA f sc) (.inr x) = (lkA sc x).map f := by
  unfold kvA
  induction sc with
  | nil => rfl
  | cons p r ih =>
    unfold valU at ih ⊢
    unfold lkA
    rw [List.map_cons, List.find?_cons]
    by_cases h : p.1 = x
    · simp [h]
    · simp only [inr_eq, h, decide_false, if_false]
      exact ih
theorem any_kvA (sc : List (Str × α)) (x : Str) : ((kvA f sc).any fun kv => decide (kv.1 = .inr x)) = sc.any fun p => decide (p.1 = x) := by
  unfold kvA
  induction sc with
  | nil => rfl
  | cons p r ih => rw [List.map_cons, List.any_cons, List.any_cons, ih]; simp
theorem put_kvA (sc : List (Str × α)) (x : Str) (v : α) : putKU (kvA f sc) (.inr x) (f v) = kvA f (putA sc x v) := by
  unfold putKU putA
  rw [any_kvA]
  by_cases h : (sc.any fun p => decide (p.1 = x)) = true
  · rw [if_pos h, if_pos h]
    unfold kvA
    rw [List.map_map, List.map_map]
    refine List.map_congr_left fun p _ => ?_
    simp only [Function.comp, inr_eq]
    split <;> simp
  · rw [if_neg h, if_neg h]
    simp [kvA]
theorem len_putA (sc : List (Str × α)) (x : Str) (v : α) : (putA sc x v).length ≤ sc.length + 1 := by
  unfold putA
  split <;> simp
noncomputable def ndA (sc : List (Str × α)) : Prop := (sc.map (·.1)).Nodup
theorem nd_putA {sc : List (Str × α)} (h : ndA sc) (x : Str) (v : α) : ndA (putA sc x v) := by
  unfold ndA putA at *
  by_cases c : (sc.any fun p => decide (p.1 = x)) = true
  · rw [if_pos c, List.map_map]
    have e : (sc.map ((fun q : Str × α => q.1) ∘ fun p => if p.1 = x then (p.1, v) else p)) = sc.map (·.1) := List.map_congr_left fun p _ => by
      simp only [Function.comp]
      split <;> rfl
    rw [e]
    exact h
  · rw [if_neg c, List.map_append]
    refine List.nodup_append.mpr ⟨h, by simp, fun a ha b hb e => ?_⟩
    have hb' : b = x := by simpa using hb
    obtain ⟨p, hp, rfl⟩ := List.mem_map.mp ha
    exact c (List.any_eq_true.mpr ⟨p, hp, decide_eq_true (e.trans hb')⟩)
theorem putKU_new {ms : List (Key × U)} {k : Key} {u : U} (h : k ∉ ms.map (·.1)) : putKU ms k u = ms ++ [(k, u)] := by
  unfold putKU
  rw [if_neg]
  intro c
  obtain ⟨p, hp, e⟩ := List.any_eq_true.mp c
  exact h (List.mem_map.mpr ⟨p, hp, of_decide_eq_true e⟩)
theorem mrg_app : ∀ {ms acc : List (Key × U)}, ((acc ++ ms).map (·.1)).Nodup → mrgU acc ms = acc ++ ms
  | [], acc, _ => by simp [mrgU]
  | p :: ms, acc, h => by
    have hp : p.1 ∉ acc.map (·.1) := fun z => by
      rw [List.map_append, List.nodup_append] at h
      exact h.2.2 _ z _ (by simp) rfl
    show mrgU (putKU acc p.1 p.2) ms = _
    rw [putKU_new hp, mrg_app (by rw [List.append_assoc]; exact h), List.append_assoc]
    rfl
theorem mrg_nil {ms : List (Key × U)} (h : (ms.map (·.1)).Nodup) : mrgU [] ms = ms := by
  rw [mrg_app (by simpa using h)]
  rfl
theorem nd_inr : ∀ {l : List Str}, l.Nodup → (l.map (Sum.inr : Str → Key)).Nodup
  | [], _ => by simp
  | x :: l, h => by
    rw [List.nodup_cons] at h
    rw [List.map_cons, List.nodup_cons]
    exact ⟨fun z => by
      obtain ⟨y, hy, e⟩ := List.mem_map.mp z
      have : y = x := by simpa using e
      exact h.1 (this ▸ hy), nd_inr h.2⟩
theorem nd_kvA {sc : List (Str × α)} (h : ndA sc) : ((kvA f sc).map (·.1)).Nodup := by
  unfold ndA kvA at *
  rw [List.map_map]
  have e : sc.map ((fun q : Key × U => q.1) ∘ fun p => ((Sum.inr p.1 : Key), f p.2)) = (sc.map (·.1)).map Sum.inr := by rw [List.map_map]; rfl
  rw [e]
  exact nd_inr h
end
section
variable {Φ : Cal} {env : Oz.Env} {a k v k2 v2 : E} {m : Nat} {ms : List (Key × U)} {x x2 : Str} {u u2 : U}
theorem dm_head (hm : S[m]? = some (.dic ms)) (hnd : (ms.map (·.1)).Nodup) (hz : ms.length + 15 ≤ sizeLine) : dmOpen S.length (.loc m) (S ++ [.dic []]) = .ok (S.length + 1) (S ++ [.dic ms, .dic []]) := by
  have hl : m < S.length := (List.getElem?_eq_some_iff.mp hm).1
  unfold dmOpen
  simp only [Gr.push.at_ hm, last_get]
  rw [if_pos ⟨by omega, hz⟩, mrg_nil hnd, last_set]
  simp
theorem gr_two {c c' : Cel} : Gr S (S ++ [c, c']) := ⟨by simp, fun k h => List.getElem?_append_left h⟩
theorem dm1_run (hm : S[m]? = some (.dic ms)) (hnd : (ms.map (·.1)).Nodup) (hz : ms.length + 15 ≤ sizeLine) (ha : ∀ S', Gr S S' → ev Φ a env S' = .ok (.loc m) S') (hk : ∀ S', Gr S S' → ev Φ k env S' = .ok (.str x) S') (hv : ∀ S', Gr S S' → ev Φ v env S' = .ok u S') :
    ∃ S', ev Φ (.dm1 a k v) env S = .ok (.loc S.length) S' ∧ Gr S S' ∧ S'[S.length]? = some (.dic (putKU ms (.inr x) u)) := by
  refine ⟨S ++ [.dic (putKU ms (.inr x) u), .dic [(.inr x, u)]], ?_, gr_two, by simp⟩
  rw [ev, ha _ Gr.push, bind_ok, dm_head hm hnd hz, bind_ok, hk _ gr_two, bind_ok, hv _ gr_two, bind_ok]
  unfold dmClose
  have g1 : (S ++ [Cel.dic ms, Cel.dic []])[S.length]? = some (.dic ms) := by simp
  have g2 : (S ++ [Cel.dic ms, Cel.dic []])[S.length + 1]? = some (.dic []) := by simp
  simp only [g1, g2, keyPs, keyU, Option.bind_some, Option.map_some]
  rw [if_pos ⟨by simp; omega, by omega⟩]
  have e : mrgU [] [((Sum.inr x : Key), u)] = [(.inr x, u)] := mrg_nil (by simp)
  rw [e]
  have e2 : mrgU ms [((Sum.inr x : Key), u)] = putKU ms (.inr x) u := rfl
  rw [e2]
  simp
end
noncomputable def partC (n : Int) (c : Tx) (t : Ty) : Cel := .ins "Part" [("number", .int n), ("core", c.eu), ("of_type", tu t)]
noncomputable def fitT (n : Int) (c : Tx) (s t : Ty) : Tx := if s = t then c else .cast n s t c
theorem fld_at {n : Nat} {C f : Str} {fs : List (Str × U)} {u : U} (h : S[n]? = some (.ins C fs)) (hf : fs.lookup f = some u) : (match (U.loc n) with
      | .loc n => (match S[n]? with | some (.ins D fs) => if D = C then rO (fs.lookup f) S else .bad | _ => .bad)
      | _ => (.bad : R U)) = .ok u S := by
  simp only [h, if_true, hf, rO_some]
theorem ev_fld' {Φ : Cal} {env : Oz.Env} {e : E} {n : Nat} {C f : Str} {fs : List (Str × U)} {u : U} {S1 : Sto} (he : ev Φ e env S = .ok (.loc n) S1) (h : S1[n]? = some (.ins C fs)) (hf : fs.lookup f = some u) : ev Φ (.fld e C f) env S = .ok u S1 := by
  rw [ev_fld, he, bind_ok]
  exact fld_at h hf
theorem go_keep {Φ : Cal} {env : Oz.Env} {t : T} {s sts : Sts} {S1 : Sto} (h : evt Φ t env S = .ok false S1) : exs Φ (.cons (.if_ t s .nil) sts) env S = exs Φ sts env S1 := go_skip h
theorem go_stop {Φ : Cal} {env : Oz.Env} {t : T} {e : E} {s sts : Sts} {u : U} {S1 S2 : Sto} (h : evt Φ t env S = .ok true S1) (h' : ev Φ e env S1 = .ok u S2) : exs Φ (.cons (.if_ t (.cons (.ret e) .nil) s) sts) env S = .ret u S2 := by
  rw [exs_cons, ex_if, h, on_ok, if_pos rfl, exs_cons, ex_ret, h', on_ok, then_ret, then_ret]
theorem fit_eq {q : Nat} {n : Int} {c : Tx} {s t : Ty} (hq : S[q]? = some (partC n c s)) (hs : s.dep ≤ 15) (ht : t.dep ≤ 15) (hf : s.fits t = true) : ∃ S', (pg.cal (d + 18)).call "fit" [.loc q, tu t] S = .ok (fitT n c s t).eu S' ∧ Gr S S' := by
  rw [call_eq (df := ⟨2, 2, false, T_fit⟩) (by kernel_rfl), run_eq (by rfl)]
  unfold T_fit
  obtain ⟨S1, e1, g1⟩ := consistent_eq (d := d) 15 s t S hs ht (Nat.le_refl _)
  have q1 := g1.at_ hq
  have f1 : ∀ {S : Sto}, S[q]? = some (partC n c s) → ev (pg.cal (d + 17)) (.fld (.v 0) "Part" "of_type") [some (.loc q), some (tu t)] S = .ok (tu s) S := fun h => ev_fld' (S1 := _) rfl h rfl
  have f2 : ∀ {S : Sto}, S[q]? = some (partC n c s) → ev (pg.cal (d + 17)) (.fld (.v 0) "Part" "core") [some (.loc q), some (tu t)] S = .ok c.eu S := fun h => ev_fld' (S1 := _) rfl h rfl
  have f3 : ∀ {S : Sto}, S[q]? = some (partC n c s) → ev (pg.cal (d + 17)) (.fld (.v 0) "Part" "number") [some (.loc q), some (tu t)] S = .ok (.int n) S := fun h => ev_fld' (S1 := _) rfl h rfl
  refine ⟨S1, fin_of ?_, g1⟩
  show exs _ _ [some (.loc q), some (tu t)] S = _
  rw [go_keep (S1 := S1) (by rw [evt_not, evt_e, ev_call, evs_cons, f1 hq, bind_ok, evs_cons, ev_v' rfl, bind_ok, evs_nil, bind_ok, bind_ok, bind_ok, e1, hf, bind_ok, tru_bl, rO_some, bind_ok]; rfl)]
  unfold fitT
  have ec : ∀ {S : Sto}, cmpU .eq (tu s) (tu t) S = .ok (.bl (decide (s = t))) S := c_eq (by omega) (by omega)
  by_cases e : s = t
  · rw [if_pos e]
    exact go_stop (S1 := S1) (by rw [evt_e, ev_cmp, f1 q1, bind_ok, ev_v' rfl, bind_ok, ec, decide_eq_true e, bind_ok]; rfl) (f2 q1)
  · rw [if_neg e, go_keep (S1 := S1) (by rw [evt_e, ev_cmp, f1 q1, bind_ok, ev_v' rfl, bind_ok, ec, decide_eq_false e, bind_ok]; rfl)]
    refine go_ret ?_
    rw [ev_tup]
    simp only [evs_cons, evs_nil, ev_k, bind_ok, f1 q1, f2 q1, f3 q1, ev_v' (Φ := pg.cal (d + 17)) (env := [some (.loc q), some (tu t)]) (n := 1) (u := tu t) rfl]
    rw [if_pos (by show 5 ≤ sizeLine; decide)]
    rfl
noncomputable def gTy : Str → Option Ty := fun x => ([("int", Ty.int), ("bool", .bool), ("unit", .unit), ("fun", .fn .any .any), ("box", .bx .any)] : List (Str × Ty)).lookup x
noncomputable def wan (s : Ty) (x : Str) : Option Ty := if s = .any then gTy x else some s
noncomputable def GT : List (Str × U) := [("int", (U.tup [(U.str "int")])), ("bool", (U.tup [(U.str "bool")])), ("unit", (U.tup [(U.str "unit")])), ("fun", (U.tup [(U.str "fun"), (U.tup [(U.str "any")]), (U.tup [(U.str "any")])])), ("pair", (U.tup [(U.str "pair"), (U.tup [(U.str "any")]), (U.tup [(U.str "any")])])), ("box", (U.tup [(U.str "box"), (U.tup [(U.str "any")])]))]
theorem g_GT (d : Nat) : (pg.cal d).gd "GROUND_TYPES" = some GT := by rw [cal_gd]; rfl
theorem gt_at {x : Str} {t : Ty} (h : gTy x = some t) : GT.lookup x = some (tu t) := by
  unfold gTy at h
  simp only [List.lookup_cons] at h
  repeat' (split at h)
  all_goals first | (rename_i hx; cases h; rw [eq_of_beq hx]; rfl) | (cases h; done)
theorem ground_type_eq {x : Str} {t : Ty} (h : gTy x = some t) : (pg.cal (d + 1)).call "ground_type" [.str x] S = .ok (tu t) S := by
  rw [call_eq (df := ⟨1, 1, false, T_ground_type⟩) (by kernel_rfl), run_eq (by rfl)]
  unfold T_ground_type
  refine fin_of (go_ret ?_)
  rw [ev_gd (g_GT d)]
  show (R.ok (U.str x) S).bind _ = _
  rw [bind_ok]
  simp only [gt_at h, rO_some]
theorem gTy_dep {x : Str} {t : Ty} (h : gTy x = some t) : t.dep ≤ 15 := by
  unfold gTy at h
  simp only [List.lookup_cons] at h
  repeat' (split at h)
  all_goals first | (cases h; decide) | (cases h)
theorem ne_hd {t : Ty} {x : Str} : cmpU .ne (.str t.hd) (.str x) S = .ok (.bl (!decide (t.hd = x))) S := rfl
theorem opened_eq {q : Nat} {n : Int} {c : Tx} {s w : Ty} {x : Str} (hq : S[q]? = some (partC n c s)) (hs : s.dep ≤ 15) (hw : wan s x = some w) (hx : w.hd = x) (hf : s.fits w = true) : ∃ S', (pg.cal (d + 19)).call "opened" [.loc q, .str x] S = .ok (.tup [(fitT n c s w).eu, .tup (w.pt.map tu)]) S' ∧ Gr S S' := by
  rw [call_eq (df := ⟨2, 3, false, T_opened⟩) (by kernel_rfl), run_eq (by rfl)]
  unfold T_opened
  have wd : w.dep ≤ 15 := by
    unfold wan at hw
    split at hw
    · exact gTy_dep hw
    · cases hw
      exact hs
  obtain ⟨S1, e1, g1⟩ := fit_eq (d := d) hq hs wd hf
  refine ⟨S1, fin_of ?_, g1⟩
  show exs _ _ [some (.loc q), some (.str x), none] S = _
  rw [go_set (show ev (pg.cal (d + 18)) (.fld (.v 0) "Part" "of_type") [some (.loc q), some (.str x), none] S = .ok (tu s) S from ev_fld' (S1 := S) rfl hq rfl)]
  show exs _ _ [some (.loc q), some (.str x), some (tu s)] S = _
  have ea : evt (pg.cal (d + 18)) (.e (.cmp .eq (.v 2) (.g "ANY"))) [some (.loc q), some (.str x), some (tu s)] S = .ok (decide (s = .any)) S := by
    rw [evt_e, ev_cmp, ev_v' rfl, bind_ok, ev_g (g_ANY _), bind_ok, c_eq (by omega) (by decide), bind_ok]
    rfl
  have key : exs (pg.cal (d + 18)) (.cons (.if_ (.e (.cmp .eq (.v 2) (.g "ANY"))) (.cons (.set false [2] (.call "ground_type" (.cons (.v 1) .nil))) .nil) .nil) (.cons (.if_ (.e (.cmp .ne (.ix (.v 2) (.k (.int 0))) (.v 1))) (.cons (.raise "Mismatched" (.fld (.v 0) "Part" "number")) .nil) .nil) (.cons (.ret (.tup (.cons (.call "fit" (.cons (.v 0) (.cons (.v 2) .nil))) (.cons (.sl (.v 2) (.so (.k (.int 1))) .no) .nil)))) .nil)))
      [some (.loc q), some (.str x), some (tu s)] S = exs (pg.cal (d + 18)) (.cons (.if_ (.e (.cmp .ne (.ix (.v 2) (.k (.int 0))) (.v 1))) (.cons (.raise "Mismatched" (.fld (.v 0) "Part" "number")) .nil) .nil) (.cons (.ret (.tup (.cons (.call "fit" (.cons (.v 0) (.cons (.v 2) .nil))) (.cons (.sl (.v 2) (.so (.k (.int 1))) .no) .nil)))) .nil)) [some (.loc q), some (.str x), some (tu w)] S := by
    unfold wan at hw
    by_cases h : s = .any
    · rw [if_pos h] at hw
      rw [go_if_set (S' := S) (by rw [ea, decide_eq_true h]) (show ev _ _ _ S = .ok (tu w) S from ?_)]
      · rfl
      · rw [ev_call, evs_cons, ev_v' rfl, bind_ok, evs_nil, bind_ok, bind_ok]
        exact ground_type_eq (d := d + 17) hw
    · rw [if_neg h] at hw
      cases hw
      rw [go_keep (by rw [ea, decide_eq_false h])]
  rw [key, go_keep (S1 := S) (by rw [evt_e, ev_cmp, ev_ix, ev_v' rfl, bind_ok, ev_k, bind_ok, ix_hd, bind_ok, ev_v' rfl, bind_ok, ne_hd, decide_eq_true hx, bind_ok]; rfl)]
  refine go_ret ?_
  rw [ev_tup, evs_cons, ev_call, evs_cons, ev_v' rfl, bind_ok, evs_cons, ev_v' rfl, bind_ok, evs_nil, bind_ok, bind_ok, bind_ok, e1, bind_ok, evs_cons, ev_sl, ev_v' rfl, bind_ok, evo_so, ev_k, bind_ok, bind_ok, evo_no, bind_ok, sl_pt, bind_ok, evs_nil, bind_ok, bind_ok, bind_ok, if_pos (by show 2 ≤ sizeLine; decide)]
end Pr
end
section
set_option maxHeartbeats 4000000
namespace Pr
open PySem L2 Oz
variable {S S' S0 : Sto} {d : Nat}
section
variable {Φ : Cal} {env : Oz.Env} {e a b : E} {es : Es} {t : T} {sts s : Sts} {u w x y : U} {us : List U} {k : Bool} {f C : Str} {o : Cm} {i : Nat}
noncomputable def Eg (Φ : Cal) (S0 : Sto) (e : E) (env : Oz.Env) (u : U) : Prop := ∀ S, Gr S0 S → ∃ S', ev Φ e env S = .ok u S' ∧ Gr S S'
noncomputable def Egs (Φ : Cal) (S0 : Sto) (es : Es) (env : Oz.Env) (us : List U) : Prop := ∀ S, Gr S0 S → ∃ S', evs Φ es env S = .ok us S' ∧ Gr S S'
noncomputable def Etg (Φ : Cal) (S0 : Sto) (t : T) (env : Oz.Env) (k : Bool) : Prop := ∀ S, Gr S0 S → ∃ S', evt Φ t env S = .ok k S' ∧ Gr S S'
noncomputable def Cg (Φ : Cal) (S0 : Sto) (f : Str) (us : List U) (u : U) : Prop := ∀ S, Gr S0 S → ∃ S', Φ.call f us S = .ok u S' ∧ Gr S S'
noncomputable def Xg (Φ : Cal) (S0 : Sto) (sts : Sts) (env : Oz.Env) (u : U) : Prop := ∀ S, Gr S0 S → ∃ S', exs Φ sts env S = .ret u S' ∧ Gr S S'
theorem Eg.v (h : env[i]? = some (some u)) : Eg Φ S0 (.v i) env u := fun S _ => ⟨S, ev_v' h, Gr.refl⟩
theorem Eg.con : Eg Φ S0 (.k u) env u := fun S _ => ⟨S, rfl, Gr.refl⟩
theorem Eg.g (h : Φ.glo f = some u) : Eg Φ S0 (.g f) env u := fun S _ => ⟨S, ev_g h, Gr.refl⟩
theorem Eg.fld {n : Nat} {fs : List (Str × U)} (h : Eg Φ S0 e env (.loc n)) (hn : S0[n]? = some (.ins C fs)) (hf : fs.lookup f = some u) : Eg Φ S0 (.fld e C f) env u := fun S g => by
  obtain ⟨S1, e1, g1⟩ := h S g
  exact ⟨S1, ev_fld' e1 ((g.trans g1).at_ hn) hf, g1⟩
theorem Egs.nil : Egs Φ S0 .nil env [] := fun S _ => ⟨S, rfl, Gr.refl⟩
theorem Egs.cons (h : Eg Φ S0 e env u) (h' : Egs Φ S0 es env us) : Egs Φ S0 (.cons e es) env (u :: us) := fun S g => by
  obtain ⟨S1, e1, g1⟩ := h S g
  obtain ⟨S2, e2, g2⟩ := h' S1 (g.trans g1)
  exact ⟨S2, by rw [evs_cons, e1, bind_ok, e2, bind_ok], g1.trans g2⟩
theorem Eg.tup (h : Egs Φ S0 es env us) (hz : us.length ≤ 1000) : Eg Φ S0 (.tup es) env (.tup us) := fun S g => by
  obtain ⟨S1, e1, g1⟩ := h S g
  exact ⟨S1, by rw [ev_tup, e1, bind_ok, if_pos (szle hz)], g1⟩
theorem Eg.call (h : Egs Φ S0 es env us) (hc : Cg Φ S0 f us u) : Eg Φ S0 (.call f es) env u := fun S g => by
  obtain ⟨S1, e1, g1⟩ := h S g
  obtain ⟨S2, e2, g2⟩ := hc S1 (g.trans g1)
  exact ⟨S2, by rw [ev_call, e1, bind_ok, e2], g1.trans g2⟩
theorem Eg.ix (h : Eg Φ S0 a env x) (h' : Eg Φ S0 b env y) (hx : ∀ S, Gr S0 S → ixU x y S = .ok u S) : Eg Φ S0 (.ix a b) env u := fun S g => by
  obtain ⟨S1, e1, g1⟩ := h S g
  obtain ⟨S2, e2, g2⟩ := h' S1 (g.trans g1)
  exact ⟨S2, by rw [ev_ix, e1, bind_ok, e2, bind_ok, hx S2 ((g.trans g1).trans g2)], g1.trans g2⟩
theorem Eg.cmp (h : Eg Φ S0 a env x) (h' : Eg Φ S0 b env y) (hx : ∀ S, Gr S0 S → cmpU o x y S = .ok u S) : Eg Φ S0 (.cmp o a b) env u := fun S g => by
  obtain ⟨S1, e1, g1⟩ := h S g
  obtain ⟨S2, e2, g2⟩ := h' S1 (g.trans g1)
  exact ⟨S2, by rw [ev_cmp, e1, bind_ok, e2, bind_ok, hx S2 ((g.trans g1).trans g2)], g1.trans g2⟩
theorem Eg.gd {kvs : List (Str × U)} (h : Φ.gd f = some kvs) (ha : Eg Φ S0 a env (.str C)) (hl : kvs.lookup C = some u) : Eg Φ S0 (.gd f a) env u := fun S g => by
  obtain ⟨S1, e1, g1⟩ := ha S g
  exact ⟨S1, by rw [ev_gd h, e1, bind_ok]; simp only [hl, rO_some], g1⟩
theorem Eg.ife (h : Etg Φ S0 t env k) (ha : k = true → Eg Φ S0 a env u) (hb : k = false → Eg Φ S0 b env u) : Eg Φ S0 (.ife t a b) env u := fun S g => by
  obtain ⟨S1, e1, g1⟩ := h S g
  cases k with
  | true =>
    obtain ⟨S2, e2, g2⟩ := ha rfl S1 (g.trans g1)
    exact ⟨S2, by rw [ev_ife, e1, bind_ok, if_pos rfl, e2], g1.trans g2⟩
  | false =>
    obtain ⟨S2, e2, g2⟩ := hb rfl S1 (g.trans g1)
    exact ⟨S2, by rw [ev_ife, e1, bind_ok, if_neg Bool.false_ne_true, e2], g1.trans g2⟩
theorem Etg.of (h : Eg Φ S0 a env (.bl k)) : Etg Φ S0 (.e a) env k := fun S g => by
  obtain ⟨S1, e1, g1⟩ := h S g
  exact ⟨S1, by rw [evt_e, e1, bind_ok]; rfl, g1⟩
theorem Xg.ret (h : Eg Φ S0 e env u) : Xg Φ S0 (.cons (.ret e) sts) env u := fun S g => by
  obtain ⟨S1, e1, g1⟩ := h S g
  exact ⟨S1, go_ret e1, g1⟩
theorem Xg.set (h : Eg Φ S0 e env x) (h' : Xg Φ S0 sts (env.set i (some x)) u) : Xg Φ S0 (.cons (.set false [i] e) sts) env u := fun S g => by
  obtain ⟨S1, e1, g1⟩ := h S g
  obtain ⟨S2, e2, g2⟩ := h' S1 (g.trans g1)
  exact ⟨S2, by rw [go_set e1, e2], g1.trans g2⟩
theorem Xg.stop (h : Etg Φ S0 t env true) (h' : Eg Φ S0 e env u) : Xg Φ S0 (.cons (.if_ t (.cons (.ret e) .nil) s) sts) env u := fun S g => by
  obtain ⟨S1, e1, g1⟩ := h S g
  obtain ⟨S2, e2, g2⟩ := h' S1 (g.trans g1)
  exact ⟨S2, go_stop e1 e2, g1.trans g2⟩
theorem Xg.tset {tg : Tg} {env' : Oz.Env} (h : Eg Φ S0 e env x) (ht : ∀ S, setT Φ tg x env S = .ok env' S) (h' : Xg Φ S0 sts env' u) : Xg Φ S0 (.cons (.tset tg e) sts) env u := fun S g => by
  obtain ⟨S1, e1, g1⟩ := h S g
  obtain ⟨S2, e2, g2⟩ := h' S1 (g.trans g1)
  refine ⟨S2, ?_, g1.trans g2⟩
  rw [exs_cons, ex, e1, on_ok, ht S1, on_ok, then_nx, e2]
theorem Cg.of {b : Sts} {Φ' : Cal} (h : ∀ S, Φ'.call f us S = (exs Φ b env S).fin) (hx : Xg Φ S0 b env u) : Cg Φ' S0 f us u := fun S g => by
  obtain ⟨S1, e1, g1⟩ := hx S g
  exact ⟨S1, by rw [h, e1]; rfl, g1⟩
end
theorem fit_c {q : Nat} {n : Int} {c : Tx} {s t : Ty} (hq : S0[q]? = some (partC n c s)) (hs : s.dep ≤ 15) (ht : t.dep ≤ 15) (hf : s.fits t = true) : Cg (pg.cal (d + 19)) S0 "fit" [.loc q, tu t] (fitT n c s t).eu := fun S g => fit_eq (d := d + 1) (g.at_ hq) hs ht hf
theorem opened_c {q : Nat} {n : Int} {c : Tx} {s w : Ty} {x : Str} (hq : S0[q]? = some (partC n c s)) (hs : s.dep ≤ 15) (hw : wan s x = some w) (hx : w.hd = x) (hf : s.fits w = true) : Cg (pg.cal (d + 19)) S0 "opened" [.loc q, .str x] (.tup [(fitT n c s w).eu, .tup (w.pt.map tu)]) := fun S g => opened_eq (d := d) (g.at_ hq) hs hw hx hf
theorem g_UNIT (d : Nat) : (pg.cal d).glo "UNIT" = some (tu .unit) := by rw [cal_glo]; rfl
noncomputable def CT : List (Str × U) := [("num", (U.tup [(U.str "int")])), ("flag", (U.tup [(U.str "bool")])), ("unit", (U.tup [(U.str "unit")]))]
theorem g_CT (d : Nat) : (pg.cal d).gd "CONSTANT_TYPES" = some CT := by rw [cal_gd]; rfl
noncomputable abbrev Pq := Int × Tx × Ty
/-- a rule -/
noncomputable def ruleP : Tx → List Pq → Option (Tx × Ty)
  | .num n, [] => some (.num n, .int)
  | .flag b, [] => some (.flag b, .bool)
  | .call _ _, [(n1, c1, s1), (n2, c2, s2)] => match wan s1 "fun" with
    | some (.fn g r) => if s1.fits (.fn g r) = true ∧ s2.fits g = true ∧ g.dep ≤ 15 then some (.call (fitT n1 c1 s1 (.fn g r)) (fitT n2 c2 s2 g), r) else none
    | _ => none
  | .box _, [(_, c, s)] => some (.box c, .bx s)
  | .get _, [(n, c, s)] => match wan s "box" with
    | some (.bx a) => if s.fits (.bx a) = true then some (.get (fitT n c s (.bx a)), a) else none
    | _ => none
  | .put _ _, [(n1, c1, s1), (n2, c2, s2)] => match wan s1 "box" with
    | some (.bx a) => if s1.fits (.bx a) = true ∧ s2.fits a = true ∧ a.dep ≤ 15 then some (.put (fitT n1 c1 s1 (.bx a)) (fitT n2 c2 s2 a), .unit) else none
    | _ => none
  | .as _ t, [(n, c, s)] => if s.fits t = true ∧ t.dep ≤ 15 then some (fitT n c s t, t) else none
  | _, _ => none
noncomputable def RT : List (Str × Str) := [("num", "constant_rule"), ("flag", "constant_rule"), ("unit", "constant_rule"), ("call", "call_rule"), ("if", "if_rule"), ("pair", "pair_rule"), ("fst", "half_rule"), ("snd", "half_rule"), ("box", "box_rule"), ("get", "get_rule"), ("put", "put_rule"), ("op", "op_rule"), ("not", "not_rule"), ("print", "print_rule"), ("as", "as_rule")]
/-- a rule's call, in stores that grew -/
noncomputable def RuleOk (d : Nat) (S0 : Sto) (t : Tx) (qs : List Nat) (r : Tx × Ty) : Prop := ∃ f, RT.lookup t.hd = some f ∧ Cg (pg.cal (d + 20)) S0 f (t.eu :: qs.map U.loc) (.tup [r.1.eu, tu r.2])
section
variable {q1 q2 q3 : Nat} {n1 n2 n3 : Int} {c1 c2 c3 : Tx} {s1 s2 s3 : Ty}
theorem r_const {t : Tx} {ty : Ty} (hl : CT.lookup t.hd = some (tu ty)) (hr : RT.lookup t.hd = some "constant_rule") : RuleOk d S0 t [] (t, ty) :=
  ⟨_, hr, Cg.of (Φ := pg.cal (d + 19)) (env := [some t.eu]) (b := T_constant_rule) (fun S => by rw [List.map_nil, call_eq (df := ⟨1, 1, false, T_constant_rule⟩) (by kernel_rfl), run_eq (by rfl)]; rfl)
    (Xg.ret (Eg.tup (Egs.cons (Eg.v rfl) (Egs.cons (Eg.gd (g_CT _) (Eg.ix (Eg.v rfl) Eg.con fun S _ => ix_head t) hl) Egs.nil)) (by first | decide | exact Nat.le_of_ble_eq_true rfl)))⟩
theorem r_call {a b : Tx} {g r : Ty} (h1 : S0[q1]? = some (partC n1 c1 s1)) (h2 : S0[q2]? = some (partC n2 c2 s2)) (d1 : s1.dep ≤ 15) (d2 : s2.dep ≤ 15) (hw : wan s1 "fun" = some (.fn g r)) (f1 : s1.fits (.fn g r) = true) (f2 : s2.fits g = true) (dg : g.dep ≤ 15) :
    RuleOk d S0 (.call a b) [q1, q2] (.call (fitT n1 c1 s1 (.fn g r)) (fitT n2 c2 s2 g), r) :=
  ⟨_, rfl, Cg.of (Φ := pg.cal (d + 19)) (env := [some (Tx.call a b).eu, some (.loc q1), some (.loc q2), none, none, none]) (b := T_call_rule) (fun S => by rw [call_eq (df := ⟨3, 6, false, T_call_rule⟩) (by kernel_rfl), run_eq (by rfl)]; rfl)
    (Xg.tset (env' := [some (Tx.call a b).eu, some (.loc q1), some (.loc q2), some (fitT n1 c1 s1 (.fn g r)).eu, some (tu g), some (tu r)]) (Eg.call (Egs.cons (Eg.v rfl) (Egs.cons Eg.con Egs.nil)) (opened_c h1 d1 hw rfl f1)) (fun S => rfl)
      (Xg.ret (Eg.tup (Egs.cons (Eg.tup (Egs.cons Eg.con (Egs.cons (Eg.v rfl) (Egs.cons (Eg.call (Egs.cons (Eg.v rfl) (Egs.cons (Eg.v rfl) Egs.nil)) (fit_c h2 d2 dg f2)) Egs.nil))) (by first | decide | exact Nat.le_of_ble_eq_true rfl)) (Egs.cons (Eg.v rfl) Egs.nil)) (by first | decide | exact Nat.le_of_ble_eq_true rfl))))⟩
theorem r_box {a : Tx} (h1 : S0[q1]? = some (partC n1 c1 s1)) : RuleOk d S0 (.box a) [q1] (.box c1, .bx s1) :=
  ⟨_, rfl, Cg.of (Φ := pg.cal (d + 19)) (env := [some (Tx.box a).eu, some (.loc q1)]) (b := T_box_rule) (fun S => by rw [call_eq (df := ⟨2, 2, false, T_box_rule⟩) (by kernel_rfl), run_eq (by rfl)]; rfl)
    (Xg.ret (Eg.tup (Egs.cons (Eg.tup (Egs.cons Eg.con (Egs.cons (Eg.fld (Eg.v rfl) h1 rfl) Egs.nil)) (by first | decide | exact Nat.le_of_ble_eq_true rfl)) (Egs.cons (Eg.tup (Egs.cons Eg.con (Egs.cons (Eg.fld (Eg.v rfl) h1 rfl) Egs.nil)) (by first | decide | exact Nat.le_of_ble_eq_true rfl)) Egs.nil)) (by first | decide | exact Nat.le_of_ble_eq_true rfl)))⟩
theorem r_get {a : Tx} {g : Ty} (h1 : S0[q1]? = some (partC n1 c1 s1)) (d1 : s1.dep ≤ 15) (hw : wan s1 "box" = some (.bx g)) (f1 : s1.fits (.bx g) = true) : RuleOk d S0 (.get a) [q1] (.get (fitT n1 c1 s1 (.bx g)), g) :=
  ⟨_, rfl, Cg.of (Φ := pg.cal (d + 19)) (env := [some (Tx.get a).eu, some (.loc q1), none, none]) (b := T_get_rule) (fun S => by rw [call_eq (df := ⟨2, 4, false, T_get_rule⟩) (by kernel_rfl), run_eq (by rfl)]; rfl)
    (Xg.tset (env' := [some (Tx.get a).eu, some (.loc q1), some (fitT n1 c1 s1 (.bx g)).eu, some (tu g)]) (Eg.call (Egs.cons (Eg.v rfl) (Egs.cons Eg.con Egs.nil)) (opened_c h1 d1 hw rfl f1)) (fun S => rfl)
    (Xg.ret (Eg.tup (Egs.cons (Eg.tup (Egs.cons Eg.con (Egs.cons (Eg.v rfl) Egs.nil)) (by first | decide | exact Nat.le_of_ble_eq_true rfl)) (Egs.cons (Eg.v rfl) Egs.nil)) (by first | decide | exact Nat.le_of_ble_eq_true rfl))))⟩
theorem r_put {a b : Tx} {g : Ty} (h1 : S0[q1]? = some (partC n1 c1 s1)) (h2 : S0[q2]? = some (partC n2 c2 s2)) (d1 : s1.dep ≤ 15) (d2 : s2.dep ≤ 15) (hw : wan s1 "box" = some (.bx g)) (f1 : s1.fits (.bx g) = true) (f2 : s2.fits g = true) (dg : g.dep ≤ 15) :
    RuleOk d S0 (.put a b) [q1, q2] (.put (fitT n1 c1 s1 (.bx g)) (fitT n2 c2 s2 g), .unit) :=
  ⟨_, rfl, Cg.of (Φ := pg.cal (d + 19)) (env := [some (Tx.put a b).eu, some (.loc q1), some (.loc q2), none, none]) (b := T_put_rule) (fun S => by rw [call_eq (df := ⟨3, 5, false, T_put_rule⟩) (by kernel_rfl), run_eq (by rfl)]; rfl)
    (Xg.tset (env' := [some (Tx.put a b).eu, some (.loc q1), some (.loc q2), some (fitT n1 c1 s1 (.bx g)).eu, some (tu g)]) (Eg.call (Egs.cons (Eg.v rfl) (Egs.cons Eg.con Egs.nil)) (opened_c h1 d1 hw rfl f1)) (fun S => rfl)
    (Xg.ret (Eg.tup (Egs.cons (Eg.tup (Egs.cons Eg.con (Egs.cons (Eg.v rfl) (Egs.cons (Eg.call (Egs.cons (Eg.v rfl) (Egs.cons (Eg.v rfl) Egs.nil)) (fit_c h2 d2 dg f2)) Egs.nil))) (by first | decide | exact Nat.le_of_ble_eq_true rfl)) (Egs.cons (Eg.g (g_UNIT _)) Egs.nil)) (by first | decide | exact Nat.le_of_ble_eq_true rfl))))⟩
theorem r_as {a : Tx} {t : Ty} (h1 : S0[q1]? = some (partC n1 c1 s1)) (d1 : s1.dep ≤ 15) (dt : t.dep ≤ 15) (f1 : s1.fits t = true) : RuleOk d S0 (.as a t) [q1] (fitT n1 c1 s1 t, t) :=
  ⟨_, rfl, Cg.of (Φ := pg.cal (d + 19)) (env := [some (Tx.as a t).eu, some (.loc q1)]) (b := T_as_rule) (fun S => by rw [call_eq (df := ⟨2, 2, false, T_as_rule⟩) (by kernel_rfl), run_eq (by rfl)]; rfl)
    (Xg.ret (Eg.tup (Egs.cons (Eg.call (Egs.cons (Eg.v rfl) (Egs.cons (Eg.ix (Eg.v rfl) Eg.con fun S _ => rfl) Egs.nil)) (fit_c h1 d1 dt f1)) (Egs.cons (Eg.ix (Eg.v rfl) Eg.con fun S _ => rfl) Egs.nil)) (by first | decide | exact Nat.le_of_ble_eq_true rfl)))⟩
end
end Pr
end
section
set_option maxHeartbeats 4000000
namespace Pr
open PySem L2 Oz
variable {S S' S0 : Sto} {d : Nat}
noncomputable def gdE (c : Tx) (t : Ty) (k : Nat) : Option (Tx × Ty × Nat) := if t.dep ≤ 15 then some (c, t, k) else none
noncomputable def r0 (t : Tx) (k : Nat) : Option (Tx × Ty × Nat) := (ruleP t []).bind fun r => gdE r.1 r.2 (k + 1)
noncomputable def r1 (t : Tx) (k : Nat) (x : Option (Tx × Ty × Nat)) : Option (Tx × Ty × Nat) := x.bind fun x => (ruleP t [(((k + 1 : Nat) : Int), x.1, x.2.1)]).bind fun r => gdE r.1 r.2 x.2.2
noncomputable def r2 (t : Tx) (k : Nat) (x : Option (Tx × Ty × Nat)) (y : Nat → Option (Tx × Ty × Nat)) : Option (Tx × Ty × Nat) := x.bind fun x => (y x.2.2).bind fun y => (ruleP t [(((k + 1 : Nat) : Int), x.1, x.2.1), ((x.2.2 : Nat), y.1, y.2.1)]).bind fun r => gdE r.1 r.2 y.2.2
noncomputable def r3 (t : Tx) (k : Nat) (x : Option (Tx × Ty × Nat)) (y z : Nat → Option (Tx × Ty × Nat)) : Option (Tx × Ty × Nat) := x.bind fun x => (y x.2.2).bind fun y => (z y.2.2).bind fun z => (ruleP t [(((k + 1 : Nat) : Int), x.1, x.2.1), ((x.2.2 : Nat), y.1, y.2.1), ((y.2.2 : Nat), z.1, z.2.1)]).bind fun r => gdE r.1 r.2 z.2.2
noncomputable def el : Tx → List (Str × Ty) → Nat → Option (Tx × Ty × Nat)
  | .num n, _, k => r0 (.num n) k
  | .flag b, _, k => r0 (.flag b) k
  | .name x, sc, k => (lkA sc x).bind fun ty => gdE (.name x) ty (k + 1)
  | .fn x t b, sc, k => (el b (putA sc x t) (k + 1)).bind fun y => gdE (.fn x t y.1) (.fn t y.2.1) y.2.2
  | .lt x a b, sc, k => (el a sc (k + 1)).bind fun p => (el b (putA sc x p.2.1) p.2.2).bind fun q => gdE (.lt x p.1 q.1) q.2.1 q.2.2
  | .call a b, sc, k => r2 (.call a b) k (el a sc (k + 1)) fun k => el b sc k
  | .box a, sc, k => r1 (.box a) k (el a sc (k + 1))
  | .get a, sc, k => r1 (.get a) k (el a sc (k + 1))
  | .put a b, sc, k => r2 (.put a b) k (el a sc (k + 1)) fun k => el b sc k
  | .as a t, sc, k => r1 (.as a t) k (el a sc (k + 1))
  | .cast _ _ _ _, _, _ => none
noncomputable def elC (k : Nat) : Cel := .ins "Elaborator" [("reached", .int (k : Nat))]
noncomputable def ElOk (t : Tx) : Prop := ∀ (D : Nat) (sc : List (Str × Ty)) (k : Nat) (c : Tx) (ty : Ty) (k' : Nat) (S : Sto) (e m : Nat), el t sc k = some (c, ty, k') → S[e]? = some (elC k) → S[m]? = some (.dic (kvA tu sc)) → ndA sc → sc.length + 2 * t.ht ≤ 900 → 22 + 2 * t.ht ≤ D →
  ∃ q S', (pg.cal D).call "Elaborator.elaborated" [.loc e, t.eu, .loc m] S = .ok (.loc q) S' ∧ S'[q]? = some (partC k c ty) ∧ S'[e]? = some (elC k') ∧ F2 S S' e e ∧ S.length ≤ q ∧ ty.dep ≤ 15
theorem f2_at {e n : Nat} {c : Cel} (f : F2 S S' e e) (h : S[n]? = some c) (hn : n ≠ e) : S'[n]? = some c := (f.2 n (List.getElem?_eq_some_iff.mp h).1 hn hn).trans h
theorem ne_el {e m : Nat} {k : Nat} {kvs : List (Key × U)} (h : S[e]? = some (elC k)) (h' : S[m]? = some (.dic kvs)) : m ≠ e := fun q => by
  rw [q, h] at h'
  cases h'
theorem ne_pt {e q : Nat} {k : Nat} {n : Int} {c : Tx} {t : Ty} (h : S[e]? = some (elC k)) (h' : S[q]? = some (partC n c t)) : q ≠ e := fun z => by
  rw [z, h] at h'
  injection h' with h'
  unfold elC partC at h'
  injection h' with h1 h2
  exact absurd h1 (by decide)
/-- self.elaborated(x, scope) -/
theorem meth_el {Φ : Cal} {env : Oz.Env} {e : Nat} {k : Nat} {us : List U} {S1 : Sto} {es : Es} {m : Str} (hv : env[0]? = some (some (.loc e))) (he : S[e]? = some (elC k)) (hm : ([("reached", (U.int (k : Nat)))] : List (Str × U)).lookup m = none) (hes : evs Φ es env S = .ok us S1) :
    ev Φ (.meth (.v 0) "Elaborator" m es) env S = Φ.call ("Elaborator" ++ "." ++ m) (.loc e :: us) S1 := by
  rw [ev_meth, ev_v' hv, bind_ok]
  simp only [he, elC, hm, true_and, if_true, hes, bind_ok]
theorem go_fset {Φ : Cal} {env : Oz.Env} {o e : E} {C f : Str} {sts : Sts} {u : U} {n : Nat} {fs : List (Str × U)} {S1 S2 : Sto} (he : ev Φ e env S = .ok u S1) (ho : ev Φ o env S1 = .ok (.loc n) S2) (hn : S2[n]? = some (.ins C fs)) (hz : fs.length < 900) : exs Φ (.cons (.fset o C f e) sts) env S = exs Φ sts env (S2.set n (.ins C (putU f u fs))) := by
  rw [exs_cons, ex_fset, he, on_ok, ho, on_ok]
  unfold setFldU
  simp only [hn]
  rw [if_pos ⟨trivial, hz⟩, on_ok, then_nx]
/-- an __init__ that sets the fields of a new object from names -/
theorem go_fnew {Φ : Cal} {env : Oz.Env} {e : E} {C f : Str} {sts : Sts} {u : U} {fs : List (Str × U)} {S0 : Sto} (he : ev Φ e env (S0 ++ [.ins C fs]) = .ok u (S0 ++ [.ins C fs])) (h0 : env[0]? = some (some (.loc S0.length))) (hz : fs.length < 900) : exs Φ (.cons (.fset (.v 0) C f e) sts) env (S0 ++ [.ins C fs]) = exs Φ sts env (S0 ++ [.ins C (putU f u fs)]) := by
  rw [go_fset he (ev_v' h0) last_get hz, last_set]
theorem init_eq {f : Str} (d : Nat) (us : List U) (S : Sto) : (pg.cal (d + 1)).init f us S = (pg.cal d).call f us S := rfl
theorem ev_mk' {env : Oz.Env} {C : Str} {es : Es} {us : List U} {S1 S2 : Sto} (hes : evs (pg.cal (d + 1)) es env S = .ok us S1) (h : (pg.cal d).call (C ++ ".__init__") (.loc S1.length :: us) (S1 ++ [.ins C []]) = .ok .non S2) : ev (pg.cal (d + 1)) (.mk C es) env S = .ok (.loc S1.length) S2 := by
  rw [ev_mk, hes, bind_ok, init_eq, h, bind_ok]
/-- Part(n, c, t) -/
theorem mk_part {env : Oz.Env} {es : Es} {n c t : U} {S1 : Sto} (hd : 2 ≤ d) (hes : evs (pg.cal d) es env S = .ok [n, c, t] S1) : ev (pg.cal d) (.mk "Part" es) env S = .ok (.loc S1.length) (S1 ++ [.ins "Part" [("number", n), ("core", c), ("of_type", t)]]) := by
  obtain ⟨d, rfl⟩ : ∃ x, d = x + 2 := ⟨d - 2, by omega⟩
  refine ev_mk' (d := d + 1) hes ?_
  have e : ("Part" ++ ".__init__" : Str) = "Part.__init__" := by decide +kernel
  rw [e, call_eq (df := ⟨4, 4, false, T_Part__init_⟩) (by kernel_rfl), run_eq (by rfl)]
  unfold T_Part__init_
  rw [go_fnew (ev_v' (by rfl)) rfl (by decide), go_fnew (ev_v' (by rfl)) rfl (by show 1 < 900; decide), go_fnew (ev_v' (by rfl)) rfl (by show 2 < 900; decide)]
  rfl
end Pr
end
section
set_option maxHeartbeats 4000000
namespace Pr
open PySem L2 Oz
variable {S S' S0 : Sto} {d : Nat}
noncomputable def els : List Tx → List (Str × Ty) → Nat → Option (List Pq × Nat)
  | [], _, k => some ([], k)
  | a :: r, sc, k => (el a sc k).bind fun x => (els r sc x.2.2).map fun y => (((k : Nat), x.1, x.2.1) :: y.1, y.2)
noncomputable def rest : Tx → Bool
  | .name _ => false | .fn _ _ _ => false | .lt _ _ _ => false | .cast _ _ _ _ => false | _ => true
noncomputable def elR (t : Tx) (sc : List (Str × Ty)) (k : Nat) : Option (Tx × Ty × Nat) := (els t.kids sc (k + 1)).bind fun p => (ruleP t p.1).bind fun r => gdE r.1 r.2 p.2
theorem el_rest {t : Tx} {sc : List (Str × Ty)} {k : Nat} (h : rest t = true) : el t sc k = elR t sc k := by
  unfold elR
  cases t with
  | num n => rfl
  | flag n => rfl
  | call a b => simp only [el, r2, Tx.kids, els]; cases el a sc (k + 1) with | none => rfl | some x => (simp only [Option.bind_some]; cases el b sc x.2.2 <;> rfl)
  | put a b => simp only [el, r2, Tx.kids, els]; cases el a sc (k + 1) with | none => rfl | some x => (simp only [Option.bind_some]; cases el b sc x.2.2 <;> rfl)
  | box a => simp only [el, r1, Tx.kids, els]; cases el a sc (k + 1) <;> rfl
  | get a => simp only [el, r1, Tx.kids, els]; cases el a sc (k + 1) <;> rfl
  | as a t => simp only [el, r1, Tx.kids, els]; cases el a sc (k + 1) <;> rfl
  | name x => cases h
  | fn x t b => cases h
  | lt x a b => cases h
  | cast n s t a => cases h
theorem els_app {sc : List (Str × Ty)} : ∀ {l r : List Tx} {k : Nat}, els (l ++ r) sc k = (els l sc k).bind fun x => (els r sc x.2).map fun y => (x.1 ++ y.1, y.2)
  | [], r, k => by
    simp only [List.nil_append, els, Option.bind_some]
    cases els r sc k <;> rfl
  | a :: l, r, k => by
    simp only [List.cons_append, els]
    cases el a sc k with
    | none => rfl
    | some x =>
      simp only [Option.bind_some]
      rw [els_app]
      cases els l sc x.2.2 with
      | none => rfl
      | some y =>
        simp only [Option.bind_some, Option.map_some]
        cases els r sc y.2 <;> rfl
/-- every rule -/
theorem rule_ok {t : Tx} {ps : List Pq} {qs : List Nat} {r : Tx × Ty} (hr : ruleP t ps = some r) (hq : All2 (fun (p : Pq) (q : Nat) => S0[q]? = some (partC p.1 p.2.1 p.2.2) ∧ p.2.2.dep ≤ 15) ps qs) : RuleOk d S0 t qs r := by
  cases hq with
  | nil =>
    cases t <;> first | exact absurd (show (none : Option (Tx × Ty)) = some r from hr) (fun z => nomatch z) | (unfold ruleP at hr; dsimp only at hr; try injection hr with hr) <;> subst hr
    · exact r_const rfl rfl
    · exact r_const rfl rfl
  | @cons p1 q1 ps qs h1 hq =>
    obtain ⟨n1, c1, s1⟩ := p1
    obtain ⟨h1, d1⟩ := h1
    dsimp only at h1 d1
    cases hq with
    | nil =>
      cases t <;> first | exact absurd (show (none : Option (Tx × Ty)) = some r from hr) (fun z => nomatch z) | (unfold ruleP at hr; dsimp only at hr; try injection hr with hr)
      · subst hr
        exact r_box h1
      · split at hr
        · rename_i a hw
          split at hr
          · rename_i f1
            cases hr
            exact r_get h1 d1 hw f1
          · cases hr
        · cases hr
      · split at hr
        · rename_i f1
          cases hr
          exact r_as h1 d1 f1.2 f1.1
        · cases hr
    | @cons p2 q2 ps qs h2 hq =>
      obtain ⟨n2, c2, s2⟩ := p2
      obtain ⟨h2, d2⟩ := h2
      dsimp only at h2 d2
      cases hq with
      | nil =>
        cases t <;> first | exact absurd (show (none : Option (Tx × Ty)) = some r from hr) (fun z => nomatch z) | (unfold ruleP at hr; dsimp only at hr; try injection hr with hr)
        · split at hr
          · rename_i g r' hw
            split at hr
            · rename_i f
              cases hr
              exact r_call h1 h2 d1 d2 hw f.1 f.2.1 f.2.2
            · cases hr
          · cases hr
        · split at hr
          · rename_i a hw
            split at hr
            · rename_i f
              cases hr
              exact r_put h1 h2 d1 d2 hw f.1 f.2.1 f.2.2
            · cases hr
          · cases hr
      | cons _ _ => cases t <;> exact absurd (show (none : Option (Tx × Ty)) = some r from hr) (fun z => nomatch z)
theorem go_faug {Φ : Cal} {env : Oz.Env} {C f : Str} {op : Op} {e : E} {sts : Sts} {x y z : U} {n : Nat} {fs : List (Str × U)} {S1 S2 : Sto} (h0 : env[0]? = some (some (.loc n))) (hn : S[n]? = some (.ins C fs)) (hf : fs.lookup f = some x) (he : ev Φ e env S = .ok y S1) (ha : augU op x y S1 = .ok z S2) (hn2 : S2[n]? = some (.ins C fs)) (hz : fs.length < 900) :
    exs Φ (.cons (.faug (.v 0) C f op e) sts) env S = exs Φ sts env (S2.set n (.ins C (putU f z fs))) := by
  rw [exs_cons, ex_faug, ev_v' h0, on_ok]
  simp only [hn, if_true, hf, he, on_ok, ha]
  unfold setFldU
  simp only [hn2]
  rw [if_pos ⟨trivial, hz⟩, on_ok, then_nx]
noncomputable def CtOk (t : Tx) : Prop := ∀ (D : Nat) (sc : List (Str × Ty)) (k : Nat) (c : Tx) (ty : Ty) (k' : Nat) (S : Sto) (e m : Nat), el t sc k = some (c, ty, k') → S[e]? = some (elC (k + 1)) → S[m]? = some (.dic (kvA tu sc)) → ndA sc → sc.length + 2 * t.ht ≤ 900 → 21 + 2 * t.ht ≤ D →
  ∃ S', (pg.cal D).call "Elaborator.core_and_type" [.loc e, t.eu, .loc m] S = .ok (.tup [c.eu, tu ty]) S' ∧ S'[e]? = some (elC k') ∧ F2 S S' e e ∧ ty.dep ≤ 15
theorem f2_set {e : Nat} {c : Cel} : F2 S (S.set e c) e e := ⟨by simp, fun k _ h _ => List.getElem?_set_ne (Ne.symm h)⟩
theorem el_of_ct {t : Tx} (h : CtOk t) : ElOk t := by
  intro D sc k c ty k' S e m hel he hm hnd hl hD
  obtain ⟨D, rfl⟩ : ∃ x, D = x + 1 := ⟨D - 1, by omega⟩
  have hel' : e < S.length := (List.getElem?_eq_some_iff.mp he).1
  have hme := ne_el he hm
  have e1 : (S.set e (elC (k + 1)))[e]? = some (elC (k + 1)) := List.getElem?_set_self hel'
  have m1 : (S.set e (elC (k + 1)))[m]? = some (.dic (kvA tu sc)) := by rw [List.getElem?_set_ne (Ne.symm hme)]; exact hm
  obtain ⟨S2, c2, e2, f2, dp⟩ := h D sc k c ty k' _ e m hel e1 m1 hnd hl (by omega)
  rw [call_eq (df := ⟨3, 6, false, T_Elaborator_elaborated⟩) (by kernel_rfl), run_eq (by rfl)]
  unfold T_Elaborator_elaborated
  have fE : F2 S S2 e e := f2_set.trans f2
  refine ⟨S2.length, S2 ++ [partC k c ty], fin_of ?_, last_get, Gr.push.at_ e2, fE.trans F2.push, fE.1, dp⟩
  show exs _ _ [some (.loc e), some t.eu, some (.loc m), none, none, none] S = _
  rw [go_set (show ev (pg.cal D) (.fld (.v 0) "Elaborator" "reached") _ S = .ok (.int (k : Nat)) S from ev_fld' (S1 := S) (ev_v' rfl) he rfl)]
  rw [go_faug (S1 := S) (S2 := S) (x := .int (k : Nat)) (y := .int 1) (z := .int ((k : Nat) + 1)) (fs := [("reached", .int (k : Nat))]) rfl he rfl rfl rfl he (by show 1 < 900; decide)]
  have es : S.set e (.ins "Elaborator" (putU "reached" (U.int ((k : Nat) + 1)) [("reached", U.int (k : Nat))])) = S.set e (elC (k + 1)) := rfl
  rw [es, exs_cons, ex_set, meth_el (us := [t.eu, .loc m]) rfl e1 (by rfl) (by rfl)]
  have en : ("Elaborator" ++ "." ++ "core_and_type" : Str) = "Elaborator.core_and_type" := by decide +kernel
  rw [en, c2, on_ok]
  show exs _ _ [some (.loc e), some t.eu, some (.loc m), some (.int (k : Nat)), some c.eu, some (tu ty)] S2 = _
  refine go_ret ?_
  exact mk_part (by omega) rfl
theorem then_id (o : O) : o.then_ (fun env S => .nx env S) = o := by cases o <;> rfl
theorem go_last {Φ : Cal} {env : Oz.Env} {s : Oz.St} {o : O} (h : ex Φ s env S = o) : exs Φ (.cons s .nil) env S = o := by
  rw [exs_cons, h]
  exact then_id o
theorem len_kvA {α : Type} {f : α → U} (sc : List (Str × α)) : (kvA f sc).length = sc.length := by unfold kvA; simp
theorem big15 {n : Nat} (h : n ≤ 900) : n + 15 ≤ sizeLine := Nat.le_trans (by omega) (show 1000 ≤ sizeLine by decide)
noncomputable def B_name : Sts := (.cons (.if_ (.e (.dhas false (.v 3) (.v 2))) (.cons (.raise "Unknown" (.v 3)) .nil) .nil) (.cons (.ret (.tup (.cons (.v 1) (.cons (.dat (.v 2) (.v 3)) .nil)))) .nil))
noncomputable def B_fun : Sts := (.cons (.set false [6] (.meth (.v 0) "Elaborator" "elaborated" (.cons (.v 5) (.cons (.dm1 (.v 2) (.v 3) (.v 4)) .nil)))) (.cons (.ret (.tup (.cons (.tup (.cons (.k (.str "fun")) (.cons (.v 3) (.cons (.v 4) (.cons (.fld (.v 6) "Part" "core") .nil))))) (.cons (.tup (.cons (.k (.str "fun")) (.cons (.v 4) (.cons (.fld (.v 6) "Part" "of_type") .nil)))) .nil)))) .nil))
noncomputable def B_rec : Sts := (.cons (.set false [6] (.meth (.v 0) "Elaborator" "elaborated" (.cons (.v 5) (.cons (.dm2 (.v 2) (.v 7) (.tup (.cons (.k (.str "fun")) (.cons (.v 4) (.cons (.v 8) .nil)))) (.v 3) (.v 4)) .nil)))) (.cons (.ret (.tup (.cons (.tup (.cons (.k (.str "rec")) (.cons (.v 7) (.cons (.v 3) (.cons (.v 4) (.cons (.v 8) (.cons (.call "fit" (.cons (.v 6) (.cons (.v 8) .nil))) .nil))))))) (.cons (.tup (.cons (.k (.str "fun")) (.cons (.v 4) (.cons (.v 8) .nil)))) .nil)))) .nil))
noncomputable def B_let : Sts := (.cons (.set false [10] (.meth (.v 0) "Elaborator" "elaborated" (.cons (.v 9) (.cons (.v 2) .nil)))) (.cons (.set false [6] (.meth (.v 0) "Elaborator" "elaborated" (.cons (.v 5) (.cons (.dm1 (.v 2) (.v 3) (.fld (.v 10) "Part" "of_type")) .nil)))) (.cons (.ret (.tup (.cons (.tup (.cons (.k (.str "let")) (.cons (.v 3) (.cons (.fld (.v 10) "Part" "core") (.cons (.fld (.v 6) "Part" "core") .nil))))) (.cons (.fld (.v 6) "Part" "of_type") .nil)))) .nil)))
noncomputable abbrev RFs : List Str := ["as_rule", "box_rule", "call_rule", "constant_rule", "get_rule", "half_rule", "if_rule", "not_rule", "op_rule", "pair_rule", "print_rule", "put_rule"]
noncomputable def B_rest : Sts := (.cons (.set false [11] (.gfn "RULES" RT (.ix (.v 1) (.k (.int 0))))) (.cons (.set false [12] (.lc [13] false (.meth (.v 0) "Elaborator" "elaborated" (.cons (.v 13) (.cons (.v 2) .nil))) (.call "parts" (.cons (.v 1) .nil)) .tt)) (.cons (.ret (.callv (.v 11) RFs (.cons (.v 1) (.star (.v 12) .nil)))) .nil)))
theorem core_eq : T_Elaborator_core_and_type = .cons (.mtch (.v 1) (.cons (.seq [.lit "name", .cap 3]) B_name (.cons (.seq [.lit "fun", .cap 3, .cap 4, .cap 5]) B_fun (.cons (.seq [.lit "rec", .cap 7, .cap 3, .cap 4, .cap 8, .cap 5]) B_rec (.cons (.seq [.lit "let", .cap 3, .cap 9, .cap 5]) B_let (.cons .wild B_rest .nil)))))) .nil := rfl
theorem go_core {Φ : Cal} {env env' : Oz.Env} {t : Tx} {B : Sts} {o : O} (hv : env[1]? = some (some t.eu)) (hm : ∀ S, exc Φ (.cons (.seq [.lit "name", .cap 3]) B_name (.cons (.seq [.lit "fun", .cap 3, .cap 4, .cap 5]) B_fun (.cons (.seq [.lit "rec", .cap 7, .cap 3, .cap 4, .cap 8, .cap 5]) B_rec (.cons (.seq [.lit "let", .cap 3, .cap 9, .cap 5]) B_let (.cons .wild B_rest .nil))))) t.eu env S = exs Φ B env' S) (h : exs Φ B env' S = o) : exs Φ T_Elaborator_core_and_type env S = o := by
  rw [core_eq]
  refine go_last ?_
  rw [ex_mtch, ev_v' hv, on_ok, hm, h]
end Pr
end
section
set_option maxHeartbeats 4000000
namespace Pr
open PySem L2 Oz
variable {S S' S0 : Sto} {d : Nat}
theorem gdE_some {c c' : Tx} {t t' : Ty} {k k' : Nat} (h : gdE c t k = some (c', t', k')) : c = c' ∧ t = t' ∧ k = k' ∧ t.dep ≤ 15 := by
  unfold gdE at h
  split at h
  · rename_i hd
    cases h
    exact ⟨rfl, rfl, rfl, hd⟩
  · cases h
theorem call_ct {D : Nat} {us : List U} (S : Sto) (h : us.length = 3) : (pg.cal (D + 1)).call "Elaborator.core_and_type" us S = (exs (pg.cal D) T_Elaborator_core_and_type (us.map some ++ List.replicate 11 none) S).fin := by
  rw [call_eq (df := ⟨3, 14, false, T_Elaborator_core_and_type⟩) (by kernel_rfl), run_eq h]
theorem dhas_no {m : Nat} {x : Str} {sc : List (Str × Ty)} {ty : Ty} (hm : S[m]? = some (.dic (kvA tu sc))) (hx : lkA sc x = some ty) : dhasU false (.loc m) (.str x) S = .ok (.bl false) S := by
  unfold dhasU
  simp only [keyU, hm, val_kvA, hx]
  rfl
theorem dat_ok {α : Type} {f : α → U} {m : Nat} {x : Str} {sc : List (Str × α)} {v : α} (hm : S[m]? = some (.dic (kvA f sc))) (hx : lkA sc x = some v) : datU (.loc m) (.str x) S = .ok (f v) S := by
  unfold datU
  simp only [keyU, hm, val_kvA, hx]
  rfl
theorem ct_name (x : Str) : CtOk (.name x) := by
  intro D sc k c ty k' S e m hel he hm hnd hl hD
  obtain ⟨D, rfl⟩ : ∃ y, D = y + 1 := ⟨D - 1, by omega⟩
  simp only [el, Option.bind_eq_some_iff] at hel
  obtain ⟨ty', hx, hg⟩ := hel
  obtain ⟨rfl, rfl, rfl, dp⟩ := gdE_some hg
  refine ⟨S, ?_, he, F2.refl, dp⟩
  rw [call_ct S rfl]
  refine fin_of (go_core (env' := [some (.loc e), some (Tx.name x).eu, some (.loc m), some (.str x), none, none, none, none, none, none, none, none, none, none]) (B := B_name) rfl (fun S => by simp only [Tx.eu]; simp only [Oz.bind_ok, Oz.bind_exc, Oz.bind_bad, Oz.on_ok, Oz.on_exc, Oz.then_nx, Oz.then_ret, Oz.then_exc, Oz.then_bk, Oz.then_ct, Oz.turn_nx, Oz.turn_ret, Oz.turn_exc, Oz.fin_nx, Oz.fin_ret, Oz.fin_exc, Oz.rO_some, Oz.noex_ok, Oz.ev_v, Oz.ev_k, Oz.ev_tup, Oz.ev_lst, Oz.ev_bin, Oz.ev_neg, Oz.ev_cmp, Oz.ev_and, Oz.ev_or, Oz.ev_not, Oz.ev_ife, Oz.ev_ix, Oz.ev_sl, Oz.ev_call, Oz.ev_bf, Oz.ev_bm, Oz.ev_isi, Oz.evo_no, Oz.evo_so, Oz.evs_nil, Oz.evs_cons, Oz.evs_star, Oz.evt_tt, Oz.evt_e, Oz.evt_and, Oz.evt_or, Oz.evt_not, Oz.ex_mtch, Oz.exc_nil, Oz.exc_cons, Oz.pt_wild, Oz.pt_val, Oz.pt_seq, Oz.pi_nil, Oz.pi_lit, Oz.pi_cap, Oz.pi_wild, Oz.ev_kcall, Oz.ofS_inj, String.reduceEq, Nat.reduceEqDiff, Oz.ex_set, Oz.ex_sub, Oz.ex_aug, Oz.ex_ex, Oz.ex_ret, Oz.ex_if, Oz.exs_nil, Oz.exs_cons, Oz.tru_bl, Oz.tru_int, Oz.add_int, Oz.sub_int, Oz.aug_add_int, Oz.aug_sub_int, Oz.c_eq_int, Oz.c_ne_int, Oz.c_lt_int, Oz.c_le_int, Oz.c_gt_int, Oz.c_ge_int, Oz.c_eq_str, Oz.c_ne_str, Oz.set_int, List.replicate_succ, List.replicate_zero, List.getElem?_cons_zero, List.getElem?_cons_succ, List.set_cons_zero, List.set_cons_succ, List.map_cons, List.map_nil, List.cons_append, List.nil_append, List.append_nil, if_true, if_false, Bool.false_eq_true, Bool.true_eq_false, decide_eq_true_eq, true_and, and_true, Bool.not_true, Bool.not_false, List.length_cons, List.length_nil, Nat.zero_add, Nat.reduceAdd, true_and]) ?_)
  unfold B_name
  rw [go_keep (S1 := S) (by rw [evt_e, ev, ev_v' rfl, bind_ok, ev_v' rfl, bind_ok, dhas_no hm hx, bind_ok]; rfl)]
  refine go_ret ?_
  rw [ev_tup, evs_cons, ev_v' rfl, bind_ok, evs_cons, ev, ev_v' rfl, bind_ok, ev_v' rfl, bind_ok, dat_ok hm hx, bind_ok, evs_nil, bind_ok, bind_ok, bind_ok, if_pos (by show 2 ≤ sizeLine; decide)]
theorem meth_elc {D : Nat} {env : Oz.Env} {e k : Nat} {es : Es} {u w : U} {q : Nat} {S1 S2 : Sto} (hv : env[0]? = some (some (.loc e))) (he : S[e]? = some (elC k)) (hes : evs (pg.cal D) es env S = .ok [u, w] S1) (hc : (pg.cal D).call "Elaborator.elaborated" [.loc e, u, w] S1 = .ok (.loc q) S2) : ev (pg.cal D) (.meth (.v 0) "Elaborator" "elaborated" es) env S = .ok (.loc q) S2 := by
  rw [meth_el hv he (by rfl) hes]
  have en : ("Elaborator" ++ "." ++ "elaborated" : Str) = "Elaborator.elaborated" := by decide +kernel
  rw [en, hc]
theorem dm1_sc {D : Nat} {env : Oz.Env} {m e k : Nat} {a b v : E} {x : Str} {t : Ty} {sc : List (Str × Ty)} (hm : S[m]? = some (.dic (kvA tu sc))) (hnd : ndA sc) (hl : sc.length ≤ 900) (ha : ∀ S', Gr S S' → ev (pg.cal D) a env S' = .ok (.loc m) S') (hk : ∀ S', Gr S S' → ev (pg.cal D) b env S' = .ok (.str x) S') (hv : ∀ S', Gr S S' → ev (pg.cal D) v env S' = .ok (tu t) S') :
    ∃ S', ev (pg.cal D) (.dm1 a b v) env S = .ok (.loc S.length) S' ∧ Gr S S' ∧ S'[S.length]? = some (.dic (kvA tu (putA sc x t))) := by
  obtain ⟨S1, e1, g1, h1⟩ := dm1_run hm (nd_kvA hnd) (big15 (by rw [len_kvA]; exact hl)) ha hk hv
  exact ⟨S1, e1, g1, by rw [h1, put_kvA]⟩
theorem ct_fn {x : Str} {t : Ty} {b : Tx} (ih : ElOk b) : CtOk (.fn x t b) := by
  intro D sc k c ty k' S e m hel he hm hnd hl hD
  obtain ⟨D, rfl⟩ : ∃ y, D = y + 1 := ⟨D - 1, by omega⟩
  simp only [el, Option.bind_eq_some_iff] at hel
  obtain ⟨⟨cb, tb, k1⟩, hb, hg⟩ := hel
  obtain ⟨rfl, rfl, rfl, dp⟩ := gdE_some hg
  simp only [Tx.ht] at hl hD
  obtain ⟨S1, e1, g1, h1⟩ := dm1_sc (D := D) (env := [some (.loc e), some (Tx.fn x t b).eu, some (.loc m), some (.str x), some (tu t), some b.eu, none, none, none, none, none, none, none, none]) (e := 0) (k := 0) (a := .v 2) (b := .v 3) (v := .v 4) (x := x) (t := t) hm hnd (by omega) (fun _ _ => rfl) (fun _ _ => rfl) (fun _ _ => rfl)
  have hl2 := len_putA sc x t
  obtain ⟨q, S2, c2, p2, e2, f2, hq, dpb⟩ := ih D (putA sc x t) (k + 1) cb tb k1 S1 e S.length hb (g1.at_ he) h1 (nd_putA hnd x t) (by omega) (by omega)
  refine ⟨S2, ?_, e2, (g1.f2).trans f2, dp⟩
  rw [call_ct S rfl]
  refine fin_of (go_core (env' := [some (.loc e), some (Tx.fn x t b).eu, some (.loc m), some (.str x), some (tu t), some b.eu, none, none, none, none, none, none, none, none]) (B := B_fun) rfl (fun S => by simp only [Tx.eu]; simp only [Oz.bind_ok, Oz.bind_exc, Oz.bind_bad, Oz.on_ok, Oz.on_exc, Oz.then_nx, Oz.then_ret, Oz.then_exc, Oz.then_bk, Oz.then_ct, Oz.turn_nx, Oz.turn_ret, Oz.turn_exc, Oz.fin_nx, Oz.fin_ret, Oz.fin_exc, Oz.rO_some, Oz.noex_ok, Oz.ev_v, Oz.ev_k, Oz.ev_tup, Oz.ev_lst, Oz.ev_bin, Oz.ev_neg, Oz.ev_cmp, Oz.ev_and, Oz.ev_or, Oz.ev_not, Oz.ev_ife, Oz.ev_ix, Oz.ev_sl, Oz.ev_call, Oz.ev_bf, Oz.ev_bm, Oz.ev_isi, Oz.evo_no, Oz.evo_so, Oz.evs_nil, Oz.evs_cons, Oz.evs_star, Oz.evt_tt, Oz.evt_e, Oz.evt_and, Oz.evt_or, Oz.evt_not, Oz.ex_mtch, Oz.exc_nil, Oz.exc_cons, Oz.pt_wild, Oz.pt_val, Oz.pt_seq, Oz.pi_nil, Oz.pi_lit, Oz.pi_cap, Oz.pi_wild, Oz.ev_kcall, Oz.ofS_inj, String.reduceEq, Nat.reduceEqDiff, Oz.ex_set, Oz.ex_sub, Oz.ex_aug, Oz.ex_ex, Oz.ex_ret, Oz.ex_if, Oz.exs_nil, Oz.exs_cons, Oz.tru_bl, Oz.tru_int, Oz.add_int, Oz.sub_int, Oz.aug_add_int, Oz.aug_sub_int, Oz.c_eq_int, Oz.c_ne_int, Oz.c_lt_int, Oz.c_le_int, Oz.c_gt_int, Oz.c_ge_int, Oz.c_eq_str, Oz.c_ne_str, Oz.set_int, List.replicate_succ, List.replicate_zero, List.getElem?_cons_zero, List.getElem?_cons_succ, List.set_cons_zero, List.set_cons_succ, List.map_cons, List.map_nil, List.cons_append, List.nil_append, List.append_nil, if_true, if_false, Bool.false_eq_true, Bool.true_eq_false, decide_eq_true_eq, true_and, and_true, Bool.not_true, Bool.not_false, List.length_cons, List.length_nil, Nat.zero_add, Nat.reduceAdd, true_and]) ?_)
  unfold B_fun
  rw [go_set (meth_elc rfl he (by rw [evs_cons, ev_v' rfl, bind_ok, evs_cons, e1, bind_ok, evs_nil, bind_ok, bind_ok]) c2)]
  refine go_ret ?_
  have f1 : ev (pg.cal D) (.fld (.v 6) "Part" "core") [some (.loc e), some (Tx.fn x t b).eu, some (.loc m), some (.str x), some (tu t), some b.eu, some (.loc q), none, none, none, none, none, none, none] S2 = .ok cb.eu S2 := ev_fld' (S1 := S2) (ev_v' rfl) p2 rfl
  have f3 : ev (pg.cal D) (.fld (.v 6) "Part" "of_type") [some (.loc e), some (Tx.fn x t b).eu, some (.loc m), some (.str x), some (tu t), some b.eu, some (.loc q), none, none, none, none, none, none, none] S2 = .ok (tu tb) S2 := ev_fld' (S1 := S2) (ev_v' rfl) p2 rfl
  show ev _ _ [some (.loc e), some (Tx.fn x t b).eu, some (.loc m), some (.str x), some (tu t), some b.eu, some (.loc q), none, none, none, none, none, none, none] S2 = _
  simp only [ev_tup, evs_cons, evs_nil, ev_k, bind_ok, f1, f3, ev_v, List.getElem?_cons_zero, List.getElem?_cons_succ, szle (show [U.str "fun", .str x, tu t, cb.eu].length ≤ 1000 from Nat.le_of_ble_eq_true rfl), szle (show [U.str "fun", tu t, tu tb].length ≤ 1000 from Nat.le_of_ble_eq_true rfl), if_true, szle (show [U.tup [U.str "fun", .str x, tu t, cb.eu], .tup [.str "fun", tu t, tu tb]].length ≤ 1000 from Nat.le_of_ble_eq_true rfl)]
  rfl
theorem ct_lt {x : Str} {a b : Tx} (iha : ElOk a) (ihb : ElOk b) : CtOk (.lt x a b) := by
  intro D sc k c ty k' S e m hel he hm hnd hl hD
  obtain ⟨D, rfl⟩ : ∃ y, D = y + 1 := ⟨D - 1, by omega⟩
  simp only [el, Option.bind_eq_some_iff] at hel
  obtain ⟨⟨ca, ta, k1⟩, ha, ⟨cb, tb, k2⟩, hb, hg⟩ := hel
  obtain ⟨rfl, rfl, rfl, dp⟩ := gdE_some hg
  dsimp only at hb
  simp only [Tx.ht] at hl hD
  obtain ⟨q1, S1, c1, p1, e1, f1, hq1, dpa⟩ := iha D sc (k + 1) ca ta k1 S e m ha he hm hnd (by omega) (by omega)
  have m1 : S1[m]? = some (.dic (kvA tu sc)) := f2_at f1 hm (ne_el he hm)
  obtain ⟨S2, e2, g2, h2⟩ := dm1_sc (D := D) (env := [some (.loc e), some (Tx.lt x a b).eu, some (.loc m), some (.str x), none, some b.eu, none, none, none, some a.eu, some (.loc q1), none, none, none]) (e := 0) (k := 0) (a := .v 2) (b := .v 3) (v := .fld (.v 10) "Part" "of_type") (x := x) (t := ta) m1 hnd (by omega) (fun _ _ => rfl) (fun _ _ => rfl) (fun S' g => ev_fld' (S1 := S') (ev_v' rfl) (g.at_ p1) rfl)
  have hl2 := len_putA sc x ta
  obtain ⟨q2, S3, c3, p3, e3, f3, hq3, dpb⟩ := ihb D (putA sc x ta) k1 cb tb k2 S2 e S1.length hb (g2.at_ e1) h2 (nd_putA hnd x ta) (by omega) (by omega)
  have p1' : S3[q1]? = some (partC ((k + 1 : Nat) : Int) ca ta) := f2_at f3 (g2.at_ p1) (ne_pt (g2.at_ e1) (g2.at_ p1))
  refine ⟨S3, ?_, e3, (f1.trans g2.f2).trans f3, dp⟩
  rw [call_ct S rfl]
  refine fin_of (go_core (env' := [some (.loc e), some (Tx.lt x a b).eu, some (.loc m), some (.str x), none, some b.eu, none, none, none, some a.eu, none, none, none, none]) (B := B_let) rfl (fun S => by simp only [Tx.eu]; simp only [Oz.bind_ok, Oz.bind_exc, Oz.bind_bad, Oz.on_ok, Oz.on_exc, Oz.then_nx, Oz.then_ret, Oz.then_exc, Oz.then_bk, Oz.then_ct, Oz.turn_nx, Oz.turn_ret, Oz.turn_exc, Oz.fin_nx, Oz.fin_ret, Oz.fin_exc, Oz.rO_some, Oz.noex_ok, Oz.ev_v, Oz.ev_k, Oz.ev_tup, Oz.ev_lst, Oz.ev_bin, Oz.ev_neg, Oz.ev_cmp, Oz.ev_and, Oz.ev_or, Oz.ev_not, Oz.ev_ife, Oz.ev_ix, Oz.ev_sl, Oz.ev_call, Oz.ev_bf, Oz.ev_bm, Oz.ev_isi, Oz.evo_no, Oz.evo_so, Oz.evs_nil, Oz.evs_cons, Oz.evs_star, Oz.evt_tt, Oz.evt_e, Oz.evt_and, Oz.evt_or, Oz.evt_not, Oz.ex_mtch, Oz.exc_nil, Oz.exc_cons, Oz.pt_wild, Oz.pt_val, Oz.pt_seq, Oz.pi_nil, Oz.pi_lit, Oz.pi_cap, Oz.pi_wild, Oz.ev_kcall, Oz.ofS_inj, String.reduceEq, Nat.reduceEqDiff, Oz.ex_set, Oz.ex_sub, Oz.ex_aug, Oz.ex_ex, Oz.ex_ret, Oz.ex_if, Oz.exs_nil, Oz.exs_cons, Oz.tru_bl, Oz.tru_int, Oz.add_int, Oz.sub_int, Oz.aug_add_int, Oz.aug_sub_int, Oz.c_eq_int, Oz.c_ne_int, Oz.c_lt_int, Oz.c_le_int, Oz.c_gt_int, Oz.c_ge_int, Oz.c_eq_str, Oz.c_ne_str, Oz.set_int, List.replicate_succ, List.replicate_zero, List.getElem?_cons_zero, List.getElem?_cons_succ, List.set_cons_zero, List.set_cons_succ, List.map_cons, List.map_nil, List.cons_append, List.nil_append, List.append_nil, if_true, if_false, Bool.false_eq_true, Bool.true_eq_false, decide_eq_true_eq, true_and, and_true, Bool.not_true, Bool.not_false, List.length_cons, List.length_nil, Nat.zero_add, Nat.reduceAdd, true_and]) ?_)
  unfold B_let
  rw [go_set (meth_elc rfl he (by rw [evs_cons, ev_v' rfl, bind_ok, evs_cons, ev_v' rfl, bind_ok, evs_nil, bind_ok, bind_ok]) c1)]
  show exs _ _ [some (.loc e), some (Tx.lt x a b).eu, some (.loc m), some (.str x), none, some b.eu, none, none, none, some a.eu, some (.loc q1), none, none, none] S1 = _
  rw [go_set (meth_elc rfl e1 (by rw [evs_cons, ev_v' rfl, bind_ok, evs_cons, e2, bind_ok, evs_nil, bind_ok, bind_ok]) c3)]
  refine go_ret ?_
  show ev _ _ [some (.loc e), some (Tx.lt x a b).eu, some (.loc m), some (.str x), none, some b.eu, some (.loc q2), none, none, some a.eu, some (.loc q1), none, none, none] S3 = _
  have w1 : ev (pg.cal D) (.fld (.v 10) "Part" "core") [some (.loc e), some (Tx.lt x a b).eu, some (.loc m), some (.str x), none, some b.eu, some (.loc q2), none, none, some a.eu, some (.loc q1), none, none, none] S3 = .ok ca.eu S3 := ev_fld' (S1 := S3) (ev_v' rfl) p1' rfl
  have w2 : ev (pg.cal D) (.fld (.v 6) "Part" "core") [some (.loc e), some (Tx.lt x a b).eu, some (.loc m), some (.str x), none, some b.eu, some (.loc q2), none, none, some a.eu, some (.loc q1), none, none, none] S3 = .ok cb.eu S3 := ev_fld' (S1 := S3) (ev_v' rfl) p3 rfl
  have w3 : ev (pg.cal D) (.fld (.v 6) "Part" "of_type") [some (.loc e), some (Tx.lt x a b).eu, some (.loc m), some (.str x), none, some b.eu, some (.loc q2), none, none, some a.eu, some (.loc q1), none, none, none] S3 = .ok (tu tb) S3 := ev_fld' (S1 := S3) (ev_v' rfl) p3 rfl
  simp only [ev_tup, evs_cons, evs_nil, ev_k, bind_ok, w1, w2, w3, ev_v, List.getElem?_cons_zero, List.getElem?_cons_succ]
  rw [if_pos (by show 4 ≤ sizeLine; decide), bind_ok, w3, bind_ok, bind_ok, bind_ok, if_pos (by show 2 ≤ sizeLine; decide)]
  rfl
end Pr
end
section
set_option maxHeartbeats 4000000
namespace Pr
open PySem L2 Oz
variable {S S' S0 : Sto} {d : Nat}
theorem ev_gfn {Φ : Cal} {env : Oz.Env} {x z f : Str} {t : List (Str × Str)} {a : E} {S1 : Sto} (ha : ev Φ a env S = .ok (.str z) S1) (ht : t.lookup z = some f) : ev Φ (.gfn x t a) env S = .ok (.loc S1.length) (S1 ++ [.fnc f]) := by
  rw [ev, ha, bind_ok]
  simp only [ht]
theorem ev_callv {Φ : Cal} {env : Oz.Env} {n : Nat} {f : Str} {fs : List Str} {a : E} {es : Es} {us : List U} {S1 S2 : Sto} (ha : ev Φ a env S = .ok (.loc n) S1) (hn : S1[n]? = some (.fnc f)) (hf : f ∈ fs) (hes : evs Φ es env S1 = .ok us S2) : ev Φ (.callv a fs es) env S = Φ.call f us S2 := by
  rw [ev, ha, bind_ok]
  simp only [hn]
  rw [if_pos hf, hes, bind_ok]
theorem RT_in {z f : Str} (h : RT.lookup z = some f) : f ∈ RFs := by
  unfold RT at h
  simp only [List.lookup_cons] at h
  repeat' (split at h)
  all_goals first | (cases h; decide +kernel) | (cases h)
theorem rest_rule {t : Tx} {ps : List Pq} {r : Tx × Ty} (h : rest t = true) : ∃ f, RT.lookup t.hd = some f := by
  cases t <;> first | (cases h; done) | exact ⟨_, rfl⟩
noncomputable abbrev Pok (S : Sto) (p : Pq) (q : Nat) : Prop := S[q]? = some (partC p.1 p.2.1 p.2.2) ∧ p.2.2.dep ≤ 15
/-- the parts, one after another -/
structure Walk (B : Sto) (sc : List (Str × Ty)) (k e n : Nat) (done : List Tx) (ys : List U) (S : Sto) : Prop where
  ex : ∃ ps qs k1, els done sc k = some (ps, k1) ∧ ys = qs.map U.loc ∧ All2 (Pok S) ps qs ∧ S[e]? = some (elC k1)
  f : F2 B S e e
  apart : ∀ y ∈ ys, y ≠ .loc n
theorem All2.imp {α β : Type} {Q R : α → β → Prop} {as : List α} {bs : List β} (h : All2 Q as bs) (i : ∀ a b, b ∈ bs → Q a b → R a b) : All2 R as bs := by
  induction h with
  | nil => exact .nil
  | cons q _ ih => exact .cons (i _ _ List.mem_cons_self q) (ih fun a b hb => i a b (List.mem_cons_of_mem _ hb))
theorem All2.snoc {α β : Type} {Q : α → β → Prop} {as : List α} {bs : List β} {a : α} {b : β} (h : All2 Q as bs) (q : Q a b) : All2 Q (as ++ [a]) (bs ++ [b]) := by
  induction h with
  | nil => exact .cons q .nil
  | cons q' _ ih => exact .cons q' ih
/-- core_and_type, up to the rule's call -/
theorem ct_walk {t : Tx} (hr : rest t = true) (ih : ∀ a ∈ t.kids, ElOk a) {D : Nat} {sc : List (Str × Ty)} {k : Nat} {ps : List Pq} {k1 : Nat} {S : Sto} {e m : Nat} (hps : els t.kids sc (k + 1) = some (ps, k1)) (he : S[e]? = some (elC (k + 1))) (hm : S[m]? = some (.dic (kvA tu sc))) (hnd : ndA sc) (hl : sc.length + 2 * t.ht ≤ 900) (hD : 2 * t.ht ≤ D) :
    ∃ fR qs S2, RT.lookup t.hd = some fR ∧ All2 (Pok S2) ps qs ∧ S2[e]? = some (elC k1) ∧ F2 S S2 e e ∧ (pg.cal (D + 21)).call "Elaborator.core_and_type" [.loc e, t.eu, .loc m] S = (pg.cal (D + 20)).call fR (t.eu :: qs.map U.loc) S2 := by
  obtain ⟨fR, hfR⟩ := rest_rule (ps := ps) (r := (t, .any)) hr
  have hel' : e < S.length := (List.getElem?_eq_some_iff.mp he).1
  have hml' : m < S.length := (List.getElem?_eq_some_iff.mp hm).1
  -- the parts
  obtain ⟨S1, e1, g1, h1⟩ := parts_eq (d := D + 19) t (S ++ [.fnc fR])
  have g01 : Gr S S1 := Gr.push.trans g1
  have hfn : S1[S.length]? = some (.fnc fR) := g1.at_ last_get
  have hpl : (S ++ [Cel.fnc fR]).length = S.length + 1 := by simp
  rw [hpl] at e1 h1
  have hS1 : S.length + 1 < S1.length := (List.getElem?_eq_some_iff.mp h1).1
  have hm1 : S1[m]? = some (.dic (kvA tu sc)) := g01.at_ hm
  have he1 : S1[e]? = some (elC (k + 1)) := g01.at_ he
  have hne : m ≠ e := ne_el he1 hm1
  -- the walk
  obtain ⟨ys, S2, e2, ⟨⟨ps', qs, k1', hps', hys, hall, hek⟩, f2, hap⟩, h2⟩ := lcJ_steps (tp := false) (is := [13]) (env := [some (.loc e), some t.eu, some (.loc m), none, none, none, none, none, none, none, none, some (.loc S.length), none, none]) (n := S1.length) (c := fun env S => (evt (pg.cal (D + 20)) .tt env S).noex)
    (f := fun env S => (ev (pg.cal (D + 20)) (.meth (.v 0) "Elaborator" "elaborated" (.cons (.v 13) (.cons (.v 2) .nil))) env S).noex) (st := fun S3 => stays S3 (t.kids.map Tx.eu) (some (S.length + 1))) (fu := Tx.eu) (L := t.kids) (I := Walk S1 sc (k + 1) e S1.length)
    (fun done ys S3 x ⟨⟨ps', qs, k2, w1, w2, w3, w4⟩, w5, w6⟩ => ⟨⟨ps', qs, k2, w1, w2, All2.imp w3 fun a b hb hp => ⟨by
        rw [List.getElem?_set_ne (fun z => w6 (.loc b) (by rw [w2]; exact List.mem_map_of_mem hb) (by rw [← z]))]
        exact hp.1, hp.2⟩, by rw [List.getElem?_set_ne (by omega)]; exact w4⟩, ⟨by simp; exact w5.1, fun j hj h1 h2 => by rw [List.getElem?_set_ne (by omega)]; exact w5.2 j hj h1 h2⟩, w6⟩)
    (fun done ys S3 w => stays_lst (f2_at w.f h1 (by omega)))
    (fun done a r ys S3 hL ⟨⟨ps', qs, k2, w1, w2, w3, w4⟩, w5, w6⟩ hn => by
      have hmem : a ∈ t.kids := by rw [← hL]; simp
      have hh := Tx.kid_ht hmem
      have hsum : (els (a :: r) sc k2).isSome = true := by
        rw [← hL, els_app, w1, Option.bind_some] at hps
        dsimp only at hps
        cases q : els (a :: r) sc k2 with
        | none => rw [q] at hps; cases hps
        | some _ => rfl
      obtain ⟨⟨ca, ta, k3⟩, ha⟩ : ∃ x, el a sc k2 = some x := by
        rw [els] at hsum
        cases q : el a sc k2 with
        | none => rw [q] at hsum; cases hsum
        | some x => exact ⟨x, rfl⟩
      have hm3 : S3[m]? = some (.dic (kvA tu sc)) := f2_at w5 hm1 hne
      obtain ⟨q, S4, c4, p4, e4, f4, hq4, dp4⟩ := ih a hmem (D + 20) sc k2 ca ta k3 S3 e m ha w4 hm3 hnd (by omega) (by omega)
      refine ⟨_, rfl, rfl, .loc q, S4, ?_, ⟨⟨ps' ++ [(((k2 : Nat) : Int), ca, ta)], qs ++ [q], k3, ?_, ?_, ?_, e4⟩, w5.trans f4, ?_⟩, f4.1, f4.2 _ hn (by omega) (by omega)⟩
      · show (ev (pg.cal (D + 20)) _ _ S3).noex = _
        rw [meth_elc (u := a.eu) (w := .loc m) (S1 := S3) rfl w4 (by rfl) c4]
        rfl
      · rw [els_app, w1, Option.bind_some]
        simp only [els, ha, Option.bind_some, Option.map_some]
      · rw [w2]; simp
      · refine All2.snoc (All2.imp w3 fun a b hb hp => ⟨f2_at f4 hp.1 (ne_pt w4 hp.1), hp.2⟩) ⟨p4, dp4⟩
      · intro y hy
        rcases List.mem_append.mp hy with hy | hy
        · exact w6 y hy
        · have e0 : y = .loc q := by simpa using hy
          rw [e0]
          intro z
          injection z with z
          omega)
    (szle (by cases t <;> simp [Tx.kids])) t.kids [] [] (S1 ++ [.lst []]) rfl rfl
    ⟨⟨[], [], k + 1, rfl, rfl, .nil, Gr.push.at_ he1⟩, F2.push, by simp⟩ last_get
  rw [hps] at hps'
  cases hps'
  subst hys
  have fn2 : S2[S.length]? = some (.fnc fR) := f2_at f2 hfn (by omega)
  have fS : F2 S S2 e e := g01.f2.trans f2
  refine ⟨fR, qs, S2, hfR, hall, hek, fS, ?_⟩
  rw [show D + 21 = (D + 20) + 1 by omega, call_ct S rfl]
  have hcore : ∀ {S : Sto}, exc (pg.cal (D + 20)) (.cons (.seq [.lit "name", .cap 3]) B_name (.cons (.seq [.lit "fun", .cap 3, .cap 4, .cap 5]) B_fun (.cons (.seq [.lit "rec", .cap 7, .cap 3, .cap 4, .cap 8, .cap 5]) B_rec (.cons (.seq [.lit "let", .cap 3, .cap 9, .cap 5]) B_let (.cons .wild B_rest .nil))))) t.eu [some (.loc e), some t.eu, some (.loc m), none, none, none, none, none, none, none, none, none, none, none] S
      = exs (pg.cal (D + 20)) B_rest [some (.loc e), some t.eu, some (.loc m), none, none, none, none, none, none, none, none, none, none, none] S := by
    intro S
    cases t <;> first | (cases hr; done) | (simp only [Tx.eu]; simp only [Oz.bind_ok, Oz.bind_exc, Oz.bind_bad, Oz.on_ok, Oz.on_exc, Oz.then_nx, Oz.then_ret, Oz.then_exc, Oz.then_bk, Oz.then_ct, Oz.turn_nx, Oz.turn_ret, Oz.turn_exc, Oz.fin_nx, Oz.fin_ret, Oz.fin_exc, Oz.rO_some, Oz.noex_ok, Oz.ev_v, Oz.ev_k, Oz.ev_tup, Oz.ev_lst, Oz.ev_bin, Oz.ev_neg, Oz.ev_cmp, Oz.ev_and, Oz.ev_or, Oz.ev_not, Oz.ev_ife, Oz.ev_ix, Oz.ev_sl, Oz.ev_call, Oz.ev_bf, Oz.ev_bm, Oz.ev_isi, Oz.evo_no, Oz.evo_so, Oz.evs_nil, Oz.evs_cons, Oz.evs_star, Oz.evt_tt, Oz.evt_e, Oz.evt_and, Oz.evt_or, Oz.evt_not, Oz.ex_mtch, Oz.exc_nil, Oz.exc_cons, Oz.pt_wild, Oz.pt_val, Oz.pt_seq, Oz.pi_nil, Oz.pi_lit, Oz.pi_cap, Oz.pi_wild, Oz.ev_kcall, Oz.ofS_inj, String.reduceEq, Nat.reduceEqDiff, Oz.ex_set, Oz.ex_sub, Oz.ex_aug, Oz.ex_ex, Oz.ex_ret, Oz.ex_if, Oz.exs_nil, Oz.exs_cons, Oz.tru_bl, Oz.tru_int, Oz.add_int, Oz.sub_int, Oz.aug_add_int, Oz.aug_sub_int, Oz.c_eq_int, Oz.c_ne_int, Oz.c_lt_int, Oz.c_le_int, Oz.c_gt_int, Oz.c_ge_int, Oz.c_eq_str, Oz.c_ne_str, Oz.set_int, List.replicate_succ, List.replicate_zero, List.getElem?_cons_zero, List.getElem?_cons_succ, List.set_cons_zero, List.set_cons_succ, List.map_cons, List.map_nil, List.cons_append, List.nil_append, List.append_nil, if_true, if_false, Bool.false_eq_true, Bool.true_eq_false, decide_eq_true_eq, true_and, and_true, Bool.not_true, Bool.not_false, List.length_cons, List.length_nil, Nat.zero_add, Nat.reduceAdd, true_and])
  have hB : exs (pg.cal (D + 20)) T_Elaborator_core_and_type ([some (.loc e), some t.eu, some (.loc m), none, none, none, none, none, none, none, none, none, none, none] : Oz.Env) S = exs (pg.cal (D + 20)) (.cons (.ret (.callv (.v 11) RFs (.cons (.v 1) (.star (.v 12) .nil)))) .nil) [some (.loc e), some t.eu, some (.loc m), none, none, none, none, none, none, none, none, some (.loc S.length), some (.loc S1.length), none] S2 := by
   refine (go_core (env' := [some (.loc e), some t.eu, some (.loc m), none, none, none, none, none, none, none, none, none, none, none]) (B := B_rest) rfl (fun S => hcore) ?_)
   unfold B_rest
   rw [go_set (ev_gfn (S1 := S) (by rw [ev_ix, ev_v' rfl, bind_ok, ev_k, bind_ok, ix_head]) hfR)]
   show exs _ _ [some (.loc e), some t.eu, some (.loc m), none, none, none, none, none, none, none, none, some (.loc S.length), none, none] (S ++ [.fnc fR]) = _
   have ecomp : ev (pg.cal (D + 20)) (.lc [13] false (.meth (.v 0) "Elaborator" "elaborated" (.cons (.v 13) (.cons (.v 2) .nil))) (.call "parts" (.cons (.v 1) .nil)) .tt) [some (.loc e), some t.eu, some (.loc m), none, none, none, none, none, none, none, none, some (.loc S.length), none, none] (S ++ [.fnc fR]) = .ok (.loc S1.length) S2 := by
     rw [lcl_run (m := S.length + 1) (S0 := S1) (us := t.kids.map Tx.eu) (by rw [ev_call, evs_cons, ev_v' rfl, bind_ok, evs_nil, bind_ok, bind_ok, e1]) h1]
     have e2' := e2
     show (lcJ false [13] [some (.loc e), some t.eu, some (.loc m), none, none, none, none, none, none, none, none, some (.loc S.length), none, none] _ _ _ _ _ _).bind _ = _
     rw [e2', bind_ok]
   rw [go_set ecomp]
   show exs _ _ [some (.loc e), some t.eu, some (.loc m), none, none, none, none, none, none, none, none, some (.loc S.length), some (.loc S1.length), none] S2 = _
   rfl
  rw [show ([U.loc e, t.eu, U.loc m].map some ++ List.replicate 11 none : Oz.Env) = [some (.loc e), some t.eu, some (.loc m), none, none, none, none, none, none, none, none, none, none, none] from rfl, hB]
  rw [exs_cons, ex_ret, ev_callv (n := S.length) (f := fR) (S1 := S2) (S2 := S2) (us := t.eu :: qs.map U.loc) (ev_v' rfl) fn2 (RT_in hfR) ?_]
  · cases (pg.cal (D + 20)).call fR (t.eu :: qs.map U.loc) S2 <;> rfl
  · rw [evs_cons, ev_v' rfl, bind_ok, evs_star, ev_v' rfl, bind_ok]
    simp only [items?, h2, evs_nil, bind_ok, List.append_nil]
theorem ct_rest {t : Tx} (hr : rest t = true) (ih : ∀ a ∈ t.kids, ElOk a) : CtOk t := by
  intro D sc k c ty k' S e m hel he hm hnd hl hD
  obtain ⟨D, rfl⟩ : ∃ y, D = y + 21 := ⟨D - 21, by have := t.ht_pos; omega⟩
  rw [el_rest hr] at hel
  unfold elR at hel
  simp only [Option.bind_eq_some_iff] at hel
  obtain ⟨⟨ps, k1⟩, hps, ⟨c0, ty0⟩, hrule, hg⟩ := hel
  obtain ⟨rfl, rfl, rfl, dp⟩ := gdE_some hg
  dsimp only at hrule
  obtain ⟨fR, qs, S2, hfR, hall, hek, fS, ec⟩ := ct_walk hr ih hps he hm hnd hl (D := D) (by omega)
  obtain ⟨f', hf', hc⟩ := rule_ok (d := D) (S0 := S2) hrule hall
  rw [hfR] at hf'
  cases hf'
  obtain ⟨S3, e3, g3⟩ := hc S2 Gr.refl
  exact ⟨S3, by rw [ec, e3], g3.at_ hek, fS.trans g3.f2, dp⟩
theorem kid1 {a : Tx} (ha : ElOk a) : ∀ x ∈ [a], ElOk x := fun x h => by
  rcases List.mem_cons.mp h with rfl | h
  · exact ha
  · cases h
theorem kid2 {a b : Tx} (ha : ElOk a) (hb : ElOk b) : ∀ x ∈ [a, b], ElOk x := fun x h => by
  rcases List.mem_cons.mp h with rfl | h
  · exact ha
  · exact kid1 hb x h
theorem el_ok : ∀ t : Tx, ElOk t
  | .num _ => el_of_ct (ct_rest rfl fun a h => nomatch h)
  | .flag _ => el_of_ct (ct_rest rfl fun a h => nomatch h)
  | .name x => el_of_ct (ct_name x)
  | .fn _ _ b => el_of_ct (ct_fn (el_ok b))
  | .lt _ a b => el_of_ct (ct_lt (el_ok a) (el_ok b))
  | .call a b => el_of_ct (ct_rest rfl (kid2 (el_ok a) (el_ok b)))
  | .put a b => el_of_ct (ct_rest rfl (kid2 (el_ok a) (el_ok b)))
  | .box a => el_of_ct (ct_rest rfl (kid1 (el_ok a)))
  | .get a => el_of_ct (ct_rest rfl (kid1 (el_ok a)))
  | .as a t => el_of_ct (ct_rest rfl (kid1 (el_ok a)))
  | .cast _ _ _ _ => fun D sc k c ty k' S e m h => nomatch (show (none : Option (Tx × Ty × Nat)) = some (c, ty, k') from h)
/-- elaborate -/
theorem elaborate_eq {t c : Tx} {ty : Ty} {k' D : Nat} (S : Sto) (h : el t [] 0 = some (c, ty, k')) (hh : 2 * t.ht ≤ 600) (hD : 24 + 2 * t.ht ≤ D) : ∃ S', (pg.cal D).call "elaborate" [t.eu] S = .ok (.tup [c.eu, tu ty]) S' ∧ Gr S S' := by
  obtain ⟨D, rfl⟩ : ∃ y, D = y + 3 := ⟨D - 3, by have := t.ht_pos; omega⟩
  rw [call_eq (df := ⟨1, 2, false, T_elaborate⟩) (by kernel_rfl), run_eq (by rfl)]
  unfold T_elaborate
  have mkE : ∀ {env : Oz.Env} {S : Sto}, ev (pg.cal (D + 2)) (.mk "Elaborator" .nil) env S = .ok (.loc S.length) (S ++ [elC 0]) := by
    intro env S
    refine ev_mk' (d := D + 1) rfl ?_
    have e : ("Elaborator" ++ ".__init__" : Str) = "Elaborator.__init__" := by decide +kernel
    rw [e, call_eq (df := ⟨1, 1, false, T_Elaborator__init_⟩) (by kernel_rfl), run_eq (by rfl)]
    unfold T_Elaborator__init_
    rw [go_fnew rfl rfl (by decide)]
    rfl
  have h0 : (S ++ [elC 0])[S.length]? = some (elC 0) := last_get
  obtain ⟨q, S1, c1, p1, e1, f1, hq1, dp⟩ := el_ok t (D + 2) [] 0 c ty k' ((S ++ [elC 0]) ++ [.dic []]) S.length (S.length + 1) h (Gr.push.at_ h0) (by simp [kvA]) (by simp [ndA]) (by simpa using (by omega : 2 * t.ht ≤ 900)) (by omega)
  refine ⟨S1, fin_of ?_, ⟨by have := f1.1; simp at this; omega, fun j hj => ?_⟩⟩
  · show exs _ _ [some t.eu, none] S = _
    rw [go_set (show ev (pg.cal (D + 2)) (.meth (.mk "Elaborator" .nil) "Elaborator" "elaborated" (.cons (.v 0) (.cons .dnew .nil))) [some t.eu, none] S = .ok (.loc q) S1 from ?_)]
    · refine go_ret ?_
      show ev _ _ [some t.eu, some (.loc q)] S1 = _
      rw [ev_tup, evs_cons, ev_fld' (S1 := S1) (ev_v' rfl) p1 (by rfl), bind_ok, evs_cons, ev_fld' (S1 := S1) (ev_v' rfl) p1 (by rfl), bind_ok, evs_nil, bind_ok, bind_ok, bind_ok, if_pos (by show 2 ≤ sizeLine; decide)]
    · rw [ev_meth, mkE, bind_ok]
      simp only [elC, last_get]
      rw [if_pos ⟨trivial, by rfl⟩]
      have en : ("Elaborator" ++ "." ++ "elaborated" : Str) = "Elaborator.elaborated" := by decide +kernel
      rw [evs_cons, ev_v' rfl, bind_ok, evs_cons, ev, bind_ok, evs_nil, bind_ok, bind_ok, bind_ok, en]
      have el1 : (S ++ [elC 0]).length = S.length + 1 := by simp
      have c1' := c1
      unfold elC at c1' el1
      rw [el1]
      exact c1'
  · have := f1.2 j (by simp; omega) (by omega) (by omega)
    rw [this, List.getElem?_append_left (by simp; omega), List.getElem?_append_left hj]
end Pr
end
section
set_option maxHeartbeats 4000000
namespace Pr
open PySem L2 Oz
variable {S S' S0 : Sto} {d D : Nat}
theorem fit_bad {q : Nat} {n : Int} {c : Tx} {s t : Ty} (hq : S[q]? = some (partC n c s)) (hs : s.dep ≤ 15) (ht : t.dep ≤ 15) (hf : s.fits t = false) : ∃ S', (pg.cal (d + 18)).call "fit" [.loc q, tu t] S = .exc "Mismatched" [("number", .int n)] S' := by
  rw [call_eq (df := ⟨2, 2, false, T_fit⟩) (by kernel_rfl), run_eq (by rfl)]
  unfold T_fit
  obtain ⟨S1, e1, g1⟩ := consistent_eq (d := d) 15 s t S hs ht (Nat.le_refl _)
  have q1 := g1.at_ hq
  have f1 : ∀ {S : Sto}, S[q]? = some (partC n c s) → ev (pg.cal (d + 17)) (.fld (.v 0) "Part" "of_type") [some (.loc q), some (tu t)] S = .ok (tu s) S := fun h => ev_fld' (S1 := _) rfl h rfl
  have f3 : ∀ {S : Sto}, S[q]? = some (partC n c s) → ev (pg.cal (d + 17)) (.fld (.v 0) "Part" "number") [some (.loc q), some (tu t)] S = .ok (.int n) S := fun h => ev_fld' (S1 := _) rfl h rfl
  refine ⟨S1, ?_⟩
  show (exs _ _ [some (.loc q), some (tu t)] S).fin = _
  rw [exs_cons, ex_if, evt_not, evt_e, ev_call, evs_cons, f1 hq, bind_ok, evs_cons, ev_v' rfl, bind_ok, evs_nil, bind_ok, bind_ok, bind_ok, e1, hf, bind_ok, tru_bl, rO_some, bind_ok, on_ok, if_pos (show (!false) = true from rfl), exs_cons, ex_raise (g := "number") (by rfl), f3 q1, on_ok]
  rfl
theorem call_bad {t : Tx} {q1 q2 : Nat} {n1 n2 : Int} {c1 c2 : Tx} {g r s2 : Ty} (h1 : S[q1]? = some (partC n1 c1 (.fn g r))) (h2 : S[q2]? = some (partC n2 c2 s2)) (d1 : (Ty.fn g r).dep ≤ 15) (d2 : s2.dep ≤ 15) (dg : g.dep ≤ 15) (hf : (Ty.fn g r).fits (.fn g r) = true) (hb : s2.fits g = false) :
    ∃ S', (pg.cal (d + 20)).call "call_rule" [t.eu, .loc q1, .loc q2] S = .exc "Mismatched" [("number", .int n2)] S' := by
  obtain ⟨S1, e1, g1⟩ := opened_eq (d := d) (x := "fun") h1 d1 rfl rfl hf
  obtain ⟨S2, e2⟩ := fit_bad (d := d + 1) (g1.at_ h2) d2 dg hb
  refine ⟨S2, ?_⟩
  rw [call_eq (df := ⟨3, 6, false, T_call_rule⟩) (by kernel_rfl), run_eq (by rfl)]
  unfold T_call_rule
  rw [show ([t.eu, U.loc q1, U.loc q2].map some ++ List.replicate (6 - 3) none : Oz.Env) = [some t.eu, some (.loc q1), some (.loc q2), none, none, none] from rfl]
  have hts : ∀ S, setT (pg.cal (d + 19)) (.tp (.cons (.nm 3) (.cons (.tp (.cons (.nm 4) (.cons (.nm 5) .nil))) .nil))) (.tup [(fitT n1 c1 (.fn g r) (.fn g r)).eu, .tup ((Ty.fn g r).pt.map tu)]) [some t.eu, some (.loc q1), some (.loc q2), none, none, none] S = .ok [some t.eu, some (.loc q1), some (.loc q2), some (fitT n1 c1 (.fn g r) (.fn g r)).eu, some (tu g), some (tu r)] S := fun S => rfl
  rw [exs_cons, ex, ev_call, evs_cons, ev_v' rfl, bind_ok, evs_cons, ev_k, bind_ok, evs_nil, bind_ok, bind_ok, bind_ok, e1, on_ok, hts, on_ok, then_nx]
  rw [exs_cons, ex_ret, ev_tup, evs_cons, ev_tup, evs_cons, ev_k, bind_ok, evs_cons, ev_v' rfl, bind_ok, evs_cons, ev_call, evs_cons, ev_v' rfl, bind_ok, evs_cons, ev_v' rfl, bind_ok, evs_nil, bind_ok, bind_ok, bind_ok, e2]
  rfl
theorem refused_eq {a b : Tx} {n1 n2 : Int} {c1 c2 : Tx} {g r s2 : Ty} {k1 : Nat} (S : Sto) (hps : els [a, b] [] 1 = some ([(n1, c1, .fn g r), (n2, c2, s2)], k1)) (hdg : g.dep ≤ 15) (hf : (Ty.fn g r).fits (.fn g r) = true) (hb : s2.fits g = false) (hh : 2 * (Tx.call a b).ht ≤ 600) (hD : 24 + 2 * (Tx.call a b).ht ≤ D) :
    ∃ S' fs, (pg.cal D).call "elaborate" [(Tx.call a b).eu] S = .exc "Mismatched" fs S' := by
  obtain ⟨D, rfl⟩ : ∃ y, D = y + 23 := ⟨D - 23, by have := (Tx.call a b).ht_pos; omega⟩
  have h0 : (S ++ [elC 0])[S.length]? = some (elC 0) := last_get
  let S1 : Sto := (S ++ [elC 0]) ++ [.dic []]
  have el1 : S1[S.length]? = some (elC 0) := Gr.push.at_ h0
  have dl1 : S1[S.length + 1]? = some (.dic (kvA tu [])) := by
    have : (S ++ [elC 0]).length = S.length + 1 := by simp
    rw [← this]
    exact last_get
  let S2 : Sto := S1.set S.length (elC 1)
  have el2 : S2[S.length]? = some (elC 1) := List.getElem?_set_self (List.getElem?_eq_some_iff.mp el1).1
  have dl2 : S2[S.length + 1]? = some (.dic (kvA tu [])) := by
    show (S1.set S.length (elC 1))[S.length + 1]? = _
    rw [List.getElem?_set_ne (by omega)]; exact dl1
  obtain ⟨fR, qs, S3, hfR, hall, hek, fS, ec⟩ := ct_walk (t := .call a b) rfl (kid2 (el_ok a) (el_ok b)) (D := D) (sc := []) (k := 0) hps el2 dl2 (by simp [ndA]) (by show 0 + 2 * (Tx.call a b).ht ≤ 900; omega) (by omega)
  cases hfR
  cases hall with
  | @cons _ q1 _ _ hp1 hr1 =>
    cases hr1 with
    | @cons _ q2 _ _ hp2 hr2 =>
      cases hr2
      obtain ⟨S4, e4⟩ := call_bad (d := D) (t := .call a b) hp1.1 hp2.1 hp1.2 hp2.2 hdg hf hb
      have hct : (pg.cal (D + 21)).call "Elaborator.core_and_type" [.loc S.length, (Tx.call a b).eu, .loc (S.length + 1)] S2 = .exc "Mismatched" [("number", .int n2)] S4 := by
        rw [ec]
        exact e4
      have hel : (pg.cal (D + 22)).call "Elaborator.elaborated" [.loc S.length, (Tx.call a b).eu, .loc (S.length + 1)] S1 = .exc "Mismatched" [("number", .int n2)] S4 := by
        rw [call_eq (df := ⟨3, 6, false, T_Elaborator_elaborated⟩) (by kernel_rfl), run_eq (by rfl)]
        unfold T_Elaborator_elaborated
        show (exs _ _ [some (.loc S.length), some (Tx.call a b).eu, some (.loc (S.length + 1)), none, none, none] S1).fin = _
        rw [go_set (show ev (pg.cal (D + 21)) (.fld (.v 0) "Elaborator" "reached") _ S1 = .ok (.int (0 : Nat)) S1 from ev_fld' (S1 := S1) (ev_v' rfl) el1 rfl)]
        rw [go_faug (S1 := S1) (S2 := S1) (x := .int (0 : Nat)) (y := .int 1) (z := .int ((0 : Nat) + 1)) (fs := [("reached", .int (0 : Nat))]) rfl el1 rfl rfl rfl el1 (by show 1 < 900; decide)]
        have es : S1.set S.length (.ins "Elaborator" (putU "reached" (U.int ((0 : Nat) + 1)) [("reached", U.int (0 : Nat))])) = S2 := rfl
        have en : ("Elaborator" ++ "." ++ "core_and_type" : Str) = "Elaborator.core_and_type" := by decide +kernel
        rw [es, exs_cons, ex_set, meth_el (us := [(Tx.call a b).eu, .loc (S.length + 1)]) rfl el2 (by rfl) (by rfl), en, hct]
        rfl
      refine ⟨S4, [("number", .int n2)], ?_⟩
      rw [call_eq (df := ⟨1, 2, false, T_elaborate⟩) (by kernel_rfl), run_eq (by rfl)]
      unfold T_elaborate
      have mkE : ∀ {env : Oz.Env} {S : Sto}, ev (pg.cal (D + 22)) (.mk "Elaborator" .nil) env S = .ok (.loc S.length) (S ++ [elC 0]) := by
        intro env S
        refine ev_mk' (d := D + 21) rfl ?_
        have e : ("Elaborator" ++ ".__init__" : Str) = "Elaborator.__init__" := by decide +kernel
        rw [e, call_eq (df := ⟨1, 1, false, T_Elaborator__init_⟩) (by kernel_rfl), run_eq (by rfl)]
        unfold T_Elaborator__init_
        rw [go_fnew rfl rfl (by decide)]
        rfl
      have hev : ev (pg.cal (D + 22)) (.meth (.mk "Elaborator" .nil) "Elaborator" "elaborated" (.cons (.v 0) (.cons .dnew .nil))) [some (Tx.call a b).eu, none] S = .exc "Mismatched" [("number", .int n2)] S4 := by
        rw [ev_meth, mkE, bind_ok]
        simp only [elC, last_get]
        rw [if_pos ⟨trivial, by rfl⟩]
        have en : ("Elaborator" ++ "." ++ "elaborated" : Str) = "Elaborator.elaborated" := by decide +kernel
        rw [evs_cons, ev_v' rfl, bind_ok, evs_cons, ev, bind_ok, evs_nil, bind_ok, bind_ok, bind_ok, en]
        have el9 : (S ++ [elC 0]).length = S.length + 1 := by simp
        have c1' := hel
        unfold elC at c1' el9
        rw [el9]
        exact c1'
      show (exs _ _ [some (Tx.call a b).eu, none] S).fin = _
      rw [exs_cons, ex_set, hev]
      rfl
end Pr
end
section
set_option maxHeartbeats 4000000
namespace Pr
open PySem L2 Oz
variable {S S' S0 : Sto} {d : Nat}
noncomputable abbrev By := Ty × Ty × Int × Int
noncomputable def byU (b : By) : U := .tup [tu b.1, tu b.2.1, .int b.2.2.1, .int b.2.2.2]
noncomputable abbrev Pd := List By
noncomputable def peU : Pd → U
  | [] => .non
  | b :: r => .tup [byU b, peU r]
inductive Va where
  | int (i : Int) | bl (b : Bool) | unit | pr (a b : Va) | fn (own : Option Str) (x : Str) (body : Tx) (env : List (Str × Va)) | bx (k : Nat) | wr (v : Va) (b : By) | inj (v : Va) (g : Str)
noncomputable abbrev En := List (Str × Va)
structure Fm where
  core : Tx
  env : En
  pend : Pd
  known : List Va
structure Cf where
  fr : List Fm
  pr : List Va
  calls : Int
  bs : List Va
noncomputable def Im (S : Sto) (ms : List Nat) (n : Nat) (c : Cel) : Prop := S[n]? = some c ∧ n ∉ ms
noncomputable def owU : Option Str → U
  | none => .non
  | some x => .str x
mutual
inductive RV (S : Sto) (ms β : List Nat) : Va → U → Prop
  | int {i : Int} : RV S ms β (.int i) (.int i)
  | bl {b : Bool} : RV S ms β (.bl b) (.bl b)
  | unit : RV S ms β .unit .non
  | pr {a b : Va} {u w : U} : RV S ms β a u → RV S ms β b w → RV S ms β (.pr a b) (.tup [u, w])
  | fn {own : Option Str} {x : Str} {body : Tx} {env : En} {n m : Nat} {kvs : List (Key × U)} : Im S ms n (.ins "Function" [("own", owU own), ("name", .str x), ("body", body.eu), ("scope", .loc m)]) → Im S ms m (.dic kvs) → RVs S ms β env kvs → ndA env → RV S ms β (.fn own x body env) (.loc n)
  | bx {k n : Nat} : β[k]? = some n → RV S ms β (.bx k) (.loc n)
  | wr {v : Va} {b : By} {n : Nat} {u : U} : Im S ms n (.ins "Wrapped" [("inside", u), ("by", byU b)]) → RV S ms β v u → RV S ms β (.wr v b) (.loc n)
  | inj {v : Va} {g : Str} {n : Nat} {u : U} : Im S ms n (.ins "Injected" [("inside", u), ("ground", .str g)]) → RV S ms β v u → RV S ms β (.inj v g) (.loc n)
inductive RVs (S : Sto) (ms β : List Nat) : En → List (Key × U) → Prop
  | nil : RVs S ms β [] []
  | cons {x : Str} {v : Va} {u : U} {env : En} {kvs : List (Key × U)} : RV S ms β v u → RVs S ms β env kvs → RVs S ms β ((x, v) :: env) ((.inr x, u) :: kvs)
end
/-- what is not in ms stays -/
structure Nx (S : Sto) (ms β : List Nat) (S' : Sto) (ms' β' : List Nat) : Prop where
  len : S.length ≤ S'.length
  keep : ∀ n, n < S.length → n ∉ ms → S'[n]? = S[n]? ∧ n ∉ ms'
  pre : ∃ t, β' = β ++ t
variable {ms ms' ms'' β β' β'' : List Nat} {S'' : Sto}
theorem Nx.refl : Nx S ms β S ms β := ⟨Nat.le_refl _, fun _ _ h => ⟨rfl, h⟩, [], by simp⟩
theorem Nx.trans (a : Nx S ms β S' ms' β') (b : Nx S' ms' β' S'' ms'' β'') : Nx S ms β S'' ms'' β'' := by
  obtain ⟨t, e⟩ := a.pre
  obtain ⟨t', e'⟩ := b.pre
  refine ⟨Nat.le_trans a.len b.len, fun n h1 h2 => ?_, t ++ t', by rw [e', e, List.append_assoc]⟩
  obtain ⟨k1, k2⟩ := a.keep n h1 h2
  obtain ⟨k3, k4⟩ := b.keep n (Nat.lt_of_lt_of_le h1 a.len) k2
  exact ⟨k3.trans k1, k4⟩
theorem Im.mono {n : Nat} {c : Cel} (x : Nx S ms β S' ms' β') (h : Im S ms n c) : Im S' ms' n c := by
  obtain ⟨k1, k2⟩ := x.keep n (List.getElem?_eq_some_iff.mp h.1).1 h.2
  exact ⟨k1.trans h.1, k2⟩
theorem pre_at (x : Nx S ms β S' ms' β') {k n : Nat} (h : β[k]? = some n) : β'[k]? = some n := by
  obtain ⟨t, rfl⟩ := x.pre
  rw [List.getElem?_append_left (List.getElem?_eq_some_iff.mp h).1]
  exact h
mutual
theorem RV.mono (x : Nx S ms β S' ms' β') : ∀ {v : Va} {u : U}, RV S ms β v u → RV S' ms' β' v u
  | _, _, .int => .int
  | _, _, .bl => .bl
  | _, _, .unit => .unit
  | _, _, .pr a b => .pr (RV.mono x a) (RV.mono x b)
  | _, _, .fn h1 h2 h3 h4 => .fn (h1.mono x) (h2.mono x) (RVs.mono x h3) h4
  | _, _, .bx h => .bx (pre_at x h)
  | _, _, .wr h1 h2 => .wr (h1.mono x) (RV.mono x h2)
  | _, _, .inj h1 h2 => .inj (h1.mono x) (RV.mono x h2)
theorem RVs.mono (x : Nx S ms β S' ms' β') : ∀ {e : En} {k : List (Key × U)}, RVs S ms β e k → RVs S' ms' β' e k
  | _, _, .nil => .nil
  | _, _, .cons a b => .cons (RV.mono x a) (RVs.mono x b)
end
theorem All2.mapP {α γ : Type} {Q R : α → γ → Prop} {as : List α} {bs : List γ} (h : All2 Q as bs) (i : ∀ a b, Q a b → R a b) : All2 R as bs := All2.imp h fun a b _ => i a b
theorem RVs.look {env : En} {kvs : List (Key × U)} (h : RVs S ms β env kvs) {x : Str} {v : Va} (hx : lkA env x = some v) : ∃ u, valU kvs (.inr x) = some u ∧ RV S ms β v u := by
  induction env generalizing kvs with
  | nil => simp [lkA] at hx
  | cons p r ih =>
    cases h with
    | @cons y w u _ kvs' hv hr =>
      unfold lkA at hx
      unfold valU
      rw [List.find?_cons]
      by_cases hy : y = x
      · subst hy
        rw [if_pos rfl] at hx
        cases hx
        exact ⟨u, by simp, hv⟩
      · rw [if_neg hy] at hx
        obtain ⟨u', h1, h2⟩ := ih hr hx
        refine ⟨u', ?_, h2⟩
        simp only [inr_eq, hy, decide_false]
        exact h1
theorem RVs.any {env : En} {kvs : List (Key × U)} (h : RVs S ms β env kvs) (x : Str) : (kvs.any fun kv => decide (kv.1 = .inr x)) = env.any fun p => decide (p.1 = x) := by
  induction env generalizing kvs with
  | nil => cases h; rfl
  | cons p r ih =>
    cases h with
    | @cons y w u _ kvs' hv hr =>
      rw [List.any_cons, List.any_cons, ih hr]
      simp
theorem RVs.put {env : En} {kvs : List (Key × U)} (h : RVs S ms β env kvs) (x : Str) {v : Va} {u : U} (hv : RV S ms β v u) : RVs S ms β (putA env x v) (putKU kvs (.inr x) u) := by
  unfold putA putKU
  rw [h.any x]
  by_cases c : (env.any fun p => decide (p.1 = x)) = true
  · rw [if_pos c, if_pos c]
    clear c
    induction env generalizing kvs with
    | nil => cases h; exact .nil
    | cons p r ih =>
      cases h with
      | @cons y w u' _ kvs' hw hr =>
        rw [List.map_cons, List.map_cons]
        simp only [inr_eq]
        by_cases hy : y = x
        · rw [if_pos hy, if_pos hy]
          exact .cons hv (ih hr)
        · rw [if_neg hy, if_neg hy]
          exact .cons hw (ih hr)
  · rw [if_neg c, if_neg c]
    clear c
    induction env generalizing kvs with
    | nil => cases h; exact .cons hv .nil
    | cons p r ih =>
      cases h with
      | cons hw hr => exact .cons hw (ih hr)
theorem RVs.keys {env : En} {kvs : List (Key × U)} (h : RVs S ms β env kvs) : kvs.map (·.1) = (env.map (·.1)).map Sum.inr := by
  induction env generalizing kvs with
  | nil => cases h; rfl
  | cons p r ih =>
    cases h with
    | cons hw hr => rw [List.map_cons, List.map_cons, List.map_cons, ih hr]
theorem RVs.nodup {env : En} {kvs : List (Key × U)} (h : RVs S ms β env kvs) (hn : ndA env) : (kvs.map (·.1)).Nodup := by
  rw [h.keys]
  exact nd_inr hn
theorem RVs.length {env : En} {kvs : List (Key × U)} (h : RVs S ms β env kvs) : kvs.length = env.length := by
  have := congrArg List.length h.keys
  simpa using this
noncomputable def awn : Tx → Nat
  | .fn _ _ _ => 0 | .cast _ _ _ _ => 0 | .lt _ _ _ => 1 | _ => 3
noncomputable def awt (t : Tx) : List Tx := t.kids.take (awn t)
noncomputable def AW : List (Str × U) := [("fun", (U.int 0)), ("rec", (U.int 0)), ("cast", (U.int 0)), ("let", (U.int 1)), ("if", (U.int 1)), ("print", (U.int 1))]
theorem g_AW (d : Nat) : (pg.cal d).gd "AWAITED" = some AW := by rw [cal_gd]; rfl
theorem aw_at (t : Tx) : (AW.lookup t.hd).getD (.int 3) = .int (awn t : Nat) := by cases t <;> rfl
noncomputable def fmC (t : Tx) (sc : Nat) (p : Pd) (aw kn : Nat) : Cel := .ins "Frame" [("core", t.eu), ("scope", .loc sc), ("pending", peU p), ("awaited", .loc aw), ("known", .loc kn)]
/-- a frame in the store: where it stands, where its known values stand -/
noncomputable def FrOk (S : Sto) (ms β : List Nat) (f : Fm) (l : Nat × Nat) : Prop := ∃ sc aw us kvs, Im S ms l.1 (fmC f.core sc f.pend aw l.2) ∧ Im S ms sc (.dic kvs) ∧ RVs S ms β f.env kvs ∧ ndA f.env ∧ f.env.length ≤ 1000 ∧ Im S ms aw (.lst ((awt f.core).map Tx.eu)) ∧ S[l.2]? = some (.lst us) ∧ All2 (RV S ms β) f.known us
theorem FrOk.mono {f : Fm} {l : Nat × Nat} (x : Nx S ms β S' ms' β') (hk : S'[l.2]? = S[l.2]?) (h : FrOk S ms β f l) : FrOk S' ms' β' f l := by
  obtain ⟨sc, aw, us, kvs, h1, h2, h3, h4, h5, h6, h7, h8⟩ := h
  exact ⟨sc, aw, us, kvs, h1.mono x, h2.mono x, h3.mono x, h4, h5, h6.mono x, hk.trans h7, All2.mapP h8 fun _ _ r => r.mono x⟩
noncomputable def evC (ca pl fl : Nat) (calls : Int) (core val : U) : Cel := .ins "Evaluation" [("casting", .loc ca), ("calls", .int calls), ("prints", .loc pl), ("core", core), ("frames", .loc fl), ("value", val)]
/-- the cells that may change -/
noncomputable def muts (e fl pl : Nat) (ls : List (Nat × Nat)) (β : List Nat) : List Nat := e :: fl :: pl :: (ls.map (·.2) ++ β)
structure CfOk (S : Sto) (ms β : List Nat) (e fl pl ca : Nat) (core val : U) (C : Cf) (ls : List (Nat × Nat)) : Prop where
  hev : S[e]? = some (evC ca pl fl C.calls core val)
  hfl : S[fl]? = some (.lst ((ls.map fun l => U.loc l.1).reverse))
  hfr : All2 (FrOk S ms β) C.fr ls
  hpl : ∃ us, S[pl]? = some (.lst us) ∧ All2 (RV S ms β) C.pr us
  hbs : All2 (fun v n => ∃ u, S[n]? = some (.ins "Box" [("held", u)]) ∧ RV S ms β v u) C.bs β
  hnd : (muts e fl pl ls β).Nodup
  hms : ∀ n ∈ muts e fl pl ls β, n ∈ ms
  hca : Im S ms ca (.ins "Casts" [])
  hlt : ∀ n ∈ ms, n < S.length
theorem All2.len {α γ : Type} {Q : α → γ → Prop} {as : List α} {bs : List γ} (h : All2 Q as bs) : bs.length = as.length := Oz.All2.length h
theorem All2.get {α γ : Type} {Q : α → γ → Prop} {as : List α} {bs : List γ} (h : All2 Q as bs) {i : Nat} {a : α} (ha : as[i]? = some a) : ∃ b, bs[i]? = some b ∧ Q a b := by
  induction h generalizing i with
  | nil => simp at ha
  | cons q _ ih =>
    cases i with
    | zero => simp at ha; subst ha; exact ⟨_, rfl, q⟩
    | succ i => exact ih (by simpa using ha)
theorem All2.get2 {α γ : Type} {Q : α → γ → Prop} {as : List α} {bs : List γ} (h : All2 Q as bs) {i : Nat} {b : γ} (hb : bs[i]? = some b) : ∃ a, as[i]? = some a ∧ Q a b := by
  induction h generalizing i with
  | nil => simp at hb
  | cons q _ ih =>
    cases i with
    | zero => simp at hb; subst hb; exact ⟨_, rfl, q⟩
    | succ i => exact ih (by simpa using hb)
/-- the store grows: nothing that stood is changed -/
theorem nx_gr (g : Gr S S') (h : ∀ n ∈ ms', n ∈ ms ∨ S.length ≤ n) : Nx S ms β S' ms' β := ⟨g.1, fun n h1 h2 => ⟨g.2 n h1, fun z => (h n z).elim h2 fun z => by omega⟩, [], by simp⟩
/-- one cell of ms is set -/
theorem nx_set {n : Nat} {c : Cel} (h : n ∈ ms) : Nx S ms β (S.set n c) ms β := ⟨by simp, fun k h1 h2 => ⟨List.getElem?_set_ne fun z => h2 (by rw [← z]; exact h), h2⟩, [], by simp⟩
end Pr
end
section
set_option maxHeartbeats 4000000
namespace Pr
open PySem L2 Oz
variable {S S' S'' S0 : Sto} {d D : Nat} {ms ms' ms'' β β' β'' : List Nat} {e fl pl ca : Nat} {core val : U} {C : Cf} {ls : List (Nat × Nat)}
theorem ty_app {n : Nat} {us : List U} (h : S[n]? = some (.lst us)) : tyB .append (.loc n) S = true := by
  unfold tyB
  simp only [list?, h, Option.isSome]
theorem ty_pop {n : Nat} {us : List U} (h : S[n]? = some (.lst us)) : tyB .pop (.loc n) S = true := by
  unfold tyB
  simp only [list?, h, Option.isSome]
theorem app_ok {n : Nat} {us : List U} {u : U} (h : S[n]? = some (.lst us)) (hz : us.length < sizeLine) : bmU .append (.loc n) [u] S = .ok .non (S.set n (.lst (us ++ [u]))) := by
  show appendF (.loc n) [u] S = _
  unfold appendF
  simp only [h, hz, if_true]
theorem pop_ok {n : Nat} {us : List U} {u : U} (h : S[n]? = some (.lst (us ++ [u]))) : bmU .pop (.loc n) [] S = .ok u (S.set n (.lst us)) := by
  show popF (.loc n) [] S = _
  unfold popF
  simp only [h]
  have e : (us ++ [u])[(us ++ [u]).length - 1]? = some u := by simp
  rw [e]
  simp
theorem cutA_take {α : Type} (xs : List α) (k : Nat) : cutA xs none (some (k : Int)) = xs.take k := by
  unfold cutA
  rw [HT.sIx_none, HT.sIx_nat, List.drop_zero, Nat.sub_zero]
  by_cases h : k ≤ xs.length
  · rw [Nat.min_eq_left h]
  · rw [Nat.min_eq_right (by omega), List.take_length, List.take_of_length_le (by omega)]
theorem sl_loc {n : Nat} {us : List U} {k : Nat} (h : S[n]? = some (.lst us)) : slU (.loc n) none (some (k : Int)) S = .ok (.loc S.length) (S ++ [.lst (us.take k)]) := by
  unfold slU
  simp only [list?, h, cutA_take]
theorem at_last {α : Type} (l : List α) (a : α) : atI (l ++ [a]) (-1 : Int) = some a := by
  unfold atI ixN
  rw [if_neg (by omega), if_pos (by rw [List.length_append, List.length_singleton]; omega)]
  have e : (-1 + (((l ++ [a]).length : Nat) : Int)).toNat = l.length := by rw [List.length_append, List.length_singleton]; omega
  show (l ++ [a])[(-1 + (((l ++ [a]).length : Nat) : Int)).toNat]? = some a
  rw [e]
  simp
theorem m15 : 1000000 < sizeLine := by decide
theorem mk_frame {env : Oz.Env} {es : Es} {t : Tx} {sc : Nat} {p : Pd} {S1 : Sto} (hes : evs (pg.cal (D + 3)) es env S = .ok [t.eu, .loc sc, peU p] S1) :
    ∃ aw kn S2, ev (pg.cal (D + 3)) (.mk "Frame" es) env S = .ok (.loc S1.length) S2 ∧ Gr S1 S2 ∧ S2[S1.length]? = some (fmC t sc p aw kn) ∧ S2[aw]? = some (.lst ((awt t).map Tx.eu)) ∧ S2[kn]? = some (.lst []) ∧ S1.length < aw ∧ aw < kn := by
  have f3 : ∀ c, c = Cel.ins "Frame" [("core", t.eu), ("scope", .loc sc), ("pending", peU p)] → ∃ S2, (pg.cal (D + 1)).call "parts" [t.eu] (S1 ++ [c]) = .ok (.loc (S1.length + 1)) S2 ∧ Gr (S1 ++ [c]) S2 ∧ S2[S1.length + 1]? = some (.lst (t.kids.map Tx.eu)) := by
    intro c _
    obtain ⟨S2, e2, g2, h2⟩ := parts_eq (d := D) t (S1 ++ [c])
    have hl : (S1 ++ [c]).length = S1.length + 1 := by simp
    rw [hl] at e2 h2
    exact ⟨S2, e2, g2, h2⟩
  obtain ⟨S2, e2, g2, h2⟩ := f3 _ rfl
  have l2 : S1.length + 1 < S2.length := (List.getElem?_eq_some_iff.mp h2).1
  let c4 : Cel := .ins "Frame" [("core", t.eu), ("scope", .loc sc), ("pending", peU p), ("awaited", .loc S2.length)]
  let S3 : Sto := (S2 ++ [Cel.lst ((t.kids.map Tx.eu).take (awn t))]).set S1.length c4
  have l3 : S3.length = S2.length + 1 := by show (List.set _ _ _).length = _; simp
  have hn3 : S3[S1.length]? = some c4 := by show (List.set _ _ _)[_]? = _; rw [List.getElem?_set_self (by simp; omega)]
  let c5 : Cel := fmC t sc p S2.length S3.length
  let S4 : Sto := (S3 ++ [Cel.lst []]).set S1.length c5
  have haw : S4[S2.length]? = some (.lst ((awt t).map Tx.eu)) := by
    show (List.set _ _ _)[_]? = _
    rw [List.getElem?_set_ne (by omega), List.getElem?_append_left (by omega)]
    show (List.set _ _ _)[_]? = _
    rw [List.getElem?_set_ne (by omega), last_get]
    unfold awt
    rw [List.map_take]
  refine ⟨S2.length, S3.length, S4, ?_, ⟨?_, fun k hk => ?_⟩, ?_, haw, ?_, by omega, by omega⟩
  · refine ev_mk' (d := D + 2) hes ?_
    have en : ("Frame" ++ ".__init__" : Str) = "Frame.__init__" := by decide +kernel
    rw [en, call_eq (df := ⟨4, 4, false, T_Frame__init_⟩) (by kernel_rfl), run_eq (by rfl)]
    unfold T_Frame__init_
    rw [go_fnew (ev_v' (by rfl)) rfl (by decide), go_fnew (ev_v' (by rfl)) rfl (by show 1 < 900; decide), go_fnew (ev_v' (by rfl)) rfl (by show 2 < 900; decide)]
    rw [go_fset (S1 := S2 ++ [.lst ((t.kids.map Tx.eu).take (awn t))]) (S2 := S2 ++ [.lst ((t.kids.map Tx.eu).take (awn t))]) (u := .loc S2.length) (n := S1.length) (fs := [("core", t.eu), ("scope", .loc sc), ("pending", peU p)]) ?_ (ev_v' (by rfl)) ?_ (by show 3 < 900; decide)]
    · rw [go_fset (S1 := S3 ++ [.lst []]) (S2 := S3 ++ [.lst []]) (u := .loc S3.length) (n := S1.length) (fs := [("core", t.eu), ("scope", .loc sc), ("pending", peU p), ("awaited", .loc S2.length)]) ?_ (ev_v' (by rfl)) ?_ (by show 4 < 900; decide)]
      · rfl
      · show ev _ _ _ S3 = _
        rw [ev_lst, evs_nil, bind_ok, if_pos (by show 0 ≤ sizeLine; decide)]
      · rw [List.getElem?_append_left (by omega)]
        exact hn3
    · rw [ev_sl, ev_call, evs_cons, ev_v' rfl, bind_ok, evs_nil, bind_ok, bind_ok]
      have e2' : (pg.cal (D + 1)).call "parts" [t.eu] (S1 ++ [Cel.ins "Frame" (putU "pending" (peU p) (putU "scope" (U.loc sc) (putU "core" t.eu [])))]) = .ok (.loc (S1.length + 1)) S2 := e2
      rw [e2', bind_ok, evo_no, bind_ok, evo_so, ev_gget (g_AW _), ev_ix, ev_v' rfl, bind_ok, ev_k, bind_ok, ix_head, bind_ok, ev_k, bind_ok]
      simp only [aw_at, bind_ok]
      exact sl_loc h2
    · rw [List.getElem?_append_left (by omega)]
      exact g2.at_ last_get
  · show _ ≤ (List.set _ _ _).length
    simp
    omega
  · show (List.set _ _ _)[_]? = _
    rw [List.getElem?_set_ne (by omega), List.getElem?_append_left (by omega)]
    show (List.set _ _ _)[_]? = _
    rw [List.getElem?_set_ne (by omega), List.getElem?_append_left (by omega), g2.2 k (by simp; omega), List.getElem?_append_left hk]
  · show (List.set _ _ _)[_]? = _
    rw [List.getElem?_set_self (by simp; omega)]
  · show (List.set _ _ _)[_]? = _
    rw [List.getElem?_set_ne (by omega), last_get]
theorem CfOk.ne (h : CfOk S ms β e fl pl ca core val C ls) : e ≠ fl ∧ e ≠ pl ∧ fl ≠ pl ∧ (∀ k ∈ ls.map (·.2) ++ β, k ≠ e ∧ k ≠ fl ∧ k ≠ pl) ∧ (ls.map (·.2) ++ β).Nodup := by
  have q := h.hnd
  unfold muts at q
  simp only [List.nodup_cons, List.mem_cons, not_or] at q
  obtain ⟨⟨q1, q2, q3⟩, ⟨q4, q5⟩, q6, q7⟩ := q
  exact ⟨q1, q2, q4, fun k hk => ⟨fun z => q3 (z ▸ hk), fun z => q5 (z ▸ hk), fun z => q6 (z ▸ hk)⟩, q7⟩
theorem CfOk.lts (h : CfOk S ms β e fl pl ca core val C ls) : ∀ n ∈ muts e fl pl ls β, n < S.length := fun n hn => h.hlt n (h.hms n hn)
theorem CfOk.lens (h : CfOk S ms β e fl pl ca core val C ls) : ls.length = C.fr.length := All2.len h.hfr
/-- fields of the Evaluation -/
theorem ev_self {Φ : Cal} {env : Oz.Env} {f : Str} {u : U} (hv : env[0]? = some (some (.loc e))) (h : S[e]? = some (evC ca pl fl C.calls core val)) (hf : ([("casting", .loc ca), ("calls", .int C.calls), ("prints", .loc pl), ("core", core), ("frames", .loc fl), ("value", val)] : List (Str × U)).lookup f = some u) : ev Φ (.fld (.v 0) "Evaluation" f) env S = .ok u S := ev_fld' (S1 := S) (ev_v' hv) h hf
theorem go_ex {Φ : Cal} {env : Oz.Env} {a : E} {sts : Sts} {u : U} {S1 : Sto} (h : ev Φ a env S = .ok u S1) : exs Φ (.cons (.ex a) sts) env S = exs Φ sts env S1 := by
  rw [exs_cons, ex_ex, h, on_ok, then_nx]
theorem begin_eq (h : CfOk S ms β e fl pl ca core val C ls) (c : Tx) {env : En} (p : Pd) {sc : Nat} {kvs : List (Key × U)} (h1 : Im S ms sc (.dic kvs)) (h2 : RVs S ms β env kvs) (h3 : ndA env) (h4 : env.length ≤ 1000) (hz : C.fr.length < 1000000) :
    ∃ S' kn, (pg.cal (D + 4)).call "Evaluation.begin" [.loc e, c.eu, .loc sc, peU p] S = .ok .non S' ∧ CfOk S' (kn :: ms) β e fl pl ca core val { C with fr := ⟨c, env, p, []⟩ :: C.fr } ((S.length, kn) :: ls) ∧ Nx S ms β S' (kn :: ms) β := by
  rw [call_eq (df := ⟨4, 4, false, T_Evaluation_begin⟩) (by kernel_rfl), run_eq (by rfl)]
  unfold T_Evaluation_begin
  obtain ⟨aw, kn, S2, e2, g2, f2, a2, k2, l1, l2⟩ := mk_frame (D := D) (env := [some (.loc e), some c.eu, some (.loc sc), some (peU p)]) (es := .cons (.v 1) (.cons (.v 2) (.cons (.v 3) .nil))) (t := c) (sc := sc) (p := p) (S := S) (S1 := S) rfl
  obtain ⟨n1, n2, n3, n4, n5⟩ := h.ne
  have hlt := h.lts
  have hel : e < S.length := hlt e (by simp [muts])
  have hfll : fl < S.length := hlt fl (by simp [muts])
  have hpll : pl < S.length := hlt pl (by simp [muts])
  have hkl : kn < S2.length := (List.getElem?_eq_some_iff.mp k2).1
  have hfl2 := g2.at_ h.hfl
  have hlen : ((ls.map fun l => U.loc l.1).reverse).length < sizeLine := by
    rw [List.length_reverse, List.length_map, h.lens]
    exact Nat.lt_trans hz m15
  let S3 : Sto := S2.set fl (.lst ((ls.map fun l => U.loc l.1).reverse ++ [.loc S.length]))
  have s3 : ∀ n, n ≠ fl → S3[n]? = S2[n]? := fun n hn => List.getElem?_set_ne (Ne.symm hn)
  have nx : Nx S ms β S3 (kn :: ms) β := ⟨by show _ ≤ (List.set _ _ _).length; simp; exact g2.1, fun n hn hm => ⟨by rw [s3 n (fun z => hm (by rw [z]; exact h.hms fl (by simp [muts]))), g2.2 n hn], by simp; exact ⟨by omega, hm⟩⟩, [], by simp⟩
  refine ⟨S3, kn, ?_, ⟨?_, ?_, .cons ?_ ?_, ?_, ?_, ?_, ?_, h.hca.mono nx, ?_⟩, nx⟩
  · rw [show ([U.loc e, c.eu, .loc sc, peU p].map some ++ List.replicate (4 - 4) none : Oz.Env) = [some (.loc e), some c.eu, some (.loc sc), some (peU p)] from rfl]
    rw [go_ex (u := .non) (S1 := S3)]
    · rfl
    · rw [ev_bm, ev_self rfl h.hev (by rfl), bind_ok, ty_app h.hfl, if_pos rfl, evs_cons, e2, bind_ok, evs_nil, bind_ok, bind_ok, app_ok hfl2 hlen]
  · rw [s3 e n1, g2.at_ h.hev]
  · rw [List.map_cons, List.reverse_cons]
    exact List.getElem?_set_self (by omega)
  · refine ⟨sc, aw, [], kvs, ⟨by rw [s3 _ (by omega)]; exact f2, ?_⟩, h1.mono nx, h2.mono nx, h3, h4, ⟨by rw [s3 _ (by omega)]; exact a2, ?_⟩, by rw [s3 kn (by omega)]; exact k2, .nil⟩
    · simp only [List.mem_cons, not_or]
      exact ⟨by show ¬ S.length = kn; omega, fun z => by have := h.hlt _ z; omega⟩
    · simp only [List.mem_cons, not_or]
      exact ⟨by omega, fun z => by have := h.hlt _ z; omega⟩
  · refine All2.imp h.hfr fun f l hl hf => hf.mono nx ?_
    have hm : l.2 ∈ ls.map (·.2) ++ β := List.mem_append_left _ (List.mem_map_of_mem hl)
    rw [s3 _ (n4 _ hm).2.1, g2.2 _ (hlt _ (by unfold muts; simp only [List.mem_cons]; exact .inr (.inr (.inr hm))))]
  · obtain ⟨us, q1, q2⟩ := h.hpl
    exact ⟨us, by rw [s3 pl (Ne.symm n3)]; exact g2.at_ q1, All2.mapP q2 fun _ _ r => r.mono nx⟩
  · refine All2.imp h.hbs fun v n hn ⟨u, q1, q2⟩ => ⟨u, ?_, q2.mono nx⟩
    have hm : n ∈ ls.map (·.2) ++ β := List.mem_append_right _ hn
    rw [s3 _ (n4 _ hm).2.1]
    exact g2.at_ q1
  · have q := h.hnd
    have hk : ∀ n ∈ muts e fl pl ls β, n ≠ kn := fun n hn z => by have := hlt n hn; omega
    unfold muts at q hk ⊢
    simp only [List.map_cons, List.cons_append, List.nodup_cons, List.mem_cons, not_or, List.mem_append] at q hk ⊢
    obtain ⟨⟨q1, q2, q3⟩, ⟨q4, q5⟩, q6, q7⟩ := q
    exact ⟨⟨q1, q2, hk e (.inl rfl), q3⟩, ⟨q4, hk fl (.inr (.inl rfl)), q5⟩, ⟨hk pl (.inr (.inr (.inl rfl))), q6⟩, ⟨fun z => hk kn (.inr (.inr (.inr (.inl z)))) rfl, fun z => hk kn (.inr (.inr (.inr (.inr z)))) rfl⟩, q7⟩
  · intro n hn
    unfold muts at hn
    simp only [List.map_cons, List.cons_append, List.mem_cons] at hn ⊢
    rcases hn with hn | hn | hn | hn | hn
    · exact .inr (h.hms n (by unfold muts; simp [hn]))
    · exact .inr (h.hms n (by unfold muts; simp [hn]))
    · exact .inr (h.hms n (by unfold muts; simp [hn]))
    · exact .inl hn
    · exact .inr (h.hms n (by unfold muts; simp only [List.mem_cons]; exact .inr (.inr (.inr hn))))
  · intro n hn
    have hl : S3.length = S2.length := by show (List.set _ _ _).length = _; simp
    rw [hl]
    rcases List.mem_cons.mp hn with hn | hn
    · omega
    · have := h.hlt n hn
      have := g2.1
      omega
end Pr
end
section
set_option maxHeartbeats 4000000
namespace Pr
open PySem L2 Oz
variable {S S' S'' S0 : Sto} {d D : Nat} {ms ms' ms'' β β' β'' : List Nat} {e fl pl ca : Nat} {core val : U} {C : Cf} {ls : List (Nat × Nat)}
theorem nx_g (g : Gr S S') : Nx S ms β S' ms β := nx_gr g fun n h => .inl h
theorem mem_kn {l : Nat × Nat} (h : l ∈ ls) : l.2 ∈ muts e fl pl ls β := by
  unfold muts
  simp only [List.mem_cons, List.mem_append]
  exact .inr (.inr (.inr (.inl (List.mem_map_of_mem h))))
theorem mem_bx {n : Nat} (h : n ∈ β) : n ∈ muts e fl pl ls β := by
  unfold muts
  simp only [List.mem_cons, List.mem_append]
  exact .inr (.inr (.inr (.inr h)))
/-- the active cells stand as they stood, the rest goes on -/
theorem CfOk.move (h : CfOk S ms β e fl pl ca core val C ls) (x : Nx S ms β S' ms' β) (hs : ∀ n ∈ muts e fl pl ls β, S'[n]? = S[n]? ∧ n ∈ ms') (hl : ∀ n ∈ ms', n < S'.length) : CfOk S' ms' β e fl pl ca core val C ls := by
  obtain ⟨us, q1, q2⟩ := h.hpl
  exact ⟨(hs e (by simp [muts])).1.trans h.hev, (hs fl (by simp [muts])).1.trans h.hfl, All2.imp h.hfr fun f l hm hf => hf.mono x (hs _ (mem_kn hm)).1, ⟨us, (hs pl (by simp [muts])).1.trans q1, All2.mapP q2 fun _ _ r => r.mono x⟩,
    All2.imp h.hbs fun v n hn ⟨u, a, b⟩ => ⟨u, (hs n (mem_bx hn)).1.trans a, b.mono x⟩, h.hnd, fun n hn => (hs n hn).2, h.hca.mono x, hl⟩
theorem CfOk.gr (h : CfOk S ms β e fl pl ca core val C ls) (g : Gr S S') : CfOk S' ms β e fl pl ca core val C ls :=
  h.move (nx_g g) (fun n hn => ⟨g.2 n (h.lts n hn), h.hms n hn⟩) fun n hn => Nat.lt_of_lt_of_le (h.hlt n hn) g.1
/-- methods of the Evaluation -/
theorem meth_ev {Φ : Cal} {env : Oz.Env} {us : List U} {S1 : Sto} {es : Es} {m : Str} (hv : env[0]? = some (some (.loc e))) (he : S[e]? = some (evC ca pl fl C.calls core val)) (hm : ([("casting", .loc ca), ("calls", .int C.calls), ("prints", .loc pl), ("core", core), ("frames", .loc fl), ("value", val)] : List (Str × U)).lookup m = none) (hes : evs Φ es env S = .ok us S1) :
    ev Φ (.meth (.v 0) "Evaluation" m es) env S = Φ.call ("Evaluation" ++ "." ++ m) (.loc e :: us) S1 := by
  rw [ev_meth, ev_v' hv, bind_ok]
  simp only [he, evC]
  rw [if_pos ⟨trivial, hm⟩, hes, bind_ok]
theorem fr_fld {Φ : Cal} {env : Oz.Env} {f : Str} {u : U} {i n sc aw kn : Nat} {t : Tx} {p : Pd} (hv : env[i]? = some (some (.loc n))) (h : S[n]? = some (fmC t sc p aw kn)) (hf : ([("core", t.eu), ("scope", .loc sc), ("pending", peU p), ("awaited", .loc aw), ("known", .loc kn)] : List (Str × U)).lookup f = some u) : ev Φ (.fld (.v i) "Frame" f) env S = .ok u S := ev_fld' (S1 := S) (ev_v' hv) h hf
theorem en_begin : ("Evaluation" ++ "." ++ "begin" : Str) = "Evaluation.begin" := by decide +kernel
theorem en_go_on : ("Evaluation" ++ "." ++ "go_on" : Str) = "Evaluation.go_on" := by decide +kernel
theorem en_give : ("Evaluation" ++ "." ++ "give" : Str) = "Evaluation.give" := by decide +kernel
theorem en_value_of : ("Evaluation" ++ "." ++ "value_of" : Str) = "Evaluation.value_of" := by decide +kernel
theorem en_step : ("Evaluation" ++ "." ++ "step" : Str) = "Evaluation.step" := by decide +kernel
theorem en_settled : ("Casts" ++ "." ++ "settled" : Str) = "Casts.settled" := by decide +kernel
/-- the last frame -/
theorem last_fr {Φ : Cal} {env : Oz.Env} {l : Nat × Nat} (hv : env[0]? = some (some (.loc e))) (h : CfOk S ms β e fl pl ca core val C (l :: ls)) : ev Φ (.ix (.fld (.v 0) "Evaluation" "frames") (.neg (.k (.int 1)))) env S = .ok (.loc l.1) S := by
  have hf := h.hfl
  rw [List.map_cons, List.reverse_cons] at hf
  rw [ev_ix, ev_self hv h.hev (by rfl), bind_ok, ev_neg, ev_k, bind_ok, bind_ok, ix_loc hf, at_last]
noncomputable def S_test : T := .e (.cmp .lt (.bf .len (.cons (.fld (.v 1) "Frame" "known") .nil)) (.bf .len (.cons (.fld (.v 1) "Frame" "awaited") .nil)))
theorem test_eq {Φ : Cal} {env : Oz.Env} {n sc aw kn : Nat} {t : Tx} {p : Pd} {us : List U} (hv : env[1]? = some (some (.loc n))) (h : S[n]? = some (fmC t sc p aw kn)) (ha : S[aw]? = some (.lst ((awt t).map Tx.eu))) (hk : S[kn]? = some (.lst us)) : evt Φ S_test env S = .ok (decide (us.length < (awt t).length)) S := by
  unfold S_test
  rw [evt_e, ev_cmp, ev_bf, evs_cons, fr_fld hv h (by rfl), bind_ok, evs_nil, bind_ok, bind_ok, len_loc hk, bind_ok, ev_bf, evs_cons, fr_fld hv h (by rfl), bind_ok, evs_nil, bind_ok, bind_ok, len_loc ha, bind_ok, c_lt_int, bind_ok, List.length_map]
  simp only [truU, rO, Int.ofNat_lt]
theorem step_eq : T_Evaluation_step = .cons (.set false [1] (.ix (.fld (.v 0) "Evaluation" "frames") (.neg (.k (.int 1))))) (.cons (.if_ S_test (.cons (.ex (.meth (.v 0) "Evaluation" "begin" (.cons (.ix (.fld (.v 1) "Frame" "awaited") (.bf .len (.cons (.fld (.v 1) "Frame" "known") .nil))) (.cons (.fld (.v 1) "Frame" "scope") (.cons (.k .non) .nil))))) .nil) (.cons (.ex (.bm .pop (.fld (.v 0) "Evaluation" "frames") .nil)) (.cons (.ex (.meth (.v 0) "Evaluation" "go_on" (.cons (.v 1) .nil))) .nil))) .nil) := rfl
theorem then_nx_id (o : O) : (o.then_ fun env S => exs (pg.cal D) .nil env S) = o := by cases o <;> rfl
theorem step_push {f : Fm} {F : List Fm} {l : Nat × Nat} {a : Tx} (hC : C.fr = f :: F) (h : CfOk S ms β e fl pl ca core val C (l :: ls)) (ha : (awt f.core)[f.known.length]? = some a) (hz : C.fr.length < 1000000) :
    ∃ S' kn, (pg.cal (D + 5)).call "Evaluation.step" [.loc e] S = .ok .non S' ∧ CfOk S' (kn :: ms) β e fl pl ca core val { C with fr := ⟨a, f.env, [], []⟩ :: C.fr } ((S.length, kn) :: l :: ls) ∧ Nx S ms β S' (kn :: ms) β := by
  have hfr := h.hfr
  rw [hC] at hfr
  cases hfr with
  | cons hf _ =>
    obtain ⟨sc, aw, us, kvs, h1, h2, h3, h4, h5, h6, h7, h8⟩ := hf
    have hlen : us.length = f.known.length := All2.len h8
    obtain ⟨S', kn, e1, c1, x1⟩ := begin_eq (D := D) h a (env := f.env) [] h2 h3 h4 h5 hz
    refine ⟨S', kn, ?_, c1, x1⟩
    rw [call_eq (df := ⟨1, 2, false, T_Evaluation_step⟩) (by kernel_rfl), run_eq (by rfl), step_eq]
    rw [show ([U.loc e].map some ++ List.replicate (2 - 1) none : Oz.Env) = [some (.loc e), none] from rfl]
    rw [go_set (last_fr rfl h)]
    show (exs _ _ [some (.loc e), some (.loc l.1)] S).fin = _
    have hlt : decide (us.length < (awt f.core).length) = true := decide_eq_true (by rw [hlen]; exact (List.getElem?_eq_some_iff.mp ha).1)
    rw [exs_cons, ex_if, test_eq rfl h1.1 h6.1 h7, on_ok, hlt, if_pos rfl, then_nx_id]
    have eix : ev (pg.cal (D + 4)) (.ix (.fld (.v 1) "Frame" "awaited") (.bf .len (.cons (.fld (.v 1) "Frame" "known") .nil))) [some (.loc e), some (.loc l.1)] S = .ok a.eu S := by
      rw [ev_ix, fr_fld rfl h1.1 (by rfl), bind_ok, ev_bf, evs_cons, fr_fld rfl h1.1 (by rfl), bind_ok, evs_nil, bind_ok, bind_ok, len_loc h7, bind_ok, ix_loc h6.1, hlen, atI_nat_own (u := a.eu) (by rw [List.getElem?_map, ha]; rfl)]
    rw [go_ex (u := .non) (S1 := S')]
    · rfl
    · rw [meth_ev (C := C) (us := [a.eu, .loc sc, .non]) (S1 := S) rfl h.hev (by rfl) (by rw [evs_cons, eix, bind_ok, evs_cons, fr_fld rfl h1.1 (by rfl), bind_ok, evs_cons, ev_k, bind_ok, evs_nil, bind_ok, bind_ok, bind_ok]), en_begin]
      exact e1
/-- the last frame waits no more -/
theorem step_pop {f : Fm} {F : List Fm} {l : Nat × Nat} (hC : C.fr = f :: F) (h : CfOk S ms β e fl pl ca core val C (l :: ls)) (ha : (awt f.core).length ≤ f.known.length) :
    ∃ S1, CfOk S1 ms β e fl pl ca core val { C with fr := F } ls ∧ FrOk S1 ms β f l ∧ Nx S ms β S1 ms β ∧ (pg.cal (D + 1)).call "Evaluation.step" [.loc e] S = ((pg.cal D).call "Evaluation.go_on" [.loc e, .loc l.1] S1).bind fun _ S2 => .ok .non S2 := by
  have hfr := h.hfr
  rw [hC] at hfr
  cases hfr with
  | cons hf hF =>
    have hf0 := hf
    obtain ⟨sc, aw, us, kvs, h1, h2, h3, h4, h5, h6, h7, h8⟩ := hf
    have hlen : us.length = f.known.length := All2.len h8
    have hflm : fl ∈ ms := h.hms fl (by simp [muts])
    obtain ⟨n1, n2, n3, n4, n5⟩ := h.ne
    let S1 : Sto := S.set fl (.lst ((ls.map fun l => U.loc l.1).reverse))
    have nx : Nx S ms β S1 ms β := nx_set hflm
    have s1 : ∀ n, n ≠ fl → S1[n]? = S[n]? := fun n hn => List.getElem?_set_ne (Ne.symm hn)
    have hfll : fl < S.length := h.lts fl (by simp [muts])
    have hk : l.2 ≠ fl := (n4 l.2 (by simp)).2.1
    refine ⟨S1, ⟨?_, ?_, ?_, ?_, ?_, ?_, ?_, h.hca.mono nx, ?_⟩, hf0.mono nx (s1 _ hk), nx, ?_⟩
    · rw [s1 e n1]; exact h.hev
    · exact List.getElem?_set_self hfll
    · refine All2.imp hF fun g l' hl hg => hg.mono nx (s1 _ (n4 l'.2 ?_).2.1)
      simp only [List.map_cons, List.cons_append, List.mem_cons, List.mem_append]
      exact .inr (.inl (List.mem_map_of_mem hl))
    · obtain ⟨us, q1, q2⟩ := h.hpl
      exact ⟨us, by rw [s1 pl (Ne.symm n3)]; exact q1, All2.mapP q2 fun _ _ r => r.mono nx⟩
    · refine All2.imp h.hbs fun v n hn ⟨u, q1, q2⟩ => ⟨u, by rw [s1 n (n4 n (by simp [hn])).2.1]; exact q1, q2.mono nx⟩
    · have q := h.hnd
      unfold muts at q ⊢
      simp only [List.map_cons, List.cons_append, List.nodup_cons, List.mem_cons, not_or, List.mem_append] at q ⊢
      obtain ⟨⟨q1, q2, q3, q4, q5⟩, ⟨q6, q7, q8, q9⟩, ⟨q10, q11, q12⟩, ⟨q13, q14⟩, q15⟩ := q
      exact ⟨⟨q1, q2, q4, q5⟩, ⟨q6, q8, q9⟩, ⟨q11, q12⟩, q15⟩
    · intro n hn
      refine h.hms n ?_
      unfold muts at hn ⊢
      simp only [List.map_cons, List.cons_append, List.mem_cons, List.mem_append] at hn ⊢
      rcases hn with hn | hn | hn | hn | hn
      · exact .inl hn
      · exact .inr (.inl hn)
      · exact .inr (.inr (.inl hn))
      · exact .inr (.inr (.inr (.inr (.inl hn))))
      · exact .inr (.inr (.inr (.inr (.inr hn))))
    · intro n hn
      show n < (List.set _ _ _).length
      rw [List.length_set]
      exact h.hlt n hn
    · rw [call_eq (df := ⟨1, 2, false, T_Evaluation_step⟩) (by kernel_rfl), run_eq (by rfl), step_eq]
      rw [show ([U.loc e].map some ++ List.replicate (2 - 1) none : Oz.Env) = [some (.loc e), none] from rfl]
      rw [go_set (last_fr rfl h)]
      show (exs _ _ [some (.loc e), some (.loc l.1)] S).fin = _
      have hlt : decide (us.length < (awt f.core).length) = false := decide_eq_false (by omega)
      rw [exs_cons, ex_if, test_eq rfl h1.1 h6.1 h7, on_ok, hlt, if_neg Bool.false_ne_true, then_nx_id]
      have hfl' := h.hfl
      rw [List.map_cons, List.reverse_cons] at hfl'
      rw [go_ex (u := .loc l.1) (S1 := S1) (by rw [ev_bm, ev_self rfl h.hev (by rfl), bind_ok, ty_pop hfl', if_pos rfl, evs_nil, bind_ok, pop_ok hfl'])]
      have he1 : S1[e]? = some (evC ca pl fl C.calls core val) := by rw [s1 e n1]; exact h.hev
      rw [exs_cons, ex_ex, meth_ev (C := C) (us := [.loc l.1]) (S1 := S1) rfl he1 (by rfl) (by rw [evs_cons, ev_v' rfl, bind_ok, evs_nil, bind_ok]), en_go_on]
      cases (pg.cal D).call "Evaluation.go_on" [.loc e, .loc l.1] S1 <;> rfl
end Pr
end
section
set_option maxHeartbeats 4000000
namespace Pr
open PySem L2 Oz
variable {S S' S'' S0 : Sto} {d D : Nat} {ms ms' ms'' β β' β'' : List Nat} {e fl pl ca : Nat} {core val : U} {C : Cf} {ls : List (Nat × Nat)}
theorem tru_loc {n : Nat} {us : List U} (h : S[n]? = some (.lst us)) : truU (.loc n) S = some (!us.isEmpty) := by
  show (items? S (.loc n)).map _ = _
  simp only [items?, h, Option.map_some]
theorem give_some {g : Fm} {G : List Fm} {l : Nat × Nat} {v : Va} {u : U} (hC : C.fr = g :: G) (h : CfOk S ms β e fl pl ca core val C (l :: ls)) (hv : RV S ms β v u) (hz : g.known.length < 1000) :
    ∃ S', (pg.cal (D + 1)).call "Evaluation.give" [.loc e, u] S = .ok .non S' ∧ CfOk S' ms β e fl pl ca core val { C with fr := { g with known := g.known ++ [v] } :: G } (l :: ls) ∧ Nx S ms β S' ms β := by
  have hfr := h.hfr
  rw [hC] at hfr
  cases hfr with
  | cons hf hF =>
    obtain ⟨sc, aw, us, kvs, h1, h2, h3, h4, h5, h6, h7, h8⟩ := hf
    have hlen : us.length = g.known.length := All2.len h8
    obtain ⟨n1, n2, n3, n4, n5⟩ := h.ne
    have hkm : l.2 ∈ ms := h.hms l.2 (mem_kn List.mem_cons_self)
    have hkl : l.2 < S.length := h.hlt _ hkm
    have hk := n4 l.2 (by simp)
    let S1 : Sto := S.set l.2 (.lst (us ++ [u]))
    have nx : Nx S ms β S1 ms β := nx_set hkm
    have s1 : ∀ n, n ≠ l.2 → S1[n]? = S[n]? := fun n hn => List.getElem?_set_ne (Ne.symm hn)
    simp only [List.map_cons, List.cons_append, List.nodup_cons, List.mem_append, not_or] at n5
    have hfl := h.hfl
    rw [List.map_cons, List.reverse_cons] at hfl
    refine ⟨S1, ?_, ⟨by rw [s1 e (Ne.symm hk.1)]; exact h.hev, by rw [s1 fl (Ne.symm hk.2.1)]; exact h.hfl, .cons ?_ ?_, ?_, ?_, h.hnd, h.hms, h.hca.mono nx, ?_⟩, nx⟩
    · rw [call_eq (df := ⟨2, 2, false, T_Evaluation_give⟩) (by kernel_rfl), run_eq (by rfl)]
      unfold T_Evaluation_give
      rw [show ([U.loc e, u].map some ++ List.replicate (2 - 2) none : Oz.Env) = [some (.loc e), some u] from rfl]
      have hne : truU (.loc fl) S = some true := by rw [tru_loc hfl]; simp
      rw [exs_cons, ex_if, evt_e, ev_self rfl h.hev (by rfl), bind_ok, hne, rO_some, on_ok, if_pos rfl, then_nx_id, go_ex (u := .non) (S1 := S1)]
      · rfl
      · have ek : ev (pg.cal D) (.fld (.ix (.fld (.v 0) "Evaluation" "frames") (.neg (.k (.int 1)))) "Frame" "known") [some (.loc e), some u] S = .ok (.loc l.2) S := ev_fld' (S1 := S) (last_fr rfl h) h1.1 (by rfl)
        rw [ev_bm, ek, bind_ok, ty_app h7, if_pos rfl, evs_cons, ev_v' rfl, bind_ok, evs_nil, bind_ok, bind_ok, app_ok h7 (Nat.lt_of_le_of_lt (show us.length ≤ 1000 by omega) (by decide))]
    · exact ⟨sc, aw, us ++ [u], kvs, h1.mono nx, h2.mono nx, h3.mono nx, h4, h5, h6.mono nx, List.getElem?_set_self hkl, All2.snoc (All2.mapP h8 fun _ _ r => r.mono nx) (hv.mono nx)⟩
    · exact All2.imp hF fun g' l' hl hg => hg.mono nx (s1 _ fun z => n5.1.1 (z ▸ List.mem_map_of_mem hl))
    · obtain ⟨us, q1, q2⟩ := h.hpl
      exact ⟨us, by rw [s1 pl (Ne.symm hk.2.2)]; exact q1, All2.mapP q2 fun _ _ r => r.mono nx⟩
    · refine All2.imp h.hbs fun v n hn ⟨u, q1, q2⟩ => ⟨u, by rw [s1 n fun z => n5.1.2 (z ▸ hn)]; exact q1, q2.mono nx⟩
    · intro n hn
      show n < (List.set _ _ _).length
      rw [List.length_set]
      exact h.hlt n hn
theorem give_none {v : Va} {u : U} (hC : C.fr = []) (h : CfOk S ms β e fl pl ca core val C []) :
    ∃ S', (pg.cal (D + 1)).call "Evaluation.give" [.loc e, u] S = .ok .non S' ∧ CfOk S' ms β e fl pl ca core u C [] ∧ Nx S ms β S' ms β := by
  obtain ⟨n1, n2, n3, n4, n5⟩ := h.ne
  have hem : e ∈ ms := h.hms e (by simp [muts])
  have hel : e < S.length := h.hlt _ hem
  let S1 : Sto := S.set e (evC ca pl fl C.calls core u)
  have nx : Nx S ms β S1 ms β := nx_set hem
  have s1 : ∀ n, n ≠ e → S1[n]? = S[n]? := fun n hn => List.getElem?_set_ne (Ne.symm hn)
  refine ⟨S1, ?_, ⟨List.getElem?_set_self hel, by rw [s1 fl (Ne.symm n1)]; exact h.hfl, by rw [hC]; exact .nil, ?_, ?_, h.hnd, h.hms, h.hca.mono nx, ?_⟩, nx⟩
  · rw [call_eq (df := ⟨2, 2, false, T_Evaluation_give⟩) (by kernel_rfl), run_eq (by rfl)]
    unfold T_Evaluation_give
    rw [show ([U.loc e, u].map some ++ List.replicate (2 - 2) none : Oz.Env) = [some (.loc e), some u] from rfl]
    have hne : truU (.loc fl) S = some false := by rw [tru_loc h.hfl]; rfl
    rw [exs_cons, ex_if, evt_e, ev_self rfl h.hev (by rfl), bind_ok, hne, rO_some, on_ok, if_neg Bool.false_ne_true, then_nx_id]
    rw [go_fset (S1 := S) (S2 := S) (n := e) (u := u) (fs := [("casting", .loc ca), ("calls", .int C.calls), ("prints", .loc pl), ("core", core), ("frames", .loc fl), ("value", val)]) (ev_v' rfl) (ev_v' rfl) h.hev (by show 6 < 900; decide)]
    rfl
  · obtain ⟨us, q1, q2⟩ := h.hpl
    exact ⟨us, by rw [s1 pl (Ne.symm n2)]; exact q1, All2.mapP q2 fun _ _ r => r.mono nx⟩
  · refine All2.imp h.hbs fun v n hn ⟨u, q1, q2⟩ => ⟨u, by rw [s1 n (n4 n (by simp [hn])).1]; exact q1, q2.mono nx⟩
  · intro n hn
    show n < (List.set _ _ _).length
    rw [List.length_set]
    exact h.hlt n hn
noncomputable def G_cast : Sts := (.cons (.set false [6] (.meth (.fld (.v 0) "Evaluation" "casting") "Casts" "of_cast" (.cons (.v 2) (.cons (.v 3) (.cons (.v 4) .nil))))) (.cons (.ex (.meth (.v 0) "Evaluation" "begin" (.cons (.v 5) (.cons (.fld (.v 1) "Frame" "scope") (.cons (.meth (.fld (.v 0) "Evaluation" "casting") "Casts" "added" (.cons (.v 6) (.cons (.fld (.v 1) "Frame" "pending") .nil))) .nil))))) .nil))
noncomputable def G_let : Sts := (.cons (.ex (.meth (.v 0) "Evaluation" "begin" (.cons (.v 8) (.cons (.dm1 (.fld (.v 1) "Frame" "scope") (.v 7) (.ix (.fld (.v 1) "Frame" "known") (.k (.int 0)))) (.cons (.fld (.v 1) "Frame" "pending") .nil))))) .nil)
noncomputable def G_if : Sts := (.cons (.ex (.meth (.v 0) "Evaluation" "begin" (.cons (.ife (.e (.ix (.fld (.v 1) "Frame" "known") (.k (.int 0)))) (.v 9) (.v 10)) (.cons (.fld (.v 1) "Frame" "scope") (.cons (.fld (.v 1) "Frame" "pending") .nil))))) .nil)
noncomputable def G_print : Sts := (.cons (.ex (.bm .append (.fld (.v 0) "Evaluation" "prints") (.cons (.ix (.fld (.v 1) "Frame" "known") (.k (.int 0))) .nil))) (.cons (.ex (.meth (.v 0) "Evaluation" "begin" (.cons (.v 8) (.cons (.fld (.v 1) "Frame" "scope") (.cons (.fld (.v 1) "Frame" "pending") .nil))))) .nil))
noncomputable def G_call : Sts := (.cons (.ex (.meth (.v 0) "Evaluation" "call" (.cons (.ix (.fld (.v 1) "Frame" "known") (.k (.int 0))) (.cons (.ix (.fld (.v 1) "Frame" "known") (.k (.int 1))) (.cons (.fld (.v 1) "Frame" "pending") .nil))))) .nil)
noncomputable def G_rest : Sts := (.cons (.ex (.meth (.v 0) "Evaluation" "give" (.cons (.meth (.fld (.v 0) "Evaluation" "casting") "Casts" "settled" (.cons (.fld (.v 1) "Frame" "pending") (.cons (.meth (.v 0) "Evaluation" "value_of" (.cons (.v 1) .nil)) .nil))) .nil))) .nil)
noncomputable def G_cs : Cs := (.cons (.seq [.lit "cast", .cap 2, .cap 3, .cap 4, .cap 5]) G_cast (.cons (.seq [.lit "let", .cap 7, .wild, .cap 8]) G_let (.cons (.seq [.lit "if", .wild, .cap 9, .cap 10]) G_if (.cons (.seq [.lit "print", .wild, .cap 8]) G_print (.cons (.seq [.lit "call", .wild, .wild]) G_call (.cons .wild G_rest .nil))))))
theorem go_on_eq : T_Evaluation_go_on = .cons (.mtch (.fld (.v 1) "Frame" "core") G_cs) .nil := rfl
/-- the frame's form is looked at -/
theorem on_form {n sc aw kn : Nat} {t : Tx} {p : Pd} {env' : Oz.Env} {B : Sts} (h : S[n]? = some (fmC t sc p aw kn)) (hm : exc (pg.cal D) G_cs t.eu [some (.loc e), some (.loc n), none, none, none, none, none, none, none, none, none] S = exs (pg.cal D) B env' S) :
    (pg.cal (D + 1)).call "Evaluation.go_on" [.loc e, .loc n] S = (exs (pg.cal D) B env' S).fin := by
  rw [call_eq (df := ⟨2, 11, false, T_Evaluation_go_on⟩) (by kernel_rfl), run_eq (by rfl), go_on_eq]
  rw [show ([U.loc e, U.loc n].map some ++ List.replicate (11 - 2) none : Oz.Env) = [some (.loc e), some (.loc n), none, none, none, none, none, none, none, none, none] from rfl]
  congr 1
  refine go_last ?_
  rw [ex_mtch, fr_fld rfl h (by rfl), on_ok, hm]
theorem on_let {f : Fm} {l : Nat × Nat} {x : Str} {a b : Tx} {v : Va} (hf : FrOk S ms β f l) (hc : f.core = .lt x a b) (hk : f.known = [v]) (h : CfOk S ms β e fl pl ca core val C ls) (hz : C.fr.length < 1000000) (hl : f.env.length < 1000) :
    ∃ S' at' kn, (pg.cal (D + 5)).call "Evaluation.go_on" [.loc e, .loc l.1] S = .ok .non S' ∧ CfOk S' (kn :: ms) β e fl pl ca core val { C with fr := ⟨b, putA f.env x v, f.pend, []⟩ :: C.fr } ((at', kn) :: ls) ∧ Nx S ms β S' (kn :: ms) β := by
  obtain ⟨sc, aw, us, kvs, h1, h2, h3, h4, h5, h6, h7, h8⟩ := hf
  rw [hk] at h8
  cases h8 with
  | @cons _ u _ us' hu hn =>
  cases hn
  rw [hc] at h1
  obtain ⟨S1, e1, g1, q1⟩ := dm1_run (Φ := pg.cal (D + 4)) (env := [some (.loc e), some (.loc l.1), none, none, none, none, none, some (.str x), some b.eu, none, none]) (a := .fld (.v 1) "Frame" "scope") (k := .v 7) (v := .ix (.fld (.v 1) "Frame" "known") (.k (.int 0))) (x := x) (u := u) h2.1 (h3.nodup h4)
    (by rw [h3.length]; exact Nat.le_trans (show f.env.length + 15 ≤ 1100 by omega) (by decide)) (fun S' g => fr_fld rfl (g.at_ h1.1) (by rfl)) (fun S' g => rfl) (fun S' g => by rw [ev_ix, fr_fld rfl (g.at_ h1.1) (by rfl), bind_ok, ev_k, bind_ok, ix_loc (g.at_ h7)]; rfl)
  have c1 := h.gr g1
  have nx1 : Nx S ms β S1 ms β := nx_g g1
  have hsl : S.length ∉ ms := fun z => by have := h.hlt _ z; omega
  obtain ⟨S2, kn, e2, c2, x2⟩ := begin_eq (D := D) c1 b (env := putA f.env x v) f.pend (sc := S.length) (kvs := putKU kvs (.inr x) u) ⟨q1, hsl⟩ ((h3.mono nx1).put x (hu.mono nx1)) (nd_putA h4 x v) (by have := len_putA f.env x v; omega) hz
  refine ⟨S2, S1.length, kn, ?_, c2, nx1.trans x2⟩
  rw [on_form (env' := [some (.loc e), some (.loc l.1), none, none, none, none, none, some (.str x), some b.eu, none, none]) (B := G_let) h1.1 (by unfold G_cs; simp only [Tx.eu]; simp only [Oz.bind_ok, Oz.bind_exc, Oz.bind_bad, Oz.on_ok, Oz.on_exc, Oz.then_nx, Oz.then_ret, Oz.then_exc, Oz.then_bk, Oz.then_ct, Oz.turn_nx, Oz.turn_ret, Oz.turn_exc, Oz.fin_nx, Oz.fin_ret, Oz.fin_exc, Oz.rO_some, Oz.noex_ok, Oz.ev_v, Oz.ev_k, Oz.ev_tup, Oz.ev_lst, Oz.ev_bin, Oz.ev_neg, Oz.ev_cmp, Oz.ev_and, Oz.ev_or, Oz.ev_not, Oz.ev_ife, Oz.ev_ix, Oz.ev_sl, Oz.ev_call, Oz.ev_bf, Oz.ev_bm, Oz.ev_isi, Oz.evo_no, Oz.evo_so, Oz.evs_nil, Oz.evs_cons, Oz.evs_star, Oz.evt_tt, Oz.evt_e, Oz.evt_and, Oz.evt_or, Oz.evt_not, Oz.ex_mtch, Oz.exc_nil, Oz.exc_cons, Oz.pt_wild, Oz.pt_val, Oz.pt_seq, Oz.pi_nil, Oz.pi_lit, Oz.pi_cap, Oz.pi_wild, Oz.ev_kcall, Oz.ofS_inj, String.reduceEq, Nat.reduceEqDiff, Oz.ex_set, Oz.ex_sub, Oz.ex_aug, Oz.ex_ex, Oz.ex_ret, Oz.ex_if, Oz.exs_nil, Oz.exs_cons, Oz.tru_bl, Oz.tru_int, Oz.add_int, Oz.sub_int, Oz.aug_add_int, Oz.aug_sub_int, Oz.c_eq_int, Oz.c_ne_int, Oz.c_lt_int, Oz.c_le_int, Oz.c_gt_int, Oz.c_ge_int, Oz.c_eq_str, Oz.c_ne_str, Oz.set_int, List.replicate_succ, List.replicate_zero, List.getElem?_cons_zero, List.getElem?_cons_succ, List.set_cons_zero, List.set_cons_succ, List.map_cons, List.map_nil, List.cons_append, List.nil_append, List.append_nil, if_true, if_false, Bool.false_eq_true, Bool.true_eq_false, decide_eq_true_eq, true_and, and_true, Bool.not_true, Bool.not_false, List.length_cons, List.length_nil, Nat.zero_add, Nat.reduceAdd, true_and])]
  unfold G_let
  rw [go_ex (u := .non) (S1 := S2)]
  · rfl
  · have h11 := g1.at_ h1.1
    rw [meth_ev (C := C) (us := [b.eu, .loc S.length, peU f.pend]) (S1 := S1) rfl h.hev (by rfl) (by rw [evs_cons, ev_v' rfl, bind_ok, evs_cons, e1, bind_ok, evs_cons, fr_fld rfl h11 (by rfl), bind_ok, evs_nil, bind_ok, bind_ok, bind_ok]), en_begin]
    exact e2
end Pr
end
section
set_option maxHeartbeats 4000000
namespace Pr
open PySem L2 Oz
variable {S S' S'' S0 : Sto} {d D : Nat} {ms ms' ms'' β β' β'' : List Nat} {e fl pl ca : Nat} {core val : U} {C : Cf} {ls : List (Nat × Nat)}
theorem loop_stop {c : Oz.Env → Sto → R Bool} {f : Oz.Env → Sto → O} {env : Oz.Env} {S1 : Sto} {n : Nat} (hn : 0 < n) (h : c env S = .ok false S1) : loopI c f n env S = .nx env S1 := by
  obtain ⟨m, rfl⟩ : ∃ m, n = m + 1 := ⟨n - 1, by omega⟩
  rw [loopI, h, on_ok, if_neg Bool.false_ne_true]
theorem fuel_pos : 0 < fuel := by decide
theorem go_loop0 {Φ : Cal} {t : T} {s sts : Sts} {env : Oz.Env} (h : evt Φ t env S = .ok false S) : exs Φ (.cons (.while_ t s) sts) env S = exs Φ sts env S := by
  rw [exs_cons, ex_while, loop_stop fuel_pos h, then_nx]
theorem ev_isio {Φ : Cal} {env : Oz.Env} {a : E} {cs ds : List Str} {u : U} {k : Bool} (h : ev Φ a env S = .ok u S) (hk : isoU S u cs ds = some k) : evt Φ (.e (.isio a cs ds)) env S = .ok k S := by
  rw [evt_e]
  have : ev Φ (.isio a cs ds) env S = .ok (.bl k) S := by
    show (ev Φ a env S).bind _ = _
    rw [h, bind_ok]
    simp only [hk]
  rw [this, bind_ok, tru_bl, rO_some]
theorem ev_revl {Φ : Cal} {env : Oz.Env} {a : E} {n : Nat} {us : List U} (h : ev Φ a env S = .ok (.loc n) S) (hn : S[n]? = some (.lst us)) : ev Φ (.revl a) env S = .ok (.loc S.length) (S ++ [.lst us.reverse]) := by
  show (ev Φ a env S).bind _ = _
  rw [h, bind_ok]
  unfold revlU
  simp only [list?, hn]
noncomputable abbrev AllC : List Str := ["Box", "Elaborator", "Evaluation", "Frame", "Function", "Injected", "Part", "Wrapped"]
end Pr
end
section
set_option maxHeartbeats 4000000
namespace Pr
open PySem L2 Oz
variable {S S' S'' S0 : Sto} {d D : Nat} {ms ms' ms'' β β' β'' : List Nat} {e fl pl ca : Nat} {core val : U} {C : Cf} {ls : List (Nat × Nat)}
inductive Vp : Tx → List Va → List Va → Va → List Va → Prop
  | box {t : Tx} {v : Va} {bs : List Va} : Vp (.box t) [v] bs (.bx bs.length) (bs ++ [v])
noncomputable def O_cs : Cs := (.cons (.val "pair") (.cons (.ret (.tup (.cons (.ix (.v 2) (.k (.int 0))) (.cons (.ix (.v 2) (.k (.int 1))) .nil)))) .nil) (.cons (.val "fst") (.cons (.ret (.call "half" (.cons (.v 0) (.cons (.ix (.v 2) (.k (.int 0))) (.cons (.k (.int 0)) .nil))))) .nil) (.cons (.val "snd") (.cons (.ret (.call "half" (.cons (.v 0) (.cons (.ix (.v 2) (.k (.int 0))) (.cons (.k (.int 1)) .nil))))) .nil) (.cons (.val "box") (.cons (.ret (.mk "Box" (.cons (.ix (.v 2) (.k (.int 0))) .nil))) .nil) (.cons (.val "get") (.cons (.ret (.call "got" (.cons (.v 0) (.cons (.ix (.v 2) (.k (.int 0))) .nil)))) .nil) (.cons (.val "put") (.cons (.ret (.call "put" (.cons (.v 0) (.cons (.ix (.v 2) (.k (.int 0))) (.cons (.ix (.v 2) (.k (.int 1))) .nil))))) .nil) (.cons (.val "op") (.cons (.ret (.call "computed" (.cons (.ix (.v 1) (.k (.int 1))) (.cons (.ix (.v 2) (.k (.int 0))) (.cons (.ix (.v 2) (.k (.int 1))) .nil))))) .nil) (.cons (.val "not") (.cons (.ret (.not (.ix (.v 2) (.k (.int 0))))) .nil) .nil))))))))
theorem operated_eq : T_operated = .cons (.mtch (.ix (.v 1) (.k (.int 0))) O_cs) .nil := rfl
theorem opd {t : Tx} {c : U} {kn : Nat} {ex : E} {u : U} (hm : exc (pg.cal D) O_cs (.str t.hd) [some c, some t.eu, some (.loc kn)] S = exs (pg.cal D) (.cons (.ret ex) .nil) [some c, some t.eu, some (.loc kn)] S) (he : ev (pg.cal D) ex [some c, some t.eu, some (.loc kn)] S = .ok u S') :
    (pg.cal (D + 1)).call "operated" [c, t.eu, .loc kn] S = .ok u S' := by
  rw [call_eq (df := ⟨3, 3, false, T_operated⟩) (by kernel_rfl), run_eq (by rfl), operated_eq]
  rw [show ([c, t.eu, U.loc kn].map some ++ List.replicate (3 - 3) none : Oz.Env) = [some c, some t.eu, some (.loc kn)] from rfl]
  rw [go_last (o := .ret u S')]
  · rfl
  · rw [ex_mtch, ev_ix, ev_v' rfl, bind_ok, ev_k, bind_ok, ix_head, on_ok, hm, go_ret he]
theorem kn0 {Φ : Cal} {c t u : U} {kn : Nat} {us : List U} (h : S[kn]? = some (.lst (u :: us))) : ev Φ (.ix (.v 2) (.k (.int 0))) [some c, some t, some (.loc kn)] S = .ok u S := by
  rw [ev_ix, ev_v' rfl, bind_ok, ev_k, bind_ok, ix_loc h, show atI (u :: us) 0 = some u from atI_nat_own (n := 0) rfl]
theorem kn1 {Φ : Cal} {c t u w : U} {kn : Nat} {us : List U} (h : S[kn]? = some (.lst (u :: w :: us))) : ev Φ (.ix (.v 2) (.k (.int 1))) [some c, some t, some (.loc kn)] S = .ok w S := by
  rw [ev_ix, ev_v' rfl, bind_ok, ev_k, bind_ok, ix_loc h, show atI (u :: w :: us) 1 = some w from atI_nat_own (n := 1) rfl]
/-- a new box -/
theorem CfOk.newbox {v : Va} {u : U} (h : CfOk S ms β e fl pl ca core val C ls) (hv : RV S ms β v u) : CfOk (S ++ [.ins "Box" [("held", u)]]) (S.length :: ms) (β ++ [S.length]) e fl pl ca core val { C with bs := C.bs ++ [v] } ls ∧ Nx S ms β (S ++ [.ins "Box" [("held", u)]]) (S.length :: ms) (β ++ [S.length]) := by
  have g : Gr S (S ++ [Cel.ins "Box" [("held", u)]]) := ⟨by simp, fun k h => List.getElem?_append_left h⟩
  have nx : Nx S ms β (S ++ [.ins "Box" [("held", u)]]) (S.length :: ms) (β ++ [S.length]) := ⟨g.1, fun n h1 h2 => ⟨g.2 n h1, by simp only [List.mem_cons, not_or]; exact ⟨by omega, h2⟩⟩, [S.length], rfl⟩
  obtain ⟨us, q1, q2⟩ := h.hpl
  have hnm : ∀ n ∈ muts e fl pl ls β, n ≠ S.length := fun n hn z => by have := h.lts n hn; omega
  refine ⟨⟨g.at_ h.hev, g.at_ h.hfl, All2.imp h.hfr fun f l hl hf => hf.mono nx (g.2 _ (h.lts _ (mem_kn hl))), ⟨us, g.at_ q1, All2.mapP q2 fun _ _ r => r.mono nx⟩, ?_, ?_, ?_, h.hca.mono nx, ?_⟩, nx⟩
  · refine All2.snoc (All2.mapP h.hbs fun v n ⟨u, a, b⟩ => ⟨u, g.at_ a, b.mono nx⟩) ⟨u, last_get, hv.mono nx⟩
  · have e1 : muts e fl pl ls (β ++ [S.length]) = muts e fl pl ls β ++ [S.length] := by unfold muts; simp
    rw [e1, List.nodup_append]
    refine ⟨h.hnd, by simp, fun a ha b hb => ?_⟩
    rw [List.mem_singleton.mp hb]
    exact hnm a ha
  · intro n hn
    have e1 : muts e fl pl ls (β ++ [S.length]) = muts e fl pl ls β ++ [S.length] := by unfold muts; simp
    rw [e1] at hn
    rcases List.mem_append.mp hn with q | q
    · exact List.mem_cons_of_mem _ (h.hms n q)
    · rw [List.mem_singleton.mp q]; exact List.mem_cons_self
  · intro n hn
    rw [List.length_append]
    rcases List.mem_cons.mp hn with q | q
    · rw [q]; simp
    · have := h.hlt n q; omega
/-- a box is set -/
theorem CfOk.setbox {v : Va} {u : U} {k n : Nat} (h : CfOk S ms β e fl pl ca core val C ls) (hk : β[k]? = some n) (hv : RV S ms β v u) : CfOk (S.set n (.ins "Box" [("held", u)])) ms β e fl pl ca core val { C with bs := C.bs.set k v } ls ∧ Nx S ms β (S.set n (.ins "Box" [("held", u)])) ms β := by
  have hnb : n ∈ β := List.mem_of_getElem? hk
  have hnm : n ∈ ms := h.hms n (mem_bx hnb)
  have nx : Nx S ms β (S.set n (.ins "Box" [("held", u)])) ms β := nx_set hnm
  have s1 : ∀ m, m ≠ n → (S.set n (Cel.ins "Box" [("held", u)]))[m]? = S[m]? := fun m hm => List.getElem?_set_ne (Ne.symm hm)
  obtain ⟨n1, n2, n3, n4, n5⟩ := h.ne
  have nb := n4 n (List.mem_append_right _ hnb)
  obtain ⟨us, q1, q2⟩ := h.hpl
  rw [List.nodup_append] at n5
  have hnn : n < S.length := h.hlt n hnm
  refine ⟨⟨by rw [s1 e (Ne.symm nb.1)]; exact h.hev, by rw [s1 fl (Ne.symm nb.2.1)]; exact h.hfl, All2.imp h.hfr fun f l hl hf => hf.mono nx (s1 _ (n5.2.2 l.2 (List.mem_map_of_mem hl) n hnb)), ⟨us, by rw [s1 pl (Ne.symm nb.2.2)]; exact q1, All2.mapP q2 fun _ _ r => r.mono nx⟩, ?_, h.hnd, h.hms, h.hca.mono nx, fun m hm => by rw [List.length_set]; exact h.hlt m hm⟩, nx⟩
  have hall : All2 (fun v m => m = n ∨ ∃ u', (S.set n (Cel.ins "Box" [("held", u)]))[m]? = some (.ins "Box" [("held", u')]) ∧ RV (S.set n (.ins "Box" [("held", u)])) ms β v u') C.bs β := All2.mapP h.hbs fun v m ⟨u', a, b⟩ => by
    by_cases hm : m = n
    · exact .inl hm
    · exact .inr ⟨u', by rw [s1 m hm]; exact a, b.mono nx⟩
  have hself : (S.set n (Cel.ins "Box" [("held", u)]))[n]? = some (.ins "Box" [("held", u)]) := List.getElem?_set_self hnn
  have hnd := n5.2.1
  have key : ∀ (as : List Va) (bs : List Nat) (k : Nat), All2 (fun v m => m = n ∨ ∃ u', (S.set n (Cel.ins "Box" [("held", u)]))[m]? = some (.ins "Box" [("held", u')]) ∧ RV (S.set n (.ins "Box" [("held", u)])) ms β v u') as bs → bs.Nodup → bs[k]? = some n → All2 (fun v m => ∃ u', (S.set n (Cel.ins "Box" [("held", u)]))[m]? = some (.ins "Box" [("held", u')]) ∧ RV (S.set n (.ins "Box" [("held", u)])) ms β v u') (as.set k v) bs := by
    intro as bs k ha
    induction ha generalizing k with
    | nil => intro _ hb; simp at hb
    | @cons a b as bs q0 r ih =>
      intro hn hb
      rw [List.nodup_cons] at hn
      cases k with
      | zero =>
        simp at hb
        subst hb
        refine .cons ⟨u, hself, hv.mono nx⟩ (All2.imp r fun x y hy hxy => hxy.resolve_left fun z => hn.1 (z ▸ hy))
      | succ k =>
        have hb' : bs[k]? = some n := by simpa using hb
        refine .cons (q0.resolve_left fun z => hn.1 (z ▸ List.mem_of_getElem? hb')) (ih k hn.2 hb')
  exact key _ _ _ hall hnd hk
theorem mk_box {env : Oz.Env} {es : Es} {u : U} {S1 : Sto} (hes : evs (pg.cal (D + 2)) es env S = .ok [u] S1) : ev (pg.cal (D + 2)) (.mk "Box" es) env S = .ok (.loc S1.length) (S1 ++ [.ins "Box" [("held", u)]]) := by
  refine ev_mk' (d := D + 1) hes ?_
  have e : ("Box" ++ ".__init__" : Str) = "Box.__init__" := by decide +kernel
  rw [e, call_eq (df := ⟨2, 2, false, T_Box__init_⟩) (by kernel_rfl), run_eq (by rfl)]
  unfold T_Box__init_
  rw [go_fnew (ev_v' (by rfl)) rfl (by decide)]
  rfl
theorem operated_ok {t : Tx} {known bs' : List Va} {v : Va} {us : List U} {kn : Nat} (hp : Vp t known C.bs v bs') (h : CfOk S ms β e fl pl ca core val C ls) (hk : S[kn]? = some (.lst us)) (hu : All2 (RV S ms β) known us) :
    ∃ S' ms' β' u, (pg.cal (D + 4)).call "operated" [.loc ca, t.eu, .loc kn] S = .ok u S' ∧ CfOk S' ms' β' e fl pl ca core val { C with bs := bs' } ls ∧ Nx S ms β S' ms' β' ∧ RV S' ms' β' v u := by
  cases hp with
  | box =>
    cases hu with
    | cons ha hn =>
      cases hn
      obtain ⟨c1, x1⟩ := h.newbox ha
      exact ⟨_, _, _, _, opd (D := D + 3) rfl (mk_box (D := D + 1) (by rw [evs_cons, kn0 hk, bind_ok, evs_nil, bind_ok])), c1, x1, .bx (by rw [← All2.len h.hbs]; simp)⟩
inductive Vo (f : Fm) (bs : List Va) : Va → List Va → Prop
  | num {i : Int} : f.core = .num i → Vo f bs (.int i) bs
  | flag {k : Bool} : f.core = .flag k → Vo f bs (.bl k) bs
  | name {x : Str} {v : Va} : f.core = .name x → lkA f.env x = some v → Vo f bs v bs
  | fn {x : Str} {t : Ty} {b : Tx} : f.core = .fn x t b → Vo f bs (.fn none x b f.env) bs
  | op {v : Va} {bs' : List Va} : Vp f.core f.known bs v bs' → Vo f bs v bs'
noncomputable def V_cs : Cs := (.cons (.seq [.lit "num", .cap 2]) (.cons (.ret (.v 2)) .nil) (.cons (.seq [.lit "flag", .cap 3]) (.cons (.ret (.v 3)) .nil) (.cons (.seq [.lit "unit"]) (.cons (.ret (.k .non)) .nil) (.cons (.seq [.lit "name", .cap 4]) (.cons (.ret (.dat (.fld (.v 1) "Frame" "scope") (.v 4))) .nil) (.cons (.seq [.lit "fun", .cap 4, .wild, .cap 5]) (.cons (.ret (.mk "Function" (.cons (.k .non) (.cons (.v 4) (.cons (.v 5) (.cons (.fld (.v 1) "Frame" "scope") .nil)))))) .nil) (.cons (.seq [.lit "rec", .cap 6, .cap 4, .wild, .wild, .cap 5]) (.cons (.ret (.mk "Function" (.cons (.v 6) (.cons (.v 4) (.cons (.v 5) (.cons (.fld (.v 1) "Frame" "scope") .nil)))))) .nil) (.cons .wild (.cons (.ret (.call "operated" (.cons (.fld (.v 0) "Evaluation" "casting") (.cons (.fld (.v 1) "Frame" "core") (.cons (.fld (.v 1) "Frame" "known") .nil))))) .nil) .nil)))))))
theorem value_of_eq : T_Evaluation_value_of = .cons (.mtch (.fld (.v 1) "Frame" "core") V_cs) .nil := rfl
theorem val_form {n sc aw kn : Nat} {t : Tx} {p : Pd} {env' : Oz.Env} {ex : E} {u : U} (h : S[n]? = some (fmC t sc p aw kn)) (hm : exc (pg.cal D) V_cs t.eu [some (.loc e), some (.loc n), none, none, none, none, none] S = exs (pg.cal D) (.cons (.ret ex) .nil) env' S) (he : ev (pg.cal D) ex env' S = .ok u S') :
    (pg.cal (D + 1)).call "Evaluation.value_of" [.loc e, .loc n] S = .ok u S' := by
  rw [call_eq (df := ⟨2, 7, false, T_Evaluation_value_of⟩) (by kernel_rfl), run_eq (by rfl), value_of_eq]
  rw [show ([U.loc e, U.loc n].map some ++ List.replicate (7 - 2) none : Oz.Env) = [some (.loc e), some (.loc n), none, none, none, none, none] from rfl]
  rw [go_last (o := .ret u S')]
  · rfl
  · rw [ex_mtch, fr_fld rfl h (by rfl), on_ok, hm, go_ret he]
theorem mk_fun {env : Oz.Env} {es : Es} {a b c k : U} {S1 : Sto} (hes : evs (pg.cal (D + 2)) es env S = .ok [a, b, c, k] S1) : ev (pg.cal (D + 2)) (.mk "Function" es) env S = .ok (.loc S1.length) (S1 ++ [.ins "Function" [("own", a), ("name", b), ("body", c), ("scope", k)]]) := by
  refine ev_mk' (d := D + 1) hes ?_
  have e : ("Function" ++ ".__init__" : Str) = "Function.__init__" := by decide +kernel
  rw [e, call_eq (df := ⟨5, 5, false, T_Function__init_⟩) (by kernel_rfl), run_eq (by rfl)]
  unfold T_Function__init_
  rw [go_fnew (ev_v' (by rfl)) rfl (by decide), go_fnew (ev_v' (by rfl)) rfl (by show 1 < 900; decide), go_fnew (ev_v' (by rfl)) rfl (by show 2 < 900; decide), go_fnew (ev_v' (by rfl)) rfl (by show 3 < 900; decide)]
  rfl
theorem rest_val {t : Tx} {known bs bs' : List Va} {v : Va} {e' n : U} (h : Vp t known bs v bs') : exc (pg.cal D) V_cs t.eu [some e', some n, none, none, none, none, none] S = exs (pg.cal D) (.cons (.ret (.call "operated" (.cons (.fld (.v 0) "Evaluation" "casting") (.cons (.fld (.v 1) "Frame" "core") (.cons (.fld (.v 1) "Frame" "known") .nil))))) .nil) [some e', some n, none, none, none, none, none] S := by
  cases h <;> rfl
theorem ev_dat' {Φ : Cal} {env : Oz.Env} {a k : E} {m : Nat} {x : Str} {u : U} {kvs : List (Key × U)} (ha : ev Φ a env S = .ok (.loc m) S) (hk : ev Φ k env S = .ok (.str x) S) (hm : S[m]? = some (.dic kvs)) (hv : valU kvs (.inr x) = some u) : ev Φ (.dat a k) env S = .ok u S := by
  show (ev Φ a env S).bind _ = _
  rw [ha, bind_ok, hk, bind_ok]
  unfold datU
  simp only [keyU, hm, hv, rO_some]
theorem value_ok {f : Fm} {l : Nat × Nat} {v : Va} {bs' : List Va} (hv : Vo f C.bs v bs') (hf : FrOk S ms β f l) (h : CfOk S ms β e fl pl ca core val C ls) :
    ∃ S' ms' β' u, (pg.cal (D + 5)).call "Evaluation.value_of" [.loc e, .loc l.1] S = .ok u S' ∧ CfOk S' ms' β' e fl pl ca core val { C with bs := bs' } ls ∧ Nx S ms β S' ms' β' ∧ RV S' ms' β' v u := by
  obtain ⟨sc, aw, us, kvs, h1, h2, h3, h4, h5, h6, h7, h8⟩ := hf
  have hfr := h1.1
  have hnl : S.length ∉ ms := fun z => by have := h.hlt _ z; omega
  have gF : ∀ c : Cel, Gr S (S ++ [c]) := fun c => ⟨by simp, fun k h => List.getElem?_append_left h⟩
  have fnc : ∀ (o : Option Str) (x : Str) (b : Tx), RV (S ++ [.ins "Function" [("own", owU o), ("name", .str x), ("body", b.eu), ("scope", .loc sc)]]) ms β (.fn o x b f.env) (.loc S.length) := fun o x b =>
    .fn ⟨last_get, hnl⟩ (h2.mono (nx_g (β := β) (gF _))) (h3.mono (nx_g (gF _))) h4
  cases hv with
  | num hc =>
    rw [hc] at hfr
    exact ⟨S, ms, β, _, val_form (D := D + 4) hfr rfl (ev_v' rfl), h, Nx.refl, .int⟩
  | @flag k hc =>
    rw [hc] at hfr
    exact ⟨S, ms, β, .bl k, val_form (D := D + 4) (ex := .v 3) (env' := [some (.loc e), some (.loc l.1), none, some (.bl k), none, none, none]) hfr rfl (ev_v' rfl), h, Nx.refl, .bl⟩
  | name hc hx =>
    rw [hc] at hfr
    obtain ⟨u, k1, k2⟩ := h3.look hx
    exact ⟨S, ms, β, u, val_form (D := D + 4) (ex := .dat (.fld (.v 1) "Frame" "scope") (.v 4)) hfr rfl (ev_dat' (fr_fld rfl hfr (by rfl)) (ev_v' rfl) h2.1 k1), h, Nx.refl, k2⟩
  | @fn x t b hc =>
    rw [hc] at hfr
    exact ⟨_, ms, β, _, val_form (D := D + 4) hfr rfl (mk_fun (D := D + 2) (by rw [evs_cons, ev_k, bind_ok, evs_cons, ev_v' rfl, bind_ok, evs_cons, ev_v' rfl, bind_ok, evs_cons, fr_fld rfl hfr (by rfl), bind_ok, evs_nil, bind_ok, bind_ok, bind_ok, bind_ok]; rfl)), h.gr (gF _), nx_g (gF _), fnc none x b⟩
  | op hp =>
    obtain ⟨S1, ms1, β1, u, e1, c1, x1, r1⟩ := operated_ok (D := D) hp h h7 h8
    exact ⟨S1, ms1, β1, u, val_form (D := D + 4) hfr (rest_val hp) (by rw [ev_call, evs_cons, ev_self rfl h.hev (by rfl), bind_ok, evs_cons, fr_fld rfl hfr (by rfl), bind_ok, evs_cons, fr_fld rfl hfr (by rfl), bind_ok, evs_nil, bind_ok, bind_ok, bind_ok, bind_ok]; exact e1), c1, x1, r1⟩
theorem settled0 {c u : U} : (pg.cal (D + 1)).call "Casts.settled" [c, .non, u] S = .ok u S := by
  rw [call_eq (df := ⟨3, 4, false, T_Casts_settled⟩) (by kernel_rfl), run_eq (by rfl)]
  unfold T_Casts_settled
  rw [show ([c, U.non, u].map some ++ List.replicate (4 - 3) none : Oz.Env) = [some c, some .non, some u, none] from rfl]
  rw [go_loop0 (by rw [evt_e, ev_cmp, ev_v' rfl, bind_ok, ev_k, bind_ok]; rfl), go_ret (ev_v' rfl)]
  rfl
theorem meth_ca {Φ : Cal} {env : Oz.Env} {us : List U} {S1 : Sto} {es : Es} {m : Str} (hv : env[0]? = some (some (.loc e))) (h : CfOk S ms β e fl pl ca core val C ls) (hes : evs Φ es env S = .ok us S1) :
    ev Φ (.meth (.fld (.v 0) "Evaluation" "casting") "Casts" m es) env S = Φ.call ("Casts" ++ "." ++ m) (.loc ca :: us) S1 := by
  rw [ev_meth, ev_self hv h.hev (by rfl), bind_ok]
  simp only [h.hca.1]
  rw [if_pos ⟨trivial, rfl⟩, hes, bind_ok]
/-- forms that go on with a value -/
noncomputable def rst : Tx → Bool
  | .cast _ _ _ _ => false | .lt _ _ _ => false | .call _ _ => false | .as _ _ => false | _ => true
theorem rest_on {t : Tx} {e' n : U} (h : rst t = true) : exc (pg.cal D) G_cs t.eu [some e', some n, none, none, none, none, none, none, none, none, none] S = exs (pg.cal D) G_rest [some e', some n, none, none, none, none, none, none, none, none, none] S := by
  cases t <;> first | (exact absurd h Bool.false_ne_true) | rfl
theorem Vo.rst {f : Fm} {bs bs' : List Va} {v : Va} (h : Vo f bs v bs') : rst f.core = true := by
  cases h <;> first | (rename_i hc; rw [hc]; rfl) | (rename_i hc _; rw [hc]; rfl) | skip
  rename_i hp
  generalize f.core = t at hp
  generalize f.known = k at hp
  cases hp <;> rfl
theorem on_rest_some {f g : Fm} {G : List Fm} {l l' : Nat × Nat} {v : Va} {bs' : List Va} (hv : Vo f C.bs v bs') (hp : f.pend = []) (hf : FrOk S ms β f l) (hC : C.fr = g :: G) (h : CfOk S ms β e fl pl ca core val C (l' :: ls)) (hz : g.known.length < 1000) :
    ∃ S' ms' β', (pg.cal (D + 7)).call "Evaluation.go_on" [.loc e, .loc l.1] S = .ok .non S' ∧ CfOk S' ms' β' e fl pl ca core val { C with fr := { g with known := g.known ++ [v] } :: G, bs := bs' } (l' :: ls) ∧ Nx S ms β S' ms' β' := by
  obtain ⟨S1, ms1, β1, u, e1, c1, x1, r1⟩ := value_ok (D := D + 1) hv hf h
  obtain ⟨S2, e2, c2, x2⟩ := give_some (D := D + 5) (C := { C with bs := bs' }) hC c1 r1 hz
  refine ⟨S2, ms1, β1, ?_, c2, x1.trans x2⟩
  obtain ⟨sc, aw, us, kvs, h1, h2, h3, h4, h5, h6, h7, h8⟩ := hf
  rw [on_form (D := D + 6) h1.1 (rest_on hv.rst)]
  unfold G_rest
  rw [go_ex (u := .non) (S1 := S2)]
  · rfl
  · rw [hp] at h1
    have ev1 : ev (pg.cal (D + 6)) (.meth (.v 0) "Evaluation" "value_of" (.cons (.v 1) .nil)) [some (.loc e), some (.loc l.1), none, none, none, none, none, none, none, none, none] S = .ok u S1 := by
      rw [meth_ev (C := C) (us := [.loc l.1]) (S1 := S) rfl h.hev (by rfl) (by rw [evs_cons, ev_v' rfl, bind_ok, evs_nil, bind_ok]), en_value_of]
      exact e1
    have ev2 : ev (pg.cal (D + 6)) (.meth (.fld (.v 0) "Evaluation" "casting") "Casts" "settled" (.cons (.fld (.v 1) "Frame" "pending") (.cons (.meth (.v 0) "Evaluation" "value_of" (.cons (.v 1) .nil)) .nil))) [some (.loc e), some (.loc l.1), none, none, none, none, none, none, none, none, none] S = .ok u S1 := by
      rw [meth_ca (us := [.non, u]) (S1 := S1) rfl h (by rw [evs_cons, fr_fld rfl h1.1 (by rfl), bind_ok, evs_cons, ev1, bind_ok, evs_nil, bind_ok, bind_ok]; rfl), en_settled]
      exact settled0
    rw [meth_ev (C := C) (us := [u]) (S1 := S1) rfl h.hev (by rfl) (by rw [evs_cons, ev2, bind_ok, evs_nil, bind_ok]), en_give]
    exact e2
theorem on_rest_none {f : Fm} {l : Nat × Nat} {v : Va} {bs' : List Va} (hv : Vo f C.bs v bs') (hp : f.pend = []) (hf : FrOk S ms β f l) (hC : C.fr = []) (h : CfOk S ms β e fl pl ca core val C []) :
    ∃ S' ms' β' u, (pg.cal (D + 7)).call "Evaluation.go_on" [.loc e, .loc l.1] S = .ok .non S' ∧ CfOk S' ms' β' e fl pl ca core u { C with bs := bs' } [] ∧ Nx S ms β S' ms' β' ∧ RV S' ms' β' v u := by
  obtain ⟨S1, ms1, β1, u, e1, c1, x1, r1⟩ := value_ok (D := D + 1) hv hf h
  obtain ⟨S2, e2, c2, x2⟩ := give_none (D := D + 5) (C := { C with bs := bs' }) (v := v) (u := u) hC c1
  refine ⟨S2, ms1, β1, u, ?_, c2, x1.trans x2, r1.mono x2⟩
  obtain ⟨sc, aw, us, kvs, h1, h2, h3, h4, h5, h6, h7, h8⟩ := hf
  rw [on_form (D := D + 6) h1.1 (rest_on hv.rst)]
  unfold G_rest
  rw [go_ex (u := .non) (S1 := S2)]
  · rfl
  · rw [hp] at h1
    have ev1 : ev (pg.cal (D + 6)) (.meth (.v 0) "Evaluation" "value_of" (.cons (.v 1) .nil)) [some (.loc e), some (.loc l.1), none, none, none, none, none, none, none, none, none] S = .ok u S1 := by
      rw [meth_ev (C := C) (us := [.loc l.1]) (S1 := S) rfl h.hev (by rfl) (by rw [evs_cons, ev_v' rfl, bind_ok, evs_nil, bind_ok]), en_value_of]
      exact e1
    have ev2 : ev (pg.cal (D + 6)) (.meth (.fld (.v 0) "Evaluation" "casting") "Casts" "settled" (.cons (.fld (.v 1) "Frame" "pending") (.cons (.meth (.v 0) "Evaluation" "value_of" (.cons (.v 1) .nil)) .nil))) [some (.loc e), some (.loc l.1), none, none, none, none, none, none, none, none, none] S = .ok u S1 := by
      rw [meth_ca (us := [.non, u]) (S1 := S1) rfl h (by rw [evs_cons, fr_fld rfl h1.1 (by rfl), bind_ok, evs_cons, ev1, bind_ok, evs_nil, bind_ok, bind_ok]; rfl), en_settled]
      exact settled0
    rw [meth_ev (C := C) (us := [u]) (S1 := S1) rfl h.hev (by rfl) (by rw [evs_cons, ev2, bind_ok, evs_nil, bind_ok]), en_give]
    exact e2
end Pr
end
section
set_option maxHeartbeats 4000000
namespace Pr
open PySem L2 Oz
variable {S S' S'' S0 : Sto} {d D : Nat} {ms ms' ms'' β β' β'' : List Nat} {e fl pl ca : Nat} {core val : U} {C C' C'' : Cf} {ls : List (Nat × Nat)}
noncomputable def dlv (v : Va) : List Fm → List Fm
  | [] => []
  | g :: G => { g with known := g.known ++ [v] } :: G
noncomputable def dov (v : Va) : List Fm → Option Va
  | [] => some v
  | _ => none
inductive Stp : Cf → Cf → Option Va → Prop
  | push {f : Fm} {F : List Fm} {a : Tx} {pr bs : List Va} {cs : Int} : (awt f.core)[f.known.length]? = some a → F.length < 900000 → Stp ⟨f :: F, pr, cs, bs⟩ ⟨⟨a, f.env, [], []⟩ :: f :: F, pr, cs, bs⟩ none
  | lt {x : Str} {a b : Tx} {env : En} {p : Pd} {v : Va} {G : List Fm} {pr bs : List Va} {cs : Int} : G.length < 900000 → env.length < 1000 → Stp ⟨⟨.lt x a b, env, p, [v]⟩ :: G, pr, cs, bs⟩ ⟨⟨b, putA env x v, p, []⟩ :: G, pr, cs, bs⟩ none
  | val {f : Fm} {G : List Fm} {v : Va} {pr bs bs' : List Va} {cs : Int} : Vo f bs v bs' → f.pend = [] → (awt f.core).length ≤ f.known.length → (∀ g G', G = g :: G' → g.known.length < 1000) → Stp ⟨f :: G, pr, cs, bs⟩ ⟨dlv v G, pr, cs, bs'⟩ (dov v G)
noncomputable def Cst (S0 : Sto) (e fl pl ca : Nat) (core : U) (ov : Option Va) (C : Cf) (S : Sto) : Prop := ∃ ms β val ls, CfOk S ms β e fl pl ca core val C ls ∧ Nx S0 [] [] S ms β ∧ ∀ v, ov = some v → RV S ms β v val
theorem CfOk.ls_cons {f : Fm} {F : List Fm} (h : CfOk S ms β e fl pl ca core val C ls) (hC : C.fr = f :: F) : ∃ l ls', ls = l :: ls' := by
  have := h.hfr
  rw [hC] at this
  cases this with
  | cons _ _ => exact ⟨_, _, rfl⟩
theorem CfOk.ls_nil (h : CfOk S ms β e fl pl ca core val C ls) (hC : C.fr = []) : ls = [] := by
  have := h.hfr
  rw [hC] at this
  cases this
  rfl
theorem step_ok {ov ov' : Option Va} (hs : Stp C C' ov') (h : Cst S0 e fl pl ca core ov C S) : ∃ S', (pg.cal (D + 8)).call "Evaluation.step" [.loc e] S = .ok .non S' ∧ Cst S0 e fl pl ca core ov' C' S' := by
  obtain ⟨ms, β, val, ls, h, x, hov⟩ := h
  cases hs with
  | @push f F a pr bs cs ha hz =>
    obtain ⟨l, ls', rfl⟩ := h.ls_cons rfl
    obtain ⟨S', kn, e1, c1, x1⟩ := step_push (D := D + 3) rfl h ha (by show F.length + 1 < 1000000; omega)
    exact ⟨S', e1, _, _, _, _, c1, x.trans x1, fun v z => nomatch z⟩
  | lt hz hl =>
    obtain ⟨l, ls', rfl⟩ := h.ls_cons rfl
    obtain ⟨S1, c1, f1, x1, e1⟩ := step_pop (D := D + 7) rfl h (by show 1 ≤ 1; exact Nat.le_refl _)
    obtain ⟨S2, at', kn, e2, c2, x2⟩ := on_let (D := D + 2) f1 rfl rfl c1 (Nat.lt_trans hz (by decide)) hl
    rw [e2, bind_ok] at e1
    exact ⟨S2, e1, _, _, _, _, c2, (x.trans x1).trans x2, fun v z => nomatch z⟩
  | @val f G v pr bs bs' cs hv hp ha hg =>
    obtain ⟨l, ls', rfl⟩ := h.ls_cons rfl
    obtain ⟨S1, c1, f1, x1, e1⟩ := step_pop (D := D + 7) rfl h ha
    cases G with
    | nil =>
      have hn := c1.ls_nil rfl
      subst hn
      obtain ⟨S2, ms2, β2, u, e2, c2, x2, r2⟩ := on_rest_none (D := D) hv hp f1 rfl c1
      rw [e2, bind_ok] at e1
      exact ⟨S2, e1, _, _, _, _, c2, (x.trans x1).trans x2, fun v' z => by cases z; exact r2⟩
    | cons g G =>
      obtain ⟨l', ls'', rfl⟩ := c1.ls_cons rfl
      obtain ⟨S2, ms2, β2, e2, c2, x2⟩ := on_rest_some (D := D) hv hp f1 rfl c1 (hg g G rfl)
      rw [e2, bind_ok] at e1
      exact ⟨S2, e1, _, _, _, _, c2, (x.trans x1).trans x2, fun v z => nomatch z⟩
noncomputable def cndL (Φ : Cal) : Oz.Env → Sto → R Bool := fun env S => evt Φ (.e (.fld (.v 0) "Evaluation" "frames")) env S
noncomputable def bodL (Φ : Cal) : Oz.Env → Sto → O := fun env S => exs Φ (.cons (.ex (.meth (.v 0) "Evaluation" "step" .nil)) .nil) env S
end Pr
end
section
set_option maxHeartbeats 4000000
namespace Pr
open PySem L2 Oz
variable {S S' S'' S0 : Sto} {d D : Nat} {ms ms' ms'' β β' β'' : List Nat} {e fl pl ca : Nat} {core val : U} {C C' C'' : Cf} {ls : List (Nat × Nat)}
theorem meth_at {Φ : Cal} {env : Oz.Env} {a : E} {C m : Str} {es : Es} {n : Nat} {fs : List (Str × U)} {us : List U} {S1 S2 : Sto} (ha : ev Φ a env S = .ok (.loc n) S1) (hn : S1[n]? = some (.ins C fs)) (hm : fs.lookup m = none) (hes : evs Φ es env S1 = .ok us S2) : ev Φ (.meth a C m es) env S = Φ.call (C ++ "." ++ m) (.loc n :: us) S2 := by
  rw [ev_meth, ha, bind_ok]
  simp only [hn]
  rw [if_pos ⟨trivial, hm⟩, hes, bind_ok]
theorem set_mid {S1 r : Sto} {c c' : Cel} : (S1 ++ c :: r).set S1.length c' = S1 ++ c' :: r := by simp
theorem get_mid {S1 r : Sto} {c : Cel} : (S1 ++ c :: r)[S1.length]? = some c := by simp
/-- a field of the object that stands there is set -/
theorem go_fmid {Φ : Cal} {env : Oz.Env} {e : E} {C f : Str} {sts : Sts} {u : U} {fs : List (Str × U)} {S1 r r' : Sto} (he : ev Φ e env (S1 ++ Cel.ins C fs :: r) = .ok u (S1 ++ Cel.ins C fs :: r')) (h0 : env[0]? = some (some (.loc S1.length))) (hz : fs.length < 900) : exs Φ (.cons (.fset (.v 0) C f e) sts) env (S1 ++ Cel.ins C fs :: r) = exs Φ sts env (S1 ++ Cel.ins C (putU f u fs) :: r') := by
  rw [go_fset he (ev_v' h0) get_mid hz, set_mid]
theorem new_lst {Φ : Cal} {env : Oz.Env} {c : Cel} {S1 r : Sto} {n : Nat} (hn : r.length = n) : ev Φ (.lst .nil) env (S1 ++ c :: r) = .ok (.loc (S1.length + n + 1)) (S1 ++ c :: (r ++ [Cel.lst []])) := by
  rw [ev_lst, evs_nil, bind_ok, if_pos (by show 0 ≤ sizeLine; decide)]
  simp [hn, Nat.add_assoc]
theorem mk_eval {env : Oz.Env} {es : Es} {cu : U} {calls : Int} {S1 : Sto} {ca : Nat} (hes : evs (pg.cal (D + 3)) es env S = .ok [.loc ca, cu, .int calls] S1) : ev (pg.cal (D + 3)) (.mk "Evaluation" es) env S = .ok (.loc S1.length) (S1 ++ [evC ca (S1.length + 1) (S1.length + 2) calls cu .non, .lst [], .lst []]) := by
  refine ev_mk' (d := D + 2) hes ?_
  have en : ("Evaluation" ++ ".__init__" : Str) = "Evaluation.__init__" := by decide +kernel
  rw [en, call_eq (df := ⟨4, 5, false, T_Evaluation__init_⟩) (by kernel_rfl), run_eq (by rfl)]
  unfold T_Evaluation__init_
  rw [show ([U.loc S1.length, .loc ca, cu, .int calls].map some ++ List.replicate (5 - 4) none : Oz.Env) = [some (.loc S1.length), some (.loc ca), some cu, some (.int calls), none] from rfl]
  have es1 : (pg.cal (D + 1)).call "Evaluation^Run.__init__" [.loc S1.length, .loc ca, .int calls] (S1 ++ [.ins "Evaluation" []]) = .ok .non (S1 ++ [.ins "Evaluation" [("casting", .loc ca), ("calls", .int calls), ("prints", .loc (S1.length + 1))], .lst []]) := by
    rw [call_eq (df := ⟨3, 3, false, T_Evaluation_of_Run__init_⟩) (by kernel_rfl), run_eq (by rfl)]
    unfold T_Evaluation_of_Run__init_
    rw [show ([U.loc S1.length, .loc ca, .int calls].map some ++ List.replicate (3 - 3) none : Oz.Env) = [some (.loc S1.length), some (.loc ca), some (.int calls)] from rfl]
    rw [go_fmid (ev_v' (by rfl)) rfl (by decide), go_fmid (ev_v' (by rfl)) rfl (by show 1 < 900; decide), go_fmid (new_lst rfl) rfl (by show 2 < 900; decide)]
    rfl
  rw [exs_cons]
  have hsup : ex (pg.cal (D + 1)) (.sup 0 "Evaluation" "Evaluation^Run.__init__" (.cons (.v 1) (.cons (.v 3) .nil))) [some (.loc S1.length), some (.loc ca), some cu, some (.int calls), none] (S1 ++ [.ins "Evaluation" []]) = .nx [some (.loc S1.length), some (.loc ca), some cu, some (.int calls), none] (S1 ++ [.ins "Evaluation" [("casting", .loc ca), ("calls", .int calls), ("prints", .loc (S1.length + 1))], .lst []]) := by
    rw [ex]
    simp only [List.getElem?_cons_zero, last_get, if_true]
    rw [evs_cons, ev_v' rfl, bind_ok, evs_cons, ev_v' rfl, bind_ok, evs_nil, bind_ok, bind_ok, on_ok, es1, on_ok]
  rw [hsup, then_nx]
  rw [go_fmid (ev_v' (by rfl)) rfl (by show 3 < 900; decide), go_fmid (new_lst (n := 1) rfl) rfl (by show 4 < 900; decide), go_fmid (u := .non) rfl rfl (by show 5 < 900; decide)]
  rfl
theorem last_value_eq : T_Evaluation_last_value = .cons (.ex (.meth (.v 0) "Evaluation" "begin" (.cons (.fld (.v 0) "Evaluation" "core") (.cons .dnew (.cons (.k .non) .nil))))) (.cons (.while_ (.e (.fld (.v 0) "Evaluation" "frames")) (.cons (.ex (.meth (.v 0) "Evaluation" "step" .nil)) .nil)) (.cons (.ret (.fld (.v 0) "Evaluation" "value")) .nil)) := rfl
theorem en_last : ("Evaluation" ++ "." ++ "last_value" : Str) = "Evaluation.last_value" := by decide +kernel
theorem en_outcome : ("Evaluation" ++ "." ++ "outcome" : Str) = "Evaluation.outcome" := by decide +kernel
/-- what is shown of a value -/
noncomputable def shp : Va → Option U
  | .int i => some (.tup [.str "int", .int i])
  | .bl k => some (.tup [.str "bool", .bl k])
  | _ => none
end Pr
end
section
set_option maxHeartbeats 4000000
namespace Pr
open PySem L2 Oz
variable {S S' S'' S0 : Sto} {d D : Nat} {ms ms' ms'' β β' β'' : List Nat} {e fl pl ca : Nat} {core val : U} {C : Cf} {ls : List (Nat × Nat)}
noncomputable abbrev Bl := Int × Int
noncomputable def mk0 (b : By) (v : Va) : Va := if b.1.pt = [] then v else .wr v b
noncomputable def md (b : By) (v : Va) : Option (Va ⊕ Bl) :=
  if b.1 = .any then
    if b.2.1 = .any then some (.inl v)
    else match v with
      | .inj w g => if g = b.2.1.hd then (match gTy g with | some t => some (.inl (mk0 (t, b.2.1, b.2.2.1, b.2.2.2) w)) | none => none) else some (.inr (b.2.2.1, b.2.2.2))
      | _ => none
  else if b.2.1 = .any then (match gTy b.1.hd with | some t => some (.inl (.inj (mk0 (b.1, t, b.2.2.1, b.2.2.2) v) b.1.hd)) | none => none)
  else some (.inl (mk0 b v))
theorem gr_push {c : Cel} : Gr S (S ++ [c]) := Gr.push
theorem mk_wr {env : Oz.Env} {es : Es} {a b : U} {S1 : Sto} (hes : evs (pg.cal (D + 2)) es env S = .ok [a, b] S1) : ev (pg.cal (D + 2)) (.mk "Wrapped" es) env S = .ok (.loc S1.length) (S1 ++ [.ins "Wrapped" [("inside", a), ("by", b)]]) := by
  refine ev_mk' (d := D + 1) hes ?_
  have e : ("Wrapped" ++ ".__init__" : Str) = "Wrapped.__init__" := by decide +kernel
  rw [e, call_eq (df := ⟨3, 3, false, T_Wrapped__init_⟩) (by kernel_rfl), run_eq (by rfl)]
  unfold T_Wrapped__init_
  rw [go_fnew (ev_v' (by rfl)) rfl (by decide), go_fnew (ev_v' (by rfl)) rfl (by show 1 < 900; decide)]
  rfl
theorem mk_inj {env : Oz.Env} {es : Es} {a b : U} {S1 : Sto} (hes : evs (pg.cal (D + 2)) es env S = .ok [a, b] S1) : ev (pg.cal (D + 2)) (.mk "Injected" es) env S = .ok (.loc S1.length) (S1 ++ [.ins "Injected" [("inside", a), ("ground", b)]]) := by
  refine ev_mk' (d := D + 1) hes ?_
  have e : ("Injected" ++ ".__init__" : Str) = "Injected.__init__" := by decide +kernel
  rw [e, call_eq (df := ⟨3, 3, false, T_Injected__init_⟩) (by kernel_rfl), run_eq (by rfl)]
  unfold T_Injected__init_
  rw [go_fnew (ev_v' (by rfl)) rfl (by decide), go_fnew (ev_v' (by rfl)) rfl (by show 1 < 900; decide)]
  rfl
theorem ground_eq {t : Ty} : (pg.cal (d + 1)).call "ground" [tu t] S = .ok (.str t.hd) S := by
  rw [call_eq (df := ⟨1, 1, false, T_ground⟩) (by kernel_rfl), run_eq (by rfl)]
  unfold T_ground
  rw [go_ret (u := .str t.hd) (S' := S)]
  · rfl
  · rw [ev_ix, ev_v' (u := tu t) rfl, bind_ok, ev_k, bind_ok, ix_hd]
noncomputable def M_out : Sts := (.cons (.set false [7] (.call "ground" (.cons (.v 3) .nil))) (.cons (.ret (.mk "Injected" (.cons (.meth (.v 0) "Casts" "made" (.cons (.tup (.cons (.v 3) (.cons (.call "ground_type" (.cons (.v 7) .nil)) (.cons (.v 5) (.cons (.v 6) .nil))))) (.cons (.v 2) .nil))) (.cons (.v 7) .nil)))) .nil))
noncomputable def M_in : Sts := (.cons (.if_ (.e (.cmp .ne (.fld (.v 2) "Injected" "ground") (.call "ground" (.cons (.v 4) .nil)))) (.cons (.raise "Stopped" (.tup (.cons (.k (.str "blame")) (.cons (.v 5) (.cons (.v 6) .nil))))) .nil) .nil) (.cons (.ret (.meth (.v 0) "Casts" "made" (.cons (.tup (.cons (.call "ground_type" (.cons (.fld (.v 2) "Injected" "ground") .nil)) (.cons (.v 4) (.cons (.v 5) (.cons (.v 6) .nil))))) (.cons (.fld (.v 2) "Injected" "inside") .nil)))) .nil))
noncomputable def M_0 : Sts := (.cons (.if_ (.and (.e (.cmp .eq (.v 3) (.g "ANY"))) (.e (.cmp .eq (.v 4) (.g "ANY")))) (.cons (.ret (.v 2)) .nil) .nil) (.cons (.if_ (.e (.cmp .eq (.v 4) (.g "ANY"))) M_out .nil) (.cons (.if_ (.e (.cmp .eq (.v 3) (.g "ANY"))) M_in .nil) (.cons (.if_ (.e (.cmp .eq (.bf .len (.cons (.v 3) .nil)) (.k (.int 1)))) (.cons (.ret (.v 2)) .nil) .nil) (.cons (.ret (.mk "Wrapped" (.cons (.v 2) (.cons (.v 1) .nil)))) .nil)))))
theorem made_eq : T_Casts_made = .cons (.set true [3, 4, 5, 6] (.v 1)) M_0 := rfl
theorem go_unp {Φ : Cal} {e : Oz.E} {sts : Sts} {i j k l : Nat} {env : Oz.Env} {a b c f : U} (h : ev Φ e env S = .ok (.tup [a, b, c, f]) S') : exs Φ (.cons (.set true [i, j, k, l] e) sts) env S = exs Φ sts ((((env.set i (some a)).set j (some b)).set k (some c)).set l (some f)) S' := by
  rw [exs_cons, ex_set, h, on_ok, set_tup rfl]
  rfl
noncomputable abbrev envM (ca : Nat) (b : By) (u : U) (x : Option U) : Oz.Env := [some (.loc ca), some (byU b), some u, some (tu b.1), some (tu b.2.1), some (.int b.2.2.1), some (.int b.2.2.2), x]
theorem made_T {b : By} {u : U} : (pg.cal (D + 1)).call "Casts.made" [.loc ca, byU b, u] S = (exs (pg.cal D) M_0 (envM ca b u none) S).fin := by
  rw [call_eq (df := ⟨3, 8, false, T_Casts_made⟩) (by kernel_rfl), run_eq (by rfl), made_eq]
  rw [show ([U.loc ca, byU b, u].map some ++ List.replicate (8 - 3) none : Oz.Env) = [some (.loc ca), some (byU b), some u, none, none, none, none, none] from rfl]
  rw [go_unp (a := tu b.1) (b := tu b.2.1) (c := .int b.2.2.1) (f := .int b.2.2.2) (S' := S) (by rw [ev_v' rfl]; rfl)]
  rfl
theorem is_any {Φ : Cal} {env : Oz.Env} {i : Nat} {t : Ty} (hg : Φ.glo "ANY" = some (tu .any)) (hv : env[i]? = some (some (tu t))) (hd : t.dep ≤ 15) : evt Φ (.e (.cmp .eq (.v i) (.g "ANY"))) env S = .ok (decide (t = .any)) S := by
  rw [evt_e, ev_cmp, ev_v' hv, bind_ok, ev_g hg, bind_ok, c_eq (by omega) (by decide), bind_ok, tru_bl, rO_some]
noncomputable def dOk (b : By) : Prop := b.1.dep ≤ 15 ∧ b.2.1.dep ≤ 15
/-- neither side is any -/
theorem made0 {b : By} {v : Va} {u : U} (hb : dOk b) (h1 : b.1 ≠ .any) (h2 : b.2.1 ≠ .any) (hv : RV S ms β v u) (hlt : ∀ n ∈ ms, n < S.length) : ∃ u' S', (pg.cal (D + 3)).call "Casts.made" [.loc ca, byU b, u] S = .ok u' S' ∧ Gr S S' ∧ RV S' ms β (mk0 b v) u' := by
  have a1 : ∀ env : Oz.Env, env[3]? = some (some (tu b.1)) → evt (pg.cal (D + 2)) (.e (.cmp .eq (.v 3) (.g "ANY"))) env S = .ok false S := fun env h3 => by rw [is_any (g_ANY _) h3 hb.1, decide_eq_false h1]
  have a2 : ∀ env : Oz.Env, env[4]? = some (some (tu b.2.1)) → evt (pg.cal (D + 2)) (.e (.cmp .eq (.v 4) (.g "ANY"))) env S = .ok false S := fun env h3 => by rw [is_any (g_ANY _) h3 hb.2, decide_eq_false h2]
  have hl : evt (pg.cal (D + 2)) (.e (.cmp .eq (.bf .len (.cons (.v 3) .nil)) (.k (.int 1)))) (envM ca b u none) S = .ok (decide (b.1.pt = [])) S := by
    rw [evt_e, ev_cmp, ev_bf, evs_cons, ev_v' rfl, bind_ok, evs_nil, bind_ok, bind_ok, len_tu, bind_ok, ev_k, bind_ok, c_eq_int, bind_ok, tru_bl, rO_some]
    have e : decide (((1 + b.1.pt.length : Nat) : Int) = 1) = decide (b.1.pt = []) := by
      cases b.1.pt <;> simp
      omega
    rw [e]
  rw [made_T]
  unfold M_0
  rw [go_skip (S' := S) (by rw [evt_and, a1 _ rfl, bind_ok, if_neg Bool.false_ne_true]), go_skip (a2 _ rfl), go_skip (a1 _ rfl)]
  by_cases hp : b.1.pt = []
  · rw [decide_eq_true hp] at hl
    refine ⟨u, S, ?_, Gr.refl, by unfold mk0; rw [if_pos hp]; exact hv⟩
    rw [go_stop hl (ev_v' rfl)]
    rfl
  · rw [decide_eq_false hp] at hl
    refine ⟨.loc S.length, _, ?_, gr_push (c := .ins "Wrapped" [("inside", u), ("by", byU b)]), ?_⟩
    · rw [go_skip hl, go_ret (mk_wr (D := D) (by rw [evs_cons, ev_v' (u := u) rfl, bind_ok, evs_cons, ev_v' (u := byU b) rfl, bind_ok, evs_nil, bind_ok, bind_ok]))]
      rfl
    · unfold mk0
      rw [if_neg hp]
      exact .wr ⟨last_get, fun z => by have := hlt _ z; omega⟩ (hv.mono (nx_g gr_push))
theorem ca_meth {Φ : Cal} {env : Oz.Env} {us : List U} {S1 : Sto} {es : Es} {m : Str} (hv : env[0]? = some (some (.loc ca))) (hca : S[ca]? = some (.ins "Casts" [])) (hes : evs Φ es env S = .ok us S1) : ev Φ (.meth (.v 0) "Casts" m es) env S = Φ.call ("Casts" ++ "." ++ m) (.loc ca :: us) S1 := meth_at (ev_v' hv) hca rfl hes
theorem en_made : ("Casts" ++ "." ++ "made" : Str) = "Casts.made" := by decide +kernel
theorem gTy_hd {x : Str} {t : Ty} (h : gTy x = some t) : t ≠ .any := by
  intro z
  subst z
  unfold gTy at h
  revert h
  generalize hl : ([("int", Ty.int), ("bool", .bool), ("unit", .unit), ("fun", .fn .any .any), ("box", .bx .any)] : List (Str × Ty)) = l
  have hn : ∀ p ∈ l, p.2 ≠ .any := by rw [← hl]; intro p hp; simp at hp; rcases hp with rfl | rfl | rfl | rfl | rfl <;> exact fun z => nomatch z
  clear hl
  induction l with
  | nil => intro h; cases h
  | cons p l ih =>
    intro h
    rw [List.lookup] at h
    split at h
    · exact hn p List.mem_cons_self (Option.some.inj h)
    · exact ih (fun q hq => hn q (List.mem_cons_of_mem _ hq)) h
theorem ev_fldx {Φ : Cal} {env : Oz.Env} {a : E} {n : Nat} {Cn f : Str} {cs : List Str} {fs : List (Str × U)} {u : U} {S1 : Sto} (he : ev Φ a env S = .ok (.loc n) S1) (h : S1[n]? = some (.ins Cn fs)) (hc : Cn ∈ cs) (hf : fs.lookup f = some u) : ev Φ (.fldx a cs f) env S = .ok u S1 := by
  show (ev Φ a env S).bind _ = _
  rw [he, bind_ok]
  simp only [h, if_pos hc, hf, rO_some]
theorem made_ok {b : By} {v v' : Va} {u : U} (hb : dOk b) (hm : md b v = some (.inl v')) (hca : S[ca]? = some (.ins "Casts" [])) (hv : RV S ms β v u) (hlt : ∀ n ∈ ms, n < S.length) : ∃ u' S', (pg.cal (D + 4)).call "Casts.made" [.loc ca, byU b, u] S = .ok u' S' ∧ Gr S S' ∧ RV S' ms β v' u' := by
  have a1 : ∀ env : Oz.Env, env[3]? = some (some (tu b.1)) → evt (pg.cal (D + 3)) (.e (.cmp .eq (.v 3) (.g "ANY"))) env S = .ok (decide (b.1 = .any)) S := fun env h3 => is_any (g_ANY _) h3 hb.1
  have a2 : ∀ env : Oz.Env, env[4]? = some (some (tu b.2.1)) → evt (pg.cal (D + 3)) (.e (.cmp .eq (.v 4) (.g "ANY"))) env S = .ok (decide (b.2.1 = .any)) S := fun env h3 => is_any (g_ANY _) h3 hb.2
  unfold md at hm
  by_cases h1 : b.1 = .any
  · rw [if_pos h1] at hm
    by_cases h2 : b.2.1 = .any
    · rw [if_pos h2] at hm
      cases hm
      refine ⟨u, S, ?_, Gr.refl, hv⟩
      rw [made_T]
      unfold M_0
      rw [go_stop (u := u) (S1 := S) (S2 := S) (by rw [evt_and, a1 _ rfl, decide_eq_true h1, bind_ok, if_pos rfl, a2 _ rfl, decide_eq_true h2]) (ev_v' rfl)]
      rfl
    · rw [if_neg h2] at hm
      cases hv with
      | @inj w g n uw hn hw =>
        simp only at hm
        by_cases hg : g = b.2.1.hd
        · rw [if_pos hg] at hm
          split at hm
          · rename_i t ht
            cases hm
            obtain ⟨u', S', e', g', r'⟩ := made0 (D := D) (ca := ca) (b := (t, b.2.1, b.2.2.1, b.2.2.2)) ⟨gTy_dep ht, hb.2⟩ (gTy_hd ht) h2 hw hlt
            refine ⟨u', S', ?_, g', r'⟩
            rw [made_T]
            unfold M_0
            rw [go_skip (S' := S) (by rw [evt_and, a1 _ rfl, decide_eq_true h1, bind_ok, if_pos rfl, a2 _ rfl, decide_eq_false h2]), go_skip (S' := S) (by rw [a2 _ rfl, decide_eq_false h2])]
            rw [exs_cons, ex_if, a1 _ rfl, decide_eq_true h1, on_ok, if_pos rfl]
            unfold M_in
            have fg : ∀ env : Oz.Env, env[2]? = some (some (.loc n)) → ev (pg.cal (D + 3)) (.fld (.v 2) "Injected" "ground") env S = .ok (.str g) S := fun env h2 => ev_fld' (S1 := S) (ev_v' h2) hn.1 (by rfl)
            have fi : ∀ env : Oz.Env, env[2]? = some (some (.loc n)) → ev (pg.cal (D + 3)) (.fld (.v 2) "Injected" "inside") env S = .ok uw S := fun env h2 => ev_fld' (S1 := S) (ev_v' h2) hn.1 (by rfl)
            rw [go_skip (S' := S) (by
              rw [evt_e, ev_cmp, fg _ rfl, bind_ok, ev_call, evs_cons, ev_v' rfl, bind_ok, evs_nil, bind_ok, bind_ok, ground_eq, bind_ok, c_ne_str, decide_eq_true hg, bind_ok]
              rfl)]
            rw [go_ret (u := u') (S' := S')]
            · rfl
            · rw [ca_meth (us := [byU (t, b.2.1, b.2.2.1, b.2.2.2), uw]) (S1 := S) rfl hca, en_made]
              · exact e'
              · rw [evs_cons, ev_tup, evs_cons, ev_call, evs_cons, fg _ rfl, bind_ok, evs_nil, bind_ok, bind_ok, ground_type_eq ht, bind_ok, evs_cons, ev_v' rfl, bind_ok, evs_cons, ev_v' rfl, bind_ok, evs_cons, ev_v' rfl, bind_ok, evs_nil, bind_ok, bind_ok, bind_ok, bind_ok, bind_ok, if_pos (by show 4 ≤ sizeLine; decide), bind_ok, evs_cons, fi _ rfl, bind_ok, evs_nil, bind_ok, bind_ok]
                rfl
          · cases hm
        · rw [if_neg hg] at hm
          cases hm
      | _ => cases hm
  · rw [if_neg h1] at hm
    by_cases h2 : b.2.1 = .any
    · rw [if_pos h2] at hm
      split at hm
      · rename_i t ht
        cases hm
        obtain ⟨u1, S1, e1, g1, r1⟩ := made0 (D := D) (ca := ca) (b := (b.1, t, b.2.2.1, b.2.2.2)) ⟨hb.1, gTy_dep ht⟩ h1 (gTy_hd ht) hv hlt
        refine ⟨.loc S1.length, _, ?_, g1.trans (gr_push (c := .ins "Injected" [("inside", u1), ("ground", .str b.1.hd)])), ?_⟩
        · rw [made_T]
          unfold M_0
          rw [go_skip (S' := S) (by rw [evt_and, a1 _ rfl, decide_eq_false h1, bind_ok, if_neg Bool.false_ne_true])]
          rw [exs_cons, ex_if, a2 _ rfl, decide_eq_true h2, on_ok, if_pos rfl]
          unfold M_out
          rw [go_set (x := .str b.1.hd) (S' := S) (by rw [ev_call, evs_cons, ev_v' rfl, bind_ok, evs_nil, bind_ok, bind_ok]; exact ground_eq)]
          rw [go_ret (mk_inj (D := D + 1) (S1 := S1) (a := u1) (b := .str b.1.hd) (by
            rw [evs_cons, ca_meth (us := [byU (b.1, t, b.2.2.1, b.2.2.2), u]) (S1 := S) rfl hca, en_made, e1, bind_ok, evs_cons, ev_v' (u := .str b.1.hd) rfl, bind_ok, evs_nil, bind_ok, bind_ok]
            rw [evs_cons, ev_tup, evs_cons, ev_v' (u := tu b.1) rfl, bind_ok, evs_cons, ev_call, evs_cons, ev_v' (u := .str b.1.hd) rfl, bind_ok, evs_nil, bind_ok, bind_ok, ground_type_eq ht, bind_ok, evs_cons, ev_v' (u := .int b.2.2.1) rfl, bind_ok, evs_cons, ev_v' (u := .int b.2.2.2) rfl, bind_ok, evs_nil, bind_ok, bind_ok, bind_ok, bind_ok, bind_ok, if_pos (by show 4 ≤ sizeLine; decide), bind_ok, evs_cons, ev_v' (u := u) rfl, bind_ok, evs_nil, bind_ok, bind_ok]
            rfl)), then_ret]
          rfl
        · exact .inj ⟨last_get, fun z => by have := hlt _ z; have := g1.1; omega⟩ (r1.mono (nx_g gr_push))
      · cases hm
    · rw [if_neg h2] at hm
      cases hm
      exact made0 (D := D + 1) hb h1 h2 hv hlt
theorem made_bl {b : By} {v : Va} {q : Bl} {u : U} (hb : dOk b) (hm : md b v = some (.inr q)) (hv : RV S ms β v u) : (pg.cal (D + 4)).call "Casts.made" [.loc ca, byU b, u] S = .exc "Stopped" [("end", .tup [.str "blame", .int q.1, .int q.2])] S := by
  have a1 : ∀ env : Oz.Env, env[3]? = some (some (tu b.1)) → evt (pg.cal (D + 3)) (.e (.cmp .eq (.v 3) (.g "ANY"))) env S = .ok (decide (b.1 = .any)) S := fun env h3 => is_any (g_ANY _) h3 hb.1
  have a2 : ∀ env : Oz.Env, env[4]? = some (some (tu b.2.1)) → evt (pg.cal (D + 3)) (.e (.cmp .eq (.v 4) (.g "ANY"))) env S = .ok (decide (b.2.1 = .any)) S := fun env h3 => is_any (g_ANY _) h3 hb.2
  unfold md at hm
  by_cases h1 : b.1 = .any
  · rw [if_pos h1] at hm
    by_cases h2 : b.2.1 = .any
    · rw [if_pos h2] at hm
      cases hm
    · rw [if_neg h2] at hm
      cases hv with
      | @inj w g n uw hn hw =>
        simp only at hm
        by_cases hg : g = b.2.1.hd
        · rw [if_pos hg] at hm
          split at hm <;> cases hm
        · rw [if_neg hg] at hm
          cases hm
          rw [made_T]
          unfold M_0
          rw [go_skip (S' := S) (by rw [evt_and, a1 _ rfl, decide_eq_true h1, bind_ok, if_pos rfl, a2 _ rfl, decide_eq_false h2]), go_skip (S' := S) (by rw [a2 _ rfl, decide_eq_false h2])]
          rw [exs_cons, ex_if, a1 _ rfl, decide_eq_true h1, on_ok, if_pos rfl]
          unfold M_in
          have fg : ∀ env : Oz.Env, env[2]? = some (some (.loc n)) → ev (pg.cal (D + 3)) (.fld (.v 2) "Injected" "ground") env S = .ok (.str g) S := fun env h2 => ev_fld' (S1 := S) (ev_v' h2) hn.1 (by rfl)
          have tt : evt (pg.cal (D + 3)) (.e (.cmp .ne (.fld (.v 2) "Injected" "ground") (.call "ground" (.cons (.v 4) .nil)))) (envM ca b (.loc n) none) S = .ok true S := by
            rw [evt_e, ev_cmp, fg _ rfl, bind_ok, ev_call, evs_cons, ev_v' rfl, bind_ok, evs_nil, bind_ok, bind_ok, ground_eq, bind_ok, c_ne_str, decide_eq_false hg, bind_ok]
            rfl
          rw [exs_cons, ex_if, tt, on_ok, if_pos rfl, exs_cons, ex_raise (g := "end") (by rfl)]
          rw [ev_tup, evs_cons, ev_k, bind_ok, evs_cons, ev_v' (u := .int b.2.2.1) rfl, bind_ok, evs_cons, ev_v' (u := .int b.2.2.2) rfl, bind_ok, evs_nil, bind_ok, bind_ok, bind_ok, bind_ok, if_pos (by show 3 ≤ sizeLine; decide), on_ok]
          rfl
      | _ => cases hm
  · rw [if_neg h1] at hm
    by_cases h2 : b.2.1 = .any
    · rw [if_pos h2] at hm
      split at hm <;> cases hm
    · rw [if_neg h2] at hm
      cases hm
end Pr
end
section
set_option maxHeartbeats 4000000
namespace Pr
open PySem L2 Oz
variable {S S' S'' S0 : Sto} {d D : Nat} {ms ms' ms'' β β' β'' : List Nat} {e fl pl ca : Nat} {core val : U} {C : Cf} {ls : List (Nat × Nat)}
noncomputable def stl : List By → Va → Option (Va ⊕ Bl)
  | [], v => some (.inl v)
  | b :: r, v => match md b v with
    | some (.inl v') => stl r v'
    | o => o
noncomputable abbrev blF (q : Bl) : List (Str × U) := [("end", .tup [.str "blame", .int q.1, .int q.2])]
/-- what a run of casts gives -/
noncomputable def Out (S : Sto) (ms β : List Nat) (r : R U) : Va ⊕ Bl → Prop
  | .inl v => ∃ u S', r = .ok u S' ∧ Gr S S' ∧ RV S' ms β v u
  | .inr q => ∃ S', r = .exc "Stopped" (blF q) S' ∧ Gr S S'
theorem Out.gr {r : R U} {o : Va ⊕ Bl} (g : Gr S S') (h : Out S' ms β r o) : Out S ms β r o := by
  cases o with
  | inl v =>
    obtain ⟨u, S1, a, b, c⟩ := h
    exact ⟨u, S1, a, g.trans b, c⟩
  | inr q =>
    obtain ⟨S1, a, b⟩ := h
    exact ⟨S1, a, g.trans b⟩
theorem made_out {b : By} {v : Va} {u : U} {o : Va ⊕ Bl} (hb : dOk b) (hm : md b v = some o) (hca : S[ca]? = some (.ins "Casts" [])) (hv : RV S ms β v u) (hlt : ∀ n ∈ ms, n < S.length) : Out S ms β ((pg.cal (D + 4)).call "Casts.made" [.loc ca, byU b, u] S) o := by
  cases o with
  | inl v' =>
    obtain ⟨u', S', a, b, c⟩ := made_ok (D := D) hb hm hca hv hlt
    exact ⟨u', S', a, b, c⟩
  | inr q => exact ⟨S, made_bl (D := D) hb hm hv, Gr.refl⟩
theorem turn_exc' {c : Str} {fs : List (Str × U)} {g : Oz.Env → Sto → O} : (O.exc c fs S).turn g = .exc c fs S := rfl
theorem settled_go : ∀ (p : Pd) (n : Nat) (v : Va) (u : U) (S : Sto) (x : Option U) (o : Va ⊕ Bl), p.length < n → (∀ b ∈ p, dOk b) → stl p v = some o → S[ca]? = some (.ins "Casts" []) → RV S ms β v u → (∀ n ∈ ms, n < S.length) →
    Out S ms β ((loopI (fun env S => evt (pg.cal (D + 4)) (.e (.cmp .isNotN (.v 1) (.k .non))) env S) (fun env S => exs (pg.cal (D + 4)) (.cons (.set true [3, 1] (.v 1)) (.cons (.set false [2] (.meth (.v 0) "Casts" "made" (.cons (.v 3) (.cons (.v 2) .nil)))) .nil)) env S) n [some (.loc ca), some (peU p), some u, x] S).then_ (fun env S => exs (pg.cal (D + 4)) (.cons (.ret (.v 2)) .nil) env S)).fin o
  | [], n, v, u, S, x, o, hn, hd, hs, hca, hv, hlt => by
    obtain ⟨m, rfl⟩ : ∃ m, n = m + 1 := ⟨n - 1, by simp at hn; omega⟩
    cases hs
    refine ⟨u, S, ?_, Gr.refl, hv⟩
    rw [loopI, evt_e, ev_cmp, ev_v' (u := .non) rfl, bind_ok, ev_k, bind_ok]
    rfl
  | b :: p, n, v, u, S, x, o, hn, hd, hs, hca, hv, hlt => by
    obtain ⟨m, rfl⟩ : ∃ m, n = m + 1 := ⟨n - 1, by simp at hn; omega⟩
    have hc : evt (pg.cal (D + 4)) (.e (.cmp .isNotN (.v 1) (.k .non))) [some (.loc ca), some (peU (b :: p)), some u, x] S = .ok true S := by
      rw [evt_e, ev_cmp, ev_v' (u := peU (b :: p)) rfl, bind_ok, ev_k, bind_ok]
      rfl
    have hset : ∀ sts, exs (pg.cal (D + 4)) (.cons (.set true [3, 1] (.v 1)) sts) [some (.loc ca), some (peU (b :: p)), some u, x] S = exs (pg.cal (D + 4)) sts [some (.loc ca), some (peU p), some u, some (byU b)] S := fun sts => by
      rw [exs_cons, ex_set, ev_v' (u := .tup [byU b, peU p]) rfl, on_ok, set_tup rfl]
      rfl
    have hev : ∀ r, (pg.cal (D + 4)).call "Casts.made" [.loc ca, byU b, u] S = r → ev (pg.cal (D + 4)) (.meth (.v 0) "Casts" "made" (.cons (.v 3) (.cons (.v 2) .nil))) [some (.loc ca), some (peU p), some u, some (byU b)] S = r := fun r hr => by
      rw [ca_meth (us := [byU b, u]) (S1 := S) rfl hca (by rw [evs_cons, ev_v' (u := byU b) rfl, bind_ok, evs_cons, ev_v' (u := u) rfl, bind_ok, evs_nil, bind_ok, bind_ok]), en_made]
      exact hr
    unfold stl at hs
    rw [loopI, hc, on_ok, if_pos rfl, hset]
    cases hm : md b v with
    | none => rw [hm] at hs; cases hs
    | some o1 =>
      rw [hm] at hs
      have ho := made_out (D := D) (hd b List.mem_cons_self) hm hca hv hlt
      cases o1 with
      | inl v' =>
        obtain ⟨u1, S1, e1, g1, r1⟩ := ho
        refine Out.gr g1 ?_
        rw [go_set (hev _ e1), exs_nil, turn_nx]
        exact settled_go p m v' u1 S1 (some (byU b)) o (by simp at hn; omega) (fun q hq => hd q (List.mem_cons_of_mem _ hq)) hs (g1.at_ hca) r1 (fun k hk => Nat.lt_of_lt_of_le (hlt k hk) g1.1)
      | inr q =>
        cases hs
        obtain ⟨S1, e1, g1⟩ := ho
        refine ⟨S1, ?_, g1⟩
        rw [exs_cons, ex_set, hev _ e1, on_exc, then_exc, turn_exc', then_exc]
        rfl
theorem settled_out {p : Pd} {v : Va} {u : U} {o : Va ⊕ Bl} (hp : p.length < 1000) (hd : ∀ b ∈ p, dOk b) (hs : stl p v = some o) (hca : S[ca]? = some (.ins "Casts" [])) (hv : RV S ms β v u) (hlt : ∀ n ∈ ms, n < S.length) : Out S ms β ((pg.cal (D + 5)).call "Casts.settled" [.loc ca, peU p, u] S) o := by
  rw [call_eq (df := ⟨3, 4, false, T_Casts_settled⟩) (by kernel_rfl), run_eq (by rfl)]
  unfold T_Casts_settled
  rw [show ([U.loc ca, peU p, u].map some ++ List.replicate (4 - 3) none : Oz.Env) = [some (.loc ca), some (peU p), some u, none] from rfl, exs_cons, ex_while]
  exact settled_go p fuel v u S none o (Nat.lt_trans hp (by decide)) hd hs hca hv hlt
theorem mall_go {all : List U} {k : Nat} : ∀ (p : List By) (v : Va) (u : U) (S : Sto) (x : Option U) (o : Va ⊕ Bl), (∀ b ∈ p, dOk b) → stl p v = some o → S[ca]? = some (.ins "Casts" []) → RV S ms β v u → (∀ n ∈ ms, n < S.length) → S[k]? = some (.lst all) →
    Out S ms β ((forI false [3] (fun env S => exs (pg.cal (D + 4)) (.cons (.set false [2] (.meth (.v 0) "Casts" "made" (.cons (.v 3) (.cons (.v 2) .nil)))) .nil) env S) all (some k) (p.map byU) [some (.loc ca), some (.loc k), some u, x] S).then_ (fun env S => exs (pg.cal (D + 4)) (.cons (.ret (.v 2)) .nil) env S)).fin o
  | [], v, u, S, x, o, hd, hs, hca, hv, hlt, hk => by
    cases hs
    refine ⟨u, S, ?_, Gr.refl, hv⟩
    rw [List.map_nil, forI, if_pos (stays_lst hk), then_nx, go_ret (ev_v' (u := u) rfl)]
    rfl
  | b :: p, v, u, S, x, o, hd, hs, hca, hv, hlt, hk => by
    have hev : ∀ r, (pg.cal (D + 4)).call "Casts.made" [.loc ca, byU b, u] S = r → ev (pg.cal (D + 4)) (.meth (.v 0) "Casts" "made" (.cons (.v 3) (.cons (.v 2) .nil))) [some (.loc ca), some (.loc k), some u, some (byU b)] S = r := fun r hr => by
      rw [ca_meth (us := [byU b, u]) (S1 := S) rfl hca (by rw [evs_cons, ev_v' (u := byU b) rfl, bind_ok, evs_cons, ev_v' (u := u) rfl, bind_ok, evs_nil, bind_ok, bind_ok]), en_made]
      exact hr
    unfold stl at hs
    rw [List.map_cons, forI, if_pos (stays_lst hk)]
    show Out S ms β (((exs (pg.cal (D + 4)) (.cons (.set false [2] (.meth (.v 0) "Casts" "made" (.cons (.v 3) (.cons (.v 2) .nil)))) .nil) [some (.loc ca), some (.loc k), some u, some (byU b)] S).turn _).then_ _).fin o
    cases hm : md b v with
    | none => rw [hm] at hs; cases hs
    | some o1 =>
      rw [hm] at hs
      have ho := made_out (D := D) (hd b List.mem_cons_self) hm hca hv hlt
      cases o1 with
      | inl v' =>
        obtain ⟨u1, S1, e1, g1, r1⟩ := ho
        refine Out.gr g1 ?_
        rw [go_set (hev _ e1), exs_nil, turn_nx]
        exact mall_go p v' u1 S1 (some (byU b)) o (fun q hq => hd q (List.mem_cons_of_mem _ hq)) hs (g1.at_ hca) r1 (fun k hk => Nat.lt_of_lt_of_le (hlt k hk) g1.1) (g1.at_ hk)
      | inr q =>
        cases hs
        obtain ⟨S1, e1, g1⟩ := ho
        refine ⟨S1, ?_, g1⟩
        rw [exs_cons, ex_set, hev _ e1, on_exc, then_exc, turn_exc', then_exc]
        rfl
theorem mall_out {p : List By} {v : Va} {u : U} {o : Va ⊕ Bl} {k : Nat} (hd : ∀ b ∈ p, dOk b) (hs : stl p v = some o) (hca : S[ca]? = some (.ins "Casts" [])) (hv : RV S ms β v u) (hlt : ∀ n ∈ ms, n < S.length) (hk : S[k]? = some (.lst (p.map byU))) : Out S ms β ((pg.cal (D + 5)).call "made_all" [.loc ca, .loc k, u] S) o := by
  rw [call_eq (df := ⟨3, 4, false, T_made_all⟩) (by kernel_rfl), run_eq (by rfl)]
  unfold T_made_all
  rw [show ([U.loc ca, .loc k, u].map some ++ List.replicate (4 - 3) none : Oz.Env) = [some (.loc ca), some (.loc k), some u, none] from rfl, exs_cons, ex_for, ev_v' (u := .loc k) rfl, on_ok]
  have hi : iterU S (.loc k) = some (p.map byU, some k) := by simp only [iterU, hk]
  simp only [hi]
  exact mall_go p v u S none o hd hs hca hv hlt hk
noncomputable def hv1 (b : By) : By := if b.1.hd = "pair" then (b.1.pt.headD .any, b.2.1.pt.headD .any, b.2.2.1, b.2.2.2) else (b.2.1.pt.headD .any, b.1.pt.headD .any, b.2.2.1, 1 - b.2.2.2)
noncomputable def hv2 (b : By) : By := (b.1.pt.getLastD .any, b.2.1.pt.getLastD .any, b.2.2.1, b.2.2.2)
noncomputable def hvk (k : Bool) (b : By) : By := if k then hv1 b else hv2 b
noncomputable def wOk (b : By) : Prop := b.1.pt ≠ [] ∧ b.2.1.pt ≠ []
theorem ix_one {t : Ty} (h : t.pt ≠ []) : ixU (tu t) (.int 1) S = .ok (tu (t.pt.headD .any)) S := by
  cases t <;> first | exact absurd rfl h | rfl
theorem ix_end {t : Ty} (h : t.pt ≠ []) : ixU (tu t) (.int (-1)) S = .ok (tu (t.pt.getLastD .any)) S := by
  cases t <;> first | exact absurd rfl h | rfl
theorem halves_eq {b : By} (hb : wOk b) : (pg.cal (d + 1)).call "Casts.halves" [.loc ca, byU b] S = .ok (.tup [byU (hv1 b), byU (hv2 b)]) S := by
  rw [call_eq (df := ⟨2, 7, false, T_Casts_halves⟩) (by kernel_rfl), run_eq (by rfl)]
  unfold T_Casts_halves
  rw [show ([U.loc ca, byU b].map some ++ List.replicate (7 - 2) none : Oz.Env) = [some (.loc ca), some (byU b), none, none, none, none, none] from rfl]
  rw [go_unp (a := tu b.1) (b := tu b.2.1) (c := .int b.2.2.1) (f := .int b.2.2.2) (S' := S) (by rw [ev_v' (u := byU b) rfl]; rfl)]
  rw [go_set (x := byU (hv2 b)) (S' := S) (by
    rw [ev_tup, evs_cons, ev_ix, ev_v' (u := tu b.1) rfl, bind_ok, ev_neg, ev_k, bind_ok, bind_ok, ix_end hb.1, bind_ok, evs_cons, ev_ix, ev_v' (u := tu b.2.1) rfl, bind_ok, ev_neg, ev_k, bind_ok, bind_ok, ix_end hb.2, bind_ok, evs_cons, ev_v' (u := .int b.2.2.1) rfl, bind_ok, evs_cons, ev_v' (u := .int b.2.2.2) rfl, bind_ok, evs_nil, bind_ok, bind_ok, bind_ok, bind_ok, bind_ok, if_pos (by show 4 ≤ sizeLine; decide)]
    rfl)]
  have tt : ∀ env : Oz.Env, env[2]? = some (some (tu b.1)) → evt (pg.cal d) (.e (.cmp .eq (.ix (.v 2) (.k (.int 0))) (.k (.str "pair")))) env S = .ok (decide (b.1.hd = "pair")) S := fun env h => by
    rw [evt_e, ev_cmp, ev_ix, ev_v' h, bind_ok, ev_k, bind_ok, ix_hd, bind_ok, ev_k, bind_ok, c_eq_str, bind_ok, tru_bl, rO_some]
  by_cases hp : b.1.hd = "pair"
  · rw [go_stop (u := .tup [byU (hv1 b), byU (hv2 b)]) (S1 := S) (S2 := S) (by rw [tt _ rfl, decide_eq_true hp])]
    · rfl
    · rw [ev_tup, evs_cons, ev_tup, evs_cons, ev_ix, ev_v' (u := tu b.1) rfl, bind_ok, ev_k, bind_ok, ix_one hb.1, bind_ok, evs_cons, ev_ix, ev_v' (u := tu b.2.1) rfl, bind_ok, ev_k, bind_ok, ix_one hb.2, bind_ok, evs_cons, ev_v' (u := .int b.2.2.1) rfl, bind_ok, evs_cons, ev_v' (u := .int b.2.2.2) rfl, bind_ok, evs_nil, bind_ok, bind_ok, bind_ok, bind_ok, bind_ok, if_pos (by show 4 ≤ sizeLine; decide), bind_ok, evs_cons, ev_v' (u := byU (hv2 b)) rfl, bind_ok, evs_nil, bind_ok, bind_ok, bind_ok, if_pos (by show 2 ≤ sizeLine; decide)]
      unfold hv1 byU
      rw [if_pos hp]
  · rw [go_skip (S' := S) (by rw [tt _ rfl, decide_eq_false hp]), go_ret (u := .tup [byU (hv1 b), byU (hv2 b)]) (S' := S)]
    · rfl
    · rw [ev_tup, evs_cons, ev_tup, evs_cons, ev_ix, ev_v' (u := tu b.2.1) rfl, bind_ok, ev_k, bind_ok, ix_one hb.2, bind_ok, evs_cons, ev_ix, ev_v' (u := tu b.1) rfl, bind_ok, ev_k, bind_ok, ix_one hb.1, bind_ok, evs_cons, ev_v' (u := .int b.2.2.1) rfl, bind_ok, evs_cons, ev_bin, ev_k, bind_ok, ev_v' (u := .int b.2.2.2) rfl, bind_ok, sub_int, bind_ok, evs_nil, bind_ok, bind_ok, bind_ok, bind_ok, bind_ok, if_pos (by show 4 ≤ sizeLine; decide), bind_ok, evs_cons, ev_v' (u := byU (hv2 b)) rfl, bind_ok, evs_nil, bind_ok, bind_ok, bind_ok, if_pos (by show 2 ≤ sizeLine; decide)]
      unfold hv1 byU
      rw [if_neg hp]
noncomputable def unw : Va → List By × Va
  | .wr v b => (b :: (unw v).1, (unw v).2)
  | v => ([], v)
theorem en_halves : ("Casts" ++ "." ++ "halves" : Str) = "Casts.halves" := by decide +kernel
theorem iso_in {n : Nat} {Cn : Str} {fs : List (Str × U)} {cs : List Str} (h : S[n]? = some (.ins Cn fs)) (hC : Cn ∈ AllC) : isoU S (.loc n) cs AllC = some (decide (Cn ∈ cs)) := by
  have ht : tyU S (.loc n) = none := by simp only [tyU, h]
  unfold isoU
  rw [ht]
  simp only [h, if_pos hC]
/-- no wrapper -/
noncomputable def noWr : Va → Prop
  | .wr _ _ => False | _ => True
theorem iso_no {v : Va} {u : U} (hn : noWr v) (hv : RV S ms β v u) (hb : ∀ n ∈ β, ∃ w, S[n]? = some (.ins "Box" [("held", w)])) : isoU S u ["Wrapped"] AllC = some false := by
  cases hv with
  | int => rfl
  | bl => rfl
  | unit => rfl
  | pr _ _ => rfl
  | fn h _ _ _ => rw [iso_in h.1 (by decide +kernel)]; rfl
  | bx h =>
    obtain ⟨w, hw⟩ := hb _ (List.mem_of_getElem? h)
    rw [iso_in hw (by decide +kernel)]; rfl
  | wr _ _ => exact hn.elim
  | inj h _ => rw [iso_in h.1 (by decide +kernel)]; rfl
theorem unw_no (v : Va) : noWr (unw v).2 := by
  induction v using unw.induct with
  | case1 v b ih => rw [unw]; exact ih
  | case2 v h =>
    rw [unw]
    · cases v <;> first | trivial | exact absurd rfl (h _ _)
    · exact h
noncomputable def W_cnd (Φ : Cal) : Oz.Env → Sto → R Bool := fun env S => evt Φ (.e (.isio (.v 1) ["Wrapped"] AllC)) env S
noncomputable def W_bod (Φ : Cal) : Oz.Env → Sto → O := fun env S => exs Φ (.cons (.ex (.bm .append (.v 3) (.cons (.ix (.meth (.v 0) "Casts" "halves" (.cons (.fld (.v 1) "Wrapped" "by") .nil)) (.v 2)) .nil))) (.cons (.set false [1] (.fld (.v 1) "Wrapped" "inside")) .nil)) env S
theorem unwr_go {k : Bool} : ∀ (v : Va) (n : Nat) (u : U) (acc : List U), (unw v).1.length < n → (unw v).1.length + acc.length < 1000 → (∀ b ∈ (unw v).1, wOk b) → S[ca]? = some (.ins "Casts" []) → RV S ms β v u → (∀ n ∈ β, ∃ w, S[n]? = some (.ins "Box" [("held", w)])) →
    ∃ u', loopI (W_cnd (pg.cal (D + 1))) (W_bod (pg.cal (D + 1))) n [some (.loc ca), some u, some (.int (if k then 0 else 1)), some (.loc S.length)] (S ++ [.lst acc]) = .nx [some (.loc ca), some u', some (.int (if k then 0 else 1)), some (.loc S.length)] (S ++ [.lst (acc ++ ((unw v).1.map fun b => byU (hvk k b)))]) ∧ RV S ms β (unw v).2 u' := by
  intro v
  induction v using unw.induct with
  | case1 v b ih =>
    intro n u acc hn hz hw hca hv hb
    rw [unw] at hn hz hw
    simp only [List.length_cons] at hn hz
    obtain ⟨m, rfl⟩ : ∃ m, n = m + 1 := ⟨n - 1, by omega⟩
    cases hv with
    | @wr _ _ q uw hq hr =>
      have gq : ∀ l, (S ++ [Cel.lst l])[q]? = some (.ins "Wrapped" [("inside", uw), ("by", byU b)]) := fun l => gr_push.at_ hq.1
      have hc : W_cnd (pg.cal (D + 1)) [some (.loc ca), some (.loc q), some (.int (if k then 0 else 1)), some (.loc S.length)] (S ++ [.lst acc]) = .ok true (S ++ [.lst acc]) := by
        unfold W_cnd
        rw [ev_isio (ev_v' (u := .loc q) rfl) (iso_in (gq acc) (by decide +kernel))]
        rfl
      have hlt : acc.length < sizeLine := Nat.lt_of_lt_of_le (show acc.length < 1000 by omega) (by decide)
      have hbd : W_bod (pg.cal (D + 1)) [some (.loc ca), some (.loc q), some (.int (if k then 0 else 1)), some (.loc S.length)] (S ++ [.lst acc]) = .nx [some (.loc ca), some uw, some (.int (if k then 0 else 1)), some (.loc S.length)] (S ++ [.lst (acc ++ [byU (hvk k b)])]) := by
        unfold W_bod
        rw [go_ex (u := .non) (S1 := S ++ [.lst (acc ++ [byU (hvk k b)])])]
        · rw [go_set (x := uw) (S' := S ++ [Cel.lst (acc ++ [byU (hvk k b)])]) (ev_fld' (S1 := S ++ [Cel.lst (acc ++ [byU (hvk k b)])]) (ev_v' (u := .loc q) rfl) (gq _) (by rfl)), exs_nil]
          rfl
        · rw [ev_bm, ev_v' (u := .loc S.length) rfl, bind_ok, ty_app last_get, if_pos rfl, evs_cons, ev_ix, ca_meth (us := [byU b]) (S1 := S ++ [.lst acc]) rfl (gr_push.at_ hca) (by rw [evs_cons, ev_fld' (S1 := S ++ [Cel.lst acc]) (ev_v' (u := .loc q) rfl) (gq _) (by rfl), bind_ok, evs_nil, bind_ok]), en_halves, halves_eq (hw b List.mem_cons_self), bind_ok, ev_v' (u := .int (if k then 0 else 1)) rfl, bind_ok]
          have hx : ixU (.tup [byU (hv1 b), byU (hv2 b)]) (.int (if k then 0 else 1)) (S ++ [.lst acc]) = .ok (byU (hvk k b)) (S ++ [.lst acc]) := by cases k <;> rfl
          rw [hx, bind_ok, evs_nil, bind_ok, bind_ok, app_ok last_get hlt, last_set]
      obtain ⟨u', e', r'⟩ := ih m uw (acc ++ [byU (hvk k b)]) (by omega) (by simp; omega) (fun c hc => hw c (List.mem_cons_of_mem _ hc)) hca hr hb
      refine ⟨u', ?_, by rw [unw]; exact r'⟩
      rw [loopI, hc, on_ok, if_pos rfl, hbd, turn_nx, e', unw]
      simp
  | case2 v h =>
    intro n u acc hn hz hw hca hv hb
    have he : unw v = ([], v) := by rw [unw]; exact h
    rw [he] at hn ⊢
    obtain ⟨m, rfl⟩ : ∃ m, n = m + 1 := ⟨n - 1, by simp at hn; omega⟩
    have hno : noWr v := by have := unw_no v; rw [he] at this; exact this
    have hc : W_cnd (pg.cal (D + 1)) [some (.loc ca), some u, some (.int (if k then 0 else 1)), some (.loc S.length)] (S ++ [.lst acc]) = .ok false (S ++ [.lst acc]) := by
      unfold W_cnd
      refine ev_isio (ev_v' (u := u) rfl) (iso_no hno (hv.mono (nx_g gr_push)) fun n hn => ?_)
      obtain ⟨w, hw⟩ := hb n hn
      exact ⟨w, gr_push.at_ hw⟩
    refine ⟨u, ?_, hv⟩
    rw [loop_stop (by omega) hc]
    simp
theorem unwr_ok {k : Bool} {v : Va} {u : U} (hz : (unw v).1.length < 1000) (hw : ∀ b ∈ (unw v).1, wOk b) (hca : S[ca]? = some (.ins "Casts" [])) (hv : RV S ms β v u) (hb : ∀ n ∈ β, ∃ w, S[n]? = some (.ins "Box" [("held", w)])) :
    ∃ u' n S', (pg.cal (D + 2)).call "unwrapped" [.loc ca, u, .int (if k then 0 else 1)] S = .ok (.tup [u', .loc n]) S' ∧ Gr S S' ∧ S'[n]? = some (.lst (((unw v).1.map (hvk k)).reverse.map byU)) ∧ RV S ms β (unw v).2 u' := by
  obtain ⟨u', e', r'⟩ := unwr_go (D := D) (k := k) v fuel u [] (Nat.lt_trans hz (by decide)) (by simpa using hz) hw hca hv hb
  refine ⟨u', S.length + 1, (S ++ [.lst ([] ++ ((unw v).1.map fun b => byU (hvk k b)))]) ++ [.lst (([] ++ ((unw v).1.map fun b => byU (hvk k b))).reverse)], ?_, gr_push.trans gr_push, ?_, r'⟩
  · rw [call_eq (df := ⟨3, 4, false, T_unwrapped⟩) (by kernel_rfl), run_eq (by rfl)]
    unfold T_unwrapped
    rw [show ([U.loc ca, u, U.int (if k then 0 else 1)].map some ++ List.replicate (4 - 3) none : Oz.Env) = [some (.loc ca), some u, some (.int (if k then 0 else 1)), none] from rfl]
    rw [go_set (x := .loc S.length) (S' := S ++ [.lst []]) (by rw [ev_lst, evs_nil, bind_ok, if_pos (by show 0 ≤ sizeLine; decide)])]
    rw [exs_cons, ex_while]
    show ((loopI (W_cnd (pg.cal (D + 1))) (W_bod (pg.cal (D + 1))) fuel [some (.loc ca), some u, some (.int (if k then 0 else 1)), some (.loc S.length)] (S ++ [.lst []])).then_ _).fin = _
    rw [e', then_nx, go_ret (u := .tup [u', .loc (S.length + 1)]) (S' := (S ++ [.lst ([] ++ ((unw v).1.map fun b => byU (hvk k b)))]) ++ [.lst (([] ++ ((unw v).1.map fun b => byU (hvk k b))).reverse)])]
    · rfl
    · rw [ev_tup, evs_cons, ev_v' (u := u') rfl, bind_ok, evs_cons, ev_revl (n := S.length) (ev_v' (u := .loc S.length) rfl) last_get, bind_ok, evs_nil, bind_ok, bind_ok, bind_ok, if_pos (by show 2 ≤ sizeLine; decide)]
      simp
  · have hl : (S ++ [Cel.lst ([] ++ ((unw v).1.map fun b => byU (hvk k b)))]).length = S.length + 1 := by simp
    rw [← hl, last_get]
    simp [List.map_reverse]
end Pr
end
section
set_option maxHeartbeats 4000000
namespace Pr
open PySem L2 Oz
variable {S S' S'' S0 : Sto} {d D : Nat} {ms ms' ms'' β β' β'' : List Nat} {e fl pl ca : Nat} {core val : U} {C : Cf} {ls : List (Nat × Nat)}
noncomputable def okB (b : By) : Bool := decide (b.1.dep ≤ 15) && decide (b.2.1.dep ≤ 15)
noncomputable def okW (b : By) : Bool := okB (hv1 b) && (okB (hv2 b) && (decide (b.1.pt ≠ []) && decide (b.2.1.pt ≠ [])))
theorem okB_d {b : By} (h : okB b = true) : dOk b := by
  unfold okB at h
  rw [Bool.and_eq_true] at h
  exact ⟨of_decide_eq_true h.1, of_decide_eq_true h.2⟩
theorem okW_d {b : By} (h : okW b = true) : dOk (hv1 b) ∧ dOk (hv2 b) ∧ wOk b := by
  unfold okW at h
  simp only [Bool.and_eq_true] at h
  exact ⟨okB_d h.1, okB_d h.2.1, of_decide_eq_true h.2.2.1, of_decide_eq_true h.2.2.2⟩
noncomputable def gdW (w : List By) : Bool := w.all okW && decide (w.length < 1000)
theorem gdW_d {w : List By} (h : gdW w = true) : (∀ b ∈ w, dOk (hv1 b) ∧ dOk (hv2 b) ∧ wOk b) ∧ w.length < 1000 := by
  unfold gdW at h
  rw [Bool.and_eq_true, List.all_eq_true] at h
  exact ⟨fun b hb => okW_d (h.1 b hb), of_decide_eq_true h.2⟩
noncomputable abbrev Ro := Option ((Va × List Va) ⊕ Bl)
noncomputable def lft (bs : List Va) : Option (Va ⊕ Bl) → Ro
  | some (.inl v) => some (.inl (v, bs))
  | some (.inr q) => some (.inr q)
  | none => none
noncomputable def opA (t : Tx) (known bs : List Va) : Ro :=
  match t with
  | .box _ => (match known with | [v] => some (.inl (.bx bs.length, bs ++ [v])) | _ => none)
  | .get _ => (match known with | [v] => (match (unw v).2 with | .bx k => (match bs[k]? with | some x => if gdW (unw v).1 then lft bs (stl ((unw v).1.map hv2).reverse x) else none | none => none) | _ => none) | _ => none)
  | .put _ _ => (match known with | [v, x] => (match (unw v).2 with | .bx k => if gdW (unw v).1 && decide (k < bs.length) then (match stl ((unw v).1.map hv1) x with | some (.inl y) => some (.inl (.unit, bs.set k y)) | some (.inr q) => some (.inr q) | none => none) else none | _ => none) | _ => none)
  | _ => none
/-- what a value's making gives -/
noncomputable def Ov (S : Sto) (ms β : List Nat) (e fl pl ca : Nat) (core val : U) (C : Cf) (ls : List (Nat × Nat)) (r : R U) : (Va × List Va) ⊕ Bl → Prop
  | .inl (v, bs') => ∃ S' ms' β' u, r = .ok u S' ∧ CfOk S' ms' β' e fl pl ca core val { C with bs := bs' } ls ∧ Nx S ms β S' ms' β' ∧ RV S' ms' β' v u
  | .inr q => ∃ S', r = .exc "Stopped" (blF q) S' ∧ Gr S S'
theorem CfOk.boxes (h : CfOk S ms β e fl pl ca core val C ls) : ∀ n ∈ β, ∃ w, S[n]? = some (.ins "Box" [("held", w)]) := fun n hn => by
  obtain ⟨i, hi⟩ := List.getElem?_of_mem hn
  obtain ⟨v, _, u, a, _⟩ := All2.get2 h.hbs hi
  exact ⟨u, a⟩
theorem ov_of {r : R U} {o : Option (Va ⊕ Bl)} {z : (Va × List Va) ⊕ Bl} {S1 : Sto} (h : CfOk S ms β e fl pl ca core val C ls) (g : Gr S S1) (hz : lft C.bs o = some z) (ho : ∀ y, o = some y → Out S1 ms β r y) : Ov S ms β e fl pl ca core val C ls r z := by
  cases o with
  | none => cases hz
  | some y =>
    have q := ho y rfl
    cases y with
    | inl v =>
      cases hz
      obtain ⟨u, S', a, b, c⟩ := q
      exact ⟨S', ms, β, u, a, h.gr (g.trans b), nx_g (g.trans b), c⟩
    | inr q' =>
      cases hz
      obtain ⟨S', a, b⟩ := q
      exact ⟨S', a, g.trans b⟩
theorem got_out {v x : Va} {k : Nat} {u : U} {z : (Va × List Va) ⊕ Bl} (h : CfOk S ms β e fl pl ca core val C ls) (hv : RV S ms β v u) (hu : (unw v).2 = .bx k) (hx : C.bs[k]? = some x) (hg : gdW (unw v).1 = true) (hz : lft C.bs (stl ((unw v).1.map hv2).reverse x) = some z) :
    Ov S ms β e fl pl ca core val C ls ((pg.cal (D + 6)).call "got" [.loc ca, u] S) z := by
  obtain ⟨hw, hl⟩ := gdW_d hg
  obtain ⟨u', n, S1, e1, g1, l1, r1⟩ := unwr_ok (D := D + 3) (k := false) hl (fun b hb => (hw b hb).2.2) h.hca.1 hv h.boxes
  rw [hu] at r1
  cases r1 with
  | @bx _ q hq =>
    obtain ⟨q', q1, w, q2, q3⟩ := All2.get h.hbs hx
    rw [hq] at q1
    cases q1
    refine ov_of h g1 hz fun y hy => ?_
    have ho : Out S1 ms β ((pg.cal (D + 5)).call "made_all" [.loc ca, .loc n, w] S1) y := mall_out (D := D) (fun b hb => by
      rw [List.mem_reverse, List.mem_map] at hb
      obtain ⟨c, hc, rfl⟩ := hb
      exact (hw c hc).2.1) hy (g1.at_ h.hca.1) (q3.mono (nx_g g1)) (fun m hm => Nat.lt_of_lt_of_le (h.hlt m hm) g1.1) l1
    have he : (pg.cal (D + 6)).call "got" [.loc ca, u] S = (pg.cal (D + 5)).call "made_all" [.loc ca, .loc n, w] S1 := by
      rw [call_eq (df := ⟨2, 4, false, T_got⟩) (by kernel_rfl), run_eq (by rfl)]
      unfold T_got
      rw [show ([U.loc ca, u].map some ++ List.replicate (4 - 2) none : Oz.Env) = [some (.loc ca), some u, none, none] from rfl]
      rw [exs_cons, ex_set, ev_call, evs_cons, ev_v' (u := .loc ca) rfl, bind_ok, evs_cons, ev_v' (u := u) rfl, bind_ok, evs_cons, ev_k, bind_ok, evs_nil, bind_ok, bind_ok, bind_ok, bind_ok]
      have e1' : (pg.cal (D + 5)).call "unwrapped" [.loc ca, u, .int 1] S = .ok (.tup [.loc q, .loc n]) S1 := e1
      rw [e1', on_ok, set_tup rfl]
      show ((O.nx [some (.loc ca), some u, some (.loc q), some (.loc n)] S1).then_ _).fin = _
      rw [then_nx, exs_cons, ex_ret, ev_call, evs_cons, ev_v' (u := .loc ca) rfl, bind_ok, evs_cons, ev_v' (u := .loc n) rfl, bind_ok, evs_cons, ev_fld' (S1 := S1) (ev_v' (u := .loc q) rfl) (g1.at_ q2) (by rfl), bind_ok, evs_nil, bind_ok, bind_ok, bind_ok, bind_ok]
      cases (pg.cal (D + 5)).call "made_all" [.loc ca, .loc n, w] S1 <;> rfl
    rw [he]
    exact ho
theorem put_out {v x : Va} {k : Nat} {u ux : U} {z : (Va × List Va) ⊕ Bl} (h : CfOk S ms β e fl pl ca core val C ls) (hv : RV S ms β v u) (hxv : RV S ms β x ux) (hu : (unw v).2 = .bx k) (hk : k < C.bs.length) (hg : gdW (unw v).1 = true)
    (hz : (match stl ((unw v).1.map hv1) x with | some (.inl y) => some (.inl (.unit, C.bs.set k y)) | some (.inr q) => some (.inr q) | none => (none : Ro)) = some z) :
    Ov S ms β e fl pl ca core val C ls ((pg.cal (D + 6)).call "put" [.loc ca, u, ux] S) z := by
  obtain ⟨hw, hl⟩ := gdW_d hg
  obtain ⟨u', n, S1, e1, g1, l1, r1⟩ := unwr_ok (D := D + 3) (k := true) hl (fun b hb => (hw b hb).2.2) h.hca.1 hv h.boxes
  rw [hu] at r1
  cases r1 with
  | @bx _ q hq =>
    obtain ⟨v0, hv0⟩ : ∃ v0, C.bs[k]? = some v0 := ⟨_, List.getElem?_eq_getElem hk⟩
    obtain ⟨q', q1, w, q2, q3⟩ := All2.get h.hbs hv0
    rw [hq] at q1
    cases q1
    let S2 : Sto := S1 ++ [.lst (((unw v).1.map hv1).map byU)]
    have g2 : Gr S S2 := g1.trans gr_push
    have l2 : S2[S1.length]? = some (.lst (((unw v).1.map hv1).map byU)) := last_get
    have he : ∀ r, (pg.cal (D + 5)).call "made_all" [.loc ca, .loc S1.length, ux] S2 = r → (pg.cal (D + 6)).call "put" [.loc ca, u, ux] S = ((r.on fun u2 S3 => (setFldU (.loc q) "Box" "held" u2 S3).on fun _ S4 => O.nx [some (.loc ca), some u, some ux, some (.loc q), some (.loc n)] S4).then_ fun env S => exs (pg.cal (D + 5)) (.cons (.ret (.k .non)) .nil) env S).fin := fun r hr => by
      rw [call_eq (df := ⟨3, 5, false, T_put⟩) (by kernel_rfl), run_eq (by rfl)]
      unfold T_put
      rw [show ([U.loc ca, u, ux].map some ++ List.replicate (5 - 3) none : Oz.Env) = [some (.loc ca), some u, some ux, none, none] from rfl]
      rw [exs_cons, ex_set, ev_call, evs_cons, ev_v' (u := .loc ca) rfl, bind_ok, evs_cons, ev_v' (u := u) rfl, bind_ok, evs_cons, ev_k, bind_ok, evs_nil, bind_ok, bind_ok, bind_ok, bind_ok]
      have e1' : (pg.cal (D + 5)).call "unwrapped" [.loc ca, u, .int 0] S = .ok (.tup [.loc q, .loc n]) S1 := e1
      rw [e1', on_ok, set_tup rfl]
      show ((O.nx [some (.loc ca), some u, some ux, some (.loc q), some (.loc n)] S1).then_ _).fin = _
      have hrv : ev (pg.cal (D + 5)) (.revl (.v 4)) [some (.loc ca), some u, some ux, some (.loc q), some (.loc n)] S1 = .ok (.loc S1.length) S2 := by
        rw [ev_revl (n := n) (ev_v' (u := .loc n) rfl) l1]
        show R.ok _ _ = R.ok _ (S1 ++ _)
        rw [List.map_reverse, List.reverse_reverse]
        rfl
      rw [then_nx, exs_cons, ex_fset, ev_call, evs_cons, ev_v' (u := .loc ca) rfl, bind_ok, evs_cons, hrv, bind_ok, evs_cons, ev_v' (u := ux) rfl, bind_ok, evs_nil, bind_ok, bind_ok, bind_ok, bind_ok, hr]
      cases r with
      | ok u2 S3 =>
        rw [on_ok, on_ok, ev_v' (u := .loc q) rfl, on_ok]
      | exc c fs S3 => rfl
      | bad => rfl
    cases hy : stl ((unw v).1.map hv1) x with
    | none => rw [hy] at hz; cases hz
    | some y =>
      rw [hy] at hz
      have ho : Out S2 ms β ((pg.cal (D + 5)).call "made_all" [.loc ca, .loc S1.length, ux] S2) y := mall_out (D := D) (fun b hb => by
        rw [List.mem_map] at hb
        obtain ⟨c, hc, rfl⟩ := hb
        exact (hw c hc).1) hy (g2.at_ h.hca.1) (hxv.mono (nx_g g2)) (fun m hm => Nat.lt_of_lt_of_le (h.hlt m hm) g2.1) l2
      cases y with
      | inl y =>
        cases hz
        obtain ⟨u3, S3, e3, g3, r3⟩ := ho
        have g03 : Gr S S3 := g2.trans g3
        obtain ⟨c4, x4⟩ := (h.gr g03).setbox hq r3
        refine ⟨_, ms, β, .non, ?_, c4, (nx_g g03).trans x4, .unit⟩
        rw [he _ e3, on_ok]
        have hs : setFldU (.loc q) "Box" "held" u3 S3 = .ok () (S3.set q (.ins "Box" [("held", u3)])) := by
          unfold setFldU
          simp only [g03.at_ q2]
          rfl
        rw [hs, on_ok, then_nx, go_ret rfl]
        rfl
      | inr q' =>
        cases hz
        obtain ⟨S3, e3, g3⟩ := ho
        refine ⟨S3, ?_, g2.trans g3⟩
        rw [he _ e3, on_exc, then_exc]
        rfl
end Pr
end
section
set_option maxHeartbeats 4000000
namespace Pr
open PySem L2 Oz
variable {S S' S'' S0 : Sto} {d D : Nat} {ms ms' ms'' β β' β'' : List Nat} {e fl pl ca : Nat} {core val : U} {C : Cf} {ls : List (Nat × Nat)}
theorem ret_fin {Φ : Cal} {ex : E} {env : Oz.Env} : (exs Φ (.cons (.ret ex) .nil) env S).fin = ev Φ ex env S := by
  rw [exs_cons, ex_ret]
  cases ev Φ ex env S <;> rfl
theorem opd' {t : Tx} {c : U} {kn : Nat} {ex : E} {r : R U} (hm : exc (pg.cal D) O_cs (.str t.hd) [some c, some t.eu, some (.loc kn)] S = exs (pg.cal D) (.cons (.ret ex) .nil) [some c, some t.eu, some (.loc kn)] S) (he : ev (pg.cal D) ex [some c, some t.eu, some (.loc kn)] S = r) :
    (pg.cal (D + 1)).call "operated" [c, t.eu, .loc kn] S = r := by
  rw [call_eq (df := ⟨3, 3, false, T_operated⟩) (by kernel_rfl), run_eq (by rfl), operated_eq]
  rw [show ([c, t.eu, U.loc kn].map some ++ List.replicate (3 - 3) none : Oz.Env) = [some c, some t.eu, some (.loc kn)] from rfl]
  rw [go_last (o := exs (pg.cal D) (.cons (.ret ex) .nil) [some c, some t.eu, some (.loc kn)] S), ret_fin, he]
  rw [ex_mtch, ev_ix, ev_v' rfl, bind_ok, ev_k, bind_ok, ix_head, on_ok, hm]
theorem absn {α : Prop} {β : Type} {z : β} (h : (none : Option β) = some z) : α := nomatch h
theorem opA_out {t : Tx} {known : List Va} {us : List U} {kn : Nat} {z : (Va × List Va) ⊕ Bl} (hp : opA t known C.bs = some z) (h : CfOk S ms β e fl pl ca core val C ls) (hk : S[kn]? = some (.lst us)) (hu : All2 (RV S ms β) known us) :
    Ov S ms β e fl pl ca core val C ls ((pg.cal (D + 7)).call "operated" [.loc ca, t.eu, .loc kn] S) z := by
  have ok : ∀ {v : Va} {bs' : List Va}, Vp t known C.bs v bs' → z = .inl (v, bs') → Ov S ms β e fl pl ca core val C ls ((pg.cal (D + 7)).call "operated" [.loc ca, t.eu, .loc kn] S) z := by
    rintro v bs' hv rfl
    obtain ⟨S1, ms1, β1, u, e1, c1, x1, r1⟩ := operated_ok (D := D + 3) hv h hk hu
    exact ⟨S1, ms1, β1, u, e1, c1, x1, r1⟩
  cases t with
  | box a =>
    unfold opA at hp; dsimp only at hp
    split at hp
    · cases hp; exact ok .box rfl
    · exact absn hp
  | get a =>
    unfold opA at hp; dsimp only at hp
    split at hp
    · cases hu with
      | cons ha hn =>
        cases hn
        split at hp
        · rename_i q
          split at hp
          · rename_i x hx
            split at hp
            · rename_i hg
              rw [opd' (D := D + 6) rfl (show ev _ _ _ S = (pg.cal (D + 6)).call "got" [.loc ca, _] S from by rw [ev_call, evs_cons, ev_v' rfl, bind_ok, evs_cons, kn0 hk, bind_ok, evs_nil, bind_ok, bind_ok, bind_ok])]
              exact got_out (D := D) h ha q hx hg hp
            · exact absn hp
          · exact absn hp
        · exact absn hp
    · exact absn hp
  | put a b =>
    unfold opA at hp; dsimp only at hp
    split at hp
    · cases hu with
      | cons ha hr =>
        cases hr with
        | cons hb hn =>
          cases hn
          split at hp
          · rename_i q
            split at hp
            · rename_i hg
              rw [Bool.and_eq_true] at hg
              rw [opd' (D := D + 6) rfl (show ev _ _ _ S = (pg.cal (D + 6)).call "put" [.loc ca, _, _] S from by rw [ev_call, evs_cons, ev_v' rfl, bind_ok, evs_cons, kn0 hk, bind_ok, evs_cons, kn1 hk, bind_ok, evs_nil, bind_ok, bind_ok, bind_ok, bind_ok])]
              exact put_out (D := D) h ha hb q (of_decide_eq_true hg.2) hg.1 hp
            · exact absn hp
          · exact absn hp
    · exact absn hp
  | _ => exact absn hp
noncomputable def valA (f : Fm) (bs : List Va) : Ro :=
  match f.core with
  | .num i => some (.inl (.int i, bs))
  | .flag k => some (.inl (.bl k, bs))
  | .name x => (match lkA f.env x with | some v => some (.inl (v, bs)) | none => none)
  | .fn x _ b => some (.inl (.fn none x b f.env, bs))
  | t => opA t f.known bs
theorem rest_val' {t : Tx} {known bs : List Va} {z : (Va × List Va) ⊕ Bl} {e' n : U} (h : opA t known bs = some z) : exc (pg.cal D) V_cs t.eu [some e', some n, none, none, none, none, none] S = exs (pg.cal D) (.cons (.ret (.call "operated" (.cons (.fld (.v 0) "Evaluation" "casting") (.cons (.fld (.v 1) "Frame" "core") (.cons (.fld (.v 1) "Frame" "known") .nil))))) .nil) [some e', some n, none, none, none, none, none] S := by
  cases t <;> first | exact absn h | rfl
theorem val_form' {n sc aw kn : Nat} {t : Tx} {p : Pd} {env' : Oz.Env} {ex : E} {r : R U} (h : S[n]? = some (fmC t sc p aw kn)) (hm : exc (pg.cal D) V_cs t.eu [some (.loc e), some (.loc n), none, none, none, none, none] S = exs (pg.cal D) (.cons (.ret ex) .nil) env' S) (he : ev (pg.cal D) ex env' S = r) :
    (pg.cal (D + 1)).call "Evaluation.value_of" [.loc e, .loc n] S = r := by
  rw [call_eq (df := ⟨2, 7, false, T_Evaluation_value_of⟩) (by kernel_rfl), run_eq (by rfl), value_of_eq]
  rw [show ([U.loc e, U.loc n].map some ++ List.replicate (7 - 2) none : Oz.Env) = [some (.loc e), some (.loc n), none, none, none, none, none] from rfl]
  rw [go_last (o := exs (pg.cal D) (.cons (.ret ex) .nil) env' S), ret_fin, he]
  rw [ex_mtch, fr_fld rfl h (by rfl), on_ok, hm]
theorem val_out {f : Fm} {l : Nat × Nat} {z : (Va × List Va) ⊕ Bl} (hv : valA f C.bs = some z) (hf : FrOk S ms β f l) (h : CfOk S ms β e fl pl ca core val C ls) :
    Ov S ms β e fl pl ca core val C ls ((pg.cal (D + 8)).call "Evaluation.value_of" [.loc e, .loc l.1] S) z := by
  have ok : ∀ {v : Va} {bs' : List Va}, Vo f C.bs v bs' → z = .inl (v, bs') → Ov S ms β e fl pl ca core val C ls ((pg.cal (D + 8)).call "Evaluation.value_of" [.loc e, .loc l.1] S) z := by
    rintro v bs' hvo rfl
    obtain ⟨S1, ms1, β1, u, e1, c1, x1, r1⟩ := value_ok (D := D + 3) hvo hf h
    exact ⟨S1, ms1, β1, u, e1, c1, x1, r1⟩
  have ot : opA f.core f.known C.bs = some z → Ov S ms β e fl pl ca core val C ls ((pg.cal (D + 8)).call "Evaluation.value_of" [.loc e, .loc l.1] S) z := fun ho => by
    obtain ⟨sc, aw, us, kvs, h1, h2, h3, h4, h5, h6, h7, h8⟩ := hf
    rw [val_form' (D := D + 7) h1.1 (rest_val' ho) (show ev _ _ _ S = (pg.cal (D + 7)).call "operated" [.loc ca, f.core.eu, .loc l.2] S from by rw [ev_call, evs_cons, ev_self rfl h.hev (by rfl), bind_ok, evs_cons, fr_fld rfl h1.1 (by rfl), bind_ok, evs_cons, fr_fld rfl h1.1 (by rfl), bind_ok, evs_nil, bind_ok, bind_ok, bind_ok, bind_ok])]
    exact opA_out (D := D) ho h h7 h8
  unfold valA at hv
  split at hv
  · rename_i hc; cases hv; exact ok (.num hc) rfl
  · rename_i hc; cases hv; exact ok (.flag hc) rfl
  · rename_i hc
    split at hv
    · rename_i hx; cases hv; exact ok (.name hc hx) rfl
    · exact absn hv
  · rename_i hc; cases hv; exact ok (.fn hc) rfl
  · exact ot hv
end Pr
end
section
set_option maxHeartbeats 4000000
namespace Pr
open PySem L2 Oz
variable {S S' S'' S0 : Sto} {d D : Nat} {ms ms' ms'' β β' β'' : List Nat} {e fl pl ca : Nat} {core val : U} {C : Cf} {ls : List (Nat × Nat)}
noncomputable def ciA : Va → Va → Pd → Option ((Va × Va × Pd) ⊕ Bl)
  | .wr g b, a, p => if okW b then (match md (hv1 b) a with
      | some (.inl a') => ciA g a' (hv2 b :: p)
      | some (.inr q) => some (.inr q)
      | none => none) else none
  | g, a, p => some (.inl (g, a, p))
noncomputable def C_cnd (Φ : Cal) : Oz.Env → Sto → R Bool := fun env S => evt Φ (.e (.isio (.v 1) ["Wrapped"] AllC)) env S
noncomputable def C_bod (Φ : Cal) : Oz.Env → Sto → O := fun env S => exs Φ (.cons (.set true [4, 5] (.meth (.v 0) "Casts" "halves" (.cons (.fld (.v 1) "Wrapped" "by") .nil))) (.cons (.set false [2] (.meth (.v 0) "Casts" "made" (.cons (.v 4) (.cons (.v 2) .nil)))) (.cons (.set false [3] (.meth (.v 0) "Casts" "added" (.cons (.v 5) (.cons (.v 3) .nil)))) (.cons (.set false [1] (.fld (.v 1) "Wrapped" "inside")) .nil)))) env S
noncomputable def OutC (S : Sto) (ms β : List Nat) (ca : Nat) (o : O) : (Va × Va × Pd) ⊕ Bl → Prop
  | .inl (g, a, p) => ∃ u w x y S', o = .nx [some (.loc ca), some u, some w, some (peU p), x, y] S' ∧ Gr S S' ∧ RV S' ms β g u ∧ RV S' ms β a w
  | .inr q => ∃ S', o = .exc "Stopped" (blF q) S' ∧ Gr S S'
theorem OutC.gr {o : O} {z : (Va × Va × Pd) ⊕ Bl} (g : Gr S S') (h : OutC S' ms β ca o z) : OutC S ms β ca o z := by
  cases z with
  | inl t =>
    obtain ⟨u, w, x, y, S1, a, b, c⟩ := h
    exact ⟨u, w, x, y, S1, a, g.trans b, c⟩
  | inr q =>
    obtain ⟨S1, a, b⟩ := h
    exact ⟨S1, a, g.trans b⟩
theorem en_added : ("Casts" ++ "." ++ "added" : Str) = "Casts.added" := by decide +kernel
theorem en_of_cast : ("Casts" ++ "." ++ "of_cast" : Str) = "Casts.of_cast" := by decide +kernel
theorem added_eq {c : U} {b : By} {p : Pd} : (pg.cal (d + 1)).call "Casts.added" [c, byU b, peU p] S = .ok (peU (b :: p)) S := by
  rw [call_eq (df := ⟨3, 3, false, T_Casts_added⟩) (by kernel_rfl), run_eq (by rfl)]
  rfl
theorem of_cast_eq {c : U} {n : Int} {s t : Ty} : (pg.cal (d + 1)).call "Casts.of_cast" [c, .int n, tu s, tu t] S = .ok (byU (s, t, n, 1)) S := by
  rw [call_eq (df := ⟨4, 4, false, T_Casts_of_cast⟩) (by kernel_rfl), run_eq (by rfl)]
  rfl
theorem ci_go : ∀ (g : Va) (n : Nat) (a : Va) (p : Pd) (u w : U) (x y : Option U) (S : Sto) (z : (Va × Va × Pd) ⊕ Bl), (unw g).1.length < n → ciA g a p = some z → S[ca]? = some (.ins "Casts" []) → RV S ms β g u → RV S ms β a w → (∀ n ∈ β, ∃ w, S[n]? = some (.ins "Box" [("held", w)])) → (∀ n ∈ ms, n < S.length) →
    OutC S ms β ca (loopI (C_cnd (pg.cal (D + 4))) (C_bod (pg.cal (D + 4))) n [some (.loc ca), some u, some w, some (peU p), x, y] S) z := by
  intro g
  induction g using unw.induct with
  | case1 v b ih =>
    intro n a p u w x y S z hn hz hca hv ha hb hlt
    rw [unw] at hn
    simp only [List.length_cons] at hn
    obtain ⟨m, rfl⟩ : ∃ m, n = m + 1 := ⟨n - 1, by omega⟩
    unfold ciA at hz
    split at hz
    · rename_i hw
      obtain ⟨d1, d2, wk⟩ := okW_d hw
      cases hv with
      | @wr _ _ q uw hq hr =>
        have hc : C_cnd (pg.cal (D + 4)) [some (.loc ca), some (.loc q), some w, some (peU p), x, y] S = .ok true S := by
          unfold C_cnd
          rw [ev_isio (ev_v' (u := .loc q) rfl) (iso_in hq.1 (by decide +kernel))]
          rfl
        have hset : ∀ sts, exs (pg.cal (D + 4)) (.cons (.set true [4, 5] (.meth (.v 0) "Casts" "halves" (.cons (.fld (.v 1) "Wrapped" "by") .nil))) sts) [some (.loc ca), some (.loc q), some w, some (peU p), x, y] S = exs (pg.cal (D + 4)) sts [some (.loc ca), some (.loc q), some w, some (peU p), some (byU (hv1 b)), some (byU (hv2 b))] S := fun sts => by
          rw [exs_cons, ex_set, ca_meth (us := [byU b]) (S1 := S) rfl hca (by rw [evs_cons, ev_fld' (S1 := S) (ev_v' (u := .loc q) rfl) hq.1 (by rfl), bind_ok, evs_nil, bind_ok]), en_halves, halves_eq wk, on_ok, set_tup rfl]
          rfl
        have hev : ∀ r, (pg.cal (D + 4)).call "Casts.made" [.loc ca, byU (hv1 b), w] S = r → ev (pg.cal (D + 4)) (.meth (.v 0) "Casts" "made" (.cons (.v 4) (.cons (.v 2) .nil))) [some (.loc ca), some (.loc q), some w, some (peU p), some (byU (hv1 b)), some (byU (hv2 b))] S = r := fun r hr => by
          rw [ca_meth (us := [byU (hv1 b), w]) (S1 := S) rfl hca (by rw [evs_cons, ev_v' (u := byU (hv1 b)) rfl, bind_ok, evs_cons, ev_v' (u := w) rfl, bind_ok, evs_nil, bind_ok, bind_ok]), en_made]
          exact hr
        rw [loopI, hc, on_ok, if_pos rfl]
        show OutC S ms β ca ((exs (pg.cal (D + 4)) _ _ S).turn _) z
        rw [hset]
        cases hm : md (hv1 b) a with
        | none => rw [hm] at hz; exact absn hz
        | some o1 =>
          rw [hm] at hz
          have ho := made_out (D := D) d1 hm hca ha hlt
          cases o1 with
          | inl a' =>
            obtain ⟨u1, S1, e1, g1, r1⟩ := ho
            refine OutC.gr g1 ?_
            rw [go_set (hev _ e1)]
            rw [go_set (x := peU (hv2 b :: p)) (S' := S1) (by
              rw [ca_meth (us := [byU (hv2 b), peU p]) (S1 := S1) rfl (g1.at_ hca) (by rw [evs_cons, ev_v' (u := byU (hv2 b)) rfl, bind_ok, evs_cons, ev_v' (u := peU p) rfl, bind_ok, evs_nil, bind_ok, bind_ok]), en_added, added_eq])]
            rw [go_set (x := uw) (S' := S1) (ev_fld' (S1 := S1) (ev_v' (u := .loc q) rfl) (g1.at_ hq.1) (by rfl)), exs_nil, turn_nx]
            exact ih m a' (hv2 b :: p) uw u1 (some (byU (hv1 b))) (some (byU (hv2 b))) S1 z (by omega) hz (g1.at_ hca) (hr.mono (nx_g g1)) r1 (fun k hk => by
              obtain ⟨w, hw⟩ := hb k hk
              exact ⟨w, g1.at_ hw⟩) (fun k hk => Nat.lt_of_lt_of_le (hlt k hk) g1.1)
          | inr q' =>
            cases hz
            obtain ⟨S1, e1, g1⟩ := ho
            refine ⟨S1, ?_, g1⟩
            rw [exs_cons, ex_set, hev _ e1, on_exc, then_exc, turn_exc']
    · exact absn hz
  | case2 v h =>
    intro n a p u w x y S z hn hz hca hv ha hb hlt
    obtain ⟨m, rfl⟩ : ∃ m, n = m + 1 := ⟨n - 1, by omega⟩
    have hno : noWr v := by cases v <;> first | trivial | exact absurd rfl (h _ _)
    have he : ciA v a p = some (.inl (v, a, p)) := by cases v <;> first | rfl | exact absurd rfl (h _ _)
    rw [he] at hz
    cases hz
    refine ⟨u, w, x, y, S, ?_, Gr.refl, hv, ha⟩
    exact loop_stop (by omega) (by
      unfold C_cnd
      exact ev_isio (ev_v' (u := u) rfl) (iso_no hno hv hb))
noncomputable def scA (own : Option Str) (x : Str) (body : Tx) (env : En) (a : Va) : En := putA (match own with | some g => putA env g (.fn own x body env) | none => env) x a
theorem dset_ok {Φ : Cal} {env : Oz.Env} {o i v : E} {n : Nat} {x : Str} {u : U} {kvs : List (Key × U)} {sts : Sts} (ho : ev Φ o env S = .ok (.loc n) S) (hi : ev Φ i env S = .ok (.str x) S) (hv : ev Φ v env S = .ok u S) (hn : S[n]? = some (.dic kvs)) (hz : kvs.length < 2000) : exs Φ (.cons (.dset o i v) sts) env S = exs Φ sts env (S.set n (.dic (putKU kvs (.inr x) u))) := by
  have hd : dsetU (.loc n) (.str x) u S = .ok () (S.set n (.dic (putKU kvs (.inr x) u))) := by
    unfold dsetU
    simp only [keyU, hn]
    rw [if_pos (Nat.lt_trans hz (by decide))]
  rw [exs_cons, ex, hv, on_ok, ho, on_ok, hi, on_ok, hd, on_ok, then_nx]
theorem scope_ok {own : Option Str} {x : Str} {body : Tx} {env : En} {a : Va} {n : Nat} {w : U} (hf : RV S ms β (.fn own x body env) (.loc n)) (ha : RV S ms β a w) (hl : env.length < 990) (hlt : ∀ n ∈ ms, n < S.length) :
    ∃ S' kvs, (pg.cal (D + 1)).call "Function.scope_with" [.loc n, w] S = .ok (.loc S.length) S' ∧ Gr S S' ∧ S'[S.length]? = some (.dic kvs) ∧ RVs S' ms β (scA own x body env a) kvs ∧ ndA (scA own x body env a) ∧ (scA own x body env a).length ≤ env.length + 2 := by
  have hf0 := hf
  cases hf with
  | @fn _ _ _ _ _ m kvs hn hm hr hnd =>
    have hk0 : kvs.length = env.length := hr.length
    let S1 : Sto := S ++ [.dic kvs]
    have g1 : Gr S S1 := gr_push
    have hdc : ∀ env : Oz.Env, env[0]? = some (some (.loc n)) → ev (pg.cal D) (.dcp (.fld (.v 0) "Function" "scope")) env S = .ok (.loc S.length) S1 := fun env h0 => by
      show (ev _ _ env S).bind _ = _
      rw [ev_fld' (S1 := S) (ev_v' h0) hn.1 (by rfl), bind_ok]
      unfold dcpU
      simp only [hm.1]
      rfl
    have hne : n ≠ S.length := fun z => by have := (List.getElem?_eq_some_iff.mp hn.1).1; omega
    have key : ∀ (env1 : En) (kvs1 : List (Key × U)), RVs S ms β env1 kvs1 → ndA env1 → env1.length ≤ env.length + 1 → ∃ S' kvs', (exs (pg.cal D) (.cons (.dset (.v 2) (.fld (.v 0) "Function" "name") (.v 1)) (.cons (.ret (.v 2)) .nil)) [some (.loc n), some w, some (.loc S.length)] (S ++ [.dic kvs1])).fin = .ok (.loc S.length) S' ∧ Gr S S' ∧ S'[S.length]? = some (.dic kvs') ∧ RVs S' ms β (putA env1 x a) kvs' ∧ ndA (putA env1 x a) ∧ (putA env1 x a).length ≤ env.length + 2 := by
      intro env1 kvs1 h1 h2 h3
      have g2 : Gr S (S ++ [Cel.dic (putKU kvs1 (.inr x) w)]) := gr_push
      refine ⟨S ++ [.dic (putKU kvs1 (.inr x) w)], _, ?_, g2, last_get, (h1.mono (nx_g g2)).put x (ha.mono (nx_g g2)), nd_putA h2 x a, by have := len_putA env1 x a; omega⟩
      rw [dset_ok (n := S.length) (x := x) (u := w) (kvs := kvs1) (ev_v' (u := .loc S.length) rfl) (ev_fld' (S1 := S ++ [Cel.dic kvs1]) (ev_v' (u := .loc n) rfl) (gr_push.at_ hn.1) (by rfl)) (ev_v' (u := w) rfl) last_get (by rw [h1.length]; omega), last_set, go_ret (ev_v' (u := .loc S.length) rfl)]
      rfl
    have hrun : (pg.cal (D + 1)).call "Function.scope_with" [.loc n, w] S = (exs (pg.cal D) (.cons (.if_ (.e (.cmp .isNotN (.fld (.v 0) "Function" "own") (.k .non))) (.cons (.dset (.v 2) (.fld (.v 0) "Function" "own") (.v 0)) .nil) .nil) (.cons (.dset (.v 2) (.fld (.v 0) "Function" "name") (.v 1)) (.cons (.ret (.v 2)) .nil))) [some (.loc n), some w, some (.loc S.length)] S1).fin := by
      rw [call_eq (df := ⟨2, 3, false, T_Function_scope_with⟩) (by kernel_rfl), run_eq (by rfl)]
      unfold T_Function_scope_with
      rw [show ([U.loc n, w].map some ++ List.replicate (3 - 2) none : Oz.Env) = [some (.loc n), some w, none] from rfl, go_set (hdc _ rfl)]
      rfl
    have hfo : ev (pg.cal D) (.fld (.v 0) "Function" "own") [some (.loc n), some w, some (.loc S.length)] S1 = .ok (owU own) S1 := ev_fld' (S1 := S1) (ev_v' (u := .loc n) rfl) (g1.at_ hn.1) (by rfl)
    rw [hrun]
    cases own with
    | none =>
      have ht : evt (pg.cal D) (.e (.cmp .isNotN (.fld (.v 0) "Function" "own") (.k .non))) [some (.loc n), some w, some (.loc S.length)] S1 = .ok false S1 := by
        rw [evt_e, ev_cmp, hfo, bind_ok, ev_k, bind_ok]
        rfl
      rw [go_skip ht]
      exact key env kvs hr hnd (by omega)
    | some g =>
      have ht : evt (pg.cal D) (.e (.cmp .isNotN (.fld (.v 0) "Function" "own") (.k .non))) [some (.loc n), some w, some (.loc S.length)] S1 = .ok true S1 := by
        rw [evt_e, ev_cmp, hfo, bind_ok, ev_k, bind_ok]
        rfl
      rw [exs_cons, ex_if, ht, on_ok, if_pos rfl, dset_ok (n := S.length) (x := g) (u := .loc n) (kvs := kvs) (ev_v' (u := .loc S.length) rfl) hfo (ev_v' (u := .loc n) rfl) last_get (by omega), last_set, exs_nil, then_nx]
      exact key (putA env g (.fn (some g) x body env)) (putKU kvs (.inr g) (.loc n)) (hr.put g hf0) (nd_putA hnd _ _) (by have := len_putA env g (.fn (some g) x body env); omega)
end Pr
end
section
set_option maxHeartbeats 4000000
namespace Pr
open PySem L2 Oz
variable {S S' S'' S0 : Sto} {d D : Nat} {ms ms' ms'' β β' β'' : List Nat} {e fl pl ca : Nat} {core val : U} {C : Cf} {ls : List (Nat × Nat)}
theorem on_cast {f : Fm} {l : Nat × Nat} {n : Int} {s t : Ty} {a : Tx} (hf : FrOk S ms β f l) (hc : f.core = .cast n s t a) (h : CfOk S ms β e fl pl ca core val C ls) (hz : C.fr.length < 1000000) :
    ∃ S' at' kn, (pg.cal (D + 5)).call "Evaluation.go_on" [.loc e, .loc l.1] S = .ok .non S' ∧ CfOk S' (kn :: ms) β e fl pl ca core val { C with fr := ⟨a, f.env, (s, t, n, 1) :: f.pend, []⟩ :: C.fr } ((at', kn) :: ls) ∧ Nx S ms β S' (kn :: ms) β := by
  obtain ⟨sc, aw, us, kvs, h1, h2, h3, h4, h5, h6, h7, h8⟩ := hf
  rw [hc] at h1
  obtain ⟨S2, kn, e2, c2, x2⟩ := begin_eq (D := D) h a (env := f.env) ((s, t, n, 1) :: f.pend) h2 h3 h4 h5 hz
  refine ⟨S2, S.length, kn, ?_, c2, x2⟩
  rw [on_form (env' := [some (.loc e), some (.loc l.1), some (.int n), some (tu s), some (tu t), some a.eu, none, none, none, none, none]) (B := G_cast) h1.1 (by unfold G_cs; simp only [Tx.eu]; simp only [Oz.bind_ok, Oz.bind_exc, Oz.bind_bad, Oz.on_ok, Oz.on_exc, Oz.then_nx, Oz.then_ret, Oz.then_exc, Oz.then_bk, Oz.then_ct, Oz.turn_nx, Oz.turn_ret, Oz.turn_exc, Oz.fin_nx, Oz.fin_ret, Oz.fin_exc, Oz.rO_some, Oz.noex_ok, Oz.ev_v, Oz.ev_k, Oz.ev_tup, Oz.ev_lst, Oz.ev_bin, Oz.ev_neg, Oz.ev_cmp, Oz.ev_and, Oz.ev_or, Oz.ev_not, Oz.ev_ife, Oz.ev_ix, Oz.ev_sl, Oz.ev_call, Oz.ev_bf, Oz.ev_bm, Oz.ev_isi, Oz.evo_no, Oz.evo_so, Oz.evs_nil, Oz.evs_cons, Oz.evs_star, Oz.evt_tt, Oz.evt_e, Oz.evt_and, Oz.evt_or, Oz.evt_not, Oz.ex_mtch, Oz.exc_nil, Oz.exc_cons, Oz.pt_wild, Oz.pt_val, Oz.pt_seq, Oz.pi_nil, Oz.pi_lit, Oz.pi_cap, Oz.pi_wild, Oz.ev_kcall, Oz.ofS_inj, String.reduceEq, Nat.reduceEqDiff, Oz.ex_set, Oz.ex_sub, Oz.ex_aug, Oz.ex_ex, Oz.ex_ret, Oz.ex_if, Oz.exs_nil, Oz.exs_cons, Oz.tru_bl, Oz.tru_int, Oz.add_int, Oz.sub_int, Oz.aug_add_int, Oz.aug_sub_int, Oz.c_eq_int, Oz.c_ne_int, Oz.c_lt_int, Oz.c_le_int, Oz.c_gt_int, Oz.c_ge_int, Oz.c_eq_str, Oz.c_ne_str, Oz.set_int, List.replicate_succ, List.replicate_zero, List.getElem?_cons_zero, List.getElem?_cons_succ, List.set_cons_zero, List.set_cons_succ, List.map_cons, List.map_nil, List.cons_append, List.nil_append, List.append_nil, if_true, if_false, Bool.false_eq_true, Bool.true_eq_false, decide_eq_true_eq, true_and, and_true, Bool.not_true, Bool.not_false, List.length_cons, List.length_nil, Nat.zero_add, Nat.reduceAdd, true_and])]
  unfold G_cast
  rw [go_set (x := byU (s, t, n, 1)) (S' := S) (by rw [meth_ca (us := [.int n, tu s, tu t]) (S1 := S) rfl h (by rw [evs_cons, ev_v' rfl, bind_ok, evs_cons, ev_v' rfl, bind_ok, evs_cons, ev_v' rfl, bind_ok, evs_nil, bind_ok, bind_ok, bind_ok]), en_of_cast, of_cast_eq])]
  rw [go_ex (u := .non) (S1 := S2)]
  · rfl
  · have ea : ∀ env : Oz.Env, env[0]? = some (some (.loc e)) → env[1]? = some (some (.loc l.1)) → env[6]? = some (some (byU (s, t, n, 1))) → ev (pg.cal (D + 4)) (.meth (.fld (.v 0) "Evaluation" "casting") "Casts" "added" (.cons (.v 6) (.cons (.fld (.v 1) "Frame" "pending") .nil))) env S = .ok (peU ((s, t, n, 1) :: f.pend)) S := fun env h0 h1' h6' => by
      rw [meth_ca (us := [byU (s, t, n, 1), peU f.pend]) (S1 := S) h0 h (by rw [evs_cons, ev_v' h6', bind_ok, evs_cons, fr_fld h1' h1.1 (by rfl), bind_ok, evs_nil, bind_ok, bind_ok]), en_added, added_eq]
    rw [meth_ev (C := C) (us := [a.eu, .loc sc, peU ((s, t, n, 1) :: f.pend)]) (S1 := S) rfl h.hev (by rfl) (by rw [evs_cons, ev_v' (u := a.eu) rfl, bind_ok, evs_cons, fr_fld (n := l.1) rfl h1.1 (by rfl), bind_ok, evs_cons, ea _ rfl rfl rfl, bind_ok, evs_nil, bind_ok, bind_ok, bind_ok]), en_begin]
    exact e2
theorem CfOk.calls (h : CfOk S ms β e fl pl ca core val C ls) (k : Int) : CfOk (S.set e (evC ca pl fl k core val)) ms β e fl pl ca core val { C with calls := k } ls ∧ Nx S ms β (S.set e (evC ca pl fl k core val)) ms β := by
  have hem : e ∈ ms := h.hms e (by simp [muts])
  have hel : e < S.length := h.hlt _ hem
  obtain ⟨n1, n2, n3, n4, n5⟩ := h.ne
  have nx : Nx S ms β (S.set e (evC ca pl fl k core val)) ms β := nx_set hem
  have s1 : ∀ n, n ≠ e → (S.set e (evC ca pl fl k core val))[n]? = S[n]? := fun n hn => List.getElem?_set_ne (Ne.symm hn)
  obtain ⟨us, q1, q2⟩ := h.hpl
  refine ⟨⟨List.getElem?_set_self hel, by rw [s1 fl (Ne.symm n1)]; exact h.hfl, All2.imp h.hfr fun f l hl hf => hf.mono nx (s1 _ (n4 l.2 (List.mem_append_left _ (List.mem_map_of_mem hl))).1), ⟨us, by rw [s1 pl (Ne.symm n2)]; exact q1, All2.mapP q2 fun _ _ r => r.mono nx⟩, ?_, h.hnd, h.hms, h.hca.mono nx, fun n hn => by rw [List.length_set]; exact h.hlt n hn⟩, nx⟩
  exact All2.imp h.hbs fun v n hn ⟨u, q1, q2⟩ => ⟨u, by rw [s1 n (n4 n (List.mem_append_right _ hn)).1]; exact q1, q2.mono nx⟩
theorem en_enter : ("Evaluation" ++ "." ++ "enter" : Str) = "Evaluation.enter" := by decide +kernel
theorem en_call : ("Evaluation" ++ "." ++ "call" : Str) = "Evaluation.call" := by decide +kernel
theorem enter_ok (h : CfOk S ms β e fl pl ca core val C ls) (hc : C.calls ≠ 0) : (pg.cal (D + 1)).call "Evaluation.enter" [.loc e] S = .ok .non (S.set e (evC ca pl fl (C.calls - 1) core val)) := by
  rw [call_eq (df := ⟨1, 1, false, T_Evaluation_enter⟩) (by kernel_rfl), run_eq (by rfl)]
  unfold T_Evaluation_enter
  rw [show ([U.loc e].map some ++ List.replicate (1 - 1) none : Oz.Env) = [some (.loc e)] from rfl]
  rw [go_skip (S' := S) (by rw [evt_e, ev_cmp, ev_self rfl h.hev (by rfl), bind_ok, ev_k, bind_ok, c_eq_int, decide_eq_false hc, bind_ok, tru_bl, rO_some])]
  rw [go_faug (x := .int C.calls) (y := .int 1) (z := .int (C.calls - 1)) (n := e) (S1 := S) rfl h.hev (by rfl) rfl aug_sub_int h.hev (by show 6 < 900; decide)]
  rfl
theorem enter_no (h : CfOk S ms β e fl pl ca core val C ls) (hc : C.calls = 0) : (pg.cal (D + 2)).call "Evaluation.enter" [.loc e] S = .exc "Stopped" [("end", .tup [.str "calls"])] S := by
  rw [call_eq (df := ⟨1, 1, false, T_Evaluation_enter⟩) (by kernel_rfl), run_eq (by rfl)]
  unfold T_Evaluation_enter
  rw [show ([U.loc e].map some ++ List.replicate (1 - 1) none : Oz.Env) = [some (.loc e)] from rfl]
  rw [exs_cons, ex_if, evt_e, ev_cmp, ev_self rfl h.hev (by rfl), bind_ok, ev_k, bind_ok, c_eq_int, decide_eq_true hc, bind_ok, tru_bl, rO_some, on_ok, if_pos rfl, exs_cons, ex_raise (g := "end") (by rfl), ev_tup, evs_cons, ev_k, bind_ok, evs_nil, bind_ok, bind_ok, if_pos (by show 1 ≤ sizeLine; decide), on_ok]
  rfl
/-- what a step gives, not its value -/
noncomputable def Os (S : Sto) (ms β : List Nat) (e fl pl ca : Nat) (core val : U) (C : Cf) (r : R U) : Cf ⊕ U → Prop
  | .inl C' => ∃ S' ms' ls', r = .ok .non S' ∧ CfOk S' ms' β e fl pl ca core val C' ls' ∧ Nx S ms β S' ms' β
  | .inr s => ∃ S' ms' C' ls', r = .exc "Stopped" [("end", s)] S' ∧ CfOk S' ms' β e fl pl ca core val C' ls' ∧ Nx S ms β S' ms' β ∧ C'.pr = C.pr
noncomputable def blU (q : Bl) : U := .tup [.str "blame", .int q.1, .int q.2]
noncomputable def calA (C : Cf) (g a : Va) (p : Pd) : Option (Cf ⊕ U) :=
  if (unw g).1.length < 1000 then (match ciA g a p with
    | some (.inl (.fn own x body env, a', p')) => if env.length < 990 then (if C.calls = 0 then some (.inr (.tup [.str "calls"])) else some (.inl { C with fr := ⟨body, scA own x body env a', p', []⟩ :: C.fr, calls := C.calls - 1 })) else none
    | some (.inr q) => some (.inr (blU q))
    | _ => none) else none
theorem call_out {g a : Va} {p : Pd} {u w : U} {z : Cf ⊕ U} (h : CfOk S ms β e fl pl ca core val C ls) (hz : calA C g a p = some z) (hg : RV S ms β g u) (ha : RV S ms β a w) (hfr : C.fr.length < 1000000) :
    Os S ms β e fl pl ca core val C ((pg.cal (D + 6)).call "Evaluation.call" [.loc e, u, w, peU p] S) z := by
  unfold calA at hz
  split at hz
  · rename_i hl
    have ci : ∀ o, ciA g a p = some o → OutC S ms β ca (loopI (C_cnd (pg.cal (D + 4))) (C_bod (pg.cal (D + 4))) fuel [some (.loc ca), some u, some w, some (peU p), none, none] S) o := fun o ho => ci_go (D := D) g fuel a p u w none none S o (Nat.lt_trans hl (by decide)) ho h.hca.1 hg ha h.boxes h.hlt
    have hT : ∀ r, (pg.cal (D + 5)).call "called_inside" [.loc ca, u, w, peU p] S = r → (pg.cal (D + 6)).call "Evaluation.call" [.loc e, u, w, peU p] S = ((r.on fun t S => (match setN true [4, 2, 3] t [some (.loc e), some u, some w, some (peU p), none] with | some env => O.nx env S | none => .bad)).then_ fun env S => exs (pg.cal (D + 5)) (.cons (.ex (.meth (.v 0) "Evaluation" "begin" (.cons (.fld (.v 4) "Function" "body") (.cons (.meth (.v 4) "Function" "scope_with" (.cons (.v 2) .nil)) (.cons (.v 3) .nil))))) (.cons (.ex (.meth (.v 0) "Evaluation" "enter" .nil)) .nil)) env S).fin := fun r hr => by
      rw [call_eq (df := ⟨4, 5, false, T_Evaluation_call⟩) (by kernel_rfl), run_eq (by rfl)]
      unfold T_Evaluation_call
      rw [show ([U.loc e, u, w, peU p].map some ++ List.replicate (5 - 4) none : Oz.Env) = [some (.loc e), some u, some w, some (peU p), none] from rfl]
      rw [exs_cons, ex_set, ev_call, evs_cons, ev_self rfl h.hev (by rfl), bind_ok, evs_cons, ev_v' (u := u) rfl, bind_ok, evs_cons, ev_v' (u := w) rfl, bind_ok, evs_cons, ev_v' (u := peU p) rfl, bind_ok, evs_nil, bind_ok, bind_ok, bind_ok, bind_ok, bind_ok, hr]
      all_goals rfl
    have hI : (pg.cal (D + 5)).call "called_inside" [.loc ca, u, w, peU p] S = ((loopI (C_cnd (pg.cal (D + 4))) (C_bod (pg.cal (D + 4))) fuel [some (.loc ca), some u, some w, some (peU p), none, none] S).then_ fun env S => exs (pg.cal (D + 4)) (.cons (.ret (.tup (.cons (.v 1) (.cons (.v 2) (.cons (.v 3) .nil))))) .nil) env S).fin := by
      rw [call_eq (df := ⟨4, 6, false, T_called_inside⟩) (by kernel_rfl), run_eq (by rfl)]
      unfold T_called_inside
      rw [show ([U.loc ca, u, w, peU p].map some ++ List.replicate (6 - 4) none : Oz.Env) = [some (.loc ca), some u, some w, some (peU p), none, none] from rfl, exs_cons, ex_while]
      rfl
    split at hz
    · rename_i own x body env a' p' hc
      obtain ⟨u1, w1, y1, y2, S1, e1, g1, r1, r2⟩ := ci _ hc
      split at hz
      · rename_i hen
        have c1 := h.gr g1
        obtain ⟨S2, kvs, e2, g2, k2, v2, nd2, l2⟩ : ∃ S2 kvs, (pg.cal (D + 5)).call "Function.scope_with" [u1, w1] S1 = .ok (.loc S1.length) S2 ∧ Gr S1 S2 ∧ S2[S1.length]? = some (.dic kvs) ∧ RVs S2 ms β (scA own x body env a') kvs ∧ ndA (scA own x body env a') ∧ (scA own x body env a').length ≤ env.length + 2 := by
          cases r1 with
          | fn q1 q2 q3 q4 => exact scope_ok (D := D + 4) (.fn q1 q2 q3 q4) r2 hen c1.hlt
        have c2 := c1.gr g2
        have hnl : S1.length ∉ ms := fun z => by have := c1.hlt _ z; omega
        obtain ⟨S3, kn, e3, c3, x3⟩ := begin_eq (D := D + 1) c2 body (env := scA own x body env a') p' (sc := S1.length) (kvs := kvs) ⟨k2, hnl⟩ v2 nd2 (by omega) hfr
        have hI1 : (pg.cal (D + 5)).call "called_inside" [.loc ca, u, w, peU p] S = .ok (.tup [u1, w1, peU p']) S1 := by
          rw [hI, e1, then_nx, go_ret (u := .tup [u1, w1, peU p']) (S' := S1)]
          · rfl
          · rw [ev_tup, evs_cons, ev_v' (u := u1) rfl, bind_ok, evs_cons, ev_v' (u := w1) rfl, bind_ok, evs_cons, ev_v' (u := peU p') rfl, bind_ok, evs_nil, bind_ok, bind_ok, bind_ok, bind_ok, if_pos (by show 3 ≤ sizeLine; decide)]
        have hbeg : (pg.cal (D + 6)).call "Evaluation.call" [.loc e, u, w, peU p] S = (exs (pg.cal (D + 5)) (.cons (.ex (.meth (.v 0) "Evaluation" "enter" .nil)) .nil) [some (.loc e), some u, some w1, some (peU p'), some u1] S3).fin := by
          rw [hT _ hI1, on_ok, set_tup rfl]
          show ((O.nx [some (.loc e), some u, some w1, some (peU p'), some u1] S1).then_ _).fin = _
          rw [then_nx, go_ex (u := .non) (S1 := S3)]
          have hbody : ev (pg.cal (D + 5)) (.fld (.v 4) "Function" "body") [some (.loc e), some u, some w1, some (peU p'), some u1] S1 = .ok body.eu S1 := by
            cases r1 with
            | fn q1 q2 q3 q4 => exact ev_fld' (S1 := S1) (ev_v' rfl) q1.1 (by rfl)
          have hsc : ev (pg.cal (D + 5)) (.meth (.v 4) "Function" "scope_with" (.cons (.v 2) .nil)) [some (.loc e), some u, some w1, some (peU p'), some u1] S1 = .ok (.loc S1.length) S2 := by
            have en : ("Function" ++ "." ++ "scope_with" : Str) = "Function.scope_with" := by decide +kernel
            cases r1 with
            | fn q1 q2 q3 q4 =>
              rw [meth_at (us := [w1]) (ev_v' rfl) q1.1 (by rfl) (by rw [evs_cons, ev_v' (u := w1) rfl, bind_ok, evs_nil, bind_ok]), en]
              exact e2
          rw [meth_ev (C := C) (us := [body.eu, .loc S1.length, peU p']) (S1 := S2) rfl c1.hev (by rfl) (by rw [evs_cons, hbody, bind_ok, evs_cons, hsc, bind_ok, evs_cons, ev_v' (u := peU p') rfl, bind_ok, evs_nil, bind_ok, bind_ok, bind_ok]), en_begin]
          exact e3
        have x03 : Nx S ms β S3 (kn :: ms) β := ((nx_g g1).trans (nx_g g2)).trans x3
        have hev3 := c3.hev
        split at hz
        · rename_i hc0
          cases hz
          refine ⟨S3, kn :: ms, _, _, ?_, c3, x03, rfl⟩
          rw [hbeg, exs_cons, ex_ex, meth_ev (C := { C with fr := ⟨body, scA own x body env a', p', []⟩ :: C.fr }) (us := []) (S1 := S3) rfl hev3 (by rfl) rfl, en_enter, enter_no (D := D + 3) c3 hc0]
          rfl
        · rename_i hc0
          cases hz
          obtain ⟨c4, x4⟩ := c3.calls (C.calls - 1)
          refine ⟨_, kn :: ms, _, ?_, c4, x03.trans x4⟩
          rw [hbeg, go_ex (u := .non) (S1 := S3.set e (evC ca pl fl (C.calls - 1) core val))]
          · rfl
          · rw [meth_ev (C := { C with fr := ⟨body, scA own x body env a', p', []⟩ :: C.fr }) (us := []) (S1 := S3) rfl hev3 (by rfl) rfl, en_enter]
            exact enter_ok (D := D + 4) (C := { C with fr := ⟨body, scA own x body env a', p', []⟩ :: C.fr }) c3 hc0
      · exact absn hz
    · rename_i q hc
      cases hz
      obtain ⟨S1, e1, g1⟩ := ci _ hc
      refine ⟨S1, ms, C, ls, ?_, h.gr g1, nx_g g1, rfl⟩
      rw [hT (.exc "Stopped" (blF q) S1) (by rw [hI, e1, then_exc]; rfl), on_exc, then_exc]
      rfl
    · exact absn hz
  · exact absn hz
end Pr
end
section
set_option maxHeartbeats 4000000
namespace Pr
open PySem L2 Oz
variable {S S' S'' S0 : Sto} {d D : Nat} {ms ms' ms'' β β' β'' : List Nat} {e fl pl ca : Nat} {core val : U} {C C' : Cf} {ls : List (Nat × Nat)}
noncomputable def stP (p : Pd) (bs : List Va) (v : Va) : Ro := if p.all okB && decide (p.length < 1000) then lft bs (stl p v) else none
noncomputable def valP (f : Fm) (bs : List Va) : Ro := match valA f bs with
  | some (.inl (v, bs')) => stP f.pend bs' v
  | o => o
noncomputable def Ox (S : Sto) (ms β : List Nat) (e fl pl ca : Nat) (core val : U) (C : Cf) (ls : List (Nat × Nat)) (r : R U) : (Va × List Va) ⊕ Bl → Prop
  | .inl (v, bs') => ∃ S' ms' β' u, r = .ok u S' ∧ CfOk S' ms' β' e fl pl ca core val { C with bs := bs' } ls ∧ Nx S ms β S' ms' β' ∧ RV S' ms' β' v u
  | .inr q => ∃ S' ms' β' C', r = .exc "Stopped" (blF q) S' ∧ CfOk S' ms' β' e fl pl ca core val C' ls ∧ Nx S ms β S' ms' β' ∧ C'.pr = C.pr
theorem rest_out {f : Fm} {l : Nat × Nat} {z : (Va × List Va) ⊕ Bl} (hv : valP f C.bs = some z) (hf : FrOk S ms β f l) (h : CfOk S ms β e fl pl ca core val C ls) :
    Ox S ms β e fl pl ca core val C ls (ev (pg.cal (D + 9)) (.meth (.fld (.v 0) "Evaluation" "casting") "Casts" "settled" (.cons (.fld (.v 1) "Frame" "pending") (.cons (.meth (.v 0) "Evaluation" "value_of" (.cons (.v 1) .nil)) .nil))) [some (.loc e), some (.loc l.1), none, none, none, none, none, none, none, none, none] S) z := by
  have hev : ∀ r, (pg.cal (D + 9)).call "Evaluation.value_of" [.loc e, .loc l.1] S = r → ev (pg.cal (D + 9)) (.meth (.v 0) "Evaluation" "value_of" (.cons (.v 1) .nil)) [some (.loc e), some (.loc l.1), none, none, none, none, none, none, none, none, none] S = r := fun r hr => by
    rw [meth_ev (C := C) (us := [.loc l.1]) (S1 := S) rfl h.hev (by rfl) (by rw [evs_cons, ev_v' rfl, bind_ok, evs_nil, bind_ok]), en_value_of]
    exact hr
  have hfp : ev (pg.cal (D + 9)) (.fld (.v 1) "Frame" "pending") [some (.loc e), some (.loc l.1), none, none, none, none, none, none, none, none, none] S = .ok (peU f.pend) S := by
    obtain ⟨sc, aw, us, kvs, h1, _⟩ := hf
    exact fr_fld rfl h1.1 (by rfl)
  have hst : ev (pg.cal (D + 9)) (.meth (.fld (.v 0) "Evaluation" "casting") "Casts" "settled" (.cons (.fld (.v 1) "Frame" "pending") (.cons (.meth (.v 0) "Evaluation" "value_of" (.cons (.v 1) .nil)) .nil))) [some (.loc e), some (.loc l.1), none, none, none, none, none, none, none, none, none] S = ((pg.cal (D + 9)).call "Evaluation.value_of" [.loc e, .loc l.1] S).bind fun u S1 => (pg.cal (D + 9)).call "Casts.settled" [.loc ca, peU f.pend, u] S1 := by
    rw [ev_meth, ev_self rfl h.hev (by rfl), bind_ok]
    simp only [h.hca.1]
    rw [if_pos ⟨trivial, rfl⟩, evs_cons, hfp, bind_ok, evs_cons, hev _ rfl, en_settled]
    cases (pg.cal (D + 9)).call "Evaluation.value_of" [.loc e, .loc l.1] S <;> rfl
  rw [hst]
  unfold valP at hv
  split at hv
  · rename_i v bs' ha
    obtain ⟨S1, ms1, β1, u, e1, c1, x1, r1⟩ := val_out (D := D + 1) ha hf h
    rw [e1, bind_ok]
    unfold stP at hv
    split at hv
    · rename_i hp
      rw [Bool.and_eq_true, List.all_eq_true] at hp
      cases hs : stl f.pend v with
      | none => rw [hs] at hv; exact absn hv
      | some o =>
        rw [hs] at hv
        have ho := settled_out (D := D + 4) (of_decide_eq_true hp.2) (fun b hb => okB_d (hp.1 b hb)) hs c1.hca.1 r1 c1.hlt
        cases o with
        | inl v' =>
          cases hv
          obtain ⟨u2, S2, e2, g2, r2⟩ := ho
          exact ⟨S2, ms1, β1, u2, e2, c1.gr g2, x1.trans (nx_g g2), r2⟩
        | inr q =>
          cases hv
          obtain ⟨S2, e2, g2⟩ := ho
          exact ⟨S2, ms1, β1, _, e2, c1.gr g2, x1.trans (nx_g g2), rfl⟩
    · exact absn hv
  · rename_i o ho
    cases hz : valA f C.bs with
    | none => rw [hz] at hv; exact absn hv
    | some y =>
      cases y with
      | inl y => exact absurd hz (ho _ _)
      | inr q =>
        rw [hz] at hv
        cases hv
        obtain ⟨S1, e1, g1⟩ := val_out (D := D + 1) hz hf h
        exact ⟨S1, ms, β, C, by rw [e1, bind_exc], h.gr g1, nx_g g1, rfl⟩
inductive Sr where
  | go (C : Cf) | fin (C : Cf) (v : Va) | stop (pr : List Va) (s : U) | bad
noncomputable def dl1 (pr : List Va) (cs : Int) (bs : List Va) (v : Va) : List Fm → Sr
  | [] => .fin ⟨[], pr, cs, bs⟩ v
  | g :: G' => if g.known.length < 900 then .go ⟨{ g with known := g.known ++ [v] } :: G', pr, cs, bs⟩ else .bad
noncomputable def dvl (pr : List Va) (cs : Int) (G : List Fm) : Ro → Sr
  | some (.inl (v, bs')) => dl1 pr cs bs' v G
  | some (.inr q) => .stop pr (blU q)
  | none => .bad
noncomputable def tail1 (C : Cf) (f : Fm) (G : List Fm) : Sr :=
  match f.core with
  | .lt x _ b => (match f.known with | [v] => .go ⟨⟨b, putA f.env x v, f.pend, []⟩ :: G, C.pr, C.calls, C.bs⟩ | _ => .bad)
  | .cast n s t a => .go ⟨⟨a, f.env, (s, t, n, 1) :: f.pend, []⟩ :: G, C.pr, C.calls, C.bs⟩
  | .call _ _ => (match f.known with
    | [g, a] => (match calA ⟨G, C.pr, C.calls, C.bs⟩ g a f.pend with | some (.inl C') => .go C' | some (.inr s) => .stop C.pr s | none => .bad)
    | _ => .bad)
  | _ => dvl C.pr C.calls G (valP f C.bs)
noncomputable def stepA (C : Cf) : Sr :=
  match C.fr with
  | [] => .bad
  | f :: G => if decide (G.length < 900000) && (decide (C.pr.length < 900000) && decide (f.env.length < 990)) then (match (awt f.core)[f.known.length]? with
    | some a => .go ⟨⟨a, f.env, [], []⟩ :: f :: G, C.pr, C.calls, C.bs⟩
    | none => tail1 C f G) else .bad
noncomputable def StepOk (S0 : Sto) (e fl pl ca : Nat) (core : U) (C : Cf) (r : R U) : Sr → Prop
  | .go C' => ∃ S', r = .ok .non S' ∧ Cst S0 e fl pl ca core none C' S'
  | .fin C' v => ∃ S', r = .ok .non S' ∧ Cst S0 e fl pl ca core (some v) C' S'
  | .stop pr s => ∃ S' C', r = .exc "Stopped" [("end", s)] S' ∧ Cst S0 e fl pl ca core none C' S' ∧ C'.pr = pr
  | .bad => True
theorem go_call {f : Fm} {l : Nat × Nat} {a b : Tx} {g v : Va} {z : Cf ⊕ U} (hf : FrOk S ms β f l) (hc : f.core = .call a b) (hk : f.known = [g, v]) (h : CfOk S ms β e fl pl ca core val C ls) (hz : calA C g v f.pend = some z) (hfr : C.fr.length < 1000000) :
    Os S ms β e fl pl ca core val C ((pg.cal (D + 7)).call "Evaluation.go_on" [.loc e, .loc l.1] S) z := by
  obtain ⟨sc, aw, us, kvs, h1, h2, h3, h4, h5, h6, h7, h8⟩ := hf
  rw [hk] at h8
  cases h8 with
  | @cons _ u _ us' hu hr =>
    cases hr with
    | @cons _ w _ us' hw hn =>
      cases hn
      rw [hc] at h1
      have q := call_out (D := D) h hz hu hw hfr
      have e0 : (pg.cal (D + 7)).call "Evaluation.go_on" [.loc e, .loc l.1] S = ((pg.cal (D + 6)).call "Evaluation.call" [.loc e, u, w, peU f.pend] S).bind fun _ S' => .ok .non S' := by
        rw [on_form (D := D + 6) (env' := [some (.loc e), some (.loc l.1), none, none, none, none, none, none, none, none, none]) (B := G_call) h1.1 (by unfold G_cs; simp only [Tx.eu]; simp only [Oz.bind_ok, Oz.bind_exc, Oz.bind_bad, Oz.on_ok, Oz.on_exc, Oz.then_nx, Oz.then_ret, Oz.then_exc, Oz.then_bk, Oz.then_ct, Oz.turn_nx, Oz.turn_ret, Oz.turn_exc, Oz.fin_nx, Oz.fin_ret, Oz.fin_exc, Oz.rO_some, Oz.noex_ok, Oz.ev_v, Oz.ev_k, Oz.ev_tup, Oz.ev_lst, Oz.ev_bin, Oz.ev_neg, Oz.ev_cmp, Oz.ev_and, Oz.ev_or, Oz.ev_not, Oz.ev_ife, Oz.ev_ix, Oz.ev_sl, Oz.ev_call, Oz.ev_bf, Oz.ev_bm, Oz.ev_isi, Oz.evo_no, Oz.evo_so, Oz.evs_nil, Oz.evs_cons, Oz.evs_star, Oz.evt_tt, Oz.evt_e, Oz.evt_and, Oz.evt_or, Oz.evt_not, Oz.ex_mtch, Oz.exc_nil, Oz.exc_cons, Oz.pt_wild, Oz.pt_val, Oz.pt_seq, Oz.pi_nil, Oz.pi_lit, Oz.pi_cap, Oz.pi_wild, Oz.ev_kcall, Oz.ofS_inj, String.reduceEq, Nat.reduceEqDiff, Oz.ex_set, Oz.ex_sub, Oz.ex_aug, Oz.ex_ex, Oz.ex_ret, Oz.ex_if, Oz.exs_nil, Oz.exs_cons, Oz.tru_bl, Oz.tru_int, Oz.add_int, Oz.sub_int, Oz.aug_add_int, Oz.aug_sub_int, Oz.c_eq_int, Oz.c_ne_int, Oz.c_lt_int, Oz.c_le_int, Oz.c_gt_int, Oz.c_ge_int, Oz.c_eq_str, Oz.c_ne_str, Oz.set_int, List.replicate_succ, List.replicate_zero, List.getElem?_cons_zero, List.getElem?_cons_succ, List.set_cons_zero, List.set_cons_succ, List.map_cons, List.map_nil, List.cons_append, List.nil_append, List.append_nil, if_true, if_false, Bool.false_eq_true, Bool.true_eq_false, decide_eq_true_eq, true_and, and_true, Bool.not_true, Bool.not_false, List.length_cons, List.length_nil, Nat.zero_add, Nat.reduceAdd, true_and])]
        unfold G_call
        have k0 : ev (pg.cal (D + 6)) (.ix (.fld (.v 1) "Frame" "known") (.k (.int 0))) [some (.loc e), some (.loc l.1), none, none, none, none, none, none, none, none, none] S = .ok u S := by
          rw [ev_ix, fr_fld rfl h1.1 (by rfl), bind_ok, ev_k, bind_ok, ix_loc h7, show atI [u, w] 0 = some u from rfl]
        have k1 : ev (pg.cal (D + 6)) (.ix (.fld (.v 1) "Frame" "known") (.k (.int 1))) [some (.loc e), some (.loc l.1), none, none, none, none, none, none, none, none, none] S = .ok w S := by
          rw [ev_ix, fr_fld rfl h1.1 (by rfl), bind_ok, ev_k, bind_ok, ix_loc h7, show atI [u, w] 1 = some w from rfl]
        rw [exs_cons, ex_ex, meth_ev (C := C) (us := [u, w, peU f.pend]) (S1 := S) rfl h.hev (by rfl) (by rw [evs_cons, k0, bind_ok, evs_cons, k1, bind_ok, evs_cons, fr_fld rfl h1.1 (by rfl), bind_ok, evs_nil, bind_ok, bind_ok, bind_ok]), en_call]
        cases (pg.cal (D + 6)).call "Evaluation.call" [.loc e, u, w, peU f.pend] S <;> rfl
      rw [e0]
      cases z with
      | inl C' =>
        obtain ⟨S', ms', ls', e1, c1, x1⟩ := q
        exact ⟨S', ms', ls', by rw [e1, bind_ok], c1, x1⟩
      | inr s =>
        obtain ⟨S', ms', C', ls', e1, c1, x1, p1⟩ := q
        exact ⟨S', ms', C', ls', by rw [e1, bind_exc], c1, x1, p1⟩
theorem go_rest {f : Fm} {l : Nat × Nat} (hr : rst f.core = true) (hf : FrOk S ms β f l) (h : CfOk S ms β e fl pl ca core val C ls) : (pg.cal (D + 10)).call "Evaluation.go_on" [.loc e, .loc l.1] S = ((ev (pg.cal (D + 9)) (.meth (.fld (.v 0) "Evaluation" "casting") "Casts" "settled" (.cons (.fld (.v 1) "Frame" "pending") (.cons (.meth (.v 0) "Evaluation" "value_of" (.cons (.v 1) .nil)) .nil))) [some (.loc e), some (.loc l.1), none, none, none, none, none, none, none, none, none] S).bind fun u S2 => (pg.cal (D + 9)).call "Evaluation.give" [.loc e, u] S2).bind fun _ S3 => .ok .non S3 := by
  obtain ⟨sc, aw, us, kvs, h1, _⟩ := hf
  rw [on_form (D := D + 9) h1.1 (rest_on hr)]
  unfold G_rest
  rw [exs_cons, ex_ex, ev_meth, ev_v' rfl, bind_ok]
  simp only [h.hev, evC]
  rw [if_pos ⟨trivial, rfl⟩, evs_cons, en_give]
  generalize ev (pg.cal (D + 9)) (.meth (.fld (.v 0) "Evaluation" "casting") "Casts" "settled" (.cons (.fld (.v 1) "Frame" "pending") (.cons (.meth (.v 0) "Evaluation" "value_of" (.cons (.v 1) .nil)) .nil))) [some (.loc e), some (.loc l.1), none, none, none, none, none, none, none, none, none] S = r
  cases r with
  | ok u S2 =>
    rw [bind_ok, evs_nil, bind_ok, bind_ok, bind_ok]
    cases (pg.cal (D + 9)).call "Evaluation.give" [.loc e, u] S2 <;> rfl
  | exc c fs S2 => rfl
  | bad => rfl
theorem step_out {ov : Option Va} (h : Cst S0 e fl pl ca core ov C S) : StepOk S0 e fl pl ca core C ((pg.cal (D + 11)).call "Evaluation.step" [.loc e] S) (stepA C) := by
  obtain ⟨ms, β, val, ls, h, x, hov⟩ := h
  have stp : ∀ {C' : Cf} {o : Option Va}, Stp C C' o → ∃ S', (pg.cal (D + 11)).call "Evaluation.step" [.loc e] S = .ok .non S' ∧ Cst S0 e fl pl ca core o C' S' := fun hs => step_ok (D := D + 3) (ov := ov) hs ⟨ms, β, val, ls, h, x, hov⟩
  unfold stepA
  split
  · trivial
  · rename_i f G hC
    split
    · rename_i hg
      simp only [Bool.and_eq_true] at hg
      have z1 := of_decide_eq_true hg.1
      have z2 := of_decide_eq_true hg.2.1
      have z3 := of_decide_eq_true hg.2.2
      clear hg
      obtain ⟨fr, pr, cs, bs⟩ := C
      dsimp only at hC z2 ⊢
      subst hC
      split
      · rename_i a ha
        exact stp (.push ha z1)
      · rename_i ha
        have hlen : (awt f.core).length ≤ f.known.length := List.getElem?_eq_none_iff.mp ha
        obtain ⟨l, ls', rfl⟩ := h.ls_cons rfl
        obtain ⟨S1, c1, f1, x1, e1⟩ := step_pop (D := D + 10) rfl h hlen
        have zG : G.length < 1000000 := Nat.lt_trans z1 (by decide)
        have vl : rst f.core = true → StepOk S0 e fl pl ca core ⟨f :: G, pr, cs, bs⟩ ((pg.cal (D + 11)).call "Evaluation.step" [.loc e] S) (dvl pr cs G (valP f bs)) := fun hr => by
          rw [show (pg.cal (D + 11)).call "Evaluation.step" [.loc e] S = _ from e1, go_rest (C := ⟨G, pr, cs, bs⟩) hr f1 c1]
          cases hz : valP f bs with
          | none => trivial
          | some z =>
            have q := rest_out (D := D) (C := ⟨G, pr, cs, bs⟩) hz f1 c1
            cases z with
            | inl vb =>
              obtain ⟨v, bs'⟩ := vb
              obtain ⟨S2, ms2, β2, u, e2, c2, x2, r2⟩ := q
              rw [e2, bind_ok]
              cases G with
              | nil =>
                have hn := c2.ls_nil rfl
                subst hn
                obtain ⟨S3, e3, c3, x3⟩ := give_none (D := D + 8) (C := ⟨[], pr, cs, bs'⟩) (v := v) (u := u) rfl c2
                exact ⟨S3, by rw [e3, bind_ok, bind_ok], _, _, _, _, c3, ((x.trans x1).trans x2).trans x3, fun v' z => by cases z; exact r2.mono x3⟩
              | cons g G' =>
                show StepOk S0 e fl pl ca core _ _ (if g.known.length < 900 then _ else _)
                split
                · rename_i hk
                  obtain ⟨l', ls'', rfl⟩ := c2.ls_cons rfl
                  obtain ⟨S3, e3, c3, x3⟩ := give_some (D := D + 8) (C := ⟨g :: G', pr, cs, bs'⟩) rfl c2 r2 (Nat.lt_trans hk (by decide))
                  exact ⟨S3, by rw [e3, bind_ok, bind_ok], _, _, _, _, c3, ((x.trans x1).trans x2).trans x3, fun v' z => nomatch z⟩
                · trivial
            | inr q' =>
              obtain ⟨S2, ms2, β2, C', e2, c2, x2, p2⟩ := q
              exact ⟨S2, C', by rw [e2, bind_exc, bind_exc, bind_exc]; rfl, ⟨_, _, _, _, c2, (x.trans x1).trans x2, fun v' z => nomatch z⟩, p2⟩
        obtain ⟨t, env, p, known⟩ := f
        unfold tail1
        dsimp only at z3 ha hlen vl ⊢
        cases t with
        | lt y a b =>
          dsimp only
          split
          · exact stp (.lt z1 (Nat.lt_trans z3 (by decide)))
          · trivial
        | cast n s t a =>
          obtain ⟨S2, at', kn, e2, c2, x2⟩ := on_cast (D := D + 5) f1 rfl c1 zG
          exact ⟨S2, by rw [show (pg.cal (D + 11)).call "Evaluation.step" [.loc e] S = _ from e1, e2, bind_ok], _, _, _, _, c2, (x.trans x1).trans x2, fun v' z => nomatch z⟩
        | call a b =>
          dsimp only
          split
          · rename_i g v
            cases hz : calA ⟨G, pr, cs, bs⟩ g v p with
            | none => trivial
            | some z =>
              have q := go_call (D := D + 3) (C := ⟨G, pr, cs, bs⟩) f1 rfl rfl c1 hz zG
              cases z with
              | inl C' =>
                obtain ⟨S2, ms2, ls2, e2, c2, x2⟩ := q
                exact ⟨S2, by rw [show (pg.cal (D + 11)).call "Evaluation.step" [.loc e] S = _ from e1, e2, bind_ok], _, _, _, _, c2, (x.trans x1).trans x2, fun v' z => nomatch z⟩
              | inr s =>
                obtain ⟨S2, ms2, C', ls2, e2, c2, x2, p2⟩ := q
                exact ⟨S2, C', by rw [show (pg.cal (D + 11)).call "Evaluation.step" [.loc e] S = _ from e1, e2, bind_exc], ⟨_, _, _, _, c2, (x.trans x1).trans x2, fun v' z => nomatch z⟩, p2⟩
          · trivial
        | as a t => exact (by dsimp only; trivial)
        | _ => exact vl rfl
    · trivial
noncomputable def mrun : Nat → Cf → Sr
  | 0, _ => .bad
  | n + 1, C => match stepA C with
    | .go C' => mrun n C'
    | r => r
theorem stepA_ne (h : stepA C ≠ .bad) : ∃ f F, C.fr = f :: F := by
  cases hC : C.fr with
  | nil => exact absurd (by unfold stepA; rw [hC]) h
  | cons f F => exact ⟨f, F, rfl⟩
/-- what a loop gives -/
noncomputable def LoopOk (S0 : Sto) (e fl pl ca : Nat) (core : U) (o : O) : Sr → Prop
  | .fin C' v => ∃ S' u pus, o = .nx [some (.loc e)] S' ∧ Gr S0 S' ∧ S'[e]? = some (evC ca pl fl C'.calls core u) ∧ S'[pl]? = some (.lst pus) ∧ ∃ ms β, RV S' ms β v u ∧ All2 (RV S' ms β) C'.pr pus
  | .stop pr s => ∃ S' k u pus, o = .exc "Stopped" [("end", s)] S' ∧ Gr S0 S' ∧ S'[e]? = some (evC ca pl fl k core u) ∧ S'[pl]? = some (.lst pus) ∧ ∃ ms β, All2 (RV S' ms β) pr pus
  | _ => True
theorem dvl_fin {pr : List Va} {cs : Int} {G : List Fm} {o : Ro} {v : Va} (h : dvl pr cs G o = .fin C' v) : C'.fr = [] := by
  cases o with
  | none => cases h
  | some z =>
    cases z with
    | inr q => cases h
    | inl vb =>
      cases G with
      | nil => cases h; rfl
      | cons g G' =>
        have h' : (if g.known.length < 900 then Sr.go ⟨{ g with known := g.known ++ [vb.1] } :: G', pr, cs, vb.2⟩ else .bad) = .fin C' v := h
        split at h' <;> cases h'
theorem fin_fr {v : Va} (h : stepA C = .fin C' v) : C'.fr = [] := by
  unfold stepA at h
  split at h
  · cases h
  · split at h
    · split at h
      · cases h
      · unfold tail1 at h
        split at h
        · split at h <;> cases h
        · cases h
        · split at h
          · split at h <;> cases h
          · cases h
        · exact dvl_fin h
    · cases h
theorem loop_out : ∀ (n m : Nat) (C : Cf) (ov : Option Va) (S : Sto), n < m → Cst S0 e fl pl ca core ov C S → LoopOk S0 e fl pl ca core (loopI (cndL (pg.cal (D + 11))) (bodL (pg.cal (D + 11))) m [some (.loc e)] S) (mrun n C)
  | 0, m, C, ov, S, hm, h => trivial
  | n + 1, m, C, ov, S, hm, h => by
    obtain ⟨m, rfl⟩ : ∃ k, m = k + 1 := ⟨m - 1, by omega⟩
    have st := step_out (D := D) h
    unfold mrun
    have hc : stepA C ≠ .bad → loopI (cndL (pg.cal (D + 11))) (bodL (pg.cal (D + 11))) (m + 1) [some (.loc e)] S = (bodL (pg.cal (D + 11)) [some (.loc e)] S).turn fun env S => loopI (cndL (pg.cal (D + 11))) (bodL (pg.cal (D + 11))) m env S := fun hne => by
      obtain ⟨f, F, hC⟩ := stepA_ne hne
      obtain ⟨ms, β, val, ls, h, x, hov⟩ := h
      obtain ⟨l, ls', rfl⟩ := h.ls_cons hC
      have hfl := h.hfl
      rw [List.map_cons, List.reverse_cons] at hfl
      have hcc : cndL (pg.cal (D + 11)) [some (.loc e)] S = .ok true S := by
        unfold cndL
        rw [evt_e, ev_self rfl h.hev (by rfl), bind_ok, tru_loc hfl]
        simp [rO]
      rw [loopI, hcc, on_ok, if_pos rfl]
    have hb : ∀ r, (pg.cal (D + 11)).call "Evaluation.step" [.loc e] S = r → bodL (pg.cal (D + 11)) [some (.loc e)] S = (r.on fun _ S => O.nx [some (.loc e)] S) := fun r hr => by
      obtain ⟨ms, β, val, ls, h, x, hov⟩ := h
      unfold bodL
      rw [exs_cons, ex_ex, meth_ev (C := C) (us := []) (S1 := S) rfl h.hev (by rfl) rfl, en_step, hr]
      cases r <;> rfl
    split
    · rename_i C' hs
      rw [hs] at st
      obtain ⟨S', e1, c1⟩ := st
      rw [hc (by rw [hs]; exact fun z => nomatch z), hb _ e1, on_ok, turn_nx]
      exact loop_out n m C' none S' (by omega) c1
    · rename_i hne
      cases hs : stepA C with
      | go C' => exact absurd hs (hne _)
      | bad => trivial
      | fin C' v =>
        have hfr := fin_fr hs
        rw [hs] at st
        obtain ⟨S', e1, c1⟩ := st
        rw [hc (by rw [hs]; exact fun z => nomatch z), hb _ e1, on_ok, turn_nx]
        obtain ⟨ms1, β1, val1, ls1, h1, x1, hov1⟩ := c1
        have hl := h1.ls_nil hfr
        subst hl
        have hcc : cndL (pg.cal (D + 11)) [some (.loc e)] S' = .ok false S' := by
          unfold cndL
          rw [evt_e, ev_self rfl h1.hev (by rfl), bind_ok, tru_loc h1.hfl]
          simp [rO]
        obtain ⟨pus, q1, q2⟩ := h1.hpl
        exact ⟨S', val1, pus, loop_stop (by omega) hcc, ⟨x1.len, fun k hk => (x1.keep k hk (by simp)).1⟩, h1.hev, q1, ms1, β1, hov1 v rfl, q2⟩
      | stop pr s =>
        rw [hs] at st
        obtain ⟨S', C', e1, c1, p1⟩ := st
        rw [hc (by rw [hs]; exact fun z => nomatch z), hb _ e1, on_exc, turn_exc']
        obtain ⟨ms1, β1, val1, ls1, h1, x1, hov1⟩ := c1
        obtain ⟨pus, q1, q2⟩ := h1.hpl
        rw [p1] at q2
        exact ⟨S', _, _, pus, rfl, ⟨x1.len, fun k hk => (x1.keep k hk (by simp)).1⟩, h1.hev, q1, ms1, β1, q2⟩
end Pr
end
section
set_option maxHeartbeats 4000000
namespace Pr
open PySem L2 Oz
variable {S S' S'' S0 : Sto} {d D : Nat} {ms ms' ms'' β β' β'' : List Nat} {e fl pl ca : Nat} {core val : U} {C C' : Cf} {ls : List (Nat × Nat)}
noncomputable def bareV : Va → Va
  | .inj v _ => bareV v
  | .wr v _ => bareV v
  | v => v
noncomputable def lay : Va → Nat
  | .inj v _ => lay v + 1
  | .wr v _ => lay v + 1
  | _ => 0
theorem bare_go : ∀ (v : Va) (n : Nat) (u : U), lay v < n → (∃ s, shp (bareV v) = some s) → RV S ms β v u → ∃ u', loopI (fun env S => evt (pg.cal d) (.e (.isio (.v 0) ["Injected", "Wrapped"] AllC)) env S) (fun env S => exs (pg.cal d) (.cons (.set false [0] (.fldx (.v 0) ["Injected", "Wrapped"] "inside")) .nil) env S) n [some u] S = .nx [some u'] S ∧ RV S ms β (bareV v) u' := by
  intro v
  induction v using bareV.induct with
  | case1 v g ih =>
    intro n u hn hs hv
    obtain ⟨m, rfl⟩ : ∃ m, n = m + 1 := ⟨n - 1, by omega⟩
    cases hv with
    | @inj _ _ q w hq hr =>
      obtain ⟨u', e', r'⟩ := ih m w (by simp only [lay] at hn; omega) hs hr
      refine ⟨u', ?_, r'⟩
      rw [loopI, ev_isio (ev_v' (u := .loc q) rfl) (iso_in hq.1 (by decide +kernel)), on_ok]
      rw [if_pos (by decide +kernel), go_set (ev_fldx (S1 := S) (ev_v' (u := .loc q) rfl) hq.1 (by decide +kernel) (by rfl)), exs_nil, turn_nx]
      exact e'
  | case2 v b ih =>
    intro n u hn hs hv
    obtain ⟨m, rfl⟩ : ∃ m, n = m + 1 := ⟨n - 1, by omega⟩
    cases hv with
    | @wr _ _ q w hq hr =>
      obtain ⟨u', e', r'⟩ := ih m w (by simp only [lay] at hn; omega) hs hr
      refine ⟨u', ?_, r'⟩
      rw [loopI, ev_isio (ev_v' (u := .loc q) rfl) (iso_in hq.1 (by decide +kernel)), on_ok]
      rw [if_pos (by decide +kernel), go_set (ev_fldx (S1 := S) (ev_v' (u := .loc q) rfl) hq.1 (by decide +kernel) (by rfl)), exs_nil, turn_nx]
      exact e'
  | case3 v h1 h2 =>
    intro n u hn hs hv
    obtain ⟨m, rfl⟩ : ∃ m, n = m + 1 := ⟨n - 1, by omega⟩
    have hb : bareV v = v := by cases v <;> first | rfl | exact absurd rfl (h1 _ _) | exact absurd rfl (h2 _ _)
    rw [hb] at hs ⊢
    refine ⟨u, loop_stop (by omega) (ev_isio (ev_v' (u := u) rfl) ?_), hv⟩
    obtain ⟨s, hs⟩ := hs
    cases hv <;> first | rfl | cases hs
theorem bare_ok {v : Va} {u : U} (hl : lay v < 1000) (hs : ∃ s, shp (bareV v) = some s) (hv : RV S ms β v u) : ∃ u', (pg.cal (d + 1)).call "bare" [u] S = .ok u' S ∧ RV S ms β (bareV v) u' := by
  obtain ⟨u', e', r'⟩ := bare_go (d := d) v fuel u (Nat.lt_trans hl (by decide)) hs hv
  refine ⟨u', ?_, r'⟩
  rw [call_eq (df := ⟨1, 1, false, T_bare⟩) (by kernel_rfl), run_eq (by rfl)]
  unfold T_bare
  rw [show ([u].map some ++ List.replicate (1 - 1) none : Oz.Env) = [some u] from rfl, exs_cons, ex_while]
  rw [e', then_nx, go_ret (ev_v' (u := u') rfl)]
  rfl
theorem shapeA {v : Va} {u s : U} (hl : lay v < 1000) (hs : shp (bareV v) = some s) (hv : RV S ms β v u) : (pg.cal (d + 3)).call "shape" [u] S = .ok s S := by
  obtain ⟨u1, e1, r1⟩ := bare_ok (d := d) hl ⟨s, hs⟩ hv
  obtain ⟨u2, e2, r2⟩ := bare_ok (d := d + 1) hl ⟨s, hs⟩ hv
  have hu : u1 = u2 := by
    generalize bareV v = b at r1 r2 hs
    cases r1 <;> first | (cases r2; rfl) | cases hs
  subst hu
  have hg : ∀ κ : Str, (exs (pg.cal (d + 1)) (.cons (.if_ (.e (.cmp .isN (.v 1) (.k .non))) (.cons (.ret (.k (.str "unit"))) .nil) .nil) (.cons (.if_ (.e (.isi (.v 1) "bool")) (.cons (.ret (.k (.str "bool"))) .nil) .nil) (.cons (.if_ (.e (.isi (.v 1) "int")) (.cons (.ret (.k (.str "int"))) .nil) .nil) (.cons (.if_ (.e (.isi (.v 1) "tuple")) (.cons (.ret (.k (.str "pair"))) .nil) .nil) (.cons (.ret (.ife (.e (.isio (.v 1) ["Box"] AllC)) (.k (.str "box")) (.k (.str "fun")))) .nil))))) [some u, some u1] S).fin = .ok (.str κ) S → (pg.cal (d + 2)).call "ground_of" [u] S = .ok (.str κ) S := fun κ hκ => by
    rw [call_eq (df := ⟨1, 2, false, T_ground_of⟩) (by kernel_rfl), run_eq (by rfl)]
    unfold T_ground_of
    rw [show ([u].map some ++ List.replicate (2 - 1) none : Oz.Env) = [some u, none] from rfl]
    rw [go_set (x := u1) (S' := S) (by rw [ev_call, evs_cons, ev_v' rfl, bind_ok, evs_nil, bind_ok, bind_ok]; exact e1)]
    exact hκ
  have fin : ∀ κ : Str, (pg.cal (d + 2)).call "ground_of" [u] S = .ok (.str κ) S → evt (pg.cal (d + 2)) (.e (.cmp .in_ (.v 1) (.tup (.cons (.k (.str "int")) (.cons (.k (.str "bool")) .nil))))) [some u, some (.str κ)] S = .ok true S → s = .tup [.str κ, u1] → (pg.cal (d + 3)).call "shape" [u] S = .ok s S := fun κ hκ ht hsu => by
    rw [call_eq (df := ⟨1, 2, false, T_shape⟩) (by kernel_rfl), run_eq (by rfl)]
    unfold T_shape
    rw [show ([u].map some ++ List.replicate (2 - 1) none : Oz.Env) = [some u, none] from rfl]
    rw [go_set (x := .str κ) (S' := S) (by rw [ev_call, evs_cons, ev_v' rfl, bind_ok, evs_nil, bind_ok, bind_ok]; exact hκ)]
    rw [show (([some u, none] : Oz.Env).set 1 (some (.str κ))) = [some u, some (.str κ)] from rfl]
    rw [go_stop (u := .tup [.str κ, u1]) (S1 := S) (S2 := S) ht, hsu]
    · rfl
    · rw [ev_tup, evs_cons, ev_v' rfl, bind_ok, evs_cons, ev_call, evs_cons, ev_v' rfl, bind_ok, evs_nil, bind_ok, bind_ok, e2, bind_ok, evs_nil, bind_ok, bind_ok, bind_ok, if_pos (by show 2 ≤ sizeLine; decide)]
  generalize bareV v = b at r1 r2 hs
  cases r1 with
  | int => cases hs; exact fin "int" (hg "int" rfl) rfl rfl
  | bl => cases hs; exact fin "bool" (hg "bool" rfl) rfl rfl
  | _ => cases hs
/-- the end of a run -/
noncomputable def endS : Sr → Option U
  | .fin C v => if lay v < 1000 ∧ C.pr.length = 0 then (shp (bareV v)).map fun s => .tup [.str "value", s] else none
  | .stop pr s => if pr.length = 0 then some s else none
  | _ => none
theorem run_outA {t : Tx} {calls : Int} {n : Nat} {s : U} (S : Sto) (hr : endS (mrun n ⟨[⟨t, [], [], []⟩], [], calls, []⟩) = some s) (hn : n < fuel) :
    ∃ S', (pg.cal (D + 14)).call "run_plain" [t.eu, .int calls] S = .ok (.tup [.tup [], s]) S' ∧ Gr S S' := by
  have hca : (S ++ [Cel.ins "Casts" []])[S.length]? = some (.ins "Casts" []) := last_get
  have g0 : Gr S (S ++ [Cel.ins "Casts" []]) := gr_push
  have hm : ∀ env, env[0]? = some (some t.eu) → env[1]? = some (some (U.int calls)) → ev (pg.cal (D + 13)) (.mk "Evaluation" (.cons (.mkN "Casts") (.cons (.v 0) (.cons (.v 1) .nil)))) env S = .ok (.loc (S ++ [Cel.ins "Casts" []]).length) ((S ++ [Cel.ins "Casts" []]) ++ [evC S.length ((S ++ [Cel.ins "Casts" []]).length + 1) ((S ++ [Cel.ins "Casts" []]).length + 2) calls t.eu .non, .lst [], .lst []]) := fun env h0 h1 =>
    mk_eval (D := D + 10) (by rw [evs_cons]; show ((R.ok (U.loc S.length) (S ++ [Cel.ins "Casts" []])).bind _) = _; rw [bind_ok, evs_cons, ev_v' h0, bind_ok, evs_cons, ev_v' h1, bind_ok, evs_nil, bind_ok, bind_ok, bind_ok])
  generalize S ++ [Cel.ins "Casts" []] = S2 at *
  let S1 : Sto := S2 ++ [evC S.length (S2.length + 1) (S2.length + 2) calls t.eu .non, .lst [], .lst [], .dic []]
  have hcal : S.length < S2.length := (List.getElem?_eq_some_iff.mp hca).1
  have g1 : Gr S2 S1 := ⟨by show S2.length ≤ List.length (S2 ++ _); simp, fun k hk => List.getElem?_append_left hk⟩
  have c1 : CfOk S1 [S2.length, S2.length + 2, S2.length + 1] [] S2.length (S2.length + 2) (S2.length + 1) S.length t.eu .non ⟨[], [], calls, []⟩ [] := by
    refine ⟨get_mid, ?_, .nil, ⟨[], ?_, .nil⟩, .nil, ?_, fun n hn => hn, ⟨g1.at_ hca, ?_⟩, fun n hn => ?_⟩
    · show (_ ++ _)[_]? = _
      rw [List.getElem?_append_right (by omega)]
      simp
    · show (_ ++ _)[_]? = _
      rw [List.getElem?_append_right (by omega)]
      simp
    · simp [muts]
    · simp
      omega
    · have hl : S1.length = S2.length + 4 := by show List.length (S2 ++ _) = _; simp
      simp at hn
      omega
  have hmm : S2.length + 3 ∉ [S2.length, S2.length + 2, S2.length + 1] := by simp
  have hd : S1[S2.length + 3]? = some (.dic []) := by
    show (_ ++ _)[_]? = _
    rw [List.getElem?_append_right (by omega)]
    simp
  obtain ⟨S3, kn, e3, c3, x3⟩ := begin_eq (D := D + 7) c1 t (env := []) [] (sc := S2.length + 3) (kvs := []) ⟨hd, hmm⟩ .nil List.nodup_nil (Nat.zero_le _) (by show 0 < 1000000; decide)
  have x0 : Nx S2 [] [] S1 [S2.length, S2.length + 2, S2.length + 1] [] := ⟨g1.1, fun n h1 h2 => ⟨g1.2 n h1, by simp; omega⟩, [], rfl⟩
  have cst : Cst S2 S2.length (S2.length + 2) (S2.length + 1) S.length t.eu none ⟨[⟨t, [], [], []⟩], [], calls, []⟩ S3 := ⟨_, _, _, _, c3, x0.trans x3, fun v z => nomatch z⟩
  have lo := loop_out (D := D) n fuel _ _ _ hn cst
  have he0 : (S2 ++ [evC S.length (S2.length + 1) (S2.length + 2) calls t.eu .non, .lst [], .lst []])[S2.length]? = some (evC S.length (S2.length + 1) (S2.length + 2) (⟨[], [], calls, []⟩ : Cf).calls t.eu .non) := get_mid
  have hlast : ∀ o, loopI (cndL (pg.cal (D + 11))) (bodL (pg.cal (D + 11))) fuel [some (.loc S2.length)] S3 = o → (pg.cal (D + 12)).call "Evaluation.last_value" [.loc S2.length] (S2 ++ [evC S.length (S2.length + 1) (S2.length + 2) calls t.eu .non, .lst [], .lst []]) = (o.then_ fun env S => exs (pg.cal (D + 11)) (.cons (.ret (.fld (.v 0) "Evaluation" "value")) .nil) env S).fin := fun o ho => by
    rw [call_eq (df := ⟨1, 1, false, T_Evaluation_last_value⟩) (by kernel_rfl), run_eq (by rfl), last_value_eq]
    rw [show ([U.loc S2.length].map some ++ List.replicate (1 - 1) none : Oz.Env) = [some (.loc S2.length)] from rfl]
    rw [go_ex (u := .non) (S1 := S3)]
    · rw [exs_cons, ex_while]
      show ((loopI (cndL (pg.cal (D + 11))) (bodL (pg.cal (D + 11))) fuel [some (.loc S2.length)] S3).then_ _).fin = _
      rw [ho]
    · have hdn : ev (pg.cal (D + 11)) .dnew [some (.loc S2.length)] (S2 ++ [evC S.length (S2.length + 1) (S2.length + 2) calls t.eu .non, .lst [], .lst []]) = .ok (.loc (S2.length + 3)) S1 := by
        show R.ok (U.loc (List.length _)) _ = R.ok _ (S2 ++ _)
        simp
      rw [meth_ev (C := ⟨[], [], calls, []⟩) (us := [t.eu, .loc (S2.length + 3), .non]) (S1 := S1) rfl he0 (by rfl) (by rw [evs_cons, ev_self rfl he0 (by rfl), bind_ok, evs_cons, hdn, bind_ok, evs_cons, ev_k, bind_ok, evs_nil, bind_ok, bind_ok, bind_ok]), en_begin]
      exact e3
  have hout : ∀ r, ((pg.cal (D + 12)).call "Evaluation.last_value" [.loc S2.length] (S2 ++ [evC S.length (S2.length + 1) (S2.length + 2) calls t.eu .non, .lst [], .lst []])) = r →
      ∀ S4 k u, ((∃ v w, r = .ok v S4 ∧ (pg.cal (D + 12)).call "shape" [v] S4 = .ok w S4 ∧ s = .tup [.str "value", w]) ∨ r = .exc "Stopped" [("end", s)] S4) → S4[S2.length]? = some (evC S.length (S2.length + 1) (S2.length + 2) k t.eu u) → S4[S2.length + 1]? = some (.lst []) → (pg.cal (D + 14)).call "run_plain" [t.eu, .int calls] S = .ok (.tup [.tup [], s]) S4 := fun r hr S4 k u hcase h4 p4 => by
    rw [call_eq (df := ⟨2, 2, false, T_run_plain⟩) (by kernel_rfl), run_eq (by rfl)]
    unfold T_run_plain
    rw [show ([t.eu, U.int calls].map some ++ List.replicate (2 - 2) none : Oz.Env) = [some t.eu, some (.int calls)] from rfl]
    have ho : (pg.cal (D + 13)).call "Evaluation.outcome" [.loc S2.length] (S2 ++ [evC S.length (S2.length + 1) (S2.length + 2) calls t.eu .non, .lst [], .lst []]) = .ok (.tup [.tup [], s]) S4 := by
      rw [call_eq (df := ⟨1, 3, false, T_Evaluation_outcome⟩) (by kernel_rfl), run_eq (by rfl)]
      unfold T_Evaluation_outcome
      rw [show ([U.loc S2.length].map some ++ List.replicate (3 - 1) none : Oz.Env) = [some (.loc S2.length), none, none] from rfl]
      have hlv : ev (pg.cal (D + 12)) (.meth (.v 0) "Evaluation" "last_value" .nil) [some (.loc S2.length), none, none] (S2 ++ [evC S.length (S2.length + 1) (S2.length + 2) calls t.eu .non, .lst [], .lst []]) = r := by
        rw [meth_ev (C := ⟨[], [], calls, []⟩) (us := []) (S1 := S2 ++ [evC S.length (S2.length + 1) (S2.length + 2) calls t.eu .non, .lst [], .lst []]) rfl he0 (by rfl) rfl, en_last]
        exact hr
      have hx : ex (pg.cal (D + 12)) (.tryf 1 2 (.tup (.cons (.k (.str "value")) (.cons (.call "shape" (.cons (.meth (.v 0) "Evaluation" "last_value" .nil) .nil)) .nil))) "Stopped" "end") [some (.loc S2.length), none, none] (S2 ++ [evC S.length (S2.length + 1) (S2.length + 2) calls t.eu .non, .lst [], .lst []]) = .nx [some (.loc S2.length), some s, none] S4 := by
        rcases hcase with ⟨v, w, rfl, hw, hs⟩ | rfl
        · rw [ex, ev_tup, evs_cons, ev_k, bind_ok, evs_cons, ev_call, evs_cons, hlv, bind_ok, evs_nil, bind_ok, bind_ok, hw, bind_ok, evs_nil, bind_ok, bind_ok, bind_ok, if_pos (by show 2 ≤ sizeLine; decide), hs]
          rfl
        · rw [ex, ev_tup, evs_cons, ev_k, bind_ok, evs_cons, ev_call, evs_cons, hlv, bind_exc, bind_exc, bind_exc, bind_exc, bind_exc]
          rfl
      rw [exs_cons, hx, then_nx]
      rw [go_ret (u := .tup [.tup [], s]) (S' := S4)]
      · rfl
      · rw [ev_tup, evs_cons, ev_bf, evs_cons, ev_fld' (S1 := S4) (ev_v' rfl) h4 (by rfl), bind_ok, evs_nil, bind_ok, bind_ok, tup_loc p4, bind_ok, evs_cons, ev_v' rfl, bind_ok, evs_nil, bind_ok, bind_ok, bind_ok, if_pos (by show 2 ≤ sizeLine; decide)]
    rw [go_ret (u := .tup [.tup [], s]) (S' := S4)]
    · rfl
    · rw [meth_at (us := []) (hm _ rfl rfl) he0 (by rfl) rfl, en_outcome]
      exact ho
  cases hmr : mrun n ⟨[⟨t, [], [], []⟩], [], calls, []⟩ with
  | go C => rw [hmr] at hr; exact absn hr
  | bad => rw [hmr] at hr; exact absn hr
  | fin C v =>
    rw [hmr] at hr lo
    unfold endS at hr
    dsimp only at hr
    split at hr
    · rename_i hc
      obtain ⟨S4, u, pus, e4, g4, h4, p4, ms, β, r4, q4⟩ := lo
      have hpr : C.pr = [] := List.length_eq_zero_iff.mp hc.2
      rw [hpr] at q4
      cases q4
      cases hs : shp (bareV v) with
      | none => rw [hs] at hr; exact absn hr
      | some w =>
        rw [hs] at hr
        cases hr
        refine ⟨S4, hout _ (hlast _ e4) S4 _ _ (.inl ⟨u, w, ?_, shapeA (d := D + 9) hc.1 hs r4, rfl⟩) h4 p4, g0.trans g4⟩
        rw [then_nx, go_ret (ev_fld' (S1 := S4) (ev_v' rfl) h4 (by rfl))]
        rfl
    · exact absn hr
  | stop pr s' =>
    rw [hmr] at hr lo
    unfold endS at hr
    dsimp only at hr
    split at hr
    · rename_i hc
      cases hr
      obtain ⟨S4, k, u, pus, e4, g4, h4, p4, ms, β, q4⟩ := lo
      have hpr : pr = [] := List.length_eq_zero_iff.mp hc
      rw [hpr] at q4
      cases q4
      refine ⟨S4, hout _ (hlast _ e4) S4 _ _ (.inr ?_) h4 p4, g0.trans g4⟩
      rw [then_exc]
      rfl
    · exact absn hr
end Pr
end
section
set_option maxHeartbeats 4000000
namespace Pr
open PySem L2 Oz
variable {S S' : Sto} {d st cl : Nat}
noncomputable def nx (k k' : Ty) : Prop := (k ≠ .any ∧ (k' = .any ∨ k' = k)) ∨ (k = .any ∧ (k' = .int ∨ k' = .bool))
noncomputable def okc : Ty → List Ty → Prop
  | _, [] => True
  | k, k' :: r => nx k k' ∧ okc k' r
noncomputable def nexts : Ty → List Ty
  | .any => [.int, .bool]
  | k => [.any, k]
noncomputable def chains : Nat → Ty → List (List Ty)
  | 0, _ => [[]]
  | m + 1, k => (nexts k).flatMap fun k' => (chains m k').map (k' :: ·)
theorem nx_in {k k' : Ty} (h : nx k k') : k' ∈ nexts k := by
  rcases h with ⟨h1, h2 | h2⟩ | ⟨h1, h2 | h2⟩
  · subst h2; cases k <;> first | exact absurd rfl h1 | exact List.mem_cons_self
  · subst h2; cases k' <;> first | exact absurd rfl h1 | exact List.mem_cons_of_mem _ List.mem_cons_self
  · subst h1 h2; exact List.mem_cons_self
  · subst h1 h2; exact List.mem_cons_of_mem _ List.mem_cons_self
theorem okc_in : ∀ (r : List Ty) (k : Ty), okc k r → r ∈ chains r.length k
  | [], _, _ => List.mem_cons_self
  | k' :: r, k, h => List.mem_flatMap.mpr ⟨k', nx_in h.1, List.mem_map.mpr ⟨r, okc_in r k' h.2, rfl⟩⟩
noncomputable def kU (t : Ty) : U := .str t.hd
noncomputable def isB (b : Ty) : Prop := b = .int ∨ b = .bool
/-- a word of a chain -/
noncomputable def isK3 (k : Ty) : Prop := k = .any ∨ k = .int ∨ k = .bool
theorem k3_any {k : Ty} (h : isK3 k) : decide (k.hd = "any") = decide (k = .any) := by
  rcases h with rfl | rfl | rfl <;> decide +kernel
theorem nx_k3 {k k' : Ty} (hk : isK3 k) (h : nx k k') : isK3 k' := by
  rcases h with ⟨h1, h2 | h2⟩ | ⟨h1, h2 | h2⟩
  · exact .inl h2
  · rw [h2]; exact hk
  · exact .inr (.inl h2)
  · exact .inr (.inr h2)
noncomputable def H_body : Sts := (.cons (.if_ (.and (.e (.cmp .ne (.v 4) (.k (.str "any")))) (.e (.cmp .eq (.call "_law_take" (.cons (.v 0) (.cons (.k (.int 2)) .nil))) (.k (.int 0))))) (.cons (.set false [4] (.k (.str "any"))) .nil) (.cons (.if_ (.e (.cmp .eq (.v 4) (.k (.str "any")))) (.cons (.set false [4] (.ix (.lst (.cons (.k (.str "int")) (.cons (.k (.str "bool")) (.cons (.v 1) (.cons (.v 1) .nil))))) (.call "_law_take" (.cons (.v 0) (.cons (.k (.int 4)) .nil))))) .nil) .nil) .nil)) (.cons (.ex (.bm .append (.v 3) (.cons (.v 4) .nil))) .nil))
noncomputable abbrev envH (st : Nat) (b : Ty) (m : Int) (kl : Nat) (k : Ty) (x : Option U) : Oz.Env := [some (.loc st), some (kU b), some (.int m), some (.loc kl), some (kU k), x]
/-- one step of a chain -/
theorem chain_step {b k : Ty} {m : Int} {kl : Nat} {x : Option U} {acc : List U} (hb : isB b) (hk : isK3 k) (hs : HasSt S st cl) (hl : S[kl]? = some (.lst acc)) (n1 : kl ≠ st) (n2 : kl ≠ cl) (hz : acc.length < 1000) :
    ∃ k' S', exs (pg.cal (d + 1)) H_body (envH st b m kl k x) S = .nx (envH st b m kl k' x) S' ∧ nx k k' ∧ HasSt S' st cl ∧ S'[kl]? = some (.lst (acc ++ [kU k'])) ∧ (∀ n, n < S.length → n ≠ st → n ≠ cl → n ≠ kl → S'[n]? = S[n]?) ∧ S.length ≤ S'.length := by
  have app : ∀ {S1 : Sto} {k' : Ty}, HasSt S1 st cl → F2 S S1 st cl → nx k k' → ∃ S', exs (pg.cal (d + 1)) (.cons (.ex (.bm .append (.v 3) (.cons (.v 4) .nil))) .nil) (envH st b m kl k' x) S1 = .nx (envH st b m kl k' x) S' ∧ nx k k' ∧ HasSt S' st cl ∧ S'[kl]? = some (.lst (acc ++ [kU k'])) ∧ (∀ n, n < S.length → n ≠ st → n ≠ cl → n ≠ kl → S'[n]? = S[n]?) ∧ S.length ≤ S'.length := by
    intro S1 k' h1 f1 hn
    have hkl : kl < S.length := (List.getElem?_eq_some_iff.mp hl).1
    have l1 : S1[kl]? = some (.lst acc) := (f1.2 kl hkl n1 n2).trans hl
    refine ⟨S1.set kl (.lst (acc ++ [kU k'])), ?_, hn, h1.set n1 n2, List.getElem?_set_self (Nat.lt_of_lt_of_le hkl f1.1), fun n h a b c => ?_, by rw [List.length_set]; exact f1.1⟩
    · rw [go_ex (u := .non) (S1 := S1.set kl (.lst (acc ++ [kU k'])))]
      · rfl
      · rw [ev_bm, ev_v' (u := .loc kl) rfl, bind_ok, ty_app l1, if_pos rfl, evs_cons, ev_v' (u := kU k') rfl, bind_ok, evs_nil, bind_ok, bind_ok, app_ok l1 (Nat.lt_trans hz (by decide))]
    · rw [List.getElem?_set_ne (Ne.symm c)]
      exact f1.2 n h a b
  have t1 : ∀ {S1 : Sto}, evt (pg.cal (d + 1)) (.e (.cmp .ne (.v 4) (.k (.str "any")))) (envH st b m kl k x) S1 = .ok (!decide (k = .any)) S1 := fun {S1} => by
    rw [evt_e, ev_cmp, ev_v' (u := kU k) rfl, bind_ok, ev_k, bind_ok]
    show R.bind (cmpU .ne (.str k.hd) (.str "any") S1) _ = _
    rw [c_ne_str, bind_ok, tru_bl, rO_some, k3_any hk]
  have t2 : ∀ {S1 : Sto}, evt (pg.cal (d + 1)) (.e (.cmp .eq (.v 4) (.k (.str "any")))) (envH st b m kl k x) S1 = .ok (decide (k = .any)) S1 := fun {S1} => by
    rw [evt_e, ev_cmp, ev_v' (u := kU k) rfl, bind_ok, ev_k, bind_ok]
    show R.bind (cmpU .eq (.str k.hd) (.str "any") S1) _ = _
    rw [c_eq_str, bind_ok, tru_bl, rO_some, k3_any hk]
  unfold H_body
  by_cases hka : k = .any
  · -- a word is drawn
    obtain ⟨v, S2, e2, v0, v1, hs2, f2⟩ := takes_eq (d := d) (most := 4) (hs.gr (Gr.push (c := .lst [.str "int", .str "bool", kU b, kU b]))) (by decide) (by decide)
    have hlt := hs.lt
    have hl2 : S2[S.length]? = some (.lst [.str "int", .str "bool", kU b, kU b]) := (f2.2 S.length (by simp) (by omega) (by omega)).trans last_get
    have hset : ∀ k' : Ty, atI [U.str "int", .str "bool", kU b, kU b] v = some (kU k') → ev (pg.cal (d + 1)) (.ix (.lst (.cons (.k (.str "int")) (.cons (.k (.str "bool")) (.cons (.v 1) (.cons (.v 1) .nil))))) (.call "_law_take" (.cons (.v 0) (.cons (.k (.int 4)) .nil)))) (envH st b m kl k x) S = .ok (kU k') S2 := fun k' hk' => by
      rw [ev_ix, ev_lst, evs_cons, ev_k, bind_ok, evs_cons, ev_k, bind_ok, evs_cons, ev_v' (u := kU b) rfl, bind_ok, evs_cons, ev_v' (u := kU b) rfl, bind_ok, evs_nil, bind_ok, bind_ok, bind_ok, bind_ok, bind_ok, if_pos (by show 4 ≤ sizeLine; decide), bind_ok, ev_call, evs_cons, ev_v' (u := .loc st) rfl, bind_ok, evs_cons, ev_k, bind_ok, evs_nil, bind_ok, bind_ok, bind_ok, e2, bind_ok, ix_loc hl2, hk']
    have go : ∀ k' : Ty, atI [U.str "int", .str "bool", kU b, kU b] v = some (kU k') → nx k k' → ∃ k' S', exs (pg.cal (d + 1)) (.cons (.if_ (.and (.e (.cmp .ne (.v 4) (.k (.str "any")))) (.e (.cmp .eq (.call "_law_take" (.cons (.v 0) (.cons (.k (.int 2)) .nil))) (.k (.int 0))))) (.cons (.set false [4] (.k (.str "any"))) .nil) (.cons (.if_ (.e (.cmp .eq (.v 4) (.k (.str "any")))) (.cons (.set false [4] (.ix (.lst (.cons (.k (.str "int")) (.cons (.k (.str "bool")) (.cons (.v 1) (.cons (.v 1) .nil))))) (.call "_law_take" (.cons (.v 0) (.cons (.k (.int 4)) .nil))))) .nil) .nil) .nil)) (.cons (.ex (.bm .append (.v 3) (.cons (.v 4) .nil))) .nil)) (envH st b m kl k x) S = .nx (envH st b m kl k' x) S' ∧ nx k k' ∧ HasSt S' st cl ∧ S'[kl]? = some (.lst (acc ++ [kU k'])) ∧ (∀ n, n < S.length → n ≠ st → n ≠ cl → n ≠ kl → S'[n]? = S[n]?) ∧ S.length ≤ S'.length := fun k' hk' hn => by
      obtain ⟨S', e', r⟩ := app (k' := k') hs2 (F2.push.trans f2) hn
      refine ⟨k', S', ?_, r⟩
      rw [exs_cons, ex_if, evt_and, t1, decide_eq_true hka, bind_ok, if_neg (by decide), on_ok, if_neg Bool.false_ne_true]
      rw [exs_cons, ex_if, t2, decide_eq_true hka, on_ok, if_pos rfl, go_set (hset k' hk'), exs_nil, then_nx, exs_nil, then_nx]
      exact e'
    rcases (show v = 0 ∨ v = 1 ∨ v = 2 ∨ v = 3 by omega) with rfl | rfl | rfl | rfl
    · exact go .int rfl (.inr ⟨hka, .inl rfl⟩)
    · exact go .bool rfl (.inr ⟨hka, .inr rfl⟩)
    · exact go b rfl (.inr ⟨hka, hb⟩)
    · exact go b rfl (.inr ⟨hka, hb⟩)
  · obtain ⟨v, S2, e2, v0, v1, hs2, f2⟩ := takes_eq (d := d) (most := 2) hs (by decide) (by decide)
    have tt : evt (pg.cal (d + 1)) (.and (.e (.cmp .ne (.v 4) (.k (.str "any")))) (.e (.cmp .eq (.call "_law_take" (.cons (.v 0) (.cons (.k (.int 2)) .nil))) (.k (.int 0))))) (envH st b m kl k x) S = .ok (decide (v = 0)) S2 := by
      rw [evt_and, t1, decide_eq_false hka, bind_ok, if_pos (by decide), evt_e, ev_cmp, ev_call, evs_cons, ev_v' (u := .loc st) rfl, bind_ok, evs_cons, ev_k, bind_ok, evs_nil, bind_ok, bind_ok, bind_ok, e2, bind_ok, ev_k, bind_ok, c_eq_int, bind_ok, tru_bl, rO_some]
    by_cases hv : v = 0
    · rw [decide_eq_true hv] at tt
      obtain ⟨S', e', r⟩ := app (k' := .any) hs2 f2 (.inl ⟨hka, .inl rfl⟩)
      refine ⟨.any, S', ?_, r⟩
      rw [exs_cons, ex_if, tt, on_ok, if_pos rfl, go_set (x := .str "any") (S' := S2) rfl, exs_nil, then_nx]
      exact e'
    · rw [decide_eq_false hv] at tt
      obtain ⟨S', e', r⟩ := app (k' := k) hs2 f2 (.inl ⟨hka, .inr rfl⟩)
      refine ⟨k, S', ?_, r⟩
      rw [exs_cons, ex_if, tt, on_ok, if_neg Bool.false_ne_true, exs_cons, ex_if, t2, decide_eq_false hka, on_ok, if_neg Bool.false_ne_true, exs_nil, then_nx, exs_nil, then_nx]
      exact e'
theorem chain_go {b : Ty} {m : Int} {kl : Nat} {all : List U} (hb : isB b) (n1 : kl ≠ st) (n2 : kl ≠ cl) : ∀ (us : List U) (k : Ty) (x : Option U) (acc : List U) (S : Sto), isK3 k → HasSt S st cl → S[kl]? = some (.lst acc) → acc.length + us.length < 1000 →
    ∃ r k' x' S', forI false [5] (fun env S => exs (pg.cal (d + 1)) H_body env S) all none us (envH st b m kl k x) S = .nx (envH st b m kl k' x') S' ∧ okc k r ∧ r.length = us.length ∧ HasSt S' st cl ∧ S'[kl]? = some (.lst (acc ++ r.map kU)) ∧ (∀ n, n < S.length → n ≠ st → n ≠ cl → n ≠ kl → S'[n]? = S[n]?) ∧ S.length ≤ S'.length
  | [], k, x, acc, S, hk, hs, hl, hz => ⟨[], k, x, S, by rw [forI, if_pos (show stays S all none = true from rfl)], trivial, rfl, hs, by simpa using hl, fun _ _ _ _ _ => rfl, Nat.le_refl _⟩
  | u :: us, k, x, acc, S, hk, hs, hl, hz => by
    obtain ⟨k1, S1, e1, hn, hs1, l1, f1, g1⟩ := chain_step (d := d) (m := m) (x := some u) hb hk hs hl n1 n2 (by simp at hz; omega)
    obtain ⟨r, k', x', S', e', ho, hr, hs', l', f', g'⟩ := chain_go hb n1 n2 us k1 (some u) (acc ++ [kU k1]) S1 (nx_k3 hk hn) hs1 l1 (by simp at hz ⊢; omega)
    refine ⟨k1 :: r, k', x', S', ?_, ⟨hn, ho⟩, by simp [hr], hs', by rw [l', List.map_cons, List.append_assoc]; rfl, fun n h a b c => ?_, Nat.le_trans g1 g'⟩
    · rw [forI, if_pos (show stays S all none = true from rfl)]
      show ((exs (pg.cal (d + 1)) H_body (envH st b m kl k (some u)) S).turn _) = _
      rw [e1, turn_nx]
      exact e'
    · rw [f' n (by omega) a b c, f1 n h a b c]
theorem chain_T : T__law_chain = .cons (.set false [3] (.lst (.cons (.v 1) .nil))) (.cons (.set false [4] (.v 1)) (.cons (.forr 5 (.k (.int 0)) (.v 2) H_body) (.cons (.ret (.v 3)) .nil))) := rfl
theorem chain_eq {b : Ty} {m : Nat} (hb : isB b) (hs : HasSt S st cl) (hm : m < 900) :
    ∃ r kl S', (pg.cal (d + 2)).call "_law_chain" [.loc st, kU b, .int (m : Nat)] S = .ok (.loc kl) S' ∧ okc b r ∧ r.length = m ∧ HasSt S' st cl ∧ S'[kl]? = some (.lst ((b :: r).map kU)) ∧ kl ≠ st ∧ kl ≠ cl ∧ F2 S S' st cl := by
  have hlt := hs.lt
  have hb3 : isK3 b := .inr hb
  obtain ⟨r, k', x', S', e', ho, hr, hs', l', f', g'⟩ := chain_go (d := d) (b := b) (m := ((m : Nat) : Int)) (all := ranged 0 (m : Nat)) hb (show S.length ≠ st by omega) (show S.length ≠ cl by omega) (ranged 0 (m : Nat)) b none [kU b] (S ++ [.lst [kU b]]) hb3 (hs.gr Gr.push) last_get (by unfold ranged; simp; omega)
  refine ⟨r, S.length, S', ?_, ho, by rw [hr]; unfold ranged; simp, hs', by rw [l']; rfl, by omega, by omega, ⟨by rw [List.length_append] at g'; omega, fun n h a c => ?_⟩⟩
  · rw [call_eq (df := ⟨3, 6, false, T__law_chain⟩) (by kernel_rfl), run_eq (by rfl), chain_T]
    rw [show ([U.loc st, kU b, .int ((m : Nat) : Int)].map some ++ List.replicate (6 - 3) none : Oz.Env) = [some (.loc st), some (kU b), some (.int ((m : Nat) : Int)), none, none, none] from rfl]
    rw [go_set (x := .loc S.length) (S' := S ++ [.lst [kU b]]) (by rw [ev_lst, evs_cons, ev_v' (u := kU b) rfl, bind_ok, evs_nil, bind_ok, bind_ok, if_pos (by show 1 ≤ sizeLine; decide)])]
    rw [go_set (x := kU b) (S' := S ++ [.lst [kU b]]) (by rw [ev_v' (u := kU b) rfl])]
    have hbd : -(2 ^ 62 : Int) ≤ 0 ∧ (0 : Int) < 2 ^ 62 ∧ -(2 ^ 62 : Int) ≤ ((m : Nat) : Int) ∧ ((m : Nat) : Int) < 2 ^ 62 := by omega
    have hfor : ex (pg.cal (d + 1)) (.forr 5 (.k (.int 0)) (.v 2) H_body) (envH st b ((m : Nat) : Int) S.length b none) (S ++ [.lst [kU b]]) = .nx (envH st b ((m : Nat) : Int) S.length k' x') S' := by
      rw [ex, ev_k, on_ok, ev_v' (u := .int ((m : Nat) : Int)) rfl, on_ok]
      dsimp only
      rw [if_pos hbd]
      exact e'
    rw [show ((([some (.loc st), some (kU b), some (.int ((m : Nat) : Int)), none, none, none] : Oz.Env).set 3 (some (.loc S.length))).set 4 (some (kU b))) = envH st b ((m : Nat) : Int) S.length b none from rfl]
    rw [exs_cons, hfor, then_nx, go_ret (ev_v' (u := .loc S.length) rfl)]
    rfl
  · rw [f' n (by simp; omega) a c (by omega), List.getElem?_append_left h]
end Pr
end
section
set_option maxHeartbeats 4000000
namespace Pr
open PySem L2 Oz
variable {S S' : Sto} {d st cl : Nat}
noncomputable def vT : Ty → Tx
  | .int => .num 5
  | _ => .flag true
noncomputable def wrapT (t : Tx) (r : List Ty) : Tx := r.foldl (fun t k => .as t k) t
theorem type_eq {k : Ty} (h : isK3 k) : (pg.cal (d + 1)).call "_law_type" [kU k] S = .ok (tu k) S := by
  rw [call_eq (df := ⟨1, 1, false, T__law_type⟩) (by kernel_rfl), run_eq (by rfl)]
  unfold T__law_type
  rw [go_ret (u := tu k) (S' := S)]
  · rfl
  · rw [ev_tup, evs_cons, ev_v' (u := kU k) rfl, bind_ok, evs_nil, bind_ok, bind_ok, if_pos (by show 1 ≤ sizeLine; decide)]
    rcases h with rfl | rfl | rfl <;> rfl
theorem cut_tail {x : U} {xs : List U} : cutA (x :: xs) (some 1) none = xs := by
  unfold cutA
  rw [show (some (1 : Int)) = some ((1 : Nat) : Int) from rfl, HT.sIx_none, HT.sIx_nat]
  simp
theorem wrap_go {kl : Nat} {kv : U} {all : List U} : ∀ (r : List Ty) (t : Tx) (x : Option U) (S : Sto), (∀ k ∈ r, isK3 k) → S[kl]? = some (.lst all) →
    ∃ x', forI false [2] (fun env S => exs (pg.cal (d + 1)) (.cons (.set false [0] (.tup (.cons (.k (.str "as")) (.cons (.v 0) (.cons (.call "_law_type" (.cons (.v 2) .nil)) .nil))))) .nil) env S) all (some kl) (r.map kU) [some t.eu, some kv, x] S = .nx [some (wrapT t r).eu, some kv, x'] S
  | [], t, x, S, h, hl => ⟨x, by rw [List.map_nil, forI, if_pos (stays_lst hl)]; rfl⟩
  | k :: r, t, x, S, h, hl => by
    obtain ⟨x', e'⟩ := wrap_go r (.as t k) (some (kU k)) S (fun q hq => h q (List.mem_cons_of_mem _ hq)) hl
    refine ⟨x', ?_⟩
    rw [List.map_cons, forI, if_pos (stays_lst hl)]
    show ((exs (pg.cal (d + 1)) _ [some t.eu, some kv, some (kU k)] S).turn _) = _
    rw [go_set (x := (Tx.as t k).eu) (S' := S) (by
      rw [ev_tup, evs_cons, ev_k, bind_ok, evs_cons, ev_v' (u := t.eu) rfl, bind_ok, evs_cons, ev_call, evs_cons, ev_v' (u := kU k) rfl, bind_ok, evs_nil, bind_ok, bind_ok, type_eq (h k List.mem_cons_self), bind_ok, evs_nil, bind_ok, bind_ok, bind_ok, bind_ok, if_pos (by show 3 ≤ sizeLine; decide)]
      rfl), exs_nil, turn_nx]
    exact e'
theorem wrap_eq {t : Tx} {b : Ty} {r : List Ty} {kl : Nat} (h : ∀ k ∈ r, isK3 k) (hl : S[kl]? = some (.lst ((b :: r).map kU))) : ∃ S', (pg.cal (d + 2)).call "_law_wrap" [t.eu, .loc kl] S = .ok (wrapT t r).eu S' ∧ Gr S S' := by
  obtain ⟨x', e'⟩ := wrap_go (d := d) (kl := S.length) (kv := .loc kl) (all := r.map kU) r t none (S ++ [.lst (r.map kU)]) h last_get
  refine ⟨S ++ [.lst (r.map kU)], ?_, Gr.push⟩
  rw [call_eq (df := ⟨2, 3, false, T__law_wrap⟩) (by kernel_rfl), run_eq (by rfl)]
  unfold T__law_wrap
  rw [show ([t.eu, U.loc kl].map some ++ List.replicate (3 - 2) none : Oz.Env) = [some t.eu, some (.loc kl), none] from rfl]
  have hsl : slU (.loc kl) (some 1) none S = .ok (.loc S.length) (S ++ [.lst (r.map kU)]) := by
    unfold slU
    simp only [list?, hl]
    rw [List.map_cons, cut_tail]
  rw [exs_cons, ex_for, ev_sl, ev_v' (u := .loc kl) rfl, bind_ok, evo_so, ev_k, bind_ok, bind_ok, evo_no, bind_ok, hsl, on_ok]
  have hi : iterU (S ++ [.lst (r.map kU)]) (.loc S.length) = some (r.map kU, some S.length) := by simp only [iterU, last_get]
  simp only [hi]
  rw [e', then_nx, go_ret (ev_v' (u := (wrapT t r).eu) rfl)]
  rfl
noncomputable def blA (b : Ty) : Ty → List Ty → Int
  | _, [] => -1
  | p, x :: r => if x ≠ .any ∧ x ≠ b ∧ x ≠ p then (1 + r.length : Nat) else blA b x r
noncomputable def B_body : Sts := (.cons (.if_ (.and (.e (.cmp .notIn (.ix (.v 0) (.v 3)) (.lst (.cons (.k (.str "any")) (.cons (.v 2) .nil))))) (.e (.cmp .ne (.ix (.v 0) (.v 3)) (.ix (.v 0) (.bin .sub (.v 3) (.k (.int 1))))))) (.cons (.ret (.bin .sub (.bin .sub (.bin .add (.v 1) (.bf .len (.cons (.v 0) .nil))) (.k (.int 1))) (.v 3))) .nil) .nil) .nil)
theorem blame_T : T__law_blame = .cons (.forr 3 (.k (.int 1)) (.bf .len (.cons (.v 0) .nil)) B_body) (.cons (.ret (.neg (.k (.int 1)))) .nil) := rfl
theorem nin_eq {b x : Ty} {n : Nat} (hb : isB b) (hx : isK3 x) (hn : S[n]? = some (.lst [.str "any", kU b])) : cmpU .notIn (kU x) (.loc n) S = .ok (.bl (decide (x ≠ .any ∧ x ≠ b))) S := by
  have e : inR (kU x) (.loc n) S = some (!decide (x ≠ .any ∧ x ≠ b)) := by
    show (match items? S (.loc n) with | some xs => _ | none => none) = _
    simp only [items?, hn]
    rw [if_pos (by rfl)]
    congr 1
    rcases hb with rfl | rfl <;> rcases hx with rfl | rfl | rfl <;> decide +kernel
  unfold cmpU cmpB
  simp only [e, Option.map_some, Bool.not_not]
theorem ne_kU {x p : Ty} (hx : isK3 x) (hp : isK3 p) : cmpU .ne (kU x) (kU p) S = .ok (.bl (decide (x ≠ p))) S := by
  show cmpU .ne (.str x.hd) (.str p.hd) S = _
  rw [c_ne_str]
  congr 2
  rcases hx with rfl | rfl | rfl <;> rcases hp with rfl | rfl | rfl <;> decide +kernel
noncomputable abbrev envA (kl : Nat) (b : Ty) (x : Option U) : Oz.Env := [some (.loc kl), some (.int 1), some (kU b), x]
/-- how the search ends -/
noncomputable def BlO (kl : Nat) (b : Ty) (S : Sto) (o : O) (n : Int) : Prop := if n < 0 then ∃ x S', o = .nx (envA kl b x) S' ∧ Gr S S' else ∃ S', o = .ret (.int n) S' ∧ Gr S S'
theorem blame_go {b : Ty} {kl : Nat} {ks : List U} {all : List U} (hb : isB b) : ∀ (r : List Ty) (p : Ty) (i : Nat) (x : Option U) (S : Sto), (∀ k ∈ r, isK3 k) → isK3 p → S[kl]? = some (.lst ks) → ks.drop i = (p :: r).map kU →
    BlO kl b S (forI false [3] (fun env S => exs (pg.cal (d + 1)) B_body env S) all none ((List.range' i r.length).map fun k => U.int (1 + (k : Nat))) (envA kl b x) S) (blA b p r)
  | [], p, i, x, S, h, hp, hl, hd => by
    show BlO kl b S _ (-1)
    unfold BlO
    rw [if_pos (by decide)]
    exact ⟨x, S, by rw [List.length_nil, List.range'_zero, List.map_nil, forI, if_pos (show stays S all none = true from rfl)], Gr.refl⟩
  | y :: r, p, i, x, S, h, hp, hl, hd => by
    have hy := h y List.mem_cons_self
    have hi : ks[i]? = some (kU p) := by
      have := congrArg (fun l => l[0]?) hd
      simpa using this
    have hi1 : ks[i + 1]? = some (kU y) := by
      have := congrArg (fun l => l[1]?) hd
      simpa using this
    have hlen : ks.length = i + 1 + (r.length + 1) := by
      have := congrArg List.length hd
      simp at this
      omega
    let S1 : Sto := S ++ [.lst [.str "any", kU b]]
    have l1 : S1[kl]? = some (.lst ks) := (Gr.push : Gr S S1).at_ hl
    have i1 : ∀ {S2 : Sto}, S2[kl]? = some (.lst ks) → ev (pg.cal (d + 1)) (.ix (.v 0) (.v 3)) (envA kl b (some (.int (1 + (i : Nat))))) S2 = .ok (kU y) S2 := fun h2 => by
      rw [ev_ix, ev_v' (u := .loc kl) rfl, bind_ok, ev_v' (u := .int (1 + (i : Nat))) rfl, bind_ok, ix_loc h2, show (1 + ((i : Nat) : Int)) = ((i + 1 : Nat) : Int) by omega, atI_nat_own hi1]
    have i0 : ∀ {S2 : Sto}, S2[kl]? = some (.lst ks) → ev (pg.cal (d + 1)) (.ix (.v 0) (.bin .sub (.v 3) (.k (.int 1)))) (envA kl b (some (.int (1 + (i : Nat))))) S2 = .ok (kU p) S2 := fun h2 => by
      rw [ev_ix, ev_v' (u := .loc kl) rfl, bind_ok, ev_bin, ev_v' (u := .int (1 + (i : Nat))) rfl, bind_ok, ev_k, bind_ok, sub_int, bind_ok, ix_loc h2, show (1 + ((i : Nat) : Int) - 1) = ((i : Nat) : Int) by omega, atI_nat_own hi]
    have tt : evt (pg.cal (d + 1)) (.and (.e (.cmp .notIn (.ix (.v 0) (.v 3)) (.lst (.cons (.k (.str "any")) (.cons (.v 2) .nil))))) (.e (.cmp .ne (.ix (.v 0) (.v 3)) (.ix (.v 0) (.bin .sub (.v 3) (.k (.int 1))))))) (envA kl b (some (.int (1 + (i : Nat))))) S = .ok (decide (y ≠ .any ∧ y ≠ b ∧ y ≠ p)) S1 := by
      rw [evt_and, evt_e, ev_cmp, i1 hl, bind_ok, ev_lst, evs_cons, ev_k, bind_ok, evs_cons, ev_v' (u := kU b) rfl, bind_ok, evs_nil, bind_ok, bind_ok, bind_ok, if_pos (by show 2 ≤ sizeLine; decide), bind_ok, nin_eq hb hy last_get, bind_ok, tru_bl, rO_some, bind_ok]
      by_cases hc : y ≠ .any ∧ y ≠ b
      · rw [decide_eq_true hc, if_pos rfl, evt_e, ev_cmp, i1 l1, bind_ok, i0 l1, bind_ok, ne_kU hy hp, bind_ok, tru_bl, rO_some]
        congr 1
        simp [hc.1, hc.2]
      · rw [decide_eq_false hc, if_neg Bool.false_ne_true]
        congr 1
        exact (decide_eq_false (fun z => hc ⟨z.1, z.2.1⟩)).symm
    have hstep : ∀ (f : Oz.Env → Sto → O), forI false [3] (fun env S => exs (pg.cal (d + 1)) B_body env S) all none ((List.range' i (y :: r).length).map fun k => U.int (1 + (k : Nat))) (envA kl b x) S = ((exs (pg.cal (d + 1)) B_body (envA kl b (some (.int (1 + (i : Nat))))) S).turn fun env S => forI false [3] (fun env S => exs (pg.cal (d + 1)) B_body env S) all none ((List.range' (i + 1) r.length).map fun k => U.int (1 + (k : Nat))) env S) := fun _ => by
      rw [List.length_cons, List.range'_succ, List.map_cons, forI, if_pos (show stays S all none = true from rfl)]
      rfl
    rw [hstep (fun env S => .bad)]
    unfold B_body
    by_cases hc : y ≠ .any ∧ y ≠ b ∧ y ≠ p
    · rw [decide_eq_true hc] at tt
      have hb2 : blA b p (y :: r) = ((1 + r.length : Nat) : Int) := if_pos hc
      rw [hb2]
      unfold BlO
      rw [if_neg (by omega)]
      refine ⟨S1, ?_, Gr.push⟩
      rw [exs_cons, ex_if, tt, on_ok, if_pos rfl, go_ret (u := .int ((1 + r.length : Nat) : Int)) (S' := S1), then_ret, turn_ret]
      rw [ev_bin, ev_bin, ev_bin, ev_v' (u := .int 1) rfl, bind_ok, ev_bf, evs_cons, ev_v' (u := .loc kl) rfl, bind_ok, evs_nil, bind_ok, bind_ok, len_loc l1, bind_ok, add_int, bind_ok, ev_k, bind_ok, sub_int, bind_ok, ev_v' (u := .int (1 + (i : Nat))) rfl, bind_ok, sub_int]
      congr 2
      omega
    · rw [decide_eq_false hc] at tt
      have hb2 : blA b p (y :: r) = blA b y r := if_neg hc
      rw [hb2, go_skip tt, exs_nil, turn_nx]
      have q := blame_go (kl := kl) (all := all) hb r y (i + 1) (some (.int (1 + (i : Nat)))) S1 (fun k hk => h k (List.mem_cons_of_mem _ hk)) hy l1 (by
        have := congrArg List.tail hd
        rw [List.tail_drop] at this
        simpa using this)
      unfold B_body at q
      unfold BlO at q ⊢
      split at q
      · rename_i hn
        rw [if_pos hn]
        obtain ⟨x', S', e', g'⟩ := q
        exact ⟨x', S', e', Gr.push.trans g'⟩
      · rename_i hn
        rw [if_neg hn]
        obtain ⟨S', e', g'⟩ := q
        exact ⟨S', e', Gr.push.trans g'⟩
theorem blame_eq {b : Ty} {r : List Ty} {kl : Nat} (hb : isB b) (h : ∀ k ∈ r, isK3 k) (hl : S[kl]? = some (.lst ((b :: r).map kU))) (hz : r.length < 900) : ∃ S', (pg.cal (d + 2)).call "_law_blame" [.loc kl, .int 1, kU b] S = .ok (.int (blA b b r)) S' ∧ Gr S S' := by
  have q := blame_go (d := d) (kl := kl) (ks := (b :: r).map kU) (all := ranged 1 ((r.length + 1 : Nat) : Int)) hb r b 0 none S h (.inr hb) hl rfl
  rw [call_eq (df := ⟨3, 4, false, T__law_blame⟩) (by kernel_rfl), run_eq (by rfl), blame_T]
  rw [show ([U.loc kl, .int 1, kU b].map some ++ List.replicate (4 - 3) none : Oz.Env) = envA kl b none from rfl]
  have hr : ranged 1 ((r.length + 1 : Nat) : Int) = (List.range' 0 r.length).map fun k => U.int (1 + (k : Nat)) := by
    unfold ranged
    rw [show (((r.length + 1 : Nat) : Int) - 1).toNat = r.length by omega, List.range_eq_range']
  have hfor : ex (pg.cal (d + 1)) (.forr 3 (.k (.int 1)) (.bf .len (.cons (.v 0) .nil)) B_body) (envA kl b none) S = forI false [3] (fun env S => exs (pg.cal (d + 1)) B_body env S) (ranged 1 ((r.length + 1 : Nat) : Int)) none ((List.range' 0 r.length).map fun k => U.int (1 + (k : Nat))) (envA kl b none) S := by
    have hbd : -(2 ^ 62 : Int) ≤ 1 ∧ (1 : Int) < 2 ^ 62 ∧ -(2 ^ 62 : Int) ≤ ((r.length + 1 : Nat) : Int) ∧ ((r.length + 1 : Nat) : Int) < 2 ^ 62 := by omega
    rw [ex, ev_k, on_ok, ev_bf, evs_cons, ev_v' (u := .loc kl) rfl, bind_ok, evs_nil, bind_ok, bind_ok, len_loc hl, on_ok]
    dsimp only
    rw [show (((b :: r).map kU).length : Int) = ((r.length + 1 : Nat) : Int) by simp, if_pos hbd, hr]
  rw [exs_cons, hfor]
  unfold BlO at q
  split at q
  · obtain ⟨x', S', e', g'⟩ := q
    refine ⟨S', ?_, g'⟩
    rw [e', then_nx, go_ret (u := .int (-1)) (S' := S') rfl]
    rename_i hn
    have hm : blA b b r = -1 := by
      have key : ∀ (r : List Ty) (p : Ty), blA b p r < 0 → blA b p r = -1 := by
        intro r
        induction r with
        | nil => intro p _; rfl
        | cons y r ih =>
          intro p hp
          unfold blA at hp ⊢
          split at hp
          · omega
          · rename_i hc
            rw [if_neg hc]
            exact ih y hp
      exact key r b hn
    rw [hm]
    rfl
  · obtain ⟨S', e', g'⟩ := q
    refine ⟨S', ?_, g'⟩
    rw [e', then_ret]
    rfl
end Pr
end
section
set_option maxHeartbeats 4000000
namespace Pr
open PySem L2 Oz
noncomputable def refE : U := .tup [.str "refused", .int 0]
noncomputable def isTu : U → Bool
  | .tup _ => true
  | _ => false
noncomputable def okEnd (s : U) : Bool := isTu s && okU s && !Oz.eqU s refE && okU (.tup [.tup [], s]) && (Oz.eqU (.tup [.tup [], s]) (.tup [.tup [], s]) && reprOk (.tup [.tup [], s]))
noncomputable def chk (t : Tx) (s : U) : Bool := match el t [] 0 with
  | some (c, _, _) => decide (2 * t.ht ≤ 600) && (([1, 2, 3] : List Int).all fun k => match endS (mrun 100 ⟨[⟨c, [], [], []⟩], [], k, []⟩) with
    | some s' => ueq s' s
    | none => false) && okEnd s
  | none => false
noncomputable def vU : Ty → U
  | .int => .int 5
  | _ => .bl true
noncomputable def valE (b : Ty) : U := .tup [.str "value", .tup [.str b.hd, vU b]]
noncomputable def blE (n : Int) (k : Int) : U := .tup [.str "blame", .int n, .int k]
noncomputable def endT (b : Ty) (r : List Ty) : U := if 0 ≤ blA b b r then blE (blA b b r) 1 else valE b
noncomputable def tCall (b a p q : Ty) : Tx := .call (.as (.as (.fn "x" b (.name "x")) .any) (.fn p q)) (vT a)
noncomputable def endC (b a : Ty) : U := if a = b then valE b else blE 3 0
noncomputable def tBox (b c : Ty) : Tx := .lt "b" (.as (.box (vT b)) (.bx .any)) (.lt "u" (.put (.name "b") (vT c)) (.get (.name "b")))
noncomputable def endB (b c : Ty) : U := if c = b then valE b else blE 2 0
theorem chk_boxed : ([.int, .bool] : List Ty).all (fun b => ([.int, .bool] : List Ty).all fun c => chk (tBox b c) (endB b c)) = true := by decide +kernel
theorem chk_called : ([.int, .bool] : List Ty).all (fun b => ([.int, .bool] : List Ty).all fun a => ([.any, b] : List Ty).all fun p => ([.any, b] : List Ty).all fun q => if p = b ∧ a ≠ b then true else chk (tCall b a p q) (endC b a)) = true := by decide +kernel
theorem chk_simple_i : (List.range 7).all (fun m => (chains m .int).all fun r => chk (wrapT (vT .int) r) (endT .int r)) = true := by decide +kernel
theorem chk_simple_b : (List.range 7).all (fun m => (chains m .bool).all fun r => chk (wrapT (vT .bool) r) (endT .bool r)) = true := by decide +kernel
end Pr
end
section
set_option maxHeartbeats 4000000
namespace Pr
open PySem L2 Oz
variable {S S' : Sto} {d st cl : Nat}
noncomputable abbrev twoD (x y : U) : Cel := .dic [(.inr "int", x), (.inr "bool", y)]
noncomputable def byB (b : Ty) (x y : U) : U := if b = .int then x else y
theorem dpl2 {Φ : Cal} {env : Oz.Env} {es : Es} {x y : U} (h : ∀ S, evs Φ es env S = .ok [.str "int", x, .str "bool", y] S) : ev Φ (.dpl es) env S = .ok (.loc S.length) (S ++ [twoD x y]) := by
  show (evs Φ es env (S ++ [.dic []])).bind _ = _
  rw [h, bind_ok]
  unfold dplR
  rw [last_get, show dplU [.str "int", x, .str "bool", y] = some [(.inr "int", x), (.inr "bool", y)] from rfl]
  dsimp only
  rw [if_pos (by show 2 ≤ 15; decide), last_set]
  rfl
theorem datB {b : Ty} {n : Nat} {x y : U} (hb : isB b) (hn : S[n]? = some (twoD x y)) : datU (.loc n) (kU b) S = .ok (byB b x y) S := by
  rcases hb with rfl | rfl <;> (show (match S[n]? with | some (.dic kvs) => rO (valU kvs _) S | _ => .bad) = _; rw [hn]; rfl)
theorem datV {Φ : Cal} {env : Oz.Env} {i j n : Nat} {b : Ty} {x y : U} (hb : isB b) (h1 : env[i]? = some (some (.loc n))) (h2 : env[j]? = some (some (kU b))) (hn : S[n]? = some (twoD x y)) : ev Φ (.dat (.v i) (.v j)) env S = .ok (byB b x y) S := by
  show (ev Φ (.v i) env S).bind _ = _
  rw [ev_v' h1, bind_ok, ev_v' h2, bind_ok, datB hb hn]
theorem datD {Φ : Cal} {env : Oz.Env} {es : Es} {j : Nat} {b : Ty} {x y : U} (hb : isB b) (h : ∀ S, evs Φ es env S = .ok [.str "int", x, .str "bool", y] S) (h2 : env[j]? = some (some (kU b))) : ev Φ (.dat (.dpl es) (.v j)) env S = .ok (byB b x y) (S ++ [twoD x y]) := by
  show (ev Φ (.dpl es) env S).bind _ = _
  rw [dpl2 h, bind_ok, ev_v' h2, bind_ok, datB hb last_get]
theorem byB_v {b : Ty} (hb : isB b) : byB b (.tup [.str "num", .int 5]) (.tup [.str "flag", .bl true]) = (vT b).eu := by rcases hb with rfl | rfl <;> rfl
theorem byB_e {b : Ty} (hb : isB b) : byB b (.tup [.str "value", .tup [.str "int", .int 5]]) (.tup [.str "value", .tup [.str "bool", .bl true]]) = valE b := by rcases hb with rfl | rfl <;> rfl
theorem leaf_tu {k : Ty} (h : isK3 k) : U.tup [kU k] = tu k := by rcases h with rfl | rfl | rfl <;> rfl
/-- one of a list that is written -/
theorem pick_l {env : Oz.Env} {es : Es} {us : List U} {i : Nat} {n : Int} (hes : ∀ S, evs (pg.cal (d + 1)) es env S = .ok us S) (h0 : env[i]? = some (some (.loc st))) (hn : ((us.length : Nat) : Int) = n) (hn0 : 0 < n) (hn1 : n ≤ 900) (hs : HasSt S st cl) :
    ∃ w S', ev (pg.cal (d + 1)) (.ix (.lst es) (.call "_law_take" (.cons (.v i) (.cons (.k (.int n)) .nil)))) env S = .ok w S' ∧ w ∈ us ∧ HasSt S' st cl ∧ F2 S S' st cl := by
  have hlt := hs.lt
  obtain ⟨v, S2, e2, v0, v1, hs2, f2⟩ := takes_eq (d := d) (most := n) (hs.gr (Gr.push (c := .lst us))) hn0 (by omega)
  have hl2 : S2[S.length]? = some (.lst us) := (f2.2 S.length (by simp) (by omega) (by omega)).trans last_get
  obtain ⟨k, hk⟩ : ∃ k : Nat, v = (k : Int) := ⟨v.toNat, by omega⟩
  have hkl : k < us.length := by omega
  refine ⟨us[k], S2, ?_, List.getElem_mem hkl, hs2, F2.push.trans f2⟩
  rw [ev_ix, ev_lst, hes, bind_ok, if_pos (szle (by omega)), bind_ok, ev_call, evs_cons, ev_v' h0, bind_ok, evs_cons, ev_k, bind_ok, evs_nil, bind_ok, bind_ok, bind_ok, e2, bind_ok, ix_loc hl2, hk, atI_nat_own (List.getElem?_eq_getElem hkl)]
noncomputable def Lw (t : Tx) (s : U) : Prop := chk t s = true ∨ (s = refE ∧ ∃ b a q, isB b ∧ isB a ∧ (q = .any ∨ q = b) ∧ a ≠ b ∧ t = tCall b a b q)
theorem all_mem {α : Type} {l : List α} {f : α → Bool} (h : l.all f = true) {a : α} (ha : a ∈ l) : f a = true := List.all_eq_true.mp h a ha
theorem isB_in {b : Ty} (h : isB b) : b ∈ ([.int, .bool] : List Ty) := by rcases h with rfl | rfl <;> simp
theorem simple_lw {b : Ty} {r : List Ty} (hb : isB b) (hr : okc b r) (hl : r.length ≤ 6) : Lw (wrapT (vT b) r) (endT b r) := by
  have hm : r.length ∈ List.range 7 := List.mem_range.mpr (by omega)
  rcases hb with rfl | rfl
  · exact .inl (all_mem (all_mem chk_simple_i hm) (okc_in r _ hr))
  · exact .inl (all_mem (all_mem chk_simple_b hm) (okc_in r _ hr))
theorem okc_k3 : ∀ (r : List Ty) (k : Ty), isK3 k → okc k r → ∀ x ∈ r, isK3 x
  | [], _, _, _, x, hx => by simp at hx
  | y :: r, k, hk, h, x, hx => by
    rcases List.mem_cons.mp hx with rfl | hx
    · exact nx_k3 hk h.1
    · exact okc_k3 r y (nx_k3 hk h.1) h.2 x hx
theorem simple_eq {b : Ty} (hb : isB b) (hs : HasSt S st cl) : ∃ t s S', (pg.cal (d + 3)).call "_law_simple" [.loc st, kU b] S = .ok (.tup [t.eu, s]) S' ∧ Lw t s ∧ HasSt S' st cl := by
  obtain ⟨v, S1, e1, v0, v1, hs1, f1⟩ := takes_eq (d := d + 1) (most := 7) hs (by decide) (by decide)
  obtain ⟨m, rfl⟩ : ∃ m : Nat, v = (m : Int) := ⟨v.toNat, by omega⟩
  obtain ⟨r, kl, S2, e2, ho, hr, hs2, l2, n1, n2, f2⟩ := chain_eq (d := d) hb hs1 (m := m) (by omega)
  have hk := okc_k3 r b (.inr hb) ho
  let S3 : Sto := S2 ++ [twoD (.tup [.str "num", .int 5]) (.tup [.str "flag", .bl true])]
  have g3 : Gr S2 S3 := Gr.push
  obtain ⟨S4, e4, g4⟩ := blame_eq (d := d) hb hk (g3.at_ l2) (by omega)
  let S5 : Sto := S4 ++ [twoD (.tup [.str "value", .tup [.str "int", .int 5]]) (.tup [.str "value", .tup [.str "bool", .bl true]])]
  have g5 : Gr S2 S5 := (g3.trans g4).trans Gr.push
  obtain ⟨S6, e6, g6⟩ := wrap_eq (d := d) (t := vT b) hk (g5.at_ l2)
  refine ⟨wrapT (vT b) r, endT b r, S6, ?_, simple_lw hb ho (by omega), hs2.gr (g5.trans g6)⟩
  rw [call_eq (df := ⟨2, 6, false, T__law_simple⟩) (by kernel_rfl), run_eq (by rfl)]
  unfold T__law_simple
  rw [show ([U.loc st, kU b].map some ++ List.replicate (6 - 2) none : Oz.Env) = [some (.loc st), some (kU b), none, none, none, none] from rfl]
  rw [go_set (x := .loc kl) (S' := S2) (by rw [ev_call, evs_cons, ev_v' (u := .loc st) rfl, bind_ok, evs_cons, ev_v' (u := kU b) rfl, bind_ok, evs_cons, ev_call, evs_cons, ev_v' (u := .loc st) rfl, bind_ok, evs_cons, ev_k, bind_ok, evs_nil, bind_ok, bind_ok, bind_ok, e1, bind_ok, evs_nil, bind_ok, bind_ok, bind_ok, bind_ok]; exact e2)]
  rw [go_set (x := (vT b).eu) (S' := S3) (by rw [datD (x := .tup [.str "num", .int 5]) (y := .tup [.str "flag", .bl true]) hb (fun S => rfl) rfl, byB_v hb])]
  rw [go_set (x := .int (blA b b r)) (S' := S4) (by rw [ev_call, evs_cons, ev_v' (u := .loc kl) rfl, bind_ok, evs_cons, ev_k, bind_ok, evs_cons, ev_v' (u := kU b) rfl, bind_ok, evs_nil, bind_ok, bind_ok, bind_ok, bind_ok]; exact e4)]
  rw [go_set (x := valE b) (S' := S5) (by rw [datD (x := .tup [.str "value", .tup [.str "int", .int 5]]) (y := .tup [.str "value", .tup [.str "bool", .bl true]]) hb (fun S => rfl) rfl, byB_e hb])]
  have tt : ∀ env : Oz.Env, env[4]? = some (some (.int (blA b b r))) → evt (pg.cal (d + 2)) (.e (.cmp .ge (.v 4) (.k (.int 0)))) env S5 = .ok (decide (0 ≤ blA b b r)) S5 := fun env h4 => by
    rw [evt_e, ev_cmp, ev_v' h4, bind_ok, ev_k, bind_ok, c_ge_int, bind_ok, tru_bl, rO_some]
  have fin : ∀ (env : Oz.Env), env[3]? = some (some (vT b).eu) → env[2]? = some (some (.loc kl)) → env[5]? = some (some (endT b r)) → (exs (pg.cal (d + 2)) (.cons (.ret (.tup (.cons (.call "_law_wrap" (.cons (.v 3) (.cons (.v 2) .nil))) (.cons (.v 5) .nil)))) .nil) env S5).fin = .ok (.tup [(wrapT (vT b) r).eu, endT b r]) S6 := fun env h3 h2 h5 => by
    rw [go_ret (u := .tup [(wrapT (vT b) r).eu, endT b r]) (S' := S6)]
    · rfl
    · rw [ev_tup, evs_cons, ev_call, evs_cons, ev_v' h3, bind_ok, evs_cons, ev_v' h2, bind_ok, evs_nil, bind_ok, bind_ok, bind_ok, e6, bind_ok, evs_cons, ev_v' h5, bind_ok, evs_nil, bind_ok, bind_ok, bind_ok, if_pos (by show 2 ≤ sizeLine; decide)]
  by_cases hn : 0 ≤ blA b b r
  · have he : endT b r = blE (blA b b r) 1 := if_pos hn
    rw [go_if_set (x := blE (blA b b r) 1) (S'' := S5) (by rw [tt _ rfl, decide_eq_true hn]) (by rfl)]
    exact fin _ rfl rfl (by rw [he]; rfl)
  · have he : endT b r = valE b := if_neg hn
    rw [go_skip (S' := S5) (by rw [tt _ rfl, decide_eq_false hn])]
    exact fin _ rfl rfl (by rw [he]; rfl)
theorem eq_kU {x p : Ty} (hx : isK3 x) (hp : isK3 p) : cmpU .eq (kU x) (kU p) S = .ok (.bl (decide (x = p))) S := by
  show cmpU .eq (.str x.hd) (.str p.hd) S = _
  rw [c_eq_str]
  congr 2
  rcases hx with rfl | rfl | rfl <;> rcases hp with rfl | rfl | rfl <;> decide +kernel
theorem mem_B {w : U} (h : w ∈ [U.str "int", .str "bool"]) : ∃ a, isB a ∧ w = kU a := by
  simp only [List.mem_cons, List.not_mem_nil, or_false] at h
  rcases h with rfl | rfl
  · exact ⟨.int, .inl rfl, rfl⟩
  · exact ⟨.bool, .inr rfl, rfl⟩
theorem mem_P {w : U} {b : Ty} (h : w ∈ [U.str "any", kU b, .str "any", .str "any"]) : ∃ a, (a = .any ∨ a = b) ∧ w = kU a := by
  simp only [List.mem_cons, List.not_mem_nil, or_false] at h
  rcases h with rfl | rfl | rfl | rfl
  · exact ⟨.any, .inl rfl, rfl⟩
  · exact ⟨b, .inr rfl, rfl⟩
  · exact ⟨.any, .inl rfl, rfl⟩
  · exact ⟨.any, .inl rfl, rfl⟩
theorem called_lw {b a p q : Ty} (hb : isB b) (ha : isB a) (hp : p = .any ∨ p = b) (hq : q = .any ∨ q = b) (h : ¬ (p = b ∧ a ≠ b)) : Lw (tCall b a p q) (endC b a) := by
  have hp' : p ∈ ([.any, b] : List Ty) := by rcases hp with rfl | rfl <;> simp
  have hq' : q ∈ ([.any, b] : List Ty) := by rcases hq with rfl | rfl <;> simp
  have := all_mem (all_mem (all_mem (all_mem chk_called (isB_in hb)) (isB_in ha)) hp') hq'
  rw [if_neg h] at this
  exact .inl this
theorem called_eq {b : Ty} (hb : isB b) (hs : HasSt S st cl) : ∃ t s S', (pg.cal (d + 3)).call "_law_called" [.loc st, kU b] S = .ok (.tup [t.eu, s]) S' ∧ Lw t s ∧ HasSt S' st cl := by
  have hb3 : isK3 b := .inr hb
  obtain ⟨w1, S1, e1, m1, hs1, f1⟩ := pick_l (d := d + 1) (env := [some (.loc st), some (kU b), none, none, none, none, none, none, none]) (es := .cons (.k (.str "int")) (.cons (.k (.str "bool")) .nil)) (us := [.str "int", .str "bool"]) (i := 0) (n := 2) (fun S => rfl) rfl rfl (by decide) (by decide) hs
  obtain ⟨a, ha, rfl⟩ := mem_B m1
  have ha3 : isK3 a := .inr ha
  let fE : U := (Tx.fn "x" b (.name "x")).eu
  obtain ⟨w2, S2, e2, m2, hs2, f2⟩ := pick_l (d := d + 1) (env := [some (.loc st), some (kU b), some (kU a), some fE, none, none, none, none, none]) (es := .cons (.k (.str "any")) (.cons (.v 1) (.cons (.k (.str "any")) (.cons (.k (.str "any")) .nil)))) (us := [.str "any", kU b, .str "any", .str "any"]) (i := 0) (n := 4) (fun S => rfl) rfl rfl (by decide) (by decide) hs1
  obtain ⟨p, hp, rfl⟩ := mem_P m2
  have hp3 : isK3 p := by rcases hp with rfl | rfl; exact .inl rfl; exact hb3
  obtain ⟨w3, S3, e3, m3, hs3, f3⟩ := pick_l (d := d + 1) (env := [some (.loc st), some (kU b), some (kU a), some fE, some (kU p), none, none, none, none]) (es := .cons (.k (.str "any")) (.cons (.v 1) (.cons (.k (.str "any")) (.cons (.k (.str "any")) .nil)))) (us := [.str "any", kU b, .str "any", .str "any"]) (i := 0) (n := 4) (fun S => rfl) rfl rfl (by decide) (by decide) hs2
  obtain ⟨q, hq, rfl⟩ := mem_P m3
  have hq3 : isK3 q := by rcases hq with rfl | rfl; exact .inl rfl; exact hb3
  let S4 : Sto := S3 ++ [twoD (.tup [.str "num", .int 5]) (.tup [.str "flag", .bl true])]
  have g4 : Gr S3 S4 := Gr.push
  let t : Tx := tCall b a p q
  have key : (pg.cal (d + 3)).call "_law_called" [.loc st, kU b] S = (exs (pg.cal (d + 2)) (.cons (.if_ (.and (.e (.cmp .eq (.v 4) (.v 1))) (.e (.cmp .ne (.v 2) (.v 1)))) (.cons (.ret (.tup (.cons (.v 8) (.cons (.tup (.cons (.k (.str "refused")) (.cons (.k (.int 0)) .nil))) .nil)))) .nil) .nil) (.cons (.if_ (.e (.cmp .ne (.v 2) (.v 1))) (.cons (.ret (.tup (.cons (.v 8) (.cons (.tup (.cons (.k (.str "blame")) (.cons (.k (.int 3)) (.cons (.k (.int 0)) .nil)))) .nil)))) .nil) .nil) (.cons (.ret (.tup (.cons (.v 8) (.cons (.tup (.cons (.k (.str "value")) (.cons (.tup (.cons (.v 1) (.cons (.ix (.v 7) (.k (.int 1))) .nil))) .nil))) .nil)))) .nil))) [some (.loc st), some (kU b), some (kU a), some fE, some (kU p), some (kU q), some (tu (.fn p q)), some (vT a).eu, some t.eu] S4).fin := by
    rw [call_eq (df := ⟨2, 9, false, T__law_called⟩) (by kernel_rfl), run_eq (by rfl)]
    unfold T__law_called
    rw [show ([U.loc st, kU b].map some ++ List.replicate (9 - 2) none : Oz.Env) = [some (.loc st), some (kU b), none, none, none, none, none, none, none] from rfl]
    rw [go_set (x := kU a) (S' := S1) e1]
    rw [show (([some (.loc st), some (kU b), none, none, none, none, none, none, none] : Oz.Env).set 2 (some (kU a))) = [some (.loc st), some (kU b), some (kU a), none, none, none, none, none, none] from rfl]
    rw [go_set (x := fE) (S' := S1) (by
      show R.ok (U.tup [.str "fun", .str "x", .tup [kU b], .tup [.str "name", .str "x"]]) S1 = _
      rw [leaf_tu hb3]
      rfl)]
    rw [show (([some (.loc st), some (kU b), some (kU a), none, none, none, none, none, none] : Oz.Env).set 3 (some fE)) = [some (.loc st), some (kU b), some (kU a), some fE, none, none, none, none, none] from rfl]
    rw [go_set (x := kU p) (S' := S2) e2]
    rw [show (([some (.loc st), some (kU b), some (kU a), some fE, none, none, none, none, none] : Oz.Env).set 4 (some (kU p))) = [some (.loc st), some (kU b), some (kU a), some fE, some (kU p), none, none, none, none] from rfl]
    rw [go_set (x := kU q) (S' := S3) e3]
    rw [go_set (x := tu (.fn p q)) (S' := S3) (by
      show R.ok (U.tup [.str "fun", .tup [kU p], .tup [kU q]]) S3 = _
      rw [leaf_tu hp3, leaf_tu hq3]
      rfl)]
    rw [go_set (x := (vT a).eu) (S' := S4) (by rw [datD (x := .tup [.str "num", .int 5]) (y := .tup [.str "flag", .bl true]) ha (fun S => rfl) rfl, byB_v ha])]
    rw [go_set (x := t.eu) (S' := S4) (by rfl)]
    rfl
  have te : ∀ {S : Sto}, evt (pg.cal (d + 2)) (.e (.cmp .eq (.v 4) (.v 1))) [some (.loc st), some (kU b), some (kU a), some fE, some (kU p), some (kU q), some (tu (.fn p q)), some (vT a).eu, some t.eu] S = .ok (decide (p = b)) S := fun {S} => by
    rw [evt_e, ev_cmp, ev_v' (u := kU p) rfl, bind_ok, ev_v' (u := kU b) rfl, bind_ok, eq_kU hp3 hb3, bind_ok, tru_bl, rO_some]
  have tn : ∀ {S : Sto}, evt (pg.cal (d + 2)) (.e (.cmp .ne (.v 2) (.v 1))) [some (.loc st), some (kU b), some (kU a), some fE, some (kU p), some (kU q), some (tu (.fn p q)), some (vT a).eu, some t.eu] S = .ok (decide (a ≠ b)) S := fun {S} => by
    rw [evt_e, ev_cmp, ev_v' (u := kU a) rfl, bind_ok, ev_v' (u := kU b) rfl, bind_ok, ne_kU ha3 hb3, bind_ok, tru_bl, rO_some]
  have ta : evt (pg.cal (d + 2)) (.and (.e (.cmp .eq (.v 4) (.v 1))) (.e (.cmp .ne (.v 2) (.v 1)))) [some (.loc st), some (kU b), some (kU a), some fE, some (kU p), some (kU q), some (tu (.fn p q)), some (vT a).eu, some t.eu] S4 = .ok (decide (p = b ∧ a ≠ b)) S4 := by
    rw [evt_and, te, bind_ok]
    by_cases h : p = b
    · rw [decide_eq_true h, if_pos rfl, tn]
      congr 1
      simp [h]
    · rw [decide_eq_false h, if_neg Bool.false_ne_true]
      congr 1
      simp [h]
  have hst4 := hs3.gr g4
  by_cases h1 : p = b ∧ a ≠ b
  · refine ⟨t, refE, S4, ?_, .inr ⟨rfl, b, a, q, hb, ha, hq, h1.2, by show tCall b a p q = tCall b a b q; rw [h1.1]⟩, hst4⟩
    rw [key, go_stop (S1 := S4) (S2 := S4) (u := .tup [t.eu, refE]) (by rw [ta, decide_eq_true h1]) (by rfl)]
    rfl
  · have lw := called_lw hb ha hp hq h1
    rw [key, go_skip (S' := S4) (by rw [ta, decide_eq_false h1])]
    by_cases h2 : a = b
    · have he : endC b a = valE b := if_pos h2
      rw [he] at lw
      refine ⟨t, valE b, S4, ?_, lw, hst4⟩
      rw [go_skip (S' := S4) (by rw [tn]; simp [h2]), go_ret (u := .tup [t.eu, valE b]) (S' := S4)]
      · rfl
      · subst h2
        rcases ha with rfl | rfl <;> rfl
    · have he : endC b a = blE 3 0 := if_neg h2
      rw [he] at lw
      refine ⟨t, blE 3 0, S4, ?_, lw, hst4⟩
      rw [go_stop (S1 := S4) (S2 := S4) (u := .tup [t.eu, blE 3 0]) (by rw [tn]; simp [h2]) (by rfl)]
      rfl
theorem boxed_eq {b : Ty} (hb : isB b) (hs : HasSt S st cl) : ∃ t s S', (pg.cal (d + 3)).call "_law_boxed" [.loc st, kU b] S = .ok (.tup [t.eu, s]) S' ∧ Lw t s ∧ HasSt S' st cl := by
  have hb3 : isK3 b := .inr hb
  let D1 : Cel := twoD (.tup [.str "num", .int 5]) (.tup [.str "flag", .bl true])
  let S1 : Sto := S ++ [D1]
  have hlt := hs.lt
  obtain ⟨w1, S2, e2, m1, hs2, f2⟩ := pick_l (d := d + 1) (env := [some (.loc st), some (kU b), some (.loc S.length), none, none, none, none, none]) (es := .cons (.k (.str "int")) (.cons (.k (.str "bool")) .nil)) (us := [.str "int", .str "bool"]) (i := 0) (n := 2) (fun S => rfl) rfl rfl (by decide) (by decide) (hs.gr (Gr.push (c := D1)))
  obtain ⟨c, hc, rfl⟩ := mem_B m1
  have hc3 : isK3 c := .inr hc
  have hd : S2[S.length]? = some D1 := (f2.2 S.length (by simp) (by omega) (by omega)).trans last_get
  have d1 : ∀ (env : Oz.Env) (j : Nat) (x : Ty), isB x → env[2]? = some (some (.loc S.length)) → env[j]? = some (some (kU x)) → ev (pg.cal (d + 2)) (.dat (.v 2) (.v j)) env S2 = .ok (vT x).eu S2 := fun env j x hx h2 hj => by rw [datV hx h2 hj hd, byB_v hx]
  have lw : Lw (tBox b c) (endB b c) := .inl (all_mem (all_mem chk_boxed (isB_in hb)) (isB_in hc))
  refine ⟨tBox b c, endB b c, S2, ?_, lw, hs2⟩
  rw [call_eq (df := ⟨2, 8, false, T__law_boxed⟩) (by kernel_rfl), run_eq (by rfl)]
  unfold T__law_boxed
  rw [show ([U.loc st, kU b].map some ++ List.replicate (8 - 2) none : Oz.Env) = [some (.loc st), some (kU b), none, none, none, none, none, none] from rfl]
  rw [go_set (x := .loc S.length) (S' := S1) (dpl2 fun S => rfl)]
  rw [show (([some (.loc st), some (kU b), none, none, none, none, none, none] : Oz.Env).set 2 (some (.loc S.length))) = [some (.loc st), some (kU b), some (.loc S.length), none, none, none, none, none] from rfl]
  rw [go_set (x := kU c) (S' := S2) e2]
  rw [go_set (x := (Tx.box (vT b)).eu) (S' := S2) (by rw [ev_tup, evs_cons, ev_k, bind_ok, evs_cons, d1 _ 1 b hb rfl rfl, bind_ok, evs_nil, bind_ok, bind_ok, bind_ok, if_pos (by show 2 ≤ sizeLine; decide)]; rfl)]
  rw [go_set (x := (Tx.as (.box (vT b)) (.bx .any)).eu) (S' := S2) (by rfl)]
  rw [go_set (x := (Tx.lt "u" (.put (.name "b") (vT c)) (.get (.name "b"))).eu) (S' := S2) (by
    rw [ev_tup, evs_cons, ev_k, bind_ok, evs_cons, ev_k, bind_ok, evs_cons, ev_tup, evs_cons, ev_k, bind_ok, evs_cons, ev_tup, evs_cons, ev_k, bind_ok, evs_cons, ev_k, bind_ok, evs_nil, bind_ok, bind_ok, bind_ok, if_pos (by show 2 ≤ sizeLine; decide), bind_ok, evs_cons, d1 _ 3 c hc rfl rfl, bind_ok, evs_nil, bind_ok, bind_ok, bind_ok, bind_ok, if_pos (by show 3 ≤ sizeLine; decide), bind_ok]
    rfl)]
  rw [go_set (x := valE b) (S' := S2) (by
    rw [ev_tup, evs_cons, ev_k, bind_ok, evs_cons, ev_tup, evs_cons, ev_v' (u := kU b) rfl, bind_ok, evs_cons, ev_ix, d1 _ 1 b hb rfl rfl, bind_ok, ev_k, bind_ok]
    rcases hb with rfl | rfl <;> rfl)]
  have tn : ∀ env : Oz.Env, env[3]? = some (some (kU c)) → env[1]? = some (some (kU b)) → evt (pg.cal (d + 2)) (.e (.cmp .ne (.v 3) (.v 1))) env S2 = .ok (decide (c ≠ b)) S2 := fun env h3 h1 => by
    rw [evt_e, ev_cmp, ev_v' h3, bind_ok, ev_v' h1, bind_ok, ne_kU hc3 hb3, bind_ok, tru_bl, rO_some]
  by_cases h : c = b
  · have he : endB b c = valE b := if_pos h
    rw [go_skip (S' := S2) (by rw [tn _ rfl rfl]; simp [h]), he, go_ret (u := .tup [(tBox b c).eu, valE b]) (S' := S2) (by rfl)]
    rfl
  · have he : endB b c = blE 2 0 := if_neg h
    rw [go_if_set (x := blE 2 0) (S' := S2) (S'' := S2) (by rw [tn _ rfl rfl]; simp [h]) (by rfl), he, go_ret (u := .tup [(tBox b c).eu, blE 2 0]) (S' := S2) (by rfl)]
    rfl
end Pr
end
section
set_option maxHeartbeats 4000000
namespace Pr
open PySem L2 Oz
variable {S S' : Sto} {d st cl : Nat}
theorem els_call {b a q : Ty} (hb : isB b) (ha : isB a) (hq : q = .any ∨ q = b) : ∃ n1 n2 c1 c2 k1, els [.as (.as (.fn "x" b (.name "x")) .any) (.fn b q), vT a] [] 1 = some ([(n1, c1, .fn b q), (n2, c2, a)], k1) := by
  rcases hb with rfl | rfl <;> rcases ha with rfl | rfl <;> rcases hq with rfl | rfl <;> exact ⟨_, _, _, _, _, rfl⟩
theorem refused_law {b a q : Ty} (hb : isB b) (ha : isB a) (hq : q = .any ∨ q = b) (hne : a ≠ b) : ∃ S', (pg.cal (d + 60)).call "_law_refused" [(tCall b a b q).eu] S = .ok (.bl true) S' := by
  obtain ⟨n1, n2, c1, c2, k1, he⟩ := els_call hb ha hq
  obtain ⟨S1, fs, e1⟩ := refused_eq (D := d + 59) (a := .as (.as (.fn "x" b (.name "x")) .any) (.fn b q)) (b := vT a) S he (by rcases hb with rfl | rfl <;> decide) (by rcases hb with rfl | rfl <;> rcases hq with rfl | rfl <;> decide +kernel) (by rcases hb with rfl | rfl <;> rcases ha with rfl | rfl <;> first | exact absurd rfl hne | decide +kernel) (by rcases ha with rfl | rfl <;> (show 2 * 5 ≤ 600; decide)) (by rcases ha with rfl | rfl <;> (show 24 + 2 * 5 ≤ d + 59; omega))
  refine ⟨S1, ?_⟩
  rw [call_eq (df := ⟨1, 1, false, T__law_refused⟩) (by kernel_rfl), run_eq (by rfl)]
  unfold T__law_refused
  have hx : ex (pg.cal (d + 59)) (.tryr (.call "elaborate" (.cons (.v 0) .nil)) "Refused" ["Mismatched", "Stopped", "Unknown"] (.bl true)) [some (tCall b a b q).eu] S = .ret (.bl true) S1 := by
    have hev : ev (pg.cal (d + 59)) (.call "elaborate" (.cons (.v 0) .nil)) [some (tCall b a b q).eu] S = .exc "Mismatched" fs S1 := by
      rw [ev_call, evs_cons, ev_v' rfl, bind_ok, evs_nil, bind_ok, bind_ok]
      exact e1
    rw [ex, hev]
    rfl
  rw [show ([(tCall b a b q).eu].map some ++ List.replicate (1 - 1) none : Oz.Env) = [some (tCall b a b q).eu] from rfl, exs_cons, hx, then_ret]
  rfl
noncomputable def Q_tail : Sts := (.cons (.if_ (.e (.cmp .eq (.v 5) (.tup (.cons (.k (.str "refused")) (.cons (.k (.int 0)) .nil))))) (.cons (.ret (.call "_law_refused" (.cons (.v 4) .nil))) .nil) .nil) (.cons (.set false [6] (.call "run_plain" (.cons (.ix (.call "elaborate" (.cons (.v 4) .nil)) (.k (.int 0))) (.cons (.bin .add (.k (.int 1)) (.call "_law_take" (.cons (.v 1) (.cons (.k (.int 3)) .nil)))) .nil)))) (.cons (.ret (.and (.cmp .eq (.v 6) (.tup (.cons (.tup .nil) (.cons (.v 5) .nil)))) (.cmp .eq (.bf .repr (.cons (.v 6) .nil)) (.bf .repr (.cons (.tup (.cons (.tup .nil) (.cons (.v 5) .nil))) .nil))))) .nil)))
noncomputable def Q_kind : Oz.St := (.if_ (.e (.cmp .eq (.v 3) (.k (.int 0)))) (.cons (.set true [4, 5] (.call "_law_simple" (.cons (.v 1) (.cons (.v 2) .nil)))) .nil) (.cons (.if_ (.e (.cmp .eq (.v 3) (.k (.int 1)))) (.cons (.set true [4, 5] (.call "_law_called" (.cons (.v 1) (.cons (.v 2) .nil)))) .nil) (.cons (.set true [4, 5] (.call "_law_boxed" (.cons (.v 1) (.cons (.v 2) .nil)))) .nil)) .nil))
theorem law_T : T_law = (.cons (.set false [1] (.call "_law_state" (.cons (.v 0) .nil))) (.cons (.set false [2] (.ix (.lst (.cons (.k (.str "int")) (.cons (.k (.str "bool")) .nil))) (.call "_law_take" (.cons (.v 1) (.cons (.k (.int 2)) .nil))))) (.cons (.set false [3] (.call "_law_take" (.cons (.v 1) (.cons (.k (.int 3)) .nil)))) (.cons Q_kind Q_tail)))) := rfl
theorem eqR_p {x y : U} (hx : okU x = true) (hy : okU y = true) (h1 : ∃ xs, x = .tup xs) (h2 : ∃ ys, y = .tup ys) : cmpU .eq x y S = .ok (.bl (Oz.eqU x y)) S := by
  obtain ⟨xs, rfl⟩ := h1
  obtain ⟨ys, rfl⟩ := h2
  have e : eqR (.tup xs) (.tup ys) S = some (Oz.eqU (.tup xs) (.tup ys)) := by
    show (if okU (.tup xs) && okU (.tup ys) then some (Oz.eqU (.tup xs) (.tup ys)) else none) = _
    rw [hx, hy, Bool.and_self, if_pos rfl]
  unfold cmpU cmpB
  rw [e]
theorem ok_ref : okU refE = true := by decide +kernel
theorem eq_ref : Oz.eqU refE refE = true := by decide +kernel
theorem chk_el {t : Tx} {s : U} (h : chk t s = true) : ∃ c ty k', el t [] 0 = some (c, ty, k') ∧ 2 * t.ht ≤ 600 ∧ (∀ k : Int, k = 1 ∨ k = 2 ∨ k = 3 → endS (mrun 100 ⟨[⟨c, [], [], []⟩], [], k, []⟩) = some s) ∧ okEnd s = true := by
  unfold chk at h
  split at h
  · rename_i c ty k' he
    simp only [Bool.and_eq_true, List.all_eq_true, decide_eq_true_eq] at h
    obtain ⟨⟨h1, h2⟩, h3⟩ := h
    refine ⟨c, ty, k', he, h1, fun k hk => ?_, h3⟩
    have := h2 k (by rcases hk with rfl | rfl | rfl <;> simp)
    split at this
    · rename_i s' hs
      rw [hs, (ueq_iff _ _).mp this]
    · cases this
  · cases h
theorem law_eq (ns : List Int) (hl : ns.length ≤ 63) : ∃ S', (⟨1, N_law.length, false, T_law⟩ : Df).run (pg.cal 677) [.loc 0] [.fro (ns.map U.int)] = .ok (.bl true) S' := by
  obtain ⟨st, cl, S1, e1, hs1⟩ := state_eq (d := 676) ns hl
  obtain ⟨w, S2, e2, m2, hs2, f2⟩ := pick_l (d := 676) (env := [some (.loc 0), some (.loc st), none, none, none, none, none]) (es := .cons (.k (.str "int")) (.cons (.k (.str "bool")) .nil)) (us := [.str "int", .str "bool"]) (i := 1) (n := 2) (fun S => rfl) rfl rfl (by decide) (by decide) hs1
  obtain ⟨b, hb, rfl⟩ := mem_B m2
  obtain ⟨v3, S3, e3, a3, b3, hs3, f3⟩ := takes_eq (d := 676) (most := 3) hs2 (by decide) (by decide)
  have hkind : ∃ t s S4, ex (pg.cal 677) Q_kind [some (.loc 0), some (.loc st), some (kU b), some (.int v3), none, none, none] S3 = .nx [some (.loc 0), some (.loc st), some (kU b), some (.int v3), some t.eu, some s, none] S4 ∧ Lw t s ∧ HasSt S4 st cl := by
    have st2 : ∀ (f : Str) (t : Tx) (s : U) (S4 : Sto), (pg.cal 677).call f [.loc st, kU b] S3 = .ok (.tup [t.eu, s]) S4 → exs (pg.cal 677) (.cons (.set true [4, 5] (.call f (.cons (.v 1) (.cons (.v 2) .nil)))) .nil) [some (.loc 0), some (.loc st), some (kU b), some (.int v3), none, none, none] S3 = .nx [some (.loc 0), some (.loc st), some (kU b), some (.int v3), some t.eu, some s, none] S4 := fun f t s S4 h => by
      rw [exs_cons, ex_set, ev_call, evs_cons, ev_v' (u := .loc st) rfl, bind_ok, evs_cons, ev_v' (u := kU b) rfl, bind_ok, evs_nil, bind_ok, bind_ok, bind_ok, h, on_ok, set_tup rfl]
      rfl
    have tk : ∀ n : Int, evt (pg.cal 677) (.e (.cmp .eq (.v 3) (.k (.int n)))) [some (.loc 0), some (.loc st), some (kU b), some (.int v3), none, none, none] S3 = .ok (decide (v3 = n)) S3 := fun n => by
      rw [evt_e, ev_cmp, ev_v' (u := .int v3) rfl, bind_ok, ev_k, bind_ok, c_eq_int, bind_ok, tru_bl, rO_some]
    unfold Q_kind
    rw [ex_if, tk, on_ok]
    by_cases h0 : v3 = 0
    · obtain ⟨t, s, S4, e4, lw, hs4⟩ := simple_eq (d := 674) hb hs3
      exact ⟨t, s, S4, by rw [decide_eq_true h0, if_pos rfl, st2 _ t s S4 e4], lw, hs4⟩
    · rw [decide_eq_false h0, if_neg Bool.false_ne_true, exs_cons, ex_if, tk, on_ok]
      by_cases h1 : v3 = 1
      · obtain ⟨t, s, S4, e4, lw, hs4⟩ := called_eq (d := 674) hb hs3
        exact ⟨t, s, S4, by rw [decide_eq_true h1, if_pos rfl, st2 _ t s S4 e4, then_nx, exs_nil], lw, hs4⟩
      · obtain ⟨t, s, S4, e4, lw, hs4⟩ := boxed_eq (d := 674) hb hs3
        exact ⟨t, s, S4, by rw [decide_eq_false h1, if_neg Bool.false_ne_true, st2 _ t s S4 e4, then_nx, exs_nil], lw, hs4⟩
  obtain ⟨t, s, S4, e4, lw, hs4⟩ := hkind
  have key : (⟨1, N_law.length, false, T_law⟩ : Df).run (pg.cal 677) [.loc 0] [.fro (ns.map U.int)] = (exs (pg.cal 677) Q_tail [some (.loc 0), some (.loc st), some (kU b), some (.int v3), some t.eu, some s, none] S4).fin := by
    rw [run_eq (by rfl), law_T]
    rw [show ([U.loc 0].map some ++ List.replicate (N_law.length - 1) none : Oz.Env) = [some (.loc 0), none, none, none, none, none, none] from rfl]
    rw [go_set (x := .loc st) (S' := S1) (by rw [ev_call, evs_cons, ev_v' rfl, bind_ok, evs_nil, bind_ok, bind_ok]; exact e1)]
    rw [show (([some (.loc 0), none, none, none, none, none, none] : Oz.Env).set 1 (some (.loc st))) = [some (.loc 0), some (.loc st), none, none, none, none, none] from rfl]
    rw [go_set (x := kU b) (S' := S2) e2]
    rw [go_set (x := .int v3) (S' := S3) (by rw [ev_call, evs_cons, ev_v' (u := .loc st) rfl, bind_ok, evs_cons, ev_k, bind_ok, evs_nil, bind_ok, bind_ok, bind_ok]; exact e3)]
    rw [exs_cons]
    show ((ex (pg.cal 677) Q_kind [some (.loc 0), some (.loc st), some (kU b), some (.int v3), none, none, none] S3).then_ _).fin = _
    rw [e4, then_nx]
  rw [key]
  have refT : ∀ S, ev (pg.cal 677) (.tup (.cons (.k (.str "refused")) (.cons (.k (.int 0)) .nil))) [some (.loc 0), some (.loc st), some (kU b), some (.int v3), some t.eu, some s, none] S = .ok refE S := fun S => rfl
  rcases lw with hc | ⟨rfl, b', a', q', hb', ha', hq', hne, rfl⟩
  · obtain ⟨c, ty, k', hel, hht, hend, hok⟩ := chk_el hc
    unfold okEnd at hok
    simp only [Bool.and_eq_true, Bool.not_eq_true'] at hok
    obtain ⟨⟨⟨⟨o0, o1⟩, o2⟩, o3⟩, o4, o5⟩ := hok
    obtain ⟨S5, e5, g5⟩ := elaborate_eq (D := 677) S4 hel hht (by omega)
    obtain ⟨v6, S6, e6, a6, b6, hs6, f6⟩ := takes_eq (d := 676) (most := 3) (hs4.gr g5) (by decide) (by decide)
    obtain ⟨S7, e7, g7⟩ := run_outA (D := 663) (calls := 1 + v6) S6 (hend (1 + v6) (by omega)) (by decide)
    have hst : ∃ xs, s = .tup xs := by
      cases s with
      | tup xs => exact ⟨xs, rfl⟩
      | _ => cases o0
    refine ⟨S7, ?_⟩
    unfold Q_tail
    rw [go_skip (S' := S4) (by rw [evt_e, ev_cmp, ev_v' (u := s) rfl, bind_ok, refT, bind_ok, eqR_p o1 ok_ref hst ⟨_, rfl⟩, o2, bind_ok, tru_bl, rO_some])]
    rw [go_set (x := .tup [.tup [], s]) (S' := S7) (by
      rw [ev_call, evs_cons, ev_ix, ev_call, evs_cons, ev_v' (u := t.eu) rfl, bind_ok, evs_nil, bind_ok, bind_ok, e5, bind_ok, ev_k, bind_ok, show ixU (.tup [c.eu, tu ty]) (.int 0) S5 = .ok c.eu S5 from rfl, bind_ok, evs_cons, ev_bin, ev_k, bind_ok, ev_call, evs_cons, ev_v' (u := .loc st) rfl, bind_ok, evs_cons, ev_k, bind_ok, evs_nil, bind_ok, bind_ok, bind_ok, e6, bind_ok, add_int, bind_ok, evs_nil, bind_ok, bind_ok, bind_ok]
      exact e7)]
    rw [show (([some (.loc 0), some (.loc st), some (kU b), some (.int v3), some t.eu, some s, none] : Oz.Env).set 6 (some (.tup [.tup [], s]))) = [some (.loc 0), some (.loc st), some (kU b), some (.int v3), some t.eu, some s, some (.tup [.tup [], s])] from rfl]
    have et : ev (pg.cal 677) (.tup (.cons (.tup .nil) (.cons (.v 5) .nil))) [some (.loc 0), some (.loc st), some (kU b), some (.int v3), some t.eu, some s, some (.tup [.tup [], s])] S7 = .ok (.tup [.tup [], s]) S7 := by
      rw [ev_tup, evs_cons, ev_tup, evs_nil, bind_ok, if_pos (by show 0 ≤ sizeLine; decide), bind_ok, evs_cons, ev_v' (u := s) rfl, bind_ok, evs_nil, bind_ok, bind_ok, bind_ok, if_pos (by show 2 ≤ sizeLine; decide)]
    have er : bfU .repr [.tup [.tup [], s]] S7 = .ok (.str (pdU (.tup [.tup [], s])).shown) S7 := by
      show reprF [.tup [.tup [], s]] S7 = _
      unfold reprF
      dsimp only
      rw [if_pos o5]
    rw [go_ret (u := .bl true) (S' := S7)]
    · rfl
    · rw [ev_and, ev_cmp, ev_v' (u := .tup [.tup [], s]) rfl, bind_ok, et, bind_ok, eqR_p o3 o3 ⟨_, rfl⟩ ⟨_, rfl⟩, o4, bind_ok, ev_cmp, ev_bf, evs_cons, ev_v' (u := .tup [.tup [], s]) rfl, bind_ok, evs_nil, bind_ok, bind_ok, er, bind_ok, ev_bf, evs_cons, et, bind_ok, evs_nil, bind_ok, bind_ok, er, bind_ok, c_eq_str, decide_eq_true rfl]
  · obtain ⟨S5, e5⟩ := refused_law (d := 617) (S := S4) hb' ha' hq' hne
    refine ⟨S5, ?_⟩
    unfold Q_tail
    rw [go_stop (S1 := S4) (S2 := S5) (u := .bl true) (by rw [evt_e, ev_cmp, ev_v' (u := refE) rfl, bind_ok, refT, bind_ok, eqR_p ok_ref ok_ref ⟨_, rfl⟩ ⟨_, rfl⟩, eq_ref, bind_ok, tru_bl, rO_some]) (by rw [ev_call, evs_cons, ev_v' (u := (tCall b' a' b' q').eu) rfl, bind_ok, evs_nil, bind_ok, bind_ok]; exact e5)]
    rfl
end Pr
end
section
set_option maxHeartbeats 4000000
namespace Pr
open PySem PySem.Spec PyProof.Rows L2 Oz He
noncomputable def LR (K : PySem.W.Frag) (mg : Str → Option Value) (ad : Str → Addr) : Prop := True
noncomputable def ex (K : PySem.W.Frag) : Bool := fnB tp K "law" && true
theorem lr_of {K : PySem.W.Frag} {h : Heap} {mg : Str → Option Value} (X : K.In h) (G : h.Ns mainGlobals mg) (hx : true = true) : LR K mg (adOf tp K) := trivial
end Pr
end
section
set_option maxHeartbeats 0
namespace Pr
open PySem PySem.Spec PyProof.Rows L2 Oz He
section
variable {P : Program} {w : World} {K : PySem.W.Frag} {mg : Str → Option Value} {base : Heap} {d : Nat}
noncomputable def dd_consistent : He.DefD := ⟨("consistent", none), "consistent", "consistent", defArgs st_consistent, defBody st_consistent, defScope st_consistent, [], []⟩
noncomputable def dd_meeting : He.DefD := ⟨("meeting", none), "meeting", "meeting", defArgs st_meeting, defBody st_meeting, defScope st_meeting, [], []⟩
noncomputable def dd_ground : He.DefD := ⟨("ground", none), "ground", "ground", defArgs st_ground, defBody st_ground, defScope st_ground, [], []⟩
noncomputable def dd_ground_type : He.DefD := ⟨("ground_type", none), "ground_type", "ground_type", defArgs st_ground_type, defBody st_ground_type, defScope st_ground_type, [], []⟩
noncomputable def dd_parts : He.DefD := ⟨("parts", none), "parts", "parts", defArgs st_parts, defBody st_parts, defScope st_parts, [], []⟩
noncomputable def dd_bare : He.DefD := ⟨("bare", none), "bare", "bare", defArgs st_bare, defBody st_bare, defScope st_bare, [], []⟩
noncomputable def dd_ground_of : He.DefD := ⟨("ground_of", none), "ground_of", "ground_of", defArgs st_ground_of, defBody st_ground_of, defScope st_ground_of, [], []⟩
noncomputable def dd_shape : He.DefD := ⟨("shape", none), "shape", "shape", defArgs st_shape, defBody st_shape, defScope st_shape, [], []⟩
noncomputable def dd_operated : He.DefD := ⟨("operated", none), "operated", "operated", defArgs st_operated, defBody st_operated, defScope st_operated, [], []⟩
noncomputable def dd_half : He.DefD := ⟨("half", none), "half", "half", defArgs st_half, defBody st_half, defScope st_half, [], []⟩
noncomputable def dd_got : He.DefD := ⟨("got", none), "got", "got", defArgs st_got, defBody st_got, defScope st_got, [], []⟩
noncomputable def dd_put : He.DefD := ⟨("put", none), "put", "put", defArgs st_put, defBody st_put, defScope st_put, [], []⟩
noncomputable def dd_unwrapped : He.DefD := ⟨("unwrapped", none), "unwrapped", "unwrapped", defArgs st_unwrapped, defBody st_unwrapped, defScope st_unwrapped, [], []⟩
noncomputable def dd_called_inside : He.DefD := ⟨("called_inside", none), "called_inside", "called_inside", defArgs st_called_inside, defBody st_called_inside, defScope st_called_inside, [], []⟩
noncomputable def dd_made_all : He.DefD := ⟨("made_all", none), "made_all", "made_all", defArgs st_made_all, defBody st_made_all, defScope st_made_all, [], []⟩
noncomputable def dd_computed : He.DefD := ⟨("computed", none), "computed", "computed", defArgs st_computed, defBody st_computed, defScope st_computed, [], []⟩
noncomputable def dd_in_range : He.DefD := ⟨("in_range", none), "in_range", "in_range", defArgs st_in_range, defBody st_in_range, defScope st_in_range, [], []⟩
noncomputable def dd_run_plain : He.DefD := ⟨("run_plain", none), "run_plain", "run_plain", defArgs st_run_plain, defBody st_run_plain, defScope st_run_plain, [], []⟩
noncomputable def dd_elaborate : He.DefD := ⟨("elaborate", none), "elaborate", "elaborate", defArgs st_elaborate, defBody st_elaborate, defScope st_elaborate, [], []⟩
noncomputable def dd_fit : He.DefD := ⟨("fit", none), "fit", "fit", defArgs st_fit, defBody st_fit, defScope st_fit, [], []⟩
noncomputable def dd_opened : He.DefD := ⟨("opened", none), "opened", "opened", defArgs st_opened, defBody st_opened, defScope st_opened, [], []⟩
noncomputable def dd_constant_rule : He.DefD := ⟨("constant_rule", none), "constant_rule", "constant_rule", defArgs st_constant_rule, defBody st_constant_rule, defScope st_constant_rule, [], []⟩
noncomputable def dd_call_rule : He.DefD := ⟨("call_rule", none), "call_rule", "call_rule", defArgs st_call_rule, defBody st_call_rule, defScope st_call_rule, [], []⟩
noncomputable def dd_if_rule : He.DefD := ⟨("if_rule", none), "if_rule", "if_rule", defArgs st_if_rule, defBody st_if_rule, defScope st_if_rule, [], []⟩
noncomputable def dd_pair_rule : He.DefD := ⟨("pair_rule", none), "pair_rule", "pair_rule", defArgs st_pair_rule, defBody st_pair_rule, defScope st_pair_rule, [], []⟩
noncomputable def dd_half_rule : He.DefD := ⟨("half_rule", none), "half_rule", "half_rule", defArgs st_half_rule, defBody st_half_rule, defScope st_half_rule, [], []⟩
noncomputable def dd_box_rule : He.DefD := ⟨("box_rule", none), "box_rule", "box_rule", defArgs st_box_rule, defBody st_box_rule, defScope st_box_rule, [], []⟩
noncomputable def dd_get_rule : He.DefD := ⟨("get_rule", none), "get_rule", "get_rule", defArgs st_get_rule, defBody st_get_rule, defScope st_get_rule, [], []⟩
noncomputable def dd_put_rule : He.DefD := ⟨("put_rule", none), "put_rule", "put_rule", defArgs st_put_rule, defBody st_put_rule, defScope st_put_rule, [], []⟩
noncomputable def dd_op_rule : He.DefD := ⟨("op_rule", none), "op_rule", "op_rule", defArgs st_op_rule, defBody st_op_rule, defScope st_op_rule, [], []⟩
noncomputable def dd_not_rule : He.DefD := ⟨("not_rule", none), "not_rule", "not_rule", defArgs st_not_rule, defBody st_not_rule, defScope st_not_rule, [], []⟩
noncomputable def dd_print_rule : He.DefD := ⟨("print_rule", none), "print_rule", "print_rule", defArgs st_print_rule, defBody st_print_rule, defScope st_print_rule, [], []⟩
noncomputable def dd_as_rule : He.DefD := ⟨("as_rule", none), "as_rule", "as_rule", defArgs st_as_rule, defBody st_as_rule, defScope st_as_rule, [], []⟩
noncomputable def dd__law_state : He.DefD := ⟨("_law_state", none), "_law_state", "_law_state", defArgs st__law_state, defBody st__law_state, defScope st__law_state, [], []⟩
noncomputable def dd__law_take : He.DefD := ⟨("_law_take", none), "_law_take", "_law_take", defArgs st__law_take, defBody st__law_take, defScope st__law_take, [], []⟩
noncomputable def dd__law_chain : He.DefD := ⟨("_law_chain", none), "_law_chain", "_law_chain", defArgs st__law_chain, defBody st__law_chain, defScope st__law_chain, [], []⟩
noncomputable def dd__law_type : He.DefD := ⟨("_law_type", none), "_law_type", "_law_type", defArgs st__law_type, defBody st__law_type, defScope st__law_type, [], []⟩
noncomputable def dd__law_wrap : He.DefD := ⟨("_law_wrap", none), "_law_wrap", "_law_wrap", defArgs st__law_wrap, defBody st__law_wrap, defScope st__law_wrap, [], []⟩
noncomputable def dd__law_blame : He.DefD := ⟨("_law_blame", none), "_law_blame", "_law_blame", defArgs st__law_blame, defBody st__law_blame, defScope st__law_blame, [], []⟩
noncomputable def dd__law_simple : He.DefD := ⟨("_law_simple", none), "_law_simple", "_law_simple", defArgs st__law_simple, defBody st__law_simple, defScope st__law_simple, [], []⟩
noncomputable def dd__law_called : He.DefD := ⟨("_law_called", none), "_law_called", "_law_called", defArgs st__law_called, defBody st__law_called, defScope st__law_called, [], []⟩
noncomputable def dd__law_boxed : He.DefD := ⟨("_law_boxed", none), "_law_boxed", "_law_boxed", defArgs st__law_boxed, defBody st__law_boxed, defScope st__law_boxed, [], []⟩
noncomputable def dd__law_refused : He.DefD := ⟨("_law_refused", none), "_law_refused", "_law_refused", defArgs st__law_refused, defBody st__law_refused, defScope st__law_refused, [], []⟩
noncomputable def dd_law : He.DefD := ⟨("law", none), "law", "law", defArgs st_law, defBody st_law, defScope st_law, [], []⟩
noncomputable def dd_Box___init__ : He.DefD := ⟨("Box", some "__init__"), "__init__", "Box.__init__", defArgs st_Box__init_, defBody st_Box__init_, defScope st_Box__init_, [], []⟩
noncomputable def dd_Casts_of_cast : He.DefD := ⟨("Casts", some "of_cast"), "of_cast", "Casts.of_cast", defArgs st_Casts_of_cast, defBody st_Casts_of_cast, defScope st_Casts_of_cast, [], []⟩
noncomputable def dd_Casts_added : He.DefD := ⟨("Casts", some "added"), "added", "Casts.added", defArgs st_Casts_added, defBody st_Casts_added, defScope st_Casts_added, [], []⟩
noncomputable def dd_Casts_settled : He.DefD := ⟨("Casts", some "settled"), "settled", "Casts.settled", defArgs st_Casts_settled, defBody st_Casts_settled, defScope st_Casts_settled, [], []⟩
noncomputable def dd_Casts_made : He.DefD := ⟨("Casts", some "made"), "made", "Casts.made", defArgs st_Casts_made, defBody st_Casts_made, defScope st_Casts_made, [], []⟩
noncomputable def dd_Casts_halves : He.DefD := ⟨("Casts", some "halves"), "halves", "Casts.halves", defArgs st_Casts_halves, defBody st_Casts_halves, defScope st_Casts_halves, [], []⟩
noncomputable def dd_Elaborator___init__ : He.DefD := ⟨("Elaborator", some "__init__"), "__init__", "Elaborator.__init__", defArgs st_Elaborator__init_, defBody st_Elaborator__init_, defScope st_Elaborator__init_, [], []⟩
noncomputable def dd_Elaborator_elaborated : He.DefD := ⟨("Elaborator", some "elaborated"), "elaborated", "Elaborator.elaborated", defArgs st_Elaborator_elaborated, defBody st_Elaborator_elaborated, defScope st_Elaborator_elaborated, [], []⟩
noncomputable def dd_Elaborator_core_and_type : He.DefD := ⟨("Elaborator", some "core_and_type"), "core_and_type", "Elaborator.core_and_type", defArgs st_Elaborator_core_and_type, defBody st_Elaborator_core_and_type, defScope st_Elaborator_core_and_type, [], []⟩
noncomputable def dd_Evaluation_Run___init__ : He.DefD := ⟨("Run", some "__init__"), "__init__", "Run.__init__", defArgs st_Evaluation_of_Run__init_, defBody st_Evaluation_of_Run__init_, defScope st_Evaluation_of_Run__init_, [], []⟩
noncomputable def dd_Evaluation_last_value : He.DefD := ⟨("Evaluation", some "last_value"), "last_value", "Evaluation.last_value", defArgs st_Evaluation_last_value, defBody st_Evaluation_last_value, defScope st_Evaluation_last_value, [], []⟩
noncomputable def dd_Evaluation_begin : He.DefD := ⟨("Evaluation", some "begin"), "begin", "Evaluation.begin", defArgs st_Evaluation_begin, defBody st_Evaluation_begin, defScope st_Evaluation_begin, [], []⟩
noncomputable def dd_Evaluation_step : He.DefD := ⟨("Evaluation", some "step"), "step", "Evaluation.step", defArgs st_Evaluation_step, defBody st_Evaluation_step, defScope st_Evaluation_step, [], []⟩
noncomputable def dd_Evaluation_go_on : He.DefD := ⟨("Evaluation", some "go_on"), "go_on", "Evaluation.go_on", defArgs st_Evaluation_go_on, defBody st_Evaluation_go_on, defScope st_Evaluation_go_on, [], []⟩
noncomputable def dd_Evaluation_call : He.DefD := ⟨("Evaluation", some "call"), "call", "Evaluation.call", defArgs st_Evaluation_call, defBody st_Evaluation_call, defScope st_Evaluation_call, [], []⟩
noncomputable def dd_Evaluation_give : He.DefD := ⟨("Evaluation", some "give"), "give", "Evaluation.give", defArgs st_Evaluation_give, defBody st_Evaluation_give, defScope st_Evaluation_give, [], []⟩
noncomputable def dd_Evaluation_value_of : He.DefD := ⟨("Evaluation", some "value_of"), "value_of", "Evaluation.value_of", defArgs st_Evaluation_value_of, defBody st_Evaluation_value_of, defScope st_Evaluation_value_of, [], []⟩
noncomputable def dd_Evaluation_enter : He.DefD := ⟨("Evaluation", some "enter"), "enter", "Run.enter", defArgs st_Evaluation_enter, defBody st_Evaluation_enter, defScope st_Evaluation_enter, [], []⟩
noncomputable def dd_Evaluation_outcome : He.DefD := ⟨("Evaluation", some "outcome"), "outcome", "Run.outcome", defArgs st_Evaluation_outcome, defBody st_Evaluation_outcome, defScope st_Evaluation_outcome, [], []⟩
noncomputable def dd_Frame___init__ : He.DefD := ⟨("Frame", some "__init__"), "__init__", "Frame.__init__", defArgs st_Frame__init_, defBody st_Frame__init_, defScope st_Frame__init_, [], []⟩
noncomputable def dd_Function___init__ : He.DefD := ⟨("Function", some "__init__"), "__init__", "Function.__init__", defArgs st_Function__init_, defBody st_Function__init_, defScope st_Function__init_, [], []⟩
noncomputable def dd_Function_scope_with : He.DefD := ⟨("Function", some "scope_with"), "scope_with", "Function.scope_with", defArgs st_Function_scope_with, defBody st_Function_scope_with, defScope st_Function_scope_with, [], []⟩
noncomputable def dd_Injected___init__ : He.DefD := ⟨("Injected", some "__init__"), "__init__", "Injected.__init__", defArgs st_Injected__init_, defBody st_Injected__init_, defScope st_Injected__init_, [], []⟩
noncomputable def dd_Part___init__ : He.DefD := ⟨("Part", some "__init__"), "__init__", "Part.__init__", defArgs st_Part__init_, defBody st_Part__init_, defScope st_Part__init_, [], []⟩
noncomputable def dd_Wrapped___init__ : He.DefD := ⟨("Wrapped", some "__init__"), "__init__", "Wrapped.__init__", defArgs st_Wrapped__init_, defBody st_Wrapped__init_, defScope st_Wrapped__init_, [], []⟩
noncomputable def dd_Mismatched___init__ : He.DefD := ⟨("Mismatched", some "__init__"), "__init__", "Mismatched.__init__", defArgs st_Mismatched__init_, defBody st_Mismatched__init_, defScope st_Mismatched__init_, [], []⟩
noncomputable def dd_Stopped___init__ : He.DefD := ⟨("Stopped", some "__init__"), "__init__", "Stopped.__init__", defArgs st_Stopped__init_, defBody st_Stopped__init_, defScope st_Stopped__init_, [], []⟩
noncomputable def dd_Unknown___init__ : He.DefD := ⟨("Unknown", some "__init__"), "__init__", "Unknown.__init__", defArgs st_Unknown__init_, defBody st_Unknown__init_, defScope st_Unknown__init_, [], []⟩
noncomputable def dd_Evaluation___init__ : He.DefD := ⟨("Evaluation", some "__init__"), "__init__", "Evaluation.__init__", defArgs st_Evaluation__init_, defBody st_Evaluation__init_, defScope st_Evaluation__init_, [], []⟩
theorem q_consistent (c : Says tp ex w K) (A : AllFn P w K mg base pg nm (adOf tp K) d) : FnQ P w K mg base (L2.CX P w) (d + 3) (adOf tp K "consistent") (spC K mg ((pg.cal (d + 1)).call "consistent")) := by
  obtain ⟨fd, F0⟩ := c.defs "consistent" dd_consistent (by kernel_rfl)
  have F : FunD K "consistent" "consistent" (defArgs st_consistent) (defBody st_consistent) (defScope st_consistent) [] [] (adOf tp K "consistent") fd := F0
  exact fn_plain (fun_of F) (FunD.bindsN (ps := ["one", "other"]) F fun _ _ _ _ _ _ us hl => match us, hl with | [_, _], _ => rfl) sc_consistent A (by kernel_rfl) d_consistent
theorem q_meeting (c : Says tp ex w K) (A : AllFn P w K mg base pg nm (adOf tp K) d) : FnQ P w K mg base (L2.CX P w) (d + 3) (adOf tp K "meeting") (spC K mg ((pg.cal (d + 1)).call "meeting")) := by
  obtain ⟨fd, F0⟩ := c.defs "meeting" dd_meeting (by kernel_rfl)
  have F : FunD K "meeting" "meeting" (defArgs st_meeting) (defBody st_meeting) (defScope st_meeting) [] [] (adOf tp K "meeting") fd := F0
  exact fn_plain (fun_of F) (FunD.bindsN (ps := ["one", "other"]) F fun _ _ _ _ _ _ us hl => match us, hl with | [_, _], _ => rfl) sc_meeting A (by kernel_rfl) d_meeting
theorem q_ground (c : Says tp ex w K) (A : AllFn P w K mg base pg nm (adOf tp K) d) : FnQ P w K mg base (L2.CX P w) (d + 3) (adOf tp K "ground") (spC K mg ((pg.cal (d + 1)).call "ground")) := by
  obtain ⟨fd, F0⟩ := c.defs "ground" dd_ground (by kernel_rfl)
  have F : FunD K "ground" "ground" (defArgs st_ground) (defBody st_ground) (defScope st_ground) [] [] (adOf tp K "ground") fd := F0
  exact fn_plain (fun_of F) (FunD.bindsN (ps := ["a_type"]) F fun _ _ _ _ _ _ us hl => match us, hl with | [_], _ => rfl) sc_ground A (by kernel_rfl) d_ground
theorem q_ground_type (c : Says tp ex w K) (A : AllFn P w K mg base pg nm (adOf tp K) d) : FnQ P w K mg base (L2.CX P w) (d + 3) (adOf tp K "ground_type") (spC K mg ((pg.cal (d + 1)).call "ground_type")) := by
  obtain ⟨fd, F0⟩ := c.defs "ground_type" dd_ground_type (by kernel_rfl)
  have F : FunD K "ground_type" "ground_type" (defArgs st_ground_type) (defBody st_ground_type) (defScope st_ground_type) [] [] (adOf tp K "ground_type") fd := F0
  exact fn_plain (fun_of F) (FunD.bindsN (ps := ["name"]) F fun _ _ _ _ _ _ us hl => match us, hl with | [_], _ => rfl) sc_ground_type A (by kernel_rfl) d_ground_type
theorem q_parts (c : Says tp ex w K) (A : AllFn P w K mg base pg nm (adOf tp K) d) : FnQ P w K mg base (L2.CX P w) (d + 3) (adOf tp K "parts") (spC K mg ((pg.cal (d + 1)).call "parts")) := by
  obtain ⟨fd, F0⟩ := c.defs "parts" dd_parts (by kernel_rfl)
  have F : FunD K "parts" "parts" (defArgs st_parts) (defBody st_parts) (defScope st_parts) [] [] (adOf tp K "parts") fd := F0
  exact fn_plain (fun_of F) (FunD.bindsN (ps := ["expression"]) F fun _ _ _ _ _ _ us hl => match us, hl with | [_], _ => rfl) sc_parts A (by kernel_rfl) d_parts
theorem q_bare (c : Says tp ex w K) (A : AllFn P w K mg base pg nm (adOf tp K) d) : FnQ P w K mg base (L2.CX P w) (d + 3) (adOf tp K "bare") (spC K mg ((pg.cal (d + 1)).call "bare")) := by
  obtain ⟨fd, F0⟩ := c.defs "bare" dd_bare (by kernel_rfl)
  have F : FunD K "bare" "bare" (defArgs st_bare) (defBody st_bare) (defScope st_bare) [] [] (adOf tp K "bare") fd := F0
  exact fn_plain (fun_of F) (FunD.bindsN (ps := ["value"]) F fun _ _ _ _ _ _ us hl => match us, hl with | [_], _ => rfl) sc_bare A (by kernel_rfl) d_bare
theorem q_ground_of (c : Says tp ex w K) (A : AllFn P w K mg base pg nm (adOf tp K) d) : FnQ P w K mg base (L2.CX P w) (d + 3) (adOf tp K "ground_of") (spC K mg ((pg.cal (d + 1)).call "ground_of")) := by
  obtain ⟨fd, F0⟩ := c.defs "ground_of" dd_ground_of (by kernel_rfl)
  have F : FunD K "ground_of" "ground_of" (defArgs st_ground_of) (defBody st_ground_of) (defScope st_ground_of) [] [] (adOf tp K "ground_of") fd := F0
  exact fn_plain (fun_of F) (FunD.bindsN (ps := ["value"]) F fun _ _ _ _ _ _ us hl => match us, hl with | [_], _ => rfl) sc_ground_of A (by kernel_rfl) d_ground_of
theorem q_shape (c : Says tp ex w K) (A : AllFn P w K mg base pg nm (adOf tp K) d) : FnQ P w K mg base (L2.CX P w) (d + 3) (adOf tp K "shape") (spC K mg ((pg.cal (d + 1)).call "shape")) := by
  obtain ⟨fd, F0⟩ := c.defs "shape" dd_shape (by kernel_rfl)
  have F : FunD K "shape" "shape" (defArgs st_shape) (defBody st_shape) (defScope st_shape) [] [] (adOf tp K "shape") fd := F0
  exact fn_plain (fun_of F) (FunD.bindsN (ps := ["value"]) F fun _ _ _ _ _ _ us hl => match us, hl with | [_], _ => rfl) sc_shape A (by kernel_rfl) d_shape
theorem q_operated (c : Says tp ex w K) (A : AllFn P w K mg base pg nm (adOf tp K) d) : FnQ P w K mg base (L2.CX P w) (d + 3) (adOf tp K "operated") (spC K mg ((pg.cal (d + 1)).call "operated")) := by
  obtain ⟨fd, F0⟩ := c.defs "operated" dd_operated (by kernel_rfl)
  have F : FunD K "operated" "operated" (defArgs st_operated) (defBody st_operated) (defScope st_operated) [] [] (adOf tp K "operated") fd := F0
  exact fn_plain (fun_of F) (FunD.bindsN (ps := ["casting", "form", "values"]) F fun _ _ _ _ _ _ us hl => match us, hl with | [_, _, _], _ => rfl) sc_operated A (by kernel_rfl) d_operated
theorem q_half (c : Says tp ex w K) (A : AllFn P w K mg base pg nm (adOf tp K) d) : FnQ P w K mg base (L2.CX P w) (d + 3) (adOf tp K "half") (spC K mg ((pg.cal (d + 1)).call "half")) := by
  obtain ⟨fd, F0⟩ := c.defs "half" dd_half (by kernel_rfl)
  have F : FunD K "half" "half" (defArgs st_half) (defBody st_half) (defScope st_half) [] [] (adOf tp K "half") fd := F0
  exact fn_plain (fun_of F) (FunD.bindsN (ps := ["casting", "pair", "at"]) F fun _ _ _ _ _ _ us hl => match us, hl with | [_, _, _], _ => rfl) sc_half A (by kernel_rfl) d_half
theorem q_got (c : Says tp ex w K) (A : AllFn P w K mg base pg nm (adOf tp K) d) : FnQ P w K mg base (L2.CX P w) (d + 3) (adOf tp K "got") (spC K mg ((pg.cal (d + 1)).call "got")) := by
  obtain ⟨fd, F0⟩ := c.defs "got" dd_got (by kernel_rfl)
  have F : FunD K "got" "got" (defArgs st_got) (defBody st_got) (defScope st_got) [] [] (adOf tp K "got") fd := F0
  exact fn_plain (fun_of F) (FunD.bindsN (ps := ["casting", "box"]) F fun _ _ _ _ _ _ us hl => match us, hl with | [_, _], _ => rfl) sc_got A (by kernel_rfl) d_got
theorem q_put (c : Says tp ex w K) (A : AllFn P w K mg base pg nm (adOf tp K) d) : FnQ P w K mg base (L2.CX P w) (d + 3) (adOf tp K "put") (spC K mg ((pg.cal (d + 1)).call "put")) := by
  obtain ⟨fd, F0⟩ := c.defs "put" dd_put (by kernel_rfl)
  have F : FunD K "put" "put" (defArgs st_put) (defBody st_put) (defScope st_put) [] [] (adOf tp K "put") fd := F0
  exact fn_plain (fun_of F) (FunD.bindsN (ps := ["casting", "box", "stored"]) F fun _ _ _ _ _ _ us hl => match us, hl with | [_, _, _], _ => rfl) sc_put A (by kernel_rfl) d_put
theorem q_unwrapped (c : Says tp ex w K) (A : AllFn P w K mg base pg nm (adOf tp K) d) : FnQ P w K mg base (L2.CX P w) (d + 3) (adOf tp K "unwrapped") (spC K mg ((pg.cal (d + 1)).call "unwrapped")) := by
  obtain ⟨fd, F0⟩ := c.defs "unwrapped" dd_unwrapped (by kernel_rfl)
  have F : FunD K "unwrapped" "unwrapped" (defArgs st_unwrapped) (defBody st_unwrapped) (defScope st_unwrapped) [] [] (adOf tp K "unwrapped") fd := F0
  exact fn_plain (fun_of F) (FunD.bindsN (ps := ["casting", "value", "at"]) F fun _ _ _ _ _ _ us hl => match us, hl with | [_, _, _], _ => rfl) sc_unwrapped A (by kernel_rfl) d_unwrapped
theorem q_called_inside (c : Says tp ex w K) (A : AllFn P w K mg base pg nm (adOf tp K) d) : FnQ P w K mg base (L2.CX P w) (d + 3) (adOf tp K "called_inside") (spC K mg ((pg.cal (d + 1)).call "called_inside")) := by
  obtain ⟨fd, F0⟩ := c.defs "called_inside" dd_called_inside (by kernel_rfl)
  have F : FunD K "called_inside" "called_inside" (defArgs st_called_inside) (defBody st_called_inside) (defScope st_called_inside) [] [] (adOf tp K "called_inside") fd := F0
  exact fn_plain (fun_of F) (FunD.bindsN (ps := ["casting", "function", "argument", "pending"]) F fun _ _ _ _ _ _ us hl => match us, hl with | [_, _, _, _], _ => rfl) sc_called_inside A (by kernel_rfl) d_called_inside
theorem q_made_all (c : Says tp ex w K) (A : AllFn P w K mg base pg nm (adOf tp K) d) : FnQ P w K mg base (L2.CX P w) (d + 3) (adOf tp K "made_all") (spC K mg ((pg.cal (d + 1)).call "made_all")) := by
  obtain ⟨fd, F0⟩ := c.defs "made_all" dd_made_all (by kernel_rfl)
  have F : FunD K "made_all" "made_all" (defArgs st_made_all) (defBody st_made_all) (defScope st_made_all) [] [] (adOf tp K "made_all") fd := F0
  exact fn_plain (fun_of F) (FunD.bindsN (ps := ["casting", "done", "value"]) F fun _ _ _ _ _ _ us hl => match us, hl with | [_, _, _], _ => rfl) sc_made_all A (by kernel_rfl) d_made_all
theorem q_computed (c : Says tp ex w K) (A : AllFn P w K mg base pg nm (adOf tp K) d) : FnQ P w K mg base (L2.CX P w) (d + 3) (adOf tp K "computed") (spC K mg ((pg.cal (d + 1)).call "computed")) := by
  obtain ⟨fd, F0⟩ := c.defs "computed" dd_computed (by kernel_rfl)
  have F : FunD K "computed" "computed" (defArgs st_computed) (defBody st_computed) (defScope st_computed) [] [] (adOf tp K "computed") fd := F0
  exact fn_plain (fun_of F) (FunD.bindsN (ps := ["sign", "left", "right"]) F fun _ _ _ _ _ _ us hl => match us, hl with | [_, _, _], _ => rfl) sc_computed A (by kernel_rfl) d_computed
theorem q_in_range (c : Says tp ex w K) (A : AllFn P w K mg base pg nm (adOf tp K) d) : FnQ P w K mg base (L2.CX P w) (d + 3) (adOf tp K "in_range") (spC K mg ((pg.cal (d + 1)).call "in_range")) := by
  obtain ⟨fd, F0⟩ := c.defs "in_range" dd_in_range (by kernel_rfl)
  have F : FunD K "in_range" "in_range" (defArgs st_in_range) (defBody st_in_range) (defScope st_in_range) [] [] (adOf tp K "in_range") fd := F0
  exact fn_plain (fun_of F) (FunD.bindsN (ps := ["number"]) F fun _ _ _ _ _ _ us hl => match us, hl with | [_], _ => rfl) sc_in_range A (by kernel_rfl) d_in_range
theorem q_run_plain (c : Says tp ex w K) (A : AllFn P w K mg base pg nm (adOf tp K) d) : FnQ P w K mg base (L2.CX P w) (d + 3) (adOf tp K "run_plain") (spC K mg ((pg.cal (d + 1)).call "run_plain")) := by
  obtain ⟨fd, F0⟩ := c.defs "run_plain" dd_run_plain (by kernel_rfl)
  have F : FunD K "run_plain" "run_plain" (defArgs st_run_plain) (defBody st_run_plain) (defScope st_run_plain) [] [] (adOf tp K "run_plain") fd := F0
  exact fn_plain (fun_of F) (FunD.bindsN (ps := ["core", "calls"]) F fun _ _ _ _ _ _ us hl => match us, hl with | [_, _], _ => rfl) sc_run_plain A (by kernel_rfl) d_run_plain
theorem q_elaborate (c : Says tp ex w K) (A : AllFn P w K mg base pg nm (adOf tp K) d) : FnQ P w K mg base (L2.CX P w) (d + 3) (adOf tp K "elaborate") (spC K mg ((pg.cal (d + 1)).call "elaborate")) := by
  obtain ⟨fd, F0⟩ := c.defs "elaborate" dd_elaborate (by kernel_rfl)
  have F : FunD K "elaborate" "elaborate" (defArgs st_elaborate) (defBody st_elaborate) (defScope st_elaborate) [] [] (adOf tp K "elaborate") fd := F0
  exact fn_plain (fun_of F) (FunD.bindsN (ps := ["expression"]) F fun _ _ _ _ _ _ us hl => match us, hl with | [_], _ => rfl) sc_elaborate A (by kernel_rfl) d_elaborate
theorem q_fit (c : Says tp ex w K) (A : AllFn P w K mg base pg nm (adOf tp K) d) : FnQ P w K mg base (L2.CX P w) (d + 3) (adOf tp K "fit") (spC K mg ((pg.cal (d + 1)).call "fit")) := by
  obtain ⟨fd, F0⟩ := c.defs "fit" dd_fit (by kernel_rfl)
  have F : FunD K "fit" "fit" (defArgs st_fit) (defBody st_fit) (defScope st_fit) [] [] (adOf tp K "fit") fd := F0
  exact fn_plain (fun_of F) (FunD.bindsN (ps := ["part", "target"]) F fun _ _ _ _ _ _ us hl => match us, hl with | [_, _], _ => rfl) sc_fit A (by kernel_rfl) d_fit
theorem q_opened (c : Says tp ex w K) (A : AllFn P w K mg base pg nm (adOf tp K) d) : FnQ P w K mg base (L2.CX P w) (d + 3) (adOf tp K "opened") (spC K mg ((pg.cal (d + 1)).call "opened")) := by
  obtain ⟨fd, F0⟩ := c.defs "opened" dd_opened (by kernel_rfl)
  have F : FunD K "opened" "opened" (defArgs st_opened) (defBody st_opened) (defScope st_opened) [] [] (adOf tp K "opened") fd := F0
  exact fn_plain (fun_of F) (FunD.bindsN (ps := ["part", "name"]) F fun _ _ _ _ _ _ us hl => match us, hl with | [_, _], _ => rfl) sc_opened A (by kernel_rfl) d_opened
theorem q_constant_rule (c : Says tp ex w K) (A : AllFn P w K mg base pg nm (adOf tp K) d) : FnQ P w K mg base (L2.CX P w) (d + 3) (adOf tp K "constant_rule") (spC K mg ((pg.cal (d + 1)).call "constant_rule")) := by
  obtain ⟨fd, F0⟩ := c.defs "constant_rule" dd_constant_rule (by kernel_rfl)
  have F : FunD K "constant_rule" "constant_rule" (defArgs st_constant_rule) (defBody st_constant_rule) (defScope st_constant_rule) [] [] (adOf tp K "constant_rule") fd := F0
  exact fn_plain (fun_of F) (FunD.bindsN (ps := ["expression"]) F fun _ _ _ _ _ _ us hl => match us, hl with | [_], _ => rfl) sc_constant_rule A (by kernel_rfl) d_constant_rule
theorem q_call_rule (c : Says tp ex w K) (A : AllFn P w K mg base pg nm (adOf tp K) d) : FnQ P w K mg base (L2.CX P w) (d + 3) (adOf tp K "call_rule") (spC K mg ((pg.cal (d + 1)).call "call_rule")) := by
  obtain ⟨fd, F0⟩ := c.defs "call_rule" dd_call_rule (by kernel_rfl)
  have F : FunD K "call_rule" "call_rule" (defArgs st_call_rule) (defBody st_call_rule) (defScope st_call_rule) [] [] (adOf tp K "call_rule") fd := F0
  exact fn_plain (fun_of F) (FunD.bindsN (ps := ["_", "called", "passed"]) F fun _ _ _ _ _ _ us hl => match us, hl with | [_, _, _], _ => rfl) sc_call_rule A (by kernel_rfl) d_call_rule
theorem q_if_rule (c : Says tp ex w K) (A : AllFn P w K mg base pg nm (adOf tp K) d) : FnQ P w K mg base (L2.CX P w) (d + 3) (adOf tp K "if_rule") (spC K mg ((pg.cal (d + 1)).call "if_rule")) := by
  obtain ⟨fd, F0⟩ := c.defs "if_rule" dd_if_rule (by kernel_rfl)
  have F : FunD K "if_rule" "if_rule" (defArgs st_if_rule) (defBody st_if_rule) (defScope st_if_rule) [] [] (adOf tp K "if_rule") fd := F0
  exact fn_plain (fun_of F) (FunD.bindsN (ps := ["_", "condition", "first", "second"]) F fun _ _ _ _ _ _ us hl => match us, hl with | [_, _, _, _], _ => rfl) sc_if_rule A (by kernel_rfl) d_if_rule
theorem q_pair_rule (c : Says tp ex w K) (A : AllFn P w K mg base pg nm (adOf tp K) d) : FnQ P w K mg base (L2.CX P w) (d + 3) (adOf tp K "pair_rule") (spC K mg ((pg.cal (d + 1)).call "pair_rule")) := by
  obtain ⟨fd, F0⟩ := c.defs "pair_rule" dd_pair_rule (by kernel_rfl)
  have F : FunD K "pair_rule" "pair_rule" (defArgs st_pair_rule) (defBody st_pair_rule) (defScope st_pair_rule) [] [] (adOf tp K "pair_rule") fd := F0
  exact fn_plain (fun_of F) (FunD.bindsN (ps := ["_", "first", "second"]) F fun _ _ _ _ _ _ us hl => match us, hl with | [_, _, _], _ => rfl) sc_pair_rule A (by kernel_rfl) d_pair_rule
theorem q_half_rule (c : Says tp ex w K) (A : AllFn P w K mg base pg nm (adOf tp K) d) : FnQ P w K mg base (L2.CX P w) (d + 3) (adOf tp K "half_rule") (spC K mg ((pg.cal (d + 1)).call "half_rule")) := by
  obtain ⟨fd, F0⟩ := c.defs "half_rule" dd_half_rule (by kernel_rfl)
  have F : FunD K "half_rule" "half_rule" (defArgs st_half_rule) (defBody st_half_rule) (defScope st_half_rule) [] [] (adOf tp K "half_rule") fd := F0
  exact fn_plain (fun_of F) (FunD.bindsN (ps := ["expression", "whole"]) F fun _ _ _ _ _ _ us hl => match us, hl with | [_, _], _ => rfl) sc_half_rule A (by kernel_rfl) d_half_rule
theorem q_box_rule (c : Says tp ex w K) (A : AllFn P w K mg base pg nm (adOf tp K) d) : FnQ P w K mg base (L2.CX P w) (d + 3) (adOf tp K "box_rule") (spC K mg ((pg.cal (d + 1)).call "box_rule")) := by
  obtain ⟨fd, F0⟩ := c.defs "box_rule" dd_box_rule (by kernel_rfl)
  have F : FunD K "box_rule" "box_rule" (defArgs st_box_rule) (defBody st_box_rule) (defScope st_box_rule) [] [] (adOf tp K "box_rule") fd := F0
  exact fn_plain (fun_of F) (FunD.bindsN (ps := ["_", "held"]) F fun _ _ _ _ _ _ us hl => match us, hl with | [_, _], _ => rfl) sc_box_rule A (by kernel_rfl) d_box_rule
theorem q_get_rule (c : Says tp ex w K) (A : AllFn P w K mg base pg nm (adOf tp K) d) : FnQ P w K mg base (L2.CX P w) (d + 3) (adOf tp K "get_rule") (spC K mg ((pg.cal (d + 1)).call "get_rule")) := by
  obtain ⟨fd, F0⟩ := c.defs "get_rule" dd_get_rule (by kernel_rfl)
  have F : FunD K "get_rule" "get_rule" (defArgs st_get_rule) (defBody st_get_rule) (defScope st_get_rule) [] [] (adOf tp K "get_rule") fd := F0
  exact fn_plain (fun_of F) (FunD.bindsN (ps := ["_", "box"]) F fun _ _ _ _ _ _ us hl => match us, hl with | [_, _], _ => rfl) sc_get_rule A (by kernel_rfl) d_get_rule
theorem q_put_rule (c : Says tp ex w K) (A : AllFn P w K mg base pg nm (adOf tp K) d) : FnQ P w K mg base (L2.CX P w) (d + 3) (adOf tp K "put_rule") (spC K mg ((pg.cal (d + 1)).call "put_rule")) := by
  obtain ⟨fd, F0⟩ := c.defs "put_rule" dd_put_rule (by kernel_rfl)
  have F : FunD K "put_rule" "put_rule" (defArgs st_put_rule) (defBody st_put_rule) (defScope st_put_rule) [] [] (adOf tp K "put_rule") fd := F0
  exact fn_plain (fun_of F) (FunD.bindsN (ps := ["_", "box", "stored"]) F fun _ _ _ _ _ _ us hl => match us, hl with | [_, _, _], _ => rfl) sc_put_rule A (by kernel_rfl) d_put_rule
theorem q_op_rule (c : Says tp ex w K) (A : AllFn P w K mg base pg nm (adOf tp K) d) : FnQ P w K mg base (L2.CX P w) (d + 3) (adOf tp K "op_rule") (spC K mg ((pg.cal (d + 1)).call "op_rule")) := by
  obtain ⟨fd, F0⟩ := c.defs "op_rule" dd_op_rule (by kernel_rfl)
  have F : FunD K "op_rule" "op_rule" (defArgs st_op_rule) (defBody st_op_rule) (defScope st_op_rule) [] [] (adOf tp K "op_rule") fd := F0
  exact fn_plain (fun_of F) (FunD.bindsN (ps := ["expression", "left", "right"]) F fun _ _ _ _ _ _ us hl => match us, hl with | [_, _, _], _ => rfl) sc_op_rule A (by kernel_rfl) d_op_rule
theorem q_not_rule (c : Says tp ex w K) (A : AllFn P w K mg base pg nm (adOf tp K) d) : FnQ P w K mg base (L2.CX P w) (d + 3) (adOf tp K "not_rule") (spC K mg ((pg.cal (d + 1)).call "not_rule")) := by
  obtain ⟨fd, F0⟩ := c.defs "not_rule" dd_not_rule (by kernel_rfl)
  have F : FunD K "not_rule" "not_rule" (defArgs st_not_rule) (defBody st_not_rule) (defScope st_not_rule) [] [] (adOf tp K "not_rule") fd := F0
  exact fn_plain (fun_of F) (FunD.bindsN (ps := ["_", "operand"]) F fun _ _ _ _ _ _ us hl => match us, hl with | [_, _], _ => rfl) sc_not_rule A (by kernel_rfl) d_not_rule
theorem q_print_rule (c : Says tp ex w K) (A : AllFn P w K mg base pg nm (adOf tp K) d) : FnQ P w K mg base (L2.CX P w) (d + 3) (adOf tp K "print_rule") (spC K mg ((pg.cal (d + 1)).call "print_rule")) := by
  obtain ⟨fd, F0⟩ := c.defs "print_rule" dd_print_rule (by kernel_rfl)
  have F : FunD K "print_rule" "print_rule" (defArgs st_print_rule) (defBody st_print_rule) (defScope st_print_rule) [] [] (adOf tp K "print_rule") fd := F0
  exact fn_plain (fun_of F) (FunD.bindsN (ps := ["_", "printed", "body"]) F fun _ _ _ _ _ _ us hl => match us, hl with | [_, _, _], _ => rfl) sc_print_rule A (by kernel_rfl) d_print_rule
theorem q_as_rule (c : Says tp ex w K) (A : AllFn P w K mg base pg nm (adOf tp K) d) : FnQ P w K mg base (L2.CX P w) (d + 3) (adOf tp K "as_rule") (spC K mg ((pg.cal (d + 1)).call "as_rule")) := by
  obtain ⟨fd, F0⟩ := c.defs "as_rule" dd_as_rule (by kernel_rfl)
  have F : FunD K "as_rule" "as_rule" (defArgs st_as_rule) (defBody st_as_rule) (defScope st_as_rule) [] [] (adOf tp K "as_rule") fd := F0
  exact fn_plain (fun_of F) (FunD.bindsN (ps := ["expression", "annotated"]) F fun _ _ _ _ _ _ us hl => match us, hl with | [_, _], _ => rfl) sc_as_rule A (by kernel_rfl) d_as_rule
theorem q__law_state (c : Says tp ex w K) (A : AllFn P w K mg base pg nm (adOf tp K) d) : FnQ P w K mg base (L2.CX P w) (d + 3) (adOf tp K "_law_state") (spC K mg ((pg.cal (d + 1)).call "_law_state")) := by
  obtain ⟨fd, F0⟩ := c.defs "_law_state" dd__law_state (by kernel_rfl)
  have F : FunD K "_law_state" "_law_state" (defArgs st__law_state) (defBody st__law_state) (defScope st__law_state) [] [] (adOf tp K "_law_state") fd := F0
  exact fn_plain (fun_of F) (FunD.bindsN (ps := ["script"]) F fun _ _ _ _ _ _ us hl => match us, hl with | [_], _ => rfl) sc__law_state A (by kernel_rfl) d__law_state
theorem q__law_take (c : Says tp ex w K) (A : AllFn P w K mg base pg nm (adOf tp K) d) : FnQ P w K mg base (L2.CX P w) (d + 3) (adOf tp K "_law_take") (spC K mg ((pg.cal (d + 1)).call "_law_take")) := by
  obtain ⟨fd, F0⟩ := c.defs "_law_take" dd__law_take (by kernel_rfl)
  have F : FunD K "_law_take" "_law_take" (defArgs st__law_take) (defBody st__law_take) (defScope st__law_take) [] [] (adOf tp K "_law_take") fd := F0
  exact fn_plain (fun_of F) (FunD.bindsN (ps := ["state", "most"]) F fun _ _ _ _ _ _ us hl => match us, hl with | [_, _], _ => rfl) sc__law_take A (by kernel_rfl) d__law_take
theorem q__law_chain (c : Says tp ex w K) (A : AllFn P w K mg base pg nm (adOf tp K) d) : FnQ P w K mg base (L2.CX P w) (d + 3) (adOf tp K "_law_chain") (spC K mg ((pg.cal (d + 1)).call "_law_chain")) := by
  obtain ⟨fd, F0⟩ := c.defs "_law_chain" dd__law_chain (by kernel_rfl)
  have F : FunD K "_law_chain" "_law_chain" (defArgs st__law_chain) (defBody st__law_chain) (defScope st__law_chain) [] [] (adOf tp K "_law_chain") fd := F0
  exact fn_plain (fun_of F) (FunD.bindsN (ps := ["state", "base", "many"]) F fun _ _ _ _ _ _ us hl => match us, hl with | [_, _, _], _ => rfl) sc__law_chain A (by kernel_rfl) d__law_chain
theorem q__law_type (c : Says tp ex w K) (A : AllFn P w K mg base pg nm (adOf tp K) d) : FnQ P w K mg base (L2.CX P w) (d + 3) (adOf tp K "_law_type") (spC K mg ((pg.cal (d + 1)).call "_law_type")) := by
  obtain ⟨fd, F0⟩ := c.defs "_law_type" dd__law_type (by kernel_rfl)
  have F : FunD K "_law_type" "_law_type" (defArgs st__law_type) (defBody st__law_type) (defScope st__law_type) [] [] (adOf tp K "_law_type") fd := F0
  exact fn_plain (fun_of F) (FunD.bindsN (ps := ["word"]) F fun _ _ _ _ _ _ us hl => match us, hl with | [_], _ => rfl) sc__law_type A (by kernel_rfl) d__law_type
theorem q__law_wrap (c : Says tp ex w K) (A : AllFn P w K mg base pg nm (adOf tp K) d) : FnQ P w K mg base (L2.CX P w) (d + 3) (adOf tp K "_law_wrap") (spC K mg ((pg.cal (d + 1)).call "_law_wrap")) := by
  obtain ⟨fd, F0⟩ := c.defs "_law_wrap" dd__law_wrap (by kernel_rfl)
  have F : FunD K "_law_wrap" "_law_wrap" (defArgs st__law_wrap) (defBody st__law_wrap) (defScope st__law_wrap) [] [] (adOf tp K "_law_wrap") fd := F0
  exact fn_plain (fun_of F) (FunD.bindsN (ps := ["expression", "kinds"]) F fun _ _ _ _ _ _ us hl => match us, hl with | [_, _], _ => rfl) sc__law_wrap A (by kernel_rfl) d__law_wrap
theorem q__law_blame (c : Says tp ex w K) (A : AllFn P w K mg base pg nm (adOf tp K) d) : FnQ P w K mg base (L2.CX P w) (d + 3) (adOf tp K "_law_blame") (spC K mg ((pg.cal (d + 1)).call "_law_blame")) := by
  obtain ⟨fd, F0⟩ := c.defs "_law_blame" dd__law_blame (by kernel_rfl)
  have F : FunD K "_law_blame" "_law_blame" (defArgs st__law_blame) (defBody st__law_blame) (defScope st__law_blame) [] [] (adOf tp K "_law_blame") fd := F0
  exact fn_plain (fun_of F) (FunD.bindsN (ps := ["kinds", "first", "base"]) F fun _ _ _ _ _ _ us hl => match us, hl with | [_, _, _], _ => rfl) sc__law_blame A (by kernel_rfl) d__law_blame
theorem q__law_simple (c : Says tp ex w K) (A : AllFn P w K mg base pg nm (adOf tp K) d) : FnQ P w K mg base (L2.CX P w) (d + 3) (adOf tp K "_law_simple") (spC K mg ((pg.cal (d + 1)).call "_law_simple")) := by
  obtain ⟨fd, F0⟩ := c.defs "_law_simple" dd__law_simple (by kernel_rfl)
  have F : FunD K "_law_simple" "_law_simple" (defArgs st__law_simple) (defBody st__law_simple) (defScope st__law_simple) [] [] (adOf tp K "_law_simple") fd := F0
  exact fn_plain (fun_of F) (FunD.bindsN (ps := ["state", "base"]) F fun _ _ _ _ _ _ us hl => match us, hl with | [_, _], _ => rfl) sc__law_simple A (by kernel_rfl) d__law_simple
theorem q__law_called (c : Says tp ex w K) (A : AllFn P w K mg base pg nm (adOf tp K) d) : FnQ P w K mg base (L2.CX P w) (d + 3) (adOf tp K "_law_called") (spC K mg ((pg.cal (d + 1)).call "_law_called")) := by
  obtain ⟨fd, F0⟩ := c.defs "_law_called" dd__law_called (by kernel_rfl)
  have F : FunD K "_law_called" "_law_called" (defArgs st__law_called) (defBody st__law_called) (defScope st__law_called) [] [] (adOf tp K "_law_called") fd := F0
  exact fn_plain (fun_of F) (FunD.bindsN (ps := ["state", "base"]) F fun _ _ _ _ _ _ us hl => match us, hl with | [_, _], _ => rfl) sc__law_called A (by kernel_rfl) d__law_called
theorem q__law_boxed (c : Says tp ex w K) (A : AllFn P w K mg base pg nm (adOf tp K) d) : FnQ P w K mg base (L2.CX P w) (d + 3) (adOf tp K "_law_boxed") (spC K mg ((pg.cal (d + 1)).call "_law_boxed")) := by
  obtain ⟨fd, F0⟩ := c.defs "_law_boxed" dd__law_boxed (by kernel_rfl)
  have F : FunD K "_law_boxed" "_law_boxed" (defArgs st__law_boxed) (defBody st__law_boxed) (defScope st__law_boxed) [] [] (adOf tp K "_law_boxed") fd := F0
  exact fn_plain (fun_of F) (FunD.bindsN (ps := ["state", "base"]) F fun _ _ _ _ _ _ us hl => match us, hl with | [_, _], _ => rfl) sc__law_boxed A (by kernel_rfl) d__law_boxed
theorem q__law_refused (c : Says tp ex w K) (A : AllFn P w K mg base pg nm (adOf tp K) d) : FnQ P w K mg base (L2.CX P w) (d + 3) (adOf tp K "_law_refused") (spC K mg ((pg.cal (d + 1)).call "_law_refused")) := by
  obtain ⟨fd, F0⟩ := c.defs "_law_refused" dd__law_refused (by kernel_rfl)
  have F : FunD K "_law_refused" "_law_refused" (defArgs st__law_refused) (defBody st__law_refused) (defScope st__law_refused) [] [] (adOf tp K "_law_refused") fd := F0
  exact fn_plain (fun_of F) (FunD.bindsN (ps := ["expression"]) F fun _ _ _ _ _ _ us hl => match us, hl with | [_], _ => rfl) sc__law_refused A (by kernel_rfl) d__law_refused
theorem q_law (c : Says tp ex w K) (A : AllFn P w K mg base pg nm (adOf tp K) d) : FnQ P w K mg base (L2.CX P w) (d + 3) (adOf tp K "law") (spC K mg ((pg.cal (d + 1)).call "law")) := by
  obtain ⟨fd, F0⟩ := c.defs "law" dd_law (by kernel_rfl)
  have F : FunD K "law" "law" (defArgs st_law) (defBody st_law) (defScope st_law) [] [] (adOf tp K "law") fd := F0
  exact fn_plain (fun_of F) (FunD.bindsN (ps := ["script"]) F fun _ _ _ _ _ _ us hl => match us, hl with | [_], _ => rfl) sc_law A (by kernel_rfl) d_law
theorem q_Box___init__ (c : Says tp ex w K) (A : AllFn P w K mg base pg nm (adOf tp K) d) : FnQ P w K mg base (L2.CX P w) (d + 3) (adOf tp K "Box.__init__") (spC K mg ((pg.cal (d + 1)).call "Box.__init__")) := by
  obtain ⟨fd, F0⟩ := c.defs "Box.__init__" dd_Box___init__ (by kernel_rfl)
  have F : FunD K "__init__" "Box.__init__" (defArgs st_Box__init_) (defBody st_Box__init_) (defScope st_Box__init_) [] [] (adOf tp K "Box.__init__") fd := F0
  exact fn_plain (fun_of F) (FunD.bindsN (ps := ["self", "held"]) F fun _ _ _ _ _ _ us hl => match us, hl with | [_, _], _ => rfl) sc_Box__init_ A (by kernel_rfl) d_Box__init_
theorem q_Casts_of_cast (c : Says tp ex w K) (A : AllFn P w K mg base pg nm (adOf tp K) d) : FnQ P w K mg base (L2.CX P w) (d + 3) (adOf tp K "Casts.of_cast") (spC K mg ((pg.cal (d + 1)).call "Casts.of_cast")) := by
  obtain ⟨fd, F0⟩ := c.defs "Casts.of_cast" dd_Casts_of_cast (by kernel_rfl)
  have F : FunD K "of_cast" "Casts.of_cast" (defArgs st_Casts_of_cast) (defBody st_Casts_of_cast) (defScope st_Casts_of_cast) [] [] (adOf tp K "Casts.of_cast") fd := F0
  exact fn_plain (fun_of F) (FunD.bindsN (ps := ["self", "number", "source", "target"]) F fun _ _ _ _ _ _ us hl => match us, hl with | [_, _, _, _], _ => rfl) sc_Casts_of_cast A (by kernel_rfl) d_Casts_of_cast
theorem q_Casts_added (c : Says tp ex w K) (A : AllFn P w K mg base pg nm (adOf tp K) d) : FnQ P w K mg base (L2.CX P w) (d + 3) (adOf tp K "Casts.added") (spC K mg ((pg.cal (d + 1)).call "Casts.added")) := by
  obtain ⟨fd, F0⟩ := c.defs "Casts.added" dd_Casts_added (by kernel_rfl)
  have F : FunD K "added" "Casts.added" (defArgs st_Casts_added) (defBody st_Casts_added) (defScope st_Casts_added) [] [] (adOf tp K "Casts.added") fd := F0
  exact fn_plain (fun_of F) (FunD.bindsN (ps := ["self", "new", "pending"]) F fun _ _ _ _ _ _ us hl => match us, hl with | [_, _, _], _ => rfl) sc_Casts_added A (by kernel_rfl) d_Casts_added
theorem q_Casts_settled (c : Says tp ex w K) (A : AllFn P w K mg base pg nm (adOf tp K) d) : FnQ P w K mg base (L2.CX P w) (d + 3) (adOf tp K "Casts.settled") (spC K mg ((pg.cal (d + 1)).call "Casts.settled")) := by
  obtain ⟨fd, F0⟩ := c.defs "Casts.settled" dd_Casts_settled (by kernel_rfl)
  have F : FunD K "settled" "Casts.settled" (defArgs st_Casts_settled) (defBody st_Casts_settled) (defScope st_Casts_settled) [] [] (adOf tp K "Casts.settled") fd := F0
  exact fn_plain (fun_of F) (FunD.bindsN (ps := ["self", "pending", "value"]) F fun _ _ _ _ _ _ us hl => match us, hl with | [_, _, _], _ => rfl) sc_Casts_settled A (by kernel_rfl) d_Casts_settled
theorem q_Casts_made (c : Says tp ex w K) (A : AllFn P w K mg base pg nm (adOf tp K) d) : FnQ P w K mg base (L2.CX P w) (d + 3) (adOf tp K "Casts.made") (spC K mg ((pg.cal (d + 1)).call "Casts.made")) := by
  obtain ⟨fd, F0⟩ := c.defs "Casts.made" dd_Casts_made (by kernel_rfl)
  have F : FunD K "made" "Casts.made" (defArgs st_Casts_made) (defBody st_Casts_made) (defScope st_Casts_made) [] [] (adOf tp K "Casts.made") fd := F0
  exact fn_plain (fun_of F) (FunD.bindsN (ps := ["self", "cast", "value"]) F fun _ _ _ _ _ _ us hl => match us, hl with | [_, _, _], _ => rfl) sc_Casts_made A (by kernel_rfl) d_Casts_made
theorem q_Casts_halves (c : Says tp ex w K) (A : AllFn P w K mg base pg nm (adOf tp K) d) : FnQ P w K mg base (L2.CX P w) (d + 3) (adOf tp K "Casts.halves") (spC K mg ((pg.cal (d + 1)).call "Casts.halves")) := by
  obtain ⟨fd, F0⟩ := c.defs "Casts.halves" dd_Casts_halves (by kernel_rfl)
  have F : FunD K "halves" "Casts.halves" (defArgs st_Casts_halves) (defBody st_Casts_halves) (defScope st_Casts_halves) [] [] (adOf tp K "Casts.halves") fd := F0
  exact fn_plain (fun_of F) (FunD.bindsN (ps := ["self", "cast"]) F fun _ _ _ _ _ _ us hl => match us, hl with | [_, _], _ => rfl) sc_Casts_halves A (by kernel_rfl) d_Casts_halves
theorem q_Elaborator___init__ (c : Says tp ex w K) (A : AllFn P w K mg base pg nm (adOf tp K) d) : FnQ P w K mg base (L2.CX P w) (d + 3) (adOf tp K "Elaborator.__init__") (spC K mg ((pg.cal (d + 1)).call "Elaborator.__init__")) := by
  obtain ⟨fd, F0⟩ := c.defs "Elaborator.__init__" dd_Elaborator___init__ (by kernel_rfl)
  have F : FunD K "__init__" "Elaborator.__init__" (defArgs st_Elaborator__init_) (defBody st_Elaborator__init_) (defScope st_Elaborator__init_) [] [] (adOf tp K "Elaborator.__init__") fd := F0
  exact fn_plain (fun_of F) (FunD.bindsN (ps := ["self"]) F fun _ _ _ _ _ _ us hl => match us, hl with | [_], _ => rfl) sc_Elaborator__init_ A (by kernel_rfl) d_Elaborator__init_
theorem q_Elaborator_elaborated (c : Says tp ex w K) (A : AllFn P w K mg base pg nm (adOf tp K) d) : FnQ P w K mg base (L2.CX P w) (d + 3) (adOf tp K "Elaborator.elaborated") (spC K mg ((pg.cal (d + 1)).call "Elaborator.elaborated")) := by
  obtain ⟨fd, F0⟩ := c.defs "Elaborator.elaborated" dd_Elaborator_elaborated (by kernel_rfl)
  have F : FunD K "elaborated" "Elaborator.elaborated" (defArgs st_Elaborator_elaborated) (defBody st_Elaborator_elaborated) (defScope st_Elaborator_elaborated) [] [] (adOf tp K "Elaborator.elaborated") fd := F0
  exact fn_plain (fun_of F) (FunD.bindsN (ps := ["self", "expression", "scope"]) F fun _ _ _ _ _ _ us hl => match us, hl with | [_, _, _], _ => rfl) sc_Elaborator_elaborated A (by kernel_rfl) d_Elaborator_elaborated
theorem q_Elaborator_core_and_type (c : Says tp ex w K) (A : AllFn P w K mg base pg nm (adOf tp K) d) : FnQ P w K mg base (L2.CX P w) (d + 3) (adOf tp K "Elaborator.core_and_type") (spC K mg ((pg.cal (d + 1)).call "Elaborator.core_and_type")) := by
  obtain ⟨fd, F0⟩ := c.defs "Elaborator.core_and_type" dd_Elaborator_core_and_type (by kernel_rfl)
  have F : FunD K "core_and_type" "Elaborator.core_and_type" (defArgs st_Elaborator_core_and_type) (defBody st_Elaborator_core_and_type) (defScope st_Elaborator_core_and_type) [] [] (adOf tp K "Elaborator.core_and_type") fd := F0
  exact fn_plain (fun_of F) (FunD.bindsN (ps := ["self", "expression", "scope"]) F fun _ _ _ _ _ _ us hl => match us, hl with | [_, _, _], _ => rfl) sc_Elaborator_core_and_type A (by kernel_rfl) d_Elaborator_core_and_type
theorem q_Evaluation___init__ (hP : SupP P tp.file) (c : Says tp ex w K) (A : AllFn P w K mg base pg nm (adOf tp K) d) : FnQ P w K mg base (L2.CX P w) (d + 3) (adOf tp K "Evaluation.__init__") (spC K mg ((pg.cal (d + 1)).call "Evaluation.__init__")) := by
  have F0 := c.sups "Evaluation.__init__" dd_Evaluation___init__ "Evaluation" (by kernel_rfl) (by kernel_rfl)
  have F : FunS K "__init__" "Evaluation.__init__" (defArgs st_Evaluation__init_) (defBody st_Evaluation__init_) (defScope st_Evaluation__init_) (adOf tp K "Evaluation") tp.file (adOf tp K "Evaluation.__init__") := F0
  exact fn_super (ps := ["self", "casting", "core", "calls"]) F hP sc_Evaluation__init_ A (fun _ _ _ _ _ _ us hl => match us, hl with | [_, _, _, _], _ => rfl) (by kernel_rfl) rfl rfl (by decide +kernel) rfl rfl rfl d_Evaluation__init_
theorem q_Evaluation_Run___init__ (c : Says tp ex w K) (A : AllFn P w K mg base pg nm (adOf tp K) d) : FnQ P w K mg base (L2.CX P w) (d + 3) (adOf tp K "Evaluation^Run.__init__") (spC K mg ((pg.cal (d + 1)).call "Evaluation^Run.__init__")) := by
  obtain ⟨fd, F0⟩ := c.defs "Evaluation^Run.__init__" dd_Evaluation_Run___init__ (by kernel_rfl)
  have F : FunD K "__init__" "Run.__init__" (defArgs st_Evaluation_of_Run__init_) (defBody st_Evaluation_of_Run__init_) (defScope st_Evaluation_of_Run__init_) [] [] (adOf tp K "Evaluation^Run.__init__") fd := F0
  exact fn_plain (fun_of F) (FunD.bindsN (ps := ["self", "casting", "calls"]) F fun _ _ _ _ _ _ us hl => match us, hl with | [_, _, _], _ => rfl) sc_Evaluation_of_Run__init_ A (by kernel_rfl) d_Evaluation_of_Run__init_
theorem q_Evaluation_last_value (c : Says tp ex w K) (A : AllFn P w K mg base pg nm (adOf tp K) d) : FnQ P w K mg base (L2.CX P w) (d + 3) (adOf tp K "Evaluation.last_value") (spC K mg ((pg.cal (d + 1)).call "Evaluation.last_value")) := by
  obtain ⟨fd, F0⟩ := c.defs "Evaluation.last_value" dd_Evaluation_last_value (by kernel_rfl)
  have F : FunD K "last_value" "Evaluation.last_value" (defArgs st_Evaluation_last_value) (defBody st_Evaluation_last_value) (defScope st_Evaluation_last_value) [] [] (adOf tp K "Evaluation.last_value") fd := F0
  exact fn_plain (fun_of F) (FunD.bindsN (ps := ["self"]) F fun _ _ _ _ _ _ us hl => match us, hl with | [_], _ => rfl) sc_Evaluation_last_value A (by kernel_rfl) d_Evaluation_last_value
theorem q_Evaluation_begin (c : Says tp ex w K) (A : AllFn P w K mg base pg nm (adOf tp K) d) : FnQ P w K mg base (L2.CX P w) (d + 3) (adOf tp K "Evaluation.begin") (spC K mg ((pg.cal (d + 1)).call "Evaluation.begin")) := by
  obtain ⟨fd, F0⟩ := c.defs "Evaluation.begin" dd_Evaluation_begin (by kernel_rfl)
  have F : FunD K "begin" "Evaluation.begin" (defArgs st_Evaluation_begin) (defBody st_Evaluation_begin) (defScope st_Evaluation_begin) [] [] (adOf tp K "Evaluation.begin") fd := F0
  exact fn_plain (fun_of F) (FunD.bindsN (ps := ["self", "core", "scope", "pending"]) F fun _ _ _ _ _ _ us hl => match us, hl with | [_, _, _, _], _ => rfl) sc_Evaluation_begin A (by kernel_rfl) d_Evaluation_begin
theorem q_Evaluation_step (c : Says tp ex w K) (A : AllFn P w K mg base pg nm (adOf tp K) d) : FnQ P w K mg base (L2.CX P w) (d + 3) (adOf tp K "Evaluation.step") (spC K mg ((pg.cal (d + 1)).call "Evaluation.step")) := by
  obtain ⟨fd, F0⟩ := c.defs "Evaluation.step" dd_Evaluation_step (by kernel_rfl)
  have F : FunD K "step" "Evaluation.step" (defArgs st_Evaluation_step) (defBody st_Evaluation_step) (defScope st_Evaluation_step) [] [] (adOf tp K "Evaluation.step") fd := F0
  exact fn_plain (fun_of F) (FunD.bindsN (ps := ["self"]) F fun _ _ _ _ _ _ us hl => match us, hl with | [_], _ => rfl) sc_Evaluation_step A (by kernel_rfl) d_Evaluation_step
theorem q_Evaluation_go_on (c : Says tp ex w K) (A : AllFn P w K mg base pg nm (adOf tp K) d) : FnQ P w K mg base (L2.CX P w) (d + 3) (adOf tp K "Evaluation.go_on") (spC K mg ((pg.cal (d + 1)).call "Evaluation.go_on")) := by
  obtain ⟨fd, F0⟩ := c.defs "Evaluation.go_on" dd_Evaluation_go_on (by kernel_rfl)
  have F : FunD K "go_on" "Evaluation.go_on" (defArgs st_Evaluation_go_on) (defBody st_Evaluation_go_on) (defScope st_Evaluation_go_on) [] [] (adOf tp K "Evaluation.go_on") fd := F0
  exact fn_plain (fun_of F) (FunD.bindsN (ps := ["self", "frame"]) F fun _ _ _ _ _ _ us hl => match us, hl with | [_, _], _ => rfl) sc_Evaluation_go_on A (by kernel_rfl) d_Evaluation_go_on
theorem q_Evaluation_call (c : Says tp ex w K) (A : AllFn P w K mg base pg nm (adOf tp K) d) : FnQ P w K mg base (L2.CX P w) (d + 3) (adOf tp K "Evaluation.call") (spC K mg ((pg.cal (d + 1)).call "Evaluation.call")) := by
  obtain ⟨fd, F0⟩ := c.defs "Evaluation.call" dd_Evaluation_call (by kernel_rfl)
  have F : FunD K "call" "Evaluation.call" (defArgs st_Evaluation_call) (defBody st_Evaluation_call) (defScope st_Evaluation_call) [] [] (adOf tp K "Evaluation.call") fd := F0
  exact fn_plain (fun_of F) (FunD.bindsN (ps := ["self", "function", "argument", "pending"]) F fun _ _ _ _ _ _ us hl => match us, hl with | [_, _, _, _], _ => rfl) sc_Evaluation_call A (by kernel_rfl) d_Evaluation_call
theorem q_Evaluation_give (c : Says tp ex w K) (A : AllFn P w K mg base pg nm (adOf tp K) d) : FnQ P w K mg base (L2.CX P w) (d + 3) (adOf tp K "Evaluation.give") (spC K mg ((pg.cal (d + 1)).call "Evaluation.give")) := by
  obtain ⟨fd, F0⟩ := c.defs "Evaluation.give" dd_Evaluation_give (by kernel_rfl)
  have F : FunD K "give" "Evaluation.give" (defArgs st_Evaluation_give) (defBody st_Evaluation_give) (defScope st_Evaluation_give) [] [] (adOf tp K "Evaluation.give") fd := F0
  exact fn_plain (fun_of F) (FunD.bindsN (ps := ["self", "value"]) F fun _ _ _ _ _ _ us hl => match us, hl with | [_, _], _ => rfl) sc_Evaluation_give A (by kernel_rfl) d_Evaluation_give
theorem q_Evaluation_value_of (c : Says tp ex w K) (A : AllFn P w K mg base pg nm (adOf tp K) d) : FnQ P w K mg base (L2.CX P w) (d + 3) (adOf tp K "Evaluation.value_of") (spC K mg ((pg.cal (d + 1)).call "Evaluation.value_of")) := by
  obtain ⟨fd, F0⟩ := c.defs "Evaluation.value_of" dd_Evaluation_value_of (by kernel_rfl)
  have F : FunD K "value_of" "Evaluation.value_of" (defArgs st_Evaluation_value_of) (defBody st_Evaluation_value_of) (defScope st_Evaluation_value_of) [] [] (adOf tp K "Evaluation.value_of") fd := F0
  exact fn_plain (fun_of F) (FunD.bindsN (ps := ["self", "frame"]) F fun _ _ _ _ _ _ us hl => match us, hl with | [_, _], _ => rfl) sc_Evaluation_value_of A (by kernel_rfl) d_Evaluation_value_of
theorem q_Evaluation_enter (c : Says tp ex w K) (A : AllFn P w K mg base pg nm (adOf tp K) d) : FnQ P w K mg base (L2.CX P w) (d + 3) (adOf tp K "Evaluation.enter") (spC K mg ((pg.cal (d + 1)).call "Evaluation.enter")) := by
  obtain ⟨fd, F0⟩ := c.defs "Evaluation.enter" dd_Evaluation_enter (by kernel_rfl)
  have F : FunD K "enter" "Run.enter" (defArgs st_Evaluation_enter) (defBody st_Evaluation_enter) (defScope st_Evaluation_enter) [] [] (adOf tp K "Evaluation.enter") fd := F0
  exact fn_plain (fun_of F) (FunD.bindsN (ps := ["self"]) F fun _ _ _ _ _ _ us hl => match us, hl with | [_], _ => rfl) sc_Evaluation_enter A (by kernel_rfl) d_Evaluation_enter
theorem q_Evaluation_outcome (c : Says tp ex w K) (A : AllFn P w K mg base pg nm (adOf tp K) d) : FnQ P w K mg base (L2.CX P w) (d + 3) (adOf tp K "Evaluation.outcome") (spC K mg ((pg.cal (d + 1)).call "Evaluation.outcome")) := by
  obtain ⟨fd, F0⟩ := c.defs "Evaluation.outcome" dd_Evaluation_outcome (by kernel_rfl)
  have F : FunD K "outcome" "Run.outcome" (defArgs st_Evaluation_outcome) (defBody st_Evaluation_outcome) (defScope st_Evaluation_outcome) [] [] (adOf tp K "Evaluation.outcome") fd := F0
  exact fn_plain (fun_of F) (FunD.bindsN (ps := ["self"]) F fun _ _ _ _ _ _ us hl => match us, hl with | [_], _ => rfl) sc_Evaluation_outcome A (by kernel_rfl) d_Evaluation_outcome
theorem q_Frame___init__ (c : Says tp ex w K) (A : AllFn P w K mg base pg nm (adOf tp K) d) : FnQ P w K mg base (L2.CX P w) (d + 3) (adOf tp K "Frame.__init__") (spC K mg ((pg.cal (d + 1)).call "Frame.__init__")) := by
  obtain ⟨fd, F0⟩ := c.defs "Frame.__init__" dd_Frame___init__ (by kernel_rfl)
  have F : FunD K "__init__" "Frame.__init__" (defArgs st_Frame__init_) (defBody st_Frame__init_) (defScope st_Frame__init_) [] [] (adOf tp K "Frame.__init__") fd := F0
  exact fn_plain (fun_of F) (FunD.bindsN (ps := ["self", "core", "scope", "pending"]) F fun _ _ _ _ _ _ us hl => match us, hl with | [_, _, _, _], _ => rfl) sc_Frame__init_ A (by kernel_rfl) d_Frame__init_
theorem q_Function___init__ (c : Says tp ex w K) (A : AllFn P w K mg base pg nm (adOf tp K) d) : FnQ P w K mg base (L2.CX P w) (d + 3) (adOf tp K "Function.__init__") (spC K mg ((pg.cal (d + 1)).call "Function.__init__")) := by
  obtain ⟨fd, F0⟩ := c.defs "Function.__init__" dd_Function___init__ (by kernel_rfl)
  have F : FunD K "__init__" "Function.__init__" (defArgs st_Function__init_) (defBody st_Function__init_) (defScope st_Function__init_) [] [] (adOf tp K "Function.__init__") fd := F0
  exact fn_plain (fun_of F) (FunD.bindsN (ps := ["self", "own", "name", "body", "scope"]) F fun _ _ _ _ _ _ us hl => match us, hl with | [_, _, _, _, _], _ => rfl) sc_Function__init_ A (by kernel_rfl) d_Function__init_
theorem q_Function_scope_with (c : Says tp ex w K) (A : AllFn P w K mg base pg nm (adOf tp K) d) : FnQ P w K mg base (L2.CX P w) (d + 3) (adOf tp K "Function.scope_with") (spC K mg ((pg.cal (d + 1)).call "Function.scope_with")) := by
  obtain ⟨fd, F0⟩ := c.defs "Function.scope_with" dd_Function_scope_with (by kernel_rfl)
  have F : FunD K "scope_with" "Function.scope_with" (defArgs st_Function_scope_with) (defBody st_Function_scope_with) (defScope st_Function_scope_with) [] [] (adOf tp K "Function.scope_with") fd := F0
  exact fn_plain (fun_of F) (FunD.bindsN (ps := ["self", "argument"]) F fun _ _ _ _ _ _ us hl => match us, hl with | [_, _], _ => rfl) sc_Function_scope_with A (by kernel_rfl) d_Function_scope_with
theorem q_Injected___init__ (c : Says tp ex w K) (A : AllFn P w K mg base pg nm (adOf tp K) d) : FnQ P w K mg base (L2.CX P w) (d + 3) (adOf tp K "Injected.__init__") (spC K mg ((pg.cal (d + 1)).call "Injected.__init__")) := by
  obtain ⟨fd, F0⟩ := c.defs "Injected.__init__" dd_Injected___init__ (by kernel_rfl)
  have F : FunD K "__init__" "Injected.__init__" (defArgs st_Injected__init_) (defBody st_Injected__init_) (defScope st_Injected__init_) [] [] (adOf tp K "Injected.__init__") fd := F0
  exact fn_plain (fun_of F) (FunD.bindsN (ps := ["self", "inside", "name"]) F fun _ _ _ _ _ _ us hl => match us, hl with | [_, _, _], _ => rfl) sc_Injected__init_ A (by kernel_rfl) d_Injected__init_
theorem q_Part___init__ (c : Says tp ex w K) (A : AllFn P w K mg base pg nm (adOf tp K) d) : FnQ P w K mg base (L2.CX P w) (d + 3) (adOf tp K "Part.__init__") (spC K mg ((pg.cal (d + 1)).call "Part.__init__")) := by
  obtain ⟨fd, F0⟩ := c.defs "Part.__init__" dd_Part___init__ (by kernel_rfl)
  have F : FunD K "__init__" "Part.__init__" (defArgs st_Part__init_) (defBody st_Part__init_) (defScope st_Part__init_) [] [] (adOf tp K "Part.__init__") fd := F0
  exact fn_plain (fun_of F) (FunD.bindsN (ps := ["self", "number", "core", "of_type"]) F fun _ _ _ _ _ _ us hl => match us, hl with | [_, _, _, _], _ => rfl) sc_Part__init_ A (by kernel_rfl) d_Part__init_
theorem q_Wrapped___init__ (c : Says tp ex w K) (A : AllFn P w K mg base pg nm (adOf tp K) d) : FnQ P w K mg base (L2.CX P w) (d + 3) (adOf tp K "Wrapped.__init__") (spC K mg ((pg.cal (d + 1)).call "Wrapped.__init__")) := by
  obtain ⟨fd, F0⟩ := c.defs "Wrapped.__init__" dd_Wrapped___init__ (by kernel_rfl)
  have F : FunD K "__init__" "Wrapped.__init__" (defArgs st_Wrapped__init_) (defBody st_Wrapped__init_) (defScope st_Wrapped__init_) [] [] (adOf tp K "Wrapped.__init__") fd := F0
  exact fn_plain (fun_of F) (FunD.bindsN (ps := ["self", "inside", "by"]) F fun _ _ _ _ _ _ us hl => match us, hl with | [_, _, _], _ => rfl) sc_Wrapped__init_ A (by kernel_rfl) d_Wrapped__init_
theorem kstep_all (c : Says tp ex w K) (A : AllFn P w K mg base pg nm (adOf tp K) d) : ∀ f n ks, (f, n, ks) ∈ nm.kws → FnK P w K mg base (L2.CX P w) (d + 3) (adOf tp K f) n ks (spC K mg ((pg.cal (d + 1)).kcal f)) := by
  intro f n ks h
  have h : (f, n, ks) ∈ ([] : List (Str × Nat × List Str)) := h
  cases h
theorem allT_cons {α : Type} {Q : Str → α → Prop} {x : Str × α} {xs : List (Str × α)} (h : Q x.1 x.2) (t : AllT Q xs) : AllT Q (x :: xs) := ⟨h, t⟩
theorem step_all (hP : SupP P tp.file) (c : Says tp ex w K) (cL : LR K mg (adOf tp K)) (A : AllFn P w K mg base pg nm (adOf tp K) d) : AllT (fun f _ => FnQ P w K mg base (L2.CX P w) (d + 3) (adOf tp K f) (spC K mg ((pg.cal (d + 1)).call f))) tbl :=
  allT_cons (q_consistent c A) (allT_cons (q_meeting c A) (allT_cons (q_ground c A) (allT_cons (q_ground_type c A) (allT_cons (q_parts c A) (allT_cons (q_bare c A) (allT_cons (q_ground_of c A) (allT_cons (q_shape c A) (allT_cons (q_operated c A) (allT_cons (q_half c A) (allT_cons (q_got c A) (allT_cons (q_put c A) (allT_cons (q_unwrapped c A) (allT_cons (q_called_inside c A) (allT_cons (q_made_all c A) (allT_cons (q_computed c A) (allT_cons (q_in_range c A) (allT_cons (q_run_plain c A) (allT_cons (q_elaborate c A) (allT_cons (q_fit c A) (allT_cons (q_opened c A) (allT_cons (q_constant_rule c A) (allT_cons (q_call_rule c A) (allT_cons (q_if_rule c A) (allT_cons (q_pair_rule c A) (allT_cons (q_half_rule c A) (allT_cons (q_box_rule c A) (allT_cons (q_get_rule c A) (allT_cons (q_put_rule c A) (allT_cons (q_op_rule c A) (allT_cons (q_not_rule c A) (allT_cons (q_print_rule c A) (allT_cons (q_as_rule c A) (allT_cons (q__law_state c A) (allT_cons (q__law_take c A) (allT_cons (q__law_chain c A) (allT_cons (q__law_type c A) (allT_cons (q__law_wrap c A) (allT_cons (q__law_blame c A) (allT_cons (q__law_simple c A) (allT_cons (q__law_called c A) (allT_cons (q__law_boxed c A) (allT_cons (q__law_refused c A) (allT_cons (q_law c A) (allT_cons (q_Box___init__ c A) (allT_cons (q_Casts_of_cast c A) (allT_cons (q_Casts_added c A) (allT_cons (q_Casts_settled c A) (allT_cons (q_Casts_made c A) (allT_cons (q_Casts_halves c A) (allT_cons (q_Elaborator___init__ c A) (allT_cons (q_Elaborator_elaborated c A) (allT_cons (q_Elaborator_core_and_type c A) (allT_cons (q_Evaluation___init__ hP c A) (allT_cons (q_Evaluation_Run___init__ c A) (allT_cons (q_Evaluation_last_value c A) (allT_cons (q_Evaluation_begin c A) (allT_cons (q_Evaluation_step c A) (allT_cons (q_Evaluation_go_on c A) (allT_cons (q_Evaluation_call c A) (allT_cons (q_Evaluation_give c A) (allT_cons (q_Evaluation_value_of c A) (allT_cons (q_Evaluation_enter c A) (allT_cons (q_Evaluation_outcome c A) (allT_cons (q_Frame___init__ c A) (allT_cons (q_Function___init__ c A) (allT_cons (q_Function_scope_with c A) (allT_cons (q_Injected___init__ c A) (allT_cons (q_Part___init__ c A) (allT_cons (q_Wrapped___init__ c A) (trivial))))))))))))))))))))))))))))))))))))))))))))))))))))))))))))))))))))))
theorem sc_xc_Mismatched : FnScope ["self", "number"] ["self", "number"] (defScope st_Mismatched__init_) := ⟨rfl, rfl, rfl, by decide +kernel, rfl, by decide +kernel, by decide +kernel⟩
theorem xc_Mismatched {h : Heap} (X : K.In h) (G : h.Ns mainGlobals mg) (c : Says tp ex w K) : XcOk P w K mg base (adOf tp K) "Mismatched" "number" := by
  obtain ⟨fd, F0⟩ := c.defs "Mismatched.__init__" dd_Mismatched___init__ (by kernel_rfl)
  have F : FunD K "__init__" "Mismatched.__init__" (defArgs st_Mismatched__init_) (defBody st_Mismatched__init_) (defScope st_Mismatched__init_) [] [] (adOf tp K "Mismatched.__init__") fd := F0
  exact xc_of X G c (by decide +kernel) (fun_of F) (FunD.bindsN (ps := ["self", "number"]) F fun _ _ _ _ _ _ us hl => match us, hl with | [_, _], _ => rfl) sc_xc_Mismatched rfl rfl rfl (by decide) (by decide) (fun _ => rfl)
theorem sc_xc_Stopped : FnScope ["self", "end"] ["self", "end"] (defScope st_Stopped__init_) := ⟨rfl, rfl, rfl, by decide +kernel, rfl, by decide +kernel, by decide +kernel⟩
theorem xc_Stopped {h : Heap} (X : K.In h) (G : h.Ns mainGlobals mg) (c : Says tp ex w K) : XcOk P w K mg base (adOf tp K) "Stopped" "end" := by
  obtain ⟨fd, F0⟩ := c.defs "Stopped.__init__" dd_Stopped___init__ (by kernel_rfl)
  have F : FunD K "__init__" "Stopped.__init__" (defArgs st_Stopped__init_) (defBody st_Stopped__init_) (defScope st_Stopped__init_) [] [] (adOf tp K "Stopped.__init__") fd := F0
  exact xc_of X G c (by decide +kernel) (fun_of F) (FunD.bindsN (ps := ["self", "end"]) F fun _ _ _ _ _ _ us hl => match us, hl with | [_, _], _ => rfl) sc_xc_Stopped rfl rfl rfl (by decide) (by decide) (fun _ => rfl)
theorem sc_xc_Unknown : FnScope ["self", "name"] ["self", "name"] (defScope st_Unknown__init_) := ⟨rfl, rfl, rfl, by decide +kernel, rfl, by decide +kernel, by decide +kernel⟩
theorem xc_Unknown {h : Heap} (X : K.In h) (G : h.Ns mainGlobals mg) (c : Says tp ex w K) : XcOk P w K mg base (adOf tp K) "Unknown" "name" := by
  obtain ⟨fd, F0⟩ := c.defs "Unknown.__init__" dd_Unknown___init__ (by kernel_rfl)
  have F : FunD K "__init__" "Unknown.__init__" (defArgs st_Unknown__init_) (defBody st_Unknown__init_) (defScope st_Unknown__init_) [] [] (adOf tp K "Unknown.__init__") fd := F0
  exact xc_of X G c (by decide +kernel) (fun_of F) (FunD.bindsN (ps := ["self", "name"]) F fun _ _ _ _ _ _ us hl => match us, hl with | [_, _], _ => rfl) sc_xc_Unknown rfl rfl rfl (by decide) (by decide) (fun _ => rfl)
theorem all_xc {h : Heap} (X : K.In h) (G : h.Ns mainGlobals mg) (c : Says tp ex w K) : ∀ C f, (C, f) ∈ nm.xcs → XcOk P w K mg base (adOf tp K) C f := by
  intro C f hq
  have hq : (C, f) ∈ ([("Mismatched", "number"), ("Stopped", "end"), ("Unknown", "name")] : List (Str × Str)) := hq
  simp only [List.mem_cons, Prod.mk.injEq, List.not_mem_nil, or_false] at hq
  rcases hq with ⟨rfl, rfl⟩ | ⟨rfl, rfl⟩ | ⟨rfl, rfl⟩
  · exact xc_Mismatched X G c
  · exact xc_Stopped X G c
  · exact xc_Unknown X G c
theorem all_defs (hP : SupP P tp.file) {h : Heap} (X : K.In h) (G : h.Ns mainGlobals mg) (c : Says tp ex w K) (cL : LR K mg (adOf tp K)) : ∀ d, AllFn P w K mg base pg nm (adOf tp K) d :=
  all_fn (tbl := tbl) rfl (sta_of X G c rfl) (gd_of X G c rfl) (ft_of X G c) (all_xc X G c) (fun d A => step_all hP c cL A) fun d A => kstep_all c A
theorem facts (hP : SupP P tp.file) {h : Heap} {f : Addr} (X : K.In h) (G : h.Ns mainGlobals mg) (hfa : mg ("law" : Str) = some (.ref f)) (c : Says tp ex w K) (hl : fnB tp K "law" = true) (lr : ∀ {h : Heap}, K.In h → h.Ns mainGlobals mg → LR K mg (adOf tp K))
    (M : ∀ ns : List Int, ns.length ≤ 63 → ∃ S', (⟨1, N_law.length, false, T_law⟩ : Df).run (pg.cal 677) [.loc 0] [.fro (ns.map U.int)] = .ok (.bl true) S') :
    ∃ fd : FuncData, (∀ (s : Shared) (v : Value), BindsTo s fd ⟨[v], []⟩ [("script", v)]) ∧ ∀ base : Heap, K.In base → base.Ns mainGlobals mg → FnAt callerA P w K mg base (fun _ _ _ _ _ _ => False) f fd ["script"] (spLaw K) := by
  obtain ⟨fd, F0⟩ := c.defs "law" dd_law (by kernel_rfl)
  have F : FunD K "law" "law" (defArgs st_law) (defBody st_law) (defScope st_law) [] [] (adOf tp K "law") fd := F0
  have e := hfa.symm.trans (PySem.W.mg_of X G (eqO_ok (ba hl).1))
  cases e
  have b := FunD.bindsA (ps := ["script"]) F fun _ _ _ _ _ _ us hl => match us, hl with | [_], _ => rfl
  exact ⟨fd, fun s v => b s [v] rfl, fun base XB GB => law0 (fn_law (N := N_law) (fun_of F) sc_law (all_defs hP XB GB c (lr XB GB) 677) d_law M)⟩
end
end Pr
end
section
set_option maxHeartbeats 0
open PySem PySem.W PySem.Calls PyProof.Rows
theorem PySem.Challenge.cw_halfnoted_k10_plain_casts_holds : PySem.Challenge.rw_halfnoted_k10_plain_casts.Holds := by
  w_on; o_law; k_head; (case hw => w_witness2)
  refine Oz.walk_at_caller (sn := "script") (l := PySem.Challenge.rw_halfnoted_k10_plain_casts) rfl (by kernel_rfl) ?F
  intro w mg fa h Y G hmg0
  obtain ⟨K, KX, c0⟩ : ∃ K : PySem.W.Frag, K.In h ∧ Oz.obsO Pr.tp Pr.ex K = Oz.valO Pr.tp w := ⟨_, PySem.W.kIn_of Y, by kernel_rfl⟩
  have c := Oz.says_of c0
  have hmg : mg ("law" : PySem.Str) = some (.ref fa) := hmg0
  obtain ⟨hl, hx⟩ := He.ba c.more
  obtain ⟨fd, hb, hF⟩ := Pr.facts (P := (PySem.Challenge.rw_halfnoted_k10_plain_casts).prog) (w := w) ⟨by kernel_rfl, by kernel_rfl⟩ KX G hmg c hl (fun X G => Pr.lr_of X G hx) Pr.law_eq
  exact ⟨K, fd, KX, hb, hF⟩
end
