import PyProof.Rows.All
import Wide.All
import OpenK.AllK
import Wide.FinOn
import HandS.ForMost
import HandS.Exc
import HandS.Nested
import HandS.TupMul
import HandS.SortInts
import PyProof.StrOps2
import PyProof.FactsAll.str_2
import HandS.TupAny
import HandS.Conv
import HandS.Wide
import HandS.IsInst
import HandS.Style
import HandS.Deep
import HandS.RaiseMore
import PyProof.FitsInt
import HandS.Walk
import HandS.ExcCtx
import HandS.HotCalls
import HandS.Flow
import HandS.Rev
import HandS.Zip
import HandS.Defaults
import KE.GoesEnum
import KE.GoesMore
import KE.KIsAll
import HandS.ExcIs
import HandS.ExcField
import HandS.ExcInit
import HandS.TryMany
import HandS.More
import HandS.FStr
import HandS.Text
import HandS.Dict
import HandS.SortKw
import HandS.Gcd
import HandS.HeadHook4
import HandS.Head0
import HandS.Head1
import HandS.Head2
import HandS.HeadEnd
import HandS.HeadHook1
import HandS.HeadHook2
import HandS.HeadHook3
import HandS.Words
import HandS.HeadWalk
import HandS.Head3
import HandS.SetFor
import HandS.NamedTupSort
import KE.KIndexOf
import PySem.Challenge.RW_sincemarks_k19_whole_joining
section
set_option Elab.async false
set_option linter.all false
namespace Ev
open PySem PySem.Spec PyProof.Rows L2

inductive D where
  | non | bl (b : Bool) | int (i : Int) | str (x : List Nat) | tup (xs : List D) | lst (xs : List D) | dct (kvs : List (D × D)) | obj (c : Nat) (fs : List D) | frl (xs : List D) | rng (lo hi : Int) | tpw (xs : List D) | clo (l : Nat) (cs : List D)
  deriving Inhabited
inductive R (α : Type) where
  | ok (a : α) | err (c : Nat) (fs : List D) | stuck
def R.bind {α β : Type} : R α → (α → R β) → R β
  | .ok a, f => f a
  | .err c fs, _ => .err c fs
  | .stuck, _ => .stuck
instance : Monad R where
  pure := R.ok
  bind := R.bind
@[simp] theorem ok_bind {α β : Type} (a : α) (f : α → R β) : (R.ok a >>= f) = f a := rfl
@[simp] theorem err_bind {α β : Type} (c : Nat) (fs : List D) (f : α → R β) : ((R.err c fs : R α) >>= f) = R.err c fs := rfl
@[simp] theorem stuck_bind {α β : Type} (f : α → R β) : ((R.stuck : R α) >>= f) = R.stuck := rfl
@[simp] theorem pure_ok {α : Type} (a : α) : (pure a : R α) = R.ok a := rfl
inductive Slot where
  | none | val (d : D) | own (xs : List D) | exc (c : Nat) (fs : List D) | clo (l : Nat) (cs : List D)
  deriving Inhabited
abbrev Rho := List Slot
inductive RS where
  | nx (ρ : Rho) | ret (d : D) | bk (ρ : Rho) | ct (ρ : Rho) | err (c : Nat) (fs : List D) (ρ : Rho) | stuck

mutual
def D.dep : D → Nat
  | .tup xs => D.depL xs + 1
  | .lst xs => D.depL xs + 1
  | _ => 0
def D.depL : List D → Nat
  | [] => 0
  | x :: xs => max (D.dep x) (D.depL xs)
end
mutual
def D.plain : D → Bool
  | .tup xs => D.plainL xs
  | .lst xs => D.plainL xs
  | .dct _ => false
  | .obj _ _ => false
  | .frl _ => false
  | .rng _ _ => false
  | .tpw _ => false
  | .clo _ _ => false
  | _ => true
def D.plainL : List D → Bool
  | [] => true
  | x :: xs => D.plain x && D.plainL xs
end
mutual
def D.noL : D → Bool
  | .tup xs => D.noLL xs
  | .lst _ => false
  | .dct _ => false
  | .obj _ _ => false
  | .frl _ => false
  | .rng _ _ => false
  | .tpw _ => false
  | .clo _ _ => false
  | _ => true
def D.noLL : List D → Bool
  | [] => true
  | x :: xs => D.noL x && D.noLL xs
end
mutual
def D.eqv : D → D → Bool
  | .non, .non => true
  | .bl a, .bl b => a == b
  | .bl a, .int j => (if a then 1 else 0) == j
  | .int i, .bl b => i == (if b then 1 else 0)
  | .int i, .int j => i == j
  | .str x, .str y => x == y
  | .tup xs, .tup ys => D.eqvL xs ys
  | .lst xs, .lst ys => D.eqvL xs ys
  | _, _ => false
def D.eqvL : List D → List D → Bool
  | [], [] => true
  | x :: xs, y :: ys => D.eqv x y && D.eqvL xs ys
  | _, _ => false
end
def D.eqOk (x : D) : Bool := decide (x.dep ≤ 60) && x.plain
def D.flat : D → Bool
  | .non => true | .bl _ => true | .int _ => true | .str _ => true | _ => false
def D.truth : D → R Bool
  | .non => .ok false
  | .bl b => .ok b
  | .int i => .ok (i != 0)
  | .str x => .ok (!x.isEmpty)
  | .tup xs => .ok (!xs.isEmpty)
  | .lst xs => .ok (!xs.isEmpty)
  | _ => .stuck

inductive Op2 where
  | add | sub | mul | fdiv | mod | pow | eq | ne | lt | le | gt | ge | isin | notin
  deriving DecidableEq
def mulOk (i j : Int) : Bool := decide ((-(2 ^ 64) < i ∧ i < 2 ^ 64) ∨ (-(2 ^ 64) < j ∧ j < 2 ^ 64))
def inD (neg : Bool) (x : D) : D → R D
  | .tup xs => if x.flat && xs.all D.flat then .ok (.bl (neg != xs.any fun y => D.eqv y x)) else .stuck
  | .lst xs => if x.flat && xs.all D.flat then .ok (.bl (neg != xs.any fun y => D.eqv y x)) else if x.eqOk && D.eqOk (.lst xs) then .ok (.bl (neg != xs.any fun y => D.eqv y x)) else .stuck
  | .str y => (match x with
    | .str [c] => .ok (.bl (neg != decide (c ∈ y)))
    | _ => .stuck)
  | _ => .stuck
def repL {α : Type} (k : Int) (xs : List α) : List α := (List.replicate k.toNat xs).flatten
def fpI (n : Int) (k : Nat) : Int := (List.range k).foldl (fun (p : Int) (i : Nat) => p * (n - (i : Int))) 1
def combI (n k : Int) : Int := fpI n (min k (n - k)).toNat / fpI (min k (n - k)) (min k (n - k)).toNat
def combD : D → D → R D
  | .int n, .int k => if 0 ≤ n ∧ 0 ≤ k then (if n < k then .ok (.int 0) else if min k (n - k) ≤ 9000 ∧ (combI n k).natAbs.log2 < 134217728 then .ok (.int (combI n k)) else .stuck) else .stuck
  | _, _ => .stuck
def binD : Op2 → D → D → R D
  | .add, .int i, .int j => .ok (.int (i + j))
  | .add, .str x, .str y => if x.length + y.length ≤ 16777216 then .ok (.str (x ++ y)) else .stuck
  | .add, .tup x, .tup y => if x.length + y.length ≤ 16777216 then .ok (.tup (x ++ y)) else .stuck
  | .add, .lst x, .lst y => if x.length + y.length ≤ 16777216 then .ok (.lst (x ++ y)) else .stuck
  | .sub, .int i, .int j => .ok (.int (i - j))
  | .mul, .int i, .int j => if mulOk i j || decide (i.natAbs.log2 + j.natAbs.log2 < 1000000) then .ok (.int (i * j)) else .stuck
  | .mul, .lst x, .int k => if -(2 ^ 63) ≤ k ∧ k < 2 ^ 63 ∧ x.length * k.toNat ≤ 16777216 then .ok (.lst (repL k x)) else .stuck
  | .mul, .tup x, .int k => if x.isEmpty = false ∧ 2 ≤ k ∧ k ≤ 1000 ∧ x.length ≤ 1000 then .ok (.tup (repL k x)) else if -(2 ^ 63) ≤ k ∧ k < 2 ^ 63 ∧ (x.isEmpty = true ∨ k = 1) then .ok (.tup x) else if -(2 ^ 63) ≤ k ∧ k ≤ 0 then .ok (.tup []) else .stuck
  | .mul, .str x, .int k => if 1 ≤ k ∧ k ≤ 1000 ∧ x.length ≤ 10000 then .ok (.str (repL k x)) else .stuck
  | .fdiv, .int i, .int j => if 0 < j ∧ j < 1073741824 then .ok (.int (i / j)) else .stuck
  | .mod, .int i, .int j => if 0 < j then .ok (.int (i % j)) else .stuck
  | .pow, .int i, .int j => if 0 ≤ j ∧ j ≤ 1000000 ∧ i.natAbs < 2 ^ 64 then .ok (.int (i ^ j.toNat)) else .stuck
  | .eq, x, y => if x.eqOk && y.eqOk then .ok (.bl (D.eqv x y)) else .stuck
  | .ne, x, y => if x.eqOk && y.eqOk then .ok (.bl (!D.eqv x y)) else .stuck
  | .lt, .int i, .int j => .ok (.bl (decide (i < j)))
  | .le, .int i, .int j => .ok (.bl (decide (i ≤ j)))
  | .gt, .int i, .int j => .ok (.bl (decide (j < i)))
  | .ge, .int i, .int j => .ok (.bl (decide (j ≤ i)))
  | .isin, x, y => inD false x y
  | .notin, x, y => inD true x y
  | _, _, _ => .stuck
inductive Op1 where
  | neg | not | isN | notN | isB (b : Bool) | notB (b : Bool)
  deriving DecidableEq
def unD : Op1 → D → R D
  | .neg, .int i => .ok (.int (-i))
  | .not, x => do let b ← x.truth; pure (.bl (!b))
  | .isN, .non => .ok (.bl true)
  | .isN, _ => .ok (.bl false)
  | .notN, .non => .ok (.bl false)
  | .notN, _ => .ok (.bl true)
  | .isB b, .bl c => .ok (.bl (c == b))
  | .notB b, .bl c => .ok (.bl (c != b))
  | _, _ => .stuck
def ixD (n : Nat) (i : Int) : Option Nat := if 0 ≤ i then (if i < n then some i.toNat else none) else if -(n : Int) ≤ i then some (i + n).toNat else none
def getI {α : Type} (xs : List α) (i : Int) : R α := match ixD xs.length i with
  | some k => (match xs[k]? with
    | some v => .ok v
    | none => .stuck)
  | none => .stuck
def lookD (k : D) : List (D × D) → R D
  | [] => .stuck
  | (q, v) :: r => if D.eqv q k then .ok v else lookD k r
def idxD : D → D → R D
  | .tup xs, .int i => getI xs i
  | .lst xs, .int i => getI xs i
  | .str x, .int i => do let c ← getI x i; pure (.str [c])
  | .dct kvs, .int i => lookD (.int i) kvs
  | .dct kvs, .str i => lookD (.str i) kvs
  | .frl xs, .int i => getI xs i
  | _, _ => .stuck
def sixD (n d : Nat) : Option Int → Nat
  | none => d
  | some v => if v < 0 then (v + n).toNat else min v.toNat n
def cutL {α : Type} (xs : List α) (lo hi : Option Int) : List α := (xs.drop (sixD xs.length 0 lo)).take (sixD xs.length xs.length hi - sixD xs.length 0 lo)
def slcD (x : D) (lo hi : Option Int) : R D := match x with
  | .tup xs => .ok (.tup (cutL xs lo hi))
  | .lst xs => .ok (.lst (cutL xs lo hi))
  | .str xs => .ok (.str (cutL xs lo hi))
  | .frl xs => .ok (.lst (cutL xs lo hi))
  | _ => .stuck

inductive Ty where
  | int | bool | str | tuple | list | dict
  deriving DecidableEq
def D.isTy : D → Ty → Bool
  | .int _, .int => true
  | .bl _, .int => true
  | .bl _, .bool => true
  | .str _, .str => true
  | .tup _, .tuple => true
  | .lst _, .list => true
  | .frl _, .list => true
  | .dct _, .dict => true
  | _, _ => false
def D.isRng : D → Bool
  | .rng _ _ => true
  | .tpw _ => true
  | .clo _ _ => true
  | _ => false
def isiD (x : D) (t : Ty) : R D := if x.isRng then .stuck else .ok (.bl (x.isTy t))
inductive BI where
  | len | int | str | abs | min2 | max2 | min1 | max1 | sum | sorted | tuple | list | all | any | sortedR
  deriving DecidableEq
def intsD : List D → Option (List Int)
  | [] => some []
  | .int i :: r => (intsD r).map (i :: ·)
  | _ => none
def blsD : List D → Option (List Bool)
  | [] => some []
  | .bl i :: r => (blsD r).map (i :: ·)
  | _ => none
def strsD : List D → Option (List (List Nat))
  | [] => some []
  | .str i :: r => (strsD r).map (i :: ·)
  | _ => none
def maxL : List Int → Int
  | [] => 0
  | [x] => x
  | x :: y :: r => max x (maxL (y :: r))
def minL : List Int → Int
  | [] => 0
  | [x] => x
  | x :: y :: r => min x (minL (y :: r))
def insI (x : Int) : List Int → List Int
  | [] => [x]
  | y :: r => if x ≤ y then x :: y :: r else y :: insI x r
def sortI : List Int → List Int
  | [] => []
  | x :: r => insI x (sortI r)
def txtI (i : Int) : List Nat := (PySem.Str.ofString (toString i)).cps.toList
def BI.hot : BI → Bool
  | .len => true | .int => true | .str => true | .abs => true | .tuple => true | .list => true | .all => true
  | _ => false
def biD : BI → List D → R D
  | .len, [.str x] => .ok (.int x.length)
  | .len, [.tup x] => .ok (.int x.length)
  | .len, [.lst x] => .ok (.int x.length)
  | .len, [.frl x] => .ok (.int x.length)
  | .int, [.int i] => .ok (.int i)
  | .int, [.bl b] => .ok (.int (if b then 1 else 0))
  | .abs, [.int i] => .ok (.int (if i < 0 then -i else i))
  | .min2, [.int i, .int j] => .ok (.int (if j < i then j else i))
  | .max2, [.int i, .int j] => .ok (.int (if j > i then j else i))
  | .max1, [.lst xs] => (match intsD xs with
    | some (i :: r) => .ok (.int (maxL (i :: r)))
    | _ => .stuck)
  | .min1, [.lst xs] => (match intsD xs with
    | some (i :: r) => .ok (.int (minL (i :: r)))
    | _ => .stuck)
  | .sum, [.lst xs] => (match intsD xs with
    | some r => .ok (.int r.sum)
    | _ => .stuck)
  | .sorted, [.lst xs] => (match intsD xs with
    | some r => .ok (.lst ((sortI r).map .int))
    | _ => .stuck)
  | .sorted, [.tup xs] => (match intsD xs with
    | some r => .ok (.lst ((sortI r).map .int))
    | _ => .stuck)
  | .sortedR, [.lst xs] => (match intsD xs with
    | some r => .ok (.lst ((sortI r).reverse.map .int))
    | _ => .stuck)
  | .sortedR, [.tup xs] => (match intsD xs with
    | some r => .ok (.lst ((sortI r).reverse.map .int))
    | _ => .stuck)
  | .tuple, [.tup xs] => .ok (.tup xs)
  | .tuple, [.lst xs] => .ok (.tup xs)
  | .list, [.tup xs] => .ok (.lst xs)
  | .list, [.lst xs] => .ok (.lst xs)
  | .all, [.lst xs] => (match blsD xs with
    | some r => .ok (.bl (r.all id))
    | _ => .stuck)
  | .any, [.lst xs] => (match blsD xs with
    | some r => .ok (.bl (r.any id))
    | _ => .stuck)
  | .str, [.int i] => if i.natAbs.log2 < 1920 then .ok (.str (txtI i)) else .stuck
  | .str, [.str x] => .ok (.str x)
  | _, _ => .stuck
def rngL (lo hi : Int) : List D := (List.range (hi - lo).toNat).map fun i => .int (lo + (i : Nat))
def dnL (lo hi : Int) : List D := (List.range (lo - hi).toNat).map fun i => .int (lo + (i : Nat) * (-1))
def rngOk (lo hi : Int) : Bool := decide (-(2 ^ 62) ≤ lo ∧ lo < 2 ^ 62 ∧ -(2 ^ 62) ≤ hi ∧ hi < 2 ^ 62)

inductive Tgt where
  | nm (i : Nat) | tp (is : List Nat)
mutual
inductive CE where
  | stk
  | var (i : Nat)
  | cst (d : D)
  | glb (j : Nat)
  | bin (o : Op2) (a b : CE)
  | un (o : Op1) (a : CE)
  | and (a b : CE)
  | or (a b : CE)
  | chain (o p : Op2) (a b c : CE)
  | ife (c : CT) (a b : CE)
  | tup (es : List CE)
  | lst (es : List CE)
  | idx (a i : CE)
  | slc (a : CE) (lo hi : Option CE)
  | call (f : Nat) (es : List CE)
  | callk (f : Nat) (es ks : List CE) (perm : List Nat)
  | bi (b : BI) (es : List CE)
  | isi (a : CE) (t : Ty)
  | rngL (tup : Bool) (lo hi : CE)
  | rngO (lo hi : CE)
  | cmp (tg : Tgt) (it : CI) (cd : CT) (elt : CE)
  | join (s e : CE)
  | fstr (es : List CE)
  | exf (i j : Nat)
  | exi (i c : Nat)
  | exv (i : Nat)
  | tget (j : Nat) (e : CE)
  | tin (j : Nat) (neg : Bool) (e : CE)
  | cmp2 (tg : Tgt) (it : CI) (tg1 : Tgt) (it1 : CI) (elt : CE)
  | cnt (a x : CE)
  | ixo (a x : CE)
  | revS (a : CE)
  | sortT (a : CE)
  | comb (a b : CE)
  | capp (i : Nat) (es : List CE)
  | callL (j : Nat) (es : List CE) (l : Nat) (js : List Nat) (es2 : List CE)
inductive CT where
  | yes
  | of (e : CE)
  | not (a : CT)
  | and (a b : CT)
  | or (a b : CT)
inductive CI where
  | of (e : CE)
  | rng (lo hi : CE)
  | enum (e : CE)
  | zip (a b : CE)
  | rev (e : CE)
  | rngD (lo hi : CE)
end
def itemsD : D → R (List D)
  | .tup xs => .ok xs
  | .lst xs => .ok xs
  | .str xs => .ok (xs.map fun c => .str [c])
  | .frl xs => .ok xs
  | .rng lo hi => if rngOk lo hi && decide ((hi - lo).toNat ≤ 16777216) then .ok (rngL lo hi) else .stuck
  | _ => .stuck
def seqD : D → R (List D)
  | .tup xs => .ok xs
  | .lst xs => .ok xs
  | _ => .stuck
def zipD : D → D → R (List D)
  | .tup xs, .tup ys => .ok ((xs.zip ys).map fun p => .tpw [p.1, p.2])
  | .lst xs, .lst ys => .ok ((xs.zip ys).map fun p => .tpw [p.1, p.2])
  | _, _ => .stuck
def tgetD : D → D → R D
  | .dct kvs, .str z => lookD (.str z) kvs
  | _, _ => .stuck
def tinD (neg : Bool) : D → D → R D
  | .dct kvs, .str z => .ok (.bl (neg != kvs.any fun q => D.eqv q.1 (.str z)))
  | _, _ => .stuck
structure Tb where
  hot : Bool
  call : Bool → Nat → List D → R D
  sub : Nat → Nat → Bool
  glb : Nat → D
def itHot : CI → Bool
  | .rng (.cst (.int z)) _ => z == 0
  | _ => false
abbrev Tb.heat (T : Tb) : Tb := { T with hot := true }
def slotB (s : Option Slot) : R D := match s with
  | some (.val d) => .ok d
  | some (.own xs) => .ok (.lst xs)
  | _ => .stuck
def slotE (s : Option Slot) : R D := match s with
  | some (.val d) => .ok d
  | _ => .stuck
def slotsE (ρ : Rho) : List Nat → R (List D)
  | [] => .ok []
  | i :: is => do let d ← slotE ρ[i]?; let ds ← slotsE ρ is; pure (d :: ds)
def Slot.of : D → Slot
  | .clo l cs => .clo l cs
  | d => .val d
def isOwn (s : Option Slot) : Bool := match s with
  | some (.own _) => true
  | _ => false
def setAll : List Nat → List D → Rho → R Rho
  | [], [], ρ => .ok ρ
  | i :: is, d :: ds, ρ => setAll is ds (ρ.set i (.val d))
  | _, _, _ => .stuck
def bindT : Tgt → D → Rho → R Rho
  | .nm i, d, ρ => .ok (ρ.set i (.val d))
  | .tp is, .tup ds, ρ => setAll is ds ρ
  | .tp is, .tpw ds, ρ => setAll is ds ρ
  | .tp _, _, _ => .stuck
def tgOwn (ρ : Rho) : Tgt → Bool
  | .nm i => isOwn ρ[i]?
  | .tp is => is.any fun i => isOwn ρ[i]?
def compL (f : D → R (Option D)) : List D → R (List D)
  | [] => .ok []
  | d :: ds => match f d with
    | .ok o => (match compL f ds with
      | .ok r => .ok (match o with
        | some y => y :: r
        | none => r)
      | _ => .stuck)
    | _ => .stuck
def compM (f : D → R (List D)) : List D → R (List D)
  | [] => .ok []
  | d :: ds => match f d with
    | .ok o => (match compM f ds with
      | .ok r => .ok (o ++ r)
      | _ => .stuck)
    | _ => .stuck
def D.isSq : D → Bool
  | .tup _ => true
  | .lst _ => true
  | _ => false
def cntD : D → D → R D
  | .tup xs, .int k => (match intsD xs with
    | some ns => .ok (.int (ns.count k : Nat))
    | none => .stuck)
  | .lst xs, .int k => (match intsD xs with
    | some ns => .ok (.int (ns.count k : Nat))
    | none => .stuck)
  | _, _ => .stuck
def revD : D → R D
  | .tup xs => .ok (.tup xs.reverse)
  | .lst xs => .ok (.lst xs.reverse)
  | _ => .stuck
def leL : List Int → List Int → Bool
  | [], _ => true
  | _ :: _, [] => false
  | x :: xs, y :: ys => if x = y then leL xs ys else decide (x < y)
def insT (x : List Int) : List (List Int) → List (List Int)
  | [] => [x]
  | y :: r => if leL x y then x :: y :: r else y :: insT x r
def sortL : List (List Int) → List (List Int)
  | [] => []
  | x :: r => insT x (sortL r)
def rowsD : List D → Option (List (List Int))
  | [] => some []
  | .tup xs :: r => (match intsD xs, rowsD r with
    | some ns, some l => some (ns :: l)
    | _, _ => none)
  | _ => none
def D.isLs : D → Bool
  | .lst _ => true
  | _ => false
def ixoD : D → D → R D
  | .lst xs, .tup ys => (match rowsD xs, intsD ys with
    | some l, some n => if n ∈ l then .ok (.int (l.idxOf n : Nat)) else .stuck
    | _, _ => .stuck)
  | _, _ => .stuck
def sortTD : D → R D
  | .lst xs => (match rowsD xs with
    | some ([] :: l) => .ok (.lst ((sortL ([] :: l)).map fun ns => .tup (ns.map .int)))
    | _ => .stuck)
  | _ => .stuck
def pick (ds : List D) : List Nat → R (List D)
  | [] => .ok []
  | i :: r => match ds[i]? with
    | some d => do let q ← pick ds r; pure (d :: q)
    | none => .stuck
def ownArg (ρ : Rho) : CE → Bool
  | .var i => isOwn ρ[i]?
  | _ => false
def guardL (b : Bool) (r : R D) : R D := match r with
  | .ok d => if b && !d.noL then .stuck else .ok d
  | .err c fs => if b && !D.noLL fs then .stuck else .err c fs
  | .stuck => .stuck
def joinS (s : List Nat) : List (List Nat) → List Nat
  | [] => []
  | [x] => x
  | x :: y :: r => x ++ (s ++ joinS s (y :: r))
def joinD : D → D → R D
  | .str s, .lst xs => (match strsD xs with
    | some ys => if (ys.map (·.length)).sum + ys.length * s.length ≤ 16777216 then .ok (.str (joinS s ys)) else .stuck
    | none => .stuck)
  | .str s, .tup xs => (match strsD xs with
    | some ys => if (ys.map (·.length)).sum + ys.length * s.length ≤ 16777216 then .ok (.str (joinS s ys)) else .stuck
    | none => .stuck)
  | _, _ => .stuck
def fstrD : D → R (List Nat)
  | .str x => .ok x
  | .int i => if i.natAbs.log2 < 1920 then .ok (txtI i) else .stuck
  | _ => .stuck
def bor (e : CE) (ρ : Rho) (r : R D) : R D := match e with
  | .var i => slotB ρ[i]?
  | _ => r
def ownIt (ρ : Rho) : CI → Bool
  | .of e => ownArg ρ e
  | .rng _ _ => false
  | .enum e => ownArg ρ e
  | .zip a b => ownArg ρ a || ownArg ρ b
  | .rev e => ownArg ρ e
  | .rngD _ _ => false
def Tgt.slots0 : Tgt → List Nat
  | .nm i => [i]
  | .tp is => is
def wipe0 (ρ : Rho) : List Nat → Rho
  | [] => ρ
  | v :: vs => (wipe0 ρ vs).set v .none
mutual
def evE (T : Tb) : CE → Rho → R D
  | .stk, _ => .stuck
  | .var i, ρ => slotE ρ[i]?
  | .cst d, _ => .ok d
  | .glb j, _ => .ok (T.glb j)
  | .bin o a b, ρ => do let x ← bor a ρ (evE T a ρ); let y ← bor b ρ (evE T b ρ); binD o x y
  | .un o a, ρ => do let x ← bor a ρ (evE T a ρ); unD o x
  | .and a b, ρ => do
    let x ← evE T a ρ
    let t ← x.truth
    if t then evE T b ρ else pure x
  | .or a b, ρ => do
    let x ← evE T a ρ
    let t ← x.truth
    if t then pure x else evE T b ρ
  | .chain o p a b c, ρ => do
    let x ← bor a ρ (evE T a ρ)
    let y ← bor b ρ (evE T b ρ)
    let z ← binD o x y
    match z with
    | .bl true => do let u ← bor c ρ (evE T c ρ); binD p y u
    | .bl false => pure (.bl false)
    | _ => .stuck
  | .ife c a b, ρ => do let x ← evT T c ρ; if x then evE T a ρ else evE T b ρ
  | .tup es, ρ => do let ds ← evEs T es ρ; pure (.tup ds)
  | .lst es, ρ => do let ds ← evEs T es ρ; pure (.lst ds)
  | .idx a i, ρ => do let x ← bor a ρ (evE T a ρ); let y ← evE T i ρ; idxD x y
  | .slc a lo hi, ρ => do
    let x ← bor a ρ (evE T a ρ)
    let l ← evO T lo ρ
    let h ← evO T hi ρ
    slcD x l h
  | .call f es, ρ => do let ds ← evBs T es ρ; guardL (es.any (ownArg ρ)) (T.call T.hot f ds)
  | .callk f es ks perm, ρ => if T.hot then .stuck else do let ds ← evBs T es ρ; let qs ← evBs T ks ρ; let ps ← pick (ds ++ qs) perm; guardL ((es ++ ks).any (ownArg ρ)) (T.call T.hot f ps)
  | .bi b es, ρ => if T.hot && !b.hot then .stuck else do let ds ← evBs T es ρ; biD b ds
  | .isi a t, ρ => do let x ← bor a ρ (evE T a ρ); isiD x t
  | .rngL tu lo hi, ρ => if T.hot then .stuck else do
    let x ← evE T lo ρ
    let y ← evE T hi ρ
    match x, y with
    | .int i, .int j => if rngOk i j && decide ((j - i).toNat ≤ 16777216) then pure (if tu then .tup (Ev.rngL i j) else .lst (Ev.rngL i j)) else .stuck
    | _, _ => .stuck
  | .rngO lo hi, ρ => do
    let x ← evE T lo ρ
    let y ← evE T hi ρ
    match x, y with
    | .int i, .int j => pure (.rng i j)
    | _, _ => .stuck
  | .cmp tg it cd elt, ρ => if T.hot && !itHot it then .stuck else if tgOwn ρ tg then .stuck else do
    let xs ← evI T it ρ
    let ys ← compL (fun d => do
      let ρ1 ← bindT tg d ρ
      let c ← evT T cd ρ1
      if c then do let y ← evE T elt ρ1; pure (some y) else pure none) xs
    pure (.lst ys)
  | .join s e, ρ => do
    let x ← evE T s ρ
    match x with
    | .str z => do let y ← bor e ρ (evE T e ρ); joinD (.str z) y
    | _ => .stuck
  | .fstr es, ρ => do let x ← evF T es ρ []; pure (.str x)
  | .exf i j, ρ => (match ρ[i]? with
    | some (.exc _ fs) => (match fs[j]? with
      | some d => .ok d
      | none => .stuck)
    | _ => .stuck)
  | .exi i c, ρ => (match ρ[i]? with
    | some (.exc k _) => .ok (.bl (T.sub k c))
    | _ => .stuck)
  | .exv i, ρ => (match ρ[i]? with
    | some (.exc _ _) => .ok (.bl true)
    | _ => .stuck)
  | .tget j e, ρ => do let x ← evE T e ρ; tgetD (T.glb j) x
  | .tin j neg e, ρ => do let x ← evE T e ρ; tinD neg (T.glb j) x
  | .cmp2 tg it tg1 it1 elt, ρ => if T.hot then .stuck else if tgOwn ρ tg || tgOwn ρ tg1 then .stuck else do
    let xs ← evI T it ρ
    let ys ← compM (fun d => do
      let ρ1 ← bindT tg d (wipe0 ρ tg1.slots0)
      if ownIt ρ1 it1 then .stuck else do
        let zs ← evI T it1 ρ1
        compL (fun e => do
          let ρ2 ← bindT tg1 e ρ1
          let y ← evE T elt ρ2
          pure (some y)) zs) xs
    if ys.length ≤ 16777216 then pure (.lst ys) else .stuck
  | .cnt a x, ρ => do let v ← bor a ρ (evE T a ρ); if v.isSq then do { let w ← evE T x ρ; cntD v w } else .stuck
  | .ixo a x, ρ => do let v ← bor a ρ (evE T a ρ); if v.isLs then do { let w ← evE T x ρ; ixoD v w } else .stuck
  | .revS a, ρ => do let v ← bor a ρ (evE T a ρ); revD v
  | .sortT a, ρ => do let v ← bor a ρ (evE T a ρ); sortTD v
  | .comb a b, ρ => do let x ← evE T a ρ; let y ← evE T b ρ; combD x y
  | .capp i es, ρ => if T.hot then .stuck else (match ρ[i]? with
    | some (.clo l cs) => do let ds ← evEs T es ρ; T.call false l (ds ++ cs)
    | _ => .stuck)
  | .callL j es l js es2, ρ => if T.hot then .stuck else do
    let ds ← evEs T es ρ
    let ds2 ← evEs T es2 ρ
    let cs ← slotsE ρ js
    if D.noLL cs then T.call false j (ds ++ .clo l cs :: ds2) else .stuck
termination_by structural e => e
def evT (T : Tb) : CT → Rho → R Bool
  | .yes, _ => .ok true
  | .and a b, ρ => do let x ← evT T a ρ; if x then evT T b ρ else pure false
  | .or a b, ρ => do let x ← evT T a ρ; if x then pure true else evT T b ρ
  | .not a, ρ => do let x ← evT T a ρ; pure (!x)
  | .of e, ρ => do let x ← bor e ρ (evE T e ρ); x.truth
termination_by structural e => e
def evO (T : Tb) : Option CE → Rho → R (Option Int)
  | none, _ => .ok none
  | some e, ρ => do
    let x ← evE T e ρ
    match x with
    | .int i => pure (some i)
    | _ => .stuck
termination_by structural e => e
def evEs (T : Tb) : List CE → Rho → R (List D)
  | [], _ => .ok []
  | e :: es, ρ => do let x ← evE T e ρ; let xs ← evEs T es ρ; pure (x :: xs)
termination_by structural e => e
def evBs (T : Tb) : List CE → Rho → R (List D)
  | [], _ => .ok []
  | e :: es, ρ => do let x ← bor e ρ (evE T e ρ); let xs ← evBs T es ρ; pure (x :: xs)
termination_by structural e => e
def evF (T : Tb) : List CE → Rho → List Nat → R (List Nat)
  | [], _, acc => .ok acc
  | e :: es, ρ, acc => do
    let x ← evE T e ρ
    let y ← fstrD x
    if acc.length + y.length ≤ 16777216 then evF T es ρ (acc ++ y) else .stuck
termination_by structural e => e
def evI (T : Tb) : CI → Rho → R (List D)
  | .rng lo hi, ρ => do
    let x ← evE T lo ρ
    let y ← evE T hi ρ
    match x, y with
    | .int i, .int j => if rngOk i j && decide ((j - i).toNat ≤ 16777216) then pure (Ev.rngL i j) else .stuck
    | _, _ => .stuck
  | .rngD lo hi, ρ => do
    let x ← evE T lo ρ
    let y ← evE T hi ρ
    match x, y with
    | .int i, .int j => if rngOk i j && decide ((i - j).toNat ≤ 16777216) then pure (Ev.dnL i j) else .stuck
    | _, _ => .stuck
  | .enum e, ρ => do let x ← bor e ρ (evE T e ρ); let xs ← seqD x; pure (xs.mapIdx fun i d => .tpw [.int i, d])
  | .zip a b, ρ => do let x ← bor a ρ (evE T a ρ); let y ← bor b ρ (evE T b ρ); zipD x y
  | .rev e, ρ => do let x ← bor e ρ (evE T e ρ); let xs ← seqD x; pure xs.reverse
  | .of e, ρ => do let x ← bor e ρ (evE T e ρ); itemsD x
termination_by structural e => e
end
abbrev evB (T : Tb) (e : CE) (ρ : Rho) : R D := bor e ρ (evE T e ρ)

inductive Pto where
  | set (i : Nat) | app (j : Nat) | ret | drop
mutual
inductive CS where
  | stk
  | pass
  | set (i : Nat) (e : CE)
  | setC (i : Nat) (e : CE)
  | setOwn (i : Nat) (e : CE)
  | unp (is : List Nat) (e : CE)
  | par (is : List Nat) (es : List CE)
  | aug (i : Nat) (o : Op2) (e : CE)
  | app (i : Nat) (e : CE)
  | seti (i : Nat) (k e : CE)
  | pop (i : Nat) (k : Option CE) (to : Pto)
  | frz (is : List Nat)
  | ex (e : CE)
  | ret (e : CE)
  | retO (i : Nat)
  | retN
  | ife (c : CT) (a b : List CS)
  | for (tg : Tgt) (it : CI) (b : List CS)
  | whl (c : CT) (b : List CS)
  | raise (c : Nat) (es : List CE)
  | try (b : List CS) (hs : List CH)
  | brk
  | cont
inductive CH where
  | mk (c : Nat) (i : Option Nat) (b : List CS)
end
def forL (tg : Tgt) (body : Rho → RS) : List D → Rho → RS
  | [], ρ => .nx ρ
  | d :: ds, ρ => match bindT tg d ρ with
    | .ok ρ1 => (match body ρ1 with
      | .nx ρ2 => forL tg body ds ρ2
      | .ct ρ2 => forL tg body ds ρ2
      | .bk ρ2 => .nx ρ2
      | r => r)
    | _ => .stuck
def whlL (c : Rho → R Bool) (body : Rho → RS) : Nat → Rho → RS
  | 0, _ => .stuck
  | n + 1, ρ => match c ρ with
    | .ok true => (match body ρ with
      | .nx ρ2 => whlL c body n ρ2
      | .ct ρ2 => whlL c body n ρ2
      | .bk ρ2 => .nx ρ2
      | r => r)
    | .ok false => .nx ρ
    | _ => .stuck
def R.on {α : Type} (r : R α) (ρ : Rho) (f : α → RS) : RS := match r with
  | .ok a => f a
  | .err c fs => .err c fs ρ
  | .stuck => .stuck
@[simp] theorem ok_on {α : Type} (a : α) (ρ : Rho) (f : α → RS) : (R.ok a).on ρ f = f a := rfl
@[simp] theorem err_on {α : Type} (c : Nat) (fs : List D) (ρ : Rho) (f : α → RS) : (R.err c fs : R α).on ρ f = .err c fs ρ := rfl
@[simp] theorem stuck_on {α : Type} (ρ : Rho) (f : α → RS) : (R.stuck : R α).on ρ f = .stuck := rfl
def RS.andThen (r : RS) (f : Rho → RS) : RS := match r with
  | .nx ρ => f ρ
  | r => r
@[simp] theorem nx_then (ρ : Rho) (f : Rho → RS) : (RS.nx ρ).andThen f = f ρ := rfl
@[simp] theorem ret_then (d : D) (f : Rho → RS) : (RS.ret d).andThen f = .ret d := rfl
@[simp] theorem bk_then (ρ : Rho) (f : Rho → RS) : (RS.bk ρ).andThen f = .bk ρ := rfl
@[simp] theorem ct_then (ρ : Rho) (f : Rho → RS) : (RS.ct ρ).andThen f = .ct ρ := rfl
@[simp] theorem err_then (c : Nat) (fs : List D) (ρ : Rho) (f : Rho → RS) : (RS.err c fs ρ).andThen f = .err c fs ρ := rfl
@[simp] theorem stuck_then (f : Rho → RS) : RS.stuck.andThen f = .stuck := rfl
def Slot.noX : Slot → Slot
  | .exc _ _ => .none
  | s => s
def RS.wipe (i : Nat) : RS → RS
  | .nx ρ => .nx ((ρ.set i .none).map Slot.noX)
  | .bk ρ => .bk ((ρ.set i .none).map Slot.noX)
  | .ct ρ => .ct ((ρ.set i .none).map Slot.noX)
  | .err _ _ _ => .stuck
  | r => r
def RS.noErr : RS → RS
  | .err _ _ _ => .stuck
  | r => r
def frz1 (ρ : Rho) (i : Nat) : Rho := match ρ[i]? with
  | some (.own xs) => ρ.set i (.val (.lst xs))
  | _ => ρ
def isList : D → Option (List D)
  | .lst xs => some xs
  | _ => none
def popOk (ρ : Rho) (i : Nat) : Pto → Bool
  | .app t => isOwn ρ[t]? && decide (t ≠ i)
  | _ => true
def WHL : Nat := 100000
mutual
def evS (T : Tb) : CS → Rho → RS
  | .stk, _ => .stuck
  | .pass, ρ => .nx ρ
  | .set i e, ρ => (evE T e ρ).on ρ fun d => .nx (ρ.set i (.val d))
  | .setC i e, ρ => if T.hot then .stuck else (evE T e ρ).on ρ fun d => .nx (ρ.set i (.val d))
  | .setOwn i e, ρ => (evE T e ρ).on ρ fun d => match d with
    | .lst xs => .nx (ρ.set i (.own xs))
    | _ => .stuck
  | .unp is e, ρ => if T.hot then .stuck else (evE T e ρ).on ρ fun d => (bindT (.tp is) d ρ).on ρ fun ρ1 => .nx ρ1
  | .par is es, ρ => if T.hot && is.length == 2 then .stuck else (evEs T es ρ).on ρ fun ds => (setAll is ds ρ).on ρ fun ρ1 => .nx ρ1
  | .aug i o e, ρ => match ρ[i]? with
    | some (.val (.int a)) => (evE T e ρ).on ρ fun d => match d, o with
      | .int b, .add => .nx (ρ.set i (.val (.int (a + b))))
      | .int b, .sub => .nx (ρ.set i (.val (.int (a - b))))
      | _, _ => .stuck
    | _ => .stuck
  | .app i e, ρ => match ρ[i]? with
    | some (.own xs) => (evE T e ρ).on ρ fun d => if xs.length < 16777216 then .nx (ρ.set i (.own (xs ++ [d]))) else .stuck
    | _ => .stuck
  | .seti i k e, ρ => (evE T e ρ).on ρ fun d => match ρ[i]? with
    | some (.own xs) => (evE T k ρ).on ρ fun q => match q with
      | .int z => (match ixD xs.length z with
        | some j => .nx (ρ.set i (.own (xs.set j d)))
        | none => .stuck)
      | _ => .stuck
    | _ => .stuck
  | .pop i k to, ρ => if popOk ρ i to = false then .stuck else match ρ[i]? with
    | some (.own xs) => (evO T k ρ).on ρ fun z => match ixD xs.length (z.getD (-1)) with
      | some j => (match xs[j]? with
        | some d => match to with
          | .set t => .nx ((ρ.set i (.own (xs.eraseIdx j))).set t (.val d))
          | .app t => (match ρ[t]? with
            | some (.own ys) => if t ≠ i ∧ ys.length < 16777216 then .nx ((ρ.set i (.own (xs.eraseIdx j))).set t (.own (ys ++ [d]))) else .stuck
            | _ => .stuck)
          | .ret => .ret d
          | .drop => .nx (ρ.set i (.own (xs.eraseIdx j)))
        | none => .stuck)
      | none => .stuck
    | _ => .stuck
  | .frz is, ρ => .nx (is.foldl frz1 ρ)
  | .ex e, ρ => (evE T e ρ).on ρ fun _ => .nx ρ
  | .ret e, ρ => (evE T e ρ).on ρ fun d => .ret d
  | .retO i, ρ => (slotB ρ[i]?).on ρ fun d => .ret d
  | .retN, _ => .ret .non
  | .ife c a b, ρ => (evT T c ρ).on ρ fun x => if x then evSs T a ρ else evSs T b ρ
  | .for tg it b, ρ => if T.hot then .stuck else if ownIt ρ it then .stuck else (evI T it ρ).on ρ fun xs => forL tg (evSs T b) xs ρ
  | .whl c b, ρ => whlL (evT T c) (evSs T b) WHL ρ
  | .raise c es, ρ => if T.hot then .stuck else (evEs T es ρ).on ρ fun ds => .err c ds ρ
  | .try b hs, ρ => if T.hot then .stuck else match evSs T b ρ with
    | .err c fs ρ1 => evH T hs c fs ρ1
    | r => r
  | .brk, ρ => .bk ρ
  | .cont, ρ => .ct ρ
termination_by structural e => e
def evSs (T : Tb) : List CS → Rho → RS
  | [], ρ => .nx ρ
  | s :: r, ρ => (evS T s ρ).andThen (evSs T r)
termination_by structural e => e
def evH (T : Tb) : List CH → Nat → List D → Rho → RS
  | [], c, fs, ρ => .err c fs ρ
  | h :: r, c, fs, ρ => evH1 T h c fs ρ (evH T r c fs ρ)
termination_by structural e => e
def evH1 (T : Tb) : CH → Nat → List D → Rho → RS → RS
  | .mk k i b, c, fs, ρ, r => if T.sub c k then (match i with
      | some i => (evSs T.heat b (ρ.set i (.exc c fs))).wipe i
      | none => (evSs T.heat b ρ).noErr) else r
termination_by structural e => e
end
structure Fd where
  np : Nat
  ns : Nat
  body : List CS
structure Pg where
  fn : Nat → Option Fd
  sub : Nat → Nat → Bool
  glb : Nat → D
  ho : Nat → Bool
def RS.fin : RS → R D
  | .ret d => .ok d
  | .nx _ => .ok .non
  | .err c fs _ => .err c fs
  | _ => .stuck
def Pg.run (P : Pg) : Nat → Bool → Nat → List D → R D
  | 0, _, _, _ => .stuck
  | n + 1, hot, f, ds => match P.fn f with
    | some d => if ds.length = d.np then (evSs ⟨hot, P.run n, P.sub, P.glb⟩ d.body (ds.map (if P.ho f then Slot.of else .val) ++ List.replicate (d.ns - d.np) .none)).fin else .stuck
    | none => .stuck
abbrev Pg.tb (P : Pg) (n : Nat) (hot : Bool) : Tb := ⟨hot, P.run n, P.sub, P.glb⟩
end Ev
end
section
set_option Elab.async false
set_option linter.all false
set_option maxRecDepth 100000
namespace Ev
open PySem PySem.Spec PyProof.Rows L2

def sv (x : List Nat) : Str := ⟨x.toArray⟩
theorem sv_len (x : List Nat) : (sv x).length = x.length := by simp [sv, Str.length]
theorem sv_tl (x : List Nat) : (sv x).cps.toList = x := by simp [sv]
theorem sv_of (z : Str) : sv z.cps.toList = z := by cases z; simp [sv]
theorem sv_inj {x y : List Nat} (h : sv x = sv y) : x = y := by rw [← sv_tl x, h, sv_tl]
theorem sv_app (x y : List Nat) : sv (x ++ y) = sv x ++ sv y := by
  show (⟨(x ++ y).toArray⟩ : Str) = ⟨x.toArray ++ y.toArray⟩
  simp
def txtOk (x : List Nat) : Prop := x.length ≤ 16777216 ∧ ∀ c ∈ x, c < 1114112
def FrL0 (K : PySem.W.Frag) (H : Hp) (a : Addr) (vs : List V) : Prop := (∃ o, H a = some (.frz o (.lst vs))) ∨
  ∃ (o : Obj) (its : Array Value) (n : Nat), K.lookup a = some o ∧ o.cls = .type "list" ∧ o.dict = none ∧ o.data = .seq its n ∧ its.size ≤ sizeLine ∧ Vals vs its.toList
theorem FrL0.sq {K : PySem.W.Frag} {H : Hp} {a : Addr} {vs : List V} (h : FrL0 K H a vs) : SqL K H a vs := h.imp (fun ⟨o, e⟩ => .inr ⟨o, e⟩) id
def FrL (K : PySem.W.Frag) (O : Addr → Prop) (H : Hp) (a : Addr) (vs : List V) : Prop := (¬ O a ∧ H a = some (.lst vs)) ∨ FrL0 K H a vs
theorem FrL.sq {K : PySem.W.Frag} {O : Addr → Prop} {H : Hp} {a : Addr} {vs : List V} (h : FrL K O H a vs) : SqL K H a vs := h.elim (fun z => SqL.of z.2) (·.sq)
theorem FrL.of_sq {K : PySem.W.Frag} {H : Hp} {a : Addr} {vs : List V} (h : SqL K H a vs) : FrL K (fun _ => False) H a vs := by
  rcases h with (h | h) | h
  · exact .inl ⟨id, h⟩
  · exact .inr (.inl h)
  · exact .inr (.inr h)
def TupN (K : PySem.W.Frag) (H : Hp) (a : Addr) (vs : List V) : Prop := (∃ o, H a = some (.frz o (.tup vs)) ∧ o.dict = none) ∨
  ∃ (o : Obj) (its : Array Value) (n : Nat), K.lookup a = some o ∧ o.cls = .type "tuple" ∧ o.dict = none ∧ o.data = .seq its n ∧ its.size ≤ sizeLine ∧ Vals vs its.toList
theorem TupN.sq {K : PySem.W.Frag} {H : Hp} {a : Addr} {vs : List V} (h : TupN K H a vs) : SqT K H a vs := h.imp (fun ⟨o, e, _⟩ => .inr ⟨o, e⟩) fun ⟨o, its, n, k, c, _, r⟩ => ⟨o, its, n, k, c, r⟩
mutual
inductive Rep (K : PySem.W.Frag) (O : Addr → Prop) (H : Hp) : V → D → Prop
  | non : Rep K O H .non .non
  | bl (b : Bool) : Rep K O H (.bl b) (.bl b)
  | int (i : Int) : Rep K O H (.int i) (.int i)
  | str {x : List Nat} (h : txtOk x) : Rep K O H (.str (sv x)) (.str x)
  | tup {a : Addr} {vs : List V} {ds : List D} : ds.length ≤ 16777216 → TupN K H a vs → Reps K O H vs ds → Rep K O H (.ref a) (.tup ds)
  | tpw {a : Addr} {vs : List V} {ds : List D} : ds.length ≤ 16777216 → SqT K H a vs → Reps K O H vs ds → Rep K O H (.ref a) (.tpw ds)
  | lst {a : Addr} {vs : List V} {ds : List D} : ds.length ≤ 16777216 → ¬ O a → H a = some (.lst vs) → Reps K O H vs ds → Rep K O H (.ref a) (.lst ds)
  | frl {a : Addr} {vs : List V} {ds : List D} : ds.length ≤ 16777216 → FrL K O H a vs → Reps K O H vs ds → Rep K O H (.ref a) (.frl ds)
  | rng {a : Addr} {lo hi : Int} : H a = some (.rng lo hi) → Rep K O H (.ref a) (.rng lo hi)
inductive Reps (K : PySem.W.Frag) (O : Addr → Prop) (H : Hp) : List V → List D → Prop
  | nil : Reps K O H [] []
  | cons {v : V} {d : D} {vs : List V} {ds : List D} : Rep K O H v d → Reps K O H vs ds → Reps K O H (v :: vs) (d :: ds)
end
class Nm where
  nm : Nat → Nat → Str
variable [Nm]
abbrev TabO (H : Hp) (b : Addr) : Prop := NdefX.TabN H b Nm.nm
structure Sm (H H' : Hp) : Prop where
  st : ∀ b o, H b = some o → (∀ ps, o ≠ .tbl ps) → H' b = some o
  tb : ∀ b ps, H b = some (.tbl ps) → ∃ ps', H' b = some (.tbl ps')
  tq : ∀ b, TabO H b → TabO H' b
instance {H H' : Hp} : CoeFun (Sm H H') (fun _ => ∀ b o, H b = some o → (∀ ps, o ≠ .tbl ps) → H' b = some o) := ⟨Sm.st⟩
theorem Sm.all {H H' : Hp} (h : ∀ b o, H b = some o → H' b = some o) : Sm H H' := ⟨fun b o e _ => h b o e, fun b ps e => ⟨ps, h b _ e⟩, fun b t => t.ext h⟩
theorem Sm.refl (H : Hp) : Sm H H := .all fun _ _ h => h
theorem Sm.trans {H H1 H2 : Hp} (a : Sm H H1) (b : Sm H1 H2) : Sm H H2 := ⟨fun c o h n => b c o (a c o h n) n, fun c ps h => let ⟨ps1, h1⟩ := a.tb c ps h; b.tb c ps1 h1, fun c t => b.tq c (a.tq c t)⟩
theorem Sm.some {H H' : Hp} (s : Sm H H') {b : Addr} {o : HO} (h : H b = some o) : ∃ o', H' b = some o' := by
  by_cases t : ∃ ps, o = .tbl ps
  · obtain ⟨ps, rfl⟩ := t
    obtain ⟨ps', e⟩ := s.tb b ps h
    exact ⟨_, e⟩
  · exact ⟨o, s b o h fun ps e => t ⟨ps, e⟩⟩
inductive RepB (K : PySem.W.Frag) (O : Addr → Prop) (H : Hp) : V → D → Prop
  | of {v : V} {d : D} : Rep K O H v d → RepB K O H v d
  | own {a : Addr} {vs : List V} {ds : List D} : ds.length ≤ 16777216 → H a = some (.lst vs) → Reps K O H vs ds → RepB K O H (.ref a) (.lst ds)
section
variable {K : PySem.W.Frag} {O O' : Addr → Prop} {H H' : Hp}
def Gro (O : Addr → Prop) (H H' : Hp) : Prop := ∀ b o, H b = some o → (∀ ps, o ≠ .tbl ps) → H' b = some o ∨ (O b ∧ ∃ xs, o = .lst xs)
theorem Gro.of (h : Sm H H') : Gro O H H' := fun b o e n => .inl (h b o e n)
theorem sqT_gro {a : Addr} {xs : List V} (g : Gro O H H') (h : SqT K H a xs) : SqT K H' a xs := by
  rcases h with (h | ⟨o, h⟩) | h
  · rcases g a _ h (fun _ z => nomatch z) with e | ⟨_, ys, e⟩
    · exact .inl (.inl e)
    · cases e
  · rcases g a _ h (fun _ z => nomatch z) with e | ⟨_, ys, e⟩
    · exact .inl (.inr ⟨o, e⟩)
    · cases e
  · exact .inr h
theorem tupN_gro {a : Addr} {xs : List V} (g : Gro O H H') (h : TupN K H a xs) : TupN K H' a xs := by
  rcases h with ⟨o, h, d⟩ | h
  · rcases g a _ h (fun _ z => nomatch z) with e | ⟨_, ys, e⟩
    · exact .inl ⟨o, e, d⟩
    · cases e
  · exact .inr h
theorem lst_gro {a : Addr} {xs : List V} (g : Gro O H H') (n : ¬ O a) (h : H a = some (.lst xs)) : H' a = some (.lst xs) := by
  rcases g a _ h (fun _ z => nomatch z) with e | ⟨q, _⟩
  · exact e
  · exact (n q).elim
theorem frz_gro {a : Addr} {o : Obj} {xs : List V} (g : Gro O H H') (h : H a = some (.frz o (.lst xs))) : H' a = some (.frz o (.lst xs)) := by
  rcases g a _ h (fun _ z => nomatch z) with e | ⟨_, ys, e⟩
  · exact e
  · cases e
mutual
theorem Rep.gro (g : Gro O H H') : ∀ {v : V} {d : D}, Rep K O H v d → Rep K O H' v d
  | _, _, .non => .non
  | _, _, .bl b => .bl b
  | _, _, .int i => .int i
  | _, _, .str h => .str h
  | _, _, .tup l s r => .tup l (tupN_gro g s) (Reps.gro g r)
  | _, _, .tpw l s r => .tpw l (sqT_gro g s) (Reps.gro g r)
  | _, _, .lst l n s r => .lst l n (lst_gro g n s) (Reps.gro g r)
  | _, _, .frl l s r => .frl l (s.imp (fun z => ⟨z.1, lst_gro g z.1 z.2⟩) fun s => s.imp (fun ⟨o, e⟩ => ⟨o, frz_gro g e⟩) id) (Reps.gro g r)
  | _, _, .rng s => .rng ((g _ _ s fun _ z => nomatch z).elim id fun ⟨_, _, e⟩ => by cases e)
theorem Reps.gro (g : Gro O H H') : ∀ {vs : List V} {ds : List D}, Reps K O H vs ds → Reps K O H' vs ds
  | _, _, .nil => .nil
  | _, _, .cons r t => .cons (Rep.gro g r) (Reps.gro g t)
end
mutual
theorem Rep.less (h : ∀ a, O' a → O a) : ∀ {v : V} {d : D}, Rep K O H v d → Rep K O' H v d
  | _, _, .non => .non
  | _, _, .bl b => .bl b
  | _, _, .int i => .int i
  | _, _, .str h => .str h
  | _, _, .tup l s r => .tup l s (Reps.less h r)
  | _, _, .tpw l s r => .tpw l s (Reps.less h r)
  | _, _, .lst l n s r => .lst l (fun q => n (h _ q)) s (Reps.less h r)
  | _, _, .frl l s r => .frl l (s.imp (fun z => ⟨fun q => z.1 (h _ q), z.2⟩) id) (Reps.less h r)
  | _, _, .rng s => .rng s
theorem Reps.less (h : ∀ a, O' a → O a) : ∀ {vs : List V} {ds : List D}, Reps K O H vs ds → Reps K O' H vs ds
  | _, _, .nil => .nil
  | _, _, .cons r t => .cons (Rep.less h r) (Reps.less h t)
end

mutual
theorem Rep.add (h : ∀ a, O' a → O a ∨ H a = none) : ∀ {v : V} {d : D}, Rep K O H v d → Rep K O' H v d
  | _, _, .non => .non
  | _, _, .bl b => .bl b
  | _, _, .int i => .int i
  | _, _, .str h => .str h
  | _, _, .tup l s r => .tup l s (Reps.add h r)
  | _, _, .tpw l s r => .tpw l s (Reps.add h r)
  | _, _, .lst l n s r => .lst l (fun q => (h _ q).elim n fun e => by rw [e] at s; cases s) s (Reps.add h r)
  | _, _, .frl l s r => .frl l (s.imp (fun z => ⟨fun q => (h _ q).elim z.1 fun e => (by have y := z.2; rw [e] at y; cases y), z.2⟩) id) (Reps.add h r)
  | _, _, .rng s => .rng s
theorem Reps.add (h : ∀ a, O' a → O a ∨ H a = none) : ∀ {vs : List V} {ds : List D}, Reps K O H vs ds → Reps K O' H vs ds
  | _, _, .nil => .nil
  | _, _, .cons r t => .cons (Rep.add h r) (Reps.add h t)
end
mutual
theorem Rep.more {a : Addr} (hn : H a = none) : ∀ {v : V} {d : D}, Rep K O H v d → Rep K (fun b => O b ∨ b = a) H v d
  | _, _, .non => .non
  | _, _, .bl b => .bl b
  | _, _, .int i => .int i
  | _, _, .str h => .str h
  | _, _, .tup l s r => .tup l s (Reps.more hn r)
  | _, _, .tpw l s r => .tpw l s (Reps.more hn r)
  | _, _, .lst l n s r => .lst l (fun q => q.elim n fun e => by rw [e, hn] at s; cases s) s (Reps.more hn r)
  | _, _, .frl l s r => .frl l (s.imp (fun z => ⟨fun q => q.elim z.1 fun e => (by have y := z.2; rw [e, hn] at y; cases y), z.2⟩) id) (Reps.more hn r)
  | _, _, .rng s => .rng s
theorem Reps.more {a : Addr} (hn : H a = none) : ∀ {vs : List V} {ds : List D}, Reps K O H vs ds → Reps K (fun b => O b ∨ b = a) H vs ds
  | _, _, .nil => .nil
  | _, _, .cons r t => .cons (Rep.more hn r) (Reps.more hn t)
end
mutual
theorem Rep.any : ∀ {v : V} {d : D}, Rep K O H v d → d.noL = true → Rep K O' H v d
  | _, _, .non, _ => .non
  | _, _, .bl b, _ => .bl b
  | _, _, .int i, _ => .int i
  | _, _, .str h, _ => .str h
  | _, _, .tup l s r, h => .tup l s (Reps.any r (by simpa [D.noL] using h))
  | _, _, .lst l n s r, h => by simp [D.noL] at h
  | _, _, .frl l s r, h => by simp [D.noL] at h
  | _, _, .rng s, h => by simp [D.noL] at h
  | _, _, .tpw l s r, h => by simp [D.noL] at h
theorem Reps.any : ∀ {vs : List V} {ds : List D}, Reps K O H vs ds → D.noLL ds = true → Reps K O' H vs ds
  | _, _, .nil, _ => .nil
  | _, _, .cons r t, h => by
    simp only [D.noLL, Bool.and_eq_true] at h
    exact .cons (Rep.any r h.1) (Reps.any t h.2)
end
theorem Reps.length : ∀ {vs : List V} {ds : List D}, Reps K O H vs ds → vs.length = ds.length
  | _, _, .nil => rfl
  | _, _, .cons _ t => by simp [Reps.length t]
theorem Reps.get : ∀ {vs : List V} {ds : List D} {i : Nat} {v : V}, Reps K O H vs ds → vs[i]? = some v → ∃ d, ds[i]? = some d ∧ Rep K O H v d
  | _, _, _, _, .nil, e => by simp at e
  | _, _, 0, _, .cons r _, e => by simp at e; subst e; exact ⟨_, rfl, r⟩
  | _, _, i + 1, v, .cons _ t, e => by
    obtain ⟨d, h1, h2⟩ := Reps.get (i := i) (v := v) t (by simpa using e)
    exact ⟨d, by simpa using h1, h2⟩
theorem Reps.getD : ∀ {vs : List V} {ds : List D} {i : Nat} {d : D}, Reps K O H vs ds → ds[i]? = some d → ∃ v, vs[i]? = some v ∧ Rep K O H v d
  | _, _, _, _, .nil, e => by simp at e
  | _, _, 0, _, .cons r _, e => by simp at e; subst e; exact ⟨_, rfl, r⟩
  | _, _, i + 1, d, .cons _ t, e => by
    obtain ⟨v, h1, h2⟩ := Reps.getD (i := i) (d := d) t (by simpa using e)
    exact ⟨v, by simpa using h1, h2⟩
theorem Reps.app : ∀ {vs ws : List V} {ds es : List D}, Reps K O H vs ds → Reps K O H ws es → Reps K O H (vs ++ ws) (ds ++ es)
  | _, _, _, _, .nil, s => s
  | _, _, _, _, .cons r t, s => .cons r (Reps.app t s)
theorem Reps.take : ∀ {vs : List V} {ds : List D} (n : Nat), Reps K O H vs ds → Reps K O H (vs.take n) (ds.take n)
  | _, _, 0, _ => by simp; exact .nil
  | _, _, _ + 1, .nil => by simp; exact .nil
  | _, _, n + 1, .cons r t => .cons r (Reps.take n t)
theorem Reps.drop : ∀ {vs : List V} {ds : List D} (n : Nat), Reps K O H vs ds → Reps K O H (vs.drop n) (ds.drop n)
  | _, _, 0, r => r
  | _, _, _ + 1, .nil => by simp; exact .nil
  | _, _, n + 1, .cons _ t => Reps.drop n t
theorem Reps.rev : ∀ {vs : List V} {ds : List D}, Reps K O H vs ds → Reps K O H vs.reverse ds.reverse
  | _, _, .nil => .nil
  | _, _, .cons r t => by simp only [List.reverse_cons]; exact Reps.app (Reps.rev t) (.cons r .nil)
theorem Reps.flat {vs : List V} {ds : List D} (r : Reps K O H vs ds) : ∀ k : Nat, Reps K O H (List.replicate k vs).flatten (List.replicate k ds).flatten
  | 0 => by simp; exact .nil
  | k + 1 => by simp only [List.replicate_succ, List.flatten_cons]; exact Reps.app r (Reps.flat r k)
theorem Reps.set {v : V} {d : D} (r : Rep K O H v d) : ∀ {vs : List V} {ds : List D} (i : Nat), Reps K O H vs ds → Reps K O H (vs.set i v) (ds.set i d)
  | _, _, _, .nil => .nil
  | _, _, 0, .cons _ t => .cons r t
  | _, _, i + 1, .cons q t => .cons q (Reps.set r i t)
theorem Reps.erase : ∀ {vs : List V} {ds : List D} (i : Nat), Reps K O H vs ds → Reps K O H (vs.eraseIdx i) (ds.eraseIdx i)
  | _, _, _, .nil => by simp; exact .nil
  | _, _, 0, .cons _ t => t
  | _, _, i + 1, .cons q t => .cons q (Reps.erase i t)
theorem Reps.ints (ns : List Int) : Reps K O H (ns.map V.int) (ns.map D.int) := by
  induction ns with
  | nil => exact .nil
  | cons n r ih => exact .cons (.int n) ih
theorem Reps.of_ints : ∀ {vs : List V} {ds : List D} {ns : List Int}, Reps K O H vs ds → intsD ds = some ns → vs = ns.map V.int
  | _, _, _, .nil, e => by simp [intsD] at e; subst e; rfl
  | _, _, ns, .cons (d := d) r t, e => by
    cases r with
    | int i =>
      simp only [intsD, Option.map_eq_some_iff] at e
      obtain ⟨r', h1, rfl⟩ := e
      rw [Reps.of_ints t h1]; rfl
    | _ => simp [intsD] at e
theorem Reps.of_bls : ∀ {vs : List V} {ds : List D} {ns : List Bool}, Reps K O H vs ds → blsD ds = some ns → vs = ns.map V.bl
  | _, _, _, .nil, e => by simp [blsD] at e; subst e; rfl
  | _, _, ns, .cons (d := d) r t, e => by
    cases r with
    | bl i =>
      simp only [blsD, Option.map_eq_some_iff] at e
      obtain ⟨r', h1, rfl⟩ := e
      rw [Reps.of_bls t h1]; rfl
    | _ => simp [blsD] at e
theorem Reps.of_strs : ∀ {vs : List V} {ds : List D} {ns : List (List Nat)}, Reps K O H vs ds → strsD ds = some ns → vs = (ns.map sv).map V.str ∧ ∀ x ∈ ns, txtOk x
  | _, _, _, .nil, e => by simp [strsD] at e; subst e; simp
  | _, _, ns, .cons (d := d) r t, e => by
    cases r with
    | str h =>
      simp only [strsD, Option.map_eq_some_iff] at e
      obtain ⟨r', h1, rfl⟩ := e
      obtain ⟨e1, e2⟩ := Reps.of_strs t h1
      refine ⟨by rw [e1]; rfl, fun x hx => ?_⟩
      rcases List.mem_cons.mp hx with rfl | hx
      · exact h
      · exact e2 x hx
    | _ => simp [strsD] at e
mutual
def D.py : D → PyData
  | .non => .none
  | .bl b => .bool b
  | .int i => .int i
  | .str x => .str (sv x)
  | .tup xs => .tuple (D.pyL xs)
  | .lst xs => .list (D.pyL xs)
  | .dct _ => .dict []
  | .obj _ _ => .dict []
  | .frl _ => .dict []
  | .rng _ _ => .dict []
  | .tpw _ => .dict []
  | .clo _ _ => .dict []
def D.pyL : List D → List PyData
  | [] => []
  | x :: xs => D.py x :: D.pyL xs
end
theorem strOk_of {x : List Nat} (h : txtOk x) : PyData.strOk (sv x) = true := by
  unfold PyData.strOk
  rw [Array.all_eq_true]
  intro i hi
  have : (sv x).cps[i] ∈ (sv x).cps.toList := by simp
  rw [sv_tl] at this
  exact decide_eq_true (h.2 _ this)
mutual
theorem eqv_py : ∀ x y : D, x.plain = true → y.plain = true → PyData.eqv x.py y.py = D.eqv x y
  | .non, y, _, h => by cases y <;> simp_all [D.py, PyData.eqv, D.eqv, D.plain]
  | .bl b, y, _, h => by cases y <;> simp_all [D.py, PyData.eqv, D.eqv, D.plain]
  | .int b, y, _, h => by cases y <;> simp_all [D.py, PyData.eqv, D.eqv, D.plain]
  | .str x, y, _, h => by
    cases y with
    | str y =>
      simp only [D.py, PyData.eqv, D.eqv]
      rw [Bool.eq_iff_iff, beq_iff_eq, beq_iff_eq]
      exact ⟨sv_inj, fun e => by rw [e]⟩
    | _ => simp_all [D.py, PyData.eqv, D.eqv, D.plain]
  | .tup xs, y, hx, h => by
    cases y with
    | tup ys =>
      simp only [D.py, PyData.eqv, D.eqv]
      exact eqvL_py xs ys (by simpa [D.plain] using hx) (by simpa [D.plain] using h)
    | _ => simp_all [D.py, PyData.eqv, D.eqv, D.plain]
  | .lst xs, y, hx, h => by
    cases y with
    | lst ys =>
      simp only [D.py, PyData.eqv, D.eqv]
      exact eqvL_py xs ys (by simpa [D.plain] using hx) (by simpa [D.plain] using h)
    | _ => simp_all [D.py, PyData.eqv, D.eqv, D.plain]
  | .dct _, y, hx, _ => by simp [D.plain] at hx
  | .obj _ _, y, hx, _ => by simp [D.plain] at hx
  | .frl _, y, hx, _ => by simp [D.plain] at hx
theorem eqvL_py : ∀ xs ys : List D, D.plainL xs = true → D.plainL ys = true → PyData.eqvAll (D.pyL xs) (D.pyL ys) = D.eqvL xs ys
  | [], [], _, _ => rfl
  | [], y :: ys, _, _ => rfl
  | x :: xs, [], _, _ => rfl
  | x :: xs, y :: ys, hx, hy => by
    simp only [D.plainL, Bool.and_eq_true] at hx hy
    simp only [D.pyL, PyData.eqvAll, D.eqvL]
    rw [eqv_py x y hx.1 hy.1, eqvL_py xs ys hx.2 hy.2]
end
mutual
theorem depth_py : ∀ x : D, x.plain = true → x.py.depth ≤ x.dep + 1
  | .non, _ => by simp [D.py, PyData.depth]
  | .bl b, _ => by simp [D.py, PyData.depth]
  | .int i, _ => by simp [D.py, PyData.depth]
  | .str x, _ => by simp [D.py, PyData.depth]
  | .tup xs, h => by
    have := depthL_py xs (by simpa [D.plain] using h)
    simp only [D.py, PyData.depth, D.dep]; omega
  | .lst xs, h => by
    have := depthL_py xs (by simpa [D.plain] using h)
    simp only [D.py, PyData.depth, D.dep]; omega
  | .dct _, h => by simp [D.plain] at h
  | .obj _ _, h => by simp [D.plain] at h
  | .frl _, h => by simp [D.plain] at h
theorem depthL_py : ∀ xs : List D, D.plainL xs = true → PyData.depthAll (D.pyL xs) ≤ D.depL xs + 1
  | [], _ => by simp [D.pyL, PyData.depthAll]
  | x :: xs, h => by
    simp only [D.plainL, Bool.and_eq_true] at h
    have h1 := depth_py x h.1
    have h2 := depthL_py xs h.2
    simp only [D.pyL, PyData.depthAll, D.depL]; omega
end
mutual
theorem Rep.dp : ∀ {v : V} {d : D}, Rep K O H v d → d.plain = true → Dp K H v d.py ∧ d.py.canLay0 = true
  | _, _, .non, _ => ⟨.non, rfl⟩
  | _, _, .bl b, _ => ⟨.bl b, rfl⟩
  | _, _, .int i, _ => ⟨.int i, rfl⟩
  | _, _, .str h, _ => ⟨.str _, by simp only [D.py, PyData.canLay0]; exact strOk_of h⟩
  | _, _, .tup l s r, h => ⟨.tup s.sq (Reps.dp r (by simpa [D.plain] using h)).1, by simp only [D.py, PyData.canLay0]; exact (Reps.dp r (by simpa [D.plain] using h)).2⟩
  | _, _, .lst l n s r, h => ⟨.lst (SqL.of s) (Reps.dp r (by simpa [D.plain] using h)).1, by simp only [D.py, PyData.canLay0]; exact (Reps.dp r (by simpa [D.plain] using h)).2⟩
  | _, _, .frl l s r, h => by simp [D.plain] at h
  | _, _, .rng s, h => by simp [D.plain] at h
  | _, _, .tpw l s r, h => by simp [D.plain] at h
theorem Reps.dp : ∀ {vs : List V} {ds : List D}, Reps K O H vs ds → D.plainL ds = true → DpAll K H vs (D.pyL ds) ∧ PyData.canLayAll0 (D.pyL ds) = true
  | _, _, .nil, _ => ⟨.nil, rfl⟩
  | _, _, .cons r t, h => by
    simp only [D.plainL, Bool.and_eq_true] at h
    exact ⟨.cons (Rep.dp r h.1).1 (Reps.dp t h.2).1, by simp only [D.pyL, PyData.canLayAll0, (Rep.dp r h.1).2, (Reps.dp t h.2).2, Bool.and_self]⟩
end
theorem RepB.dp {v : V} {d : D} (h : RepB K O H v d) (p : d.plain = true) : Dp K H v d.py ∧ d.py.canLay0 = true := by
  cases h with
  | of r => exact r.dp p
  | own l s r =>
    have q := r.dp (by simpa [D.plain] using p)
    exact ⟨.lst (SqL.of s) q.1, by simp only [D.py, PyData.canLay0]; exact q.2⟩
theorem shaped_of {d : D} (h : d.eqOk = true) (c : d.py.canLay0 = true) : SeqAt.shaped d.py = true := by
  unfold D.eqOk at h
  rw [Bool.and_eq_true, decide_eq_true_eq] at h
  unfold SeqAt.shaped
  have := depth_py d h.2
  rw [c, Bool.true_and, decide_eq_true_eq]
  omega
end
end Ev
end
section
set_option Elab.async false
set_option linter.all false
set_option maxRecDepth 100000
set_option maxHeartbeats 2000000
namespace Ev
variable [Nm]
open PySem PySem.Spec PyProof.Rows L2 SrtO
section
variable {prog : Program} {w : World} {A : Around} {E : Value → Shared → Prop} {s : Shared}
theorem collect_tup {l : Addr} {vs : List Value} {Q : List Value → Shared → Prop} (hl : IsTup s.heap l vs.toArray)
    (h : Q vs { s with heap := (s.heap.push (seqObj "list" #[] 0)).update s.heap.objs.size (Obj.mapSeq (· ++ vs.toArray)) }) (hsz : vs.length ≤ sizeLine) :
    wpAny (model prog w) A (collect (.ref l)) Q E s := by
  obtain ⟨o, ho, hc, n, hd⟩ := id hl
  unfold collect
  refine wpAny_bind (wpAny_runValue (codeAny_builtin entry_proto_collect' ?_))
  show wpAny _ _ (do again (.builtin "list.__iadd__" ⟨[← newList [], .ref l], []⟩)) _ _ s
  refine wpAny_bind (wpAny_newList (wpAny_pure ⟨Code.quiet_builtin _ (by decide +kernel), codeAny_builtin entry_list_iadd' ?_⟩))
  show wpAny _ _ (Builtin.List.listExtendWith (.ref s.heap.objs.size) (.ref l) (.ref s.heap.objs.size)) _ _ { s with heap := s.heap.push (seqObj "list" #[] 0) }
  unfold Builtin.List.listExtendWith
  have ho' : (s.heap.push (seqObj "list" #[] 0)).get? l = some o := Heap.get?_push_of_some _ ho
  refine wpAny_bind (wpAny_typeOf (T := "tuple") ⟨o, ho', hc⟩ ?_)
  have ht : (Value.type "tuple" == Value.type "tuple") = true := by rfl
  rw [if_pos (by rw [ht]; simp)]
  refine wpAny_bind (listItems_at ho' hd ?_)
  refine wpAny_bind (listItems_at (xs := #[]) (n := 0) (Heap.get?_push_size _ rfl) rfl ?_)
  rw [if_neg (by simp)]
  refine wpAny_bind (listUpdate_at (xs := #[]) (n := 0) (Heap.get?_push_size _ rfl) rfl ?_ (Nat.zero_le _) (by show (#[] ++ vs.toArray).size ≤ sizeLine + 1; simp only [Array.size_append, List.size_toArray, List.length_nil]; omega))
  refine wpAny_pure ?_
  show wpAny (model prog w) A (do
      let o ← load s.heap.objs.size
      match o.data with
      | .seq xs _ => pure xs.toList
      | _ => unsupported "internal:collect") Q E { s with heap := (s.heap.push (seqObj "list" #[] 0)).update s.heap.objs.size (Obj.mapSeq (· ++ vs.toArray)) }
  refine wpAny_bind (wpAny_load (get?_update_seq (Heap.get?_push_size _ rfl) _) ?_)
  show wpAny _ _ (pure ((#[] : Array Value) ++ vs.toArray).toList) Q E _
  rw [show ((#[] : Array Value) ++ vs.toArray).toList = vs by simp]
  exact wpAny_pure h
theorem sorted_ordT {l : Addr} {vs : List Value} {ltv : Value → Value → Bool} {Q : Value → Shared → Prop} (O : Swo ltv) (hl : IsTup s.heap l vs.toArray) (hz : vs.length ≤ sizeLine)
    (hS : 2 ≤ vs.length → ∀ (h₁ : Heap) (a : Addr), h₁.get? a = some (seqObj "list" vs.toArray 0) → (∀ b o, s.heap.get? b = some o → b ≠ a ∧ h₁.get? b = some o) → SortableO prog w A.in1.in1 { s with heap := h₁ } a vs ltv)
    (h : ∀ out : List Value, Srtd ltv out → Stb ltv out vs → Q (.ref (s.heap.objs.size + 1)) { s with heap := sortedAll s.heap vs out.toArray }) :
    wpAny (model prog w) A (call (.builtin "sorted") [.ref l]) Q E s := by
  refine Calls.call_function_entry kind_sorted plain_sorted entry_sorted (args_sorted1 _) ?_
  unfold Builtin.«sorted»
  refine wpAny_bind (m := checkCount "sorted" 1 1 _) (wpAny_pure ?_)
  refine wpAny_bind (collect_tup hl ?_ hz)
  refine wpAny_bind (wpAny_newList ?_ hz)
  have hsz : ((s.heap.push (seqObj "list" #[] 0)).update s.heap.objs.size (Obj.mapSeq (· ++ vs.toArray))).objs.size = s.heap.objs.size + 1 := by
    rw [Heap.size_update, size_push']
  have hoL : (((s.heap.push (seqObj "list" #[] 0)).update s.heap.objs.size (Obj.mapSeq (· ++ vs.toArray))).push (seqObj "list" vs.toArray 0)).get? (s.heap.objs.size + 1) = some (seqObj "list" vs.toArray 0) := by
    rw [← hsz]; exact Heap.get?_push_size _ rfl
  have keep : ∀ b o, s.heap.get? b = some o → b ≠ s.heap.objs.size + 1 ∧ (((s.heap.push (seqObj "list" #[] 0)).update s.heap.objs.size (Obj.mapSeq (· ++ vs.toArray))).push (seqObj "list" vs.toArray 0)).get? b = some o := fun b o q => by
    have hlt : b < s.heap.objs.size := Heap.lt_size q
    refine ⟨Nat.ne_of_lt (Nat.lt_succ_of_lt hlt), Heap.get?_push_of_some _ ?_⟩
    rw [Heap.get?_update_ne _ _ _ _ (Nat.ne_of_lt hlt)]
    exact Heap.get?_push_of_some _ q
  show wpAny _ _ _ _ _ { s with heap := ((s.heap.push (seqObj "list" #[] 0)).update s.heap.objs.size (Obj.mapSeq (· ++ vs.toArray))).push (seqObj "list" vs.toArray 0) }
  rw [hsz]
  refine wpAny_bind (wpAny_holding (wpAny_call_entry slot_list_sort ⟨_, hoL, rfl⟩ entry_list_sort (list_sort_ord O hoL hz (fun h2 => hS h2 _ _ hoL keep) fun out hs hb => ⟨_, rfl, ?_⟩) (args_list_sort _)))
  exact wpAny_pure ⟨_, rfl, h out hs hb⟩
end
section
variable {X : Cx}
theorem cr_sortedT : CallR X (.builtin "sorted") (fun vs H Q => ∃ (a : Addr) (ns : List Int), vs = [V.ref a] ∧ SqT X.K H a (ns.map V.int) ∧
  ∀ (ns' : List Int) (p : Addr), ns'.Perm ns → ns'.Pairwise (· ≤ ·) → H p = none → Q (.ref p) (upd H p (.lst (ns'.map V.int)))) := by
  intro pins s σ H vs us Q I r h
  obtain ⟨a, ns, rfl, hs, q⟩ := h
  obtain ⟨its, rv, hl, hz⟩ := I.tuple hs
  rw [Vals.ref1 r]
  have hi := rv.ints
  refine sorted_ordT SrtO.swo_int hl (by rw [← rv.length]; exact hz) (fun h2 h₁ a' _ _ => SrtO.ints_sortable hi h2) fun out h1 h2 => ?_
  obtain ⟨k1, k2, k3⟩ := SrtO.ints_out hi h1 h2
  obtain ⟨ep, he'⟩ := PyProof.Rows.sortedAll_at s.heap its out.toArray
  have hlen : ((out.map SrtO.iv).map V.int).length ≤ sizeLine := by
    rw [List.length_map, k2.length_eq]
    rw [List.length_map] at hz
    exact hz
  exact ⟨.ref _, upd H (s.heap.objs.size + 1) (.lst ((out.map SrtO.iv).map V.int)), I.laid (t' := s.toks) (fun _ _ => PyProof.Rows.sortedAll_old) (Nat.le_succ _) ⟨hlen, out, ep, vals_of_ints k1, he'⟩, rfl, q _ _ k2 k3 (I.hok.fresh (Nat.le_succ _))⟩
theorem tuple_mulSame (l : Addr) (items : Array Value) (n : Nat) (dd : Option Addr) (sl : Array (Option Value)) (x : Int) (u : Tok) (c0 : (decide (x < -(2 ^ 63)) || decide (x ≥ 2 ^ 63)) = false) (c1 : (items.isEmpty || x == 1) = true) :
    Meets (Builtin.«tuple.__mul__» ⟨[.ref l, .int x u], []⟩) (fun _ R s => s.heap.get? l = some { cls := .type "tuple", dict := dd, data := .seq items n, slots := sl } ∧ R (.ok (.ret (Value.ref l))) s) :=
  .of_wp fun prog w A R s h => by
    obtain ⟨hp, g, d, tk, os⟩ := s
    obtain ⟨hl, h⟩ := h
    have f1 := AutoSeq1.idx_int
    wp_walk using wpAny_loadPart' hl
    repeat (first
      | (refine wpAny_ite_false (decide_eq_false (by rw [c0]; exact Bool.false_ne_true)) ?_; wp_walk using wpAny_loadPart' hl)
      | (refine wpAny_ite_true (decide_eq_true c1) ?_; wp_walk using wpAny_loadPart' hl))
    exact ⟨_, rfl, h⟩
theorem op_repT1 : OpR X (binaryOp .Mult) (fun x y H Q => ∃ l k xs, x = .ref l ∧ y = .int k ∧ SqT X.K H l xs ∧ -(2 ^ 63) ≤ k ∧ k < 2 ^ 63 ∧ (xs = [] ∨ k = 1) ∧ Q (.ref l) H) := by
  intro pins s σ H x y v u Q I rx ry h
  obtain ⟨l, k, xs, rfl, rfl, hT, h1, h2, h3, q⟩ := h
  cases rx
  obtain ⟨t, rfl⟩ := ry
  obtain ⟨its, r, ⟨⟨cls, dd, data, sl⟩, ho, hc, n, hd⟩, hs⟩ := I.tuple hT
  simp only at hc hd
  subst hc hd
  have c0 : (decide (k < -(2 ^ 63)) || decide (k ≥ 2 ^ 63)) = false := by
    rw [decide_eq_false (by omega), decide_eq_false (by omega)] <;> rfl
  have c1 : (its.toArray.isEmpty || k == 1) = true := by
    rcases h3 with rfl | rfl
    · cases r
      rfl
    · simp
  exact wpAny_binaryOp_repeat_ref (T := "tuple") (U := "int") (by decide) ⟨_, ho, rfl⟩ (fun s' => typeIs_int s' k t) noFill_tuple_mul F.fills_int_mul F.slot_int_rmul repeat_tuple F.slot_int_index.lookup
    (call_meets F.slot_int_rmul (typeIs_int s k t) F.entry_int_rmul (F.args_int_rmul_2 _ _) (int_rmul_tuple k t l its.toArray n dd sl)
      ⟨ho, rfl, ⟨_, ho, rfl⟩, call_meets F.slot_tuple_mul ⟨_, ho, rfl⟩ F.entry_tuple_mul (F.args_tuple_mul_2 _ _) (tuple_mulSame l its.toArray n dd sl k t c0 c1) ⟨ho, .ref l, H, I, rfl, q⟩⟩)
theorem fold_cps : ∀ (n : Nat) (x acc : Array Nat), ((List.replicate n x).foldl (· ++ ·) acc).toList = acc.toList ++ (List.replicate n x.toList).flatten
  | 0, x, acc => by simp
  | n + 1, x, acc => by
    rw [List.replicate_succ, List.foldl_cons, fold_cps n x, List.replicate_succ, List.flatten_cons, Array.toList_append, List.append_assoc]
theorem op_repS : OpR X (binaryOp .Mult) (fun x y H Q => ∃ i k, x = .str (sv i) ∧ y = .int k ∧ 1 ≤ k ∧ k ≤ 1000 ∧ i.length ≤ 10000 ∧ Q (.str (sv (List.replicate k.toNat i).flatten)) H) := by
  intro pins s σ H x y v u Q I rx ry h
  obtain ⟨i, k, rfl, rfl, h1, h2, h3, q⟩ := h
  obtain ⟨t, rfl⟩ := rx
  obtain ⟨t', rfl⟩ := ry
  have b1 : ((sv i).length : Int) * k ≤ 10000000 := by
    rw [sv_len]
    have a1 : ((i.length : Nat) : Int) * k ≤ 10000 * k := Int.mul_le_mul_of_nonneg_right (by omega) (by omega)
    omega
  have b2 : (sv i).length * k.toNat ≤ 10000000 := by
    rw [sv_len]
    have a1 : i.length * k.toNat ≤ 10000 * 1000 := Nat.mul_le_mul h3 (by omega)
    omega
  have e : (⟨(List.replicate k.toNat (sv i).cps).foldl (· ++ ·) #[]⟩ : Str) = sv (List.replicate k.toNat i).flatten := by
    have := fold_cps k.toNat (sv i).cps #[]
    rw [List.nil_append, sv_tl] at this
    unfold sv
    congr 1
    rw [← this]
    rfl
  refine PySem.P.mul_str (by rw [decide_eq_false (by omega), decide_eq_false (by omega)]; rfl) (fun _ _ => ?_) (fun _ _ => ?_) ?_
  · rw [sv_len]
    have : (i.length : Int) ≤ 10000 := by omega
    have : 9000000000000000 ≤ ((2 ^ 63 - 1) / k : Int) := by
      rw [Int.le_ediv_iff_mul_le (by omega)]
      omega
    omega
  · unfold Builtin.Str.tooLong
    simp only [decide_eq_false_iff_not]
    rw [show sizeLine = 16777216 from sizeLine_eq]
    omega
  · rw [if_neg (by omega)]
    by_cases hk : (k == 1 || (sv i).length == 0) = true
    · rw [if_pos hk]
      have e2 : sv (List.replicate k.toNat i).flatten = sv i := by
        rcases Bool.or_eq_true_iff.mp hk with h | h
        · rw [beq_iff_eq] at h
          subst h
          simp
        · rw [beq_iff_eq, sv_len] at h
          have := List.eq_nil_of_length_eq_zero h
          subst this
          simp
      rw [e2] at q
      exact ⟨.str (sv i), H, I, ⟨t, rfl⟩, q⟩
    · rw [if_neg hk, e]
      refine ⟨?_, .str _, H, I.tok _, ⟨_, rfl⟩, q⟩
      rw [sv_len, PyProof.Rows.lm_len_rep_flat, sizeLine_eq]
      rw [sv_len] at b2
      rw [Nat.mul_comm]
      omega
end
end Ev
end
section
set_option Elab.async false
set_option linter.all false
set_option maxRecDepth 100000
set_option maxHeartbeats 2000000
namespace Ev
variable [Nm]
open PySem PySem.Spec PyProof.Rows L2
abbrev nTup (its : Array Value) : Obj := { cls := .type "tuple", data := .seq its }
section
variable {X : Cx}
theorem new_tup {h : Heap} {H : Hp} {xs : List V} {us : List Value} (z : xs.length ≤ sizeLine) (r : Vals xs us) : ObjOk X.prog X.w (upd H h.objs.size (.frz (nTup us.toArray) (.tup xs))) (h.push (nTup us.toArray)) h.objs.size (.frz (nTup us.toArray) (.tup xs)) :=
  ⟨Heap.get?_push_size _ rfl, z, us, r, _, Heap.get?_push_size _ rfl, rfl, _, rfl⟩
theorem laid_tup {pins : List (Addr × Obj)} {σ : L2.St} {H : Hp} {s : Shared} {xs : List V} {us : List Value} {Q : VK} (I : Inv X pins σ H s) (z : xs.length ≤ sizeLine) (r : Vals xs us)
    (q : ∀ p (o : Obj), o.dict = none → H p = none → Q (.ref p) (upd H p (.frz o (.tup xs)))) : EP X pins σ Q (.ref s.heap.objs.size) { s with heap := s.heap.push (nTup us.toArray) } :=
  ⟨.ref s.heap.objs.size, _, I.laid (t' := s.toks) (fun b ob q => Heap.get?_push_of_some _ q) (Nat.le_refl _) (new_tup z r), rfl, q _ (nTup us.toArray) rfl (I.hok.fresh (Nat.le_refl _))⟩
def tTupN (t : TA) : TE := fun σ H Q => t σ H fun xs H1 => xs.length ≤ sizeLine ∧ ∀ p (o : Obj), o.dict = none → H1 p = none → Q (.ref p) (upd H1 p (.frz o (.tup xs)))
theorem pe_tupN {es : List Expr} {t : TA} {k : Nat} {pos : Pos} (h : PA X es t) : PE X (.Tuple es k pos) (tTupN t) := ⟨fun pins s σ H Q I hq =>
  wpAny_Tuple_spliced (thn (h.run pos pins s σ H _ I hq) fun us s1 ⟨xs, H1, I1, r, z, q⟩ => ⟨by rw [← r.length]; exact z, laid_tup I1 z r q⟩)⟩
theorem call_tupN : CallR X (.type "tuple") (fun xs H Q => ∃ p ys, xs = [.ref p] ∧ ((SqL X.K H p ys ∧ ∀ l (o : Obj), o.dict = none → H l = none → Q (.ref l) (upd H l (.frz o (.tup ys)))) ∨ (SqT X.K H p ys ∧ Q (.ref p) H))) := by
  intro pins s σ H xs us Q I r h
  obtain ⟨p, ys, rfl, h⟩ := h
  obtain ⟨u, rfl, rx⟩ := vals1 r
  cases rx
  rcases h with ⟨hq, q⟩ | ⟨hq, q⟩
  · obtain ⟨its, rv, pl, hz⟩ := I.list hq
    exact call_tuple_list pl.isList (fun h' kp => laid_tup (s := { s with heap := h' }) (I.kept (t' := s.toks) kp) hz rv q) (by rw [List.size_toArray, ← rv.length]; exact hz)
  · obtain ⟨its, _, pl, _⟩ := I.tuple hq
    exact call_tuple_same pl ⟨.ref p, H, I, rfl, q⟩
def rCatN (K : PySem.W.Frag) : R2 := fun x y H Q => ∃ a b xs ys, x = .ref a ∧ y = .ref b ∧ SqT K H a xs ∧ SqT K H b ys ∧ xs.length + ys.length ≤ sizeLine ∧
  (xs = [] → Q (.ref b) H) ∧ (xs ≠ [] → ys = [] → Q (.ref a) H) ∧ (xs ≠ [] → ys ≠ [] → ∀ p (o : Obj), o.dict = none → H p = none → Q (.ref p) (upd H p (.frz o (.tup (xs ++ ys)))))
theorem op_catN : OpR X (binaryOp .Add) (rCatN X.K) := by
  intro pins s σ H x y v u Q I rx ry h
  obtain ⟨a, b, xs, ys, rfl, rfl, ha, hb, hz, q0, q1, q2⟩ := h
  cases rx
  cases ry
  obtain ⟨its, r1, p1, _⟩ := I.tuple ha
  obtain ⟨jts, r2, p2, _⟩ := I.tuple hb
  by_cases hx : xs = []
  · subst hx
    cases r1
    exact cat_tup0 p1 p2 ⟨.ref b, H, I, rfl, q0 rfl⟩
  · exact HT.cat_tup p1 p2 (fun z => hx (r1.nil_iff.mp z)) (fun z => ⟨.ref a, H, I, rfl, q1 hx (r2.nil_iff.mp z)⟩)
      (fun z => laid_tup I (by rw [List.length_append]; exact hz) (r1.append r2) (q2 hx fun w => z (r2.nil_iff.mpr w))) (by rw [← r1.length, ← r2.length]; exact hz)
def rSlN (K : PySem.W.Frag) : V → Option Int → Option Int → Hp → VK → Prop := fun x lo hi H Q => ∃ a xs, x = .ref a ∧ SqT K H a xs ∧
  (HT.sIx xs.length 0 lo = 0 ∧ HT.sIx xs.length xs.length hi = xs.length → Q (.ref a) H) ∧ (¬ (HT.sIx xs.length 0 lo = 0 ∧ HT.sIx xs.length xs.length hi = xs.length) → ∀ p (o : Obj), o.dict = none → H p = none → Q (.ref p) (upd H p (.frz o (.tup (cutV xs lo hi)))))
theorem sl_tupN : SlR X (rSlN X.K) := by
  intro pins s σ H x v vl vu lo hi sl Q I rx hs pl pu h
  obtain ⟨a, xs, rfl, hx, q1, q2⟩ := h
  by_cases hw : HT.sIx xs.length 0 lo = 0 ∧ HT.sIx xs.length xs.length hi = xs.length
  · exact sl_tupA pins s σ H _ v vl vu lo hi sl Q I rx hs pl pu ⟨a, xs, rfl, hx, q1, fun n => (n hw).elim⟩
  · cases rx
    obtain ⟨its, r, ht, hz⟩ := I.tuple hx
    have hlen : its.toArray.size = xs.length := by rw [List.size_toArray]; exact r.length.symm
    refine ⟨"tuple", _, PyProof.Rows.slot_tuple_getitem.lookup, ht.typeIs, HT.getItem_tuple_cut ht hs pl pu (by rw [hlen]; exact hw) ?_ (by rw [hlen]; exact hz)⟩
    rw [hlen]
    exact laid_tup I (Nat.le_trans (cutV_length xs lo hi) hz) ((r.drop (HT.sIx xs.length 0 lo)).take (HT.sIx xs.length xs.length hi - HT.sIx xs.length 0 lo)) (q2 hw)
def tTupRgN (te : L2.St → Hp → (Int → Int → Hp → Prop) → Prop) : TE := fun σ H Q => te σ H fun a b H1 => RgOk a b ∧ ∀ q (o : Obj), o.dict = none → H1 q = none → Q (.ref q) (upd H1 q (.frz o (.tup (rgV a b))))
theorem pe_tupRgN {e : Expr} {te : L2.St → Hp → (Int → Int → Hp → Prop) → Prop} {p pos : Pos} (hc : X.calm = true) (hg : Gl X "tuple") (hm : X.mg "tuple" = none) (he : PRg X e te) (na : starEach [e] X.env = (false, eval e X.env) :: starEach [] X.env := by rfl) : PE X (.Call (.Name "tuple" p) [e] [] pos) (tTupRgN te) := by
  refine ⟨fun pins s σ H Q I h => ?_⟩
  refine Call_ (ld_blt I hg hm boot_tuple (PyProof.Rows.callWith_type1 (args_cons (thn (he pins s σ H _ I h) fun x s1 ⟨r, a, b, t, u, v, H1, ex, hr, I1, ok, q⟩ => args_nil ?_) na) na))
  subst ex
  refine call_tuple_range (n := (b - a).toNat) (I1.ok.hd hc) hr (small_one ok.1 ok.2.1 ok.2.2.1 ok.2.2.2.1) (rangeSize_nat a b) ok.2.2.2.2 fun h' tk acc hk hi => ?_
  have z := laid_tup (s := { s1 with heap := h', toks := tk }) (Q := Q) (I1.kept hk) (by rw [rgV_length, sizeLine_eq]; exact ok.2.2.2.2) (vals_rg hi) q
  rw [Array.toArray_toList] at z
  exact z
def rRepN (K : PySem.W.Frag) : R2 := fun x y H Q => ∃ l k xs, x = .ref l ∧ y = .int k ∧ SqT K H l xs ∧ xs ≠ [] ∧ 2 ≤ k ∧ k ≤ 1000 ∧ xs.length ≤ 1000 ∧ ∀ p (o : Obj), o.dict = none → H p = none → Q (.ref p) (upd H p (.frz o (.tup (List.replicate k.toNat xs).flatten)))
theorem op_repN : OpR X (binaryOp .Mult) (rRepN X.K) := by
  intro pins s σ H x y v u Q I rx ry h
  obtain ⟨l, k, xs, rfl, rfl, hT, hne, h1, h2, hz, q⟩ := h
  cases rx
  obtain ⟨t, rfl⟩ := ry
  obtain ⟨its, r, ⟨⟨cls, dd, data, sl⟩, ho, hc, n, hd⟩, hs⟩ := I.tuple hT
  simp only at hc hd
  subst hc hd
  have hle : its.toArray.size = xs.length := by rw [List.size_toArray]; exact r.length.symm
  have hi : its.toArray.isEmpty = false := by
    cases r with
    | nil => exact absurd rfl hne
    | cons _ _ => rfl
  have hp : xs.length * k.toNat ≤ 1000000 := Nat.le_trans (Nat.mul_le_mul hz (show k.toNat ≤ 1000 by omega)) (by decide)
  have flen : (List.replicate k.toNat xs).flatten.length ≤ sizeLine := by
    rw [PyProof.Rows.lm_len_rep_flat, sizeLine_eq, Nat.mul_comm]; omega
  have rr := r.rep k.toNat
  have hkn : ((k.toNat : Nat) : Int) = k := by omega
  have hm : ((its.toArray.size : Nat) : Int) * k ≤ 1000000 := by
    rw [hle, ← hkn, ← Int.natCast_mul]; omega
  refine wpAny_binaryOp_repeat_ref (T := "tuple") (U := "int") (by decide) ⟨_, ho, rfl⟩ (fun s' => typeIs_int s' k t) noFill_tuple_mul F.fills_int_mul F.slot_int_rmul repeat_tuple F.slot_int_index.lookup
    (call_meets F.slot_int_rmul (typeIs_int s k t) F.entry_int_rmul (F.args_int_rmul_2 _ _) (int_rmul_tuple k t l its.toArray n dd sl)
      ⟨ho, rfl, ⟨_, ho, rfl⟩, call_meets F.slot_tuple_mul ⟨_, ho, rfl⟩ F.entry_tuple_mul (F.args_tuple_mul_2 _ _) (tuple_mulW l its.toArray n dd sl k t ?_ ?_ ?_ (by omega) ?_ (by rw [size_rep, List.size_toArray, ← rr.length]; exact flen)) ⟨ho, ?_⟩⟩)
  · rw [decide_eq_false (by omega), decide_eq_false (by omega)] <;> rfl
  · rw [hi, Bool.false_or]; exact beq_eq_false_iff_ne.mpr (by omega)
  · rw [hi, Bool.or_false]; exact decide_eq_false (by omega)
  · unfold Builtin.Tuple.tupleTooMany
    rw [sizeLine_eq]
    exact decide_eq_false (by omega)
  · rw [size_rep]
    exact laid_tup I flen rr q
theorem tuple_mul0 (l : Addr) (items : Array Value) (n : Nat) (dd : Option Addr) (sl : Array (Option Value)) (x : Int) (u : Tok) (c0 : (decide (x < -(2 ^ 63)) || decide (x ≥ 2 ^ 63)) = false) (c1 : (items.isEmpty || x == 1) = false) (c2 : (decide (x ≤ 0) || items.isEmpty) = true) :
    Meets (Builtin.«tuple.__mul__» ⟨[.ref l, .int x u], []⟩) (fun _ R s => s.heap.get? l = some { cls := .type "tuple", dict := dd, data := .seq items n, slots := sl } ∧
      R (.ok (.ret (Value.ref s.heap.objs.size))) { s with heap := s.heap.push { cls := Value.type "tuple", data := Data.seq #[] }, toks := s.toks }) :=
  .of_wp fun prog w A R s h => by
    obtain ⟨hp, g, d, tk, os⟩ := s
    obtain ⟨hl, h⟩ := h
    have f1 := AutoSeq1.idx_int
    have hsz : (#[] : Array Value).size ≤ sizeLine := Nat.zero_le _
    wp_walk using wpAny_loadPart' hl
    repeat (first
      | (refine wpAny_ite_false (decide_eq_false (by rw [c0]; exact Bool.false_ne_true)) ?_; wp_walk using wpAny_loadPart' hl)
      | (refine wpAny_ite_false (decide_eq_false (by rw [c1]; exact Bool.false_ne_true)) ?_; wp_walk using wpAny_loadPart' hl)
      | (refine wpAny_ite_true (decide_eq_true c2) ?_; wp_walk using wpAny_loadPart' hl))
    exact ⟨_, rfl, h⟩
theorem op_rep0 : OpR X (binaryOp .Mult) (fun x y H Q => ∃ l k xs, x = .ref l ∧ y = .int k ∧ SqT X.K H l xs ∧ xs ≠ [] ∧ -(2 ^ 63) ≤ k ∧ k ≤ 0 ∧ ∀ p (o : Obj), o.dict = none → H p = none → Q (.ref p) (upd H p (.frz o (.tup [])))) := by
  intro pins s σ H x y v u Q I rx ry h
  obtain ⟨l, k, xs, rfl, rfl, hT, hne, h1, h2, q⟩ := h
  cases rx
  obtain ⟨t, rfl⟩ := ry
  obtain ⟨its, r, ⟨⟨cls, dd, data, sl⟩, ho, hc, n, hd⟩, hs⟩ := I.tuple hT
  simp only at hc hd
  subst hc hd
  have hi : its.toArray.isEmpty = false := by
    cases r with
    | nil => exact absurd rfl hne
    | cons _ _ => rfl
  refine wpAny_binaryOp_repeat_ref (T := "tuple") (U := "int") (by decide) ⟨_, ho, rfl⟩ (fun s' => typeIs_int s' k t) noFill_tuple_mul F.fills_int_mul F.slot_int_rmul repeat_tuple F.slot_int_index.lookup
    (call_meets F.slot_int_rmul (typeIs_int s k t) F.entry_int_rmul (F.args_int_rmul_2 _ _) (int_rmul_tuple k t l its.toArray n dd sl)
      ⟨ho, rfl, ⟨_, ho, rfl⟩, call_meets F.slot_tuple_mul ⟨_, ho, rfl⟩ F.entry_tuple_mul (F.args_tuple_mul_2 _ _) (tuple_mul0 l its.toArray n dd sl k t ?_ ?_ ?_) ⟨ho, ?_⟩⟩)
  · rw [decide_eq_false (by omega), decide_eq_false (by omega)] <;> rfl
  · rw [hi, Bool.false_or]; exact beq_eq_false_iff_ne.mpr (by omega)
  · rw [hi, Bool.or_false]; exact decide_eq_true h2
  · exact laid_tup (us := []) I (Nat.zero_le _) .nil q
end
end Ev
end
section
set_option Elab.async false
set_option linter.all false
set_option maxRecDepth 100000
set_option maxHeartbeats 2000000
namespace Ev
variable [Nm]
open PySem PySem.Spec PyProof.Rows L2

def Trk (O : Addr → Prop) (H : Hp) : Prop := ∀ a, O a → ∃ xs, H a = some (.lst xs)
theorem Trk.same {O : Addr → Prop} {H H' : Hp} (t : Trk O H) (s : Sm H H') : Trk O H' := fun a h => let ⟨xs, e⟩ := t a h; ⟨xs, s _ _ e fun _ z => nomatch z⟩
theorem Trk.no {O : Addr → Prop} {H : Hp} {p : Addr} (t : Trk O H) (h : H p = none) : ¬ O p := fun q => by
  obtain ⟨xs, e⟩ := t p q
  rw [h] at e; cases e
theorem same_upd {H : Hp} {p : Addr} {o : HO} (h : H p = none) : Sm H (upd H p o) := .all fun b u e => by rw [upd_ne (ne_of_none e h)]; exact e
theorem tabS_upd {H : Hp} {P a : Addr} {xs : List V} {o : HO} (t : TabO H P) (h : H a = some (.lst xs)) : TabO (upd H a o) P := by
  obtain ⟨ps, e1, e2, e3⟩ := t
  have n1 : P ≠ a := fun z => by rw [z, h] at e1; cases e1
  refine ⟨ps, by rw [upd_ne n1]; exact e1, e2, fun pos cv hc => ?_⟩
  obtain ⟨c, r1, r2⟩ := e3 pos cv hc
  have n2 : c ≠ a := fun z => by rw [z, h] at r2; cases r2
  exact ⟨c, r1, by rw [upd_ne n2]; exact r2⟩
theorem Sm.trans' {H H1 : Hp} (s : Sm H H1) {a : Addr} {xs : List V} {o : HO} (hn : H a = none) (hl : H1 a = Option.some (.lst xs)) : Sm H (upd H1 a o) :=
  ⟨fun b u e n => by rw [upd_ne (ne_of_none e hn)]; exact s b u e n, fun b ps e => by rw [upd_ne (ne_of_none e hn)]; exact s.tb b ps e, fun b t => tabS_upd (s.tq b t) hl⟩
def LdV (K : PySem.W.Frag) (O : Addr → Prop) (H : Hp) (r : R D) (Q : VK) : Prop := match r with
  | .ok d => ∀ v H', Sm H H' → Rep K O H' v d → Q v H'
  | _ => False
theorem LdV.here {K : PySem.W.Frag} {O : Addr → Prop} {H : Hp} {d : D} {Q : VK} {v : V} (h : LdV K O H (.ok d) Q) (r : Rep K O H v d) : Q v H := h v H (Sm.refl H) r
section
variable {K : PySem.W.Frag} {O : Addr → Prop} {H : Hp} {Q : VK} {p : Addr} {vs : List V} {ds : List D}
theorem LdV.tup (h : LdV K O H (.ok (.tup ds)) Q) (hl : ds.length ≤ 16777216) (r : Reps K O H vs ds) {o : Obj} (ho : o.dict = none) (hp : H p = none) : Q (.ref p) (upd H p (.frz o (.tup vs))) :=
  h _ _ (same_upd hp) (.tup hl (.inl ⟨o, upd_same, ho⟩) (r.gro (Gro.of (same_upd hp))))
theorem LdV.lst (t : Trk O H) (h : LdV K O H (.ok (.lst ds)) Q) (hl : ds.length ≤ 16777216) (r : Reps K O H vs ds) (hp : H p = none) : Q (.ref p) (upd H p (.lst vs)) :=
  h _ _ (same_upd hp) (.lst hl (t.no hp) upd_same (r.gro (Gro.of (same_upd hp))))
end
theorem RepB.int_of {K O H v i} (h : RepB K O H v (.int i)) : v = .int i := by cases h with | of r => cases r; rfl
theorem RepB.bl_of {K O H v i} (h : RepB K O H v (.bl i)) : v = .bl i := by cases h with | of r => cases r; rfl
theorem RepB.non_of {K O H v} (h : RepB K O H v .non) : v = .non := by cases h with | of r => cases r; rfl
theorem RepB.str_of {K O H v x} (h : RepB K O H v (.str x)) : v = .str (sv x) ∧ txtOk x := by cases h with | of r => cases r with | str h => exact ⟨rfl, h⟩
theorem RepB.tup_of {K O H v ds} (h : RepB K O H v (.tup ds)) : ∃ a vs, v = .ref a ∧ TupN K H a vs ∧ Reps K O H vs ds := by cases h with | of r => cases r with | tup l s r => exact ⟨_, _, rfl, s, r⟩
theorem RepB.tupL {K O H v ds} (h : RepB K O H v (.tup ds)) : ds.length ≤ 16777216 := by cases h with | of r => cases r with | tup l s r => exact l
theorem RepB.lstL {K O H v ds} (h : RepB K O H v (.lst ds)) : ds.length ≤ 16777216 := by
  cases h with
  | of r => cases r with | lst l n s r => exact l
  | own l s r => exact l
theorem RepB.frlL {K O H v ds} (h : RepB K O H v (.frl ds)) : ds.length ≤ 16777216 := by cases h with | of r => cases r with | frl l s r => exact l
theorem RepB.lst_of {K O H v ds} (h : RepB K O H v (.lst ds)) : ∃ a vs, v = .ref a ∧ H a = some (.lst vs) ∧ Reps K O H vs ds := by
  cases h with
  | of r => cases r with | lst l n s r => exact ⟨_, _, rfl, s, r⟩
  | own l s r => exact ⟨_, _, rfl, s, r⟩
theorem RepB.frl_of {K O H v ds} (h : RepB K O H v (.frl ds)) : ∃ a vs, v = .ref a ∧ FrL K O H a vs ∧ Reps K O H vs ds := by cases h with | of r => cases r with | frl l s r => exact ⟨_, _, rfl, s, r⟩
theorem txtOk.app {x y : List Nat} (hx : txtOk x) (hy : txtOk y) (h : x.length + y.length ≤ 16777216) : txtOk (x ++ y) :=
  ⟨by rw [List.length_append]; exact h, fun c hc => (List.mem_append.mp hc).elim (hx.2 c) (hy.2 c)⟩
theorem txtOk.sub {x y : List Nat} (hx : txtOk x) (h : y.length ≤ x.length) (hs : ∀ c ∈ y, c ∈ x) : txtOk y := ⟨Nat.le_trans h hx.1, fun c hc => hx.2 c (hs c hc)⟩
def rBin (K : PySem.W.Frag) (o : Op2) : R2 := fun x y H Q => ∃ O dx dy, Trk O H ∧ RepB K O H x dx ∧ RepB K O H y dy ∧ LdV K O H (binD o dx dy) Q
section
variable {X : Cx}
theorem ob_add : OpR X (binaryOp .Add) (rBin X.K .add) := by
  intro pins s σ H x y v u Q I rx ry h
  obtain ⟨O, dx, dy, t, hx, hy, q⟩ := h
  cases dx <;> cases dy <;> try (simp only [binD, LdV] at q; done)
  · cases hx.int_of; cases hy.int_of
    exact op_add pins s σ H _ _ v u Q I rx ry ⟨_, _, rfl, rfl, q.here (.int _)⟩
  · obtain ⟨rfl, ox⟩ := hx.str_of
    obtain ⟨rfl, oy⟩ := hy.str_of
    simp only [binD] at q
    split at q
    · rename_i hl
      refine op_add_str pins s σ H _ _ v u Q I rx ry ⟨_, _, rfl, rfl, by rw [sv_len, sv_len, sizeLine_eq]; exact hl, ?_⟩
      rw [← sv_app]
      exact q.here (.str (ox.app oy hl))
    · exact q.elim
  · obtain ⟨a, vs, rfl, sa, ra⟩ := hx.tup_of
    obtain ⟨b, ws, rfl, sb, rb⟩ := hy.tup_of
    simp only [binD] at q
    split at q
    · rename_i hl
      refine op_catN pins s σ H _ _ v u Q I rx ry ⟨a, b, vs, ws, rfl, rfl, sa.sq, sb.sq, by rw [ra.length, rb.length, sizeLine_eq]; exact hl, fun e => ?_, fun _ e => ?_, fun _ _ p o ho hp => ?_⟩
      · subst e
        cases ra
        exact q.here (.tup hy.tupL sb rb)
      · subst e
        cases rb
        rw [List.append_nil] at q
        exact q.here (.tup hx.tupL sa ra)
      · exact q.tup (by rw [List.length_append]; exact hl) (ra.app rb) ho hp
    · exact q.elim
  · obtain ⟨a, vs, rfl, sa, ra⟩ := hx.lst_of
    obtain ⟨b, ws, rfl, sb, rb⟩ := hy.lst_of
    simp only [binD] at q
    split at q
    · rename_i hl
      refine op_cat pins s σ H _ _ v u Q I rx ry ⟨a, b, vs, ws, rfl, rfl, sa, sb, by rw [ra.length, rb.length, sizeLine_eq]; exact hl, fun p hp => ?_⟩
      exact q.lst t (by rw [List.length_append]; exact hl) (ra.app rb) hp
    · exact q.elim
theorem ob_sub : OpR X (binaryOp .Sub) (rBin X.K .sub) := by
  intro pins s σ H x y v u Q I rx ry h
  obtain ⟨O, dx, dy, t, hx, hy, q⟩ := h
  cases dx <;> cases dy <;> try (simp only [binD, LdV] at q; done)
  cases hx.int_of; cases hy.int_of
  exact op_sub pins s σ H _ _ v u Q I rx ry ⟨_, _, rfl, rfl, q.here (.int _)⟩
theorem ob_mod : OpR X (binaryOp .Mod) (rBin X.K .mod) := by
  intro pins s σ H x y v u Q I rx ry h
  obtain ⟨O, dx, dy, t, hx, hy, q⟩ := h
  cases dx <;> cases dy <;> try (simp only [binD, LdV] at q; done)
  cases hx.int_of; cases hy.int_of
  simp only [binD] at q
  split at q
  · exact op_mod pins s σ H _ _ v u Q I rx ry ⟨_, _, rfl, rfl, by assumption, q.here (.int _)⟩
  · exact q.elim
theorem ob_fdiv : OpR X (binaryOp .FloorDiv) (rBin X.K .fdiv) := by
  intro pins s σ H x y v u Q I rx ry h
  obtain ⟨O, dx, dy, t, hx, hy, q⟩ := h
  cases dx <;> cases dy <;> try (simp only [binD, LdV] at q; done)
  cases hx.int_of; cases hy.int_of
  simp only [binD] at q
  split at q
  · exact op_fdiv pins s σ H _ _ v u Q I rx ry ⟨_, _, rfl, rfl, by assumption, q.here (.int _)⟩
  · exact q.elim
theorem ob_pow : OpR X (binaryOp .Pow) (rBin X.K .pow) := by
  intro pins s σ H x y v u Q I rx ry h
  obtain ⟨O, dx, dy, t, hx, hy, q⟩ := h
  cases dx <;> cases dy <;> try (simp only [binD, LdV] at q; done)
  cases hx.int_of; cases hy.int_of
  simp only [binD] at q
  split at q
  · exact op_pow pins s σ H _ _ v u Q I rx ry ⟨_, _, rfl, rfl, by assumption, q.here (.int _)⟩
  · exact q.elim
theorem ob_mul : OpR X (binaryOp .Mult) (rBin X.K .mul) := by
  intro pins s σ H x y v u Q I rx ry h
  obtain ⟨O, dx, dy, t, hx, hy, q⟩ := h
  cases dx <;> cases dy <;> try (simp only [binD, LdV] at q; done)
  · cases hx.int_of; cases hy.int_of
    rename_i i j
    simp only [binD] at q
    by_cases hm : mulOk i j = true
    · rw [if_pos (by rw [hm]; rfl)] at q
      exact op_mul pins s σ H _ _ v u Q I rx ry ⟨_, _, rfl, rfl, (by unfold mulOk at hm; have h2 := of_decide_eq_true hm; exact h2), q.here (.int _)⟩
    · by_cases hw : i.natAbs.log2 + j.natAbs.log2 < 1000000
      · rw [if_pos (by rw [decide_eq_true hw, Bool.or_true])] at q
        exact op_mulW pins s σ H _ _ v u Q I rx ry ⟨_, _, rfl, rfl, hw, q.here (.int _)⟩
      · rw [if_neg (by rw [Bool.or_eq_true]; rintro (z | z); exact hm z; exact hw (of_decide_eq_true z))] at q
        exact q.elim
  · obtain ⟨rfl, ox⟩ := hx.str_of
    cases hy.int_of
    simp only [binD] at q
    split at q
    · rename_i hl
      obtain ⟨h1, h2, h3⟩ := hl
      refine op_repS pins s σ H _ _ v u Q I rx ry ⟨_, _, rfl, rfl, h1, h2, h3, q.here (.str ⟨?_, fun c hc => ?_⟩)⟩
      · rw [PyProof.Rows.lm_len_rep_flat]
        exact Nat.le_trans (Nat.mul_le_mul (show Int.toNat _ ≤ 1000 by omega) h3) (by decide)
      · obtain ⟨l, hl, hc⟩ := List.mem_flatten.mp hc
        exact ox.2 c (List.eq_of_mem_replicate hl ▸ hc)
    · exact q.elim
  · obtain ⟨a, vs, rfl, sa, ra⟩ := hx.tup_of
    cases hy.int_of
    simp only [binD] at q
    split at q
    · rename_i hl
      obtain ⟨h1, h2, h3, h4⟩ := hl
      refine op_repN pins s σ H _ _ v u Q I rx ry ⟨a, _, vs, rfl, rfl, sa.sq, fun e => ?_, h2, h3, by rw [ra.length]; exact h4, fun p o ho hp => ?_⟩
      · subst e
        cases ra
        simp at h1
      · exact q.tup (by unfold repL; rw [PyProof.Rows.lm_len_rep_flat]; exact Nat.le_trans (Nat.mul_le_mul (show Int.toNat _ ≤ 1000 by omega) h4) (by decide)) (ra.flat _) ho hp
    · split at q
      · rename_i hl
        obtain ⟨h1, h2, h3⟩ := hl
        refine op_repT1 pins s σ H _ _ v u Q I rx ry ⟨a, _, vs, rfl, rfl, sa.sq, h1, h2, h3.imp (fun e => ?_) id, q.here (.tup hx.tupL sa ra)⟩
        have e := List.isEmpty_iff.mp e
        subst e
        cases ra
        rfl
      · rename_i hn
        split at q
        · rename_i hl
          refine op_rep0 pins s σ H _ _ v u Q I rx ry ⟨a, _, vs, rfl, rfl, sa.sq, fun e => ?_, hl.1, hl.2, fun p o ho hp => q.tup (Nat.zero_le _) .nil ho hp⟩
          subst e
          cases ra
          exact hn ⟨hl.1, by omega, .inl rfl⟩
        · exact q.elim
  · obtain ⟨a, vs, rfl, sa, ra⟩ := hx.lst_of
    cases hy.int_of
    simp only [binD] at q
    split at q
    · rename_i hl
      obtain ⟨h1, h2, h3⟩ := hl
      refine op_rep pins s σ H _ _ v u Q I rx ry ⟨a, _, vs, rfl, rfl, sa, h1, h2, by rw [ra.length, sizeLine_eq]; exact h3, fun p hp => ?_⟩
      exact q.lst t (by unfold repL; rw [PyProof.Rows.lm_len_rep_flat, Nat.mul_comm]; exact h3) (ra.flat _) hp
    · exact q.elim
theorem oc_eq (hu : X.A.units + 64 < cLine) : OpR X (compareOp .Eq) (rBin X.K .eq) := by
  intro pins s σ H x y v u Q I rx ry h
  obtain ⟨O, dx, dy, t, hx, hy, q⟩ := h
  have e : binD .eq dx dy = if dx.eqOk && dy.eqOk then .ok (.bl (D.eqv dx dy)) else .stuck := by cases dx <;> cases dy <;> rfl
  rw [e] at q
  split at q
  · rename_i hk
    rw [Bool.and_eq_true] at hk
    have px : dx.plain = true := by have := hk.1; unfold D.eqOk at this; simp at this; exact this.2
    have py : dy.plain = true := by have := hk.2; unfold D.eqOk at this; simp at this; exact this.2
    refine op_eqD hu pins s σ H _ _ v u Q I rx ry ⟨dx.py, dy.py, (hx.dp px).1, (hy.dp py).1, shaped_of hk.1 (hx.dp px).2, shaped_of hk.2 (hy.dp py).2, ?_⟩
    rw [eqv_py dx dy px py]
    exact q.here (.bl _)
  · exact q.elim
theorem oc_ne (hu : X.A.units + 64 < cLine) : OpR X (compareOp .NotEq) (rBin X.K .ne) := by
  intro pins s σ H x y v u Q I rx ry h
  obtain ⟨O, dx, dy, t, hx, hy, q⟩ := h
  have e : binD .ne dx dy = if dx.eqOk && dy.eqOk then .ok (.bl (!D.eqv dx dy)) else .stuck := by cases dx <;> cases dy <;> rfl
  rw [e] at q
  split at q
  · rename_i hk
    rw [Bool.and_eq_true] at hk
    have px : dx.plain = true := by have := hk.1; unfold D.eqOk at this; simp at this; exact this.2
    have py : dy.plain = true := by have := hk.2; unfold D.eqOk at this; simp at this; exact this.2
    refine op_neD hu pins s σ H _ _ v u Q I rx ry ⟨dx.py, dy.py, (hx.dp px).1, (hy.dp py).1, shaped_of hk.1 (hx.dp px).2, shaped_of hk.2 (hy.dp py).2, ?_⟩
    rw [eqv_py dx dy px py]
    exact q.here (.bl _)
  · exact q.elim
theorem oc_lt : OpR X (compareOp .Lt) (rBin X.K .lt) := by
  intro pins s σ H x y v u Q I rx ry h
  obtain ⟨O, dx, dy, t, hx, hy, q⟩ := h
  cases dx <;> cases dy <;> try (simp only [binD, LdV] at q; done)
  cases hx.int_of; cases hy.int_of
  exact op_lt pins s σ H _ _ v u Q I rx ry ⟨_, _, rfl, rfl, q.here (.bl _)⟩
theorem oc_le : OpR X (compareOp .LtE) (rBin X.K .le) := by
  intro pins s σ H x y v u Q I rx ry h
  obtain ⟨O, dx, dy, t, hx, hy, q⟩ := h
  cases dx <;> cases dy <;> try (simp only [binD, LdV] at q; done)
  cases hx.int_of; cases hy.int_of
  exact op_le pins s σ H _ _ v u Q I rx ry ⟨_, _, rfl, rfl, q.here (.bl _)⟩
theorem oc_gt : OpR X (compareOp .Gt) (rBin X.K .gt) := by
  intro pins s σ H x y v u Q I rx ry h
  obtain ⟨O, dx, dy, t, hx, hy, q⟩ := h
  cases dx <;> cases dy <;> try (simp only [binD, LdV] at q; done)
  cases hx.int_of; cases hy.int_of
  exact op_gt pins s σ H _ _ v u Q I rx ry ⟨_, _, rfl, rfl, q.here (.bl _)⟩
theorem oc_ge : OpR X (compareOp .GtE) (rBin X.K .ge) := by
  intro pins s σ H x y v u Q I rx ry h
  obtain ⟨O, dx, dy, t, hx, hy, q⟩ := h
  cases dx <;> cases dy <;> try (simp only [binD, LdV] at q; done)
  cases hx.int_of; cases hy.int_of
  exact op_ge pins s σ H _ _ v u Q I rx ry ⟨_, _, rfl, rfl, q.here (.bl _)⟩
theorem RepB.flat {O : Addr → Prop} {H : Hp} {v : V} {d : D} (r : RepB X.K O H v d) (f : d.flat = true) : flatV v = true := by
  cases r with
  | of r => cases r <;> first | rfl | (simp [D.flat] at f)
  | own _ _ _ => simp [D.flat] at f
theorem eqV_flat {O : Addr → Prop} {H : Hp} {v w : V} {d e : D} (r : RepB X.K O H v d) (q : RepB X.K O H w e) (f : d.flat = true) (g : e.flat = true) : eqV v w = D.eqv d e := by
  cases d <;> first | (simp [D.flat] at f; done) | skip
  all_goals cases e <;> first | (simp [D.flat] at g; done) | skip
  all_goals (try cases r.non_of) <;> (try cases r.bl_of) <;> (try cases r.int_of) <;> (try obtain ⟨rfl, _⟩ := r.str_of) <;> (try cases q.non_of) <;> (try cases q.bl_of) <;> (try cases q.int_of) <;> (try obtain ⟨rfl, _⟩ := q.str_of)
  all_goals simp only [eqV, D.eqv]
  rw [Bool.eq_iff_iff, beq_iff_eq, beq_iff_eq]
  exact ⟨sv_inj, fun e => by rw [e]⟩
theorem flat_all {O : Addr → Prop} {H : Hp} : ∀ {vs : List V} {ds : List D}, Reps X.K O H vs ds → ds.all D.flat = true → vs.all flatV = true
  | _, _, .nil, _ => rfl
  | _, _, .cons r t, f => by
    simp only [List.all_cons, Bool.and_eq_true] at f ⊢
    exact ⟨(RepB.of r).flat f.1, flat_all t f.2⟩
theorem inV_eq {O : Addr → Prop} {H : Hp} {v : V} {d : D} (q : RepB X.K O H v d) (g : d.flat = true) : ∀ {vs : List V} {ds : List D}, Reps X.K O H vs ds → ds.all D.flat = true → inV v vs = ds.any fun y => D.eqv y d
  | _, _, .nil, _ => rfl
  | _, _, .cons r t, f => by
    simp only [List.all_cons, Bool.and_eq_true] at f
    have ih := inV_eq q g t f.2
    unfold inV at ih ⊢
    simp only [List.any_cons]
    rw [eqV_flat (.of r) q f.1 g, ih]
theorem anyPy {d : D} (hd : d.plain = true) : ∀ {ds : List D}, D.plainL ds = true → (D.pyL ds).any (fun z => PyData.eqv z d.py) = ds.any fun y => D.eqv y d
  | [], _ => rfl
  | x :: xs, h => by
    simp only [D.plainL, Bool.and_eq_true] at h
    simp only [D.pyL, List.any_cons]
    rw [eqv_py x d h.1 hd, anyPy hd h.2]
theorem eqOk_plain {d : D} (h : d.eqOk = true) : d.plain = true := by
  unfold D.eqOk at h
  rw [Bool.and_eq_true] at h
  exact h.2
theorem oc_in (hu : X.A.units + 65 < cLine) (neg : Bool) : OpR X (compareOp (if neg then .NotIn else .In)) (rBin X.K (if neg then .notin else .isin)) := by
  intro pins s σ H x y v u Q I rx ry h
  obtain ⟨O, dx, dy, t, hx, hy, q⟩ := h
  have e : binD (if neg then .notin else .isin) dx dy = inD neg dx dy := by cases neg <;> cases dx <;> cases dy <;> rfl
  rw [e] at q
  have fin : ∀ {c : Bool}, LdV X.K O H (.ok (.bl (neg != c))) Q → Q (.bl (if neg then !c else c)) H := fun {c} h => by
    have := h.here (.bl _)
    cases neg <;> cases c <;> exact this
  cases dy with
  | tup xs =>
    obtain ⟨a, vs, rfl, sa, ra⟩ := hy.tup_of
    simp only [inD] at q
    split at q
    · rename_i hf
      rw [Bool.and_eq_true] at hf
      have w : rIn X.K neg x (.ref a) H Q := ⟨a, vs, rfl, .inr sa.sq, hx.flat hf.1, flat_all ra hf.2, by rw [inV_eq hx hf.1 ra hf.2]; exact fin q⟩
      cases neg
      · exact op_in_seq pins s σ H _ _ v u Q I rx ry w
      · exact op_notIn_seq pins s σ H _ _ v u Q I rx ry w
    · exact q.elim
  | lst xs =>
    obtain ⟨a, vs, rfl, sa, ra⟩ := hy.lst_of
    simp only [inD] at q
    split at q
    · rename_i hf
      rw [Bool.and_eq_true] at hf
      have w : rIn X.K neg x (.ref a) H Q := ⟨a, vs, rfl, .inl (SqL.of sa), hx.flat hf.1, flat_all ra hf.2, by rw [inV_eq hx hf.1 ra hf.2]; exact fin q⟩
      cases neg
      · exact op_in_seq pins s σ H _ _ v u Q I rx ry w
      · exact op_notIn_seq pins s σ H _ _ v u Q I rx ry w
    · split at q
      · rename_i hf
        rw [Bool.and_eq_true] at hf
        have p1 := eqOk_plain hf.1
        have p2 := eqOk_plain hf.2
        have e1 := hx.dp p1
        have e2 := hy.dp p2
        have p3 : D.plainL xs = true := by simpa [D.plain] using p2
        cases neg
        · exact op_inD hu pins s σ H _ _ v u Q I rx ry ⟨dx.py, D.pyL xs, e1.1, e2.1, shaped_of hf.1 e1.2, shaped_of hf.2 e2.2, by rw [anyPy p1 p3]; exact fin q⟩
        · exact op_notInD hu pins s σ H _ _ v u Q I rx ry ⟨dx.py, D.pyL xs, e1.1, e2.1, shaped_of hf.1 e1.2, shaped_of hf.2 e2.2, by rw [anyPy p1 p3]; exact fin q⟩
      · exact q.elim
  | str y =>
    cases dx <;> try (simp only [inD, LdV] at q; done)
    rename_i x
    cases x with
    | nil => simp only [inD, LdV] at q
    | cons c r =>
      cases r with
      | cons _ _ => simp only [inD, LdV] at q
      | nil =>
        simp only [inD] at q
        obtain ⟨rfl, _⟩ := hx.str_of
        obtain ⟨rfl, _⟩ := hy.str_of
        have := fin q
        cases neg
        · exact op_in_sign pins s σ H _ _ v u Q I rx ry ⟨c, sv y, rfl, rfl, by rw [sv_tl]; exact this⟩
        · exact op_notIn_sign pins s σ H _ _ v u Q I rx ry ⟨c, sv y, rfl, rfl, by rw [sv_tl]; exact this⟩
  | _ => simp only [inD, LdV] at q
end
end Ev
end
section
set_option Elab.async false
set_option linter.all false
set_option maxRecDepth 100000
set_option maxHeartbeats 2000000
namespace Ev
variable [Nm]
open PySem PySem.Spec PyProof.Rows L2

abbrev RepBs (K : PySem.W.Frag) (O : Addr → Prop) (H : Hp) : List V → List D → Prop := Paired (RepB K O H)
theorem RepBs.one {K O H vs d} (h : RepBs K O H vs [d]) : ∃ v, vs = [v] ∧ RepB K O H v d := by
  cases h with | cons r t => cases t; exact ⟨_, rfl, r⟩
theorem RepBs.two {K O H vs d e} (h : RepBs K O H vs [d, e]) : ∃ v w, vs = [v, w] ∧ RepB K O H v d ∧ RepB K O H w e := by
  cases h with | cons r t => cases t with | cons q t => cases t; exact ⟨_, _, rfl, r, q⟩
theorem RepBs.nil {K O H vs} (h : RepBs K O H vs []) : vs = [] := by cases h; rfl
theorem maxL_mem : ∀ (x : Int) (r : List Int), maxL (x :: r) ∈ x :: r
  | x, [] => by simp [maxL]
  | x, y :: r => by
    have ih := maxL_mem y r
    simp only [maxL]
    rcases Int.le_total (maxL (y :: r)) x with h | h
    · rw [Int.max_eq_left h]; simp
    · rw [Int.max_eq_right h]; exact List.mem_cons_of_mem _ ih
theorem le_maxL : ∀ (x : Int) (r : List Int) (z : Int), z ∈ x :: r → z ≤ maxL (x :: r)
  | x, [], z, h => by simp at h; simp [maxL, h]
  | x, y :: r, z, h => by
    simp only [maxL]
    rcases List.mem_cons.mp h with rfl | h
    · exact Int.le_max_left _ _
    · exact Int.le_trans (le_maxL y r z h) (Int.le_max_right _ _)
theorem minL_mem : ∀ (x : Int) (r : List Int), minL (x :: r) ∈ x :: r
  | x, [] => by simp [minL]
  | x, y :: r => by
    have ih := minL_mem y r
    simp only [minL]
    rcases Int.le_total x (minL (y :: r)) with h | h
    · rw [Int.min_eq_left h]; simp
    · rw [Int.min_eq_right h]; exact List.mem_cons_of_mem _ ih
theorem minL_le : ∀ (x : Int) (r : List Int) (z : Int), z ∈ x :: r → minL (x :: r) ≤ z
  | x, [], z, h => by simp at h; simp [minL, h]
  | x, y :: r, z, h => by
    simp only [minL]
    rcases List.mem_cons.mp h with rfl | h
    · exact Int.min_le_left _ _
    · exact Int.le_trans (Int.min_le_right _ _) (minL_le y r z h)
theorem insI_perm (x : Int) : ∀ r : List Int, (insI x r).Perm (x :: r)
  | [] => List.Perm.refl _
  | y :: r => by
    unfold insI
    split
    · exact List.Perm.refl _
    · exact ((insI_perm x r).cons y).trans (List.Perm.swap x y r)
theorem sortI_perm : ∀ r : List Int, (sortI r).Perm r
  | [] => List.Perm.refl _
  | x :: r => (insI_perm x (sortI r)).trans ((sortI_perm r).cons x)
theorem insI_sorted (x : Int) : ∀ r : List Int, r.Pairwise (· ≤ ·) → (insI x r).Pairwise (· ≤ ·)
  | [], _ => by simp [insI]
  | y :: r, h => by
    unfold insI
    have h' := List.pairwise_cons.mp h
    split
    · rename_i hx
      refine List.pairwise_cons.mpr ⟨fun z hz => ?_, h⟩
      rcases List.mem_cons.mp hz with rfl | hz
      · exact hx
      · exact Int.le_trans hx (h'.1 z hz)
    · rename_i hx
      refine List.pairwise_cons.mpr ⟨fun z hz => ?_, insI_sorted x r h'.2⟩
      rcases List.mem_cons.mp ((insI_perm x r).mem_iff.mp hz) with rfl | hz
      · omega
      · exact h'.1 z hz
theorem sortI_sorted : ∀ r : List Int, (sortI r).Pairwise (· ≤ ·)
  | [] => List.Pairwise.nil
  | x :: r => insI_sorted x _ (sortI_sorted r)
theorem sortI_is {ns r : List Int} (p : ns.Perm r) (s : ns.Pairwise (· ≤ ·)) : ns = sortI r :=
  (p.trans (sortI_perm r).symm).eq_of_pairwise (fun _ _ _ _ h1 h2 => Int.le_antisymm h1 h2) s (sortI_sorted r)
def rBI (K : PySem.W.Frag) (b : BI) : List V → Hp → VK → Prop := fun xs H Q => ∃ O ds, Trk O H ∧ RepBs K O H xs ds ∧ LdV K O H (biD b ds) Q
def BI.val : BI → Value
  | .len => .builtin "len" | .int => .type "int" | .str => .type "str" | .abs => .builtin "abs" | .min2 => .builtin "min" | .max2 => .builtin "max" | .min1 => .builtin "min" | .max1 => .builtin "max"
  | .sum => .builtin "sum" | .sorted => .builtin "sorted" | .tuple => .type "tuple" | .list => .type "list" | .all => .builtin "all" | .any => .builtin "any" | .sortedR => .builtin "sorted"
section
variable {X : Cx}
theorem cb_len : CallR X (.builtin "len") (rBI X.K .len) := by
  intro pins s σ H xs us Q I r h
  obtain ⟨O, ds, t, hx, q⟩ := h
  match ds, hx, q with
  | [.str x], hx, q =>
    obtain ⟨v, rfl, h1⟩ := hx.one
    obtain ⟨rfl, ox⟩ := h1.str_of
    exact call_len pins s σ H _ us Q I r ⟨_, _, rfl, ⟨by rw [sv_len, sizeLine_eq]; exact ox.1, rfl⟩, by rw [sv_len]; exact q.here (.int _)⟩
  | [.tup x], hx, q =>
    obtain ⟨v, rfl, h1⟩ := hx.one
    obtain ⟨a, vs, rfl, sa, ra⟩ := h1.tup_of
    exact call_len pins s σ H _ us Q I r ⟨_, _, rfl, .inr ⟨vs, sa.sq, rfl⟩, by rw [ra.length]; exact q.here (.int _)⟩
  | [.lst x], hx, q =>
    obtain ⟨v, rfl, h1⟩ := hx.one
    obtain ⟨a, vs, rfl, sa, ra⟩ := h1.lst_of
    exact call_len pins s σ H _ us Q I r ⟨_, _, rfl, .inl ⟨vs, SqL.of sa, rfl⟩, by rw [ra.length]; exact q.here (.int _)⟩
  | [.frl x], hx, q =>
    obtain ⟨v, rfl, h1⟩ := hx.one
    obtain ⟨a, vs, rfl, sa, ra⟩ := h1.frl_of
    exact call_len pins s σ H _ us Q I r ⟨_, _, rfl, .inl ⟨vs, sa.sq, rfl⟩, by rw [ra.length]; exact q.here (.int _)⟩
theorem cb_int : CallR X (.type "int") (rBI X.K .int) := by
  intro pins s σ H xs us Q I r h
  obtain ⟨O, ds, t, hx, q⟩ := h
  match ds, hx, q with
  | [.int x], hx, q =>
    obtain ⟨v, rfl, h1⟩ := hx.one
    cases h1.int_of
    exact call_int1 pins s σ H _ us Q I r (.inl ⟨_, rfl, q.here (.int _)⟩)
  | [.bl x], hx, q =>
    obtain ⟨v, rfl, h1⟩ := hx.one
    cases h1.bl_of
    exact call_int1 pins s σ H _ us Q I r (.inr ⟨_, rfl, q.here (.int _)⟩)
theorem txtI_sv (i : Int) : sv (txtI i) = Str.ofString (toString i) := sv_of _
theorem ofString_codes (s : String) : ∀ c ∈ (Str.ofString s).cps.toList, c < 1114112 := by
  intro c hc
  have e : (Str.ofString s).cps.toList = s.toList.map fun c => c.toNat := by rw [Str.ofString_eq_toList]
  rw [e] at hc
  obtain ⟨d, _, rfl⟩ := List.mem_map.mp hc
  have h := d.valid
  have : d.toNat = d.val.toNat := rfl
  rcases h with h | ⟨_, h⟩
  · have : d.val.toNat < 0xd800 := h
    omega
  · have : d.val.toNat < 0x110000 := h
    omega
theorem txtI_ok {i : Int} (h : i.natAbs.log2 < 1920) : txtOk (txtI i) := by
  have e := PySem.int_text_fits h
  rw [sizeLine_eq] at e
  refine ⟨?_, ofString_codes _⟩
  have : (Str.ofString (toString i)).length = (txtI i).length := by unfold txtI Str.length; simp
  omega
theorem cb_str : CallR X (.type "str") (rBI X.K .str) := by
  intro pins s σ H xs us Q I r h
  obtain ⟨O, ds, t, hx, q⟩ := h
  match ds, hx, q with
  | [.int x], hx, q =>
    obtain ⟨v, rfl, h1⟩ := hx.one
    cases h1.int_of
    simp only [biD] at q
    split at q
    · rename_i hz
      refine call_str_int pins s σ H _ us Q I r ⟨_, rfl, hz, ?_⟩
      have := q.here (.str (txtI_ok hz))
      rw [txtI_sv] at this
      exact this
    · exact q.elim
  | [.str x], hx, q =>
    obtain ⟨v, rfl, h1⟩ := hx.one
    obtain ⟨rfl, ox⟩ := h1.str_of
    exact SkE.call_str_str pins s σ H _ us Q I r ⟨_, rfl, q.here (.str ox)⟩
theorem cb_abs : CallR X (.builtin "abs") (rBI X.K .abs) := by
  intro pins s σ H xs us Q I r h
  obtain ⟨O, ds, t, hx, q⟩ := h
  match ds, hx, q with
  | [.int x], hx, q =>
    obtain ⟨v, rfl, h1⟩ := hx.one
    cases h1.int_of
    exact call_abs pins s σ H _ us Q I r ⟨_, rfl, q.here (.int _)⟩
theorem cb_min2 (hc : X.calm = true) : CallR X (.builtin "min") (rBI X.K .min2) := by
  intro pins s σ H xs us Q I r h
  obtain ⟨O, ds, t, hx, q⟩ := h
  match ds, hx, q with
  | [.int x, .int y], hx, q =>
    obtain ⟨v, w, rfl, h1, h2⟩ := hx.two
    cases h1.int_of; cases h2.int_of
    exact call_min2 hc pins s σ H _ us Q I r ⟨_, _, rfl, q.here (.int _)⟩
theorem cb_max2 (hc : X.calm = true) : CallR X (.builtin "max") (rBI X.K .max2) := by
  intro pins s σ H xs us Q I r h
  obtain ⟨O, ds, t, hx, q⟩ := h
  match ds, hx, q with
  | [.int x, .int y], hx, q =>
    obtain ⟨v, w, rfl, h1, h2⟩ := hx.two
    cases h1.int_of; cases h2.int_of
    exact call_max2 hc pins s σ H _ us Q I r ⟨_, _, rfl, q.here (.int _)⟩
theorem cb_max1 (hc : X.calm = true) : CallR X (.builtin "max") (rBI X.K .max1) := by
  intro pins s σ H xs us Q I r h
  obtain ⟨O, ds, t, hx, q⟩ := h
  match ds, hx, q with
  | [.lst x], hx, q =>
    obtain ⟨v, rfl, h1⟩ := hx.one
    obtain ⟨a, vs, rfl, sa, ra⟩ := h1.lst_of
    simp only [biD] at q
    split at q
    · rename_i i r' e
      have ev := ra.of_ints e
      subst ev
      refine cr_max hc pins s σ H _ us Q I r ⟨a, _, rfl, SqL.of sa, by simp, fun m hm hle => ?_⟩
      have : m = maxL (i :: r') := Int.le_antisymm (le_maxL i r' m hm) (hle _ (maxL_mem i r'))
      rw [this]; exact q.here (.int _)
    · exact q.elim
theorem cb_min1 (hc : X.calm = true) : CallR X (.builtin "min") (rBI X.K .min1) := by
  intro pins s σ H xs us Q I r h
  obtain ⟨O, ds, t, hx, q⟩ := h
  match ds, hx, q with
  | [.lst x], hx, q =>
    obtain ⟨v, rfl, h1⟩ := hx.one
    obtain ⟨a, vs, rfl, sa, ra⟩ := h1.lst_of
    simp only [biD] at q
    split at q
    · rename_i i r' e
      have ev := ra.of_ints e
      subst ev
      refine cr_min hc pins s σ H _ us Q I r ⟨a, _, rfl, SqL.of sa, by simp, fun m hm hle => ?_⟩
      have : m = minL (i :: r') := Int.le_antisymm (hle _ (minL_mem i r')) (minL_le i r' m hm)
      rw [this]; exact q.here (.int _)
    · exact q.elim
theorem cb_sum (hc : X.calm = true) : CallR X (.builtin "sum") (rBI X.K .sum) := by
  intro pins s σ H xs us Q I r h
  obtain ⟨O, ds, t, hx, q⟩ := h
  match ds, hx, q with
  | [.lst x], hx, q =>
    obtain ⟨v, rfl, h1⟩ := hx.one
    obtain ⟨a, vs, rfl, sa, ra⟩ := h1.lst_of
    simp only [biD] at q
    split at q
    · rename_i r' e
      have ev := ra.of_ints e
      subst ev
      exact cr_sum hc pins s σ H _ us Q I r ⟨a, _, rfl, SqL.of sa, q.here (.int _)⟩
    · exact q.elim
theorem cb_sorted : CallR X (.builtin "sorted") (rBI X.K .sorted) := by
  intro pins s σ H xs us Q I r h
  obtain ⟨O, ds, t, hx, q⟩ := h
  match ds, hx, q with
  | [.lst x], hx, q =>
    obtain ⟨v, rfl, h1⟩ := hx.one
    obtain ⟨a, vs, rfl, sa, ra⟩ := h1.lst_of
    simp only [biD] at q
    split at q
    · rename_i r' e
      have ev := ra.of_ints e
      subst ev
      refine cr_sortedI pins s σ H _ us Q I r ⟨a, _, rfl, SqL.of sa, fun ns' p pe so hp => ?_⟩
      rw [sortI_is pe so]
      exact q.lst t (by rw [List.length_map, ((sortI_perm _).length_eq)]; have := h1.lstL; rw [← ra.length] at this; simpa using this) (Reps.ints _) hp
    · exact q.elim
  | [.tup x], hx, q =>
    obtain ⟨v, rfl, h1⟩ := hx.one
    obtain ⟨a, vs, rfl, sa, ra⟩ := h1.tup_of
    simp only [biD] at q
    split at q
    · rename_i r' e
      have ev := ra.of_ints e
      subst ev
      refine cr_sortedT pins s σ H _ us Q I r ⟨a, _, rfl, sa.sq, fun ns' p pe so hp => ?_⟩
      rw [sortI_is pe so]
      exact q.lst t (by rw [List.length_map, ((sortI_perm _).length_eq)]; have := h1.tupL; rw [← ra.length] at this; simpa using this) (Reps.ints _) hp
    · exact q.elim
theorem cb_all (hc : X.calm = true) : CallR X (.builtin "all") (rBI X.K .all) := by
  intro pins s σ H xs us Q I r h
  obtain ⟨O, ds, t, hx, q⟩ := h
  match ds, hx, q with
  | [.lst x], hx, q =>
    obtain ⟨v, rfl, h1⟩ := hx.one
    obtain ⟨a, vs, rfl, sa, ra⟩ := h1.lst_of
    simp only [biD] at q
    split at q
    · rename_i r' e
      have ev := ra.of_bls e
      subst ev
      exact cr_all hc pins s σ H _ us Q I r ⟨a, _, rfl, SqL.of sa, q.here (.bl _)⟩
    · exact q.elim
theorem cb_any (hc : X.calm = true) : CallR X (.builtin "any") (rBI X.K .any) := by
  intro pins s σ H xs us Q I r h
  obtain ⟨O, ds, t, hx, q⟩ := h
  match ds, hx, q with
  | [.lst x], hx, q =>
    obtain ⟨v, rfl, h1⟩ := hx.one
    obtain ⟨a, vs, rfl, sa, ra⟩ := h1.lst_of
    simp only [biD] at q
    split at q
    · rename_i r' e
      have ev := ra.of_bls e
      subst ev
      exact cr_any hc pins s σ H _ us Q I r ⟨a, _, rfl, SqL.of sa, q.here (.bl _)⟩
    · exact q.elim
theorem cb_list : CallR X (.type "list") (rBI X.K .list) := by
  intro pins s σ H xs us Q I r h
  obtain ⟨O, ds, t, hx, q⟩ := h
  match ds, hx, q with
  | [.tup x], hx, q =>
    obtain ⟨v, rfl, h1⟩ := hx.one
    obtain ⟨a, vs, rfl, sa, ra⟩ := h1.tup_of
    exact call_list_of pins s σ H _ us Q I r ⟨a, vs, rfl, .inr sa.sq, fun l hl => q.lst t h1.tupL ra hl⟩
  | [.lst x], hx, q =>
    obtain ⟨v, rfl, h1⟩ := hx.one
    obtain ⟨a, vs, rfl, sa, ra⟩ := h1.lst_of
    exact call_list_of pins s σ H _ us Q I r ⟨a, vs, rfl, .inl (SqL.of sa), fun l hl => q.lst t h1.lstL ra hl⟩
theorem cb_tuple : CallR X (.type "tuple") (rBI X.K .tuple) := by
  intro pins s σ H xs us Q I r h
  obtain ⟨O, ds, t, hx, q⟩ := h
  match ds, hx, q with
  | [.tup x], hx, q =>
    obtain ⟨v, rfl, h1⟩ := hx.one
    obtain ⟨a, vs, rfl, sa, ra⟩ := h1.tup_of
    exact call_tupN pins s σ H _ us Q I r ⟨a, vs, rfl, .inr ⟨sa.sq, q.here (.tup h1.tupL sa ra)⟩⟩
  | [.lst x], hx, q =>
    obtain ⟨v, rfl, h1⟩ := hx.one
    obtain ⟨a, vs, rfl, sa, ra⟩ := h1.lst_of
    exact call_tupN pins s σ H _ us Q I r ⟨a, vs, rfl, .inl ⟨SqL.of sa, fun l o ho hl => q.tup h1.lstL ra ho hl⟩⟩
end
end Ev
end
section
set_option Elab.async false
set_option linter.all false
set_option maxRecDepth 100000
set_option maxHeartbeats 2000000
namespace Ev
variable [Nm]
open PySem PySem.Spec PyProof.Rows L2

abbrev St := L2.St
structure LmD where
  ps : List Str
  fr : List Str
  params : Arguments
  body : Expr
  scope : Scope
  mkr : Nat
structure Cfg where
  P : Program
  w : World
  K : PySem.W.Frag
  mg : Str → Option Value
  base : Heap
  fNm : Nat → Str
  fPs : Nat → List Str
  fAd : Nat → Addr
  fFd : Nat → FuncData
  cNm : Nat → Str
  cFl : Nat → List Str
  cAd : Nat → Addr
  cIn : Nat → Addr
  cFd : Nat → FuncData
  cPs : Nat → List Str
  nF : Nat
  nC : Nat
  cons : List (Str × D)
  tabs : List (Str × List (Str × D))
  bins : List (Str × String)
  lts : List Addr
  lam : Nat → LmD
  mkr : Nat → Bool
  ho : Nat → Bool
  isl : Nat → Bool
  clo : Addr → Nat → List D → Prop
def XF (g : Cfg) (O : Addr → Prop) (H : Hp) (c : Nat) (fs : List D) (d : Addr) : Prop :=
  ∃ fl, H d = some (.xd fl) ∧ ∀ (j : Nat) (n : Str), (g.cFl c)[j]? = some n → ∃ (v : V) (e : D), fs[j]? = some e ∧ fl.lookup n = some v ∧ Rep g.K O H v e
structure XI where
  a : Addr
  c : Nat
  fs : List D
  d : Addr
def Own (O : Addr → Prop) (σ : St) (ρ : Rho) : Addr → Prop := fun a => O a ∨ ∃ (i : Nat) (xs : List D), ρ[i]? = some (.own xs) ∧ σ[i]? = some (some (.ref a))
def Tabs (T : List Addr) (H : Hp) : Prop := ∀ p ∈ T, TabO H p
def CloS (g : Cfg) (σ : St) (ρ : Rho) : Prop := ∀ (i l : Nat) (cs : List D), ρ[i]? = some (.clo l cs) → ∃ f, σ[i]? = some (some (.ref f)) ∧ g.clo f l cs
theorem CloS.set {g : Cfg} {σ : St} {ρ : Rho} (h : CloS g σ ρ) {i : Nat} {v : Option V} {s : Slot} (hs : ∀ l cs, s ≠ .clo l cs) : CloS g (σ.set i v) (ρ.set i s) := fun j l cs e => by
  by_cases hj : i = j
  · subst hj
    rw [List.getElem?_set] at e
    simp only [if_true] at e
    split at e
    · exact (hs l cs (Option.some.inj e)).elim
    · cases e
  · rw [List.getElem?_set_ne hj] at e ⊢
    exact h j l cs e
theorem CloS.set1 {g : Cfg} {σ : St} {ρ : Rho} (h : CloS g σ ρ) {i : Nat} {s : Slot} (hs : ∀ l cs, s ≠ .clo l cs) : CloS g σ (ρ.set i s) := fun j l cs e => by
  by_cases hj : i = j
  · subst hj
    rw [List.getElem?_set] at e
    simp only [if_true] at e
    split at e
    · exact (hs l cs (Option.some.inj e)).elim
    · cases e
  · rw [List.getElem?_set_ne hj] at e
    exact h j l cs e
structure EI (g : Cfg) (O : Addr → Prop) (H0 : Hp) (xi : Option XI) (σ : St) (H : Hp) (ρ : Rho) : Prop where
  len : ρ.length = σ.length
  same : Sm H0 H
  trk : Trk O H
  val : ∀ (i : Nat) (d : D), ρ[i]? = some (.val d) → ∃ v, σ[i]? = some (some v) ∧ Rep g.K (Own O σ ρ) H v d
  own : ∀ (i : Nat) (xs : List D), ρ[i]? = some (.own xs) → ∃ a vs, σ[i]? = some (some (.ref a)) ∧ H a = some (.lst vs) ∧ H0 a = none ∧ Reps g.K (Own O σ ρ) H vs xs ∧ xs.length ≤ 16777216
  inj : ∀ (i j : Nat) (xs ys : List D) (a : Addr), ρ[i]? = some (.own xs) → ρ[j]? = some (.own ys) → σ[i]? = some (some (.ref a)) → σ[j]? = some (some (.ref a)) → i = j
  exc : ∀ (i c : Nat) (fs : List D), ρ[i]? = some (.exc c fs) → ∃ x, xi = some x ∧ x.c = c ∧ x.fs = fs ∧ σ[i]? = some (some (.ref x.a)) ∧ XF g (Own O σ ρ) H c fs x.d
  tab : Tabs g.lts H
  clo : CloS g σ ρ
theorem Tabs.sm {T : List Addr} {H H' : Hp} (t : Tabs T H) (s : Sm H H') : Tabs T H' := fun p hp => s.tq _ (t p hp)
section
variable {g : Cfg} {O : Addr → Prop} {H0 H H' : Hp} {xi : Option XI} {σ σ' : St} {ρ ρ' : Rho}
theorem XF.gro {O : Addr → Prop} {H H' : Hp} {c : Nat} {fs : List D} {d : Addr} (h : Gro O H H') (x : XF g O H c fs d) : XF g O H' c fs d := by
  obtain ⟨fl, e, q⟩ := x
  refine ⟨fl, ?_, fun j n hj => ?_⟩
  · rcases h d _ e (fun _ z => nomatch z) with z | ⟨_, xs, z⟩
    · exact z
    · cases z
  · obtain ⟨v, e, h1, h2, h3⟩ := q j n hj
    exact ⟨v, e, h1, h2, h3.gro h⟩
theorem EI.trkO (I : EI g O H0 xi σ H ρ) : Trk (Own O σ ρ) H := fun a h => by
  rcases h with h | ⟨i, xs, h1, h2⟩
  · exact I.trk a h
  · obtain ⟨b, vs, e1, e2, _⟩ := I.own i xs h1
    rw [h2] at e1; cases e1
    exact ⟨vs, e2⟩
theorem EI.more (I : EI g O H0 xi σ H ρ) (s : Sm H H') : EI g O H0 xi σ H' ρ where
  len := I.len
  same := I.same.trans s
  trk := I.trk.same s
  val := fun i d e => let ⟨v, h1, h2⟩ := I.val i d e; ⟨v, h1, h2.gro (Gro.of s)⟩
  own := fun i xs e => let ⟨a, vs, h1, h2, h3, h4, h5⟩ := I.own i xs e; ⟨a, vs, h1, s _ _ h2 (fun _ z => nomatch z), h3, h4.gro (Gro.of s), h5⟩
  inj := I.inj
  exc := fun i c fs e => let ⟨x, h1, h2, h3, h4, h5⟩ := I.exc i c fs e; ⟨x, h1, h2, h3, h4, h5.gro (Gro.of s)⟩
  tab := Tabs.sm I.tab s
  clo := I.clo

def LdE (g : Cfg) (W : WX) (O : Addr → Prop) (σ : St) (H : Hp) (r : R D) (Q : VK) : Prop := match r with
  | .ok d => ∀ v H', Sm H H' → Rep g.K O H' v d → Q v H'
  | .err c fs => ∀ d H', Sm H H' → XF g O H' c fs d → W (.ref (g.cAd c)) (some d) σ H'
  | .stuck => False
def LdB (g : Cfg) (W : WX) (O : Addr → Prop) (σ : St) (H : Hp) (r : R D) (b : Bool) (Q : VK) : Prop := match r with
  | .ok d => ∀ v H', Sm H H' → RepB g.K O H' v d → (b = false → Rep g.K O H' v d) → Q v H'
  | .err c fs => ∀ d H', Sm H H' → XF g O H' c fs d → W (.ref (g.cAd c)) (some d) σ H'
  | .stuck => False
def rE (g : Cfg) (O : Addr → Prop) (H0 : Hp) (xi : Option XI) (W : WX) (f : Rho → R D) : TE := fun σ H Q => ∃ ρ, EI g O H0 xi σ H ρ ∧ LdE g W (Own O σ ρ) σ H (f ρ) Q
def rB (g : Cfg) (O : Addr → Prop) (H0 : Hp) (xi : Option XI) (W : WX) (f : Rho → R D) (b : Rho → Bool) : TE := fun σ H Q => ∃ ρ, EI g O H0 xi σ H ρ ∧ LdB g W (Own O σ ρ) σ H (f ρ) (b ρ) Q
def LdG {α : Type} (g : Cfg) (W : WX) (O : Addr → Prop) (σ : St) (H : Hp) (r : R α) (S : α → Hp → Prop) : Prop := match r with
  | .ok a => ∀ H', Sm H H' → S a H'
  | .err c fs => ∀ d H', Sm H H' → XF g O H' c fs d → W (.ref (g.cAd c)) (some d) σ H'
  | .stuck => False
variable {W : WX} {OO : Addr → Prop} {Q S : VK}
theorem LdE.more {r : R D} (h : LdE g W OO σ H r Q) (s : Sm H H') : LdE g W OO σ H' r Q := by
  cases r with
  | ok d => exact fun v H2 s2 r => h v H2 (s.trans s2) r
  | err c fs => exact fun d H2 s2 x => h d H2 (s.trans s2) x
  | stuck => exact h
theorem LdB.more {r : R D} {b : Bool} (h : LdB g W OO σ H r b Q) (s : Sm H H') : LdB g W OO σ H' r b Q := by
  cases r with
  | ok d => exact fun v H2 s2 r => h v H2 (s.trans s2) r
  | err c fs => exact fun d H2 s2 x => h d H2 (s.trans s2) x
  | stuck => exact h
theorem LdG.more {α : Type} {r : R α} {S : α → Hp → Prop} (h : LdG g W OO σ H r S) (s : Sm H H') : LdG g W OO σ H' r S := by
  cases r with
  | ok d => exact fun H2 s2 => h H2 (s.trans s2)
  | err c fs => exact fun d H2 s2 x => h d H2 (s.trans s2) x
  | stuck => exact h
theorem LdE.bindB {r : R D} {bb : Bool} {k : D → R D} (h : LdE g W OO σ H (r >>= k) Q) (c : ∀ x v H1, r = .ok x → Sm H H1 → RepB g.K OO H1 v x → LdE g W OO σ H1 (k x) Q → S v H1) : LdB g W OO σ H r bb S := by
  cases r with
  | ok d => exact fun v H2 s2 r _ => c d v H2 rfl s2 r (LdE.more h s2)
  | err c fs => exact h
  | stuck => exact h
theorem LdE.bindE {r : R D} {k : D → R D} (h : LdE g W OO σ H (r >>= k) Q) (c : ∀ x v H1, r = .ok x → Sm H H1 → Rep g.K OO H1 v x → LdE g W OO σ H1 (k x) Q → S v H1) : LdE g W OO σ H r S := by
  cases r with
  | ok d => exact fun v H2 s2 r => c d v H2 rfl s2 r (LdE.more h s2)
  | err c fs => exact h
  | stuck => exact h
theorem LdG.bindB {α : Type} {r : R D} {bb : Bool} {k : D → R α} {S' : α → Hp → Prop} (h : LdG g W OO σ H (r >>= k) S') (c : ∀ x v H1, r = .ok x → Sm H H1 → RepB g.K OO H1 v x → LdG g W OO σ H1 (k x) S' → S v H1) : LdB g W OO σ H r bb S := by
  cases r with
  | ok d => exact fun v H2 s2 r _ => c d v H2 rfl s2 r (LdG.more h s2)
  | err c fs => exact h
  | stuck => exact h
theorem LdG.bindC {α : Type} {r : R D} {bb : Bool} {k : D → R α} {S' : α → Hp → Prop} (h : LdG g W OO σ H (r >>= k) S') (c : ∀ x v H1, r = .ok x → Sm H H1 → RepB g.K OO H1 v x → (bb = false → Rep g.K OO H1 v x) → LdG g W OO σ H1 (k x) S' → S v H1) : LdB g W OO σ H r bb S := by
  cases r with
  | ok d => exact fun v H2 s2 r z => c d v H2 rfl s2 r z (LdG.more h s2)
  | err c fs => exact h
  | stuck => exact h
theorem LdG.bindE {α : Type} {r : R D} {k : D → R α} {S' : α → Hp → Prop} (h : LdG g W OO σ H (r >>= k) S') (c : ∀ x v H1, r = .ok x → Sm H H1 → Rep g.K OO H1 v x → LdG g W OO σ H1 (k x) S' → S v H1) : LdE g W OO σ H r S := by
  cases r with
  | ok d => exact fun v H2 s2 r => c d v H2 rfl s2 r (LdG.more h s2)
  | err c fs => exact h
  | stuck => exact h
theorem LdE.v {r : R D} (h : LdE g W OO σ H r Q) (ne : ∀ c fs, r ≠ .err c fs) : LdV g.K OO H r Q := by
  cases r with
  | ok d => exact h
  | err c fs => exact (ne c fs rfl).elim
  | stuck => exact h
theorem binD_ne {o : Op2} {x y : D} : ∀ c fs, binD o x y ≠ .err c fs := by
  intro c fs
  unfold binD inD
  repeat' split
  all_goals (intro h; cases h)
end
end Ev
end
section
set_option Elab.async false
set_option linter.all false
set_option maxRecDepth 100000
set_option maxHeartbeats 2000000
namespace Ev
variable [Nm]
open PySem PySem.Spec PyProof.Rows L2

theorem PE.by' {X : Cx} {e : Expr} {t t' : TE} (h : PE X e t) (i : ∀ σ H Q, t' σ H Q → t σ H Q) : PE X e t' := ⟨fun pins s σ H Q I q => h.run pins s σ H Q I (i σ H Q q)⟩
theorem PT.by' {X : Cx} {e : Expr} {t t' : TT} (h : PT X e t) (i : ∀ σ H Q, t' σ H Q → t σ H Q) : PT X e t' := ⟨fun pins s σ H Q I q => h.run pins s σ H Q I (i σ H Q q)⟩
theorem PA.by' {X : Cx} {e : List Expr} {t t' : TA} (h : PA X e t) (i : ∀ σ H Q, t' σ H Q → t σ H Q) : PA X e t' := ⟨fun pos pins s σ H Q I q => h.run pos pins s σ H Q I (i σ H Q q)⟩
theorem PE.stk {X : Cx} {e : Expr} : PE X e (fun _ _ _ => False) := ⟨fun _ _ _ _ _ _ q => q.elim⟩
section
variable {g : Cfg} {O : Addr → Prop} {H0 : Hp} {xi : Option XI} {W : WX} {X : Cx} {T : Tb}
def rT (g : Cfg) (O : Addr → Prop) (H0 : Hp) (xi : Option XI) (W : WX) (f : Rho → R Bool) : TT := fun σ H Q => ∃ ρ, EI g O H0 xi σ H ρ ∧ LdG g W (Own O σ ρ) σ H (f ρ) Q
def rA (g : Cfg) (O : Addr → Prop) (H0 : Hp) (xi : Option XI) (W : WX) (f : Rho → R (List D)) : TA := fun σ H Q => ∃ ρ, EI g O H0 xi σ H ρ ∧ LdG g W (Own O σ ρ) σ H (f ρ) (fun ds H' => ∀ vs, Reps g.K (Own O σ ρ) H' vs ds → Q vs H')
def rAB (g : Cfg) (O : Addr → Prop) (H0 : Hp) (xi : Option XI) (W : WX) (f : Rho → R (List D)) : TA := fun σ H Q => ∃ ρ, EI g O H0 xi σ H ρ ∧ LdG g W (Own O σ ρ) σ H (f ρ) (fun ds H' => ∀ vs, RepBs g.K (Own O σ ρ) H' vs ds → Q vs H')
abbrev SE (g : Cfg) (O : Addr → Prop) (H0 : Hp) (xi : Option XI) (W : WX) (T : Tb) (X : Cx) (e : Expr) (c : CE) : Prop := PE X e (rE g O H0 xi W (evE T c))
abbrev SB (g : Cfg) (O : Addr → Prop) (H0 : Hp) (xi : Option XI) (W : WX) (T : Tb) (X : Cx) (e : Expr) (c : CE) : Prop := PE X e (rB g O H0 xi W (evB T c) (ownArg · c))
abbrev ST' (g : Cfg) (O : Addr → Prop) (H0 : Hp) (xi : Option XI) (W : WX) (T : Tb) (X : Cx) (e : Expr) (c : CT) : Prop := PT X e (rT g O H0 xi W (evT T c))
theorem rE_B {f : Rho → R D} {σ : St} {H : Hp} {Q : VK} (h : rE g O H0 xi W f σ H fun v H' => Q v H') : rE g O H0 xi W f σ H Q := h
theorem LdE.toB {OO : Addr → Prop} {σ : St} {H : Hp} {r : R D} {b : Bool} {Q : VK} (h : LdB g W OO σ H r b Q) : LdE g W OO σ H r Q := by
  cases r with
  | ok d => exact fun v H' s q => h v H' s (.of q) fun _ => q
  | err c fs => exact h
  | stuck => exact h
def CE.isVar : CE → Bool
  | .var _ => true
  | _ => false
theorem evB_of {c : CE} (h : c.isVar = false) (ρ : Rho) : evB T c ρ = evE T c ρ := by cases c <;> first | rfl | (simp [CE.isVar] at h)
theorem SB.of {e : Expr} {c : CE} (h : SE g O H0 xi W T X e c) (hv : c.isVar = false) : SB g O H0 xi W T X e c :=
  PE.by' h fun σ H Q ⟨ρ, I, q⟩ => ⟨ρ, I, by rw [evB_of hv] at q; exact LdE.toB q⟩
theorem s_var {i : Nat} {x : Str} {pos : Pos} (hN : X.N[i]? = some x) (hv : Vis X.env.scope x) (hd : (x == ("__debug__" : Str)) = false) (hcd : (x == ("__classdict__" : Str)) = false) : SE g O H0 xi W T X (.Name x pos) (.var i) :=
  PE.by' (pe_var hN hv hd hcd) fun σ H Q ⟨ρ, I, q⟩ => by
    simp only [evE] at q
    unfold slotE at q
    split at q
    · rename_i d e
      obtain ⟨v, h1, h2⟩ := I.val i d e
      exact ⟨v, h1, q v H (Sm.refl H) h2⟩
    · exact q.elim
theorem s_varB {i : Nat} {x : Str} {pos : Pos} (hN : X.N[i]? = some x) (hv : Vis X.env.scope x) (hd : (x == ("__debug__" : Str)) = false) (hcd : (x == ("__classdict__" : Str)) = false) : SB g O H0 xi W T X (.Name x pos) (.var i) :=
  PE.by' (pe_var hN hv hd hcd) fun σ H Q ⟨ρ, I, q⟩ => by
    simp only [evB, bor] at q
    unfold slotB at q
    split at q
    · rename_i d e
      obtain ⟨v, h1, h2⟩ := I.val i d e
      exact ⟨v, h1, q v H (Sm.refl H) (.of h2) fun _ => h2⟩
    · rename_i xs e
      obtain ⟨a, vs, h1, h2, h3, h4, h5⟩ := I.own i xs e
      exact ⟨_, h1, q _ H (Sm.refl H) (.own h5 h2 h4) fun z => by simp only [ownArg, isOwn, e] at z; cases z⟩
    · exact q.elim
theorem s_stk {e : Expr} : SE g O H0 xi W T X e .stk := PE.by' PE.stk fun σ H Q ⟨ρ, I, q⟩ => q
theorem s_int {i : Int} {j pos} : SE g O H0 xi W T X (.Constant (.int i) j pos) (.cst (.int i)) := PE.by' pe_int fun σ H Q ⟨ρ, I, q⟩ => q _ H (Sm.refl H) (.int i)
theorem s_bl {i : Bool} {j pos} : SE g O H0 xi W T X (.Constant (.bool i) j pos) (.cst (.bl i)) := PE.by' pe_bl fun σ H Q ⟨ρ, I, q⟩ => q _ H (Sm.refl H) (.bl i)
theorem s_non {j pos} : SE g O H0 xi W T X (.Constant .none j pos) (.cst .non) := PE.by' pe_non fun σ H Q ⟨ρ, I, q⟩ => q _ H (Sm.refl H) .non
theorem s_str {x : Str} {j pos} (h : txtOk x.cps.toList) : SE g O H0 xi W T X (.Constant (.str x) j pos) (.cst (.str x.cps.toList)) := PE.by' pe_str fun σ H Q ⟨ρ, I, q⟩ => by
  have := q _ H (Sm.refl H) (.str h)
  rw [sv_of] at this
  exact this
theorem s_op {op : Operator} {o : Op2} {a b : Expr} {ca cb : CE} {pos : Pos} (ho : OpR X (binaryOp op) (rBin g.K o)) (ha : SB g O H0 xi W T X a ca) (hb : SB g O H0 xi W T X b cb) : SE g O H0 xi W T X (.BinOp a op b pos) (.bin o ca cb) :=
  PE.by' (pe_op ho ha hb) fun σ H Q ⟨ρ, I, q⟩ => ⟨ρ, I, LdE.bindB q fun x v H1 _ s1 r1 q1 => ⟨ρ, I.more s1, LdE.bindB q1 fun y u H2 _ s2 r2 q2 =>
    ⟨_, x, y, (I.trkO.same s1).same s2, (by cases r1 with | of r => exact .of (r.gro (Gro.of s2)) | own l e r => exact .own l (s2 _ _ e (fun _ z => nomatch z)) (r.gro (Gro.of s2))), r2, LdE.v q2 binD_ne⟩⟩⟩
theorem RepB.gro {K : PySem.W.Frag} {OO : Addr → Prop} {H H' : Hp} {v : V} {d : D} (h : RepB K OO H v d) (s : Sm H H') : RepB K OO H' v d := by
  cases h with
  | of r => exact .of (r.gro (Gro.of s))
  | own l e r => exact .own l (s _ _ e (fun _ z => nomatch z)) (r.gro (Gro.of s))
theorem s_cmp {op : CmpOp} {o : Op2} {a b : Expr} {ca cb : CE} {pos : Pos} (ho : OpR X (compareOp op) (rBin g.K o)) (hm : behindInMarks op b = false) (ha : SB g O H0 xi W T X a ca) (hb : SB g O H0 xi W T X b cb) : SE g O H0 xi W T X (.Compare a [op] [b] pos) (.bin o ca cb) :=
  PE.by' (pe_cmpR ho ha hb hm) fun σ H Q ⟨ρ, I, q⟩ => ⟨ρ, I, LdE.bindB q fun x v H1 _ s1 r1 q1 => ⟨ρ, I.more s1, LdE.bindB q1 fun y u H2 _ s2 r2 q2 =>
    ⟨_, x, y, (I.trkO.same s1).same s2, r1.gro s2, r2, LdE.v q2 binD_ne⟩⟩⟩
theorem truth_bl (b : Bool) : D.truth (.bl b) = .ok b := rfl
theorem LdG.v {α : Type} {OO : Addr → Prop} {σ : St} {H : Hp} {r : R α} {S : α → Hp → Prop} {a : α} (h : LdG g W OO σ H (.ok a) S) : S a H := h H (Sm.refl H)
def opBool : Op2 → Bool
  | .eq => true | .ne => true | .lt => true | .le => true | .gt => true | .ge => true | .isin => true | .notin => true | _ => false
theorem binD_bool {o : Op2} (h : opBool o = true) {x y d : D} (e : binD o x y = .ok d) : ∃ b, d = .bl b := by
  cases o <;> first | (simp [opBool] at h; done) | skip
  all_goals (cases x <;> cases y <;> simp only [binD, inD] at e)
  all_goals (repeat' split at e)
  all_goals (cases e <;> exact ⟨_, rfl⟩)
theorem R.assoc {α β γ : Type} (r : R α) (f : α → R β) (h : β → R γ) : ((r >>= f) >>= h) = (r >>= fun x => f x >>= h) := by cases r <;> rfl
theorem evT_bin {o : Op2} {ca cb : CE} {ρ : Rho} : evT T (.of (.bin o ca cb)) ρ = (evB T ca ρ >>= fun x => evB T cb ρ >>= fun y => binD o x y >>= fun z => z.truth) := by
  show ((evB T ca ρ >>= fun x => evB T cb ρ >>= fun y => binD o x y) >>= fun z => z.truth) = _
  rw [R.assoc]
  congr 1
  funext x
  rw [R.assoc]
theorem evT_un {o : Op1} {ca : CE} {ρ : Rho} : evT T (.of (.un o ca)) ρ = (evB T ca ρ >>= fun x => unD o x >>= fun z => z.truth) := by
  show ((evB T ca ρ >>= fun x => unD o x) >>= fun z => z.truth) = _
  rw [R.assoc]
theorem s_cmpT {op : CmpOp} {o : Op2} {a b : Expr} {ca cb : CE} {pos : Pos} (hb' : opBool o = true) (ho : OpR X (compareOp op) (rBin g.K o)) (hm : behindInMarks op b = false) (ha : SB g O H0 xi W T X a ca) (hb : SB g O H0 xi W T X b cb) : ST' g O H0 xi W T X (.Compare a [op] [b] pos) (.of (.bin o ca cb)) :=
  PT.by' (pt_cmpR ho ha hb hm) fun σ H Q ⟨ρ, I, q⟩ => ⟨ρ, I, by
    have q' := q
    rw [evT_bin] at q'
    exact LdG.bindB q' fun x v H1 _ s1 r1 q1 => ⟨ρ, I.more s1, LdG.bindB q1 fun y u H2 _ s2 r2 q2 => ⟨_, x, y, (I.trkO.same s1).same s2, r1.gro s2, r2, by
      cases h3 : binD o x y with
      | ok d =>
        obtain ⟨c, rfl⟩ := binD_bool hb' h3
        rw [h3] at q2
        intro v' H' s3 r3
        cases r3
        exact ⟨c, rfl, q2 H' s3⟩
      | err c fs => exact (binD_ne _ _ h3).elim
      | stuck => rw [h3] at q2; exact q2⟩⟩⟩
theorem tru_of {K : PySem.W.Frag} {OO : Addr → Prop} {H : Hp} {v : V} {d : D} {b : Bool} (r : RepB K OO H v d) (e : d.truth = .ok b) : TruV K v H b := by
  cases d <;> simp only [D.truth] at e <;> try (cases e; done)
  · cases r.non_of; injection e with e; exact e.symm
  · cases r.bl_of; injection e with e; exact e.symm
  · cases r.int_of; injection e with e; exact e.symm
  · obtain ⟨rfl, ok⟩ := r.str_of
    injection e with e
    refine ⟨by rw [sv_len, sizeLine_eq]; exact ok.1, ?_⟩
    rw [sv_len, ← e]
    rename_i x
    cases x with
    | nil => rfl
    | cons c r =>
      simp only [List.isEmpty_cons, List.length_cons, Bool.not_false]
      exact (bne_iff_ne.mpr (by omega)).symm
  · obtain ⟨a, vs, rfl, s, r⟩ := r.tup_of
    injection e with e
    refine .inr (.inl ⟨vs, s.sq, ?_⟩)
    rw [← e]; cases r <;> rfl
  · obtain ⟨a, vs, rfl, s, r⟩ := r.lst_of
    injection e with e
    refine .inl ⟨vs, SqL.of s, ?_⟩
    rw [← e]; cases r <;> rfl
theorem truth_ne {d : D} : ∀ c fs, d.truth ≠ .err c fs := by
  intro c fs h
  cases d <;> simp [D.truth] at h
theorem s_truth (hK : X.K = g.K) {e : Expr} {c : CE} (h : SB g O H0 xi W T X e c) (he : ∀ whole, isTrue e X.env whole = (do let v ← whole; standAt e.pos; holding [v] (truthy v))) : ST' g O H0 xi W T X e (.of c) :=
  PT.by' (pt_truth h he) fun σ H Q ⟨ρ, I, q⟩ => ⟨ρ, I, LdG.bindB q fun x v H1 _ s1 r1 q1 => by
    cases ht : x.truth with
    | ok b =>
      rw [ht] at q1
      exact ⟨b, by rw [hK]; exact tru_of r1 ht, q1 H1 (Sm.refl H1)⟩
    | err c fs => exact (truth_ne _ _ ht).elim
    | stuck => rw [ht] at q1; exact q1.elim⟩
theorem s_notT {e : Expr} {c : CT} {pos : Pos} (h : ST' g O H0 xi W T X e c) : ST' g O H0 xi W T X (.UnaryOp .Not e pos) (.not c) :=
  PT.by' (pt_not h) fun σ H Q ⟨ρ, I, q⟩ => ⟨ρ, I, by
    simp only [evT] at q
    cases h1 : evT T c ρ with
    | ok b => rw [h1] at q; exact q
    | err k fs => rw [h1] at q; exact q
    | stuck => rw [h1] at q; exact q⟩
theorem LdG.if' {OO : Addr → Prop} {σ : St} {H : Hp} {α : Type} {r : R Bool} {k : Bool → R α} {S' : α → Hp → Prop} {S : Bool → Hp → Prop} (h : LdG g W OO σ H (r >>= k) S') (c : ∀ b H1, r = .ok b → Sm H H1 → LdG g W OO σ H1 (k b) S' → S b H1) : LdG g W OO σ H r S := by
  cases r with
  | ok d => exact fun H2 s2 => c d H2 rfl s2 (LdG.more h s2)
  | err c fs => exact h
  | stuck => exact h
theorem LdE.if' {OO : Addr → Prop} {σ : St} {H : Hp} {r : R Bool} {k : Bool → R D} {Q : VK} {S : Bool → Hp → Prop} (h : LdE g W OO σ H (r >>= k) Q) (c : ∀ b H1, r = .ok b → Sm H H1 → LdE g W OO σ H1 (k b) Q → S b H1) : LdG g W OO σ H r S := by
  cases r with
  | ok d => exact fun H2 s2 => c d H2 rfl s2 (LdE.more h s2)
  | err c fs => exact h
  | stuck => exact h
theorem s_ife {c a b : Expr} {cc : CT} {ca cb : CE} {pos : Pos} (hc : ST' g O H0 xi W T X c cc) (ha : SE g O H0 xi W T X a ca) (hb : SE g O H0 xi W T X b cb) : SE g O H0 xi W T X (.IfExp c a b pos) (.ife cc ca cb) :=
  PE.by' (pe_ifExp hc ha hb) fun σ H Q ⟨ρ, I, q⟩ => ⟨ρ, I, LdE.if' q fun t H1 _ s1 q1 => by
    cases t with
    | true => exact ⟨ρ, I.more s1, q1⟩
    | false => exact ⟨ρ, I.more s1, q1⟩⟩
abbrev SW (g : Cfg) (O : Addr → Prop) (H0 : Hp) (xi : Option XI) (W : WX) (T : Tb) (X : Cx) (e : Expr) (c : CT) : Prop := PW X e (rT g O H0 xi W (evT T c))
theorem PW.by' {X : Cx} {e : Expr} {t t' : TT} (h : PW X e t) (i : ∀ σ H Q, t' σ H Q → t σ H Q) : PW X e t' := ⟨fun wh pins s σ H Q I q => h.run wh pins s σ H Q I (i σ H Q q)⟩
theorem s_and {a b : Expr} {rest : List Expr} {ca cb : CT} {pos : Pos} (ha : ST' g O H0 xi W T X a ca) (hb : SW g O H0 xi W T X (.BoolOp .And (b :: rest) pos) cb) : SW g O H0 xi W T X (.BoolOp .And (a :: b :: rest) pos) (.and ca cb) :=
  PW.by' (pw_and ha hb) fun σ H Q ⟨ρ, I, q⟩ => ⟨ρ, I, by
    simp only [evT] at q
    exact LdG.if' q fun t H1 _ s1 q1 => by
      cases t with
      | true => rw [if_pos rfl]; exact ⟨ρ, I.more s1, q1⟩
      | false => rw [if_neg (by decide)]; exact q1 H1 (Sm.refl H1)⟩
theorem s_or {a b : Expr} {rest : List Expr} {ca cb : CT} {pos : Pos} (ha : ST' g O H0 xi W T X a ca) (hb : SW g O H0 xi W T X (.BoolOp .Or (b :: rest) pos) cb) : SW g O H0 xi W T X (.BoolOp .Or (a :: b :: rest) pos) (.or ca cb) :=
  PW.by' (pw_or ha hb) fun σ H Q ⟨ρ, I, q⟩ => ⟨ρ, I, by
    simp only [evT] at q
    exact LdG.if' q fun t H1 _ s1 q1 => by
      cases t with
      | true => rw [if_pos rfl]; exact q1 H1 (Sm.refl H1)
      | false => rw [if_neg (by decide)]; exact ⟨ρ, I.more s1, q1⟩⟩
theorem s_andV (hK : X.K = g.K) {a b : Expr} {rest : List Expr} {ca cb : CE} {pos : Pos} (ha : SE g O H0 xi W T X a ca) (hb : SE g O H0 xi W T X (.BoolOp .And (b :: rest) pos) cb) : SE g O H0 xi W T X (.BoolOp .And (a :: b :: rest) pos) (.and ca cb) :=
  PE.by' (pe_andT ha hb) fun σ H Q ⟨ρ, I, q⟩ => ⟨ρ, I, by
    simp only [evE] at q
    exact LdE.bindE q fun x v H1 _ s1 r1 q1 => by
      cases ht : x.truth with
      | ok b =>
        rw [ht] at q1
        refine ⟨b, by rw [hK]; exact tru_of (.of r1) ht, ?_⟩
        cases b with
        | true => rw [if_pos rfl]; exact ⟨ρ, I.more s1, q1⟩
        | false => rw [if_neg (by decide)]; exact q1 v H1 (Sm.refl H1) r1
      | err c fs => exact (truth_ne _ _ ht).elim
      | stuck => rw [ht] at q1; exact q1.elim⟩
theorem s_orV (hK : X.K = g.K) {a b : Expr} {rest : List Expr} {ca cb : CE} {pos : Pos} (ha : SE g O H0 xi W T X a ca) (hb : SE g O H0 xi W T X (.BoolOp .Or (b :: rest) pos) cb) : SE g O H0 xi W T X (.BoolOp .Or (a :: b :: rest) pos) (.or ca cb) :=
  PE.by' (pe_orT ha hb) fun σ H Q ⟨ρ, I, q⟩ => ⟨ρ, I, by
    simp only [evE] at q
    exact LdE.bindE q fun x v H1 _ s1 r1 q1 => by
      cases ht : x.truth with
      | ok b =>
        rw [ht] at q1
        refine ⟨b, by rw [hK]; exact tru_of (.of r1) ht, ?_⟩
        cases b with
        | true => rw [if_pos rfl]; exact q1 v H1 (Sm.refl H1) r1
        | false => rw [if_neg (by decide)]; exact ⟨ρ, I.more s1, q1⟩
      | err c fs => exact (truth_ne _ _ ht).elim
      | stuck => rw [ht] at q1; exact q1.elim⟩
theorem s_notV (hK : X.K = g.K) {e : Expr} {c : CE} {pos : Pos} (h : SB g O H0 xi W T X e c) : SE g O H0 xi W T X (.UnaryOp .Not e pos) (.un .not c) :=
  PE.by' (pe_notT h) fun σ H Q ⟨ρ, I, q⟩ => ⟨ρ, I, by
    simp only [evE] at q
    exact LdE.bindB q fun x v H1 _ s1 r1 q1 => by
      cases ht : x.truth with
      | ok b =>
        simp only [unD, ht, ok_bind, pure_ok] at q1
        exact ⟨b, by rw [hK]; exact tru_of r1 ht, q1 _ H1 (Sm.refl H1) (.bl _)⟩
      | err c fs => exact (truth_ne _ _ ht).elim
      | stuck => simp only [unD, ht] at q1; exact q1.elim⟩
theorem s_neg {e : Expr} {c : CE} {pos : Pos} (h : SB g O H0 xi W T X e c) : SE g O H0 xi W T X (.UnaryOp .USub e pos) (.un .neg c) :=
  PE.by' (pe_un un_neg h) fun σ H Q ⟨ρ, I, q⟩ => ⟨ρ, I, by
    simp only [evE] at q
    exact LdE.bindB q fun x v H1 _ s1 r1 q1 => by
      cases x <;> simp only [unD] at q1 <;> try exact q1.elim
      cases r1.int_of
      exact ⟨_, rfl, q1 _ H1 (Sm.refl H1) (.int _)⟩⟩
theorem non_iff {K : PySem.W.Frag} {OO : Addr → Prop} {H : Hp} {v : V} {d : D} (r : RepB K OO H v d) : decide (v = .non) = (match d with | .non => true | _ => false) := by
  cases r with
  | of r => cases r <;> simp
  | own _ _ _ => simp
theorem s_isN {a : Expr} {ca : CE} {j pos pos'} (ha : SB g O H0 xi W T X a ca) : SE g O H0 xi W T X (.Compare a [.Is] [.Constant .none j pos'] pos) (.un .isN ca) :=
  PE.by' (pe_cmp (pc_isN ha) rfl) fun σ H Q ⟨ρ, I, q⟩ => ⟨ρ, I, by
    simp only [evE] at q
    exact LdE.bindB q fun x v H1 _ s1 r1 q1 => by
      rw [non_iff r1]
      cases x <;> exact q1 _ H1 (Sm.refl H1) (.bl _)⟩
theorem s_notN {a : Expr} {ca : CE} {j pos pos'} (ha : SB g O H0 xi W T X a ca) : SE g O H0 xi W T X (.Compare a [.IsNot] [.Constant .none j pos'] pos) (.un .notN ca) :=
  PE.by' (pe_cmp (pc_notN ha) rfl) fun σ H Q ⟨ρ, I, q⟩ => ⟨ρ, I, by
    simp only [evE] at q
    exact LdE.bindB q fun x v H1 _ s1 r1 q1 => by
      rw [non_iff r1]
      cases x <;> exact q1 _ H1 (Sm.refl H1) (.bl _)⟩
theorem s_isNT {a : Expr} {ca : CE} {j pos pos'} (ha : SB g O H0 xi W T X a ca) : ST' g O H0 xi W T X (.Compare a [.Is] [.Constant .none j pos'] pos) (.of (.un .isN ca)) :=
  PT.by' (pt_cmp (pc_isN ha) rfl) fun σ H Q ⟨ρ, I, q⟩ => ⟨ρ, I, by
    have q' := q
    rw [evT_un] at q'
    exact LdG.bindB q' fun x v H1 _ s1 r1 q1 => by
      rw [non_iff r1]
      cases x <;> exact ⟨_, rfl, q1 H1 (Sm.refl H1)⟩⟩
theorem s_notNT {a : Expr} {ca : CE} {j pos pos'} (ha : SB g O H0 xi W T X a ca) : ST' g O H0 xi W T X (.Compare a [.IsNot] [.Constant .none j pos'] pos) (.of (.un .notN ca)) :=
  PT.by' (pt_cmp (pc_notN ha) rfl) fun σ H Q ⟨ρ, I, q⟩ => ⟨ρ, I, by
    have q' := q
    rw [evT_un] at q'
    exact LdG.bindB q' fun x v H1 _ s1 r1 q1 => by
      rw [non_iff r1]
      cases x <;> exact ⟨_, rfl, q1 H1 (Sm.refl H1)⟩⟩
end
end Ev
end
section
set_option Elab.async false
set_option linter.all false
set_option maxRecDepth 100000
set_option maxHeartbeats 2000000
namespace Ev
variable [Nm]
open PySem PySem.Spec PyProof.Rows L2

section
variable {g : Cfg} {O : Addr → Prop} {H0 : Hp} {xi : Option XI} {W : WX} {X : Cx} {T : Tb}
def notStar : Expr → Bool
  | .Starred _ _ => false
  | _ => true
theorem star_cons {e : Expr} {es : List Expr} {env : Env} (h : notStar e = true) : starEach (e :: es) env = (false, eval e env) :: starEach es env := by
  cases e <;> first | rfl | (simp [notStar] at h)
theorem back_any {es : List Expr} {env : Env} {pos : Pos} (h : es.all notStar = true) : (backTo pos (starEach es env)).any (·.1) = false := by
  induction es with
  | nil => rfl
  | cons e r ih =>
    simp only [List.all_cons, Bool.and_eq_true] at h
    rw [star_cons h.1]
    exact ih h.2
abbrev SA (g : Cfg) (O : Addr → Prop) (H0 : Hp) (xi : Option XI) (W : WX) (T : Tb) (X : Cx) (es : List Expr) (cs : List CE) : Prop := PA X es (rA g O H0 xi W (evEs T cs))
abbrev SAB (g : Cfg) (O : Addr → Prop) (H0 : Hp) (xi : Option XI) (W : WX) (T : Tb) (X : Cx) (es : List Expr) (cs : List CE) : Prop := PA X es (rAB g O H0 xi W (evBs T cs))
theorem s_nil : SA g O H0 xi W T X [] [] := PA.by' pa_nil fun σ H Q ⟨ρ, I, q⟩ => q H (Sm.refl H) [] .nil
theorem s_nilB : SAB g O H0 xi W T X [] [] := PA.by' pa_nil fun σ H Q ⟨ρ, I, q⟩ => q H (Sm.refl H) [] Paired.nil
theorem LdG.bindG {α β : Type} {OO : Addr → Prop} {σ : St} {H : Hp} {r : R α} {k : α → R β} {S' : β → Hp → Prop} {S : α → Hp → Prop} (h : LdG g W OO σ H (r >>= k) S') (c : ∀ x H1, r = .ok x → Sm H H1 → LdG g W OO σ H1 (k x) S' → S x H1) : LdG g W OO σ H r S := by
  cases r with
  | ok d => exact fun H2 s2 => c d H2 rfl s2 (LdG.more h s2)
  | err c fs => exact h
  | stuck => exact h
theorem s_cons {e : Expr} {es : List Expr} {c : CE} {cs : List CE} (h1 : SE g O H0 xi W T X e c) (h2 : SA g O H0 xi W T X es cs) (hs : notStar e = true) : SA g O H0 xi W T X (e :: es) (c :: cs) :=
  PA.by' (pa_cons h1 h2 (star_cons hs)) fun σ H Q ⟨ρ, I, q⟩ => ⟨ρ, I, LdG.bindE q fun x v H1 _ s1 r1 q1 => ⟨ρ, I.more s1, LdG.bindG q1 fun xs H2 _ s2 q2 vs r2 => q2 H2 (Sm.refl H2) (v :: vs) (.cons (r1.gro (Gro.of s2)) r2)⟩⟩
theorem s_consB {e : Expr} {es : List Expr} {c : CE} {cs : List CE} (h1 : SB g O H0 xi W T X e c) (h2 : SAB g O H0 xi W T X es cs) (hs : notStar e = true) : SAB g O H0 xi W T X (e :: es) (c :: cs) :=
  PA.by' (pa_cons h1 h2 (star_cons hs)) fun σ H Q ⟨ρ, I, q⟩ => ⟨ρ, I, LdG.bindB q fun x v H1 _ s1 r1 q1 => ⟨ρ, I.more s1, LdG.bindG q1 fun xs H2 _ s2 q2 vs r2 => q2 H2 (Sm.refl H2) (v :: vs) (Paired.cons (r1.gro s2) r2)⟩⟩
theorem evEs_len : ∀ {cs : List CE} {ρ : Rho} {ds : List D}, evEs T cs ρ = .ok ds → ds.length = cs.length
  | [], ρ, ds, h => by simp only [evEs] at h; cases h; rfl
  | c :: cs, ρ, ds, h => by
    simp only [evEs] at h
    cases h1 : evE T c ρ with
    | ok x =>
      rw [h1] at h
      cases h2 : evEs T cs ρ with
      | ok xs =>
        rw [h2] at h
        cases h
        simp [evEs_len h2]
      | err k fs => rw [h2] at h; cases h
      | stuck => rw [h2] at h; cases h
    | err k fs => rw [h1] at h; cases h
    | stuck => rw [h1] at h; cases h
theorem LdE.bindG {α : Type} {OO : Addr → Prop} {σ : St} {H : Hp} {r : R α} {k : α → R D} {Q : VK} {S : α → Hp → Prop} (h : LdE g W OO σ H (r >>= k) Q) (c : ∀ x H1, r = .ok x → Sm H H1 → LdE g W OO σ H1 (k x) Q → S x H1) : LdG g W OO σ H r S := by
  cases r with
  | ok d => exact fun H2 s2 => c d H2 rfl s2 (LdE.more h s2)
  | err c fs => exact h
  | stuck => exact h
theorem s_tup {es : List Expr} {cs : List CE} {k : Nat} {pos : Pos} (h : SA g O H0 xi W T X es cs) (hl : cs.length ≤ 16777216) : SE g O H0 xi W T X (.Tuple es k pos) (.tup cs) :=
  PE.by' (pe_tupN h) fun σ H Q ⟨ρ, I, q⟩ => ⟨ρ, I, by
    simp only [evE] at q
    exact LdE.bindG q fun ds H1 e s1 q1 vs r => ⟨by rw [r.length, evEs_len e, sizeLine_eq]; exact hl, fun p o ho hp => LdV.tup (O := Own O σ ρ) (K := g.K) (ds := ds) q1 (by rw [evEs_len e]; exact hl) r ho hp⟩⟩
theorem s_lst {es : List Expr} {cs : List CE} {pos : Pos} (h : SA g O H0 xi W T X es cs) (hl : cs.length ≤ 16777216) : SE g O H0 xi W T X (.List es pos) (.lst cs) :=
  PE.by' (pe_lst h) fun σ H Q ⟨ρ, I, q⟩ => ⟨ρ, I, by
    simp only [evE] at q
    exact LdE.bindG q fun ds H1 e s1 q1 vs r => ⟨by rw [r.length, evEs_len e, sizeLine_eq]; exact hl, fun p hp => LdV.lst (O := Own O σ ρ) (K := g.K) (ds := ds) (I.trkO.same s1) q1 (by rw [evEs_len e]; exact hl) r hp⟩⟩
theorem ixD_is (n : Nat) (i : Int) : ixN n i = ixD n i := rfl
theorem getI_is {α : Type} {xs : List α} {i : Int} {d : α} (h : getI xs i = .ok d) : ∃ k, ixN xs.length i = some k ∧ xs[k]? = some d := by
  unfold getI at h
  rw [← ixD_is] at h
  split at h
  · rename_i k e
    split at h
    · rename_i v e2
      cases h
      exact ⟨k, e, e2⟩
    · cases h
  · cases h
def rIdx (K : PySem.W.Frag) : R2 := fun x y H Q => ∃ O dx dy, Trk O H ∧ RepB K O H x dx ∧ RepB K O H y dy ∧ LdV K O H (idxD dx dy) Q
theorem ox_idx : IxR X (rIdx X.K) := by
  intro ve se pins s σ H x y v u Q I rx ry h hps
  obtain ⟨OO, dx, dy, t, hx, hy, q⟩ := h
  cases dx <;> cases dy <;> try (simp only [idxD, LdV, lookD] at q; done)
  · cases hy.int_of
    obtain ⟨rfl, ok⟩ := hx.str_of
    rename_i xs i
    simp only [idxD] at q
    cases hg : getI xs i with
    | ok c =>
      rw [hg] at q
      obtain ⟨k, h1, h2⟩ := getI_is hg
      refine ix_str ve se pins s σ H _ _ v u Q I rx ry ⟨sv xs, i, c, rfl, rfl, by rw [sv_len, sizeLine_eq]; exact ok.1, ?_, ?_⟩ hps
      · rw [sv_tl]; unfold atI; rw [h1]; exact h2
      · have := q.here (.str (x := [c]) ⟨by simp, fun z hz => by
          rw [List.mem_singleton.mp hz]
          exact ok.2 c (List.mem_of_getElem? h2)⟩)
        exact this
    | err c fs => rw [hg] at q; exact q.elim
    | stuck => rw [hg] at q; exact q.elim
  · cases hy.int_of
    obtain ⟨a, vs, rfl, sa, ra⟩ := hx.tup_of
    rename_i xs i
    simp only [idxD] at q
    cases hg : getI xs i with
    | ok c =>
      rw [hg] at q
      obtain ⟨k, h1, h2⟩ := getI_is hg
      obtain ⟨v1, e1, r1⟩ := ra.getD h2
      exact ix_tup ve se pins s σ H _ _ v u Q I rx ry ⟨a, vs, i, v1, rfl, rfl, sa.sq, by unfold atI; rw [ra.length, h1]; exact e1, q.here r1⟩ hps
    | err c fs => rw [hg] at q; exact q.elim
    | stuck => rw [hg] at q; exact q.elim
  · cases hy.int_of
    obtain ⟨a, vs, rfl, sa, ra⟩ := hx.lst_of
    rename_i xs i
    simp only [idxD] at q
    cases hg : getI xs i with
    | ok c =>
      rw [hg] at q
      obtain ⟨k, h1, h2⟩ := getI_is hg
      obtain ⟨v1, e1, r1⟩ := ra.getD h2
      exact ix_list ve se pins s σ H _ _ v u Q I rx ry ⟨a, vs, i, v1, rfl, rfl, SqL.of sa, by unfold atI; rw [ra.length, h1]; exact e1, q.here r1⟩ hps
    | err c fs => rw [hg] at q; exact q.elim
    | stuck => rw [hg] at q; exact q.elim
  · exfalso
    cases hx with | of r => cases r
  · exfalso
    cases hx with | of r => cases r
  · cases hy.int_of
    obtain ⟨a, vs, rfl, sa, ra⟩ := hx.frl_of
    rename_i xs i
    simp only [idxD] at q
    cases hg : getI xs i with
    | ok c =>
      rw [hg] at q
      obtain ⟨k, h1, h2⟩ := getI_is hg
      obtain ⟨v1, e1, r1⟩ := ra.getD h2
      exact ix_list ve se pins s σ H _ _ v u Q I rx ry ⟨a, vs, i, v1, rfl, rfl, sa.sq, by unfold atI; rw [ra.length, h1]; exact e1, q.here r1⟩ hps
    | err c fs => rw [hg] at q; exact q.elim
    | stuck => rw [hg] at q; exact q.elim
theorem getI_ne {α : Type} {xs : List α} {i : Int} : ∀ c fs, getI xs i ≠ .err c fs := by
  intro c fs h
  unfold getI at h
  repeat' split at h
  all_goals cases h
theorem lookD_ne {k : D} : ∀ {kvs : List (D × D)} (c : Nat) (fs : List D), lookD k kvs ≠ .err c fs
  | [], c, fs, h => by cases h
  | (q, v) :: r, c, fs, h => by
    unfold lookD at h
    split at h
    · cases h
    · exact lookD_ne c fs h
theorem idxD_ne {x y : D} : ∀ c fs, idxD x y ≠ .err c fs := by
  intro c fs h
  cases x <;> cases y <;> simp only [idxD] at h <;> try (cases h; done)
  · rename_i xs i
    cases hg : getI xs i with
    | ok c => rw [hg] at h; cases h
    | err c fs => exact getI_ne _ _ hg
    | stuck => rw [hg] at h; cases h
  · exact getI_ne _ _ h
  · exact getI_ne _ _ h
  · exact lookD_ne _ _ h
  · exact lookD_ne _ _ h
  · exact getI_ne _ _ h
def notSlice : Expr → Bool
  | .Slice _ _ _ _ => false
  | _ => true
theorem plain_ix {e : Expr} (h : notSlice e = true) : PlainIx e := by
  intro o i
  cases e <;> first | rfl | (simp [notSlice] at h)
theorem s_idx (hK : X.K = g.K) {a i : Expr} {ca ci : CE} {pos : Pos} (ha : SB g O H0 xi W T X a ca) (hi : SE g O H0 xi W T X i ci) (hs : notSlice i = true) : SE g O H0 xi W T X (.Subscript a i pos) (.idx ca ci) :=
  PE.by' (pe_ix ox_idx ha hi (plain_ix hs)) fun σ H Q ⟨ρ, I, q⟩ => ⟨ρ, I, by
    simp only [evE] at q
    exact LdE.bindB q fun x v H1 _ s1 r1 q1 => ⟨ρ, I.more s1, LdE.bindE q1 fun y u H2 _ s2 r2 q2 => ⟨_, x, y, (I.trkO.same s1).same s2, by rw [hK]; exact r1.gro s2, by rw [hK]; exact .of r2, by rw [hK]; exact LdE.v q2 idxD_ne⟩⟩⟩
theorem six_is (n d : Nat) (o : Option Int) : HT.sIx n d o = sixD n d o := by cases o <;> rfl
theorem cutV_is (vs : List V) (lo hi : Option Int) : cutV vs lo hi = cutL vs lo hi := by unfold cutV cutL; rw [six_is, six_is]
theorem cutL_reps {K : PySem.W.Frag} {OO : Addr → Prop} {H : Hp} {vs : List V} {ds : List D} (r : Reps K OO H vs ds) (lo hi : Option Int) : Reps K OO H (cutL vs lo hi) (cutL ds lo hi) := by
  unfold cutL
  rw [r.length]
  exact (r.drop _).take _
theorem cutL_len {α : Type} (xs : List α) (lo hi : Option Int) : (cutL xs lo hi).length ≤ xs.length := by
  unfold cutL
  rw [List.length_take, List.length_drop]
  omega
theorem cutL_mem {α : Type} {xs : List α} {lo hi : Option Int} {c : α} (h : c ∈ cutL xs lo hi) : c ∈ xs := by
  unfold cutL at h
  exact List.mem_of_mem_drop (List.mem_of_mem_take h)
theorem cutL_all {α : Type} {xs : List α} {lo hi : Option Int} (h : sixD xs.length 0 lo = 0 ∧ sixD xs.length xs.length hi = xs.length) : cutL xs lo hi = xs := by
  unfold cutL
  rw [h.1, h.2]
  simp
def rSlc (K : PySem.W.Frag) : V → Option Int → Option Int → Hp → VK → Prop := fun x lo hi H Q => ∃ O dx, Trk O H ∧ RepB K O H x dx ∧ LdV K O H (slcD dx lo hi) Q
theorem ox_slc : SlR X (rSlc X.K) := by
  intro pins s σ H x v vl vu lo hi sl Q I rx hs pl pu h
  obtain ⟨OO, dx, t, hx, q⟩ := h
  cases dx <;> try (simp only [slcD, LdV] at q; done)
  · obtain ⟨rfl, ok⟩ := hx.str_of
    rename_i xs
    simp only [slcD] at q
    refine sl_str pins s σ H _ v vl vu lo hi sl Q I rx hs pl pu ⟨sv xs, rfl, by rw [sv_len, sizeLine_eq]; exact ok.1, ?_⟩
    have e : cutS (sv xs) lo hi = sv (cutL xs lo hi) := by
      unfold cutS cutL
      rw [sv_len, sv_tl, six_is, six_is] <;> rfl
    rw [e]
    exact q.here (.str (ok.sub (cutL_len ..) fun c hc => cutL_mem hc))
  · obtain ⟨a, vs, rfl, sa, ra⟩ := hx.tup_of
    rename_i xs
    simp only [slcD] at q
    refine sl_tupN pins s σ H _ v vl vu lo hi sl Q I rx hs pl pu ⟨a, vs, rfl, sa.sq, fun e => ?_, fun _ p o ho hp => ?_⟩
    · rw [six_is, six_is, ra.length] at e
      rw [cutL_all e] at q
      exact q.here (.tup hx.tupL sa ra)
    · rw [cutV_is]
      exact q.tup (Nat.le_trans (cutL_len ..) hx.tupL) (cutL_reps ra lo hi) ho hp
  · obtain ⟨a, vs, rfl, sa, ra⟩ := hx.lst_of
    rename_i xs
    simp only [slcD] at q
    refine sl_list pins s σ H _ v vl vu lo hi sl Q I rx hs pl pu ⟨a, vs, rfl, SqL.of sa, fun p hp => ?_⟩
    rw [cutV_is]
    exact q.lst t (Nat.le_trans (cutL_len ..) hx.lstL) (cutL_reps ra lo hi) hp
  · obtain ⟨a, vs, rfl, sa, ra⟩ := hx.frl_of
    rename_i xs
    simp only [slcD] at q
    refine sl_list pins s σ H _ v vl vu lo hi sl Q I rx hs pl pu ⟨a, vs, rfl, sa.sq, fun p hp => ?_⟩
    rw [cutV_is]
    exact q.lst t (Nat.le_trans (cutL_len ..) hx.frlL) (cutL_reps ra lo hi) hp
theorem slcD_ne {x : D} {lo hi : Option Int} : ∀ c fs, slcD x lo hi ≠ .err c fs := by
  intro c fs h
  cases x <;> simp only [slcD] at h <;> cases h
def rO (g : Cfg) (O : Addr → Prop) (H0 : Hp) (xi : Option XI) (W : WX) (f : Rho → R (Option Int)) : TO := fun σ H Q => ∃ ρ, EI g O H0 xi σ H ρ ∧ LdG g W (Own O σ ρ) σ H (f ρ) Q
theorem PO.by' {X : Cx} {e : Option Expr} {t t' : TO} (h : PO X e t) (i : ∀ σ H Q, t' σ H Q → t σ H Q) : PO X e t' := ⟨fun pins s σ H Q I q => h.run pins s σ H Q I (i σ H Q q)⟩
abbrev SO (g : Cfg) (O : Addr → Prop) (H0 : Hp) (xi : Option XI) (W : WX) (T : Tb) (X : Cx) (e : Option Expr) (c : Option CE) : Prop := PO X e (rO g O H0 xi W (evO T c))
theorem s_oN : SO g O H0 xi W T X none none := PO.by' po_none fun σ H Q ⟨ρ, I, q⟩ => q H (Sm.refl H)
theorem s_oS {e : Expr} {c : CE} (h : SE g O H0 xi W T X e c) : SO g O H0 xi W T X (some e) (some c) := PO.by' (po_some h) fun σ H Q ⟨ρ, I, q⟩ => ⟨ρ, I, by
  simp only [evO] at q
  exact LdG.bindE q fun x v H1 _ s1 r1 q1 => by
    cases x <;> try (exact q1.elim)
    cases r1
    exact ⟨_, rfl, q1 H1 (Sm.refl H1)⟩⟩
theorem s_slc (hK : X.K = g.K) {a : Expr} {lo hi : Option Expr} {ca : CE} {cl ch : Option CE} {p2 pos : Pos} (ha : SB g O H0 xi W T X a ca) (hl : SO g O H0 xi W T X lo cl) (hh : SO g O H0 xi W T X hi ch) : SE g O H0 xi W T X (.Subscript a (.Slice lo hi none p2) pos) (.slc ca cl ch) :=
  PE.by' (pe_slice ox_slc ha hl hh) fun σ H Q ⟨ρ, I, q⟩ => ⟨ρ, I, by
    simp only [evE] at q
    exact LdE.bindB q fun x v H1 _ s1 r1 q1 => ⟨ρ, I.more s1, LdE.bindG q1 fun l H2 _ s2 q2 => ⟨ρ, (I.more s1).more s2, LdE.bindG q2 fun u H3 _ s3 q3 =>
      ⟨_, x, ((I.trkO.same s1).same s2).same s3, by rw [hK]; exact (r1.gro s2).gro s3, by rw [hK]; exact LdE.v q3 slcD_ne⟩⟩⟩⟩
theorem biD_ne {b : BI} {ds : List D} : ∀ c fs, biD b ds ≠ .err c fs := by
  intro c fs h
  unfold biD at h
  repeat' split at h
  all_goals cases h
theorem s_biB {b : BI} {x : Str} {e : Expr} {es : List Expr} {cs : List CE} {p pos : Pos} {id : String} (hc : (T.hot && !b.hot) = false → CallR X (.builtin id) (rBI g.K b)) (hg : Gl X x) (hm : X.mg x = none) (hv : bootBuiltins x = some (.builtin id)) (ha : SAB g O H0 xi W T X (e :: es) cs)
    (hs : (e :: es).all notStar = true) (hn : x ≠ "__name__") (hdb : (x == ("__debug__" : Str)) = false) : SE g O H0 xi W T X (.Call (.Name x p) (e :: es) [] pos) (.bi b cs) := by
  have h1 : notStar e = true ∧ es.all notStar = true := by simpa using hs
  cases hh : (T.hot && !b.hot) with
  | true =>
    exact PE.by' PE.stk fun σ H Q ⟨ρ, I, q⟩ => by
      simp only [evE] at q
      rw [if_pos hh] at q
      exact q
  | false => exact PE.by' (pe_callB (hc hh) hg hm hv ha hn hdb (star_cons h1.1) (back_any h1.2)) fun σ H Q ⟨ρ, I, q⟩ => ⟨ρ, I, by
    simp only [evE] at q
    rw [if_neg (by rw [hh]; decide)] at q
    exact LdE.bindG q fun ds H1 _ s1 q1 vs r => ⟨_, ds, I.trkO.same s1, r, LdE.v q1 biD_ne⟩⟩
theorem s_biT {b : BI} {x : Str} {e : Expr} {es : List Expr} {cs : List CE} {p pos : Pos} {id : String} (hc : (T.hot && !b.hot) = false → CallR X (.type id) (rBI g.K b)) (hg : Gl X x) (hm : X.mg x = none) (hv : bootBuiltins x = some (.type id)) (ha : SAB g O H0 xi W T X (e :: es) cs)
    (hs : (e :: es).all notStar = true) (hn : x ≠ "__name__") (hdb : (x == ("__debug__" : Str)) = false) : SE g O H0 xi W T X (.Call (.Name x p) (e :: es) [] pos) (.bi b cs) := by
  have h1 : notStar e = true ∧ es.all notStar = true := by simpa using hs
  cases hh : (T.hot && !b.hot) with
  | true =>
    exact PE.by' PE.stk fun σ H Q ⟨ρ, I, q⟩ => by
      simp only [evE] at q
      rw [if_pos hh] at q
      exact q
  | false => exact PE.by' (pe_callTy (hc hh) hg hm hv ha hn hdb (star_cons h1.1) (back_any h1.2)) fun σ H Q ⟨ρ, I, q⟩ => ⟨ρ, I, by
    simp only [evE] at q
    rw [if_neg (by rw [hh]; decide)] at q
    exact LdE.bindG q fun ds H1 _ s1 q1 vs r => ⟨_, ds, I.trkO.same s1, r, LdE.v q1 biD_ne⟩⟩
def Ty.nm : Ty → String
  | .int => "int" | .bool => "bool" | .str => "str" | .tuple => "tuple" | .list => "list" | .dict => "dict"
theorem tup_tyx {K : PySem.W.Frag} {H : Hp} {a : Addr} {vs : List V} (s : SqT K H a vs) : TyX K H (.ref a) (.type "tuple") := by
  rcases s with (e | ⟨o, e⟩) | ⟨o, its, n, e, c, _⟩
  · exact .base (.tup e)
  · exact .fTuple e
  · exact .kTuple e c
def D.tyn : D → String
  | .non => "NoneType" | .bl _ => "bool" | .int _ => "int" | .str _ => "str" | .tup _ => "tuple" | .lst _ => "list" | .frl _ => "list" | .dct _ => "dict" | .obj _ _ => "object" | .rng _ _ => "range" | .tpw _ => "object" | .clo _ _ => "object"
theorem tyx_of {K : PySem.W.Frag} {OO : Addr → Prop} {H : Hp} {v : V} {d : D} (r : RepB K OO H v d) (nr : d.isRng = false) : TyX K H v (.type d.tyn) := by
  cases r with
  | of r =>
    cases r with
    | non => exact .base .non
    | bl b => exact .base (.bl b)
    | int i => exact .base (.int i)
    | str h => exact .base (.str _)
    | tup l s r => exact tup_tyx s.sq
    | tpw l s r => simp [D.isRng] at nr
    | lst l n s r => exact .base (.lst s)
    | frl l s r =>
      rcases s with ⟨_, e⟩ | ⟨o, e⟩ | ⟨o, its, n, e, c, _⟩
      · exact .base (.lst e)
      · exact .base (.frz e)
      · exact .kList e c
    | rng s => simp [D.isRng] at nr
  | own l s r => exact .base (.lst s)
theorem kit_all {K : PySem.W.Frag} (d : D) (t : Ty) (h : d.tyn ≠ "object") : PySem.W.kitOne K (.type d.tyn) (.type t.nm) = some (d.isTy t) := by
  cases d <;> first | (exact (h rfl).elim) | skip
  all_goals cases t
  all_goals (refine kit_ty ?_; simp only [D.tyn, Ty.nm, D.isTy]; decide +kernel)
theorem s_isi (hK : X.K = g.K) {e : Expr} {c : CE} {t : Ty} {x y : Str} {p p2 pos : Pos} (h : SB g O H0 xi W T X e c) (hg : Gl X "isinstance") (hm : X.mg "isinstance" = none) (hg2 : Gl X y) (hm2 : X.mg y = none) (hv2 : bootBuiltins y = some (.type t.nm)) (hs : notStar e = true)
    (hn2 : y ≠ "__name__") (hdb2 : (y == ("__debug__" : Str)) = false) : SE g O H0 xi W T X (.Call (.Name "isinstance" p) [e, .Name y p2] [] pos) (.isi c t) :=
  PE.by' (pe_callB call_isi hg hm (by decide +kernel) (pa_cons h (pa_cons (pe_bltn (v := .ty t.nm) hg2 hm2 hv2 rfl hn2 hdb2) pa_nil rfl) (star_cons hs)) (by decide) (by decide) (star_cons hs) rfl) fun σ H Q ⟨ρ, I, q⟩ => ⟨ρ, I, by
    simp only [evE] at q
    exact LdE.bindB q fun d v H1 _ s1 r1 q1 => by
      unfold isiD at q1
      cases nr : d.isRng with
      | true => rw [nr, if_pos rfl] at q1; exact q1.elim
      | false =>
      rw [nr, if_neg (by decide)] at q1
      have hne : d.tyn ≠ "object" := by
        cases r1 with
        | of r => cases r <;> first | (simp [D.isRng] at nr; done) | simp [D.tyn]
        | own _ _ _ => simp [D.tyn]
      exact ⟨v, .ty t.nm, .type d.tyn, .type t.nm, d.isTy t, rfl, .ty _, by rw [hK]; exact tyx_of r1 nr, kit_all d t hne, q1 _ H1 (Sm.refl H1) (.bl _)⟩⟩
end
end Ev
end
section
set_option Elab.async false
set_option linter.all false
set_option maxRecDepth 100000
set_option maxHeartbeats 2000000
namespace Ev
variable [Nm]
open PySem PySem.Spec PyProof.Rows L2

section
variable {g : Cfg} {O : Addr → Prop} {H0 H H' : Hp} {xi : Option XI} {σ σ' : St} {ρ ρ' : Rho} {W : WX} {X : Cx} {T : Tb}
theorem own_set {i : Nat} {v : Option V} {s : Slot} (hs : ∀ xs, s ≠ .own xs) (hl : ρ.length = σ.length) : ∀ a, Own O (σ.set i v) (ρ.set i s) a → Own O σ ρ a := by
  rintro a (h | ⟨j, xs, h1, h2⟩)
  · exact .inl h
  · by_cases hj : i = j
    · subst hj
      by_cases hi : i < ρ.length
      · rw [List.getElem?_set_self hi] at h1
        injection h1 with h1
        exact (hs xs h1).elim
      · rw [List.getElem?_eq_none (by simpa using hi)] at h1
        cases h1
    · rw [List.getElem?_set_ne hj] at h1 h2
      exact .inr ⟨j, xs, h1, h2⟩
theorem set_none_or {α : Type} {l : List α} {i j : Nat} {a b : α} (h : (l.set i a)[j]? = some b) : (i = j ∧ a = b ∧ i < l.length) ∨ (i ≠ j ∧ l[j]? = some b) := by
  by_cases hj : i = j
  · subst hj
    by_cases hi : i < l.length
    · rw [List.getElem?_set_self hi] at h
      injection h with h
      exact .inl ⟨rfl, h, hi⟩
    · rw [List.getElem?_eq_none (by simpa using hi)] at h
      cases h
  · rw [List.getElem?_set_ne hj] at h
    exact .inr ⟨hj, h⟩
theorem XF.less {O O' : Addr → Prop} {c : Nat} {fs : List D} {d : Addr} (h : ∀ a, O' a → O a) (x : XF g O H c fs d) : XF g O' H c fs d := by
  obtain ⟨fl, e, q⟩ := x
  refine ⟨fl, e, fun j n hj => ?_⟩
  obtain ⟨v, e, h1, h2, h3⟩ := q j n hj
  exact ⟨v, e, h1, h2, h3.less h⟩
theorem EI.put (I : EI g O H0 xi σ H ρ) {i : Nat} {v : Option V} {s : Slot} (hs : ∀ xs, s ≠ .own xs) (hc : ∀ l cs, s ≠ .clo l cs) (hv : ∀ d, s = .val d → ∃ w, v = some w ∧ Rep g.K (Own O σ ρ) H w d)
    (hx : ∀ c fs, s = .exc c fs → ∃ x, xi = some x ∧ x.c = c ∧ x.fs = fs ∧ v = some (.ref x.a) ∧ XF g (Own O σ ρ) H c fs x.d) : EI g O H0 xi (σ.set i v) H (ρ.set i s) := by
  have sub := own_set (O := O) (i := i) (v := v) hs I.len
  refine ⟨by rw [List.length_set, List.length_set]; exact I.len, I.same, I.trk, fun j d e => ?_, fun j xs e => ?_, fun j k xs ys a e1 e2 e3 e4 => ?_, fun j c fs e => ?_, I.tab, I.clo.set hc⟩
  · rcases set_none_or e with ⟨rfl, e1, hi⟩ | ⟨hj, e⟩
    · obtain ⟨w, rfl, r⟩ := hv d e1
      exact ⟨w, List.getElem?_set_self (by rw [← I.len]; exact hi), r.less sub⟩
    · obtain ⟨w, h1, h2⟩ := I.val j d e
      exact ⟨w, by rw [List.getElem?_set_ne hj]; exact h1, h2.less sub⟩
  · rcases set_none_or e with ⟨rfl, e1, hi⟩ | ⟨hj, e⟩
    · exact (hs xs e1).elim
    · obtain ⟨a, vs, h1, h2, h3, h4, h5⟩ := I.own j xs e
      exact ⟨a, vs, by rw [List.getElem?_set_ne hj]; exact h1, h2, h3, h4.less sub, h5⟩
  · rcases set_none_or e1 with ⟨rfl, e1, hi⟩ | ⟨hj, e1⟩
    · exact (hs xs e1).elim
    · rcases set_none_or e2 with ⟨rfl, e2, hi⟩ | ⟨hk, e2⟩
      · exact (hs ys e2).elim
      · rw [List.getElem?_set_ne hj] at e3
        rw [List.getElem?_set_ne hk] at e4
        exact I.inj j k xs ys a e1 e2 e3 e4
  · rcases set_none_or e with ⟨rfl, e1, hi⟩ | ⟨hj, e⟩
    · obtain ⟨x, h1, h2, h3, h4, h5⟩ := hx c fs e1
      exact ⟨x, h1, h2, h3, by rw [h4]; exact List.getElem?_set_self (by rw [← I.len]; exact hi), h5.less sub⟩
    · obtain ⟨x, h1, h2, h3, h4, h5⟩ := I.exc j c fs e
      exact ⟨x, h1, h2, h3, by rw [List.getElem?_set_ne hj]; exact h4, h5.less sub⟩
theorem EI.set (I : EI g O H0 xi σ H ρ) {i : Nat} {v : V} {d : D} (r : Rep g.K (Own O σ ρ) H v d) : EI g O H0 xi (σ.set i (some v)) H (ρ.set i (.val d)) :=
  I.put (fun _ h => nomatch h) (fun _ _ h => nomatch h) (fun d' h => ⟨v, rfl, by cases h; exact r⟩) fun _ _ h => nomatch h
theorem EI.wipe1 (I : EI g O H0 xi σ H ρ) {i : Nat} {v : Option V} : EI g O H0 xi (σ.set i v) H (ρ.set i .none) :=
  I.put (fun _ h => nomatch h) (fun _ _ h => nomatch h) (fun d' h => nomatch h) fun _ _ h => nomatch h
theorem own_same {i : Nat} {v : Option V} {s : Slot} (hn : isOwn ρ[i]? = false) : ∀ a, Own O σ ρ a → Own O (σ.set i v) (ρ.set i s) a := by
  rintro a (h | ⟨j, xs, h1, h2⟩)
  · exact .inl h
  · have hj : i ≠ j := fun e => by subst e; rw [h1] at hn; simp [isOwn] at hn
    exact .inr ⟨j, xs, by rw [List.getElem?_set_ne hj]; exact h1, by rw [List.getElem?_set_ne hj]; exact h2⟩
def Tgt.slots : Tgt → List Nat
  | .nm i => [i]
  | .tp is => is
def rG (g : Cfg) (O : Addr → Prop) (H0 : Hp) (xi : Option XI) (tg : Tgt) : TG := fun v σ H Q => ∃ ρ d ρ1, EI g O H0 xi σ H ρ ∧ Rep g.K (Own O σ ρ) H v d ∧ bindT tg d ρ = .ok ρ1 ∧ (∀ σ1, EI g O H0 xi σ1 H ρ1 → (∀ a, Own O σ1 ρ1 a → Own O σ ρ a) → ((tgOwn ρ tg = false) → ∀ a, Own O σ ρ a → Own O σ1 ρ1 a) → (∀ (j : Nat), tg.slots.contains j = false → σ1[j]? = σ[j]? ∧ ρ1[j]? = ρ[j]?) → σ1.length = σ.length → Q σ1 H)
theorem PG.by' {X : Cx} {e : Expr} {t t' : TG} (h : PG X e t) (i : ∀ v σ H Q, t' v σ H Q → t v σ H Q) : PG X e t' := ⟨fun pins s σ H v u Q I r q => h.run pins s σ H v u Q I r (i v σ H Q q)⟩
theorem sg_name {i : Nat} {x : Str} {pos : Pos} (hN : X.N.Nodup) (hi : X.N[i]? = some x) (hx : Loc X.env.scope x) (hf : X.fn x = true ∨ X.env.scope.names.lookup x = some .local) : PG X (.Name x pos) (rG g O H0 xi (.nm i)) :=
  PG.by' (pg_name (pos := pos) hN hi hx hf) fun v σ H Q ⟨ρ, d, ρ1, I, r, e, q⟩ => by
    simp only [bindT] at e
    cases e
    refine q _ (I.set r) (own_set (fun _ h => nomatch h) I.len) (fun hn => own_same hn) (fun j hj => ?_) (List.length_set ..)
    have hj : i ≠ j := by
      intro e
      subst e
      simp [Tgt.slots] at hj
    exact ⟨List.getElem?_set_ne hj, List.getElem?_set_ne hj⟩
def rGs (g : Cfg) (O : Addr → Prop) (H0 : Hp) (xi : Option XI) (is : List Nat) : TGs := fun vs σ H Q => ∃ ρ ds ρ1, EI g O H0 xi σ H ρ ∧ Reps g.K (Own O σ ρ) H vs ds ∧ setAll is ds ρ = .ok ρ1 ∧ (∀ σ1, EI g O H0 xi σ1 H ρ1 → (∀ a, Own O σ1 ρ1 a → Own O σ ρ a) → ((is.any fun i => isOwn ρ[i]?) = false → ∀ a, Own O σ ρ a → Own O σ1 ρ1 a) → (∀ (j : Nat), is.contains j = false → σ1[j]? = σ[j]? ∧ ρ1[j]? = ρ[j]?) → σ1.length = σ.length → Q σ1 H)
theorem PGs.by' {X : Cx} {e : List Expr} {t t' : TGs} (h : PGs X e t) (i : ∀ v σ H Q, t' v σ H Q → t v σ H Q) : PGs X e t' := ⟨fun pins s σ H v u Q I r q => h.run pins s σ H v u Q I r (i v σ H Q q)⟩
theorem sgs_nil : PGs X [] (rGs g O H0 xi []) := PGs.by' pgs_nil fun vs σ H Q ⟨ρ, ds, ρ1, I, r, e, q⟩ => by
  cases ds with
  | nil =>
    cases r
    simp only [setAll] at e
    cases e
    exact ⟨rfl, q σ I (fun _ h => h) (fun _ _ h => h) (fun _ _ => ⟨rfl, rfl⟩) rfl⟩
  | cons d ds => simp [setAll] at e
theorem assignE_cons {e : Expr} {es : List Expr} {env : Env} (h : notStar e = true) : (assignEach (e :: es) env).map (·.2) = assign e env :: (assignEach es env).map (·.2) := by
  cases e <;> first | rfl | (simp [notStar] at h)
theorem sgs_cons {i : Nat} {is : List Nat} {x : Str} {es : List Expr} {pos : Pos} (hN : X.N.Nodup) (hi : X.N[i]? = some x) (hx : Loc X.env.scope x) (hf : X.fn x = true ∨ X.env.scope.names.lookup x = some .local) (h : PGs X es (rGs g O H0 xi is)) : PGs X (.Name x pos :: es) (rGs g O H0 xi (i :: is)) :=
  PGs.by' (pgs_cons (sg_name hN hi hx hf) h (assignE_cons rfl)) fun vs σ H Q ⟨ρ, ds, ρ1, I, r, e, q⟩ => by
    cases ds with
    | nil => simp [setAll] at e
    | cons d ds =>
      cases r with
      | @cons v _ vs _ r rr =>
        simp only [setAll] at e
        refine ⟨v, vs, rfl, ρ, d, ρ.set i (.val d), I, r, rfl, fun σ1 I1 s1 n1 k1 l1 => ⟨ρ.set i (.val d), ds, ρ1, I1, rr.less s1, e, fun σ2 I2 s2 n2 k2 l2 => ?_⟩⟩
        refine q σ2 I2 (fun a h => s1 a (s2 a h)) (fun hn a h => ?_) (fun j hj => ?_) (l2.trans l1)
        · simp only [List.any_cons, Bool.or_eq_false_iff] at hn
          refine n2 ?_ a (n1 hn.1 a h)
          rw [List.any_eq_false] at hn ⊢
          intro k hk
          have := hn.2 k hk
          by_cases hki : i = k
          · subst hki
            by_cases hlt : i < ρ.length
            · rw [List.getElem?_set_self hlt]; simp [isOwn]
            · rw [List.getElem?_eq_none (by simpa using hlt)]; simp [isOwn]
          · rw [List.getElem?_set_ne hki]; exact this
        · simp only [List.contains_cons, Bool.or_eq_false_iff] at hj
          have hij : i ≠ j := by
            intro e
            subst e
            simp at hj
          have a1 := k1 j (by simp [Tgt.slots, hij.symm])
          have a2 := k2 j hj.2
          exact ⟨a2.1.trans a1.1, a2.2.trans (List.getElem?_set_ne hij)⟩
theorem sg_tup (hK : X.K = g.K) {es : List Expr} {is : List Nat} {k : Nat} {pos : Pos} (hc : X.calm = true) (h : PGs X es (rGs g O H0 xi is)) (hl : es.length = is.length) (hs : es.all notStar = true) : PG X (.Tuple es k pos) (rG g O H0 xi (.tp is)) := by
  have e1 : (assignEach es X.env).length = is.length ∧ (assignEach es X.env).findIdx? (·.1) = none := by
    rw [← hl]
    clear h hl
    induction es with
    | nil => exact ⟨rfl, rfl⟩
    | cons e r ih =>
      simp only [List.all_cons, Bool.and_eq_true] at hs
      have e2 : assignEach (e :: r) X.env = (false, assign e X.env) :: assignEach r X.env := by cases e <;> first | rfl | (simp [notStar] at hs)
      rw [e2]
      refine ⟨by simp [(ih hs.2).1], ?_⟩
      rw [List.findIdx?_cons]
      simp [(ih hs.2).2]
  exact PG.by' (pg_tup hc h e1.1 e1.2) fun v σ H Q ⟨ρ, d, ρ1, I, r, e, q⟩ => by
    have key : ∀ (a : Addr) (vs : List V) (ds : List D), v = .ref a → SqT g.K H a vs → Reps g.K (Own O σ ρ) H vs ds → setAll is ds ρ = .ok ρ1 → gTup X.K is.length (rGs g O H0 xi is) v σ H Q := fun a vs ds ev s rr e => by
      have hlen : ∀ {is : List Nat} {ds : List D} {ρ ρ1 : Rho}, setAll is ds ρ = .ok ρ1 → ds.length = is.length := by
        intro is
        induction is with
        | nil => intro ds ρ ρ1 h; cases ds with
          | nil => rfl
          | cons _ _ => simp [setAll] at h
        | cons i is ih => intro ds ρ ρ1 h; cases ds with
          | nil => simp [setAll] at h
          | cons d ds => simp only [setAll] at h; simp [ih h]
      exact ⟨a, vs, ev, by rw [hK]; exact s, by rw [rr.length, hlen e], ρ, _, ρ1, I, rr, e, fun σ1 I1 s1 n1 k1 l1 => q σ1 I1 s1 n1 k1 l1⟩
    cases d <;> try (simp only [bindT] at e; cases e; done)
    · cases r with
      | @tup a vs _ ll s rr => exact key a vs _ rfl s.sq rr (by simpa only [bindT] using e)
    · cases r with
      | @tpw a vs _ ll s rr => exact key a vs _ rfl s rr (by simpa only [bindT] using e)
end
end Ev
end
section
set_option Elab.async false
set_option linter.all false
set_option maxRecDepth 100000
set_option maxHeartbeats 2000000
namespace Ev
variable [Nm]
open PySem PySem.Spec PyProof.Rows L2

section
variable {g : Cfg} {O : Addr → Prop} {H0 H H' : Hp} {xi : Option XI} {σ σ' : St} {ρ ρ' : Rho} {W : WX} {X : Cx} {T : Tb}
def spF (g : Cfg) (T : Tb) (j np : Nat) : Sp := fun vs H Q E => vs.length = np ∧ ∃ O ds, Trk O H ∧ Tabs g.lts H ∧ Reps g.K O H vs ds ∧ (match T.call T.hot j ds with
  | .ok d => ∀ v H', Sm H H' → Rep g.K O H' v d → Q v H'
  | .err c fs => ∀ d H', Sm H H' → XF g O H' c fs d → E (.ref (g.cAd c)) (some d) H'
  | .stuck => False)
structure FnF (g : Cfg) (T : Tb) (k j : Nat) (x : Str) (ps : List Str) : Prop where
  ok : T.hot = false → FnOk g.P g.w g.K g.mg g.base (L2N.CX g.P g.w) k (g.fAd j) (g.fFd j) ps (spF g T j ps.length)
  hk : T.hot = true → L2H.FnH g.P g.w g.K g.mg g.base (L2N.CX g.P g.w) k (g.fAd j) (g.fFd j) ps (spF g T j ps.length)
  mg : g.mg x = some (.ref (g.fAd j))
  kp : PySem.W.keepIn g.K (.ref (g.fAd j)) = true
  bd : Binds g.K (g.fFd j) ps []
structure Md (T : Tb) (k : Nat) (X : Cx) : Prop where
  cold : T.hot = false → X.calm = true ∧ Room k X.A
  hot : T.hot = true → L2H.HotC X ∧ L2H.RoomH k X.A
structure Of (g : Cfg) (X : Cx) : Prop where
  P : X.prog = g.P
  w : X.w = g.w
  K : X.K = g.K
  mg : X.mg = g.mg
  base : X.base = g.base
theorem RepBs.clean {K : PySem.W.Frag} {OO : Addr → Prop} {H : Hp} : ∀ {vs : List V} {ds : List D}, RepBs K OO H vs ds → Reps K (fun _ => False) H vs ds
  | _, _, Paired.nil => .nil
  | _, _, Paired.cons r t => .cons (by
      cases r with
      | of r => exact r.less fun _ h => h.elim
      | own l s r => exact .lst l (fun h => h) s (r.less fun _ h => h.elim)) (RepBs.clean t)
def rAC (g : Cfg) (O : Addr → Prop) (H0 : Hp) (xi : Option XI) (W : WX) (f : Rho → R (List D)) (b : Rho → Bool) : TA := fun σ H Q => ∃ ρ, EI g O H0 xi σ H ρ ∧ LdG g W (Own O σ ρ) σ H (f ρ) (fun ds H' => ∀ vs, RepBs g.K (Own O σ ρ) H' vs ds → (b ρ = false → Reps g.K (Own O σ ρ) H' vs ds) → Q vs H')
abbrev SAC (g : Cfg) (O : Addr → Prop) (H0 : Hp) (xi : Option XI) (W : WX) (T : Tb) (X : Cx) (es : List Expr) (cs : List CE) : Prop := PA X es (rAC g O H0 xi W (evBs T cs) fun ρ => cs.any (ownArg ρ))
theorem s_nilC : SAC g O H0 xi W T X [] [] := PA.by' pa_nil fun σ H Q ⟨ρ, I, q⟩ => q H (Sm.refl H) [] Paired.nil fun _ => .nil
theorem s_consC {e : Expr} {es : List Expr} {c : CE} {cs : List CE} (h1 : SB g O H0 xi W T X e c) (h2 : SAC g O H0 xi W T X es cs) (hs : notStar e = true) : SAC g O H0 xi W T X (e :: es) (c :: cs) :=
  PA.by' (pa_cons h1 h2 (star_cons hs)) fun σ H Q ⟨ρ, I, q⟩ => ⟨ρ, I, LdG.bindC q fun x v H1 _ s1 r1 z1 q1 => ⟨ρ, I.more s1, LdG.bindG q1 fun xs H2 _ s2 q2 vs r2 z2 => q2 H2 (Sm.refl H2) (v :: vs) (Paired.cons (r1.gro s2) r2) fun h => by
    simp only [List.any_cons, Bool.or_eq_false_iff] at h
    exact .cons ((z1 h.1).gro (Gro.of s2)) (z2 h.2)⟩⟩
theorem noLL_get : ∀ {fs : List D} {j : Nat} {e : D}, D.noLL fs = true → fs[j]? = some e → e.noL = true
  | [], _, _, _, h => by simp at h
  | f :: fs, 0, e, hn, h => by
    simp only [D.noLL, Bool.and_eq_true] at hn
    simp at h; rw [← h]; exact hn.1
  | f :: fs, j + 1, e, hn, h => by
    simp only [D.noLL, Bool.and_eq_true] at hn
    exact noLL_get hn.2 (j := j) (by simpa using h)
theorem call_out {b : Bool} {r : R D} {OO : Addr → Prop} {vs : List V} {ds : List D} {j np : Nat} {Q : VK} (hr : T.call T.hot j ds = r) (t : Trk OO H) (tb : Tabs g.lts H) (hl : vs.length = np) (rb : RepBs g.K OO H vs ds) (rc : b = false → Reps g.K OO H vs ds)
    (q : LdE g W OO σ H (guardL b r) Q) : spF g T j np vs H Q (WE W σ) := by
  refine ⟨hl, ?_⟩
  cases b with
  | false =>
    refine ⟨OO, ds, t, tb, rc rfl, ?_⟩
    rw [hr]
    cases r with
    | ok d => exact fun v H' s x => q v H' s x
    | err c fs => exact fun d H' s x => q d H' s x
    | stuck => exact q
  | true =>
    refine ⟨fun _ => False, ds, fun _ h => h.elim, tb, rb.clean, ?_⟩
    rw [hr]
    cases r with
    | ok d =>
      simp only [guardL, Bool.true_and] at q
      intro v H' s x
      cases hn : d.noL with
      | true => rw [hn] at q; exact q v H' s (x.any hn)
      | false => rw [hn] at q; exact q.elim
    | err c fs =>
      simp only [guardL, Bool.true_and] at q
      intro d H' s ⟨fl, e, x⟩
      cases hn : D.noLL fs with
      | true =>
        rw [hn] at q
        refine q d H' s ⟨fl, e, fun j n hj => ?_⟩
        obtain ⟨v, e, h1, h2, h3⟩ := x j n hj
        exact ⟨v, e, h1, h2, h3.any (noLL_get hn h1)⟩
      | false => rw [hn] at q; exact q.elim
    | stuck => exact q
theorem evBs_len : ∀ {cs : List CE} {ρ : Rho} {ds : List D}, evBs T cs ρ = .ok ds → ds.length = cs.length
  | [], ρ, ds, h => by simp only [evBs] at h; cases h; rfl
  | c :: cs, ρ, ds, h => by
    simp only [evBs] at h
    cases h1 : bor c ρ (evE T c ρ) with
    | ok x =>
      rw [h1] at h
      cases h2 : evBs T cs ρ with
      | ok xs => rw [h2] at h; cases h; simp [evBs_len h2]
      | err k fs => rw [h2] at h; cases h
      | stuck => rw [h2] at h; cases h
    | err k fs => rw [h1] at h; cases h
    | stuck => rw [h1] at h; cases h
theorem s_call {k j : Nat} {x : Str} {ps : List Str} {e : Expr} {es : List Expr} {cs : List CE} {p pos : Pos} (F : FnF g T k j x ps) (hX : Of g X) (hr : Md T k X) (tk : L2N.Takes X W) (hg : Gl X x) (ha : SAC g O H0 xi W T X (e :: es) cs) (hs : (e :: es).all notStar = true) (hl : cs.length = ps.length)
    (hdb : (x == ("__debug__" : Str)) = false) : SE g O H0 xi W T X (.Call (.Name x p) (e :: es) [] pos) (.call j cs) := by
  have h1 : notStar e = true ∧ es.all notStar = true := by simpa using hs
  have post : ∀ σ H Q, rE g O H0 xi W (evE T (.call j cs)) σ H Q → rAC g O H0 xi W (evBs T cs) (fun ρ => cs.any (ownArg ρ)) σ H fun vs H1 => spF g T j ps.length vs H1 Q (WE W σ) := fun σ H Q ⟨ρ, I, q⟩ => ⟨ρ, I, by
    simp only [evE] at q
    exact LdE.bindG q fun ds H1 e1 s1 q1 vs r z => call_out rfl (I.trkO.same s1) (Tabs.sm I.tab s1) (by rw [Paired.length r, evBs_len e1, hl]) r z q1⟩
  cases hh : T.hot with
  | false =>
    have F' : FnOk X.prog X.w X.K X.mg X.base (L2N.CX X.prog X.w) k (g.fAd j) (g.fFd j) ps (spF g T j ps.length) := by rw [hX.P, hX.w, hX.K, hX.mg, hX.base]; exact F.ok hh
    exact PE.by' (pe_callS F' (hr.cold hh).2 hg (by rw [hX.mg]; exact F.mg) (by rw [hX.K]; exact F.kp) (by rw [hX.K]; exact F.bd) (fun σ => L2N.passAt tk σ) ha hdb (star_cons h1.1) (back_any h1.2)) post
  | true =>
    have F' : L2H.FnH X.prog X.w X.K X.mg X.base (L2N.CX X.prog X.w) k (g.fAd j) (g.fFd j) ps (spF g T j ps.length) := by rw [hX.P, hX.w, hX.K, hX.mg, hX.base]; exact F.hk hh
    exact PE.by' (L2H.pe_callH F' (hr.hot hh).2 (hr.hot hh).1 hg (by rw [hX.mg]; exact F.mg) (by rw [hX.K]; exact F.kp) (by rw [hX.K]; exact F.bd) (fun σ => L2N.passAt tk σ) ha hdb (star_cons h1.1) (back_any h1.2)) post
structure KwF (g : Cfg) (j : Nat) (ps : List Str) (n : Nat) (ks : List Str) (perm : List Nat) : Prop where
  b : KBn g.K (g.fFd j) ps n ks (fun us ws => perm.map fun i => (us ++ ws).getD i .none) (fun vs zs => perm.map fun i => (vs ++ zs).getD i .non)
  hp : perm.length = ps.length
theorem run_kw {CX : CXT} {k n : Nat} {f : Addr} {fd : FuncData} {ps ks : List Str} {sp : Sp} {E : St → XK} {gg : List Value → List Value → List Value} {gV : List V → List V → List V} {pins : List (Addr × Obj)} {s : Shared} {Q : VK} {us ws : List Value} {vs zs : List V}
    (F : FnOk X.prog X.w X.K X.mg X.base CX k f fd ps sp) (hr : Room k X.A) (hb : KBn X.K fd ps n ks gg gV) (hx : PassesAt CX X σ (E σ)) (I : Inv X pins σ H s) (r : Vals vs us) (rz : Vals zs ws) (l1 : vs.length = n) (l2 : zs.length = ks.length) (h : sp (gV vs zs) H Q (E σ)) :
    wpAny (model X.prog X.w) X.A (call (.ref f) us (ks.zip ws)) (EP X pins σ Q) X.xe s := by
  refine wpAny_call (codeAny_mono (F.run X.A X.stack s H ⟨us, ks.zip ws⟩ (gg us ws) (gV vs zs) Q (E σ) hr I.env0 (hb.to s us ws I.kIn (r.length.symm.trans l1) (rz.length.symm.trans l2)) (hb.rel r rz) h) fun res s' hq => ?_)
  match res, hq with
  | .error e, hq => exact hx pins H s e s' I hq
  | .ok (.ret u), hq => exact I.after hq
def tCallKS (n m : Nat) (sp : Sp) (gV : List V → List V → List V) (E : St → XK) (t tk : TA) : TE := fun σ H Q => t σ H fun vs H1 => tk σ H1 fun zs H2 => vs.length = n ∧ zs.length = m ∧ sp (gV vs zs) H2 Q (E σ)
theorem pe_kw {CX : CXT} {k n : Nat} {f : Addr} {fd : FuncData} {ps ks : List Str} {sp : Sp} {E : St → XK} {x : Str} {p pos : Pos} {e : Expr} {es : List Expr} {kws : List Keyword} {t tk : TA} {gg : List Value → List Value → List Value} {gV : List V → List V → List V}
    (F : FnOk X.prog X.w X.K X.mg X.base CX k f fd ps sp) (hr : Room k X.A) (hg : Gl X x) (hm : X.mg x = some (.ref f)) (hk : PySem.W.keepIn X.K (.ref f) = true) (hb : KBn X.K fd ps n ks gg gV) (hx : ∀ σ, PassesAt CX X σ (E σ)) (ha : PA X (e :: es) t) (hkw : PK X kws tk)
    (hall : (backToKw pos (keywordEach kws X.env)).all (·.1.isSome) = true) (hks : (backToKw pos (keywordEach kws X.env)).filterMap (·.1) = ks) (hdb : (x == ("__debug__" : Str)) = false) (he : starEach (e :: es) X.env = (false, eval e X.env) :: starEach es X.env)
    (hpl : ((backTo pos (starEach (e :: es) X.env)).any (·.1) || (backToKw pos (keywordEach kws X.env)).any (·.1.isNone)) = false) : PE X (.Call (.Name x p) (e :: es) kws pos) (tCallKS n ks.length sp gV E t tk) := by
  refine ⟨fun pins s σ H Q I h => wpAny_Call_Name_kw (ld_glob I hg hm ?_ hdb)⟩
  refine PySem.W.callWith_KW (h₀ := X.base) I.ok.mod.kin hk hall (thn (ha.run pos pins s σ H _ I h) fun us s1 ⟨vs, H1, I1, r, q⟩ => ?_) hpl he
  refine thn (hkw.run pos pins s1 σ H1 _ I1 q) fun ws s2 ⟨zs, H2, I2, rz, l1, l2, q2⟩ => ⟨I2.kIn, ?_⟩
  rw [hks]
  exact run_kw F hr hb (hx σ) I2 r rz l1 l2 q2
theorem pe_kw0 {CX : CXT} {k : Nat} {f : Addr} {fd : FuncData} {ps ks : List Str} {sp : Sp} {E : St → XK} {x : Str} {p pos : Pos} {kws : List Keyword} {tk : TA} {gg : List Value → List Value → List Value} {gV : List V → List V → List V}
    (F : FnOk X.prog X.w X.K X.mg X.base CX k f fd ps sp) (hr : Room k X.A) (hg : Gl X x) (hm : X.mg x = some (.ref f)) (hk : PySem.W.keepIn X.K (.ref f) = true) (hb : KBn X.K fd ps 0 ks gg gV) (hx : ∀ σ, PassesAt CX X σ (E σ)) (hkw : PK X kws tk)
    (hall : (backToKw pos (keywordEach kws X.env)).all (·.1.isSome) = true) (hks : (backToKw pos (keywordEach kws X.env)).filterMap (·.1) = ks) (hdb : (x == ("__debug__" : Str)) = false)
    (hpl : ((backTo pos (starEach [] X.env)).any (·.1) || (backToKw pos (keywordEach kws X.env)).any (·.1.isNone)) = false) : PE X (.Call (.Name x p) [] kws pos) (tCallKS 0 ks.length sp gV E tNil tk) := by
  refine ⟨fun pins s σ H Q I h => wpAny_Call_Name_kw (ld_glob I hg hm ?_ hdb)⟩
  refine PySem.W.callWith_KW0 (h₀ := X.base) I.ok.mod.kin hk hall ?_ hpl
  refine thn (hkw.run pos pins s σ H _ I h) fun ws s2 ⟨zs, H2, I2, rz, l1, l2, q2⟩ => ⟨I2.kIn, ?_⟩
  rw [hks]
  exact run_kw F hr hb (hx σ) I2 .nil rz l1 l2 q2
theorem PK.by' {X : Cx} {e : List Keyword} {t t' : TA} (h : PK X e t) (i : ∀ σ H Q, t' σ H Q → t σ H Q) : PK X e t' := ⟨fun pos pins s σ H Q I q => h.run pos pins s σ H Q I (i σ H Q q)⟩
abbrev SK (g : Cfg) (O : Addr → Prop) (H0 : Hp) (xi : Option XI) (W : WX) (T : Tb) (X : Cx) (es : List Keyword) (cs : List CE) : Prop := PK X es (rAC g O H0 xi W (evBs T cs) fun ρ => cs.any (ownArg ρ))
theorem s_knil : SK g O H0 xi W T X [] [] := PK.by' pk_nil fun σ H Q ⟨ρ, I, q⟩ => q H (Sm.refl H) [] Paired.nil fun _ => .nil
theorem s_kcons {nm : Option Str} {e : Expr} {kp : Pos} {es : List Keyword} {c : CE} {cs : List CE} (h1 : SB g O H0 xi W T X e c) (h2 : SK g O H0 xi W T X es cs) : SK g O H0 xi W T X (⟨nm, e, kp⟩ :: es) (c :: cs) :=
  PK.by' (pk_cons h1 h2) fun σ H Q ⟨ρ, I, q⟩ => ⟨ρ, I, LdG.bindC q fun x v H1 _ s1 r1 z1 q1 => ⟨ρ, I.more s1, LdG.bindG q1 fun xs H2 _ s2 q2 vs r2 z2 => q2 H2 (Sm.refl H2) (v :: vs) (Paired.cons (r1.gro s2) r2) fun h => by
    simp only [List.any_cons, Bool.or_eq_false_iff] at h
    exact .cons ((z1 h.1).gro (Gro.of s2)) (z2 h.2)⟩⟩
theorem paired_get {α β : Type} {F : α → β → Prop} : ∀ {l : List α} {m : List β} {i : Nat} {b : β}, Paired F l m → m[i]? = some b → ∃ a, l[i]? = some a ∧ F a b
  | _, _, _, _, .nil, e => by simp at e
  | _, _, 0, _, .cons r _, e => by simp at e; subst e; exact ⟨_, rfl, r⟩
  | _, _, i + 1, b, .cons _ t, e => by
    obtain ⟨a, h1, h2⟩ := paired_get (i := i) (b := b) t (by simpa using e)
    exact ⟨a, by simpa using h1, h2⟩
theorem pick_repB {K : PySem.W.Frag} {OO : Addr → Prop} {vs : List V} {ds : List D} (r : RepBs K OO H vs ds) : ∀ {perm : List Nat} {ps : List D}, pick ds perm = .ok ps → RepBs K OO H (perm.map fun i => vs.getD i .non) ps
  | [], ps, h => by simp only [pick] at h; cases h; exact Paired.nil
  | i :: perm, ps, h => by
    simp only [pick] at h
    cases e : ds[i]? with
    | none => rw [e] at h; cases h
    | some d =>
      rw [e] at h
      cases h2 : pick ds perm with
      | ok q =>
        simp only [h2, ok_bind, pure_ok] at h
        cases h
        obtain ⟨v, e1, e2⟩ := paired_get r e
        refine Paired.cons ?_ (pick_repB r h2)
        show _
        simp only [List.getD_eq_getElem?_getD, e1, Option.getD_some]
        exact e2
      | err c fs => rw [h2] at h; cases h
      | stuck => rw [h2] at h; cases h
theorem pick_rep {K : PySem.W.Frag} {OO : Addr → Prop} {vs : List V} {ds : List D} (r : Reps K OO H vs ds) : ∀ {perm : List Nat} {ps : List D}, pick ds perm = .ok ps → Reps K OO H (perm.map fun i => vs.getD i .non) ps
  | [], ps, h => by simp only [pick] at h; cases h; exact .nil
  | i :: perm, ps, h => by
    simp only [pick] at h
    cases e : ds[i]? with
    | none => rw [e] at h; cases h
    | some d =>
      rw [e] at h
      cases h2 : pick ds perm with
      | ok q =>
        simp only [h2, ok_bind, pure_ok] at h
        cases h
        obtain ⟨v, e1, e2⟩ := r.getD e
        refine .cons ?_ (pick_rep r h2)
        show _
        simp only [List.getD_eq_getElem?_getD, e1, Option.getD_some]
        exact e2
      | err c fs => rw [h2] at h; cases h
      | stuck => rw [h2] at h; cases h
theorem RepBs.app {K : PySem.W.Frag} {OO : Addr → Prop} {H : Hp} : ∀ {vs ws : List V} {ds es : List D}, RepBs K OO H vs ds → RepBs K OO H ws es → RepBs K OO H (vs ++ ws) (ds ++ es)
  | _, _, _, _, Paired.nil, s => s
  | _, _, _, _, Paired.cons r t, s => Paired.cons r (RepBs.app t s)
theorem RepBs.gro {K : PySem.W.Frag} {OO : Addr → Prop} {H H' : Hp} (s : Sm H H') : ∀ {vs : List V} {ds : List D}, RepBs K OO H vs ds → RepBs K OO H' vs ds
  | _, _, Paired.nil => Paired.nil
  | _, _, Paired.cons r t => Paired.cons (r.gro s) (RepBs.gro s t)
theorem pick_len {ds : List D} : ∀ {perm : List Nat} {ps : List D}, pick ds perm = .ok ps → ps.length = perm.length
  | [], ps, h => by simp only [pick] at h; cases h; rfl
  | i :: perm, ps, h => by
    simp only [pick] at h
    cases e : ds[i]? with
    | none => rw [e] at h; cases h
    | some d =>
      rw [e] at h
      cases h2 : pick ds perm with
      | ok q => simp only [h2, ok_bind, pure_ok] at h; cases h; simp [pick_len h2]
      | err c fs => rw [h2] at h; cases h
      | stuck => rw [h2] at h; cases h
theorem pick_ne {ds : List D} : ∀ {perm : List Nat} (c : Nat) (fs : List D), pick ds perm ≠ .err c fs
  | [], c, fs, h => by cases h
  | i :: perm, c, fs, h => by
    simp only [pick] at h
    cases e : ds[i]? with
    | none => rw [e] at h; cases h
    | some d =>
      rw [e] at h
      cases h2 : pick ds perm with
      | ok q => simp only [h2, ok_bind, pure_ok] at h; cases h
      | err c fs => exact pick_ne _ _ h2
      | stuck => rw [h2] at h; cases h
theorem kw_fin {j : Nat} {ps : List Str} {perm : List Nat} {OO : Addr → Prop} {b c : Bool} {vs zs : List V} {ds qs : List D} {Q : VK} (hp : perm.length = ps.length) (t : Trk OO H) (tb : Tabs g.lts H) (r : RepBs g.K OO H vs ds) (z : b = false → Reps g.K OO H vs ds) (r2 : RepBs g.K OO H zs qs) (z2 : c = false → Reps g.K OO H zs qs)
    (q : LdE g W OO σ H (pick (ds ++ qs) perm >>= fun ps => guardL (b || c) (T.call T.hot j ps)) Q) : spF g T j ps.length (perm.map fun i => (vs ++ zs).getD i .non) H Q (WE W σ) := by
  cases hpk : pick (ds ++ qs) perm with
  | ok us =>
    rw [hpk] at q
    exact call_out (b := b || c) rfl t tb (by rw [List.length_map, hp]) (pick_repB (r.app r2) hpk) (fun h => pick_rep ((z (by cases b <;> simp_all)).app (z2 (by cases c <;> simp_all))) hpk) q
  | err k fs => exact (pick_ne _ _ hpk).elim
  | stuck => rw [hpk] at q; exact q.elim
theorem s_kw {k j n : Nat} {x : Str} {ps ks : List Str} {perm : List Nat} {e : Expr} {es : List Expr} {kws : List Keyword} {cs qs : List CE} {p pos : Pos} (F : FnF g T k j x ps) (B : KwF g j ps n ks perm) (hX : Of g X) (hr : Md T k X) (tk : L2N.Takes X W) (hg : Gl X x)
    (ha : SAC g O H0 xi W T X (e :: es) cs) (hkw : SK g O H0 xi W T X kws qs) (hs : (e :: es).all notStar = true) (hl : cs.length = n) (hl2 : qs.length = ks.length) (hall : (backToKw pos (keywordEach kws X.env)).all (·.1.isSome) = true) (hks : (backToKw pos (keywordEach kws X.env)).filterMap (·.1) = ks)
    (hnone : (backToKw pos (keywordEach kws X.env)).any (·.1.isNone) = false) (hdb : (x == ("__debug__" : Str)) = false) : SE g O H0 xi W T X (.Call (.Name x p) (e :: es) kws pos) (.callk j cs qs perm) := by
  have h1 : notStar e = true ∧ es.all notStar = true := by simpa using hs
  cases hh : T.hot with
  | true =>
    exact PE.by' PE.stk fun σ H Q ⟨ρ, I, q⟩ => by
      simp only [evE] at q
      rw [if_pos hh] at q
      exact q
  | false =>
  have F' : FnOk X.prog X.w X.K X.mg X.base (L2N.CX X.prog X.w) k (g.fAd j) (g.fFd j) ps (spF g T j ps.length) := by rw [hX.P, hX.w, hX.K, hX.mg, hX.base]; exact F.ok hh
  have hst : (backTo pos (starEach (e :: es) X.env)).any (·.1) = false := back_any hs
  exact PE.by' (pe_kw F' (hr.cold hh).2 hg (by rw [hX.mg]; exact F.mg) (by rw [hX.K]; exact F.kp) (by rw [hX.K]; exact B.b) (fun σ => L2N.passAt tk σ) ha hkw hall hks hdb (star_cons h1.1) (by rw [hst, hnone] <;> rfl)) fun σ H Q ⟨ρ, I, q⟩ => ⟨ρ, I, by
    simp only [evE] at q
    rw [if_neg (by rw [hh]; decide)] at q
    exact LdE.bindG q fun ds H1 e1 s1 q1 vs r z => ⟨ρ, I.more s1, LdE.bindG q1 fun us H2 e2 s2 q2 ws r2 z2 => ⟨by rw [Paired.length r, evBs_len e1, hl], by rw [Paired.length r2, evBs_len e2, hl2], by
      rw [List.any_append] at q2
      exact kw_fin B.hp ((I.trkO.same s1).same s2) (Tabs.sm (Tabs.sm I.tab s1) s2) (r.gro s2) (fun h => (z h).gro (Gro.of s2)) r2 z2 q2⟩⟩⟩
theorem s_kw0 {k j : Nat} {x : Str} {ps ks : List Str} {perm : List Nat} {kws : List Keyword} {qs : List CE} {p pos : Pos} (F : FnF g T k j x ps) (B : KwF g j ps 0 ks perm) (hX : Of g X) (hr : Md T k X) (tk : L2N.Takes X W) (hg : Gl X x)
    (hkw : SK g O H0 xi W T X kws qs) (hl2 : qs.length = ks.length) (hall : (backToKw pos (keywordEach kws X.env)).all (·.1.isSome) = true) (hks : (backToKw pos (keywordEach kws X.env)).filterMap (·.1) = ks)
    (hnone : (backToKw pos (keywordEach kws X.env)).any (·.1.isNone) = false) (hdb : (x == ("__debug__" : Str)) = false) : SE g O H0 xi W T X (.Call (.Name x p) [] kws pos) (.callk j [] qs perm) := by
  cases hh : T.hot with
  | true =>
    exact PE.by' PE.stk fun σ H Q ⟨ρ, I, q⟩ => by
      simp only [evE] at q
      rw [if_pos hh] at q
      exact q
  | false =>
  have F' : FnOk X.prog X.w X.K X.mg X.base (L2N.CX X.prog X.w) k (g.fAd j) (g.fFd j) ps (spF g T j ps.length) := by rw [hX.P, hX.w, hX.K, hX.mg, hX.base]; exact F.ok hh
  exact PE.by' (pe_kw0 F' (hr.cold hh).2 hg (by rw [hX.mg]; exact F.mg) (by rw [hX.K]; exact F.kp) (by rw [hX.K]; exact B.b) (fun σ => L2N.passAt tk σ) hkw hall hks hdb (by rw [hnone] <;> rfl)) fun σ H Q ⟨ρ, I, q⟩ => by
    simp only [evE, evBs, ok_bind] at q
    rw [if_neg (by rw [hh]; decide)] at q
    show _
    refine ⟨ρ, I, LdE.bindG q fun us H2 e2 s2 q2 ws r2 z2 => ⟨rfl, by rw [Paired.length r2, evBs_len e2, hl2], ?_⟩⟩
    rw [List.any_append] at q2
    exact kw_fin B.hp (I.trkO.same s2) (Tabs.sm I.tab s2) (vs := []) (ds := []) Paired.nil (fun _ => .nil) r2 z2 q2
theorem rng_reps {K : PySem.W.Frag} {OO : Addr → Prop} {H : Hp} (i j : Int) : Reps K OO H (rgV i j) (Ev.rngL i j) := by
  unfold rgV Ev.rngL
  have : ∀ l : List Nat, Reps K OO H (l.map fun k => V.int (i + (k : Nat))) (l.map fun k => D.int (i + (k : Nat))) := fun l => by
    induction l with
    | nil => exact .nil
    | cons a l ih => exact .cons (.int _) ih
  exact this _
theorem rngOk_is {i j : Int} (h : (rngOk i j && decide ((j - i).toNat ≤ 16777216)) = true) : RgOk i j := by
  unfold rngOk at h
  simp only [Bool.and_eq_true, decide_eq_true_eq] at h
  exact ⟨h.1.1, h.1.2.1, h.1.2.2.1, h.1.2.2.2, h.2⟩
def gRg (tu : Bool) (Q : VK) (H1 : Hp) (a b : Int) : Prop := match tu with
  | true => ∀ q (o : Obj), o.dict = none → H1 q = none → Q (.ref q) (upd H1 q (.frz o (.tup (rgV a b))))
  | false => ∀ q, H1 q = none → Q (.ref q) (upd H1 q (.lst (rgV a b)))
theorem s_rngL {tu : Bool} {e : Expr} {te : St → Hp → (Int → Int → Hp → Prop) → Prop} {lo hi : CE} {x : Str} {p pos : Pos} (hx : x = (if tu then "tuple" else "list" : Str)) (hc : T.hot = false → X.calm = true) (hg : Gl X x) (hm : X.mg x = none) (he : PRg X e te) (hs : notStar e = true)
    (ht : ∀ σ H Q, (∃ ρ, EI g O H0 xi σ H ρ ∧ LdG g W (Own O σ ρ) σ H (do
      let x ← evE T lo ρ
      let y ← evE T hi ρ
      match x, y with
      | .int i, .int j => pure (i, j)
      | _, _ => .stuck) (fun p H' => Q p.1 p.2 H')) → te σ H Q) : SE g O H0 xi W T X (.Call (.Name x p) [e] [] pos) (.rngL tu lo hi) := by
  cases hh : T.hot with
  | true =>
    exact PE.by' PE.stk fun σ H Q ⟨ρ, I, q⟩ => by
      simp only [evE] at q
      rw [if_pos hh] at q
      exact q
  | false =>
  have hc := hc hh
  have key : ∀ σ H Q, rE g O H0 xi W (evE T (.rngL tu lo hi)) σ H Q → te σ H fun a b H1 => RgOk a b ∧ gRg tu Q H1 a b := fun σ H Q ⟨ρ, I, q⟩ => by
    refine ht σ H _ ⟨ρ, I, ?_⟩
    simp only [evE] at q
    rw [if_neg (by rw [hh]; decide)] at q
    cases h1 : evE T lo ρ with
    | err c fs => rw [h1] at q; exact q
    | stuck => rw [h1] at q; exact q
    | ok x =>
      rw [h1] at q
      simp only [ok_bind] at q ⊢
      cases h2 : evE T hi ρ with
      | err c fs => rw [h2] at q; exact q
      | stuck => rw [h2] at q; exact q
      | ok y =>
        rw [h2] at q
        simp only [ok_bind] at q ⊢
        cases x <;> cases y <;> try exact q
        rename_i i j
        simp only at q ⊢
        intro H' s
        by_cases hk : (rngOk i j && decide ((j - i).toNat ≤ 16777216)) = true
        · rw [if_pos hk] at q
          refine ⟨rngOk_is hk, ?_⟩
          cases tu with
          | true => exact fun a o ho ha => LdV.tup (K := g.K) (O := Own O σ ρ) (LdE.more q s) (by simpa [Ev.rngL] using (rngOk_is hk).2.2.2.2) (rng_reps i j) ho ha
          | false => exact fun a ha => LdV.lst (K := g.K) (O := Own O σ ρ) (I.trkO.same s) (LdE.more q s) (by simpa [Ev.rngL] using (rngOk_is hk).2.2.2.2) (rng_reps i j) ha
        · rw [if_neg hk] at q
          exact q.elim
  cases tu with
  | true =>
    subst hx
    exact PE.by' (pe_tupRgN hc hg hm he (star_cons hs)) fun σ H Q q => key σ H Q q
  | false =>
    subst hx
    exact PE.by' (pe_listRg hc hg hm he (star_cons hs)) fun σ H Q q => key σ H Q q
end
end Ev
end
section
set_option Elab.async false
set_option linter.all false
set_option maxRecDepth 100000
set_option maxHeartbeats 4000000
namespace PySem
open Sem (wp)
theorem meetsEnum1 {v : Value} {o : Obj} {H : Heap → Prop} (B : Begins v o H) :
    Meets (Builtin.«enumerate.__new__» ⟨[.type "enumerate", v], []⟩) (fun _ R s => H s.heap ∧
      R (.ok (.ret (.ref (s.heap.push o).objs.size))) { s with heap := (s.heap.push o).push { cls := .type "enumerate", data := .fields #[.none, .bool false, .ref s.heap.objs.size, rawInt 0, .none, .none] } }) :=
  .of_wp fun prog w A R st hh => by
    obtain ⟨hp, gg, dr, tk, oo⟩ := st
    obtain ⟨hv, hr⟩ := hh
    have sub := sub_enumerate
    have start : ∀ {A' : Around} {E : Value → Shared → Prop} {Q : Value → Shared → Prop}, Q (.ref hp.objs.size) ⟨hp.push o, gg, dr, tk, oo⟩ → wpAny (model prog w) A' (pyIter v) Q E ⟨hp, gg, dr, tk, oo⟩ :=
      fun z => B.iter prog w _ _ ⟨hp, gg, dr, tk, oo⟩ _ hv z
    wp_walk using start
    refine wpAny_stack_any fun stk => wpAny_pure ?_
    split
    · rename_i cl _ _ _ _ _
      cases (cl == Value.type "enumerate") <;> (wp_walk using start; exact ⟨_, rfl, hr⟩)
    · wp_walk using start
      exact ⟨_, rfl, hr⟩
section
variable {prog : Program} {w : World} {A : Around} {E : Value → Shared → Prop} {s : Shared}
theorem callEnum1 {v : Value} {o : Obj} {H : Heap → Prop} {Q : Value → Shared → Prop} (B : Begins v o H) (hv : H s.heap)
    (k : ∀ h', IsEnum h' (s.heap.objs.size + 1) s.heap.objs.size 0 .none → h'.get? s.heap.objs.size = some o → (∀ b ob, s.heap.get? b = some ob → h'.get? b = some ob) → Q (.ref (s.heap.objs.size + 1)) { s with heap := h' }) :
    wpAny (model prog w) A (call (.type "enumerate") [v]) Q E s := by
  refine callType_new F.called_enumerate (by decide) (F.typeCall_enumerate_1 _) (F.newCall_enumerate_1 _) (fun ob => F.args_object_init_2 ob _) F.entry_enumerate_new (meetsEnum1 B) ⟨hv, ?_⟩
  have size1 : (s.heap.push o).objs.size = s.heap.objs.size + 1 := Heap.size_push ..
  show _ ∧ _
  rw [size1]
  have isE : IsEnum ((s.heap.push o).push { cls := .type "enumerate", data := .fields #[.none, .bool false, .ref s.heap.objs.size, rawInt 0, .none, .none] }) (s.heap.objs.size + 1) s.heap.objs.size 0 .none := by
    have z := Heap.get?_push_size (s.heap.push o) (o := { cls := .type "enumerate", data := .fields #[.none, .bool false, .ref s.heap.objs.size, rawInt 0, .none, .none] }) rfl
    rwa [size1] at z
  exact ⟨⟨_, isE, rfl⟩, k _ isE (Heap.get?_push_of_some _ (Heap.get?_push_size _ B.free)) fun b ob z => Heap.get?_push_of_some _ (Heap.get?_push_of_some _ z)⟩
end
end PySem
namespace L2
open PySem PySem.Spec PyProof.Rows
def IteT (K : PySem.W.Frag) (a : Addr) : It :=
  ⟨fun i H => ∃ (xs : List V) (x : V), SqT K H a xs ∧ xs[i]? = some x, fun i H v H' => ∃ T x, v = .ref T ∧ H T = none ∧ H' = upd H T (.tup [.int (i : Nat), x]) ∧ ∀ xs, SqT K H a xs → xs[i]? = some x, fun i H => ∃ xs : List V, SqT K H a xs ∧ xs.length = i⟩
theorem drT {P : Program} {w : World} {A : Around} (hh : A.handled = none) (it t : Addr) (hne : t ≠ it) (items : Array Value) :
    Draws P w A.in1 it [it, t] items.size (fun i v => items[i]? = some v) (fun i h => h.IsTupleIter it t i ∧ h.IsTuple t items) := Draws.tuple (by exact hh) it t hne items
theorem turn_enumT {P : Program} {w : World} {K : PySem.W.Frag} {elts : List Expr} {kk : Nat} {tpos : Pos} (a e it : Addr) :
    Turn P w K (.Tuple elts kk tpos) (IteT K a) [e, it] e (fun i h => (∃ old, IsEnum h e it ((i : Nat) : Int) old) ∧ h.IsTupleIter it a i ∧ e ≠ it ∧ e ≠ a ∧ a ≠ it) where
  mem := by simp
  obj := fun i h st b hb => by
    obtain ⟨⟨old, he⟩, ⟨o, ho, hc, hd⟩, _⟩ := st
    rcases (by simpa using hb : b = e ∨ b = it) with rfl | rfl
    · exact ⟨_, he, fun v z => nomatch z⟩
    · exact ⟨o, ho, fun v z => by rw [hd] at z; cases z⟩
  keep := fun i h h' st k => by
    obtain ⟨⟨old, he⟩, hi, r⟩ := st
    exact ⟨⟨old, k e (by simp) _ he⟩, hi.at fun o z => k it (by simp) o z, r⟩
  item := by
    intro X hP hw hK hc i pins s σ H E I hf st hg
    subst hP hw hK
    obtain ⟨⟨old, he⟩, hit, hne, hea, hai⟩ := st
    obtain ⟨xs, x, hq, hx⟩ := hg
    obtain ⟨its, rv, p, hz⟩ := I.tuple hq
    obtain ⟨u, hu, ru⟩ := rv.get hx
    have el : e < s.heap.objs.size := Heap.lt_size he
    have il : it < s.heap.objs.size := by obtain ⟨_, z, _⟩ := hit; exact Heap.lt_size z
    have hlt : i < its.toArray.size := by
      have := (List.getElem?_eq_some_iff.mp hu).1
      simpa using this
    refine wpAny_pyNext_enum_itemC (drT (I.ok.hd hc) it a hai its.toArray) he ⟨hit, p⟩ hlt hne (by simp [hne, hea]) fun y h' tk hy ho hst' hT hsz hk => ?_
    have yu : y = u := by
      have hy' : its.toArray[i]? = some u := by simpa using hu
      rw [hy] at hy'
      exact Option.some.inj hy'
    subst yu
    refine ⟨_, rfl, wpAny_letOwnedTupleGo_enum (s := { s with heap := h', toks := tk + 1 }) ho fun h'' he' sb => ?_⟩
    have tup2 : h''.get? s.heap.objs.size = some { cls := .type "tuple", data := .seq #[.int i tk, y] } := (sb.2 _ (Nat.ne_of_gt el)).trans hT
    have new : ObjOk X.prog X.w (upd H s.heap.objs.size (.tup [.int (i : Nat), x])) h'' s.heap.objs.size (.tup [.int (i : Nat), x]) :=
      ⟨by show 2 ≤ sizeLine; decide, [.int i tk, y], .cons ⟨_, rfl⟩ (.cons ru .nil), ⟨_, tup2, rfl, _, rfl⟩⟩
    have I1 : Inv X pins σ (upd H s.heap.objs.size (.tup [.int (i : Nat), x])) { s with heap := h'', toks := tk + 1 } :=
      I.turnedNew (ch := [e, it]) (fun b ob hb z => (sb.2 b (fun q => hb (by simp [q]))).trans (hk b ob (fun q => hb (by simp [q])) (fun q => hb (by simp [q])) z)) hf (Nat.le_refl _) new
    refine ⟨.ref s.heap.objs.size, _, I1, rfl, ⟨_, x, rfl, I.hok.fresh (Nat.le_refl _), rfl, fun ys hy => by rw [I.tuple_inj hy hq]; exact hx⟩, ⟨⟨y, ?_⟩, hst'.1.at fun o z => (sb.2 it (Ne.symm hne)).trans z, hne, hea, hai⟩, fun b hb => ?_⟩
    · have e1 : ((i + 1 : Nat) : Int) = (i : Int) + 1 := by omega
      rw [e1]
      exact he'
    · have small : b < s.heap.objs.size := by
        rcases (by simpa using hb : b = e ∨ b = it) with rfl | rfl
        · exact el
        · exact il
      rw [upd_ne (Nat.ne_of_lt small)]
      exact (hf b hb).1
  done := by
    intro X hP hw hK hc i pins s σ H E I hf st hg
    subst hP hw hK
    obtain ⟨⟨old, he⟩, hit, hne, hea, hai⟩ := st
    obtain ⟨xs, hq, hx⟩ := hg
    obtain ⟨its, rv, p, hz⟩ := I.tuple hq
    obtain ⟨f0, f1, f2, f3, f4, f5⟩ := hf it (by simp)
    have len := rv.length
    have en : its.toArray.size = i := by simp; omega
    exact wpAny_pyNext_enum_endD (drT (I.ok.hd hc) it a hai its.toArray) he (by rw [en]; exact ⟨hit, p⟩) fun h' eb => ⟨rfl, I.turned (t' := s.toks) (fun b o hb z => eb b o hb z) f0 f1 f3 f4 f5⟩
  self := fun A i s Q E st h => let ⟨⟨_, he⟩, _⟩ := st; wpAny_pyIter_enum he h
def iEnumT (K : PySem.W.Frag) (te : TE) : TI := fun σ H R => te σ H fun v H1 => ∃ a xs, v = .ref a ∧ SqT K H1 a xs ∧ R (IteT K a) H1
theorem pi_enumT {X : Cx} {e : Expr} {te : TE} {p pos tpos : Pos} {elts : List Expr} {kk : Nat} (hg : Gl X "enumerate") (hm : X.mg "enumerate" = none) (ha : PE X e te) (hs : starEach [e] X.env = [(false, eval e X.env)]) :
    PI X (.Tuple elts kk tpos) (.Call (.Name "enumerate" p) [e] [] pos) (iEnumT X.K te) := by
  refine ⟨fun pins s σ H R I h => ?_⟩
  refine Call_ (ld_blt I hg hm boot_enumerate (PyProof.Rows.callWith_type1 (thn ((pa_cons ha pa_nil hs).run pos pins s σ H (fun vs H1 => ∃ v, vs = [v] ∧ ∃ a xs, v = .ref a ∧ SqT X.K H1 a xs ∧ R (IteT X.K a) H1) I ?_) fun us s1 ⟨vs, H1, I1, r1, q1⟩ => ?_) hs rfl))
  · have h' : te σ H fun v H1 => ∃ a xs, v = .ref a ∧ SqT X.K H1 a xs ∧ R (IteT X.K a) H1 := h
    exact h' |> fun z => by
      show te σ H fun x H1 => ∃ v, [x] = [v] ∧ ∃ a xs, v = .ref a ∧ SqT X.K H1 a xs ∧ R (IteT X.K a) H1
      have e : (fun (x : V) (H1 : Hp) => ∃ v, [x] = [v] ∧ ∃ a xs, v = .ref a ∧ SqT X.K H1 a xs ∧ R (IteT X.K a) H1) = fun v H1 => ∃ a xs, v = .ref a ∧ SqT X.K H1 a xs ∧ R (IteT X.K a) H1 := by
        funext x H1
        apply propext
        constructor
        · rintro ⟨v, e, r⟩
          cases e
          exact r
        · exact fun r => ⟨x, rfl, r⟩
      rw [e]
      exact z
  · obtain ⟨v, ev, a, xs, ea, hq, q⟩ := q1
    subst ev ea
    cases r1 with
    | cons r rr =>
      cases rr
      cases r
      obtain ⟨its, rv, p', hz⟩ := I1.tuple hq
      refine callEnum1 (begins_tuple a its.toArray) p' fun h' he hit hk => wpAny_pyIter_enum he ?_
      have I2 : Inv X pins σ H1 { s1 with heap := h' } := I1.kept (t' := s1.toks) hk
      have al : a < s1.heap.objs.size := by obtain ⟨_, z, _⟩ := p'; exact Heap.lt_size z
      refine ⟨s1.heap.objs.size + 1, [s1.heap.objs.size + 1, s1.heap.objs.size], _, _, H1, rfl, I2, turn_enumT a (s1.heap.objs.size + 1) s1.heap.objs.size, ⟨⟨.none, he⟩, ⟨_, hit, rfl, rfl⟩, Nat.succ_ne_self _, Nat.ne_of_gt (Nat.lt_succ_of_lt al), Nat.ne_of_lt al⟩, fun b hb => ?_, q⟩
      have le : s1.heap.objs.size ≤ b := by
        rcases (by simpa using hb : b = s1.heap.objs.size + 1 ∨ b = s1.heap.objs.size) with rfl | rfl
        · exact Nat.le_add_right _ _
        · exact Nat.le_refl _
      exact I1.fpOk le (I1.hok.fresh le)
end L2
end
section
set_option Elab.async false
set_option linter.all false
set_option maxRecDepth 100000
set_option maxHeartbeats 2000000
namespace Ev
variable [Nm]
open PySem PySem.Spec PyProof.Rows L2
open RZ (ItzT pi_zipA)
open RT (ItvT pi_revA)

section
variable {g : Cfg} {O : Addr → Prop} {H0 H H' : Hp} {xi : Option XI} {σ σ' : St} {ρ ρ' : Rho} {W : WX} {X : Cx} {T : Tb}
def WkD0 (K : PySem.W.Frag) (OO : Addr → Prop) (b : Bool) (J : It) (ds : List D) (H1 : Hp) : Prop :=
  ds.length ≤ 16777216 ∧ ∃ (G : Hp → Prop) (Y : Nat → Hp → V → Hp → Prop), Walk J ds.length G Y ∧ G H1 ∧ (∀ H H', Sm H H' → G H → G H') ∧ (b = false → ∀ H H', Gro OO H H' → G H → G H') ∧
    (∀ i H x H', i < ds.length → G H → Y i H x H' → Sm H H' ∧ ∃ d, ds[i]? = some d ∧ Rep K OO H' x d)
def WkD (K : PySem.W.Frag) (OO : Addr → Prop) (b : Bool) (J : It) (ds : List D) (H1 : Hp) : Prop := ∀ OO' : Addr → Prop, (∀ a, OO' a → OO a ∨ H1 a = none) → WkD0 K OO' b J ds H1
def rI (g : Cfg) (O : Addr → Prop) (H0 : Hp) (xi : Option XI) (W : WX) (f : Rho → R (List D)) (b : Rho → Bool) : TI := fun σ H R => ∃ ρ, EI g O H0 xi σ H ρ ∧ LdG g W (Own O σ ρ) σ H (f ρ) (fun ds H1 => ∀ J, WkD g.K (Own O σ ρ) (b ρ) J ds H1 → R J H1)
abbrev SI (g : Cfg) (O : Addr → Prop) (H0 : Hp) (xi : Option XI) (W : WX) (T : Tb) (X : Cx) (tg e : Expr) (c : CI) : Prop := PI X tg e (rI g O H0 xi W (evI T c) (ownIt · c))
theorem PI.by' {X : Cx} {tg e : Expr} {t t' : TI} (h : PI X tg e t) (i : ∀ σ H R, t' σ H R → t σ H R) : PI X tg e t' := ⟨fun pins s σ H R I q => h.run pins s σ H R I (i σ H R q)⟩
theorem PI.or' {X : Cx} {tg e : Expr} {t t' : TI} (h : PI X tg e t) (h' : PI X tg e t') : PI X tg e (fun σ H R => t σ H R ∨ t' σ H R) := ⟨fun pins s σ H R I q => q.elim (h.run pins s σ H R I) (h'.run pins s σ H R I)⟩
section walks
variable {K : PySem.W.Frag} {OO : Addr → Prop} {b : Bool} {a c : Addr} {vs ws : List V} {ds es : List D}
theorem wk0_tup (l : ds.length ≤ 16777216) (s : SqT K H a vs) (r : Reps K OO H vs ds) : WkD0 K OO b (Itt K a) ds H := by
  refine ⟨l, fun H => SqT K H a vs ∧ Reps K OO H vs ds, _, by rw [← r.length]; exact (walk_tup (K := K) (a := a) (xs := vs)).mono (fun _ z => z.1) (fun _ _ _ _ _ _ z => z), ⟨s, r⟩, fun H H' e z => ⟨sqT_gro (Gro.of (O := OO) e) z.1, z.2.gro (Gro.of e)⟩, fun _ H H' e z => ⟨sqT_gro e z.1, z.2.gro e⟩, ?_⟩
  rintro i H x H' hi ⟨z1, z2⟩ ⟨rfl, hx⟩
  obtain ⟨d, e1, e2⟩ := z2.get hx
  exact ⟨Sm.refl _, d, e1, e2⟩
theorem wk0_lst (l : ds.length ≤ 16777216) (s : H a = some (.lst vs)) (n : b = false → ¬ OO a) (r : Reps K OO H vs ds) : WkD0 K OO b (Itl K a) ds H := by
  refine ⟨l, fun H => H a = some (.lst vs) ∧ Reps K OO H vs ds, _, by rw [← r.length]; exact (walk_list (K := K) (a := a) (xs := vs)).mono (fun _ z => SqL.of z.1) (fun _ _ _ _ _ _ z => z), ⟨s, r⟩, fun H H' e z => ⟨e _ _ z.1 (fun _ z => nomatch z), z.2.gro (Gro.of e)⟩, fun hb H H' e z => ⟨lst_gro e (n hb) z.1, z.2.gro e⟩, ?_⟩
  rintro i H x H' hi ⟨z1, z2⟩ ⟨rfl, hx⟩
  obtain ⟨d, e1, e2⟩ := z2.get hx
  exact ⟨Sm.refl _, d, e1, e2⟩
theorem wk0_frl (l : ds.length ≤ 16777216) (s : FrL0 K H a vs) (r : Reps K OO H vs ds) : WkD0 K OO b (Itl K a) ds H := by
  refine ⟨l, fun H => FrL0 K H a vs ∧ Reps K OO H vs ds, _, by rw [← r.length]; exact (walk_list (K := K) (a := a) (xs := vs)).mono (fun _ z => z.1.sq) (fun _ _ _ _ _ _ z => z), ⟨s, r⟩, fun H H' e z => ⟨z.1.imp (fun ⟨o, y⟩ => ⟨o, e _ _ y (fun _ z => nomatch z)⟩) id, z.2.gro (Gro.of e)⟩, fun hb H H' e z => ⟨z.1.imp (fun ⟨o, y⟩ => ⟨o, frz_gro e y⟩) id, z.2.gro e⟩, ?_⟩
  rintro i H x H' hi ⟨z1, z2⟩ ⟨rfl, hx⟩
  obtain ⟨d, e1, e2⟩ := z2.get hx
  exact ⟨Sm.refl _, d, e1, e2⟩
theorem wk0_rng {lo hi : Int} (l : (hi - lo).toNat ≤ 16777216) : WkD0 K OO b (Itr lo (hi - lo).toNat) (Ev.rngL lo hi) H := by
  have hl : (Ev.rngL lo hi).length = (hi - lo).toNat := by simp [Ev.rngL]
  refine ⟨by rw [hl]; exact l, fun _ => True, _, by rw [hl]; exact walk_range, trivial, fun _ _ _ _ => trivial, fun _ _ _ _ _ => trivial, ?_⟩
  rintro i H x H' hi' _ ⟨rfl, rfl⟩
  refine ⟨Sm.refl _, .int (lo + i), ?_, .int _⟩
  rw [hl] at hi'
  simp [Ev.rngL, hi']
theorem wk0_rngD {lo hi : Int} (l : (lo - hi).toNat ≤ 16777216) : WkD0 K OO b (Itc lo (-1) (lo - hi).toNat) (Ev.dnL lo hi) H := by
  have hl : (Ev.dnL lo hi).length = (lo - hi).toNat := by simp [Ev.dnL]
  refine ⟨by rw [hl]; exact l, fun _ => True, _, by rw [hl]; exact walk_rangeC, trivial, fun _ _ _ _ => trivial, fun _ _ _ _ _ => trivial, ?_⟩
  rintro i H x H' hi' _ ⟨rfl, rfl⟩
  refine ⟨Sm.refl _, .int (lo + (i : Nat) * (-1)), ?_, .int _⟩
  rw [hl] at hi'
  simp [Ev.dnL, hi']
theorem wk0_str {x : List Nat} (ok : txtOk x) : WkD0 K OO b (Its (sv x)) (x.map fun c => .str [c]) H := by
  have hl : (x.map fun c => D.str [c]).length = (sv x).cps.size := by simp [sv]
  refine ⟨by rw [List.length_map]; exact ok.1, fun _ => True, _, by rw [hl]; exact walk_str, trivial, fun _ _ _ _ => trivial, fun _ _ _ _ _ => trivial, ?_⟩
  rintro i H v H' hi' _ ⟨rfl, c, hc, rfl⟩
  have hc' : x[i]? = some c := by simpa [sv] using hc
  refine ⟨Sm.refl _, .str [c], by simp [hc'], Rep.str (x := [c]) ⟨by simp, fun z hz => ?_⟩⟩
  rw [List.mem_singleton.mp hz]
  exact ok.2 c (List.mem_of_getElem? hc')
theorem walk_enumT {xs : List V} : Walk (IteT K a) xs.length (fun H => SqT K H a xs) (YPair (fun i => some (.int (i : Nat))) (fun i => xs[i]?)) where
  goes := fun i H hi h => ⟨xs, xs[i], h, by simp [hi]⟩
  stops := fun H h => ⟨xs, h, rfl⟩
  yields := fun i H x H' hi h y => by
    obtain ⟨T, z, e1, e2, e3, e4⟩ := y
    exact ⟨T, _, z, e1, e2, e3, rfl, e4 xs h⟩
theorem pair_rep {i : Nat} {x : V} {d : D} {T : Addr} (hT : H T = none) (r : Rep K OO H x d) : Sm H (upd H T (.tup [.int (i : Nat), x])) ∧ Rep K OO (upd H T (.tup [.int (i : Nat), x])) (.ref T) (.tpw [.int i, d]) :=
  ⟨same_upd hT, .tpw (by simp) (SqT.of upd_same) (.cons (.int _) (.cons (r.gro (Gro.of (same_upd hT))) .nil))⟩
theorem wk0_enumT (l : ds.length ≤ 16777216) (s : SqT K H a vs) (r : Reps K OO H vs ds) : WkD0 K OO b (IteT K a) (ds.mapIdx fun i d => .tpw [.int i, d]) H := by
  have hl : (ds.mapIdx fun i d => D.tpw [.int i, d]).length = vs.length := by simp [r.length]
  refine ⟨by simpa using l, fun H => SqT K H a vs ∧ Reps K OO H vs ds, _, by rw [hl]; exact (walk_enumT (K := K) (a := a) (xs := vs)).mono (fun _ z => z.1) (fun _ _ _ _ _ _ z => z), ⟨s, r⟩, fun H H' e z => ⟨sqT_gro (Gro.of (O := OO) e) z.1, z.2.gro (Gro.of e)⟩, fun _ H H' e z => ⟨sqT_gro e z.1, z.2.gro e⟩, ?_⟩
  rintro i H v H' hi ⟨z1, z2⟩ ⟨T, x, y, rfl, hT, rfl, ex, ey⟩
  cases ex
  obtain ⟨d, e1, e2⟩ := z2.get ey
  have q := pair_rep (i := i) hT e2
  exact ⟨q.1, .tpw [.int i, d], by simp [e1], q.2⟩
theorem wk0_enumL (l : ds.length ≤ 16777216) (s : H a = some (.lst vs)) (n : b = false → ¬ OO a) (r : Reps K OO H vs ds) : WkD0 K OO b (Ite K a) (ds.mapIdx fun i d => .tpw [.int i, d]) H := by
  have hl : (ds.mapIdx fun i d => D.tpw [.int i, d]).length = vs.length := by simp [r.length]
  refine ⟨by simpa using l, fun H => H a = some (.lst vs) ∧ Reps K OO H vs ds, _, by rw [hl]; exact (walk_enum (K := K) (a := a) (xs := vs)).mono (fun _ z => SqL.of z.1) (fun _ _ _ _ _ _ z => z), ⟨s, r⟩, fun H H' e z => ⟨e _ _ z.1 (fun _ z => nomatch z), z.2.gro (Gro.of e)⟩, fun hb H H' e z => ⟨lst_gro e (n hb) z.1, z.2.gro e⟩, ?_⟩
  rintro i H v H' hi ⟨z1, z2⟩ ⟨T, x, y, rfl, hT, rfl, ex, ey⟩
  cases ex
  obtain ⟨d, e1, e2⟩ := z2.get ey
  have q := pair_rep (i := i) hT e2
  exact ⟨q.1, .tpw [.int i, d], by simp [e1], q.2⟩
theorem walk_zipT {n : Nat} (hn : n = min vs.length ws.length) : Walk (ItzT K a c) n (fun H => SqT K H a vs ∧ SqT K H c ws) (YPair (fun i => vs[i]?) (fun i => ws[i]?)) where
  goes := fun i H hi h => by
    have h1 : i < vs.length := by omega
    have h2 : i < ws.length := by omega
    exact ⟨vs, ws, vs[i], ws[i], h.1, h.2, by simp [h1], by simp [h2]⟩
  stops := fun H h => ⟨vs, ws, h.1, h.2, by omega⟩
  yields := fun i H x H' hi h y => by
    obtain ⟨T, z, u, e1, e2, e3, e4, e5⟩ := y
    exact ⟨T, z, u, e1, e2, e3, e4 vs h.1, e5 ws h.2⟩
theorem zip_at {ds es : List D} {i : Nat} {d e : D} (h1 : ds[i]? = some d) (h2 : es[i]? = some e) : ((ds.zip es).map fun p => D.tpw [p.1, p.2])[i]? = some (.tpw [d, e]) := by
  rw [List.getElem?_map, (List.getElem?_zip_eq_some (z := (d, e))).mpr ⟨h1, h2⟩]
  rfl
theorem pair_rep2 {x y : V} {d e : D} {T : Addr} (hT : H T = none) (r : Rep K OO H x d) (q : Rep K OO H y e) : Sm H (upd H T (.tup [x, y])) ∧ Rep K OO (upd H T (.tup [x, y])) (.ref T) (.tpw [d, e]) :=
  ⟨same_upd hT, .tpw (by simp) (SqT.of upd_same) (.cons (r.gro (Gro.of (same_upd hT))) (.cons (q.gro (Gro.of (same_upd hT))) .nil))⟩
theorem wk0_zipT (l : ds.length ≤ 16777216) (s : SqT K H a vs) (r : Reps K OO H vs ds) (s2 : SqT K H c ws) (r2 : Reps K OO H ws es) : WkD0 K OO b (ItzT K a c) ((ds.zip es).map fun p => .tpw [p.1, p.2]) H := by
  have hl : ((ds.zip es).map fun p => D.tpw [p.1, p.2]).length = min vs.length ws.length := by simp [r.length, r2.length]
  refine ⟨by simp; omega, fun H => (SqT K H a vs ∧ SqT K H c ws) ∧ Reps K OO H vs ds ∧ Reps K OO H ws es, _, by rw [hl]; exact (walk_zipT (K := K) rfl).mono (fun _ z => z.1) (fun _ _ _ _ _ _ z => z), ⟨⟨s, s2⟩, r, r2⟩,
    fun H H' e z => ⟨⟨sqT_gro (Gro.of (O := OO) e) z.1.1, sqT_gro (Gro.of (O := OO) e) z.1.2⟩, z.2.1.gro (Gro.of e), z.2.2.gro (Gro.of e)⟩, fun _ H H' e z => ⟨⟨sqT_gro e z.1.1, sqT_gro e z.1.2⟩, z.2.1.gro e, z.2.2.gro e⟩, ?_⟩
  rintro i H v H' hi ⟨_, z1, z2⟩ ⟨T, x, y, rfl, hT, rfl, ex, ey⟩
  obtain ⟨d, e1, e2⟩ := z1.get ex
  obtain ⟨e, f1, f2⟩ := z2.get ey
  have q := pair_rep2 hT e2 f2
  exact ⟨q.1, _, zip_at e1 f1, q.2⟩
theorem wk0_zipL (l : ds.length ≤ 16777216) (s : H a = some (.lst vs)) (n : b = false → ¬ OO a) (r : Reps K OO H vs ds) (s2 : H c = some (.lst ws)) (n2 : b = false → ¬ OO c) (r2 : Reps K OO H ws es) : WkD0 K OO b (Itz K a c) ((ds.zip es).map fun p => .tpw [p.1, p.2]) H := by
  have hl : ((ds.zip es).map fun p => D.tpw [p.1, p.2]).length = min vs.length ws.length := by simp [r.length, r2.length]
  refine ⟨by simp; omega, fun H => (H a = some (.lst vs) ∧ H c = some (.lst ws)) ∧ Reps K OO H vs ds ∧ Reps K OO H ws es, _, by rw [hl]; exact (walk_zip (K := K) rfl).mono (fun _ z => ⟨SqL.of z.1.1, SqL.of z.1.2⟩) (fun _ _ _ _ _ _ z => z), ⟨⟨s, s2⟩, r, r2⟩,
    fun H H' e z => ⟨⟨e _ _ z.1.1 (fun _ z => nomatch z), e _ _ z.1.2 (fun _ z => nomatch z)⟩, z.2.1.gro (Gro.of e), z.2.2.gro (Gro.of e)⟩, fun hb H H' e z => ⟨⟨lst_gro e (n hb) z.1.1, lst_gro e (n2 hb) z.1.2⟩, z.2.1.gro e, z.2.2.gro e⟩, ?_⟩
  rintro i H v H' hi ⟨_, z1, z2⟩ ⟨T, x, y, rfl, hT, rfl, ex, ey⟩
  obtain ⟨d, e1, e2⟩ := z1.get ex
  obtain ⟨e, f1, f2⟩ := z2.get ey
  have q := pair_rep2 hT e2 f2
  exact ⟨q.1, _, zip_at e1 f1, q.2⟩
theorem walk_revT : Walk (ItvT K a vs.length) vs.length (fun H => SqT K H a vs) (fun i H x H' => H' = H ∧ vs[vs.length - 1 - i]? = some x) where
  goes := fun i H hi h => ⟨hi, vs, vs[vs.length - 1 - i], h, by rw [List.getElem?_eq_getElem]⟩
  stops := fun H h => Nat.le_refl _
  yields := fun i H x H' hi h y => ⟨y.1, y.2 vs h⟩
theorem rev_at {i : Nat} {x : V} (r : Reps K OO H vs ds) (hi : i < ds.length) (hx : vs[vs.length - 1 - i]? = some x) : ∃ d, ds.reverse[i]? = some d ∧ Rep K OO H x d := by
  obtain ⟨d, e1, e2⟩ := r.get hx
  refine ⟨d, ?_, e2⟩
  rw [List.getElem?_reverse hi, ← r.length]
  exact e1
theorem wk0_revT (l : ds.length ≤ 16777216) (s : SqT K H a vs) (r : Reps K OO H vs ds) : WkD0 K OO b (ItvT K a vs.length) ds.reverse H := by
  have hl : ds.reverse.length = vs.length := by simp [r.length]
  refine ⟨by simpa using l, fun H => SqT K H a vs ∧ Reps K OO H vs ds, _, by rw [hl]; exact (walk_revT (K := K) (a := a) (vs := vs)).mono (fun _ z => z.1) (fun _ _ _ _ _ _ z => z), ⟨s, r⟩, fun H H' e z => ⟨sqT_gro (Gro.of (O := OO) e) z.1, z.2.gro (Gro.of e)⟩, fun _ H H' e z => ⟨sqT_gro e z.1, z.2.gro e⟩, ?_⟩
  rintro i H x H' hi ⟨z1, z2⟩ ⟨rfl, hx⟩
  obtain ⟨d, e1, e2⟩ := rev_at z2 (by simpa using hi) hx
  exact ⟨Sm.refl _, d, e1, e2⟩
theorem wk0_revL (l : ds.length ≤ 16777216) (s : H a = some (.lst vs)) (n : b = false → ¬ OO a) (r : Reps K OO H vs ds) : WkD0 K OO b (Itv K a vs.length) ds.reverse H := by
  have hl : ds.reverse.length = vs.length := by simp [r.length]
  refine ⟨by simpa using l, fun H => H a = some (.lst vs) ∧ Reps K OO H vs ds, _, by rw [hl]; exact (walk_rev (K := K) (a := a) (xs := vs)).mono (fun _ z => SqL.of z.1) (fun _ _ _ _ _ _ z => z), ⟨s, r⟩, fun H H' e z => ⟨e _ _ z.1 (fun _ z => nomatch z), z.2.gro (Gro.of e)⟩, fun hb H H' e z => ⟨lst_gro e (n hb) z.1, z.2.gro e⟩, ?_⟩
  rintro i H x H' hi ⟨z1, z2⟩ ⟨rfl, hx⟩
  obtain ⟨d, e1, e2⟩ := rev_at z2 (by simpa using hi) hx
  exact ⟨Sm.refl _, d, e1, e2⟩
theorem wk_tup (l : ds.length ≤ 16777216) (s : SqT K H a vs) (r : Reps K OO H vs ds) : WkD K OO b (Itt K a) ds H := fun _ h => wk0_tup l s (r.add h)
theorem no_of {OO' : Addr → Prop} {o : HO} (h : ∀ a, OO' a → OO a ∨ H a = none) (s : H a = some o) (n : b = false → ¬ OO a) : b = false → ¬ OO' a := fun hb q => (h a q).elim (n hb) fun e => by rw [e] at s; cases s
theorem wk_lst (l : ds.length ≤ 16777216) (s : H a = some (.lst vs)) (n : b = false → ¬ OO a) (r : Reps K OO H vs ds) : WkD K OO b (Itl K a) ds H := fun _ h => wk0_lst l s (no_of h s n) (r.add h)
theorem wk_frl (l : ds.length ≤ 16777216) (s : FrL K OO H a vs) (r : Reps K OO H vs ds) : WkD K OO b (Itl K a) ds H := s.elim (fun z => wk_lst l z.2 (fun _ => z.1) r) fun s _ h => wk0_frl l s (r.add h)
theorem wk_rng {lo hi : Int} (l : (hi - lo).toNat ≤ 16777216) : WkD K OO b (Itr lo (hi - lo).toNat) (Ev.rngL lo hi) H := fun _ h => wk0_rng l
theorem wk_str {x : List Nat} (ok : txtOk x) : WkD K OO b (Its (sv x)) (x.map fun c => .str [c]) H := fun _ h => wk0_str ok
theorem wk_enumT (l : ds.length ≤ 16777216) (s : SqT K H a vs) (r : Reps K OO H vs ds) : WkD K OO b (IteT K a) (ds.mapIdx fun i d => .tpw [.int i, d]) H := fun _ h => wk0_enumT l s (r.add h)
theorem wk_enumL (l : ds.length ≤ 16777216) (s : H a = some (.lst vs)) (n : b = false → ¬ OO a) (r : Reps K OO H vs ds) : WkD K OO b (Ite K a) (ds.mapIdx fun i d => .tpw [.int i, d]) H := fun _ h => wk0_enumL l s (no_of h s n) (r.add h)
theorem wk_zipT (l : ds.length ≤ 16777216) (s : SqT K H a vs) (r : Reps K OO H vs ds) (s2 : SqT K H c ws) (r2 : Reps K OO H ws es) : WkD K OO b (ItzT K a c) ((ds.zip es).map fun p => .tpw [p.1, p.2]) H := fun _ h => wk0_zipT l s (r.add h) s2 (r2.add h)
theorem wk_zipL (l : ds.length ≤ 16777216) (s : H a = some (.lst vs)) (n : b = false → ¬ OO a) (r : Reps K OO H vs ds) (s2 : H c = some (.lst ws)) (n2 : b = false → ¬ OO c) (r2 : Reps K OO H ws es) : WkD K OO b (Itz K a c) ((ds.zip es).map fun p => .tpw [p.1, p.2]) H := fun _ h => wk0_zipL l s (no_of h s n) (r.add h) s2 (no_of h s2 n2) (r2.add h)
theorem wk_revT (l : ds.length ≤ 16777216) (s : SqT K H a vs) (r : Reps K OO H vs ds) : WkD K OO b (ItvT K a vs.length) ds.reverse H := fun _ h => wk0_revT l s (r.add h)
theorem wk_revL (l : ds.length ≤ 16777216) (s : H a = some (.lst vs)) (n : b = false → ¬ OO a) (r : Reps K OO H vs ds) : WkD K OO b (Itv K a vs.length) ds.reverse H := fun _ h => wk0_revL l s (no_of h s n) (r.add h)
theorem RepB.lst_n {b : Bool} {v : V} {ds : List D} (r : RepB K OO H v (.lst ds)) (z : b = false → Rep K OO H v (.lst ds)) : ∃ a vs, v = .ref a ∧ H a = some (.lst vs) ∧ (b = false → ¬ OO a) ∧ Reps K OO H vs ds := by
  obtain ⟨a, vs, rfl, s, rr⟩ := r.lst_of
  refine ⟨a, vs, rfl, s, fun hb => ?_, rr⟩
  have := z hb
  cases this with | lst l n _ _ => exact n
end walks
theorem pi_rngV {tg e : Expr} {te : TE} (he : PE X e te) : PI X tg e (fun σ H R => te σ H fun x H1 => ∃ a lo hi, x = .ref a ∧ H1 a = some (.rng lo hi) ∧ (-(2 ^ 62) ≤ lo ∧ lo < 2 ^ 62 ∧ -(2 ^ 62) ≤ hi ∧ hi < 2 ^ 62) ∧ R (Itr lo (hi - lo).toNat) H1) := by
  refine ⟨fun pins s σ H R I h => ?_⟩
  refine thn (he.run pins s σ H _ I h) fun v s1 ⟨x, H1, I1, r1, a, lo, hi, e, ha, ⟨b1, b2, b3, b4⟩, q⟩ => ?_
  subst e
  cases r1
  obtain ⟨t, u, w, hobj⟩ := I1.hok a _ ha
  refine wpAny_pyIter_range (show IsRange s1.heap a lo hi 1 t u w from hobj) (small_one b1 b2 b3 b4) ?_
  refine ⟨s1.heap.objs.size, [s1.heap.objs.size], _, _, H1, rfl, I1.kept (t' := s1.toks) fun b o e => Heap.get?_push_of_some _ e, turn_range _ lo (hi - lo).toNat, ?_, fun b hb => ?_, q⟩
  · have e1 : lo + ((0 : Nat) : Int) * 1 = lo := by simp
    have e2 : (((hi - lo).toNat : Nat) : Int) - ((0 : Nat) : Int) = Builtin.Range.rangeSize lo hi 1 := by rw [rangeSize_one]; split <;> omega
    show IsRangeIter _ _ (lo + ((0 : Nat) : Int) * 1) ((((hi - lo).toNat : Nat) : Int) - ((0 : Nat) : Int)) 1
    rw [e1, e2]
    exact Heap.get?_push_size _ rfl
  · have e : b = s1.heap.objs.size := by simpa using hb
    subst e
    exact I1.fpOk (Nat.le_refl _) (I1.hok.fresh (Nat.le_refl _))
theorem LdB.at {r : R D} {bb : Bool} {Q : VK} {OO : Addr → Prop} {d : D} (e : r = .ok d) (h : ∀ v H', Sm H H' → RepB g.K OO H' v d → (bb = false → Rep g.K OO H' v d) → Q v H') : LdB g W OO σ H r bb Q := by
  rw [e]; exact h
theorem si_of (hK : X.K = g.K) {tg e : Expr} {c : CE} (h : SB g O H0 xi W T X e c) : SI g O H0 xi W T X tg e (.of c) :=
  PI.by' (PI.or' (pi_tup h) (PI.or' (pi_list h) (PI.or' (pi_str h) (pi_rngV h)))) fun σ H R ⟨ρ, I, q⟩ => by
    simp only [evI] at q
    cases hv : evB T c ρ with
    | err k fs =>
      have hv' : bor c ρ (evE T c ρ) = .err k fs := hv
      rw [hv'] at q
      exact .inl ⟨ρ, I, by rw [hv]; exact q⟩
    | stuck =>
      have hv' : bor c ρ (evE T c ρ) = .stuck := hv
      rw [hv'] at q
      exact q.elim
    | ok d =>
      have hv' : bor c ρ (evE T c ρ) = .ok d := hv
      rw [hv'] at q
      simp only [ok_bind] at q
      cases d <;> try (exact q.elim)
      · exact .inr (.inr (.inl ⟨ρ, I, LdB.at hv fun v H1 s1 r z => by
          obtain ⟨rfl, ok⟩ := r.str_of
          exact ⟨_, rfl, q H1 s1 _ (wk_str ok)⟩⟩))
      · exact .inl ⟨ρ, I, LdB.at hv fun v H1 s1 r z => by
          obtain ⟨a, vs, rfl, sq, rr⟩ := r.tup_of
          rw [hK]
          exact ⟨a, rfl, ⟨vs, sq.sq⟩, q H1 s1 _ (wk_tup r.tupL sq.sq rr)⟩⟩
      · exact .inr (.inl ⟨ρ, I, LdB.at hv fun v H1 s1 r z => by
          obtain ⟨a, vs, rfl, sq, n, rr⟩ := r.lst_n z
          rw [hK]
          exact ⟨a, rfl, ⟨vs, SqL.of sq⟩, q H1 s1 _ (wk_lst r.lstL sq n rr)⟩⟩)
      · exact .inr (.inl ⟨ρ, I, LdB.at hv fun v H1 s1 r z => by
          obtain ⟨a, vs, rfl, sq, rr⟩ := r.frl_of
          rw [hK]
          exact ⟨a, rfl, ⟨vs, hK ▸ sq.sq⟩, q H1 s1 _ (wk_frl r.frlL sq rr)⟩⟩)
      · rename_i lo hi
        simp only [itemsD] at q
        by_cases hk : (rngOk lo hi && decide ((hi - lo).toNat ≤ 16777216)) = true
        · rw [if_pos hk] at q
          have hb := rngOk_is hk
          exact .inr (.inr (.inr ⟨ρ, I, LdB.at hv fun v H1 s1 r z => by
            cases r with
            | of r => cases r with
              | rng ha => exact ⟨_, lo, hi, rfl, ha, ⟨hb.1, hb.2.1, hb.2.2.1, hb.2.2.2.1⟩, q H1 s1 _ (wk_rng hb.2.2.2.2)⟩⟩))
        · rw [if_neg hk] at q
          exact q.elim
theorem si_enum (hK : X.K = g.K) {e : Expr} {c : CE} {p pos tpos : Pos} {elts : List Expr} {kk : Nat} (hg : Gl X "enumerate") (hm : X.mg "enumerate" = none) (hs : notStar e = true) (h : SB g O H0 xi W T X e c) : SI g O H0 xi W T X (.Tuple elts kk tpos) (.Call (.Name "enumerate" p) [e] [] pos) (.enum c) :=
  PI.by' (PI.or' (pi_enumT hg hm h (star_cons hs)) (pi_enum hg hm (pa_cons h pa_nil (star_cons hs)) (star_cons hs))) fun σ H R ⟨ρ, I, q⟩ => by
    simp only [evI] at q
    cases hv : evB T c ρ with
    | err k fs =>
      have hv' : bor c ρ (evE T c ρ) = .err k fs := hv
      rw [hv'] at q
      exact .inl ⟨ρ, I, by rw [hv]; exact q⟩
    | stuck =>
      have hv' : bor c ρ (evE T c ρ) = .stuck := hv
      rw [hv'] at q
      exact q.elim
    | ok d =>
      have hv' : bor c ρ (evE T c ρ) = .ok d := hv
      rw [hv'] at q
      simp only [ok_bind] at q
      cases d <;> try (exact q.elim)
      · exact .inl ⟨ρ, I, LdB.at hv fun v H1 s1 r z => by
          obtain ⟨a, vs, rfl, sq, rr⟩ := r.tup_of
          rw [hK]
          exact ⟨a, vs, rfl, sq.sq, q H1 s1 _ (wk_enumT r.tupL sq.sq rr)⟩⟩
      · exact .inr ⟨ρ, I, LdB.at hv fun v H1 s1 r z => by
          obtain ⟨a, vs, rfl, sq, n, rr⟩ := r.lst_n z
          rw [hK]
          exact ⟨a, vs, rfl, SqL.of sq, q H1 s1 _ (wk_enumL r.lstL sq n rr)⟩⟩
theorem si_rev (hK : X.K = g.K) {tg e : Expr} {c : CE} {p pos : Pos} (hg : Gl X "reversed") (hm : X.mg "reversed" = none) (hs : notStar e = true) (h : SB g O H0 xi W T X e c) : SI g O H0 xi W T X tg (.Call (.Name "reversed" p) [e] [] pos) (.rev c) :=
  PI.by' (pi_revA hg hm h (star_cons hs)) fun σ H R ⟨ρ, I, q⟩ => ⟨ρ, I, by
    simp only [evI] at q
    cases hv : evB T c ρ with
    | err k fs =>
      have hv' : bor c ρ (evE T c ρ) = .err k fs := hv
      rw [hv'] at q
      exact q
    | stuck =>
      have hv' : bor c ρ (evE T c ρ) = .stuck := hv
      rw [hv'] at q
      exact q.elim
    | ok d =>
      have hv' : bor c ρ (evE T c ρ) = .ok d := hv
      rw [hv'] at q
      simp only [ok_bind] at q
      intro v H1 s1 r z
      rw [hK]
      cases d <;> try (exact q.elim)
      · obtain ⟨a, vs, rfl, sq, rr⟩ := r.tup_of
        exact ⟨a, vs, rfl, .inr ⟨sq.sq, q H1 s1 _ (wk_revT r.tupL sq.sq rr)⟩⟩
      · obtain ⟨a, vs, rfl, sq, n, rr⟩ := r.lst_n z
        exact ⟨a, vs, rfl, .inl ⟨SqL.of sq, q H1 s1 _ (wk_revL r.lstL sq n rr)⟩⟩⟩
theorem si_zip (hK : X.K = g.K) {e f : Expr} {c k : CE} {p pos tpos : Pos} {elts : List Expr} {kk : Nat} (hg : Gl X "zip") (hm : X.mg "zip" = none) (hs : notStar e = true) (hs2 : notStar f = true) (h : SB g O H0 xi W T X e c) (h2 : SB g O H0 xi W T X f k) :
    SI g O H0 xi W T X (.Tuple elts kk tpos) (.Call (.Name "zip" p) [e, f] [] pos) (.zip c k) :=
  PI.by' (pi_zipA hg hm (pa_cons h (pa_cons h2 pa_nil (star_cons hs2)) (star_cons hs)) (star_cons hs) (by rw [star_cons hs2] <;> rfl)) fun σ H R ⟨ρ, I, q⟩ => ⟨ρ, I, by
    simp only [evI] at q
    exact LdG.bindC q fun x v H1 hx s1 r1 z1 q1 => ⟨ρ, I.more s1, LdG.bindC q1 fun y u H2 hy s2 r2 z2 q2 => by
      rw [hK]
      have r1' := r1.gro s2
      have z1' : ownArg ρ c = false → Rep g.K (Own O σ ρ) H2 v x := fun hb => (z1 hb).gro (Gro.of s2)
      cases x <;> cases y <;> try (exact q2.elim)
      · obtain ⟨a, vs, rfl, sq, rr⟩ := r1'.tup_of
        obtain ⟨b, ws, rfl, sq2, rr2⟩ := r2.tup_of
        exact ⟨a, b, vs, ws, rfl, .inr ⟨sq.sq, sq2.sq, q2 H2 (Sm.refl H2) _ (wk_zipT r1'.tupL sq.sq rr sq2.sq rr2)⟩⟩
      · obtain ⟨a, vs, rfl, sq, n, rr⟩ := r1'.lst_n z1'
        obtain ⟨b, ws, rfl, sq2, n2, rr2⟩ := r2.lst_n z2
        refine ⟨a, b, vs, ws, rfl, .inl ⟨SqL.of sq, SqL.of sq2, q2 H2 (Sm.refl H2) _ (wk_zipL r1'.lstL sq (fun hb => n ?_) rr sq2 (fun hb => n2 ?_) rr2)⟩⟩
        · simp only [ownIt, Bool.or_eq_false_iff] at hb; exact hb.1
        · simp only [ownIt, Bool.or_eq_false_iff] at hb; exact hb.2⟩⟩
theorem rngOk_b {i j : Int} (h : rngOk i j = true) : -(2 ^ 62) ≤ i ∧ i < 2 ^ 62 ∧ -(2 ^ 62) ≤ j ∧ j < 2 ^ 62 := by
  unfold rngOk at h
  simpa only [decide_eq_true_eq] using h
theorem si_rng1 {tg e : Expr} {c : CE} {p pos : Pos} (hg : Gl X "range") (hm : X.mg "range" = none) (hs : notStar e = true) (h : SE g O H0 xi W T X e c) : SI g O H0 xi W T X tg (.Call (.Name "range" p) [e] [] pos) (.rng (.cst (.int 0)) c) :=
  PI.by' (pi_range1 hg hm (pa_cons h pa_nil (star_cons hs)) (star_cons hs)) fun σ H R ⟨ρ, I, q⟩ => ⟨ρ, I, by
    simp only [evI, evE, ok_bind] at q
    exact LdG.bindE q fun x v H1 hx s1 r1 q1 => by
      cases x <;> try (exact q1.elim)
      rename_i j
      cases r1
      simp only at q1
      by_cases hk : (rngOk 0 j && decide ((j - 0).toNat ≤ 16777216)) = true
      · rw [if_pos hk] at q1
        have hb := rngOk_is hk
        exact ⟨j, rfl, hb.2.2.1, hb.2.2.2.1, by have := q1 H1 (Sm.refl H1) (Itr 0 (j - 0).toNat) (wk_rng hb.2.2.2.2); simpa using this⟩
      · rw [if_neg hk] at q1
        exact q1.elim⟩
theorem si_rng2 {tg e f : Expr} {c k : CE} {p pos : Pos} (hg : Gl X "range") (hm : X.mg "range" = none) (hs : notStar e = true) (hs2 : notStar f = true) (h : SE g O H0 xi W T X e c) (h2 : SE g O H0 xi W T X f k) : SI g O H0 xi W T X tg (.Call (.Name "range" p) [e, f] [] pos) (.rng c k) :=
  PI.by' (pi_range2 hg hm (pa_cons h (pa_cons h2 pa_nil (star_cons hs2)) (star_cons hs)) (by rw [star_cons hs, star_cons hs2] <;> rfl) (star_cons hs2)) fun σ H R ⟨ρ, I, q⟩ => ⟨ρ, I, by
    simp only [evI] at q
    exact LdG.bindE q fun x v H1 hx s1 r1 q1 => ⟨ρ, I.more s1, LdG.bindE q1 fun y u H2 hy s2 r2 q2 => by
      cases x <;> cases y <;> try (exact q2.elim)
      rename_i i j
      cases r1
      cases r2
      simp only at q2
      by_cases hk : (rngOk i j && decide ((j - i).toNat ≤ 16777216)) = true
      · rw [if_pos hk] at q2
        have hb := rngOk_is hk
        exact ⟨i, j, rfl, ⟨hb.1, hb.2.1, hb.2.2.1, hb.2.2.2.1⟩, q2 H2 (Sm.refl H2) _ (wk_rng hb.2.2.2.2)⟩
      · rw [if_neg hk] at q2
        exact q2.elim⟩⟩
theorem si_rngD {tg e f : Expr} {c k : CE} {kk : Nat} {p pos p1 p2 : Pos} (hg : Gl X "range") (hm : X.mg "range" = none) (hs : notStar e = true) (hs2 : notStar f = true) (h : SE g O H0 xi W T X e c) (h2 : SE g O H0 xi W T X f k) : SI g O H0 xi W T X tg (.Call (.Name "range" p) [e, f, .UnaryOp .USub (.Constant (.int 1) kk p1) p2] [] pos) (.rngD c k) :=
  PI.by' (pi_range3 hg hm (pa_cons h (pa_cons h2 (pa_cons (pe_un un_neg pe_int) pa_nil rfl) (star_cons hs2)) (star_cons hs)) (star_cons hs) (by rw [star_cons hs2] <;> rfl)) fun σ H R ⟨ρ, I, q⟩ => ⟨ρ, I, by
    simp only [evI] at q
    exact LdG.bindE q fun x v H1 hx s1 r1 q1 => ⟨ρ, I.more s1, LdG.bindE q1 fun y u H2 hy s2 r2 q2 => by
      cases x <;> cases y <;> try (exact q2.elim)
      rename_i i j
      cases r1
      cases r2
      simp only at q2
      by_cases hk : (rngOk i j && decide ((i - j).toNat ≤ 16777216)) = true
      · rw [if_pos hk] at q2
        rw [Bool.and_eq_true, decide_eq_true_eq] at hk
        have hb : -(2 ^ 62) ≤ i ∧ i < 2 ^ 62 ∧ -(2 ^ 62) ≤ j ∧ j < 2 ^ 62 := of_decide_eq_true hk.1
        exact ⟨1, rfl, i, j, -1, (i - j).toNat, rfl, RgC.neg hb.1 hb.2.1 hb.2.2.1 hb.2.2.2, q2 H2 (Sm.refl H2) _ fun _ _ => wk0_rngD hk.2⟩
      · rw [if_neg hk] at q2
        exact q2.elim⟩⟩
end
end Ev
end
section
set_option Elab.async false
set_option linter.all false
set_option maxRecDepth 100000
set_option maxHeartbeats 2000000
namespace Ev
variable [Nm]
open PySem PySem.Spec PyProof.Rows L2

section
variable {g : Cfg} {O : Addr → Prop} {H0 H H' : Hp} {xi : Option XI} {σ σ' : St} {ρ ρ' : Rho} {W : WX} {X : Cx} {T : Tb}
abbrev WF : WX := fun _ _ _ _ => False
def turnC (T : Tb) (tg : Tgt) (cd : CT) (elt : CE) (ρ : Rho) (d : D) : R (Option D) := do
  let ρ1 ← bindT tg d ρ
  let c ← evT T cd ρ1
  if c then do let y ← evE T elt ρ1; pure (some y) else pure none
theorem evC_is {tg : Tgt} {it : CI} {cd : CT} {elt : CE} (hx : (T.hot && !itHot it) = false) : evE T (.cmp tg it cd elt) ρ = if tgOwn ρ tg then .stuck else (evI T it ρ >>= fun xs => compL (turnC T tg cd elt ρ) xs >>= fun ys => .ok (.lst ys)) := by
  show (if (T.hot && !itHot it) = true then _ else _) = _
  rw [if_neg (by rw [hx]; decide)]
  rfl
theorem compL_cons {f : D → R (Option D)} {d : D} {ds : List D} {ys : List D} (h : compL f (d :: ds) = .ok ys) : ∃ o r, f d = .ok o ∧ compL f ds = .ok r ∧ ys = (match o with | some y => y :: r | none => r) := by
  simp only [compL] at h
  cases h1 : f d with
  | ok o =>
    rw [h1] at h
    cases h2 : compL f ds with
    | ok r => rw [h2] at h; cases h; exact ⟨o, r, rfl, rfl, rfl⟩
    | err c fs => rw [h2] at h; cases h
    | stuck => rw [h2] at h; cases h
  | err c fs => rw [h1] at h; cases h
  | stuck => rw [h1] at h; cases h
theorem compL_ne {f : D → R (Option D)} : ∀ {ds : List D} (c : Nat) (fs : List D), compL f ds ≠ .err c fs
  | [], c, fs, h => by cases h
  | d :: ds, c, fs, h => by
    simp only [compL] at h
    cases h1 : f d with
    | ok o =>
      rw [h1] at h
      cases h2 : compL f ds with
      | ok r => rw [h2] at h; cases h
      | err c fs => rw [h2] at h; cases h
      | stuck => rw [h2] at h; cases h
    | err c fs => rw [h1] at h; cases h
    | stuck => rw [h1] at h; cases h
theorem wipe_at {σ : St} {vs : List Nat} {i : Nat} (h : vs.contains i = false) : (wipe σ vs)[i]? = σ[i]? := by
  induction vs with
  | nil => rfl
  | cons v vs ih =>
    simp only [List.contains_cons, Bool.or_eq_false_iff] at h
    unfold wipe
    have hv : v ≠ i := by
      intro e
      subst e
      simp at h
    rw [List.getElem?_set_ne hv]
    exact ih h.2
theorem wipe_in {σ : St} {vs : List Nat} {i : Nat} (h : vs.contains i = true) (hi : i < σ.length) : (wipe σ vs)[i]? = some none := by
  induction vs with
  | nil => simp at h
  | cons v vs ih =>
    unfold wipe
    by_cases hv : v = i
    · subst hv
      exact List.getElem?_set_self (by rw [wipe_length]; exact hi)
    · rw [List.getElem?_set_ne hv]
      refine ih ?_
      simp only [List.contains_cons] at h
      have : (i == v) = false := by simp [Ne.symm hv]
      rw [this] at h
      simpa using h
def wipeR (ρ : Rho) : List Nat → Rho
  | [] => ρ
  | v :: vs => (wipeR ρ vs).set v .none
theorem EI.wipeAll (I : EI g O H0 xi σ H ρ) : ∀ vs : List Nat, EI g O H0 xi (wipe σ vs) H (wipeR ρ vs)
  | [] => I
  | v :: vs => (EI.wipeAll I vs).wipe1
theorem wipeR_len (ρ : Rho) : ∀ vs : List Nat, (wipeR ρ vs).length = ρ.length
  | [] => rfl
  | v :: vs => by unfold wipeR; rw [List.length_set, wipeR_len ρ vs]
theorem wipeR_at {vs : List Nat} {i : Nat} (h : vs.contains i = false) : (wipeR ρ vs)[i]? = ρ[i]? := by
  induction vs with
  | nil => rfl
  | cons v vs ih =>
    simp only [List.contains_cons, Bool.or_eq_false_iff] at h
    unfold wipeR
    have hv : v ≠ i := by
      intro e
      subst e
      simp at h
    rw [List.getElem?_set_ne hv]
    exact ih h.2
theorem wipeR_own {vs : List Nat} (hn : ∀ i ∈ vs, isOwn ρ[i]? = false) {i : Nat} {xs : List D} : (wipeR ρ vs)[i]? = some (.own xs) ↔ ρ[i]? = some (.own xs) := by
  induction vs with
  | nil => rfl
  | cons v vs ih =>
    have ih := ih fun i hi => hn i (List.mem_cons_of_mem _ hi)
    unfold wipeR
    by_cases hv : v = i
    · subst hv
      have hno := hn v (by simp)
      constructor
      · intro h
        by_cases hl : v < (wipeR ρ vs).length
        · rw [List.getElem?_set_self hl] at h; cases h
        · rw [List.getElem?_eq_none (by simpa using hl)] at h; cases h
      · intro h
        rw [h] at hno
        simp [isOwn] at hno
    · rw [List.getElem?_set_ne hv]
      exact ih
theorem set_wipe {ρ : Rho} {vs : List Nat} {i : Nat} {d : D} (h : i ∈ vs) : ∀ j, vs.contains j = false ∨ j = i → ((wipeR ρ vs).set i (.val d))[j]? = (ρ.set i (.val d))[j]? := by
  intro j hj
  by_cases hij : i = j
  · subst hij
    by_cases hl : i < ρ.length
    · rw [List.getElem?_set_self hl, List.getElem?_set_self (by rw [wipeR_len]; exact hl)]
    · rw [List.getElem?_eq_none (by rw [List.length_set, wipeR_len]; omega), List.getElem?_eq_none (by rw [List.length_set]; omega)]
  · rw [List.getElem?_set_ne hij, List.getElem?_set_ne hij]
    rcases hj with hj | hj
    · exact wipeR_at hj
    · exact (hij hj.symm).elim
theorem setAll_wipe : ∀ {is : List Nat} {ds : List D} {ρ ρ' ρ1 : Rho} {vs : List Nat}, ρ.length = ρ'.length → (∀ j, vs.contains j = false → ρ'[j]? = ρ[j]?) → (∀ j, vs.contains j = true → is.contains j = true) → setAll is ds ρ = .ok ρ1 → setAll is ds ρ' = .ok ρ1
  | [], [], ρ, ρ', ρ1, vs, hl, h1, h2, h => by
    simp only [setAll] at h ⊢
    cases h
    congr 1
    apply List.ext_getElem?
    intro j
    refine h1 j ?_
    cases hc : vs.contains j with
    | false => rfl
    | true => have := h2 j hc; simp at this
  | [], _ :: _, _, _, _, _, _, _, _, h => by simp [setAll] at h
  | _ :: _, [], _, _, _, _, _, _, _, h => by simp [setAll] at h
  | i :: is, d :: ds, ρ, ρ', ρ1, vs, hl, h1, h2, h => by
    simp only [setAll] at h ⊢
    refine setAll_wipe (vs := vs.filter (· ≠ i)) (by simp [hl]) (fun j hj => ?_) (fun j hj => ?_) h
    · by_cases hij : i = j
      · subst hij
        by_cases hlt : i < ρ.length
        · rw [List.getElem?_set_self hlt, List.getElem?_set_self (by rw [← hl]; exact hlt)]
        · rw [List.getElem?_eq_none (by rw [List.length_set]; omega), List.getElem?_eq_none (by rw [List.length_set]; omega)]
      · rw [List.getElem?_set_ne hij, List.getElem?_set_ne hij]
        refine h1 j ?_
        cases hc : vs.contains j with
        | false => rfl
        | true =>
          exfalso
          have hm : j ∈ vs := by simpa using hc
          have : j ∈ vs.filter (· ≠ i) := List.mem_filter.mpr ⟨hm, by simp [Ne.symm hij]⟩
          rw [List.contains_iff_mem.mpr this] at hj
          cases hj
    · have hm : j ∈ vs.filter (· ≠ i) := by simpa using hj
      have hm' := List.mem_filter.mp hm
      have hji : j ≠ i := by simpa using hm'.2
      have := h2 j (by simpa using hm'.1)
      simp only [List.contains_cons] at this
      have hne : (j == i) = false := by simp [hji]
      rw [hne] at this
      simpa using this
theorem bind_wipe {tg : Tgt} {d : D} {ρ1 : Rho} (h : bindT tg d ρ = .ok ρ1) : bindT tg d (wipeR ρ tg.slots) = .ok ρ1 := by
  cases tg with
  | nm i =>
    simp only [bindT] at h ⊢
    cases h
    congr 1
    apply List.ext_getElem?
    intro j
    by_cases hj : i = j
    · exact set_wipe (by simp [Tgt.slots]) j (.inr hj.symm)
    · exact set_wipe (by simp [Tgt.slots]) j (.inl (by simp [Tgt.slots, Ne.symm hj]))
  | tp is =>
    cases d <;> simp only [bindT] at h ⊢ <;> try (cases h; done)
    all_goals exact setAll_wipe (vs := is) (wipeR_len ρ is).symm (fun j hj => wipeR_at hj) (fun j hj => hj) h
theorem wipe_set {σ : St} {v : Nat} {x : Option V} : ∀ {vs : List Nat}, v ∈ vs → wipe (σ.set v x) vs = wipe σ vs
  | [], h => by cases h
  | u :: vs, h => by
    apply List.ext_getElem?
    intro j
    cases hj : (u :: vs).contains j with
    | false =>
      rw [wipe_at hj, wipe_at hj, List.getElem?_set_ne]
      intro e
      subst e
      rw [List.contains_iff_mem.mpr h] at hj
      cases hj
    | true =>
      by_cases hlt : j < σ.length
      · rw [wipe_in hj hlt, wipe_in hj (by rw [List.length_set]; exact hlt)]
      · rw [List.getElem?_eq_none (by rw [wipe_length, List.length_set]; omega), List.getElem?_eq_none (by rw [wipe_length]; omega)]
theorem wipe_wipe (σ : St) (vs : List Nat) : wipe (wipe σ vs) vs = wipe σ vs := by
  apply List.ext_getElem?
  intro j
  cases hj : vs.contains j with
  | false => rw [wipe_at hj]
  | true =>
    by_cases hlt : j < σ.length
    · rw [wipe_in hj hlt, wipe_in hj (by rw [wipe_length]; exact hlt)]
    · rw [List.getElem?_eq_none (by rw [wipe_length, wipe_length]; omega), List.getElem?_eq_none (by rw [wipe_length]; omega)]
theorem EI.addO {D : Addr} {vs : List V} (I : EI g O H0 xi σ H ρ) (hD : H D = none) (s : Sm H H') (eD : H' D = some (.lst vs)) : EI g (fun a => O a ∨ a = D) H0 xi σ H' ρ := by
  have sub : ∀ a, Own (fun a => O a ∨ a = D) σ ρ a → Own O σ ρ a ∨ H a = none := by
    rintro a ((z | rfl) | z)
    · exact .inl (.inl z)
    · exact .inr hD
    · exact .inl (.inr z)
  have g1 : ∀ {v : V} {d : Ev.D}, Rep g.K (Own O σ ρ) H v d → Rep g.K (Own (fun a => O a ∨ a = D) σ ρ) H' v d := fun r => (r.add sub).gro (Gro.of s)
  have g2 : ∀ {vs : List V} {ds : List Ev.D}, Reps g.K (Own O σ ρ) H vs ds → Reps g.K (Own (fun a => O a ∨ a = D) σ ρ) H' vs ds := fun r => (r.add sub).gro (Gro.of s)
  refine ⟨I.len, I.same.trans s, fun a z => ?_, fun i d e => ?_, fun i xs e => ?_, I.inj, fun i c fs e => ?_, Tabs.sm I.tab s, I.clo⟩
  · rcases z with z | rfl
    · obtain ⟨xs, e⟩ := I.trk a z
      exact ⟨xs, s _ _ e (fun _ z => nomatch z)⟩
    · exact ⟨vs, eD⟩
  · obtain ⟨v, h1, h2⟩ := I.val i d e
    exact ⟨v, h1, g1 h2⟩
  · obtain ⟨a, ws, h1, h2, h3, h4, h5⟩ := I.own i xs e
    exact ⟨a, ws, h1, s _ _ h2 (fun _ z => nomatch z), h3, g2 h4, h5⟩
  · obtain ⟨x, h1, h2, h3, h4, fl, e1, h5⟩ := I.exc i c fs e
    refine ⟨x, h1, h2, h3, h4, fl, s _ _ e1 (fun _ z => nomatch z), fun j n hj => ?_⟩
    obtain ⟨v, e, h6, h7, h8⟩ := h5 j n hj
    exact ⟨v, e, h6, h7, g1 h8⟩
theorem own_add {D : Addr} {σ : St} {ρ : Rho} (a : Addr) : Own (fun a => O a ∨ a = D) σ ρ a ↔ Own O σ ρ a ∨ a = D := by
  constructor
  · rintro ((z | z) | z)
    · exact .inl (.inl z)
    · exact .inr z
    · exact .inl (.inr z)
  · rintro ((z | z) | z)
    · exact .inl (.inl z)
    · exact .inr z
    · exact .inl (.inr z)
theorem slots_no {ct : Tgt} (h : tgOwn ρ ct = false) : ∀ i ∈ ct.slots, isOwn ρ[i]? = false := by
  intro i hi
  cases ct with
  | nm j =>
    simp only [Tgt.slots, List.mem_singleton] at hi
    subst hi
    exact h
  | tp is =>
    simp only [tgOwn, List.any_eq_false] at h
    simpa using h i hi
theorem slots_no' {ct : Tgt} (h : ∀ i ∈ ct.slots, isOwn ρ[i]? = false) : tgOwn ρ ct = false := by
  cases ct with
  | nm j => exact h j (by simp [Tgt.slots])
  | tp is =>
    simp only [tgOwn, List.any_eq_false]
    intro i hi
    rw [h i hi]
    exact Bool.false_ne_true
theorem own_wipe {vs : List Nat} (hno : ∀ i ∈ vs, isOwn ρ[i]? = false) : Own O (wipe σ vs) (wipeR ρ vs) = Own O σ ρ := by
  have nc : ∀ {j : Nat} {zs : List D}, ρ[j]? = some (.own zs) → vs.contains j = false := fun {j zs} z => by
    cases hcj : vs.contains j with
    | false => rfl
    | true =>
      have := hno j (List.contains_iff_mem.mp hcj)
      rw [z] at this
      simp [isOwn] at this
  funext a
  apply propext
  constructor
  · rintro (z | ⟨j, zs, z1, z2⟩)
    · exact .inl z
    · have z1' := (wipeR_own hno).mp z1
      exact .inr ⟨j, zs, z1', by rw [← wipe_at (nc z1')]; exact z2⟩
  · rintro (z | ⟨j, zs, z1, z2⟩)
    · exact .inl z
    · exact .inr ⟨j, zs, (wipeR_own hno).mpr z1, by rw [wipe_at (nc z1)]; exact z2⟩
theorem isOwn_wipe {vs : List Nat} {j : Nat} (hno : ∀ i ∈ vs, isOwn ρ[i]? = false) (h : isOwn ρ[j]? = false) : isOwn (wipeR ρ vs)[j]? = false := by
  cases e2 : (wipeR ρ vs)[j]? with
  | none => rfl
  | some s =>
    cases s with
    | own zs =>
      rw [(wipeR_own hno).mp e2] at h
      simp [isOwn] at h
    | _ => rfl
def xE (t : (Addr → Prop) → TE) : TE := fun σ H Q => ∃ O, t O σ H Q
def xT (t : (Addr → Prop) → TT) : TT := fun σ H Q => ∃ O, t O σ H Q
def xG (t : (Addr → Prop) → TG) : TG := fun v σ H Q => ∃ O, t O v σ H Q
theorem s_cmpL {tg it elt : Expr} {ifs : List Expr} {scope : Scope} {own : List (Str × Nat)} {ct : Tgt} {ci : CI} {cd : CT} {ce : CE} (how : own.map (·.2) = ct.slots) (hx : (T.hot && !itHot ci) = false) : ∀ σ H Q, rE g O H0 xi W (evE T (.cmp ct ci cd ce)) σ H Q →
      tLc (rI g O H0 xi W (evI T ci) (ownIt · ci)) (xG fun O => rG g O H0 xi ct) (xT fun O => rT g O H0 xi WF (evT T cd)) (xE fun O => rE g O H0 xi WF (evE T ce)) (own.map (·.2)) σ H Q := by
  rintro σ H Q ⟨ρ, I, q⟩
  rw [evC_is hx] at q
  by_cases ho : tgOwn ρ ct = true
  · rw [if_pos ho] at q; exact q.elim
  rw [if_neg ho] at q
  have hno := slots_no (Bool.eq_false_iff.mpr ho)
  refine ⟨ρ, I, LdE.bindG q fun xs H1 hx s1 q1 J wk D hD => ?_⟩
  obtain ⟨ll, G, Y, w, hG, gs, _, gy⟩ := wk (fun a => Own O σ ρ a ∨ a = D) (by rintro a (z | rfl); exact .inl z; exact .inr hD)
  cases hcomp : compL (turnC T ct cd ce ρ) xs with
  | err c fs => exact (compL_ne _ _ hcomp).elim
  | stuck => rw [hcomp] at q1; exact q1.elim
  | ok ys =>
    rw [hcomp] at q1
    have I1 := I.more s1
    have hDO : ¬ Own O σ ρ D := I1.trkO.no hD
    rw [how]
    have ow : ∀ {σ : St} {ρ : Rho}, Own (fun a => O a ∨ a = D) σ ρ = fun a => Own O σ ρ a ∨ a = D := fun {σ ρ} => funext fun a => propext (own_add a)
    refine lc_it w (fun i H2 => i ≤ xs.length ∧ Sm H1 H2 ∧ ∃ vs acc rest, H2 D = some (.lst vs) ∧ Reps g.K (fun a => Own O σ ρ a ∨ a = D) H2 vs acc ∧ compL (turnC T ct cd ce ρ) (xs.drop i) = .ok rest ∧ acc ++ rest = ys ∧ vs.length ≤ i)
      ⟨Nat.zero_le _, same_upd hD, [], [], ys, upd_same, .nil, hcomp, rfl, Nat.le_refl _⟩ (fun i H2 _ p => gs _ _ p.2.1 hG) ?_ ?_
    · -- a turn
      rintro i x H2 H3 hlt ⟨_, s2, vs, acc, rest, eD, ra, hr, hy, hl⟩ y
      obtain ⟨s3, d, hd, rx⟩ := gy i H2 x H3 hlt (gs _ _ s2 hG) y
      have hdrop : xs.drop i = d :: xs.drop (i + 1) := by
        rw [List.drop_eq_getElem_cons hlt]
        congr 1
        rw [List.getElem?_eq_getElem hlt] at hd
        exact Option.some.inj hd
      rw [hdrop] at hr
      obtain ⟨o, r, h1, h2, h3⟩ := compL_cons hr
      unfold turnC at h1
      cases hb : bindT ct d ρ with
      | err c fs => rw [hb] at h1; cases h1
      | stuck => rw [hb] at h1; cases h1
      | ok ρ1 =>
        rw [hb] at h1
        simp only [ok_bind] at h1
        have eD3 := s3 _ _ eD (fun _ z => nomatch z)
        have Iw := (I1.addO hD (s2.trans s3) eD3).wipeAll ct.slots
        have ow1 := own_wipe (O := fun a => O a ∨ a = D) (σ := σ) hno
        refine ⟨fun a => O a ∨ a = D, wipeR ρ ct.slots, d, ρ1, Iw, by rw [ow1, ow]; exact rx, bind_wipe hb, fun σ1 J1 o1 o2 k1 l1 => ?_⟩
        have ow2 : Own (fun a => O a ∨ a = D) σ1 ρ1 = fun a => Own O σ ρ a ∨ a = D := by
          rw [← ow, ← ow1]
          funext a
          exact propext ⟨o1 a, o2 (slots_no' fun i hi => isOwn_wipe hno (hno i hi)) a⟩
        have hw : wipe σ1 ct.slots = wipe (wipe σ ct.slots) ct.slots := by
          apply List.ext_getElem?
          intro j
          cases hj : ct.slots.contains j with
          | false => rw [wipe_at hj, (k1 j hj).1, wipe_at hj, wipe_at hj, wipe_at hj]
          | true =>
            have hle : σ1.length = σ.length := l1.trans (wipe_length ..)
            by_cases hlt' : j < σ.length
            · rw [wipe_in hj (by rw [hle]; exact hlt'), wipe_in hj (by rw [wipe_length]; exact hlt')]
            · rw [List.getElem?_eq_none (by rw [wipe_length]; omega), List.getElem?_eq_none (by rw [wipe_length, wipe_length]; omega)]
        refine ⟨hw.trans (wipe_wipe ..), fun a => O a ∨ a = D, ρ1, J1, ?_⟩
        cases hcd : evT T cd ρ1 with
        | err c fs => rw [hcd] at h1; cases h1
        | stuck => rw [hcd] at h1; cases h1
        | ok b =>
          rw [hcd] at h1
          intro H4 s4
          simp only [ok_bind] at h1
          cases b with
          | false =>
            rw [if_neg (by decide)] at h1 ⊢
            cases h1
            exact ⟨hlt, (s2.trans s3).trans s4, vs, acc, r, s4 _ _ eD3 (fun _ z => nomatch z), ra.gro (Gro.of (s3.trans s4)), h2, by rw [← hy, h3], Nat.le_succ_of_le hl⟩
          | true =>
            rw [if_pos rfl] at h1 ⊢
            refine ⟨fun a => O a ∨ a = D, ρ1, J1.more s4, ?_⟩
            cases hel : evE T ce ρ1 with
            | err c fs => rw [hel] at h1; cases h1
            | stuck => rw [hel] at h1; cases h1
            | ok yv =>
              rw [hel] at h1
              cases h1
              intro v H5 s5 r5
              rw [ow2] at r5
              have s35 := (s3.trans s4).trans s5
              have sD5 : H5 D = some (.lst vs) := s5 _ _ (s4 _ _ eD3 (fun _ z => nomatch z)) (fun _ z => nomatch z)
              have grow : Gro (fun a => Own O σ ρ a ∨ a = D) H5 (upd H5 D (.lst (vs ++ [v]))) := fun b u e _ => by
                by_cases hb : b = D
                · subst hb
                  rw [sD5] at e
                  cases e
                  exact .inr ⟨.inr rfl, vs, rfl⟩
                · exact .inl (by rw [upd_ne hb]; exact e)
              refine ⟨vs, sD5, by rw [sizeLine_eq]; omega, hlt, ((s2.trans s35).trans' hD sD5), vs ++ [v], acc ++ [yv], r, upd_same, Reps.gro grow (Reps.app (ra.gro (Gro.of s35)) (.cons r5 .nil)), h2, ?_, by simp; omega⟩
              · rw [← hy, h3]; simp
    · rintro H2 ⟨_, s2, vs, acc, rest, eD, ra, hr, hy, hl⟩
      rw [List.drop_length] at hr
      simp only [compL] at hr
      cases hr
      rw [List.append_nil] at hy
      subst hy
      exact q1 _ H2 s2 (.lst (by rw [← ra.length]; omega) hDO eD (ra.less fun a z => .inl z))
theorem s_comp {tg it elt : Expr} {ifs : List Expr} {scope : Scope} {own : List (Str × Nat)} {pos : Pos} {ct : Tgt} {ci : CI} {cd : CT} {ce : CE} (hc : T.hot = false → X.calm = true) (hr : T.hot = true → itHot ci = false) (hN : X.N.Nodup) (hi : SI g O H0 xi W T X tg it ci) (ok : BlkOk X.N X.env.scope scope own)
    (how : own.map (·.2) = ct.slots)
    (hg : ∀ (O : Addr → Prop) (s : Shared) (H : Hp) (C : Addr) (cl : List (Str × Addr)) (fp : List Addr), PG (X.blk s H scope (compEnvC scope cl C X.env) fp) tg (rG g O H0 xi ct))
    (ht : ∀ (O : Addr → Prop) (s : Shared) (H : Hp) (C : Addr) (cl : List (Str × Addr)) (fp : List Addr), PTs (X.blk s H scope (compEnvC scope cl C X.env) fp) ifs (rT g O H0 xi WF (evT T cd)))
    (he : ∀ (O : Addr → Prop) (s : Shared) (H : Hp) (C : Addr) (cl : List (Str × Addr)) (fp : List Addr), PE (X.blk s H scope (compEnvC scope cl C X.env) fp) elt (rE g O H0 xi WF (evE T ce)))
    (hs : ∀ x, foldedSetIterable it X.env x = pure x) : SE g O H0 xi W T X (.ListComp elt [⟨tg, it, ifs, 0⟩] scope pos) (.cmp ct ci cd ce) :=
  match hh : T.hot with
  | true => PE.by' PE.stk fun σ H Q ⟨ρ, I, q⟩ => by
    simp only [evE] at q
    rw [if_pos (by rw [hh, hr hh]; rfl)] at q
    exact q
  | false => PE.by' (pe_lc (g := xG fun O => rG g O H0 xi ct) (tt := xT fun O => rT g O H0 xi WF (evT T cd)) (te := xE fun O => rE g O H0 xi WF (evE T ce)) (hc hh) hN hi ok
    (fun s H C cl fp => ⟨fun pins s' σ' H' v u Q I r ⟨O, q⟩ => (hg O s H C cl fp).run pins s' σ' H' v u Q I r q⟩)
    (fun s H C cl fp => ⟨fun pins s' σ' H' Q I ⟨O, q⟩ => (ht O s H C cl fp).run pins s' σ' H' Q I q⟩)
    (fun s H C cl fp => ⟨fun pins s' σ' H' Q I ⟨O, q⟩ => (he O s H C cl fp).run pins s' σ' H' Q I q⟩) hs) (s_cmpL (tg := tg) (it := it) (elt := elt) (ifs := ifs) (scope := scope) how (by rw [hh]; rfl))
end
end Ev
end
section
set_option Elab.async false
set_option linter.all false
set_option maxRecDepth 100000
set_option maxHeartbeats 4000000
namespace PySem.W
open PySem PySem.Spec PySem.Calls PyProof.Rows
section
variable {prog : Program} {w : World} {A : Around} {E : Value → Shared → Prop} {K : Frag} {x D : Addr} {ox od : Obj}
theorem ev_dataObj {C : Addr} {nm : Str} {o : Option Obj} {a gt : Value} (h1 : (clsIn K C).isSome = true) (h2 : findIn K (.ref C) nm = some (some a)) (h3 : specialIn K a "__get__" = some (some gt)) (h4 : takesIn K a = some true) :
    findObj K C o nm = some (.bind gt a) := by
  cases hcd : clsIn K C with
  | none => rw [hcd] at h1; cases h1
  | some cd =>
    unfold findObj
    simp only [hcd, Option.bind_some, h2, h3, h4]
structure ClsAsk (K : Frag) (D : Addr) : Prop where
  c1 : findIn K (.ref D) "__getattribute__" = some (some (.builtin "BaseException.__getattribute__"))
  c2 : findIn K (.ref D) "__getattr__" = some none
  c3 : subIn K (.ref D) (.type "BaseException") = some true
  c4 : (clsIn K D).isSome = true
  c5 : findIn K (.ref D) "__class__" = some (some (.builtin "object.__class__"))
  c6 : specialIn K (.builtin "object.__class__") "__get__" = some (some (.builtin "getset_descriptor.__get__"))
  c7 : takesIn K (.builtin "object.__class__") = some true
  c8 : mroIn K D (.type "object") = some true
theorem ev_classOf (F : ClsAsk K D) {s : Shared} {Q : Option Value → Shared → Prop} (X : K.In s.heap) (J : InstAt s.heap x ox D (some od)) (q : Q (some (.ref D)) { s with toks := s.toks + 1 }) :
    wpAny (model prog w) A (getAttr? (.ref x) "__class__") Q E s := by
  have ff : findObj K D (some od) "__class__" = some (.bind (.builtin "getset_descriptor.__get__") (.builtin "object.__class__")) :=
    ev_dataObj F.c4 F.c5 F.c6 F.c7
  obtain ⟨hh, gg, dd, tt, oo⟩ := s
  have K0 := J.type (M := model prog w)
  have K1 := looks_findIn (M := model prog w) X F.c1
  have K2 := looks_findIn (M := model prog w) X F.c2
  have K3 := looks_find (M := model prog w) X J ff
  have isE : Looks (model prog w) hh (isInstance (.ref x) (.type "BaseException")) true :=
    K0.andThen (looks_subIn X F.c3)
  have e2 : (Value.builtin "BaseException.__getattribute__" == Value.builtin "object.__getattribute__") = false := by
    decide +kernel
  unfold getAttr? getAttrBy? getAttrBy
  refine wpAny_bind (wpAny_mkText (wpAny_bind (wpAny_attempt ?_)))
  refine wpAny_holding (wpAny_bind (K0.at (wpAny_bind (K1.at ?_))))
  have e1 : (onTheHeap (Value.ref D) && Value.builtin "BaseException.__getattribute__" == Value.builtin "object.__getattribute__") = false := by
    rw [e2] <;> rfl
  simp only [e1, Bool.false_eq_true, if_false]
  unfold getAttrByItsOwn hookBefore
  refine wpAny_bind ?_
  have onH : onTheHeap (Value.ref D) = true := rfl
  rw [if_pos onH]
  refine K2.at (wpAny_bind (wpAny_attempt (wpAny_holding ?_)))
  unfold callGetattribute
  simp only [Bool.false_and, Bool.false_eq_true, if_false]
  unfold boundAndCalled
  rw [PySem.F.excAttr_ValueError.ga.bind (Value.ref x)]
  refine wpAny_bind (wpAny_pure ?_)
  have go : codeAny (model prog w) A (.call (.builtin "BaseException.__getattribute__") ⟨[.ref x, .str "__class__" tt], []⟩) (fun r s' => r = .ok (.ret (.ref D)) ∧ s' = ⟨hh, gg, dd, tt + 1, oo⟩) ⟨hh, gg, dd, tt + 1, oo⟩ := by
    refine codeAny_call_builtin PySem.F.excAttr_ValueError.ga.plain PySem.F.entry_bexc_ga ?_
    refine @check_slot (model prog w) _ _ ⟨hh, gg, dd, tt + 1, oo⟩ "BaseException.__getattribute__" "BaseException" "__getattribute__" (Value.ref x) [Value.str "__class__" tt] [] _
      (by decide +kernel) (by decide +kernel) isE (PySem.F.args_bexc_ga (Value.ref x) (Value.str "__class__" tt)) ?_
    unfold Builtin.«object.__getattribute__»
    refine wpAny_bind (wpAny_of_eq (a := (Value.ref x, [Value.str "__class__" tt])) (by first | rfl | (simp only [slotArgs]; rfl)) ?_)
    refine wpAny_bind (wpAny_pure (wpAny_bind (K0.at (wpAny_bind (K3.at ?_)))))
    show wpAny _ _ (holding [Value.builtin "object.__class__"] (call (.builtin "getset_descriptor.__get__") [.builtin "object.__class__", .ref x, .ref D]) >>= fun u => ret u) _ _ _
    refine wpAny_bind (wpAny_holding (wpAny_call (class_get (s := ⟨hh, gg, dd, tt + 1, oo⟩) (ox := ox) (od := some od) X J F.c8 ?_)))
    exact wpAny_pure ⟨rfl, rfl⟩
  show wpAny _ _ (call (.builtin "BaseException.__getattribute__") [.ref x, .str "__class__" tt]) _ _ _
  refine wpAny_call (codeAny_mono go fun r s' z => ?_)
  obtain ⟨rfl, rfl⟩ := z
  show wpAny _ _ (handedOut (Value.ref D)) _ _ _
  rw [handedOut_of (v := Value.ref D) rfl]
  first
    | exact wpAny_pure (wpAny_pure q)
    | exact wpAny_pure q
    | exact wpAny_pure (wpAny_bind (wpAny_pure (wpAny_pure q)))
theorem ev_kitx (F : ClsAsk K D) : KitX K (.ref x) (.ref D) (fun h => InstAt h x ox D (some od)) where
  ty := fun _ _ _ J => J.type
  it := fun M h X _ => by
    have hs := F.c4
    unfold clsIn at hs
    split at hs
    · rename_i c1 d1 cd1 sl1 e1
      intro A1 Q1 E1 s1 k1 q1
      unfold isType loadHead
      exact wpAny_bind (wpAny_loadPart (k1 _ _ (X _ _ e1)) (wpAny_pure q1))
    · simp at hs
  ne := fun h tp d1 its n sl X htp => by
    have hs := F.c4
    refine Bool.eq_false_iff.mpr fun q1 => ?_
    have e0 : D = tp := Value.ref.inj (beq_iff_eq.mp q1)
    subst e0
    unfold clsIn at hs
    split at hs
    · rename_i c1 d1 cd1 sl1 e1
      have := (X _ _ e1).symm.trans htp
      cases this
    · simp at hs
  ca := fun X J q => ev_classOf F X J q
end
end PySem.W
namespace Ev
variable [Nm]
open PySem PySem.Spec PyProof.Rows L2
structure XiAt (g : Cfg) (X : Cx) (x : XI) : Prop where
  ex : ∃ (oe : Obj) (vs : Array Value), (x.a, oe) ∈ X.pn ∧ Zc (.ref (g.cAd x.c)) (some x.d) oe ∧ oe.data = .fields vs
structure ExF (g : Cfg) (c : Nat) : Prop where
  ask : PySem.W.ClsAsk g.K (g.cAd c)
  hd : PySem.W.hasDictIn g.K (g.cAd c) = true
  no : ∀ n ∈ g.cFl c, PySem.W.findIn g.K (.ref (g.cAd c)) n = some none
section
variable {g : Cfg} {O : Addr → Prop} {H0 H H' : Hp} {xi : Option XI} {σ σ' : St} {ρ ρ' : Rho} {W : WX} {X : Cx} {T : Tb}
theorem xi_inst {x : XI} {pins : List (Addr × Obj)} {s : Shared} (h : XiAt g X x) (I : Inv X pins σ H s) {fl : List (Str × V)} (e : H x.d = some (.xd fl)) :
    ∃ (oe od : Obj) (mA : Str → Option Value), PySem.W.InstAt s.heap x.a oe (g.cAd x.c) (some od) ∧ (∀ n, PySem.W.lookIn n od = some (mA n)) ∧ ∀ n, RelO (fl.lookup n) (mA n) := by
  obtain ⟨oe, vs, hm, hz, hd⟩ := h.ex
  obtain ⟨ha, _⟩ := I.pin (x.a, oe) (List.mem_append_left _ hm)
  obtain ⟨mA, hns, hr⟩ := (I.hok x.d _ e : ObjOk X.prog X.w H s.heap x.d (.xd fl))
  obtain ⟨od, ho, hl⟩ := lookIn_ns hns
  exact ⟨oe, od, mA, ⟨ha, hz.1, by unfold PySem.W.notCls; rw [hd] <;> rfl, by rw [hz.2]; exact ho⟩, hl, hr⟩
theorem s_exf {x : XI} {i j : Nat} {nm fn : Str} {pos p : Pos} (hK : X.K = g.K) (hx : XiAt g X x) (F : ExF g x.c) (hj : (g.cFl x.c)[j]? = some fn) (hN : X.N[i]? = some nm) (hv : Vis X.env.scope nm) (hd : (nm == ("__debug__" : Str)) = false) (hcd : (nm == ("__classdict__" : Str)) = false)
    (hb : attributeBase (.Name nm p) fn X.env (eval (.Name nm p) X.env) = eval (.Name nm p) X.env) : SE g O H0 (some x) W T X (.Attribute (.Name nm p) fn pos) (.exf i j) := by
  refine ⟨fun pins s σ H Q I ⟨ρ, J, q⟩ => ?_⟩
  simp only [evE] at q
  cases hs : ρ[i]? with
  | none => rw [hs] at q; exact q.elim
  | some sl =>
    cases sl with
    | exc c fs =>
      rw [hs] at q
      simp only at q
      cases hf : fs[j]? with
      | none => rw [hf] at q; exact q.elim
      | some d =>
        rw [hf] at q
        obtain ⟨x', e0, rfl, rfl, e3, fl, e4, e5⟩ := J.exc i c fs hs
        cases e0
        obtain ⟨v, d', h1, h2, h3⟩ := e5 j fn hj
        rw [hf] at h1
        cases h1
        refine attr_of hb (thn ((pe_var (X := X) (pos := p) hN hv hd hcd).run pins s σ H (fun u H1 => u = .ref x.a ∧ H1 = H) I ⟨_, e3, rfl, rfl⟩) fun u s1 ⟨u1, H1, I1, ru, eu, eH⟩ => ?_)
        subst eu eH
        cases (show u = Value.ref x.a from ru)
        obtain ⟨oe, od, mA, hi, hl, hr⟩ := xi_inst hx I1 e4
        obtain ⟨w, hw, rw'⟩ := RelO.some_of (v := v) (o := mA fn) (by rw [← h2]; exact hr fn)
        have kk : X.K.In s1.heap := I1.kIn
        rw [hK] at kk
        exact HandSPX.exc_get kk hi F.ask.c1 F.ask.c2 F.ask.c3 (PySem.W.findObj_own F.hd (F.no fn (List.mem_of_getElem? hj)) rfl (by rw [hl, hw])) (handed_of rw') ⟨v, H1, I1.tok _, rw', q v H1 (Sm.refl H1) h3⟩
    | _ => rw [hs] at q; exact q.elim
theorem call_isX {x : XI} (hK : X.K = g.K) (hx : XiAt g X x) (F : ExF g x.c) : CallR X (.builtin "isinstance") (fun xs H Q => ∃ (c : V) (cv : Value) (b : Bool) (fl : List (Str × V)), xs = [.ref x.a, c] ∧ (∀ u, RelV c u → u = cv) ∧ PySem.W.kitOne g.K (.ref (g.cAd x.c)) cv = some b ∧ H x.d = some (.xd fl) ∧ Q (.bl b) H) := by
  intro pins s σ H xs us Q I r h
  obtain ⟨c, cv, b, fl, rfl, hcv, e, e4, q⟩ := h
  obtain ⟨u1, u2, rfl, r1, r2⟩ := vals2 r
  cases (show u1 = Value.ref x.a from r1)
  cases hcv _ r2
  obtain ⟨oe, od, mA, hi, hl, hr⟩ := xi_inst hx I e4
  have kk : X.K.In s.heap := I.kIn
  rw [hK] at kk
  exact PySem.W.kia_one (PySem.W.ev_kitx F.ask) kk hi e (fun z => nomatch z) fun tk => ⟨.bl b, H, I.kept (t' := tk) fun _ _ z => z, rfl, q⟩
theorem s_exi {x : XI} {i c : Nat} {nm cn : Str} {p p1 p2 pos : Pos} (hK : X.K = g.K) (hmg : X.mg = g.mg) (hx : XiAt g X x) (F : ExF g x.c) (hkit : PySem.W.kitOne g.K (.ref (g.cAd x.c)) (.ref (g.cAd c)) = some (T.sub x.c c)) (hN : X.N[i]? = some nm) (hv : Vis X.env.scope nm) (hd : (nm == ("__debug__" : Str)) = false) (hcd : (nm == ("__classdict__" : Str)) = false)
    (hg : Gl X "isinstance") (hm : X.mg "isinstance" = none) (hgc : Gl X cn) (hmc : g.mg cn = some (.ref (g.cAd c))) (hdc : (cn == ("__debug__" : Str)) = false) : SE g O H0 (some x) W T X (.Call (.Name "isinstance" p) [.Name nm p1, .Name cn p2] [] pos) (.exi i c) := by
  have hcl : PE X (.Name cn p2) (fun _ H Q => Q (.ref (g.cAd c)) H) := ⟨fun pins s σ H Q I q => ld_glob I hgc (by rw [hmg]; exact hmc) ⟨.ref (g.cAd c), H, I, rfl, q⟩ hdc⟩
  refine PE.by' (pe_callB (call_isX hK hx F) hg hm (by decide +kernel) (pa_cons (pe_var (pos := p1) hN hv hd hcd) (pa_cons hcl pa_nil rfl) rfl) (by decide) (by decide) rfl rfl) fun σ H Q ⟨ρ, J, q⟩ => ?_
  simp only [evE] at q
  cases hs : ρ[i]? with
  | none => rw [hs] at q; exact q.elim
  | some sl =>
    cases sl with
    | exc c' fs =>
      rw [hs] at q
      obtain ⟨x', e0, rfl, rfl, e3, fl, e4, e5⟩ := J.exc i c' fs hs
      cases e0
      exact ⟨_, e3, .ref (g.cAd c), .ref (g.cAd c), T.sub x.c c, fl, rfl, fun u z => z, hkit, e4, q _ H (Sm.refl H) (.bl _)⟩
    | _ => rw [hs] at q; exact q.elim
theorem s_exv {x : XI} {i : Nat} {nm cn : Str} {n : String} {p p1 p2 pos : Pos} (hK : X.K = g.K) (hx : XiAt g X x) (F : ExF g x.c) (hkit : PySem.W.kitOne g.K (.ref (g.cAd x.c)) (.type n) = some true) (hN : X.N[i]? = some nm) (hv : Vis X.env.scope nm) (hd : (nm == ("__debug__" : Str)) = false) (hcd : (nm == ("__classdict__" : Str)) = false)
    (hg : Gl X "isinstance") (hm : X.mg "isinstance" = none) (hgc : Gl X cn) (hmc : X.mg cn = none) (hvc : bootBuiltins cn = some (.type n)) (hnc : cn ≠ "__name__") (hdc : (cn == ("__debug__" : Str)) = false) : SE g O H0 (some x) W T X (.Call (.Name "isinstance" p) [.Name nm p1, .Name cn p2] [] pos) (.exv i) := by
  have hcl : PE X (.Name cn p2) (tC (.ty n)) := pe_bltn hgc hmc hvc rfl hnc hdc
  refine PE.by' (pe_callB (call_isX hK hx F) hg hm (by decide +kernel) (pa_cons (pe_var (pos := p1) hN hv hd hcd) (pa_cons hcl pa_nil rfl) rfl) (by decide) (by decide) rfl rfl) fun σ H Q ⟨ρ, J, q⟩ => ?_
  simp only [evE] at q
  cases hs : ρ[i]? with
  | none => rw [hs] at q; exact q.elim
  | some sl =>
    cases sl with
    | exc c' fs =>
      rw [hs] at q
      obtain ⟨x', e0, rfl, rfl, e3, fl, e4, e5⟩ := J.exc i c' fs hs
      cases e0
      exact ⟨_, e3, .ty n, .type n, true, fl, rfl, fun u z => z, hkit, e4, q _ H (Sm.refl H) (.bl _)⟩
    | _ => rw [hs] at q; exact q.elim
theorem s_rngO (hK : X.K = g.K) {a b : Expr} {lo hi : CE} {p pos : Pos} (ha : SE g O H0 xi W T X a lo) (hb : SE g O H0 xi W T X b hi) (hg : Gl X "range") (hm : X.mg "range" = none) (hs : notStar a = true) (hs2 : notStar b = true) :
    SE g O H0 xi W T X (.Call (.Name "range" p) [a, b] [] pos) (.rngO lo hi) :=
  PE.by' (pe_callTy cr_range2 hg hm (by decide +kernel) (pa_cons ha (pa_cons hb pa_nil (star_cons hs2)) (star_cons hs)) (by decide) (by decide) (star_cons hs) (back_any (by simp [hs2]))) fun σ H Q ⟨ρ, I, q⟩ => ⟨ρ, I, by
    simp only [evE] at q
    exact LdE.bindE q fun x v H1 hx s1 r1 q1 => ⟨ρ, I.more s1, LdE.bindE q1 fun y u H2 hy s2 r2 q2 => by
      cases x <;> cases y <;> try (exact q2.elim)
      cases r1
      cases r2
      exact ⟨_, _, rfl, fun a ha => q2 _ _ (same_upd ha) (.rng upd_same)⟩⟩⟩
end
end Ev
end
section
set_option Elab.async false
set_option linter.all false
set_option maxRecDepth 100000
set_option maxHeartbeats 2000000
namespace Ev
variable [Nm]
open PySem PySem.Spec PyProof.Rows L2

section
variable {g : Cfg} {O : Addr → Prop} {H0 H H' H1 H2 : Hp} {xi : Option XI} {σ σ' : St} {ρ ρ' : Rho} {W : WX} {X : Cx} {T : Tb} {OO OO' OO1 OO2 : Addr → Prop}
theorem same_dom (s : Sm H H') {a : Addr} (h : H' a = none) : H a = none := by
  cases e : H a with
  | none => rfl
  | some o =>
    obtain ⟨o', e'⟩ := s.some e
    rw [e'] at h; cases h
theorem Gro.mono (h : ∀ a, OO a → OO' a) (q : Gro OO H H') : Gro OO' H H' := fun b o e n => (q b o e n).imp id fun z => ⟨h _ z.1, z.2⟩
structure Adv (OO OO' : Addr → Prop) (H H' : Hp) : Prop where
  gro : Gro OO H H'
  dom : ∀ a, H' a = none → H a = none
  own : ∀ a, OO' a → OO a ∨ H a = none
theorem Adv.of (s : Sm H H') (h : ∀ a, OO' a → OO a) : Adv OO OO' H H' := ⟨Gro.of s, fun _ => same_dom s, fun a z => .inl (h a z)⟩
theorem Adv.refl : Adv OO OO H H := Adv.of (Sm.refl H) fun _ h => h
theorem Adv.trans (p : Adv OO OO1 H H1) (q : Adv OO1 OO2 H1 H2) : Adv OO OO2 H H2 where
  gro := fun b o e n => by
    rcases p.gro b o e n with z | z
    · rcases q.gro b o z n with y | ⟨y, x⟩
      · exact .inl y
      · rcases p.own b y with w | w
        · exact .inr ⟨w, x⟩
        · rw [e] at w; cases w
    · exact .inr z
  dom := fun a z => p.dom a (q.dom a z)
  own := fun a z => (q.own a z).elim (fun y => p.own a y) fun y => .inr (p.dom a y)
def LdS (g : Cfg) (O : Addr → Prop) (H0 : Hp) (xi : Option XI) (W : WX) (OO : Addr → Prop) (H : Hp) (r : RS) (D : Ends) : Prop := match r with
  | .nx ρ' => ∀ σ' H', EI g O H0 xi σ' H' ρ' → Adv OO (Own O σ' ρ') H H' → D.nx σ' H'
  | .bk ρ' => ∀ σ' H', EI g O H0 xi σ' H' ρ' → Adv OO (Own O σ' ρ') H H' → D.bk σ' H'
  | .ct ρ' => ∀ σ' H', EI g O H0 xi σ' H' ρ' → Adv OO (Own O σ' ρ') H H' → D.ct σ' H'
  | .ret d => ∀ v H', Sm H0 H' → Rep g.K O H' v d → D.rt v H'
  | .err c fs ρ' => ∀ d σ' H', EI g O H0 xi σ' H' ρ' → Adv OO (Own O σ' ρ') H H' → XF g (Own O σ' ρ') H' c fs d → W (.ref (g.cAd c)) (some d) σ' H'
  | .stuck => False
theorem LdS.adv {r : RS} {D : Ends} (h : LdS g O H0 xi W OO H r D) (a : Adv OO OO1 H H1) : LdS g O H0 xi W OO1 H1 r D := by
  cases r with
  | nx ρ' => exact fun σ' H' I b => h σ' H' I (a.trans b)
  | bk ρ' => exact fun σ' H' I b => h σ' H' I (a.trans b)
  | ct ρ' => exact fun σ' H' I b => h σ' H' I (a.trans b)
  | ret d => exact h
  | err c fs ρ' => exact fun d σ' H' I b x => h d σ' H' I (a.trans b) x
  | stuck => exact h
def rS (g : Cfg) (O : Addr → Prop) (H0 : Hp) (xi : Option XI) (W : WX) (f : Rho → RS) : TS := fun D σ H => ∃ ρ, EI g O H0 xi σ H ρ ∧ LdS g O H0 xi W (Own O σ ρ) H (f ρ) D
abbrev SS (g : Cfg) (O : Addr → Prop) (H0 : Hp) (xi : Option XI) (W : WX) (T : Tb) (X : Cx) (s : Stmt) (c : CS) : Prop := PS X s (rS g O H0 xi W (evS T c))
abbrev SSs (g : Cfg) (O : Addr → Prop) (H0 : Hp) (xi : Option XI) (W : WX) (T : Tb) (X : Cx) (s : List Stmt) (c : List CS) : Prop := PSs X s (rS g O H0 xi W (evSs T c))
theorem PS.by' {X : Cx} {e : Stmt} {t t' : TS} (h : PS X e t) (i : ∀ D σ H, t' D σ H → t D σ H) : PS X e t' := ⟨fun pins s σ H D I q => h.run pins s σ H D I (i D σ H q)⟩
theorem PSs.by' {X : Cx} {e : List Stmt} {t t' : TS} (h : PSs X e t) (i : ∀ D σ H, t' D σ H → t D σ H) : PSs X e t' := ⟨fun pins s σ H D I q => h.run pins s σ H D I (i D σ H q)⟩
theorem LdS.onG {α : Type} {r : R α} {f : α → RS} {D : Ends} {S : α → Hp → Prop} (I : EI g O H0 xi σ H ρ) (h : LdS g O H0 xi W (Own O σ ρ) H (r.on ρ f) D) (c : ∀ a H1, r = .ok a → Sm H H1 → LdS g O H0 xi W (Own O σ ρ) H1 (f a) D → S a H1) : LdG g W (Own O σ ρ) σ H r S := by
  cases r with
  | ok a => exact fun H1 s => c a H1 rfl s (h.adv (Adv.of s fun _ z => z))
  | err k fs => exact fun d H1 s x => h d σ H1 (I.more s) (Adv.of s fun _ z => z) x
  | stuck => exact h
theorem LdS.onE {r : R D} {f : D → RS} {D' : Ends} {S : VK} (I : EI g O H0 xi σ H ρ) (h : LdS g O H0 xi W (Own O σ ρ) H (r.on ρ f) D') (c : ∀ a v H1, r = .ok a → Sm H H1 → Rep g.K (Own O σ ρ) H1 v a → LdS g O H0 xi W (Own O σ ρ) H1 (f a) D' → S v H1) : LdE g W (Own O σ ρ) σ H r S := by
  cases r with
  | ok a => exact fun v H1 s x => c a v H1 rfl s x (h.adv (Adv.of s fun _ z => z))
  | err k fs => exact fun d H1 s x => h d σ H1 (I.more s) (Adv.of s fun _ z => z) x
  | stuck => exact h
theorem ss_nil : SSs g O H0 xi W T X [] [] := PSs.by' pss_nil fun D σ H ⟨ρ, I, q⟩ => q σ H I Adv.refl
theorem ss_cons {s : Stmt} {r : List Stmt} {c : CS} {cs : List CS} (h1 : SS g O H0 xi W T X s c) (h2 : SSs g O H0 xi W T X r cs) : SSs g O H0 xi W T X (s :: r) (c :: cs) :=
  PSs.by' (pss_cons h1 h2) fun D σ H ⟨ρ, I, q⟩ => ⟨ρ, I, by
    simp only [evSs] at q
    cases e : evS T c ρ with
    | nx ρ1 => rw [e] at q; exact fun σ' H' I' a => ⟨ρ1, I', q.adv a⟩
    | bk ρ1 => rw [e] at q; exact q
    | ct ρ1 => rw [e] at q; exact q
    | ret d => rw [e] at q; exact q
    | err c fs ρ1 => rw [e] at q; exact q
    | stuck => rw [e] at q; exact q⟩
theorem ss_pass {pos : Pos} : SS g O H0 xi W T X (.Pass pos) .pass := PS.by' ps_pass fun D σ H ⟨ρ, I, q⟩ => q σ H I Adv.refl
theorem ss_brk {pos : Pos} : SS g O H0 xi W T X (.Break pos) .brk := PS.by' ps_break fun D σ H ⟨ρ, I, q⟩ => q σ H I Adv.refl
theorem ss_cont {pos : Pos} : SS g O H0 xi W T X (.Continue pos) .cont := PS.by' ps_continue fun D σ H ⟨ρ, I, q⟩ => q σ H I Adv.refl
theorem own_O {a : Addr} (h : O a) : Own O σ ρ a := .inl h
theorem ss_ret {e : Expr} {c : CE} {pos : Pos} (h : SE g O H0 xi W T X e c) : SS g O H0 xi W T X (.Return (some e) pos) (.ret c) :=
  PS.by' (ps_ret h) fun D σ H ⟨ρ, I, q⟩ => ⟨ρ, I, LdS.onE I q fun a v H1 _ s x q1 => q1 v H1 (I.same.trans s) (x.less fun _ z => own_O z)⟩
theorem ss_retN {pos : Pos} : SS g O H0 xi W T X (.Return none pos) .retN := PS.by' ps_retN fun D σ H ⟨ρ, I, q⟩ => q .non H I.same .non
theorem ss_ex {e : Expr} {c : CE} {pos : Pos} (h : SE g O H0 xi W T X e c) (hs : swapsWith e none pos.line X.env = pure false) : SS g O H0 xi W T X (.Expr e pos) (.ex c) :=
  PS.by' (ps_expr h hs) fun D σ H ⟨ρ, I, q⟩ => ⟨ρ, I, LdS.onE I q fun a v H1 _ s x q1 => q1 σ H1 (I.more s) Adv.refl⟩
theorem ss_ife {e : Expr} {c : CT} {a b : List Stmt} {ca cb : List CS} {pos : Pos} (h : ST' g O H0 xi W T X e c) (ha : SSs g O H0 xi W T X a ca) (hb : SSs g O H0 xi W T X b cb) : SS g O H0 xi W T X (.If e a b pos) (.ife c ca cb) :=
  PS.by' (ps_if h ha hb) fun D σ H ⟨ρ, I, q⟩ => ⟨ρ, I, LdS.onG I q fun x H1 _ s q1 => by
    cases x with
    | true => rw [if_pos rfl] at q1 ⊢; exact ⟨ρ, I.more s, q1⟩
    | false => rw [if_neg (by decide)] at q1 ⊢; exact ⟨ρ, I.more s, q1⟩⟩
theorem ss_set {i : Nat} {x : Str} {e : Expr} {c : CE} {pos pos' : Pos} (hN : X.N.Nodup) (hi : X.N[i]? = some x) (hx : Loc X.env.scope x) (hf : X.fn x = true ∨ X.env.scope.names.lookup x = some .local) (h : SE g O H0 xi W T X e c) (hs : swapsWith e (some (.Name x pos')) pos.line X.env = pure false) :
    SS g O H0 xi W T X (.Assign [.Name x pos'] e pos) (.set i c) :=
  PS.by' (ps_set hN hi hx h hs hf) fun D σ H ⟨ρ, I, q⟩ => ⟨ρ, I, LdS.onE I q fun a v H1 _ s r q1 => q1 _ H1 ((I.more s).set r) (Adv.of (Sm.refl H1) (own_set (fun _ h => nomatch h) I.len))⟩
theorem ss_unp {tg e : Expr} {is : List Nat} {c : CE} {pos : Pos} (hh : T.hot = false → PG X tg (rG g O H0 xi (.tp is))) (h : SE g O H0 xi W T X e c) (hs : swapsWithSole [tg] e pos.line X.env = pure false) (hw : swappedStores [tg] e X.env = pure none)
    (h1 : (assignEach [tg] X.env).map (·.2) = [assign tg X.env]) : SS g O H0 xi W T X (.Assign [tg] e pos) (.unp is c) := by
  cases hot : T.hot with
  | true =>
    exact PS.by' ps_never fun D σ H ⟨ρ, I, q⟩ => by
      simp only [evS] at q
      rw [if_pos hot] at q
      exact q
  | false =>
    exact PS.by' (ps_asg h (hh hot) hs hw h1) fun D σ H ⟨ρ, I, q⟩ => ⟨ρ, I, by
      simp only [evS] at q
      rw [if_neg (by rw [hot]; decide)] at q
      exact LdS.onE I q fun a v H1 _ s r q1 => by
        cases hb : bindT (.tp is) a ρ with
        | ok ρ1 =>
          rw [hb] at q1
          exact ⟨ρ, a, ρ1, I.more s, r, hb, fun σ1 I1 o1 _ _ _ => q1 σ1 H1 I1 (Adv.of (Sm.refl H1) o1)⟩
        | err k fs =>
          exfalso
          have ne : ∀ (is : List Nat) (ds : List Ev.D) (ρ : Rho), setAll is ds ρ ≠ .err k fs := by
            intro is
            induction is with
            | nil => intro ds ρ z; cases ds <;> cases z
            | cons j is ih => intro ds ρ z; cases ds with
              | nil => cases z
              | cons d ds => exact ih _ _ z
          cases a <;> simp only [bindT] at hb <;> first | (cases hb; done) | exact ne _ _ _ hb
        | stuck => rw [hb] at q1; exact q1.elim⟩
def LdF (g : Cfg) (W : WX) (OO : Addr → Prop) (σ : St) (H : Hp) (r : R D) (Q : VK) : Prop := match r with
  | .ok d => ∀ p vs xs H', d = .lst xs → Sm H H' → H p = none → H' p = some (.lst vs) → Reps g.K (fun a => OO a ∨ a = p) H' vs xs → xs.length ≤ 16777216 → Q (.ref p) H'
  | .err c fs => ∀ d H', Sm H H' → XF g OO H' c fs d → W (.ref (g.cAd c)) (some d) σ H'
  | .stuck => False
def rF (g : Cfg) (O : Addr → Prop) (H0 : Hp) (xi : Option XI) (W : WX) (f : Rho → R D) : TE := fun σ H Q => ∃ ρ, EI g O H0 xi σ H ρ ∧ LdF g W (Own O σ ρ) σ H (f ρ) Q
abbrev SF (g : Cfg) (O : Addr → Prop) (H0 : Hp) (xi : Option XI) (W : WX) (T : Tb) (X : Cx) (e : Expr) (c : CE) : Prop := PE X e (rF g O H0 xi W (evE T c))
theorem LdF.bindG {α : Type} {r : R α} {k : α → R D} {Q : VK} {S : α → Hp → Prop} (h : LdF g W OO σ H (r >>= k) Q) (c : ∀ a H1, r = .ok a → Sm H H1 → LdF g W OO σ H (k a) Q → S a H1) : LdG g W OO σ H r S := by
  cases r with
  | ok a => exact fun H1 s => c a H1 rfl s h
  | err k fs => exact h
  | stuck => exact h
theorem f_lst {es : List Expr} {cs : List CE} {pos : Pos} (h : SA g O H0 xi W T X es cs) (hl : cs.length ≤ 16777216) : SF g O H0 xi W T X (.List es pos) (.lst cs) :=
  PE.by' (pe_lst h) fun σ H Q ⟨ρ, I, q⟩ => ⟨ρ, I, by
    simp only [evE] at q
    exact LdF.bindG q fun ds H1 e s1 q1 vs r => ⟨by rw [r.length, evEs_len e, sizeLine_eq]; exact hl, fun p hp =>
      q1 p vs ds _ rfl (s1.trans (same_upd hp)) (same_dom s1 hp) upd_same ((r.more hp).gro (Gro.of (same_upd hp))) (by rw [evEs_len e]; exact hl)⟩⟩
theorem EI.ownNew {i : Nat} {p : Addr} {vs : List V} {xs : List D} (I : EI g O H0 xi σ H ρ) (hi : i < ρ.length) (s : Sm H H') (hp : H p = none) (e : H' p = some (.lst vs)) (r : Reps g.K (fun a => Own O σ ρ a ∨ a = p) H' vs xs) (l : xs.length ≤ 16777216) :
    EI g O H0 xi (σ.set i (some (.ref p))) H' (ρ.set i (.own xs)) ∧ ∀ a, Own O (σ.set i (some (.ref p))) (ρ.set i (.own xs)) a → Own O σ ρ a ∨ a = p := by
  have hi' : i < σ.length := by rw [← I.len]; exact hi
  have ow : ∀ a, Own O (σ.set i (some (.ref p))) (ρ.set i (.own xs)) a → Own O σ ρ a ∨ a = p := by
    rintro a (z | ⟨j, ys, z1, z2⟩)
    · exact .inl (.inl z)
    · rcases set_none_or z1 with ⟨rfl, _, _⟩ | ⟨hj, z1⟩
      · rw [List.getElem?_set_self hi'] at z2
        cases z2
        exact .inr rfl
      · rw [List.getElem?_set_ne hj] at z2
        exact .inl (.inr ⟨j, ys, z1, z2⟩)
  have add : ∀ a, Own O (σ.set i (some (.ref p))) (ρ.set i (.own xs)) a → Own O σ ρ a ∨ H a = none := fun a z => (ow a z).imp id fun e => by rw [e]; exact hp
  have h0 : H0 p = none := same_dom I.same hp
  refine ⟨⟨by rw [List.length_set, List.length_set]; exact I.len, I.same.trans s, I.trk.same s, fun j d e1 => ?_, fun j ys e1 => ?_, fun j k ys zs a e1 e2 e3 e4 => ?_, fun j c fs e1 => ?_, Tabs.sm I.tab s, I.clo.set (fun _ _ h => nomatch h)⟩, ow⟩
  · rcases set_none_or e1 with ⟨rfl, e1, _⟩ | ⟨hj, e1⟩
    · cases e1
    · obtain ⟨w, h1, h2⟩ := I.val j d e1
      exact ⟨w, by rw [List.getElem?_set_ne hj]; exact h1, (h2.add add).gro (Gro.of s)⟩
  · rcases set_none_or e1 with ⟨rfl, e1, _⟩ | ⟨hj, e1⟩
    · cases e1
      exact ⟨p, vs, List.getElem?_set_self hi', e, h0, r.less ow, l⟩
    · obtain ⟨a, ws, h1, h2, h3, h4, h5⟩ := I.own j ys e1
      exact ⟨a, ws, by rw [List.getElem?_set_ne hj]; exact h1, s _ _ h2 (fun _ z => nomatch z), h3, (h4.add add).gro (Gro.of s), h5⟩
  · have no : ∀ {j : Nat} {ys : List D}, ρ[j]? = some (.own ys) → σ[j]? = some (some (.ref p)) → False := fun {j ys} z1 z2 => by
      obtain ⟨a, ws, h1, h2, _⟩ := I.own j ys z1
      rw [z2] at h1
      cases h1
      rw [hp] at h2
      cases h2
    rcases set_none_or e1 with ⟨rfl, e1, _⟩ | ⟨hj, e1⟩
    · rw [List.getElem?_set_self hi'] at e3
      cases e3
      rcases set_none_or e2 with ⟨rfl, e2, _⟩ | ⟨hk, e2⟩
      · rfl
      · rw [List.getElem?_set_ne hk] at e4
        exact (no e2 e4).elim
    · rw [List.getElem?_set_ne hj] at e3
      rcases set_none_or e2 with ⟨rfl, e2, _⟩ | ⟨hk, e2⟩
      · rw [List.getElem?_set_self hi'] at e4
        cases e4
        exact (no e1 e3).elim
      · rw [List.getElem?_set_ne hk] at e4
        exact I.inj j k ys zs a e1 e2 e3 e4
  · rcases set_none_or e1 with ⟨rfl, e1, _⟩ | ⟨hj, e1⟩
    · cases e1
    · obtain ⟨x, h1, h2, h3, h4, fl, h5, h6⟩ := I.exc j c fs e1
      refine ⟨x, h1, h2, h3, by rw [List.getElem?_set_ne hj]; exact h4, fl, s _ _ h5 (fun _ z => nomatch z), fun k n hk => ?_⟩
      obtain ⟨v, d, y1, y2, y3⟩ := h6 k n hk
      exact ⟨v, d, y1, y2, (y3.add add).gro (Gro.of s)⟩
theorem ss_setOwn {i : Nat} {x : Str} {e : Expr} {c : CE} {pos pos' : Pos} (hN : X.N.Nodup) (hi : X.N[i]? = some x) (hl : ∀ {pins σ H s}, Inv X pins σ H s → i < σ.length) (hx : Loc X.env.scope x) (hf : X.fn x = true ∨ X.env.scope.names.lookup x = some .local) (h : SF g O H0 xi W T X e c) (hs : swapsWith e (some (.Name x pos')) pos.line X.env = pure false) :
    SS g O H0 xi W T X (.Assign [.Name x pos'] e pos) (.setOwn i c) := by
  refine ⟨fun pins s σ H D I0 q0 => (ps_set hN hi hx h hs hf).run pins s σ H D I0 ?_⟩
  obtain ⟨ρ, I, q⟩ := q0
  refine ⟨ρ, I, ?_⟩
  simp only [evS] at q
  cases hd : evE T c ρ with
  | err k fs =>
    rw [hd] at q
    exact fun d H1 s x => q d σ H1 (I.more s) (Adv.of s fun _ z => z) x
  | stuck => rw [hd] at q; exact q
  | ok d =>
    rw [hd] at q
    intro p vs xs H' ed s hp e1 r l
    subst ed
    have hlt : i < ρ.length := by rw [I.len]; exact hl I0
    obtain ⟨J, ow⟩ := I.ownNew hlt s hp e1 r l
    exact q _ H' J ⟨Gro.of s, fun _ => same_dom s, fun a z => (ow a z).imp id fun e => by rw [e]; exact hp⟩
theorem EI.ownUpd {i : Nat} {a : Addr} {vs vs' : List V} {xs xs' : List D} (I : EI g O H0 xi σ H ρ) (hi : ρ[i]? = some (.own xs)) (hs : σ[i]? = some (some (.ref a))) (e : H a = some (.lst vs)) (h0 : H0 a = none) (r : Reps g.K (Own O σ ρ) H vs' xs') (l : xs'.length ≤ 16777216) :
    EI g O H0 xi σ (upd H a (.lst vs')) (ρ.set i (.own xs')) ∧ Adv (Own O σ ρ) (Own O σ (ρ.set i (.own xs'))) H (upd H a (.lst vs')) ∧ ∀ b, Own O σ (ρ.set i (.own xs')) b ↔ Own O σ ρ b := by
  have hlt : i < ρ.length := (List.getElem?_eq_some_iff.mp hi).1
  have oa : Own O σ ρ a := .inr ⟨i, xs, hi, hs⟩
  have ow : ∀ b, Own O σ (ρ.set i (.own xs')) b ↔ Own O σ ρ b := fun b => by
    constructor
    · rintro (z | ⟨j, ys, z1, z2⟩)
      · exact .inl z
      · rcases set_none_or z1 with ⟨rfl, _, _⟩ | ⟨hj, z1⟩
        · exact .inr ⟨i, xs, hi, z2⟩
        · exact .inr ⟨j, ys, z1, z2⟩
    · rintro (z | ⟨j, ys, z1, z2⟩)
      · exact .inl z
      · by_cases hj : i = j
        · subst hj
          exact .inr ⟨i, xs', List.getElem?_set_self hlt, z2⟩
        · exact .inr ⟨j, ys, by rw [List.getElem?_set_ne hj]; exact z1, z2⟩
  have gr : Gro (Own O σ ρ) H (upd H a (.lst vs')) := fun b o eb _ => by
    by_cases hb : b = a
    · subst hb
      rw [e] at eb
      cases eb
      exact .inr ⟨oa, vs, rfl⟩
    · exact .inl (by rw [upd_ne hb]; exact eb)
  have le : ∀ b, Own O σ (ρ.set i (.own xs')) b → Own O σ ρ b := fun b => (ow b).mp
  refine ⟨⟨by rw [List.length_set]; exact I.len, I.same.trans' h0 e, fun b ob => ?_, fun j d e1 => ?_, fun j ys e1 => ?_, fun j k ys zs b e1 e2 e3 e4 => ?_, fun j c fs e1 => ?_, fun p hp => tabS_upd (I.tab p hp) e, I.clo.set1 (fun _ _ h => nomatch h)⟩, ⟨gr, fun b hb => ?_, fun b z => .inl (le b z)⟩, ow⟩
  · by_cases hb : b = a
    · subst hb; exact ⟨vs', upd_same⟩
    · obtain ⟨ys, hy⟩ := I.trk b ob
      exact ⟨ys, by rw [upd_ne hb]; exact hy⟩
  · rcases set_none_or e1 with ⟨rfl, e1, _⟩ | ⟨hj, e1⟩
    · cases e1
    · obtain ⟨w, h1, h2⟩ := I.val j d e1
      exact ⟨w, h1, (h2.gro gr).less le⟩
  · rcases set_none_or e1 with ⟨rfl, e1, _⟩ | ⟨hj, e1⟩
    · cases e1
      exact ⟨a, vs', hs, upd_same, h0, (r.gro gr).less le, l⟩
    · obtain ⟨b, ws, h1, h2, h3, h4, h5⟩ := I.own j ys e1
      have hb : b ≠ a := fun z => by
        subst z
        exact hj (I.inj i j xs ys b hi e1 hs h1)
      exact ⟨b, ws, h1, by rw [upd_ne hb]; exact h2, h3, (h4.gro gr).less le, h5⟩
  · have own' : ∀ {j : Nat} {ys : List D}, (ρ.set i (.own xs'))[j]? = some (.own ys) → ∃ zs, ρ[j]? = some (.own zs) := fun {j ys} z => by
      rcases set_none_or z with ⟨rfl, _, _⟩ | ⟨_, z⟩
      · exact ⟨xs, hi⟩
      · exact ⟨ys, z⟩
    obtain ⟨y1, z1⟩ := own' e1
    obtain ⟨y2, z2⟩ := own' e2
    exact I.inj j k y1 y2 b z1 z2 e3 e4
  · rcases set_none_or e1 with ⟨rfl, e1, _⟩ | ⟨hj, e1⟩
    · cases e1
    · obtain ⟨x, h1, h2, h3, h4, h5⟩ := I.exc j c fs e1
      exact ⟨x, h1, h2, h3, h4, (h5.gro gr).less le⟩
  · by_cases hb' : b = a
    · subst hb'; rw [upd_same] at hb; cases hb
    · rw [upd_ne hb'] at hb; exact hb
theorem ss_app {i : Nat} {x : Str} {e : Expr} {c : CE} {pos cpos apos p : Pos} (hN : X.N[i]? = some x) (hv : Vis X.env.scope x) (hd : (x == ("__debug__" : Str)) = false) (hcd : (x == ("__classdict__" : Str)) = false) (h : SE g O H0 xi W T X e c) (hst : notStar e = true)
    (hbase : attributeBase (.Name x p) "append" X.env (eval (.Name x p) X.env) = eval (.Name x p) X.env)
    (hfew : ((backTo cpos (starEach [e] X.env)).all (fun x => !x.1) && (backToKw cpos (keywordEach [] X.env)).all (fun x => x.1.isSome) && decide ([e].length + ([] : List Keyword).length + (if ([] : List Keyword).isEmpty then 0 else 1) < 30)) = true)
    (hline : (apos.endLine == cpos.line) = true) (hs : swapsWith (.Call (.Attribute (.Name x p) "append" apos) [e] [] cpos) none pos.line X.env = pure false) :
    SS g O H0 xi W T X (.Expr (.Call (.Attribute (.Name x p) "append" apos) [e] [] cpos) pos) (.app i c) :=
  PS.by' (ps_expr (pe_bm PySem.F.plainAttrs_list PySem.F.slot_list_append PySem.F.type_list_append mt_append (pe_var hN hv hd hcd) (pa_cons h pa_nil (star_cons hst)) hbase hfew hline (star_cons hst) rfl) hs) fun D σ H ⟨ρ, I, q⟩ => by
    simp only [evS] at q
    cases hr : ρ[i]? with
    | none => rw [hr] at q; exact q.elim
    | some sl =>
      rw [hr] at q
      cases sl with
      | own xs =>
        obtain ⟨a, vs, h1, h2, h3, h4, h5⟩ := I.own i xs hr
        refine ⟨.ref a, h1, .inl ⟨rfl, vs, SqL.of h2⟩, ρ, I, LdS.onE I q fun d v H1 _ s r q1 => ?_⟩
        by_cases hz : xs.length < 16777216
        · rw [if_pos hz] at q1
          have I1 := I.more s
          obtain ⟨J, ad, _⟩ := I1.ownUpd hr h1 (s _ _ h2 (fun _ z => nomatch z)) h3 (Reps.app (h4.gro (Gro.of s)) (.cons r .nil)) (show (xs ++ [d]).length ≤ 16777216 by simp; omega)
          exact ⟨a, vs, v, rfl, rfl, s _ _ h2 (fun _ z => nomatch z), by rw [h4.length, sizeLine_eq]; exact hz, q1 σ _ J ad⟩
        · rw [if_neg hz] at q1; exact q1.elim
      | _ => exact q.elim
theorem ss_seti {i : Nat} {x : Str} {k e : Expr} {ck c : CE} {pos p tpos : Pos} (hN : X.N[i]? = some x) (hv : Vis X.env.scope x) (hd : (x == ("__debug__" : Str)) = false) (hcd : (x == ("__classdict__" : Str)) = false) (hk : SE g O H0 xi W T X k ck) (h : SE g O H0 xi W T X e c)
    (hs : swapsWithSole [.Subscript (.Name x p) k tpos] e pos.line X.env = pure false) (hw : swappedStores [.Subscript (.Name x p) k tpos] e X.env = pure none) (hg : PG X (.Subscript (.Name x p) k tpos) (gSub (tVar i) (rE g O H0 xi W (evE T ck)) rSetL))
    (h1 : (assignEach [.Subscript (.Name x p) k tpos] X.env).map (·.2) = [assign (.Subscript (.Name x p) k tpos) X.env]) : SS g O H0 xi W T X (.Assign [.Subscript (.Name x p) k tpos] e pos) (.seti i ck c) :=
  PS.by' (ps_asg h hg hs hw h1) fun D σ H ⟨ρ, I, q⟩ => ⟨ρ, I, by
    simp only [evS] at q
    refine LdS.onE I q fun d v H1 _ s r q1 => ?_
    cases hr : ρ[i]? with
    | none => rw [hr] at q1; exact q1.elim
    | some sl =>
      rw [hr] at q1
      cases sl with
      | own xs =>
        obtain ⟨a, vs, h1, h2, h3, h4, h5⟩ := I.own i xs hr
        refine ⟨.ref a, h1, ρ, I.more s, LdS.onE (I.more s) q1 fun z u H2 _ s2 r2 q2 => ?_⟩
        cases z with
        | int z =>
          cases r2
          simp only at q2
          cases hx : ixD xs.length z with
          | none => rw [hx] at q2; exact q2.elim
          | some j =>
            rw [hx] at q2
            have I2 := (I.more s).more s2
            obtain ⟨J, ad, _⟩ := I2.ownUpd hr h1 (s2 _ _ (s _ _ h2 (fun _ z => nomatch z)) (fun _ z => nomatch z)) h3 (Reps.set (r.gro (Gro.of s2)) j ((h4.gro (Gro.of s)).gro (Gro.of s2))) (show (xs.set j d).length ≤ 16777216 by simpa using h5)
            exact ⟨a, vs, z, j, rfl, rfl, s2 _ _ (s _ _ h2 (fun _ z => nomatch z)) (fun _ z => nomatch z), by rw [h4.length]; exact hx, q2 σ _ J ad⟩
        | _ => exact q2.elim
      | _ => exact q1.elim⟩
theorem EI.frz1 (I : EI g O H0 xi σ H ρ) (hO : Trk O H0) {i : Nat} {xs : List D} (hi : ρ[i]? = some (.own xs)) : EI g O H0 xi σ H (ρ.set i (.val (.lst xs))) ∧ ∀ b, Own O σ (ρ.set i (.val (.lst xs))) b → Own O σ ρ b := by
  have hlt : i < ρ.length := (List.getElem?_eq_some_iff.mp hi).1
  obtain ⟨a, vs, hs, e, h0, r, l⟩ := I.own i xs hi
  have le : ∀ b, Own O σ (ρ.set i (.val (.lst xs))) b → Own O σ ρ b := by
    rintro b (z | ⟨j, ys, z1, z2⟩)
    · exact .inl z
    · rcases set_none_or z1 with ⟨rfl, z1, _⟩ | ⟨hj, z1⟩
      · cases z1
      · exact .inr ⟨j, ys, z1, z2⟩
  have na : ¬ Own O σ (ρ.set i (.val (.lst xs))) a := by
    rintro (z | ⟨j, ys, z1, z2⟩)
    · obtain ⟨zs, hz⟩ := hO a z
      rw [h0] at hz
      cases hz
    · rcases set_none_or z1 with ⟨rfl, z1, _⟩ | ⟨hj, z1⟩
      · cases z1
      · exact hj (I.inj i j xs ys a hi z1 hs z2)
  refine ⟨⟨by rw [List.length_set]; exact I.len, I.same, I.trk, fun j d e1 => ?_, fun j ys e1 => ?_, fun j k ys zs b e1 e2 e3 e4 => ?_, fun j c fs e1 => ?_, I.tab, I.clo.set1 (fun _ _ h => nomatch h)⟩, le⟩
  · rcases set_none_or e1 with ⟨rfl, e1, _⟩ | ⟨hj, e1⟩
    · cases e1
      exact ⟨.ref a, hs, .lst l na e (r.less le)⟩
    · obtain ⟨w, h1, h2⟩ := I.val j d e1
      exact ⟨w, h1, h2.less le⟩
  · rcases set_none_or e1 with ⟨rfl, e1, _⟩ | ⟨hj, e1⟩
    · cases e1
    · obtain ⟨b, ws, h1, h2, h3, h4, h5⟩ := I.own j ys e1
      exact ⟨b, ws, h1, h2, h3, h4.less le, h5⟩
  · rcases set_none_or e1 with ⟨rfl, e1, _⟩ | ⟨hj, e1⟩
    · cases e1
    · rcases set_none_or e2 with ⟨rfl, e2, _⟩ | ⟨hk, e2⟩
      · cases e2
      · exact I.inj j k ys zs b e1 e2 e3 e4
  · rcases set_none_or e1 with ⟨rfl, e1, _⟩ | ⟨hj, e1⟩
    · cases e1
    · obtain ⟨x, h1, h2, h3, h4, h5⟩ := I.exc j c fs e1
      exact ⟨x, h1, h2, h3, h4, h5.less le⟩
theorem EI.frz (hO : Trk O H0) : ∀ {is : List Nat} {ρ : Rho}, EI g O H0 xi σ H ρ → EI g O H0 xi σ H (is.foldl Ev.frz1 ρ) ∧ ∀ b, Own O σ (is.foldl Ev.frz1 ρ) b → Own O σ ρ b
  | [], ρ, I => ⟨I, fun _ z => z⟩
  | i :: is, ρ, I => by
    simp only [List.foldl_cons]
    unfold Ev.frz1
    split
    · rename_i xs e
      obtain ⟨J, l⟩ := I.frz1 hO e
      obtain ⟨J2, l2⟩ := EI.frz hO (is := is) J
      exact ⟨J2, fun b z => l b (l2 b z)⟩
    · exact EI.frz hO (is := is) I
theorem ss_frz {is : List Nat} {st : Stmt} {c : CS} {r : List Stmt} {cs : List CS} (hO : Trk O H0) (h : SSs g O H0 xi W T X (st :: r) (c :: cs)) : SSs g O H0 xi W T X (st :: r) (.frz is :: c :: cs) :=
  PSs.by' h fun D σ H ⟨ρ, I, q⟩ => by
    obtain ⟨J, l⟩ := I.frz hO (is := is)
    refine ⟨_, J, ?_⟩
    have e : evSs T (.frz is :: c :: cs) ρ = evSs T (c :: cs) (is.foldl Ev.frz1 ρ) := by
      show (evS T (.frz is) ρ).andThen (evSs T (c :: cs)) = _
      simp only [evS, nx_then]
    rw [e] at q
    exact q.adv (Adv.of (Sm.refl H) l)
theorem ss_retO {i : Nat} {x : Str} {pos p : Pos} (hO : Trk O H0) (hN : X.N[i]? = some x) (hv : Vis X.env.scope x) (hd : (x == ("__debug__" : Str)) = false) (hcd : (x == ("__classdict__" : Str)) = false) : SS g O H0 xi W T X (.Return (some (.Name x p)) pos) (.retO i) :=
  PS.by' (ps_ret (pe_var hN hv hd hcd)) fun D σ H ⟨ρ, I, q⟩ => by
    simp only [evS] at q
    cases hr : ρ[i]? with
    | none => rw [hr] at q; exact q.elim
    | some sl =>
      rw [hr] at q
      cases sl with
      | own xs =>
        obtain ⟨a, vs, h1, h2, h3, h4, h5⟩ := I.own i xs hr
        exact ⟨.ref a, h1, q _ H I.same (.lst h5 (fun z => by
          obtain ⟨zs, hz⟩ := hO a z
          rw [h3] at hz
          cases hz) h2 (h4.less fun _ z => own_O z))⟩
      | val d =>
        obtain ⟨v, h1, h2⟩ := I.val i d hr
        exact ⟨v, h1, q _ H I.same (h2.less fun _ z => own_O z)⟩
      | _ => exact q.elim
theorem ss_for {tg e : Expr} {ct : Tgt} {ci : CI} {b : List Stmt} {cb : List CS} {pos : Pos} (hc : T.hot = false → X.calm = true) (hp : PassesOwn (model X.prog X.w) X.A X.env X.xe) (hi : SI g O H0 xi W T X tg e ci) (hg : T.hot = false → PG X tg (rG g O H0 xi ct)) (hb : SSs g O H0 xi W T X b cb)
    (hs : ∀ x, foldedSetIterable e X.env x = pure x) : SS g O H0 xi W T X (.For tg e b [] pos) (.for ct ci cb) := by
  cases hot : T.hot with
  | true =>
    exact PS.by' ps_never fun D σ H ⟨ρ, I, q⟩ => by
      simp only [evS] at q
      rw [if_pos hot] at q
      exact q
  | false =>
    exact PS.by' (ps_for hp (hc hot) hi (hg hot) hb hs) fun D σ H ⟨ρ, I, q⟩ => ⟨ρ, I, by
      simp only [evS] at q
      rw [if_neg (by rw [hot]; decide)] at q
      cases ho : ownIt ρ ci with
      | true => rw [ho, if_pos rfl] at q; exact q.elim
      | false =>
        rw [ho, if_neg (by decide)] at q
        refine LdS.onG I q fun xs H1 _ s q1 J wk => ?_
        obtain ⟨ll, G, Y, w, hG, gs, gg, gy⟩ := wk (fun a => Own O σ ρ a ∨ H1 a = none) fun a z => z
        have gg := gg ho
        refine for_it w (fun i σ2 H2 => ∃ ρ2, EI g O H0 xi σ2 H2 ρ2 ∧ Adv (Own O σ ρ) (Own O σ2 ρ2) H1 H2 ∧ G H2 ∧ LdS g O H0 xi W (Own O σ ρ) H1 (forL ct (evSs T cb) (xs.drop i) ρ2) D)
          ⟨ρ, I.more s, Adv.refl, hG, q1⟩ (fun i σ2 H2 _ ⟨_, _, _, z, _⟩ => z) ?_ ?_
        · rintro i x σ2 H2 H3 hlt ⟨ρ2, I2, a2, G2, q2⟩ y
          obtain ⟨s3, d, hd, rx⟩ := gy i H2 x H3 hlt G2 y
          have hdrop : xs.drop i = d :: xs.drop (i + 1) := by
            rw [List.drop_eq_getElem_cons hlt]
            congr 1
            rw [List.getElem?_eq_getElem hlt] at hd
            exact Option.some.inj hd
          rw [hdrop] at q2
          simp only [forL] at q2
          cases hbd : bindT ct d ρ2 with
          | err c fs => rw [hbd] at q2; exact q2.elim
          | stuck => rw [hbd] at q2; exact q2.elim
          | ok ρ3 =>
            rw [hbd] at q2
            refine ⟨ρ2, d, ρ3, I2.more s3, rx.less fun a z => a2.own a z, hbd, fun σ4 I4 o1 _ _ _ => ⟨ρ3, I4, ?_⟩⟩
            have a4 : Adv (Own O σ ρ) (Own O σ4 ρ3) H1 H3 := a2.trans (Adv.of s3 o1)
            have G3 := gs H2 H3 s3 G2
            have step : ∀ (ρ5 : Rho) (σ' : St) (H' : Hp), LdS g O H0 xi W (Own O σ ρ) H1 (forL ct (evSs T cb) (xs.drop (i + 1)) ρ5) D → EI g O H0 xi σ' H' ρ5 → Adv (Own O σ4 ρ3) (Own O σ' ρ5) H3 H' → ∃ ρ2, EI g O H0 xi σ' H' ρ2 ∧ Adv (Own O σ ρ) (Own O σ' ρ2) H1 H' ∧ G H' ∧ LdS g O H0 xi W (Own O σ ρ) H1 (forL ct (evSs T cb) (xs.drop (i + 1)) ρ2) D :=
              fun ρ5 σ' H' q5 I5 a5 => ⟨ρ5, I5, a4.trans a5, gg H3 H' (Gro.mono (fun a z => a4.own a z) a5.gro) G3, q5⟩
            simp only at q2
            cases hev : evSs T cb ρ3 with
            | nx ρ5 => rw [hev] at q2; exact fun σ' H' I5 a5 => step ρ5 σ' H' q2 I5 a5
            | ct ρ5 => rw [hev] at q2; exact fun σ' H' I5 a5 => step ρ5 σ' H' q2 I5 a5
            | bk ρ5 => rw [hev] at q2; exact fun σ' H' I5 a5 => q2 σ' H' I5 (a4.trans a5)
            | ret d' => rw [hev] at q2; exact q2
            | err c fs ρ5 => rw [hev] at q2; exact fun d' σ' H' I5 a5 x => q2 d' σ' H' I5 (a4.trans a5) x
            | stuck => rw [hev] at q2; exact q2.elim
        · rintro σ2 H2 ⟨ρ2, I2, a2, G2, q2⟩
          rw [List.drop_length] at q2
          exact q2 σ2 H2 I2 a2⟩
theorem ss_whl {e : Expr} {c : CT} {b : List Stmt} {cb : List CS} {pos : Pos} (hp : PassesOwn (model X.prog X.w) X.A X.env X.xe) (h : ST' g O H0 xi W T X e c) (hb : SSs g O H0 xi W T X b cb) : SS g O H0 xi W T X (.While e b [] pos) (.whl c cb) :=
  PS.by' (ps_while hp h hb) fun D σ H ⟨ρ, I, q⟩ => by
    simp only [evS] at q
    refine ⟨fun m σ2 H2 => ∃ ρ2, EI g O H0 xi σ2 H2 ρ2 ∧ Adv (Own O σ ρ) (Own O σ2 ρ2) H H2 ∧ LdS g O H0 xi W (Own O σ ρ) H (whlL (evT T c) (evSs T cb) m ρ2) D, ⟨WHL, ρ, I, Adv.refl, q⟩, ?_⟩
    rintro m σ2 H2 ⟨ρ2, I2, a2, q2⟩
    cases m with
    | zero => exact q2.elim
    | succ n =>
      simp only [whlL] at q2
      refine ⟨ρ2, I2, ?_⟩
      cases hcv : evT T c ρ2 with
      | err k fs => rw [hcv] at q2; exact q2.elim
      | stuck => rw [hcv] at q2; exact q2.elim
      | ok x =>
        rw [hcv] at q2
        intro H3 s3
        have a3 : Adv (Own O σ ρ) (Own O σ2 ρ2) H H3 := a2.trans (Adv.of s3 fun _ z => z)
        cases x with
        | false =>
          rw [if_neg (by decide)]
          exact q2 σ2 H3 (I2.more s3) a3
        | true =>
          rw [if_pos rfl]
          simp only at q2
          refine ⟨fun σ' H' => ∃ ρ5, EI g O H0 xi σ' H' ρ5 ∧ Adv (Own O σ ρ) (Own O σ' ρ5) H H' ∧ LdS g O H0 xi W (Own O σ ρ) H (whlL (evT T c) (evSs T cb) n ρ5) D, fun σ' H' z => ⟨n, Nat.lt_succ_self n, z⟩, ρ2, I2.more s3, ?_⟩
          cases hev : evSs T cb ρ2 with
          | nx ρ5 => rw [hev] at q2; exact fun σ' H' I5 a5 => ⟨ρ5, I5, a3.trans a5, q2⟩
          | ct ρ5 => rw [hev] at q2; exact fun σ' H' I5 a5 => ⟨ρ5, I5, a3.trans a5, q2⟩
          | bk ρ5 => rw [hev] at q2; exact fun σ' H' I5 a5 => q2 σ' H' I5 (a3.trans a5)
          | ret d' => rw [hev] at q2; exact q2
          | err c fs ρ5 => rw [hev] at q2; exact fun d' σ' H' I5 a5 x => q2 d' σ' H' I5 (a3.trans a5) x
          | stuck => rw [hev] at q2; exact q2.elim
end
end Ev
end
section
set_option Elab.async false
set_option linter.all false
set_option maxRecDepth 100000
set_option maxHeartbeats 4000000
namespace Ev
variable [Nm]
open PySem PySem.Spec PyProof.Rows L2
abbrev Suite := Addr → Value → Option Addr → TS
def wiped (D : Ends) (n : Option Nat) : Ends := match n with
  | none => D
  | some i => { nx := fun σ' H' => D.nx (σ'.set i none) H', rt := D.rt, bk := fun σ' H' => D.bk (σ'.set i none) H', ct := fun σ' H' => D.ct (σ'.set i none) H' }
def caught (n : Option Nat) (a : Addr) (σ : St) : St := match n with
  | none => σ
  | some i => σ.set i (some (.ref a))
def wMix (K : PySem.W.Frag) (Wout : WX) (D : Ends) : List (Value × Option Nat × Suite) → WX
  | [] => Wout
  | (c, n, ts) :: r => fun cls d σ H => ∃ b, PySem.W.exmOne K cls c = some b ∧ (b = true → ∀ a, H a = none → ts a cls d (wiped D n) (caught n a σ) H) ∧ (b = false → wMix K Wout D r cls d σ H)
inductive HdsMix (X : Cx) : List ExceptHandler → List (Value × Option Nat × Suite) → Prop
  | nil : HdsMix X [] []
  | plain {x : Str} {c : Value} {ts : Suite} {st : Stmt} {sts : List Stmt} {np hp : Pos} {hds : List ExceptHandler} {l : List (Value × Option Nat × Suite)} (nm : Names X x c)
      (su : ∀ (a : Addr) (oe : Obj) (cls : Value) (d : Option Addr) (pn : List (Addr × Obj)), L2N.Zn cls d oe → (∃ vs, oe.data = .fields vs) → PSs (X.suite a ((a, oe) :: pn)) (st :: sts) (ts a cls d)) (r : HdsMix X hds l) :
      HdsMix X (.ExceptHandler (some (.Name x np)) none (st :: sts) hp :: hds) ((c, none, ts) :: l)
  | named {x y : Str} {c : Value} {i : Nat} {ts : Suite} {st : Stmt} {sts : List Stmt} {np hp : Pos} {hds : List ExceptHandler} {l : List (Value × Option Nat × Suite)} (nm : Names X x c) (yi : X.N[i]? = some y) (yl : X.env.kindOf y = some .local)
      (su : ∀ (a : Addr) (oe : Obj) (cls : Value) (d : Option Addr) (pn : List (Addr × Obj)), L2N.Zn cls d oe → (∃ vs, oe.data = .fields vs) → PSs (X.suite a ((a, oe) :: pn)) (st :: sts) (ts a cls d)) (r : HdsMix X hds l) :
      HdsMix X (.ExceptHandler (some (.Name x np)) (some y) (st :: sts) hp :: hds) ((c, some i, ts) :: l)
section
variable {X : Cx} {body : List Stmt} {hd : ExceptHandler} {hds : List ExceptHandler} {l : List (Value × Option Nat × Suite)} {pos : Pos} {tb : WX → TS} {Wout : WX}
theorem ps_try_mix (stk : X.stack = X.env :: X.outer) (frm : X.env.frame = some X.env.locals) (ND : X.N.Nodup) (tk : L2N.Takes X Wout)
    (hb : ∀ (W : WX) (pn : List (Addr × Obj)) (xe : Value → Shared → Prop), L2N.Takes (X.tr pn xe) W → PassesOwn (model X.prog X.w) X.A X.env xe → PSs (X.tr pn xe) body (tb W))
    (hm : HdsMix X (hd :: hds) l) : PS X (.Try body (hd :: hds) [] [] pos) (fun D σ H => tb (wMix X.K Wout D l) D σ H) := by
  refine ⟨fun pins s₀ σ₀ H₀ D I₀ q₀ => ?_⟩
  have okX := I₀.ok
  have frs2 : X.A.frames = some (X.env :: X.outer) := by rw [okX.frames, stk]
  refine wpAny_Try_except ?_
  let xe' : Value → Shared → Prop := fun e sa => wpAny (model X.prog X.w) X.A (noteFrame e X.env) (fun _ sb => wpAny (model X.prog X.w) X.A (setFlight e none)
    (fun _ sc => wpAny (model X.prog X.w) X.A (handleBy e X.env (hd :: hds)) (SP X pins D) X.xe sc) X.xe sb) X.xe sa
  have body' := hb (wMix X.K Wout D l) (X.pn ++ pins) xe' (fun u su xx => ?_) PassesOwn.looking
  · refine wpAny_mono (body'.run [] s₀ σ₀ H₀ D (I₀.toTry _) q₀) (fun f sf hf => ?_) fun e se he => he
    cases f with
    | next => exact let ⟨σ1, H1, J1, q1⟩ := hf; wpAny_execs_nil ⟨σ1, H1, J1.ofTry okX, q1⟩
    | brk => exact let ⟨σ1, H1, J1, q1⟩ := hf; ⟨σ1, H1, J1.ofTry okX, q1⟩
    | cont => exact let ⟨σ1, H1, J1, q1⟩ := hf; ⟨σ1, H1, J1.ofTry okX, q1⟩
    | ret u => exact let ⟨v1, σ1, H1, J1, r1, q1⟩ := hf; ⟨v1, σ1, H1, J1.ofTry okX, r1, q1⟩
  · -- what was raised is looked at
    obtain ⟨a, B, sJ, pinsJ, σJ, HJ, cls, d, rfl, J', nb, up, sky, na, os, ag, w⟩ := xx
    have J : Inv X pins σJ HJ sJ := J'.ofTry okX
    have skyE : Sky B (X.env :: X.outer) a (L2N.Zn cls d) X.env.locals su.heap := by rw [← stk]; exact sky
    show wpAny (model X.prog X.w) X.A (noteFrame (.ref a) X.env) _ _ _
    refine L2N.Sky.land L2N.Zn.steady frs2 frm skyE fun hA flA upA => ?_
    have JA : Inv X pins σJ HJ { su with heap := hA } := J.landed nb flA.1 (up.trans upA) os ag
    obtain ⟨oA, vA, eA, zA, dA⟩ := flA.there
    have outside : a ∉ frs (X.env :: X.outer) := fun hin => by
      obtain ⟨_, o2, e2, hnf⟩ := flA.2.2.1.mem hin
      rw [eA] at e2
      cases e2
      exact hnf _ dA
    have notL : a ≠ X.env.locals := fun z => outside (List.mem_filterMap.mpr ⟨X.env, List.mem_cons_self, by rw [frm, z]⟩)
    have notF : a ∉ X.fs := fun hin => by
      obtain ⟨e, he, q⟩ := List.mem_filterMap.mp hin
      exact outside (List.mem_filterMap.mpr ⟨e, List.mem_cons_of_mem _ he, q⟩)
    have SA := JA.suite eA dA na notL notF
    have ask : ∀ {x : Str} {c : Value} {np : Pos} {Q E : Value → Shared → Prop}, Names X x c → Q c { su with heap := hA } →
        wpAny (model X.prog X.w) (X.A.mark (some (.ref a))) (eval (.Name x np) X.env) Q E { su with heap := hA } := fun {x c np Q E} nm q => by
      obtain ⟨k1, k2, k3 | ⟨k3, k4, k5⟩⟩ := nm
      · exact ld_glob (X := X.suite a ((a, oA) :: (X.pn ++ pins))) SA k1 k3 q k2
      · exact ld_blt (X := X.suite a ((a, oA) :: (X.pn ++ pins))) SA k1 k3 k4 q k5 k2
    have LT : PySem.W.Looks (model X.prog X.w) hA (typeOf (.ref a)) cls := fun A Q E s k q =>
      wpAny_typeOf_ref (k _ _ eA) (by rw [zA.1]; exact q)
    have all : ∀ {hds' : List ExceptHandler} {l' : List (Value × Option Nat × Suite)}, HdsMix X hds' l' → wMix X.K Wout D l' cls d σJ HJ →
        wpAny (model X.prog X.w) X.A (handleBy (.ref a) X.env hds') (SP X pins D) X.xe { su with heap := hA } := by
      intro hds' l' hk
      induction hk with
      | nil =>
        intro w'
        refine wpAny_handleBy_nil ?_
        obtain ⟨_, _, _, o3, v3, T3, oT3, t3, e3, z3, d3, f3, _⟩ := id flA
        unfold PySem.passOn
        refine wpAny_bind (wpAny_field e3 d3 f3 ?_)
        have nn : ¬ ((Value.ref T3 == Value.none) = true) := by simp
        rw [if_neg nn]
        have last : wpAny (model X.prog X.w) X.A (setFlight (.ref a) X.env.frame) (fun _ sz => wpAny (model X.prog X.w) X.A (throw (.ref a) : Sem Flow) (SP X pins D) X.xe sz) X.xe { su with heap := hA } := by
          rw [frm]
          refine HandSPX.setFlight_upZ flA fun hB held upB => wpAny_throw (tk _ _ ?_)
          exact ⟨a, B, sJ, pins, σJ, HJ, cls, d, rfl, J, nb, (up.trans upA).trans upB, .inr (.inr (by rw [stk]; exact held)), na, os, ag, w'⟩
        first
          | exact wpAny_bind (wpAny_pure (wpAny_bind last))
          | exact wpAny_bind last
      | @plain x c ts st sts np hp hds2 l2 nm suOk rest ih =>
        rintro ⟨b, hb1, yes, no⟩
        refine wpAny_handleBy_cons (codeAny_handlers_test ?_) (by intro q; cases q)
        refine ask nm ((PySem.W.exm_one (M := model X.prog X.w) JA.kIn LT hb1).here ?_)
        cases b with
        | false => exact ih (no rfl)
        | true =>
          refine codeAny_handlers_suite (HandSPX.lands_againZ flA fun hB flB upB => ?_)
          have JB : Inv X pins σJ HJ { su with heap := hB } := J.landed nb flB.1 ((up.trans upA).trans upB) os ag
          obtain ⟨oB, vB, eB, zB, dB⟩ := flB.there
          have SB := JB.suite eB dB na notL notF
          refine wpAny_mono ((suOk a oB cls d (X.pn ++ pins) zB ⟨_, dB⟩).run [] _ _ HJ _ SB (yes rfl a na)) (fun f sf hf => ?_) fun _ _ z => z.elim
          cases f with
          | next => exact let ⟨σ1, H1, S1, q1⟩ := hf; ⟨σ1, H1, S1.unsuite okX, q1⟩
          | brk => exact let ⟨σ1, H1, S1, q1⟩ := hf; ⟨σ1, H1, S1.unsuite okX, q1⟩
          | cont => exact let ⟨σ1, H1, S1, q1⟩ := hf; ⟨σ1, H1, S1.unsuite okX, q1⟩
          | ret u => exact let ⟨v1, σ1, H1, S1, r1, q1⟩ := hf; ⟨v1, σ1, H1, S1.unsuite okX, r1, q1⟩
      | @named x y c i ts st sts np hp hds2 l2 nm yi yl suOk rest ih =>
        rintro ⟨b, hb1, yes, no⟩
        refine wpAny_handleBy_cons (codeAny_handlers_test ?_) (by intro q; cases q)
        refine ask nm ((PySem.W.exm_one (M := model X.prog X.w) JA.kIn LT hb1).here ?_)
        cases b with
        | false => exact ih (no rfl)
        | true =>
          refine codeAny_handlers_suite_as (HandSPX.lands_againZ flA fun hB flB upB => ?_)
          have JB : Inv X pins σJ HJ { su with heap := hB } := J.landed nb flB.1 ((up.trans upA).trans upB) os ag
          obtain ⟨oB, vB, eB, zB, dB⟩ := flB.there
          have SB := JB.suite eB dB na notL notF
          refine store_ok (X := X.suite a ((a, oB) :: (X.pn ++ pins))) (v := .ref a) SB ND yi (.inl yl) rfl (fun sD SD => ?_) (.inr yl)
          refine wpAny_mono ((suOk a oB cls d (X.pn ++ pins) zB ⟨_, dB⟩).run [] sD _ HJ _ SD (yes rfl a na)) (fun f sf hf => ?_) fun _ _ z => z.elim
          have gone : ∀ {σ1 : St} {H1 : Hp} {Q : Shared → Prop}, Inv (X.suite a ((a, oB) :: (X.pn ++ pins))) [] σ1 H1 sf → (∀ sz, Inv X pins (σ1.set i none) H1 sz → Q sz) →
              wpAny (model X.prog X.w) X.A (do bindName X.env y .none; unbindBehindTheSuite X.env y hp) (fun _ sz => Q sz) X.xe sf := fun {σ1 H1 Q} S1 k => gone_ok (S1.unsuite okX) ND yi yl k
          cases f with
          | next => exact let ⟨σ1, H1, S1, q1⟩ := hf; gone S1 fun sz Jz => ⟨_, _, Jz, q1⟩
          | brk => exact let ⟨σ1, H1, S1, q1⟩ := hf; gone S1 fun sz Jz => ⟨_, _, Jz, q1⟩
          | cont => exact let ⟨σ1, H1, S1, q1⟩ := hf; gone S1 fun sz Jz => ⟨_, _, Jz, q1⟩
          | ret u => exact let ⟨v1, σ1, H1, S1, r1, q1⟩ := hf; gone S1 fun sz Jz => ⟨_, _, _, Jz, r1, q1⟩
    exact all hm w
end
section
variable {g : Cfg} {O : Addr → Prop} {H0 H H' H1 H2 : Hp} {xi : Option XI} {σ σ' : St} {ρ ρ' : Rho} {W : WX} {X : Cx} {T : Tb} {OO OO' OO1 OO2 : Addr → Prop}
theorem noX_at {ρ : Rho} {j : Nat} {s : Slot} (h : (ρ.map Slot.noX)[j]? = some s) (n : s ≠ .none) : ρ[j]? = some s := by
  rw [List.getElem?_map] at h
  cases e : ρ[j]? with
  | none => rw [e] at h; cases h
  | some t =>
    rw [e] at h
    simp only [Option.map_some, Option.some.injEq] at h
    cases t <;> first | (simp only [Slot.noX] at h; subst h; rfl) | (simp only [Slot.noX] at h; exact (n h.symm).elim)
theorem own_noX {a : Addr} (h : Own O σ (ρ.map Slot.noX) a) : Own O σ ρ a := by
  rcases h with z | ⟨j, ys, z1, z2⟩
  · exact .inl z
  · exact .inr ⟨j, ys, noX_at z1 (fun h => nomatch h), z2⟩
theorem EI.dropX (I : EI g O H0 xi σ H ρ) : EI g O H0 none σ H (ρ.map Slot.noX) := by
  refine ⟨by rw [List.length_map]; exact I.len, I.same, I.trk, fun j d e => ?_, fun j ys e => ?_, fun j k ys zs a e1 e2 e3 e4 => ?_, fun j c fs e => ?_, I.tab, fun j l cs e => I.clo j l cs (noX_at e (fun h => nomatch h))⟩
  · obtain ⟨v, h1, h2⟩ := I.val j d (noX_at e (fun h => nomatch h))
    exact ⟨v, h1, h2.less fun _ => own_noX⟩
  · obtain ⟨a, vs, h1, h2, h3, h4, h5⟩ := I.own j ys (noX_at e (fun h => nomatch h))
    exact ⟨a, vs, h1, h2, h3, h4.less fun _ => own_noX, h5⟩
  · exact I.inj j k ys zs a (noX_at e1 (fun h => nomatch h)) (noX_at e2 (fun h => nomatch h)) e3 e4
  · rw [List.getElem?_map] at e
    cases e1 : ρ[j]? with
    | none => rw [e1] at e; cases e
    | some t =>
      rw [e1] at e
      simp only [Option.map_some, Option.some.injEq] at e
      cases t <;> simp only [Slot.noX] at e <;> cases e
theorem EI.withX {x : XI} (I : EI g O H0 none σ H ρ) : EI g O H0 (some x) σ H ρ := by
  refine ⟨I.len, I.same, I.trk, I.val, I.own, I.inj, fun i c fs e => ?_, I.tab, I.clo⟩
  obtain ⟨x, h, _⟩ := I.exc i c fs e
  cases h
def tsOf (g : Cfg) (O : Addr → Prop) (H0 : Hp) (T : Tb) (k : Nat) (n : Option Nat) (b : List CS) : Suite := fun a cls d D σ H => match n with
  | none => rS g O H0 none WF (evSs T.heat b) D σ H
  | some i => ∃ c fs dd, cls = .ref (g.cAd c) ∧ d = some dd ∧ T.sub c k = true ∧ rS g O H0 (some ⟨a, c, fs, dd⟩) WF (evSs T.heat b) D σ H
def hdOf (g : Cfg) (O : Addr → Prop) (H0 : Hp) (T : Tb) : CH → Value × Option Nat × Suite
  | .mk k n b => (.ref (g.cAd k), n, tsOf g O H0 T k n b)
theorem wMix_of {K : PySem.W.Frag} {D : Ends} {c : Nat} {fs : List Ev.D} {d : Addr} {ρ1 : Rho} (hE : ∀ c k, PySem.W.exmOne K (.ref (g.cAd c)) (.ref (g.cAd k)) = some (T.sub c k)) (I : EI g O H0 none σ' H' ρ1) (a : Adv OO (Own O σ' ρ1) H H') (x : XF g (Own O σ' ρ1) H' c fs d) :
    ∀ {hs : List CH}, LdS g O H0 none W OO H (evH T hs c fs ρ1) D → wMix K W D (hs.map (hdOf g O H0 T)) (.ref (g.cAd c)) (some d) σ' H'
  | [], q => q d σ' H' I a x
  | h :: r, q => by
    obtain ⟨k, n, b⟩ := h
    simp only [evH, evH1] at q
    refine ⟨T.sub c k, hE c k, fun hs e na => ?_, fun hs => ?_⟩
    · rw [hs, if_pos rfl] at q
      cases n with
      | none =>
        refine ⟨ρ1, I, ?_⟩
        simp only at q
        cases ev : evSs T.heat b ρ1 with
        | nx ρ2 => rw [ev] at q; exact LdS.adv (r := .nx ρ2) q a
        | bk ρ2 => rw [ev] at q; exact LdS.adv (r := .bk ρ2) q a
        | ct ρ2 => rw [ev] at q; exact LdS.adv (r := .ct ρ2) q a
        | ret v => rw [ev] at q; exact q
        | err c2 fs2 ρ2 => rw [ev] at q; exact q.elim
        | stuck => rw [ev] at q; exact q.elim
      | some i =>
        have J : EI g O H0 (some ⟨e, c, fs, d⟩) (σ'.set i (some (.ref e))) H' (ρ1.set i (.exc c fs)) :=
          (I.withX (x := ⟨e, c, fs, d⟩)).put (fun _ h => nomatch h) (fun _ _ h => nomatch h) (fun _ h => nomatch h) fun c2 fs2 h => by
            cases h
            exact ⟨_, rfl, rfl, rfl, rfl, x⟩
        have lo : ∀ b, Own O (σ'.set i (some (.ref e))) (ρ1.set i (.exc c fs)) b → Own O σ' ρ1 b := own_set (fun _ h => nomatch h) I.len
        have a2 : Adv OO (Own O (σ'.set i (some (.ref e))) (ρ1.set i (.exc c fs))) H H' := a.trans (Adv.of (Sm.refl H') lo)
        refine ⟨c, fs, d, rfl, rfl, hs, _, J, ?_⟩
        simp only at q
        have fin : ∀ {σ2 : St} {H2 : Hp} {ρ2 : Rho}, EI g O H0 (some ⟨e, c, fs, d⟩) σ2 H2 ρ2 → Adv (Own O (σ'.set i (some (.ref e))) (ρ1.set i (.exc c fs))) (Own O σ2 ρ2) H' H2 →
            EI g O H0 none (σ2.set i none) H2 ((ρ2.set i .none).map Slot.noX) ∧ Adv OO (Own O (σ2.set i none) ((ρ2.set i .none).map Slot.noX)) H H2 := fun {σ2 H2 ρ2} I2 b2 =>
          ⟨I2.wipe1.dropX, (a2.trans b2).trans (Adv.of (Sm.refl H2) fun b z => own_set (i := i) (v := none) (s := .none) (fun _ h => nomatch h) I2.len b (own_noX z))⟩
        cases ev : evSs T.heat b (ρ1.set i (.exc c fs)) with
        | nx ρ2 => rw [ev] at q; exact fun σ2 H2 I2 b2 => q _ H2 (fin I2 b2).1 (fin I2 b2).2
        | bk ρ2 => rw [ev] at q; exact fun σ2 H2 I2 b2 => q _ H2 (fin I2 b2).1 (fin I2 b2).2
        | ct ρ2 => rw [ev] at q; exact fun σ2 H2 I2 b2 => q _ H2 (fin I2 b2).1 (fin I2 b2).2
        | ret v => rw [ev] at q; exact q
        | err c2 fs2 ρ2 => rw [ev] at q; exact q.elim
        | stuck => rw [ev] at q; exact q.elim
    · rw [hs, if_neg (by decide)] at q
      exact wMix_of hE I a x q
theorem ss_try {body : List Stmt} {hd : ExceptHandler} {hds : List ExceptHandler} {b : List CS} {hs : List CH} {pos : Pos} (hK : X.K = g.K) (hE : ∀ c k, PySem.W.exmOne g.K (.ref (g.cAd c)) (.ref (g.cAd k)) = some (T.sub c k)) (stk : X.stack = X.env :: X.outer) (frm : X.env.frame = some X.env.locals) (ND : X.N.Nodup) (tk : L2N.Takes X W)
    (hb : ∀ (W : WX) (pn : List (Addr × Obj)) (xe : Value → Shared → Prop), L2N.Takes (X.tr pn xe) W → PassesOwn (model X.prog X.w) X.A X.env xe → SSs g O H0 none W T (X.tr pn xe) body b)
    (hm : HdsMix X (hd :: hds) (hs.map (hdOf g O H0 T))) : SS g O H0 none W T X (.Try body (hd :: hds) [] [] pos) (.try b hs) := by
  cases hot : T.hot with
  | true =>
    exact PS.by' ps_never fun D σ H ⟨ρ, I, q⟩ => by
      simp only [evS] at q
      rw [if_pos hot] at q
      exact q
  | false =>
    exact PS.by' (ps_try_mix (tb := fun W => rS g O H0 none W (evSs T b)) stk frm ND tk hb hm) fun D σ H ⟨ρ, I, q⟩ => ⟨ρ, I, by
      simp only [evS] at q
      rw [if_neg (by rw [hot]; decide)] at q
      cases ev : evSs T b ρ with
      | nx ρ2 => rw [ev] at q; exact q
      | bk ρ2 => rw [ev] at q; exact q
      | ct ρ2 => rw [ev] at q; exact q
      | ret v => rw [ev] at q; exact q
      | err c fs ρ1 =>
        rw [ev] at q
        rw [hK]
        exact fun d σ' H' I' a x => wMix_of hE I' a x q
      | stuck => rw [ev] at q; exact q.elim⟩
end
end Ev
end
section
set_option Elab.async false
set_option linter.all false
set_option maxRecDepth 100000
set_option maxHeartbeats 4000000
namespace Ev
variable [Nm]
open PySem PySem.Spec PyProof.Rows L2
section
variable {X : Cx} {e : Expr} {es : List Expr} {ta : TA} {p pos : Pos}
theorem pmk_own {CX : CXT} {x : Str} {C fI : Addr} {k : Nat} {fd : FuncData} {ps : List Str} {sp : Sp} (T : OexC X.K C) (iC : PySem.W.findIn X.K (.ref C) "__init__" = some (some (.ref fI))) (tI : PySem.W.typeIn X.K (.ref fI) = some (.type "function"))
    (F : FnOk X.prog X.w X.K X.mg X.base CX k fI fd ps sp) (room : Room (k + 1) X.A) (bd : Binds X.K fd ps []) (pass : Passes CX X (fun _ _ _ => False)) (hg : Gl X x) (hm : X.mg x = some (.ref C)) (ha : PA X (e :: es) ta)
    (hdb : (x == ("__debug__" : Str)) = false) (he : starEach (e :: es) X.env = (false, eval e X.env) :: starEach es X.env) (hpl : (backTo pos (starEach es X.env)).any (·.1) = false) :
    L2N.PMk X (.Call (.Name x p) (e :: es) [] pos) (tMkO C sp [] ta) := by
  intro pins s σ H Q I q0
  obtain ⟨nm, qn, N, bs, bm, sn, sub, ab, col, dd, k0, k1, k2, k3, k5, hC, hbm⟩ := T.cls
  have args := ha.run pos pins s σ H _ I q0
  refine wpAny_Call_Name_kw (ld_glob I hg hm ?_ hdb)
  refine PySem.W.callWith_K (h₀ := X.base) I.ok.mod.kin T.kC (thn args fun us sA ⟨vs, HA, IA, rA, short, qA⟩ => ⟨IA.kIn, ?_⟩) he hpl
  obtain ⟨hp, gg, dr, tt, oo⟩ := sA
  have far : hp.objs.size ≤ hp.objs.size + 1 := Nat.le_succ _
  have free : HA (hp.objs.size + 1) = none := IA.hok.fresh far
  have want := qA (hp.objs.size + 1) free
  let hB : Heap := (hp.push (PySem.W.kdv_tup us)).push (PySem.HandSPX.excO C hp.objs.size)
  have keeps : ∀ b o, hp.get? b = some o → hB.get? b = some o := fun b o z => Heap.get?_push_of_some _ (Heap.get?_push_of_some _ z)
  have there : hB.get? (hp.objs.size + 1) = some (PySem.HandSPX.excO C hp.objs.size) := by
    show ((hp.push (PySem.W.kdv_tup us)).push (PySem.HandSPX.excO C hp.objs.size)).get? (hp.objs.size + 1) = _
    heap_get
  have IB : Inv X pins σ (upd HA (hp.objs.size + 1) (exo (hp.objs.size + 1) C none)) ⟨hB, gg, dr, tt, oo⟩ :=
    IA.laid (t' := tt) (a := hp.objs.size + 1) (o := exo (hp.objs.size + 1) C none) (h' := hB) keeps far (exo_ok there)
  have rB : Vals (V.ref (hp.objs.size + 1) :: (vs ++ [])) (Value.ref (hp.objs.size + 1) :: us) := .cons rfl (by rw [List.append_nil]; exact rA)
  have len : (Value.ref (hp.objs.size + 1) :: us ++ []).length = ps.length := by
    rw [List.append_nil, ← Paired.length rB]
    exact F.len _ _ _ _ want
  have few : us.length ≤ sizeLine := by
    rw [← Paired.length rA, sizeLine_eq]
    omega
  have bd' := bd _ (Value.ref (hp.objs.size + 1) :: us) IB.kIn len
  rw [List.append_nil] at bd'
  show wpAny _ _ (call (.ref C) us) _ _ _
  refine wpAny_call (PySem.HandSPX.call_own PySem.F.excBase_ValueError (fun Y => PySem.HandSPX.refsVE_contains Y bm hbm) (IA.kIn _ _ hC) (PySem.W.looks_findIn IA.kIn iC) (fun self => PySem.W.bind_fn IA.kIn self tI) few
    (codeAny_mono (F.run _ X.stack _ _ ⟨Value.ref (hp.objs.size + 1) :: us, []⟩ (Value.ref (hp.objs.size + 1) :: us) _ _ (fun _ _ _ => False) (room.make C us []) (IB.env0.make C us []) bd' rB want) fun r sC hC' => ?_))
  cases r with
  | error er => exact pass pins σ _ _ er sC IB hC'
  | ok fl =>
    cases fl with
    | ret u =>
      obtain ⟨v, HC, osC, bareC, unC, okC, ru, ev, dx, fl, ea, ed, fd, qC⟩ := hC'
      subst ev
      obtain ⟨hD, gD, dD, tD, oD⟩ := sC
      obtain ⟨t0, G, J, kG, gone, obj, na⟩ := mk_end0 (d2 := dD) (t2 := tD) IA far keeps unC okC osC bareC ea ed fd
      exact ⟨ru, hp.objs.size + 1, _, _, ⟨G, gD, dD, tD, oD⟩, _, .ref C, some dx, rfl, J, kG, gone, obj, ⟨rfl, rfl, fun vs e => by cases e; rfl⟩, rfl, rfl, na, rfl, bareC, raises_own T.exC T.tyC, qC⟩
    | next => exact hC'.elim
    | brk => exact hC'.elim
    | cont => exact hC'.elim
end
theorem lookup_mem : ∀ {l : List (Str × V)} {n : Str} {v : V}, (l.map (·.1)).Nodup → (n, v) ∈ l → l.lookup n = some v
  | [], _, _, _, h => by cases h
  | (m, u) :: l, n, v, nd, h => by
    simp only [List.map_cons, List.nodup_cons] at nd
    rcases List.mem_cons.mp h with e | h2
    · cases e
      simp [List.lookup]
    · have hne : n ≠ m := fun e => by
        subst e
        exact nd.1 (List.mem_map.mpr ⟨(n, v), h2, rfl⟩)
      have hb : (n == m) = false := by simpa using hne
      simp only [List.lookup, hb]
      exact lookup_mem nd.2 h2
theorem zip_lookup {l : List Str} {vs : List V} {j : Nat} {n : Str} {v : V} (nd : l.Nodup) (hj : l[j]? = some n) (hv : vs[j]? = some v) : (l.zip vs).reverse.lookup n = some v := by
  refine lookup_mem ?_ ?_
  · rw [List.map_reverse]
    refine List.pairwise_reverse.mpr ?_
    have h : ((l.zip vs).map (·.1)).Sublist l := by
      clear hj hv nd
      induction l generalizing vs with
      | nil => simp
      | cons x l ih =>
        cases vs with
        | nil => simp
        | cons y vs => simpa using ih
    exact (nd.sublist h).imp fun h => h.symm
  · rw [List.mem_reverse]
    exact List.mem_of_getElem? (i := j) (List.getElem?_zip_eq_some.mpr ⟨hj, hv⟩)
def spI (g : Cfg) (c : Nat) : Sp := fun vs H Q E => ∃ a ws, vs = .ref a :: ws ∧ ws.length = (g.cFl c).length ∧ H a = some (exo a (g.cAd c) none) ∧
  ∀ dx, H dx = none → dx ≠ a → Q .non (upd (upd H dx (exd dx ((g.cFl c).zip ws).reverse)) a (exo a (g.cAd c) (some dx)))
structure ExN (g : Cfg) (k c : Nat) (x : Str) (ps : List Str) : Prop where
  T : OexC g.K (g.cAd c)
  iC : PySem.W.findIn g.K (.ref (g.cAd c)) "__init__" = some (some (.ref (g.cIn c)))
  tI : PySem.W.typeIn g.K (.ref (g.cIn c)) = some (.type "function")
  ok : FnOk g.P g.w g.K g.mg g.base (L2N.CX g.P g.w) k (g.cIn c) (g.cFd c) ps (spI g c)
  bd : Binds g.K (g.cFd c) ps []
  mg : g.mg x = some (.ref (g.cAd c))
  nd : (g.cFl c).Nodup
section
variable {g : Cfg} {O : Addr → Prop} {H0 H H' H1 H2 : Hp} {xi : Option XI} {σ σ' : St} {ρ ρ' : Rho} {W : WX} {X : Cx} {T : Tb} {OO OO' OO1 OO2 : Addr → Prop}
theorem ss_raise {k c : Nat} {x : Str} {ps : List Str} {e : Expr} {es : List Expr} {cs : List CE} {p pos pos' : Pos} (F : ExN g k c x ps) (hX : Of g X) (hr : Md T (k + 1) X) (tk : L2N.Takes X W) (hg : Gl X x) (ha : SA g O H0 xi W T X (e :: es) cs) (hs : (e :: es).all notStar = true)
    (hl : cs.length = (g.cFl c).length) (hl2 : cs.length ≤ 1000) (hdb : (x == ("__debug__" : Str)) = false) : SS g O H0 xi W T X (.Raise (some (.Call (.Name x p) (e :: es) [] pos)) none pos') (.raise c cs) := by
  cases hot : T.hot with
  | true =>
    exact PS.by' ps_never fun D σ H ⟨ρ, I, q⟩ => by
      simp only [evS] at q
      rw [if_pos hot] at q
      exact q
  | false =>
    have h1 : notStar e = true ∧ es.all notStar = true := by simpa using hs
    have ok' : FnOk X.prog X.w X.K X.mg X.base (L2N.CX X.prog X.w) k (g.cIn c) (g.cFd c) ps (spI g c) := by rw [hX.P, hX.w, hX.K, hX.mg, hX.base]; exact F.ok
    have mk := pmk_own (X := X) (e := e) (es := es) (p := p) (pos := pos) (by rw [hX.K]; exact F.T) (by rw [hX.K]; exact F.iC) (by rw [hX.K]; exact F.tI) ok' (hr.cold hot).2 (by rw [hX.K]; exact F.bd)
      (fun _ _ _ _ _ _ _ ⟨_, _, _, _, _, _, _, _, _, _, _, _, z⟩ => z.elim) hg (by rw [hX.mg]; exact F.mg) ha hdb (star_cons h1.1) (back_any h1.2)
    exact PS.by' (L2N.ps_raise (hr.cold hot).1 tk mk) fun D σ H ⟨ρ, I, q⟩ => ⟨ρ, I, by
      simp only [evS] at q
      rw [if_neg (by rw [hot]; decide)] at q
      refine LdS.onG I q fun ds H1 ed s q1 vs r => ?_
      have dl : ds.length = cs.length := evEs_len ed
      have I1 := I.more s
      refine ⟨by rw [r.length, dl]; exact hl2, fun a ha => ⟨a, vs, by rw [List.append_nil], by rw [r.length, dl, hl], upd_same, fun dx hd ne => ⟨rfl, dx, _, upd_same, by rw [upd_ne ne, upd_same], by rw [upd_ne ne] at hd; exact hd, ?_⟩⟩⟩
      have hd1 : H1 dx = none := by rw [upd_ne ne] at hd; exact hd
      generalize hfl : ((g.cFl c).zip vs).reverse = fl
      have eqH : upd (L2.del (upd (upd (upd H1 a (exo a (g.cAd c) none)) dx (exd dx fl)) a (exo a (g.cAd c) (some dx))) a) dx (.xd fl) = upd H1 dx (.xd fl) := by
        funext b
        by_cases hb : b = dx
        · subst hb; rw [upd_same, upd_same]
        · rw [upd_ne hb, upd_ne hb]
          by_cases hba : b = a
          · subst hba; rw [del_same, ha]
          · rw [del_ne hba, upd_ne hba, upd_ne hb, upd_ne hba]
      rw [eqH]
      refine q1 dx σ _ (I1.more (same_upd hd1)) (Adv.of (same_upd hd1) fun _ z => z) ⟨fl, upd_same, fun j n hj => ?_⟩
      have hjl : j < ds.length := by rw [dl, hl]; exact (List.getElem?_eq_some_iff.mp hj).1
      obtain ⟨v, e1, e2⟩ := r.getD (i := j) (d := ds[j]) (by simp [hjl])
      exact ⟨v, ds[j], by simp [hjl], by rw [← hfl]; exact zip_lookup F.nd hj e1, e2.gro (Gro.of (same_upd hd1))⟩⟩
end
theorem init2 {X : Cx} {f0 f1 self p0 p1 : Str} {q0 q1 q2 q3 q4 q5 q6 q7 : Pos} (hN : X.N = [self, p0, p1]) (v0 : Vis X.env.scope self) (v1 : Vis X.env.scope p0) (v2 : Vis X.env.scope p1) (d0 : (self == ("__debug__" : Str)) = false) (d1 : (p0 == ("__debug__" : Str)) = false) (d2 : (p1 == ("__debug__" : Str)) = false)
    (c0 : (self == ("__classdict__" : Str)) = false) (c1 : (p0 == ("__classdict__" : Str)) = false) (c2 : (p1 == ("__classdict__" : Str)) = false) :
    PSs X [.Assign [.Attribute (.Name self q0) f0 q1] (.Name p0 q2) q3, .Assign [.Attribute (.Name self q4) f1 q5] (.Name p1 q6) q7] (tSeq (tOst X.K f0 (tVar 0) (tVar 1)) (tOst X.K f1 (tVar 0) (tVar 2))) :=
  pss_cons (ps_ost (pe_var (by rw [hN]; rfl) v0 d0 c0) (pe_var (by rw [hN]; rfl) v1 d1 c1)) (pss_one (ps_ost (pe_var (by rw [hN]; rfl) v0 d0 c0) (pe_var (by rw [hN]; rfl) v2 d2 c2)))
theorem init2_sp {g : Cfg} {c : Nat} {f0 f1 : Str} {vs : List V} {H : Hp} {Q : VK} {E : XK} {N : List Str} (hf : g.cFl c = [f0, f1]) (hN : N.length = 3) (T : OexC g.K (g.cAd c)) (n0 : PySem.W.findIn g.K (.ref (g.cAd c)) f0 = some none) (n1 : PySem.W.findIn g.K (.ref (g.cAd c)) f1 = some none) (h : spI g c vs H Q E) :
    tSeq (tOst g.K f0 (tVar 0) (tVar 1)) (tOst g.K f1 (tVar 0) (tVar 2)) { nx := fun _ H' => Q .non H', rt := Q } (L2.start N vs) H := by
  obtain ⟨a, ws, rfl, hl, ea, k⟩ := h
  rw [hf] at hl k
  match ws, hl with
  | [w0, w1], _ =>
    have st : L2.start N [.ref a, w0, w1] = [some (.ref a), some w0, some w1] := by
      unfold L2.start
      rw [hN]
      rfl
    rw [st]
    refine ⟨w0, rfl, .ref a, rfl, a, g.cAd c, rfl, T, n0, .inl ⟨ea, fun dx hd ne => ⟨w1, rfl, .ref a, rfl, a, g.cAd c, rfl, T, n1, .inr ⟨dx, [(f0, w0)], upd_same, by rw [upd_ne ne, upd_same], by simp, ?_⟩⟩⟩⟩
    have eqH : upd (upd (upd H dx (exd dx [(f0, w0)])) a (exo a (g.cAd c) (some dx))) dx (exd dx [(f1, w1), (f0, w0)]) = upd (upd H dx (exd dx [(f1, w1), (f0, w0)])) a (exo a (g.cAd c) (some dx)) := by
      funext b
      by_cases hb : b = dx
      · subst hb; rw [upd_same, upd_ne ne, upd_same]
      · rw [upd_ne hb]
        by_cases hba : b = a
        · subst hba; rw [upd_same, upd_same]
        · rw [upd_ne hba, upd_ne hba, upd_ne hb, upd_ne hb]
    rw [eqH]
    exact k dx hd ne
end Ev
end
section
set_option Elab.async false
set_option linter.all false
set_option maxRecDepth 100000
set_option maxHeartbeats 4000000
namespace Ev
variable [Nm]
open PySem PySem.Spec PyProof.Rows L2 HotX
section
variable {prog : Program} {w : World} {A : Around} {E : Value → Shared → Prop} {s : Shared}
theorem list_end_hot {it l x1 : Addr} {i : Nat} {items : Array Value} {Q : Option Value → Shared → Prop} (hot : HotAt A x1 s.heap) (hn1 : x1 ≠ it) (hit : s.heap.IsListIter it l i) (hl : s.heap.IsList l items) (hx : items[i]? = none)
    (q : ∀ h', (∀ b o, b ≠ it → s.heap.get? b = some o → h'.get? b = some o) → Q none { s with heap := h' }) : wpAny (model prog w) A (pyNext (.ref it)) Q E s := by
  obtain ⟨oi, gi, ci, di⟩ := id hit
  obtain ⟨ol, gl, _, nl, dl⟩ := hl
  obtain ⟨hh, o1, v1, g1, d1, c1⟩ := hot
  unfold pyNext
  refine wpAny_bind (wpAny_attempt ?_)
  refine wpAny_callSpecial?_slot (name := Str.ofString "__next__") hit.typeIs slot_listiter_next ?_
  refine wpAny_call_entry slot_listiter_next hit.typeIs entry_listiter_next ?_ (args_listiter_next _)
  show wpAny _ _ (field (.ref it) 0 >>= fun u => _) _ _ s
  refine wpAny_bind (wpAny_field gi di (x := Value.ref l) rfl ?_)
  show wpAny _ _ (if (Value.ref l == Value.none) = true then _ else _) _ _ s
  have nn : ¬ ((Value.ref l == Value.none) = true) := Bool.false_ne_true
  rw [if_neg nn]
  show wpAny _ _ (field (.ref it) 1 >>= fun u => _) _ _ s
  refine wpAny_bind (wpAny_field gi di (x := Value.int i 0) rfl ?_)
  show wpAny _ _ (seqItems? (.ref l) >>= fun u => _) _ _ s
  refine wpAny_bind (wpAny_seqItems gl dl ?_)
  simp only [Int.toNat_natCast, hx]
  refine wpAny_bind (wpAny_rule ?_)
  refine wpAny_bind (wpAny_setField gi di (by simp) ?_)
  show wpAny _ _ (newExc (.type "StopIteration") [] >>= fun u => _) _ _ _
  have f1 : (s.heap.update it (Obj.mapFields (·.setIfInBounds 0 Value.none))).get? x1 = some o1 := (Heap.get?_update_other _ _ (Ne.symm hn1)).trans g1
  refine wpAny_bind ?_
  simp only [newExc, newTuple]
  refine wpAny_bind (wpAny_newObj_type ?_ (by size_fits))
  refine wpAny_bind (m := firstArgMember _ _) (wpAny_of_eq (a := Value.none) ?_ ?_)
  · first
    | rfl
    | (simp only [firstArgMember]; rfl)
  refine wpAny_newObj_type ?_ (by size_fits)
  have f2 := Heap.get?_push_of_some { cls := Value.type "tuple", data := Data.seq (#[] : Array Value) } f1
  refine raiseNew_hot ⟨hh, o1, v1, Heap.get?_push_of_some _ (Heap.get?_push_of_some _ f1), d1, c1⟩ (Nat.ne_of_lt (Heap.lt_size (Heap.get?_push_of_some _ f1))) (Heap.get?_push_size _ rfl) rfl ?_ ?_
  · first
    | (simp; done)
    | (simp; omega)
    | (simp only [Array.size_append]; simp; omega)
  refine wpAny_bind (wpAny_isInstance (T := "StopIteration") (b := true) ⟨_, Heap.get?_update_self _ (Heap.get?_push_size _ rfl) rfl, rfl⟩ isSubtype_stop ?_)
  refine wpAny_pure (q _ fun b o nb e => ?_)
  have e1 : (s.heap.update it (Obj.mapFields (·.setIfInBounds 0 Value.none))).get? b = some o := (Heap.get?_update_other _ _ (Ne.symm nb)).trans e
  rw [Heap.get?_update_other _ _ (Nat.ne_of_gt (Heap.lt_size (Heap.get?_push_of_some _ e1)))]
  exact Heap.get?_push_of_some _ (Heap.get?_push_of_some _ e1)
theorem HotAt.kept {A : Around} {x1 : Addr} {h h' : Heap} (k : ∀ o, h.get? x1 = some o → h'.get? x1 = some o) (c : HotAt A x1 h) : HotAt A x1 h' :=
  let ⟨c0, o, vs, c1, c2, c3⟩ := c
  ⟨c0, o, vs, k _ c1, c2, c3⟩
theorem walks_hot {it l x1 : Addr} (n1 : l ≠ it) (n2 : x1 ≠ it) (items : Array Value) :
    Walks prog w A it [it, l, x1] [it] items.size (fun i v => items[i]? = some v) (fun i h => (h.IsListIter it l i ∧ h.IsList l items) ∧ HotAt A x1 h) where
  sub := fun b hb => by simp at hb; simp [hb]
  frame := fun i h h' st k => ⟨⟨st.1.1.at fun o e => k it (by simp) o e, st.1.2.at fun o e => k l (by simp) o e⟩, HotAt.kept (fun o e => k x1 (by simp) o e) st.2⟩
  item := fun i s Q E hi st q => by
    refine wpAny_pyNext_list_item st.1.1 st.1.2 (x := items[i]) (by simp [hi]) fun h' it' sb => ?_
    refine q _ h' s.toks (by simp [hi]) ⟨⟨it', st.1.2.extBut sb.extBut n1⟩, HotAt.kept (fun o e => sb.extBut x1 o n2 e) st.2⟩ fun b o hb e => ?_
    exact sb.extBut b o (fun z => hb (by simp [z])) e
  done := fun s Q E st q => list_end_hot st.2 n2 st.1.1 st.1.2 (by simp) fun h' k => q h' s.toks fun b o hb e => k b o (fun z => hb (by simp [z])) e
  self := fun i s Q E st q => wpAny_pyIter_listiter st.1.1 q
end
section
variable {X : Cx}
theorem cr_allH (hc : L2H.HotC X) : CallR X (.builtin "all") (rAll X.K) := by
  intro pins s σ H vs us Q I r h
  obtain ⟨a, bs, rfl, hs, q⟩ := h
  obtain ⟨its, rv, hl, _⟩ := I.list hs
  rw [Vals.ref1 r]
  have hb := rv.bls
  obtain ⟨x1, hot⟩ := hc.at I
  have lt1 : x1 < s.heap.objs.size := by
    obtain ⟨_, o, vs, g1, _⟩ := hot
    exact Heap.lt_size g1
  refine call_all_walk (iter_any hl.isList fun s2 e2 st hne => ?_)
  subst e2
  have hot2 : HotAt X.A.in1 x1 (s.heap.push { cls := .type "list_iterator", data := .fields #[.ref a, .int 0 0] }) := HotAt.kept (A := X.A.in1) (h := s.heap) (fun o e => Heap.get?_push_of_some _ e) hot
  refine ⟨_, _, _, _, _, _, _, rfl, walks_hot (A := X.A.in1) hne (Nat.ne_of_lt lt1) its.toArray, ⟨st, hot2⟩, truth_bools hb, fun h' tk hk => ?_⟩
  refine ⟨.bl _, H, I.kept fun b o eo => hk b o (fun hm => ?_) (Heap.get?_push_of_some _ eo), ?_, q⟩
  · rcases List.mem_cons.mp hm with e1 | hm
    · exact absurd (e1 ▸ Heap.lt_size eo) (Nat.lt_irrefl _)
    · cases hm
  · show Value.bool _ = Value.bool _
    rw [← L2.all_range, hb, List.size_toArray, List.length_map]
abbrev blkH (X : Cx) (s : Shared) (H : Hp) (scope : Scope) (cenv : Env) (fp : List Addr) : Cx := { X.blk s H scope cenv fp with pn := X.pn }
theorem blkH_inv {sc : Scope} {ce : Env} {fp : List Addr} {s s1 : Shared} {H H1 : Hp} {σ : St} (I : Inv (X.blk s H sc ce fp) [] σ H1 s1) (hp : ∀ p ∈ X.pn, s1.heap.get? p.1 = some p.2 ∧ H1 p.1 = none ∧ p.1 ≠ ce.locals ∧ p.1 ∉ frs X.stack ∧ ∀ v, p.2.data ≠ .cell v) :
    Inv (blkH X s H sc ce fp) [] σ H1 s1 :=
  ⟨⟨I.ok.mod, I.ok.kind, I.ok.glob, I.ok.blt, I.ok.above, I.ok.inj, I.ok.has, I.ok.cab, I.ok.hd, I.ok.frames, I.ok.stk, I.ok.exf, I.ok.bs, I.ok.bsz, I.ok.noex, I.ok.exfs, I.ok.funs, I.ok.frf⟩, I.os, I.bare, I.base, I.loc, I.cell, I.free, I.freeC,
    fun p h => hp p (by simpa using h), I.hok, I.len⟩
theorem blkH_hot {sc : Scope} {ce : Env} {fp : List Addr} {s : Shared} {H : Hp} (hc : L2H.HotC X) : L2H.HotC (blkH X s H sc ce fp) := let ⟨p, h1, h2⟩ := hc; ⟨p, h1, h2⟩
theorem pe_lcH {elt tg iter : Expr} {ifs : List Expr} {scope : Scope} {own : List (Str × Nat)} {pos : Pos} {wi : TI} {gt : TG} {tt : TT} {te : TE} (hc : L2H.HotC X) (ND : X.N.Nodup) (hi : L2H.PIH X tg iter wi) (ok : BlkOk X.N X.env.scope scope own)
    (hg : ∀ (s : Shared) (H : Hp) (C : Addr) (cl : List (Str × Addr)) (fp : List Addr), PG (blkH X s H scope (compEnvC scope cl C X.env) fp) tg gt) (ht : ∀ (s : Shared) (H : Hp) (C : Addr) (cl : List (Str × Addr)) (fp : List Addr), PTs (blkH X s H scope (compEnvC scope cl C X.env) fp) ifs tt)
    (he : ∀ (s : Shared) (H : Hp) (C : Addr) (cl : List (Str × Addr)) (fp : List Addr), PE (blkH X s H scope (compEnvC scope cl C X.env) fp) elt te) (hs : ∀ x, foldedSetIterable iter X.env x = pure x) :
    PE X (.ListComp elt [⟨tg, iter, ifs, 0⟩] scope pos) (tLc wi gt tt te (own.map (·.2))) := by
  refine ⟨fun pins s₀ σ H₀ Q I₀ q₀ => ?_⟩
  have free : ∀ y ∈ scope.names, y.2 = .free → ∃ c, X.env.cells.lookup y.1 = some c := fun y hy e => (ok.free y hy e).elim (fun z => I₀.ok.has _ (.inl z)) fun z => I₀.ok.has _ (.inr z)
  rw [eval_ListComp]
  refine wpAny_comprehension_free (use := none) rfl hs (closure_ok free) ok.kind (fun y hy e => by rw [ok.uniq y hy, e]) ?_
  refine thn (hi.run pins s₀ σ H₀ _ I₀ q₀) fun xv sA hA => thn hA fun itv sB hB => ?_
  obtain ⟨it, fp, tn, J, HB, rfl, IB, T, tB, fB, q⟩ := hB
  refine wpAny_newObj_type (newEnv_comp ?_) (by show 0 ≤ sizeLine; decide)
  generalize hD : sB.heap.objs.size = D
  have freshD : HB D = none := IB.hok.fresh (Nat.le_of_eq hD)
  obtain ⟨Wn, ⟨m0, start⟩, turn⟩ := q D freshD
  generalize hC : ({ sB with heap := sB.heap.push { cls := .type "list", data := .seq ([] : List Value).toArray } } : Shared) = sC
  have heapC : sC.heap = sB.heap.push { cls := .type "list", data := .seq ([] : List Value).toArray } := by rw [← hC]
  have IC : Inv X pins σ (upd HB D (.lst [])) sC := by
    rw [← hC]
    refine IB.laid (t' := sB.toks) (fun b o e => Heap.get?_push_of_some _ e) (Nat.le_of_eq hD) ⟨Nat.zero_le _, [], 0, .nil, ?_⟩
    rw [← hD]
    exact Heap.get?_push_size _ rfl
  have below : ∀ b ∈ fp, b < sB.heap.objs.size := fun b hb => let ⟨o, e, _⟩ := T.obj _ _ tB b hb; Heap.lt_size e
  have fC : ∀ b ∈ fp, FpOk X pins (upd HB D (.lst [])) b ∧ b < sC.heap.objs.size := fun b hb => by
    have lt := below b hb
    refine ⟨⟨?_, (fB b hb).2⟩, by rw [heapC, Heap.size_push]; exact Nat.lt_succ_of_lt lt⟩
    rw [upd_ne (by rw [← hD]; exact Nat.ne_of_lt lt)]
    exact (fB b hb).1
  have tC : tn 0 sC.heap := T.keep _ _ _ tB fun b _ o e => by rw [heapC]; exact Heap.get?_push_of_some _ e
  have ID0 := block_start IC ok ND fC
  have nofp : ∀ b ∈ fp, (upd HB D (.lst [])) b = none := fun b hb => (fC b hb).1.1
  have pG := hg sC (upd HB D (.lst [])) sC.heap.objs.size (cellsFrom (sC.heap.objs.size + 1) scope.names (cloFrom X.env.cells scope.names [])) fp
  have pT := ht sC (upd HB D (.lst [])) sC.heap.objs.size (cellsFrom (sC.heap.objs.size + 1) scope.names (cloFrom X.env.cells scope.names [])) fp
  have pE := he sC (upd HB D (.lst [])) sC.heap.objs.size (cellsFrom (sC.heap.objs.size + 1) scope.names (cloFrom X.env.cells scope.names [])) fp
  show codeAny _ _ (.compStart (.ListComp elt [⟨tg, iter, ifs, 0⟩] scope pos) 0 (.ref it) (.ref D) (compEnvC scope (cellsFrom (sC.heap.objs.size + 1) scope.names (cloFrom X.env.cells scope.names [])) sC.heap.objs.size X.env)) (compPost (model X.prog X.w) X.A X.xe none (EP X pins σ Q) (.ref D) sC.heap.objs.size) { sC with heap := pushCells (sC.heap.push { cls := .type "dict", data := .dict #[] }) scope.names }
  generalize hce : compEnvC scope (cellsFrom (sC.heap.objs.size + 1) scope.names (cloFrom X.env.cells scope.names [])) sC.heap.objs.size X.env = ce at ID0 pG pT pE ⊢
  have locs : ce.locals = sC.heap.objs.size := by rw [← hce]; rfl
  generalize hHC : upd HB D (.lst []) = HC at IC ID0 pG pT pE start nofp fC
  generalize hsD : ({ sC with heap := pushCells (sC.heap.push { cls := .type "dict", data := .dict #[] }) scope.names } : Shared) = sD at ID0 ⊢
  have grown : ∀ b o, sC.heap.get? b = some o → sD.heap.get? b = some o := fun b o e => by rw [← hsD]; exact pushCells_keeps _ _ _ _ (Heap.get?_push_of_some _ e)
  have tD : tn 0 sD.heap := T.keep _ _ _ tC fun b _ o e => grown b o e
  have ID : Inv (blkH X sC HC scope ce fp) [] (wipe σ (own.map (·.2))) HC sD := blkH_inv ID0 fun p hp => by
    have P := IC.pin p (List.mem_append_left _ hp)
    refine ⟨grown _ _ P.1, P.2.1, ?_, fun hm => (List.mem_cons.mp (IC.stkSub p.1 hm)).elim P.2.2.1 P.2.2.2.1, P.2.2.2.2⟩
    rw [locs]
    exact Nat.ne_of_lt (Heap.lt_size P.1)
  have hcB : L2H.HotC (blkH X sC HC scope ce fp) := blkH_hot hc
  have stay : ∀ {σ' : St} {H' : Hp} {s' : Shared}, Inv (blkH X sC HC scope ce fp) [] σ' H' s' → (∀ b ∈ fp, H' b = none) → ∀ b ∈ fp, FpOk (blkH X sC HC scope ce fp) [] H' b := fun {σ' H' s'} I' hn b hb =>
    ⟨hn b hb, (I'.ok.exf b hb).1, I'.ok.exfs b hb, .inl hb, fun x c e => (I'.ok.exf b hb).2 x c e, fun p hp => by
      have hp' : p ∈ X.pn := by simpa using (show p ∈ X.pn ++ [] from hp)
      exact (fC b hb).1.2.2.2.2.2 p (List.mem_append_left _ hp')⟩
  have loop : codeAny (model X.prog X.w) X.A (.compLoop (.ListComp elt [⟨tg, iter, ifs, 0⟩] scope pos) 0 (.ref it) (.ref D) ce) (compPost (model X.prog X.w) X.A X.xe none (EP X pins σ Q) (.ref D) sC.heap.objs.size) sD := by
    refine compLoop_any (fun n s' => ∃ i H', Inv (blkH X sC HC scope ce fp) [] (wipe σ (own.map (·.2))) H' s' ∧ tn i s'.heap ∧ (∀ b ∈ fp, H' b = none) ∧ Wn i n H') ?_ m0 ⟨0, HC, ID, tD, nofp, start⟩
    rintro n sE ⟨i, HE, IE, tE, nE, wE⟩
    rcases turn i n HE wE with ⟨stop, qq⟩ | ⟨go, Nx, back, step⟩
    · refine thnF (T.done (blkH X sC HC scope ce fp) rfl rfl rfl hcB i [] sE _ HE (fun _ _ => False) IE (stay IE nE) tE stop) fun r sF ⟨hr, IF⟩ => ?_
      subst hr
      have JF : Inv X pins σ HE sF := IC.call' (ch := fp) IF.os IF.base IF.hok IF.bare fun b hb => ⟨(fC b hb).1.2.2.2.1, (fC b hb).1.2.1, (fC b hb).1.2.2.2.2.1, (fC b hb).1.2.2.2.2.2⟩
      have noC : HE sC.heap.objs.size = none := by
        have z : HE ce.locals = none := IF.free
        rw [← locs]
        exact z
      obtain ⟨mF, hnF, _⟩ := IF.loc
      have hnF' : sF.heap.Ns ce.locals mF := hnF
      rw [locs] at hnF'
      obtain ⟨y0, y1, y2, y3, y4, y5⟩ := IC.fpOk (Nat.le_refl _) noC
      refine ⟨mF, hnF', fun hZ sb => ⟨.ref D, HE, JF.turned (t' := sF.toks) (fun b o hb e => (sb.2 b hb).trans e) y0 y1 y3 y4 y5, rfl, qq⟩⟩
    · refine thnF (T.item (blkH X sC HC scope ce fp) rfl rfl rfl hcB i [] sE _ HE (fun _ _ => False) IE (stay IE nE) tE go) fun r sF ⟨u, hr, hF⟩ => ?_
      subst hr
      refine thnF hF fun _ sG ⟨x, HG, IG, rG, yG, tG, nG⟩ => ?_
      have IG' := IG.pinned (stay IG nG) (T.obj _ _ tG)
      refine thnF (pG.run _ sG _ HG x u _ IG' rG (step x HG yG)) fun _ sH ⟨σH, HH, IH, wH, qH⟩ => ?_
      refine thnF (pT.run _ sH σH HH _ IH qH) fun b sI ⟨HI, II, qI⟩ => ?_
      have close : ∀ {s' : Shared} {H' : Hp}, Inv (blkH X sC HC scope ce fp) ([] ++ pinsAt fp sG.heap) σH H' s' → Nx H' → ∃ m, m < n ∧ ∃ i H', Inv (blkH X sC HC scope ce fp) [] (wipe σ (own.map (·.2))) H' s' ∧ tn i s'.heap ∧ (∀ b ∈ fp, H' b = none) ∧ Wn i m H' := fun {s' H'} I' nx => by
        obtain ⟨m', lt, w'⟩ := back H' nx
        have pinned : ∀ b ∈ fp, ∀ o, sG.heap.get? b = some o → s'.heap.get? b = some o ∧ H' b = none := fun b hb o e =>
          have z := I'.pin (b, o) (List.mem_append_right _ (List.mem_append_right _ (mem_pinsAt hb e)))
          ⟨z.1, z.2.1⟩
        have sameL : (wipe σ (own.map (·.2))).length = σH.length := by rw [← wH, wipe_length]
        refine ⟨m', lt, i + 1, H', (I'.unpinned (pins := [])).weak sameL (fun j v e => ?_), T.keep _ _ _ tG fun b hb o e => (pinned b hb o e).1, fun b hb => ?_, w'⟩
        · rw [← wH] at e
          exact (wipe_some e).1
        · obtain ⟨o, e, _⟩ := T.obj _ _ tG b hb
          exact (pinned b hb o e).2
      cases b with
      | false =>
        rw [if_neg Bool.false_ne_true] at qI
        exact close II qI
      | true =>
        rw [if_pos rfl] at qI
        refine thnF (pE.run _ sI σH HI _ II qI) fun z sJ ⟨yv, HJ, IJ, rJ, acc, dJ, zJ, nx⟩ => ?_
        exact app_ok (X := blkH X sC HC scope ce fp) IJ dJ zJ rJ fun sK IK => close IK nx
  exact codeAny_compStart_list loop (T.self X.A 0 _ _ _ tD loop)
end
end Ev
end
section
set_option Elab.async false
set_option linter.all false
set_option maxRecDepth 100000
set_option maxHeartbeats 4000000
namespace Ev
variable [Nm]
open PySem PySem.Spec PyProof.Rows L2 HotX
section
variable {prog : Program} {w : World} {A : Around} {E : Value → Shared → Prop} {s : Shared}
theorem tup_end_hot {it t x1 : Addr} {i : Nat} {items : Array Value} {Q : Option Value → Shared → Prop} (hot : HotAt A x1 s.heap) (hn1 : x1 ≠ it) (hit : IsTupIter s.heap it t i) (ht : IsTup s.heap t items) (hx : items[i]? = none)
    (q : ∀ h', (∀ b o, b ≠ it → s.heap.get? b = some o → h'.get? b = some o) → Q none { s with heap := h' }) : wpAny (model prog w) A (pyNext (.ref it)) Q E s := by
  obtain ⟨oi, gi, ci, di⟩ := id hit
  obtain ⟨ol, gl, _, nl, dl⟩ := ht
  obtain ⟨hh, o1, v1, g1, d1, c1⟩ := hot
  unfold pyNext
  refine wpAny_bind (wpAny_attempt (wpAny_callSpecial?_slot (name := Str.ofString "__next__") hit.typeIs slot_tupleiter_next
    (wpAny_call_entry slot_tupleiter_next hit.typeIs entry_tupleiter_next ?_ (args_tupleiter_next _))))
  show wpAny _ _ (field (.ref it) 0 >>= fun u => _) _ _ s
  refine wpAny_bind (wpAny_field gi di (x := Value.ref t) rfl ?_)
  show wpAny _ _ (if (Value.ref t == Value.none) = true then _ else _) _ _ s
  have nn : ¬ ((Value.ref t == Value.none) = true) := Bool.false_ne_true
  rw [if_neg nn]
  show wpAny _ _ (field (.ref it) 1 >>= fun u => _) _ _ s
  refine wpAny_bind (wpAny_field gi di (x := Value.int i 0) rfl ?_)
  show wpAny _ _ (seqItems? (.ref t) >>= fun u => _) _ _ s
  refine wpAny_bind (wpAny_seqItems gl dl ?_)
  simp only [Int.toNat_natCast, hx]
  refine wpAny_bind (wpAny_rule (wpAny_bind (wpAny_setField gi di (by simp) ?_)))
  show wpAny _ _ (newExc (.type "StopIteration") [] >>= fun u => _) _ _ _
  have f1 : (s.heap.update it (Obj.mapFields (·.setIfInBounds 0 Value.none))).get? x1 = some o1 := (Heap.get?_update_other _ _ (Ne.symm hn1)).trans g1
  refine wpAny_bind ?_
  simp only [newExc, newTuple]
  refine wpAny_bind (wpAny_newObj_type ?_ (by size_fits))
  refine wpAny_bind (m := firstArgMember _ _) (wpAny_of_eq (a := Value.none) ?_ ?_)
  · first
    | rfl
    | (simp only [firstArgMember]; rfl)
  refine wpAny_newObj_type ?_ (by size_fits)
  have f2 := Heap.get?_push_of_some { cls := Value.type "tuple", data := Data.seq (#[] : Array Value) } f1
  refine raiseNew_hot ⟨hh, o1, v1, Heap.get?_push_of_some _ (Heap.get?_push_of_some _ f1), d1, c1⟩ (Nat.ne_of_lt (Heap.lt_size (Heap.get?_push_of_some _ f1))) (Heap.get?_push_size _ rfl) rfl ?_ ?_
  · first
    | (simp; done)
    | (simp; omega)
    | (simp only [Array.size_append]; simp; omega)
  refine wpAny_bind (wpAny_isInstance (T := "StopIteration") (b := true) ⟨_, Heap.get?_update_self _ (Heap.get?_push_size _ rfl) rfl, rfl⟩ isSubtype_stop ?_)
  refine wpAny_pure (q _ fun b o nb e => ?_)
  have e1 : (s.heap.update it (Obj.mapFields (·.setIfInBounds 0 Value.none))).get? b = some o := (Heap.get?_update_other _ _ (Ne.symm nb)).trans e
  rw [Heap.get?_update_other _ _ (Nat.ne_of_gt (Heap.lt_size (Heap.get?_push_of_some _ e1)))]
  exact Heap.get?_push_of_some _ (Heap.get?_push_of_some _ e1)
theorem unpackH {t x1 : Addr} {items : Array Value} {Q : List Value → Shared → Prop} (hot : HotAt A x1 s.heap) (ht : IsTup s.heap t items)
    (hQ : ∀ h', (∀ b o, b ≠ s.heap.objs.size → s.heap.get? b = some o → h'.get? b = some o) → Q items.toList { s with heap := h' }) : wpAny (model prog w) A (unpackItems (.ref t) items.size none) Q E s := by
  have hlt : t ≠ s.heap.objs.size := by obtain ⟨o, ho, _⟩ := ht; exact Nat.ne_of_lt (Heap.lt_size ho)
  have lt1 : x1 ≠ s.heap.objs.size := by
    obtain ⟨_, o, vs, g1, _⟩ := hot
    exact Nat.ne_of_lt (Heap.lt_size g1)
  unfold unpackItems
  refine wpAny_bind ?_
  · unfold notIterableAtAll
    refine wpAny_bind (wpAny_specialOf ht.typeIs slot_tuple_iter.lookup ?_)
    refine wpAny_pure ?_
    simp only [Bool.false_eq_true, if_false]
    refine wpAny_bind (wpAny_holding (iter_tuple ht ?_))
    refine wpAny_bind (wpAny_holding (draw_tuple hlt items.size 0 _ _ ⟨_, Heap.get?_push_size _ rfl, rfl, rfl⟩ (ht.push _) (by omega) fun h₁ hit₁ hs₁ => ?_))
    have hall : List.take items.size (List.drop 0 items.toList) = items.toList := by
      rw [List.drop_zero]; exact List.take_of_length_le (by simp)
    rw [hall]
    rw [if_neg (by simp)]
    have ht₁ : IsTup h₁ t items := (ht.push _).extBut hs₁.extBut hlt
    have k1 : ∀ o, s.heap.get? x1 = some o → h₁.get? x1 = some o := fun o e => hs₁.extBut x1 o lt1 (Heap.get?_push_of_some _ e)
    refine wpAny_bind (wpAny_holding (tup_end_hot (HotAt.kept k1 hot) lt1 hit₁ ht₁ (by simp) fun h₂ he₂ => ?_))
    simp only [Option.isSome_none, Bool.false_eq_true, if_false]
    exact wpAny_pure (hQ h₂ fun b o hb e => he₂ b o hb (hs₁.extBut b o hb (Heap.get?_push_of_some _ e)))
end
section
variable {X : Cx}
theorem ps_par3H {i j l : Nat} {x y z : Str} {a b c : Expr} {ta : TA} {px py pz pt pos : Pos} {kt k2 pt2} (hc : L2H.HotC X) (hN : X.N.Nodup) (hi : X.N[i]? = some x) (hj : X.N[j]? = some y) (hl : X.N[l]? = some z) (hij : i ≠ j) (hil : i ≠ l) (hjl : j ≠ l)
    (hx : X.env.scope.names.lookup x = some .local) (hy : X.env.scope.names.lookup y = some .local) (hz : X.env.scope.names.lookup z = some .local) (ha : PA X [a, b, c] ta)
    (hw : swappedStores [.Tuple [.Name x px, .Name y py, .Name z pz] kt pt] (.Tuple [a, b, c] k2 pt2) X.env = pure (some [x, y, z]))
    (hs : swapsWithSole [.Tuple [.Name x px, .Name y py, .Name z pz] kt pt] (.Tuple [a, b, c] k2 pt2) pos.line X.env = pure false) :
    PS X (.Assign [.Tuple [.Name x px, .Name y py, .Name z pz] kt pt] (.Tuple [a, b, c] k2 pt2) pos) (tPar3 i j l ta) := by
  refine ⟨fun pins s σ H D I h => ?_⟩
  rw [exec_Assign_arm]
  refine wpAny_bind (wpAny_standAt ?_)
  rw [hs]
  refine wpAny_bind (wpAny_pure ?_)
  rw [if_neg (by decide)]
  refine wpAny_bind (Tuple_ (thn (ha.run _ pins s σ H _ I h) fun us s1 ⟨vs, H1, I1, r1, q1⟩ => ?_))
  obtain ⟨v1, v2, v3, e1, q1⟩ := q1
  subst e1
  obtain ⟨u1, u2, u3, rfl, r1', r2', r3'⟩ : ∃ u1 u2 u3, us = [u1, u2, u3] ∧ RelV v1 u1 ∧ RelV v2 u2 ∧ RelV v3 u3 := by
    cases r1 with
    | cons p q =>
      cases q with
      | cons p' q' =>
        cases q' with
        | cons p'' q'' =>
          cases q''
          exact ⟨_, _, _, rfl, p, p', p''⟩
  refine wpAny_newObj_type ?_ (by show 3 ≤ sizeLine; decide)
  have I2 : Inv X pins σ H1 { s1 with heap := s1.heap.push { cls := .type "tuple", data := .seq [u1, u2, u3].toArray } } := I1.kept (t' := s1.toks) fun b o e => Heap.get?_push_of_some _ e
  obtain ⟨x1, hot⟩ := hc.at I2
  rw [hw]
  refine wpAny_bind (wpAny_pure ?_)
  show wpAny (model X.prog X.w) X.A (do rule "assign.swapped-stores"; let items ← unpackItems (.ref s1.heap.objs.size) 3 none; assignInOrder [fun v => bindName X.env z v, fun v => bindName X.env y v, fun v => bindName X.env x v] items.reverse; pure Flow.next) _ _ _
  refine wpAny_bind (wpAny_rule (wpAny_bind (unpackH (items := #[u1, u2, u3]) hot (IsTup.new s1.heap _) fun h' hx' => ?_)))
  have I3 := I2.kept (h' := h') (t' := s1.toks) fun b o e => hx' b o (Nat.ne_of_lt (Heap.lt_size e)) e
  show wpAny _ _ (assignInOrder [fun v => bindName X.env z v, fun v => bindName X.env y v, fun v => bindName X.env x v] [u3, u2, u1] >>= fun _ => pure Flow.next) _ _ _
  refine wpAny_bind (assignInOrder_cons (wpAny_bindName (store_ok I3 hN hl (.inl hz) r3' (fun s2 I4 => ?_) (.inr hz))))
  refine assignInOrder_cons (wpAny_bindName (store_ok I4 hN hj (.inl hy) r2' (fun s3 I5 => ?_) (.inr hy)))
  refine assignInOrder_cons (wpAny_bindName (store_ok I5 hN hi (.inl hx) r1' (fun s4 I6 => assignInOrder_nil (wpAny_pure ?_)) (.inr hx)))
  rw [List.set_comm _ _ (Ne.symm hjl), List.set_comm _ _ (Ne.symm hil), List.set_comm _ _ (Ne.symm hij)] at I6
  exact ⟨_, H1, I6, q1⟩
end
end Ev
end
section
set_option Elab.async false
set_option linter.all false
set_option maxRecDepth 100000
set_option maxHeartbeats 2000000
namespace Ev
variable [Nm]
open PySem PySem.Spec PyProof.Rows L2
def bnL : List Str := ["isinstance", "len", "int", "str", "abs", "min", "max", "sum", "sorted", "tuple", "list", "all", "any", "range", "enumerate", "zip", "reversed", "bool", "dict", "ValueError"]
def ConF (g : Cfg) (x : Str) (d : D) : Prop := ∃ u v, g.mg x = some u ∧ RelV v u ∧ ∀ (O : Addr → Prop) (H : Hp), Rep g.K O H v d
def lookK (z : Str) (kvs : List (Str × D)) : Option D := (kvs.find? fun q => q.1 == z).map (·.2)
def tabD (kvs : List (Str × D)) : D := .dct (kvs.map fun q => (.str q.1.cps.toList, q.2))
def TabF (g : Cfg) (x : Str) (kvs : List (Str × D)) : Prop := ∃ a es n, g.mg x = some (.ref a) ∧ KDict g.K g.w a es n ∧ ∀ z : Str,
  (∀ d, lookK z kvs = some d → ∃ u v, PySem.W.nsIn g.K a z = some (some u) ∧ RelV v u ∧ ∀ (O : Addr → Prop) (H : Hp), Rep g.K O H v d) ∧ (lookK z kvs = none → PySem.W.nsIn g.K a z = some none)
structure Pf (g : Cfg) (sub : Nat → Nat → Bool) (glb : Nat → D) : Prop where
  con : ∀ x d, (x, d) ∈ g.cons → ConF g x d
  tab : ∀ j x kvs, g.tabs[j]? = some (x, kvs) → TabF g x kvs ∧ glb j = tabD kvs
  nb : ∀ x, bnL.contains x = true → g.mg x = none
  em : ∀ c k, PySem.W.exmOne g.K (.ref (g.cAd c)) (.ref (g.cAd k)) = some (sub c k)
  kit : ∀ c k, PySem.W.kitOne g.K (.ref (g.cAd c)) (.ref (g.cAd k)) = some (sub c k)
  exf : ∀ c, ExF g c
  kv : ∀ c, PySem.W.kitOne g.K (.ref (g.cAd c)) (.type "ValueError") = some true
  cmg : ∀ c, c < g.nC → g.mg (g.cNm c) = some (.ref (g.cAd c))
  exn : ∀ c, c < g.nC → (g.cPs c).isEmpty = false → ExN g 1 c (g.cNm c) (g.cPs c)
  bi : ∀ x id, (x, id) ∈ g.bins → g.mg x = some (.builtin id)
structure Sc (g : Cfg) (T : Tb) (k : Nat) (W : WX) (N : List Str) (sc : Scope) (fb : Str → Bool) (X : Cx) : Prop where
  N : X.N = N
  sc : X.env.scope = sc
  of : Of g X
  md : Md T k X
  tk : L2N.Takes X W
  po : PassesOwn (model X.prog X.w) X.A X.env X.xe
  fn : ∀ x, fb x = true → X.fn x = true
  nd : X.N.Nodup
  pf : Pf g T.sub T.glb
  fs : ∀ j, j < g.nF → FnF g T k j (g.fNm j) (g.fPs j)
  fh : ∀ j, j < g.nF → FnF g T.heat k j (g.fNm j) (g.fPs j)
def rdB (N : List Str) (sc : Scope) (i : Nat) (x : Str) : Bool :=
  (N[i]? == some x) && (match sc.names.lookup x with | some .local => true | some .cell => true | some .free => true | _ => false) && !(x == ("__debug__" : Str)) && !(x == ("__classdict__" : Str))
def wrB (N : List Str) (sc : Scope) (fb : Str → Bool) (i : Nat) (x : Str) : Bool :=
  (N[i]? == some x) && (match sc.names.lookup x with | some .local => true | some .cell => fb x | _ => false)
def glB (sc : Scope) (x : Str) : Bool := (sc.names.lookup x == some .globalImplicit) && !(x == ("__debug__" : Str)) && !(x == ("__name__" : Str))
theorem rdB_is {N : List Str} {sc : Scope} {i : Nat} {x : Str} (h : rdB N sc i x = true) : N[i]? = some x ∧ Vis sc x ∧ (x == ("__debug__" : Str)) = false ∧ (x == ("__classdict__" : Str)) = false := by
  unfold rdB at h
  simp only [Bool.and_eq_true, Bool.not_eq_true', beq_iff_eq] at h
  obtain ⟨⟨⟨h1, h2⟩, h3⟩, h4⟩ := h
  refine ⟨h1, ?_, by simpa using h3, by simpa using h4⟩
  unfold Vis
  split at h2 <;> first | (rename_i e; simp [e]) | cases h2
theorem wrB_is {N : List Str} {sc : Scope} {fb : Str → Bool} {i : Nat} {x : Str} (h : wrB N sc fb i x = true) : N[i]? = some x ∧ L2.Loc sc x ∧ (fb x = true ∨ sc.names.lookup x = some .local) := by
  unfold wrB at h
  simp only [Bool.and_eq_true, beq_iff_eq] at h
  obtain ⟨h1, h2⟩ := h
  refine ⟨h1, ?_⟩
  unfold L2.Loc
  split at h2
  · rename_i e; exact ⟨.inl e, .inr e⟩
  · rename_i e; exact ⟨.inr e, .inl h2⟩
  · cases h2
section
variable {g : Cfg} {O : Addr → Prop} {H0 : Hp} {xi : Option XI} {W : WX} {X : Cx} {T : Tb} {k : Nat} {N : List Str} {sc : Scope} {fb : Str → Bool}
theorem Sc.gl (C : Sc g T k W N sc fb X) {x : Str} (h : glB sc x = true) : Gl X x ∧ (x == ("__debug__" : Str)) = false ∧ x ≠ "__name__" := by
  unfold glB at h
  simp only [Bool.and_eq_true, Bool.not_eq_true', beq_iff_eq] at h
  obtain ⟨⟨h1, h2⟩, h3⟩ := h
  refine ⟨by unfold Gl Env.kindOf; rw [C.sc]; exact h1, by simpa using h2, by simpa using h3⟩
theorem Sc.rd (C : Sc g T k W N sc fb X) {i : Nat} {x : Str} (h : rdB N sc i x = true) : X.N[i]? = some x ∧ Vis X.env.scope x ∧ (x == ("__debug__" : Str)) = false ∧ (x == ("__classdict__" : Str)) = false := by
  have z := rdB_is h
  rw [C.N, C.sc]
  exact z
theorem Sc.wr (C : Sc g T k W N sc fb X) {i : Nat} {x : Str} (h : wrB N sc fb i x = true) : X.N[i]? = some x ∧ L2.Loc X.env.scope x ∧ (X.fn x = true ∨ X.env.scope.names.lookup x = some .local) := by
  have z := wrB_is h
  rw [C.N, C.sc]
  exact ⟨z.1, z.2.1, z.2.2.imp (C.fn x) id⟩
theorem Sc.K (C : Sc g T k W N sc fb X) : X.K = g.K := C.of.K
theorem u_v (C : Sc g T k W N sc fb X) (i : Nat) {x : Str} {p : Pos} (h : rdB N sc i x = true) : SE g O H0 xi W T X (.Name x p) (.var i) :=
  let ⟨h1, h2, h3, h4⟩ := C.rd h; s_var h1 h2 h3 h4
theorem u_b (C : Sc g T k W N sc fb X) (i : Nat) {x : Str} {p : Pos} (h : rdB N sc i x = true) : SB g O H0 xi W T X (.Name x p) (.var i) :=
  let ⟨h1, h2, h3, h4⟩ := C.rd h; s_varB h1 h2 h3 h4
def opU : Operator → Option Op2
  | .Add => some .add | .Sub => some .sub | .Mult => some .mul | .FloorDiv => some .fdiv | .Mod => some .mod | .Pow => some .pow | _ => none
def cmpU : CmpOp → Option Op2
  | .Eq => some .eq | .NotEq => some .ne | .Lt => some .lt | .LtE => some .le | .Gt => some .gt | .GtE => some .ge | .In => some .isin | .NotIn => some .notin | _ => none
theorem opU_ok (hK : X.K = g.K) {op : Operator} {o : Op2} (h : opU op = some o) : OpR X (binaryOp op) (rBin g.K o) := by
  rw [← hK]
  cases op <;> cases h
  · exact ob_add
  · exact ob_sub
  · exact ob_mul
  · exact ob_mod
  · exact ob_pow
  · exact ob_fdiv
theorem Md.un (m : Md T k X) : X.A.units + 100 < cLine := by
  cases h : T.hot with
  | true => have := (m.hot h).2.un; omega
  | false => have := (m.cold h).2.un; omega
theorem cmpU_ok (C : Sc g T k W N sc fb X) {op : CmpOp} {o : Op2} (h : cmpU op = some o) : OpR X (compareOp op) (rBin g.K o) := by
  have hu := C.md.un
  rw [← C.K]
  cases op <;> cases h
  · exact oc_eq (by omega)
  · exact oc_ne (by omega)
  · exact oc_lt
  · exact oc_le
  · exact oc_gt
  · exact oc_ge
  · exact oc_in (by omega) false
  · exact oc_in (by omega) true
theorem u_op (C : Sc g T k W N sc fb X) {op : Operator} {o : Op2} {a b : Expr} {ca cb : CE} {pos : Pos} (h : opU op = some o) (ha : SB g O H0 xi W T X a ca) (hb : SB g O H0 xi W T X b cb) : SE g O H0 xi W T X (.BinOp a op b pos) (.bin o ca cb) :=
  s_op (opU_ok C.K h) ha hb
theorem u_cmp (C : Sc g T k W N sc fb X) {op : CmpOp} {o : Op2} {a b : Expr} {ca cb : CE} {pos : Pos} (h : cmpU op = some o) (hm : behindInMarks op b = false) (ha : SB g O H0 xi W T X a ca) (hb : SB g O H0 xi W T X b cb) : SE g O H0 xi W T X (.Compare a [op] [b] pos) (.bin o ca cb) :=
  s_cmp (cmpU_ok C h) hm ha hb
theorem cmpU_bool {op : CmpOp} {o : Op2} (h : cmpU op = some o) : opBool o = true := by cases op <;> cases h <;> rfl
theorem u_cmpT (C : Sc g T k W N sc fb X) {op : CmpOp} {o : Op2} {a b : Expr} {ca cb : CE} {pos : Pos} (h : cmpU op = some o) (hm : behindInMarks op b = false) (ha : SB g O H0 xi W T X a ca) (hb : SB g O H0 xi W T X b cb) : ST' g O H0 xi W T X (.Compare a [op] [b] pos) (.of (.bin o ca cb)) :=
  s_cmpT (cmpU_bool h) (cmpU_ok C h) hm ha hb
theorem u_w {e : Expr} {c : CT} (h : SW g O H0 xi W T X e c) : ST' g O H0 xi W T X e c := ⟨fun pins s σ H Q I q => h.run _ pins s σ H Q I q⟩
theorem u_and1 {a : Expr} {c : CT} {pos : Pos} (h : ST' g O H0 xi W T X a c) : SW g O H0 xi W T X (.BoolOp .And [a] pos) c := pw_and1 h
theorem u_or1 {a : Expr} {c : CT} {pos : Pos} (h : ST' g O H0 xi W T X a c) : SW g O H0 xi W T X (.BoolOp .Or [a] pos) c := pw_or1 h
theorem u_one {op : BoolOp} {a : Expr} {c : CE} {pos : Pos} (h : SE g O H0 xi W T X a c) : SE g O H0 xi W T X (.BoolOp op [a] pos) c := pe_one h
theorem u_idx (C : Sc g T k W N sc fb X) {a i : Expr} {ca ci : CE} {pos : Pos} (ha : SB g O H0 xi W T X a ca) (hi : SE g O H0 xi W T X i ci) (hs : notSlice i = true) : SE g O H0 xi W T X (.Subscript a i pos) (.idx ca ci) := s_idx C.K ha hi hs
theorem u_slc (C : Sc g T k W N sc fb X) {a : Expr} {lo hi : Option Expr} {ca : CE} {cl ch : Option CE} {p2 pos : Pos} (ha : SB g O H0 xi W T X a ca) (hl : SO g O H0 xi W T X lo cl) (hh : SO g O H0 xi W T X hi ch) : SE g O H0 xi W T X (.Subscript a (.Slice lo hi none p2) pos) (.slc ca cl ch) := s_slc C.K ha hl hh
theorem u_tru (C : Sc g T k W N sc fb X) {e : Expr} {c : CE} (h : SB g O H0 xi W T X e c) (he : ∀ whole, isTrue e X.env whole = (do let v ← whole; standAt e.pos; holding [v] (truthy v))) : ST' g O H0 xi W T X e (.of c) := s_truth C.K h he
theorem u_not (C : Sc g T k W N sc fb X) {e : Expr} {c : CE} {pos : Pos} (h : SB g O H0 xi W T X e c) : SE g O H0 xi W T X (.UnaryOp .Not e pos) (.un .not c) := s_notV C.K h
theorem u_andV (C : Sc g T k W N sc fb X) {a b : Expr} {rest : List Expr} {ca cb : CE} {pos : Pos} (ha : SE g O H0 xi W T X a ca) (hb : SE g O H0 xi W T X (.BoolOp .And (b :: rest) pos) cb) : SE g O H0 xi W T X (.BoolOp .And (a :: b :: rest) pos) (.and ca cb) := s_andV C.K ha hb
theorem u_orV (C : Sc g T k W N sc fb X) {a b : Expr} {rest : List Expr} {ca cb : CE} {pos : Pos} (ha : SE g O H0 xi W T X a ca) (hb : SE g O H0 xi W T X (.BoolOp .Or (b :: rest) pos) cb) : SE g O H0 xi W T X (.BoolOp .Or (a :: b :: rest) pos) (.or ca cb) := s_orV C.K ha hb
def bltB (sc : Scope) (x : Str) : Bool := glB sc x && bnL.contains x
theorem Sc.blt (C : Sc g T k W N sc fb X) {x : Str} (h : bltB sc x = true) : Gl X x ∧ X.mg x = none ∧ x ≠ "__name__" ∧ (x == ("__debug__" : Str)) = false := by
  unfold bltB at h
  rw [Bool.and_eq_true] at h
  obtain ⟨a, b, c⟩ := C.gl h.1
  exact ⟨a, by rw [C.of.mg]; exact C.pf.nb x h.2, c, b⟩
theorem cb_allM (m : Md T k X) : CallR X (.builtin "all") (rBI X.K .all) := by
  cases hh : T.hot with
  | false => exact cb_all (m.cold hh).1
  | true =>
    intro pins s σ H xs us Q I r h
    obtain ⟨O, ds, t, hx, q⟩ := h
    match ds, hx, q with
    | [.lst x], hx, q =>
      obtain ⟨v, rfl, h1⟩ := hx.one
      obtain ⟨a, vs, rfl, sa, ra⟩ := h1.lst_of
      simp only [biD] at q
      split at q
      · rename_i r' e
        have ev := ra.of_bls e
        subst ev
        exact cr_allH (m.hot hh).1 pins s σ H _ us Q I r ⟨a, _, rfl, SqL.of sa, q.here (.bl _)⟩
      · exact q.elim
def BI.fn : BI → Option String
  | .len => some "len" | .abs => some "abs" | .min2 => some "min" | .max2 => some "max" | .min1 => some "min" | .max1 => some "max" | .sum => some "sum" | .sorted => some "sorted" | .all => some "all" | .any => some "any" | _ => none
def BI.ty : BI → Option String
  | .int => some "int" | .tuple => some "tuple" | .list => some "list" | .str => some "str" | _ => none
theorem bi_fn (C : Sc g T k W N sc fb X) {b : BI} {id : String} (h : b.fn = some id) (hh : (T.hot && !b.hot) = false) : CallR X (.builtin id) (rBI g.K b) := by
  rw [← C.K]
  have hc : b.hot = false → X.calm = true := fun hb => (C.md.cold (by rw [hb] at hh; simpa using hh)).1
  cases b <;> cases h
  · exact cb_len
  · exact cb_abs
  · exact cb_min2 (hc rfl)
  · exact cb_max2 (hc rfl)
  · exact cb_min1 (hc rfl)
  · exact cb_max1 (hc rfl)
  · exact cb_sum (hc rfl)
  · exact cb_sorted
  · exact cb_allM C.md
  · exact cb_any (hc rfl)
theorem bi_ty (C : Sc g T k W N sc fb X) {b : BI} {id : String} (h : b.ty = some id) (hh : (T.hot && !b.hot) = false) : CallR X (.type id) (rBI g.K b) := by
  rw [← C.K]
  cases b <;> cases h
  · exact cb_int
  · exact cb_str
  · exact cb_tuple
  · exact cb_list
theorem u_bf (C : Sc g T k W N sc fb X) (b : BI) {id : String} {x : Str} {e : Expr} {es : List Expr} {cs : List CE} {p pos : Pos} (hb : b.fn = some id) (hx : bltB sc x = true) (hv : bootBuiltins x = some (.builtin id)) (ha : SAB g O H0 xi W T X (e :: es) cs) (hs : (e :: es).all notStar = true) :
    SE g O H0 xi W T X (.Call (.Name x p) (e :: es) [] pos) (.bi b cs) :=
  let ⟨h1, h2, h3, h4⟩ := C.blt hx; s_biB (fun hh => bi_fn C hb hh) h1 h2 hv ha hs h3 h4
theorem u_bt (C : Sc g T k W N sc fb X) (b : BI) {id : String} {x : Str} {e : Expr} {es : List Expr} {cs : List CE} {p pos : Pos} (hb : b.ty = some id) (hx : bltB sc x = true) (hv : bootBuiltins x = some (.type id)) (ha : SAB g O H0 xi W T X (e :: es) cs) (hs : (e :: es).all notStar = true) :
    SE g O H0 xi W T X (.Call (.Name x p) (e :: es) [] pos) (.bi b cs) :=
  let ⟨h1, h2, h3, h4⟩ := C.blt hx; s_biT (fun hh => bi_ty C hb hh) h1 h2 hv ha hs h3 h4
theorem u_isi (C : Sc g T k W N sc fb X) (t : Ty) {e : Expr} {c : CE} {y : Str} {p p2 pos : Pos} (hx : bltB sc "isinstance" = true) (hy : bltB sc y = true) (hv2 : bootBuiltins y = some (.type t.nm)) (h : SB g O H0 xi W T X e c) (hs : notStar e = true) :
    SE g O H0 xi W T X (.Call (.Name "isinstance" p) [e, .Name y p2] [] pos) (.isi c t) :=
  let ⟨h1, h2, _, _⟩ := C.blt hx; let ⟨k1, k2, k3, k4⟩ := C.blt hy; s_isi (x := y) C.K h h1 h2 k1 k2 hv2 hs k3 k4
theorem u_rgL1 (C : Sc g T k W N sc fb X) (tu : Bool) {x : Str} {e : Expr} {c : CE} {p p2 pos pos2 : Pos} (hx : x = (if tu then "tuple" else "list" : Str)) (hb : bltB sc x = true) (hr : bltB sc "range" = true) (h : SE g O H0 xi W T X e c) (hs : notStar e = true) :
    SE g O H0 xi W T X (.Call (.Name x p) [.Call (.Name "range" p2) [e] [] pos2] [] pos) (.rngL tu (.cst (.int 0)) c) :=
  let ⟨h1, h2, _, _⟩ := C.blt hb
  let ⟨r1, r2, _, _⟩ := C.blt hr
  s_rngL hx (fun hh => (C.md.cold hh).1) h1 h2 (prg_1 r1 r2 h (star_cons hs)) rfl fun σ H Q ⟨ρ, I, q⟩ => ⟨ρ, I, by
    simp only [evE, ok_bind] at q
    exact LdG.bindE q fun x v H1 _ s r q1 => by
      cases x <;> first | exact q1.elim | skip
      cases r
      exact ⟨_, rfl, q1 H1 (Sm.refl H1)⟩⟩
theorem u_rgL2 (C : Sc g T k W N sc fb X) (tu : Bool) {x : Str} {e f : Expr} {c d : CE} {p p2 pos pos2 : Pos} (hx : x = (if tu then "tuple" else "list" : Str)) (hb : bltB sc x = true) (hr : bltB sc "range" = true) (h : SE g O H0 xi W T X e c) (h2 : SE g O H0 xi W T X f d) (hs : notStar e = true) (hs2 : notStar f = true) :
    SE g O H0 xi W T X (.Call (.Name x p) [.Call (.Name "range" p2) [e, f] [] pos2] [] pos) (.rngL tu c d) :=
  let ⟨b1, b2, _, _⟩ := C.blt hb
  let ⟨r1, r2, _, _⟩ := C.blt hr
  s_rngL hx (fun hh => (C.md.cold hh).1) b1 b2 (prg_2 r1 r2 h h2 (star_cons hs) (star_cons hs2) (back_any (by simp [hs2]))) rfl fun σ H Q ⟨ρ, I, q⟩ => ⟨ρ, I, LdG.bindE q fun x v H1 _ s r q1 => ⟨ρ, I.more s, LdG.bindE q1 fun y u H2 _ s2 r2 q2 => by
    cases x <;> cases y <;> first | exact q2.elim | skip
    cases r
    cases r2
    exact ⟨_, _, rfl, rfl, q2 H2 (Sm.refl H2)⟩⟩⟩
theorem u_rgO (C : Sc g T k W N sc fb X) {a b : Expr} {lo hi : CE} {p pos : Pos} (hr : bltB sc "range" = true) (ha : SE g O H0 xi W T X a lo) (hb : SE g O H0 xi W T X b hi) (hs : notStar a = true) (hs2 : notStar b = true) : SE g O H0 xi W T X (.Call (.Name "range" p) [a, b] [] pos) (.rngO lo hi) :=
  let ⟨r1, r2, _, _⟩ := C.blt hr; s_rngO C.K ha hb r1 r2 hs hs2
theorem u_call (C : Sc g T k W N sc fb X) (j : Nat) {x : Str} {e : Expr} {es : List Expr} {cs : List CE} {p pos : Pos} (hj : j < g.nF) (hx : g.fNm j = x) (hg : glB sc x = true) (ha : SAC g O H0 xi W T X (e :: es) cs) (hs : (e :: es).all notStar = true) (hl : cs.length = (g.fPs j).length) :
    SE g O H0 xi W T X (.Call (.Name x p) (e :: es) [] pos) (.call j cs) := by
  subst hx
  obtain ⟨h1, h2, _⟩ := C.gl hg
  exact s_call (C.fs j hj) C.of C.md C.tk h1 ha hs hl h2
theorem u_kw (C : Sc g T k W N sc fb X) (j : Nat) {n : Nat} {x : Str} {ks : List Str} {perm : List Nat} {e : Expr} {es : List Expr} {kws : List Keyword} {cs qs : List CE} {p pos : Pos} (hj : j < g.nF) (hx : g.fNm j = x) (B : KwF g j (g.fPs j) n ks perm) (hg : glB sc x = true)
    (ha : SAC g O H0 xi W T X (e :: es) cs) (hkw : SK g O H0 xi W T X kws qs) (hs : (e :: es).all notStar = true) (hl : cs.length = n) (hl2 : qs.length = ks.length) (hall : (backToKw pos (keywordEach kws X.env)).all (·.1.isSome) = true) (hks : (backToKw pos (keywordEach kws X.env)).filterMap (·.1) = ks)
    (hnone : (backToKw pos (keywordEach kws X.env)).any (·.1.isNone) = false) : SE g O H0 xi W T X (.Call (.Name x p) (e :: es) kws pos) (.callk j cs qs perm) := by
  subst hx
  obtain ⟨h1, h2, _⟩ := C.gl hg
  exact s_kw (C.fs j hj) B C.of C.md C.tk h1 ha hkw hs hl hl2 hall hks hnone h2
theorem u_kw0 (C : Sc g T k W N sc fb X) (j : Nat) {x : Str} {ks : List Str} {perm : List Nat} {kws : List Keyword} {qs : List CE} {p pos : Pos} (hj : j < g.nF) (hx : g.fNm j = x) (B : KwF g j (g.fPs j) 0 ks perm) (hg : glB sc x = true)
    (hkw : SK g O H0 xi W T X kws qs) (hl2 : qs.length = ks.length) (hall : (backToKw pos (keywordEach kws X.env)).all (·.1.isSome) = true) (hks : (backToKw pos (keywordEach kws X.env)).filterMap (·.1) = ks)
    (hnone : (backToKw pos (keywordEach kws X.env)).any (·.1.isNone) = false) : SE g O H0 xi W T X (.Call (.Name x p) [] kws pos) (.callk j [] qs perm) := by
  subst hx
  obtain ⟨h1, h2, _⟩ := C.gl hg
  exact s_kw0 (C.fs j hj) B C.of C.md C.tk h1 hkw hl2 hall hks hnone h2
theorem u_iof (C : Sc g T k W N sc fb X) {tg e : Expr} {c : CE} (h : SB g O H0 xi W T X e c) : SI g O H0 xi W T X tg e (.of c) := si_of C.K h
theorem u_ienum (C : Sc g T k W N sc fb X) {e : Expr} {c : CE} {p pos tpos : Pos} {elts : List Expr} {kk : Nat} (hx : bltB sc "enumerate" = true) (h : SB g O H0 xi W T X e c) (hs : notStar e = true) : SI g O H0 xi W T X (.Tuple elts kk tpos) (.Call (.Name "enumerate" p) [e] [] pos) (.enum c) :=
  let ⟨h1, h2, _, _⟩ := C.blt hx; si_enum C.K h1 h2 hs h
theorem u_irev (C : Sc g T k W N sc fb X) {tg e : Expr} {c : CE} {p pos : Pos} (hx : bltB sc "reversed" = true) (h : SB g O H0 xi W T X e c) (hs : notStar e = true) : SI g O H0 xi W T X tg (.Call (.Name "reversed" p) [e] [] pos) (.rev c) :=
  let ⟨h1, h2, _, _⟩ := C.blt hx; si_rev C.K h1 h2 hs h
theorem u_izip (C : Sc g T k W N sc fb X) {e f : Expr} {c d : CE} {p pos tpos : Pos} {elts : List Expr} {kk : Nat} (hx : bltB sc "zip" = true) (h : SB g O H0 xi W T X e c) (h2 : SB g O H0 xi W T X f d) (hs : notStar e = true) (hs2 : notStar f = true) : SI g O H0 xi W T X (.Tuple elts kk tpos) (.Call (.Name "zip" p) [e, f] [] pos) (.zip c d) :=
  let ⟨b1, b2, _, _⟩ := C.blt hx; si_zip C.K b1 b2 hs hs2 h h2
theorem u_ir1 (C : Sc g T k W N sc fb X) {tg e : Expr} {c : CE} {p pos : Pos} (hx : bltB sc "range" = true) (h : SE g O H0 xi W T X e c) (hs : notStar e = true) : SI g O H0 xi W T X tg (.Call (.Name "range" p) [e] [] pos) (.rng (.cst (.int 0)) c) :=
  let ⟨b1, b2, _, _⟩ := C.blt hx; si_rng1 b1 b2 hs h
theorem u_ir2 (C : Sc g T k W N sc fb X) {tg e f : Expr} {c d : CE} {p pos : Pos} (hx : bltB sc "range" = true) (h : SE g O H0 xi W T X e c) (h2 : SE g O H0 xi W T X f d) (hs : notStar e = true) (hs2 : notStar f = true) : SI g O H0 xi W T X tg (.Call (.Name "range" p) [e, f] [] pos) (.rng c d) :=
  let ⟨b1, b2, _, _⟩ := C.blt hx; si_rng2 b1 b2 hs hs2 h h2
theorem u_ir3 (C : Sc g T k W N sc fb X) {tg e f : Expr} {c d : CE} {kk : Nat} {p pos p1 p2 : Pos} (hx : bltB sc "range" = true) (h : SE g O H0 xi W T X e c) (h2 : SE g O H0 xi W T X f d) (hs : notStar e = true) (hs2 : notStar f = true) : SI g O H0 xi W T X tg (.Call (.Name "range" p) [e, f, .UnaryOp .USub (.Constant (.int 1) kk p1) p2] [] pos) (.rngD c d) :=
  let ⟨b1, b2, _, _⟩ := C.blt hx; si_rngD b1 b2 hs hs2 h h2
theorem u_gn (C : Sc g T k W N sc fb X) (i : Nat) {x : Str} {p : Pos} (h : wrB N sc fb i x = true) : PG X (.Name x p) (rG g O H0 xi (.nm i)) :=
  let ⟨h1, h2, h3⟩ := C.wr h; sg_name C.nd h1 h2 h3
theorem u_gsn : PGs X [] (rGs g O H0 xi []) := sgs_nil
theorem u_gsc (C : Sc g T k W N sc fb X) (i : Nat) {is : List Nat} {x : Str} {es : List Expr} {p : Pos} (h : wrB N sc fb i x = true) (hr : PGs X es (rGs g O H0 xi is)) : PGs X (.Name x p :: es) (rGs g O H0 xi (i :: is)) :=
  let ⟨h1, h2, h3⟩ := C.wr h; sgs_cons C.nd h1 h2 h3 hr
theorem u_gt (C : Sc g T k W N sc fb X) (hot : T.hot = false) {es : List Expr} {is : List Nat} {kk : Nat} {p : Pos} (h : PGs X es (rGs g O H0 xi is)) (hl : es.length = is.length) (hs : es.all notStar = true) : PG X (.Tuple es kk p) (rG g O H0 xi (.tp is)) :=
  sg_tup C.K (C.md.cold hot).1 h hl hs
theorem Sc.blk (C : Sc g T k W N sc fb X) (hot : T.hot = false) (s : Shared) (H : Hp) (scope : Scope) (Cc : Addr) (cl : List (Str × Addr)) (fp : List Addr) : Sc g T k WF N (relS scope sc) (fun x => scope.names.lookup x == some .cell) (X.blk s H scope (compEnvC scope cl Cc X.env) fp) where
  N := C.N
  sc := by rw [← C.sc]; rfl
  of := ⟨C.of.P, C.of.w, C.of.K, C.of.mg, C.of.base⟩
  md := ⟨fun _ => C.md.cold hot, fun h => (by rw [hot] at h; cases h)⟩
  tk := fun _ _ ⟨_, _, _, _, _, _, _, _, _, _, _, _, _, _, _, _, z⟩ => z
  po := PassesOwn.never
  fn := fun _ h => h
  nd := C.nd
  pf := C.pf
  fs := C.fs
  fh := C.fh
theorem Sc.blkH (C : Sc g T k W N sc fb X) (hot : T.hot = true) (s : Shared) (H : Hp) (scope : Scope) (Cc : Addr) (cl : List (Str × Addr)) (fp : List Addr) : Sc g T k WF N (relS scope sc) (fun x => scope.names.lookup x == some .cell) (blkH X s H scope (compEnvC scope cl Cc X.env) fp) where
  N := C.N
  sc := by rw [← C.sc]; rfl
  of := ⟨C.of.P, C.of.w, C.of.K, C.of.mg, C.of.base⟩
  md := ⟨fun h => (by rw [hot] at h; cases h), fun _ => ⟨blkH_hot (C.md.hot hot).1, (C.md.hot hot).2⟩⟩
  tk := fun _ _ ⟨_, _, _, _, _, _, _, _, _, _, _, _, _, _, _, _, z⟩ => z
  po := PassesOwn.never
  fn := fun _ h => h
  nd := C.nd
  pf := C.pf
  fs := C.fs
  fh := C.fh
def blkB (N : List Str) (sc scope : Scope) (own : List (Str × Nat)) : Bool :=
  (match scope.kind with | .function => true | _ => false) && (scope.names.all fun y => scope.names.lookup y.1 == some y.2) && (own.all fun p => N[p.2]? == some p.1) &&
  (scope.names.all fun y => match y.2 with
    | .free => (match sc.names.lookup y.1 with | some .cell => true | some .free => true | _ => false)
    | .local => (own.map (·.1)).contains y.1 || !N.contains y.1
    | .cell => (own.map (·.1)).contains y.1 || !N.contains y.1
    | _ => true)
theorem blkB_is {N : List Str} {sc scope : Scope} {own : List (Str × Nat)} (h : blkB N sc scope own = true) : BlkOk N sc scope own := by
  unfold blkB at h
  simp only [Bool.and_eq_true, List.all_eq_true] at h
  obtain ⟨⟨⟨h1, h2⟩, h3⟩, h4⟩ := h
  refine ⟨?_, fun y hy => by simpa using h2 y hy, fun p hp => by simpa using h3 p hp, fun y hy e => ?_, fun y hy e => ?_⟩
  · split at h1
    · assumption
    · cases h1
  · have := h4 y hy
    rw [e] at this
    simp only at this
    split at this <;> first | (rename_i z; exact .inl z) | (rename_i z; exact .inr z) | cases this
  · have := h4 y hy
    rcases e with e | e <;> rw [e] at this <;> simp only [Bool.or_eq_true, Bool.not_eq_true'] at this
    · exact this.imp (fun z => by simpa using z) fun z => by simpa using z
    · exact this.imp (fun z => by simpa using z) fun z => by simpa using z
abbrev BlkG (g : Cfg) (H0 : Hp) (xi : Option XI) (T : Tb) (k : Nat) (N : List Str) (sc scope : Scope) (tg : Expr) (ct : Tgt) : Prop := ∀ (O : Addr → Prop) (Y : Cx), Sc g T k WF N (relS scope sc) (fun x => scope.names.lookup x == some .cell) Y → PG Y tg (rG g O H0 xi ct)
abbrev BlkT (g : Cfg) (H0 : Hp) (xi : Option XI) (T : Tb) (k : Nat) (N : List Str) (sc scope : Scope) (ifs : List Expr) (cd : CT) : Prop := ∀ (O : Addr → Prop) (Y : Cx), Sc g T k WF N (relS scope sc) (fun x => scope.names.lookup x == some .cell) Y → PTs Y ifs (rT g O H0 xi WF (evT T cd))
abbrev BlkE (g : Cfg) (H0 : Hp) (xi : Option XI) (T : Tb) (k : Nat) (N : List Str) (sc scope : Scope) (elt : Expr) (ce : CE) : Prop := ∀ (O : Addr → Prop) (Y : Cx), Sc g T k WF N (relS scope sc) (fun x => scope.names.lookup x == some .cell) Y → SE g O H0 xi WF T Y elt ce
theorem u_ifn (O : Addr → Prop) {Y : Cx} : PTs Y [] (rT g O H0 xi WF (evT T .yes)) := ⟨fun pins s σ H Q I ⟨ρ, J, q⟩ => pts_nil.run pins s σ H Q I (q H (Sm.refl H))⟩
theorem u_if1 {O : Addr → Prop} {Y : Cx} {e : Expr} {c : CT} (h : ST' g O H0 xi WF T Y e c) : PTs Y [e] (rT g O H0 xi WF (evT T c)) := pts_one h
theorem u_comp (C : Sc g T k W N sc fb X) {tg it elt : Expr} {ifs : List Expr} {scope : Scope} {own : List (Str × Nat)} {pos : Pos} {ct : Tgt} {ci : CI} {cd : CT} {ce : CE} (hr : itHot ci = false) (hb : blkB N sc scope own = true) (how : own.map (·.2) = ct.slots) (hs : ∀ x, foldedSetIterable it X.env x = pure x)
    (hi : SI g O H0 xi W T X tg it ci) (hg : T.hot = false → BlkG g H0 xi T k N sc scope tg ct) (ht : BlkT g H0 xi T k N sc scope ifs cd) (he : BlkE g H0 xi T k N sc scope elt ce) : SE g O H0 xi W T X (.ListComp elt [⟨tg, it, ifs, 0⟩] scope pos) (.cmp ct ci cd ce) := by
  cases hot : T.hot with
  | true =>
    exact PE.by' PE.stk fun σ H Q ⟨ρ, I, q⟩ => by
      simp only [evE] at q
      rw [if_pos (by rw [hot, hr]; rfl)] at q
      exact q
  | false =>
    exact s_comp (fun _ => (C.md.cold hot).1) (fun h => by rw [hot] at h; cases h) C.nd hi (by rw [C.N, C.sc]; exact blkB_is hb) how
      (fun O s H Cc cl fp => hg hot O _ (C.blk hot s H scope Cc cl fp)) (fun O s H Cc cl fp => ht O _ (C.blk hot s H scope Cc cl fp)) (fun O s H Cc cl fp => he O _ (C.blk hot s H scope Cc cl fp)) hs
theorem u_compR (C : Sc g T k W N sc fb X) {tg a elt : Expr} {ifs : List Expr} {scope : Scope} {own : List (Str × Nat)} {p2 pos2 pos : Pos} {ct : Tgt} {ca : CE} {cd : CT} {ce : CE} (hb : blkB N sc scope own = true) (how : own.map (·.2) = ct.slots) (hrg : bltB sc "range" = true) (hst : notStar a = true)
    (ha : SE g O H0 xi W T X a ca) (hg : BlkG g H0 xi T k N sc scope tg ct) (ht : BlkT g H0 xi T k N sc scope ifs cd) (he : BlkE g H0 xi T k N sc scope elt ce) :
    SE g O H0 xi W T X (.ListComp elt [⟨tg, .Call (.Name "range" p2) [a] [] pos2, ifs, 0⟩] scope pos) (.cmp ct (.rng (.cst (.int 0)) ca) cd ce) := by
  have ok : BlkOk X.N X.env.scope scope own := by rw [C.N, C.sc]; exact blkB_is hb
  cases hot : T.hot with
  | false =>
    exact s_comp (fun _ => (C.md.cold hot).1) (fun h => by rw [hot] at h; cases h) C.nd (u_ir1 C hrg ha hst) ok how
      (fun O s H Cc cl fp => hg O _ (C.blk hot s H scope Cc cl fp)) (fun O s H Cc cl fp => ht O _ (C.blk hot s H scope Cc cl fp)) (fun O s H Cc cl fp => he O _ (C.blk hot s H scope Cc cl fp)) (fun _ => rfl)
  | true =>
    obtain ⟨b1, b2, _, _⟩ := C.blt hrg
    have hi : L2H.PIH X tg (.Call (.Name "range" p2) [a] [] pos2) (iRng1 (tCons (rE g O H0 xi W (evE T ca)) tNil)) := L2H.pi_range1H b1 b2 (pa_cons ha pa_nil (star_cons hst)) (star_cons hst)
    exact PE.by' (pe_lcH (gt := xG fun O => rG g O H0 xi ct) (tt := xT fun O => rT g O H0 xi WF (evT T cd)) (te := xE fun O => rE g O H0 xi WF (evE T ce)) (C.md.hot hot).1 C.nd hi ok
      (fun s H Cc cl fp => ⟨fun pins s' σ' H' v u Q I r ⟨O, q⟩ => (hg O _ (C.blkH hot s H scope Cc cl fp)).run pins s' σ' H' v u Q I r q⟩)
      (fun s H Cc cl fp => ⟨fun pins s' σ' H' Q I ⟨O, q⟩ => (ht O _ (C.blkH hot s H scope Cc cl fp)).run pins s' σ' H' Q I q⟩)
      (fun s H Cc cl fp => ⟨fun pins s' σ' H' Q I ⟨O, q⟩ => (he O _ (C.blkH hot s H scope Cc cl fp)).run pins s' σ' H' Q I q⟩) (fun _ => rfl)) fun σ H Q q => by
        obtain ⟨ρ, I, z⟩ := s_cmpL (tg := tg) (it := .Call (.Name "range" p2) [a] [] pos2) (elt := elt) (ifs := ifs) (scope := scope) how (by rw [hot]; rfl) σ H Q q
        refine ⟨ρ, I, ?_⟩
        simp only [evI, evE, ok_bind] at z
        exact LdG.bindE z fun x v H1 hx s1 r1 q1 => by
          cases x <;> try (exact q1.elim)
          rename_i j
          cases r1
          simp only at q1
          by_cases hk : (rngOk 0 j && decide ((j - 0).toNat ≤ 16777216)) = true
          · rw [if_pos hk] at q1
            have hb := rngOk_is hk
            exact ⟨j, rfl, hb.2.2.1, hb.2.2.2.1, by have := q1 H1 (Sm.refl H1) (Itr 0 (j - 0).toNat) (wk_rng hb.2.2.2.2); simpa using this⟩
          · rw [if_neg hk] at q1
            exact q1.elim
abbrev L (x : Str) : List Nat := x.cps.toList
def txtB (x : List Nat) : Bool := decide (x.length ≤ 16777216) && x.all fun c => decide (c < 1114112)
theorem u_str {x : Str} {j pos} (h : txtB (L x) = true) : SE g O H0 xi W T X (.Constant (.str x) j pos) (.cst (.str (L x))) := by
  unfold txtB at h
  simp only [Bool.and_eq_true, List.all_eq_true, decide_eq_true_eq] at h
  exact s_str h
end
end Ev
end
section
set_option Elab.async false
set_option linter.all false
set_option maxRecDepth 100000
set_option maxHeartbeats 2000000
namespace Ev
variable [Nm]
open PySem PySem.Spec PyProof.Rows L2
def Fr2 (X : Cx) : Prop := X.stack = X.env :: X.outer ∧ X.env.frame = some X.env.locals
section
variable {g : Cfg} {O : Addr → Prop} {H0 : Hp} {xi : Option XI} {W : WX} {X : Cx} {T : Tb} {k : Nat} {N : List Str} {sc : Scope} {fb : Str → Bool}
theorem u_set (C : Sc g T k W N sc fb X) (i : Nat) {x : Str} {e : Expr} {c : CE} {pos pos' : Pos} (hw : wrB N sc fb i x = true) (hs : swapsWith e (some (.Name x pos')) pos.line X.env = pure false) (h : SE g O H0 xi W T X e c) : SS g O H0 xi W T X (.Assign [.Name x pos'] e pos) (.set i c) :=
  let ⟨h1, h2, h3⟩ := C.wr hw; ss_set C.nd h1 h2 h3 h hs
theorem u_setOwn (C : Sc g T k W N sc fb X) (i : Nat) {x : Str} {e : Expr} {c : CE} {pos pos' : Pos} (hw : wrB N sc fb i x = true) (hs : swapsWith e (some (.Name x pos')) pos.line X.env = pure false) (h : SF g O H0 xi W T X e c) : SS g O H0 xi W T X (.Assign [.Name x pos'] e pos) (.setOwn i c) :=
  let ⟨h1, h2, h3⟩ := C.wr hw; ss_setOwn C.nd h1 (fun I => by rw [I.len]; exact (List.getElem?_eq_some_iff.mp h1).1) h2 h3 h hs
theorem u_setC (C : Sc g T k W N sc fb X) (i : Nat) {y : Str} {py spos : Pos} {tg it elt : Expr} {ifs : List Expr} {scope : Scope} {own : List (Str × Nat)} {pos : Pos} {ct : Tgt} {ci : CI} {cd : CT} {ce : CE} (hw : wrB N sc (fun _ => false) i y = true) (hk : (match sc.kind with | .function => true | _ => false) = true) (hl : (py.line == pos.line) = true)
    (hn : (scope.names.any fun (n, k) => n == y && (k == .local || k == .cell)) = false) (hb : blkB N sc scope own = true) (how : own.map (·.2) = ct.slots) (hs : ∀ x, foldedSetIterable it X.env x = pure x)
    (hi : SI g O H0 xi W T X tg it ci) (hg : T.hot = false → BlkG g H0 xi T k N sc scope tg ct) (ht : BlkT g H0 xi T k N sc scope ifs cd) (he : BlkE g H0 xi T k N sc scope elt ce) : SS g O H0 xi W T X (.Assign [.Name y py] (.ListComp elt [⟨tg, it, ifs, 0⟩] scope pos) spos) (.setC i (.cmp ct ci cd ce)) := by
  cases hot : T.hot with
  | true =>
    exact PS.by' ps_never fun D σ H ⟨ρ, I, q⟩ => by
      simp only [evS] at q
      rw [if_pos hot] at q
      exact q
  | false =>
    obtain ⟨h1, h2, h3⟩ := wrB_is hw
    have hloc : sc.names.lookup y = some .local := h3.elim (fun z => by cases z) id
    have hkind : X.env.scope.kind = .function := by
      rw [C.sc]
      split at hk
      · assumption
      · cases hk
    have hsw := sw_true (elt := elt) (gs := [⟨tg, it, ifs, 0⟩]) (scope := scope) (pos := pos) (py := py) (y := y) (l := spos.line) (env := X.env) hkind (by rw [C.sc]; exact hloc) hl hn
    exact PS.by' (ps_setLc (g := xG fun O => rG g O H0 xi ct) (tt := xT fun O => rT g O H0 xi WF (evT T cd)) (te := xE fun O => rE g O H0 xi WF (evE T ce)) (C.md.cold hot).1 C.nd (by rw [C.N]; exact h1) (by rw [C.sc]; exact hloc) hsw hi (by rw [C.N, C.sc]; exact blkB_is hb)
      (fun s H Cc cl fp => ⟨fun pins s' σ' H' v u Q I r ⟨O, q⟩ => (hg hot O _ (C.blk hot s H scope Cc cl fp)).run pins s' σ' H' v u Q I r q⟩)
      (fun s H Cc cl fp => ⟨fun pins s' σ' H' Q I ⟨O, q⟩ => (ht O _ (C.blk hot s H scope Cc cl fp)).run pins s' σ' H' Q I q⟩)
      (fun s H Cc cl fp => ⟨fun pins s' σ' H' Q I ⟨O, q⟩ => (he O _ (C.blk hot s H scope Cc cl fp)).run pins s' σ' H' Q I q⟩) hs) fun D σ H ⟨ρ, I, q⟩ =>
      s_cmpL (tg := tg) (it := it) (elt := elt) (ifs := ifs) (scope := scope) how (by rw [hot]; rfl) σ H _ ⟨ρ, I, by
        simp only [evS] at q
        rw [if_neg (by rw [hot]; decide)] at q
        exact LdS.onE I q fun a v H1 _ s r q1 => q1 _ H1 ((I.more s).set r) (Adv.of (Sm.refl H1) (own_set (fun _ h => nomatch h) I.len))⟩
theorem sw_cell {elt : Expr} {gs : List Comprehension} {scope : Scope} {pos py : Pos} {y : Str} {l : Nat} {env : Env} (h : env.kindOf y = some .cell) : swapsWith (.ListComp elt gs scope pos) (some (.Name y py)) l env = pure false := by
  unfold swapsWith
  have e : (env.kindOf y == some NameKind.local) = false := by rw [h]; decide
  show (pure (env.blockKind == .function && env.kindOf y == some .local && py.line == pos.line && !(scope.names.any fun (n, k) => n == y && (k == .local || k == .cell))) : Sem Bool) = pure false
  rw [e]
  simp
theorem u_setD (C : Sc g T k W N sc fb X) (i : Nat) {y : Str} {py spos : Pos} {elt : Expr} {gs : List Comprehension} {scope : Scope} {pos : Pos} {c : CE} (hw : wrB N sc fb i y = true) (hc : (sc.names.lookup y == some .cell) = true) (h : SE g O H0 xi W T X (.ListComp elt gs scope pos) c) : SS g O H0 xi W T X (.Assign [.Name y py] (.ListComp elt gs scope pos) spos) (.set i c) :=
  u_set C i hw (sw_cell (by unfold Env.kindOf; rw [C.sc]; simpa using hc)) h
theorem u_unp (C : Sc g T k W N sc fb X) {es : List Expr} {is : List Nat} {kk : Nat} {e : Expr} {c : CE} {p pos : Pos} (hg : PGs X es (rGs g O H0 xi is)) (hl : es.length = is.length) (hst : es.all notStar = true) (h : SE g O H0 xi W T X e c) (hs : swapsWithSole [.Tuple es kk p] e pos.line X.env = pure false) (hw : swappedStores [.Tuple es kk p] e X.env = pure none)
    (h1 : (assignEach [.Tuple es kk p] X.env).map (·.2) = [assign (.Tuple es kk p) X.env]) : SS g O H0 xi W T X (.Assign [.Tuple es kk p] e pos) (.unp is c) :=
  ss_unp (fun hot => u_gt C hot hg hl hst) h hs hw h1
theorem u_app (C : Sc g T k W N sc fb X) (i : Nat) {x : Str} {e : Expr} {c : CE} {pos cpos apos p : Pos} (hr : rdB N sc i x = true) (h : SE g O H0 xi W T X e c) (hst : notStar e = true) (hbase : attributeBase (.Name x p) "append" X.env (eval (.Name x p) X.env) = eval (.Name x p) X.env)
    (hfew : ((backTo cpos (starEach [e] X.env)).all (fun x => !x.1) && (backToKw cpos (keywordEach [] X.env)).all (fun x => x.1.isSome) && decide ([e].length + ([] : List Keyword).length + (if ([] : List Keyword).isEmpty then 0 else 1) < 30)) = true)
    (hline : (apos.endLine == cpos.line) = true) (hs : swapsWith (.Call (.Attribute (.Name x p) "append" apos) [e] [] cpos) none pos.line X.env = pure false) : SS g O H0 xi W T X (.Expr (.Call (.Attribute (.Name x p) "append" apos) [e] [] cpos) pos) (.app i c) :=
  let ⟨h1, h2, h3, h4⟩ := C.rd hr; ss_app h1 h2 h3 h4 h hst hbase hfew hline hs
theorem u_frz (hO : Trk O H0) {is : List Nat} {st : Stmt} {c : CS} {r : List Stmt} {cs : List CS} (h : SSs g O H0 xi W T X (st :: r) (c :: cs)) : SSs g O H0 xi W T X (st :: r) (.frz is :: c :: cs) := ss_frz hO h
theorem u_retO (C : Sc g T k W N sc fb X) (hO : Trk O H0) (i : Nat) {x : Str} {pos p : Pos} (hr : rdB N sc i x = true) : SS g O H0 xi W T X (.Return (some (.Name x p)) pos) (.retO i) :=
  let ⟨h1, h2, h3, h4⟩ := C.rd hr; ss_retO hO h1 h2 h3 h4
theorem u_for (C : Sc g T k W N sc fb X) {tg e : Expr} {ct : Tgt} {ci : CI} {b : List Stmt} {cb : List CS} {pos : Pos} (hs : ∀ x, foldedSetIterable e X.env x = pure x) (hi : SI g O H0 xi W T X tg e ci) (hg : T.hot = false → PG X tg (rG g O H0 xi ct)) (hb : SSs g O H0 xi W T X b cb) : SS g O H0 xi W T X (.For tg e b [] pos) (.for ct ci cb) :=
  ss_for (fun hh => (C.md.cold hh).1) C.po hi hg hb hs
theorem u_whl (C : Sc g T k W N sc fb X) {e : Expr} {c : CT} {b : List Stmt} {cb : List CS} {pos : Pos} (h : ST' g O H0 xi W T X e c) (hb : SSs g O H0 xi W T X b cb) : SS g O H0 xi W T X (.While e b [] pos) (.whl c cb) := ss_whl C.po h hb
theorem u_raise (C : Sc g T (k + 2) W N sc fb X) (c : Nat) {x : Str} {e : Expr} {es : List Expr} {cs : List CE} {p pos pos' : Pos} (hc : c < g.nC) (hp : (g.cPs c).isEmpty = false) (hx : g.cNm c = x) (hg : glB sc x = true) (hl : cs.length = (g.cFl c).length) (hl2 : cs.length ≤ 1000) (hs : (e :: es).all notStar = true) (ha : SA g O H0 xi W T X (e :: es) cs) :
    SS g O H0 xi W T X (.Raise (some (.Call (.Name x p) (e :: es) [] pos)) none pos') (.raise c cs) := by
  subst hx
  obtain ⟨h1, h2, _⟩ := C.gl hg
  exact ss_raise (k := 1) (C.pf.exn c hc hp) C.of ⟨fun h => ⟨(C.md.cold h).1, (C.md.cold h).2.mono (by omega)⟩, fun h => ⟨(C.md.hot h).1, (C.md.hot h).2.mono (by omega)⟩⟩ C.tk h1 ha hs hl hl2 h2
theorem Sc.tr (C : Sc g T k W N sc fb X) (hot : T.hot = false) {W' : WX} {pn : List (Addr × Obj)} {xe : Value → Shared → Prop} (tk : L2N.Takes (X.tr pn xe) W') (po : PassesOwn (model X.prog X.w) X.A X.env xe) : Sc g T k W' N sc fb (X.tr pn xe) where
  N := C.N
  sc := C.sc
  of := ⟨C.of.P, C.of.w, C.of.K, C.of.mg, C.of.base⟩
  md := ⟨fun _ => C.md.cold hot, fun h => (by rw [hot] at h; cases h)⟩
  tk := tk
  po := po
  fn := C.fn
  nd := C.nd
  pf := C.pf
  fs := C.fs
  fh := C.fh
theorem Sc.suite (C : Sc g T k W N sc fb X) (hot : T.hot = false) {a : Addr} {oe : Obj} {cls : Value} {d : Option Addr} {pn : List (Addr × Obj)} (z : L2N.Zn cls d oe) (hv : ∃ vs, oe.data = .fields vs) : Sc g T.heat k WF N sc fb (X.suite a ((a, oe) :: pn)) where
  N := C.N
  sc := C.sc
  of := ⟨C.of.P, C.of.w, C.of.K, C.of.mg, C.of.base⟩
  md := ⟨fun h => (by cases h), fun _ => ⟨⟨(a, oe), ⟨rfl, let ⟨vs, e⟩ := hv; ⟨vs, e, z.2.2 vs e⟩⟩, List.mem_cons_self⟩, let r := (C.md.cold hot).2; ⟨r.dp, r.un⟩⟩⟩
  tk := fun _ _ ⟨_, _, _, _, _, _, _, _, _, _, _, _, _, _, _, _, z⟩ => z
  po := PassesOwn.never
  fn := C.fn
  nd := C.nd
  pf := C.pf
  fs := C.fh
  fh := C.fh
theorem u_hn : HdsMix X [] (([] : List CH).map (hdOf g O H0 T)) := .nil
theorem Sc.names (C : Sc g T k W N sc fb X) {c : Nat} {x : Str} (hc : c < g.nC) (hx : g.cNm c = x) (hg : glB sc x = true) : Names X x (.ref (g.cAd c)) := by
  subst hx
  obtain ⟨h1, h2, _⟩ := C.gl hg
  exact ⟨h1, h2, .inl (by rw [C.of.mg]; exact C.pf.cmg c hc)⟩
theorem u_hp (C : Sc g T k W N sc fb X) (hot : T.hot = false) (c : Nat) {x : Str} {st : Stmt} {sts : List Stmt} {b : List CS} {np hp : Pos} {hds : List ExceptHandler} {hs : List CH} (hc : c < g.nC) (hx : g.cNm c = x) (hg : glB sc x = true)
    (su : ∀ Y, Sc g T.heat k WF N sc fb Y → SSs g O H0 none WF T.heat Y (st :: sts) b) (r : HdsMix X hds (hs.map (hdOf g O H0 T))) : HdsMix X (.ExceptHandler (some (.Name x np)) none (st :: sts) hp :: hds) ((CH.mk c none b :: hs).map (hdOf g O H0 T)) :=
  .plain (C.names hc hx hg) (fun a oe cls d pn z hv => PSs.by' (su _ (C.suite hot z hv)) fun D σ H q => q) r
theorem u_has (C : Sc g T k W N sc fb X) (hot : T.hot = false) (c i : Nat) {x y : Str} {st : Stmt} {sts : List Stmt} {b : List CS} {np hp : Pos} {hds : List ExceptHandler} {hs : List CH} (hc : c < g.nC) (hx : g.cNm c = x) (hg : glB sc x = true) (hw : wrB N sc (fun _ => false) i y = true)
    (su : ∀ (x : XI) Y, T.sub x.c c = true → XiAt g Y x → Sc g T.heat k WF N sc fb Y → SSs g O H0 (some x) WF T.heat Y (st :: sts) b) (r : HdsMix X hds (hs.map (hdOf g O H0 T))) : HdsMix X (.ExceptHandler (some (.Name x np)) (some y) (st :: sts) hp :: hds) ((CH.mk c (some i) b :: hs).map (hdOf g O H0 T)) := by
  obtain ⟨h1, h2, h3⟩ := wrB_is hw
  have hloc : sc.names.lookup y = some .local := h3.elim (fun z => by cases z) id
  refine .named (C.names hc hx hg) (by rw [C.N]; exact h1) (by unfold Env.kindOf; rw [C.sc]; exact hloc) (fun a oe cls d pn z hv => ⟨fun pins s σ H D I ⟨c', fs, dd, e1, e2, e3, q⟩ => ?_⟩) r
  subst e1 e2
  exact (su ⟨a, c', fs, dd⟩ _ e3 ⟨oe, hv.choose, List.mem_cons_self, ⟨z.1, z.2.1⟩, hv.choose_spec⟩ (C.suite hot z hv)).run pins s σ H D I q
theorem u_try (C : Sc g T k W N sc fb X) (fr : Fr2 X) {body : List Stmt} {hd : ExceptHandler} {hds : List ExceptHandler} {b : List CS} {hs : List CH} {pos : Pos} (hb : ∀ W' Y, Sc g T k W' N sc fb Y → SSs g O H0 none W' T Y body b) (hm : T.hot = false → HdsMix X (hd :: hds) (hs.map (hdOf g O H0 T))) :
    SS g O H0 none W T X (.Try body (hd :: hds) [] [] pos) (.try b hs) := by
  cases hot : T.hot with
  | true =>
    exact PS.by' ps_never fun D σ H ⟨ρ, I, q⟩ => by
      simp only [evS] at q
      rw [if_pos hot] at q
      exact q
  | false => exact ss_try C.K C.pf.em fr.1 fr.2 C.nd C.tk (fun W' pn xe tk po => hb W' _ (C.tr hot tk po)) (hm hot)
theorem u_exf (C : Sc g T k W N sc fb X) {x : XI} (hx : XiAt g X x) (i j : Nat) {nm fn : Str} {pos p : Pos} (hj : (g.cFl x.c)[j]? = some fn) (h : rdB N sc i nm = true) (hb : attributeBase (.Name nm p) fn X.env (eval (.Name nm p) X.env) = eval (.Name nm p) X.env) : SE g O H0 (some x) W T X (.Attribute (.Name nm p) fn pos) (.exf i j) :=
  let ⟨h1, h2, h3, h4⟩ := C.rd h; s_exf C.K hx (C.pf.exf x.c) hj h1 h2 h3 h4 hb
theorem u_exi (C : Sc g T k W N sc fb X) {x : XI} (hx : XiAt g X x) (i c : Nat) {nm cn : Str} {p p1 p2 pos : Pos} (hc : c < g.nC) (hcn : g.cNm c = cn) (h : rdB N sc i nm = true) (hb : bltB sc "isinstance" = true) (hg : glB sc cn = true) : SE g O H0 (some x) W T X (.Call (.Name "isinstance" p) [.Name nm p1, .Name cn p2] [] pos) (.exi i c) := by
  subst hcn
  obtain ⟨h1, h2, h3, h4⟩ := C.rd h
  obtain ⟨b1, b2, _, _⟩ := C.blt hb
  obtain ⟨g1, g2, _⟩ := C.gl hg
  exact s_exi C.K C.of.mg hx (C.pf.exf x.c) (C.pf.kit x.c c) h1 h2 h3 h4 b1 b2 g1 (C.pf.cmg c hc) g2
end
end Ev
end
section
set_option Elab.async false
set_option linter.all false
set_option maxRecDepth 100000
set_option maxHeartbeats 2000000
namespace Ev
variable [Nm]
open PySem PySem.Spec PyProof.Rows L2
section
variable {g : Cfg} {O : Addr → Prop} {H0 : Hp} {xi : Option XI} {W : WX} {X : Cx} {T : Tb} {k : Nat} {N : List Str} {sc : Scope} {fb : Str → Bool}
theorem chain_rd {o o' : Op2} (hb : opBool o = true) {ca cb cc : CE} {σ : St} {H : Hp} {Q : VK} {r r' : R2} {ta tb tc : TE} (hr : r = rBin g.K o) (hr' : r' = rBin g.K o') (ea : ta = rB g O H0 xi W (evB T ca) (ownArg · ca)) (eb : tb = rB g O H0 xi W (evB T cb) (ownArg · cb)) (ec : tc = rB g O H0 xi W (evB T cc) (ownArg · cc))
    (h : rE g O H0 xi W (evE T (.chain o o' ca cb cc)) σ H Q) : tChain r r' ta tb tc σ H Q := by
  subst hr hr' ea eb ec
  obtain ⟨ρ, I, q⟩ := h
  refine ⟨ρ, I, LdE.bindB q fun x v H1 _ s1 r1 q1 => ⟨ρ, I.more s1, LdE.bindB q1 fun y u H2 _ s2 r2 q2 => ⟨_, x, y, (I.trkO.same s1).same s2, r1.gro s2, r2, ?_⟩⟩⟩
  cases h3 : binD o x y with
  | ok d =>
    obtain ⟨c, rfl⟩ := binD_bool hb h3
    rw [h3] at q2
    intro v' H3 s3 r3
    cases r3
    refine ⟨c, rfl, ?_⟩
    cases c with
    | false => exact q2 _ H3 s3 (.bl false)
    | true =>
      rw [if_pos rfl]
      have q3 : LdE g W (Own O σ ρ) σ H3 (evB T cc ρ >>= fun z => binD o' y z) Q := LdE.more q2 s3
      exact ⟨ρ, ((I.more s1).more s2).more s3, LdE.bindB q3 fun z w H4 _ s4 r4 q4 => ⟨_, y, z, (((I.trkO.same s1).same s2).same s3).same s4, (r2.gro s3).gro s4, r4, LdE.v q4 binD_ne⟩⟩
  | err c fs => exact (binD_ne _ _ h3).elim
  | stuck => rw [h3] at q2; exact q2
theorem u_chain (C : Sc g T k W N sc fb X) {op op' : CmpOp} {o o' : Op2} {a b c : Expr} {ca cb cc : CE} {pos : Pos} (h : cmpU op = some o) (h' : cmpU op' = some o') (hm : lastMarks [op, op'] [b, c] = false) (ha : SB g O H0 xi W T X a ca) (hb : SB g O H0 xi W T X b cb) (hc : SB g O H0 xi W T X c cc) : SE g O H0 xi W T X (.Compare a [op, op'] [b, c] pos) (.chain o o' ca cb cc) :=
  PE.by' (pe_chain (cmpU_ok C h) (cmpU_ok C h') ha hb hc hm) fun σ H Q q => chain_rd (cmpU_bool h) rfl rfl rfl rfl rfl q
theorem evT_chain {o p : Op2} {a b c : CE} {ρ : Rho} : evT T (.of (.chain o p a b c)) ρ = (evE T (.chain o p a b c) ρ >>= fun z => z.truth) := rfl
theorem chain_bool {o p : Op2} (hp : opBool p = true) {a b c : CE} {ρ : Rho} {d : D} (e : evE T (.chain o p a b c) ρ = .ok d) : ∃ x, d = .bl x := by
  simp only [evE] at e
  cases h1 : bor a ρ (evE T a ρ) with
  | ok x =>
    cases h2 : bor b ρ (evE T b ρ) with
    | ok y =>
      cases h3 : binD o x y with
      | ok z =>
        simp only [h1, h2, h3, ok_bind] at e
        split at e
        · cases h4 : bor c ρ (evE T c ρ) with
          | ok u =>
            rw [h4] at e
            exact binD_bool hp e
          | err c fs => rw [h4] at e; cases e
          | stuck => rw [h4] at e; cases e
        · cases e; exact ⟨_, rfl⟩
        · cases e
      | err c fs => rw [h1, ok_bind, h2, ok_bind, h3] at e; cases e
      | stuck => rw [h1, ok_bind, h2, ok_bind, h3] at e; cases e
    | err c fs => rw [h1, ok_bind, h2] at e; cases e
    | stuck => rw [h1, ok_bind, h2] at e; cases e
  | err c fs => rw [h1] at e; cases e
  | stuck => rw [h1] at e; cases e
theorem u_chainT (C : Sc g T k W N sc fb X) {op op' : CmpOp} {o o' : Op2} {a b c : Expr} {ca cb cc : CE} {pos : Pos} (h : cmpU op = some o) (h' : cmpU op' = some o') (hm : lastMarks [op, op'] [b, c] = false) (ha : SB g O H0 xi W T X a ca) (hb : SB g O H0 xi W T X b cb) (hc : SB g O H0 xi W T X c cc) : ST' g O H0 xi W T X (.Compare a [op, op'] [b, c] pos) (.of (.chain o o' ca cb cc)) :=
  PT.by' (pt_chain (cmpU_ok C h) (cmpU_ok C h') ha hb hc hm) fun σ H Q ⟨ρ, I, q⟩ => by
    rw [evT_chain] at q
    refine chain_rd (cmpU_bool h) rfl rfl rfl rfl rfl ⟨ρ, I, ?_⟩
    cases he : evE T (.chain o o' ca cb cc) ρ with
    | ok d =>
      obtain ⟨x, rfl⟩ := chain_bool (cmpU_bool h') he
      rw [he] at q
      intro v H1 s r
      cases r
      exact ⟨x, rfl, q H1 s⟩
    | err c fs => rw [he] at q; exact q
    | stuck => rw [he] at q; exact q
theorem joinS_is (s : List Nat) : ∀ ys : List (List Nat), TL.joinL s ys = joinS s ys
  | [] => rfl
  | [x] => rfl
  | x :: y :: r => by
    have := joinS_is s (y :: r)
    simp only [TL.joinL, joinS] at this ⊢
    rw [this]
theorem sv_join (s : List Nat) (ys : List (List Nat)) : Txt.join (sv s) (ys.map sv) = sv (joinS s ys) := by
  have e := TL.tl_join (sv s) (ys.map sv)
  have e2 : TL.tl (sv s) = s := sv_tl s
  have e3 : (ys.map sv).map TL.tl = ys := by
    rw [List.map_map]
    have : (TL.tl ∘ sv) = id := funext fun x => sv_tl x
    rw [this, List.map_id]
  rw [TL.join_eq, ← sv_of (Str.join (sv s) (ys.map sv))]
  congr 1
  show TL.tl _ = _
  rw [e, e2, e3, joinS_is]
theorem joinS_len (s : List Nat) : ∀ ys : List (List Nat), (joinS s ys).length ≤ (ys.map (·.length)).sum + ys.length * s.length
  | [] => by simp [joinS]
  | [x] => by simp [joinS]
  | x :: y :: r => by
    have := joinS_len s (y :: r)
    simp only [joinS, List.length_append, List.map_cons, List.sum_cons, List.length_cons, Nat.succ_mul] at this ⊢
    omega
theorem joinS_mem (s : List Nat) (c : Nat) : ∀ ys : List (List Nat), c ∈ joinS s ys → c ∈ s ∨ ∃ y ∈ ys, c ∈ y
  | [], h => by simp [joinS] at h
  | [x], h => .inr ⟨x, by simp, h⟩
  | x :: y :: r, h => by
    simp only [joinS, List.mem_append] at h
    rcases h with h | h | h
    · exact .inr ⟨x, by simp, h⟩
    · exact .inl h
    · rcases joinS_mem s c (y :: r) h with h | ⟨z, hz, h⟩
      · exact .inl h
      · exact .inr ⟨z, List.mem_cons_of_mem _ hz, h⟩
theorem u_join (C : Sc g T k W N sc fb X) {o e : Expr} {cs ce : CE} {apos pos : Pos} (ho : SE g O H0 xi W T X o cs) (he : SB g O H0 xi W T X e ce) (hst : notStar e = true) (hbase : attributeBase o "join" X.env (eval o X.env) = eval o X.env) (hline : (apos.endLine == pos.line) = true) :
    SE g O H0 xi W T X (.Call (.Attribute o "join" apos) [e] [] pos) (.join cs ce) :=
  PE.by' (pe_join ho he (star_cons hst) hbase hline) fun σ H Q ⟨ρ, I, q⟩ => by
    refine ⟨ρ, I, ?_⟩
    simp only [evE] at q
    refine LdE.bindE q fun x v H1 ex s1 r1 q1 => ?_
    clear ex
    cases x <;> first | exact q1.elim | skip
    rename_i z
    cases r1 with
    | str oz =>
      refine ⟨⟨_, rfl⟩, ρ, I.more s1, LdE.bindB q1 fun y u H2 _ s2 r2 q2 => ?_⟩
      have fin : ∀ (ds : List D) (a : Addr) (vs : List V), (SqL X.K H2 a vs ∨ SqT X.K H2 a vs) → Reps g.K (Own O σ ρ) H2 vs ds → LdE g W (Own O σ ρ) σ H2 (match strsD ds with
          | some ys => if (ys.map (·.length)).sum + ys.length * z.length ≤ 16777216 then .ok (.str (joinS z ys)) else .stuck
          | none => .stuck : Ev.R D) Q → ∃ a' p, ∃ ys : List Str, V.str (sv z) = .str a' ∧ [V.ref a] = [.ref p] ∧ (SqL X.K H2 p (ys.map V.str) ∨ SqT X.K H2 p (ys.map V.str)) ∧ (ys.map (·.length)).sum + ys.length * a'.length ≤ 16777216 ∧ Q (.str (Txt.join a' ys)) H2 := by
        intro ds a vs hs hr q
        cases hy : strsD ds with
        | none => rw [hy] at q; exact q.elim
        | some ys =>
          rw [hy] at q
          simp only at q
          obtain ⟨e1, e2⟩ := hr.of_strs hy
          split at q
          · rename_i hl
            refine ⟨sv z, a, ys.map sv, rfl, rfl, by rw [← e1]; exact hs, ?_, ?_⟩
            · rw [List.map_map, List.length_map, sv_len]
              have : ((fun x : Str => x.length) ∘ sv) = fun x : List Nat => x.length := funext fun x => sv_len x
              rw [this]
              exact hl
            · rw [sv_join]
              refine q _ H2 (Sm.refl H2) (.str ⟨Nat.le_trans (joinS_len z ys) hl, fun c hc => ?_⟩)
              rcases joinS_mem z c ys hc with h | ⟨y, hy, h⟩
              · exact oz.2 c h
              · exact (e2 y hy).2 c h
          · exact q.elim
      cases y <;> first | exact q2.elim | skip
      · obtain ⟨a, vs, rfl, sa, ra⟩ := r2.tup_of
        exact fin _ a vs (.inr (by rw [C.K]; exact sa.sq)) ra q2
      · obtain ⟨a, vs, rfl, sa, ra⟩ := r2.lst_of
        exact fin _ a vs (.inl (SqL.of sa)) ra q2
theorem LdG.bindX {α β : Type} {OO : Addr → Prop} {σ : St} {H : Hp} {r : R D} {f : D → R β} {k : β → R α} {S' : α → Hp → Prop} {Q : VK} (h : LdG g W OO σ H (r >>= fun x => f x >>= k) S') (c : ∀ x v H1, Sm H H1 → Rep g.K OO H1 v x → LdG g W OO σ H1 (f x >>= k) S' → Q v H1) : LdE g W OO σ H r Q := LdG.bindE h fun x v H1 _ s1 r1 q1 => c x v H1 s1 r1 q1
def JJ (g : Cfg) (O : Addr → Prop) (H0 : Hp) (xi : Option XI) (W : WX) (T : Tb) (X : Cx) (es : List Expr) (cs : List CE) : Prop := ∃ ts, PJ X es ts ∧ ∀ (acc : List Nat) (σ : St) (H : Hp) (Q : Str → Hp → Prop) (ρ : Rho), txtOk acc → EI g O H0 xi σ H ρ → LdG g W (Own O σ ρ) σ H (evF T cs ρ acc) (fun x H' => txtOk x → Q (sv x) H') → tJs ts (sv acc) σ H Q
theorem j_nil : JJ g O H0 xi W T X [] [] := ⟨[], .nil, fun acc σ H Q ρ ok I q => q H (Sm.refl H) ok⟩
theorem j_part {te : TE} {e : Expr} {es : List Expr} {c : CE} {cs : List CE} (he : PE X e te) (r : JJ g O H0 xi W T X es cs)
    (rd : ∀ (σ : St) (H : Hp) (Q : VK) (ρ : Rho), EI g O H0 xi σ H ρ → LdG g W (Own O σ ρ) σ H (evE T c ρ >>= fun x => fstrD x) (fun y H' => txtOk y → Q (.str (sv y)) H') → te σ H Q) : JJ g O H0 xi W T X (e :: es) (c :: cs) := by
  obtain ⟨ts, p, h⟩ := r
  refine ⟨te :: ts, .cons he p, fun acc σ H Q ρ ok I q => rd σ H _ ρ I ?_⟩
  have e1 : evF T (c :: cs) ρ acc = ((evE T c ρ >>= fun x => fstrD x) >>= fun y => if acc.length + y.length ≤ 16777216 then evF T cs ρ (acc ++ y) else .stuck) := by
    rw [R.assoc]
    rfl
  rw [e1] at q
  cases hy : (evE T c ρ >>= fun x => fstrD x) with
  | ok y =>
    rw [hy, ok_bind] at q
    intro H1 s1 oy
    split at q
    · rename_i hl
      refine ⟨sv y, rfl, by rw [← sv_app, sv_len, List.length_append, sizeLine_eq]; exact hl, ?_⟩
      rw [← sv_app]
      exact h _ _ _ _ ρ (ok.app oy hl) (I.more s1) (LdG.more q s1)
    · exact q.elim
  | err c fs => rw [hy] at q; exact q
  | stuck => rw [hy] at q; exact q
theorem j_txt {x : Str} {i pos} {es : List Expr} {cs : List CE} (hx : txtB (L x) = true) (r : JJ g O H0 xi W T X es cs) : JJ g O H0 xi W T X (.Constant (.str x) i pos :: es) (.cst (.str (L x)) :: cs) :=
  j_part pe_str r fun σ H Q ρ I q => by
    have ok : txtOk (L x) := by
      unfold txtB at hx
      simp only [Bool.and_eq_true, List.all_eq_true, decide_eq_true_eq] at hx
      exact hx
    have := q H (Sm.refl H) ok
    rw [sv_of] at this
    exact this
theorem j_val {e : Expr} {c : CE} {pos : Pos} {es : List Expr} {cs : List CE} (h : SE g O H0 xi W T X e c) (r : JJ g O H0 xi W T X es cs) : JJ g O H0 xi W T X (.FormattedValue e (-1) none pos :: es) (c :: cs) :=
  j_part (pe_fmt h) r fun σ H Q ρ I q => by
    refine ⟨ρ, I, LdG.bindE q fun x v H1 ex s1 r1 q1 => ?_⟩
    clear ex
    cases x <;> first | exact q1.elim | skip
    · cases r1
      simp only [fstrD] at q1
      split at q1
      · rename_i hz
        refine .inr ⟨_, rfl, hz, ?_⟩
        have := q1 H1 (Sm.refl H1) (txtI_ok hz)
        rw [txtI_sv] at this
        exact this
      · exact q1.elim
    · cases r1 with
      | str ok => exact .inl ⟨_, rfl, by rw [sv_len, sizeLine_eq]; exact ok.1, q1 H1 (Sm.refl H1) ok⟩
theorem u_fstr {a b : Expr} {es : List Expr} {cs : List CE} {pos : Pos} (h : JJ g O H0 xi W T X (a :: b :: es) cs) : SE g O H0 xi W T X (.JoinedStr (a :: b :: es) pos) (.fstr cs) := by
  obtain ⟨ts, p, r⟩ := h
  refine PE.by' (pe_joined p) fun σ H Q ⟨ρ, I, q⟩ => ?_
  have z := r [] σ H (fun out H1 => Q (.str out) H1) ρ ⟨by simp, by simp⟩ I ?_
  · exact z
  · simp only [evE] at q
    cases hy : evF T cs ρ [] with
    | ok x =>
      rw [hy] at q
      exact fun H1 s1 ok => q _ H1 s1 (.str ok)
    | err c fs => rw [hy] at q; exact q
    | stuck => rw [hy] at q; exact q
theorem u_con (C : Sc g T k W N sc fb X) {x : Str} {d : D} {pos : Pos} (hx : (x, d) ∈ g.cons) (hg : glB sc x = true) : SE g O H0 xi W T X (.Name x pos) (.cst d) := by
  obtain ⟨u, v, hm, r, rp⟩ := C.pf.con x d hx
  obtain ⟨h1, h2, _⟩ := C.gl hg
  exact PE.by' (pe_glob h1 (by rw [C.of.mg]; exact hm) r h2) fun σ H Q ⟨ρ, I, q⟩ => q v H (Sm.refl H) (rp _ _)
theorem look_tab {kvs : List (Str × D)} {z : List Nat} : lookD (.str z) (kvs.map fun q => (.str q.1.cps.toList, q.2)) = (match lookK (sv z) kvs with
    | some d => .ok d
    | none => .stuck) := by
  induction kvs with
  | nil => rfl
  | cons q r ih =>
    have e : D.eqv (.str q.1.cps.toList) (.str z) = (q.1 == sv z) := by
      simp only [D.eqv]
      rw [Bool.eq_iff_iff, beq_iff_eq, beq_iff_eq]
      exact ⟨fun h => by rw [← h, sv_of], fun h => by rw [h, sv_tl]⟩
    simp only [List.map_cons, lookD, e]
    cases hq : q.1 == sv z with
    | true => simp [lookK, List.find?_cons, hq]
    | false =>
      rw [if_neg (by simp), ih]
      simp [lookK, List.find?_cons, hq]
theorem any_tab {kvs : List (Str × D)} {z : List Nat} : ((kvs.map fun q => ((.str q.1.cps.toList : D), q.2)).any fun q => D.eqv q.1 (.str z)) = (lookK (sv z) kvs).isSome := by
  induction kvs with
  | nil => rfl
  | cons q r ih =>
    have e : D.eqv (.str q.1.cps.toList) (.str z) = (q.1 == sv z) := by
      simp only [D.eqv]
      rw [Bool.eq_iff_iff, beq_iff_eq, beq_iff_eq]
      exact ⟨fun h => by rw [← h, sv_of], fun h => by rw [h, sv_tl]⟩
    simp only [List.map_cons, List.any_cons, e, ih]
    cases hq : q.1 == sv z <;> simp [lookK, List.find?_cons, hq]
theorem u_tget (C : Sc g T k W N sc fb X) (j : Nat) {x : Str} {kvs : List (Str × D)} {e : Expr} {c : CE} {p pos : Pos} (hj : g.tabs[j]? = some (x, kvs)) (hg : glB sc x = true) (h : SE g O H0 xi W T X e c) (hs : notSlice e = true) : SE g O H0 xi W T X (.Subscript (.Name x p) e pos) (.tget j c) := by
  obtain ⟨⟨a, es, n, hm, D, hz⟩, eg⟩ := C.pf.tab j x kvs hj
  obtain ⟨h1, h2, _⟩ := C.gl hg
  have hK := C.K
  have hw : X.w = g.w := C.of.w
  have D' : KDict X.K X.w a es n := by rw [hK, hw]; exact D
  have base : PE X (.Name x p) (tC (.ref a)) := pe_glob h1 (by rw [C.of.mg]; exact hm) rfl h2
  refine ⟨fun pins s σ H Q I ⟨ρ, J, q⟩ => ?_⟩
  simp only [evE] at q
  refine subD_of PySem.F.slot_dict_getitem.lookup (plain_ix hs) (thn (base.run pins s σ H _ I (show tC (.ref a) σ H (fun x H1 => x = .ref a ∧ rE g O H0 xi W (evE T c) σ H1 fun y H2 => ∃ z d, y = .str (sv z) ∧ lookK (sv z) kvs = some d ∧ ∀ v H3, Sm H2 H3 → Rep g.K (Own O σ ρ) H3 v d → Q v H3) from ⟨rfl, ρ, J, ?_⟩)) fun u s1 ⟨x, H1, I1, rx, ex, q1⟩ => thn (h.run pins s1 σ H1 _ I1 q1) fun iv s2 ⟨y, H2, I2, ry, z, d, ey, hd, q2⟩ => ?_)
  · refine LdE.bindE q fun y v H1 ey s1 r1 q1 => ?_
    clear ey
    rw [eg] at q1
    unfold tabD at q1
    cases y <;> first | exact q1.elim | skip
    rename_i zz
    cases r1 with
    | str ok =>
      simp only [tgetD, look_tab] at q1
      cases hl : lookK (sv zz) kvs with
      | none => rw [hl] at q1; exact q1.elim
      | some d => rw [hl] at q1; exact ⟨zz, d, rfl, hl, q1⟩
  · subst ex
    obtain rfl : u = Value.ref a := rx
    subst ey
    obtain ⟨u0, v0, e1, r1, rp⟩ := (hz (sv z)).1 d hd
    exact ⟨kd_type D' I2, op_item_kd D' pins s2 σ H2 (.ref a) (.str (sv z)) _ _ Q I2 (show RelV (.ref a) (Value.ref a) from rfl) ry ⟨sv z, u0, v0, rfl, rfl, by rw [hK]; exact e1, r1, q2 v0 H2 (Sm.refl H2) (rp _ _)⟩⟩
theorem tin_op (C : Sc g T k W N sc fb X) (j : Nat) (neg : Bool) {x : Str} {kvs : List (Str × D)} (hj : g.tabs[j]? = some (x, kvs)) : ∃ a, X.mg x = some (.ref a) ∧ OpR X (compareOp (if neg then .NotIn else .In)) (fun y u H Q => ∃ z, y = .str (sv z) ∧ u = .ref a ∧ Q (.bl (neg != (lookK (sv z) kvs).isSome)) H) ∧ T.glb j = tabD kvs := by
  obtain ⟨⟨a, es, n, hm, D, hz⟩, eg⟩ := C.pf.tab j x kvs hj
  have hK := C.K
  have D' : KDict X.K X.w a es n := by rw [hK, C.of.w]; exact D
  have ns : ∀ z, ∃ r, PySem.W.nsIn X.K a (sv z) = some r ∧ r.isSome = (lookK (sv z) kvs).isSome := fun z => by
    rw [hK]
    cases hl : lookK (sv z) kvs with
    | none => exact ⟨none, (hz (sv z)).2 hl, rfl⟩
    | some d =>
      obtain ⟨u0, v0, e1, _⟩ := (hz (sv z)).1 d hl
      exact ⟨some u0, e1, rfl⟩
  refine ⟨a, by rw [C.of.mg]; exact hm, ?_, eg⟩
  intro pins s σ H y u' vv uu Q I ry ru h
  obtain ⟨z, rfl, rfl, q⟩ := h
  obtain ⟨r, e1, e2⟩ := ns z
  cases neg with
  | false => exact op_in_kd D' pins s σ H _ _ _ _ Q I ry ru ⟨sv z, r, rfl, rfl, e1, by rw [e2]; simpa using q⟩
  | true => exact op_notIn_kd D' pins s σ H _ _ _ _ Q I ry ru ⟨sv z, r, rfl, rfl, e1, by rw [e2]; simpa using q⟩
theorem tin_rd {neg : Bool} {kvs : List (Str × D)} {y d : D} (e : tinD neg (tabD kvs) y = .ok d) : ∃ z, y = .str z ∧ d = .bl (neg != (lookK (sv z) kvs).isSome) := by
  unfold tabD tinD at e
  cases y <;> first | (cases e; done) | skip
  rename_i z
  simp only [any_tab] at e
  injection e with e
  exact ⟨z, rfl, e.symm⟩
theorem tin_ne {neg : Bool} {kvs : List (Str × D)} {y : D} : ∀ c fs, tinD neg (tabD kvs) y ≠ .err c fs := by
  intro c fs h
  unfold tabD tinD at h
  cases y <;> cases h
theorem u_tin (C : Sc g T k W N sc fb X) (j : Nat) (neg : Bool) {op : CmpOp} {x : Str} {kvs : List (Str × D)} {e : Expr} {c : CE} {p pos : Pos} (ho : op = (if neg then .NotIn else .In)) (hj : g.tabs[j]? = some (x, kvs)) (hg : glB sc x = true) (hm : behindInMarks op (.Name x p) = false) (h : SE g O H0 xi W T X e c) :
    SE g O H0 xi W T X (.Compare e [op] [.Name x p] pos) (.tin j neg c) := by
  subst ho
  obtain ⟨a, hmg, Rop, eg⟩ := tin_op C j neg hj
  obtain ⟨h1, h2, _⟩ := C.gl hg
  refine PE.by' (pe_cmpR Rop h (pe_glob (v := .ref a) h1 hmg rfl h2) hm) fun σ H Q ⟨ρ, I, q⟩ => ⟨ρ, I, ?_⟩
  simp only [evE] at q
  refine LdE.bindE q fun y v H1 _ s1 r1 q1 => ?_
  rw [eg] at q1
  show ∃ z, v = .str (sv z) ∧ V.ref a = .ref a ∧ Q _ H1
  cases hy : tinD neg (tabD kvs) y with
  | ok d =>
    obtain ⟨z, rfl, rfl⟩ := tin_rd hy
    rw [hy] at q1
    cases r1 with
    | str ok => exact ⟨z, rfl, rfl, q1 _ H1 (Sm.refl H1) (.bl _)⟩
  | err cc fs => exact (tin_ne _ _ hy).elim
  | stuck => rw [hy] at q1; exact q1.elim
theorem u_tinT (C : Sc g T k W N sc fb X) (j : Nat) (neg : Bool) {op : CmpOp} {x : Str} {kvs : List (Str × D)} {e : Expr} {c : CE} {p pos : Pos} (ho : op = (if neg then .NotIn else .In)) (hj : g.tabs[j]? = some (x, kvs)) (hg : glB sc x = true) (hm : behindInMarks op (.Name x p) = false) (h : SE g O H0 xi W T X e c) :
    ST' g O H0 xi W T X (.Compare e [op] [.Name x p] pos) (.of (.tin j neg c)) := by
  subst ho
  obtain ⟨a, hmg, Rop, eg⟩ := tin_op C j neg hj
  obtain ⟨h1, h2, _⟩ := C.gl hg
  refine PT.by' (pt_cmpR Rop h (pe_glob (v := .ref a) h1 hmg rfl h2) hm) fun σ H Q ⟨ρ, I, q⟩ => ⟨ρ, I, ?_⟩
  have q' : LdG g W (Own O σ ρ) σ H (evE T c ρ >>= fun x => tinD neg (T.glb j) x >>= fun z => z.truth) Q := by
    have e : evT T (.of (.tin j neg c)) ρ = ((evE T c ρ >>= fun x => tinD neg (T.glb j) x) >>= fun z => z.truth) := rfl
    rw [e, R.assoc] at q
    exact q
  refine LdG.bindE q' fun y v H1 _ s1 r1 q1 => ?_
  rw [eg] at q1
  show ∃ z, v = .str (sv z) ∧ V.ref a = .ref a ∧ ∃ k, V.bl _ = .bl k ∧ Q k H1
  cases hy : tinD neg (tabD kvs) y with
  | ok d =>
    obtain ⟨z, rfl, rfl⟩ := tin_rd hy
    rw [hy] at q1
    cases r1 with
    | str ok => exact ⟨z, rfl, rfl, _, rfl, q1 H1 (Sm.refl H1)⟩
  | err cc fs => exact (tin_ne _ _ hy).elim
  | stuck => rw [hy] at q1; exact q1.elim
theorem isB_op (neg : Bool) : OpR X (compareOp (if neg then .IsNot else .Is)) (fun x y H Q => ∃ a b, x = .bl a ∧ y = .bl b ∧ Q (.bl (neg != (a == b))) H) := by
  intro pins s σ H x y v u Q I rx ry h
  obtain ⟨a, b, rfl, rfl, q⟩ := h
  cases neg with
  | false => exact op_isBl pins s σ H _ _ v u Q I rx ry ⟨a, b, rfl, rfl, by have e : decide (a = b) = (false != (a == b)) := by cases a <;> cases b <;> rfl
                                                                            rw [e]; exact q⟩
  | true => exact op_notBl pins s σ H _ _ v u Q I rx ry ⟨a, b, rfl, rfl, by have e : (!decide (a = b)) = (true != (a == b)) := by cases a <;> cases b <;> rfl
                                                                            rw [e]; exact q⟩
def isBo (neg b : Bool) : Op1 := if neg then .notB b else .isB b
theorem isBo_rd {neg b : Bool} {x d : D} (e : unD (isBo neg b) x = .ok d) : ∃ a, x = .bl a ∧ d = .bl (neg != (a == b)) := by
  cases neg <;> cases x <;> simp only [isBo, unD, if_true, if_false, Bool.false_eq_true] at e <;> first | (cases e; done) | skip
  · injection e with e
    exact ⟨_, rfl, by rw [← e]; simp⟩
  · injection e with e
    rename_i a
    exact ⟨_, rfl, by rw [← e]; cases a <;> cases b <;> rfl⟩
theorem isBo_ne {neg b : Bool} {x : D} : ∀ c fs, unD (isBo neg b) x ≠ .err c fs := by
  intro c fs h
  cases neg <;> cases x <;> simp only [isBo, unD, if_true, if_false, Bool.false_eq_true] at h <;> cases h
theorem u_isB (neg b : Bool) {op : CmpOp} {a : Expr} {ca : CE} {i pos pos'} (ho : op = (if neg then .IsNot else .Is)) (hm : behindInMarks op (.Constant (.bool b) i pos') = false) (ha : SB g O H0 xi W T X a ca) : SE g O H0 xi W T X (.Compare a [op] [.Constant (.bool b) i pos'] pos) (.un (isBo neg b) ca) := by
  subst ho
  refine PE.by' (pe_cmpR (isB_op neg) ha pe_bl hm) fun σ H Q ⟨ρ, I, q⟩ => ⟨ρ, I, ?_⟩
  simp only [evE] at q
  refine LdE.bindB q fun y v H1 _ s1 r1 q1 => ?_
  show ∃ x y', v = .bl x ∧ V.bl b = .bl y' ∧ Q _ H1
  cases hy : unD (isBo neg b) y with
  | ok d =>
    obtain ⟨z, rfl, rfl⟩ := isBo_rd hy
    rw [hy] at q1
    cases r1.bl_of
    exact ⟨z, b, rfl, rfl, q1 _ H1 (Sm.refl H1) (.bl _)⟩
  | err cc fs => exact (isBo_ne _ _ hy).elim
  | stuck => rw [hy] at q1; exact q1.elim
theorem u_isBT (neg b : Bool) {op : CmpOp} {a : Expr} {ca : CE} {i pos pos'} (ho : op = (if neg then .IsNot else .Is)) (hm : behindInMarks op (.Constant (.bool b) i pos') = false) (ha : SB g O H0 xi W T X a ca) : ST' g O H0 xi W T X (.Compare a [op] [.Constant (.bool b) i pos'] pos) (.of (.un (isBo neg b) ca)) := by
  subst ho
  refine PT.by' (pt_cmpR (isB_op neg) ha pe_bl hm) fun σ H Q ⟨ρ, I, q⟩ => ⟨ρ, I, ?_⟩
  rw [evT_un] at q
  refine LdG.bindB q fun y v H1 _ s1 r1 q1 => ?_
  show ∃ x y', v = .bl x ∧ V.bl b = .bl y' ∧ ∃ k, V.bl _ = .bl k ∧ Q k H1
  cases hy : unD (isBo neg b) y with
  | ok d =>
    obtain ⟨z, rfl, rfl⟩ := isBo_rd hy
    rw [hy] at q1
    cases r1.bl_of
    exact ⟨z, b, rfl, rfl, _, rfl, q1 H1 (Sm.refl H1)⟩
  | err cc fs => exact (isBo_ne _ _ hy).elim
  | stuck => rw [hy] at q1; exact q1.elim
theorem st_stk {e : Expr} : ST' g O H0 xi W T X e (.of .stk) := ⟨fun pins s σ H Q I ⟨ρ, _, q⟩ => q.elim⟩
theorem ss_stk {st : Stmt} : SS g O H0 xi W T X st .stk := PS.by' ps_never fun D σ H ⟨ρ, I, q⟩ => q
end
end Ev
end
section
set_option Elab.async false
set_option linter.all false
set_option maxRecDepth 100000
set_option maxHeartbeats 2000000
namespace Ev
variable [Nm]
open PySem PySem.Spec PyProof.Rows L2
def LdVF (K : PySem.W.Frag) (O : Addr → Prop) (H : Hp) (r : R D) (Q : VK) : Prop := match r with
  | .ok d => ∃ ds, d = .lst ds ∧ ∀ p vs, H p = none → Reps K O H vs ds → ds.length ≤ 16777216 → Q (.ref p) (upd H p (.lst vs))
  | _ => False
def rBinF (K : PySem.W.Frag) (o : Op2) : R2 := fun x y H Q => ∃ O dx dy, RepB K O H x dx ∧ RepB K O H y dy ∧ (∃ xs, dx = .lst xs) ∧ LdVF K O H (binD o dx dy) Q
section
variable {X : Cx}
theorem of_add : OpR X (binaryOp .Add) (rBinF X.K .add) := by
  intro pins s σ H x y v u Q I rx ry h
  obtain ⟨O, dx, dy, hx, hy, ⟨xs, rfl⟩, q⟩ := h
  cases dy <;> try (simp only [binD, LdVF] at q; done)
  obtain ⟨a, vs, rfl, sa, ra⟩ := hx.lst_of
  obtain ⟨b, ws, rfl, sb, rb⟩ := hy.lst_of
  simp only [binD] at q
  split at q
  · rename_i hl
    obtain ⟨ds, e, q⟩ := q
    cases e
    refine op_cat pins s σ H _ _ v u Q I rx ry ⟨a, b, vs, ws, rfl, rfl, sa, sb, by rw [ra.length, rb.length, sizeLine_eq]; exact hl, fun p hp => ?_⟩
    exact q p _ hp (ra.app rb) (by rw [List.length_append]; exact hl)
  · exact q.elim
theorem of_mul : OpR X (binaryOp .Mult) (rBinF X.K .mul) := by
  intro pins s σ H x y v u Q I rx ry h
  obtain ⟨O, dx, dy, hx, hy, ⟨xs, rfl⟩, q⟩ := h
  cases dy <;> try (simp only [binD, LdVF] at q; done)
  obtain ⟨a, vs, rfl, sa, ra⟩ := hx.lst_of
  cases hy.int_of
  simp only [binD] at q
  split at q
  · rename_i hl
    obtain ⟨ds, e, q⟩ := q
    cases e
    obtain ⟨h1, h2, h3⟩ := hl
    refine op_rep pins s σ H _ _ v u Q I rx ry ⟨a, _, vs, rfl, rfl, sa, h1, h2, by rw [ra.length, sizeLine_eq]; exact h3, fun p hp => ?_⟩
    exact q p _ hp (ra.flat _) (by unfold repL; rw [PyProof.Rows.lm_len_rep_flat, Nat.mul_comm]; exact h3)
  · exact q.elim
theorem cf_list : CallR X (.type "list") (fun xs H Q => ∃ O ds, RepBs X.K O H xs ds ∧ LdVF X.K O H (biD .list ds) Q) := by
  intro pins s σ H xs us Q I r h
  obtain ⟨O, ds, hx, q⟩ := h
  match ds, hx, q with
  | [.tup x], hx, q =>
    obtain ⟨v, rfl, h1⟩ := hx.one
    obtain ⟨a, vs, rfl, sa, ra⟩ := h1.tup_of
    obtain ⟨ds, e, q⟩ := q
    cases e
    exact call_list_of pins s σ H _ us Q I r ⟨a, vs, rfl, .inr sa.sq, fun l hl => q l _ hl ra h1.tupL⟩
  | [.lst x], hx, q =>
    obtain ⟨v, rfl, h1⟩ := hx.one
    obtain ⟨a, vs, rfl, sa, ra⟩ := h1.lst_of
    obtain ⟨ds, e, q⟩ := q
    cases e
    exact call_list_of pins s σ H _ us Q I r ⟨a, vs, rfl, .inl (SqL.of sa), fun l hl => q l _ hl ra h1.lstL⟩
end
section
variable {g : Cfg} {O : Addr → Prop} {H0 : Hp} {xi : Option XI} {W : WX} {X : Cx} {T : Tb} {k : Nat} {N : List Str} {sc : Scope} {fb : Str → Bool} {OO : Addr → Prop} {σ : St} {H H' : Hp} {ρ : Rho} {Q S : VK}
theorem LdF.more {r : R D} (h : LdF g W OO σ H r Q) (s : Sm H H') : LdF g W OO σ H' r Q := by
  cases r with
  | ok d => exact fun p vs xs H2 e s2 hp e2 r l => h p vs xs H2 e (s.trans s2) (by
      cases hq : H p with
      | none => rfl
      | some o =>
        obtain ⟨o', eq'⟩ := s.some hq
        rw [eq'] at hp; cases hp) e2 r l
  | err c fs => exact fun d H2 s2 x => h d H2 (s.trans s2) x
  | stuck => exact h
theorem LdF.bindB {r : R D} {bb : Bool} {k : D → R D} (h : LdF g W OO σ H (r >>= k) Q) (c : ∀ x v H1, r = .ok x → Sm H H1 → RepB g.K OO H1 v x → LdF g W OO σ H1 (k x) Q → S v H1) : LdB g W OO σ H r bb S := by
  cases r with
  | ok d => exact fun v H2 s2 r _ => c d v H2 rfl s2 r (LdF.more h s2)
  | err c fs => exact h
  | stuck => exact h
theorem LdF.bindGm {α : Type} {r : R α} {k : α → R D} {S' : α → Hp → Prop} (h : LdF g W OO σ H (r >>= k) Q) (c : ∀ a H1, r = .ok a → Sm H H1 → LdF g W OO σ H1 (k a) Q → S' a H1) : LdG g W OO σ H r S' := by
  cases r with
  | ok a => exact fun H1 s => c a H1 rfl s (LdF.more h s)
  | err k fs => exact h
  | stuck => exact h
theorem LdF.vf {ds : List D} (h : LdF g W OO σ H (.ok (.lst ds)) Q) : LdVF g.K OO H (.ok (.lst ds)) Q :=
  ⟨ds, rfl, fun p vs hp r l => h p vs ds _ rfl (same_upd hp) hp upd_same ((r.more hp).gro (Gro.of (same_upd hp))) l⟩
theorem f_bin {op : Operator} {o : Op2} {a b : Expr} {ca cb : CE} {pos : Pos} (ho : OpR X (binaryOp op) (rBinF g.K o)) (ha : SB g O H0 xi W T X a ca) (hb : SB g O H0 xi W T X b cb) (hl : ∀ ρ x, evB T ca ρ = .ok x → ∃ xs, x = .lst xs) (hr : ∀ xs y d, binD o (.lst xs) y = .ok d → ∃ ds, d = .lst ds) : SF g O H0 xi W T X (.BinOp a op b pos) (.bin o ca cb) :=
  PE.by' (pe_op ho ha hb) fun σ H Q ⟨ρ, I, q⟩ => ⟨ρ, I, LdF.bindB q fun x v H1 ex s1 r1 q1 => ⟨ρ, I.more s1, LdF.bindB q1 fun y u H2 _ s2 r2 q2 => by
    obtain ⟨xs, rfl⟩ := hl ρ x ex
    refine ⟨_, _, y, r1.gro s2, r2, ⟨xs, rfl⟩, ?_⟩
    cases h3 : binD o (.lst xs) y with
    | ok d =>
      obtain ⟨ds, rfl⟩ := hr xs y d h3
      rw [h3] at q2
      exact q2.vf
    | err c fs => exact (binD_ne _ _ h3).elim
    | stuck => rw [h3] at q2; exact q2⟩⟩
theorem lst_out {cs : List CE} {ρ : Rho} {x : D} (e : evB T (.lst cs) ρ = .ok x) : ∃ xs, x = .lst xs := by
  have e' : (evEs T cs ρ >>= fun ds => (pure (.lst ds) : R D)) = .ok x := e
  cases h : evEs T cs ρ with
  | ok ds => rw [h] at e'; cases e'; exact ⟨ds, rfl⟩
  | err c fs => rw [h] at e'; cases e'
  | stuck => rw [h] at e'; cases e'
theorem add_out (xs : List D) (y d : D) (h : binD .add (.lst xs) y = .ok d) : ∃ ds, d = .lst ds := by
  cases y <;> simp only [binD] at h <;> first | (cases h; done) | skip
  split at h
  · cases h; exact ⟨_, rfl⟩
  · cases h
theorem mul_out (xs : List D) (y d : D) (h : binD .mul (.lst xs) y = .ok d) : ∃ ds, d = .lst ds := by
  cases y <;> simp only [binD] at h <;> first | (cases h; done) | skip
  split at h
  · cases h; exact ⟨_, rfl⟩
  · cases h
theorem list_out {ds : List D} {d : D} (h : biD .list ds = .ok d) : ∃ xs, d = .lst xs := by
  cases ds with
  | nil => cases h
  | cons a r =>
    cases r with
    | nil => cases a <;> first | (cases h; done) | (cases h; exact ⟨_, rfl⟩)
    | cons b r => cases a <;> cases b <;> first | (cases h; done) | (cases r <;> cases h)
theorem u_fmul (C : Sc g T k W N sc fb X) {es : List Expr} {b : Expr} {cs : List CE} {cb : CE} {lp pos : Pos} (ha : SB g O H0 xi W T X (.List es lp) (.lst cs)) (hb : SB g O H0 xi W T X b cb) : SF g O H0 xi W T X (.BinOp (.List es lp) .Mult b pos) (.bin .mul (.lst cs) cb) :=
  f_bin (by rw [← C.K]; exact of_mul) ha hb (fun ρ x e => lst_out e) mul_out
theorem u_flist (C : Sc g T k W N sc fb X) {e : Expr} {c : CE} {p pos : Pos} (hx : bltB sc "list" = true) (h : SAB g O H0 xi W T X [e] [c]) (hs : notStar e = true) : SF g O H0 xi W T X (.Call (.Name "list" p) [e] [] pos) (.bi .list [c]) := by
  obtain ⟨h1, h2, h3, h4⟩ := C.blt hx
  cases hh : (T.hot && !BI.hot .list) with
  | true =>
    exact PE.by' PE.stk fun σ H Q ⟨ρ, I, q⟩ => by
      simp only [evE] at q
      rw [if_pos hh] at q
      exact q
  | false => exact PE.by' (pe_callTy cf_list h1 h2 (by rfl) h h3 h4 (star_cons hs) (back_any (by rfl))) fun σ H Q ⟨ρ, I, q⟩ => ⟨ρ, I, by
    simp only [evE] at q
    rw [if_neg (by rw [hh]; decide)] at q
    exact LdF.bindGm q fun ds H1 _ s1 q1 vs r => ⟨_, ds, by rw [C.K]; exact r, by
      cases h3 : biD .list ds with
      | ok d =>
        rw [h3] at q1
        obtain ⟨xs, rfl⟩ := list_out h3
        rw [C.K]
        exact q1.vf
      | err c fs => exact (biD_ne _ _ h3).elim
      | stuck => rw [h3] at q1; exact q1⟩⟩
theorem f_rngL {e : Expr} {te : St → Hp → (Int → Int → Hp → Prop) → Prop} {lo hi : CE} {p pos : Pos} (hc : T.hot = false → X.calm = true) (hg : Gl X "list") (hm : X.mg "list" = none) (he : PRg X e te) (hs : notStar e = true)
    (ht : ∀ σ H Q, (∃ ρ, EI g O H0 xi σ H ρ ∧ LdG g W (Own O σ ρ) σ H (do
      let x ← evE T lo ρ
      let y ← evE T hi ρ
      match x, y with
      | .int i, .int j => pure (i, j)
      | _, _ => .stuck) (fun p H' => Q p.1 p.2 H')) → te σ H Q) : SF g O H0 xi W T X (.Call (.Name "list" p) [e] [] pos) (.rngL false lo hi) := by
  cases hh : T.hot with
  | true =>
    exact PE.by' PE.stk fun σ H Q ⟨ρ, I, q⟩ => by
      simp only [evE] at q
      rw [if_pos hh] at q
      exact q
  | false =>
  have hc := hc hh
  exact PE.by' (pe_listRg hc hg hm he (star_cons hs)) fun σ H Q ⟨ρ, I, q⟩ => by
    refine ht σ H _ ⟨ρ, I, ?_⟩
    simp only [evE] at q
    rw [if_neg (by rw [hh]; decide)] at q
    cases h1 : evE T lo ρ with
    | err c fs => rw [h1] at q; exact q
    | stuck => rw [h1] at q; exact q
    | ok x =>
      rw [h1] at q
      simp only [ok_bind] at q ⊢
      cases h2 : evE T hi ρ with
      | err c fs => rw [h2] at q; exact q
      | stuck => rw [h2] at q; exact q
      | ok y =>
        rw [h2] at q
        simp only [ok_bind] at q ⊢
        cases x <;> cases y <;> try exact q
        rename_i i j
        simp only at q ⊢
        intro H' s
        by_cases hk : (rngOk i j && decide ((j - i).toNat ≤ 16777216)) = true
        · rw [if_pos hk] at q
          refine ⟨rngOk_is hk, fun a ha => ?_⟩
          exact LdF.more (H' := H') q s a _ _ _ rfl (same_upd ha) ha upd_same (rng_reps i j) (by simpa [Ev.rngL] using (rngOk_is hk).2.2.2.2)
        · rw [if_neg hk] at q
          exact q.elim
theorem u_frng1 (C : Sc g T k W N sc fb X) {e : Expr} {c : CE} {p p2 pos pos2 : Pos} (hb : bltB sc "list" = true) (hr : bltB sc "range" = true) (h : SE g O H0 xi W T X e c) (hs : notStar e = true) :
    SF g O H0 xi W T X (.Call (.Name "list" p) [.Call (.Name "range" p2) [e] [] pos2] [] pos) (.rngL false (.cst (.int 0)) c) :=
  let ⟨h1, h2, _, _⟩ := C.blt hb
  let ⟨r1, r2, _, _⟩ := C.blt hr
  f_rngL (fun hh => (C.md.cold hh).1) h1 h2 (prg_1 r1 r2 h (star_cons hs)) rfl fun σ H Q ⟨ρ, I, q⟩ => ⟨ρ, I, by
    simp only [evE, ok_bind] at q
    exact LdG.bindE q fun x v H1 _ s r q1 => by
      cases x <;> first | exact q1.elim | skip
      cases r
      exact ⟨_, rfl, q1 H1 (Sm.refl H1)⟩⟩
theorem own_two {i j : Nat} {xs ys : List D} {a b : Addr} (I : EI g O H0 xi σ H ρ) (hi : ρ[i]? = some (.own xs)) (hj : ρ[j]? = some (.own ys)) (si : σ[i]? = some (some (.ref a))) (sj : σ[j]? = some (some (.ref b))) (ne : i ≠ j) : a ≠ b := fun e => by
  subst e
  exact ne (I.inj i j xs ys a hi hj si sj)
theorem evO_on {c : CE} {ρ : Rho} {f : Option Int → RS} : (evO T (some c) ρ).on ρ f = (evE T c ρ).on ρ fun x => match x with
    | .int i => f (some i)
    | _ => .stuck := by
  show (evE T c ρ >>= fun x => (match x with
    | .int i => pure (some i)
    | _ => .stuck : R (Option Int))).on ρ f = _
  cases evE T c ρ with
  | ok x => cases x <;> rfl
  | err c fs => rfl
  | stuck => rfl
theorem ixD_seq {n : Nat} {i : Int} {j : Nat} (h : ixD n i = some j) (hn : n ≤ 16777216) : seqIndex? i n = some j ∧ -(2 ^ 63) ≤ i ∧ i < 2 ^ 63 := by
  obtain ⟨h1, h2, h3, h4⟩ := ixN_seq (show ixN n i = some j from h)
  exact ⟨h1, by omega, by omega⟩
theorem ss_popApp {i t : Nat} {x y : Str} {e : Expr} {c : CE} {pos cpos apos p cpos2 apos2 p2 : Pos} (hN : X.N[t]? = some x) (hv : Vis X.env.scope x) (hd : (x == ("__debug__" : Str)) = false) (hcd : (x == ("__classdict__" : Str)) = false)
    (hN2 : X.N[i]? = some y) (hv2 : Vis X.env.scope y) (hd2 : (y == ("__debug__" : Str)) = false) (hcd2 : (y == ("__classdict__" : Str)) = false) (h : SE g O H0 xi W T X e c) (hst : notStar e = true)
    (hbase : attributeBase (.Name x p) "append" X.env (eval (.Name x p) X.env) = eval (.Name x p) X.env)
    (hfew : ((backTo cpos (starEach [.Call (.Attribute (.Name y p2) "pop" apos2) [e] [] cpos2] X.env)).all (fun x => !x.1) && (backToKw cpos (keywordEach [] X.env)).all (fun x => x.1.isSome) && decide (([.Call (.Attribute (.Name y p2) "pop" apos2) [e] [] cpos2] : List Expr).length + ([] : List Keyword).length + (if ([] : List Keyword).isEmpty then 0 else 1) < 30)) = true)
    (hline : (apos.endLine == cpos.line) = true)
    (hbase2 : attributeBase (.Name y p2) "pop" X.env (eval (.Name y p2) X.env) = eval (.Name y p2) X.env)
    (hfew2 : ((backTo cpos2 (starEach [e] X.env)).all (fun x => !x.1) && (backToKw cpos2 (keywordEach [] X.env)).all (fun x => x.1.isSome) && decide ([e].length + ([] : List Keyword).length + (if ([] : List Keyword).isEmpty then 0 else 1) < 30)) = true)
    (hline2 : (apos2.endLine == cpos2.line) = true) (hs : swapsWith (.Call (.Attribute (.Name x p) "append" apos) [.Call (.Attribute (.Name y p2) "pop" apos2) [e] [] cpos2] [] cpos) none pos.line X.env = pure false) :
    SS g O H0 xi W T X (.Expr (.Call (.Attribute (.Name x p) "append" apos) [.Call (.Attribute (.Name y p2) "pop" apos2) [e] [] cpos2] [] cpos) pos) (.pop i (some c) (.app t)) :=
  PS.by' (ps_expr (pe_bm PySem.F.plainAttrs_list PySem.F.slot_list_append PySem.F.type_list_append mt_append (pe_var hN hv hd hcd) (pa_cons (pe_bm PySem.F.plainAttrs_list PySem.F.slot_list_pop PySem.F.type_list_pop mt_popAt (pe_var hN2 hv2 hd2 hcd2) (pa_cons h pa_nil (star_cons hst)) hbase2 hfew2 hline2 (star_cons hst) rfl) pa_nil rfl) hbase hfew hline rfl rfl) hs) fun D σ H ⟨ρ, I, q⟩ => by
    simp only [evS] at q
    by_cases hp : popOk ρ i (.app t) = false
    · rw [if_pos hp] at q; exact q.elim
    rw [if_neg hp] at q
    have hp' : popOk ρ i (.app t) = true := by simpa using hp
    unfold popOk at hp'
    rw [Bool.and_eq_true, decide_eq_true_eq] at hp'
    obtain ⟨ho, ne⟩ := hp'
    have ht : ∃ ys, ρ[t]? = some (.own ys) := by
      unfold isOwn at ho
      split at ho
      · rename_i ys e; exact ⟨ys, e⟩
      · cases ho
    obtain ⟨ys, ht⟩ := ht
    cases hr : ρ[i]? with
    | none => rw [hr] at q; exact q.elim
    | some sl =>
      rw [hr] at q
      cases sl with
      | own xs =>
        obtain ⟨a, vs, h1, h2, h3, h4, h5⟩ := I.own i xs hr
        obtain ⟨b, ws, k1, k2, k3, k4, k5⟩ := I.own t ys ht
        have nab : a ≠ b := own_two I hr ht h1 k1 (Ne.symm ne)
        simp only [evO_on] at q
        refine ⟨.ref b, k1, .inl ⟨rfl, ws, SqL.of k2⟩, .ref a, h1, .inl ⟨rfl, vs, SqL.of h2⟩, ρ, I, LdS.onE I q fun d v H1 _ s r q1 => ?_⟩
        cases d with
        | int z =>
          cases r
          simp only [Option.getD_some] at q1
          cases hx : ixD xs.length z with
          | none => rw [hx] at q1; exact q1.elim
          | some j =>
            rw [hx] at q1
            simp only at q1
            cases hj : xs[j]? with
            | none => rw [hj] at q1; exact q1.elim
            | some d =>
              rw [hj] at q1
              simp only [ht] at q1
              by_cases hl : t ≠ i ∧ ys.length < 16777216
              · rw [if_pos hl] at q1
                have I1 := I.more s
                have h4' := h4.gro (Gro.of s)
                obtain ⟨v, hv, rv⟩ := h4'.getD hj
                obtain ⟨s1, s2, s3⟩ := ixD_seq hx h5
                obtain ⟨J, ad, ow⟩ := I1.ownUpd hr h1 (s _ _ h2 (fun _ z => nomatch z)) h3 (Reps.erase j h4') (show (xs.eraseIdx j).length ≤ 16777216 by have := List.length_eraseIdx_le (l := xs) (i := j); omega)
                have ht2 : (ρ.set i (.own (xs.eraseIdx j)))[t]? = some (.own ys) := by rw [List.getElem?_set_ne (Ne.symm ne)]; exact ht
                have kb : upd H1 a (.lst (vs.eraseIdx j)) b = some (.lst ws) := by rw [upd_ne (Ne.symm nab)]; exact s _ _ k2 (fun _ z => nomatch z)
                obtain ⟨b', ws', m1, m2, m3, m4, m5⟩ := J.own t ys ht2
                rw [k1] at m1
                cases m1
                rw [kb] at m2
                cases m2
                have rv2 : Rep g.K (Own O σ (ρ.set i (.own (xs.eraseIdx j)))) (upd H1 a (.lst (vs.eraseIdx j))) v d := (rv.less fun b z => (ow b).mp z).gro (by
                  intro c o e nt
                  rcases ad.gro c o e nt with z | ⟨z1, z2⟩
                  · exact .inl z
                  · exact .inr ⟨(ow c).mpr z1, z2⟩)
                obtain ⟨J2, ad2, _⟩ := J.ownUpd ht2 k1 kb k3 (Reps.app m4 (.cons rv2 .nil)) (show (ys ++ [d]).length ≤ 16777216 by simp; omega)
                exact ⟨a, vs, z, j, v, rfl, rfl, s _ _ h2 (fun _ z => nomatch z), s2, s3, by rw [h4.length]; exact s1, hv, b, ws, v, rfl, rfl, kb, by rw [k4.length, sizeLine_eq]; exact hl.2, q1 σ _ J2 (ad.trans ad2)⟩
              · rw [if_neg hl] at q1; exact q1.elim
        | _ => exact q1.elim
      | _ => exact q.elim
theorem u_popApp (C : Sc g T k W N sc fb X) (i t : Nat) {x y : Str} {e : Expr} {c : CE} {pos cpos apos p cpos2 apos2 p2 : Pos} (hx : rdB N sc t x = true) (hy : rdB N sc i y = true) (h : SE g O H0 xi W T X e c) (hst : notStar e = true)
    (hbase : attributeBase (.Name x p) "append" X.env (eval (.Name x p) X.env) = eval (.Name x p) X.env)
    (hfew : ((backTo cpos (starEach [.Call (.Attribute (.Name y p2) "pop" apos2) [e] [] cpos2] X.env)).all (fun x => !x.1) && (backToKw cpos (keywordEach [] X.env)).all (fun x => x.1.isSome) && decide (([.Call (.Attribute (.Name y p2) "pop" apos2) [e] [] cpos2] : List Expr).length + ([] : List Keyword).length + (if ([] : List Keyword).isEmpty then 0 else 1) < 30)) = true)
    (hline : (apos.endLine == cpos.line) = true)
    (hbase2 : attributeBase (.Name y p2) "pop" X.env (eval (.Name y p2) X.env) = eval (.Name y p2) X.env)
    (hfew2 : ((backTo cpos2 (starEach [e] X.env)).all (fun x => !x.1) && (backToKw cpos2 (keywordEach [] X.env)).all (fun x => x.1.isSome) && decide ([e].length + ([] : List Keyword).length + (if ([] : List Keyword).isEmpty then 0 else 1) < 30)) = true)
    (hline2 : (apos2.endLine == cpos2.line) = true) (hs : swapsWith (.Call (.Attribute (.Name x p) "append" apos) [.Call (.Attribute (.Name y p2) "pop" apos2) [e] [] cpos2] [] cpos) none pos.line X.env = pure false) :
    SS g O H0 xi W T X (.Expr (.Call (.Attribute (.Name x p) "append" apos) [.Call (.Attribute (.Name y p2) "pop" apos2) [e] [] cpos2] [] cpos) pos) (.pop i (some c) (.app t)) :=
  let ⟨h1, h2, h3, h4⟩ := C.rd hx
  let ⟨k1, k2, k3, k4⟩ := C.rd hy
  ss_popApp h1 h2 h3 h4 k1 k2 k3 k4 h hst hbase hfew hline hbase2 hfew2 hline2 hs
theorem u_seti (C : Sc g T k W N sc fb X) (i : Nat) {x : Str} {ke e : Expr} {ck c : CE} {pos p tpos : Pos} (hx : rdB N sc i x = true) (hk : SE g O H0 xi W T X ke ck) (h : SE g O H0 xi W T X e c)
    (ha : ∀ v, assign (.Subscript (.Name x p) ke tpos) X.env v = (do
      let ov ← holding [v] (eval (.Name x p) X.env)
      let iv ← holding [v, ov] (eval ke X.env)
      standAt tpos
      holding [v, ov, iv] (setItem ov iv v)
      release [v, ov, iv] []))
    (hs : swapsWithSole [.Subscript (.Name x p) ke tpos] e pos.line X.env = pure false) (hw : swappedStores [.Subscript (.Name x p) ke tpos] e X.env = pure none)
    (h1 : (assignEach [.Subscript (.Name x p) ke tpos] X.env).map (·.2) = [assign (.Subscript (.Name x p) ke tpos) X.env]) : SS g O H0 xi W T X (.Assign [.Subscript (.Name x p) ke tpos] e pos) (.seti i ck c) :=
  let ⟨h1', h2, h3, h4⟩ := C.rd hx
  ss_seti h1' h2 h3 h4 hk h hs hw (pg_sub (pe_var h1' h2 h3 h4) hk set_list ha) h1
section
open SrtO
variable {prog : Program} {w : World} {A : Around} {E : Value → Shared → Prop} {s : Shared}
abbrev hCol (h : Heap) (vs : List Value) : Heap := (h.push (seqObj "list" #[] 0)).update h.objs.size (Obj.mapSeq (· ++ vs.toArray))
abbrev hCol2 (h : Heap) (vs : List Value) : Heap := (hCol h vs).push (seqObj "list" vs.toArray 0)
theorem hCol_sz (h : Heap) (vs : List Value) : (hCol h vs).objs.size = h.objs.size + 1 := by rw [Heap.size_update, size_push']
theorem hCol2_new (h : Heap) (vs : List Value) : (hCol2 h vs).get? (h.objs.size + 1) = some (seqObj "list" vs.toArray 0) :=
  (congrArg (fun n => (hCol2 h vs).get? n) (hCol_sz h vs).symm).trans (Heap.get?_push_size _ rfl)
theorem hCol2_old {h : Heap} {b : Addr} {o : Obj} (vs : List Value) (q : h.get? b = some o) : b ≠ h.objs.size + 1 ∧ (hCol2 h vs).get? b = some o :=
  have lt : b < h.objs.size := Heap.lt_size q
  ⟨fun e => Nat.lt_irrefl _ (Nat.lt_of_lt_of_le (e ▸ lt : h.objs.size + 1 < h.objs.size) (Nat.le_succ _)), Heap.get?_push_of_some _ ((Heap.get?_update_ne _ _ _ _ fun e => Nat.lt_irrefl _ (e ▸ lt)).trans (Heap.get?_push_of_some _ q))⟩
theorem sortedT_kw {l : Addr} {vs : List Value} {b : Bool} {kw : List (Str × Value)} {ltv : Value → Value → Bool} {Q : Value → Shared → Prop} (hk : ∀ a, Builtin.«list.sort» ⟨[.ref a], kw⟩ = Builtin.«list.sort» ⟨[.ref a], [("reverse", .bool b)]⟩)
    (g1 : argsOk "sorted" ⟨[.ref l], kw⟩) (g2 : ∀ a, argsOk "list.sort" ⟨[a], kw⟩) (O : Swo ltv) (hl : IsTup s.heap l vs.toArray) (hz : vs.length ≤ sizeLine)
    (hS : 2 ≤ vs.length → ∀ h₁ : Heap, ∀ a : Addr, SortableO prog w A.in1.in1 { s with heap := h₁ } a vs ltv)
    (h : ∀ out : List Value, Srtd ltv out → Stb ltv out (if b = true then vs.reverse else vs) → Q (.ref (s.heap.objs.size + 1)) { s with heap := sortedAll s.heap vs (if b = true then out.toArray.reverse else out.toArray) }) :
    wpAny (model prog w) A (call (.builtin "sorted") [.ref l] kw) Q E s := by
  refine call_function_entry_kw kind_sorted plain_sorted entry_sorted g1 ?_
  unfold Builtin.«sorted»
  refine wpAny_bind (m := checkCount "sorted" 1 1 _) (wpAny_pure (wpAny_bind (collect_tup hl (wpAny_bind (wpAny_newList ?_ hz)) hz)))
  show wpAny _ _ _ _ _ { s with heap := hCol2 s.heap vs }
  rw [hCol_sz]
  refine wpAny_bind (wpAny_holding (wpAny_call_entry_kw slot_list_sort ⟨_, hCol2_new s.heap vs, rfl⟩ entry_list_sort ?_ (g2 _)))
  rw [hk]
  exact SrtR.list_sort_ordR O (hCol2_new s.heap vs) hz (fun h2 => hS h2 _ _) fun out hs hb => ⟨_, rfl, wpAny_pure ⟨_, rfl, h out hs hb⟩⟩
end
theorem cr_sortedTRev : CallRK X (.builtin "sorted") [Str.ofString "reverse"] (fun vs zs H Q => ∃ (a : Addr) (ns : List Int), vs = [V.ref a] ∧ zs = [.bl true] ∧ SqT X.K H a (ns.map V.int) ∧
    ∀ (ns' : List Int) (p : Addr), ns'.Perm ns → OrdB true ns' → H p = none → Q (.ref p) (upd H p (.lst (ns'.map V.int)))) := by
  intro pins s σ H vs zs us ws Q I r rz h
  obtain ⟨a, ns, rfl, rfl, hs, q⟩ := h
  obtain rfl := Vals.ref1 r
  obtain ⟨w1, rfl, e1⟩ := vals1 rz
  obtain rfl : w1 = Value.bool true := e1
  obtain ⟨its, rv, hl, hz⟩ := I.tuple hs
  have hi := rv.ints
  refine sortedT_kw (b := true) (fun _ => rfl) (PyProof.Rows.args_sorted_rev _ _) (fun _ => PyProof.Rows.args_list_sort_rev _ _) SrtO.swo_int hl (by rw [← rv.length]; exact hz) (fun h2 h₁ a' => SrtO.ints_sortable hi h2) fun out h1 h2 => ?_
  obtain ⟨ns', k1, k2, k3⟩ := SrtR.ints_outR hi h1 h2
  obtain ⟨ep, he'⟩ := PyProof.Rows.sortedAll_at s.heap its out.toArray.reverse
  have hlen : (ns'.map V.int).length ≤ sizeLine := by
    rw [List.length_map, k2.length_eq]
    rw [List.length_map] at hz
    exact hz
  exact ⟨.ref _, upd H (s.heap.objs.size + 1) (.lst (ns'.map V.int)), I.laid (t' := s.toks) (fun _ _ => PyProof.Rows.sortedAll_old) (Nat.le_succ _) ⟨hlen, _, ep, vals_of_ints k1, by rw [if_pos rfl, Array.toArray_toList]; exact he'⟩, rfl, q _ _ k2 k3 (I.hok.fresh (Nat.le_succ _))⟩
theorem cr_sortR : CallRK X (.builtin "sorted") ["reverse"] (fun vs zs H Q => zs = [.bl true] ∧ ∃ O ds, Trk O H ∧ RepBs X.K O H vs ds ∧ LdV X.K O H (biD .sortedR ds) Q) := by
  intro pins s σ H xs zs us ws Q I r rz h
  obtain ⟨ez, O, ds, t, hx, q⟩ := h
  match ds, hx, q with
  | [.lst x], hx, q =>
    obtain ⟨v, rfl, h1⟩ := hx.one
    obtain ⟨a, vs, rfl, sa, ra⟩ := h1.lst_of
    simp only [biD] at q
    split at q
    · rename_i r' e
      have ev := ra.of_ints e
      subst ev
      refine cr_sortedRev (b := true) pins s σ H _ zs us ws Q I r rz ⟨a, _, rfl, ez, SqL.of sa, fun ns' p pe so hp => ?_⟩
      have so' : ns'.Pairwise (· ≥ ·) := so
      have e2 : ns'.reverse = sortI r' := sortI_is ((List.reverse_perm _).trans pe) (by rw [List.pairwise_reverse]; exact so')
      have e3 : ns' = (sortI r').reverse := by rw [← e2, List.reverse_reverse]
      subst e3
      exact q.lst t (by rw [List.length_map, List.length_reverse, ((sortI_perm _).length_eq)]; have := h1.lstL; rw [← ra.length] at this; simpa using this) (Reps.ints _) hp
    · exact q.elim
  | [.tup x], hx, q =>
    obtain ⟨v, rfl, h1⟩ := hx.one
    obtain ⟨a, vs, rfl, sa, ra⟩ := h1.tup_of
    simp only [biD] at q
    split at q
    · rename_i r' e
      have ev := ra.of_ints e
      subst ev
      refine cr_sortedTRev pins s σ H _ zs us ws Q I r rz ⟨a, _, rfl, ez, sa.sq, fun ns' p pe so hp => ?_⟩
      have so' : ns'.Pairwise (· ≥ ·) := so
      have e2 : ns'.reverse = sortI r' := sortI_is ((List.reverse_perm _).trans pe) (by rw [List.pairwise_reverse]; exact so')
      have e3 : ns' = (sortI r').reverse := by rw [← e2, List.reverse_reverse]
      subst e3
      exact q.lst t (by rw [List.length_map, List.length_reverse, ((sortI_perm _).length_eq)]; have := h1.tupL; rw [← ra.length] at this; simpa using this) (Reps.ints _) hp
    · exact q.elim
theorem u_sortR (C : Sc g T k W N sc fb X) {e : Expr} {c : CE} {j : Nat} {p kp kp2 pos : Pos} {nm : Option Str} (hx : bltB sc "sorted" = true) (h : SAB g O H0 xi W T X [e] [c])
    (he : backTo pos (starEach [e] X.env) = (false, eval e X.env) :: backTo pos (starEach [] X.env)) (hpl : (backTo pos (starEach [e] X.env)).any (·.1) = false)
    (hall : (backToKw pos (keywordEach [⟨nm, .Constant (.bool true) j kp2, kp⟩] X.env)).all (·.1.isSome) = true) (hnone : (backToKw pos (keywordEach [⟨nm, .Constant (.bool true) j kp2, kp⟩] X.env)).any (·.1.isNone) = false) (hks : (backToKw pos (keywordEach [⟨nm, .Constant (.bool true) j kp2, kp⟩] X.env)).filterMap (·.1) = (["reverse"] : List Str)) :
    SE g O H0 xi W T X (.Call (.Name "sorted" p) [e] [⟨nm, .Constant (.bool true) j kp2, kp⟩] pos) (.bi .sortedR [c]) := by
  obtain ⟨h1, h2, h3, h4⟩ := C.blt hx
  cases hh : (T.hot && !BI.hot .sortedR) with
  | true =>
    exact PE.by' PE.stk fun σ H Q ⟨ρ, I, q⟩ => by
      simp only [evE] at q
      rw [if_pos hh] at q
      exact q
  | false => exact PE.by' (pe_callBK cr_sortR h1 h2 (by rfl) h (pk_cons pe_bl pk_nil) h3 h4 he hpl hall hnone hks) fun σ H Q ⟨ρ, I, q⟩ => ⟨ρ, I, by
    simp only [evE] at q
    rw [if_neg (by rw [hh]; decide)] at q
    exact LdE.bindG q fun ds H1 _ s1 q1 vs r => ⟨rfl, _, ds, I.trkO.same s1, by rw [C.K]; exact r, by rw [C.K]; exact LdE.v q1 biD_ne⟩⟩
end
end Ev
end
section
set_option Elab.async false
set_option linter.all false
set_option maxRecDepth 100000
set_option maxHeartbeats 4000000
namespace Ev
variable [Nm]
open PySem PySem.Spec PyProof.Rows L2
section
variable {g : Cfg} {T : Tb} {k : Nat} {W : WX} {N : List Str} {sc : Scope} {fb : Str → Bool} {X : Cx} {O : Addr → Prop} {H0 : Hp} {xi : Option XI}
theorem u_exv (C : Sc g T k W N sc fb X) {x : XI} (hx : XiAt g X x) (i : Nat) {nm cn : Str} {p p1 p2 pos : Pos} (h : rdB N sc i nm = true) (hb : bltB sc "isinstance" = true) (hg : bltB sc cn = true) (hv : bootBuiltins cn = some (.type "ValueError")) :
    SE g O H0 (some x) W T X (.Call (.Name "isinstance" p) [.Name nm p1, .Name cn p2] [] pos) (.exv i) := by
  obtain ⟨h1, h2, h3, h4⟩ := C.rd h
  obtain ⟨b1, b2, _, _⟩ := C.blt hb
  obtain ⟨g1, g2, g3, g4⟩ := C.blt hg
  exact s_exv C.K hx (C.pf.exf x.c) (C.pf.kv x.c) h1 h2 h3 h4 b1 b2 g1 g2 hv g3 g4
theorem wrL (C : Sc g T k W N sc fb X) {i : Nat} {x : Str} (h : wrB N sc (fun _ => false) i x = true) : X.N[i]? = some x ∧ X.env.scope.names.lookup x = some .local := by
  have z := wrB_is h
  rw [C.N, C.sc]
  exact ⟨z.1, z.2.2.elim (fun e => by cases e) id⟩
theorem u_par3 (C : Sc g T k W N sc fb X) (i j l : Nat) {x y z : Str} {a b c : Expr} {ca cb cc : CE} {px py pz pt pos : Pos} {kt k2 : Nat} {pt2 : Pos} (hij : i ≠ j) (hil : i ≠ l) (hjl : j ≠ l) (h1 : wrB N sc (fun _ => false) i x = true) (h2 : wrB N sc (fun _ => false) j y = true) (h3 : wrB N sc (fun _ => false) l z = true)
    (h : SA g O H0 xi W T X [a, b, c] [ca, cb, cc])
    (hw' : swappedStores [.Tuple [.Name x px, .Name y py, .Name z pz] kt pt] (.Tuple [a, b, c] k2 pt2) { X.env with scope := sc } = pure (some [x, y, z]))
    (hs : swapsWithSole [.Tuple [.Name x px, .Name y py, .Name z pz] kt pt] (.Tuple [a, b, c] k2 pt2) pos.line X.env = pure false) :
    SS g O H0 xi W T X (.Assign [.Tuple [.Name x px, .Name y py, .Name z pz] kt pt] (.Tuple [a, b, c] k2 pt2) pos) (.par [i, j, l] [ca, cb, cc]) := by
  obtain ⟨a1, a2⟩ := wrL C h1
  obtain ⟨b1, b2⟩ := wrL C h2
  obtain ⟨c1, c2⟩ := wrL C h3
  have hw : swappedStores [.Tuple [.Name x px, .Name y py, .Name z pz] kt pt] (.Tuple [a, b, c] k2 pt2) X.env = pure (some [x, y, z]) := by
    have e : { X.env with scope := sc } = X.env := by rw [← C.sc]
    rw [e] at hw'
    exact hw'
  have base : PS X (.Assign [.Tuple [.Name x px, .Name y py, .Name z pz] kt pt] (.Tuple [a, b, c] k2 pt2) pos) (tPar3 i j l (rA g O H0 xi W (evEs T [ca, cb, cc]))) := by
    cases hot : T.hot with
    | false => exact ps_par3 (C.md.cold hot).1 C.nd a1 b1 c1 hij hil hjl a2 b2 c2 h hw hs
    | true => exact ps_par3H (C.md.hot hot).1 C.nd a1 b1 c1 hij hil hjl a2 b2 c2 h hw hs
  refine PS.by' base fun D σ H ⟨ρ, I, q⟩ => ⟨ρ, I, ?_⟩
  simp only [evS] at q
  rw [if_neg (by simp)] at q
  refine LdS.onG I q fun ds H1 e s q1 vs r => ?_
  have len := evEs_len e
  match ds, vs, r, len, q1 with
  | [d1, d2, d3], [v1, v2, v3], .cons r1 (.cons r2 (.cons r3 .nil)), _, q1 =>
    have J := I.more s
    have J1 := J.set (i := i) r1
    have o1 := own_set (O := O) (i := i) (v := some v1) (s := .val d1) (fun _ h => nomatch h) I.len
    have J2 := J1.set (i := j) (r2.less o1)
    have o2 := own_set (O := O) (i := j) (v := some v2) (s := .val d2) (fun _ h => nomatch h) J1.len
    have J3 := J2.set (i := l) (r3.less fun a h => o1 a (o2 a h))
    have o3 := own_set (O := O) (i := l) (v := some v3) (s := .val d3) (fun _ h => nomatch h) J2.len
    exact ⟨v1, v2, v3, rfl, q1 _ H1 J3 (Adv.of (Sm.refl H1) fun a h => o1 a (o2 a (o3 a h)))⟩
end
section
variable {g : Cfg} {O : Addr → Prop} {H0 : Hp} {xi : Option XI} {W : WX} {X : Cx} {T : Tb} {k : Nat} {N : List Str} {sc : Scope} {fb : Str → Bool}
theorem f_bin2 {op : Operator} {o : Op2} {a b : Expr} {ca cb : CE} {pos : Pos} (ho : OpR X (binaryOp op) (rBinF g.K o)) (ha : SB g O H0 xi W T X a ca) (hb : SB g O H0 xi W T X b cb) (hr : ∀ ρ x y d, evB T cb ρ = .ok y → binD o x y = .ok d → ∃ xs ds, x = .lst xs ∧ d = .lst ds) : SF g O H0 xi W T X (.BinOp a op b pos) (.bin o ca cb) :=
  PE.by' (pe_op ho ha hb) fun σ H Q ⟨ρ, I, q⟩ => ⟨ρ, I, LdF.bindB q fun x v H1 ex s1 r1 q1 => ⟨ρ, I.more s1, LdF.bindB q1 fun y u H2 ey s2 r2 q2 => by
    cases h3 : binD o x y with
    | ok d =>
      obtain ⟨xs, ds, rfl, rfl⟩ := hr ρ x y d ey h3
      refine ⟨_, _, y, r1.gro s2, r2, ⟨xs, rfl⟩, ?_⟩
      rw [h3] at q2 ⊢
      exact q2.vf
    | err c fs => exact (binD_ne _ _ h3).elim
    | stuck => rw [h3] at q2; exact q2.elim⟩⟩
theorem add_out2 {x y d : D} {ys : List D} (e : y = .lst ys) (h : binD .add x y = .ok d) : ∃ xs ds, x = .lst xs ∧ d = .lst ds := by
  subst e
  cases x <;> simp only [binD] at h <;> first | (cases h; done) | skip
  split at h
  · cases h; exact ⟨_, _, rfl, rfl⟩
  · cases h
theorem mulB_out {cs : List CE} {cb : CE} {ρ : Rho} {y : D} (e : evB T (.bin .mul (.lst cs) cb) ρ = .ok y) : ∃ ys, y = .lst ys := by
  have e' : (evB T (.lst cs) ρ >>= fun x => evB T cb ρ >>= fun z => binD .mul x z) = .ok y := e
  cases h : evB T (.lst cs) ρ with
  | ok x =>
    obtain ⟨xs, rfl⟩ := lst_out h
    rw [h, ok_bind] at e'
    cases h2 : evB T cb ρ with
    | ok z => rw [h2, ok_bind] at e'; exact mul_out xs z y e'
    | err c fs => rw [h2] at e'; cases e'
    | stuck => rw [h2] at e'; cases e'
  | err c fs => rw [h] at e'; cases e'
  | stuck => rw [h] at e'; cases e'
theorem u_faddM (C : Sc g T k W N sc fb X) {a b : Expr} {ca cb : CE} {cs : List CE} {pos : Pos} (ha : SB g O H0 xi W T X a ca) (hb : SB g O H0 xi W T X b (.bin .mul (.lst cs) cb)) : SF g O H0 xi W T X (.BinOp a .Add b pos) (.bin .add ca (.bin .mul (.lst cs) cb)) :=
  f_bin2 (by rw [← C.K]; exact of_add) ha hb fun ρ x y d e h => let ⟨ys, e2⟩ := mulB_out e; add_out2 e2 h
theorem u_faddL (C : Sc g T k W N sc fb X) {a b : Expr} {ca : CE} {cs : List CE} {pos : Pos} (ha : SB g O H0 xi W T X a ca) (hb : SB g O H0 xi W T X b (.lst cs)) : SF g O H0 xi W T X (.BinOp a .Add b pos) (.bin .add ca (.lst cs)) :=
  f_bin2 (by rw [← C.K]; exact of_add) ha hb fun ρ x y d e h => let ⟨ys, e2⟩ := lst_out e; add_out2 e2 h
theorem u_faddR (C : Sc g T k W N sc fb X) {a b : Expr} {cb : CE} {cs : List CE} {pos : Pos} (ha : SB g O H0 xi W T X a (.lst cs)) (hb : SB g O H0 xi W T X b cb) : SF g O H0 xi W T X (.BinOp a .Add b pos) (.bin .add (.lst cs) cb) :=
  f_bin (by rw [← C.K]; exact of_add) ha hb (fun ρ x e => lst_out e) add_out
end
end Ev
end
section
set_option Elab.async false
set_option linter.all false
set_option maxRecDepth 100000
set_option maxHeartbeats 2000000
namespace Ev
variable [Nm]
open PySem PySem.Spec PyProof.Rows L2 PySem.W PySem.Calls
theorem fpI_is (n : Int) (k : Nat) : Builtin.Math.fallingProduct n k = fpI n k := rfl
theorem entry_comb : entryFor table "math.comb" = some Builtin.«math.comb» := entryFor_of_tree (by kernel_rfl)
theorem kind_comb : builtinKind "math.comb" = none := by kernel_rfl
theorem plain_comb : plainId "math.comb" = true := by decide +kernel
theorem args_comb (a b : Value) : argsOk "math.comb" ⟨[a, b], []⟩ := by unfold argsOk; kernel_rfl
theorem run_comb0 (a : Int) (t : Tok) (b : Int) (u : Tok) (h0 : ¬ a < 0) (h1 : ¬ b < 0) (h2 : b > a) : Gives (Builtin.«math.comb» ⟨[.int a t, .int b u], []⟩) (.int 0) :=
  .of_wp fun M A E s Q h => by obtain ⟨hp, g, d, tk, os⟩ := s; wp_walk; exact ⟨_, rfl, h⟩
theorem run_comb1 (a : Int) (t : Tok) (b : Int) (u : Tok) (h0 : ¬ a < 0) (h1 : ¬ b < 0) (h2 : ¬ b > a) (h3 : ¬ min b (a - b) > Builtin.Math.maxSsize) (h4 : ¬ min b (a - b) > Builtin.Math.manyFactors) (h5 : ¬ min b (a - b) > 9000)
    (hsz : (combI a b).natAbs.log2 < bitsLine) : Gives (Builtin.«math.comb» ⟨[.int a t, .int b u], []⟩) (.int (combI a b)) :=
  .of_wp fun M A E s Q h => by
    obtain ⟨hp, g, d, tk, os⟩ := s
    wp_walk
    first
      | (refine wpAny_ite_false (decide_eq_false (Nat.not_le.mpr hsz)) ?_; wp_walk; exact ⟨_, rfl, h⟩)
      | exact ⟨_, rfl, h⟩
def rComb : List V → Hp → VK → Prop := fun vs H Q => ∃ (a b r : Int), vs = [.int a, .int b] ∧ combD (.int a) (.int b) = .ok (.int r) ∧ Q (.int r) H
theorem cr_comb {X : Cx} : CallR X (.builtin "math.comb") rComb := by
  intro pins s σ H vs us Q I r h
  obtain ⟨a, b, z, rfl, e, q⟩ := h
  obtain ⟨t, u, rfl⟩ := Vals.int2 r
  simp only [combD] at e
  by_cases h0 : 0 ≤ a ∧ 0 ≤ b
  · rw [if_pos h0] at e
    by_cases h2 : a < b
    · rw [if_pos h2] at e
      cases e
      exact call_function_meets kind_comb plain_comb entry_comb (args_comb _ _) (run_comb0 a t b u (by omega) (by omega) h2).meets ⟨.int _, H, I.tok _, ⟨_, rfl⟩, q⟩
    · rw [if_neg h2] at e
      by_cases h3 : min b (a - b) ≤ 9000 ∧ (combI a b).natAbs.log2 < 134217728
      · rw [if_pos h3] at e
        cases e
        have e1 : Builtin.Math.manyFactors = 20000 := rfl
        have e2 : Builtin.Math.maxSsize = 9223372036854775807 := rfl
        have e3 : bitsLine = 134217728 := by decide
        exact call_function_meets kind_comb plain_comb entry_comb (args_comb _ _) (run_comb1 a t b u (by omega) (by omega) (by omega) (by rw [e2]; omega) (by rw [e1]; omega) (by omega) (by rw [e3]; exact h3.2)).meets ⟨.int _, H, I.tok _, ⟨_, rfl⟩, q⟩
      · rw [if_neg h3] at e
        cases e
  · rw [if_neg h0] at e
    cases e
section
variable {g : Cfg} {O : Addr → Prop} {H0 H H' : Hp} {xi : Option XI} {σ σ' : St} {ρ ρ' : Rho} {W : WX} {X : Cx} {T : Tb} {k : Nat} {N : List Str} {sc : Scope} {fb : Str → Bool}
theorem u_comb (C : Sc g T k W N sc fb X) {x : Str} {a b : Expr} {ca cb : CE} {p pos : Pos} (hb : (x, "math.comb") ∈ g.bins) (hg : glB sc x = true) (h : SA g O H0 xi W T X [a, b] [ca, cb]) (hs : [a, b].all notStar = true) : SE g O H0 xi W T X (.Call (.Name x p) [a, b] [] pos) (.comb ca cb) := by
  have h1 : notStar a = true ∧ [b].all notStar = true := by simpa using hs
  obtain ⟨g1, g2, _⟩ := C.gl hg
  refine PE.by' (pe_callBfun cr_comb g1 (by rw [C.of.mg]; exact C.pf.bi _ _ hb) h g2 (star_cons h1.1) (back_any h1.2)) fun σ H Q hq => ?_
  obtain ⟨ρ, I, q⟩ := hq
  refine ⟨ρ, I, ?_⟩
  simp only [evE] at q
  simp only [evEs]
  cases e1 : evE T ca ρ with
  | err c fs => rw [e1] at q; exact q
  | stuck => rw [e1] at q; exact q
  | ok d1 =>
    rw [e1] at q
    simp only [ok_bind] at q ⊢
    cases e2 : evE T cb ρ with
    | err c fs => rw [e2] at q; exact q
    | stuck => rw [e2] at q; exact q
    | ok d2 =>
      rw [e2] at q
      simp only [ok_bind] at q ⊢
      intro H1 s1 vs r
      cases r with
      | cons r1 r2 =>
        cases r2 with
        | cons r2 r3 =>
          cases r3
          cases d1 with
          | int n =>
            cases d2 with
            | int m =>
              cases r1
              cases r2
              cases e3 : combD (.int n) (.int m) with
              | ok d =>
                rw [e3] at q
                have : ∃ z, d = .int z := by
                  simp only [combD] at e3
                  repeat' split at e3
                  all_goals first | (cases e3; exact ⟨_, rfl⟩) | cases e3
                obtain ⟨z, rfl⟩ := this
                exact ⟨n, m, z, rfl, e3, q _ H1 s1 (.int z)⟩
              | err c fs => simp only [combD] at e3; repeat' split at e3
                            all_goals cases e3
              | stuck => rw [e3] at q; exact q.elim
            | _ => exact q.elim
          | _ => exact q.elim
theorem u_augA (C : Sc g T k W N sc fb X) (i : Nat) {x : Str} {e : Expr} {c : CE} {pos pos' : Pos} (hw : wrB N sc fb i x = true) (h : SE g O H0 xi W T X e c) : SS g O H0 xi W T X (.AugAssign (.Name x pos') .Add e pos) (.aug i .add c) := by
  obtain ⟨h1, h2, h3⟩ := C.wr hw
  refine PS.by' (ps_aug C.nd h1 h2 h ip_add h3) fun D σ H hq => ?_
  obtain ⟨ρ, I, q⟩ := hq
  simp only [evS] at q
  cases hρ : ρ[i]? with
  | none => rw [hρ] at q; exact q.elim
  | some sl =>
  rw [hρ] at q
  cases sl with
  | val d =>
    cases d with
    | int a =>
      obtain ⟨v, hv, rv⟩ := I.val i _ hρ
      cases rv
      refine ⟨.int a, hv, ρ, I, LdS.onE I q fun d v H1 _ s r q1 => ?_⟩
      cases d with
      | int b =>
        cases r
        exact ⟨a, b, rfl, rfl, q1 _ H1 ((I.more s).set (.int _)) (Adv.of (Sm.refl H1) (own_set (fun _ h => nomatch h) I.len))⟩
      | _ => exact q1.elim
    | _ => exact q.elim
  | _ => exact q.elim
theorem u_augS (C : Sc g T k W N sc fb X) (i : Nat) {x : Str} {e : Expr} {c : CE} {pos pos' : Pos} (hw : wrB N sc fb i x = true) (h : SE g O H0 xi W T X e c) : SS g O H0 xi W T X (.AugAssign (.Name x pos') .Sub e pos) (.aug i .sub c) := by
  obtain ⟨h1, h2, h3⟩ := C.wr hw
  refine PS.by' (ps_aug C.nd h1 h2 h ip_sub h3) fun D σ H hq => ?_
  obtain ⟨ρ, I, q⟩ := hq
  simp only [evS] at q
  cases hρ : ρ[i]? with
  | none => rw [hρ] at q; exact q.elim
  | some sl =>
  rw [hρ] at q
  cases sl with
  | val d =>
    cases d with
    | int a =>
      obtain ⟨v, hv, rv⟩ := I.val i _ hρ
      cases rv
      refine ⟨.int a, hv, ρ, I, LdS.onE I q fun d v H1 _ s r q1 => ?_⟩
      cases d with
      | int b =>
        cases r
        exact ⟨a, b, rfl, rfl, q1 _ H1 ((I.more s).set (.int _)) (Adv.of (Sm.refl H1) (own_set (fun _ h => nomatch h) I.len))⟩
      | _ => exact q1.elim
    | _ => exact q.elim
  | _ => exact q.elim
theorem u_par2 (C : Sc g T k W N sc fb X) (i j : Nat) {x y : Str} {a b : Expr} {ca cb : CE} {px py pt pos : Pos} {kt k2 : Nat} {pt2 : Pos} (hij : i ≠ j) (h1 : wrB N sc (fun _ => false) i x = true) (h2 : wrB N sc (fun _ => false) j y = true)
    (h : SA g O H0 xi W T X [a, b] [ca, cb])
    (hw' : swappedStores [.Tuple [.Name x px, .Name y py] kt pt] (.Tuple [a, b] k2 pt2) { X.env with scope := sc } = pure (some [x, y]))
    (hs : swapsWithSole [.Tuple [.Name x px, .Name y py] kt pt] (.Tuple [a, b] k2 pt2) pos.line X.env = pure false) :
    SS g O H0 xi W T X (.Assign [.Tuple [.Name x px, .Name y py] kt pt] (.Tuple [a, b] k2 pt2) pos) (.par [i, j] [ca, cb]) := by
  obtain ⟨a1, a2⟩ := wrL C h1
  obtain ⟨b1, b2⟩ := wrL C h2
  have hw : swappedStores [.Tuple [.Name x px, .Name y py] kt pt] (.Tuple [a, b] k2 pt2) X.env = pure (some [x, y]) := by
    have e : { X.env with scope := sc } = X.env := by rw [← C.sc]
    rw [e] at hw'
    exact hw'
  cases hot : T.hot with
  | true =>
    exact PS.by' ps_never fun D σ H hq => by
      obtain ⟨ρ, I, q⟩ := hq
      simp only [evS] at q
      rw [if_pos (by rw [hot]; rfl)] at q
      exact q
  | false =>
  refine PS.by' (ps_par (C.md.cold hot).1 C.nd a1 b1 hij a2 b2 h hw hs) fun D σ H hq => ?_
  obtain ⟨ρ, I, q⟩ := hq
  refine ⟨ρ, I, ?_⟩
  simp only [evS] at q
  rw [if_neg (by rw [hot]; simp)] at q
  refine LdS.onG I q fun ds H1 e s q1 vs r => ?_
  have len := evEs_len e
  match ds, vs, r, len, q1 with
  | [d1, d2], [v1, v2], .cons r1 (.cons r2 .nil), _, q1 =>
    have J := I.more s
    have J1 := J.set (i := i) r1
    have o1 := own_set (O := O) (i := i) (v := some v1) (s := .val d1) (fun _ h => nomatch h) I.len
    have J2 := J1.set (i := j) (r2.less o1)
    have o2 := own_set (O := O) (i := j) (v := some v2) (s := .val d2) (fun _ h => nomatch h) J1.len
    exact ⟨v1, v2, rfl, q1 _ H1 J2 (Adv.of (Sm.refl H1) fun a h => o1 a (o2 a h))⟩
end
end Ev
end
section
set_option Elab.async false
set_option linter.all false
set_option maxRecDepth 100000
set_option maxHeartbeats 2000000
namespace Ev
variable [Nm]
open PySem PySem.Spec PyProof.Rows L2
structure LF where
  params : Arguments
  body : Expr
  scope : Scope
  q : Str
  cl : List (Str × Addr)
  c : Addr
def LamIs (F : LF) (f : Addr) (h : Heap) : Prop := ∃ pm ctv, h.get? f = some (PySem.W.kla_obj "<lambda>" F.q F.params F.body F.scope F.cl pm F.c ctv)
abbrev LF.nf (F : LF) : NdefX.NF := ⟨"<lambda>", F.q, F.params, [], F.scope, F.cl, F.c⟩
theorem lam_run {CX : CXT} {P : Program} {w : World} {K : PySem.W.Frag} {mg : Str → Option Value} {base : Heap} {N ps fr : List Str} {F : LF} {f : Addr} {k : Nat} {A : Around} {outer : List Env} {s : Shared} {H : Hp} {us : List Value} {vs : List V} {ws : List (Option V)} {Q : VK} {E : XK} {t : TE}
    (S : NdefX.NScope N ps fr F.scope) (room : Room (k + 1) A) (e0 : Env0 P w K mg base A outer s H) (hf : LamIs F f s.heap) (hc : H F.c = some (LamX.CodeO F.c F.q)) (C : NdefX.CellsAt F.cl fr ws s.heap H) (r : Vals vs us) (hl : vs.length = ps.length)
    (hb : ∀ pm ctv, bindArgs (PySem.W.kla_fn "<lambda>" F.q F.params F.body F.scope F.cl pm (.ref F.c) ctv) ⟨us, []⟩ = pure (ps.zip us))
    (hbody : Room k (A.deeper (NdefX.envF F.nf f s.heap.objs.size)) → PE (NdefX.ncx CX P w K mg base N F.nf f A outer s H E) F.body t) (q : t (NdefX.startF N vs ws) H Q) :
    codeAny (model P w) A (.call (.ref f) ⟨us, []⟩) (CR CX outer P w H s Q E) s := by
  obtain ⟨pm, ctv, ho⟩ := hf
  have nolim : s.heap.NoLimit := e0.mod.nolimit.keeps fun b o z => (e0.bs b o z).1
  refine PySem.W.kla_callFunE room.depth ho rfl S.co S.gen rfl (NdefX.codeO_at e0.hok hc) ?_
  rw [hb pm ctv]
  refine wpAny_pure (wpAny_newFunctionEnv S.nocell (fun y hy => S.par y.1 (List.of_mem_zip (show (y.1, y.2) ∈ ps.zip us from hy)).1) (fun g₁ ns₁ sb₁ => ⟨nolim.fresh _ sb₁, ?_⟩) S.kind)
  show codeAny _ _ (.expr F.body (NdefX.envF F.nf f s.heap.objs.size)) _ _
  have J : Inv (NdefX.ncx CX P w K mg base N F.nf f A outer s H E) [] (NdefX.startF N vs ws) H { s with heap := g₁, toks := s.toks + (ps.zip us).length } :=
    NdefX.inv_startN (F := F.nf) S room.hd e0 hl r C ns₁ fun b o z => sb₁.extBut b o (Nat.ne_of_lt (Heap.lt_size z)) (Heap.get?_push_of_some _ z)
  refine PySem.W.kla_codeExpr (wpAny_mono ((hbody (room.deeper _)).run [] _ _ H Q J q) (fun u s2 z => ?_) fun _ _ z => z)
  obtain ⟨v2, H2, J2, rv2, q2⟩ := z
  exact ⟨v2, H2, J2.os, J2.bare, J2.base, J2.hok, rv2, q2⟩
theorem lam_make3 {X : Cx} {pins : List (Addr × Obj)} {σ : St} {H : Hp} {s : Shared} {c P : Addr} {params : Arguments} {body : Expr} {scope : Scope} {pos : Pos} {E : Value → Shared → Prop} {Q : Value → Shared → Prop} (I : Inv X pins σ H s) (TB : LamX.TabB X.base X.mg c P) (hcode : X.env.code = .ref c)
    (tab : TabO H P) (hn : Nm.nm pos.line pos.col = X.env.qual ++ "<lambda>") (hdef : defaultsOf params X.env = ([], [])) (hfree : ∀ y ∈ scope.names, y.2 = .free → ∃ c, X.env.cells.lookup y.1 = some c)
    (fin : ∀ (f a : Addr) (H1 : Hp) (s1 : Shared), Inv X pins σ H1 s1 → Sm H H1 → LamIs ⟨params, body, scope, X.env.qual ++ "<lambda>", cloFrom X.env.cells scope.names [], a⟩ f s1.heap → H1 f = none → f ∉ frs X.stack → H1 a = some (LamX.CodeO a (X.env.qual ++ "<lambda>")) → Q (.ref f) s1) :
    wpAny (model X.prog X.w) X.A (eval (.Lambda params body scope pos) X.env) Q E s := by
  obtain ⟨ps, tP, tOk, tAll⟩ := tab
  refine PySem.W.kla_eval hdef ?_
  have atB : s.heap.BuiltinsAt X.mg P := TB.bm.keeps I.bk
  have atP : s.heap.get? P = some { cls := .none, data := .fields ps } := I.hok P _ tP
  have out : ∀ f, s.heap.objs.size ≤ f → f ∉ frs X.stack := fun f hf z => by
    rcases List.mem_cons.mp (I.stkSub f z) with e | e
    · exact absurd (e ▸ I.lt) (Nat.not_lt.mpr hf)
    · exact I.nofs hf e
  cases known : codeAmong pos ps.toList with
  | some cv =>
    obtain ⟨a, rfl, ra⟩ := tAll pos cv known
    rw [hn] at ra
    refine PySem.W.kla_makeFunctionHit (mg := X.mg) (c := c) (P := P) (ps := ps) (closure_ok hfree) I.ok.glob (I.mod.glob.keeps I.bk) hcode (TB.code.keeps I.bk) atP tOk known atB fun ctv h1 tk kp sz => ?_
    refine fin h1.objs.size a H _ (I.kept fun b o e => Heap.get?_push_of_some _ (kp b o e)) (Sm.refl H) ⟨_, ctv, Heap.get?_push_size _ rfl⟩ (I.hok.fresh sz) (out _ sz) ra
  | none =>
    refine PySem.W.kla_makeFunction (mg := X.mg) (c := c) (P := P) (ps := ps) (closure_ok hfree) I.ok.glob (I.mod.glob.keeps I.bk) hcode (TB.code.keeps I.bk) atP tOk known TB.gP atB fun a ctv h1 tk kp ge lt rec tb => ?_
    obtain ⟨a2, oc, us, t, ea, h2, h3, h4⟩ := rec
    cases ea
    have na : H a = none := I.hok.fresh ge
    have nPa : P ≠ a := ne_of_none tP na
    have st : ∀ b o, H b = some o → (∀ qs, o ≠ .tbl qs) → upd (upd H P (.tbl (ps ++ #[rawInt pos.line, rawInt pos.col, .ref a]))) a (LamX.CodeO a (X.env.qual ++ "<lambda>")) b = some o := fun b o e n => by
      rw [upd_ne (ne_of_none e na), upd_ne (fun z => by rw [z, tP] at e; exact n ps (Option.some.inj e).symm)]
      exact e
    have sm : Sm H (upd (upd H P (.tbl (ps ++ #[rawInt pos.line, rawInt pos.col, .ref a]))) a (LamX.CodeO a (X.env.qual ++ "<lambda>"))) := by
      refine ⟨st, fun b qs e => ?_, fun b z => ?_⟩
      · by_cases hb : b = P
        · exact ⟨_, by rw [hb, upd_ne nPa, upd_same]⟩
        · exact ⟨qs, by rw [upd_ne (ne_of_none e na), upd_ne hb]; exact e⟩
      · by_cases hb : b = P
        · refine ⟨_, by rw [hb, upd_ne nPa, upd_same], ?_, fun p2 cv hcv => ?_⟩
          · rw [show (ps ++ #[rawInt pos.line, rawInt pos.col, Value.ref a]).toList = ps.toList ++ [rawInt pos.line, rawInt pos.col, .ref a] by simp]
            exact PySem.TriplesOk_snoc _ _ _ _ tOk
          · rw [show (ps ++ #[rawInt pos.line, rawInt pos.col, Value.ref a]).toList = ps.toList ++ [rawInt pos.line, rawInt pos.col, .ref a] by simp] at hcv
            rcases NdefX.among_app2 _ tOk hcv with y | ⟨y, y1, y2⟩
            · obtain ⟨a0, e1, e2⟩ := tAll p2 cv y
              exact ⟨a0, e1, st _ _ e2 LamX.codeO_ne⟩
            · exact ⟨a, y, by rw [← y1, ← y2, hn]; exact upd_same⟩
        · obtain ⟨qs, e1, e2, e3⟩ := z
          refine ⟨qs, by rw [upd_ne (ne_of_none e1 na), upd_ne hb]; exact e1, e2, fun p2 cv hcv => ?_⟩
          obtain ⟨a0, r1, r2⟩ := e3 p2 cv hcv
          exact ⟨a0, r1, st _ _ r2 LamX.codeO_ne⟩
    have J := LamX.inv_table (t' := tk) (more := #[rawInt pos.line, rawInt pos.col, .ref a]) (h' := h1.push (PySem.W.kla_obj "<lambda>" (X.env.qual ++ "<lambda>") params body scope (cloFrom X.env.cells scope.names []) ((X.mg "__name__").getD .none) a ctv)) I tP
      (fun b o hb e => Heap.get?_push_of_some _ (kp b o hb e)) (Heap.get?_push_of_some _ tb) ge ⟨oc, us, t, Heap.get?_push_of_some _ h2, h3, h4⟩
    have sz : s.heap.objs.size ≤ h1.objs.size := Nat.le_trans ge (Nat.le_of_lt lt)
    refine fin h1.objs.size a _ _ J sm ⟨_, ctv, Heap.get?_push_size _ rfl⟩ ?_ (out _ sz) upd_same
    rw [upd_ne (Nat.ne_of_gt lt), upd_ne (Nat.ne_of_gt (Nat.lt_of_lt_of_le (Heap.lt_size atP) sz))]
    exact I.hok.fresh sz
def LamAt (g : Cfg) (l : Nat) (f : Addr) (cs : List D) (s : Shared) (H : Hp) (fs : List Addr) : Prop :=
  g.isl l = true ∧ ∃ (q : Str) (cl : List (Str × Addr)) (c : Addr) (vs : List V), LamIs ⟨(g.lam l).params, (g.lam l).body, (g.lam l).scope, q, cl, c⟩ f s.heap ∧ H f = none ∧ f ∉ fs ∧ H c = some (LamX.CodeO c q) ∧
    NdefX.CellsAt cl (g.lam l).fr (vs.map some) s.heap H ∧ Reps g.K (fun _ => False) H vs cs ∧ D.noLL cs = true ∧ ∀ y a, cl.lookup y = some a → a ∉ fs
def CloR (g : Cfg) (T : Tb) (X : Cx) (W : WX) (H0 : Hp) : Prop := ∀ f l cs, g.clo f l cs →
  (∀ pins σ H s, Inv X pins σ H s → PySem.W.FnAt f s.heap) ∧
  ∀ pins σ H s us vs ds O Q, Inv X pins σ H s → Sm H0 H → Trk O H → Tabs g.lts H → Vals vs us → Reps g.K O H vs ds → LdE g W O σ H (T.call false l (ds ++ cs)) Q → wpAny (model X.prog X.w) X.A (call (.ref f) us) (EP X pins σ Q) X.xe s
section
variable {g : Cfg} {O : Addr → Prop} {H0 H H' : Hp} {xi : Option XI} {σ σ' : St} {ρ ρ' : Rho} {W : WX} {X : Cx} {T : Tb} {k : Nat} {N : List Str} {sc : Scope} {fb : Str → Bool}
theorem u_capp (C : Sc g T k W N sc fb X) (R : CloR g T X W H0) (i : Nat) {x : Str} {e : Expr} {es : List Expr} {cs : List CE} {p pos : Pos} (hr : rdB N sc i x = true) (ha : SA g O H0 xi W T X (e :: es) cs) (hst : (e :: es).all notStar = true) : SE g O H0 xi W T X (.Call (.Name x p) (e :: es) [] pos) (.capp i cs) := by
  have h1 : notStar e = true ∧ es.all notStar = true := by simpa using hst
  obtain ⟨hN, hv, hd, hcd⟩ := C.rd hr
  refine ⟨fun pins s σ H Q I hq => ?_⟩
  obtain ⟨ρ, J, q⟩ := hq
  simp only [evE] at q
  cases hh : T.hot with
  | true => rw [if_pos hh] at q; exact q.elim
  | false =>
  rw [if_neg (by rw [hh]; decide)] at q
  cases hρ : ρ[i]? with
  | none => rw [hρ] at q; exact q.elim
  | some sl =>
  rw [hρ] at q
  cases sl with
  | clo l ks =>
    obtain ⟨f, hs, hg⟩ := J.clo i l ks hρ
    obtain ⟨R1, R2⟩ := R f l ks hg
    refine wpAny_Call_Name_kw (thn ((pe_var (pos := p) (i := i) hN hv hd hcd).run pins s σ H (fun v H1 => v = .ref f ∧ H1 = H) I ⟨.ref f, hs, rfl, rfl⟩) fun u s1 z => ?_)
    obtain ⟨v, H1, I1, r1, rfl, rfl⟩ := z
    obtain rfl : u = Value.ref f := r1
    refine PySem.W.callWith_F (first := []) (R1 _ _ _ _ I1) (thn (ha.run pos pins s1 σ H1 (fun vs H2 => ∃ ds, Sm H1 H2 ∧ Reps g.K (Own O σ ρ) H2 vs ds ∧ LdE g W (Own O σ ρ) σ H2 (T.call false l (ds ++ ks)) Q) I1 ⟨ρ, J, ?_⟩) fun us s2 z => ?_) (star_cons h1.1) (back_any h1.2)
    · have q : LdE g W (Own O σ ρ) σ H1 (evEs T cs ρ >>= fun ds => T.call false l (ds ++ ks)) Q := q
      exact LdE.bindG q fun ds H2 _ s12 q2 vs r => ⟨ds, s12, r, q2⟩
    · obtain ⟨vs, H2, I2, rv, ds, s12, r, q2⟩ := z
      refine ⟨R1 _ _ _ _ I2, ?_⟩
      show wpAny _ _ (call (.ref f) us) _ _ _
      exact R2 pins σ H2 s2 us vs ds (Own O σ ρ) Q I2 (J.same.trans s12) (J.trkO.same s12) (Tabs.sm J.tab s12) rv r q2
  | none => exact q.elim
  | val _ => exact q.elim
  | own _ => exact q.elim
  | exc _ _ => exact q.elim
def LmX (g : Cfg) (X : Cx) : Prop := ∃ c P, LamX.TabB X.base X.mg c P ∧ X.env.code = .ref c ∧ P ∈ g.lts
def HoF (g : Cfg) (T : Tb) (k : Nat) : Prop := T.hot = false → ∀ (j : Nat) (A : Around) (outer : List Env) (s : Shared) (H : Hp) (us : List Value) (vs1 vs2 : List V) (ds1 : List D) (l : Nat) (cs ds2 : List D) (f : Addr) (O : Addr → Prop) (Q : VK) (E : XK), j < g.nF → g.ho j = true → Room k A → Env0 g.P g.w g.K g.mg g.base A outer s H →
  BindsTo s (g.fFd j) ⟨us, []⟩ ((g.fPs j).zip us) → Vals (vs1 ++ .ref f :: vs2) us → (vs1 ++ V.ref f :: vs2).length = (g.fPs j).length → Reps g.K O H vs1 ds1 → Reps g.K O H vs2 ds2 → Trk O H → Tabs g.lts H → LamAt g l f cs s H (frs outer) →
  (match T.call false j (ds1 ++ .clo l cs :: ds2) with
  | .ok d => ∀ v H', Sm H H' → Rep g.K O H' v d → Q v H'
  | .err c fs => ∀ d H', Sm H H' → XF g O H' c fs d → E (.ref (g.cAd c)) (some d) H'
  | .stuck => False) → codeAny (model g.P g.w) A (.call (.ref (g.fAd j)) ⟨us, []⟩) (CR (L2N.CX g.P g.w) outer g.P g.w H s Q E) s
def LamRes (g : Cfg) (O : Addr → Prop) (X : Cx) (pins : List (Addr × Obj)) (σ : St) (H : Hp) (params : Arguments) (body : Expr) (scope : Scope) (QQ : List D → List D → Hp → Prop) (us : List Value) (s2 : Shared) : Prop :=
  ∃ (vs1 : List V) (f : Addr) (vs2 : List V) (H2 : Hp) (ds1 ds2 : List D) (a : Addr), Inv X pins σ H2 s2 ∧ Sm H H2 ∧ Vals (vs1 ++ .ref f :: vs2) us ∧ Reps g.K O H2 vs1 ds1 ∧ Reps g.K O H2 vs2 ds2 ∧
    LamIs ⟨params, body, scope, X.env.qual ++ "<lambda>", cloFrom X.env.cells scope.names [], a⟩ f s2.heap ∧ H2 f = none ∧ f ∉ frs X.stack ∧ H2 a = some (LamX.CodeO a (X.env.qual ++ "<lambda>")) ∧ QQ ds1 ds2 H2
def SAL (g : Cfg) (O : Addr → Prop) (H0 : Hp) (xi : Option XI) (W : WX) (T : Tb) (X : Cx) (params : Arguments) (body : Expr) (scope : Scope) (es : List Expr) (c1 c2 : List CE) : Prop :=
  ∀ (pos : Pos) (pins : List (Addr × Obj)) (s : Shared) (σ : St) (H : Hp) (ρ : Rho) (QQ : List D → List D → Hp → Prop), Inv X pins σ H s → EI g O H0 xi σ H ρ →
    LdG g W (Own O σ ρ) σ H (evEs T c1 ρ >>= fun a => evEs T c2 ρ >>= fun b => pure (a, b)) (fun p H' => QQ p.1 p.2 H') →
    wpAny (model X.prog X.w) X.A (spliced (backTo pos (starEach es X.env))) (LamRes g (Own O σ ρ) X pins σ H params body scope QQ) X.xe s
theorem inv_pin {pins : List (Addr × Obj)} {s : Shared} {f : Addr} {F : LF} (I : Inv X pins σ H s) (L : LamIs F f s.heap) (n : H f = none) (nf : f ∉ frs X.stack) (nl : f ∉ X.fs) : ∃ o, LamIs F f s.heap ∧ s.heap.get? f = some o ∧ (∀ h : Heap, h.get? f = some o → LamIs F f h) ∧ Inv X ((f, o) :: pins) σ H s := by
  obtain ⟨pm, ctv, e⟩ := L
  refine ⟨_, ⟨pm, ctv, e⟩, e, fun h z => ⟨pm, ctv, z⟩, ⟨I.ok, I.os, I.bare, I.base, I.loc, I.cell, I.free, I.freeC, fun p hp => ?_, I.hok, I.len⟩⟩
  have old := I.pin p
  rcases List.mem_append.mp hp with z | z
  · exact old (List.mem_append_left _ z)
  · rcases List.mem_cons.mp z with rfl | z
    · refine ⟨e, n, fun y => ?_, nl, fun v y => ?_⟩
      · obtain ⟨m, ⟨o, es, ep, ho, hd, _⟩, _⟩ := I.loc
        have y : f = X.env.locals := y
        rw [← y, e] at ho
        cases ho
        cases hd
      · cases y
    · exact old (List.mem_append_right _ z)
theorem inv_unpin {pins : List (Addr × Obj)} {s : Shared} {p : Addr × Obj} (I : Inv X (p :: pins) σ H s) : Inv X pins σ H s ∧ s.heap.get? p.1 = some p.2 ∧ H p.1 = none :=
  ⟨⟨I.ok, I.os, I.bare, I.base, I.loc, I.cell, I.free, I.freeC, fun q hq => I.pin q ((List.mem_append.mp hq).elim (fun z => List.mem_append_left _ z) fun z => List.mem_append_right _ (List.mem_cons_of_mem _ z)), I.hok, I.len⟩,
    (I.pin p (List.mem_append_right _ List.mem_cons_self)).1, (I.pin p (List.mem_append_right _ List.mem_cons_self)).2.1⟩
theorem sal_lam (C : Sc g T k W N sc fb X) (LX : LmX g X) {params : Arguments} {body : Expr} {scope : Scope} {lpos : Pos} {es : List Expr} {c2 : List CE} {fr : List Str} (hn : Nm.nm lpos.line lpos.col = X.env.qual ++ "<lambda>") (hdef : defaultsOf params X.env = ([], [])) (hb : NdefX.ndefB sc scope fr = true) (fs : Fr2 X)
    (h2 : SA g O H0 xi W T X es c2) (hs : starEach (.Lambda params body scope lpos :: es) X.env = (false, eval (.Lambda params body scope lpos) X.env) :: starEach es X.env) : SAL g O H0 xi W T X params body scope (.Lambda params body scope lpos :: es) [] c2 := by
  intro pos pins s σ H ρ QQ I J q
  obtain ⟨c, P, TB, hcode, hP⟩ := LX
  have q : LdG g W (Own O σ ρ) σ H (evEs T c2 ρ >>= fun b => pure (([] : List D), b)) (fun p H' => QQ p.1 p.2 H') := q
  have free : ∀ y ∈ scope.names, y.2 = .free → ∃ c, X.env.cells.lookup y.1 = some c := fun y hy e => by
    have z := NdefX.ndef_free (sc := X.env.scope) (by rw [C.sc]; exact hb) y hy e
    exact z.elim (fun z => I.ok.has _ (.inl z)) fun z => I.ok.has _ (.inr z)
  rw [hs]
  show wpAny _ _ (spliced ((false, eval (.Lambda params body scope lpos) X.env) :: backTo pos (starEach es X.env))) _ _ s
  refine Calls.spliced_cons (lam_make3 I TB hcode (J.tab P hP) hn hdef free fun f a H1 s1 I1 sm L n nf hc => ?_)
  have nl : f ∉ X.fs := fun z => nf (by rw [fs.1]; unfold frs; rw [List.filterMap_cons, fs.2]; exact List.mem_cons_of_mem _ z)
  obtain ⟨o, _, eo, keep, I2⟩ := inv_pin I1 L n nf nl
  refine thn (h2.run pos ((f, o) :: pins) s1 σ H1 (fun vs H2 => ∃ ds, Sm H1 H2 ∧ Reps g.K (Own O σ ρ) H2 vs ds ∧ QQ [] ds H2) I2 ⟨ρ, J.more sm, ?_⟩) fun us s2 z => ?_
  · refine LdG.bindG (LdG.more q sm) fun ds H2 _ s12 q2 vs r => ⟨ds, s12, r, ?_⟩
    exact q2 H2 (Sm.refl H2)
  · obtain ⟨vs, H2, I3, rv, ds, s12, r, q2⟩ := z
    obtain ⟨I4, e4, n4⟩ := inv_unpin I3
    exact ⟨[], f, vs, H2, [], ds, a, I4, sm.trans s12, .cons rfl rv, .nil, r, keep _ e4, n4, nf, s12 _ _ hc (fun ps z => LamX.codeO_ne ps z), q2⟩
theorem sal_cons {params : Arguments} {body : Expr} {scope : Scope} {e : Expr} {es : List Expr} {c : CE} {c1 c2 : List CE} (h1 : SE g O H0 xi W T X e c) (h2 : SAL g O H0 xi W T X params body scope es c1 c2) (hs : notStar e = true) : SAL g O H0 xi W T X params body scope (e :: es) (c :: c1) c2 := by
  intro pos pins s σ H ρ QQ I J q
  have hst := star_cons (es := es) (env := X.env) hs
  rw [hst]
  show wpAny _ _ (spliced ((false, eval e X.env) :: backTo pos (starEach es X.env))) _ _ s
  have q : LdG g W (Own O σ ρ) σ H (evE T c ρ >>= fun x => (evEs T c1 ρ >>= fun a => evEs T c2 ρ >>= fun b => pure (a, b)) >>= fun p => pure (x :: p.1, p.2)) (fun p H' => QQ p.1 p.2 H') := by
    simp only [evEs] at q
    cases e1 : evE T c ρ with
    | ok x =>
      rw [e1] at q
      simp only [ok_bind] at q ⊢
      cases e2 : evEs T c1 ρ with
      | ok y =>
        rw [e2] at q
        simp only [ok_bind, pure_ok] at q ⊢
        cases e3 : evEs T c2 ρ with
        | ok z => rw [e3] at q; exact q
        | err _ _ => rw [e3] at q; exact q
        | stuck => rw [e3] at q; exact q
      | err _ _ => rw [e2] at q; exact q
      | stuck => rw [e2] at q; exact q
    | err _ _ => rw [e1] at q; exact q
    | stuck => rw [e1] at q; exact q
  refine Calls.spliced_cons (thn (h1.run pins s σ H (fun v H1 => ∃ x, Sm H H1 ∧ Rep g.K (Own O σ ρ) H1 v x ∧ LdG g W (Own O σ ρ) σ H1 ((evEs T c1 ρ >>= fun a => evEs T c2 ρ >>= fun b => pure (a, b)) >>= fun p => pure (x :: p.1, p.2)) (fun p H' => QQ p.1 p.2 H')) I ⟨ρ, J, ?_⟩) fun u s1 z => ?_)
  · exact LdG.bindE q fun x v H1 _ s1 r1 q1 => ⟨x, s1, r1, q1⟩
  · obtain ⟨v, H1, I1, rv, x, s1', r1, q1⟩ := z
    refine wpAny_mono (h2 pos pins s1 σ H1 ρ (fun a b H2 => Sm H1 H2 ∧ QQ (x :: a) b H2) I1 (J.more s1') ?_) (fun us s2 z => ?_) fun _ _ z => z
    · exact LdG.bindG q1 fun p H2 _ s12 q2 => ⟨s12, q2 H2 (Sm.refl H2)⟩
    · obtain ⟨vs1, f, vs2, H2, ds1, ds2, a, I2, s12, rv2, r2, r3, L, n, nf, hc, s12', q2⟩ := z
      exact ⟨v :: vs1, f, vs2, H2, x :: ds1, ds2, a, I2, s1'.trans s12, .cons rv rv2, .cons (r1.gro (Gro.of s12)) r2, r3, L, n, nf, hc, q2⟩
theorem slotsE_rep (J : EI g O H0 xi σ H ρ) : ∀ {js : List Nat} {cs : List D}, slotsE ρ js = .ok cs → ∃ vs : List V, js.map (NdefX.slotAt σ) = vs.map some ∧ Reps g.K (Own O σ ρ) H vs cs
  | [], cs, h => by cases h; exact ⟨[], rfl, .nil⟩
  | i :: js, cs, h => by
    simp only [slotsE] at h
    cases e : ρ[i]? with
    | none => rw [e] at h; cases h
    | some sl =>
      rw [e] at h
      cases sl with
      | val d =>
        simp only [slotE, ok_bind] at h
        cases e2 : slotsE ρ js with
        | ok ds =>
          simp only [e2, ok_bind, pure_ok] at h
          cases h
          obtain ⟨vs, h1, h2⟩ := slotsE_rep J e2
          obtain ⟨v, h3, h4⟩ := J.val i d e
          exact ⟨v :: vs, by rw [List.map_cons, List.map_cons, h1, NdefX.slotAt_of h3], .cons h4 h2⟩
        | err _ _ => rw [e2] at h; cases h
        | stuck => rw [e2] at h; cases h
      | _ => cases h
theorem slotsE_ne {ρ : Rho} : ∀ {js : List Nat} (c : Nat) (fs : List D), slotsE ρ js ≠ .err c fs
  | [], c, fs, h => by cases h
  | i :: js, c, fs, h => by
    simp only [slotsE] at h
    cases e : ρ[i]? with
    | none => rw [e] at h; cases h
    | some sl =>
      rw [e] at h
      cases sl with
      | val d =>
        simp only [slotE, ok_bind] at h
        cases e2 : slotsE ρ js with
        | ok ds => simp only [e2, ok_bind, pure_ok] at h; cases h
        | err _ _ => exact slotsE_ne _ _ e2
        | stuck => rw [e2] at h; cases h
      | _ => cases h
theorem u_callL (C : Sc g T k W N sc (fun _ => true) X) (HL : HoF g T k) (fs : Fr2 X) (j l : Nat) {x : Str} {e0 : Expr} {es : List Expr} {c1 c2 : List CE} {js : List Nat} {p pos : Pos} {params : Arguments} {body : Expr} {scope : Scope} (hj : j < g.nF) (hho : g.ho j = true) (hisl : g.isl l = true) (hx : g.fNm j = x) (hg : glB sc x = true)
    (hl : (g.lam l).params = params ∧ (g.lam l).body = body ∧ (g.lam l).scope = scope) (hd : NdefX.ndefB sc scope (g.lam l).fr = true) (hjs : (js.map fun j => N[j]?) = (g.lam l).fr.map some) (ha : SAL g O H0 xi W T X params body scope (e0 :: es) c1 c2)
    (hlen : c1.length + 1 + c2.length = (g.fPs j).length) (he : starEach (e0 :: es) X.env = (false, eval e0 X.env) :: starEach es X.env) (hpl : (backTo pos (starEach es X.env)).any (·.1) = false) : SE g O H0 xi W T X (.Call (.Name x p) (e0 :: es) [] pos) (.callL j c1 l js c2) := by
  subst hx
  obtain ⟨hgl, hdb, _⟩ := C.gl hg
  have F := C.fs j hj
  refine ⟨fun pins s σ H Q I hq => ?_⟩
  obtain ⟨ρ, J, q⟩ := hq
  simp only [evE] at q
  cases hh : T.hot with
  | true => rw [if_pos hh] at q; exact q.elim
  | false =>
  rw [if_neg (by rw [hh]; decide)] at q
  have q : LdE g W (Own O σ ρ) σ H ((evEs T c1 ρ >>= fun a => evEs T c2 ρ >>= fun b => pure (a, b)) >>= fun p => slotsE ρ js >>= fun cs => if D.noLL cs then T.call false j (p.1 ++ .clo l cs :: p.2) else .stuck) Q := by
    cases e2 : evEs T c1 ρ with
    | ok y =>
      rw [e2] at q
      simp only [ok_bind, pure_ok] at q ⊢
      cases e3 : evEs T c2 ρ with
      | ok z => rw [e3] at q; exact q
      | err _ _ => rw [e3] at q; exact q
      | stuck => rw [e3] at q; exact q
    | err _ _ => rw [e2] at q; exact q
    | stuck => rw [e2] at q; exact q
  refine wpAny_Call_Name_kw (ld_glob I hgl (by rw [C.of.mg]; exact F.mg) ?_ hdb)
  refine PySem.W.callWith_K (h₀ := X.base) I.ok.mod.kin (by rw [C.of.K]; exact F.kp) (wpAny_mono (ha pos pins s σ H ρ (fun ds1 ds2 H2 => Sm H H2 ∧ ds1.length = c1.length ∧ ds2.length = c2.length ∧ LdE g W (Own O σ ρ) σ H2 (slotsE ρ js >>= fun cs => if D.noLL cs then T.call false j (ds1 ++ .clo l cs :: ds2) else .stuck) Q) I J ?_) (fun us s2 z => ?_) fun _ _ z => z) he hpl
  · refine LdE.bindG q fun p H2 ep s12 q2 => ⟨s12, ?_, ?_, q2⟩
    · cases e2 : evEs T c1 ρ with
      | ok y =>
        cases e3 : evEs T c2 ρ with
        | ok z => rw [e2, e3] at ep; cases ep; exact evEs_len e2
        | err _ _ => rw [e2, e3] at ep; cases ep
        | stuck => rw [e2, e3] at ep; cases ep
      | err _ _ => rw [e2] at ep; cases ep
      | stuck => rw [e2] at ep; cases ep
    · cases e2 : evEs T c1 ρ with
      | ok y =>
        cases e3 : evEs T c2 ρ with
        | ok z => rw [e2, e3] at ep; cases ep; exact evEs_len e3
        | err _ _ => rw [e2, e3] at ep; cases ep
        | stuck => rw [e2, e3] at ep; cases ep
      | err _ _ => rw [e2] at ep; cases ep
      | stuck => rw [e2] at ep; cases ep
  · obtain ⟨vs1, f, vs2, H2, ds1, ds2, a, I2, s12, rv, r2, r3, L, n, nf, hc, _, l1, l2, q2⟩ := z
    refine ⟨I2.kIn, ?_⟩
    show wpAny _ _ (call (.ref (g.fAd j)) us) _ _ _
    have J2 := J.more s12
    cases es : slotsE ρ js with
    | stuck => rw [es] at q2; exact q2.elim
    | err c2 fs2 => exact (slotsE_ne _ _ es).elim
    | ok cs =>
    rw [es] at q2
    simp only [ok_bind] at q2
    cases hno : D.noLL cs with
    | false => rw [hno] at q2; exact q2.elim
    | true =>
    rw [hno] at q2
    simp only [if_true] at q2
    obtain ⟨ws, w1, w2⟩ := slotsE_rep J2 es
    have hlv : (vs1 ++ V.ref f :: vs2).length = (g.fPs j).length := by
      rw [List.length_append, List.length_cons, r2.length, r3.length, l1, l2, ← hlen]; omega
    obtain ⟨hl1, hl2, hl3⟩ := hl
    have hsc : NdefX.ndefB X.env.scope scope (g.lam l).fr = true := by rw [C.sc]; exact hd
    have cp : NdefX.Caps X (cloFrom X.env.cells scope.names []) (g.lam l).fr js := NdefX.Caps.made I2.ok (NdefX.ndef_free hsc) (NdefX.ndef_fr hsc) (by rw [C.N]; exact hjs)
    have CA := NdefX.cells_of I2 cp
    rw [w1] at CA
    have at_ : LamAt g l f cs s2 H2 (frs X.stack) := by
      refine ⟨hisl, X.env.qual ++ "<lambda>", cloFrom X.env.cells scope.names [], a, ws, by rw [hl1, hl2, hl3]; exact L, n, nf, hc, CA, w2.any hno, hno, fun y b hy hb => ?_⟩
      have e1 := cp.sub y b hy
      rcases List.mem_cons.mp (I2.stkSub b hb) with e | hb
      · exact I2.cne y b e1 e
      · obtain ⟨_, o, ho, _⟩ := I2.ok.funs.mem hb
        have z1 := I2.ok.cab y b (C.fn y rfl) e1
        exact absurd (Heap.lt_size ho) (Nat.not_lt.mpr z1)
    have e0' := I2.env0
    rw [C.of.P, C.of.w, C.of.K, C.of.mg, C.of.base] at e0'
    have lenu : us.length = (g.fPs j).length := by rw [← rv.length]; exact hlv
    have bd : BindsTo s2 (g.fFd j) ⟨us, []⟩ ((g.fPs j).zip us) := by
      have z := F.bd s2 us (by rw [← C.of.K]; exact I2.kIn) (by rw [List.append_nil]; exact lenu)
      rw [List.append_nil] at z
      exact z
    have run : codeAny (model X.prog X.w) X.A (.call (.ref (g.fAd j)) ⟨us, []⟩) (CR (L2N.CX X.prog X.w) X.stack X.prog X.w H2 s2 Q (WE W σ)) s2 := by
      rw [C.of.P, C.of.w]
      exact HL hh j X.A X.stack s2 H2 us vs1 vs2 ds1 l cs ds2 f (Own O σ ρ) Q (WE W σ) hj hho (C.md.cold hh).2 e0' bd rv hlv r2 r3 J2.trkO J2.tab at_ q2
    refine wpAny_call (codeAny_mono run fun r s3 z => ?_)
    cases r with
    | error e => exact L2N.passAt C.tk σ pins H2 s2 e s3 I2 z
    | ok fl =>
      cases fl with
      | ret u => exact I2.after z
      | _ => exact False.elim z
end
end Ev
end
section
set_option Elab.async false
set_option linter.all false
set_option maxRecDepth 100000
set_option maxHeartbeats 2000000
namespace Ev
variable [Nm]
open PySem PySem.Spec PyProof.Rows L2
section
variable {g : Cfg} {P : Pg}
theorem of_val : ∀ {K : PySem.W.Frag} {O : Addr → Prop} {H : Hp} {v : V} {d : D}, Rep K O H v d → Slot.of d = .val d := fun r => by cases r <;> rfl
theorem ofs_val {K : PySem.W.Frag} {O : Addr → Prop} {H : Hp} : ∀ {vs : List V} {ds : List D}, Reps K O H vs ds → ds.map Slot.of = ds.map .val
  | _, _, .nil => rfl
  | _, _, .cons r t => by rw [List.map_cons, List.map_cons, of_val r, ofs_val t]
theorem setup_get {ds : List D} {n i : Nat} {s : Slot} (h : (ds.map Slot.val ++ List.replicate n .none)[i]? = some s) : (∃ d, ds[i]? = some d ∧ s = .val d) ∨ s = .none := by
  by_cases hi : i < ds.length
  · rw [List.getElem?_append_left (by simpa using hi), List.getElem?_map] at h
    rw [List.getElem?_eq_getElem hi] at h ⊢
    simp only [Option.map_some, Option.some.injEq] at h
    exact .inl ⟨_, rfl, h.symm⟩
  · rw [List.getElem?_append_right (by simpa using hi), List.getElem?_replicate] at h
    split at h
    · cases h; exact .inr rfl
    · cases h
theorem entry {O : Addr → Prop} {H : Hp} {vs : List V} {ds : List D} {N : List Str} {n : Nat} (t : Trk O H) (tb : Tabs g.lts H) (r : Reps g.K O H vs ds) (hN : N.length = ds.length + n) : EI g O H none (L2.start N vs) H (ds.map Slot.val ++ List.replicate n .none) ∧ ∀ a, Own O (L2.start N vs) (ds.map Slot.val ++ List.replicate n .none) a → O a := by
  have no : ∀ {i : Nat} {xs : List D}, (ds.map Slot.val ++ List.replicate n .none)[i]? = some (.own xs) → False := fun {i xs} e => by
    rcases setup_get e with ⟨d, _, h⟩ | h <;> cases h
  have ow : ∀ a, Own O (L2.start N vs) (ds.map Slot.val ++ List.replicate n .none) a → O a := by
    rintro a (z | ⟨i, xs, z, _⟩)
    · exact z
    · exact (no z).elim
  have hl := r.length
  refine ⟨⟨by unfold L2.start; simp; omega, Sm.refl H, t, fun i d e => ?_, fun i xs e => (no e).elim, fun i _ xs _ _ e _ _ _ => (no e).elim, fun i c fs e => ?_, tb, fun i l cs e => ?_⟩, ow⟩
  · rcases setup_get e with ⟨d', h1, h2⟩ | h
    · cases h2
      obtain ⟨v, e1, e2⟩ := r.getD h1
      refine ⟨v, ?_, e2.less ow⟩
      have hi : i < vs.length := (List.getElem?_eq_some_iff.mp e1).1
      unfold L2.start
      rw [List.getElem?_append_left (by simpa using hi), List.getElem?_map, e1]
      rfl
    · cases h
  · rcases setup_get e with ⟨d', _, h⟩ | h <;> cases h
  · rcases setup_get e with ⟨d', _, h⟩ | h <;> cases h
theorem setup_getC {ds1 ds2 : List D} {l : Nat} {cs : List D} {n i : Nat} {s : Slot} (h : (ds1.map Slot.val ++ Slot.clo l cs :: ds2.map Slot.val ++ List.replicate n .none)[i]? = some s) : (∃ d, (ds1 ++ .clo l cs :: ds2)[i]? = some d ∧ i ≠ ds1.length ∧ s = .val d) ∨ (i = ds1.length ∧ s = .clo l cs) ∨ s = .none := by
  by_cases h1 : i < ds1.length
  · rw [List.append_assoc, List.getElem?_append_left (by simpa using h1), List.getElem?_map, List.getElem?_eq_getElem h1] at h
    simp only [Option.map_some, Option.some.injEq] at h
    exact .inl ⟨ds1[i], by rw [List.getElem?_append_left h1, List.getElem?_eq_getElem h1], by omega, h.symm⟩
  · rw [List.append_assoc, List.getElem?_append_right (by simpa using h1), List.length_map] at h
    cases hi : i - ds1.length with
    | zero =>
      rw [hi] at h
      simp at h
      exact .inr (.inl ⟨by omega, h.symm⟩)
    | succ m =>
      rw [hi, List.cons_append, List.getElem?_cons_succ] at h
      rcases setup_get h with ⟨d, e1, e2⟩ | e
      · exact .inl ⟨d, by rw [List.getElem?_append_right (by omega), hi, List.getElem?_cons_succ]; exact e1, by omega, e2⟩
      · exact .inr (.inr e)
theorem entryC {O : Addr → Prop} {H : Hp} {vs1 vs2 : List V} {ds1 ds2 : List D} {l : Nat} {cs : List D} {f : Addr} {N : List Str} {n : Nat} (t : Trk O H) (tb : Tabs g.lts H) (r1 : Reps g.K O H vs1 ds1) (r2 : Reps g.K O H vs2 ds2) (hN : N.length = ds1.length + 1 + ds2.length + n) (hc : g.clo f l cs) :
    EI g O H none (L2.start N (vs1 ++ .ref f :: vs2)) H (ds1.map Slot.val ++ Slot.clo l cs :: ds2.map Slot.val ++ List.replicate n .none) ∧ ∀ a, Own O (L2.start N (vs1 ++ .ref f :: vs2)) (ds1.map Slot.val ++ Slot.clo l cs :: ds2.map Slot.val ++ List.replicate n .none) a → O a := by
  have no : ∀ {i : Nat} {xs : List D}, (ds1.map Slot.val ++ Slot.clo l cs :: ds2.map Slot.val ++ List.replicate n .none)[i]? = some (.own xs) → False := fun {i xs} e => by
    rcases setup_getC e with ⟨d, _, _, h⟩ | ⟨_, h⟩ | h <;> cases h
  have ow : ∀ a, Own O (L2.start N (vs1 ++ .ref f :: vs2)) (ds1.map Slot.val ++ Slot.clo l cs :: ds2.map Slot.val ++ List.replicate n .none) a → O a := by
    rintro a (z | ⟨i, xs, z, _⟩)
    · exact z
    · exact (no z).elim
  have hl1 := r1.length
  have hl2 := r2.length
  have at_ : ∀ {i : Nat} {v : V}, (vs1 ++ V.ref f :: vs2)[i]? = some v → (L2.start N (vs1 ++ V.ref f :: vs2))[i]? = some (some v) := fun {i v} e => by
    have hi := (List.getElem?_eq_some_iff.mp e).1
    unfold L2.start
    rw [List.getElem?_append_left (by simpa using hi), List.getElem?_map, e]
    rfl
  refine ⟨⟨by unfold L2.start; simp; omega, Sm.refl H, t, fun i d e => ?_, fun i xs e => (no e).elim, fun i _ xs _ _ e _ _ _ => (no e).elim, fun i c fs e => ?_, tb, fun i l' cs' e => ?_⟩, ow⟩
  · rcases setup_getC e with ⟨d', h1, ne, h2⟩ | ⟨_, h⟩ | h
    · cases h2
      by_cases hi : i < ds1.length
      · rw [List.getElem?_append_left hi] at h1
        obtain ⟨v, e1, e2⟩ := r1.getD h1
        exact ⟨v, at_ (by rw [List.getElem?_append_left (List.getElem?_eq_some_iff.mp e1).1]; exact e1), e2.less ow⟩
      · obtain ⟨m, hm⟩ : ∃ m, i - ds1.length = m + 1 := ⟨i - ds1.length - 1, by omega⟩
        rw [List.getElem?_append_right (by omega), hm, List.getElem?_cons_succ] at h1
        obtain ⟨v, e1, e2⟩ := r2.getD h1
        exact ⟨v, at_ (by rw [List.getElem?_append_right (by omega), hl1, hm, List.getElem?_cons_succ]; exact e1), e2.less ow⟩
    · cases h
    · cases h
  · rcases setup_getC e with ⟨d, _, _, h⟩ | ⟨_, h⟩ | h <;> cases h
  · rcases setup_getC e with ⟨d, _, _, h⟩ | ⟨hi, h⟩ | h
    · cases h
    · cases h
      exact ⟨f, at_ (by rw [hi, ← hl1]; simp), hc⟩
    · cases h
theorem fin_post {T : Tb} {n j : Nat} {O : Addr → Prop} {H : Hp} {Q : VK} {E : XK} {b : List CS} {ρ : Rho} {σ : St} (I : EI g O H none σ H ρ) (ow : ∀ a, Own O σ ρ a → O a)
    (q : match (evSs T b ρ).fin with
    | .ok d => ∀ v H', Sm H H' → Rep g.K O H' v d → Q v H'
    | .err c fs => ∀ d H', Sm H H' → XF g O H' c fs d → E (.ref (g.cAd c)) (some d) H'
    | .stuck => False) : rS g O H none (fun cls d _ H' => E cls d H') (evSs T b) { nx := fun _ H' => Q .non H', rt := Q } σ H := by
  refine ⟨_, I, ?_⟩
  cases ev : evSs T b ρ with
  | nx ρ => rw [ev] at q; exact fun σ' H' I' _ => q .non H' I'.same .non
  | ret x => rw [ev] at q; exact q
  | err c fs ρ => rw [ev] at q; exact fun d σ' H' I' _ x => q d H' I'.same (x.less fun _ z => own_O z)
  | bk ρ => rw [ev] at q; exact q.elim
  | ct ρ => rw [ev] at q; exact q.elim
  | stuck => rw [ev] at q; exact q.elim
theorem body_post {hot : Bool} {n j : Nat} {d : Fd} {N : List Str} {vs : List V} {H : Hp} {Q : VK} {E : XK} (hf : P.fn j = some d) (hN : N.length = d.ns) (hle : d.np ≤ d.ns) (h : spF g ⟨hot, P.run (n + 1), P.sub, P.glb⟩ j d.np vs H Q E) :
    ∃ O : Addr → Prop, Trk O H ∧ rS g O H none (fun cls d _ H' => E cls d H') (evSs ⟨hot, P.run n, P.sub, P.glb⟩ d.body) { nx := fun _ H' => Q .non H', rt := Q } (L2.start N vs) H := by
  obtain ⟨hl, O, ds, t, tb, r, q⟩ := h
  have dl : ds.length = d.np := by rw [← r.length, hl]
  obtain ⟨I, ow⟩ := entry (n := d.ns - d.np) (N := N) t tb r (by omega)
  refine ⟨O, t, fin_post (n := n) (j := j) I ow ?_⟩
  have e : P.run (n + 1) hot j ds = (evSs ⟨hot, P.run n, P.sub, P.glb⟩ d.body (ds.map .val ++ List.replicate (d.ns - d.np) .none)).fin := by
    simp only [Pg.run, hf]
    rw [if_pos dl]
    split
    · rw [ofs_val r]
    · rfl
  rw [← e]
  exact q
abbrev Cfg.wc (g : Cfg) (c : Addr → Nat → List D → Prop) : Cfg := { g with clo := c }
theorem ExF.wc {c : Nat} {cl : Addr → Nat → List D → Prop} (e : ExF g c) : ExF (g.wc cl) c := ⟨e.ask, e.hd, e.no⟩
theorem ExN.wc {k c : Nat} {x : Str} {ps : List Str} {cl : Addr → Nat → List D → Prop} (e : ExN g k c x ps) : ExN (g.wc cl) k c x ps := ⟨e.T, e.iC, e.tI, e.ok, e.bd, e.mg, e.nd⟩
theorem Pf.wc {sub : Nat → Nat → Bool} {glb : Nat → D} {cl : Addr → Nat → List D → Prop} (p : Pf g sub glb) : Pf (g.wc cl) sub glb :=
  ⟨p.con, p.tab, p.nb, p.em, p.kit, fun c => (p.exf c).wc, p.kv, p.cmg, fun c h1 h2 => (p.exn c h1 h2).wc, p.bi⟩
theorem FnF.wc {T : Tb} {k j : Nat} {x : Str} {ps : List Str} {cl : Addr → Nat → List D → Prop} (f : FnF g T k j x ps) : FnF (g.wc cl) T k j x ps := ⟨f.ok, f.hk, f.mg, f.kp, f.bd⟩
structure DefB (g : Cfg) (P : Pg) (j : Nat) : Prop where
  ex : ∃ (d : Fd) (x qual : Str) (params : Arguments) (body : List Stmt) (sc : Scope) (N : List Str), P.fn j = some d ∧ N.length = d.ns ∧ d.np ≤ d.ns ∧ (g.fPs j).length = d.np ∧ FunD g.K x qual params body sc [] [] (g.fAd j) (g.fFd j) ∧ FnScope N (g.fPs j) sc ∧
    ∀ (c : Addr → Nat → List D → Prop) (T : Tb) (k : Nat) (W : WX) (X : Cx) (O : Addr → Prop) (H0 : Hp), T.sub = P.sub → T.glb = P.glb → Trk O H0 → Sc (g.wc c) T (k + 2) W N sc (fun _ => true) X → Fr2 X → CloR (g.wc c) T X W H0 → HoF (g.wc c) T (k + 2) → (g.mkr j = true → LmX g X) → X.env.qual = (envOfC qual sc 0 0 .none).qual → SSs (g.wc c) O H0 none W T X body d.body
  mg : g.mg (g.fNm j) = some (.ref (g.fAd j))
  bd : Binds g.K (g.fFd j) (g.fPs j) []
  ho : P.ho j = g.ho j
structure LamB (g : Cfg) (P : Pg) (l : Nat) : Prop where
  ex : ∃ (d : Fd) (N : List Str) (ce : CE), P.fn l = some d ∧ d.body = [.ret ce] ∧ d.np = (g.lam l).ps.length + (g.lam l).fr.length ∧ d.ns = d.np ∧ N.length = d.np ∧ NdefX.NScope N (g.lam l).ps (g.lam l).fr (g.lam l).scope ∧
    (∀ (q : Str) (cl : List (Str × Addr)) (pm cdv ctv : Value) (us : List Value), us.length = (g.lam l).ps.length → bindArgs (PySem.W.kla_fn "<lambda>" q (g.lam l).params (g.lam l).body (g.lam l).scope cl pm cdv ctv) ⟨us, []⟩ = pure ((g.lam l).ps.zip us)) ∧
    ∀ (T : Tb) (k : Nat) (W : WX) (X : Cx) (O : Addr → Prop) (H0 : Hp), T.sub = P.sub → T.glb = P.glb → Trk O H0 → Sc g T (k + 2) W N (g.lam l).scope (fun _ => false) X → SE g O H0 none W T X (g.lam l).body ce
  ho : P.ho l = false
abbrev tbl (P : Pg) (n : Nat) (hot : Bool) : Tb := ⟨hot, P.run n, P.sub, P.glb⟩
abbrev Facts (g : Cfg) (P : Pg) (n : Nat) : Prop := ∀ (hot : Bool) (j : Nat), j < g.nF → FnF g (tbl P n hot) (n + 2) j (g.fNm j) (g.fPs j)
abbrev HFacts (g : Cfg) (P : Pg) (n : Nat) : Prop := HoF g (tbl P n false) (n + 2)
theorem len_spF {T : Tb} {j np : Nat} : ∀ vs H Q E, spF g T j np vs H Q E → vs.length = np := fun _ _ _ _ h => h.1
def MkT (g : Cfg) : Prop := ∀ j, j < g.nF → g.mkr j = true → ∃ c P, (g.fFd j).code = .ref c ∧ LamX.TabB g.base g.mg c P ∧ P ∈ g.lts
theorem facts0 (hd : ∀ j, j < g.nF → DefB g P j) : Facts g P 0 := fun hot j hj => by
  obtain ⟨d, x, qual, params, body, sc, N, h1, h2, h3, h4, F, S, der⟩ := (hd j hj).ex
  have nev : ∀ {np vs H Q E}, ¬ spF g (tbl P 0 hot) j np vs H Q E := fun {np vs H Q E} ⟨_, _, _, _, _, _, z⟩ => z
  refine ⟨fun _ => F.ok S len_spF fun _ _ _ _ _ _ _ _ _ h => (nev h).elim, fun _ => ?_, (hd j hj).mg, F.kp, (hd j hj).bd⟩
  obtain ⟨oc, od, dV, kV, doc, pm, an, cdv, ct, osl, e, lk, hcd, _, _⟩ := F.ex
  rw [e] at lk ⊢
  exact L2H.fn_ofH lk hcd S len_spF fun _ _ _ _ _ _ _ _ _ _ h => (nev h).elim
theorem hot_ho {T : Tb} {k : Nat} (h : T.hot = true) : HoF g T k := fun z => by rw [h] at z; cases z
theorem factsS (pf : Pf g P.sub P.glb) (hd : ∀ j, j < g.nF → DefB g P j) (hm : MkT g) (hc : ∀ f l cs, ¬ g.clo f l cs) {n : Nat} (ih : Facts g P n) (hh : HFacts g P n) : Facts g P (n + 1) := fun hot j hj => by
  obtain ⟨d, x, qual, params, body, sc, N, h1, h2, h3, h4, F, S, der⟩ := (hd j hj).ex
  have sp : ∀ {vs H Q E}, spF g (tbl P (n + 1) hot) j (g.fPs j).length vs H Q E → spF g (tbl P (n + 1) hot) j d.np vs H Q E := fun {vs H Q E} h => by rw [← h4]; exact h
  have noC : ∀ T X W H0, CloR g T X W H0 := fun T X W H0 f l cs z => (hc f l cs z).elim
  obtain ⟨oc, od, dV, kV, doc, pm, an, cdv, ct, osl, e, lk, hcd, _, _⟩ := id F.ex
  have lmx : ∀ {X : Cx}, X.base = g.base → X.mg = g.mg → X.env.code = cdv → g.mkr j = true → LmX g X := fun {X} e1 e2 e3 hmk => by
    obtain ⟨c, P', z1, z2, z3⟩ := hm j hj hmk
    rw [e] at z1
    exact ⟨c, P', by rw [e1, e2]; exact z2, e3.trans z1, z3⟩
  refine ⟨fun hh0 => ?_, fun hh0 => ?_, (hd j hj).mg, F.kp, (hd j hj).bd⟩
  · subst hh0
    have key := fn_of (P := g.P) (w := g.w) (mg := g.mg) (base := g.base) (CX := L2N.CX g.P g.w) (k := n + 2) (sp := spF g (tbl P (n + 1) false) j (g.fPs j).length) (by rw [← e]; exact lk) hcd S len_spF fun A outer s H vs Q E hr h => by
      obtain ⟨O, t, q⟩ := body_post h1 h2 h3 (sp h)
      refine ⟨_, der g.clo (tbl P n false) n (fun cls d _ H' => E cls d H') _ O H rfl rfl t ?_ ⟨rfl, rfl⟩ (noC _ _ _ _) hh (lmx rfl rfl rfl) rfl, q⟩
      exact { N := rfl, sc := rfl, of := ⟨rfl, rfl, rfl, rfl, rfl⟩, md := ⟨fun _ => ⟨rfl, hr⟩, fun z => (by cases z)⟩, tk := L2N.takes_of rfl rfl rfl rfl, po := PassesOwn.leaving, fn := fun _ _ => rfl, nd := S.nd, pf := pf, fs := fun j hj => ih false j hj, fh := fun j hj => ih true j hj }
    rw [e]
    exact key
  · subst hh0
    rw [e] at lk ⊢
    refine L2H.fn_ofH lk hcd S len_spF fun A outer s H vs Q E p hot1 hr h => ?_
    obtain ⟨O, t, q⟩ := body_post h1 h2 h3 (sp h)
    refine ⟨_, der g.clo (tbl P n true) n (fun cls d _ H' => E cls d H') _ O H rfl rfl t ?_ ⟨rfl, rfl⟩ (noC _ _ _ _) (hot_ho rfl) (lmx rfl rfl rfl) rfl, q⟩
    exact { N := rfl, sc := rfl, of := ⟨rfl, rfl, rfl, rfl, rfl⟩, md := ⟨fun z => (by cases z), fun _ => ⟨⟨p, hot1, List.mem_cons_self⟩, hr⟩⟩, tk := L2N.takes_of rfl rfl rfl rfl, po := PassesOwn.leaving, fn := fun _ _ => rfl, nd := S.nd, pf := pf, fs := fun j hj => ih true j hj, fh := fun j hj => ih true j hj }
theorem start_app {N : List Str} {vs ws : List V} (h : N.length = vs.length + ws.length) : NdefX.startF N vs (ws.map some) = L2.start N (vs ++ ws) := by
  unfold NdefX.startF L2.start
  have e1 : N.length - vs.length - (ws.map some).length = 0 := by rw [List.length_map]; omega
  have e2 : N.length - (vs ++ ws).length = 0 := by rw [List.length_append]; omega
  rw [e1, e2, List.map_append]
  simp
theorem clo_run (pf : Pf g P.sub P.glb) {l : Nat} (hl : g.isl l = true → LamB g P l) {n : Nat} (ih : ∀ m, m < n → Facts g P m) {N : List Str} {qual : Str} {sc : Scope} {fa f : Addr} {cdv : Value} {A : Around} {outer : List Env} {s : Shared} {H : Hp} {E : XK} {cs : List D} (at_ : LamAt g l f cs s H (frs outer))
    (hr : Room (n + 2) (A.deeper (envOfC qual sc s.heap.objs.size fa cdv))) :
    CloR (g.wc fun f' l' cs' => f' = f ∧ l' = l ∧ cs' = cs) (tbl P n false) (cxOf (L2N.CX g.P g.w) g.P g.w g.K g.mg g.base N qual sc fa cdv A outer s H E) (fun cls d _ H' => E cls d H') H := by
  rintro f' l' cs' ⟨rfl, rfl, rfl⟩
  obtain ⟨isl, q0, cl, c, ws, ⟨pm, ctv, eo⟩, n0, nf, hc, CA, rw_, hno, nfr⟩ := at_
  have keep : ∀ {pins : List (Addr × Obj)} {σ : St} {H1 : Hp} {s1 : Shared}, Inv (cxOf (L2N.CX g.P g.w) g.P g.w g.K g.mg g.base N qual sc fa cdv A outer s H E) pins σ H1 s1 → s1.heap.get? f' = some (PySem.W.kla_obj "<lambda>" q0 (g.lam l').params (g.lam l').body (g.lam l').scope cl pm c ctv) :=
    fun I => I.base.keep f' _ eo n0 nf (fun z => nomatch z)
  refine ⟨fun pins σ H1 s1 I => ⟨_, _, _, _, keep I⟩, fun pins σ H1 s1 us vs ds O' Q' I sm t' tb' rv r q => ?_⟩
  cases n with
  | zero => exact q.elim
  | succ m =>
  have HL := hl isl
  obtain ⟨d, Nl, ce, e1, e2, e3, e4, e5, S, hbind, der⟩ := HL.ex
  have er : P.run (m + 1) false l' (ds ++ cs') = if (ds ++ cs').length = d.np then (evSs (tbl P m false) d.body ((ds ++ cs').map .val ++ List.replicate (d.ns - d.np) .none)).fin else .stuck := by
    simp only [Pg.run, e1, HL.ho]
    rfl
  have q : LdE g (fun cls d _ H' => E cls d H') O' σ H1 (P.run (m + 1) false l' (ds ++ cs')) Q' := q
  rw [er] at q
  by_cases dl : (ds ++ cs').length = d.np
  · rw [if_pos dl, e2, e4, Nat.sub_self] at q
    have lw : ws.length = (g.lam l').fr.length := by
      have z := CA.len
      rw [List.length_map] at z
      exact z
    have lc : cs'.length = ws.length := rw_.length.symm
    have hlv : vs.length = (g.lam l').ps.length := by
      rw [List.length_append] at dl
      rw [r.length]; omega
    have CA1 := NdefX.CellsAt.later (X := cxOf (L2N.CX g.P g.w) g.P g.w g.K g.mg g.base N qual sc fa cdv A outer s H E) CA nfr (fun _ _ _ h => nomatch h) I
    have rc : Reps g.K O' H1 ws cs' := (rw_.gro (Gro.of sm)).any hno
    obtain ⟨J, ow⟩ := entry (g := g) (N := Nl) (n := 0) t' tb' (r.app rc) (by rw [e5, ← dl]; rfl)
    have fin : LdE g (fun cls d _ H' => E cls d H') (Own O' (L2.start Nl (vs ++ ws)) ((ds ++ cs').map Slot.val ++ List.replicate 0 .none)) (L2.start Nl (vs ++ ws)) H1 (evE (tbl P m false) ce ((ds ++ cs').map Slot.val ++ List.replicate 0 .none)) Q' := by
      cases ev : evE (tbl P m false) ce ((ds ++ cs').map Slot.val ++ List.replicate 0 .none) with
      | ok x =>
        have ef : (evSs (tbl P m false) [.ret ce] ((ds ++ cs').map Slot.val ++ List.replicate 0 .none)).fin = .ok x := by simp only [evSs, evS, ev]; rfl
        rw [ef] at q
        exact fun v H' s' x' => q v H' s' (x'.less fun _ z => own_O z)
      | err k fs =>
        have ef : (evSs (tbl P m false) [.ret ce] ((ds ++ cs').map Slot.val ++ List.replicate 0 .none)).fin = .err k fs := by simp only [evSs, evS, ev]; rfl
        rw [ef] at q
        exact fun d' H' s' x' => q d' H' s' (x'.less fun _ z => own_O z)
      | stuck =>
        have ef : (evSs (tbl P m false) [.ret ce] ((ds ++ cs').map Slot.val ++ List.replicate 0 .none)).fin = .stuck := by simp only [evSs, evS, ev]; rfl
        rw [ef] at q
        exact q.elim
    refine wpAny_call (codeAny_mono (lam_run (N := Nl) (CX := L2N.CX g.P g.w) (k := m + 2) (F := ⟨(g.lam l').params, (g.lam l').body, (g.lam l').scope, q0, cl, c⟩) (E := E) (Q := Q') S hr I.env0 ⟨pm, ctv, keep I⟩ (sm _ _ hc fun ps z => LamX.codeO_ne ps z) CA1 rv hlv (fun pm ctv => hbind _ _ _ _ _ us (by rw [← rv.length]; exact hlv))
      (fun hr2 => der (tbl P m false) m (fun cls d _ H' => E cls d H') _ O' H1 rfl rfl t' { N := rfl, sc := rfl, of := ⟨rfl, rfl, rfl, rfl, rfl⟩, md := ⟨fun _ => ⟨rfl, hr2⟩, fun z => (by cases z)⟩, tk := L2N.takes_of rfl rfl rfl rfl, po := PassesOwn.leaving, fn := fun _ z => (by cases z), nd := S.nd, pf := pf, fs := fun j hj => ih m (Nat.lt_succ_self m) false j hj, fh := fun j hj => ih m (Nat.lt_succ_self m) true j hj })
      (by rw [start_app (by rw [e5, e3, hlv, lw])]; exact ⟨_, J, fin⟩)) fun res s2 z => ?_)
    cases res with
    | error e => exact L2N.passAt (X := cxOf (L2N.CX g.P g.w) g.P g.w g.K g.mg g.base N qual sc fa cdv A outer s H E) (W := fun cls d _ H' => E cls d H') (L2N.takes_of rfl rfl rfl rfl) σ pins H1 s1 e s2 I z
    | ok fl =>
      cases fl with
      | ret u => exact I.after z
      | _ => exact False.elim z
  · rw [if_neg dl] at q
    exact q.elim
theorem hfacts0 : HFacts g P 0 := fun _ _ _ _ _ _ _ _ _ _ _ _ _ _ _ _ _ _ _ _ _ _ _ _ _ _ _ _ _ q => q.elim
theorem hfactsS (pf : Pf g P.sub P.glb) (hd : ∀ j, j < g.nF → DefB g P j) (hm : MkT g) (hl : ∀ l, g.isl l = true → LamB g P l) {n : Nat} (ih : ∀ m, m ≤ n → Facts g P m) (hh : HFacts g P n) : HFacts g P (n + 1) := by
  intro _ j A outer s H us vs1 vs2 ds1 l cs ds2 f O Q E hj hho hr e0 hb rv hlen r1 r2 t tb at_ q
  obtain ⟨d, x, qual, params, body, sc, N, h1, h2, h3, h4, F, S, der⟩ := (hd j hj).ex
  obtain ⟨oc, od, dV, kV, doc, pm, an, cdv, ct, osl, e, lk, hcd, _, _⟩ := id F.ex
  have dl : (ds1 ++ D.clo l cs :: ds2).length = d.np := by
    rw [← h4, ← hlen, List.length_append, List.length_append, List.length_cons, List.length_cons, r1.length, r2.length]
  have er : P.run (n + 1) false j (ds1 ++ .clo l cs :: ds2) = (evSs (tbl P n false) d.body (ds1.map Slot.val ++ Slot.clo l cs :: ds2.map Slot.val ++ List.replicate (d.ns - d.np) .none)).fin := by
    simp only [Pg.run, h1, (hd j hj).ho, hho]
    rw [if_pos dl]
    simp only [if_true, List.map_append, List.map_cons, ofs_val r1, ofs_val r2]
    rfl
  have dl2 : ds1.length + 1 + ds2.length = d.np := by
    rw [List.length_append, List.length_cons] at dl; omega
  obtain ⟨I, ow⟩ := entryC (g := g.wc fun f' l' cs' => f' = f ∧ l' = l ∧ cs' = cs) (n := d.ns - d.np) (N := N) t tb r1 r2 (by omega) ⟨rfl, rfl, rfl⟩
  have q' : match (evSs (tbl P n false) d.body (ds1.map Slot.val ++ Slot.clo l cs :: ds2.map Slot.val ++ List.replicate (d.ns - d.np) .none)).fin with
    | .ok d => ∀ v H', Sm H H' → Rep g.K O H' v d → Q v H'
    | .err c fs => ∀ d H', Sm H H' → XF g O H' c fs d → E (.ref (g.cAd c)) (some d) H'
    | .stuck => False := by
    rw [← er]; exact q
  have lmx : ∀ {X : Cx}, X.base = g.base → X.mg = g.mg → X.env.code = cdv → g.mkr j = true → LmX g X := fun {X} e1 e2 e3 hmk => by
    obtain ⟨c, P', z1, z2, z3⟩ := hm j hj hmk
    rw [e] at z1
    exact ⟨c, P', by rw [e1, e2]; exact z2, e3.trans z1, z3⟩
  refine LamX.run_ofS (P := g.P) (w := g.w) (mg := g.mg) (base := g.base) (CX := L2N.CX g.P g.w) (N := N) (ps := g.fPs j) (k := n + 2) (by rw [← e]; exact lk) hcd S hr e0 (by rw [← e]; exact hb) rv hlen fun hr' => ?_
  refine ⟨_, der (fun f' l' cs' => f' = f ∧ l' = l ∧ cs' = cs) (tbl P n false) n (fun cls d _ H' => E cls d H') _ O H rfl rfl t ?_ ⟨rfl, rfl⟩ (clo_run pf (hl l) (fun m hm => ih m (Nat.le_of_lt hm)) at_ hr') hh (lmx rfl rfl rfl) rfl, fin_post (g := g.wc fun f' l' cs' => f' = f ∧ l' = l ∧ cs' = cs) (n := n) (j := j) I ow q'⟩
  exact { N := rfl, sc := rfl, of := ⟨rfl, rfl, rfl, rfl, rfl⟩, md := ⟨fun _ => ⟨rfl, hr'⟩, fun z => (by cases z)⟩, tk := L2N.takes_of rfl rfl rfl rfl, po := PassesOwn.leaving, fn := fun _ _ => rfl, nd := S.nd, pf := pf.wc, fs := fun j hj => (ih n (Nat.le_refl n) false j hj).wc, fh := fun j hj => (ih n (Nat.le_refl n) true j hj).wc }
theorem factsA (pf : Pf g P.sub P.glb) (hd : ∀ j, j < g.nF → DefB g P j) (hm : MkT g) (hl : ∀ l, g.isl l = true → LamB g P l) (hc : ∀ f l cs, ¬ g.clo f l cs) : ∀ n, (∀ m, m ≤ n → Facts g P m) ∧ HFacts g P n
  | 0 => ⟨fun m h => by cases Nat.le_zero.mp h; exact facts0 hd, hfacts0⟩
  | n + 1 => by
    obtain ⟨h1, h2⟩ := factsA pf hd hm hl hc n
    refine ⟨fun m h => ?_, hfactsS pf hd hm hl h1 h2⟩
    rcases Nat.lt_or_eq_of_le h with z | rfl
    · exact h1 m (Nat.le_of_lt_succ z)
    · exact factsS pf hd hm hc (h1 n (Nat.le_refl n)) h2
theorem facts (pf : Pf g P.sub P.glb) (hd : ∀ j, j < g.nF → DefB g P j) (hm : MkT g) (hl : ∀ l, g.isl l = true → LamB g P l) (hc : ∀ f l cs, ¬ g.clo f l cs) (n : Nat) : Facts g P n := (factsA pf hd hm hl hc n).1 n (Nat.le_refl n)
end
end Ev
end
section
set_option Elab.async false
set_option linter.all false
set_option maxRecDepth 100000
set_option maxHeartbeats 2000000
namespace Ev
variable [Nm]
open PySem PySem.Spec PyProof.Rows L2
theorem kbn_of {K : PySem.W.Frag} {x qual : Str} {params : Arguments} {body : List Stmt} {scope : Scope} {f : Addr} {fd : FuncData} {ps ks : List Str} {n : Nat} {perm : List Nat} (F : FunD K x qual params body scope [] [] f fd)
    (hp : ∀ i ∈ perm, i < n + ks.length)
    (h : ∀ (kV doc pm : Value) (an : Option Addr) (cdv ct : Value) (us ws : List Value), us.length = n → ws.length = ks.length → bindArgs (PySem.W.fnOf x qual params body scope .none kV doc pm an cdv ct) ⟨us, ks.zip ws⟩ = pure (ps.zip (perm.map fun i => (us ++ ws).getD i .none))) :
    KBn K fd ps n ks (fun us ws => perm.map fun i => (us ++ ws).getD i .none) (fun vs zs => perm.map fun i => (vs ++ zs).getD i .non) := by
  obtain ⟨oc, od, dV, kV, doc, pm, an, cdv, ct, osl, rfl, lk, hcd, hD, hK⟩ := F.ex
  rcases hD with ⟨_, rfl⟩ | ⟨e, _⟩
  · refine ⟨fun s us ws X l1 l2 => .of_eq (h kV doc pm an cdv ct us ws l1 l2), fun {vs us zs ws} r1 r2 => ?_⟩
    have ra := Vals.append r1 r2
    clear hp h lk
    induction perm with
    | nil => exact .nil
    | cons i perm ih =>
      refine .cons ?_ ih
      cases e : (vs ++ zs)[i]? with
      | some v =>
        obtain ⟨u, hu, ru⟩ := ra.get e
        show RelV ((vs ++ zs).getD i .non) ((us ++ ws).getD i .none)
        rw [List.getD_eq_getElem?_getD, List.getD_eq_getElem?_getD, e, hu]
        exact ru
      | none =>
        have hu := ra.none_of e
        show RelV ((vs ++ zs).getD i .non) ((us ++ ws).getD i .none)
        rw [List.getD_eq_getElem?_getD, List.getD_eq_getElem?_getD, e, hu]
        rfl
  · exact absurd rfl e
def lamsIn : List Expr → List (Arguments × Expr × Scope)
  | [] => []
  | .Lambda a b s _ :: r => (a, b, s) :: lamsIn r
  | _ :: r => lamsIn r
def lamsOf : Stmt → List (Arguments × Expr × Scope)
  | .Return (some (.Call _ args _ _)) _ => lamsIn args
  | .Expr (.Call _ args _ _) _ => lamsIn args
  | _ => []
def lamD (P : Program) (top i k : Nat) (ps fr : List Str) (j : Nat) : LmD :=
  let x := (lamsOf ((defBody (P.main.body.getD top (.Pass ⟨0, 0, 0, 0⟩))).getD i (.Pass ⟨0, 0, 0, 0⟩))).getD k (⟨[], [], none, [], [], none, []⟩, .Name "x" ⟨0, 0, 0, 0⟩, default)
  ⟨ps, fr, x.1, x.2.1, x.2.2, j⟩
structure FnI where
  name : Str
  top : Nat
  ps : List Str
  deriving Inhabited
structure ClI where
  name : Str
  top : Nat
  ini : Nat
  fl : List Str
  ps : List Str
  deriving Inhabited
structure Md' where
  prog : Program
  fns : List FnI
  cls : List ClI
  sub : List (List Bool)
  cons : List (Str × D)
  tabs : List (Str × List (Str × D))
  bins : List (Str × String)
  lams : List LmD
  mks : List Nat
  hos : List Nat
instance : Inhabited LmD := ⟨⟨[], [], ⟨[], [], none, [], [], none, []⟩, .Name "x" ⟨0, 0, 0, 0⟩, default, 0⟩⟩
section
variable (M : Md')
def Md'.tf : List He.Defn := M.mks.map fun j => ((M.fns.getD j default).name, none)
def Md'.stm (i : Nat) : Stmt := M.prog.main.body.getD i (.Pass ⟨0, 0, 0, 0⟩)
def Md'.ix (c : Nat) : Nat := if c < M.cls.length then c else 0
def Md'.cl (c : Nat) : ClI := M.cls.getD (M.ix c) default
def Md'.subB (c k : Nat) : Bool := (M.sub.getD (M.ix c) []).getD (M.ix k) false
def fdAt (K : PySem.W.Frag) (a : Addr) : FuncData := match K.lookup a with
  | some ⟨_, _, .func fd, _⟩ => fd
  | _ => default
def Md'.cfg (K : PySem.W.Frag) (w : World) (mg : Str → Option Value) (base : Heap) : Cfg where
  P := M.prog
  w := w
  K := K
  mg := mg
  base := base
  fNm j := (M.fns.getD j default).name
  fPs j := (M.fns.getD j default).ps
  fAd j := He.ga K (M.fns.getD j default).name
  fFd j := fdAt K (He.ga K (M.fns.getD j default).name)
  cNm c := (M.cl c).name
  cFl c := (M.cl c).fl
  cAd c := He.ga K (M.cl c).name
  cIn c := He.ma K (He.ga K (M.cl c).name) "__init__"
  cFd c := fdAt K (He.ma K (He.ga K (M.cl c).name) "__init__")
  cPs c := (M.cl c).ps
  nF := M.fns.length
  nC := M.cls.length
  cons := M.cons
  tabs := M.tabs
  bins := M.bins
  lts := M.tf.map fun p => (He.cT K p).2
  lam l := M.lams.getD (l - M.fns.length) default
  mkr j := M.mks.contains j
  ho j := M.hos.contains j
  isl l := decide (M.fns.length ≤ l) && decide (l < M.fns.length + M.lams.length)
  clo := fun _ _ _ => False
def Md'.fnD (f : FnI) : He.DefD := ⟨(f.name, none), f.name, f.name, defArgs (M.stm f.top), defBody (M.stm f.top), defScope (M.stm f.top), [], []⟩
def Md'.clD (c : ClI) : He.DefD := ⟨(c.name, some "__init__"), "__init__", c.name ++ ".__init__", defArgs (L2.inClass (M.stm c.top) c.ini), defBody (L2.inClass (M.stm c.top) c.ini), defScope (L2.inClass (M.stm c.top) c.ini), [], []⟩
def Md'.defs : List He.DefD := M.fns.map M.fnD ++ (M.cls.filter fun c => !c.ps.isEmpty).map M.clD
def askB (K : PySem.W.Frag) (D : Addr) : Bool :=
  decide (PySem.W.findIn K (.ref D) "__getattribute__" = some (some (.builtin "BaseException.__getattribute__"))) && decide (PySem.W.findIn K (.ref D) "__getattr__" = some none) && decide (PySem.W.subIn K (.ref D) (.type "BaseException") = some true) && (PySem.W.clsIn K D).isSome &&
  decide (PySem.W.findIn K (.ref D) "__class__" = some (some (.builtin "object.__class__"))) && decide (PySem.W.specialIn K (.builtin "object.__class__") "__get__" = some (some (.builtin "getset_descriptor.__get__"))) && decide (PySem.W.takesIn K (.builtin "object.__class__") = some true) && decide (PySem.W.mroIn K D (.type "object") = some true)
theorem askB_ok {K : PySem.W.Frag} {D : Addr} (h : askB K D = true) : PySem.W.ClsAsk K D := by
  unfold askB at h
  simp only [Bool.and_eq_true, decide_eq_true_eq] at h
  obtain ⟨⟨⟨⟨⟨⟨⟨h1, h2⟩, h3⟩, h4⟩, h5⟩, h6⟩, h7⟩, h8⟩ := h
  exact ⟨h1, h2, h3, h4, h5, h6, h7, h8⟩
def exfB (K : PySem.W.Frag) (c : ClI) : Bool := askB K (He.ga K c.name) && PySem.W.hasDictIn K (He.ga K c.name) && c.fl.all fun n => decide (PySem.W.findIn K (.ref (He.ga K c.name)) n = some none)
def oexB (K : PySem.W.Frag) (C : Addr) : Bool := (match K.lookup C with
  | some ⟨.type t, _, .cls cd, sl⟩ => (match cd.mro, sl.toList with
    | .ref C' :: bm, [_, _, _, _, some (.builtin n), _] => t == "type" && C' == C && n == "ValueError.__new__" && !cd.hasDel && cd.hasDict && PySem.HandSPX.refsVE bm
    | _, _ => false)
  | _ => false) && decide (PySem.W.findIn K (.ref C) "__setattr__" = some (some (.builtin "object.__setattr__"))) && decide (PySem.W.subIn K (.ref C) (.type "BaseException") = some true) && decide (PySem.W.typeIn K (.ref C) = some (.type "type")) && PySem.W.keepIn K (.ref C)
theorem oexB_ok {K : PySem.W.Frag} {C : Addr} (h : oexB K C = true) : OexC K C := by
  unfold oexB at h
  simp only [Bool.and_eq_true, decide_eq_true_eq] at h
  obtain ⟨⟨⟨⟨h1, h2⟩, h3⟩, h4⟩, h5⟩ := h
  refine ⟨?_, h2, h3, h4, h5⟩
  split at h1
  · rename_i t dd cd sl ho
    split at h1
    · rename_i C' bm k0 k1 k2 k3 n k5 hm hs
      simp only [Bool.and_eq_true, beq_iff_eq, Bool.not_eq_true'] at h1
      obtain ⟨⟨⟨⟨⟨rfl, rfl⟩, rfl⟩, hdel⟩, hdict⟩, hr⟩ := h1
      obtain ⟨nm, bs, mro, ns, qn, hd, sn, sub, ab, col, del⟩ := cd
      dsimp only at hm hdel hdict
      subst hm hdel hdict
      have hsl : sl = #[k0, k1, k2, k3, some (.builtin "ValueError.__new__"), k5] := by
        obtain ⟨l⟩ := sl
        simp only at hs
        rw [hs]
      subst hsl
      exact ⟨nm, qn, ns, bs, bm, sn, sub, ab, col, dd, k0, k1, k2, k3, k5, ho, hr⟩
    · cases h1
  · cases h1
def exnB (K : PySem.W.Frag) (c : ClI) : Bool := oexB K (He.ga K c.name) && He.eqO (PySem.W.findIn K (.ref (He.ga K c.name)) "__init__") (some (some (.ref (He.ma K (He.ga K c.name) "__init__")))) && decide (PySem.W.typeIn K (.ref (He.ma K (He.ga K c.name) "__init__")) = some (.type "function"))
mutual
def repB (K : PySem.W.Frag) : Value → D → Bool
  | u, .non => (match u with
    | .none => true
    | _ => false)
  | u, .bl b => (match u with
    | .bool c => c == b
    | _ => false)
  | u, .int i => (match u with
    | .int j _ => j == i
    | _ => false)
  | u, .str x => (match u with
    | .str y _ => decide (y.cps.toList = x) && txtB x
    | _ => false)
  | u, .tup ds => (match u with
    | .ref a => (match K.lookup a with
      | some ⟨.type c, none, .seq its _, _⟩ => decide (c = "tuple") && decide (its.size ≤ sizeLine) && decide (ds.length ≤ 16777216) && repBL K its.toList ds
      | _ => false)
    | _ => false)
  | _, _ => false
def repBL (K : PySem.W.Frag) : List Value → List D → Bool
  | us, [] => us.isEmpty
  | us, d :: ds => (match us with
    | u :: us => repB K u d && repBL K us ds
    | [] => false)
end
def conB (K : PySem.W.Frag) (q : Str × D) : Bool := match PySem.W.nsIn K mainGlobals q.1 with
  | some (some u) => repB K u q.2
  | _ => false
def tabB (K : PySem.W.Frag) (t : Str × List (Str × D)) : Bool := (He.Fa.glo t.1).ok K && t.2.all fun q => match PySem.W.nsIn K (He.ga K t.1) q.1 with
  | some (some u) => repB K u q.2
  | _ => false
def binB (K : PySem.W.Frag) (q : Str × String) : Bool := decide (PySem.W.nsIn K mainGlobals q.1 = some (some (.builtin q.2)))
def Md'.chk (K : PySem.W.Frag) : Bool :=
  (M.bins.all fun q => binB K q) && ((M.cons.all fun q => conB K q) && (M.tabs.all fun t => tabB K t) && (M.cls.all fun c => decide (PySem.W.kitOne K (.ref (He.ga K c.name)) (.type "ValueError") = some true)) && (
  (M.fns.all fun f => (He.Fa.glo f.name).ok K) && (M.cls.all fun c => (He.Fa.glo c.name).ok K) && (bnL.all fun x => (He.Fa.free x).ok K) && (M.cls.all fun c => exfB K c) && (M.cls.all fun c => c.ps.isEmpty || exnB K c) &&
  ((List.range M.cls.length).all fun c => (List.range M.cls.length).all fun k => decide (PySem.W.exmOne K (.ref (He.ga K (M.cl c).name)) (.ref (He.ga K (M.cl k).name)) = some (M.subB c k)) && decide (PySem.W.kitOne K (.ref (He.ga K (M.cl c).name)) (.ref (He.ga K (M.cl k).name)) = some (M.subB c k))) &&
  M.defs.all fun d => d.ok K))
abbrev AlV : Type := (Bool × List He.FnW) × List (Option (List (Option (Str × Int))))
def Md'.obsK (K : PySem.W.Frag) : AlV := ((M.chk K, M.defs.map fun d => He.fnW K d.at_), M.tabs.map fun t => He.dicW K (He.ga K t.1))
def Md'.val (w : World) : AlV := ((true, M.defs.map He.DefD.val), M.tabs.map fun t => some (He.keysIn w.params (t.2.map (·.1))))
def Md'.obsG (n : Nat) (gt : Addr → Option Obj) : AlV × Bool := (M.obsK (He.frT gt (He.asD gt n)), He.tabsB gt M.tf (He.frT gt (He.asD gt n)))
structure Md'.Says (w : World) (h : Heap) (K : PySem.W.Frag) : Prop where
  c : M.obsK K = M.val w
  hd : ∀ p ∈ M.tf, PySem.W.codeHdIn K (He.cT K p).1 (He.cT K p).2 = true
  out : ∀ p ∈ M.tf, K.lookup (He.cT K p).2 = none
  empty : ∀ p ∈ M.tf, h.get? (He.cT K p).2 = some { cls := .none, data := .fields #[] }
theorem Md'.says_of {n : Nat} {w : World} {h : Heap} (e : M.obsG n h.get? = (M.val w, true)) : M.Says w h (He.frT h.get? (He.asD h.get? n)) := by
  have e1 := congrArg Prod.fst e
  have e2 : He.tabsB h.get? M.tf (He.frT h.get? (He.asD h.get? n)) = true := congrArg Prod.snd e
  have each : ∀ p ∈ M.tf, PySem.W.codeHdIn (He.frT h.get? (He.asD h.get? n)) (He.cT (He.frT h.get? (He.asD h.get? n)) p).1 (He.cT (He.frT h.get? (He.asD h.get? n)) p).2 = true ∧ ∃ o, h.get? (He.cT (He.frT h.get? (He.asD h.get? n)) p).2 = some o ∧ He.emptyTab o = true := fun p hp => by
    have z := List.all_eq_true.mp e2 p hp
    rw [Bool.and_eq_true] at z
    refine ⟨z.1, ?_⟩
    have z2 := z.2
    split at z2
    · rename_i o ho
      exact ⟨o, ho, z2⟩
    · cases z2
  refine ⟨e1, fun p hp => (each p hp).1, fun p hp => ?_, fun p hp => ?_⟩
  · obtain ⟨_, o, h1, h2⟩ := each p hp
    exact He.frT_none h1 h2
  · obtain ⟨_, o, h1, h2⟩ := each p hp
    rw [h1, He.emptyTab_eq h2]
def Md'.hook (n : Nat) : PySem.W.Hook where
  α := AlV × Bool
  obs := fun s => M.obsG n s.heap.get?
  val := fun w => (M.val w, true)
  says := fun w h => ∃ K : PySem.W.Frag, K.In h ∧ M.Says w h K
  of := fun _ _ e => ⟨_, He.frT_in, M.says_of e⟩
  keeps := fun _ _ _ ⟨K, hK, c⟩ k => ⟨K, PySem.W.Frag.In.keeps hK k, ⟨c.c, c.hd, c.out, fun p hp => k _ _ (c.empty p hp)⟩⟩
theorem Md'.obsG_eq {n : Nat} {gt : Addr → Option Obj} {s : Shared} (h : ∀ a, gt a = s.heap.get? a) : M.obsG n gt = (M.hook n).obs s := by
  have e : gt = s.heap.get? := funext h
  rw [e] <;> rfl
theorem and7 {a b c d e f g : Bool} (h : (a && b && c && d && e && f && g) = true) : a = true ∧ b = true ∧ c = true ∧ d = true ∧ e = true ∧ f = true ∧ g = true := by
  simp only [Bool.and_eq_true] at h
  obtain ⟨⟨⟨⟨⟨⟨h1, h2⟩, h3⟩, h4⟩, h5⟩, h6⟩, h7⟩ := h
  exact ⟨h1, h2, h3, h4, h5, h6, h7⟩
variable {M} {K : PySem.W.Frag} {w : World} {mg : Str → Option Value} {base h : Heap}
theorem Md'.ix_lt (ne : M.cls ≠ []) (c : Nat) : M.ix c < M.cls.length := by
  unfold Md'.ix
  split
  · assumption
  · exact List.length_pos_iff.mpr ne
theorem Md'.ix_ix (ne : M.cls ≠ []) (c : Nat) : M.ix (M.ix c) = M.ix c := by
  have h1 := M.ix_lt ne c
  have h2 : M.ix (M.ix c) = if M.ix c < M.cls.length then M.ix c else 0 := rfl
  rw [h2, if_pos h1]
theorem Md'.cl_ix (ne : M.cls ≠ []) (c : Nat) : M.cl (M.ix c) = M.cl c := by unfold Md'.cl; rw [M.ix_ix ne]
theorem Md'.sub_ix (ne : M.cls ≠ []) (c k : Nat) : M.subB (M.ix c) (M.ix k) = M.subB c k := by unfold Md'.subB; rw [M.ix_ix ne, M.ix_ix ne]
theorem Md'.cl_mem (ne : M.cls ≠ []) (c : Nat) : M.cl c ∈ M.cls := by
  have := M.ix_lt ne c
  unfold Md'.cl
  rw [List.getD_eq_getElem?_getD, List.getElem?_eq_getElem this]
  exact List.getElem_mem this
theorem chk_all (c : M.obsK K = M.val w) : M.chk K = true := congrArg (fun z : AlV => z.1.1) c
theorem chk_of (c : M.obsK K = M.val w) : ((M.fns.all fun f => (He.Fa.glo f.name).ok K) && (M.cls.all fun c => (He.Fa.glo c.name).ok K) && (bnL.all fun x => (He.Fa.free x).ok K) && (M.cls.all fun c => exfB K c) && (M.cls.all fun c => c.ps.isEmpty || exnB K c) &&
  ((List.range M.cls.length).all fun c => (List.range M.cls.length).all fun k => decide (PySem.W.exmOne K (.ref (He.ga K (M.cl c).name)) (.ref (He.ga K (M.cl k).name)) = some (M.subB c k)) && decide (PySem.W.kitOne K (.ref (He.ga K (M.cl c).name)) (.ref (He.ga K (M.cl k).name)) = some (M.subB c k))) &&
  M.defs.all fun d => d.ok K) = true := by
  have z := chk_all c
  unfold Md'.chk at z
  rw [Bool.and_eq_true, Bool.and_eq_true] at z
  exact z.2.2
mutual
theorem repB_ok {K : PySem.W.Frag} : ∀ {u : Value} {d : D}, repB K u d = true → ∃ v, RelV v u ∧ ∀ (O : Addr → Prop) (H : Hp), Rep K O H v d
  | u, .non, h => by
    cases u <;> simp only [repB] at h <;> first | (cases h; done) | skip
    exact ⟨.non, rfl, fun _ _ => .non⟩
  | u, .bl b, h => by
    cases u <;> simp only [repB] at h <;> first | (cases h; done) | skip
    rw [beq_iff_eq] at h
    subst h
    exact ⟨.bl _, rfl, fun _ _ => .bl _⟩
  | u, .int i, h => by
    cases u <;> simp only [repB] at h <;> first | (cases h; done) | skip
    rw [beq_iff_eq] at h
    subst h
    exact ⟨.int _, ⟨_, rfl⟩, fun _ _ => .int _⟩
  | u, .str x, h => by
    cases u <;> simp only [repB] at h <;> first | (cases h; done) | skip
    rw [Bool.and_eq_true, decide_eq_true_eq] at h
    obtain ⟨rfl, h2⟩ := h
    rename_i y t
    refine ⟨.str y, ⟨_, rfl⟩, fun O H => ?_⟩
    have ok : txtOk y.cps.toList := by
      unfold txtB at h2
      simp only [Bool.and_eq_true, List.all_eq_true, decide_eq_true_eq] at h2
      exact h2
    have z := Rep.str (K := K) (O := O) (H := H) ok
    rw [sv_of] at z
    exact z
  | u, .tup ds, h => by
    cases u <;> simp only [repB] at h <;> first | (cases h; done) | skip
    rename_i a
    cases q : K.lookup a with
    | none => rw [q] at h; cases h
    | some o =>
      obtain ⟨oc, od, dt, osl⟩ := o
      rw [q] at h
      cases oc with
      | type c =>
        cases od with
        | some _ => cases dt <;> cases h
        | none =>
        cases dt with
        | seq its n =>
          simp only [Bool.and_eq_true, decide_eq_true_eq] at h
          obtain ⟨⟨⟨h1, h2⟩, h3⟩, h4⟩ := h
          obtain ⟨vs, r1, r2⟩ := repBL_ok h4
          exact ⟨.ref a, rfl, fun O H => .tup h3 (.inr ⟨_, its, n, q, congrArg Value.type h1, rfl, rfl, h2, r1⟩) (r2 O H)⟩
        | _ => cases h
      | _ => cases dt <;> cases h
  | u, .lst ds, h => by simp [repB] at h
  | u, .dct ds, h => by simp [repB] at h
  | u, .obj _ _, h => by simp [repB] at h
  | u, .frl _, h => by simp [repB] at h
  | u, .rng _ _, h => by simp [repB] at h
theorem repBL_ok {K : PySem.W.Frag} : ∀ {us : List Value} {ds : List D}, repBL K us ds = true → ∃ vs, Vals vs us ∧ ∀ (O : Addr → Prop) (H : Hp), Reps K O H vs ds
  | us, [], h => by
    simp only [repBL, List.isEmpty_iff] at h
    subst h
    exact ⟨[], .nil, fun _ _ => .nil⟩
  | [], d :: ds, h => by simp [repBL] at h
  | u :: us, d :: ds, h => by
    simp only [repBL, Bool.and_eq_true] at h
    obtain ⟨v, r1, r2⟩ := repB_ok h.1
    obtain ⟨vs, s1, s2⟩ := repBL_ok h.2
    exact ⟨v :: vs, .cons r1 s1, fun O H => .cons (r2 O H) (s2 O H)⟩
end
theorem funD_of (c : M.obsK K = M.val w) {d : He.DefD} (hd : d ∈ M.defs) : FunD K d.name d.qual d.params d.body d.scope (d.dvs K) (d.kws K) (He.fAd K d.at_) (fdAt K (He.fAd K d.at_)) := by
  have e : M.defs.map (fun d => He.fnW K d.at_) = M.defs.map He.DefD.val := congrArg (fun z : AlV => z.1.2) c
  have e1 : He.fnW K d.at_ = d.val := by
    obtain ⟨i, hi, rfl⟩ := List.getElem_of_mem hd
    have e2 : (M.defs.map fun d => He.fnW K d.at_)[i]? = (M.defs.map He.DefD.val)[i]? := by rw [e]
    rw [List.getElem?_map, List.getElem?_map, List.getElem?_eq_getElem hi] at e2
    exact Option.some.inj e2
  obtain ⟨fd, F⟩ := He.DefD.funD e1 (List.all_eq_true.mp (and7 (chk_of c)).2.2.2.2.2.2 d hd)
  obtain ⟨oc, od, dV, kV, doc, pm, an, cdv, ct, osl, hfd, lk, hcd, hD, hKw⟩ := id F.ex
  have ef : fdAt K (He.fAd K d.at_) = fd := by unfold fdAt; rw [lk]
  rw [ef]
  exact F
theorem Md'.fn_at (c : M.obsK K = M.val w) {j : Nat} {f : FnI} (hj : M.fns[j]? = some f) : FunD K f.name f.name (defArgs (M.stm f.top)) (defBody (M.stm f.top)) (defScope (M.stm f.top)) [] [] (He.ga K f.name) (fdAt K (He.ga K f.name)) :=
  funD_of c (d := M.fnD f) (List.mem_append_left _ (List.mem_map.mpr ⟨f, List.mem_of_getElem? hj, rfl⟩))
theorem Md'.in_at (c : M.obsK K = M.val w) {x : ClI} (hx : x ∈ M.cls) (hp : x.ps.isEmpty = false) : FunD K "__init__" (x.name ++ ".__init__") (defArgs (L2.inClass (M.stm x.top) x.ini)) (defBody (L2.inClass (M.stm x.top) x.ini)) (defScope (L2.inClass (M.stm x.top) x.ini)) [] [] (He.ma K (He.ga K x.name) "__init__") (fdAt K (He.ma K (He.ga K x.name) "__init__")) :=
  funD_of c (d := M.clD x) (List.mem_append_right _ (List.mem_map.mpr ⟨x, List.mem_filter.mpr ⟨hx, by rw [hp]; rfl⟩, rfl⟩))
theorem Md'.exF (c : M.obsK K = M.val w) {x : ClI} (hx : x ∈ M.cls) : PySem.W.ClsAsk K (He.ga K x.name) ∧ PySem.W.hasDictIn K (He.ga K x.name) = true ∧ ∀ n ∈ x.fl, PySem.W.findIn K (.ref (He.ga K x.name)) n = some none := by
  have z := List.all_eq_true.mp (and7 (chk_of c)).2.2.2.1 x hx
  unfold exfB at z
  simp only [Bool.and_eq_true, List.all_eq_true, decide_eq_true_eq] at z
  exact ⟨askB_ok z.1.1, z.1.2, z.2⟩
def Md'.glb (M : Md') (j : Nat) : D := match M.tabs[j]? with
  | some t => tabD t.2
  | none => .non
theorem Md'.con_ok (M : Md') (c : M.obsK K = M.val w) (X : K.In h) (G : h.Ns mainGlobals mg) {x : Str} {d : D} (hx : (x, d) ∈ M.cons) : ConF (M.cfg K w mg base) x d := by
  have z := chk_all c
  unfold Md'.chk at z
  rw [Bool.and_eq_true, Bool.and_eq_true, Bool.and_eq_true, Bool.and_eq_true] at z
  have y := List.all_eq_true.mp z.2.1.1.1 _ hx
  unfold conB at y
  split at y
  · rename_i u e
    obtain ⟨v, r1, r2⟩ := repB_ok y
    exact ⟨u, v, PySem.W.mg_of X G e, r1, r2⟩
  · cases y
theorem keys_of {P : Params} : ∀ {l : List DictEntry} {ks : List Str}, l.map He.keyOf = He.keysIn P ks → ∀ e ∈ l, ∃ x t, e.key = .str x t ∧ x ∈ ks
  | [], _, _, _, he => by cases he
  | e :: r, [], h, _, _ => by cases h
  | e :: r, k :: ks, h, y, hy => by
    have h1 : He.keyOf e :: r.map He.keyOf = some (k, PyData.keyHash P k) :: He.keysIn P ks := h
    injection h1 with h2 h3
    rcases List.mem_cons.mp hy with rfl | hy
    · unfold He.keyOf at h2
      split at h2
      · rename_i x t q
        obtain ⟨h5, _⟩ := Prod.mk.inj (Option.some.inj h2)
        exact ⟨x, t, q, by simp [h5]⟩
      · cases h2
    · obtain ⟨x, t, q, hx⟩ := keys_of h3 y hy
      exact ⟨x, t, q, List.mem_cons_of_mem _ hx⟩
theorem Md'.tab_ok (M : Md') (c : M.obsK K = M.val w) (X : K.In h) (G : h.Ns mainGlobals mg) {x : Str} {kvs : List (Str × D)} (hx : (x, kvs) ∈ M.tabs) : TabF (M.cfg K w mg base) x kvs := by
  have z := chk_all c
  unfold Md'.chk at z
  rw [Bool.and_eq_true, Bool.and_eq_true, Bool.and_eq_true, Bool.and_eq_true] at z
  have y := List.all_eq_true.mp z.2.1.1.2 _ hx
  unfold tabB at y
  rw [Bool.and_eq_true] at y
  have e : M.tabs.map (fun t => He.dicW K (He.ga K t.1)) = M.tabs.map fun t => some (He.keysIn w.params (t.2.map (·.1))) := congrArg (fun z : AlV => z.2) c
  have e1 : He.dicW K (He.ga K x) = some (He.keysIn w.params (kvs.map (·.1))) := by
    obtain ⟨i, hi, hq⟩ := List.getElem_of_mem hx
    have e2 : (M.tabs.map fun t => He.dicW K (He.ga K t.1))[i]? = (M.tabs.map fun t => some (He.keysIn w.params (t.2.map (·.1))))[i]? := by rw [e]
    rw [List.getElem?_map, List.getElem?_map, List.getElem?_eq_getElem hi, hq] at e2
    exact Option.some.inj e2
  obtain ⟨es, n, D⟩ := He.dicW_ok e1
  refine ⟨He.ga K x, es, n, He.glo_ok X G y.1, D, fun z => ⟨fun d hd => ?_, fun hn => ?_⟩⟩
  · unfold lookK at hd
    rw [Option.map_eq_some_iff] at hd
    obtain ⟨q, hq, rfl⟩ := hd
    have m := List.mem_of_find?_eq_some hq
    have ez : q.1 = z := by simpa using List.find?_some hq
    have yy := List.all_eq_true.mp y.2 q m
    rw [ez] at yy
    split at yy
    · rename_i u eu
      obtain ⟨v, r1, r2⟩ := repB_ok yy
      exact ⟨u, v, eu, r1, r2⟩
    · cases yy
  · have ek : es.toList.map He.keyOf = He.keysIn w.params (kvs.map (·.1)) := by
      have e2 := e1
      unfold He.dicW at e2
      rw [D.at_] at e2
      simp only at e2
      split at e2
      · exact Option.some.inj e2
      · cases e2
    unfold PySem.W.nsIn
    show (match K.lookup (He.ga K x) with
      | some ⟨_, _, .dict es _, _⟩ => _
      | _ => _) = _
    rw [D.at_]
    have f0 : es.toList.find? (·.key.isStr z) = none := by
      rw [List.find?_eq_none]
      intro e he hs
      obtain ⟨k, t, ekk, hk⟩ := keys_of ek e he
      rw [ekk] at hs
      have : k = z := by simpa [Value.isStr] using hs
      subst this
      obtain ⟨q, hq, rfl⟩ := List.mem_map.mp hk
      unfold lookK at hn
      rw [Option.map_eq_none_iff, List.find?_eq_none] at hn
      exact hn q hq (by simp)
    have f1 : es.toList.any (·.refKey) = false := by
      rw [List.any_eq_false]
      intro e he
      obtain ⟨k, t, ekk, hk⟩ := keys_of ek e he
      simp [DictEntry.refKey, ekk]
    simp only [f0, f1]
    rfl
theorem Md'.pf (c : M.obsK K = M.val w) (ne : M.cls ≠ []) (X : K.In h) (G : h.Ns mainGlobals mg)
    (ini : ∀ i, i < M.cls.length → (M.cl i).ps.isEmpty = false → OexC K (He.ga K (M.cl i).name) → FnOk M.prog w K mg base (L2N.CX M.prog w) 1 (He.ma K (He.ga K (M.cl i).name) "__init__") (fdAt K (He.ma K (He.ga K (M.cl i).name) "__init__")) (M.cl i).ps (spI (M.cfg K w mg base) i) ∧
      Binds K (fdAt K (He.ma K (He.ga K (M.cl i).name) "__init__")) (M.cl i).ps [] ∧ (M.cl i).fl.Nodup) : Pf (M.cfg K w mg base) M.subB M.glb := by
  obtain ⟨c1, c2, c3, c4, c5, c6, c7⟩ := and7 (chk_of c)
  have pair : ∀ a b, PySem.W.exmOne K (.ref (He.ga K (M.cl a).name)) (.ref (He.ga K (M.cl b).name)) = some (M.subB a b) ∧ PySem.W.kitOne K (.ref (He.ga K (M.cl a).name)) (.ref (He.ga K (M.cl b).name)) = some (M.subB a b) := fun a b => by
    have z := List.all_eq_true.mp (List.all_eq_true.mp c6 (M.ix a) (List.mem_range.mpr (M.ix_lt ne a))) (M.ix b) (List.mem_range.mpr (M.ix_lt ne b))
    simp only [Bool.and_eq_true, decide_eq_true_eq] at z
    rw [M.cl_ix ne, M.cl_ix ne, M.sub_ix ne] at z
    exact z
  refine ⟨fun x d hx => M.con_ok c X G hx, fun j x kvs hj => ⟨M.tab_ok c X G (List.mem_of_getElem? hj), by
    have hj' : M.tabs[j]? = some (x, kvs) := hj
    show M.glb j = _
    unfold Md'.glb
    rw [hj']⟩, fun x hx => ?_, fun a b => (pair a b).1, fun a b => (pair a b).2, fun a => ?_, fun a => ?_, fun a _ => ?_, fun a ha hp => ?_, fun x id hx => ?_⟩
  · exact He.free_ok X G (List.all_eq_true.mp c3 x (List.contains_iff_mem.mp hx))
  · obtain ⟨z1, z2, z3⟩ := M.exF c (M.cl_mem ne a)
    exact ⟨z1, z2, z3⟩
  · have z := chk_all c
    unfold Md'.chk at z
    rw [Bool.and_eq_true, Bool.and_eq_true, Bool.and_eq_true, Bool.and_eq_true] at z
    exact of_decide_eq_true (List.all_eq_true.mp z.2.1.2 _ (M.cl_mem ne a))
  · exact He.glo_ok X G (List.all_eq_true.mp c2 _ (M.cl_mem ne a))
  · have z := List.all_eq_true.mp c5 _ (M.cl_mem ne a)
    have hp' : (M.cl a).ps.isEmpty = false := hp
    rw [hp', Bool.false_or] at z
    unfold exnB at z
    simp only [Bool.and_eq_true, decide_eq_true_eq] at z
    have T := oexB_ok z.1.1
    obtain ⟨ok, bd, nd⟩ := ini a ha hp' T
    exact ⟨T, He.eqO_ok z.1.2, z.2, ok, bd, He.glo_ok X G (List.all_eq_true.mp c2 _ (M.cl_mem ne a)), nd⟩
  · have z := chk_all c
    unfold Md'.chk at z
    rw [Bool.and_eq_true] at z
    exact PySem.W.mg_of X G (of_decide_eq_true (List.all_eq_true.mp z.1 _ hx))
theorem Md'.defB {P : Pg} (c : M.obsK K = M.val w) (X : K.In h) (G : h.Ns mainGlobals mg) {j : Nat} {f : FnI} (hj : M.fns[j]? = some f) {d : Fd} {N : List Str} (h1 : P.fn j = some d) (h2 : N.length = d.ns) (h3 : d.np ≤ d.ns) (h4 : f.ps.length = d.np) (S : FnScope N f.ps (defScope (M.stm f.top)))
    (bd : ∀ (kV doc pm : Value) (an : Option Addr) (cdv ct : Value) (us : List Value), us.length = f.ps.length → bindArgs (PySem.W.fnOf f.name f.name (defArgs (M.stm f.top)) (defBody (M.stm f.top)) (defScope (M.stm f.top)) .none kV doc pm an cdv ct) ⟨us, []⟩ = pure (f.ps.zip us))
    (der : ∀ (cl : Addr → Nat → List D → Prop) (T : Tb) (k : Nat) (W : WX) (X : Cx) (O : Addr → Prop) (H0 : Hp), T.sub = P.sub → T.glb = P.glb → Trk O H0 → Sc ((M.cfg K w mg base).wc cl) T (k + 2) W N (defScope (M.stm f.top)) (fun _ => true) X → Fr2 X → CloR ((M.cfg K w mg base).wc cl) T X W H0 → HoF ((M.cfg K w mg base).wc cl) T (k + 2) →
      ((M.cfg K w mg base).mkr j = true → LmX (M.cfg K w mg base) X) → X.env.qual = (envOfC f.name (defScope (M.stm f.top)) 0 0 .none).qual → SSs ((M.cfg K w mg base).wc cl) O H0 none W T X (defBody (M.stm f.top)) d.body) (hho : P.ho j = M.hos.contains j) : DefB (M.cfg K w mg base) P j := by
  have e : M.fns.getD j default = f := by rw [List.getD_eq_getElem?_getD, hj]; rfl
  have F := M.fn_at c hj
  have eN : (M.cfg K w mg base).fNm j = f.name := by show (M.fns.getD j default).name = _; rw [e]
  have eP : (M.cfg K w mg base).fPs j = f.ps := by show (M.fns.getD j default).ps = _; rw [e]
  have eA : (M.cfg K w mg base).fAd j = He.ga K f.name := by show He.ga K (M.fns.getD j default).name = _; rw [e]
  have eF : (M.cfg K w mg base).fFd j = fdAt K (He.ga K f.name) := by show fdAt K (He.ga K (M.fns.getD j default).name) = _; rw [e]
  refine ⟨⟨d, f.name, f.name, defArgs (M.stm f.top), defBody (M.stm f.top), defScope (M.stm f.top), N, h1, h2, h3, by rw [eP]; exact h4, by rw [eA, eF]; exact F, by rw [eP]; exact S, der⟩, ?_, ?_, hho⟩
  · rw [eN, eA]
    exact He.glo_ok X G (List.all_eq_true.mp (and7 (chk_of c)).1 f (List.mem_of_getElem? hj))
  · rw [eF, eP]
    exact F.bindsN bd
theorem Md'.mkT (s : M.Says w h K) (tb : ∀ p ∈ M.tf.map fun p => He.cT K p, LamX.TabB base mg p.1 p.2) : MkT (M.cfg K w mg base) := fun j hj hm => by
  have hm' : j ∈ M.mks := List.contains_iff_mem.mp hm
  have hp : ((M.fns.getD j default).name, none) ∈ M.tf := List.mem_map.mpr ⟨j, hm', rfl⟩
  have hf : M.fns[j]? = some (M.fns.getD j default) := by
    have hj' : j < M.fns.length := hj
    rw [List.getD_eq_getElem?_getD, List.getElem?_eq_getElem hj']
    rfl
  obtain ⟨oc, od, dV, kV, doc, pm, an, cdv, ct, osl, e, lk, hcd, _, _⟩ := (M.fn_at s.c hf).ex
  obtain ⟨c, rfl⟩ := He.codeIn_ref hcd
  have ec : He.codeOf K ((M.fns.getD j default).name, none) = c := He.codeOf_eq lk (by rw [e])
  refine ⟨c, (He.cT K ((M.fns.getD j default).name, none)).2, ?_, ?_, List.mem_map.mpr ⟨_, hp, rfl⟩⟩
  · show (fdAt K (He.ga K (M.fns.getD j default).name)).code = _
    rw [e]
  · have z := tb _ (List.mem_map.mpr ⟨_, hp, rfl⟩)
    have z1 : (He.cT K ((M.fns.getD j default).name, none)).1 = c := ec
    rw [z1] at z
    exact z
end
end Ev
end
section
set_option Elab.async false
set_option linter.all false
set_option maxRecDepth 100000
set_option maxHeartbeats 2000000
namespace Ev
variable [Nm]
open PySem PySem.Spec PyProof.Rows L2
theorem spI_len {g : Cfg} {c : Nat} : ∀ vs H Q E, spI g c vs H Q E → vs.length = (g.cFl c).length + 1 := fun vs H Q E ⟨a, ws, e, l, _⟩ => by rw [e, List.length_cons, l]
def nmOk (x : Str) : Bool := !(x == ("__debug__" : Str)) && !(x == ("__classdict__" : Str))
theorem nmOk_is {x : Str} (h : nmOk x = true) : (x == ("__debug__" : Str)) = false ∧ (x == ("__classdict__" : Str)) = false := by
  unfold nmOk at h
  rw [Bool.and_eq_true] at h
  exact ⟨by simpa using h.1, by simpa using h.2⟩
theorem ini2 {g : Cfg} {x qual : Str} {params : Arguments} {body : List Stmt} {sc : Scope} {f : Addr} {fd : FuncData} {c : Nat} {f0 f1 self p0 p1 : Str} {q0 q1 q2 q3 q4 q5 q6 q7 : Pos} (F : FunD g.K x qual params body sc [] [] f fd) (S : FnScope [self, p0, p1] [self, p0, p1] sc)
    (hb : body = [.Assign [.Attribute (.Name self q0) f0 q1] (.Name p0 q2) q3, .Assign [.Attribute (.Name self q4) f1 q5] (.Name p1 q6) q7]) (hf : g.cFl c = [f0, f1]) (T : OexC g.K (g.cAd c)) (no : ∀ n ∈ g.cFl c, PySem.W.findIn g.K (.ref (g.cAd c)) n = some none)
    (k0 : nmOk self = true) (k1 : nmOk p0 = true) (k2 : nmOk p1 = true) : FnOk g.P g.w g.K g.mg g.base (L2N.CX g.P g.w) 1 f fd [self, p0, p1] (spI g c) := by
  refine F.ok S (fun vs H Q E h => by rw [spI_len vs H Q E h, hf]; rfl) fun cdv A outer s H vs Q E hr h => ⟨_, ?_, init2_sp hf rfl T (no _ (by rw [hf]; simp)) (no _ (by rw [hf]; simp)) h⟩
  rw [hb]
  have vis : ∀ y ∈ [self, p0, p1], Vis sc y := fun y hy => (S.par y hy).elim .inl fun z => .inr (.inl z)
  exact init2 rfl (vis _ (by simp)) (vis _ (by simp)) (vis _ (by simp)) (nmOk_is k0).1 (nmOk_is k1).1 (nmOk_is k2).1 (nmOk_is k0).2 (nmOk_is k1).2 (nmOk_is k2).2
def CXw (P : Program) : CXT := fun outer H s E u s' => ∃ w, L2N.CX P w outer H s E u s'
theorem fnOk_cx {P : Program} {w : World} {K : PySem.W.Frag} {mg : Str → Option Value} {base : Heap} {k : Nat} {f : Addr} {fd : FuncData} {ps : List Str} {sp : Sp} (F : FnOk P w K mg base (L2N.CX P w) k f fd ps sp) : FnOk P w K mg base (CXw P) k f fd ps sp :=
  ⟨F.len, fun A outer s H args us vs Q E hr e0 hb r h => codeAny_mono (F.run A outer s H args us vs Q E hr e0 hb r h) fun r s' z => by
    cases r with
    | error e => exact ⟨w, z⟩
    | ok fl => cases fl <;> exact z⟩
theorem CXn_no {P : Program} {w : World} (H : Hp) (s : Shared) (e : Value) (s' : Shared) : L2N.CX P w [] H s (fun _ _ _ => False) e s' → False := fun ⟨_, _, _, _, _, _, _, _, _, _, _, _, z⟩ => z
theorem CXw_no {P : Program} (H : Hp) (s : Shared) (e : Value) (s' : Shared) : CXw P [] H s (fun _ _ _ => False) e s' → False := fun ⟨_, _, _, _, _, _, _, _, _, _, _, _, _, z⟩ => z
theorem rep_script {K : PySem.W.Frag} {H : Hp} {a : Addr} {ns : List Int} (hS : SqL K H a (ns.map V.int)) (hl : ns.length ≤ 63) : Rep K (fun _ => False) H (.ref a) (.frl (ns.map .int)) :=
  .frl (by simp; omega) (.of_sq hS) (Reps.ints ns)
theorem law_sp {g : Cfg} {P : Pg} {n j : Nat} {K : PySem.W.Frag} (hK : g.K = K) {H : Hp} {a : Addr} {ns : List Int} (hO : Tabs g.lts H) (hS : SqL K H a (ns.map V.int)) (hl : ns.length ≤ 63) (e : P.run n false j [.frl (ns.map .int)] = .ok (.bl true)) :
    spF g (tbl P n false) j 1 [.ref a] H (fun v _ => v = .bl true) (fun _ _ _ => False) := by
  refine ⟨rfl, fun _ => False, [.frl (ns.map .int)], fun _ z => z.elim, hO, by rw [hK]; exact .cons (rep_script hS hl) .nil, ?_⟩
  have e' : (tbl P n false).call (tbl P n false).hot j [.frl (ns.map .int)] = .ok (.bl true) := e
  rw [e']
  intro v H' _ r
  cases r
  rfl
end Ev
end
section
set_option Elab.async false
set_option linter.all false
set_option maxRecDepth 100000
set_option maxHeartbeats 4000000
namespace Ev
variable [Nm]
open PySem PySem.Spec PyProof.Rows L2
section
variable {g : Cfg} {O : Addr → Prop} {H0 H H' : Hp} {xi : Option XI} {σ σ' : St} {ρ ρ' : Rho} {W : WX} {X : Cx} {T : Tb} {k : Nat} {N : List Str} {sc : Scope} {fb : Str → Bool}
theorem slots0_is (tg : Tgt) : tg.slots0 = tg.slots := by cases tg <;> rfl
theorem wipe0_is : ∀ vs : List Nat, wipe0 ρ vs = wipeR ρ vs
  | [] => rfl
  | v :: vs => by simp only [wipe0, wipeR, wipe0_is vs]
theorem wipeR_app (b : List Nat) : ∀ a : List Nat, wipeR ρ (a ++ b) = wipeR (wipeR ρ b) a
  | [] => rfl
  | v :: a => by simp only [List.cons_append, wipeR, wipeR_app b a]
theorem wipe_app (b : List Nat) : ∀ a : List Nat, wipe σ (a ++ b) = wipe (wipe σ b) a
  | [] => rfl
  | v :: a => by simp only [List.cons_append, wipe, wipe_app b a]
theorem setAll_own : ∀ {is : List Nat} {ds : List D} {ρ ρ1 : Rho} {j : Nat}, setAll is ds ρ = .ok ρ1 → isOwn ρ1[j]? = true → isOwn ρ[j]? = true
  | [], [], ρ, ρ1, j, h, q => by simp only [setAll] at h; cases h; exact q
  | [], _ :: _, _, _, _, h, _ => by simp [setAll] at h
  | _ :: _, [], _, _, _, h, _ => by simp [setAll] at h
  | i :: is, d :: ds, ρ, ρ1, j, h, q => by
    simp only [setAll] at h
    have := setAll_own h q
    by_cases hij : i = j
    · subst hij
      by_cases hl : i < ρ.length
      · rw [List.getElem?_set_self hl] at this; simp [isOwn] at this
      · rw [List.getElem?_eq_none (by rw [List.length_set]; omega)] at this; simp [isOwn] at this
    · rwa [List.getElem?_set_ne hij] at this
theorem bind_own {tg : Tgt} {d : D} {ρ1 : Rho} {j : Nat} (h : bindT tg d ρ = .ok ρ1) (q : isOwn ρ1[j]? = true) : isOwn ρ[j]? = true := by
  cases tg with
  | nm i =>
    simp only [bindT] at h
    exact setAll_own (is := [i]) (ds := [d]) (by simp only [setAll]; exact h) q
  | tp is =>
    cases d <;> simp only [bindT] at h <;> try (cases h; done)
    all_goals exact setAll_own h q
theorem compM_cons {f : D → R (List D)} {d : D} {ds : List D} {ys : List D} (h : compM f (d :: ds) = .ok ys) : ∃ o r, f d = .ok o ∧ compM f ds = .ok r ∧ ys = o ++ r := by
  simp only [compM] at h
  cases h1 : f d with
  | ok o =>
    rw [h1] at h
    cases h2 : compM f ds with
    | ok r => rw [h2] at h; cases h; exact ⟨o, r, rfl, rfl, rfl⟩
    | err c fs => rw [h2] at h; cases h
    | stuck => rw [h2] at h; cases h
  | err c fs => rw [h1] at h; cases h
  | stuck => rw [h1] at h; cases h
theorem compM_ne {f : D → R (List D)} : ∀ {ds : List D} (c : Nat) (fs : List D), compM f ds ≠ .err c fs
  | [], c, fs, h => by cases h
  | d :: ds, c, fs, h => by
    simp only [compM] at h
    cases h1 : f d with
    | ok o =>
      rw [h1] at h
      cases h2 : compM f ds with
      | ok r => rw [h2] at h; cases h
      | err c fs => rw [h2] at h; cases h
      | stuck => rw [h2] at h; cases h
    | err c fs => rw [h1] at h; cases h
    | stuck => rw [h1] at h; cases h
def turn1 (T : Tb) (tg : Tgt) (elt : CE) (ρ : Rho) (d : D) : R (Option D) := bindT tg d ρ >>= fun ρ2 => evE T elt ρ2 >>= fun y => pure (some y)
def turn2 (T : Tb) (tg tg1 : Tgt) (it1 : CI) (elt : CE) (ρ : Rho) (d : D) : R (List D) := bindT tg d (wipe0 ρ tg1.slots0) >>= fun ρ1 => if ownIt ρ1 it1 then .stuck else (evI T it1 ρ1 >>= fun zs => compL (turn1 T tg1 elt ρ1) zs)
theorem evC2_is {tg tg1 : Tgt} {it it1 : CI} {elt : CE} (hx : T.hot = false) : evE T (.cmp2 tg it tg1 it1 elt) ρ = if tgOwn ρ tg || tgOwn ρ tg1 then .stuck else (evI T it ρ >>= fun xs => compM (turn2 T tg tg1 it1 elt ρ) xs >>= fun ys => if ys.length ≤ 16777216 then pure (.lst ys) else .stuck) := by
  show (if T.hot = true then _ else _) = _
  rw [if_neg (by rw [hx]; decide)]
  rfl
theorem evC2_hot {tg tg1 : Tgt} {it it1 : CI} {elt : CE} (hx : T.hot = true) : evE T (.cmp2 tg it tg1 it1 elt) ρ = .stuck := by
  show (if T.hot = true then _ else _) = _
  rw [if_pos hx]
theorem EI.chgO {D : Addr} {Ha Hb : Hp} {vs : List V} (I : EI g O H0 xi σ Ha ρ) (hD : O D) (hne : ∀ (i : Nat) (xs : List Ev.D) (a : Addr), ρ[i]? = some (.own xs) → σ[i]? = some (some (.ref a)) → a ≠ D)
    (keep : ∀ b o, b ≠ D → Ha b = some o → (∀ ps, o ≠ .tbl ps) → Hb b = some o) (eD : Hb D = some (.lst vs)) (s : Sm H0 Hb) (tb : Tabs g.lts Hb) : EI g O H0 xi σ Hb ρ := by
  obtain ⟨vs0, e0⟩ := I.trk D hD
  have gr : Gro (Own O σ ρ) Ha Hb := fun b o e nt => by
    by_cases hb : b = D
    · subst hb
      rw [e0] at e
      cases e
      exact .inr ⟨.inl hD, vs0, rfl⟩
    · exact .inl (keep b o hb e nt)
  refine ⟨I.len, s, fun a z => ?_, fun i d e => ?_, fun i xs e => ?_, I.inj, fun i c fs e => ?_, tb, I.clo⟩
  · by_cases hb : a = D
    · subst hb
      exact ⟨vs, eD⟩
    · obtain ⟨xs, e⟩ := I.trk a z
      exact ⟨xs, keep _ _ hb e (fun _ z => nomatch z)⟩
  · obtain ⟨v, h1, h2⟩ := I.val i d e
    exact ⟨v, h1, h2.gro gr⟩
  · obtain ⟨a, ws, h1, h2, h3, h4, h5⟩ := I.own i xs e
    exact ⟨a, ws, h1, keep _ _ (hne i xs a e h1) h2 (fun _ z => nomatch z), h3, h4.gro gr, h5⟩
  · obtain ⟨x, h1, h2, h3, h4, h5⟩ := I.exc i c fs e
    exact ⟨x, h1, h2, h3, h4, h5.gro gr⟩
theorem s_cmp2L {ct ct1 : Tgt} {ci ci1 : CI} {ce : CE} {vs0 : List Nat} (how : vs0 = ct.slots ++ ct1.slots) (hx : T.hot = false) : ∀ σ H Q, rE g O H0 xi W (evE T (.cmp2 ct ci ct1 ci1 ce)) σ H Q →
      tLc2 (rI g O H0 xi W (evI T ci) (ownIt · ci)) (xG fun O => rG g O H0 xi ct) (xT fun O => rT g O H0 xi WF (evT T .yes)) (fun σ H R => ∃ O, rI g O H0 xi WF (evI T ci1) (ownIt · ci1) σ H R) (xG fun O => rG g O H0 xi ct1) (xT fun O => rT g O H0 xi WF (evT T .yes)) (xE fun O => rE g O H0 xi WF (evE T ce)) vs0 ct1.slots σ H Q := by
  rintro σ H Q ⟨ρ, I, q⟩
  rw [evC2_is hx] at q
  by_cases ho : (tgOwn ρ ct || tgOwn ρ ct1) = true
  · rw [if_pos ho] at q; exact q.elim
  rw [if_neg ho] at q
  rw [Bool.or_eq_true, not_or] at ho
  have hno := slots_no (Bool.eq_false_iff.mpr ho.1)
  have hno1 := slots_no (Bool.eq_false_iff.mpr ho.2)
  have hnoA : ∀ i ∈ ct.slots ++ ct1.slots, isOwn ρ[i]? = false := fun i hi => (List.mem_append.mp hi).elim (hno i) (hno1 i)
  refine ⟨ρ, I, LdE.bindG q fun xs H1 hxs s1 q1 J wk D hD => ?_⟩
  obtain ⟨ll, G, Y, w, hG, gs, _, gy⟩ := wk (fun a => Own O σ ρ a ∨ a = D) (by rintro a (z | rfl); exact .inl z; exact .inr hD)
  cases hcomp : compM (turn2 T ct ct1 ci1 ce ρ) xs with
  | err c fs => exact (compM_ne _ _ hcomp).elim
  | stuck => rw [hcomp] at q1; exact q1.elim
  | ok ys =>
    rw [hcomp] at q1
    simp only [ok_bind] at q1
    by_cases hys' : ¬ ys.length ≤ 16777216
    · rw [if_neg hys'] at q1; exact q1.elim
    have hys : ys.length ≤ 16777216 := by omega
    rw [if_pos hys] at q1
    have I1 := I.more s1
    have hDO : ¬ Own O σ ρ D := I1.trkO.no hD
    have ow : ∀ {σ : St} {ρ : Rho}, Own (fun a => O a ∨ a = D) σ ρ = fun a => Own O σ ρ a ∨ a = D := fun {σ ρ} => funext fun a => propext (own_add a)
    rw [how]
    let P : Nat → Hp → Prop := fun i H2 => Sm H1 H2 ∧ ∃ vs acc rest, H2 D = some (.lst vs) ∧ Reps g.K (fun a => Own O σ ρ a ∨ a = D) H2 vs acc ∧ compM (turn2 T ct ct1 ci1 ce ρ) (xs.drop i) = .ok rest ∧ acc ++ rest = ys
    refine ⟨fun i m H2 => m = xs.length - i ∧ i ≤ xs.length ∧ P i H2, ⟨xs.length, by simp, Nat.zero_le _, same_upd hD, [], [], ys, upd_same, .nil, hcomp, rfl⟩, ?_⟩
    rintro i m H2 ⟨rfl, hi, s2, vs, acc, rest, eD, ra, hr, hy⟩
    have hG2 := gs _ _ s2 hG
    by_cases hlt : i < xs.length
    · refine .inr ⟨w.goes i H2 hlt hG2, P (i + 1), fun H' p' => ⟨xs.length - (i + 1), by omega, rfl, hlt, p'⟩, fun x H3 y => ?_⟩
      have y' := w.yields i H2 x H3 hlt hG2 y
      obtain ⟨s3, d, hd, rx⟩ := gy i H2 x H3 hlt hG2 y'
      have hdrop : xs.drop i = d :: xs.drop (i + 1) := by
        rw [List.drop_eq_getElem_cons hlt]
        congr 1
        rw [List.getElem?_eq_getElem hlt] at hd
        exact Option.some.inj hd
      rw [hdrop] at hr
      obtain ⟨o, r, h1, h2, h3⟩ := compM_cons hr
      unfold turn2 at h1
      rw [slots0_is, wipe0_is] at h1
      cases hb : bindT ct d (wipeR ρ ct1.slots) with
      | err c fs => rw [hb] at h1; cases h1
      | stuck => rw [hb] at h1; cases h1
      | ok ρ1 =>
        rw [hb] at h1
        simp only [ok_bind] at h1
        by_cases hoi : ownIt ρ1 ci1 = true
        · rw [if_pos hoi] at h1; cases h1
        rw [if_neg hoi] at h1
        have eD3 := s3 _ _ eD (fun _ z => nomatch z)
        have I3 := I1.addO hD (s2.trans s3) eD3
        have Iw := I3.wipeAll (ct.slots ++ ct1.slots)
        have ow1 := own_wipe (O := fun a => O a ∨ a = D) (σ := σ) hnoA
        have hb' : bindT ct d (wipeR ρ (ct.slots ++ ct1.slots)) = .ok ρ1 := by rw [wipeR_app]; exact bind_wipe hb
        refine ⟨fun a => O a ∨ a = D, wipeR ρ (ct.slots ++ ct1.slots), d, ρ1, Iw, by rw [ow1, ow]; exact rx, hb', fun σ1 J1 o1 o2 k1 l1 => ?_⟩
        have hle : σ1.length = σ.length := l1.trans (wipe_length ..)
        have kk : ∀ j, (ct.slots ++ ct1.slots).contains j = false → σ1[j]? = σ[j]? ∧ ρ1[j]? = ρ[j]? := fun j hj => by
          have hj1 : ct.slots.contains j = false := by
            simp only [List.contains_eq_mem, List.mem_append, decide_eq_false_iff_not, not_or] at hj ⊢
            exact hj.1
          obtain ⟨a1, a2⟩ := k1 j hj1
          exact ⟨a1.trans (wipe_at hj), a2.trans (wipeR_at hj)⟩
        have hno2 : ∀ i ∈ ct1.slots, isOwn ρ1[i]? = false := fun i hi => by
          cases hq : isOwn ρ1[i]? with
          | false => rfl
          | true =>
            have := bind_own hb hq
            rw [isOwn_wipe hno1 (hno1 i hi)] at this
            cases this
        have hno3 : ∀ i ∈ ct.slots, isOwn ρ1[i]? = false := fun i hi => by
          cases hq : isOwn ρ1[i]? with
          | false => rfl
          | true =>
            have := bind_own hb hq
            rw [isOwn_wipe hno1 (hno i hi)] at this
            cases this
        have ow2 : Own (fun a => O a ∨ a = D) σ1 ρ1 = fun a => Own O σ ρ a ∨ a = D := by
          rw [← ow, ← ow1]
          funext a
          exact propext ⟨o1 a, o2 (slots_no' fun i hi => isOwn_wipe hnoA (hno i hi)) a⟩
        have hne : ∀ (i : Nat) (zs : List Ev.D) (a : Addr), ρ1[i]? = some (.own zs) → σ1[i]? = some (some (.ref a)) → a ≠ D := fun i zs a e1 e2 e3 => by
          subst e3
          have hc : (ct.slots ++ ct1.slots).contains i = false := by
            cases hc : (ct.slots ++ ct1.slots).contains i with
            | false => rfl
            | true =>
              have hm : i ∈ ct.slots ++ ct1.slots := by simpa using hc
              have : isOwn ρ1[i]? = false := (List.mem_append.mp hm).elim (hno3 i) (hno2 i)
              rw [e1] at this
              simp [isOwn] at this
          obtain ⟨b1, b2⟩ := kk i hc
          rw [b1] at e2
          rw [b2] at e1
          exact hDO (.inr ⟨i, zs, e1, e2⟩)
        have hw : wipe σ1 (ct.slots ++ ct1.slots) = wipe (wipe σ (ct.slots ++ ct1.slots)) (ct.slots ++ ct1.slots) := by
          apply List.ext_getElem?
          intro j
          cases hj : (ct.slots ++ ct1.slots).contains j with
          | false => rw [wipe_at hj, (kk j hj).1, wipe_at hj, wipe_at hj]
          | true =>
            by_cases hlt' : j < σ.length
            · rw [wipe_in hj (by rw [hle]; exact hlt'), wipe_in hj (by rw [wipe_length]; exact hlt')]
            · rw [List.getElem?_eq_none (by rw [wipe_length]; omega), List.getElem?_eq_none (by rw [wipe_length, wipe_length]; omega)]
        refine ⟨hw.trans (wipe_wipe ..), fun a => O a ∨ a = D, ρ1, J1, fun H4 s4 => ?_⟩
        refine Eq.mpr (if_pos rfl) ?_
        refine ⟨fun a => O a ∨ a = D, ρ1, J1.more s4, ?_⟩
        cases hz : evI T ci1 ρ1 with
        | err c fs => rw [hz] at h1; exact (compL_ne (f := turn1 T ct1 ce ρ1) (ds := []) c fs (by cases h1)).elim
        | stuck => rw [hz] at h1; cases h1
        | ok zs =>
          rw [hz] at h1
          simp only [ok_bind] at h1
          intro H5 s5 J5 wk5
          obtain ⟨l5, G5, Y5, w5, hG5, _, gs5, gy5⟩ := wk5 (fun a => Own O σ ρ a ∨ a = D) (by rw [ow2]; exact fun a z => .inl z)
          have gs5 := gs5 (Bool.eq_false_iff.mpr hoi)
          have eD5 : H5 D = some (.lst vs) := s5 _ _ (s4 _ _ eD3 (fun _ z => nomatch z)) (fun _ z => nomatch z)
          have s35 := (s3.trans s4).trans s5
          have ra5 := ra.gro (Gro.of s35)
          let P1 : Nat → Hp → Prop := fun j H6 => Sm H1 H6 ∧ (∀ b o, b ≠ D → H5 b = some o → (∀ ps, o ≠ .tbl ps) → H6 b = some o) ∧ ∃ vs' acc' rest', H6 D = some (.lst vs') ∧ Reps g.K (fun a => Own O σ ρ a ∨ a = D) H6 vs' acc' ∧ compL (turn1 T ct1 ce ρ1) (zs.drop j) = .ok rest' ∧ acc' ++ rest' = acc ++ o
          have gro5 : ∀ H6, (∀ b o, b ≠ D → H5 b = some o → (∀ ps, o ≠ .tbl ps) → H6 b = some o) → (∃ vs', H6 D = some (.lst vs')) → Gro (fun a => Own O σ ρ a ∨ a = D) H5 H6 := fun H6 kp _ b o e nt => by
            by_cases hb : b = D
            · subst hb
              rw [eD5] at e
              cases e
              exact .inr ⟨.inr rfl, vs, rfl⟩
            · exact .inl (kp b o hb e nt)
          refine ⟨fun j m H6 => m = zs.length - j ∧ j ≤ zs.length ∧ P1 j H6, ⟨zs.length, by simp, Nat.zero_le _, s2.trans s35, fun b o _ e _ => e, vs, acc, o, eD5, ra5, by rw [List.drop_zero]; exact h1, rfl⟩, ?_⟩
          rintro j m H6 ⟨rfl, hj, s6, kp, vs', acc', rest', eD6, ra6, hr6, hy6⟩
          have hG6 := gs5 _ _ (gro5 H6 kp ⟨_, eD6⟩) hG5
          by_cases hlt6 : j < zs.length
          · refine .inr ⟨w5.goes j H6 hlt6 hG6, P1 (j + 1), fun H' p' => ⟨zs.length - (j + 1), by omega, rfl, hlt6, p'⟩, fun x H7 y => ?_⟩
            have y' := w5.yields j H6 x H7 hlt6 hG6 y
            obtain ⟨s7, e, he, re⟩ := gy5 j H6 x H7 hlt6 hG6 y'
            have hdrop6 : zs.drop j = e :: zs.drop (j + 1) := by
              rw [List.drop_eq_getElem_cons hlt6]
              congr 1
              rw [List.getElem?_eq_getElem hlt6] at he
              exact Option.some.inj he
            rw [hdrop6] at hr6
            obtain ⟨oo, r6, g1, g2, g3⟩ := compL_cons hr6
            unfold turn1 at g1
            cases hb1 : bindT ct1 e ρ1 with
            | err c fs => rw [hb1] at g1; cases g1
            | stuck => rw [hb1] at g1; cases g1
            | ok ρ2 =>
              rw [hb1] at g1
              simp only [ok_bind] at g1
              have eD7 := s7 _ _ eD6 (fun _ z => nomatch z)
              have J5' := (J1.more (s4.trans s5)).chgO (.inr rfl) hne (fun b o hb e nt => s7 _ _ (kp b o hb e nt) nt) eD7 (I1.same.trans (s6.trans s7)) (Tabs.sm (Tabs.sm I1.tab s6) s7)
              have Jw := J5'.wipeAll ct1.slots
              have ow3 := own_wipe (O := fun a => O a ∨ a = D) (σ := σ1) hno2
              refine ⟨fun a => O a ∨ a = D, wipeR ρ1 ct1.slots, e, ρ2, Jw, by rw [ow3, ow2]; exact re, bind_wipe hb1, fun σ2 K1 p1 p2 k2 l2 => ?_⟩
              have ow4 : Own (fun a => O a ∨ a = D) σ2 ρ2 = fun a => Own O σ ρ a ∨ a = D := by
                rw [← ow2, ← ow3]
                funext a
                exact propext ⟨p1 a, p2 (slots_no' fun i hi => isOwn_wipe hno2 (hno2 i hi)) a⟩
              have hw2 : wipe σ2 ct1.slots = wipe (wipe σ1 ct1.slots) ct1.slots := by
                apply List.ext_getElem?
                intro j
                cases hj : ct1.slots.contains j with
                | false => rw [wipe_at hj, (k2 j hj).1, wipe_at hj, wipe_at hj, wipe_at hj]
                | true =>
                  have hle2 : σ2.length = σ1.length := l2.trans (wipe_length ..)
                  by_cases hlt' : j < σ1.length
                  · rw [wipe_in hj (by rw [hle2]; exact hlt'), wipe_in hj (by rw [wipe_length]; exact hlt')]
                  · rw [List.getElem?_eq_none (by rw [wipe_length]; omega), List.getElem?_eq_none (by rw [wipe_length, wipe_length]; omega)]
              refine ⟨hw2.trans (wipe_wipe ..), fun a => O a ∨ a = D, ρ2, K1, fun H8 s8 => ?_⟩
              refine Eq.mpr (if_pos rfl) ?_
              refine ⟨fun a => O a ∨ a = D, ρ2, K1.more s8, ?_⟩
              cases hel : evE T ce ρ2 with
              | err c fs => rw [hel] at g1; cases g1
              | stuck => rw [hel] at g1; cases g1
              | ok yv =>
                rw [hel] at g1
                cases g1
                intro v H9 s9 r9
                rw [ow4] at r9
                have s79 := (s7.trans s8).trans s9
                have eD9 : H9 D = some (.lst vs') := s9 _ _ (s8 _ _ eD7 (fun _ z => nomatch z)) (fun _ z => nomatch z)
                have grow : Gro (fun a => Own O σ ρ a ∨ a = D) H9 (upd H9 D (.lst (vs' ++ [v]))) := fun b u e _ => by
                  by_cases hb : b = D
                  · subst hb
                    rw [eD9] at e
                    cases e
                    exact .inr ⟨.inr rfl, vs', rfl⟩
                  · exact .inl (by rw [upd_ne hb]; exact e)
                have hl : vs'.length < sizeLine := by
                  have a1 := ra6.length
                  have a2 : (acc' ++ rest').length = (acc ++ o).length := by rw [hy6]
                  have a3 : (acc ++ rest).length = ys.length := by rw [hy]
                  rw [g3] at a2
                  rw [h3] at a3
                  simp only [List.length_append, List.length_cons] at a2 a3
                  rw [sizeLine_eq]
                  omega
                refine ⟨vs', eD9, hl, ((s6.trans s79).trans' hD eD9), fun b u hb e nt => ?_, vs' ++ [v], acc' ++ [yv], r6, upd_same, Reps.gro grow (Reps.app (ra6.gro (Gro.of s79)) (.cons r9 .nil)), g2, ?_⟩
                · rw [upd_ne hb]
                  exact s79 _ _ (kp b u hb e nt) nt
                · rw [← hy6, g3]; simp
          · have ej : j = zs.length := by omega
            subst ej
            refine .inl ⟨w5.stops H6 hG6, s6, vs', acc', r, eD6, ra6, h2, ?_⟩
            rw [List.drop_length] at hr6
            simp only [compL] at hr6
            cases hr6
            rw [List.append_nil] at hy6
            rw [hy6, ← hy, h3, List.append_assoc]
    · have ei : i = xs.length := by omega
      subst ei
      refine .inl ⟨w.stops H2 hG2, ?_⟩
      rw [List.drop_length] at hr
      simp only [compM] at hr
      cases hr
      rw [List.append_nil] at hy
      subst hy
      exact q1 _ H2 s2 (.lst hys hDO eD (ra.less fun a z => .inl z))
abbrev BlkI (g : Cfg) (H0 : Hp) (xi : Option XI) (T : Tb) (k : Nat) (N : List Str) (sc scope : Scope) (tg e : Expr) (ci : CI) : Prop := ∀ (O : Addr → Prop) (Y : Cx), Sc g T k WF N (relS scope sc) (fun x => scope.names.lookup x == some .cell) Y → SI g O H0 xi WF T Y tg e ci
theorem u_comp2 (C : Sc g T k W N sc fb X) {tg it tg1 it1 elt : Expr} {scope : Scope} {own : List (Str × Nat)} {pos : Pos} {ct ct1 : Tgt} {ci ci1 : CI} {ce : CE} (hb : blkB N sc scope own = true) (how : own.map (·.2) = ct.slots ++ ct1.slots) (hs : ∀ x, foldedSetIterable it X.env x = pure x) (hs1 : ∀ env x, foldedSetIterable it1 env x = pure x)
    (hi : SI g O H0 xi W T X tg it ci) (hg : BlkG g H0 xi T k N sc scope tg ct) (hi1 : BlkI g H0 xi T k N sc scope tg1 it1 ci1) (hg1 : BlkG g H0 xi T k N sc scope tg1 ct1) (he : BlkE g H0 xi T k N sc scope elt ce) :
    SE g O H0 xi W T X (.ListComp elt [⟨tg, it, [], 0⟩, ⟨tg1, it1, [], 0⟩] scope pos) (.cmp2 ct ci ct1 ci1 ce) := by
  cases hot : T.hot with
  | true =>
    exact PE.by' PE.stk fun σ H Q ⟨ρ, I, q⟩ => by
      rw [evC2_hot hot] at q
      exact q
  | false =>
    exact PE.by' (pe_lc2 (vs1 := ct1.slots) (wi1 := fun σ H R => ∃ O, rI g O H0 xi WF (evI T ci1) (ownIt · ci1) σ H R) (g := xG fun O => rG g O H0 xi ct) (tt := xT fun O => rT g O H0 xi WF (evT T .yes)) (g1 := xG fun O => rG g O H0 xi ct1) (tt1 := xT fun O => rT g O H0 xi WF (evT T .yes)) (te := xE fun O => rE g O H0 xi WF (evE T ce)) (C.md.cold hot).1 C.nd hi (by rw [C.N, C.sc]; exact blkB_is hb) (fun i hi => by rw [how]; exact List.mem_append_right _ hi)
      (fun s H Cc cl fp => ⟨fun pins s' σ' H' v u Q I r ⟨O, q⟩ => (hg O _ (C.blk hot s H scope Cc cl fp)).run pins s' σ' H' v u Q I r q⟩)
      (fun s H Cc cl fp => ⟨fun pins s' σ' H' Q I ⟨O, q⟩ => (u_ifn O).run pins s' σ' H' Q I q⟩)
      (fun s H Cc cl fp => ⟨fun pins s' σ' H' R I ⟨O, q⟩ => (hi1 O _ (C.blk hot s H scope Cc cl fp)).run pins s' σ' H' R I q⟩)
      (fun s H Cc cl fp => ⟨fun pins s' σ' H' v u Q I r ⟨O, q⟩ => (hg1 O _ (C.blk hot s H scope Cc cl fp)).run pins s' σ' H' v u Q I r q⟩)
      (fun s H Cc cl fp => ⟨fun pins s' σ' H' Q I ⟨O, q⟩ => (u_ifn O).run pins s' σ' H' Q I q⟩)
      (fun s H Cc cl fp => ⟨fun pins s' σ' H' Q I ⟨O, q⟩ => (he O _ (C.blk hot s H scope Cc cl fp)).run pins s' σ' H' Q I q⟩) hs hs1) (s_cmp2L how hot)
end
end Ev
end
section
set_option Elab.async false
set_option linter.all false
set_option maxRecDepth 100000
set_option maxHeartbeats 4000000
namespace Ev
variable [Nm]
open PySem PySem.Spec PyProof.Rows L2
section
variable {X : Cx}
theorem mt_tcount : MtR X "tuple.count" (fun x xs H Q => ∃ (p : Addr) (ns : List Int) (k : Int), x = .ref p ∧ xs = [.int k] ∧ SqT X.K H p (ns.map V.int) ∧ Q (.int (ns.count k : Nat)) H) := by
  intro pins s σ H x xs v us Q I rx rxs h
  obtain ⟨p, ns, k, rfl, rfl, hs, q⟩ := h
  cases rx
  obtain ⟨u, rfl, t, rfl⟩ := rxs.one
  obtain ⟨its, rv, ⟨⟨cls, dd, data, sl⟩, ho, hc, n, hd⟩, _⟩ := I.tuple hs
  simp only at hc hd
  subst hc hd
  have hi := ints_of_vals rv
  refine call_meets PySem.F.slot_tuple_count ⟨_, ho, rfl⟩ PySem.F.entry_tuple_count (PySem.F.args_tuple_count_2 _ _)
    (SeqAt.tuple_countAt p its.toArray n dd sl (.int k t) (eqk k)) ⟨ho, fun y hy => (eqk_gives hi y (by simpa using hy)).at _ _, ?_⟩
  have ec : its.toArray.toList.countP (eqk k) = ns.count k := eqk_count hi
  exact ⟨.int (ns.count k : Nat), H, I.tok _, ⟨s.toks, by rw [ec]⟩, q⟩
def tCnt (K : PySem.W.Frag) (to : TE) (t : TA) : TE := fun σ H Q => to σ H fun x H1 => ∃ p xs, x = .ref p ∧ ((TupN K H1 p xs ∧ t σ H1 fun ys H2 => ∃ (ns : List Int) (k : Int), ys = [.int k] ∧ SqT K H2 p (ns.map V.int) ∧ Q (.int (ns.count k : Nat)) H2) ∨
  (SqL K H1 p xs ∧ t σ H1 fun ys H2 => ∃ (ns : List Int) (k : Int), ys = [.int k] ∧ SqL K H2 p (ns.map V.int) ∧ Q (.int (ns.count k : Nat)) H2))
theorem nodict_of {pins : List (Addr × Obj)} {σ : L2.St} {H : Hp} {s : Shared} {p : Addr} {xs : List V} (I : Inv X pins σ H s) (h : TupN X.K H p xs) : s.TypeIs (.ref p) "tuple" ∧ ∀ a, Value.ref p = .ref a → ∃ ob, s.heap.get? a = some ob ∧ ob.dict = none := by
  refine ⟨?_, fun a e => ?_⟩
  · obtain ⟨_, _, pl, _⟩ := I.tuple h.sq
    exact pl.typeIs
  · cases e
    rcases h with ⟨o, e, d⟩ | ⟨o, _, _, e, _, d, _⟩
    · exact ⟨o, (show ObjOk X.prog X.w H s.heap p (.frz o (.tup xs)) from I.hok p _ e).1, d⟩
    · exact ⟨o, I.kIn p o e, d⟩
theorem pe_cnt {o e : Expr} {to : TE} {t : TA} {apos cpos : Pos} (ho : PE X o to) (ha : PA X [e] t)
    (hbase : attributeBase o "count" X.env (eval o X.env) = eval o X.env)
    (hfew : ((backTo cpos (starEach [e] X.env)).all (fun x => !x.1) && (backToKw cpos (keywordEach [] X.env)).all (fun x => x.1.isSome)
      && decide ([e].length + ([] : List Keyword).length + (if ([] : List Keyword).isEmpty then 0 else 1) < 30)) = true)
    (hline : (apos.endLine == cpos.line) = true) (hs : starEach [e] X.env = (false, eval e X.env) :: starEach [] X.env) :
    PE X (.Call (.Attribute o "count" apos) [e] [] cpos) (tCnt X.K to t) := by
  refine ⟨fun pins s σ H Q I h => ?_⟩
  refine wpAny_Call_method_late hbase hfew hline rfl (thn (ho.run pins s σ H _ I h) fun v s1 ⟨x, H1, I1, r1, p, xs, ex, hh⟩ => ?_)
  subst ex
  cases r1
  rcases hh with ⟨hT, q⟩ | ⟨hT, q⟩
  · obtain ⟨h1, h2⟩ := nodict_of I1 hT
    refine ⟨"tuple", "tuple.count", PySem.F.plainAttrs_tuple, PySem.F.slot_tuple_count, PySem.F.type_tuple_count, h1, h2, ?_⟩
    have hA := ha.run cpos pins s1 σ H1 _ I1 q
    rw [hs] at hA ⊢
    refine Calls.callWith_builtin rfl (Calls.evalArgs_plain ?_)
    exact thn hA fun us s2 ⟨vs, H2, I2, r2, ns, k, ev, hS, q2⟩ => mt_tcount pins s2 σ H2 (.ref p) vs _ us Q I2 rfl r2 ⟨p, ns, k, rfl, ev, hS, q2⟩
  · obtain ⟨h1, h2⟩ := tyV_is (T := "list") (x := .ref p) I1 rfl (.inl ⟨rfl, xs, hT⟩)
    refine ⟨"list", "list.count", PySem.F.plainAttrs_list, PySem.F.slot_list_count, PySem.F.type_list_count, h1, h2, ?_⟩
    have hA := ha.run cpos pins s1 σ H1 _ I1 q
    rw [hs] at hA ⊢
    refine Calls.callWith_builtin rfl (Calls.evalArgs_plain ?_)
    exact thn hA fun us s2 ⟨vs, H2, I2, r2, ns, k, ev, hS, q2⟩ => mt_lcount pins s2 σ H2 (.ref p) vs _ us Q I2 rfl r2 ⟨p, ns, k, rfl, ev, hS, q2⟩
end
section
variable {g : Cfg} {O : Addr → Prop} {H0 : Hp} {xi : Option XI} {W : WX} {X : Cx} {T : Tb} {k : Nat} {N : List Str} {sc : Scope} {fb : Str → Bool}
theorem u_cnt (C : Sc g T k W N sc fb X) {o e : Expr} {ca cx : CE} {apos cpos : Pos} (ho : SB g O H0 xi W T X o ca) (he : SE g O H0 xi W T X e cx) (hst : notStar e = true)
    (hbase : attributeBase o "count" X.env (eval o X.env) = eval o X.env)
    (hfew : ((backTo cpos (starEach [e] X.env)).all (fun x => !x.1) && (backToKw cpos (keywordEach [] X.env)).all (fun x => x.1.isSome)
      && decide ([e].length + ([] : List Keyword).length + (if ([] : List Keyword).isEmpty then 0 else 1) < 30)) = true)
    (hline : (apos.endLine == cpos.line) = true) : SE g O H0 xi W T X (.Call (.Attribute o "count" apos) [e] [] cpos) (.cnt ca cx) :=
  PE.by' (pe_cnt ho (pa_cons he pa_nil (star_cons hst)) hbase hfew hline (star_cons hst)) fun σ H Q ⟨ρ, I, q⟩ => ⟨ρ, I, by
    simp only [evE] at q
    refine LdE.bindB q fun d v H1 _ s1 r1 q1 => ?_
    cases hsq : d.isSq with
    | false => rw [hsq] at q1; exact q1.elim
    | true =>
    rw [hsq, if_pos rfl] at q1
    have key : ∀ (ds : List D) (a : Addr) (vs : List V), Reps g.K (Own O σ ρ) H1 vs ds → (∀ w, cntD d w = (match w with
        | .int k => (match intsD ds with
          | some ns => .ok (.int (ns.count k : Nat))
          | none => .stuck)
        | _ => .stuck)) → rE g O H0 xi W (evE T cx) σ H1 fun y H2 => ∃ (ns : List Int) (k : Int), y = .int k ∧ Sm H1 H2 ∧ vs = ns.map V.int ∧ Q (.int (ns.count k : Nat)) H2 := fun ds a vs ra hc => ⟨ρ, I.more s1, LdE.bindE q1 fun w u H2 ew s2 r2 q2 => by
      clear ew
      rw [hc] at q2
      cases w <;> first | exact q2.elim | skip
      rename_i k
      cases r2
      cases hy : intsD ds with
      | none => rw [hy] at q2; exact q2.elim
      | some ns =>
        rw [hy] at q2
        exact ⟨ns, k, rfl, s2, ra.of_ints hy, q2 _ H2 (Sm.refl H2) (.int _)⟩⟩
    have mono : ∀ {S S' : V → Hp → Prop}, (∀ y H2, S y H2 → S' y H2) → rE g O H0 xi W (evE T cx) σ H1 S → rE g O H0 xi W (evE T cx) σ H1 S' := fun hS ⟨ρ', I', q'⟩ => ⟨ρ', I', by
      cases hr : evE T cx ρ' with
      | ok d => rw [hr] at q'; exact fun v H2 s2 r => hS _ _ (q' v H2 s2 r)
      | err c fs => rw [hr] at q'; exact q'
      | stuck => rw [hr] at q'; exact q'⟩
    cases d <;> first | (simp [D.isSq] at hsq; done) | skip
    · obtain ⟨a, vs, rfl, sa, ra⟩ := r1.tup_of
      refine ⟨a, vs, rfl, .inl ⟨by rw [C.of.K]; exact sa, mono (fun y H2 ⟨ns, k, e1, s2, e2, z⟩ => ⟨ns, k, by rw [e1], ?_, z⟩) (key _ a vs ra fun w => by cases w <;> rfl)⟩⟩
      rw [C.of.K, ← e2]
      exact sqT_gro (O := fun _ => False) (Gro.of s2) sa.sq
    · obtain ⟨a, vs, rfl, sa, ra⟩ := r1.lst_of
      refine ⟨a, vs, rfl, .inr ⟨SqL.of sa, mono (fun y H2 ⟨ns, k, e1, s2, e2, z⟩ => ⟨ns, k, by rw [e1], ?_, z⟩) (key _ a vs ra fun w => by cases w <;> rfl)⟩⟩
      rw [← e2]
      exact SqL.of (s2 _ _ sa (fun _ z => nomatch z))⟩
end
end Ev
end
section
set_option Elab.async false
set_option linter.all false
set_option maxRecDepth 100000
set_option maxHeartbeats 4000000
namespace Ev
variable [Nm]
open PySem PySem.Spec PyProof.Rows L2 HT
section
variable {prog : Program} {w : World} {A : Around} {E : Value → Shared → Prop} {s : Shared}
theorem adjust_rev (n : Nat) : Builtin.Slice.sliceAdjust none none (-1) (n : Int) = ((n : Int) - 1, -1) := by
  unfold Builtin.Slice.sliceAdjust
  simp
theorem places_rev (n : Nat) : Builtin.Slice.slicePlaces ((n : Int) - 1) (-1) (-1) = n := by
  unfold Builtin.Slice.slicePlaces
  rw [if_neg (by decide)]
  by_cases h : (n : Int) - 1 > -1
  · rw [if_pos h, show (- -1 : Int) = 1 by decide, Int.ediv_one]
    omega
  · rw [if_neg h]
    omega
theorem applied_rev {sl : Addr} {vs : Value} {n : Nat} {Q : Int × Int × Nat → Shared → Prop} (hs : s.heap.IsSliceOf sl .none .none vs) (ps : IsPart vs (some (-1)))
    (h : Q ((n : Int) - 1, -1, n) s) : wpAny (model prog w) A (Builtin.Slice.sliceApplied (.ref sl) (pure (n : Int))) Q E s := by
  obtain ⟨os, hos, hcs, hds⟩ := id hs
  unfold Builtin.Slice.sliceApplied Builtin.Slice.sliceFields
  refine wpAny_bind (wpAny_bind (wpAny_field hos hds (x := .none) rfl (wpAny_bind (wpAny_field hos hds (x := .none) rfl (wpAny_bind (wpAny_field hos hds (x := vs) rfl (wpAny_pure ?_)))))))
  refine wpAny_bind (slicePart_ ps ?_)
  show wpAny _ _ (if ((-1 : Int) == 0) = true then _ else _) _ _ s
  rw [if_neg (by decide)]
  refine wpAny_bind (slicePart_none (wpAny_bind (slicePart_none (wpAny_bind (wpAny_pure ?_)))))
  show wpAny _ _ (match Builtin.Slice.sliceAdjust none none (-1) (n : Int) with | (lo, hi) => pure (lo, (-1 : Int), Builtin.Slice.slicePlaces lo hi (-1))) _ _ s
  rw [adjust_rev n]
  show wpAny _ _ (pure ((n : Int) - 1, (-1 : Int), Builtin.Slice.slicePlaces ((n : Int) - 1) (-1) (-1))) _ _ s
  rw [places_rev]
  exact wpAny_pure h
theorem fm_congr {α β : Type} {f q : α → Option β} : ∀ l : List α, (∀ x ∈ l, f x = q x) → l.filterMap f = l.filterMap q
  | [], _ => rfl
  | x :: l, h => by
    rw [List.filterMap_cons, List.filterMap_cons, h x List.mem_cons_self, fm_congr l fun y hy => h y (List.mem_cons_of_mem _ hy)]
theorem pick_rev (xs : Array Value) : ((List.range xs.size).filterMap fun (m : Nat) => xs[((xs.size : Int) - 1 + (m : Int) * (-1)).toNat]?).toArray = xs.toList.reverse.toArray := by
  congr 1
  rw [← PySem.W.krv_all xs, ← List.filterMap_reverse, ← PySem.W.krv_range, List.filterMap_map]
  refine fm_congr _ fun m hm => ?_
  have := List.mem_range.mp hm
  show xs[_]? = xs[xs.size - 1 - m]?
  congr 1
  omega
theorem getItem_rev {t sl : Addr} {items : Array Value} {vs : Value} {Q : Value → Shared → Prop} (ht : IsTup s.heap t items) (hs : s.heap.IsSliceOf sl .none .none vs) (ps : IsPart vs (some (-1)))
    (h : Q (.ref s.heap.objs.size) { s with heap := s.heap.push { cls := .type "tuple", data := .seq items.toList.reverse.toArray } }) (hsz : items.size ≤ sizeLine) : wpAny (model prog w) A (getItem (.ref t) (.ref sl)) Q E s := by
  have htake : sizeOk (.seq items.toList.reverse.toArray) := by
    show items.toList.reverse.toArray.size ≤ sizeLine
    rw [List.size_toArray, List.length_reverse, Array.length_toList]
    exact hsz
  obtain ⟨os, hos, hcs, hds⟩ := id hs
  have hTs : s.TypeIs (.ref sl) "slice" := ⟨os, hos, hcs⟩
  unfold getItem
  try with_reducible refine wpAny_holding ?_
  first | refine wpAny_bind (wpAny_pure ?_) | skip
  refine wpAny_bind (wpAny_sequenceKey ht.typeIs (by decide) ?_)
  refine wpAny_bind (wpAny_callSpecial?_slot (name := Str.ofString "__getitem__") ht.typeIs PyProof.Rows.slot_tuple_getitem
    (wpAny_call_entry PyProof.Rows.slot_tuple_getitem ht.typeIs entry_tuple_getitem ?_ (args_tuple_getitem _ _)))
  show wpAny _ _ (Builtin.Tuple.tupleItemsOf (.ref t) >>= _) _ _ s
  refine wpAny_bind (tupleItemsOf_ ht ?_)
  refine wpAny_bind (wpAny_typeOf hTs ?_)
  rw [if_pos (by decide)]
  refine wpAny_bind (applied_rev hs ps ?_)
  have hno : ¬ ((((items.size : Int) - 1) == 0 && (-1 : Int) == 1 && items.size == items.size) = true) := by
    rw [show ((-1 : Int) == 1) = false by decide]
    simp
  show wpAny _ _ (if (((items.size : Int) - 1) == 0 && (-1 : Int) == 1 && items.size == items.size) = true then _ else _) _ _ s
  rw [if_neg hno, pick_rev]
  first
    | exact wpAny_bind (m := Builtin.Tuple.tupleExact _) (wpAny_newObj_type (wpAny_pure ⟨_, rfl, wpAny_pure h⟩) htake)
    | exact wpAny_bind (m := Builtin.Tuple.tupleExact _) (wpAny_newObj_type (wpAny_bind (wpAny_pure (wpAny_pure ⟨_, rfl, wpAny_pure h⟩))) htake)
    | exact wpAny_bind (wpAny_bind (m := Builtin.Tuple.tupleExact _) (wpAny_newObj_type (wpAny_pure (wpAny_pure ⟨_, rfl, wpAny_pure h⟩)) htake))
    | exact wpAny_bind (wpAny_bind (m := Builtin.Tuple.tupleExact _) (wpAny_newObj_type (wpAny_pure ⟨_, rfl, wpAny_pure h⟩) htake))
end
section
variable {X : Cx}
def tRevT (K : PySem.W.Frag) (te : TE) : TE := fun σ H Q => te σ H fun x H1 => ∃ a xs, x = .ref a ∧ ((SqL K H1 a xs ∧ ∀ p, H1 p = none → Q (.ref p) (upd H1 p (.lst xs.reverse))) ∨
  (SqT K H1 a xs ∧ ∀ p (o : Obj), o.dict = none → H1 p = none → Q (.ref p) (upd H1 p (.frz o (.tup xs.reverse)))))
theorem pe_revT {e : Expr} {te : TE} {k : Nat} {p1 p2 p3 pos : Pos} (he : PE X e te) : PE X (.Subscript e (.Slice none none (some (.UnaryOp .USub (.Constant (.int 1) k p1) p2)) p3) pos) (tRevT X.K te) := by
  refine ⟨fun pins s σ H Q I h => ?_⟩
  refine Subscript_ (thn (he.run pins s σ H _ I h) fun v s1 ⟨x, H1, I1, r1, q1⟩ => ?_)
  obtain ⟨a, xs, ex, hx⟩ := q1
  subst ex
  cases r1
  have hst : PO X (some (.UnaryOp .USub (.Constant (.int 1) k p1) p2)) (tPart (tUn (rU fun i => .int (-i)) (tC (.int 1)))) := po_some (pe_un un_neg pe_int)
  refine wpAny_Slice (thn (po_none.run pins s1 σ H1 (fun o H2 => o = none ∧ H2 = H1) I1 ⟨rfl, rfl⟩) fun vl s2 ⟨l, H2, I2, pl, el, e2⟩ => ?_)
  subst el e2
  refine thn (po_none.run pins s2 σ H2 (fun o H3 => o = none ∧ H3 = H2) I2 ⟨rfl, rfl⟩) fun vu s3 ⟨u, H3, I3, pu, eu, e3⟩ => ?_
  subst eu e3
  refine thn (hst.run pins s3 σ H3 (fun o H4 => o = some (-1) ∧ H4 = H3) I3 ⟨1, rfl, -1, rfl, rfl, rfl⟩) fun vs s4 ⟨o, H4, I4, ps, eo, e4⟩ => ?_
  subst eo e4
  have I5 : Inv X pins σ H4 { s4 with heap := s4.heap.push { cls := .type "slice", data := .fields #[vl, vu, vs] } } := I4.kept (t' := s4.toks) fun b ob q => Heap.get?_push_of_some _ q
  show wpAny (model X.prog X.w) X.A (subscriptTail e (.Slice none none (some (.UnaryOp .USub (.Constant (.int 1) k p1) p2)) p3) (.ref a) (.ref s4.heap.objs.size)) (EP X pins σ Q) X.xe { s4 with heap := s4.heap.push { cls := .type "slice", data := .fields #[vl, vu, vs] } }
  rcases hx with ⟨hx, q⟩ | ⟨hx, q⟩
  · obtain ⟨its, r, ht, hz⟩ := I5.list hx
    have hlen := r.length
    refine tail_any (ops := [.ref a, .ref s4.heap.objs.size]) ht.isList.typeIs (PySem.slot_list_getitem.lookup) ?_ (by with_unfolding_all rfl)
    refine wpAny_getItem_list_slice ht.isList (Heap.IsSliceOf.new _ vl vu vs) pl pu ps (by decide) ?_ (by rw [List.size_toArray]; omega)
    rw [PySem.W.krv_pick]
    refine ⟨.ref _, _, I5.laid (t' := s4.toks) (o := .lst xs.reverse) (fun b ob q => Heap.get?_push_of_some _ q) (Nat.le_refl _) ?_, rfl, q _ (I5.hok.fresh (Nat.le_refl _))⟩
    exact ⟨by rw [List.length_reverse]; exact hz, _, 0, r.reverse, Heap.get?_push_size _ rfl⟩
  · obtain ⟨its, r, ht, hz⟩ := I5.tuple hx
    have hlen := r.length
    cases pl
    cases pu
    refine tail_any (ops := [.ref a, .ref s4.heap.objs.size]) ht.typeIs PyProof.Rows.slot_tuple_getitem.lookup ?_ (by with_unfolding_all rfl)
    refine getItem_rev ht (Heap.IsSliceOf.new _ .none .none vs) ps ?_ (by rw [List.size_toArray]; omega)
    exact laid_tup I5 (by rw [List.length_reverse]; exact hz) r.reverse q
end
section
variable {g : Cfg} {O : Addr → Prop} {H0 : Hp} {xi : Option XI} {W : WX} {X : Cx} {T : Tb} {k : Nat} {N : List Str} {sc : Scope} {fb : Str → Bool}
theorem u_revS (C : Sc g T k W N sc fb X) {e : Expr} {c : CE} {kk : Nat} {p1 p2 p3 pos : Pos} (h : SB g O H0 xi W T X e c) :
    SE g O H0 xi W T X (.Subscript e (.Slice none none (some (.UnaryOp .USub (.Constant (.int 1) kk p1) p2)) p3) pos) (.revS c) :=
  PE.by' (pe_revT h) fun σ H Q ⟨ρ, I, q⟩ => ⟨ρ, I, by
    simp only [evE] at q
    refine LdE.bindB q fun d v H1 ed s1 r1 q1 => ?_
    clear ed
    cases d <;> first | exact q1.elim | skip
    · obtain ⟨a, vs, rfl, sa, ra⟩ := r1.tup_of
      exact ⟨a, vs, rfl, .inr ⟨by rw [C.K]; exact sa.sq, fun p o ho hp => LdV.tup (O := Own O σ ρ) (K := g.K) q1 (by rw [List.length_reverse]; exact r1.tupL) ra.rev ho hp⟩⟩
    · obtain ⟨a, vs, rfl, sa, ra⟩ := r1.lst_of
      exact ⟨a, vs, rfl, .inl ⟨SqL.of sa, fun p hp => LdV.lst (O := Own O σ ρ) (K := g.K) (I.trkO.same s1) q1 (by rw [List.length_reverse]; exact r1.lstL) ra.rev hp⟩⟩⟩
end
end Ev
end
section
set_option Elab.async false
set_option linter.all false
set_option maxRecDepth 100000
set_option maxHeartbeats 4000000
namespace Ev
variable [Nm]
open PySem PySem.Spec PyProof.Rows L2 SrtO
def IsTI (h : Heap) (v : Value) (ns : List Int) : Prop := ∃ (a : Addr) (items : Array Value), v = .ref a ∧ IsTup h a items ∧ IntsAre items.toList ns
section
variable {prog : Program} {w : World} {A : Around} {E : Value → Shared → Prop} {s : Shared}
theorem IsTI.keeps {h h' : Heap} {v : Value} {ns : List Int} (x : IsTI h v ns) (k : ∀ b o, v = .ref b → h.get? b = some o → h'.get? b = some o) : IsTI h' v ns := by
  obtain ⟨a, its, e, ⟨o, ho, r⟩, i⟩ := x
  exact ⟨a, its, e, ⟨o, k a o e ho, r⟩, i⟩
theorem IsTI.type {M : Model} {h : Heap} {v : Value} {ns : List Int} (x : IsTI h v ns) : PySem.W.Looks M h (typeOf v) (.type "tuple") := by
  obtain ⟨a, its, rfl, ⟨⟨cls, dd, data, sl⟩, ho, hc, n, hd⟩, i⟩ := x
  simp only at hc hd
  subst hc hd
  exact (PySem.W.Looks.ld ho).andThen .now
theorem first_of {M : Model} {v : Value} {ns : List Int} {Q : Option Value → Shared → Prop} (x : IsTI s.heap v ns) (h : ∀ f : Option Value, (ns = [] → f = none) → Q f s) : wpAny M A (firstOfTuple' v) Q E s := by
  rw [PySem.W.kas_first_eq]
  refine wpAny_bind (x.type.here ?_)
  rw [if_neg (by decide)]
  obtain ⟨a, its, rfl, ⟨o, ho, hc, n, hd⟩, i⟩ := x
  refine wpAny_bind (listItems_at ho hd (wpAny_pure (h _ fun e => ?_)))
  subst e
  cases hi : its.toList with
  | nil => simp [Array.toList_eq_nil_iff.mp hi]
  | cons y r => rw [hi] at i; cases i
theorem firsts_any {M : Model} : ∀ (vs : List Value) {Q : List (Option Value) → Shared → Prop}, (∀ v ∈ vs, ∃ ns, IsTI s.heap v ns) → (∀ fs, Q fs s) → wpAny M A (vs.mapM firstOfTuple') Q E s
  | [], _, _, h => by rw [List.mapM_nil]; exact wpAny_pure (h _)
  | v :: vs, Q, hv, h => by
    rw [List.mapM_cons]
    obtain ⟨ns, x⟩ := hv v (.head _)
    exact wpAny_bind (first_of x fun f _ => wpAny_bind (firsts_any vs (Q := fun bs s' => wpAny M A (pure (f :: bs)) Q E s') (fun u hu => hv u (.tail _ hu)) fun fs => wpAny_pure (h _)))
theorem tups_kind {M : Model} {v0 : Value} {vs : List Value} {Q : SortKind → Shared → Prop} (h0 : IsTI s.heap v0 []) (hv : ∀ v ∈ vs, ∃ ns, IsTI s.heap v ns) (h : Q oneType' s) : wpAny M A (keyKind' (v0 :: vs).toArray) Q E s := by
  rw [keyKind'_eq, List.mapM_toArray, map_eq_pure_bind, List.mapM_cons]
  refine wpAny_bind (wpAny_bind (wpAny_bind (first_of h0 fun f hf => wpAny_bind (firsts_any vs hv fun fs => wpAny_pure (wpAny_pure ?_)))))
  rw [hf rfl, if_neg (by simp), if_neg (by simp)]
  rw [oneTypeOnly'_eq, List.mapM_toArray, map_eq_pure_bind]
  refine wpAny_bind (wpAny_bind (wpAny_bind (PySem.W.kas_mapM (r := Value.type "tuple") _ (fun v hv' Q' hq => ?_) (wpAny_pure ?_))))
  · rcases List.mem_cons.mp hv' with e | e
    · subst e; exact h0.type.here hq
    · obtain ⟨ns, x⟩ := hv v e
      exact x.type.here hq
  have hall : ((List.map (fun _ => Value.type "tuple") (v0 :: vs)).toArray.all fun x => x == Value.type "tuple") = true := by
    simp only [List.all_toArray, List.all_map, List.all_eq_true]
    intro _ _
    rfl
  have h1 : (List.map (fun _ => Value.type "tuple") (v0 :: vs)).toArray[0]? = some (Value.type "tuple") := by simp
  rw [h1]
  simp only [hall, if_true]
  exact wpAny_pure (wpAny_pure h)
theorem lt_tups {v u : Value} {ns ms : List Int} {Q : Bool → Shared → Prop} (hu : A.units < cLine) (hv : IsTI s.heap v ns) (hw : IsTI s.heap u ms) (h : Q (HT.lexLt ns ms) s) : wpAny (model prog w) A (keyLt' oneType' v u) Q E s := by
  have tv : PySem.W.Looks (model prog w) s.heap (typeOf v) (.type "tuple") := hv.type
  have sp : PySem.W.Looks (model prog w) s.heap (specialOf v "__lt__") (some (.builtin "tuple.__lt__")) := tv.andThen (by rw [show typeLookup (.type "tuple") ("__lt__" : Str) = pure (some (.builtin "tuple.__lt__")) from PySem.F.slot_tuple_lt.lookup]; exact .now)
  obtain ⟨a, its, rfl, ⟨⟨cls, dd, data, sl⟩, ho, hc, n, hd⟩, ia⟩ := hv
  obtain ⟨b, jts, rfl, ⟨⟨cls2, dd2, data2, sl2⟩, ho2, hc2, n2, hd2⟩, ib⟩ := hw
  simp only at hc hd hc2 hd2
  subst hc hd hc2 hd2
  rw [keyLt'_oneType, oneLt'_eq]
  simp only [if_true]
  refine wpAny_bind (wpAny_cRoomFor hu ?_)
  refine wpAny_bind (NtL.csib (E := E) sp (PySem.F.slot_tuple_lt.bind _) (call_meets PySem.F.slot_tuple_lt ⟨_, ho, rfl⟩ PySem.F.entry_tuple_lt (PySem.F.args_tuple_lt_2 _ _) (HT.tuple_lt_ints a b its jts n n2 dd dd2 sl sl2 ns ms ia ib) ⟨ho, ho2, ?_⟩))
  exact wpAny_truthy_bool h
theorem tups_sortable {a : Addr} {v0 : Value} {vs : List Value} {k : Value → List Int} (hu : A.units < cLine) (hv : ∀ v ∈ v0 :: vs, IsTI s.heap v (k v)) (h0 : k v0 = []) (ha : ∀ v ∈ v0 :: vs, v ≠ .ref a) :
    SortableO prog w A s a (v0 :: vs) fun v u => HT.lexLt (k v) (k u) := by
  intro h' keep
  have hv' : ∀ v ∈ v0 :: vs, IsTI h' v (k v) := fun v hm => (hv v hm).keeps fun b o e g => keep b o (fun z => ha v hm (by rw [e, z])) g
  refine ⟨oneType', fun Q E hq => tups_kind (s := { s with heap := h' }) (by have := hv' v0 (.head _); rw [h0] at this; exact this) (fun v hm => ⟨_, hv' v (.tail _ hm)⟩) hq, fun p q hp hq => ?_⟩
  exact lt_tups (s := { s with heap := h' }) (Q := fun r s' => s' = { s with heap := h' } ∧ r = HT.lexLt (k p.1) (k q.1)) (E := fun _ _ => False) hu (hv' p.1 hp) (hv' q.1 hq) ⟨rfl, rfl⟩
end
inductive TRows (K : PySem.W.Frag) (H : Hp) : List V → List (List Int) → Prop
  | nil : TRows K H [] []
  | cons {t : Addr} {ns : List Int} {vs : List V} {l : List (List Int)} : TupN K H t (ns.map V.int) → TRows K H vs l → TRows K H (.ref t :: vs) (ns :: l)
open Classical in
noncomputable def kOf (K : PySem.W.Frag) (H : Hp) (t : Addr) : List Int := if h : ∃ ns : List Int, TupN K H t (ns.map V.int) then h.choose else []
theorem ints_inj : ∀ {ns ms : List Int}, ns.map V.int = ms.map V.int → ns = ms
  | [], [], _ => rfl
  | [], _ :: _, h => by simp at h
  | _ :: _, [], h => by simp at h
  | a :: r, b :: t, h => by
    simp only [List.map_cons, List.cons.injEq, V.int.injEq] at h
    rw [h.1, ints_inj h.2]
section
variable {X : Cx} {pins : List (Addr × Obj)} {σ : L2.St} {H : Hp} {s : Shared}
theorem kOf_is (I : Inv X pins σ H s) {t : Addr} {ns : List Int} (h : TupN X.K H t (ns.map V.int)) : kOf X.K H t = ns := by
  have e : ∃ ns : List Int, TupN X.K H t (ns.map V.int) := ⟨ns, h⟩
  unfold kOf
  rw [dif_pos e]
  exact ints_inj (I.tuple_inj e.choose_spec.sq h.sq)
theorem trows_k (I : Inv X pins σ H s) : ∀ {vs : List V} {l : List (List Int)}, TRows X.K H vs l → ∃ ts : List Addr, vs = ts.map V.ref ∧ l = ts.map (kOf X.K H) ∧ ∀ t ∈ ts, TupN X.K H t ((kOf X.K H t).map V.int)
  | _, _, .nil => ⟨[], rfl, rfl, fun t h => by cases h⟩
  | _, _, .cons (t := t) (ns := ns) h r => by
    obtain ⟨ts, e1, e2, e3⟩ := trows_k I r
    refine ⟨t :: ts, by rw [e1]; rfl, by rw [e2, List.map_cons, kOf_is I h], fun u hu => ?_⟩
    rcases List.mem_cons.mp hu with e | e
    · rw [e, kOf_is I h]; exact h
    · exact e3 u e
theorem k_trows {K : PySem.W.Frag} {k : Addr → List Int} : ∀ {ts : List Addr}, (∀ t ∈ ts, TupN K H t ((k t).map V.int)) → TRows K H (ts.map V.ref) (ts.map k)
  | [], _ => .nil
  | t :: ts, h => .cons (h t (.head _)) (k_trows fun u hu => h u (.tail _ hu))
def rSortTs (K : PySem.W.Frag) : List V → Hp → VK → Prop := fun vs H Q => ∃ (a : Addr) (ws : List V) (l : List (List Int)), vs = [V.ref a] ∧ SqL K H a ws ∧ TRows K H ws ([] :: l) ∧
  ∀ ws' l', TRows K H ws' l' → l'.Perm ([] :: l) → l'.Pairwise (fun x y => HT.lexLt y x = false) → ∀ p, H p = none → Q (.ref p) (upd H p (.lst ws'))
theorem cr_sortTs (hu : X.A.units + 64 < cLine) : CallR X (.builtin "sorted") (rSortTs X.K) := by
  intro pins s σ H vs us Q I r h
  obtain ⟨a, ws, l, rfl, hs, hT, q⟩ := h
  obtain ⟨its, rv, hl, hz⟩ := I.list hs
  rw [Vals.ref1 r]
  obtain ⟨ts, e1, e2, e3⟩ := trows_k I hT
  subst e1
  have ei := nts_of rv
  subst ei
  have hzs : (ts.map Value.ref).length ≤ sizeLine := by rw [← rv.length]; exact hz
  have hv : ∀ v ∈ ts.map Value.ref, IsTI s.heap v (kOf X.K H (adO v)) := fun v hm => by
    obtain ⟨t, ht, rfl⟩ := List.mem_map.mp hm
    obtain ⟨jts, r2, pl, _⟩ := I.tuple (e3 t ht).sq
    exact ⟨t, jts.toArray, rfl, pl, ints_of_vals r2⟩
  refine SrtO.sorted_ord (NtL.swo_lexL fun u => kOf X.K H (adO u)) hl.isList hzs (fun h2 h₁ a' ha kk => ?_) fun out h1 h2 => ?_
  · cases ts with
    | nil => simp at h2
    | cons t0 ts =>
      rw [List.map_cons] at e2
      injection e2 with e4 e5
      refine tups_sortable (k := fun u => kOf X.K H (adO u)) (by rw [Around.in1_units, Around.in1_units]; omega) (fun v hm => (hv v hm).keeps fun b o e g => (kk b o g).2) e4.symm fun v hm e => ?_
      obtain ⟨t, jts, e', ⟨o, ho, _⟩, _⟩ := hv v hm
      rw [e] at e'
      cases e'
      exact (kk _ o ho).1 rfl
  · have er : ∀ v ∈ out, ∃ t, v = Value.ref t := fun v hm => by
      obtain ⟨t, _, e⟩ := List.mem_map.mp (h2.perm.mem_iff.mp hm)
      exact ⟨t, e.symm⟩
    have eo := ref_map er
    have hp : (out.map adO).Perm ts := by
      have := h2.perm.map adO
      rw [ad_map] at this
      exact this
    obtain ⟨ep, he'⟩ := PyProof.Rows.sortedAll_at s.heap (ts.map Value.ref) out.toArray
    have hlen : ((out.map adO).map V.ref).length ≤ sizeLine := by
      rw [List.length_map, hp.length_eq]
      rw [List.length_map] at hz
      exact hz
    have hV : Vals ((out.map adO).map V.ref) out := by
      have := of_nts (out.map adO)
      rw [← eo] at this
      exact this
    refine ⟨.ref _, upd H (s.heap.objs.size + 1) (.lst ((out.map adO).map V.ref)), I.laid (t' := s.toks) (fun _ _ => PyProof.Rows.sortedAll_old) (Nat.le_succ _) ⟨hlen, out, ep, hV, he'⟩, rfl, q _ ((out.map adO).map (kOf X.K H)) (k_trows fun t ht => e3 t (hp.mem_iff.mp ht)) (by rw [e2]; exact hp.map _) ?_ _ (I.hok.fresh (Nat.le_succ _))⟩
    rw [List.map_map]
    exact List.pairwise_map.mpr h1
end
theorem leL_is : ∀ x y : List Int, leL x y = !HT.lexLt y x
  | [], [] => rfl
  | [], _ :: _ => rfl
  | _ :: _, [] => rfl
  | x :: xs, y :: ys => by
    simp only [leL, HT.lexLt]
    by_cases h : x = y
    · subst h
      rw [if_pos rfl, if_pos rfl, leL_is xs ys]
    · rw [if_neg h, if_neg (Ne.symm h), ← decide_not]
      exact decide_eq_decide.mpr (by omega)
theorem insT_perm (x : List Int) : ∀ l, (insT x l).Perm (x :: l)
  | [] => .refl _
  | y :: r => by
    simp only [insT]
    split
    · exact .refl _
    · exact ((insT_perm x r).cons y).trans (.swap x y r)
theorem sortL_perm : ∀ l : List (List Int), (sortL l).Perm l
  | [] => .refl _
  | x :: r => (insT_perm x (sortL r)).trans ((sortL_perm r).cons x)
theorem leL_tot {x y : List Int} (h : leL x y = false) : leL y x = true := by
  rw [leL_is] at h ⊢
  have := (NtL.swo_lexL (fun u : List Int => u)).asym y x
  simp only [Bool.not_eq_false'] at h
  rw [Bool.not_eq_true', this h]
theorem leL_tr {x y z : List Int} (h1 : leL x y = true) (h2 : leL y z = true) : leL x z = true := by
  rw [leL_is, Bool.not_eq_true'] at h1 h2 ⊢
  exact NtL.lex_tr _ _ _ h1 h2
theorem insT_sorted (x : List Int) : ∀ l : List (List Int), l.Pairwise (fun a b => leL a b = true) → (insT x l).Pairwise (fun a b => leL a b = true)
  | [], _ => List.pairwise_singleton _ _
  | y :: r, h => by
    have h' := List.pairwise_cons.mp h
    simp only [insT]
    split
    · rename_i hxy
      exact List.pairwise_cons.mpr ⟨fun z hz => (List.mem_cons.mp hz).elim (fun e => e ▸ hxy) fun hz => leL_tr hxy (h'.1 z hz), h⟩
    · rename_i hxy
      refine List.pairwise_cons.mpr ⟨fun z hz => ?_, insT_sorted x r h'.2⟩
      rcases List.mem_cons.mp ((insT_perm x r).mem_iff.mp hz) with e | hz
      · rw [e]; exact leL_tot (by simpa using hxy)
      · exact h'.1 z hz
theorem sortL_sorted : ∀ l : List (List Int), (sortL l).Pairwise (fun a b => leL a b = true)
  | [] => .nil
  | x :: r => insT_sorted x _ (sortL_sorted r)
theorem leL_anti : ∀ {x y : List Int}, leL x y = true → leL y x = true → x = y
  | [], [], _, _ => rfl
  | [], _ :: _, _, h => by simp [leL] at h
  | _ :: _, [], h, _ => by simp [leL] at h
  | x :: xs, y :: ys, h1, h2 => by
    simp only [leL] at h1 h2
    by_cases h : x = y
    · subst h
      rw [if_pos rfl] at h1 h2
      rw [leL_anti h1 h2]
    · rw [if_neg h, decide_eq_true_eq] at h1
      rw [if_neg (Ne.symm h), decide_eq_true_eq] at h2
      omega
theorem sortL_is {l' l : List (List Int)} (p : l'.Perm l) (s : l'.Pairwise (fun x y => HT.lexLt y x = false)) : l' = sortL l :=
  (p.trans (sortL_perm l).symm).eq_of_pairwise (fun _ _ _ _ h1 h2 => leL_anti h1 h2) (s.imp fun {x y} h => by rw [leL_is, h]; rfl) (sortL_sorted l)
section
variable {K : PySem.W.Frag} {O : Addr → Prop} {H : Hp}
theorem trows_of : ∀ {vs : List V} {ds : List D} {l : List (List Int)}, Reps K O H vs ds → rowsD ds = some l → TRows K H vs l ∧ ∀ ns ∈ l, ns.length ≤ 16777216
  | _, _, _, .nil, e => by simp [rowsD] at e; subst e; exact ⟨.nil, fun _ h => by cases h⟩
  | _, _, l, .cons (d := d) r t, e => by
    cases r with
    | @tup a ws es hl hT rr =>
      simp only [rowsD] at e
      split at e
      · rename_i ns l2 e1 e2
        cases e
        obtain ⟨h1, h2⟩ := trows_of t e2
        have ev := rr.of_ints e1
        have el : ns.length ≤ 16777216 := by
          have := rr.length
          rw [ev, List.length_map] at this
          omega
        exact ⟨.cons (by rw [← ev]; exact hT) h1, fun ms hm => (List.mem_cons.mp hm).elim (fun e => e ▸ el) (h2 ms)⟩
      · cases e
    | _ => simp [rowsD] at e
theorem reps_of : ∀ {vs : List V} {l : List (List Int)}, TRows K H vs l → (∀ ns ∈ l, ns.length ≤ 16777216) → Reps K O H vs (l.map fun ns => .tup (ns.map .int))
  | _, _, .nil, _ => .nil
  | _, _, .cons h t, hl => .cons (.tup (by rw [List.length_map]; exact hl _ (.head _)) h (Reps.ints _)) (reps_of t fun ns hn => hl ns (.tail _ hn))
end
section
variable {g : Cfg} {O : Addr → Prop} {H0 : Hp} {xi : Option XI} {W : WX} {X : Cx} {T : Tb} {k : Nat} {N : List Str} {sc : Scope} {fb : Str → Bool}
theorem u_sortT (C : Sc g T k W N sc fb X) {e : Expr} {c : CE} {p pos : Pos} (hb : bltB sc "sorted" = true) (h : SB g O H0 xi W T X e c) (hs : notStar e = true) : SE g O H0 xi W T X (.Call (.Name "sorted" p) [e] [] pos) (.sortT c) :=
  let ⟨h1, h2, h3, h4⟩ := C.blt hb
  PE.by' (pe_callB (cr_sortTs (by have := C.md.un; omega)) h1 h2 (by decide +kernel) (pa_cons h pa_nil (star_cons hs)) h3 h4 (star_cons hs) rfl) fun σ H Q ⟨ρ, I, q⟩ => ⟨ρ, I, by
    simp only [evE] at q
    refine LdE.bindB q fun d v H1 ed s1 r1 q1 => ?_
    clear ed
    cases d <;> first | exact q1.elim | skip
    obtain ⟨a, vs, rfl, sa, ra⟩ := r1.lst_of
    simp only [sortTD] at q1
    split at q1
    · rename_i l er
      obtain ⟨hT, hl⟩ := trows_of ra er
      refine ⟨a, vs, l, rfl, SqL.of sa, by rw [C.K]; exact hT, fun ws' l' hT' hp hs' p hn => ?_⟩
      have hlen : l'.length ≤ 16777216 := by
        rw [hp.length_eq]
        have := ra.length
        have h2 := r1.lstL
        have h3 : ∀ {vs : List V} {l : List (List Int)}, TRows g.K H1 vs l → vs.length = l.length := fun {vs l} h => by
          induction h with
          | nil => rfl
          | cons _ _ ih => simp [ih]
        have h4 := h3 hT
        omega
      have hl' : ∀ ns ∈ l', ns.length ≤ 16777216 := fun ns hn => hl ns (hp.mem_iff.mp hn)
      have es := sortL_is hp hs'
      rw [← es] at q1
      rw [C.K] at hT'
      exact LdV.lst (O := Own O σ ρ) (K := g.K) (I.trkO.same s1) q1 (by rw [List.length_map]; exact hlen) (reps_of hT' hl') hn
    · exact q1.elim⟩
end
end Ev
end
section
set_option Elab.async false
set_option linter.all false
set_option maxRecDepth 100000
set_option maxHeartbeats 4000000
namespace Ev
variable [Nm]
open PySem PySem.Spec PyProof.Rows L2 SrtO
theorem nested_ints {h : Heap} : ∀ {vs : List Value} {ns : List Int}, IntsAre vs ns → NestedAll h (ns.map .num) vs
  | _, _, .nil => .nil
  | _, _, .cons y t r => .cons (.int y t) (nested_ints r)
theorem nested_dep : ∀ ns : List Int, NestedKey.depthAll (ns.map .num) = 0
  | [] => rfl
  | _ :: r => by
    simp only [List.map_cons, NestedKey.depthAll, NestedKey.depth, nested_dep r]
    rfl
theorem IsTI.nested {h : Heap} {v : Value} {ns : List Int} (x : IsTI h v ns) : NestedIs h (.tup (ns.map .num)) v := by
  obtain ⟨a, its, rfl, ⟨o, ho, hc, n, hd⟩, i⟩ := x
  exact .tup ho hc hd (nested_ints i)
theorem num_inj {ns ms : List Int} : NestedKey.tup (ns.map .num) = NestedKey.tup (ms.map .num) ↔ ns = ms := by
  constructor
  · intro h
    injection h with h
    exact (List.map_inj_right (f := NestedKey.num) (fun x y e => by injection e)).mp h
  · intro h
    rw [h]
theorem eqAt_ti {A : Around} {s : Shared} {v x : Value} {ns ms : List Int} (hv : IsTI s.heap v ns) (hx : IsTI s.heap x ms) (hu : A.units + 1 < cLine) : SeqAt.EqAt A s v x (decide (ns = ms)) := by
  have e := eqAt_key (.tup (ns.map .num)) (.tup (ms.map .num)) A s v x hv.nested hx.nested (by
    simp only [NestedKey.depth, nested_dep]
    omega)
  rw [← NestedKey.decide_eq] at e
  have q : decide (NestedKey.tup (ns.map .num) = NestedKey.tup (ms.map .num)) = decide (ns = ms) := decide_eq_decide.mpr num_inj
  rw [q] at e
  exact e
theorem idx_same (l : List (List Int)) (n : List Int) : @List.idxOf (List Int) instBEqOfDecidableEq n l = l.idxOf n := by
  unfold List.idxOf
  congr 1
  funext x
  rw [Bool.eq_iff_iff]
  simp
section
variable {X : Cx}
def rIxo (K : PySem.W.Frag) : V → List V → Hp → VK → Prop := fun x xs H Q => ∃ (p t : Addr) (ws : List V) (l : List (List Int)) (n : List Int), x = .ref p ∧ xs = [.ref t] ∧ SqL K H p ws ∧ TRows K H ws l ∧ TupN K H t (n.map V.int) ∧ n ∈ l ∧ Q (.int (l.idxOf n : Nat)) H
theorem mt_lindex (hu : X.A.units + 64 < cLine) : MtR X "list.index" (rIxo X.K) := by
  intro pins s σ H x xs v us Q I rx rxs h
  obtain ⟨p, t, ws, l, n, rfl, rfl, hs, hT, hn, hm, q⟩ := h
  cases rx
  obtain ⟨its, rv, hl, hz⟩ := I.list hs
  rw [Vals.ref1 rxs]
  obtain ⟨ts, e1, e2, e3⟩ := trows_k I hT
  subst e1
  have ei := nts_of rv
  subst ei
  have hzs : l.length ≤ sizeLine := by
    rw [e2, List.length_map]
    rw [List.length_map] at hz
    exact hz
  have hx : IsTI s.heap (.ref t) n := by
    obtain ⟨jts, r2, pl, _⟩ := I.tuple hn.sq
    exact ⟨t, jts.toArray, rfl, pl, ints_of_vals r2⟩
  have hv : ∀ u ∈ ts, IsTI s.heap (.ref u) (kOf X.K H u) := fun u hm => by
    obtain ⟨jts, r2, pl, _⟩ := I.tuple (e3 u hm).sq
    exact ⟨u, jts.toArray, rfl, pl, ints_of_vals r2⟩
  have he : SeqAt.ItemsEq X.A.in1 s (ts.map Value.ref) l (.ref t) n := by
    refine ⟨by rw [e2, List.length_map, List.length_map], fun j h1 h2 => ?_⟩
    subst e2
    rw [List.getElem_map, List.getElem_map]
    rw [List.length_map] at h1
    exact eqAt_ti (hv _ (List.getElem_mem h1)) hx (by rw [Around.in1_units]; omega)
  refine SeqAt.call_list_index hl.isList he hzs hm ?_
  exact ⟨.int (l.idxOf n : Nat), H, I.tok _, ⟨s.toks, by rw [idx_same]⟩, q⟩
def tIxo (K : PySem.W.Frag) (to : TE) (t : TA) : TE := fun σ H Q => to σ H fun x H1 => ∃ p xs, x = .ref p ∧ SqL K H1 p xs ∧ t σ H1 fun ys H2 => rIxo K (.ref p) ys H2 Q
theorem pe_idxo (hu : X.A.units + 64 < cLine) {o e : Expr} {to : TE} {t : TA} {apos cpos : Pos} (ho : PE X o to) (ha : PA X [e] t)
    (hbase : attributeBase o "index" X.env (eval o X.env) = eval o X.env)
    (hfew : ((backTo cpos (starEach [e] X.env)).all (fun x => !x.1) && (backToKw cpos (keywordEach [] X.env)).all (fun x => x.1.isSome)
      && decide ([e].length + ([] : List Keyword).length + (if ([] : List Keyword).isEmpty then 0 else 1) < 30)) = true)
    (hline : (apos.endLine == cpos.line) = true) (hs : starEach [e] X.env = (false, eval e X.env) :: starEach [] X.env) :
    PE X (.Call (.Attribute o "index" apos) [e] [] cpos) (tIxo X.K to t) := by
  refine ⟨fun pins s σ H Q I h => ?_⟩
  refine wpAny_Call_method_late hbase hfew hline rfl (thn (ho.run pins s σ H _ I h) fun v s1 ⟨x, H1, I1, r1, p, xs, ex, hT, q⟩ => ?_)
  subst ex
  cases r1
  obtain ⟨h1, h2⟩ := tyV_is (T := "list") (x := .ref p) I1 rfl (.inl ⟨rfl, xs, hT⟩)
  refine ⟨"list", "list.index", PySem.F.plainAttrs_list, PySem.F.slot_list_index, PySem.F.type_list_index, h1, h2, ?_⟩
  have hA := ha.run cpos pins s1 σ H1 _ I1 q
  rw [hs] at hA ⊢
  refine Calls.callWith_builtin rfl (Calls.evalArgs_plain ?_)
  exact thn hA fun us s2 ⟨vs, H2, I2, r2, q2⟩ => mt_lindex hu pins s2 σ H2 (.ref p) vs _ us Q I2 rfl r2 q2
end
section
variable {g : Cfg} {O : Addr → Prop} {H0 : Hp} {xi : Option XI} {W : WX} {X : Cx} {T : Tb} {k : Nat} {N : List Str} {sc : Scope} {fb : Str → Bool}
theorem u_ixo (C : Sc g T k W N sc fb X) {o e : Expr} {ca cx : CE} {apos cpos : Pos} (ho : SB g O H0 xi W T X o ca) (he : SE g O H0 xi W T X e cx) (hst : notStar e = true)
    (hbase : attributeBase o "index" X.env (eval o X.env) = eval o X.env)
    (hfew : ((backTo cpos (starEach [e] X.env)).all (fun x => !x.1) && (backToKw cpos (keywordEach [] X.env)).all (fun x => x.1.isSome)
      && decide ([e].length + ([] : List Keyword).length + (if ([] : List Keyword).isEmpty then 0 else 1) < 30)) = true)
    (hline : (apos.endLine == cpos.line) = true) : SE g O H0 xi W T X (.Call (.Attribute o "index" apos) [e] [] cpos) (.ixo ca cx) :=
  PE.by' (pe_idxo (by have := C.md.un; omega) ho (pa_cons he pa_nil (star_cons hst)) hbase hfew hline (star_cons hst)) fun σ H Q ⟨ρ, I, q⟩ => ⟨ρ, I, by
    simp only [evE] at q
    refine LdE.bindB q fun d v H1 _ s1 r1 q1 => ?_
    cases hsq : d.isLs with
    | false => rw [hsq] at q1; exact q1.elim
    | true =>
    rw [hsq, if_pos rfl] at q1
    cases d <;> first | (simp [D.isLs] at hsq; done) | skip
    obtain ⟨a, vs, rfl, sa, ra⟩ := r1.lst_of
    refine ⟨a, vs, rfl, SqL.of sa, ρ, I.more s1, LdE.bindE q1 fun w u H2 ew s2 r2 q2 => ?_⟩
    clear ew
    cases w <;> first | exact q2.elim | skip
    rename_i ds ys
    simp only [ixoD] at q2
    split at q2
    · rename_i l n e1 e2
      split at q2
      · rename_i hm
        have ra2 := ra.gro (Gro.of s2)
        obtain ⟨t, ts, rfl, st, rt⟩ := (RepB.of r2).tup_of
        have ev := rt.of_ints e2
        subst ev
        refine ⟨a, t, vs, l, n, rfl, rfl, SqL.of (s2 _ _ sa (fun _ z => nomatch z)), (by rw [C.of.K]; exact (trows_of ra2 e1).1), (by rw [C.of.K]; exact st), hm, ?_⟩
        exact q2 _ H2 (Sm.refl H2) (.int _)
      · exact q2.elim
    · exact q2.elim⟩
end
end Ev
end
section
set_option Elab.async false
set_option linter.all false
set_option maxRecDepth 100000
namespace Ev
section
variable {T : Tb} {ρ : Rho}
theorem q_var {i} : evE T (.var i) ρ = slotE ρ[i]? := rfl
theorem q_cst {d} : evE T (.cst d) ρ = .ok d := rfl
theorem q_bin {o a b} : evE T (.bin o a b) ρ = (bor a ρ (evE T a ρ) >>= fun x => bor b ρ (evE T b ρ) >>= fun y => binD o x y) := rfl
theorem q_un {o a} : evE T (.un o a) ρ = (bor a ρ (evE T a ρ) >>= fun x => unD o x) := rfl
theorem q_and {a b} : evE T (.and a b) ρ = (evE T a ρ >>= fun x => x.truth >>= fun t => if t then evE T b ρ else pure x) := rfl
theorem q_or {a b} : evE T (.or a b) ρ = (evE T a ρ >>= fun x => x.truth >>= fun t => if t then pure x else evE T b ρ) := rfl
theorem q_ife {c a b} : evE T (.ife c a b) ρ = (evT T c ρ >>= fun x => if x then evE T a ρ else evE T b ρ) := rfl
theorem q_tup {es} : evE T (.tup es) ρ = (evEs T es ρ >>= fun ds => pure (.tup ds)) := rfl
theorem q_lst {es} : evE T (.lst es) ρ = (evEs T es ρ >>= fun ds => pure (.lst ds)) := rfl
theorem q_idx {a i} : evE T (.idx a i) ρ = (bor a ρ (evE T a ρ) >>= fun x => evE T i ρ >>= fun y => idxD x y) := rfl
theorem q_slc {a lo hi} : evE T (.slc a lo hi) ρ = (bor a ρ (evE T a ρ) >>= fun x => evO T lo ρ >>= fun l => evO T hi ρ >>= fun h => slcD x l h) := rfl
theorem q_call {f es} : evE T (.call f es) ρ = (evBs T es ρ >>= fun ds => guardL (es.any (ownArg ρ)) (T.call T.hot f ds)) := rfl
theorem q_callk {f es ks perm} : evE T (.callk f es ks perm) ρ = if T.hot then .stuck else (evBs T es ρ >>= fun ds => evBs T ks ρ >>= fun qs => pick (ds ++ qs) perm >>= fun ps => guardL ((es ++ ks).any (ownArg ρ)) (T.call T.hot f ps)) := rfl
theorem q_bi {b es} : evE T (.bi b es) ρ = if T.hot && !b.hot then .stuck else (evBs T es ρ >>= fun ds => biD b ds) := rfl
theorem q_isi {a t} : evE T (.isi a t) ρ = (bor a ρ (evE T a ρ) >>= fun x => isiD x t) := rfl
theorem q_rngL {tu lo hi} : evE T (.rngL tu lo hi) ρ = if T.hot then .stuck else (evE T lo ρ >>= fun x => evE T hi ρ >>= fun y => match x, y with
    | .int i, .int j => if rngOk i j && decide ((j - i).toNat ≤ 16777216) then pure (if tu then .tup (Ev.rngL i j) else .lst (Ev.rngL i j)) else .stuck
    | _, _ => .stuck) := rfl
theorem q_rngO {lo hi} : evE T (.rngO lo hi) ρ = (evE T lo ρ >>= fun x => evE T hi ρ >>= fun y => match x, y with
    | .int i, .int j => pure (.rng i j)
    | _, _ => .stuck) := rfl
def turnQ (T : Tb) (tg : Tgt) (cd : CT) (elt : CE) (ρ : Rho) (d : D) : R (Option D) := bindT tg d ρ >>= fun ρ1 => evT T cd ρ1 >>= fun c => if c then (evE T elt ρ1 >>= fun y => pure (some y)) else pure none
theorem q_cmp {tg it cd elt} : evE T (.cmp tg it cd elt) ρ = if T.hot && !itHot it then .stuck else if tgOwn ρ tg then .stuck else (evI T it ρ >>= fun xs => compL (turnQ T tg cd elt ρ) xs >>= fun ys => pure (.lst ys)) := rfl
def turnQ2 (T : Tb) (tg tg1 : Tgt) (it1 : CI) (elt : CE) (ρ : Rho) (d : D) : R (List D) := bindT tg d (wipe0 ρ tg1.slots0) >>= fun ρ1 => if ownIt ρ1 it1 then .stuck else (evI T it1 ρ1 >>= fun zs => compL (fun e => bindT tg1 e ρ1 >>= fun ρ2 => evE T elt ρ2 >>= fun y => pure (some y)) zs)
theorem q_cmp2 {tg it tg1 it1 elt} : evE T (.cmp2 tg it tg1 it1 elt) ρ = if T.hot then .stuck else if tgOwn ρ tg || tgOwn ρ tg1 then .stuck else (evI T it ρ >>= fun xs => compM (turnQ2 T tg tg1 it1 elt ρ) xs >>= fun ys => if ys.length ≤ 16777216 then pure (.lst ys) else .stuck) := rfl
theorem q_cnt {a x} : evE T (.cnt a x) ρ = (bor a ρ (evE T a ρ) >>= fun v => if v.isSq then (evE T x ρ >>= fun w => cntD v w) else .stuck) := rfl
theorem q_ixo {a x} : evE T (.ixo a x) ρ = (bor a ρ (evE T a ρ) >>= fun v => if v.isLs then (evE T x ρ >>= fun w => ixoD v w) else .stuck) := rfl
theorem q_revS {a} : evE T (.revS a) ρ = (bor a ρ (evE T a ρ) >>= fun v => revD v) := rfl
theorem q_sortT {a} : evE T (.sortT a) ρ = (bor a ρ (evE T a ρ) >>= fun v => sortTD v) := rfl
theorem q_chain {o p a b c} : evE T (.chain o p a b c) ρ = (bor a ρ (evE T a ρ) >>= fun x => bor b ρ (evE T b ρ) >>= fun y => binD o x y >>= fun z => match z with
    | .bl true => (bor c ρ (evE T c ρ) >>= fun u => binD p y u)
    | .bl false => pure (.bl false)
    | _ => .stuck) := rfl
theorem q_join {s e} : evE T (.join s e) ρ = (evE T s ρ >>= fun x => match x with
    | .str z => (bor e ρ (evE T e ρ) >>= fun y => joinD (.str z) y)
    | _ => .stuck) := rfl
theorem q_fstr {es} : evE T (.fstr es) ρ = (evF T es ρ [] >>= fun x => pure (.str x)) := rfl
theorem f_nil {acc} : evF T [] ρ acc = .ok acc := rfl
theorem f_cons {e es acc} : evF T (e :: es) ρ acc = (evE T e ρ >>= fun x => fstrD x >>= fun y => if acc.length + y.length ≤ 16777216 then evF T es ρ (acc ++ y) else .stuck) := rfl
theorem q_exv {i} : evE T (.exv i) ρ = (match ρ[i]? with
    | some (.exc _ _) => .ok (.bl true)
    | _ => .stuck) := rfl
theorem q_tget {j e} : evE T (.tget j e) ρ = (evE T e ρ >>= fun x => tgetD (T.glb j) x) := rfl
theorem q_tin {j neg e} : evE T (.tin j neg e) ρ = (evE T e ρ >>= fun x => tinD neg (T.glb j) x) := rfl
theorem q_glb {j} : evE T (.glb j) ρ = .ok (T.glb j) := rfl
theorem q_exf {i j} : evE T (.exf i j) ρ = (match ρ[i]? with
    | some (.exc _ fs) => (match fs[j]? with
      | some d => .ok d
      | none => .stuck)
    | _ => .stuck) := rfl
theorem q_exi {i c} : evE T (.exi i c) ρ = (match ρ[i]? with
    | some (.exc k _) => .ok (.bl (T.sub k c))
    | _ => .stuck) := rfl
theorem q_bv {i r} : bor (.var i) ρ r = slotB ρ[i]? := rfl
theorem t_yes : evT T .yes ρ = .ok true := rfl
theorem t_and {a b} : evT T (.and a b) ρ = (evT T a ρ >>= fun x => if x then evT T b ρ else pure false) := rfl
theorem t_or {a b} : evT T (.or a b) ρ = (evT T a ρ >>= fun x => if x then pure true else evT T b ρ) := rfl
theorem t_not {a} : evT T (.not a) ρ = (evT T a ρ >>= fun x => pure (!x)) := rfl
theorem t_of {e} : evT T (.of e) ρ = (bor e ρ (evE T e ρ) >>= fun x => x.truth) := rfl
theorem o_none : evO T none ρ = .ok none := rfl
theorem o_some {e} : evO T (some e) ρ = (evE T e ρ >>= fun x => match x with
    | .int i => pure (some i)
    | _ => .stuck) := rfl
theorem es_nil : evEs T [] ρ = .ok [] := rfl
theorem es_cons {e es} : evEs T (e :: es) ρ = (evE T e ρ >>= fun x => evEs T es ρ >>= fun xs => pure (x :: xs)) := rfl
theorem bs_nil : evBs T [] ρ = .ok [] := rfl
theorem bs_cons {e es} : evBs T (e :: es) ρ = (bor e ρ (evE T e ρ) >>= fun x => evBs T es ρ >>= fun xs => pure (x :: xs)) := rfl
theorem i_of {e} : evI T (.of e) ρ = (bor e ρ (evE T e ρ) >>= fun x => itemsD x) := rfl
theorem i_rng {lo hi} : evI T (.rng lo hi) ρ = (evE T lo ρ >>= fun x => evE T hi ρ >>= fun y => match x, y with
    | .int i, .int j => if rngOk i j && decide ((j - i).toNat ≤ 16777216) then pure (Ev.rngL i j) else .stuck
    | _, _ => .stuck) := rfl
theorem i_rngD {lo hi} : evI T (.rngD lo hi) ρ = (evE T lo ρ >>= fun x => evE T hi ρ >>= fun y => match x, y with
    | .int i, .int j => if rngOk i j && decide ((i - j).toNat ≤ 16777216) then pure (Ev.dnL i j) else .stuck
    | _, _ => .stuck) := rfl
theorem i_enum {e} : evI T (.enum e) ρ = (bor e ρ (evE T e ρ) >>= fun x => seqD x >>= fun xs => pure (xs.mapIdx fun i d => .tpw [.int i, d])) := rfl
theorem i_zip {a b} : evI T (.zip a b) ρ = (bor a ρ (evE T a ρ) >>= fun x => bor b ρ (evE T b ρ) >>= fun y => zipD x y) := rfl
theorem i_rev {e} : evI T (.rev e) ρ = (bor e ρ (evE T e ρ) >>= fun x => seqD x >>= fun xs => pure xs.reverse) := rfl
theorem s_pass' : evS T .pass ρ = .nx ρ := rfl
theorem s_set' {i e} : evS T (.set i e) ρ = (evE T e ρ).on ρ fun d => .nx (ρ.set i (.val d)) := rfl
theorem s_setC' {i e} : evS T (.setC i e) ρ = if T.hot then .stuck else (evE T e ρ).on ρ fun d => .nx (ρ.set i (.val d)) := rfl
theorem s_setOwn' {i e} : evS T (.setOwn i e) ρ = (evE T e ρ).on ρ fun d => match d with
    | .lst xs => .nx (ρ.set i (.own xs))
    | _ => .stuck := rfl
theorem s_unp' {is e} : evS T (.unp is e) ρ = if T.hot then .stuck else (evE T e ρ).on ρ fun d => (bindT (.tp is) d ρ).on ρ fun ρ1 => .nx ρ1 := rfl
theorem s_par' {is es} : evS T (.par is es) ρ = if T.hot && is.length == 2 then .stuck else (evEs T es ρ).on ρ fun ds => (setAll is ds ρ).on ρ fun ρ1 => .nx ρ1 := rfl
theorem s_aug' {i o e} : evS T (.aug i o e) ρ = (match ρ[i]? with
    | some (.val (.int a)) => (evE T e ρ).on ρ fun d => match d, o with
      | .int b, .add => .nx (ρ.set i (.val (.int (a + b))))
      | .int b, .sub => .nx (ρ.set i (.val (.int (a - b))))
      | _, _ => .stuck
    | _ => .stuck) := rfl
theorem q_comb {a b} : evE T (.comb a b) ρ = (evE T a ρ >>= fun x => evE T b ρ >>= fun y => combD x y) := rfl
theorem q_capp {i es} : evE T (.capp i es) ρ = if T.hot then .stuck else (match ρ[i]? with
    | some (.clo l cs) => (evEs T es ρ >>= fun ds => T.call false l (ds ++ cs))
    | _ => .stuck) := rfl
theorem q_callL {j es l js es2} : evE T (.callL j es l js es2) ρ = if T.hot then .stuck else (evEs T es ρ >>= fun ds => evEs T es2 ρ >>= fun ds2 => slotsE ρ js >>= fun cs => if D.noLL cs then T.call false j (ds ++ .clo l cs :: ds2) else .stuck) := rfl
theorem s_app' {i e} : evS T (.app i e) ρ = match ρ[i]? with
    | some (.own xs) => (evE T e ρ).on ρ fun d => if xs.length < 16777216 then .nx (ρ.set i (.own (xs ++ [d]))) else .stuck
    | _ => .stuck := rfl
theorem s_pop' {i k to} : evS T (.pop i k to) ρ = if popOk ρ i to = false then .stuck else match ρ[i]? with
    | some (.own xs) => (evO T k ρ).on ρ fun z => match ixD xs.length (z.getD (-1)) with
      | some j => (match xs[j]? with
        | some d => match to with
          | .set t => .nx ((ρ.set i (.own (xs.eraseIdx j))).set t (.val d))
          | .app t => (match ρ[t]? with
            | some (.own ys) => if t ≠ i ∧ ys.length < 16777216 then .nx ((ρ.set i (.own (xs.eraseIdx j))).set t (.own (ys ++ [d]))) else .stuck
            | _ => .stuck)
          | .ret => .ret d
          | .drop => .nx (ρ.set i (.own (xs.eraseIdx j)))
        | none => .stuck)
      | none => .stuck
    | _ => .stuck := rfl
theorem s_seti' {i k e} : evS T (.seti i k e) ρ = (evE T e ρ).on ρ fun d => match ρ[i]? with
    | some (.own xs) => (evE T k ρ).on ρ fun q => match q with
      | .int z => (match ixD xs.length z with
        | some j => .nx (ρ.set i (.own (xs.set j d)))
        | none => .stuck)
      | _ => .stuck
    | _ => .stuck := rfl
theorem s_ex' {e} : evS T (.ex e) ρ = (evE T e ρ).on ρ fun _ => .nx ρ := rfl
theorem s_ret' {e} : evS T (.ret e) ρ = (evE T e ρ).on ρ fun d => .ret d := rfl
theorem s_retO' {i} : evS T (.retO i) ρ = (slotB ρ[i]?).on ρ fun d => .ret d := rfl
theorem s_retN' : evS T .retN ρ = .ret .non := rfl
theorem s_ife' {c a b} : evS T (.ife c a b) ρ = (evT T c ρ).on ρ fun x => if x then evSs T a ρ else evSs T b ρ := rfl
theorem s_for' {tg it b} : evS T (.for tg it b) ρ = if T.hot then .stuck else if ownIt ρ it then .stuck else (evI T it ρ).on ρ fun xs => forL tg (evSs T b) xs ρ := rfl
theorem s_whl' {c b} : evS T (.whl c b) ρ = whlL (evT T c) (evSs T b) WHL ρ := rfl
theorem s_raise' {c es} : evS T (.raise c es) ρ = if T.hot then .stuck else (evEs T es ρ).on ρ fun ds => .err c ds ρ := rfl
theorem s_try' {b hs} : evS T (.try b hs) ρ = if T.hot then .stuck else match evSs T b ρ with
    | .err c fs ρ1 => evH T hs c fs ρ1
    | r => r := rfl
theorem s_brk' : evS T .brk ρ = .bk ρ := rfl
theorem s_cont' : evS T .cont ρ = .ct ρ := rfl
theorem ss_nil' : evSs T [] ρ = .nx ρ := rfl
theorem ss_cons' {s r} : evSs T (s :: r) ρ = (evS T s ρ).andThen (evSs T r) := rfl
theorem h_nil {c fs} : evH T [] c fs ρ = .err c fs ρ := rfl
theorem h_some {k i b r c fs} : evH T (.mk k (some i) b :: r) c fs ρ = if T.sub c k then (evSs T.heat b (ρ.set i (.exc c fs))).wipe i else evH T r c fs ρ := rfl
theorem h_none {k b r c fs} : evH T (.mk k none b :: r) c fs ρ = if T.sub c k then (evSs T.heat b ρ).noErr else evH T r c fs ρ := rfl
theorem nx_to {ρ : Rho} {s r} : (RS.nx ρ).andThen (evSs T (s :: r)) = (evS T s ρ).andThen (evSs T r) := rfl
theorem nx_end {ρ : Rho} : (RS.nx ρ).andThen (evSs T []) = .nx ρ := rfl
end
end Ev
end
section
set_option Elab.async false
set_option linter.all false
set_option maxRecDepth 100000
set_option maxHeartbeats 2000000
namespace Ev
open PySem PySem.Spec
abbrev nts (l : List Nat) : List D := l.map fun x => .int ((x : Nat) : Int)
def isInt : D → Bool
  | .int _ => true
  | _ => false
def isNum : D → Bool
  | .int i => decide (0 ≤ i)
  | _ => false
def isNat : D → Bool
  | .int i => decide (1 ≤ i)
  | _ => false
@[simp] theorem fin_ret (d : D) : (RS.ret d).fin = .ok d := rfl
@[simp] theorem fin_nx (ρ : Rho) : (RS.nx ρ).fin = .ok .non := rfl
@[simp] theorem fin_err (c : Nat) (fs : List D) (ρ : Rho) : (RS.err c fs ρ).fin = .err c fs := rfl
@[simp] theorem if_R {α : Type} {c : Prop} [Decidable c] (a b : α) : (if c then R.ok a else R.ok b) = R.ok (if c then a else b) := by split <;> rfl
theorem run_1 {P : Pg} {n f : Nat} {hot : Bool} {ds : List D} {d : Fd} (hf : P.fn f = some d) (hl : ds.length = d.np) (hh : P.ho f = false := by rfl) : P.run (n + 1) hot f ds = (evSs ⟨hot, P.run n, P.sub, P.glb⟩ d.body (ds.map .val ++ List.replicate (d.ns - d.np) .none)).fin := by
  simp only [Pg.run, hf, hl, if_true, hh, Bool.false_eq_true, if_false]
theorem plain_rng {d : D} (h : d.plain = true) : d.isRng = false := by cases d <;> first | rfl | cases h
theorem plainL_mem : ∀ {xs : List D}, D.plainL xs = true → ∀ d ∈ xs, d.plain = true
  | [], _, d, h => by cases h
  | x :: xs, h, d, hd => by
    simp only [D.plainL, Bool.and_eq_true] at h
    rcases List.mem_cons.mp hd with rfl | hd
    · exact h.1
    · exact plainL_mem h.2 d hd
theorem blsD_map {α : Type} (f : α → Bool) : ∀ l : List α, blsD (l.map fun x => .bl (f x)) = some (l.map f)
  | [] => rfl
  | x :: l => by simp [blsD, blsD_map f l]
theorem all_map {α : Type} (f : α → Bool) (l : List α) : biD .all [.lst (l.map fun x => .bl (f x))] = .ok (.bl (l.all f)) := by
  simp [biD, blsD_map, List.all_map]
theorem rngL_nn (a b : Nat) : Ev.rngL (a : Int) (b : Int) = nts (List.range' a (b - a)) := by
  unfold Ev.rngL nts
  have e : ((b : Int) - (a : Int)).toNat = b - a := by omega
  rw [e, List.range'_eq_map_range, List.map_map]
  apply List.map_congr_left
  intro i _
  simp
theorem rngOk_nn {a b : Nat} (ha : a ≤ 16777216) (hb : b ≤ 16777216) : (rngOk (a : Int) (b : Int) && decide (((b : Int) - (a : Int)).toNat ≤ 16777216)) = true := by
  unfold rngOk
  simp
  omega
theorem items_rng {a b : Nat} (ha : a ≤ 16777216) (hb : b ≤ 16777216) : itemsD (.rng (a : Int) (b : Int)) = .ok (nts (List.range' a (b - a))) := by
  unfold itemsD
  simp only
  rw [if_pos (rngOk_nn ha hb), rngL_nn]
theorem i_rngN {T : Tb} {ρ : Rho} {a b : Nat} {e f : CE} (he : evE T e ρ = .ok (.int (a : Int))) (hf : evE T f ρ = .ok (.int (b : Int))) (ha : a ≤ 16777216) (hb : b ≤ 16777216) : evI T (.rng e f) ρ = .ok (nts (List.range' a (b - a))) := by
  rw [i_rng, he, ok_bind, hf, ok_bind]
  simp only
  rw [if_pos (rngOk_nn ha hb), rngL_nn]
  rfl
theorem compL_im {α : Type} {f : D → Ev.R (Option D)} {F G : α → D} {p : α → Bool} {l : List α} (h : ∀ x ∈ l, f (F x) = .ok (if p x then some (G x) else none)) : compL f (l.map F) = .ok ((l.filter p).map G) := by
  induction l with
  | nil => rfl
  | cons x l ih =>
    have h1 := h x (by simp)
    have h2 := ih fun y hy => h y (by simp [hy])
    simp only [List.map_cons, compL, h1, h2]
    cases hp : p x <;> simp [List.filter_cons, hp]
theorem compL_imA {α : Type} {f : D → Ev.R (Option D)} {F G : α → D} {l : List α} (h : ∀ x ∈ l, f (F x) = .ok (some (G x))) : compL f (l.map F) = .ok (l.map G) := by
  have := compL_im (p := fun _ => true) (f := f) (F := F) (G := G) (l := l) fun x hx => by rw [h x hx]; simp
  have e : l.filter (fun _ => true) = l := List.filter_eq_self.mpr fun _ _ => rfl
  rw [e] at this
  exact this
theorem forL_ix {tg : Tgt} {body : Rho → RS} {I : Nat → Rho → Prop} : ∀ (ds : List D) (k : Nat) (ρ : Rho), I k ρ → (∀ i (h : i < ds.length) (ρ : Rho), I (k + i) ρ → ∃ ρ1 ρ2, bindT tg ds[i] ρ = .ok ρ1 ∧ body ρ1 = .nx ρ2 ∧ I (k + i + 1) ρ2) → ∃ ρ', forL tg body ds ρ = .nx ρ' ∧ I (k + ds.length) ρ'
  | [], k, ρ, h, _ => ⟨ρ, rfl, h⟩
  | d :: ds, k, ρ, h, st => by
    obtain ⟨ρ1, ρ2, e1, e2, h2⟩ := st 0 (by simp) ρ h
    obtain ⟨ρ', e3, h3⟩ := forL_ix (I := I) ds (k + 1) ρ2 h2 fun i hi ρ hI => by
      have z := st (i + 1) (by simpa using hi) ρ (by rw [show k + (i + 1) = k + 1 + i by omega]; exact hI)
      rw [show k + (i + 1) + 1 = k + 1 + i + 1 by omega] at z
      exact z
    refine ⟨ρ', ?_, by rw [List.length_cons, show k + (ds.length + 1) = k + 1 + ds.length by omega]; exact h3⟩
    have e1' : bindT tg d ρ = .ok ρ1 := e1
    simp only [forL, e1', e2, e3]
def RS.stop : RS → Bool
  | .ret _ => true
  | .err _ _ _ => true
  | _ => false
theorem forL_to {tg : Tgt} {body : Rho → RS} {I : Rho → Prop} {out : RS} (ho : RS.stop out = true) : ∀ (ds : List D) (k : Nat) (ρ : Rho), I ρ → (hk : k < ds.length) → (∀ i (h : i < k) (ρ : Rho), I ρ → ∃ ρ1 ρ2, bindT tg (ds[i]'(by omega)) ρ = .ok ρ1 ∧ body ρ1 = .nx ρ2 ∧ I ρ2) → (∀ ρ, I ρ → ∃ ρ1, bindT tg ds[k] ρ = .ok ρ1 ∧ body ρ1 = out) → forL tg body ds ρ = out
  | d :: ds, 0, ρ, h, hk, _, st => by
    obtain ⟨ρ1, e1, e2⟩ := st ρ h
    have e1' : bindT tg d ρ = .ok ρ1 := e1
    simp only [forL, e1', e2]
    cases out <;> first | rfl | cases ho
  | d :: ds, k + 1, ρ, h, hk, ps, st => by
    obtain ⟨ρ1, ρ2, e1, e2, h2⟩ := ps 0 (by omega) ρ h
    have e1' : bindT tg d ρ = .ok ρ1 := e1
    simp only [forL, e1', e2]
    exact forL_to ho ds k ρ2 h2 (by simpa using hk) (fun i hi ρ hI => by simpa using ps (i + 1) (by omega) ρ hI) (fun ρ hI => by simpa using st ρ hI)
theorem getI_nat {α : Type} {xs : List α} {i : Nat} (h : i < xs.length) : getI xs (i : Int) = .ok xs[i] := by
  unfold getI ixD
  have e1 : (0 : Int) ≤ (i : Int) := by omega
  have e2 : (i : Int) < (xs.length : Nat) := by omega
  rw [if_pos e1, if_pos e2]
  simp [h]
theorem compL_all {f : D → Ev.R (Option D)} {p : D → Bool} {l : List D} (h : ∀ x ∈ l, f x = .ok (some (.bl (p x)))) : compL f l = .ok (l.map fun x => .bl (p x)) := by
  have := compL_imA (F := fun x : D => x) (G := fun x => .bl (p x)) (f := f) (l := l) h
  rw [List.map_id'] at this
  exact this
theorem rngL_nat (k : Nat) : Ev.rngL 0 (k : Int) = nts (List.range k) := by
  unfold Ev.rngL nts
  simp
theorem rngOk_nat {k : Nat} (h : k ≤ 16777216) : (rngOk 0 (k : Int) && decide (((k : Int) - 0).toNat ≤ 16777216)) = true := by
  unfold rngOk
  simp
  omega
theorem i_rng0 {T : Tb} {ρ : Rho} {k : Nat} {e : CE} (he : evE T e ρ = .ok (.int (k : Int))) (hk : k ≤ 16777216) : evI T (.rng (.cst (.int 0)) e) ρ = .ok (nts (List.range k)) := by
  rw [i_rng, q_cst, ok_bind, he, ok_bind]
  simp only
  rw [if_pos (rngOk_nat hk), rngL_nat]
  rfl
end Ev
end
section
set_option Elab.async false
set_option linter.all false
set_option maxRecDepth 100000
set_option maxHeartbeats 2000000
namespace Ev
open PySem PySem.Spec
theorem cmp_is {T : Tb} {ρ : Rho} {tg : Tgt} {it : CI} {cd : CT} {elt : CE} {xs ys : List D} (hT : T.hot = false) (ho : tgOwn ρ tg = false) (hi : evI T it ρ = .ok xs) (h : compL (turnQ T tg cd elt ρ) xs = .ok ys) : evE T (.cmp tg it cd elt) ρ = .ok (.lst ys) := by
  rw [q_cmp, hT, ho, hi]
  simp only [Bool.false_and, Bool.false_eq_true, if_false, ok_bind, h, pure_ok]
theorem cmp_hot {T : Tb} {ρ : Rho} {tg : Tgt} {e : CE} {cd : CT} {elt : CE} {xs ys : List D} (ho : tgOwn ρ tg = false) (hi : evI T (.rng (.cst (.int 0)) e) ρ = .ok xs) (h : compL (turnQ T tg cd elt ρ) xs = .ok ys) : evE T (.cmp tg (.rng (.cst (.int 0)) e) cd elt) ρ = .ok (.lst ys) := by
  rw [q_cmp, ho, hi]
  simp [itHot, h]
theorem all_of {T : Tb} {ρ : Rho} {e : CE} {α : Type} {l : List α} {p : α → Bool} (hb : bor e ρ (evE T e ρ) = .ok (.lst (l.map fun x => .bl (p x)))) : evE T (.bi .all [e]) ρ = .ok (.bl (l.all p)) := by
  rw [q_bi, bs_cons, bs_nil, hb]
  have := all_map p l
  simp only [BI.hot, Bool.not_true, Bool.and_false, Bool.false_eq_true, if_false, ok_bind, pure_ok, this]
theorem all_cmp {T : Tb} {ρ : Rho} {tg : Tgt} {it : CI} {elt : CE} {α : Type} {l : List α} {F : α → D} {p : α → Bool} (hT : T.hot = false) (ho : tgOwn ρ tg = false) (hi : evI T it ρ = .ok (l.map F)) (h : ∀ x ∈ l, turnQ T tg .yes elt ρ (F x) = .ok (some (.bl (p x)))) : evE T (.bi .all [.cmp tg it .yes elt]) ρ = .ok (.bl (l.all p)) := by
  refine all_of (l := l) (p := p) ?_
  show evE _ _ _ = _
  exact cmp_is hT ho hi (compL_imA h)
theorem all_cmpD {T : Tb} {ρ : Rho} {tg : Tgt} {it : CI} {elt : CE} {l : List D} {p : D → Bool} (hT : T.hot = false) (ho : tgOwn ρ tg = false) (hi : evI T it ρ = .ok l) (h : ∀ x ∈ l, turnQ T tg .yes elt ρ x = .ok (some (.bl (p x)))) : evE T (.bi .all [.cmp tg it .yes elt]) ρ = .ok (.bl (l.all p)) := by
  refine all_cmp (F := fun x => x) hT ho ?_ h
  rw [List.map_id', hi]
theorem turn_of {T : Tb} {ρ ρ1 : Rho} {tg : Tgt} {elt : CE} {d y : D} (hb : bindT tg d ρ = .ok ρ1) (he : evE T elt ρ1 = .ok y) : turnQ T tg .yes elt ρ d = .ok (some y) := by
  unfold turnQ
  rw [hb, ok_bind, t_yes, ok_bind, if_pos rfl, he]
  rfl
theorem ret_is {T : Tb} {ρ : Rho} {e : CE} {d : D} {r : List CS} (h : evE T e ρ = .ok d) : (evSs T (.ret e :: r) ρ).fin = .ok d := by
  rw [ss_cons', s_ret', h]
  rfl
theorem ret_err {T : Tb} {ρ : Rho} {e : CE} {c : Nat} {fs : List D} {r : List CS} (h : evE T e ρ = .err c fs) : (evSs T (.ret e :: r) ρ).fin = .err c fs := by
  rw [ss_cons', s_ret', h]
  rfl
theorem go {T : Tb} {ρ ρ1 : Rho} {s : CS} {r : List CS} (h : evS T s ρ = .nx ρ1) : evSs T (s :: r) ρ = evSs T r ρ1 := by
  rw [ss_cons', h]
  rfl
theorem stop_ret {T : Tb} {ρ : Rho} {s : CS} {r : List CS} {d : D} (h : evS T s ρ = .ret d) : evSs T (s :: r) ρ = .ret d := by
  rw [ss_cons', h]
  rfl
theorem stop_err {T : Tb} {ρ ρ1 : Rho} {s : CS} {r : List CS} {c : Nat} {fs : List D} (h : evS T s ρ = .err c fs ρ1) : evSs T (s :: r) ρ = .err c fs ρ1 := by
  rw [ss_cons', h]
  rfl
theorem ife_no {T : Tb} {ρ : Rho} {c : CT} {a b : List CS} (h : evT T c ρ = .ok false) : evS T (.ife c a b) ρ = evSs T b ρ := by
  rw [s_ife', h]
  rfl
theorem ife_yes {T : Tb} {ρ : Rho} {c : CT} {a b : List CS} (h : evT T c ρ = .ok true) : evS T (.ife c a b) ρ = evSs T a ρ := by
  rw [s_ife', h]
  rfl
theorem pass_if {T : Tb} {ρ : Rho} {c : CT} {a r : List CS} (h : evT T c ρ = .ok false) : evSs T (.ife c a [] :: r) ρ = evSs T r ρ := by
  rw [ss_cons', ife_no h]
  rfl
theorem set_is {T : Tb} {ρ : Rho} {i : Nat} {e : CE} {d : D} (h : evE T e ρ = .ok d) : evS T (.set i e) ρ = .nx (ρ.set i (.val d)) := by
  rw [s_set', h]
  rfl
theorem own_is {T : Tb} {ρ : Rho} {i : Nat} {e : CE} {d : List D} (h : evE T e ρ = .ok (.lst d)) : evS T (.setOwn i e) ρ = .nx (ρ.set i (.own d)) := by
  rw [s_setOwn', h]
  rfl
theorem for_is {T : Tb} {ρ : Rho} {tg : Tgt} {it : CI} {b : List CS} {xs : List D} (hT : T.hot = false) (ho : ownIt ρ it = false) (hi : evI T it ρ = .ok xs) : evS T (.for tg it b) ρ = forL tg (evSs T b) xs ρ := by
  rw [s_for', hT, ho, hi]
  rfl
theorem call_is {T : Tb} {ρ : Rho} {f : Nat} {es : List CE} {ds : List D} {r : R D} (ho : es.any (ownArg ρ) = false) (h : evBs T es ρ = .ok ds) (hc : T.call T.hot f ds = r) : evE T (.call f es) ρ = r := by
  rw [q_call, h, ok_bind, hc, ho]
  cases r <;> simp [guardL]
@[simp] theorem eqOk_int (i : Int) : (D.int i).eqOk = true := by simp [D.eqOk, D.dep, D.plain]
@[simp] theorem eqOk_str (i : List Nat) : (D.str i).eqOk = true := by simp [D.eqOk, D.dep, D.plain]
@[simp] theorem eqOk_bl (i : Bool) : (D.bl i).eqOk = true := by simp [D.eqOk, D.dep, D.plain]
@[simp] theorem eqOk_non : D.non.eqOk = true := by simp [D.eqOk, D.dep, D.plain]
@[simp] theorem eqv_int (i j : Int) : D.eqv (.int i) (.int j) = decide (i = j) := by simp only [D.eqv]; by_cases h : i = j <;> simp [h]
@[simp] theorem eqv_strD (i j : List Nat) : D.eqv (.str i) (.str j) = decide (i = j) := by simp only [D.eqv]; by_cases h : i = j <;> simp [h]
theorem eq_of {x y : D} (hx : x.eqOk = true) (hy : y.eqOk = true) : binD .eq x y = .ok (.bl (D.eqv x y)) := by
  simp [binD, hx, hy]
theorem ne_of {x y : D} (hx : x.eqOk = true) (hy : y.eqOk = true) : binD .ne x y = .ok (.bl (!D.eqv x y)) := by
  simp [binD, hx, hy]
theorem ne_ii (i j : Int) : binD .ne (.int i) (.int j) = .ok (.bl (decide (i ≠ j))) := by
  unfold binD
  simp [D.eqOk, D.dep, D.plain, D.eqv]
  by_cases h : i = j <;> simp [h]
theorem eq_ii (i j : Int) : binD .eq (.int i) (.int j) = .ok (.bl (decide (i = j))) := by
  unfold binD
  simp [D.eqOk, D.dep, D.plain, D.eqv]
  by_cases h : i = j <;> simp [h]
theorem eq_ss (x y : List Nat) : binD .eq (.str x) (.str y) = .ok (.bl (decide (x = y))) := by
  unfold binD
  simp [D.eqOk, D.dep, D.plain, D.eqv]
  by_cases h : x = y <;> simp [h]
theorem forL_all {tg : Tgt} {body : Rho → RS} {p : D → Bool} {out : D} {I : Rho → Prop} : ∀ (xs : List D) (ρ : Rho), I ρ → (∀ x ∈ xs, ∀ ρ, I ρ → ∃ ρ1, bindT tg x ρ = .ok ρ1 ∧ ∃ ρ2, I ρ2 ∧ body ρ1 = if p x then .nx ρ2 else .ret out) → ∃ ρ2, I ρ2 ∧ forL tg body xs ρ = if xs.all p then .nx ρ2 else .ret out
  | [], ρ, h, _ => ⟨ρ, h, rfl⟩
  | x :: xs, ρ, h, st => by
    obtain ⟨ρ1, e1, ρ2, h2, e2⟩ := st x (by simp) ρ h
    obtain ⟨ρ3, h3, e3⟩ := forL_all xs ρ2 h2 fun y hy => st y (by simp [hy])
    refine ⟨ρ3, h3, ?_⟩
    by_cases hp : p x = true
    · rw [if_pos hp] at e2
      simp only [forL, e1, e2, List.all_cons, hp, Bool.true_and, e3]
    · rw [if_neg hp] at e2
      have hp' : p x = false := by simpa using hp
      simp only [forL, e1, e2, List.all_cons, hp', Bool.false_and, Bool.false_eq_true, if_false]
theorem rngL_is {T : Tb} {ρ : Rho} {k : Nat} {tu : Bool} {e : CE} (hT : T.hot = false) (he : evE T e ρ = .ok (.int (k : Int))) (hk : k ≤ 16777216) : evE T (.rngL tu (.cst (.int 0)) e) ρ = .ok (if tu then .tup (nts (List.range k)) else .lst (nts (List.range k))) := by
  rw [q_rngL, hT, q_cst, ok_bind, he, ok_bind]
  simp only [Bool.false_eq_true, if_false]
  rw [if_pos (rngOk_nat hk), rngL_nat]
  rfl
end Ev
end
section
set_option Elab.async false
set_option linter.all false
set_option maxRecDepth 100000
set_option maxHeartbeats 2000000
namespace Ev
open PySem PySem.Spec
def Ok (r : R D) (Q : D → Prop) : Prop := ∃ d, r = .ok d ∧ Q d
theorem Ok.mono {r : R D} {Q Q' : D → Prop} (h : Ok r Q) (k : ∀ d, Q d → Q' d) : Ok r Q' := by
  obtain ⟨d, e, q⟩ := h
  exact ⟨d, e, k d q⟩
theorem Ok.of {r : R D} {Q : D → Prop} {d : D} (e : r = .ok d) (q : Q d) : Ok r Q := ⟨d, e, q⟩
theorem evSs_app {T : Tb} : ∀ (a r : List CS) (ρ : Rho), evSs T (a ++ r) ρ = (evSs T a ρ).andThen (evSs T r)
  | [], r, ρ => rfl
  | s :: a, r, ρ => by
    rw [List.cons_append, ss_cons', ss_cons']
    cases evS T s ρ <;> first | rfl | exact evSs_app a r _
theorem ok_ret {T : Tb} {ρ : Rho} {e : CE} {r : List CS} {Q : D → Prop} (h : Ok (evE T e ρ) Q) : Ok ((evSs T (.ret e :: r) ρ).fin) Q := by
  obtain ⟨d, e, q⟩ := h
  exact ⟨d, ret_is e, q⟩
theorem ok_set {T : Tb} {ρ : Rho} {i : Nat} {e : CE} {r : List CS} {Q Q' : D → Prop} (h : Ok (evE T e ρ) Q) (k : ∀ d, Q d → Ok ((evSs T r (ρ.set i (.val d))).fin) Q') : Ok ((evSs T (.set i e :: r) ρ).fin) Q' := by
  obtain ⟨d, e, q⟩ := h
  rw [go (set_is e)]
  exact k d q
theorem ok_own {T : Tb} {ρ : Rho} {i : Nat} {e : CE} {r : List CS} {Q' : D → Prop} {xs : List D} (h : evE T e ρ = .ok (.lst xs)) (k : Ok ((evSs T r (ρ.set i (.own xs))).fin) Q') : Ok ((evSs T (.setOwn i e :: r) ρ).fin) Q' := by
  rw [go (own_is h)]
  exact k
theorem ok_if {T : Tb} {ρ : Rho} {c : CT} {a r : List CS} {Q : D → Prop} {b : Bool} (h : evT T c ρ = .ok b) (ht : b = true → Ok ((evSs T (a ++ r) ρ).fin) Q) (hf : b = false → Ok ((evSs T r ρ).fin) Q) : Ok ((evSs T (.ife c a [] :: r) ρ).fin) Q := by
  cases b with
  | true =>
    rw [ss_cons', ife_yes h, ← evSs_app]
    exact ht rfl
  | false =>
    rw [pass_if h]
    exact hf rfl
theorem ok_go {T : Tb} {ρ ρ1 : Rho} {s : CS} {r : List CS} {Q : D → Prop} (h : evS T s ρ = .nx ρ1) (k : Ok ((evSs T r ρ1).fin) Q) : Ok ((evSs T (s :: r) ρ).fin) Q := by
  rw [go h]
  exact k
theorem getI_nts {b : List Nat} {k : Int} (h0 : 0 ≤ k) (h : k < b.length) : ∃ v, v ∈ b ∧ getI (nts b) k = .ok (.int ((v : Nat) : Int)) := by
  obtain ⟨n, rfl⟩ := Int.eq_ofNat_of_zero_le h0
  have hn : n < b.length := by omega
  refine ⟨b[n], List.getElem_mem hn, ?_⟩
  rw [getI_nat (by simpa using hn)]
  simp
theorem idx_nts {T : Tb} {ρ : Rho} {i : Nat} {e : CE} {b : List Nat} {k : Int} (hb : ρ[i]? = some (.val (.lst (nts b)))) (he : evE T e ρ = .ok (.int k)) (h0 : 0 ≤ k) (h : k < b.length) : ∃ v, v ∈ b ∧ evE T (.idx (.var i) e) ρ = .ok (.int ((v : Nat) : Int)) := by
  obtain ⟨v, hv, e2⟩ := getI_nts h0 h
  refine ⟨v, hv, ?_⟩
  rw [q_idx, q_bv, hb]
  show (evE T e ρ >>= fun y => idxD (.lst (nts b)) y) = _
  rw [he, ok_bind]
  exact e2
theorem int_is {T : Tb} {ρ : Rho} {e : CE} {i : Int} (he : bor e ρ (evE T e ρ) = .ok (.int i)) : evE T (.bi .int [e]) ρ = .ok (.int i) := by
  rw [q_bi, bs_cons, bs_nil, he]
  simp [BI.hot, biD]
theorem mod_is {T : Tb} {ρ : Rho} {a b : CE} {i m : Int} (ha : bor a ρ (evE T a ρ) = .ok (.int i)) (hb : bor b ρ (evE T b ρ) = .ok (.int m)) (hm : 0 < m) : evE T (.bin .mod a b) ρ = .ok (.int (i % m)) := by
  rw [q_bin, ha, ok_bind, hb, ok_bind]
  show (if 0 < m then _ else _) = _
  rw [if_pos hm]
theorem bin_is {T : Tb} {ρ : Rho} {o : Op2} {a b : CE} {x y : D} (ha : bor a ρ (evE T a ρ) = .ok x) (hb : bor b ρ (evE T b ρ) = .ok y) : evE T (.bin o a b) ρ = binD o x y := by
  rw [q_bin, ha, ok_bind, hb, ok_bind]
theorem mod_nat (v : Nat) {m : Int} (hm : 0 < m) : ∃ w : Nat, (w : Int) < m ∧ ((v : Nat) : Int) % m = w := by
  refine ⟨(((v : Nat) : Int) % m).toNat, ?_, ?_⟩
  · have := Int.emod_lt_of_pos (v : Int) hm
    have := Int.emod_nonneg (v : Int) (b := m) (by omega)
    omega
  · have := Int.emod_nonneg (v : Int) (b := m) (by omega)
    omega
theorem bm {T : Tb} {ρ : Rho} {i : Nat} {b : List Nat} {k m : Int} (hb : ρ[i]? = some (.val (.lst (nts b)))) (h0 : 0 ≤ k) (h : k < b.length) (hm : 0 < m) : ∃ v : Nat, (v : Int) < m ∧ evE T (.bin .mod (.bi .int [(.idx (.var i) (.cst (.int k)))]) (.cst (.int m))) ρ = .ok (.int (v : Int)) := by
  obtain ⟨v, hv, e⟩ := idx_nts (T := T) hb (e := .cst (.int k)) q_cst h0 h
  obtain ⟨w, hw, e2⟩ := mod_nat v hm
  refine ⟨w, hw, ?_⟩
  have e3 := int_is (e := .idx (.var i) (.cst (.int k))) e
  rw [mod_is (T := T) (ρ := ρ) (a := .bi .int [(.idx (.var i) (.cst (.int k)))]) (b := .cst (.int m)) e3 rfl hm, e2]
theorem cutL_map {α β : Type} (f : α → β) (xs : List α) (lo hi : Option Int) : cutL (xs.map f) lo hi = (cutL xs lo hi).map f := by
  unfold cutL
  simp [List.map_drop, List.map_take]
theorem cutL_memJ {α : Type} {xs : List α} {lo hi : Option Int} {x : α} (h : x ∈ cutL xs lo hi) : x ∈ xs := by
  unfold cutL at h
  exact List.mem_of_mem_drop (List.mem_of_mem_take h)
theorem cutL_lenJ {α : Type} {xs : List α} {lo hi : Int} (h0 : 0 ≤ lo) (h1 : lo ≤ hi) (h2 : hi ≤ xs.length) : (cutL xs (some lo) (some hi)).length = (hi - lo).toNat := by
  unfold cutL sixD
  simp only [show ¬ lo < 0 by omega, show ¬ hi < 0 by omega, if_false, List.length_take, List.length_drop]
  omega
theorem slc_is {T : Tb} {ρ : Rho} {i : Nat} {b : List Nat} {lo hi : Int} {e f : CE} (hb : ρ[i]? = some (.val (.lst (nts b)))) (he : evE T e ρ = .ok (.int lo)) (hf : evE T f ρ = .ok (.int hi)) (h0 : 0 ≤ lo) (h1 : lo ≤ hi) (h2 : hi ≤ b.length) :
    ∃ c : List Nat, c.length = (hi - lo).toNat ∧ (∀ y ∈ c, y ∈ b) ∧ evE T (.slc (.var i) (some e) (some f)) ρ = .ok (.lst (nts c)) := by
  refine ⟨cutL b (some lo) (some hi), cutL_lenJ h0 h1 h2, fun y hy => cutL_memJ hy, ?_⟩
  rw [q_slc, q_bv, hb, o_some, he, o_some, hf]
  show R.ok (D.lst (cutL (nts b) (some lo) (some hi))) = _
  unfold nts
  rw [cutL_map]
theorem plainL_of {ys : List D} (h : ∀ y ∈ ys, y.plain = true) : D.plainL ys = true := by
  induction ys with
  | nil => rfl
  | cons y r ih =>
    simp only [D.plainL, Bool.and_eq_true]
    exact ⟨h y (by simp), ih fun z hz => h z (by simp [hz])⟩
theorem getI_ex {xs : List D} {k : Int} (h0 : 0 ≤ k) (h : k < xs.length) : ∃ d, d ∈ xs ∧ getI xs k = .ok d := by
  obtain ⟨n, rfl⟩ := Int.eq_ofNat_of_zero_le h0
  have hn : n < xs.length := by omega
  exact ⟨xs[n], List.getElem_mem hn, getI_nat hn⟩
theorem pick_tup {T : Tb} {ρ : Rho} {a e : CE} {xs : List D} {k : Int} (ha : bor a ρ (evE T a ρ) = .ok (.tup xs)) (he : evE T e ρ = .ok (.int k)) (h0 : 0 ≤ k) (h : k < xs.length) : ∃ d, d ∈ xs ∧ evE T (.idx a e) ρ = .ok d := by
  obtain ⟨d, hd, e2⟩ := getI_ex h0 h
  refine ⟨d, hd, ?_⟩
  rw [q_idx, ha, ok_bind, he, ok_bind]
  exact e2
theorem vr {T : Tb} {ρ : Rho} {i : Nat} {d : D} (h : ρ[i]? = some (.val d)) : bor (.var i) ρ (evE T (.var i) ρ) = .ok d := by
  rw [q_bv, h]
  rfl
theorem vr' {T : Tb} {ρ : Rho} {i : Nat} {d : D} (h : ρ[i]? = some (.val d)) : evE T (.var i) ρ = .ok d := by
  rw [q_var, h]
  rfl
theorem bv {T : Tb} {ρ : Rho} {e : CE} {d : D} (h : evE T e ρ = .ok d) : bor e ρ (evE T e ρ) = .ok d := by
  cases e <;> try exact h
  rename_i i
  rw [q_var] at h
  rw [q_bv]
  unfold slotE at h
  split at h
  · rename_i d' hd
    injection h with h
    rw [hd, h]
    rfl
  · cases h
theorem bin_ok {T : Tb} {ρ : Rho} {o : Op2} {a b : CE} {x y : D} (ha : evE T a ρ = .ok x) (hb : evE T b ρ = .ok y) : evE T (.bin o a b) ρ = binD o x y := bin_is (bv ha) (bv hb)
theorem int_ok {T : Tb} {ρ : Rho} {e : CE} {i : Int} (he : evE T e ρ = .ok (.int i)) : evE T (.bi .int [e]) ρ = .ok (.int i) := int_is (bv he)
theorem mod_ok {T : Tb} {ρ : Rho} {a b : CE} {i m : Int} (ha : evE T a ρ = .ok (.int i)) (hb : evE T b ρ = .ok (.int m)) (hm : 0 < m) : evE T (.bin .mod a b) ρ = .ok (.int (i % m)) := mod_is (bv ha) (bv hb) hm
theorem eq_t {T : Tb} {ρ : Rho} {i : Nat} {v k : Int} (h : ρ[i]? = some (.val (.int v))) : evT T (.of (.bin .eq (.var i) (.cst (.int k)))) ρ = .ok (decide (v = k)) := by
  rw [t_of]
  show (evE T (.bin .eq (.var i) (.cst (.int k))) ρ >>= _) = _
  rw [bin_is (vr h) (y := .int k) rfl, eq_ii, ok_bind]
  rfl
theorem lt_t {T : Tb} {ρ : Rho} {i : Nat} {v k : Int} (h : ρ[i]? = some (.val (.int v))) : evT T (.of (.bin .lt (.var i) (.cst (.int k)))) ρ = .ok (decide (v < k)) := by
  rw [t_of]
  show (evE T (.bin .lt (.var i) (.cst (.int k))) ρ >>= _) = _
  rw [bin_is (vr h) (y := .int k) rfl]
  rfl
theorem slc_str {T : Tb} {ρ : Rho} {i : Nat} {s : List Nat} {lo hi : Option CE} {l h : Option Int} (hi' : ρ[i]? = some (.val (.str s))) (h1 : evO T lo ρ = .ok l) (h2 : evO T hi ρ = .ok h) : evE T (.slc (.var i) lo hi) ρ = .ok (.str (cutL s l h)) := by
  rw [q_slc, vr hi', ok_bind, h1, ok_bind, h2]
  rfl
theorem slc_lst {T : Tb} {ρ : Rho} {i : Nat} {s : List D} {lo hi : Option CE} {l h : Option Int} (hi' : ρ[i]? = some (.val (.lst s))) (h1 : evO T lo ρ = .ok l) (h2 : evO T hi ρ = .ok h) : evE T (.slc (.var i) lo hi) ρ = .ok (.lst (cutL s l h)) := by
  rw [q_slc, vr hi', ok_bind, h1, ok_bind, h2]
  rfl
theorem slc_tup {T : Tb} {ρ : Rho} {i : Nat} {s : List D} {lo hi : Option CE} {l h : Option Int} (hi' : ρ[i]? = some (.val (.tup s))) (h1 : evO T lo ρ = .ok l) (h2 : evO T hi ρ = .ok h) : evE T (.slc (.var i) lo hi) ρ = .ok (.tup (cutL s l h)) := by
  rw [q_slc, vr hi', ok_bind, h1, ok_bind, h2]
  rfl
theorem o_is {T : Tb} {ρ : Rho} {e : CE} {i : Int} (h : evE T e ρ = .ok (.int i)) : evO T (some e) ρ = .ok (some i) := by
  rw [o_some, h]
  rfl
theorem tuple_lst {T : Tb} {ρ : Rho} {e : CE} {xs : List D} (h : bor e ρ (evE T e ρ) = .ok (.lst xs)) : evE T (.bi .tuple [e]) ρ = .ok (.tup xs) := by
  rw [q_bi, bs_cons, bs_nil, h]
  simp [BI.hot, biD]
theorem list_tup {T : Tb} {ρ : Rho} {e : CE} {xs : List D} (h : bor e ρ (evE T e ρ) = .ok (.tup xs)) : evE T (.bi .list [e]) ρ = .ok (.lst xs) := by
  rw [q_bi, bs_cons, bs_nil, h]
  simp [BI.hot, biD]
theorem cutL_le {α : Type} (xs : List α) (lo hi : Option Int) : (cutL xs lo hi).length ≤ xs.length := by
  unfold cutL
  simp only [List.length_take, List.length_drop]
  omega
theorem cutL_plain {xs : List D} {lo hi : Option Int} (h : ∀ x ∈ xs, x.plain = true) : ∀ x ∈ cutL xs lo hi, x.plain = true := fun x hx => h x (cutL_memJ hx)
theorem add_ss {x y : List Nat} (h : x.length + y.length ≤ 16777216) : binD .add (.str x) (.str y) = .ok (.str (x ++ y)) := by
  simp only [binD, if_pos h]
theorem add_tt {x y : List D} (h : x.length + y.length ≤ 16777216) : binD .add (.tup x) (.tup y) = .ok (.tup (x ++ y)) := by
  simp only [binD, if_pos h]
theorem add_ll {x y : List D} (h : x.length + y.length ≤ 16777216) : binD .add (.lst x) (.lst y) = .ok (.lst (x ++ y)) := by
  simp only [binD, if_pos h]
theorem app_plain {xs ys : List D} (h : ∀ x ∈ xs, x.plain = true) (g : ∀ x ∈ ys, x.plain = true) : ∀ x ∈ xs ++ ys, x.plain = true := fun x hx => by
  rcases List.mem_append.mp hx with a | a
  · exact h x a
  · exact g x a
theorem tup_plain {xs : List D} (h : ∀ x ∈ xs, x.plain = true) : D.plain (.tup xs) = true := plainL_of h
theorem lst_plain {xs : List D} (h : ∀ x ∈ xs, x.plain = true) : D.plain (.lst xs) = true := plainL_of h
theorem ints_plain (l : List Int) : ∀ x ∈ l.map D.int, x.plain = true := fun x hx => by
  obtain ⟨i, _, rfl⟩ := List.mem_map.mp hx
  rfl
theorem one_tup {T : Tb} {ρ : Rho} {e : CE} {d : D} (h : evE T e ρ = .ok d) : evE T (.tup [e]) ρ = .ok (.tup [d]) := by
  rw [q_tup, es_cons, h]
  rfl
theorem two_tup {T : Tb} {ρ : Rho} {e f : CE} {d g : D} (h : evE T e ρ = .ok d) (k : evE T f ρ = .ok g) : evE T (.tup [e, f]) ρ = .ok (.tup [d, g]) := by
  rw [q_tup, es_cons, h, ok_bind, es_cons, k]
  rfl
theorem tuple_ok {T : Tb} {ρ : Rho} {e : CE} {xs : List D} (h : evE T e ρ = .ok (.lst xs)) : evE T (.bi .tuple [e]) ρ = .ok (.tup xs) := tuple_lst (bv h)
theorem list_ok {T : Tb} {ρ : Rho} {e : CE} {xs : List D} (h : evE T e ρ = .ok (.tup xs)) : evE T (.bi .list [e]) ρ = .ok (.lst xs) := list_tup (bv h)
theorem bs_one {T : Tb} {ρ : Rho} {e : CE} {d : D} (h : evE T e ρ = .ok d) : evBs T [e] ρ = .ok [d] := by
  rw [bs_cons, bv h]
  rfl
theorem bs_two {T : Tb} {ρ : Rho} {e f : CE} {d g : D} (h : evE T e ρ = .ok d) (k : evE T f ρ = .ok g) : evBs T [e, f] ρ = .ok [d, g] := by
  rw [bs_cons, bv h, ok_bind, bs_one k]
  rfl
theorem bs_three {T : Tb} {ρ : Rho} {e f u : CE} {d g v : D} (h : evE T e ρ = .ok d) (k : evE T f ρ = .ok g) (l : evE T u ρ = .ok v) : evBs T [e, f, u] ρ = .ok [d, g, v] := by
  rw [bs_cons, bv h, ok_bind, bs_two k l]
  rfl
theorem map_erase {α β : Type} (f : α → β) : ∀ (l : List α) (i : Nat), (l.map f).eraseIdx i = (l.eraseIdx i).map f
  | [], _ => rfl
  | _ :: _, 0 => rfl
  | x :: l, i + 1 => by simp only [List.map_cons, List.eraseIdx_cons_succ, map_erase f l i]
theorem perm_erase {α : Type} : ∀ (l : List α) (i : Nat) (h : i < l.length), (l[i] :: l.eraseIdx i).Perm l
  | x :: l, 0, _ => List.Perm.refl _
  | x :: l, i + 1, h => by
    have ih := perm_erase l i (by simpa using h)
    simp only [List.getElem_cons_succ, List.eraseIdx_cons_succ]
    exact (List.Perm.swap _ _ _).trans (ih.cons x)
end Ev
end
section
set_option Elab.async false
set_option linter.all false
set_option maxRecDepth 100000
set_option maxHeartbeats 4000000
namespace Vk19_whole_joining
open PySem PySem.Spec PyProof.Rows L2 Ev
abbrev prog : Program := PySem.Challenge.pw_sincemarks_k19_whole_joining
def fns : List FnI := [⟨"is_integer", 2, ["thing"]⟩, ⟨"is_number", 3, ["thing"]⟩, ⟨"is_natural", 4, ["thing"]⟩, ⟨"are_numbers", 5, ["thing"]⟩, ⟨"require", 11, ["holds", "name"]⟩, ⟨"least_from", 12, ["low", "high", "serves"]⟩, ⟨"choose", 14, ["top", "few"]⟩, ⟨"capacity", 15, ["width", "reach"]⟩, ⟨"is_row", 17, ["thing"]⟩, ⟨"number_of", 19, ["width", "row"]⟩, ⟨"_require_row", 20, ["width", "row"]⟩, ⟨"_below", 21, ["places", "member"]⟩, ⟨"row_of", 22, ["width", "number"]⟩, ⟨"_greatest_member", 23, ["places", "number"]⟩, ⟨"joined", 25, ["width", "one", "other"]⟩, ⟨"joined_all", 26, ["width", "numbers"]⟩, ⟨"joined_many", 27, ["width", "number", "many"]⟩, ⟨"top_merged", 28, ["width", "rows"]⟩, ⟨"_law_mixed", 30, ["_law_cell", "_law_k"]⟩, ⟨"_law_draws", 31, ["_law_script", "_law_length"]⟩, ⟨"_law_is", 32, ["_law_got", "_law_due"]⟩, ⟨"_law_great", 33, ["_law_d", "_law_k"]⟩, ⟨"_law_product", 34, ["_law_a", "_law_b"]⟩, ⟨"_law_place", 35, ["_law_u", "_law_members_here"]⟩, ⟨"_law_cut", 36, ["_law_u", "_law_members_here"]⟩, ⟨"_law_after", 37, ["_law_u", "_law_members_here"]⟩, ⟨"_law_listed", 38, ["_law_u", "_law_c"]⟩, ⟨"_law_small", 39, ["_law_u", "_law_c", "_law_d"]⟩, ⟨"_law_bound", 40, ["_law_u"]⟩, ⟨"_law_members", 41, ["_law_u", "_law_pool", "_law_d", "_law_k"]⟩, ⟨"_law_far", 42, ["_law_u", "_law_d"]⟩, ⟨"_law_ask", 43, ["_law_which", "_law_a"]⟩, ⟨"_law_word", 44, ["_law_which", "_law_a"]⟩, ⟨"_law_refusals", 45, ["_law_odd", "_law_u"]⟩, ⟨"law", 46, ["_law_script"]⟩]
def cls : List ClI := [⟨"MarkError", 7, 0, [], []⟩, ⟨"BookError", 8, 0, [], []⟩, ⟨"NotUsable", 9, 0, ["word", "at"], ["self", "word", "at"]⟩]
def sub : List (List Bool) := [[true, false, false], [true, true, false], [true, true, true]]
def cons : List (Str × D) := []
def tabs : List (Str × List (Str × D)) := []
def bins : List (Str × String) := [("comb", "math.comb")]
def lams : List LmD := [lamD prog 23 2 0 ["member"] ["places", "number"] 13]
def mod : Md' := ⟨prog, fns, cls, sub, cons, tabs, bins, lams, [13], [5]⟩
abbrev lsc0 : Scope := (mod.lams.getD 0 default).scope
instance nmI : Nm := ⟨fun l c => if l = 73 ∧ c = 31 then "_greatest_member.<locals>.<lambda>" else ""⟩
abbrev rw0 : PySem.W.OpenLaw := PySem.Challenge.rw_sincemarks_k19_whole_joining
abbrev Rw : PySem.W.OpenRow := PySem.W.OpenLaw.row rw0
abbrev hk : PySem.W.Hook := mod.hook 6
def ob (s : PySem.W.SharedT) : AlV × Bool := mod.obsG 6 (HandSHeadRun.getT s)
theorem ob_eq (s : PySem.W.SharedT) : ob s = hk.obs s.abs := mod.obsG_eq (HandSHeadRun.getT_eq s)
def loose : List Str := [("is_integer" : Str), ("is_number" : Str), ("is_natural" : Str), ("are_numbers" : Str), ("MarkError" : Str), ("BookError" : Str), ("NotUsable" : Str), ("require" : Str), ("least_from" : Str), ("choose" : Str), ("capacity" : Str), ("is_row" : Str), ("number_of" : Str), ("_require_row" : Str), ("_below" : Str), ("row_of" : Str), ("_greatest_member" : Str), ("joined" : Str), ("joined_all" : Str), ("joined_many" : Str), ("top_merged" : Str), ("_law_mixed" : Str), ("_law_draws" : Str), ("_law_is" : Str), ("_law_great" : Str), ("_law_product" : Str), ("_law_place" : Str), ("_law_cut" : Str), ("_law_after" : Str), ("_law_listed" : Str), ("_law_small" : Str), ("_law_bound" : Str), ("_law_members" : Str), ("_law_far" : Str), ("_law_ask" : Str)] ++ [("_law_word" : Str), ("_law_refusals" : Str)]
theorem run (w : World) : HandSHeadRun.RunEqI Rw (PySem.W.view Rw.prog [0, 46]) hk ob 6000 loose w := by
  unfold HandSHeadRun.RunEqI
  kernel_rfl
def b0 : List CS := [(.ret (.and (.isi (.var 0) .int) (.un .not (.isi (.var 0) .bool))))]
def n0 : List Str := ["thing"]
def b1 : List CS := [(.ret (.and (.call 0 [(.var 0)]) (.bin .ge (.var 0) (.cst (.int 0)))))]
def n1 : List Str := ["thing"]
def b2 : List CS := [(.ret (.and (.call 0 [(.var 0)]) (.bin .ge (.var 0) (.cst (.int 1)))))]
def n2 : List Str := ["thing"]
def b3 : List CS := [(.ret (.and (.isi (.var 0) .tuple) (.bi .all [(.cmp (.nm 1) (.of (.var 0)) .yes (.call 1 [(.var 1)]))])))]
def n3 : List Str := ["thing", "k"]
def b4 : List CS := [(.ife (.not (.of (.var 0))) [(.raise 2 [(.var 1), (.un .neg (.cst (.int 1)))])] [])]
def n4 : List Str := ["holds", "name"]
def b5 : List CS := [(.ife (.not (.of (.capp 2 [(.var 1)]))) [(.ret (.cst .non))] []), (.par [3, 4] [(.var 0), (.var 1)]), (.whl (.of (.bin .lt (.var 3) (.var 4))) [(.set 5 (.bin .fdiv (.bin .add (.var 3) (.var 4)) (.cst (.int 2)))), (.ife (.of (.capp 2 [(.var 5)])) [(.set 4 (.var 5))] [(.set 3 (.bin .add (.var 5) (.cst (.int 1))))])]), (.ret (.var 4))]
def n5 : List Str := ["low", "high", "serves", "least", "most", "middle"]
def b6 : List CS := [(.ex (.call 4 [(.call 1 [(.var 0)]), (.cst (.str (L "top")))])), (.ex (.call 4 [(.call 1 [(.var 1)]), (.cst (.str (L "few")))])), (.ret (.comb (.var 0) (.var 1)))]
def n6 : List Str := ["top", "few"]
def b7 : List CS := [(.ex (.call 4 [(.call 2 [(.var 0)]), (.cst (.str (L "width")))])), (.ex (.call 4 [(.call 2 [(.var 1)]), (.cst (.str (L "reach")))])), (.ret (.call 6 [(.bin .add (.var 0) (.var 1)), (.var 1)]))]
def n7 : List Str := ["width", "reach"]
def b8 : List CS := [(.ife (.or (.not (.of (.isi (.var 0) .tuple))) (.not (.of (.bi .all [(.cmp (.nm 1) (.of (.var 0)) .yes (.call 2 [(.var 1)]))])))) [(.ret (.cst (.bl false)))] []), (.ret (.bi .all [(.cmp (.tp [1, 2]) (.zip (.var 0) (.slc (.var 0) (some (.cst (.int 1))) none)) .yes (.bin .ge (.var 1) (.var 2)))]))]
def n8 : List Str := ["thing", "member", "following"]
def b9 : List CS := [(.ex (.call 10 [(.var 0), (.var 1)])), (.ret (.bi .sum [(.cmp (.tp [2, 3]) (.enum (.var 1)) .yes (.call 11 [(.bin .sub (.var 0) (.var 2)), (.var 3)]))]))]
def n9 : List Str := ["width", "row", "index", "member"]
def b10 : List CS := [(.ex (.call 4 [(.call 2 [(.var 0)]), (.cst (.str (L "width")))])), (.ex (.call 4 [(.and (.call 8 [(.var 1)]) (.bin .le (.bi .len [(.var 1)]) (.var 0))), (.cst (.str (L "row")))]))]
def n10 : List Str := ["width", "row"]
def b11 : List CS := [(.ret (.call 6 [(.bin .sub (.bin .add (.var 1) (.var 0)) (.cst (.int 1))), (.var 0)]))]
def n11 : List Str := ["places", "member"]
def b12 : List CS := [(.ex (.call 4 [(.call 2 [(.var 0)]), (.cst (.str (L "width")))])), (.ex (.call 4 [(.call 1 [(.var 1)]), (.cst (.str (L "number")))])), (.setOwn 2 (.lst [])), (.set 3 (.var 1)), (.whl (.of (.bin .gt (.var 3) (.cst (.int 0)))) [(.set 4 (.bin .sub (.var 0) (.bi .len [(.var 2)]))), (.app 2 (.call 13 [(.var 4), (.var 3)])), (.aug 3 .sub (.call 11 [(.var 4), (.idx (.var 2) (.un .neg (.cst (.int 1))))]))]), (.ret (.bi .tuple [(.var 2)]))]
def n12 : List Str := ["width", "number", "row", "left", "places"]
def b13 : List CS := [(.set 2 (.cst (.int 1))), (.whl (.of (.bin .le (.call 11 [(.var 0), (.bin .add (.var 2) (.cst (.int 1)))]) (.var 1))) [(.set 2 (.bin .mul (.cst (.int 2)) (.var 2)))]), (.ret (.callL 5 [(.cst (.int 1)), (.var 2)] 35 [0, 1] []))]
def n13 : List Str := ["places", "number", "high"]
def b14 : List CS := [(.ex (.call 4 [(.call 2 [(.var 0)]), (.cst (.str (L "width")))])), (.ex (.call 4 [(.call 1 [(.var 1)]), (.cst (.str (L "one")))])), (.ex (.call 4 [(.call 1 [(.var 2)]), (.cst (.str (L "other")))])), (.ret (.call 15 [(.var 0), (.tup [(.var 1), (.var 2)])]))]
def n14 : List Str := ["width", "one", "other"]
def b15 : List CS := [(.ex (.call 4 [(.call 2 [(.var 0)]), (.cst (.str (L "width")))])), (.ex (.call 4 [(.call 3 [(.var 1)]), (.cst (.str (L "numbers")))])), (.setC 2 (.cmp (.nm 3) (.of (.var 1)) .yes (.call 12 [(.var 0), (.var 3)]))), (.ret (.call 9 [(.var 0), (.call 17 [(.var 0), (.var 2)])]))]
def n15 : List Str := ["width", "numbers", "rows", "number"]
def b16 : List CS := [(.ex (.call 4 [(.call 2 [(.var 0)]), (.cst (.str (L "width")))])), (.ex (.call 4 [(.call 1 [(.var 1)]), (.cst (.str (L "number")))])), (.ex (.call 4 [(.call 1 [(.var 2)]), (.cst (.str (L "many")))])), (.ret (.call 9 [(.var 0), (.call 17 [(.var 0), (.bin .mul (.lst [(.call 12 [(.var 0), (.var 1)])]) (.bi .min2 [(.var 2), (.var 0)]))])]))]
def n16 : List Str := ["width", "number", "many"]
def b17 : List CS := [(.ret (.bi .tuple [(.slc (.bi .sortedR [(.cmp2 (.nm 2) (.of (.var 1)) (.nm 3) (.of (.var 2)) (.var 3))]) none (some (.var 0)))]))]
def n17 : List Str := ["width", "rows", "row", "member"]
def b18 : List CS := [(.set 2 (.bin .mul (.bin .add (.bin .mod (.bi .int [(.var 0)]) (.cst (.int 998244353))) (.cst (.int 1237))) (.bin .add (.bin .mul (.var 1) (.cst (.int 6151))) (.cst (.int 30011))))), (.set 2 (.bin .mul (.bin .add (.bin .fdiv (.bin .mod (.bi .int [(.var 2)]) (.cst (.int 2147483629))) (.cst (.int 19))) (.bin .mul (.var 1) (.cst (.int 86453)))) (.cst (.int 40487)))), (.ret (.bin .mod (.bin .fdiv (.bin .mod (.bi .int [(.var 2)]) (.cst (.int 1999999943))) (.cst (.int 23))) (.cst (.int 983))))]
def n18 : List Str := ["_law_cell", "_law_k", "_law_x"]
def b19 : List CS := [(.setOwn 2 (.lst [])), (.for (.nm 3) (.of (.slc (.var 0) none (some (.cst (.int 63))))) [(.set 4 (.bi .abs [(.var 3)])), (.ife (.of (.bin .lt (.var 4) (.bin .pow (.cst (.int 10)) (.cst (.int 18))))) [(.app 2 (.call 18 [(.var 3), (.cst (.int 2))]))] [(.for (.nm 5) (.rng (.cst (.int 0)) (.cst (.int 60))) [(.ife (.of (.bin .gt (.var 4) (.cst (.int 0)))) [(.app 2 (.bin .mod (.bi .int [(.var 4)]) (.cst (.int 983)))), (.set 4 (.bin .fdiv (.var 4) (.cst (.int 983))))] [])])])]), (.ife (.of (.bin .gt (.bi .len [(.var 0)]) (.cst (.int 0)))) [(.for (.nm 5) (.rng (.cst (.int 0)) (.var 1)) [(.app 2 (.call 18 [(.idx (.var 0) (.bin .mod (.var 5) (.bi .min2 [(.cst (.int 63)), (.bi .len [(.var 0)])]))), (.bin .add (.var 5) (.cst (.int 7)))]))])] []), (.setOwn 2 (.bin .add (.var 2) (.bin .mul (.lst [(.cst (.int 0))]) (.var 1)))), (.ret (.slc (.var 2) none (some (.var 1))))]
def n19 : List Str := ["_law_script", "_law_length", "_law_told", "_law_cell", "_law_left", "_law_k"]
def b20 : List CS := [(.ret (.and (.isi (.var 0) .int) (.and (.un .not (.isi (.var 0) .bool)) (.bin .eq (.var 0) (.var 1)))))]
def n20 : List Str := ["_law_got", "_law_due"]
def b21 : List CS := [(.set 2 (.cst (.int 0))), (.for (.nm 3) (.rng (.cst (.int 0)) (.bin .add (.cst (.int 1)) (.bin .mod (.idx (.var 0) (.var 1)) (.cst (.int 10))))) [(.set 2 (.bin .add (.bin .mul (.var 2) (.cst (.int 983))) (.idx (.var 0) (.bin .add (.bin .add (.var 1) (.cst (.int 1))) (.var 3)))))]), (.ret (.var 2))]
def n21 : List Str := ["_law_d", "_law_k", "_law_told", "_law_i"]
def b22 : List CS := [(.set 2 (.cst (.int 1))), (.for (.nm 3) (.rng (.cst (.int 0)) (.var 1)) [(.set 2 (.bin .fdiv (.bin .mul (.var 2) (.bin .sub (.var 0) (.var 3))) (.bin .add (.var 3) (.cst (.int 1)))))]), (.ret (.bin .mul (.var 2) (.bi .int [(.bin .ge (.var 0) (.var 1))])))]
def n22 : List Str := ["_law_a", "_law_b", "_law_told", "_law_k"]
def b23 : List CS := [(.set 2 (.cst (.int 0))), (.for (.nm 3) (.rng (.cst (.int 0)) (.bi .len [(.var 1)])) [(.set 2 (.bin .add (.var 2) (.call 22 [(.bin .sub (.bin .sub (.bin .add (.idx (.var 1) (.var 3)) (.var 0)) (.cst (.int 1))) (.var 3)), (.bin .sub (.var 0) (.var 3))])))]), (.ret (.var 2))]
def n23 : List Str := ["_law_u", "_law_members_here", "_law_told", "_law_i"]
def b24 : List CS := [(.ret (.bi .tuple [(.slc (.bi .sortedR [(.var 1)]) none (some (.var 0)))]))]
def n24 : List Str := ["_law_u", "_law_members_here"]
def b25 : List CS := [(.ife (.of (.bin .lt (.bi .len [(.var 1)]) (.var 0))) [(.ret (.bin .add (.var 1) (.tup [(.cst (.int 1))])))] []), (.set 2 (.idx (.var 1) (.bin .sub (.bi .len [(.var 1)]) (.cst (.int 1))))), (.ret (.bin .add (.bi .tuple [(.cmp (.nm 3) (.of (.var 1)) (.of (.bin .gt (.var 3) (.var 2))) (.var 3))]) (.tup [(.bin .add (.var 2) (.cst (.int 1)))])))]
def n25 : List Str := ["_law_u", "_law_members_here", "_law_least", "_law_a"]
def b26 : List CS := [(.set 2 (.lst [(.tup [])])), (.set 3 (.lst [(.tup [])])), (.for (.nm 4) (.rng (.cst (.int 0)) (.var 0)) [(.setOwn 5 (.lst [])), (.for (.nm 6) (.of (.var 2)) [(.set 7 (.var 1)), (.ife (.of (.bin .gt (.bi .len [(.var 6)]) (.cst (.int 0)))) [(.set 7 (.idx (.var 6) (.bin .sub (.bi .len [(.var 6)]) (.cst (.int 1)))))] []), (.for (.nm 8) (.rng (.cst (.int 1)) (.bin .add (.var 7) (.cst (.int 1)))) [(.app 5 (.bin .add (.var 6) (.tup [(.var 8)])))])]), (.set 2 (.bi .list [(.var 5)])), (.set 3 (.bin .add (.var 3) (.var 5)))]), (.ret (.sortT (.var 3)))]
def n26 : List Str := ["_law_u", "_law_c", "_law_longest", "_law_told", "_law_k", "_law_further", "_law_old", "_law_last", "_law_b"]
def b27 : List CS := [(.set 3 (.call 26 [(.var 0), (.var 1)])), (.set 4 (.bin .mod (.idx (.var 2) (.cst (.int 10))) (.bi .len [(.var 3)]))), (.for (.nm 5) (.rng (.cst (.int 0)) (.bi .len [(.var 3)])) [(.set 9 (.ixo (.var 3) (.call 24 [(.var 0), (.bin .add (.idx (.var 3) (.var 4)) (.idx (.var 3) (.var 5)))]))), (.ife (.or (.not (.of (.call 20 [(.call 14 [(.var 0), (.var 4), (.var 5)]), (.var 9)]))) (.not (.of (.call 20 [(.callk 14 [] [(.var 4), (.var 0), (.var 5)] [1, 2, 0]), (.var 9)])))) [(.ret (.cst (.bl false)))] [])]), (.set 6 (.bin .mod (.idx (.var 2) (.cst (.int 11))) (.cst (.int 9)))), (.ife (.of (.bin .eq (.bin .mod (.idx (.var 2) (.cst (.int 12))) (.cst (.int 8))) (.cst (.int 3)))) [(.set 6 (.cst (.int 40)))] []), (.setC 7 (.cmp (.nm 12) (.rng (.cst (.int 0)) (.var 6)) .yes (.bin .mod (.bin .mul (.idx (.var 2) (.bin .add (.cst (.int 13)) (.bin .mod (.var 12) (.cst (.int 9))))) (.bin .add (.var 12) (.cst (.int 1)))) (.bi .len [(.var 3)])))), (.set 8 (.tup [])), (.for (.nm 5) (.of (.var 7)) [(.set 8 (.bin .add (.var 8) (.idx (.var 3) (.var 5))))]), (.set 9 (.ixo (.var 3) (.call 24 [(.var 0), (.var 8)]))), (.ife (.not (.of (.call 20 [(.call 15 [(.var 0), (.bi .tuple [(.var 7)])]), (.var 9)]))) [(.ret (.cst (.bl false)))] []), (.ife (.not (.of (.call 20 [(.callk 15 [] [(.bi .tuple [(.revS (.var 7))]), (.var 0)] [1, 0]), (.var 9)]))) [(.ret (.cst (.bl false)))] []), (.set 10 (.cst (.int 0))), (.for (.nm 5) (.of (.var 7)) [(.set 10 (.call 14 [(.var 0), (.var 5), (.var 10)]))]), (.ife (.or (.not (.of (.call 20 [(.var 10), (.var 9)]))) (.or (.not (.of (.call 20 [(.call 15 [(.var 0), (.tup [])]), (.cst (.int 0))]))) (.not (.of (.call 20 [(.call 15 [(.var 0), (.tup [(.var 4)])]), (.var 4)]))))) [(.ret (.cst (.bl false)))] []), (.for (.nm 11) (.rng (.cst (.int 0)) (.bin .add (.var 0) (.cst (.int 4)))) [(.set 9 (.ixo (.var 3) (.call 24 [(.var 0), (.bin .mul (.idx (.var 3) (.var 4)) (.var 11))]))), (.ife (.or (.not (.of (.call 20 [(.call 16 [(.var 0), (.var 4), (.var 11)]), (.var 9)]))) (.not (.of (.call 20 [(.call 15 [(.var 0), (.bin .mul (.tup [(.var 4)]) (.var 11))]), (.var 9)])))) [(.ret (.cst (.bl false)))] [])]), (.ret (.cst (.bl true)))]
def n27 : List Str := ["_law_u", "_law_c", "_law_d", "_law_listed_here", "_law_x", "_law_y", "_law_size", "_law_picked", "_law_merged", "_law_due", "_law_folded", "_law_times", "_law_k"]
def b28 : List CS := [(.set 1 (.lst [(.bin .pow (.cst (.int 10)) (.cst (.int 29))), (.bin .pow (.cst (.int 10)) (.cst (.int 14))), (.bin .pow (.cst (.int 10)) (.cst (.int 9))), (.bin .pow (.cst (.int 10)) (.cst (.int 7))), (.bin .pow (.cst (.int 10)) (.cst (.int 5))), (.bin .pow (.cst (.int 10)) (.cst (.int 4))), (.bin .pow (.cst (.int 10)) (.cst (.int 4))), (.cst (.int 1000)), (.cst (.int 1000)), (.cst (.int 100)), (.cst (.int 100)), (.cst (.int 100)), (.cst (.int 100)), (.cst (.int 100))])), (.ife (.of (.bin .gt (.var 0) (.bi .len [(.var 1)]))) [(.ret (.cst (.int 20)))] []), (.ret (.idx (.var 1) (.bin .sub (.var 0) (.cst (.int 1)))))]
def n28 : List Str := ["_law_u", "_law_bounds"]
def b29 : List CS := [(.set 4 (.tup [])), (.for (.nm 5) (.rng (.cst (.int 0)) (.cst (.int 4))) [(.set 4 (.bin .add (.var 4) (.bin .mul (.tup [(.idx (.var 1) (.var 5))]) (.bin .mod (.idx (.var 2) (.bin .add (.var 3) (.var 5))) (.cst (.int 4))))))]), (.ife (.of (.bin .eq (.bin .mod (.idx (.var 2) (.bin .add (.var 3) (.cst (.int 4)))) (.cst (.int 4))) (.cst (.int 0)))) [(.set 4 (.bin .add (.var 4) (.bin .mul (.tup [(.idx (.var 1) (.bin .mod (.idx (.var 2) (.bin .add (.var 3) (.cst (.int 5)))) (.cst (.int 4))))]) (.var 0))))] []), (.ret (.call 24 [(.var 0), (.var 4)]))]
def n29 : List Str := ["_law_u", "_law_pool", "_law_d", "_law_k", "_law_told", "_law_i"]
def b30 : List CS := [(.setC 2 (.cmp (.nm 15) (.rng (.cst (.int 0)) (.cst (.int 4))) .yes (.bin .add (.cst (.int 1)) (.bin .mod (.bi .int [(.call 21 [(.var 1), (.bin .add (.cst (.int 46)) (.bin .mul (.cst (.int 11)) (.var 15)))])]) (.call 28 [(.var 0)]))))), (.set 3 (.call 29 [(.var 0), (.var 2), (.var 1), (.cst (.int 22))])), (.set 4 (.call 29 [(.var 0), (.var 2), (.var 1), (.cst (.int 28))])), (.set 5 (.call 29 [(.var 0), (.var 2), (.var 1), (.cst (.int 34))])), (.set 6 (.call 23 [(.var 0), (.var 3)])), (.set 7 (.call 23 [(.var 0), (.var 4)])), (.set 8 (.call 23 [(.var 0), (.var 5)])), (.set 9 (.call 23 [(.var 0), (.call 24 [(.var 0), (.bin .add (.var 3) (.var 4))])])), (.ife (.or (.not (.of (.call 20 [(.call 14 [(.var 0), (.var 6), (.var 7)]), (.var 9)]))) (.not (.of (.call 20 [(.call 14 [(.var 0), (.var 7), (.var 6)]), (.var 9)])))) [(.ret (.cst (.bl false)))] []), (.set 10 (.call 23 [(.var 0), (.call 24 [(.var 0), (.bin .add (.bin .add (.var 3) (.var 4)) (.var 5))])])), (.ife (.or (.not (.of (.call 20 [(.call 14 [(.var 0), (.call 14 [(.var 0), (.var 6), (.var 7)]), (.var 8)]), (.var 10)]))) (.not (.of (.call 20 [(.call 14 [(.var 0), (.var 6), (.call 14 [(.var 0), (.var 7), (.var 8)])]), (.var 10)])))) [(.ret (.cst (.bl false)))] []), (.ife (.or (.not (.of (.call 20 [(.call 15 [(.var 0), (.tup [(.var 8), (.var 6), (.cst (.int 0)), (.var 7)])]), (.var 10)]))) (.not (.of (.call 20 [(.call 15 [(.var 0), (.tup [(.var 7), (.var 8), (.var 6)])]), (.var 10)])))) [(.ret (.cst (.bl false)))] []), (.set 11 (.call 23 [(.var 0), (.call 24 [(.var 0), (.bin .add (.call 25 [(.var 0), (.var 3)]) (.var 4))])])), (.ife (.not (.of (.call 20 [(.callk 14 [] [(.bin .add (.var 6) (.cst (.int 1))), (.var 7), (.var 0)] [2, 0, 1]), (.var 11)]))) [(.ret (.cst (.bl false)))] []), (.ife (.or (.not (.of (.call 20 [(.call 14 [(.var 0), (.var 6), (.cst (.int 0))]), (.var 6)]))) (.not (.of (.call 20 [(.call 14 [(.var 0), (.cst (.int 0)), (.var 7)]), (.var 7)])))) [(.ret (.cst (.bl false)))] []), (.set 11 (.call 23 [(.var 0), (.call 24 [(.var 0), (.bin .mul (.var 4) (.var 0))])])), (.set 12 (.bin .add (.var 0) (.call 21 [(.var 1), (.cst (.int 90))]))), (.ife (.or (.not (.of (.call 20 [(.call 16 [(.var 0), (.var 7), (.var 12)]), (.var 11)]))) (.not (.of (.call 20 [(.callk 16 [] [(.var 0), (.var 7), (.var 0)] [2, 1, 0]), (.var 11)])))) [(.ret (.cst (.bl false)))] []), (.set 13 (.bin .mod (.idx (.var 1) (.cst (.int 40))) (.bin .add (.var 0) (.cst (.int 2))))), (.set 11 (.call 23 [(.var 0), (.call 24 [(.var 0), (.bin .mul (.var 5) (.var 13))])])), (.ife (.not (.of (.call 20 [(.call 16 [(.var 0), (.var 8), (.var 13)]), (.var 11)]))) [(.ret (.cst (.bl false)))] []), (.set 14 (.call 7 [(.var 0), (.bin .add (.cst (.int 1)) (.bin .mod (.idx (.var 1) (.cst (.int 41))) (.cst (.int 99))))])), (.ret (.and (.bin .eq (.bin .lt (.var 9) (.var 14)) (.and (.bin .lt (.var 6) (.var 14)) (.bin .lt (.var 7) (.var 14)))) (.bin .eq (.var 14) (.call 22 [(.bin .add (.bin .add (.var 0) (.cst (.int 1))) (.bin .mod (.idx (.var 1) (.cst (.int 41))) (.cst (.int 99)))), (.var 0)]))))]
def n30 : List Str := ["_law_u", "_law_d", "_law_pool", "_law_left", "_law_right", "_law_third", "_law_x", "_law_y", "_law_z", "_law_both", "_law_every", "_law_due", "_law_far_here", "_law_times", "_law_room", "_law_k"]
def b31 : List CS := [(.ife (.of (.bin .eq (.var 0) (.cst (.str (L "joined"))))) [(.ret (.call 14 [(.idx (.var 1) (.cst (.int 0))), (.idx (.var 1) (.cst (.int 1))), (.idx (.var 1) (.cst (.int 2)))]))] []), (.ife (.of (.bin .eq (.var 0) (.cst (.str (L "joined_all"))))) [(.ret (.call 15 [(.idx (.var 1) (.cst (.int 0))), (.idx (.var 1) (.cst (.int 1)))]))] []), (.ret (.call 16 [(.idx (.var 1) (.cst (.int 0))), (.idx (.var 1) (.cst (.int 1))), (.idx (.var 1) (.cst (.int 2)))]))]
def n31 : List Str := ["_law_which", "_law_a"]
def b32 : List CS := [(.try [(.ex (.call 31 [(.var 0), (.var 1)]))] [(.mk 2 (some 2) [(.ife (.not (.of (.call 20 [(.exf 2 1), (.un .neg (.cst (.int 1)))]))) [(.ret (.cst (.str (L "at"))))] []), (.ret (.exf 2 0))])]), (.ret (.cst (.str (L "let"))))]
def n32 : List Str := ["_law_which", "_law_a", "e"]
def b33 : List CS := [(.set 2 (.lst [(.tup [(.cst (.str (L "joined"))), (.tup [(.var 0), (.var 0), (.var 0)]), (.cst (.str (L "width")))]), (.tup [(.cst (.str (L "joined"))), (.tup [(.var 1), (.var 0), (.var 0)]), (.cst (.str (L "one")))]), (.tup [(.cst (.str (L "joined"))), (.tup [(.var 1), (.cst (.int 3)), (.var 0)]), (.cst (.str (L "other")))])])), (.set 2 (.bin .add (.var 2) (.lst [(.tup [(.cst (.str (L "joined"))), (.tup [(.cst (.int 0)), (.cst (.int 1)), (.cst (.int 1))]), (.cst (.str (L "width")))]), (.tup [(.cst (.str (L "joined"))), (.tup [(.cst (.bl true)), (.cst (.int 1)), (.cst (.int 1))]), (.cst (.str (L "width")))]), (.tup [(.cst (.str (L "joined"))), (.tup [(.var 1), (.un .neg (.cst (.int 1))), (.cst (.bl true))]), (.cst (.str (L "one")))])]))), (.set 2 (.bin .add (.var 2) (.lst [(.tup [(.cst (.str (L "joined"))), (.tup [(.var 1), (.cst (.bl true)), (.cst (.int 1))]), (.cst (.str (L "one")))]), (.tup [(.cst (.str (L "joined"))), (.tup [(.var 1), (.cst (.int 1)), (.un .neg (.cst (.int 1)))]), (.cst (.str (L "other")))]), (.tup [(.cst (.str (L "joined"))), (.tup [(.var 1), (.cst (.int 0)), (.cst (.bl true))]), (.cst (.str (L "other")))])]))), (.set 2 (.bin .add (.var 2) (.lst [(.tup [(.cst (.str (L "joined_all"))), (.tup [(.var 0), (.var 0)]), (.cst (.str (L "width")))]), (.tup [(.cst (.str (L "joined_all"))), (.tup [(.cst (.int 0)), (.tup [])]), (.cst (.str (L "width")))])]))), (.set 2 (.bin .add (.var 2) (.lst [(.tup [(.cst (.str (L "joined_all"))), (.tup [(.var 1), (.cst (.int 5))]), (.cst (.str (L "numbers")))])]))), (.set 2 (.bin .add (.var 2) (.lst [(.tup [(.cst (.str (L "joined_all"))), (.tup [(.var 1), (.lst [(.cst (.int 1)), (.cst (.int 2))])]), (.cst (.str (L "numbers")))]), (.tup [(.cst (.str (L "joined_all"))), (.tup [(.var 1), (.tup [(.cst (.int 1)), (.un .neg (.cst (.int 1)))])]), (.cst (.str (L "numbers")))])]))), (.set 2 (.bin .add (.var 2) (.lst [(.tup [(.cst (.str (L "joined_all"))), (.tup [(.var 1), (.tup [(.cst (.int 3)), (.var 0), (.cst (.int 1))])]), (.cst (.str (L "numbers")))]), (.tup [(.cst (.str (L "joined_all"))), (.tup [(.var 1), (.tup [(.cst (.bl true))])]), (.cst (.str (L "numbers")))])]))), (.set 2 (.bin .add (.var 2) (.lst [(.tup [(.cst (.str (L "joined_all"))), (.tup [(.var 1), (.cst .non)]), (.cst (.str (L "numbers")))]), (.tup [(.cst (.str (L "joined_all"))), (.tup [(.var 1), (.tup [(.cst (.int 2)), (.tup [(.cst (.int 1))])])]), (.cst (.str (L "numbers")))])]))), (.set 2 (.bin .add (.var 2) (.lst [(.tup [(.cst (.str (L "joined_many"))), (.tup [(.var 0), (.var 0), (.var 0)]), (.cst (.str (L "width")))]), (.tup [(.cst (.str (L "joined_many"))), (.tup [(.un .neg (.cst (.int 1))), (.cst (.int 1)), (.cst (.int 1))]), (.cst (.str (L "width")))])]))), (.set 2 (.bin .add (.var 2) (.lst [(.tup [(.cst (.str (L "joined_many"))), (.tup [(.var 1), (.var 0), (.var 0)]), (.cst (.str (L "number")))]), (.tup [(.cst (.str (L "joined_many"))), (.tup [(.var 1), (.un .neg (.cst (.int 1))), (.cst (.int 0))]), (.cst (.str (L "number")))])]))), (.set 2 (.bin .add (.var 2) (.lst [(.tup [(.cst (.str (L "joined_many"))), (.tup [(.var 1), (.cst (.int 2)), (.var 0)]), (.cst (.str (L "many")))]), (.tup [(.cst (.str (L "joined_many"))), (.tup [(.var 1), (.cst (.int 0)), (.un .neg (.cst (.int 1)))]), (.cst (.str (L "many")))])]))), (.set 2 (.bin .add (.var 2) (.lst [(.tup [(.cst (.str (L "joined_many"))), (.tup [(.var 1), (.cst (.int 1)), (.cst (.bl true))]), (.cst (.str (L "many")))]), (.tup [(.cst (.str (L "joined_many"))), (.tup [(.cst (.bl true)), (.cst (.int 1)), (.cst (.int 1))]), (.cst (.str (L "width")))])]))), (.for (.nm 3) (.of (.var 2)) [(.ife (.of (.bin .ne (.call 32 [(.idx (.var 3) (.cst (.int 0))), (.idx (.var 3) (.cst (.int 1)))]) (.idx (.var 3) (.cst (.int 2))))) [(.ret (.cst (.bl false)))] [])]), (.set 4 (.lst [(.tup [(.cst (.str (L "joined"))), (.tup [(.var 1), (.cst (.int 0)), (.cst (.int 0))]), (.cst (.int 0))]), (.tup [(.cst (.str (L "joined"))), (.tup [(.var 1), (.cst (.int 0)), (.var 1)]), (.var 1)]), (.tup [(.cst (.str (L "joined"))), (.tup [(.cst (.int 1)), (.cst (.int 4)), (.cst (.int 9))]), (.cst (.int 9))]), (.tup [(.cst (.str (L "joined_all"))), (.tup [(.var 1), (.tup [])]), (.cst (.int 0))])])), (.set 4 (.bin .add (.var 4) (.lst [(.tup [(.cst (.str (L "joined_all"))), (.tup [(.var 1), (.tup [(.cst (.int 0)), (.cst (.int 0)), (.cst (.int 7))])]), (.cst (.int 7))]), (.tup [(.cst (.str (L "joined_all"))), (.tup [(.var 1), (.tup [(.cst (.int 0))])]), (.cst (.int 0))]), (.tup [(.cst (.str (L "joined_many"))), (.tup [(.var 1), (.cst (.int 5)), (.cst (.int 0))]), (.cst (.int 0))])]))), (.set 4 (.bin .add (.var 4) (.lst [(.tup [(.cst (.str (L "joined_many"))), (.tup [(.var 1), (.cst (.int 0)), (.cst (.int 9))]), (.cst (.int 0))]), (.tup [(.cst (.str (L "joined_many"))), (.tup [(.var 1), (.cst (.int 5)), (.cst (.int 1))]), (.cst (.int 5))]), (.tup [(.cst (.str (L "joined_many"))), (.tup [(.cst (.int 1)), (.cst (.int 8)), (.cst (.int 6))]), (.cst (.int 8))])]))), (.for (.nm 3) (.of (.var 4)) [(.ife (.or (.of (.bin .ne (.call 32 [(.idx (.var 3) (.cst (.int 0))), (.idx (.var 3) (.cst (.int 1)))]) (.cst (.str (L "let"))))) (.not (.of (.call 20 [(.call 31 [(.idx (.var 3) (.cst (.int 0))), (.idx (.var 3) (.cst (.int 1)))]), (.idx (.var 3) (.cst (.int 2)))])))) [(.ret (.cst (.bl false)))] [])]), (.ret (.cst (.bl true)))]
def n33 : List Str := ["_law_odd", "_law_u", "_law_bad", "_law_ask_here", "_law_good"]
def b34 : List CS := [(.set 1 (.call 19 [(.var 0), (.cst (.int 102))])), (.set 2 (.lst [(.tup [(.cst (.int 1)), (.cst (.int 12))]), (.tup [(.cst (.int 2)), (.cst (.int 5))]), (.tup [(.cst (.int 3)), (.cst (.int 4))]), (.tup [(.cst (.int 4)), (.cst (.int 3))]), (.tup [(.cst (.int 5)), (.cst (.int 2))]), (.tup [(.cst (.int 2)), (.cst (.int 6))]), (.tup [(.cst (.int 6)), (.cst (.int 2))]), (.tup [(.cst (.int 9)), (.cst (.int 1))])])), (.set 3 (.idx (.var 2) (.bin .mod (.idx (.var 1) (.cst (.int 0))) (.cst (.int 8))))), (.ife (.not (.of (.call 27 [(.idx (.var 3) (.cst (.int 0))), (.idx (.var 3) (.cst (.int 1))), (.var 1)]))) [(.ret (.cst (.bl false)))] []), (.set 4 (.bin .add (.cst (.int 1)) (.bin .mod (.idx (.var 1) (.cst (.int 1))) (.cst (.int 40))))), (.ife (.of (.bin .gt (.bin .mod (.idx (.var 1) (.cst (.int 2))) (.cst (.int 4))) (.cst (.int 0)))) [(.set 4 (.bin .add (.cst (.int 1)) (.bin .mod (.idx (.var 1) (.cst (.int 1))) (.cst (.int 8)))))] []), (.ife (.not (.of (.call 30 [(.var 4), (.var 1)]))) [(.ret (.cst (.bl false)))] []), (.set 5 (.lst [(.cst .non), (.cst (.str (L "3"))), (.lst []), (.un .neg (.cst (.int 1))), (.tup [(.cst (.int 2))]), (.cst (.bl false)), (.cst (.bl true)), (.un .neg (.bin .pow (.cst (.int 10)) (.cst (.int 22))))])), (.ret (.call 33 [(.idx (.var 5) (.bin .mod (.idx (.var 1) (.cst (.int 3))) (.cst (.int 8)))), (.bin .add (.cst (.int 1)) (.bin .mod (.idx (.var 1) (.cst (.int 4))) (.cst (.int 7))))]))]
def n34 : List Str := ["_law_script", "_law_d", "_law_pairs", "_law_pair", "_law_u", "_law_odds"]
def fd : Nat → Option Fd
  | 0 => some ⟨1, 1, b0⟩
  | 1 => some ⟨1, 1, b1⟩
  | 2 => some ⟨1, 1, b2⟩
  | 3 => some ⟨1, 2, b3⟩
  | 4 => some ⟨2, 2, b4⟩
  | 5 => some ⟨3, 6, b5⟩
  | 6 => some ⟨2, 2, b6⟩
  | 7 => some ⟨2, 2, b7⟩
  | 8 => some ⟨1, 3, b8⟩
  | 9 => some ⟨2, 4, b9⟩
  | 10 => some ⟨2, 2, b10⟩
  | 11 => some ⟨2, 2, b11⟩
  | 12 => some ⟨2, 5, b12⟩
  | 13 => some ⟨2, 3, b13⟩
  | 14 => some ⟨3, 3, b14⟩
  | 15 => some ⟨2, 4, b15⟩
  | 16 => some ⟨3, 3, b16⟩
  | 17 => some ⟨2, 4, b17⟩
  | 18 => some ⟨2, 3, b18⟩
  | 19 => some ⟨2, 6, b19⟩
  | 20 => some ⟨2, 2, b20⟩
  | 21 => some ⟨2, 4, b21⟩
  | 22 => some ⟨2, 4, b22⟩
  | 23 => some ⟨2, 4, b23⟩
  | 24 => some ⟨2, 2, b24⟩
  | 25 => some ⟨2, 4, b25⟩
  | 26 => some ⟨2, 9, b26⟩
  | 27 => some ⟨3, 13, b27⟩
  | 28 => some ⟨1, 2, b28⟩
  | 29 => some ⟨4, 6, b29⟩
  | 30 => some ⟨2, 16, b30⟩
  | 31 => some ⟨2, 2, b31⟩
  | 32 => some ⟨2, 3, b32⟩
  | 33 => some ⟨2, 5, b33⟩
  | 34 => some ⟨1, 6, b34⟩
  | 35 => some ⟨3, 3, [.ret (.bin .gt (.call 11 [(.var 1), (.bin .add (.var 0) (.cst (.int 1)))]) (.var 2))]⟩
  | _ => none
def P : Pg := ⟨fd, mod.subB, mod.glb, fun j => mod.hos.contains j⟩
theorem fj_0 : 0 < mod.fns.length := by decide
theorem fj_1 : 1 < mod.fns.length := by decide
theorem fj_2 : 2 < mod.fns.length := by decide
theorem fj_3 : 3 < mod.fns.length := by decide
theorem fj_4 : 4 < mod.fns.length := by decide
theorem fj_5 : 5 < mod.fns.length := by decide
theorem fj_6 : 6 < mod.fns.length := by decide
theorem fj_7 : 7 < mod.fns.length := by decide
theorem fj_8 : 8 < mod.fns.length := by decide
theorem fj_9 : 9 < mod.fns.length := by decide
theorem fj_10 : 10 < mod.fns.length := by decide
theorem fj_11 : 11 < mod.fns.length := by decide
theorem fj_12 : 12 < mod.fns.length := by decide
theorem fj_13 : 13 < mod.fns.length := by decide
theorem fj_14 : 14 < mod.fns.length := by decide
theorem fj_15 : 15 < mod.fns.length := by decide
theorem fj_16 : 16 < mod.fns.length := by decide
theorem fj_17 : 17 < mod.fns.length := by decide
theorem fj_18 : 18 < mod.fns.length := by decide
theorem fj_19 : 19 < mod.fns.length := by decide
theorem fj_20 : 20 < mod.fns.length := by decide
theorem fj_21 : 21 < mod.fns.length := by decide
theorem fj_22 : 22 < mod.fns.length := by decide
theorem fj_23 : 23 < mod.fns.length := by decide
theorem fj_24 : 24 < mod.fns.length := by decide
theorem fj_25 : 25 < mod.fns.length := by decide
theorem fj_26 : 26 < mod.fns.length := by decide
theorem fj_27 : 27 < mod.fns.length := by decide
theorem fj_28 : 28 < mod.fns.length := by decide
theorem fj_29 : 29 < mod.fns.length := by decide
theorem fj_30 : 30 < mod.fns.length := by decide
theorem fj_31 : 31 < mod.fns.length := by decide
theorem fj_32 : 32 < mod.fns.length := by decide
theorem fj_33 : 33 < mod.fns.length := by decide
theorem fj_34 : 34 < mod.fns.length := by decide
theorem cj_0 : 0 < mod.cls.length := by decide
theorem cj_1 : 1 < mod.cls.length := by decide
theorem cj_2 : 2 < mod.cls.length := by decide
theorem fl_2_0 (c : Nat) (h : mod.subB c 2 = true) : (mod.cl c).fl[0]? = some ("word" : Str) := by
  have e := mod.sub_ix (by decide) c 2
  rw [show mod.ix 2 = 2 from by decide, h] at e
  rw [← mod.cl_ix (by decide) c]
  have lt := mod.ix_lt (by decide) c
  generalize mod.ix c = i at e lt ⊢
  have all : ∀ i, i < 3 → mod.subB i 2 = true → (mod.cl i).fl[0]? = some ("word" : Str) := by decide +kernel
  exact all i lt e
theorem fl_2_1 (c : Nat) (h : mod.subB c 2 = true) : (mod.cl c).fl[1]? = some ("at" : Str) := by
  have e := mod.sub_ix (by decide) c 2
  rw [show mod.ix 2 = 2 from by decide, h] at e
  rw [← mod.cl_ix (by decide) c]
  have lt := mod.ix_lt (by decide) c
  generalize mod.ix c = i at e lt ⊢
  have all : ∀ i, i < 3 → mod.subB i 2 = true → (mod.cl i).fl[1]? = some ("at" : Str) := by decide +kernel
  exact all i lt e
section
variable {K : PySem.W.Frag} {w : World} {mg : Str → Option Value} {base : Heap} {cl : Addr → Nat → List D → Prop} {T : Tb} {k : Nat} {W : WX} {X : Cx} {O : Addr → Prop} {H0 : Hp}
theorem kw_14_0_2_0_1 (h : mod.obsK K = mod.val w) : KwF ((mod.cfg K w mg base).wc cl) 14 ["width", "one", "other"] 0 ["other", "width", "one"] [1, 2, 0] := ⟨kbn_of (mod.fn_at h (j := 14) rfl) (by decide) fun _ _ _ _ _ _ us ws l1 l2 => match us, ws, l1, l2 with | [], [_, _, _], _, _ => rfl, rfl⟩
theorem kw_15_0_1_0 (h : mod.obsK K = mod.val w) : KwF ((mod.cfg K w mg base).wc cl) 15 ["width", "numbers"] 0 ["numbers", "width"] [1, 0] := ⟨kbn_of (mod.fn_at h (j := 15) rfl) (by decide) fun _ _ _ _ _ _ us ws l1 l2 => match us, ws, l1, l2 with | [], [_, _], _, _ => rfl, rfl⟩
theorem kw_14_0_1_2_0 (h : mod.obsK K = mod.val w) : KwF ((mod.cfg K w mg base).wc cl) 14 ["width", "one", "other"] 0 ["one", "other", "width"] [2, 0, 1] := ⟨kbn_of (mod.fn_at h (j := 14) rfl) (by decide) fun _ _ _ _ _ _ us ws l1 l2 => match us, ws, l1, l2 with | [], [_, _, _], _, _ => rfl, rfl⟩
theorem kw_16_0_2_1_0 (h : mod.obsK K = mod.val w) : KwF ((mod.cfg K w mg base).wc cl) 16 ["width", "number", "many"] 0 ["many", "number", "width"] [2, 1, 0] := ⟨kbn_of (mod.fn_at h (j := 16) rfl) (by decide) fun _ _ _ _ _ _ us ws l1 l2 => match us, ws, l1, l2 with | [], [_, _, _], _, _ => rfl, rfl⟩
theorem der_0 (h : mod.obsK K = mod.val w) (hO : Trk O H0) (C : Sc ((mod.cfg K w mg base).wc cl) T (k + 2) W n0 (defScope (mod.stm 2)) (fun _ => true) X) (hsub : T.sub = mod.subB) (fr : Fr2 X) (R : CloR ((mod.cfg K w mg base).wc cl) T X W H0) (HL : HoF ((mod.cfg K w mg base).wc cl) T (k + 2)) (lmx : (mod.cfg K w mg base).mkr 0 = true → LmX (mod.cfg K w mg base) X) (hq : X.env.qual = (envOfC "is_integer" (defScope (mod.stm 2)) 0 0 .none).qual) : SSs ((mod.cfg K w mg base).wc cl) O H0 none W T X (defBody (mod.stm 2)) b0 :=
 (ss_cons (ss_ret (u_andV C (u_isi C .int (by decide +kernel) (by decide +kernel) (by decide +kernel) (u_b C 0 (by decide +kernel)) rfl) (u_one (u_not C (SB.of (u_isi C .bool (by decide +kernel) (by decide +kernel) (by decide +kernel) (u_b C 0 (by decide +kernel)) rfl) rfl)))))
 ss_nil)
theorem der_1 (h : mod.obsK K = mod.val w) (hO : Trk O H0) (C : Sc ((mod.cfg K w mg base).wc cl) T (k + 2) W n1 (defScope (mod.stm 3)) (fun _ => true) X) (hsub : T.sub = mod.subB) (fr : Fr2 X) (R : CloR ((mod.cfg K w mg base).wc cl) T X W H0) (HL : HoF ((mod.cfg K w mg base).wc cl) T (k + 2)) (lmx : (mod.cfg K w mg base).mkr 1 = true → LmX (mod.cfg K w mg base) X) (hq : X.env.qual = (envOfC "is_number" (defScope (mod.stm 3)) 0 0 .none).qual) : SSs ((mod.cfg K w mg base).wc cl) O H0 none W T X (defBody (mod.stm 3)) b1 :=
 (ss_cons (ss_ret (u_andV C (u_call C 0 fj_0 rfl (by decide +kernel) (s_consC (u_b C 0 (by decide +kernel)) s_nilC rfl) rfl rfl) (u_one (u_cmp C (o := .ge) rfl rfl (u_b C 0 (by decide +kernel)) (SB.of s_int rfl)))))
 ss_nil)
theorem der_2 (h : mod.obsK K = mod.val w) (hO : Trk O H0) (C : Sc ((mod.cfg K w mg base).wc cl) T (k + 2) W n2 (defScope (mod.stm 4)) (fun _ => true) X) (hsub : T.sub = mod.subB) (fr : Fr2 X) (R : CloR ((mod.cfg K w mg base).wc cl) T X W H0) (HL : HoF ((mod.cfg K w mg base).wc cl) T (k + 2)) (lmx : (mod.cfg K w mg base).mkr 2 = true → LmX (mod.cfg K w mg base) X) (hq : X.env.qual = (envOfC "is_natural" (defScope (mod.stm 4)) 0 0 .none).qual) : SSs ((mod.cfg K w mg base).wc cl) O H0 none W T X (defBody (mod.stm 4)) b2 :=
 (ss_cons (ss_ret (u_andV C (u_call C 0 fj_0 rfl (by decide +kernel) (s_consC (u_b C 0 (by decide +kernel)) s_nilC rfl) rfl rfl) (u_one (u_cmp C (o := .ge) rfl rfl (u_b C 0 (by decide +kernel)) (SB.of s_int rfl)))))
 ss_nil)
theorem der_3 (h : mod.obsK K = mod.val w) (hO : Trk O H0) (C : Sc ((mod.cfg K w mg base).wc cl) T (k + 2) W n3 (defScope (mod.stm 5)) (fun _ => true) X) (hsub : T.sub = mod.subB) (fr : Fr2 X) (R : CloR ((mod.cfg K w mg base).wc cl) T X W H0) (HL : HoF ((mod.cfg K w mg base).wc cl) T (k + 2)) (lmx : (mod.cfg K w mg base).mkr 3 = true → LmX (mod.cfg K w mg base) X) (hq : X.env.qual = (envOfC "are_numbers" (defScope (mod.stm 5)) 0 0 .none).qual) : SSs ((mod.cfg K w mg base).wc cl) O H0 none W T X (defBody (mod.stm 5)) b3 :=
 (ss_cons (ss_ret (u_andV C (u_isi C .tuple (by decide +kernel) (by decide +kernel) (by decide +kernel) (u_b C 0 (by decide +kernel)) rfl) (u_one (u_bf C .all rfl (by decide +kernel) (by decide +kernel) (s_consB (SB.of (u_comp C (own := [("k", 1)]) rfl (by decide +kernel) rfl (fun _ => rfl) (u_iof C (u_b C 0 (by decide +kernel))) (fun hot _ _ C => (u_gn C 1 (by decide +kernel))) (fun _ _ C => (u_ifn _)) (fun _ _ C => (u_call C 1 fj_1 rfl (by decide +kernel) (s_consC (u_b C 1 (by decide +kernel)) s_nilC rfl) rfl rfl))) rfl) s_nilB rfl) rfl))))
 ss_nil)
theorem der_4 (h : mod.obsK K = mod.val w) (hO : Trk O H0) (C : Sc ((mod.cfg K w mg base).wc cl) T (k + 2) W n4 (defScope (mod.stm 11)) (fun _ => true) X) (hsub : T.sub = mod.subB) (fr : Fr2 X) (R : CloR ((mod.cfg K w mg base).wc cl) T X W H0) (HL : HoF ((mod.cfg K w mg base).wc cl) T (k + 2)) (lmx : (mod.cfg K w mg base).mkr 4 = true → LmX (mod.cfg K w mg base) X) (hq : X.env.qual = (envOfC "require" (defScope (mod.stm 11)) 0 0 .none).qual) : SSs ((mod.cfg K w mg base).wc cl) O H0 none W T X (defBody (mod.stm 11)) b4 :=
 (ss_cons (ss_ife (s_notT (u_tru C (u_b C 0 (by decide +kernel)) (fun _ => rfl))) (ss_cons (u_raise C 2 cj_2 rfl rfl (by decide +kernel) rfl (by decide) rfl (s_cons (u_v C 1 (by decide +kernel)) (s_cons (s_neg (SB.of s_int rfl)) s_nil rfl) rfl))
 ss_nil) ss_nil)
 ss_nil)
theorem der_5 (h : mod.obsK K = mod.val w) (hO : Trk O H0) (C : Sc ((mod.cfg K w mg base).wc cl) T (k + 2) W n5 (defScope (mod.stm 12)) (fun _ => true) X) (hsub : T.sub = mod.subB) (fr : Fr2 X) (R : CloR ((mod.cfg K w mg base).wc cl) T X W H0) (HL : HoF ((mod.cfg K w mg base).wc cl) T (k + 2)) (lmx : (mod.cfg K w mg base).mkr 5 = true → LmX (mod.cfg K w mg base) X) (hq : X.env.qual = (envOfC "least_from" (defScope (mod.stm 12)) 0 0 .none).qual) : SSs ((mod.cfg K w mg base).wc cl) O H0 none W T X (defBody (mod.stm 12)) b5 :=
 (ss_cons (ss_ife (s_notT (u_tru C (SB.of (u_capp C R 2 (by decide +kernel) (s_cons (u_v C 1 (by decide +kernel)) s_nil rfl) rfl) rfl) (fun _ => rfl))) (ss_cons (ss_ret s_non)
 ss_nil) ss_nil)
 (ss_cons (u_par2 C 3 4 (by decide) (by decide +kernel) (by decide +kernel) (s_cons (u_v C 0 (by decide +kernel)) (s_cons (u_v C 1 (by decide +kernel)) s_nil rfl) rfl) rfl rfl)
 (ss_cons (u_whl C (u_cmpT C (o := .lt) rfl rfl (u_b C 3 (by decide +kernel)) (u_b C 4 (by decide +kernel))) (ss_cons (u_set C 5 (by decide +kernel) rfl (u_op C (o := .fdiv) rfl (SB.of (u_op C (o := .add) rfl (u_b C 3 (by decide +kernel)) (u_b C 4 (by decide +kernel))) rfl) (SB.of s_int rfl)))
 (ss_cons (ss_ife (u_tru C (SB.of (u_capp C R 2 (by decide +kernel) (s_cons (u_v C 5 (by decide +kernel)) s_nil rfl) rfl) rfl) (fun _ => rfl)) (ss_cons (u_set C 4 (by decide +kernel) rfl (u_v C 5 (by decide +kernel)))
 ss_nil) (ss_cons (u_set C 3 (by decide +kernel) rfl (u_op C (o := .add) rfl (u_b C 5 (by decide +kernel)) (SB.of s_int rfl)))
 ss_nil))
 ss_nil)))
 (ss_cons (ss_ret (u_v C 4 (by decide +kernel)))
 ss_nil))))
theorem der_6 (h : mod.obsK K = mod.val w) (hO : Trk O H0) (C : Sc ((mod.cfg K w mg base).wc cl) T (k + 2) W n6 (defScope (mod.stm 14)) (fun _ => true) X) (hsub : T.sub = mod.subB) (fr : Fr2 X) (R : CloR ((mod.cfg K w mg base).wc cl) T X W H0) (HL : HoF ((mod.cfg K w mg base).wc cl) T (k + 2)) (lmx : (mod.cfg K w mg base).mkr 6 = true → LmX (mod.cfg K w mg base) X) (hq : X.env.qual = (envOfC "choose" (defScope (mod.stm 14)) 0 0 .none).qual) : SSs ((mod.cfg K w mg base).wc cl) O H0 none W T X (defBody (mod.stm 14)) b6 :=
 (ss_cons (ss_ex (u_call C 4 fj_4 rfl (by decide +kernel) (s_consC (SB.of (u_call C 1 fj_1 rfl (by decide +kernel) (s_consC (u_b C 0 (by decide +kernel)) s_nilC rfl) rfl rfl) rfl) (s_consC (SB.of (u_str (by decide +kernel)) rfl) s_nilC rfl) rfl) rfl rfl) rfl)
 (ss_cons (ss_ex (u_call C 4 fj_4 rfl (by decide +kernel) (s_consC (SB.of (u_call C 1 fj_1 rfl (by decide +kernel) (s_consC (u_b C 1 (by decide +kernel)) s_nilC rfl) rfl rfl) rfl) (s_consC (SB.of (u_str (by decide +kernel)) rfl) s_nilC rfl) rfl) rfl rfl) rfl)
 (ss_cons (ss_ret (u_comb C (List.mem_of_getElem? (i := 0) rfl) (by decide +kernel) (s_cons (u_v C 0 (by decide +kernel)) (s_cons (u_v C 1 (by decide +kernel)) s_nil rfl) rfl) rfl))
 ss_nil)))
theorem der_7 (h : mod.obsK K = mod.val w) (hO : Trk O H0) (C : Sc ((mod.cfg K w mg base).wc cl) T (k + 2) W n7 (defScope (mod.stm 15)) (fun _ => true) X) (hsub : T.sub = mod.subB) (fr : Fr2 X) (R : CloR ((mod.cfg K w mg base).wc cl) T X W H0) (HL : HoF ((mod.cfg K w mg base).wc cl) T (k + 2)) (lmx : (mod.cfg K w mg base).mkr 7 = true → LmX (mod.cfg K w mg base) X) (hq : X.env.qual = (envOfC "capacity" (defScope (mod.stm 15)) 0 0 .none).qual) : SSs ((mod.cfg K w mg base).wc cl) O H0 none W T X (defBody (mod.stm 15)) b7 :=
 (ss_cons (ss_ex (u_call C 4 fj_4 rfl (by decide +kernel) (s_consC (SB.of (u_call C 2 fj_2 rfl (by decide +kernel) (s_consC (u_b C 0 (by decide +kernel)) s_nilC rfl) rfl rfl) rfl) (s_consC (SB.of (u_str (by decide +kernel)) rfl) s_nilC rfl) rfl) rfl rfl) rfl)
 (ss_cons (ss_ex (u_call C 4 fj_4 rfl (by decide +kernel) (s_consC (SB.of (u_call C 2 fj_2 rfl (by decide +kernel) (s_consC (u_b C 1 (by decide +kernel)) s_nilC rfl) rfl rfl) rfl) (s_consC (SB.of (u_str (by decide +kernel)) rfl) s_nilC rfl) rfl) rfl rfl) rfl)
 (ss_cons (ss_ret (u_call C 6 fj_6 rfl (by decide +kernel) (s_consC (SB.of (u_op C (o := .add) rfl (u_b C 0 (by decide +kernel)) (u_b C 1 (by decide +kernel))) rfl) (s_consC (u_b C 1 (by decide +kernel)) s_nilC rfl) rfl) rfl rfl))
 ss_nil)))
theorem der_8 (h : mod.obsK K = mod.val w) (hO : Trk O H0) (C : Sc ((mod.cfg K w mg base).wc cl) T (k + 2) W n8 (defScope (mod.stm 17)) (fun _ => true) X) (hsub : T.sub = mod.subB) (fr : Fr2 X) (R : CloR ((mod.cfg K w mg base).wc cl) T X W H0) (HL : HoF ((mod.cfg K w mg base).wc cl) T (k + 2)) (lmx : (mod.cfg K w mg base).mkr 8 = true → LmX (mod.cfg K w mg base) X) (hq : X.env.qual = (envOfC "is_row" (defScope (mod.stm 17)) 0 0 .none).qual) : SSs ((mod.cfg K w mg base).wc cl) O H0 none W T X (defBody (mod.stm 17)) b8 :=
 (ss_cons (ss_ife (u_w (s_or (s_notT (u_tru C (SB.of (u_isi C .tuple (by decide +kernel) (by decide +kernel) (by decide +kernel) (u_b C 0 (by decide +kernel)) rfl) rfl) (fun _ => rfl))) (u_or1 (s_notT (u_tru C (SB.of (u_bf C .all rfl (by decide +kernel) (by decide +kernel) (s_consB (SB.of (u_comp C (own := [("member", 1)]) rfl (by decide +kernel) rfl (fun _ => rfl) (u_iof C (u_b C 0 (by decide +kernel))) (fun hot _ _ C => (u_gn C 1 (by decide +kernel))) (fun _ _ C => (u_ifn _)) (fun _ _ C => (u_call C 2 fj_2 rfl (by decide +kernel) (s_consC (u_b C 1 (by decide +kernel)) s_nilC rfl) rfl rfl))) rfl) s_nilB rfl) rfl) rfl) (fun _ => rfl)))))) (ss_cons (ss_ret s_bl)
 ss_nil) ss_nil)
 (ss_cons (ss_ret (u_bf C .all rfl (by decide +kernel) (by decide +kernel) (s_consB (SB.of (u_comp C (own := [("member", 1), ("following", 2)]) rfl (by decide +kernel) rfl (fun _ => rfl) (u_izip C (by decide +kernel) (u_b C 0 (by decide +kernel)) (SB.of (u_slc C (u_b C 0 (by decide +kernel)) (s_oS s_int) s_oN) rfl) rfl rfl) (fun hot _ _ C => (u_gt C hot (u_gsc C 1 (by decide +kernel) (u_gsc C 2 (by decide +kernel) u_gsn)) rfl rfl)) (fun _ _ C => (u_ifn _)) (fun _ _ C => (u_cmp C (o := .ge) rfl rfl (u_b C 1 (by decide +kernel)) (u_b C 2 (by decide +kernel))))) rfl) s_nilB rfl) rfl))
 ss_nil))
theorem der_9 (h : mod.obsK K = mod.val w) (hO : Trk O H0) (C : Sc ((mod.cfg K w mg base).wc cl) T (k + 2) W n9 (defScope (mod.stm 19)) (fun _ => true) X) (hsub : T.sub = mod.subB) (fr : Fr2 X) (R : CloR ((mod.cfg K w mg base).wc cl) T X W H0) (HL : HoF ((mod.cfg K w mg base).wc cl) T (k + 2)) (lmx : (mod.cfg K w mg base).mkr 9 = true → LmX (mod.cfg K w mg base) X) (hq : X.env.qual = (envOfC "number_of" (defScope (mod.stm 19)) 0 0 .none).qual) : SSs ((mod.cfg K w mg base).wc cl) O H0 none W T X (defBody (mod.stm 19)) b9 :=
 (ss_cons (ss_ex (u_call C 10 fj_10 rfl (by decide +kernel) (s_consC (u_b C 0 (by decide +kernel)) (s_consC (u_b C 1 (by decide +kernel)) s_nilC rfl) rfl) rfl rfl) rfl)
 (ss_cons (ss_ret (u_bf C .sum rfl (by decide +kernel) (by decide +kernel) (s_consB (SB.of (u_comp C (own := [("index", 2), ("member", 3)]) rfl (by decide +kernel) rfl (fun _ => rfl) (u_ienum C (by decide +kernel) (u_b C 1 (by decide +kernel)) rfl) (fun hot _ _ C => (u_gt C hot (u_gsc C 2 (by decide +kernel) (u_gsc C 3 (by decide +kernel) u_gsn)) rfl rfl)) (fun _ _ C => (u_ifn _)) (fun _ _ C => (u_call C 11 fj_11 rfl (by decide +kernel) (s_consC (SB.of (u_op C (o := .sub) rfl (u_b C 0 (by decide +kernel)) (u_b C 2 (by decide +kernel))) rfl) (s_consC (u_b C 3 (by decide +kernel)) s_nilC rfl) rfl) rfl rfl))) rfl) s_nilB rfl) rfl))
 ss_nil))
theorem der_10 (h : mod.obsK K = mod.val w) (hO : Trk O H0) (C : Sc ((mod.cfg K w mg base).wc cl) T (k + 2) W n10 (defScope (mod.stm 20)) (fun _ => true) X) (hsub : T.sub = mod.subB) (fr : Fr2 X) (R : CloR ((mod.cfg K w mg base).wc cl) T X W H0) (HL : HoF ((mod.cfg K w mg base).wc cl) T (k + 2)) (lmx : (mod.cfg K w mg base).mkr 10 = true → LmX (mod.cfg K w mg base) X) (hq : X.env.qual = (envOfC "_require_row" (defScope (mod.stm 20)) 0 0 .none).qual) : SSs ((mod.cfg K w mg base).wc cl) O H0 none W T X (defBody (mod.stm 20)) b10 :=
 (ss_cons (ss_ex (u_call C 4 fj_4 rfl (by decide +kernel) (s_consC (SB.of (u_call C 2 fj_2 rfl (by decide +kernel) (s_consC (u_b C 0 (by decide +kernel)) s_nilC rfl) rfl rfl) rfl) (s_consC (SB.of (u_str (by decide +kernel)) rfl) s_nilC rfl) rfl) rfl rfl) rfl)
 (ss_cons (ss_ex (u_call C 4 fj_4 rfl (by decide +kernel) (s_consC (SB.of (u_andV C (u_call C 8 fj_8 rfl (by decide +kernel) (s_consC (u_b C 1 (by decide +kernel)) s_nilC rfl) rfl rfl) (u_one (u_cmp C (o := .le) rfl rfl (SB.of (u_bf C .len rfl (by decide +kernel) (by decide +kernel) (s_consB (u_b C 1 (by decide +kernel)) s_nilB rfl) rfl) rfl) (u_b C 0 (by decide +kernel))))) rfl) (s_consC (SB.of (u_str (by decide +kernel)) rfl) s_nilC rfl) rfl) rfl rfl) rfl)
 ss_nil))
theorem der_11 (h : mod.obsK K = mod.val w) (hO : Trk O H0) (C : Sc ((mod.cfg K w mg base).wc cl) T (k + 2) W n11 (defScope (mod.stm 21)) (fun _ => true) X) (hsub : T.sub = mod.subB) (fr : Fr2 X) (R : CloR ((mod.cfg K w mg base).wc cl) T X W H0) (HL : HoF ((mod.cfg K w mg base).wc cl) T (k + 2)) (lmx : (mod.cfg K w mg base).mkr 11 = true → LmX (mod.cfg K w mg base) X) (hq : X.env.qual = (envOfC "_below" (defScope (mod.stm 21)) 0 0 .none).qual) : SSs ((mod.cfg K w mg base).wc cl) O H0 none W T X (defBody (mod.stm 21)) b11 :=
 (ss_cons (ss_ret (u_call C 6 fj_6 rfl (by decide +kernel) (s_consC (SB.of (u_op C (o := .sub) rfl (SB.of (u_op C (o := .add) rfl (u_b C 1 (by decide +kernel)) (u_b C 0 (by decide +kernel))) rfl) (SB.of s_int rfl)) rfl) (s_consC (u_b C 0 (by decide +kernel)) s_nilC rfl) rfl) rfl rfl))
 ss_nil)
theorem der_12 (h : mod.obsK K = mod.val w) (hO : Trk O H0) (C : Sc ((mod.cfg K w mg base).wc cl) T (k + 2) W n12 (defScope (mod.stm 22)) (fun _ => true) X) (hsub : T.sub = mod.subB) (fr : Fr2 X) (R : CloR ((mod.cfg K w mg base).wc cl) T X W H0) (HL : HoF ((mod.cfg K w mg base).wc cl) T (k + 2)) (lmx : (mod.cfg K w mg base).mkr 12 = true → LmX (mod.cfg K w mg base) X) (hq : X.env.qual = (envOfC "row_of" (defScope (mod.stm 22)) 0 0 .none).qual) : SSs ((mod.cfg K w mg base).wc cl) O H0 none W T X (defBody (mod.stm 22)) b12 :=
 (ss_cons (ss_ex (u_call C 4 fj_4 rfl (by decide +kernel) (s_consC (SB.of (u_call C 2 fj_2 rfl (by decide +kernel) (s_consC (u_b C 0 (by decide +kernel)) s_nilC rfl) rfl rfl) rfl) (s_consC (SB.of (u_str (by decide +kernel)) rfl) s_nilC rfl) rfl) rfl rfl) rfl)
 (ss_cons (ss_ex (u_call C 4 fj_4 rfl (by decide +kernel) (s_consC (SB.of (u_call C 1 fj_1 rfl (by decide +kernel) (s_consC (u_b C 1 (by decide +kernel)) s_nilC rfl) rfl rfl) rfl) (s_consC (SB.of (u_str (by decide +kernel)) rfl) s_nilC rfl) rfl) rfl rfl) rfl)
 (ss_cons (u_setOwn C 2 (by decide +kernel) rfl (f_lst s_nil (by decide)))
 (ss_cons (u_set C 3 (by decide +kernel) rfl (u_v C 1 (by decide +kernel)))
 (ss_cons (u_whl C (u_cmpT C (o := .gt) rfl rfl (u_b C 3 (by decide +kernel)) (SB.of s_int rfl)) (ss_cons (u_set C 4 (by decide +kernel) rfl (u_op C (o := .sub) rfl (u_b C 0 (by decide +kernel)) (SB.of (u_bf C .len rfl (by decide +kernel) (by decide +kernel) (s_consB (u_b C 2 (by decide +kernel)) s_nilB rfl) rfl) rfl)))
 (ss_cons (u_app C 2 (by decide +kernel) (u_call C 13 fj_13 rfl (by decide +kernel) (s_consC (u_b C 4 (by decide +kernel)) (s_consC (u_b C 3 (by decide +kernel)) s_nilC rfl) rfl) rfl rfl) rfl rfl rfl rfl rfl)
 (ss_cons (u_augS C 3 (by decide +kernel) (u_call C 11 fj_11 rfl (by decide +kernel) (s_consC (u_b C 4 (by decide +kernel)) (s_consC (SB.of (u_idx C (u_b C 2 (by decide +kernel)) (s_neg (SB.of s_int rfl)) rfl) rfl) s_nilC rfl) rfl) rfl rfl))
 ss_nil))))
 (ss_cons (ss_ret (u_bt C .tuple rfl (by decide +kernel) (by decide +kernel) (s_consB (u_b C 2 (by decide +kernel)) s_nilB rfl) rfl))
 ss_nil))))))
theorem der_13 (h : mod.obsK K = mod.val w) (hO : Trk O H0) (C : Sc ((mod.cfg K w mg base).wc cl) T (k + 2) W n13 (defScope (mod.stm 23)) (fun _ => true) X) (hsub : T.sub = mod.subB) (fr : Fr2 X) (R : CloR ((mod.cfg K w mg base).wc cl) T X W H0) (HL : HoF ((mod.cfg K w mg base).wc cl) T (k + 2)) (lmx : (mod.cfg K w mg base).mkr 13 = true → LmX (mod.cfg K w mg base) X) (hq : X.env.qual = (envOfC "_greatest_member" (defScope (mod.stm 23)) 0 0 .none).qual) : SSs ((mod.cfg K w mg base).wc cl) O H0 none W T X (defBody (mod.stm 23)) b13 :=
 (ss_cons (u_set C 2 (by decide +kernel) rfl s_int)
 (ss_cons (u_whl C (u_cmpT C (o := .le) rfl rfl (SB.of (u_call C 11 fj_11 rfl (by decide +kernel) (s_consC (u_b C 0 (by decide +kernel)) (s_consC (SB.of (u_op C (o := .add) rfl (u_b C 2 (by decide +kernel)) (SB.of s_int rfl)) rfl) s_nilC rfl) rfl) rfl rfl) rfl) (u_b C 1 (by decide +kernel))) (ss_cons (u_set C 2 (by decide +kernel) rfl (u_op C (o := .mul) rfl (SB.of s_int rfl) (u_b C 2 (by decide +kernel))))
 ss_nil))
 (ss_cons (ss_ret (u_callL C HL fr 5 35 fj_5 rfl rfl rfl (by decide +kernel) ⟨rfl, rfl, rfl⟩ (show NdefX.ndefB (defScope (mod.stm 23)) lsc0 ["places", "number"] = true by decide +kernel) rfl (sal_cons s_int (sal_cons (u_v C 2 (by decide +kernel)) (sal_lam C (lmx rfl) (by rw [hq]; rfl) rfl (fr := ["places", "number"]) (show NdefX.ndefB (defScope (mod.stm 23)) lsc0 ["places", "number"] = true by decide +kernel) fr s_nil rfl) rfl) rfl) rfl rfl rfl))
 ss_nil)))
theorem der_14 (h : mod.obsK K = mod.val w) (hO : Trk O H0) (C : Sc ((mod.cfg K w mg base).wc cl) T (k + 2) W n14 (defScope (mod.stm 25)) (fun _ => true) X) (hsub : T.sub = mod.subB) (fr : Fr2 X) (R : CloR ((mod.cfg K w mg base).wc cl) T X W H0) (HL : HoF ((mod.cfg K w mg base).wc cl) T (k + 2)) (lmx : (mod.cfg K w mg base).mkr 14 = true → LmX (mod.cfg K w mg base) X) (hq : X.env.qual = (envOfC "joined" (defScope (mod.stm 25)) 0 0 .none).qual) : SSs ((mod.cfg K w mg base).wc cl) O H0 none W T X (defBody (mod.stm 25)) b14 :=
 (ss_cons (ss_ex (u_call C 4 fj_4 rfl (by decide +kernel) (s_consC (SB.of (u_call C 2 fj_2 rfl (by decide +kernel) (s_consC (u_b C 0 (by decide +kernel)) s_nilC rfl) rfl rfl) rfl) (s_consC (SB.of (u_str (by decide +kernel)) rfl) s_nilC rfl) rfl) rfl rfl) rfl)
 (ss_cons (ss_ex (u_call C 4 fj_4 rfl (by decide +kernel) (s_consC (SB.of (u_call C 1 fj_1 rfl (by decide +kernel) (s_consC (u_b C 1 (by decide +kernel)) s_nilC rfl) rfl rfl) rfl) (s_consC (SB.of (u_str (by decide +kernel)) rfl) s_nilC rfl) rfl) rfl rfl) rfl)
 (ss_cons (ss_ex (u_call C 4 fj_4 rfl (by decide +kernel) (s_consC (SB.of (u_call C 1 fj_1 rfl (by decide +kernel) (s_consC (u_b C 2 (by decide +kernel)) s_nilC rfl) rfl rfl) rfl) (s_consC (SB.of (u_str (by decide +kernel)) rfl) s_nilC rfl) rfl) rfl rfl) rfl)
 (ss_cons (ss_ret (u_call C 15 fj_15 rfl (by decide +kernel) (s_consC (u_b C 0 (by decide +kernel)) (s_consC (SB.of (s_tup (s_cons (u_v C 1 (by decide +kernel)) (s_cons (u_v C 2 (by decide +kernel)) s_nil rfl) rfl) (by decide)) rfl) s_nilC rfl) rfl) rfl rfl))
 ss_nil))))
theorem der_15 (h : mod.obsK K = mod.val w) (hO : Trk O H0) (C : Sc ((mod.cfg K w mg base).wc cl) T (k + 2) W n15 (defScope (mod.stm 26)) (fun _ => true) X) (hsub : T.sub = mod.subB) (fr : Fr2 X) (R : CloR ((mod.cfg K w mg base).wc cl) T X W H0) (HL : HoF ((mod.cfg K w mg base).wc cl) T (k + 2)) (lmx : (mod.cfg K w mg base).mkr 15 = true → LmX (mod.cfg K w mg base) X) (hq : X.env.qual = (envOfC "joined_all" (defScope (mod.stm 26)) 0 0 .none).qual) : SSs ((mod.cfg K w mg base).wc cl) O H0 none W T X (defBody (mod.stm 26)) b15 :=
 (ss_cons (ss_ex (u_call C 4 fj_4 rfl (by decide +kernel) (s_consC (SB.of (u_call C 2 fj_2 rfl (by decide +kernel) (s_consC (u_b C 0 (by decide +kernel)) s_nilC rfl) rfl rfl) rfl) (s_consC (SB.of (u_str (by decide +kernel)) rfl) s_nilC rfl) rfl) rfl rfl) rfl)
 (ss_cons (ss_ex (u_call C 4 fj_4 rfl (by decide +kernel) (s_consC (SB.of (u_call C 3 fj_3 rfl (by decide +kernel) (s_consC (u_b C 1 (by decide +kernel)) s_nilC rfl) rfl rfl) rfl) (s_consC (SB.of (u_str (by decide +kernel)) rfl) s_nilC rfl) rfl) rfl rfl) rfl)
 (ss_cons (u_setC C (own := [("number", 3)]) 2 (by decide +kernel) (by decide +kernel) (by decide +kernel) (by decide +kernel) (by decide +kernel) rfl (fun _ => rfl) (u_iof C (u_b C 1 (by decide +kernel))) (fun hot _ _ C => (u_gn C 3 (by decide +kernel))) (fun _ _ C => (u_ifn _)) (fun _ _ C => (u_call C 12 fj_12 rfl (by decide +kernel) (s_consC (u_b C 0 (by decide +kernel)) (s_consC (u_b C 3 (by decide +kernel)) s_nilC rfl) rfl) rfl rfl)))
 (ss_cons (ss_ret (u_call C 9 fj_9 rfl (by decide +kernel) (s_consC (u_b C 0 (by decide +kernel)) (s_consC (SB.of (u_call C 17 fj_17 rfl (by decide +kernel) (s_consC (u_b C 0 (by decide +kernel)) (s_consC (u_b C 2 (by decide +kernel)) s_nilC rfl) rfl) rfl rfl) rfl) s_nilC rfl) rfl) rfl rfl))
 ss_nil))))
theorem der_16 (h : mod.obsK K = mod.val w) (hO : Trk O H0) (C : Sc ((mod.cfg K w mg base).wc cl) T (k + 2) W n16 (defScope (mod.stm 27)) (fun _ => true) X) (hsub : T.sub = mod.subB) (fr : Fr2 X) (R : CloR ((mod.cfg K w mg base).wc cl) T X W H0) (HL : HoF ((mod.cfg K w mg base).wc cl) T (k + 2)) (lmx : (mod.cfg K w mg base).mkr 16 = true → LmX (mod.cfg K w mg base) X) (hq : X.env.qual = (envOfC "joined_many" (defScope (mod.stm 27)) 0 0 .none).qual) : SSs ((mod.cfg K w mg base).wc cl) O H0 none W T X (defBody (mod.stm 27)) b16 :=
 (ss_cons (ss_ex (u_call C 4 fj_4 rfl (by decide +kernel) (s_consC (SB.of (u_call C 2 fj_2 rfl (by decide +kernel) (s_consC (u_b C 0 (by decide +kernel)) s_nilC rfl) rfl rfl) rfl) (s_consC (SB.of (u_str (by decide +kernel)) rfl) s_nilC rfl) rfl) rfl rfl) rfl)
 (ss_cons (ss_ex (u_call C 4 fj_4 rfl (by decide +kernel) (s_consC (SB.of (u_call C 1 fj_1 rfl (by decide +kernel) (s_consC (u_b C 1 (by decide +kernel)) s_nilC rfl) rfl rfl) rfl) (s_consC (SB.of (u_str (by decide +kernel)) rfl) s_nilC rfl) rfl) rfl rfl) rfl)
 (ss_cons (ss_ex (u_call C 4 fj_4 rfl (by decide +kernel) (s_consC (SB.of (u_call C 1 fj_1 rfl (by decide +kernel) (s_consC (u_b C 2 (by decide +kernel)) s_nilC rfl) rfl rfl) rfl) (s_consC (SB.of (u_str (by decide +kernel)) rfl) s_nilC rfl) rfl) rfl rfl) rfl)
 (ss_cons (ss_ret (u_call C 9 fj_9 rfl (by decide +kernel) (s_consC (u_b C 0 (by decide +kernel)) (s_consC (SB.of (u_call C 17 fj_17 rfl (by decide +kernel) (s_consC (u_b C 0 (by decide +kernel)) (s_consC (SB.of (u_op C (o := .mul) rfl (SB.of (s_lst (s_cons (u_call C 12 fj_12 rfl (by decide +kernel) (s_consC (u_b C 0 (by decide +kernel)) (s_consC (u_b C 1 (by decide +kernel)) s_nilC rfl) rfl) rfl rfl) s_nil rfl) (by decide)) rfl) (SB.of (u_bf C .min2 rfl (by decide +kernel) (by decide +kernel) (s_consB (u_b C 2 (by decide +kernel)) (s_consB (u_b C 0 (by decide +kernel)) s_nilB rfl) rfl) rfl) rfl)) rfl) s_nilC rfl) rfl) rfl rfl) rfl) s_nilC rfl) rfl) rfl rfl))
 ss_nil))))
theorem der_17 (h : mod.obsK K = mod.val w) (hO : Trk O H0) (C : Sc ((mod.cfg K w mg base).wc cl) T (k + 2) W n17 (defScope (mod.stm 28)) (fun _ => true) X) (hsub : T.sub = mod.subB) (fr : Fr2 X) (R : CloR ((mod.cfg K w mg base).wc cl) T X W H0) (HL : HoF ((mod.cfg K w mg base).wc cl) T (k + 2)) (lmx : (mod.cfg K w mg base).mkr 17 = true → LmX (mod.cfg K w mg base) X) (hq : X.env.qual = (envOfC "top_merged" (defScope (mod.stm 28)) 0 0 .none).qual) : SSs ((mod.cfg K w mg base).wc cl) O H0 none W T X (defBody (mod.stm 28)) b17 :=
 (ss_cons (ss_ret (u_bt C .tuple rfl (by decide +kernel) (by decide +kernel) (s_consB (SB.of (u_slc C (SB.of (u_sortR C (by decide +kernel) (s_consB (SB.of (u_comp2 C (own := [("row", 2), ("member", 3)]) (by decide +kernel) rfl (fun _ => rfl) (fun _ _ => rfl) (u_iof C (u_b C 1 (by decide +kernel))) (fun _ _ C => (u_gn C 2 (by decide +kernel))) (fun _ _ C => (u_iof C (u_b C 2 (by decide +kernel)))) (fun _ _ C => (u_gn C 3 (by decide +kernel))) (fun _ _ C => (u_v C 3 (by decide +kernel)))) rfl) s_nilB rfl) rfl rfl rfl rfl rfl) rfl) s_oN (s_oS (u_v C 0 (by decide +kernel)))) rfl) s_nilB rfl) rfl))
 ss_nil)
theorem der_18 (h : mod.obsK K = mod.val w) (hO : Trk O H0) (C : Sc ((mod.cfg K w mg base).wc cl) T (k + 2) W n18 (defScope (mod.stm 30)) (fun _ => true) X) (hsub : T.sub = mod.subB) (fr : Fr2 X) (R : CloR ((mod.cfg K w mg base).wc cl) T X W H0) (HL : HoF ((mod.cfg K w mg base).wc cl) T (k + 2)) (lmx : (mod.cfg K w mg base).mkr 18 = true → LmX (mod.cfg K w mg base) X) (hq : X.env.qual = (envOfC "_law_mixed" (defScope (mod.stm 30)) 0 0 .none).qual) : SSs ((mod.cfg K w mg base).wc cl) O H0 none W T X (defBody (mod.stm 30)) b18 :=
 (ss_cons (u_set C 2 (by decide +kernel) rfl (u_op C (o := .mul) rfl (SB.of (u_op C (o := .add) rfl (SB.of (u_op C (o := .mod) rfl (SB.of (u_bt C .int rfl (by decide +kernel) (by decide +kernel) (s_consB (u_b C 0 (by decide +kernel)) s_nilB rfl) rfl) rfl) (SB.of s_int rfl)) rfl) (SB.of s_int rfl)) rfl) (SB.of (u_op C (o := .add) rfl (SB.of (u_op C (o := .mul) rfl (u_b C 1 (by decide +kernel)) (SB.of s_int rfl)) rfl) (SB.of s_int rfl)) rfl)))
 (ss_cons (u_set C 2 (by decide +kernel) rfl (u_op C (o := .mul) rfl (SB.of (u_op C (o := .add) rfl (SB.of (u_op C (o := .fdiv) rfl (SB.of (u_op C (o := .mod) rfl (SB.of (u_bt C .int rfl (by decide +kernel) (by decide +kernel) (s_consB (u_b C 2 (by decide +kernel)) s_nilB rfl) rfl) rfl) (SB.of s_int rfl)) rfl) (SB.of s_int rfl)) rfl) (SB.of (u_op C (o := .mul) rfl (u_b C 1 (by decide +kernel)) (SB.of s_int rfl)) rfl)) rfl) (SB.of s_int rfl)))
 (ss_cons (ss_ret (u_op C (o := .mod) rfl (SB.of (u_op C (o := .fdiv) rfl (SB.of (u_op C (o := .mod) rfl (SB.of (u_bt C .int rfl (by decide +kernel) (by decide +kernel) (s_consB (u_b C 2 (by decide +kernel)) s_nilB rfl) rfl) rfl) (SB.of s_int rfl)) rfl) (SB.of s_int rfl)) rfl) (SB.of s_int rfl)))
 ss_nil)))
theorem der_19 (h : mod.obsK K = mod.val w) (hO : Trk O H0) (C : Sc ((mod.cfg K w mg base).wc cl) T (k + 2) W n19 (defScope (mod.stm 31)) (fun _ => true) X) (hsub : T.sub = mod.subB) (fr : Fr2 X) (R : CloR ((mod.cfg K w mg base).wc cl) T X W H0) (HL : HoF ((mod.cfg K w mg base).wc cl) T (k + 2)) (lmx : (mod.cfg K w mg base).mkr 19 = true → LmX (mod.cfg K w mg base) X) (hq : X.env.qual = (envOfC "_law_draws" (defScope (mod.stm 31)) 0 0 .none).qual) : SSs ((mod.cfg K w mg base).wc cl) O H0 none W T X (defBody (mod.stm 31)) b19 :=
 (ss_cons (u_setOwn C 2 (by decide +kernel) rfl (f_lst s_nil (by decide)))
 (ss_cons (u_for C (fun _ => rfl) (u_iof C (SB.of (u_slc C (u_b C 0 (by decide +kernel)) s_oN (s_oS s_int)) rfl)) (fun hot => (u_gn C 3 (by decide +kernel))) (ss_cons (u_set C 4 (by decide +kernel) rfl (u_bf C .abs rfl (by decide +kernel) (by decide +kernel) (s_consB (u_b C 3 (by decide +kernel)) s_nilB rfl) rfl))
 (ss_cons (ss_ife (u_cmpT C (o := .lt) rfl rfl (u_b C 4 (by decide +kernel)) (SB.of (u_op C (o := .pow) rfl (SB.of s_int rfl) (SB.of s_int rfl)) rfl)) (ss_cons (u_app C 2 (by decide +kernel) (u_call C 18 fj_18 rfl (by decide +kernel) (s_consC (u_b C 3 (by decide +kernel)) (s_consC (SB.of s_int rfl) s_nilC rfl) rfl) rfl rfl) rfl rfl rfl rfl rfl)
 ss_nil) (ss_cons (u_for C (fun _ => rfl) (u_ir1 C (by decide +kernel) s_int rfl) (fun hot => (u_gn C 5 (by decide +kernel))) (ss_cons (ss_ife (u_cmpT C (o := .gt) rfl rfl (u_b C 4 (by decide +kernel)) (SB.of s_int rfl)) (ss_cons (u_app C 2 (by decide +kernel) (u_op C (o := .mod) rfl (SB.of (u_bt C .int rfl (by decide +kernel) (by decide +kernel) (s_consB (u_b C 4 (by decide +kernel)) s_nilB rfl) rfl) rfl) (SB.of s_int rfl)) rfl rfl rfl rfl rfl)
 (ss_cons (u_set C 4 (by decide +kernel) rfl (u_op C (o := .fdiv) rfl (u_b C 4 (by decide +kernel)) (SB.of s_int rfl)))
 ss_nil)) ss_nil)
 ss_nil))
 ss_nil))
 ss_nil)))
 (ss_cons (ss_ife (u_cmpT C (o := .gt) rfl rfl (SB.of (u_bf C .len rfl (by decide +kernel) (by decide +kernel) (s_consB (u_b C 0 (by decide +kernel)) s_nilB rfl) rfl) rfl) (SB.of s_int rfl)) (ss_cons (u_for C (fun _ => rfl) (u_ir1 C (by decide +kernel) (u_v C 1 (by decide +kernel)) rfl) (fun hot => (u_gn C 5 (by decide +kernel))) (ss_cons (u_app C 2 (by decide +kernel) (u_call C 18 fj_18 rfl (by decide +kernel) (s_consC (SB.of (u_idx C (u_b C 0 (by decide +kernel)) (u_op C (o := .mod) rfl (u_b C 5 (by decide +kernel)) (SB.of (u_bf C .min2 rfl (by decide +kernel) (by decide +kernel) (s_consB (SB.of s_int rfl) (s_consB (SB.of (u_bf C .len rfl (by decide +kernel) (by decide +kernel) (s_consB (u_b C 0 (by decide +kernel)) s_nilB rfl) rfl) rfl) s_nilB rfl) rfl) rfl) rfl)) rfl) rfl) (s_consC (SB.of (u_op C (o := .add) rfl (u_b C 5 (by decide +kernel)) (SB.of s_int rfl)) rfl) s_nilC rfl) rfl) rfl rfl) rfl rfl rfl rfl rfl)
 ss_nil))
 ss_nil) ss_nil)
 (ss_cons (u_setOwn C 2 (by decide +kernel) rfl (u_faddM C (u_b C 2 (by decide +kernel)) (SB.of (u_op C (o := .mul) rfl (SB.of (s_lst (s_cons s_int s_nil rfl) (by decide)) rfl) (u_b C 1 (by decide +kernel))) rfl)))
 (ss_cons (ss_ret (u_slc C (u_b C 2 (by decide +kernel)) s_oN (s_oS (u_v C 1 (by decide +kernel)))))
 ss_nil)))))
theorem der_20 (h : mod.obsK K = mod.val w) (hO : Trk O H0) (C : Sc ((mod.cfg K w mg base).wc cl) T (k + 2) W n20 (defScope (mod.stm 32)) (fun _ => true) X) (hsub : T.sub = mod.subB) (fr : Fr2 X) (R : CloR ((mod.cfg K w mg base).wc cl) T X W H0) (HL : HoF ((mod.cfg K w mg base).wc cl) T (k + 2)) (lmx : (mod.cfg K w mg base).mkr 20 = true → LmX (mod.cfg K w mg base) X) (hq : X.env.qual = (envOfC "_law_is" (defScope (mod.stm 32)) 0 0 .none).qual) : SSs ((mod.cfg K w mg base).wc cl) O H0 none W T X (defBody (mod.stm 32)) b20 :=
 (ss_cons (ss_ret (u_andV C (u_isi C .int (by decide +kernel) (by decide +kernel) (by decide +kernel) (u_b C 0 (by decide +kernel)) rfl) (u_andV C (u_not C (SB.of (u_isi C .bool (by decide +kernel) (by decide +kernel) (by decide +kernel) (u_b C 0 (by decide +kernel)) rfl) rfl)) (u_one (u_cmp C (o := .eq) rfl rfl (u_b C 0 (by decide +kernel)) (u_b C 1 (by decide +kernel)))))))
 ss_nil)
theorem der_21 (h : mod.obsK K = mod.val w) (hO : Trk O H0) (C : Sc ((mod.cfg K w mg base).wc cl) T (k + 2) W n21 (defScope (mod.stm 33)) (fun _ => true) X) (hsub : T.sub = mod.subB) (fr : Fr2 X) (R : CloR ((mod.cfg K w mg base).wc cl) T X W H0) (HL : HoF ((mod.cfg K w mg base).wc cl) T (k + 2)) (lmx : (mod.cfg K w mg base).mkr 21 = true → LmX (mod.cfg K w mg base) X) (hq : X.env.qual = (envOfC "_law_great" (defScope (mod.stm 33)) 0 0 .none).qual) : SSs ((mod.cfg K w mg base).wc cl) O H0 none W T X (defBody (mod.stm 33)) b21 :=
 (ss_cons (u_set C 2 (by decide +kernel) rfl s_int)
 (ss_cons (u_for C (fun _ => rfl) (u_ir1 C (by decide +kernel) (u_op C (o := .add) rfl (SB.of s_int rfl) (SB.of (u_op C (o := .mod) rfl (SB.of (u_idx C (u_b C 0 (by decide +kernel)) (u_v C 1 (by decide +kernel)) rfl) rfl) (SB.of s_int rfl)) rfl)) rfl) (fun hot => (u_gn C 3 (by decide +kernel))) (ss_cons (u_set C 2 (by decide +kernel) rfl (u_op C (o := .add) rfl (SB.of (u_op C (o := .mul) rfl (u_b C 2 (by decide +kernel)) (SB.of s_int rfl)) rfl) (SB.of (u_idx C (u_b C 0 (by decide +kernel)) (u_op C (o := .add) rfl (SB.of (u_op C (o := .add) rfl (u_b C 1 (by decide +kernel)) (SB.of s_int rfl)) rfl) (u_b C 3 (by decide +kernel))) rfl) rfl)))
 ss_nil))
 (ss_cons (ss_ret (u_v C 2 (by decide +kernel)))
 ss_nil)))
theorem der_22 (h : mod.obsK K = mod.val w) (hO : Trk O H0) (C : Sc ((mod.cfg K w mg base).wc cl) T (k + 2) W n22 (defScope (mod.stm 34)) (fun _ => true) X) (hsub : T.sub = mod.subB) (fr : Fr2 X) (R : CloR ((mod.cfg K w mg base).wc cl) T X W H0) (HL : HoF ((mod.cfg K w mg base).wc cl) T (k + 2)) (lmx : (mod.cfg K w mg base).mkr 22 = true → LmX (mod.cfg K w mg base) X) (hq : X.env.qual = (envOfC "_law_product" (defScope (mod.stm 34)) 0 0 .none).qual) : SSs ((mod.cfg K w mg base).wc cl) O H0 none W T X (defBody (mod.stm 34)) b22 :=
 (ss_cons (u_set C 2 (by decide +kernel) rfl s_int)
 (ss_cons (u_for C (fun _ => rfl) (u_ir1 C (by decide +kernel) (u_v C 1 (by decide +kernel)) rfl) (fun hot => (u_gn C 3 (by decide +kernel))) (ss_cons (u_set C 2 (by decide +kernel) rfl (u_op C (o := .fdiv) rfl (SB.of (u_op C (o := .mul) rfl (u_b C 2 (by decide +kernel)) (SB.of (u_op C (o := .sub) rfl (u_b C 0 (by decide +kernel)) (u_b C 3 (by decide +kernel))) rfl)) rfl) (SB.of (u_op C (o := .add) rfl (u_b C 3 (by decide +kernel)) (SB.of s_int rfl)) rfl)))
 ss_nil))
 (ss_cons (ss_ret (u_op C (o := .mul) rfl (u_b C 2 (by decide +kernel)) (SB.of (u_bt C .int rfl (by decide +kernel) (by decide +kernel) (s_consB (SB.of (u_cmp C (o := .ge) rfl rfl (u_b C 0 (by decide +kernel)) (u_b C 1 (by decide +kernel))) rfl) s_nilB rfl) rfl) rfl)))
 ss_nil)))
theorem der_23 (h : mod.obsK K = mod.val w) (hO : Trk O H0) (C : Sc ((mod.cfg K w mg base).wc cl) T (k + 2) W n23 (defScope (mod.stm 35)) (fun _ => true) X) (hsub : T.sub = mod.subB) (fr : Fr2 X) (R : CloR ((mod.cfg K w mg base).wc cl) T X W H0) (HL : HoF ((mod.cfg K w mg base).wc cl) T (k + 2)) (lmx : (mod.cfg K w mg base).mkr 23 = true → LmX (mod.cfg K w mg base) X) (hq : X.env.qual = (envOfC "_law_place" (defScope (mod.stm 35)) 0 0 .none).qual) : SSs ((mod.cfg K w mg base).wc cl) O H0 none W T X (defBody (mod.stm 35)) b23 :=
 (ss_cons (u_set C 2 (by decide +kernel) rfl s_int)
 (ss_cons (u_for C (fun _ => rfl) (u_ir1 C (by decide +kernel) (u_bf C .len rfl (by decide +kernel) (by decide +kernel) (s_consB (u_b C 1 (by decide +kernel)) s_nilB rfl) rfl) rfl) (fun hot => (u_gn C 3 (by decide +kernel))) (ss_cons (u_set C 2 (by decide +kernel) rfl (u_op C (o := .add) rfl (u_b C 2 (by decide +kernel)) (SB.of (u_call C 22 fj_22 rfl (by decide +kernel) (s_consC (SB.of (u_op C (o := .sub) rfl (SB.of (u_op C (o := .sub) rfl (SB.of (u_op C (o := .add) rfl (SB.of (u_idx C (u_b C 1 (by decide +kernel)) (u_v C 3 (by decide +kernel)) rfl) rfl) (u_b C 0 (by decide +kernel))) rfl) (SB.of s_int rfl)) rfl) (u_b C 3 (by decide +kernel))) rfl) (s_consC (SB.of (u_op C (o := .sub) rfl (u_b C 0 (by decide +kernel)) (u_b C 3 (by decide +kernel))) rfl) s_nilC rfl) rfl) rfl rfl) rfl)))
 ss_nil))
 (ss_cons (ss_ret (u_v C 2 (by decide +kernel)))
 ss_nil)))
theorem der_24 (h : mod.obsK K = mod.val w) (hO : Trk O H0) (C : Sc ((mod.cfg K w mg base).wc cl) T (k + 2) W n24 (defScope (mod.stm 36)) (fun _ => true) X) (hsub : T.sub = mod.subB) (fr : Fr2 X) (R : CloR ((mod.cfg K w mg base).wc cl) T X W H0) (HL : HoF ((mod.cfg K w mg base).wc cl) T (k + 2)) (lmx : (mod.cfg K w mg base).mkr 24 = true → LmX (mod.cfg K w mg base) X) (hq : X.env.qual = (envOfC "_law_cut" (defScope (mod.stm 36)) 0 0 .none).qual) : SSs ((mod.cfg K w mg base).wc cl) O H0 none W T X (defBody (mod.stm 36)) b24 :=
 (ss_cons (ss_ret (u_bt C .tuple rfl (by decide +kernel) (by decide +kernel) (s_consB (SB.of (u_slc C (SB.of (u_sortR C (by decide +kernel) (s_consB (u_b C 1 (by decide +kernel)) s_nilB rfl) rfl rfl rfl rfl rfl) rfl) s_oN (s_oS (u_v C 0 (by decide +kernel)))) rfl) s_nilB rfl) rfl))
 ss_nil)
theorem der_25 (h : mod.obsK K = mod.val w) (hO : Trk O H0) (C : Sc ((mod.cfg K w mg base).wc cl) T (k + 2) W n25 (defScope (mod.stm 37)) (fun _ => true) X) (hsub : T.sub = mod.subB) (fr : Fr2 X) (R : CloR ((mod.cfg K w mg base).wc cl) T X W H0) (HL : HoF ((mod.cfg K w mg base).wc cl) T (k + 2)) (lmx : (mod.cfg K w mg base).mkr 25 = true → LmX (mod.cfg K w mg base) X) (hq : X.env.qual = (envOfC "_law_after" (defScope (mod.stm 37)) 0 0 .none).qual) : SSs ((mod.cfg K w mg base).wc cl) O H0 none W T X (defBody (mod.stm 37)) b25 :=
 (ss_cons (ss_ife (u_cmpT C (o := .lt) rfl rfl (SB.of (u_bf C .len rfl (by decide +kernel) (by decide +kernel) (s_consB (u_b C 1 (by decide +kernel)) s_nilB rfl) rfl) rfl) (u_b C 0 (by decide +kernel))) (ss_cons (ss_ret (u_op C (o := .add) rfl (u_b C 1 (by decide +kernel)) (SB.of (s_tup (s_cons s_int s_nil rfl) (by decide)) rfl)))
 ss_nil) ss_nil)
 (ss_cons (u_set C 2 (by decide +kernel) rfl (u_idx C (u_b C 1 (by decide +kernel)) (u_op C (o := .sub) rfl (SB.of (u_bf C .len rfl (by decide +kernel) (by decide +kernel) (s_consB (u_b C 1 (by decide +kernel)) s_nilB rfl) rfl) rfl) (SB.of s_int rfl)) rfl))
 (ss_cons (ss_ret (u_op C (o := .add) rfl (SB.of (u_bt C .tuple rfl (by decide +kernel) (by decide +kernel) (s_consB (SB.of (u_comp C (own := [("_law_a", 3)]) rfl (by decide +kernel) rfl (fun _ => rfl) (u_iof C (u_b C 1 (by decide +kernel))) (fun hot _ _ C => (u_gn C 3 (by decide +kernel))) (fun _ _ C => (u_if1 (u_cmpT C (o := .gt) rfl rfl (u_b C 3 (by decide +kernel)) (u_b C 2 (by decide +kernel))))) (fun _ _ C => (u_v C 3 (by decide +kernel)))) rfl) s_nilB rfl) rfl) rfl) (SB.of (s_tup (s_cons (u_op C (o := .add) rfl (u_b C 2 (by decide +kernel)) (SB.of s_int rfl)) s_nil rfl) (by decide)) rfl)))
 ss_nil)))
theorem der_26 (h : mod.obsK K = mod.val w) (hO : Trk O H0) (C : Sc ((mod.cfg K w mg base).wc cl) T (k + 2) W n26 (defScope (mod.stm 38)) (fun _ => true) X) (hsub : T.sub = mod.subB) (fr : Fr2 X) (R : CloR ((mod.cfg K w mg base).wc cl) T X W H0) (HL : HoF ((mod.cfg K w mg base).wc cl) T (k + 2)) (lmx : (mod.cfg K w mg base).mkr 26 = true → LmX (mod.cfg K w mg base) X) (hq : X.env.qual = (envOfC "_law_listed" (defScope (mod.stm 38)) 0 0 .none).qual) : SSs ((mod.cfg K w mg base).wc cl) O H0 none W T X (defBody (mod.stm 38)) b26 :=
 (ss_cons (u_set C 2 (by decide +kernel) rfl (s_lst (s_cons (s_tup s_nil (by decide)) s_nil rfl) (by decide)))
 (ss_cons (u_set C 3 (by decide +kernel) rfl (s_lst (s_cons (s_tup s_nil (by decide)) s_nil rfl) (by decide)))
 (ss_cons (u_for C (fun _ => rfl) (u_ir1 C (by decide +kernel) (u_v C 0 (by decide +kernel)) rfl) (fun hot => (u_gn C 4 (by decide +kernel))) (ss_cons (u_setOwn C 5 (by decide +kernel) rfl (f_lst s_nil (by decide)))
 (ss_cons (u_for C (fun _ => rfl) (u_iof C (u_b C 2 (by decide +kernel))) (fun hot => (u_gn C 6 (by decide +kernel))) (ss_cons (u_set C 7 (by decide +kernel) rfl (u_v C 1 (by decide +kernel)))
 (ss_cons (ss_ife (u_cmpT C (o := .gt) rfl rfl (SB.of (u_bf C .len rfl (by decide +kernel) (by decide +kernel) (s_consB (u_b C 6 (by decide +kernel)) s_nilB rfl) rfl) rfl) (SB.of s_int rfl)) (ss_cons (u_set C 7 (by decide +kernel) rfl (u_idx C (u_b C 6 (by decide +kernel)) (u_op C (o := .sub) rfl (SB.of (u_bf C .len rfl (by decide +kernel) (by decide +kernel) (s_consB (u_b C 6 (by decide +kernel)) s_nilB rfl) rfl) rfl) (SB.of s_int rfl)) rfl))
 ss_nil) ss_nil)
 (ss_cons (u_for C (fun _ => rfl) (u_ir2 C (by decide +kernel) s_int (u_op C (o := .add) rfl (u_b C 7 (by decide +kernel)) (SB.of s_int rfl)) rfl rfl) (fun hot => (u_gn C 8 (by decide +kernel))) (ss_cons (u_app C 5 (by decide +kernel) (u_op C (o := .add) rfl (u_b C 6 (by decide +kernel)) (SB.of (s_tup (s_cons (u_v C 8 (by decide +kernel)) s_nil rfl) (by decide)) rfl)) rfl rfl rfl rfl rfl)
 ss_nil))
 ss_nil))))
 (ss_cons (u_set C 2 (by decide +kernel) rfl (u_bt C .list rfl (by decide +kernel) (by decide +kernel) (s_consB (u_b C 5 (by decide +kernel)) s_nilB rfl) rfl))
 (ss_cons (u_set C 3 (by decide +kernel) rfl (u_op C (o := .add) rfl (u_b C 3 (by decide +kernel)) (u_b C 5 (by decide +kernel))))
 ss_nil)))))
 (ss_cons (ss_ret (u_sortT C (by decide +kernel) (u_b C 3 (by decide +kernel)) rfl))
 ss_nil))))
theorem der_27 (h : mod.obsK K = mod.val w) (hO : Trk O H0) (C : Sc ((mod.cfg K w mg base).wc cl) T (k + 2) W n27 (defScope (mod.stm 39)) (fun _ => true) X) (hsub : T.sub = mod.subB) (fr : Fr2 X) (R : CloR ((mod.cfg K w mg base).wc cl) T X W H0) (HL : HoF ((mod.cfg K w mg base).wc cl) T (k + 2)) (lmx : (mod.cfg K w mg base).mkr 27 = true → LmX (mod.cfg K w mg base) X) (hq : X.env.qual = (envOfC "_law_small" (defScope (mod.stm 39)) 0 0 .none).qual) : SSs ((mod.cfg K w mg base).wc cl) O H0 none W T X (defBody (mod.stm 39)) b27 :=
 (ss_cons (u_set C 3 (by decide +kernel) rfl (u_call C 26 fj_26 rfl (by decide +kernel) (s_consC (u_b C 0 (by decide +kernel)) (s_consC (u_b C 1 (by decide +kernel)) s_nilC rfl) rfl) rfl rfl))
 (ss_cons (u_set C 4 (by decide +kernel) rfl (u_op C (o := .mod) rfl (SB.of (u_idx C (u_b C 2 (by decide +kernel)) s_int rfl) rfl) (SB.of (u_bf C .len rfl (by decide +kernel) (by decide +kernel) (s_consB (u_b C 3 (by decide +kernel)) s_nilB rfl) rfl) rfl)))
 (ss_cons (u_for C (fun _ => rfl) (u_ir1 C (by decide +kernel) (u_bf C .len rfl (by decide +kernel) (by decide +kernel) (s_consB (u_b C 3 (by decide +kernel)) s_nilB rfl) rfl) rfl) (fun hot => (u_gn C 5 (by decide +kernel))) (ss_cons (u_set C 9 (by decide +kernel) rfl (u_ixo C (u_b C 3 (by decide +kernel)) (u_call C 24 fj_24 rfl (by decide +kernel) (s_consC (u_b C 0 (by decide +kernel)) (s_consC (SB.of (u_op C (o := .add) rfl (SB.of (u_idx C (u_b C 3 (by decide +kernel)) (u_v C 4 (by decide +kernel)) rfl) rfl) (SB.of (u_idx C (u_b C 3 (by decide +kernel)) (u_v C 5 (by decide +kernel)) rfl) rfl)) rfl) s_nilC rfl) rfl) rfl rfl) rfl rfl rfl rfl))
 (ss_cons (ss_ife (u_w (s_or (s_notT (u_tru C (SB.of (u_call C 20 fj_20 rfl (by decide +kernel) (s_consC (SB.of (u_call C 14 fj_14 rfl (by decide +kernel) (s_consC (u_b C 0 (by decide +kernel)) (s_consC (u_b C 4 (by decide +kernel)) (s_consC (u_b C 5 (by decide +kernel)) s_nilC rfl) rfl) rfl) rfl rfl) rfl) (s_consC (u_b C 9 (by decide +kernel)) s_nilC rfl) rfl) rfl rfl) rfl) (fun _ => rfl))) (u_or1 (s_notT (u_tru C (SB.of (u_call C 20 fj_20 rfl (by decide +kernel) (s_consC (SB.of (u_kw0 C 14 fj_14 rfl (kw_14_0_2_0_1 h) (by decide +kernel) (s_kcons (u_b C 4 (by decide +kernel)) (s_kcons (u_b C 0 (by decide +kernel)) (s_kcons (u_b C 5 (by decide +kernel)) s_knil))) rfl rfl rfl rfl) rfl) (s_consC (u_b C 9 (by decide +kernel)) s_nilC rfl) rfl) rfl rfl) rfl) (fun _ => rfl)))))) (ss_cons (ss_ret s_bl)
 ss_nil) ss_nil)
 ss_nil)))
 (ss_cons (u_set C 6 (by decide +kernel) rfl (u_op C (o := .mod) rfl (SB.of (u_idx C (u_b C 2 (by decide +kernel)) s_int rfl) rfl) (SB.of s_int rfl)))
 (ss_cons (ss_ife (u_cmpT C (o := .eq) rfl rfl (SB.of (u_op C (o := .mod) rfl (SB.of (u_idx C (u_b C 2 (by decide +kernel)) s_int rfl) rfl) (SB.of s_int rfl)) rfl) (SB.of s_int rfl)) (ss_cons (u_set C 6 (by decide +kernel) rfl s_int)
 ss_nil) ss_nil)
 (ss_cons (u_setC C (own := [("_law_k", 12)]) 7 (by decide +kernel) (by decide +kernel) (by decide +kernel) (by decide +kernel) (by decide +kernel) rfl (fun _ => rfl) (u_ir1 C (by decide +kernel) (u_v C 6 (by decide +kernel)) rfl) (fun hot _ _ C => (u_gn C 12 (by decide +kernel))) (fun _ _ C => (u_ifn _)) (fun _ _ C => (u_op C (o := .mod) rfl (SB.of (u_op C (o := .mul) rfl (SB.of (u_idx C (u_b C 2 (by decide +kernel)) (u_op C (o := .add) rfl (SB.of s_int rfl) (SB.of (u_op C (o := .mod) rfl (u_b C 12 (by decide +kernel)) (SB.of s_int rfl)) rfl)) rfl) rfl) (SB.of (u_op C (o := .add) rfl (u_b C 12 (by decide +kernel)) (SB.of s_int rfl)) rfl)) rfl) (SB.of (u_bf C .len rfl (by decide +kernel) (by decide +kernel) (s_consB (u_b C 3 (by decide +kernel)) s_nilB rfl) rfl) rfl))))
 (ss_cons (u_set C 8 (by decide +kernel) rfl (s_tup s_nil (by decide)))
 (ss_cons (u_for C (fun _ => rfl) (u_iof C (u_b C 7 (by decide +kernel))) (fun hot => (u_gn C 5 (by decide +kernel))) (ss_cons (u_set C 8 (by decide +kernel) rfl (u_op C (o := .add) rfl (u_b C 8 (by decide +kernel)) (SB.of (u_idx C (u_b C 3 (by decide +kernel)) (u_v C 5 (by decide +kernel)) rfl) rfl)))
 ss_nil))
 (ss_cons (u_set C 9 (by decide +kernel) rfl (u_ixo C (u_b C 3 (by decide +kernel)) (u_call C 24 fj_24 rfl (by decide +kernel) (s_consC (u_b C 0 (by decide +kernel)) (s_consC (u_b C 8 (by decide +kernel)) s_nilC rfl) rfl) rfl rfl) rfl rfl rfl rfl))
 (ss_cons (ss_ife (s_notT (u_tru C (SB.of (u_call C 20 fj_20 rfl (by decide +kernel) (s_consC (SB.of (u_call C 15 fj_15 rfl (by decide +kernel) (s_consC (u_b C 0 (by decide +kernel)) (s_consC (SB.of (u_bt C .tuple rfl (by decide +kernel) (by decide +kernel) (s_consB (u_b C 7 (by decide +kernel)) s_nilB rfl) rfl) rfl) s_nilC rfl) rfl) rfl rfl) rfl) (s_consC (u_b C 9 (by decide +kernel)) s_nilC rfl) rfl) rfl rfl) rfl) (fun _ => rfl))) (ss_cons (ss_ret s_bl)
 ss_nil) ss_nil)
 (ss_cons (ss_ife (s_notT (u_tru C (SB.of (u_call C 20 fj_20 rfl (by decide +kernel) (s_consC (SB.of (u_kw0 C 15 fj_15 rfl (kw_15_0_1_0 h) (by decide +kernel) (s_kcons (SB.of (u_bt C .tuple rfl (by decide +kernel) (by decide +kernel) (s_consB (SB.of (u_revS C (u_b C 7 (by decide +kernel))) rfl) s_nilB rfl) rfl) rfl) (s_kcons (u_b C 0 (by decide +kernel)) s_knil)) rfl rfl rfl rfl) rfl) (s_consC (u_b C 9 (by decide +kernel)) s_nilC rfl) rfl) rfl rfl) rfl) (fun _ => rfl))) (ss_cons (ss_ret s_bl)
 ss_nil) ss_nil)
 (ss_cons (u_set C 10 (by decide +kernel) rfl s_int)
 (ss_cons (u_for C (fun _ => rfl) (u_iof C (u_b C 7 (by decide +kernel))) (fun hot => (u_gn C 5 (by decide +kernel))) (ss_cons (u_set C 10 (by decide +kernel) rfl (u_call C 14 fj_14 rfl (by decide +kernel) (s_consC (u_b C 0 (by decide +kernel)) (s_consC (u_b C 5 (by decide +kernel)) (s_consC (u_b C 10 (by decide +kernel)) s_nilC rfl) rfl) rfl) rfl rfl))
 ss_nil))
 (ss_cons (ss_ife (u_w (s_or (s_notT (u_tru C (SB.of (u_call C 20 fj_20 rfl (by decide +kernel) (s_consC (u_b C 10 (by decide +kernel)) (s_consC (u_b C 9 (by decide +kernel)) s_nilC rfl) rfl) rfl rfl) rfl) (fun _ => rfl))) (s_or (s_notT (u_tru C (SB.of (u_call C 20 fj_20 rfl (by decide +kernel) (s_consC (SB.of (u_call C 15 fj_15 rfl (by decide +kernel) (s_consC (u_b C 0 (by decide +kernel)) (s_consC (SB.of (s_tup s_nil (by decide)) rfl) s_nilC rfl) rfl) rfl rfl) rfl) (s_consC (SB.of s_int rfl) s_nilC rfl) rfl) rfl rfl) rfl) (fun _ => rfl))) (u_or1 (s_notT (u_tru C (SB.of (u_call C 20 fj_20 rfl (by decide +kernel) (s_consC (SB.of (u_call C 15 fj_15 rfl (by decide +kernel) (s_consC (u_b C 0 (by decide +kernel)) (s_consC (SB.of (s_tup (s_cons (u_v C 4 (by decide +kernel)) s_nil rfl) (by decide)) rfl) s_nilC rfl) rfl) rfl rfl) rfl) (s_consC (u_b C 4 (by decide +kernel)) s_nilC rfl) rfl) rfl rfl) rfl) (fun _ => rfl))))))) (ss_cons (ss_ret s_bl)
 ss_nil) ss_nil)
 (ss_cons (u_for C (fun _ => rfl) (u_ir1 C (by decide +kernel) (u_op C (o := .add) rfl (u_b C 0 (by decide +kernel)) (SB.of s_int rfl)) rfl) (fun hot => (u_gn C 11 (by decide +kernel))) (ss_cons (u_set C 9 (by decide +kernel) rfl (u_ixo C (u_b C 3 (by decide +kernel)) (u_call C 24 fj_24 rfl (by decide +kernel) (s_consC (u_b C 0 (by decide +kernel)) (s_consC (SB.of (u_op C (o := .mul) rfl (SB.of (u_idx C (u_b C 3 (by decide +kernel)) (u_v C 4 (by decide +kernel)) rfl) rfl) (u_b C 11 (by decide +kernel))) rfl) s_nilC rfl) rfl) rfl rfl) rfl rfl rfl rfl))
 (ss_cons (ss_ife (u_w (s_or (s_notT (u_tru C (SB.of (u_call C 20 fj_20 rfl (by decide +kernel) (s_consC (SB.of (u_call C 16 fj_16 rfl (by decide +kernel) (s_consC (u_b C 0 (by decide +kernel)) (s_consC (u_b C 4 (by decide +kernel)) (s_consC (u_b C 11 (by decide +kernel)) s_nilC rfl) rfl) rfl) rfl rfl) rfl) (s_consC (u_b C 9 (by decide +kernel)) s_nilC rfl) rfl) rfl rfl) rfl) (fun _ => rfl))) (u_or1 (s_notT (u_tru C (SB.of (u_call C 20 fj_20 rfl (by decide +kernel) (s_consC (SB.of (u_call C 15 fj_15 rfl (by decide +kernel) (s_consC (u_b C 0 (by decide +kernel)) (s_consC (SB.of (u_op C (o := .mul) rfl (SB.of (s_tup (s_cons (u_v C 4 (by decide +kernel)) s_nil rfl) (by decide)) rfl) (u_b C 11 (by decide +kernel))) rfl) s_nilC rfl) rfl) rfl rfl) rfl) (s_consC (u_b C 9 (by decide +kernel)) s_nilC rfl) rfl) rfl rfl) rfl) (fun _ => rfl)))))) (ss_cons (ss_ret s_bl)
 ss_nil) ss_nil)
 ss_nil)))
 (ss_cons (ss_ret s_bl)
 ss_nil))))))))))))))))
theorem der_28 (h : mod.obsK K = mod.val w) (hO : Trk O H0) (C : Sc ((mod.cfg K w mg base).wc cl) T (k + 2) W n28 (defScope (mod.stm 40)) (fun _ => true) X) (hsub : T.sub = mod.subB) (fr : Fr2 X) (R : CloR ((mod.cfg K w mg base).wc cl) T X W H0) (HL : HoF ((mod.cfg K w mg base).wc cl) T (k + 2)) (lmx : (mod.cfg K w mg base).mkr 28 = true → LmX (mod.cfg K w mg base) X) (hq : X.env.qual = (envOfC "_law_bound" (defScope (mod.stm 40)) 0 0 .none).qual) : SSs ((mod.cfg K w mg base).wc cl) O H0 none W T X (defBody (mod.stm 40)) b28 :=
 (ss_cons (u_set C 1 (by decide +kernel) rfl (s_lst (s_cons (u_op C (o := .pow) rfl (SB.of s_int rfl) (SB.of s_int rfl)) (s_cons (u_op C (o := .pow) rfl (SB.of s_int rfl) (SB.of s_int rfl)) (s_cons (u_op C (o := .pow) rfl (SB.of s_int rfl) (SB.of s_int rfl)) (s_cons (u_op C (o := .pow) rfl (SB.of s_int rfl) (SB.of s_int rfl)) (s_cons (u_op C (o := .pow) rfl (SB.of s_int rfl) (SB.of s_int rfl)) (s_cons (u_op C (o := .pow) rfl (SB.of s_int rfl) (SB.of s_int rfl)) (s_cons (u_op C (o := .pow) rfl (SB.of s_int rfl) (SB.of s_int rfl)) (s_cons s_int (s_cons s_int (s_cons s_int (s_cons s_int (s_cons s_int (s_cons s_int (s_cons s_int s_nil rfl) rfl) rfl) rfl) rfl) rfl) rfl) rfl) rfl) rfl) rfl) rfl) rfl) rfl) (by decide)))
 (ss_cons (ss_ife (u_cmpT C (o := .gt) rfl rfl (u_b C 0 (by decide +kernel)) (SB.of (u_bf C .len rfl (by decide +kernel) (by decide +kernel) (s_consB (u_b C 1 (by decide +kernel)) s_nilB rfl) rfl) rfl)) (ss_cons (ss_ret s_int)
 ss_nil) ss_nil)
 (ss_cons (ss_ret (u_idx C (u_b C 1 (by decide +kernel)) (u_op C (o := .sub) rfl (u_b C 0 (by decide +kernel)) (SB.of s_int rfl)) rfl))
 ss_nil)))
theorem der_29 (h : mod.obsK K = mod.val w) (hO : Trk O H0) (C : Sc ((mod.cfg K w mg base).wc cl) T (k + 2) W n29 (defScope (mod.stm 41)) (fun _ => true) X) (hsub : T.sub = mod.subB) (fr : Fr2 X) (R : CloR ((mod.cfg K w mg base).wc cl) T X W H0) (HL : HoF ((mod.cfg K w mg base).wc cl) T (k + 2)) (lmx : (mod.cfg K w mg base).mkr 29 = true → LmX (mod.cfg K w mg base) X) (hq : X.env.qual = (envOfC "_law_members" (defScope (mod.stm 41)) 0 0 .none).qual) : SSs ((mod.cfg K w mg base).wc cl) O H0 none W T X (defBody (mod.stm 41)) b29 :=
 (ss_cons (u_set C 4 (by decide +kernel) rfl (s_tup s_nil (by decide)))
 (ss_cons (u_for C (fun _ => rfl) (u_ir1 C (by decide +kernel) s_int rfl) (fun hot => (u_gn C 5 (by decide +kernel))) (ss_cons (u_set C 4 (by decide +kernel) rfl (u_op C (o := .add) rfl (u_b C 4 (by decide +kernel)) (SB.of (u_op C (o := .mul) rfl (SB.of (s_tup (s_cons (u_idx C (u_b C 1 (by decide +kernel)) (u_v C 5 (by decide +kernel)) rfl) s_nil rfl) (by decide)) rfl) (SB.of (u_op C (o := .mod) rfl (SB.of (u_idx C (u_b C 2 (by decide +kernel)) (u_op C (o := .add) rfl (u_b C 3 (by decide +kernel)) (u_b C 5 (by decide +kernel))) rfl) rfl) (SB.of s_int rfl)) rfl)) rfl)))
 ss_nil))
 (ss_cons (ss_ife (u_cmpT C (o := .eq) rfl rfl (SB.of (u_op C (o := .mod) rfl (SB.of (u_idx C (u_b C 2 (by decide +kernel)) (u_op C (o := .add) rfl (u_b C 3 (by decide +kernel)) (SB.of s_int rfl)) rfl) rfl) (SB.of s_int rfl)) rfl) (SB.of s_int rfl)) (ss_cons (u_set C 4 (by decide +kernel) rfl (u_op C (o := .add) rfl (u_b C 4 (by decide +kernel)) (SB.of (u_op C (o := .mul) rfl (SB.of (s_tup (s_cons (u_idx C (u_b C 1 (by decide +kernel)) (u_op C (o := .mod) rfl (SB.of (u_idx C (u_b C 2 (by decide +kernel)) (u_op C (o := .add) rfl (u_b C 3 (by decide +kernel)) (SB.of s_int rfl)) rfl) rfl) (SB.of s_int rfl)) rfl) s_nil rfl) (by decide)) rfl) (u_b C 0 (by decide +kernel))) rfl)))
 ss_nil) ss_nil)
 (ss_cons (ss_ret (u_call C 24 fj_24 rfl (by decide +kernel) (s_consC (u_b C 0 (by decide +kernel)) (s_consC (u_b C 4 (by decide +kernel)) s_nilC rfl) rfl) rfl rfl))
 ss_nil))))
theorem der_30 (h : mod.obsK K = mod.val w) (hO : Trk O H0) (C : Sc ((mod.cfg K w mg base).wc cl) T (k + 2) W n30 (defScope (mod.stm 42)) (fun _ => true) X) (hsub : T.sub = mod.subB) (fr : Fr2 X) (R : CloR ((mod.cfg K w mg base).wc cl) T X W H0) (HL : HoF ((mod.cfg K w mg base).wc cl) T (k + 2)) (lmx : (mod.cfg K w mg base).mkr 30 = true → LmX (mod.cfg K w mg base) X) (hq : X.env.qual = (envOfC "_law_far" (defScope (mod.stm 42)) 0 0 .none).qual) : SSs ((mod.cfg K w mg base).wc cl) O H0 none W T X (defBody (mod.stm 42)) b30 :=
 (ss_cons (u_setC C (own := [("_law_k", 15)]) 2 (by decide +kernel) (by decide +kernel) (by decide +kernel) (by decide +kernel) (by decide +kernel) rfl (fun _ => rfl) (u_ir1 C (by decide +kernel) s_int rfl) (fun hot _ _ C => (u_gn C 15 (by decide +kernel))) (fun _ _ C => (u_ifn _)) (fun _ _ C => (u_op C (o := .add) rfl (SB.of s_int rfl) (SB.of (u_op C (o := .mod) rfl (SB.of (u_bt C .int rfl (by decide +kernel) (by decide +kernel) (s_consB (SB.of (u_call C 21 fj_21 rfl (by decide +kernel) (s_consC (u_b C 1 (by decide +kernel)) (s_consC (SB.of (u_op C (o := .add) rfl (SB.of s_int rfl) (SB.of (u_op C (o := .mul) rfl (SB.of s_int rfl) (u_b C 15 (by decide +kernel))) rfl)) rfl) s_nilC rfl) rfl) rfl rfl) rfl) s_nilB rfl) rfl) rfl) (SB.of (u_call C 28 fj_28 rfl (by decide +kernel) (s_consC (u_b C 0 (by decide +kernel)) s_nilC rfl) rfl rfl) rfl)) rfl))))
 (ss_cons (u_set C 3 (by decide +kernel) rfl (u_call C 29 fj_29 rfl (by decide +kernel) (s_consC (u_b C 0 (by decide +kernel)) (s_consC (u_b C 2 (by decide +kernel)) (s_consC (u_b C 1 (by decide +kernel)) (s_consC (SB.of s_int rfl) s_nilC rfl) rfl) rfl) rfl) rfl rfl))
 (ss_cons (u_set C 4 (by decide +kernel) rfl (u_call C 29 fj_29 rfl (by decide +kernel) (s_consC (u_b C 0 (by decide +kernel)) (s_consC (u_b C 2 (by decide +kernel)) (s_consC (u_b C 1 (by decide +kernel)) (s_consC (SB.of s_int rfl) s_nilC rfl) rfl) rfl) rfl) rfl rfl))
 (ss_cons (u_set C 5 (by decide +kernel) rfl (u_call C 29 fj_29 rfl (by decide +kernel) (s_consC (u_b C 0 (by decide +kernel)) (s_consC (u_b C 2 (by decide +kernel)) (s_consC (u_b C 1 (by decide +kernel)) (s_consC (SB.of s_int rfl) s_nilC rfl) rfl) rfl) rfl) rfl rfl))
 (ss_cons (u_set C 6 (by decide +kernel) rfl (u_call C 23 fj_23 rfl (by decide +kernel) (s_consC (u_b C 0 (by decide +kernel)) (s_consC (u_b C 3 (by decide +kernel)) s_nilC rfl) rfl) rfl rfl))
 (ss_cons (u_set C 7 (by decide +kernel) rfl (u_call C 23 fj_23 rfl (by decide +kernel) (s_consC (u_b C 0 (by decide +kernel)) (s_consC (u_b C 4 (by decide +kernel)) s_nilC rfl) rfl) rfl rfl))
 (ss_cons (u_set C 8 (by decide +kernel) rfl (u_call C 23 fj_23 rfl (by decide +kernel) (s_consC (u_b C 0 (by decide +kernel)) (s_consC (u_b C 5 (by decide +kernel)) s_nilC rfl) rfl) rfl rfl))
 (ss_cons (u_set C 9 (by decide +kernel) rfl (u_call C 23 fj_23 rfl (by decide +kernel) (s_consC (u_b C 0 (by decide +kernel)) (s_consC (SB.of (u_call C 24 fj_24 rfl (by decide +kernel) (s_consC (u_b C 0 (by decide +kernel)) (s_consC (SB.of (u_op C (o := .add) rfl (u_b C 3 (by decide +kernel)) (u_b C 4 (by decide +kernel))) rfl) s_nilC rfl) rfl) rfl rfl) rfl) s_nilC rfl) rfl) rfl rfl))
 (ss_cons (ss_ife (u_w (s_or (s_notT (u_tru C (SB.of (u_call C 20 fj_20 rfl (by decide +kernel) (s_consC (SB.of (u_call C 14 fj_14 rfl (by decide +kernel) (s_consC (u_b C 0 (by decide +kernel)) (s_consC (u_b C 6 (by decide +kernel)) (s_consC (u_b C 7 (by decide +kernel)) s_nilC rfl) rfl) rfl) rfl rfl) rfl) (s_consC (u_b C 9 (by decide +kernel)) s_nilC rfl) rfl) rfl rfl) rfl) (fun _ => rfl))) (u_or1 (s_notT (u_tru C (SB.of (u_call C 20 fj_20 rfl (by decide +kernel) (s_consC (SB.of (u_call C 14 fj_14 rfl (by decide +kernel) (s_consC (u_b C 0 (by decide +kernel)) (s_consC (u_b C 7 (by decide +kernel)) (s_consC (u_b C 6 (by decide +kernel)) s_nilC rfl) rfl) rfl) rfl rfl) rfl) (s_consC (u_b C 9 (by decide +kernel)) s_nilC rfl) rfl) rfl rfl) rfl) (fun _ => rfl)))))) (ss_cons (ss_ret s_bl)
 ss_nil) ss_nil)
 (ss_cons (u_set C 10 (by decide +kernel) rfl (u_call C 23 fj_23 rfl (by decide +kernel) (s_consC (u_b C 0 (by decide +kernel)) (s_consC (SB.of (u_call C 24 fj_24 rfl (by decide +kernel) (s_consC (u_b C 0 (by decide +kernel)) (s_consC (SB.of (u_op C (o := .add) rfl (SB.of (u_op C (o := .add) rfl (u_b C 3 (by decide +kernel)) (u_b C 4 (by decide +kernel))) rfl) (u_b C 5 (by decide +kernel))) rfl) s_nilC rfl) rfl) rfl rfl) rfl) s_nilC rfl) rfl) rfl rfl))
 (ss_cons (ss_ife (u_w (s_or (s_notT (u_tru C (SB.of (u_call C 20 fj_20 rfl (by decide +kernel) (s_consC (SB.of (u_call C 14 fj_14 rfl (by decide +kernel) (s_consC (u_b C 0 (by decide +kernel)) (s_consC (SB.of (u_call C 14 fj_14 rfl (by decide +kernel) (s_consC (u_b C 0 (by decide +kernel)) (s_consC (u_b C 6 (by decide +kernel)) (s_consC (u_b C 7 (by decide +kernel)) s_nilC rfl) rfl) rfl) rfl rfl) rfl) (s_consC (u_b C 8 (by decide +kernel)) s_nilC rfl) rfl) rfl) rfl rfl) rfl) (s_consC (u_b C 10 (by decide +kernel)) s_nilC rfl) rfl) rfl rfl) rfl) (fun _ => rfl))) (u_or1 (s_notT (u_tru C (SB.of (u_call C 20 fj_20 rfl (by decide +kernel) (s_consC (SB.of (u_call C 14 fj_14 rfl (by decide +kernel) (s_consC (u_b C 0 (by decide +kernel)) (s_consC (u_b C 6 (by decide +kernel)) (s_consC (SB.of (u_call C 14 fj_14 rfl (by decide +kernel) (s_consC (u_b C 0 (by decide +kernel)) (s_consC (u_b C 7 (by decide +kernel)) (s_consC (u_b C 8 (by decide +kernel)) s_nilC rfl) rfl) rfl) rfl rfl) rfl) s_nilC rfl) rfl) rfl) rfl rfl) rfl) (s_consC (u_b C 10 (by decide +kernel)) s_nilC rfl) rfl) rfl rfl) rfl) (fun _ => rfl)))))) (ss_cons (ss_ret s_bl)
 ss_nil) ss_nil)
 (ss_cons (ss_ife (u_w (s_or (s_notT (u_tru C (SB.of (u_call C 20 fj_20 rfl (by decide +kernel) (s_consC (SB.of (u_call C 15 fj_15 rfl (by decide +kernel) (s_consC (u_b C 0 (by decide +kernel)) (s_consC (SB.of (s_tup (s_cons (u_v C 8 (by decide +kernel)) (s_cons (u_v C 6 (by decide +kernel)) (s_cons s_int (s_cons (u_v C 7 (by decide +kernel)) s_nil rfl) rfl) rfl) rfl) (by decide)) rfl) s_nilC rfl) rfl) rfl rfl) rfl) (s_consC (u_b C 10 (by decide +kernel)) s_nilC rfl) rfl) rfl rfl) rfl) (fun _ => rfl))) (u_or1 (s_notT (u_tru C (SB.of (u_call C 20 fj_20 rfl (by decide +kernel) (s_consC (SB.of (u_call C 15 fj_15 rfl (by decide +kernel) (s_consC (u_b C 0 (by decide +kernel)) (s_consC (SB.of (s_tup (s_cons (u_v C 7 (by decide +kernel)) (s_cons (u_v C 8 (by decide +kernel)) (s_cons (u_v C 6 (by decide +kernel)) s_nil rfl) rfl) rfl) (by decide)) rfl) s_nilC rfl) rfl) rfl rfl) rfl) (s_consC (u_b C 10 (by decide +kernel)) s_nilC rfl) rfl) rfl rfl) rfl) (fun _ => rfl)))))) (ss_cons (ss_ret s_bl)
 ss_nil) ss_nil)
 (ss_cons (u_set C 11 (by decide +kernel) rfl (u_call C 23 fj_23 rfl (by decide +kernel) (s_consC (u_b C 0 (by decide +kernel)) (s_consC (SB.of (u_call C 24 fj_24 rfl (by decide +kernel) (s_consC (u_b C 0 (by decide +kernel)) (s_consC (SB.of (u_op C (o := .add) rfl (SB.of (u_call C 25 fj_25 rfl (by decide +kernel) (s_consC (u_b C 0 (by decide +kernel)) (s_consC (u_b C 3 (by decide +kernel)) s_nilC rfl) rfl) rfl rfl) rfl) (u_b C 4 (by decide +kernel))) rfl) s_nilC rfl) rfl) rfl rfl) rfl) s_nilC rfl) rfl) rfl rfl))
 (ss_cons (ss_ife (s_notT (u_tru C (SB.of (u_call C 20 fj_20 rfl (by decide +kernel) (s_consC (SB.of (u_kw0 C 14 fj_14 rfl (kw_14_0_1_2_0 h) (by decide +kernel) (s_kcons (SB.of (u_op C (o := .add) rfl (u_b C 6 (by decide +kernel)) (SB.of s_int rfl)) rfl) (s_kcons (u_b C 7 (by decide +kernel)) (s_kcons (u_b C 0 (by decide +kernel)) s_knil))) rfl rfl rfl rfl) rfl) (s_consC (u_b C 11 (by decide +kernel)) s_nilC rfl) rfl) rfl rfl) rfl) (fun _ => rfl))) (ss_cons (ss_ret s_bl)
 ss_nil) ss_nil)
 (ss_cons (ss_ife (u_w (s_or (s_notT (u_tru C (SB.of (u_call C 20 fj_20 rfl (by decide +kernel) (s_consC (SB.of (u_call C 14 fj_14 rfl (by decide +kernel) (s_consC (u_b C 0 (by decide +kernel)) (s_consC (u_b C 6 (by decide +kernel)) (s_consC (SB.of s_int rfl) s_nilC rfl) rfl) rfl) rfl rfl) rfl) (s_consC (u_b C 6 (by decide +kernel)) s_nilC rfl) rfl) rfl rfl) rfl) (fun _ => rfl))) (u_or1 (s_notT (u_tru C (SB.of (u_call C 20 fj_20 rfl (by decide +kernel) (s_consC (SB.of (u_call C 14 fj_14 rfl (by decide +kernel) (s_consC (u_b C 0 (by decide +kernel)) (s_consC (SB.of s_int rfl) (s_consC (u_b C 7 (by decide +kernel)) s_nilC rfl) rfl) rfl) rfl rfl) rfl) (s_consC (u_b C 7 (by decide +kernel)) s_nilC rfl) rfl) rfl rfl) rfl) (fun _ => rfl)))))) (ss_cons (ss_ret s_bl)
 ss_nil) ss_nil)
 (ss_cons (u_set C 11 (by decide +kernel) rfl (u_call C 23 fj_23 rfl (by decide +kernel) (s_consC (u_b C 0 (by decide +kernel)) (s_consC (SB.of (u_call C 24 fj_24 rfl (by decide +kernel) (s_consC (u_b C 0 (by decide +kernel)) (s_consC (SB.of (u_op C (o := .mul) rfl (u_b C 4 (by decide +kernel)) (u_b C 0 (by decide +kernel))) rfl) s_nilC rfl) rfl) rfl rfl) rfl) s_nilC rfl) rfl) rfl rfl))
 (ss_cons (u_set C 12 (by decide +kernel) rfl (u_op C (o := .add) rfl (u_b C 0 (by decide +kernel)) (SB.of (u_call C 21 fj_21 rfl (by decide +kernel) (s_consC (u_b C 1 (by decide +kernel)) (s_consC (SB.of s_int rfl) s_nilC rfl) rfl) rfl rfl) rfl)))
 (ss_cons (ss_ife (u_w (s_or (s_notT (u_tru C (SB.of (u_call C 20 fj_20 rfl (by decide +kernel) (s_consC (SB.of (u_call C 16 fj_16 rfl (by decide +kernel) (s_consC (u_b C 0 (by decide +kernel)) (s_consC (u_b C 7 (by decide +kernel)) (s_consC (u_b C 12 (by decide +kernel)) s_nilC rfl) rfl) rfl) rfl rfl) rfl) (s_consC (u_b C 11 (by decide +kernel)) s_nilC rfl) rfl) rfl rfl) rfl) (fun _ => rfl))) (u_or1 (s_notT (u_tru C (SB.of (u_call C 20 fj_20 rfl (by decide +kernel) (s_consC (SB.of (u_kw0 C 16 fj_16 rfl (kw_16_0_2_1_0 h) (by decide +kernel) (s_kcons (u_b C 0 (by decide +kernel)) (s_kcons (u_b C 7 (by decide +kernel)) (s_kcons (u_b C 0 (by decide +kernel)) s_knil))) rfl rfl rfl rfl) rfl) (s_consC (u_b C 11 (by decide +kernel)) s_nilC rfl) rfl) rfl rfl) rfl) (fun _ => rfl)))))) (ss_cons (ss_ret s_bl)
 ss_nil) ss_nil)
 (ss_cons (u_set C 13 (by decide +kernel) rfl (u_op C (o := .mod) rfl (SB.of (u_idx C (u_b C 1 (by decide +kernel)) s_int rfl) rfl) (SB.of (u_op C (o := .add) rfl (u_b C 0 (by decide +kernel)) (SB.of s_int rfl)) rfl)))
 (ss_cons (u_set C 11 (by decide +kernel) rfl (u_call C 23 fj_23 rfl (by decide +kernel) (s_consC (u_b C 0 (by decide +kernel)) (s_consC (SB.of (u_call C 24 fj_24 rfl (by decide +kernel) (s_consC (u_b C 0 (by decide +kernel)) (s_consC (SB.of (u_op C (o := .mul) rfl (u_b C 5 (by decide +kernel)) (u_b C 13 (by decide +kernel))) rfl) s_nilC rfl) rfl) rfl rfl) rfl) s_nilC rfl) rfl) rfl rfl))
 (ss_cons (ss_ife (s_notT (u_tru C (SB.of (u_call C 20 fj_20 rfl (by decide +kernel) (s_consC (SB.of (u_call C 16 fj_16 rfl (by decide +kernel) (s_consC (u_b C 0 (by decide +kernel)) (s_consC (u_b C 8 (by decide +kernel)) (s_consC (u_b C 13 (by decide +kernel)) s_nilC rfl) rfl) rfl) rfl rfl) rfl) (s_consC (u_b C 11 (by decide +kernel)) s_nilC rfl) rfl) rfl rfl) rfl) (fun _ => rfl))) (ss_cons (ss_ret s_bl)
 ss_nil) ss_nil)
 (ss_cons (u_set C 14 (by decide +kernel) rfl (u_call C 7 fj_7 rfl (by decide +kernel) (s_consC (u_b C 0 (by decide +kernel)) (s_consC (SB.of (u_op C (o := .add) rfl (SB.of s_int rfl) (SB.of (u_op C (o := .mod) rfl (SB.of (u_idx C (u_b C 1 (by decide +kernel)) s_int rfl) rfl) (SB.of s_int rfl)) rfl)) rfl) s_nilC rfl) rfl) rfl rfl))
 (ss_cons (ss_ret (u_andV C (u_cmp C (o := .eq) rfl rfl (SB.of (u_cmp C (o := .lt) rfl rfl (u_b C 9 (by decide +kernel)) (u_b C 14 (by decide +kernel))) rfl) (SB.of (u_andV C (u_cmp C (o := .lt) rfl rfl (u_b C 6 (by decide +kernel)) (u_b C 14 (by decide +kernel))) (u_one (u_cmp C (o := .lt) rfl rfl (u_b C 7 (by decide +kernel)) (u_b C 14 (by decide +kernel))))) rfl)) (u_one (u_cmp C (o := .eq) rfl rfl (u_b C 14 (by decide +kernel)) (SB.of (u_call C 22 fj_22 rfl (by decide +kernel) (s_consC (SB.of (u_op C (o := .add) rfl (SB.of (u_op C (o := .add) rfl (u_b C 0 (by decide +kernel)) (SB.of s_int rfl)) rfl) (SB.of (u_op C (o := .mod) rfl (SB.of (u_idx C (u_b C 1 (by decide +kernel)) s_int rfl) rfl) (SB.of s_int rfl)) rfl)) rfl) (s_consC (u_b C 0 (by decide +kernel)) s_nilC rfl) rfl) rfl rfl) rfl)))))
 ss_nil)))))))))))))))))))))))
theorem der_31 (h : mod.obsK K = mod.val w) (hO : Trk O H0) (C : Sc ((mod.cfg K w mg base).wc cl) T (k + 2) W n31 (defScope (mod.stm 43)) (fun _ => true) X) (hsub : T.sub = mod.subB) (fr : Fr2 X) (R : CloR ((mod.cfg K w mg base).wc cl) T X W H0) (HL : HoF ((mod.cfg K w mg base).wc cl) T (k + 2)) (lmx : (mod.cfg K w mg base).mkr 31 = true → LmX (mod.cfg K w mg base) X) (hq : X.env.qual = (envOfC "_law_ask" (defScope (mod.stm 43)) 0 0 .none).qual) : SSs ((mod.cfg K w mg base).wc cl) O H0 none W T X (defBody (mod.stm 43)) b31 :=
 (ss_cons (ss_ife (u_cmpT C (o := .eq) rfl rfl (u_b C 0 (by decide +kernel)) (SB.of (u_str (by decide +kernel)) rfl)) (ss_cons (ss_ret (u_call C 14 fj_14 rfl (by decide +kernel) (s_consC (SB.of (u_idx C (u_b C 1 (by decide +kernel)) s_int rfl) rfl) (s_consC (SB.of (u_idx C (u_b C 1 (by decide +kernel)) s_int rfl) rfl) (s_consC (SB.of (u_idx C (u_b C 1 (by decide +kernel)) s_int rfl) rfl) s_nilC rfl) rfl) rfl) rfl rfl))
 ss_nil) ss_nil)
 (ss_cons (ss_ife (u_cmpT C (o := .eq) rfl rfl (u_b C 0 (by decide +kernel)) (SB.of (u_str (by decide +kernel)) rfl)) (ss_cons (ss_ret (u_call C 15 fj_15 rfl (by decide +kernel) (s_consC (SB.of (u_idx C (u_b C 1 (by decide +kernel)) s_int rfl) rfl) (s_consC (SB.of (u_idx C (u_b C 1 (by decide +kernel)) s_int rfl) rfl) s_nilC rfl) rfl) rfl rfl))
 ss_nil) ss_nil)
 (ss_cons (ss_ret (u_call C 16 fj_16 rfl (by decide +kernel) (s_consC (SB.of (u_idx C (u_b C 1 (by decide +kernel)) s_int rfl) rfl) (s_consC (SB.of (u_idx C (u_b C 1 (by decide +kernel)) s_int rfl) rfl) (s_consC (SB.of (u_idx C (u_b C 1 (by decide +kernel)) s_int rfl) rfl) s_nilC rfl) rfl) rfl) rfl rfl))
 ss_nil)))
theorem der_32 (h : mod.obsK K = mod.val w) (hO : Trk O H0) (C : Sc ((mod.cfg K w mg base).wc cl) T (k + 2) W n32 (defScope (mod.stm 44)) (fun _ => true) X) (hsub : T.sub = mod.subB) (fr : Fr2 X) (R : CloR ((mod.cfg K w mg base).wc cl) T X W H0) (HL : HoF ((mod.cfg K w mg base).wc cl) T (k + 2)) (lmx : (mod.cfg K w mg base).mkr 32 = true → LmX (mod.cfg K w mg base) X) (hq : X.env.qual = (envOfC "_law_word" (defScope (mod.stm 44)) 0 0 .none).qual) : SSs ((mod.cfg K w mg base).wc cl) O H0 none W T X (defBody (mod.stm 44)) b32 :=
 (ss_cons (u_try C fr (fun _ _ C => (ss_cons (ss_ex (u_call C 31 fj_31 rfl (by decide +kernel) (s_consC (u_b C 0 (by decide +kernel)) (s_consC (u_b C 1 (by decide +kernel)) s_nilC rfl) rfl) rfl rfl) rfl)
 ss_nil)) (fun hot => (u_has C hot 2 2 cj_2 rfl (by decide +kernel) (by decide +kernel) (fun _ _ hs hx C => (ss_cons (ss_ife (s_notT (u_tru C (SB.of (u_call C 20 fj_20 rfl (by decide +kernel) (s_consC (SB.of (u_exf C hx 2 1 (fl_2_1 _ (by rw [← hsub]; exact hs)) (by decide +kernel) rfl) rfl) (s_consC (SB.of (s_neg (SB.of s_int rfl)) rfl) s_nilC rfl) rfl) rfl rfl) rfl) (fun _ => rfl))) (ss_cons (ss_ret (u_str (by decide +kernel)))
 ss_nil) ss_nil)
 (ss_cons (ss_ret (u_exf C hx 2 0 (fl_2_0 _ (by rw [← hsub]; exact hs)) (by decide +kernel) rfl))
 ss_nil))) u_hn)))
 (ss_cons (ss_ret (u_str (by decide +kernel)))
 ss_nil))
theorem der_33 (h : mod.obsK K = mod.val w) (hO : Trk O H0) (C : Sc ((mod.cfg K w mg base).wc cl) T (k + 2) W n33 (defScope (mod.stm 45)) (fun _ => true) X) (hsub : T.sub = mod.subB) (fr : Fr2 X) (R : CloR ((mod.cfg K w mg base).wc cl) T X W H0) (HL : HoF ((mod.cfg K w mg base).wc cl) T (k + 2)) (lmx : (mod.cfg K w mg base).mkr 33 = true → LmX (mod.cfg K w mg base) X) (hq : X.env.qual = (envOfC "_law_refusals" (defScope (mod.stm 45)) 0 0 .none).qual) : SSs ((mod.cfg K w mg base).wc cl) O H0 none W T X (defBody (mod.stm 45)) b33 :=
 (ss_cons (u_set C 2 (by decide +kernel) rfl (s_lst (s_cons (s_tup (s_cons (u_str (by decide +kernel)) (s_cons (s_tup (s_cons (u_v C 0 (by decide +kernel)) (s_cons (u_v C 0 (by decide +kernel)) (s_cons (u_v C 0 (by decide +kernel)) s_nil rfl) rfl) rfl) (by decide)) (s_cons (u_str (by decide +kernel)) s_nil rfl) rfl) rfl) (by decide)) (s_cons (s_tup (s_cons (u_str (by decide +kernel)) (s_cons (s_tup (s_cons (u_v C 1 (by decide +kernel)) (s_cons (u_v C 0 (by decide +kernel)) (s_cons (u_v C 0 (by decide +kernel)) s_nil rfl) rfl) rfl) (by decide)) (s_cons (u_str (by decide +kernel)) s_nil rfl) rfl) rfl) (by decide)) (s_cons (s_tup (s_cons (u_str (by decide +kernel)) (s_cons (s_tup (s_cons (u_v C 1 (by decide +kernel)) (s_cons s_int (s_cons (u_v C 0 (by decide +kernel)) s_nil rfl) rfl) rfl) (by decide)) (s_cons (u_str (by decide +kernel)) s_nil rfl) rfl) rfl) (by decide)) s_nil rfl) rfl) rfl) (by decide)))
 (ss_cons (u_set C 2 (by decide +kernel) rfl (u_op C (o := .add) rfl (u_b C 2 (by decide +kernel)) (SB.of (s_lst (s_cons (s_tup (s_cons (u_str (by decide +kernel)) (s_cons (s_tup (s_cons s_int (s_cons s_int (s_cons s_int s_nil rfl) rfl) rfl) (by decide)) (s_cons (u_str (by decide +kernel)) s_nil rfl) rfl) rfl) (by decide)) (s_cons (s_tup (s_cons (u_str (by decide +kernel)) (s_cons (s_tup (s_cons s_bl (s_cons s_int (s_cons s_int s_nil rfl) rfl) rfl) (by decide)) (s_cons (u_str (by decide +kernel)) s_nil rfl) rfl) rfl) (by decide)) (s_cons (s_tup (s_cons (u_str (by decide +kernel)) (s_cons (s_tup (s_cons (u_v C 1 (by decide +kernel)) (s_cons (s_neg (SB.of s_int rfl)) (s_cons s_bl s_nil rfl) rfl) rfl) (by decide)) (s_cons (u_str (by decide +kernel)) s_nil rfl) rfl) rfl) (by decide)) s_nil rfl) rfl) rfl) (by decide)) rfl)))
 (ss_cons (u_set C 2 (by decide +kernel) rfl (u_op C (o := .add) rfl (u_b C 2 (by decide +kernel)) (SB.of (s_lst (s_cons (s_tup (s_cons (u_str (by decide +kernel)) (s_cons (s_tup (s_cons (u_v C 1 (by decide +kernel)) (s_cons s_bl (s_cons s_int s_nil rfl) rfl) rfl) (by decide)) (s_cons (u_str (by decide +kernel)) s_nil rfl) rfl) rfl) (by decide)) (s_cons (s_tup (s_cons (u_str (by decide +kernel)) (s_cons (s_tup (s_cons (u_v C 1 (by decide +kernel)) (s_cons s_int (s_cons (s_neg (SB.of s_int rfl)) s_nil rfl) rfl) rfl) (by decide)) (s_cons (u_str (by decide +kernel)) s_nil rfl) rfl) rfl) (by decide)) (s_cons (s_tup (s_cons (u_str (by decide +kernel)) (s_cons (s_tup (s_cons (u_v C 1 (by decide +kernel)) (s_cons s_int (s_cons s_bl s_nil rfl) rfl) rfl) (by decide)) (s_cons (u_str (by decide +kernel)) s_nil rfl) rfl) rfl) (by decide)) s_nil rfl) rfl) rfl) (by decide)) rfl)))
 (ss_cons (u_set C 2 (by decide +kernel) rfl (u_op C (o := .add) rfl (u_b C 2 (by decide +kernel)) (SB.of (s_lst (s_cons (s_tup (s_cons (u_str (by decide +kernel)) (s_cons (s_tup (s_cons (u_v C 0 (by decide +kernel)) (s_cons (u_v C 0 (by decide +kernel)) s_nil rfl) rfl) (by decide)) (s_cons (u_str (by decide +kernel)) s_nil rfl) rfl) rfl) (by decide)) (s_cons (s_tup (s_cons (u_str (by decide +kernel)) (s_cons (s_tup (s_cons s_int (s_cons (s_tup s_nil (by decide)) s_nil rfl) rfl) (by decide)) (s_cons (u_str (by decide +kernel)) s_nil rfl) rfl) rfl) (by decide)) s_nil rfl) rfl) (by decide)) rfl)))
 (ss_cons (u_set C 2 (by decide +kernel) rfl (u_op C (o := .add) rfl (u_b C 2 (by decide +kernel)) (SB.of (s_lst (s_cons (s_tup (s_cons (u_str (by decide +kernel)) (s_cons (s_tup (s_cons (u_v C 1 (by decide +kernel)) (s_cons s_int s_nil rfl) rfl) (by decide)) (s_cons (u_str (by decide +kernel)) s_nil rfl) rfl) rfl) (by decide)) s_nil rfl) (by decide)) rfl)))
 (ss_cons (u_set C 2 (by decide +kernel) rfl (u_op C (o := .add) rfl (u_b C 2 (by decide +kernel)) (SB.of (s_lst (s_cons (s_tup (s_cons (u_str (by decide +kernel)) (s_cons (s_tup (s_cons (u_v C 1 (by decide +kernel)) (s_cons (s_lst (s_cons s_int (s_cons s_int s_nil rfl) rfl) (by decide)) s_nil rfl) rfl) (by decide)) (s_cons (u_str (by decide +kernel)) s_nil rfl) rfl) rfl) (by decide)) (s_cons (s_tup (s_cons (u_str (by decide +kernel)) (s_cons (s_tup (s_cons (u_v C 1 (by decide +kernel)) (s_cons (s_tup (s_cons s_int (s_cons (s_neg (SB.of s_int rfl)) s_nil rfl) rfl) (by decide)) s_nil rfl) rfl) (by decide)) (s_cons (u_str (by decide +kernel)) s_nil rfl) rfl) rfl) (by decide)) s_nil rfl) rfl) (by decide)) rfl)))
 (ss_cons (u_set C 2 (by decide +kernel) rfl (u_op C (o := .add) rfl (u_b C 2 (by decide +kernel)) (SB.of (s_lst (s_cons (s_tup (s_cons (u_str (by decide +kernel)) (s_cons (s_tup (s_cons (u_v C 1 (by decide +kernel)) (s_cons (s_tup (s_cons s_int (s_cons (u_v C 0 (by decide +kernel)) (s_cons s_int s_nil rfl) rfl) rfl) (by decide)) s_nil rfl) rfl) (by decide)) (s_cons (u_str (by decide +kernel)) s_nil rfl) rfl) rfl) (by decide)) (s_cons (s_tup (s_cons (u_str (by decide +kernel)) (s_cons (s_tup (s_cons (u_v C 1 (by decide +kernel)) (s_cons (s_tup (s_cons s_bl s_nil rfl) (by decide)) s_nil rfl) rfl) (by decide)) (s_cons (u_str (by decide +kernel)) s_nil rfl) rfl) rfl) (by decide)) s_nil rfl) rfl) (by decide)) rfl)))
 (ss_cons (u_set C 2 (by decide +kernel) rfl (u_op C (o := .add) rfl (u_b C 2 (by decide +kernel)) (SB.of (s_lst (s_cons (s_tup (s_cons (u_str (by decide +kernel)) (s_cons (s_tup (s_cons (u_v C 1 (by decide +kernel)) (s_cons s_non s_nil rfl) rfl) (by decide)) (s_cons (u_str (by decide +kernel)) s_nil rfl) rfl) rfl) (by decide)) (s_cons (s_tup (s_cons (u_str (by decide +kernel)) (s_cons (s_tup (s_cons (u_v C 1 (by decide +kernel)) (s_cons (s_tup (s_cons s_int (s_cons (s_tup (s_cons s_int s_nil rfl) (by decide)) s_nil rfl) rfl) (by decide)) s_nil rfl) rfl) (by decide)) (s_cons (u_str (by decide +kernel)) s_nil rfl) rfl) rfl) (by decide)) s_nil rfl) rfl) (by decide)) rfl)))
 (ss_cons (u_set C 2 (by decide +kernel) rfl (u_op C (o := .add) rfl (u_b C 2 (by decide +kernel)) (SB.of (s_lst (s_cons (s_tup (s_cons (u_str (by decide +kernel)) (s_cons (s_tup (s_cons (u_v C 0 (by decide +kernel)) (s_cons (u_v C 0 (by decide +kernel)) (s_cons (u_v C 0 (by decide +kernel)) s_nil rfl) rfl) rfl) (by decide)) (s_cons (u_str (by decide +kernel)) s_nil rfl) rfl) rfl) (by decide)) (s_cons (s_tup (s_cons (u_str (by decide +kernel)) (s_cons (s_tup (s_cons (s_neg (SB.of s_int rfl)) (s_cons s_int (s_cons s_int s_nil rfl) rfl) rfl) (by decide)) (s_cons (u_str (by decide +kernel)) s_nil rfl) rfl) rfl) (by decide)) s_nil rfl) rfl) (by decide)) rfl)))
 (ss_cons (u_set C 2 (by decide +kernel) rfl (u_op C (o := .add) rfl (u_b C 2 (by decide +kernel)) (SB.of (s_lst (s_cons (s_tup (s_cons (u_str (by decide +kernel)) (s_cons (s_tup (s_cons (u_v C 1 (by decide +kernel)) (s_cons (u_v C 0 (by decide +kernel)) (s_cons (u_v C 0 (by decide +kernel)) s_nil rfl) rfl) rfl) (by decide)) (s_cons (u_str (by decide +kernel)) s_nil rfl) rfl) rfl) (by decide)) (s_cons (s_tup (s_cons (u_str (by decide +kernel)) (s_cons (s_tup (s_cons (u_v C 1 (by decide +kernel)) (s_cons (s_neg (SB.of s_int rfl)) (s_cons s_int s_nil rfl) rfl) rfl) (by decide)) (s_cons (u_str (by decide +kernel)) s_nil rfl) rfl) rfl) (by decide)) s_nil rfl) rfl) (by decide)) rfl)))
 (ss_cons (u_set C 2 (by decide +kernel) rfl (u_op C (o := .add) rfl (u_b C 2 (by decide +kernel)) (SB.of (s_lst (s_cons (s_tup (s_cons (u_str (by decide +kernel)) (s_cons (s_tup (s_cons (u_v C 1 (by decide +kernel)) (s_cons s_int (s_cons (u_v C 0 (by decide +kernel)) s_nil rfl) rfl) rfl) (by decide)) (s_cons (u_str (by decide +kernel)) s_nil rfl) rfl) rfl) (by decide)) (s_cons (s_tup (s_cons (u_str (by decide +kernel)) (s_cons (s_tup (s_cons (u_v C 1 (by decide +kernel)) (s_cons s_int (s_cons (s_neg (SB.of s_int rfl)) s_nil rfl) rfl) rfl) (by decide)) (s_cons (u_str (by decide +kernel)) s_nil rfl) rfl) rfl) (by decide)) s_nil rfl) rfl) (by decide)) rfl)))
 (ss_cons (u_set C 2 (by decide +kernel) rfl (u_op C (o := .add) rfl (u_b C 2 (by decide +kernel)) (SB.of (s_lst (s_cons (s_tup (s_cons (u_str (by decide +kernel)) (s_cons (s_tup (s_cons (u_v C 1 (by decide +kernel)) (s_cons s_int (s_cons s_bl s_nil rfl) rfl) rfl) (by decide)) (s_cons (u_str (by decide +kernel)) s_nil rfl) rfl) rfl) (by decide)) (s_cons (s_tup (s_cons (u_str (by decide +kernel)) (s_cons (s_tup (s_cons s_bl (s_cons s_int (s_cons s_int s_nil rfl) rfl) rfl) (by decide)) (s_cons (u_str (by decide +kernel)) s_nil rfl) rfl) rfl) (by decide)) s_nil rfl) rfl) (by decide)) rfl)))
 (ss_cons (u_for C (fun _ => rfl) (u_iof C (u_b C 2 (by decide +kernel))) (fun hot => (u_gn C 3 (by decide +kernel))) (ss_cons (ss_ife (u_cmpT C (o := .ne) rfl rfl (SB.of (u_call C 32 fj_32 rfl (by decide +kernel) (s_consC (SB.of (u_idx C (u_b C 3 (by decide +kernel)) s_int rfl) rfl) (s_consC (SB.of (u_idx C (u_b C 3 (by decide +kernel)) s_int rfl) rfl) s_nilC rfl) rfl) rfl rfl) rfl) (SB.of (u_idx C (u_b C 3 (by decide +kernel)) s_int rfl) rfl)) (ss_cons (ss_ret s_bl)
 ss_nil) ss_nil)
 ss_nil))
 (ss_cons (u_set C 4 (by decide +kernel) rfl (s_lst (s_cons (s_tup (s_cons (u_str (by decide +kernel)) (s_cons (s_tup (s_cons (u_v C 1 (by decide +kernel)) (s_cons s_int (s_cons s_int s_nil rfl) rfl) rfl) (by decide)) (s_cons s_int s_nil rfl) rfl) rfl) (by decide)) (s_cons (s_tup (s_cons (u_str (by decide +kernel)) (s_cons (s_tup (s_cons (u_v C 1 (by decide +kernel)) (s_cons s_int (s_cons (u_v C 1 (by decide +kernel)) s_nil rfl) rfl) rfl) (by decide)) (s_cons (u_v C 1 (by decide +kernel)) s_nil rfl) rfl) rfl) (by decide)) (s_cons (s_tup (s_cons (u_str (by decide +kernel)) (s_cons (s_tup (s_cons s_int (s_cons s_int (s_cons s_int s_nil rfl) rfl) rfl) (by decide)) (s_cons s_int s_nil rfl) rfl) rfl) (by decide)) (s_cons (s_tup (s_cons (u_str (by decide +kernel)) (s_cons (s_tup (s_cons (u_v C 1 (by decide +kernel)) (s_cons (s_tup s_nil (by decide)) s_nil rfl) rfl) (by decide)) (s_cons s_int s_nil rfl) rfl) rfl) (by decide)) s_nil rfl) rfl) rfl) rfl) (by decide)))
 (ss_cons (u_set C 4 (by decide +kernel) rfl (u_op C (o := .add) rfl (u_b C 4 (by decide +kernel)) (SB.of (s_lst (s_cons (s_tup (s_cons (u_str (by decide +kernel)) (s_cons (s_tup (s_cons (u_v C 1 (by decide +kernel)) (s_cons (s_tup (s_cons s_int (s_cons s_int (s_cons s_int s_nil rfl) rfl) rfl) (by decide)) s_nil rfl) rfl) (by decide)) (s_cons s_int s_nil rfl) rfl) rfl) (by decide)) (s_cons (s_tup (s_cons (u_str (by decide +kernel)) (s_cons (s_tup (s_cons (u_v C 1 (by decide +kernel)) (s_cons (s_tup (s_cons s_int s_nil rfl) (by decide)) s_nil rfl) rfl) (by decide)) (s_cons s_int s_nil rfl) rfl) rfl) (by decide)) (s_cons (s_tup (s_cons (u_str (by decide +kernel)) (s_cons (s_tup (s_cons (u_v C 1 (by decide +kernel)) (s_cons s_int (s_cons s_int s_nil rfl) rfl) rfl) (by decide)) (s_cons s_int s_nil rfl) rfl) rfl) (by decide)) s_nil rfl) rfl) rfl) (by decide)) rfl)))
 (ss_cons (u_set C 4 (by decide +kernel) rfl (u_op C (o := .add) rfl (u_b C 4 (by decide +kernel)) (SB.of (s_lst (s_cons (s_tup (s_cons (u_str (by decide +kernel)) (s_cons (s_tup (s_cons (u_v C 1 (by decide +kernel)) (s_cons s_int (s_cons s_int s_nil rfl) rfl) rfl) (by decide)) (s_cons s_int s_nil rfl) rfl) rfl) (by decide)) (s_cons (s_tup (s_cons (u_str (by decide +kernel)) (s_cons (s_tup (s_cons (u_v C 1 (by decide +kernel)) (s_cons s_int (s_cons s_int s_nil rfl) rfl) rfl) (by decide)) (s_cons s_int s_nil rfl) rfl) rfl) (by decide)) (s_cons (s_tup (s_cons (u_str (by decide +kernel)) (s_cons (s_tup (s_cons s_int (s_cons s_int (s_cons s_int s_nil rfl) rfl) rfl) (by decide)) (s_cons s_int s_nil rfl) rfl) rfl) (by decide)) s_nil rfl) rfl) rfl) (by decide)) rfl)))
 (ss_cons (u_for C (fun _ => rfl) (u_iof C (u_b C 4 (by decide +kernel))) (fun hot => (u_gn C 3 (by decide +kernel))) (ss_cons (ss_ife (u_w (s_or (u_cmpT C (o := .ne) rfl rfl (SB.of (u_call C 32 fj_32 rfl (by decide +kernel) (s_consC (SB.of (u_idx C (u_b C 3 (by decide +kernel)) s_int rfl) rfl) (s_consC (SB.of (u_idx C (u_b C 3 (by decide +kernel)) s_int rfl) rfl) s_nilC rfl) rfl) rfl rfl) rfl) (SB.of (u_str (by decide +kernel)) rfl)) (u_or1 (s_notT (u_tru C (SB.of (u_call C 20 fj_20 rfl (by decide +kernel) (s_consC (SB.of (u_call C 31 fj_31 rfl (by decide +kernel) (s_consC (SB.of (u_idx C (u_b C 3 (by decide +kernel)) s_int rfl) rfl) (s_consC (SB.of (u_idx C (u_b C 3 (by decide +kernel)) s_int rfl) rfl) s_nilC rfl) rfl) rfl rfl) rfl) (s_consC (SB.of (u_idx C (u_b C 3 (by decide +kernel)) s_int rfl) rfl) s_nilC rfl) rfl) rfl rfl) rfl) (fun _ => rfl)))))) (ss_cons (ss_ret s_bl)
 ss_nil) ss_nil)
 ss_nil))
 (ss_cons (ss_ret s_bl)
 ss_nil))))))))))))))))))
theorem der_34 (h : mod.obsK K = mod.val w) (hO : Trk O H0) (C : Sc ((mod.cfg K w mg base).wc cl) T (k + 2) W n34 (defScope (mod.stm 46)) (fun _ => true) X) (hsub : T.sub = mod.subB) (fr : Fr2 X) (R : CloR ((mod.cfg K w mg base).wc cl) T X W H0) (HL : HoF ((mod.cfg K w mg base).wc cl) T (k + 2)) (lmx : (mod.cfg K w mg base).mkr 34 = true → LmX (mod.cfg K w mg base) X) (hq : X.env.qual = (envOfC "law" (defScope (mod.stm 46)) 0 0 .none).qual) : SSs ((mod.cfg K w mg base).wc cl) O H0 none W T X (defBody (mod.stm 46)) b34 :=
 (ss_cons (u_set C 1 (by decide +kernel) rfl (u_call C 19 fj_19 rfl (by decide +kernel) (s_consC (u_b C 0 (by decide +kernel)) (s_consC (SB.of s_int rfl) s_nilC rfl) rfl) rfl rfl))
 (ss_cons (u_set C 2 (by decide +kernel) rfl (s_lst (s_cons (s_tup (s_cons s_int (s_cons s_int s_nil rfl) rfl) (by decide)) (s_cons (s_tup (s_cons s_int (s_cons s_int s_nil rfl) rfl) (by decide)) (s_cons (s_tup (s_cons s_int (s_cons s_int s_nil rfl) rfl) (by decide)) (s_cons (s_tup (s_cons s_int (s_cons s_int s_nil rfl) rfl) (by decide)) (s_cons (s_tup (s_cons s_int (s_cons s_int s_nil rfl) rfl) (by decide)) (s_cons (s_tup (s_cons s_int (s_cons s_int s_nil rfl) rfl) (by decide)) (s_cons (s_tup (s_cons s_int (s_cons s_int s_nil rfl) rfl) (by decide)) (s_cons (s_tup (s_cons s_int (s_cons s_int s_nil rfl) rfl) (by decide)) s_nil rfl) rfl) rfl) rfl) rfl) rfl) rfl) rfl) (by decide)))
 (ss_cons (u_set C 3 (by decide +kernel) rfl (u_idx C (u_b C 2 (by decide +kernel)) (u_op C (o := .mod) rfl (SB.of (u_idx C (u_b C 1 (by decide +kernel)) s_int rfl) rfl) (SB.of s_int rfl)) rfl))
 (ss_cons (ss_ife (s_notT (u_tru C (SB.of (u_call C 27 fj_27 rfl (by decide +kernel) (s_consC (SB.of (u_idx C (u_b C 3 (by decide +kernel)) s_int rfl) rfl) (s_consC (SB.of (u_idx C (u_b C 3 (by decide +kernel)) s_int rfl) rfl) (s_consC (u_b C 1 (by decide +kernel)) s_nilC rfl) rfl) rfl) rfl rfl) rfl) (fun _ => rfl))) (ss_cons (ss_ret s_bl)
 ss_nil) ss_nil)
 (ss_cons (u_set C 4 (by decide +kernel) rfl (u_op C (o := .add) rfl (SB.of s_int rfl) (SB.of (u_op C (o := .mod) rfl (SB.of (u_idx C (u_b C 1 (by decide +kernel)) s_int rfl) rfl) (SB.of s_int rfl)) rfl)))
 (ss_cons (ss_ife (u_cmpT C (o := .gt) rfl rfl (SB.of (u_op C (o := .mod) rfl (SB.of (u_idx C (u_b C 1 (by decide +kernel)) s_int rfl) rfl) (SB.of s_int rfl)) rfl) (SB.of s_int rfl)) (ss_cons (u_set C 4 (by decide +kernel) rfl (u_op C (o := .add) rfl (SB.of s_int rfl) (SB.of (u_op C (o := .mod) rfl (SB.of (u_idx C (u_b C 1 (by decide +kernel)) s_int rfl) rfl) (SB.of s_int rfl)) rfl)))
 ss_nil) ss_nil)
 (ss_cons (ss_ife (s_notT (u_tru C (SB.of (u_call C 30 fj_30 rfl (by decide +kernel) (s_consC (u_b C 4 (by decide +kernel)) (s_consC (u_b C 1 (by decide +kernel)) s_nilC rfl) rfl) rfl rfl) rfl) (fun _ => rfl))) (ss_cons (ss_ret s_bl)
 ss_nil) ss_nil)
 (ss_cons (u_set C 5 (by decide +kernel) rfl (s_lst (s_cons s_non (s_cons (u_str (by decide +kernel)) (s_cons (s_lst s_nil (by decide)) (s_cons (s_neg (SB.of s_int rfl)) (s_cons (s_tup (s_cons s_int s_nil rfl) (by decide)) (s_cons s_bl (s_cons s_bl (s_cons (s_neg (SB.of (u_op C (o := .pow) rfl (SB.of s_int rfl) (SB.of s_int rfl)) rfl)) s_nil rfl) rfl) rfl) rfl) rfl) rfl) rfl) rfl) (by decide)))
 (ss_cons (ss_ret (u_call C 33 fj_33 rfl (by decide +kernel) (s_consC (SB.of (u_idx C (u_b C 5 (by decide +kernel)) (u_op C (o := .mod) rfl (SB.of (u_idx C (u_b C 1 (by decide +kernel)) s_int rfl) rfl) (SB.of s_int rfl)) rfl) rfl) (s_consC (SB.of (u_op C (o := .add) rfl (SB.of s_int rfl) (SB.of (u_op C (o := .mod) rfl (SB.of (u_idx C (u_b C 1 (by decide +kernel)) s_int rfl) rfl) (SB.of s_int rfl)) rfl)) rfl) s_nilC rfl) rfl) rfl rfl))
 ss_nil)))))))))
theorem lder_0 (h : mod.obsK K = mod.val w) (hO : Trk O H0) (C : Sc (mod.cfg K w mg base) T (k + 2) W ["member", "places", "number"] lsc0 (fun _ => false) X) (hsub : T.sub = mod.subB) : SE (mod.cfg K w mg base) O H0 none W T X (mod.lams.getD 0 default).body (.bin .gt (.call 11 [(.var 1), (.bin .add (.var 0) (.cst (.int 1)))]) (.var 2)) :=
 (u_cmp C (o := .gt) rfl rfl (SB.of (u_call C 11 fj_11 rfl (by decide +kernel) (s_consC (u_b C 1 (by decide +kernel)) (s_consC (SB.of (u_op C (o := .add) rfl (u_b C 0 (by decide +kernel)) (SB.of s_int rfl)) rfl) s_nilC rfl) rfl) rfl rfl) rfl) (u_b C 2 (by decide +kernel)))
end
theorem sc_0 : FnScope n0 ["thing"] (defScope (mod.stm 2)) := ⟨rfl, rfl, rfl, by decide +kernel, rfl, by decide +kernel, by decide +kernel⟩
theorem sc_1 : FnScope n1 ["thing"] (defScope (mod.stm 3)) := ⟨rfl, rfl, rfl, by decide +kernel, rfl, by decide +kernel, by decide +kernel⟩
theorem sc_2 : FnScope n2 ["thing"] (defScope (mod.stm 4)) := ⟨rfl, rfl, rfl, by decide +kernel, rfl, by decide +kernel, by decide +kernel⟩
theorem sc_3 : FnScope n3 ["thing"] (defScope (mod.stm 5)) := ⟨rfl, rfl, rfl, by decide +kernel, rfl, by decide +kernel, by decide +kernel⟩
theorem sc_4 : FnScope n4 ["holds", "name"] (defScope (mod.stm 11)) := ⟨rfl, rfl, rfl, by decide +kernel, rfl, by decide +kernel, by decide +kernel⟩
theorem sc_5 : FnScope n5 ["low", "high", "serves"] (defScope (mod.stm 12)) := ⟨rfl, rfl, rfl, by decide +kernel, rfl, by decide +kernel, by decide +kernel⟩
theorem sc_6 : FnScope n6 ["top", "few"] (defScope (mod.stm 14)) := ⟨rfl, rfl, rfl, by decide +kernel, rfl, by decide +kernel, by decide +kernel⟩
theorem sc_7 : FnScope n7 ["width", "reach"] (defScope (mod.stm 15)) := ⟨rfl, rfl, rfl, by decide +kernel, rfl, by decide +kernel, by decide +kernel⟩
theorem sc_8 : FnScope n8 ["thing"] (defScope (mod.stm 17)) := ⟨rfl, rfl, rfl, by decide +kernel, rfl, by decide +kernel, by decide +kernel⟩
theorem sc_9 : FnScope n9 ["width", "row"] (defScope (mod.stm 19)) := ⟨rfl, rfl, rfl, by decide +kernel, rfl, by decide +kernel, by decide +kernel⟩
theorem sc_10 : FnScope n10 ["width", "row"] (defScope (mod.stm 20)) := ⟨rfl, rfl, rfl, by decide +kernel, rfl, by decide +kernel, by decide +kernel⟩
theorem sc_11 : FnScope n11 ["places", "member"] (defScope (mod.stm 21)) := ⟨rfl, rfl, rfl, by decide +kernel, rfl, by decide +kernel, by decide +kernel⟩
theorem sc_12 : FnScope n12 ["width", "number"] (defScope (mod.stm 22)) := ⟨rfl, rfl, rfl, by decide +kernel, rfl, by decide +kernel, by decide +kernel⟩
theorem sc_13 : FnScope n13 ["places", "number"] (defScope (mod.stm 23)) := ⟨rfl, rfl, rfl, by decide +kernel, rfl, by decide +kernel, by decide +kernel⟩
theorem sc_14 : FnScope n14 ["width", "one", "other"] (defScope (mod.stm 25)) := ⟨rfl, rfl, rfl, by decide +kernel, rfl, by decide +kernel, by decide +kernel⟩
theorem sc_15 : FnScope n15 ["width", "numbers"] (defScope (mod.stm 26)) := ⟨rfl, rfl, rfl, by decide +kernel, rfl, by decide +kernel, by decide +kernel⟩
theorem sc_16 : FnScope n16 ["width", "number", "many"] (defScope (mod.stm 27)) := ⟨rfl, rfl, rfl, by decide +kernel, rfl, by decide +kernel, by decide +kernel⟩
theorem sc_17 : FnScope n17 ["width", "rows"] (defScope (mod.stm 28)) := ⟨rfl, rfl, rfl, by decide +kernel, rfl, by decide +kernel, by decide +kernel⟩
theorem sc_18 : FnScope n18 ["_law_cell", "_law_k"] (defScope (mod.stm 30)) := ⟨rfl, rfl, rfl, by decide +kernel, rfl, by decide +kernel, by decide +kernel⟩
theorem sc_19 : FnScope n19 ["_law_script", "_law_length"] (defScope (mod.stm 31)) := ⟨rfl, rfl, rfl, by decide +kernel, rfl, by decide +kernel, by decide +kernel⟩
theorem sc_20 : FnScope n20 ["_law_got", "_law_due"] (defScope (mod.stm 32)) := ⟨rfl, rfl, rfl, by decide +kernel, rfl, by decide +kernel, by decide +kernel⟩
theorem sc_21 : FnScope n21 ["_law_d", "_law_k"] (defScope (mod.stm 33)) := ⟨rfl, rfl, rfl, by decide +kernel, rfl, by decide +kernel, by decide +kernel⟩
theorem sc_22 : FnScope n22 ["_law_a", "_law_b"] (defScope (mod.stm 34)) := ⟨rfl, rfl, rfl, by decide +kernel, rfl, by decide +kernel, by decide +kernel⟩
theorem sc_23 : FnScope n23 ["_law_u", "_law_members_here"] (defScope (mod.stm 35)) := ⟨rfl, rfl, rfl, by decide +kernel, rfl, by decide +kernel, by decide +kernel⟩
theorem sc_24 : FnScope n24 ["_law_u", "_law_members_here"] (defScope (mod.stm 36)) := ⟨rfl, rfl, rfl, by decide +kernel, rfl, by decide +kernel, by decide +kernel⟩
theorem sc_25 : FnScope n25 ["_law_u", "_law_members_here"] (defScope (mod.stm 37)) := ⟨rfl, rfl, rfl, by decide +kernel, rfl, by decide +kernel, by decide +kernel⟩
theorem sc_26 : FnScope n26 ["_law_u", "_law_c"] (defScope (mod.stm 38)) := ⟨rfl, rfl, rfl, by decide +kernel, rfl, by decide +kernel, by decide +kernel⟩
theorem sc_27 : FnScope n27 ["_law_u", "_law_c", "_law_d"] (defScope (mod.stm 39)) := ⟨rfl, rfl, rfl, by decide +kernel, rfl, by decide +kernel, by decide +kernel⟩
theorem sc_28 : FnScope n28 ["_law_u"] (defScope (mod.stm 40)) := ⟨rfl, rfl, rfl, by decide +kernel, rfl, by decide +kernel, by decide +kernel⟩
theorem sc_29 : FnScope n29 ["_law_u", "_law_pool", "_law_d", "_law_k"] (defScope (mod.stm 41)) := ⟨rfl, rfl, rfl, by decide +kernel, rfl, by decide +kernel, by decide +kernel⟩
theorem sc_30 : FnScope n30 ["_law_u", "_law_d"] (defScope (mod.stm 42)) := ⟨rfl, rfl, rfl, by decide +kernel, rfl, by decide +kernel, by decide +kernel⟩
theorem sc_31 : FnScope n31 ["_law_which", "_law_a"] (defScope (mod.stm 43)) := ⟨rfl, rfl, rfl, by decide +kernel, rfl, by decide +kernel, by decide +kernel⟩
theorem sc_32 : FnScope n32 ["_law_which", "_law_a"] (defScope (mod.stm 44)) := ⟨rfl, rfl, rfl, by decide +kernel, rfl, by decide +kernel, by decide +kernel⟩
theorem sc_33 : FnScope n33 ["_law_odd", "_law_u"] (defScope (mod.stm 45)) := ⟨rfl, rfl, rfl, by decide +kernel, rfl, by decide +kernel, by decide +kernel⟩
theorem sc_34 : FnScope n34 ["_law_script"] (defScope (mod.stm 46)) := ⟨rfl, rfl, rfl, by decide +kernel, rfl, by decide +kernel, by decide +kernel⟩
theorem isc_2 : FnScope ["self", "word", "at"] ["self", "word", "at"] (defScope (L2.inClass (mod.stm 9) 0)) := ⟨rfl, rfl, rfl, by decide +kernel, rfl, by decide +kernel, by decide +kernel⟩
section
variable {K : PySem.W.Frag} {w : World} {mg : Str → Option Value} {base h : Heap}
theorem db_0 (c : mod.obsK K = mod.val w) (X : K.In h) (G : h.Ns mainGlobals mg) : DefB (mod.cfg K w mg base) P 0 :=
  mod.defB c X G (j := 0) (f := ⟨"is_integer", 2, ["thing"]⟩) rfl (d := ⟨1, 1, b0⟩) (N := n0) rfl rfl (by decide) rfl sc_0 (fun _ _ _ _ _ _ us hl => match us, hl with | [_], _ => rfl) (fun cl T k W X O H0 e1 e2 hO C fr R HL lmx hq => der_0 c hO C e1 fr R HL lmx hq) rfl
theorem db_1 (c : mod.obsK K = mod.val w) (X : K.In h) (G : h.Ns mainGlobals mg) : DefB (mod.cfg K w mg base) P 1 :=
  mod.defB c X G (j := 1) (f := ⟨"is_number", 3, ["thing"]⟩) rfl (d := ⟨1, 1, b1⟩) (N := n1) rfl rfl (by decide) rfl sc_1 (fun _ _ _ _ _ _ us hl => match us, hl with | [_], _ => rfl) (fun cl T k W X O H0 e1 e2 hO C fr R HL lmx hq => der_1 c hO C e1 fr R HL lmx hq) rfl
theorem db_2 (c : mod.obsK K = mod.val w) (X : K.In h) (G : h.Ns mainGlobals mg) : DefB (mod.cfg K w mg base) P 2 :=
  mod.defB c X G (j := 2) (f := ⟨"is_natural", 4, ["thing"]⟩) rfl (d := ⟨1, 1, b2⟩) (N := n2) rfl rfl (by decide) rfl sc_2 (fun _ _ _ _ _ _ us hl => match us, hl with | [_], _ => rfl) (fun cl T k W X O H0 e1 e2 hO C fr R HL lmx hq => der_2 c hO C e1 fr R HL lmx hq) rfl
theorem db_3 (c : mod.obsK K = mod.val w) (X : K.In h) (G : h.Ns mainGlobals mg) : DefB (mod.cfg K w mg base) P 3 :=
  mod.defB c X G (j := 3) (f := ⟨"are_numbers", 5, ["thing"]⟩) rfl (d := ⟨1, 2, b3⟩) (N := n3) rfl rfl (by decide) rfl sc_3 (fun _ _ _ _ _ _ us hl => match us, hl with | [_], _ => rfl) (fun cl T k W X O H0 e1 e2 hO C fr R HL lmx hq => der_3 c hO C e1 fr R HL lmx hq) rfl
theorem db_4 (c : mod.obsK K = mod.val w) (X : K.In h) (G : h.Ns mainGlobals mg) : DefB (mod.cfg K w mg base) P 4 :=
  mod.defB c X G (j := 4) (f := ⟨"require", 11, ["holds", "name"]⟩) rfl (d := ⟨2, 2, b4⟩) (N := n4) rfl rfl (by decide) rfl sc_4 (fun _ _ _ _ _ _ us hl => match us, hl with | [_, _], _ => rfl) (fun cl T k W X O H0 e1 e2 hO C fr R HL lmx hq => der_4 c hO C e1 fr R HL lmx hq) rfl
theorem db_5 (c : mod.obsK K = mod.val w) (X : K.In h) (G : h.Ns mainGlobals mg) : DefB (mod.cfg K w mg base) P 5 :=
  mod.defB c X G (j := 5) (f := ⟨"least_from", 12, ["low", "high", "serves"]⟩) rfl (d := ⟨3, 6, b5⟩) (N := n5) rfl rfl (by decide) rfl sc_5 (fun _ _ _ _ _ _ us hl => match us, hl with | [_, _, _], _ => rfl) (fun cl T k W X O H0 e1 e2 hO C fr R HL lmx hq => der_5 c hO C e1 fr R HL lmx hq) rfl
theorem db_6 (c : mod.obsK K = mod.val w) (X : K.In h) (G : h.Ns mainGlobals mg) : DefB (mod.cfg K w mg base) P 6 :=
  mod.defB c X G (j := 6) (f := ⟨"choose", 14, ["top", "few"]⟩) rfl (d := ⟨2, 2, b6⟩) (N := n6) rfl rfl (by decide) rfl sc_6 (fun _ _ _ _ _ _ us hl => match us, hl with | [_, _], _ => rfl) (fun cl T k W X O H0 e1 e2 hO C fr R HL lmx hq => der_6 c hO C e1 fr R HL lmx hq) rfl
theorem db_7 (c : mod.obsK K = mod.val w) (X : K.In h) (G : h.Ns mainGlobals mg) : DefB (mod.cfg K w mg base) P 7 :=
  mod.defB c X G (j := 7) (f := ⟨"capacity", 15, ["width", "reach"]⟩) rfl (d := ⟨2, 2, b7⟩) (N := n7) rfl rfl (by decide) rfl sc_7 (fun _ _ _ _ _ _ us hl => match us, hl with | [_, _], _ => rfl) (fun cl T k W X O H0 e1 e2 hO C fr R HL lmx hq => der_7 c hO C e1 fr R HL lmx hq) rfl
theorem db_8 (c : mod.obsK K = mod.val w) (X : K.In h) (G : h.Ns mainGlobals mg) : DefB (mod.cfg K w mg base) P 8 :=
  mod.defB c X G (j := 8) (f := ⟨"is_row", 17, ["thing"]⟩) rfl (d := ⟨1, 3, b8⟩) (N := n8) rfl rfl (by decide) rfl sc_8 (fun _ _ _ _ _ _ us hl => match us, hl with | [_], _ => rfl) (fun cl T k W X O H0 e1 e2 hO C fr R HL lmx hq => der_8 c hO C e1 fr R HL lmx hq) rfl
theorem db_9 (c : mod.obsK K = mod.val w) (X : K.In h) (G : h.Ns mainGlobals mg) : DefB (mod.cfg K w mg base) P 9 :=
  mod.defB c X G (j := 9) (f := ⟨"number_of", 19, ["width", "row"]⟩) rfl (d := ⟨2, 4, b9⟩) (N := n9) rfl rfl (by decide) rfl sc_9 (fun _ _ _ _ _ _ us hl => match us, hl with | [_, _], _ => rfl) (fun cl T k W X O H0 e1 e2 hO C fr R HL lmx hq => der_9 c hO C e1 fr R HL lmx hq) rfl
theorem db_10 (c : mod.obsK K = mod.val w) (X : K.In h) (G : h.Ns mainGlobals mg) : DefB (mod.cfg K w mg base) P 10 :=
  mod.defB c X G (j := 10) (f := ⟨"_require_row", 20, ["width", "row"]⟩) rfl (d := ⟨2, 2, b10⟩) (N := n10) rfl rfl (by decide) rfl sc_10 (fun _ _ _ _ _ _ us hl => match us, hl with | [_, _], _ => rfl) (fun cl T k W X O H0 e1 e2 hO C fr R HL lmx hq => der_10 c hO C e1 fr R HL lmx hq) rfl
theorem db_11 (c : mod.obsK K = mod.val w) (X : K.In h) (G : h.Ns mainGlobals mg) : DefB (mod.cfg K w mg base) P 11 :=
  mod.defB c X G (j := 11) (f := ⟨"_below", 21, ["places", "member"]⟩) rfl (d := ⟨2, 2, b11⟩) (N := n11) rfl rfl (by decide) rfl sc_11 (fun _ _ _ _ _ _ us hl => match us, hl with | [_, _], _ => rfl) (fun cl T k W X O H0 e1 e2 hO C fr R HL lmx hq => der_11 c hO C e1 fr R HL lmx hq) rfl
theorem db_12 (c : mod.obsK K = mod.val w) (X : K.In h) (G : h.Ns mainGlobals mg) : DefB (mod.cfg K w mg base) P 12 :=
  mod.defB c X G (j := 12) (f := ⟨"row_of", 22, ["width", "number"]⟩) rfl (d := ⟨2, 5, b12⟩) (N := n12) rfl rfl (by decide) rfl sc_12 (fun _ _ _ _ _ _ us hl => match us, hl with | [_, _], _ => rfl) (fun cl T k W X O H0 e1 e2 hO C fr R HL lmx hq => der_12 c hO C e1 fr R HL lmx hq) rfl
theorem db_13 (c : mod.obsK K = mod.val w) (X : K.In h) (G : h.Ns mainGlobals mg) : DefB (mod.cfg K w mg base) P 13 :=
  mod.defB c X G (j := 13) (f := ⟨"_greatest_member", 23, ["places", "number"]⟩) rfl (d := ⟨2, 3, b13⟩) (N := n13) rfl rfl (by decide) rfl sc_13 (fun _ _ _ _ _ _ us hl => match us, hl with | [_, _], _ => rfl) (fun cl T k W X O H0 e1 e2 hO C fr R HL lmx hq => der_13 c hO C e1 fr R HL lmx hq) rfl
theorem db_14 (c : mod.obsK K = mod.val w) (X : K.In h) (G : h.Ns mainGlobals mg) : DefB (mod.cfg K w mg base) P 14 :=
  mod.defB c X G (j := 14) (f := ⟨"joined", 25, ["width", "one", "other"]⟩) rfl (d := ⟨3, 3, b14⟩) (N := n14) rfl rfl (by decide) rfl sc_14 (fun _ _ _ _ _ _ us hl => match us, hl with | [_, _, _], _ => rfl) (fun cl T k W X O H0 e1 e2 hO C fr R HL lmx hq => der_14 c hO C e1 fr R HL lmx hq) rfl
theorem db_15 (c : mod.obsK K = mod.val w) (X : K.In h) (G : h.Ns mainGlobals mg) : DefB (mod.cfg K w mg base) P 15 :=
  mod.defB c X G (j := 15) (f := ⟨"joined_all", 26, ["width", "numbers"]⟩) rfl (d := ⟨2, 4, b15⟩) (N := n15) rfl rfl (by decide) rfl sc_15 (fun _ _ _ _ _ _ us hl => match us, hl with | [_, _], _ => rfl) (fun cl T k W X O H0 e1 e2 hO C fr R HL lmx hq => der_15 c hO C e1 fr R HL lmx hq) rfl
theorem db_16 (c : mod.obsK K = mod.val w) (X : K.In h) (G : h.Ns mainGlobals mg) : DefB (mod.cfg K w mg base) P 16 :=
  mod.defB c X G (j := 16) (f := ⟨"joined_many", 27, ["width", "number", "many"]⟩) rfl (d := ⟨3, 3, b16⟩) (N := n16) rfl rfl (by decide) rfl sc_16 (fun _ _ _ _ _ _ us hl => match us, hl with | [_, _, _], _ => rfl) (fun cl T k W X O H0 e1 e2 hO C fr R HL lmx hq => der_16 c hO C e1 fr R HL lmx hq) rfl
theorem db_17 (c : mod.obsK K = mod.val w) (X : K.In h) (G : h.Ns mainGlobals mg) : DefB (mod.cfg K w mg base) P 17 :=
  mod.defB c X G (j := 17) (f := ⟨"top_merged", 28, ["width", "rows"]⟩) rfl (d := ⟨2, 4, b17⟩) (N := n17) rfl rfl (by decide) rfl sc_17 (fun _ _ _ _ _ _ us hl => match us, hl with | [_, _], _ => rfl) (fun cl T k W X O H0 e1 e2 hO C fr R HL lmx hq => der_17 c hO C e1 fr R HL lmx hq) rfl
theorem db_18 (c : mod.obsK K = mod.val w) (X : K.In h) (G : h.Ns mainGlobals mg) : DefB (mod.cfg K w mg base) P 18 :=
  mod.defB c X G (j := 18) (f := ⟨"_law_mixed", 30, ["_law_cell", "_law_k"]⟩) rfl (d := ⟨2, 3, b18⟩) (N := n18) rfl rfl (by decide) rfl sc_18 (fun _ _ _ _ _ _ us hl => match us, hl with | [_, _], _ => rfl) (fun cl T k W X O H0 e1 e2 hO C fr R HL lmx hq => der_18 c hO C e1 fr R HL lmx hq) rfl
theorem db_19 (c : mod.obsK K = mod.val w) (X : K.In h) (G : h.Ns mainGlobals mg) : DefB (mod.cfg K w mg base) P 19 :=
  mod.defB c X G (j := 19) (f := ⟨"_law_draws", 31, ["_law_script", "_law_length"]⟩) rfl (d := ⟨2, 6, b19⟩) (N := n19) rfl rfl (by decide) rfl sc_19 (fun _ _ _ _ _ _ us hl => match us, hl with | [_, _], _ => rfl) (fun cl T k W X O H0 e1 e2 hO C fr R HL lmx hq => der_19 c hO C e1 fr R HL lmx hq) rfl
theorem db_20 (c : mod.obsK K = mod.val w) (X : K.In h) (G : h.Ns mainGlobals mg) : DefB (mod.cfg K w mg base) P 20 :=
  mod.defB c X G (j := 20) (f := ⟨"_law_is", 32, ["_law_got", "_law_due"]⟩) rfl (d := ⟨2, 2, b20⟩) (N := n20) rfl rfl (by decide) rfl sc_20 (fun _ _ _ _ _ _ us hl => match us, hl with | [_, _], _ => rfl) (fun cl T k W X O H0 e1 e2 hO C fr R HL lmx hq => der_20 c hO C e1 fr R HL lmx hq) rfl
theorem db_21 (c : mod.obsK K = mod.val w) (X : K.In h) (G : h.Ns mainGlobals mg) : DefB (mod.cfg K w mg base) P 21 :=
  mod.defB c X G (j := 21) (f := ⟨"_law_great", 33, ["_law_d", "_law_k"]⟩) rfl (d := ⟨2, 4, b21⟩) (N := n21) rfl rfl (by decide) rfl sc_21 (fun _ _ _ _ _ _ us hl => match us, hl with | [_, _], _ => rfl) (fun cl T k W X O H0 e1 e2 hO C fr R HL lmx hq => der_21 c hO C e1 fr R HL lmx hq) rfl
theorem db_22 (c : mod.obsK K = mod.val w) (X : K.In h) (G : h.Ns mainGlobals mg) : DefB (mod.cfg K w mg base) P 22 :=
  mod.defB c X G (j := 22) (f := ⟨"_law_product", 34, ["_law_a", "_law_b"]⟩) rfl (d := ⟨2, 4, b22⟩) (N := n22) rfl rfl (by decide) rfl sc_22 (fun _ _ _ _ _ _ us hl => match us, hl with | [_, _], _ => rfl) (fun cl T k W X O H0 e1 e2 hO C fr R HL lmx hq => der_22 c hO C e1 fr R HL lmx hq) rfl
theorem db_23 (c : mod.obsK K = mod.val w) (X : K.In h) (G : h.Ns mainGlobals mg) : DefB (mod.cfg K w mg base) P 23 :=
  mod.defB c X G (j := 23) (f := ⟨"_law_place", 35, ["_law_u", "_law_members_here"]⟩) rfl (d := ⟨2, 4, b23⟩) (N := n23) rfl rfl (by decide) rfl sc_23 (fun _ _ _ _ _ _ us hl => match us, hl with | [_, _], _ => rfl) (fun cl T k W X O H0 e1 e2 hO C fr R HL lmx hq => der_23 c hO C e1 fr R HL lmx hq) rfl
theorem db_24 (c : mod.obsK K = mod.val w) (X : K.In h) (G : h.Ns mainGlobals mg) : DefB (mod.cfg K w mg base) P 24 :=
  mod.defB c X G (j := 24) (f := ⟨"_law_cut", 36, ["_law_u", "_law_members_here"]⟩) rfl (d := ⟨2, 2, b24⟩) (N := n24) rfl rfl (by decide) rfl sc_24 (fun _ _ _ _ _ _ us hl => match us, hl with | [_, _], _ => rfl) (fun cl T k W X O H0 e1 e2 hO C fr R HL lmx hq => der_24 c hO C e1 fr R HL lmx hq) rfl
theorem db_25 (c : mod.obsK K = mod.val w) (X : K.In h) (G : h.Ns mainGlobals mg) : DefB (mod.cfg K w mg base) P 25 :=
  mod.defB c X G (j := 25) (f := ⟨"_law_after", 37, ["_law_u", "_law_members_here"]⟩) rfl (d := ⟨2, 4, b25⟩) (N := n25) rfl rfl (by decide) rfl sc_25 (fun _ _ _ _ _ _ us hl => match us, hl with | [_, _], _ => rfl) (fun cl T k W X O H0 e1 e2 hO C fr R HL lmx hq => der_25 c hO C e1 fr R HL lmx hq) rfl
theorem db_26 (c : mod.obsK K = mod.val w) (X : K.In h) (G : h.Ns mainGlobals mg) : DefB (mod.cfg K w mg base) P 26 :=
  mod.defB c X G (j := 26) (f := ⟨"_law_listed", 38, ["_law_u", "_law_c"]⟩) rfl (d := ⟨2, 9, b26⟩) (N := n26) rfl rfl (by decide) rfl sc_26 (fun _ _ _ _ _ _ us hl => match us, hl with | [_, _], _ => rfl) (fun cl T k W X O H0 e1 e2 hO C fr R HL lmx hq => der_26 c hO C e1 fr R HL lmx hq) rfl
theorem db_27 (c : mod.obsK K = mod.val w) (X : K.In h) (G : h.Ns mainGlobals mg) : DefB (mod.cfg K w mg base) P 27 :=
  mod.defB c X G (j := 27) (f := ⟨"_law_small", 39, ["_law_u", "_law_c", "_law_d"]⟩) rfl (d := ⟨3, 13, b27⟩) (N := n27) rfl rfl (by decide) rfl sc_27 (fun _ _ _ _ _ _ us hl => match us, hl with | [_, _, _], _ => rfl) (fun cl T k W X O H0 e1 e2 hO C fr R HL lmx hq => der_27 c hO C e1 fr R HL lmx hq) rfl
theorem db_28 (c : mod.obsK K = mod.val w) (X : K.In h) (G : h.Ns mainGlobals mg) : DefB (mod.cfg K w mg base) P 28 :=
  mod.defB c X G (j := 28) (f := ⟨"_law_bound", 40, ["_law_u"]⟩) rfl (d := ⟨1, 2, b28⟩) (N := n28) rfl rfl (by decide) rfl sc_28 (fun _ _ _ _ _ _ us hl => match us, hl with | [_], _ => rfl) (fun cl T k W X O H0 e1 e2 hO C fr R HL lmx hq => der_28 c hO C e1 fr R HL lmx hq) rfl
theorem db_29 (c : mod.obsK K = mod.val w) (X : K.In h) (G : h.Ns mainGlobals mg) : DefB (mod.cfg K w mg base) P 29 :=
  mod.defB c X G (j := 29) (f := ⟨"_law_members", 41, ["_law_u", "_law_pool", "_law_d", "_law_k"]⟩) rfl (d := ⟨4, 6, b29⟩) (N := n29) rfl rfl (by decide) rfl sc_29 (fun _ _ _ _ _ _ us hl => match us, hl with | [_, _, _, _], _ => rfl) (fun cl T k W X O H0 e1 e2 hO C fr R HL lmx hq => der_29 c hO C e1 fr R HL lmx hq) rfl
theorem db_30 (c : mod.obsK K = mod.val w) (X : K.In h) (G : h.Ns mainGlobals mg) : DefB (mod.cfg K w mg base) P 30 :=
  mod.defB c X G (j := 30) (f := ⟨"_law_far", 42, ["_law_u", "_law_d"]⟩) rfl (d := ⟨2, 16, b30⟩) (N := n30) rfl rfl (by decide) rfl sc_30 (fun _ _ _ _ _ _ us hl => match us, hl with | [_, _], _ => rfl) (fun cl T k W X O H0 e1 e2 hO C fr R HL lmx hq => der_30 c hO C e1 fr R HL lmx hq) rfl
theorem db_31 (c : mod.obsK K = mod.val w) (X : K.In h) (G : h.Ns mainGlobals mg) : DefB (mod.cfg K w mg base) P 31 :=
  mod.defB c X G (j := 31) (f := ⟨"_law_ask", 43, ["_law_which", "_law_a"]⟩) rfl (d := ⟨2, 2, b31⟩) (N := n31) rfl rfl (by decide) rfl sc_31 (fun _ _ _ _ _ _ us hl => match us, hl with | [_, _], _ => rfl) (fun cl T k W X O H0 e1 e2 hO C fr R HL lmx hq => der_31 c hO C e1 fr R HL lmx hq) rfl
theorem db_32 (c : mod.obsK K = mod.val w) (X : K.In h) (G : h.Ns mainGlobals mg) : DefB (mod.cfg K w mg base) P 32 :=
  mod.defB c X G (j := 32) (f := ⟨"_law_word", 44, ["_law_which", "_law_a"]⟩) rfl (d := ⟨2, 3, b32⟩) (N := n32) rfl rfl (by decide) rfl sc_32 (fun _ _ _ _ _ _ us hl => match us, hl with | [_, _], _ => rfl) (fun cl T k W X O H0 e1 e2 hO C fr R HL lmx hq => der_32 c hO C e1 fr R HL lmx hq) rfl
theorem db_33 (c : mod.obsK K = mod.val w) (X : K.In h) (G : h.Ns mainGlobals mg) : DefB (mod.cfg K w mg base) P 33 :=
  mod.defB c X G (j := 33) (f := ⟨"_law_refusals", 45, ["_law_odd", "_law_u"]⟩) rfl (d := ⟨2, 5, b33⟩) (N := n33) rfl rfl (by decide) rfl sc_33 (fun _ _ _ _ _ _ us hl => match us, hl with | [_, _], _ => rfl) (fun cl T k W X O H0 e1 e2 hO C fr R HL lmx hq => der_33 c hO C e1 fr R HL lmx hq) rfl
theorem db_34 (c : mod.obsK K = mod.val w) (X : K.In h) (G : h.Ns mainGlobals mg) : DefB (mod.cfg K w mg base) P 34 :=
  mod.defB c X G (j := 34) (f := ⟨"law", 46, ["_law_script"]⟩) rfl (d := ⟨1, 6, b34⟩) (N := n34) rfl rfl (by decide) rfl sc_34 (fun _ _ _ _ _ _ us hl => match us, hl with | [_], _ => rfl) (fun cl T k W X O H0 e1 e2 hO C fr R HL lmx hq => der_34 c hO C e1 fr R HL lmx hq) rfl
theorem dbs (c : mod.obsK K = mod.val w) (X : K.In h) (G : h.Ns mainGlobals mg) : ∀ j, j < (mod.cfg K w mg base).nF → DefB (mod.cfg K w mg base) P j := fun j hj => match j, hj with
  | 0, _ => db_0 c X G
  | 1, _ => db_1 c X G
  | 2, _ => db_2 c X G
  | 3, _ => db_3 c X G
  | 4, _ => db_4 c X G
  | 5, _ => db_5 c X G
  | 6, _ => db_6 c X G
  | 7, _ => db_7 c X G
  | 8, _ => db_8 c X G
  | 9, _ => db_9 c X G
  | 10, _ => db_10 c X G
  | 11, _ => db_11 c X G
  | 12, _ => db_12 c X G
  | 13, _ => db_13 c X G
  | 14, _ => db_14 c X G
  | 15, _ => db_15 c X G
  | 16, _ => db_16 c X G
  | 17, _ => db_17 c X G
  | 18, _ => db_18 c X G
  | 19, _ => db_19 c X G
  | 20, _ => db_20 c X G
  | 21, _ => db_21 c X G
  | 22, _ => db_22 c X G
  | 23, _ => db_23 c X G
  | 24, _ => db_24 c X G
  | 25, _ => db_25 c X G
  | 26, _ => db_26 c X G
  | 27, _ => db_27 c X G
  | 28, _ => db_28 c X G
  | 29, _ => db_29 c X G
  | 30, _ => db_30 c X G
  | 31, _ => db_31 c X G
  | 32, _ => db_32 c X G
  | 33, _ => db_33 c X G
  | 34, _ => db_34 c X G
  | n + 35, hj => absurd (show n + 35 < 35 from hj) (by omega)
theorem inis (c : mod.obsK K = mod.val w) : ∀ i, i < mod.cls.length → (mod.cl i).ps.isEmpty = false → OexC K (He.ga K (mod.cl i).name) → FnOk mod.prog w K mg base (L2N.CX mod.prog w) 1 (He.ma K (He.ga K (mod.cl i).name) "__init__") (fdAt K (He.ma K (He.ga K (mod.cl i).name) "__init__")) (mod.cl i).ps (spI (mod.cfg K w mg base) i) ∧
    Binds K (fdAt K (He.ma K (He.ga K (mod.cl i).name) "__init__")) (mod.cl i).ps [] ∧ (mod.cl i).fl.Nodup := fun i hi => match i, hi with
  | 0, _ => fun hp _ => by cases hp
  | 1, _ => fun hp _ => by cases hp
  | 2, _ => fun hp T => by
    have F := mod.in_at c (x := mod.cl 2) (mod.cl_mem (by decide) 2) rfl
    exact ⟨ini2 (g := mod.cfg K w mg base) (c := 2) F isc_2 rfl rfl T (mod.exF c (mod.cl_mem (by decide) 2)).2.2 (by decide +kernel) (by decide +kernel) (by decide +kernel), F.bindsN (fun _ _ _ _ _ _ us hl => match us, hl with | [_, _, _], _ => rfl), by decide +kernel⟩
  | n + 3, hi => absurd (show n + 3 < 3 from hi) (by omega)
theorem lmb_0 (c : mod.obsK K = mod.val w) : LamB (mod.cfg K w mg base) P 35 := ⟨⟨⟨3, 3, [.ret (.bin .gt (.call 11 [(.var 1), (.bin .add (.var 0) (.cst (.int 1)))]) (.var 2))]⟩, ["member", "places", "number"], (.bin .gt (.call 11 [(.var 1), (.bin .add (.var 0) (.cst (.int 1)))]) (.var 2)), rfl, rfl, rfl, rfl, rfl, NdefX.nscope_by (show NdefX.nscB ["member", "places", "number"] ["member"] ["places", "number"] lsc0 = true by decide +kernel), (fun _ _ _ _ _ us hl => match us, hl with | [_], _ => rfl), fun T k W X O H0 e1 e2 hO C => lder_0 c hO C e1⟩, rfl⟩
theorem lmbs (c : mod.obsK K = mod.val w) : ∀ l, (mod.cfg K w mg base).isl l = true → LamB (mod.cfg K w mg base) P l := fun l hl => by
  have hl : (decide (35 ≤ l) && decide (l < 35 + 1)) = true := hl
  rw [Bool.and_eq_true, decide_eq_true_eq, decide_eq_true_eq] at hl
  match l, hl with
  | 35, _ => exact lmb_0 c
  | n + 36, hl => exact absurd hl.2 (by omega)
  | 0, hl => exact absurd hl.1 (by omega)
  | 1, hl => exact absurd hl.1 (by omega)
  | 2, hl => exact absurd hl.1 (by omega)
  | 3, hl => exact absurd hl.1 (by omega)
  | 4, hl => exact absurd hl.1 (by omega)
  | 5, hl => exact absurd hl.1 (by omega)
  | 6, hl => exact absurd hl.1 (by omega)
  | 7, hl => exact absurd hl.1 (by omega)
  | 8, hl => exact absurd hl.1 (by omega)
  | 9, hl => exact absurd hl.1 (by omega)
  | 10, hl => exact absurd hl.1 (by omega)
  | 11, hl => exact absurd hl.1 (by omega)
  | 12, hl => exact absurd hl.1 (by omega)
  | 13, hl => exact absurd hl.1 (by omega)
  | 14, hl => exact absurd hl.1 (by omega)
  | 15, hl => exact absurd hl.1 (by omega)
  | 16, hl => exact absurd hl.1 (by omega)
  | 17, hl => exact absurd hl.1 (by omega)
  | 18, hl => exact absurd hl.1 (by omega)
  | 19, hl => exact absurd hl.1 (by omega)
  | 20, hl => exact absurd hl.1 (by omega)
  | 21, hl => exact absurd hl.1 (by omega)
  | 22, hl => exact absurd hl.1 (by omega)
  | 23, hl => exact absurd hl.1 (by omega)
  | 24, hl => exact absurd hl.1 (by omega)
  | 25, hl => exact absurd hl.1 (by omega)
  | 26, hl => exact absurd hl.1 (by omega)
  | 27, hl => exact absurd hl.1 (by omega)
  | 28, hl => exact absurd hl.1 (by omega)
  | 29, hl => exact absurd hl.1 (by omega)
  | 30, hl => exact absurd hl.1 (by omega)
  | 31, hl => exact absurd hl.1 (by omega)
  | 32, hl => exact absurd hl.1 (by omega)
  | 33, hl => exact absurd hl.1 (by omega)
  | 34, hl => exact absurd hl.1 (by omega)
theorem allF (s : mod.Says w h K) (X : K.In h) (G : h.Ns mainGlobals mg) (tb : ∀ p ∈ mod.tf.map fun p => He.cT K p, LamX.TabB base mg p.1 p.2) (n : Nat) : Facts (mod.cfg K w mg base) P n := facts (mod.pf s.c (by decide) X G (inis s.c)) (dbs s.c X G) (mod.mkT s tb) (lmbs s.c) (fun _ _ _ z => z) n
end
def Good (n : Nat) : Prop := ∀ ns : List Int, ns.length ≤ 63 → P.run n false 34 [.frl (ns.map .int)] = .ok (.bl true)
end Vk19_whole_joining
open PySem PySem.W PySem.Calls PyProof.Rows Ev
theorem Vk19_whole_joining.holds_of (good : Vk19_whole_joining.Good 40) : PySem.Challenge.rw_sincemarks_k19_whole_joining.Holds := by
  w_on; o_law
  refine HandSHeadRun.head_imp (r := Vk19_whole_joining.Rw) (q := view Vk19_whole_joining.Rw.prog [0, 46]) (H := Vk19_whole_joining.hk) (ob := Vk19_whole_joining.ob) (M := 6000) (loose := Vk19_whole_joining.loose) (d := HandSHeadRun.topDef Vk19_whole_joining.Rw.prog 46) (kwd := []) Vk19_whole_joining.ob_eq
    Vk19_whole_joining.run (by kernel_rfl) (by kernel_rfl) (by kernel_rfl) (by rfl) (by first | assumption | decide +kernel) (by decide +kernel) ⟨rfl, rfl, rfl, rfl, rfl, by decide +kernel⟩ ?hw ?hc
  case hw => w_witness2
  case hc =>
    refine LamX.walk_ofTsE (l := Vk19_whole_joining.rw0) (n := 63) (k := 42) (x := "_law_script") (CX := fun w => L2N.CX Vk19_whole_joining.prog w) rfl (by decide) (by kernel_rfl) ⟨rfl, by decide, by decide⟩ ?F fun w => CXn_no
    intro w mg fa h Y G hmg0
    obtain ⟨K, KX, s⟩ := Y
    have c := s.c
    have hmg : mg ("law" : PySem.Str) = some (.ref fa) := by
      have e : (HandSHeadRun.topDef Vk19_whole_joining.Rw.prog 46).name = ("law" : PySem.Str) := by kernel_rfl
      rw [← e]
      exact hmg0
    have F := Vk19_whole_joining.mod.fn_at c (j := 34) rfl
    have ea : fa = He.ga K "law" := by
      have z := He.glo_ok KX G (List.all_eq_true.mp (and7 (chk_of c)).1 _ (List.mem_of_getElem? (i := 34) (a := ⟨"law", 46, ["_law_script"]⟩) rfl))
      exact Value.ref.inj (Option.some.inj (hmg.symm.trans z))
    subst ea
    have b := L2.FunD.bindsA (ps := ["_law_script"]) F fun _ _ _ _ _ _ us hl => match us, hl with | [_], _ => rfl
    have mem : ∀ p ∈ Vk19_whole_joining.mod.tf.map fun p => He.cT K p, ∃ q ∈ Vk19_whole_joining.mod.tf, He.cT K q = p := fun p hp => List.mem_map.mp hp
    refine ⟨K, KX, fdAt K (He.ga K "law"), Vk19_whole_joining.mod.tf.map fun p => He.cT K p, spF (Vk19_whole_joining.mod.cfg K w mg default) (tbl Vk19_whole_joining.P 40 false) 34 1, fun p hp => ?_, fun p hp => ?_, fun p hp => ?_, fun s v => b s [v] rfl, fun H a ns hl _ hT hS => law_sp rfl (fun t ht => ?_) hS hl (good ns hl), fun base hK hG hTB => ?_⟩
    · obtain ⟨q, hq, rfl⟩ := mem p hp
      exact s.empty q hq
    · obtain ⟨q, hq, rfl⟩ := mem p hp
      exact s.out q hq
    · obtain ⟨q, hq, rfl⟩ := mem p hp
      exact PySem.W.codeHd_of_K KX (s.hd q hq)
    · obtain ⟨q, hq, rfl⟩ := List.mem_map.mp (show t ∈ Vk19_whole_joining.mod.tf.map fun p => (He.cT K p).2 from ht)
      exact NdefX.TabN.nil (hT _ (List.mem_map.mpr ⟨q, hq, rfl⟩))
    · exact (Vk19_whole_joining.allF (w := w) (base := base) s KX G hTB 40 false 34 Vk19_whole_joining.fj_34).ok rfl
end
section
set_option Elab.async false
set_option linter.all false
set_option maxRecDepth 100000
set_option maxHeartbeats 2000000
namespace Vk19_whole_joining
open PySem PySem.Spec Ev
abbrev s5_0t0 : CS := .ret (.cst .non)
abbrev s5_0c : CT := (.not (.of (.capp 2 [(.var 1)])))
abbrev s5_0 : CS := .ife s5_0c [s5_0t0] []
abbrev s5_1 : CS := .par [3, 4] [(.var 0), (.var 1)]
abbrev s5_2b0x : CE := (.bin .fdiv (.bin .add (.var 3) (.var 4)) (.cst (.int 2)))
abbrev s5_2b0 : CS := .set 5 s5_2b0x
abbrev s5_2b1t0 : CS := .set 4 (.var 5)
abbrev s5_2b1e0x : CE := (.bin .add (.var 5) (.cst (.int 1)))
abbrev s5_2b1e0 : CS := .set 3 s5_2b1e0x
abbrev s5_2b1c : CT := (.of (.capp 2 [(.var 5)]))
abbrev s5_2b1 : CS := .ife s5_2b1c [s5_2b1t0] [s5_2b1e0]
abbrev s5_2b : List CS := [s5_2b0, s5_2b1]
abbrev s5_2c : CT := (.of (.bin .lt (.var 3) (.var 4)))
abbrev s5_2 : CS := .whl s5_2c s5_2b
abbrev s5_3 : CS := .ret (.var 4)
theorem b5_is : b5 = [s5_0, s5_1, s5_2, s5_3] := rfl
abbrev s6_0x : CE := (.call 4 [(.call 1 [(.var 0)]), (.cst (.str (L "top")))])
abbrev s6_0 : CS := .ex s6_0x
abbrev s6_1x : CE := (.call 4 [(.call 1 [(.var 1)]), (.cst (.str (L "few")))])
abbrev s6_1 : CS := .ex s6_1x
abbrev s6_2 : CS := .ret (.comb (.var 0) (.var 1))
theorem b6_is : b6 = [s6_0, s6_1, s6_2] := rfl
abbrev s7_0x : CE := (.call 4 [(.call 2 [(.var 0)]), (.cst (.str (L "width")))])
abbrev s7_0 : CS := .ex s7_0x
abbrev s7_1x : CE := (.call 4 [(.call 2 [(.var 1)]), (.cst (.str (L "reach")))])
abbrev s7_1 : CS := .ex s7_1x
abbrev s7_2x : CE := (.call 6 [(.bin .add (.var 0) (.var 1)), (.var 1)])
abbrev s7_2 : CS := .ret s7_2x
theorem b7_is : b7 = [s7_0, s7_1, s7_2] := rfl
abbrev s9_0 : CS := .ex (.call 10 [(.var 0), (.var 1)])
abbrev s9_1x : CE := (.bi .sum [(.cmp (.tp [2, 3]) (.enum (.var 1)) .yes (.call 11 [(.bin .sub (.var 0) (.var 2)), (.var 3)]))])
abbrev s9_1 : CS := .ret s9_1x
theorem b9_is : b9 = [s9_0, s9_1] := rfl
abbrev s10_0x : CE := (.call 4 [(.call 2 [(.var 0)]), (.cst (.str (L "width")))])
abbrev s10_0 : CS := .ex s10_0x
abbrev s10_1x : CE := (.call 4 [(.and (.call 8 [(.var 1)]) (.bin .le (.bi .len [(.var 1)]) (.var 0))), (.cst (.str (L "row")))])
abbrev s10_1 : CS := .ex s10_1x
theorem b10_is : b10 = [s10_0, s10_1] := rfl
abbrev s11_0x : CE := (.call 6 [(.bin .sub (.bin .add (.var 1) (.var 0)) (.cst (.int 1))), (.var 0)])
abbrev s11_0 : CS := .ret s11_0x
theorem b11_is : b11 = [s11_0] := rfl
abbrev s12_0x : CE := (.call 4 [(.call 2 [(.var 0)]), (.cst (.str (L "width")))])
abbrev s12_0 : CS := .ex s12_0x
abbrev s12_1x : CE := (.call 4 [(.call 1 [(.var 1)]), (.cst (.str (L "number")))])
abbrev s12_1 : CS := .ex s12_1x
abbrev s12_2 : CS := .setOwn 2 (.lst [])
abbrev s12_3 : CS := .set 3 (.var 1)
abbrev s12_4b0x : CE := (.bin .sub (.var 0) (.bi .len [(.var 2)]))
abbrev s12_4b0 : CS := .set 4 s12_4b0x
abbrev s12_4b1 : CS := .app 2 (.call 13 [(.var 4), (.var 3)])
abbrev s12_4b2 : CS := .aug 3 .sub (.call 11 [(.var 4), (.idx (.var 2) (.un .neg (.cst (.int 1))))])
abbrev s12_4b : List CS := [s12_4b0, s12_4b1, s12_4b2]
abbrev s12_4c : CT := (.of (.bin .gt (.var 3) (.cst (.int 0))))
abbrev s12_4 : CS := .whl s12_4c s12_4b
abbrev s12_5 : CS := .ret (.bi .tuple [(.var 2)])
theorem b12_is : b12 = [s12_0, s12_1, s12_2, s12_3, s12_4, s12_5] := rfl
abbrev s13_0 : CS := .set 2 (.cst (.int 1))
abbrev s13_1b0x : CE := (.bin .mul (.cst (.int 2)) (.var 2))
abbrev s13_1b0 : CS := .set 2 s13_1b0x
abbrev s13_1b : List CS := [s13_1b0]
abbrev s13_1c : CT := (.of (.bin .le (.call 11 [(.var 0), (.bin .add (.var 2) (.cst (.int 1)))]) (.var 1)))
abbrev s13_1 : CS := .whl s13_1c s13_1b
abbrev s13_2x : CE := (.callL 5 [(.cst (.int 1)), (.var 2)] 35 [0, 1] [])
abbrev s13_2 : CS := .ret s13_2x
theorem b13_is : b13 = [s13_0, s13_1, s13_2] := rfl
abbrev s14_0x : CE := (.call 4 [(.call 2 [(.var 0)]), (.cst (.str (L "width")))])
abbrev s14_0 : CS := .ex s14_0x
abbrev s14_1x : CE := (.call 4 [(.call 1 [(.var 1)]), (.cst (.str (L "one")))])
abbrev s14_1 : CS := .ex s14_1x
abbrev s14_2x : CE := (.call 4 [(.call 1 [(.var 2)]), (.cst (.str (L "other")))])
abbrev s14_2 : CS := .ex s14_2x
abbrev s14_3x : CE := (.call 15 [(.var 0), (.tup [(.var 1), (.var 2)])])
abbrev s14_3 : CS := .ret s14_3x
theorem b14_is : b14 = [s14_0, s14_1, s14_2, s14_3] := rfl
abbrev s15_0x : CE := (.call 4 [(.call 2 [(.var 0)]), (.cst (.str (L "width")))])
abbrev s15_0 : CS := .ex s15_0x
abbrev s15_1x : CE := (.call 4 [(.call 3 [(.var 1)]), (.cst (.str (L "numbers")))])
abbrev s15_1 : CS := .ex s15_1x
abbrev s15_2x : CE := (.cmp (.nm 3) (.of (.var 1)) .yes (.call 12 [(.var 0), (.var 3)]))
abbrev s15_2 : CS := .setC 2 s15_2x
abbrev s15_3x : CE := (.call 9 [(.var 0), (.call 17 [(.var 0), (.var 2)])])
abbrev s15_3 : CS := .ret s15_3x
theorem b15_is : b15 = [s15_0, s15_1, s15_2, s15_3] := rfl
abbrev s16_0x : CE := (.call 4 [(.call 2 [(.var 0)]), (.cst (.str (L "width")))])
abbrev s16_0 : CS := .ex s16_0x
abbrev s16_1x : CE := (.call 4 [(.call 1 [(.var 1)]), (.cst (.str (L "number")))])
abbrev s16_1 : CS := .ex s16_1x
abbrev s16_2x : CE := (.call 4 [(.call 1 [(.var 2)]), (.cst (.str (L "many")))])
abbrev s16_2 : CS := .ex s16_2x
abbrev s16_3x : CE := (.call 9 [(.var 0), (.call 17 [(.var 0), (.bin .mul (.lst [(.call 12 [(.var 0), (.var 1)])]) (.bi .min2 [(.var 2), (.var 0)]))])])
abbrev s16_3 : CS := .ret s16_3x
theorem b16_is : b16 = [s16_0, s16_1, s16_2, s16_3] := rfl
abbrev s17_0x : CE := (.bi .tuple [(.slc (.bi .sortedR [(.cmp2 (.nm 2) (.of (.var 1)) (.nm 3) (.of (.var 2)) (.var 3))]) none (some (.var 0)))])
abbrev s17_0 : CS := .ret s17_0x
theorem b17_is : b17 = [s17_0] := rfl
abbrev s18_0x : CE := (.bin .mul (.bin .add (.bin .mod (.bi .int [(.var 0)]) (.cst (.int 998244353))) (.cst (.int 1237))) (.bin .add (.bin .mul (.var 1) (.cst (.int 6151))) (.cst (.int 30011))))
abbrev s18_0 : CS := .set 2 s18_0x
abbrev s18_1x : CE := (.bin .mul (.bin .add (.bin .fdiv (.bin .mod (.bi .int [(.var 2)]) (.cst (.int 2147483629))) (.cst (.int 19))) (.bin .mul (.var 1) (.cst (.int 86453)))) (.cst (.int 40487)))
abbrev s18_1 : CS := .set 2 s18_1x
abbrev s18_2x : CE := (.bin .mod (.bin .fdiv (.bin .mod (.bi .int [(.var 2)]) (.cst (.int 1999999943))) (.cst (.int 23))) (.cst (.int 983)))
abbrev s18_2 : CS := .ret s18_2x
theorem b18_is : b18 = [s18_0, s18_1, s18_2] := rfl
abbrev s19_0 : CS := .setOwn 2 (.lst [])
abbrev s19_1b0 : CS := .set 4 (.bi .abs [(.var 3)])
abbrev s19_1b1t0x : CE := (.call 18 [(.var 3), (.cst (.int 2))])
abbrev s19_1b1t0 : CS := .app 2 s19_1b1t0x
abbrev s19_1b1e0b0t0x : CE := (.bin .mod (.bi .int [(.var 4)]) (.cst (.int 983)))
abbrev s19_1b1e0b0t0 : CS := .app 2 s19_1b1e0b0t0x
abbrev s19_1b1e0b0t1x : CE := (.bin .fdiv (.var 4) (.cst (.int 983)))
abbrev s19_1b1e0b0t1 : CS := .set 4 s19_1b1e0b0t1x
abbrev s19_1b1e0b0c : CT := (.of (.bin .gt (.var 4) (.cst (.int 0))))
abbrev s19_1b1e0b0 : CS := .ife s19_1b1e0b0c [s19_1b1e0b0t0, s19_1b1e0b0t1] []
abbrev s19_1b1e0b : List CS := [s19_1b1e0b0]
abbrev s19_1b1e0i : CI := (.rng (.cst (.int 0)) (.cst (.int 60)))
abbrev s19_1b1e0 : CS := .for (.nm 5) s19_1b1e0i s19_1b1e0b
abbrev s19_1b1c : CT := (.of (.bin .lt (.var 4) (.bin .pow (.cst (.int 10)) (.cst (.int 18)))))
abbrev s19_1b1 : CS := .ife s19_1b1c [s19_1b1t0] [s19_1b1e0]
abbrev s19_1b : List CS := [s19_1b0, s19_1b1]
abbrev s19_1i : CI := (.of (.slc (.var 0) none (some (.cst (.int 63)))))
abbrev s19_1 : CS := .for (.nm 3) s19_1i s19_1b
abbrev s19_2t0b0x : CE := (.call 18 [(.idx (.var 0) (.bin .mod (.var 5) (.bi .min2 [(.cst (.int 63)), (.bi .len [(.var 0)])]))), (.bin .add (.var 5) (.cst (.int 7)))])
abbrev s19_2t0b0 : CS := .app 2 s19_2t0b0x
abbrev s19_2t0b : List CS := [s19_2t0b0]
abbrev s19_2t0i : CI := (.rng (.cst (.int 0)) (.var 1))
abbrev s19_2t0 : CS := .for (.nm 5) s19_2t0i s19_2t0b
abbrev s19_2c : CT := (.of (.bin .gt (.bi .len [(.var 0)]) (.cst (.int 0))))
abbrev s19_2 : CS := .ife s19_2c [s19_2t0] []
abbrev s19_3x : CE := (.bin .add (.var 2) (.bin .mul (.lst [(.cst (.int 0))]) (.var 1)))
abbrev s19_3 : CS := .setOwn 2 s19_3x
abbrev s19_4x : CE := (.slc (.var 2) none (some (.var 1)))
abbrev s19_4 : CS := .ret s19_4x
theorem b19_is : b19 = [s19_0, s19_1, s19_2, s19_3, s19_4] := rfl
abbrev s20_0x : CE := (.and (.isi (.var 0) .int) (.and (.un .not (.isi (.var 0) .bool)) (.bin .eq (.var 0) (.var 1))))
abbrev s20_0 : CS := .ret s20_0x
theorem b20_is : b20 = [s20_0] := rfl
abbrev s21_0 : CS := .set 2 (.cst (.int 0))
abbrev s21_1b0x : CE := (.bin .add (.bin .mul (.var 2) (.cst (.int 983))) (.idx (.var 0) (.bin .add (.bin .add (.var 1) (.cst (.int 1))) (.var 3))))
abbrev s21_1b0 : CS := .set 2 s21_1b0x
abbrev s21_1b : List CS := [s21_1b0]
abbrev s21_1i : CI := (.rng (.cst (.int 0)) (.bin .add (.cst (.int 1)) (.bin .mod (.idx (.var 0) (.var 1)) (.cst (.int 10)))))
abbrev s21_1 : CS := .for (.nm 3) s21_1i s21_1b
abbrev s21_2 : CS := .ret (.var 2)
theorem b21_is : b21 = [s21_0, s21_1, s21_2] := rfl
abbrev s22_0 : CS := .set 2 (.cst (.int 1))
abbrev s22_1b0x : CE := (.bin .fdiv (.bin .mul (.var 2) (.bin .sub (.var 0) (.var 3))) (.bin .add (.var 3) (.cst (.int 1))))
abbrev s22_1b0 : CS := .set 2 s22_1b0x
abbrev s22_1b : List CS := [s22_1b0]
abbrev s22_1i : CI := (.rng (.cst (.int 0)) (.var 1))
abbrev s22_1 : CS := .for (.nm 3) s22_1i s22_1b
abbrev s22_2x : CE := (.bin .mul (.var 2) (.bi .int [(.bin .ge (.var 0) (.var 1))]))
abbrev s22_2 : CS := .ret s22_2x
theorem b22_is : b22 = [s22_0, s22_1, s22_2] := rfl
abbrev s23_0 : CS := .set 2 (.cst (.int 0))
abbrev s23_1b0x : CE := (.bin .add (.var 2) (.call 22 [(.bin .sub (.bin .sub (.bin .add (.idx (.var 1) (.var 3)) (.var 0)) (.cst (.int 1))) (.var 3)), (.bin .sub (.var 0) (.var 3))]))
abbrev s23_1b0 : CS := .set 2 s23_1b0x
abbrev s23_1b : List CS := [s23_1b0]
abbrev s23_1i : CI := (.rng (.cst (.int 0)) (.bi .len [(.var 1)]))
abbrev s23_1 : CS := .for (.nm 3) s23_1i s23_1b
abbrev s23_2 : CS := .ret (.var 2)
theorem b23_is : b23 = [s23_0, s23_1, s23_2] := rfl
abbrev s24_0x : CE := (.bi .tuple [(.slc (.bi .sortedR [(.var 1)]) none (some (.var 0)))])
abbrev s24_0 : CS := .ret s24_0x
theorem b24_is : b24 = [s24_0] := rfl
abbrev s25_0t0x : CE := (.bin .add (.var 1) (.tup [(.cst (.int 1))]))
abbrev s25_0t0 : CS := .ret s25_0t0x
abbrev s25_0c : CT := (.of (.bin .lt (.bi .len [(.var 1)]) (.var 0)))
abbrev s25_0 : CS := .ife s25_0c [s25_0t0] []
abbrev s25_1x : CE := (.idx (.var 1) (.bin .sub (.bi .len [(.var 1)]) (.cst (.int 1))))
abbrev s25_1 : CS := .set 2 s25_1x
abbrev s25_2x : CE := (.bin .add (.bi .tuple [(.cmp (.nm 3) (.of (.var 1)) (.of (.bin .gt (.var 3) (.var 2))) (.var 3))]) (.tup [(.bin .add (.var 2) (.cst (.int 1)))]))
abbrev s25_2 : CS := .ret s25_2x
theorem b25_is : b25 = [s25_0, s25_1, s25_2] := rfl
abbrev s27_0 : CS := .set 3 (.call 26 [(.var 0), (.var 1)])
abbrev s27_1x : CE := (.bin .mod (.idx (.var 2) (.cst (.int 10))) (.bi .len [(.var 3)]))
abbrev s27_1 : CS := .set 4 s27_1x
abbrev s27_2b0x : CE := (.ixo (.var 3) (.call 24 [(.var 0), (.bin .add (.idx (.var 3) (.var 4)) (.idx (.var 3) (.var 5)))]))
abbrev s27_2b0 : CS := .set 9 s27_2b0x
abbrev s27_2b1t0 : CS := .ret (.cst (.bl false))
abbrev s27_2b1c : CT := (.or (.not (.of (.call 20 [(.call 14 [(.var 0), (.var 4), (.var 5)]), (.var 9)]))) (.not (.of (.call 20 [(.callk 14 [] [(.var 4), (.var 0), (.var 5)] [1, 2, 0]), (.var 9)]))))
abbrev s27_2b1 : CS := .ife s27_2b1c [s27_2b1t0] []
abbrev s27_2b : List CS := [s27_2b0, s27_2b1]
abbrev s27_2i : CI := (.rng (.cst (.int 0)) (.bi .len [(.var 3)]))
abbrev s27_2 : CS := .for (.nm 5) s27_2i s27_2b
abbrev s27_3x : CE := (.bin .mod (.idx (.var 2) (.cst (.int 11))) (.cst (.int 9)))
abbrev s27_3 : CS := .set 6 s27_3x
abbrev s27_4t0 : CS := .set 6 (.cst (.int 40))
abbrev s27_4c : CT := (.of (.bin .eq (.bin .mod (.idx (.var 2) (.cst (.int 12))) (.cst (.int 8))) (.cst (.int 3))))
abbrev s27_4 : CS := .ife s27_4c [s27_4t0] []
abbrev s27_5x : CE := (.cmp (.nm 12) (.rng (.cst (.int 0)) (.var 6)) .yes (.bin .mod (.bin .mul (.idx (.var 2) (.bin .add (.cst (.int 13)) (.bin .mod (.var 12) (.cst (.int 9))))) (.bin .add (.var 12) (.cst (.int 1)))) (.bi .len [(.var 3)])))
abbrev s27_5 : CS := .setC 7 s27_5x
abbrev s27_6 : CS := .set 8 (.tup [])
abbrev s27_7b0x : CE := (.bin .add (.var 8) (.idx (.var 3) (.var 5)))
abbrev s27_7b0 : CS := .set 8 s27_7b0x
abbrev s27_7b : List CS := [s27_7b0]
abbrev s27_7i : CI := (.of (.var 7))
abbrev s27_7 : CS := .for (.nm 5) s27_7i s27_7b
abbrev s27_8x : CE := (.ixo (.var 3) (.call 24 [(.var 0), (.var 8)]))
abbrev s27_8 : CS := .set 9 s27_8x
abbrev s27_9t0 : CS := .ret (.cst (.bl false))
abbrev s27_9c : CT := (.not (.of (.call 20 [(.call 15 [(.var 0), (.bi .tuple [(.var 7)])]), (.var 9)])))
abbrev s27_9 : CS := .ife s27_9c [s27_9t0] []
abbrev s27_10t0 : CS := .ret (.cst (.bl false))
abbrev s27_10c : CT := (.not (.of (.call 20 [(.callk 15 [] [(.bi .tuple [(.revS (.var 7))]), (.var 0)] [1, 0]), (.var 9)])))
abbrev s27_10 : CS := .ife s27_10c [s27_10t0] []
abbrev s27_11 : CS := .set 10 (.cst (.int 0))
abbrev s27_12b0x : CE := (.call 14 [(.var 0), (.var 5), (.var 10)])
abbrev s27_12b0 : CS := .set 10 s27_12b0x
abbrev s27_12b : List CS := [s27_12b0]
abbrev s27_12i : CI := (.of (.var 7))
abbrev s27_12 : CS := .for (.nm 5) s27_12i s27_12b
abbrev s27_13t0 : CS := .ret (.cst (.bl false))
abbrev s27_13c : CT := (.or (.not (.of (.call 20 [(.var 10), (.var 9)]))) (.or (.not (.of (.call 20 [(.call 15 [(.var 0), (.tup [])]), (.cst (.int 0))]))) (.not (.of (.call 20 [(.call 15 [(.var 0), (.tup [(.var 4)])]), (.var 4)])))))
abbrev s27_13 : CS := .ife s27_13c [s27_13t0] []
abbrev s27_14b0x : CE := (.ixo (.var 3) (.call 24 [(.var 0), (.bin .mul (.idx (.var 3) (.var 4)) (.var 11))]))
abbrev s27_14b0 : CS := .set 9 s27_14b0x
abbrev s27_14b1t0 : CS := .ret (.cst (.bl false))
abbrev s27_14b1c : CT := (.or (.not (.of (.call 20 [(.call 16 [(.var 0), (.var 4), (.var 11)]), (.var 9)]))) (.not (.of (.call 20 [(.call 15 [(.var 0), (.bin .mul (.tup [(.var 4)]) (.var 11))]), (.var 9)]))))
abbrev s27_14b1 : CS := .ife s27_14b1c [s27_14b1t0] []
abbrev s27_14b : List CS := [s27_14b0, s27_14b1]
abbrev s27_14i : CI := (.rng (.cst (.int 0)) (.bin .add (.var 0) (.cst (.int 4))))
abbrev s27_14 : CS := .for (.nm 11) s27_14i s27_14b
abbrev s27_15 : CS := .ret (.cst (.bl true))
theorem b27_is : b27 = [s27_0, s27_1, s27_2, s27_3, s27_4, s27_5, s27_6, s27_7, s27_8, s27_9, s27_10, s27_11, s27_12, s27_13, s27_14, s27_15] := rfl
abbrev s28_0x : CE := (.lst [(.bin .pow (.cst (.int 10)) (.cst (.int 29))), (.bin .pow (.cst (.int 10)) (.cst (.int 14))), (.bin .pow (.cst (.int 10)) (.cst (.int 9))), (.bin .pow (.cst (.int 10)) (.cst (.int 7))), (.bin .pow (.cst (.int 10)) (.cst (.int 5))), (.bin .pow (.cst (.int 10)) (.cst (.int 4))), (.bin .pow (.cst (.int 10)) (.cst (.int 4))), (.cst (.int 1000)), (.cst (.int 1000)), (.cst (.int 100)), (.cst (.int 100)), (.cst (.int 100)), (.cst (.int 100)), (.cst (.int 100))])
abbrev s28_0 : CS := .set 1 s28_0x
abbrev s28_1t0 : CS := .ret (.cst (.int 20))
abbrev s28_1c : CT := (.of (.bin .gt (.var 0) (.bi .len [(.var 1)])))
abbrev s28_1 : CS := .ife s28_1c [s28_1t0] []
abbrev s28_2x : CE := (.idx (.var 1) (.bin .sub (.var 0) (.cst (.int 1))))
abbrev s28_2 : CS := .ret s28_2x
theorem b28_is : b28 = [s28_0, s28_1, s28_2] := rfl
abbrev s29_0 : CS := .set 4 (.tup [])
abbrev s29_1b0x : CE := (.bin .add (.var 4) (.bin .mul (.tup [(.idx (.var 1) (.var 5))]) (.bin .mod (.idx (.var 2) (.bin .add (.var 3) (.var 5))) (.cst (.int 4)))))
abbrev s29_1b0 : CS := .set 4 s29_1b0x
abbrev s29_1b : List CS := [s29_1b0]
abbrev s29_1i : CI := (.rng (.cst (.int 0)) (.cst (.int 4)))
abbrev s29_1 : CS := .for (.nm 5) s29_1i s29_1b
abbrev s29_2t0x : CE := (.bin .add (.var 4) (.bin .mul (.tup [(.idx (.var 1) (.bin .mod (.idx (.var 2) (.bin .add (.var 3) (.cst (.int 5)))) (.cst (.int 4))))]) (.var 0)))
abbrev s29_2t0 : CS := .set 4 s29_2t0x
abbrev s29_2c : CT := (.of (.bin .eq (.bin .mod (.idx (.var 2) (.bin .add (.var 3) (.cst (.int 4)))) (.cst (.int 4))) (.cst (.int 0))))
abbrev s29_2 : CS := .ife s29_2c [s29_2t0] []
abbrev s29_3 : CS := .ret (.call 24 [(.var 0), (.var 4)])
theorem b29_is : b29 = [s29_0, s29_1, s29_2, s29_3] := rfl
abbrev s30_0x : CE := (.cmp (.nm 15) (.rng (.cst (.int 0)) (.cst (.int 4))) .yes (.bin .add (.cst (.int 1)) (.bin .mod (.bi .int [(.call 21 [(.var 1), (.bin .add (.cst (.int 46)) (.bin .mul (.cst (.int 11)) (.var 15)))])]) (.call 28 [(.var 0)]))))
abbrev s30_0 : CS := .setC 2 s30_0x
abbrev s30_1x : CE := (.call 29 [(.var 0), (.var 2), (.var 1), (.cst (.int 22))])
abbrev s30_1 : CS := .set 3 s30_1x
abbrev s30_2x : CE := (.call 29 [(.var 0), (.var 2), (.var 1), (.cst (.int 28))])
abbrev s30_2 : CS := .set 4 s30_2x
abbrev s30_3x : CE := (.call 29 [(.var 0), (.var 2), (.var 1), (.cst (.int 34))])
abbrev s30_3 : CS := .set 5 s30_3x
abbrev s30_4 : CS := .set 6 (.call 23 [(.var 0), (.var 3)])
abbrev s30_5 : CS := .set 7 (.call 23 [(.var 0), (.var 4)])
abbrev s30_6 : CS := .set 8 (.call 23 [(.var 0), (.var 5)])
abbrev s30_7x : CE := (.call 23 [(.var 0), (.call 24 [(.var 0), (.bin .add (.var 3) (.var 4))])])
abbrev s30_7 : CS := .set 9 s30_7x
abbrev s30_8t0 : CS := .ret (.cst (.bl false))
abbrev s30_8c : CT := (.or (.not (.of (.call 20 [(.call 14 [(.var 0), (.var 6), (.var 7)]), (.var 9)]))) (.not (.of (.call 20 [(.call 14 [(.var 0), (.var 7), (.var 6)]), (.var 9)]))))
abbrev s30_8 : CS := .ife s30_8c [s30_8t0] []
abbrev s30_9x : CE := (.call 23 [(.var 0), (.call 24 [(.var 0), (.bin .add (.bin .add (.var 3) (.var 4)) (.var 5))])])
abbrev s30_9 : CS := .set 10 s30_9x
abbrev s30_10t0 : CS := .ret (.cst (.bl false))
abbrev s30_10c : CT := (.or (.not (.of (.call 20 [(.call 14 [(.var 0), (.call 14 [(.var 0), (.var 6), (.var 7)]), (.var 8)]), (.var 10)]))) (.not (.of (.call 20 [(.call 14 [(.var 0), (.var 6), (.call 14 [(.var 0), (.var 7), (.var 8)])]), (.var 10)]))))
abbrev s30_10 : CS := .ife s30_10c [s30_10t0] []
abbrev s30_11t0 : CS := .ret (.cst (.bl false))
abbrev s30_11c : CT := (.or (.not (.of (.call 20 [(.call 15 [(.var 0), (.tup [(.var 8), (.var 6), (.cst (.int 0)), (.var 7)])]), (.var 10)]))) (.not (.of (.call 20 [(.call 15 [(.var 0), (.tup [(.var 7), (.var 8), (.var 6)])]), (.var 10)]))))
abbrev s30_11 : CS := .ife s30_11c [s30_11t0] []
abbrev s30_12x : CE := (.call 23 [(.var 0), (.call 24 [(.var 0), (.bin .add (.call 25 [(.var 0), (.var 3)]) (.var 4))])])
abbrev s30_12 : CS := .set 11 s30_12x
abbrev s30_13t0 : CS := .ret (.cst (.bl false))
abbrev s30_13c : CT := (.not (.of (.call 20 [(.callk 14 [] [(.bin .add (.var 6) (.cst (.int 1))), (.var 7), (.var 0)] [2, 0, 1]), (.var 11)])))
abbrev s30_13 : CS := .ife s30_13c [s30_13t0] []
abbrev s30_14t0 : CS := .ret (.cst (.bl false))
abbrev s30_14c : CT := (.or (.not (.of (.call 20 [(.call 14 [(.var 0), (.var 6), (.cst (.int 0))]), (.var 6)]))) (.not (.of (.call 20 [(.call 14 [(.var 0), (.cst (.int 0)), (.var 7)]), (.var 7)]))))
abbrev s30_14 : CS := .ife s30_14c [s30_14t0] []
abbrev s30_15x : CE := (.call 23 [(.var 0), (.call 24 [(.var 0), (.bin .mul (.var 4) (.var 0))])])
abbrev s30_15 : CS := .set 11 s30_15x
abbrev s30_16x : CE := (.bin .add (.var 0) (.call 21 [(.var 1), (.cst (.int 90))]))
abbrev s30_16 : CS := .set 12 s30_16x
abbrev s30_17t0 : CS := .ret (.cst (.bl false))
abbrev s30_17c : CT := (.or (.not (.of (.call 20 [(.call 16 [(.var 0), (.var 7), (.var 12)]), (.var 11)]))) (.not (.of (.call 20 [(.callk 16 [] [(.var 0), (.var 7), (.var 0)] [2, 1, 0]), (.var 11)]))))
abbrev s30_17 : CS := .ife s30_17c [s30_17t0] []
abbrev s30_18x : CE := (.bin .mod (.idx (.var 1) (.cst (.int 40))) (.bin .add (.var 0) (.cst (.int 2))))
abbrev s30_18 : CS := .set 13 s30_18x
abbrev s30_19x : CE := (.call 23 [(.var 0), (.call 24 [(.var 0), (.bin .mul (.var 5) (.var 13))])])
abbrev s30_19 : CS := .set 11 s30_19x
abbrev s30_20t0 : CS := .ret (.cst (.bl false))
abbrev s30_20c : CT := (.not (.of (.call 20 [(.call 16 [(.var 0), (.var 8), (.var 13)]), (.var 11)])))
abbrev s30_20 : CS := .ife s30_20c [s30_20t0] []
abbrev s30_21x : CE := (.call 7 [(.var 0), (.bin .add (.cst (.int 1)) (.bin .mod (.idx (.var 1) (.cst (.int 41))) (.cst (.int 99))))])
abbrev s30_21 : CS := .set 14 s30_21x
abbrev s30_22x : CE := (.and (.bin .eq (.bin .lt (.var 9) (.var 14)) (.and (.bin .lt (.var 6) (.var 14)) (.bin .lt (.var 7) (.var 14)))) (.bin .eq (.var 14) (.call 22 [(.bin .add (.bin .add (.var 0) (.cst (.int 1))) (.bin .mod (.idx (.var 1) (.cst (.int 41))) (.cst (.int 99)))), (.var 0)])))
abbrev s30_22 : CS := .ret s30_22x
theorem b30_is : b30 = [s30_0, s30_1, s30_2, s30_3, s30_4, s30_5, s30_6, s30_7, s30_8, s30_9, s30_10, s30_11, s30_12, s30_13, s30_14, s30_15, s30_16, s30_17, s30_18, s30_19, s30_20, s30_21, s30_22] := rfl
abbrev s31_0t0x : CE := (.call 14 [(.idx (.var 1) (.cst (.int 0))), (.idx (.var 1) (.cst (.int 1))), (.idx (.var 1) (.cst (.int 2)))])
abbrev s31_0t0 : CS := .ret s31_0t0x
abbrev s31_0c : CT := (.of (.bin .eq (.var 0) (.cst (.str (L "joined")))))
abbrev s31_0 : CS := .ife s31_0c [s31_0t0] []
abbrev s31_1t0x : CE := (.call 15 [(.idx (.var 1) (.cst (.int 0))), (.idx (.var 1) (.cst (.int 1)))])
abbrev s31_1t0 : CS := .ret s31_1t0x
abbrev s31_1c : CT := (.of (.bin .eq (.var 0) (.cst (.str (L "joined_all")))))
abbrev s31_1 : CS := .ife s31_1c [s31_1t0] []
abbrev s31_2x : CE := (.call 16 [(.idx (.var 1) (.cst (.int 0))), (.idx (.var 1) (.cst (.int 1))), (.idx (.var 1) (.cst (.int 2)))])
abbrev s31_2 : CS := .ret s31_2x
theorem b31_is : b31 = [s31_0, s31_1, s31_2] := rfl
abbrev s32_0b0 : CS := .ex (.call 31 [(.var 0), (.var 1)])
abbrev s32_0b : List CS := [s32_0b0]
abbrev s32_0h : List CH := [(.mk 2 (some 2) [(.ife (.not (.of (.call 20 [(.exf 2 1), (.un .neg (.cst (.int 1)))]))) [(.ret (.cst (.str (L "at"))))] []), (.ret (.exf 2 0))])]
abbrev s32_0 : CS := .try s32_0b s32_0h
abbrev s32_1 : CS := .ret (.cst (.str (L "let")))
theorem b32_is : b32 = [s32_0, s32_1] := rfl
abbrev s34_0x : CE := (.call 19 [(.var 0), (.cst (.int 102))])
abbrev s34_0 : CS := .set 1 s34_0x
abbrev s34_1x : CE := (.lst [(.tup [(.cst (.int 1)), (.cst (.int 12))]), (.tup [(.cst (.int 2)), (.cst (.int 5))]), (.tup [(.cst (.int 3)), (.cst (.int 4))]), (.tup [(.cst (.int 4)), (.cst (.int 3))]), (.tup [(.cst (.int 5)), (.cst (.int 2))]), (.tup [(.cst (.int 2)), (.cst (.int 6))]), (.tup [(.cst (.int 6)), (.cst (.int 2))]), (.tup [(.cst (.int 9)), (.cst (.int 1))])])
abbrev s34_1 : CS := .set 2 s34_1x
abbrev s34_2x : CE := (.idx (.var 2) (.bin .mod (.idx (.var 1) (.cst (.int 0))) (.cst (.int 8))))
abbrev s34_2 : CS := .set 3 s34_2x
abbrev s34_3t0 : CS := .ret (.cst (.bl false))
abbrev s34_3c : CT := (.not (.of (.call 27 [(.idx (.var 3) (.cst (.int 0))), (.idx (.var 3) (.cst (.int 1))), (.var 1)])))
abbrev s34_3 : CS := .ife s34_3c [s34_3t0] []
abbrev s34_4x : CE := (.bin .add (.cst (.int 1)) (.bin .mod (.idx (.var 1) (.cst (.int 1))) (.cst (.int 40))))
abbrev s34_4 : CS := .set 4 s34_4x
abbrev s34_5t0x : CE := (.bin .add (.cst (.int 1)) (.bin .mod (.idx (.var 1) (.cst (.int 1))) (.cst (.int 8))))
abbrev s34_5t0 : CS := .set 4 s34_5t0x
abbrev s34_5c : CT := (.of (.bin .gt (.bin .mod (.idx (.var 1) (.cst (.int 2))) (.cst (.int 4))) (.cst (.int 0))))
abbrev s34_5 : CS := .ife s34_5c [s34_5t0] []
abbrev s34_6t0 : CS := .ret (.cst (.bl false))
abbrev s34_6c : CT := (.not (.of (.call 30 [(.var 4), (.var 1)])))
abbrev s34_6 : CS := .ife s34_6c [s34_6t0] []
abbrev s34_7x : CE := (.lst [(.cst .non), (.cst (.str (L "3"))), (.lst []), (.un .neg (.cst (.int 1))), (.tup [(.cst (.int 2))]), (.cst (.bl false)), (.cst (.bl true)), (.un .neg (.bin .pow (.cst (.int 10)) (.cst (.int 22))))])
abbrev s34_7 : CS := .set 5 s34_7x
abbrev s34_8x : CE := (.call 33 [(.idx (.var 5) (.bin .mod (.idx (.var 1) (.cst (.int 3))) (.cst (.int 8)))), (.bin .add (.cst (.int 1)) (.bin .mod (.idx (.var 1) (.cst (.int 4))) (.cst (.int 7))))])
abbrev s34_8 : CS := .ret s34_8x
theorem b34_is : b34 = [s34_0, s34_1, s34_2, s34_3, s34_4, s34_5, s34_6, s34_7, s34_8] := rfl
end Vk19_whole_joining
end
section
set_option Elab.async false
set_option linter.all false
set_option maxRecDepth 100000
set_option maxHeartbeats 2000000
namespace Vk19_whole_joining
open PySem PySem.Spec Ev
theorem r0 (n : Nat) (hot : Bool) (d : D) (h : d.isRng = false) : P.run (n + 1) hot 0 [d] = .ok (.bl (isInt d)) := by
  have hf : P.fn 0 = some ⟨1, 1, b0⟩ := rfl
  rw [run_1 hf rfl]
  simp [q_var, q_cst, q_bin, q_un, q_and, q_or, q_ife, q_tup, q_lst, q_idx, q_slc, q_call, q_callk, q_bi, q_isi, q_rngL, q_rngO, q_cmp, q_exf, q_exi, q_exv, q_chain, q_join, q_fstr, q_tget, q_tin, q_glb, q_bv, t_yes, t_and, t_or, t_not, t_of, o_none, o_some, es_nil, es_cons, bs_nil, bs_cons, i_of, i_rng, i_enum, i_zip, i_rev, s_pass', s_set', s_setC', s_setOwn', s_unp', s_par', s_app', s_ex', s_ret', s_retO', s_retN', s_ife', s_for', s_whl', s_raise', s_try', s_brk', s_cont', ss_nil', ss_cons', h_nil, h_some, h_none, bor, slotE, slotB, isiD, D.isTy, D.truth, unD, binD, guardL, ownArg, isOwn, biD, itHot, BI.hot, tgOwn, ownIt, itemsD, seqD, D.noL, D.isRng, b0, h]
  cases d <;> simp_all [D.isTy, isInt, D.isRng]
theorem r1 (n : Nat) (hot : Bool) (d : D) (h : d.isRng = false) : P.run (n + 2) hot 1 [d] = .ok (.bl (isNum d)) := by
  have hf : P.fn 1 = some ⟨1, 1, b1⟩ := rfl
  rw [run_1 hf rfl]
  simp [q_var, q_cst, q_bin, q_un, q_and, q_or, q_ife, q_tup, q_lst, q_idx, q_slc, q_call, q_callk, q_bi, q_isi, q_rngL, q_rngO, q_cmp, q_exf, q_exi, q_exv, q_chain, q_join, q_fstr, q_tget, q_tin, q_glb, q_bv, t_yes, t_and, t_or, t_not, t_of, o_none, o_some, es_nil, es_cons, bs_nil, bs_cons, i_of, i_rng, i_enum, i_zip, i_rev, s_pass', s_set', s_setC', s_setOwn', s_unp', s_par', s_app', s_ex', s_ret', s_retO', s_retN', s_ife', s_for', s_whl', s_raise', s_try', s_brk', s_cont', ss_nil', ss_cons', h_nil, h_some, h_none, bor, slotE, slotB, isiD, D.isTy, D.truth, unD, binD, guardL, ownArg, isOwn, biD, itHot, BI.hot, tgOwn, ownIt, itemsD, seqD, D.noL, D.isRng, b1, r0 n hot d h]
  cases d <;> simp [isInt, isNum]
theorem r2 (n : Nat) (hot : Bool) (d : D) (h : d.isRng = false) : P.run (n + 2) hot 2 [d] = .ok (.bl (isNat d)) := by
  have hf : P.fn 2 = some ⟨1, 1, b2⟩ := rfl
  rw [run_1 hf rfl]
  simp [q_var, q_cst, q_bin, q_un, q_and, q_or, q_ife, q_tup, q_lst, q_idx, q_slc, q_call, q_callk, q_bi, q_isi, q_rngL, q_rngO, q_cmp, q_exf, q_exi, q_exv, q_chain, q_join, q_fstr, q_tget, q_tin, q_glb, q_bv, t_yes, t_and, t_or, t_not, t_of, o_none, o_some, es_nil, es_cons, bs_nil, bs_cons, i_of, i_rng, i_enum, i_zip, i_rev, s_pass', s_set', s_setC', s_setOwn', s_unp', s_par', s_app', s_ex', s_ret', s_retO', s_retN', s_ife', s_for', s_whl', s_raise', s_try', s_brk', s_cont', ss_nil', ss_cons', h_nil, h_some, h_none, bor, slotE, slotB, isiD, D.isTy, D.truth, unD, binD, guardL, ownArg, isOwn, biD, itHot, BI.hot, tgOwn, ownIt, itemsD, seqD, D.noL, D.isRng, b2, r0 n hot d h]
  cases d <;> simp [isInt, isNat]
theorem r4 (n : Nat) (b : Bool) (s : List Nat) : P.run (n + 1) false 4 [.bl b, .str s] = if b then .ok .non else .err 2 [.str s, .int (-1)] := by
  have hf : P.fn 4 = some ⟨2, 2, b4⟩ := rfl
  rw [run_1 hf rfl]
  cases b <;> simp [q_var, q_cst, q_bin, q_un, q_and, q_or, q_ife, q_tup, q_lst, q_idx, q_slc, q_call, q_callk, q_bi, q_isi, q_rngL, q_rngO, q_cmp, q_exf, q_exi, q_exv, q_chain, q_join, q_fstr, q_tget, q_tin, q_glb, q_bv, t_yes, t_and, t_or, t_not, t_of, o_none, o_some, es_nil, es_cons, bs_nil, bs_cons, i_of, i_rng, i_enum, i_zip, i_rev, s_pass', s_set', s_setC', s_setOwn', s_unp', s_par', s_app', s_ex', s_ret', s_retO', s_retN', s_ife', s_for', s_whl', s_raise', s_try', s_brk', s_cont', ss_nil', ss_cons', h_nil, h_some, h_none, bor, slotE, slotB, isiD, D.isTy, D.truth, unD, binD, guardL, ownArg, isOwn, biD, itHot, BI.hot, tgOwn, ownIt, itemsD, seqD, D.noL, D.isRng, b4]
abbrev tI (ns : List Int) : D := .tup (ns.map .int)
def natL (ns : List Int) : Bool := ns.all fun x => decide (1 ≤ x)
def descZ (ns : List Int) : Bool := (ns.zip (ns.drop 1)).all fun p => decide (p.2 ≤ p.1)
def rowI (ns : List Int) : Bool := natL ns && descZ ns
def isRow : D → Bool
  | .tup xs => (match intsD xs with
    | some ns => rowI ns
    | none => false)
  | _ => false
@[simp] theorem intsD_map : ∀ ns : List Int, intsD (ns.map .int) = some ns
  | [] => rfl
  | x :: r => by simp [intsD, intsD_map r]
theorem isRow_tI (ns : List Int) : isRow (tI ns) = rowI ns := by simp [isRow]
theorem nat_ints : ∀ {xs : List D}, xs.all isNat = true → ∃ ns : List Int, xs = ns.map .int ∧ natL ns = true
  | [], _ => ⟨[], rfl, rfl⟩
  | x :: xs, h => by
    simp only [List.all_cons, Bool.and_eq_true] at h
    obtain ⟨ns, rfl, h2⟩ := nat_ints h.2
    cases x <;> simp [isNat] at h
    rename_i i
    exact ⟨i :: ns, rfl, by simp [natL] at h2 ⊢; exact ⟨h.1, h2⟩⟩
theorem row_nat : ∀ {xs : List D}, xs.all isNat = false → isRow (.tup xs) = false := fun {xs} h => by
  cases e : intsD xs with
  | none => simp [isRow, e]
  | some ns =>
    have key : ∀ {xs : List D} {ns : List Int}, intsD xs = some ns → xs.all isNat = natL ns := fun {xs} => by
      induction xs with
      | nil => intro ns e; simp [intsD] at e; subst e; rfl
      | cons x xs ih =>
        intro ns e
        cases x <;> simp [intsD] at e
        obtain ⟨r, h1, rfl⟩ := e
        simp [isNat, natL, ih h1]
    rw [key e] at h
    simp [isRow, e, rowI, h]
abbrev s8_0t0 : CS := .ret (.cst (.bl false))
abbrev s8_0c : CT := (.or (.not (.of (.isi (.var 0) .tuple))) (.not (.of (.bi .all [(.cmp (.nm 1) (.of (.var 0)) .yes (.call 2 [(.var 1)]))]))))
abbrev s8_0 : CS := .ife s8_0c [s8_0t0] []
abbrev s8_1x : CE := (.bi .all [(.cmp (.tp [1, 2]) (.zip (.var 0) (.slc (.var 0) (some (.cst (.int 1))) none)) .yes (.bin .ge (.var 1) (.var 2)))])
abbrev s8_1 : CS := .ret s8_1x
theorem b8_is : b8 = [s8_0, s8_1] := rfl
section
variable {call : Bool → Nat → List D → R D} {sb : Nat → Nat → Bool} {gl : Nat → D}
abbrev T0 (call : Bool → Nat → List D → R D) (sb : Nat → Nat → Bool) (gl : Nat → D) : Tb := ⟨false, call, sb, gl⟩
theorem l1 {xs : List D} {a b : Slot} (hc : ∀ x ∈ xs, call false 2 [x] = .ok (.bl (isNat x))) : evE (T0 call sb gl) (.bi .all [(.cmp (.nm 1) (.of (.var 0)) .yes (.call 2 [(.var 1)]))]) [.val (.tup xs), .none, b] = .ok (.bl (xs.all isNat)) :=
  all_cmpD rfl rfl rfl fun x hx => turn_of rfl (call_is rfl rfl (hc x hx))
theorem zip_ints (ns : List Int) : zipD (tI ns) (.tup (cutL (ns.map .int) (some 1) none)) = .ok ((ns.zip (ns.drop 1)).map fun p => .tpw [.int p.1, .int p.2]) := by
  rw [cutL_map]
  have e : cutL ns (some 1) none = ns.drop 1 := by
    unfold cutL sixD
    cases ns with
    | nil => rfl
    | cons x r => simp
  rw [e]
  simp only [zipD]
  rw [List.zip_map, List.map_map]
  rfl
theorem l2 {ns : List Int} {b : Slot} : evE (T0 call sb gl) s8_1x [.val (tI ns), .none, .none] = .ok (.bl (descZ ns)) := by
  refine all_cmp (l := ns.zip (ns.drop 1)) (F := fun p => .tpw [.int p.1, .int p.2]) (p := fun p => decide (p.2 ≤ p.1)) rfl rfl ?_ fun p _ => turn_of rfl rfl
  rw [i_zip]
  rw [vr rfl, ok_bind, bv (slc_tup rfl rfl rfl), ok_bind]
  exact zip_ints ns
theorem r8' {d : D} (hp : d.plain = true) (hc : ∀ x : D, x.plain = true → call false 2 [x] = .ok (.bl (isNat x))) : (evSs (T0 call sb gl) b8 [.val d, .none, .none]).fin = .ok (.bl (isRow d)) := by
  rw [b8_is]
  have no : isRow d = false → evT (T0 call sb gl) s8_0c [.val d, .none, .none] = .ok true → (evSs (T0 call sb gl) [s8_0, s8_1] [.val d, .none, .none]).fin = .ok (.bl (isRow d)) := fun e h => by
    rw [ss_cons', ife_yes h, e]
    rfl
  cases d with
  | tup xs =>
    have hx := plainL_mem (show D.plainL xs = true by simpa [D.plain] using hp)
    have e1 := l1 (sb := sb) (gl := gl) (a := .none) (b := .none) fun x m => hc x (hx x m)
    have e2 : evT (T0 call sb gl) s8_0c [.val (.tup xs), .none, .none] = .ok (!xs.all isNat) := by
      rw [t_or, t_not, t_of]
      show (evT (T0 call sb gl) (.not (.of _)) _) = _
      rw [t_not, t_of]
      show ((evE _ _ _ >>= fun x => x.truth) >>= fun x => pure !x) = _
      rw [e1]
      rfl
    cases hn : xs.all isNat with
    | false => exact no (row_nat hn) (by rw [e2, hn]; rfl)
    | true =>
      obtain ⟨ns, rfl, h2⟩ := nat_ints hn
      rw [pass_if (by rw [e2, hn]; rfl), ret_is (l2 (b := .none))]
      rw [isRow_tI, rowI, h2, Bool.true_and]
  | _ => exact no rfl (by first | (simp [D.plain] at hp; done) | simp [q_var, q_cst, q_bin, q_un, q_and, q_or, q_ife, q_tup, q_lst, q_idx, q_slc, q_call, q_callk, q_bi, q_isi, q_rngL, q_rngO, q_cmp, q_exf, q_exi, q_exv, q_chain, q_join, q_fstr, q_tget, q_tin, q_glb, q_bv, t_yes, t_and, t_or, t_not, t_of, o_none, o_some, es_nil, es_cons, bs_nil, bs_cons, i_of, i_rng, i_enum, i_zip, i_rev, s_pass', s_set', s_setC', s_setOwn', s_unp', s_par', s_app', s_ex', s_ret', s_retO', s_retN', s_ife', s_for', s_whl', s_raise', s_try', s_brk', s_cont', ss_nil', ss_cons', h_nil, h_some, h_none, bor, slotE, slotB, isiD, D.isTy, D.truth, unD, binD, guardL, ownArg, isOwn, biD, itHot, BI.hot, tgOwn, ownIt, itemsD, seqD, D.noL, D.isRng])
end
theorem r8 (n : Nat) (d : D) (h : d.plain = true) : P.run (n + 3) false 8 [d] = .ok (.bl (isRow d)) := by
  have hf : P.fn 8 = some ⟨1, 3, b8⟩ := rfl
  rw [run_1 hf rfl]
  exact r8' h fun x hx => r2 n false x (plain_rng hx)
abbrev nu (w : List Nat) : D := .str w
def _root_.Ev.CE.isVarB : CE → Bool
  | .var _ => true
  | _ => false
abbrev bad (w : List Nat) : R D := .err 2 [.str w, .int (-1)]
theorem rowI_plain (ns : List Int) : (tI ns).plain = true := tup_plain (ints_plain ns)
section
variable {call : Bool → Nat → List D → R D} {sb : Nat → Nat → Bool} {gl : Nat → D} {ρ : Rho}
theorem ask {e : CE} {w : List Nat} {b : Bool} {r : List CS} (he : evE (T0 call sb gl) e ρ = .ok (.bl b)) (h2 : ∀ b : Bool, call false 4 [.bl b, .str w] = if b then .ok .non else bad w) (hv : e.isVarB = false) :
    evSs (T0 call sb gl) (.ex (.call 4 [e, .cst (.str w)]) :: r) ρ = if b then evSs (T0 call sb gl) r ρ else .err 2 [.str w, .int (-1)] ρ := by
  have ho : [e, .cst (.str w)].any (ownArg ρ) = false := by
    cases e <;> first | rfl | cases hv
  have e1 : evE (T0 call sb gl) (.call 4 [e, .cst (.str w)]) ρ = if b then .ok .non else bad w := call_is ho (bs_two he rfl) (h2 b)
  rw [ss_cons', s_ex', e1]
  cases b <;> rfl
end
end Vk19_whole_joining
end
section
set_option Elab.async false
set_option linter.all false
set_option maxRecDepth 100000
namespace Nr
def ch : Nat → Nat → Nat
  | _, 0 => 1
  | 0, _ + 1 => 0
  | n + 1, k + 1 => ch n k + ch n (k + 1)
theorem ch_0 (n : Nat) : ch n 0 = 1 := by cases n <;> rfl
theorem ch_s (n k : Nat) : ch (n + 1) (k + 1) = ch n k + ch n (k + 1) := rfl
theorem ch_gt : ∀ {n k : Nat}, n < k → ch n k = 0
  | 0, k + 1, _ => rfl
  | n + 1, k + 1, h => by rw [ch_s, ch_gt (n := n) (k := k) (by omega), ch_gt (n := n) (k := k + 1) (by omega)]
theorem ch_nn : ∀ n : Nat, ch n n = 1
  | 0 => rfl
  | n + 1 => by rw [ch_s, ch_nn n, ch_gt (Nat.lt_succ_self n)]
theorem ch_pos : ∀ {n k : Nat}, k ≤ n → 1 ≤ ch n k
  | n, 0, _ => by rw [ch_0]; exact Nat.le_refl 1
  | n + 1, k + 1, h => by rw [ch_s]; have := ch_pos (n := n) (k := k) (by omega); omega
theorem ch_step : ∀ n k : Nat, (k + 1) * ch n (k + 1) = (n - k) * ch n k
  | 0, k => by
    rw [ch_gt (n := 0) (k := k + 1) (by omega)]
    simp
  | n + 1, 0 => by
    have h := ch_step n 0
    rw [ch_s]
    simp only [ch_0, Nat.zero_add, Nat.one_mul, Nat.sub_zero, Nat.mul_one] at h ⊢
    omega
  | n + 1, k + 1 => by
    have h1 := ch_step n (k + 1)
    have h2 := ch_step n k
    rw [ch_s n (k + 1), ch_s n k]
    by_cases hk : k + 1 ≤ n
    · have e : n - k = (n - (k + 1)) + 1 := by omega
      have e2 : n + 1 - (k + 1) = (n - (k + 1)) + 1 := by omega
      rw [e] at h2
      rw [e2]
      generalize n - (k + 1) = d at h1 h2 ⊢
      generalize ch n k = a at h1 h2 ⊢
      generalize ch n (k + 1) = b at h1 h2 ⊢
      generalize ch n (k + 1 + 1) = c at h1 h2 ⊢
      have r1 : (k + 1 + 1) * (b + c) = (k + 1) * b + b + (k + 1 + 1) * c := by rw [Nat.mul_add, Nat.add_mul (k + 1) 1 b, Nat.one_mul]
      have r2 : (d + 1) * (a + b) = (d + 1) * a + (d * b + b) := by rw [Nat.mul_add, Nat.add_mul d 1 b, Nat.one_mul]
      rw [r1, r2, h1, h2]
      omega
    · rw [ch_gt (n := n) (k := k + 1 + 1) (by omega)]
      have e2 : n + 1 - (k + 1) = 0 ∨ n = k := by omega
      rcases e2 with e2 | e2
      · rw [e2, ch_gt (n := n) (k := k + 1) (by omega)]
        simp
      · subst e2
        rw [ch_gt (n := n) (k := n + 1) (by omega)]
        simp
theorem ch_sym : ∀ {n k : Nat}, k ≤ n → ch n k = ch n (n - k)
  | n, 0, _ => by rw [ch_0, Nat.sub_zero, ch_nn]
  | n + 1, k + 1, h => by
    by_cases hk : k = n
    · subst hk
      rw [Nat.sub_self, ch_0, ch_nn]
    · have e : n + 1 - (k + 1) = (n - (k + 1)) + 1 := by omega
      rw [e, ch_s, ch_s, ch_sym (n := n) (k := k) (by omega), ch_sym (n := n) (k := k + 1) (by omega)]
      rw [show n - k = n - (k + 1) + 1 by omega]
      omega
theorem ch_le_pow : ∀ n k : Nat, ch n k ≤ (n + 1) ^ k
  | n, 0 => by rw [ch_0, Nat.pow_zero]; exact Nat.le_refl 1
  | n, k + 1 => by
    have h1 := ch_step n k
    have h2 := ch_le_pow n k
    have h3 : ch n (k + 1) ≤ (n - k) * ch n k := by rw [← h1]; exact Nat.le_mul_of_pos_left _ (by omega)
    have h4 : (n - k) * ch n k ≤ (n + 1) * (n + 1) ^ k := Nat.mul_le_mul (by omega) h2
    rw [Nat.pow_succ, Nat.mul_comm ((n + 1) ^ k)]
    omega
def bel (p m : Nat) : Nat := ch (m + p - 1) p
theorem bel_z (m : Nat) : bel 0 m = 1 := ch_0 _
theorem bel_0 {p : Nat} (h : 1 ≤ p) : bel p 0 = 0 := ch_gt (by omega)
theorem bel_1 (p : Nat) : bel p 1 = 1 := by
  unfold bel
  rw [show 1 + p - 1 = p by omega, ch_nn]
theorem bel_s {p : Nat} (h : 1 ≤ p) (m : Nat) : bel p (m + 1) = bel p m + bel (p - 1) (m + 1) := by
  unfold bel
  obtain ⟨q, rfl⟩ : ∃ q, p = q + 1 := ⟨p - 1, by omega⟩
  rw [show m + 1 + (q + 1) - 1 = (m + q) + 1 by omega, ch_s, show m + (q + 1) - 1 = m + q by omega, show q + 1 - 1 = q by omega, show m + 1 + q - 1 = m + q by omega]
  omega
theorem bel_pos {p m : Nat} (h : 1 ≤ m) : 1 ≤ bel p m := ch_pos (by omega)
theorem bel_lt {p : Nat} (h : 1 ≤ p) (m : Nat) : bel p m < bel p (m + 1) := by
  rw [bel_s h]
  have := bel_pos (p := p - 1) (m := m + 1) (by omega)
  omega
theorem bel_mono {p : Nat} (h : 1 ≤ p) {a b : Nat} (hab : a ≤ b) : bel p a ≤ bel p b := by
  induction hab with
  | refl => exact Nat.le_refl _
  | step _ ih => exact Nat.le_trans ih (Nat.le_of_lt (bel_lt h _))
theorem bel_ge {p : Nat} (h : 1 ≤ p) : ∀ m : Nat, m ≤ bel p m
  | 0 => Nat.zero_le _
  | m + 1 => by
    have := bel_ge h m
    have := bel_lt h m
    omega
inductive Rwn : Nat → List Nat → Prop
  | nil (b : Nat) : Rwn b []
  | cons {b m : Nat} {r : List Nat} : 1 ≤ m → m ≤ b → Rwn m r → Rwn b (m :: r)
theorem Rwn.mono {b c : Nat} {r : List Nat} (h : Rwn b r) (hb : b ≤ c) : Rwn c r := by
  cases h with
  | nil => exact .nil c
  | cons h1 h2 h3 => exact .cons h1 (Nat.le_trans h2 hb) h3
def num : Nat → List Nat → Nat
  | _, [] => 0
  | p, m :: r => bel p m + num (p - 1) r
theorem num_lt : ∀ {p b : Nat} {r : List Nat}, Rwn b r → r.length ≤ p → num p r < bel p (b + 1)
  | p, b, [], _, _ => bel_pos (by omega)
  | p, b, m :: r, .cons h1 h2 h3, hl => by
    have hp : 1 ≤ p := by simp at hl; omega
    have ih := num_lt (p := p - 1) h3 (by simp at hl; omega)
    have e := bel_s hp m
    have mo := bel_mono hp (a := m + 1) (b := b + 1) (by omega)
    show bel p m + num (p - 1) r < _
    omega
def IsG (p n a : Nat) : Prop := bel p a ≤ n ∧ n < bel p (a + 1)
theorem IsG.uniq {p n a b : Nat} (hp : 1 ≤ p) (ha : IsG p n a) (hb : IsG p n b) : a = b := by
  rcases Nat.lt_trichotomy a b with h | h | h
  · have := bel_mono hp (a := a + 1) (b := b) h
    have := ha.2; have := hb.1; omega
  · exact h
  · have := bel_mono hp (a := b + 1) (b := a) h
    have := hb.2; have := ha.1; omega
inductive Gr : Nat → Nat → List Nat → Prop
  | nil (p : Nat) : Gr p 0 []
  | cons {p n a : Nat} {r : List Nat} : 1 ≤ n → IsG p n a → Gr (p - 1) (n - bel p a) r → Gr p n (a :: r)
theorem IsG.pos {p n a : Nat} (hp : 1 ≤ p) (hn : 1 ≤ n) (h : IsG p n a) : 1 ≤ a := by
  cases a with
  | zero => have := h.2; rw [bel_1] at this; omega
  | succ a => omega
theorem IsG.le {p n a : Nat} (hp : 1 ≤ p) (h : IsG p n a) : a ≤ n := Nat.le_trans (bel_ge hp a) h.1
theorem IsG.left {p n a : Nat} (hp : 1 ≤ p) (h : IsG p n a) : n - bel p a < bel (p - 1) (a + 1) := by
  have e := bel_s hp a
  have := h.1; have := h.2
  omega
theorem Gr.row : ∀ {p n : Nat} {r : List Nat} {b : Nat}, Gr p n r → n < bel p (b + 1) → Rwn b r ∧ r.length ≤ p
  | p, _, _, b, .nil _, _ => ⟨.nil b, Nat.zero_le _⟩
  | p, n, _, b, .cons (a := a) (r := r) hn hg hr, hb => by
    have hp : 1 ≤ p := by
      cases p with
      | zero => rw [bel_z] at hb; omega
      | succ p => omega
    obtain ⟨h1, h2⟩ := Gr.row (b := a) hr (hg.left hp)
    refine ⟨.cons (hg.pos hp hn) ?_ h1, by simp; omega⟩
    rcases Nat.lt_or_ge b a with h | h
    · have := bel_mono hp (a := b + 1) (b := a) h
      have := hg.1; omega
    · exact h
theorem Gr.num : ∀ {p n : Nat} {r : List Nat}, Gr p n r → num p r = n
  | p, _, _, .nil _ => rfl
  | p, n, _, .cons (a := a) (r := r) hn hg hr => by
    have := Gr.num hr
    have h1 := hg.1
    show bel p a + Nr.num (p - 1) r = n
    omega
theorem gr_of : ∀ {p b : Nat} {r : List Nat}, Rwn b r → r.length ≤ p → Gr p (num p r) r
  | p, b, [], _, _ => .nil p
  | p, b, m :: r, .cons h1 h2 h3, hl => by
    have hp : 1 ≤ p := by simp at hl; omega
    have lt := num_lt (p := p - 1) h3 (by simp at hl; omega)
    have e := bel_s hp m
    have po := bel_pos (p := p) h1
    refine .cons (by show 1 ≤ bel p m + num (p - 1) r; omega) ⟨by show bel p m ≤ bel p m + num (p - 1) r; omega, by show bel p m + num (p - 1) r < _; omega⟩ ?_
    have : bel p m + num (p - 1) r - bel p m = num (p - 1) r := by omega
    show Gr (p - 1) (bel p m + num (p - 1) r - bel p m) r
    rw [this]
    exact gr_of h3 (by simp at hl; omega)
theorem Gr.uniq : ∀ {p n : Nat} {r s : List Nat}, (n = 0 ∨ 1 ≤ p) → Gr p n r → Gr p n s → r = s
  | p, _, _, _, _, .nil _, .nil _ => rfl
  | p, _, _, _, _, .nil _, .cons h _ _ => by omega
  | p, _, _, _, _, .cons h _ _, .nil _ => by omega
  | p, n, _, _, hp0, .cons (a := a) (r := r) hn hg hr, .cons (a := a') (r := r') hn' hg' hr' => by
    have hp : 1 ≤ p := by omega
    have e := hg.uniq hp hg'
    subst e
    have := hg.left hp
    have e2 := Gr.uniq (p := p - 1) (by
      rcases Nat.eq_zero_or_pos (p - 1) with z | z
      · rw [z, bel_z] at this; exact .inl (by omega)
      · exact .inr z) hr hr'
    rw [e2]
def aft (p : Nat) (r : List Nat) : List Nat := if r.length < p then r ++ [1] else (r.filter fun a => decide (r.getLast?.getD 0 < a)) ++ [r.getLast?.getD 0 + 1]
theorem num_app : ∀ (p : Nat) (r s : List Nat), num p (r ++ s) = num p r + num (p - r.length) s
  | p, [], s => by simp [num]
  | p, m :: r, s => by
    show bel p m + num (p - 1) (r ++ s) = bel p m + num (p - 1) r + _
    rw [num_app (p - 1) r s, List.length_cons, show p - (r.length + 1) = p - 1 - r.length by omega]
    omega
theorem num_rep : ∀ (j x : Nat), num j (List.replicate j x) + 1 = bel j (x + 1)
  | 0, x => by rw [bel_z]; rfl
  | j + 1, x => by
    have ih := num_rep j x
    have e := bel_s (p := j + 1) (by omega) x
    show bel (j + 1) x + num (j + 1 - 1) (List.replicate j x) + 1 = _
    rw [show j + 1 - 1 = j by omega] at *
    omega
theorem Rwn.app : ∀ {b : Nat} {r : List Nat} {c : Nat}, Rwn b r → 1 ≤ c → c ≤ b → (∀ x ∈ r, c ≤ x) → Rwn b (r ++ [c])
  | b, _, c, .nil _, h1, h2, _ => .cons h1 h2 (.nil _)
  | b, _, c, .cons h3 h4 h5, h1, h2, h => .cons h3 h4 (Rwn.app h5 h1 (h _ (by simp)) fun x hx => h x (by simp [hx]))
theorem Rwn.ge1 : ∀ {b : Nat} {r : List Nat}, Rwn b r → ∀ x ∈ r, 1 ≤ x ∧ x ≤ b
  | b, _, .nil _, x, h => by simp at h
  | b, _, .cons h3 h4 h5, x, h => by
    rcases List.mem_cons.mp h with rfl | h
    · exact ⟨h3, h4⟩
    · have := Rwn.ge1 h5 x h
      exact ⟨this.1, by omega⟩
theorem Rwn.filter : ∀ {b : Nat} {r : List Nat} (p : Nat → Bool), Rwn b r → Rwn b (r.filter p)
  | b, _, p, .nil _ => .nil b
  | b, _, p, .cons (m := m) h3 h4 h5 => by
    rw [List.filter_cons]
    split
    · exact .cons h3 h4 (Rwn.filter p h5)
    · exact (Rwn.filter p h5).mono h4
theorem Rwn.cut : ∀ {b : Nat} {r : List Nat}, Rwn b r → r ≠ [] → ∃ j, r = (r.filter fun a => decide (r.getLast?.getD 0 < a)) ++ List.replicate (j + 1) (r.getLast?.getD 0) ∧ (∀ x ∈ r, r.getLast?.getD 0 ≤ x)
  | b, _, .cons (m := m) (r := []) h3 h4 h5, _ => ⟨0, by simp, by simp⟩
  | b, _, .cons (m := m) (r := c :: r) h3 h4 h5, _ => by
    obtain ⟨j, e, ge⟩ := Rwn.cut h5 (by simp)
    have el : ((m :: c :: r).getLast?).getD 0 = ((c :: r).getLast?).getD 0 := by simp [List.getLast?_cons]
    rw [el]
    have hm : ((c :: r).getLast?).getD 0 ≤ m := by
      have h6 := ge c (by simp)
      cases h5 with
      | cons _ h7 _ => omega
    generalize ((c :: r).getLast?).getD 0 = l at e ge hm
    rcases Nat.lt_or_ge l m with h | h
    · refine ⟨j, ?_, fun x hx => ?_⟩
      · rw [List.filter_cons, if_pos (decide_eq_true h), List.cons_append, ← e]
      · rcases List.mem_cons.mp hx with rfl | hx
        · exact hm
        · exact ge x hx
    · have em : m = l := by omega
      subst em
      have all : ∀ x ∈ c :: r, x = m := fun x hx => by
        have := ge x hx
        have := (Rwn.ge1 h5 x hx).2
        omega
      have f0 : ((c :: r).filter fun a => decide (m < a)) = [] := by
        rw [List.filter_eq_nil_iff]
        intro x hx
        rw [all x hx]
        simp
      refine ⟨j + 1, ?_, fun x hx => ?_⟩
      · rw [List.filter_cons, if_neg (by simp), f0, List.nil_append, List.replicate_succ]
        rw [f0, List.nil_append] at e
        rw [← e]
      · rcases List.mem_cons.mp hx with rfl | hx
        · exact Nat.le_refl _
        · exact ge x hx
theorem aft_ok {p b : Nat} {r : List Nat} (hp : 1 ≤ p) (h : Rwn b r) (hl : r.length ≤ p) : num p (aft p r) = num p r + 1 ∧ Rwn (b + 1) (aft p r) ∧ (aft p r).length ≤ p := by
  unfold aft
  split
  · rename_i h1
    refine ⟨?_, Rwn.app (h.mono (by omega)) (Nat.le_refl 1) (by omega) fun x hx => (h.ge1 x hx).1, by simp; omega⟩
    rw [num_app]
    show _ + (bel (p - r.length) 1 + num _ []) = _
    rw [bel_1]
    rfl
  · rename_i h1
    have hne : r ≠ [] := fun z => by rw [z] at h1; simp at h1; omega
    obtain ⟨j, e, ge⟩ := h.cut hne
    have lenr : r.length = p := by omega
    have mem : r.getLast?.getD 0 ∈ r := by
      rw [List.getLast?_eq_some_getLast hne]
      exact List.getLast_mem hne
    generalize r.getLast?.getD 0 = l at e ge mem ⊢
    have lp : (r.filter fun a => decide (l < a)).length + (j + 1) = p := by
      have := congrArg List.length e
      rw [List.length_append, List.length_replicate, lenr] at this
      omega
    refine ⟨?_, Rwn.app ((h.filter _).mono (by omega)) (by omega) (by have := (h.ge1 l mem).2; omega) fun x hx => ?_, by rw [List.length_append]; simp only [List.length_singleton]; omega⟩
    · have e1 : num p r = num p (r.filter fun a => decide (l < a)) + num (j + 1) (List.replicate (j + 1) l) := by
        rw (occs := .pos [1]) [e]
        rw [num_app, show p - (r.filter fun a => decide (l < a)).length = j + 1 by omega]
      rw [num_app, e1, show p - (r.filter fun a => decide (l < a)).length = j + 1 by omega]
      have := num_rep (j + 1) l
      show _ + (bel (j + 1) (l + 1) + num _ []) = _
      have z : num (j + 1 - 1) [] = 0 := rfl
      rw [z]
      omega
    · have := (List.mem_filter.mp hx).2
      have := of_decide_eq_true this
      omega
end Nr
end
section
set_option Elab.async false
set_option linter.all false
set_option maxRecDepth 100000
set_option maxHeartbeats 2000000
namespace Vk19_whole_joining
open PySem PySem.Spec Ev Nr
def fac : Nat → Nat
  | 0 => 1
  | n + 1 => (n + 1) * fac n
theorem fac_pos : ∀ n, 0 < fac n
  | 0 => Nat.one_pos
  | n + 1 => Nat.mul_pos (by omega) (fac_pos n)
theorem fp_s (n : Int) (k : Nat) : fpI n (k + 1) = fpI n k * (n - (k : Int)) := by
  unfold fpI
  rw [List.range_succ, List.foldl_append]
  rfl
theorem fp_ch (n : Nat) : ∀ k : Nat, k ≤ n → fpI n k = ((fac k * ch n k : Nat) : Int)
  | 0, _ => by rw [ch_0]; rfl
  | k + 1, h => by
    rw [fp_s, fp_ch n k (by omega)]
    have e := ch_step n k
    have e2 : fac (k + 1) * ch n (k + 1) = fac k * ch n k * (n - k) := by
      show (k + 1) * fac k * ch n (k + 1) = _
      rw [Nat.mul_comm (k + 1) (fac k), Nat.mul_assoc, e, Nat.mul_comm (n - k), Nat.mul_assoc]
    rw [e2, Int.natCast_mul (fac k * ch n k) (n - k), Int.ofNat_sub (by omega)]
theorem log2_le {x k : Nat} (h : x < 2 ^ k) (hk : 1 ≤ k) : x.log2 < k := by
  by_cases hx : x = 0
  · subst hx
    show Nat.log2 0 < k
    rw [show Nat.log2 0 = 0 from by decide]
    exact hk
  · exact (Nat.log2_lt hx).mpr h
theorem ch_lt {n k b : Nat} (hn : n + 1 ≤ 2 ^ b) : ch n k < 2 ^ (b * k + 1) := by
  have h1 := ch_le_pow n k
  have h2 : (n + 1) ^ k ≤ (2 ^ b) ^ k := Nat.pow_le_pow_left hn k
  rw [← Nat.pow_mul] at h2
  have h3 : 2 ^ (b * k) < 2 ^ (b * k + 1) := Nat.pow_lt_pow_right (by omega) (by omega)
  omega
theorem comb_ok {n k b : Nat} (hn : n + 1 ≤ 2 ^ b) (hb : b ≤ 4096) (hk : min k (n - k) ≤ 300) : combD (.int (n : Int)) (.int (k : Int)) = .ok (.int ((ch n k : Nat) : Int)) := by
  unfold combD
  dsimp only
  rw [if_pos ⟨by omega, by omega⟩]
  by_cases h : n < k
  · rw [if_pos (by omega), ch_gt h]
    rfl
  · rw [if_neg (by omega)]
    have e0 : (min (k : Int) ((n : Int) - (k : Int))) = ((min k (n - k) : Nat) : Int) := by omega
    have e : combI (n : Int) (k : Int) = ((ch n k : Nat) : Int) := by
      unfold combI
      rw [e0, Int.toNat_natCast]
      have hm : min k (n - k) ≤ n := by omega
      have hs : ch n (min k (n - k)) = ch n k := by
        rcases Nat.le_total k (n - k) with q | q
        · rw [Nat.min_eq_left q]
        · rw [Nat.min_eq_right q, ← ch_sym (by omega)]
      rw [fp_ch n _ hm, fp_ch (min k (n - k)) _ (Nat.le_refl _), ch_nn, Nat.mul_one, ← Int.natCast_ediv, Nat.mul_div_cancel_left _ (fac_pos _), hs]
    have hs : ch n k < 2 ^ (b * min k (n - k) + 1) := by
      rcases Nat.le_total k (n - k) with q | q
      · rw [Nat.min_eq_left q]; exact ch_lt hn
      · rw [Nat.min_eq_right q, ch_sym (by omega)]; exact ch_lt hn
    have hl := log2_le hs (by omega)
    have hb2 : b * min k (n - k) ≤ 4096 * 300 := Nat.mul_le_mul hb hk
    rw [e0, e, if_pos]
    refine ⟨by omega, ?_⟩
    rw [Int.natAbs_natCast]
    omega
section
variable {call : Bool → Nat → List D → R D} {sb : Nat → Nat → Bool} {gl : Nat → D}
theorem r6' {a k : Nat} (h1 : ∀ v : Nat, call false 1 [.int (v : Int)] = .ok (.bl true)) (h3 : ∀ (b : Bool) (s : List Nat), call false 4 [.bl b, .str s] = if b then .ok .non else bad s) (hc : combD (.int (a : Int)) (.int (k : Int)) = .ok (.int ((ch a k : Nat) : Int))) :
    (evSs (T0 call sb gl) b6 [.val (.int (a : Int)), .val (.int (k : Int))]).fin = .ok (.int ((ch a k : Nat) : Int)) := by
  rw [b6_is, ask (call_is rfl rfl (h1 a)) (fun b => h3 b _) rfl, if_pos rfl, ask (call_is rfl rfl (h1 k)) (fun b => h3 b _) rfl, if_pos rfl]
  exact ret_is hc
end
theorem r1n (n v : Nat) (hot : Bool) : P.run (n + 2) hot 1 [.int (v : Int)] = .ok (.bl true) := by
  rw [r1 n hot _ rfl]
  simp [isNum]
theorem r2n (n : Nat) (hot : Bool) {v : Nat} (h : 1 ≤ v) : P.run (n + 2) hot 2 [.int (v : Int)] = .ok (.bl true) := by
  rw [r2 n hot _ rfl]
  have : (1 : Int) ≤ v := by omega
  simp [isNat, this]
theorem r6 (n : Nat) {a k b : Nat} (hn : a + 1 ≤ 2 ^ b) (hb : b ≤ 4096) (hk : min k (a - k) ≤ 300) : P.run (n + 3) false 6 [.int (a : Int), .int (k : Int)] = .ok (.int ((ch a k : Nat) : Int)) := by
  have hf : P.fn 6 = some ⟨2, 2, b6⟩ := rfl
  rw [run_1 hf rfl]
  exact r6' (fun v => r1n n v false) (fun b s => r4 (n + 1) b s) (comb_ok hn hb hk)
section
variable {call : Bool → Nat → List D → R D} {sb : Nat → Nat → Bool} {gl : Nat → D}
theorem r7' {a k : Nat} {out : R D} (h1 : ∀ v : Nat, 1 ≤ v → call false 2 [.int (v : Int)] = .ok (.bl true)) (h3 : ∀ (b : Bool) (s : List Nat), call false 4 [.bl b, .str s] = if b then .ok .non else bad s) (ha : 1 ≤ a) (hk : 1 ≤ k) {d : D} (hc : call false 6 [.int ((a + k : Nat) : Int), .int (k : Int)] = .ok d) :
    (evSs (T0 call sb gl) b7 [.val (.int (a : Int)), .val (.int (k : Int))]).fin = .ok d := by
  rw [b7_is, ask (call_is rfl rfl (h1 a ha)) (fun b => h3 b _) rfl, if_pos rfl, ask (call_is rfl rfl (h1 k hk)) (fun b => h3 b _) rfl, if_pos rfl]
  refine ret_is (call_is rfl (bs_two (d := .int ((a + k : Nat) : Int)) ?_ rfl) hc)
  rw [bin_ok (x := .int (a : Int)) (y := .int (k : Int)) rfl rfl]
  rfl
end
theorem r7 (n : Nat) {a k b : Nat} (ha : 1 ≤ a) (hk1 : 1 ≤ k) (hn : a + k + 1 ≤ 2 ^ b) (hb : b ≤ 4096) (hk : min k a ≤ 300) : P.run (n + 4) false 7 [.int (a : Int), .int (k : Int)] = .ok (.int ((ch (a + k) k : Nat) : Int)) := by
  have hf : P.fn 7 = some ⟨2, 2, b7⟩ := rfl
  rw [run_1 hf rfl]
  exact r7' (out := .stuck) (fun v hv => r2n (n + 1) false hv) (fun b s => r4 (n + 2) b s) ha hk1 (r6 n hn hb (by omega))
section
variable {call : Bool → Nat → List D → R D} {sb : Nat → Nat → Bool} {gl : Nat → D}
theorem r11' {p m : Nat} (hp : 1 ≤ p) (hc : call false 6 [.int ((m + p - 1 : Nat) : Int), .int (p : Int)] = .ok (.int ((ch (m + p - 1) p : Nat) : Int))) :
    (evSs (T0 call sb gl) b11 [.val (.int (p : Int)), .val (.int (m : Int))]).fin = .ok (.int ((bel p m : Nat) : Int)) := by
  rw [b11_is]
  refine ret_is (call_is rfl (bs_two (d := .int ((m + p - 1 : Nat) : Int)) (g := .int (p : Int)) ?_ rfl) hc)
  rw [bin_ok (x := .int ((m : Int) + (p : Int))) (y := .int 1) (by rw [bin_ok (x := .int (m : Int)) (y := .int (p : Int)) rfl rfl]; rfl) rfl]
  show R.ok (D.int _) = _
  congr 2
  omega
end
abbrev BG : Nat := 160
theorem r11 (n : Nat) {p m : Nat} (hp : 1 ≤ p) (hp2 : p ≤ 300) (hm : m ≤ 2 ^ BG) : P.run (n + 4) false 11 [.int (p : Int), .int (m : Int)] = .ok (.int ((bel p m : Nat) : Int)) := by
  have hf : P.fn 11 = some ⟨2, 2, b11⟩ := rfl
  rw [run_1 hf rfl]
  exact r11' hp (r6 n (b := BG + 1) (by
    have : 2 ^ (BG + 1) = 2 ^ BG + 2 ^ BG := by rw [Nat.pow_succ]; omega
    have : 300 < 2 ^ BG := by decide
    omega) (by decide) (by omega))
abbrev zs (r : List Nat) : List Int := r.map fun x : Nat => ((x : Nat) : Int)
abbrev tN (r : List Nat) : D := .tup (nts r)
theorem tN_tI (r : List Nat) : tN r = tI (zs r) := by
  show D.tup _ = D.tup _
  rw [List.map_map]
  rfl
theorem Rwn.desc : ∀ {b : Nat} {r : List Nat}, Rwn b r → natL (zs r) = true ∧ descZ (zs r) = true
  | _, [], _ => ⟨rfl, rfl⟩
  | _, [x], .cons h1 _ _ => ⟨by simp only [natL, List.map_cons, List.map_nil, List.all_cons, List.all_nil, Bool.and_true, decide_eq_true_eq]; omega, rfl⟩
  | _, x :: y :: r, .cons h1 _ h3 => by
    have ih := Rwn.desc h3
    cases h3 with
    | cons h4 h5 h6 =>
    refine ⟨?_, ?_⟩
    · have := ih.1
      simp only [natL, List.map_cons, List.all_cons, Bool.and_eq_true, decide_eq_true_eq] at this ⊢
      exact ⟨by omega, this⟩
    · have := ih.2
      simp only [descZ, List.map_cons, List.drop_succ_cons, List.drop_zero, List.zip_cons_cons, List.all_cons, Bool.and_eq_true, decide_eq_true_eq] at this ⊢
      exact ⟨by omega, this⟩
theorem Rwn.rowI {b : Nat} {r : List Nat} (h : Rwn b r) : rowI (zs r) = true := by
  have := Rwn.desc h
  show (natL _ && descZ _) = true
  rw [this.1, this.2]
  rfl
theorem r8N (n : Nat) {b : Nat} {r : List Nat} (h : Rwn b r) : P.run (n + 3) false 8 [tN r] = .ok (.bl true) := by
  rw [tN_tI, r8 n _ (rowI_plain _), isRow_tI, Rwn.rowI h]
section
variable {call : Bool → Nat → List D → R D} {sb : Nat → Nat → Bool} {gl : Nat → D}
theorem r10' {w : Nat} {r : List Nat} (h1 : call false 2 [.int (w : Int)] = .ok (.bl true)) (h3 : ∀ (b : Bool) (s : List Nat), call false 4 [.bl b, .str s] = if b then .ok .non else bad s) (h7 : call false 8 [tN r] = .ok (.bl true)) (hl : r.length ≤ w) :
    (evSs (T0 call sb gl) b10 [.val (.int (w : Int)), .val (tN r)]).fin = .ok .non := by
  have e : evE (T0 call sb gl) (.and (.call 8 [(.var 1)]) (.bin .le (.bi .len [(.var 1)]) (.var 0))) [.val (.int (w : Int)), .val (tN r)] = .ok (.bl true) := by
    rw [q_and, call_is rfl rfl h7, ok_bind]
    show evE _ _ _ = _
    rw [bin_ok (x := .int ((nts r).length : Int)) (y := .int (w : Int)) rfl rfl]
    show R.ok (D.bl (decide _)) = _
    rw [decide_eq_true (by rw [List.length_map]; omega)]
  rw [b10_is, ask (call_is rfl rfl h1) (fun b => h3 b _) rfl, if_pos rfl, ask e (fun b => h3 b _) rfl, if_pos rfl]
  rfl
end
theorem r10 (n : Nat) {w b : Nat} {r : List Nat} (hw : 1 ≤ w) (h : Rwn b r) (hl : r.length ≤ w) : P.run (n + 4) false 10 [.int (w : Int), tN r] = .ok .non := by
  have hf : P.fn 10 = some ⟨2, 2, b10⟩ := rfl
  rw [run_1 hf rfl]
  exact r10' (r2n (n + 1) false hw) (fun b s => r4 (n + 2) b s) (r8N n h) hl
end Vk19_whole_joining
end
section
set_option Elab.async false
set_option linter.all false
set_option maxRecDepth 100000
set_option maxHeartbeats 2000000
namespace Vk19_whole_joining
open PySem PySem.Spec Ev Nr
theorem enum_nts (r : List Nat) : ((nts r).mapIdx fun i d => D.tpw [.int i, d]) = r.zipIdx.map fun p => D.tpw [.int ((p.2 : Nat) : Int), .int ((p.1 : Nat) : Int)] := by
  apply List.ext_getElem
  · simp
  · intro i h1 h2
    simp
theorem sum_num : ∀ (w : Nat) (r : List Nat) (k : Nat), ((r.zipIdx k).map fun p => ((bel (w - p.2) p.1 : Nat) : Int)).sum = ((num (w - k) r : Nat) : Int)
  | w, [], k => rfl
  | w, m :: r, k => by
    rw [List.zipIdx_cons, List.map_cons, List.sum_cons, sum_num w r (k + 1)]
    show ((bel (w - k) m : Nat) : Int) + _ = ((bel (w - k) m + num (w - k - 1) r : Nat) : Int)
    rw [show w - (k + 1) = w - k - 1 by omega]
    omega
theorem Rwn.le {b : Nat} {r : List Nat} (h : Rwn b r) : ∀ x ∈ r, x ≤ b := fun x hx => (Rwn.ge1 h x hx).2
theorem zipIdx_mem {α : Type} {r : List α} {p : α × Nat} (h : p ∈ r.zipIdx) : p.1 ∈ r ∧ p.2 < r.length := by
  obtain ⟨i, hi, e⟩ := List.getElem_of_mem h
  rw [List.getElem_zipIdx] at e
  subst e
  rw [List.length_zipIdx] at hi
  exact ⟨List.getElem_mem hi, by simpa using hi⟩
section
variable {call : Bool → Nat → List D → R D} {sb : Nat → Nat → Bool} {gl : Nat → D}
theorem r9' {w : Nat} {r : List Nat} (h10 : call false 10 [.int (w : Int), tN r] = .ok .non) (h11 : ∀ p m : Nat, 1 ≤ p → p ≤ w → m ∈ r → call false 11 [.int (p : Int), .int (m : Int)] = .ok (.int ((bel p m : Nat) : Int))) (hl : r.length ≤ w) :
    (evSs (T0 call sb gl) b9 [.val (.int (w : Int)), .val (tN r), .none, .none]).fin = .ok (.int ((num w r : Nat) : Int)) := by
  rw [b9_is]
  have e0 : evS (T0 call sb gl) s9_0 [.val (.int (w : Int)), .val (tN r), .none, .none] = .nx [.val (.int (w : Int)), .val (tN r), .none, .none] := by
    rw [s_ex', call_is rfl (bs_two (d := .int (w : Int)) (g := tN r) rfl rfl) h10]
    rfl
  have e1 : evE (T0 call sb gl) (.cmp (.tp [2, 3]) (.enum (.var 1)) .yes (.call 11 [(.bin .sub (.var 0) (.var 2)), (.var 3)])) [.val (.int (w : Int)), .val (tN r), .none, .none] = .ok (.lst ((r.zipIdx.map fun p => ((bel (w - p.2) p.1 : Nat) : Int)).map .int)) := by
    rw [List.map_map]
    refine cmp_is rfl rfl (xs := r.zipIdx.map fun p => D.tpw [.int ((p.2 : Nat) : Int), .int ((p.1 : Nat) : Int)]) ?_ ?_
    · rw [i_enum, vr rfl, ok_bind]
      show R.ok ((nts r).mapIdx _) = _
      rw [enum_nts]
    · refine compL_imA fun p hp => ?_
      obtain ⟨hm, hi⟩ := zipIdx_mem hp
      refine turn_of (ρ1 := [.val (.int (w : Int)), .val (tN r), .val (.int ((p.2 : Nat) : Int)), .val (.int ((p.1 : Nat) : Int))]) rfl ?_
      refine call_is rfl (bs_two (d := .int ((w - p.2 : Nat) : Int)) (g := .int ((p.1 : Nat) : Int)) ?_ rfl) (h11 (w - p.2) p.1 (by omega) (by omega) hm)
      rw [bin_ok (x := .int (w : Int)) (y := .int ((p.2 : Nat) : Int)) rfl rfl]
      show R.ok (D.int _) = _
      congr 2
      omega
  rw [go e0]
  refine ret_is ?_
  rw [show s9_1x = .bi .sum [(.cmp (.tp [2, 3]) (.enum (.var 1)) .yes (.call 11 [(.bin .sub (.var 0) (.var 2)), (.var 3)]))] from rfl, q_bi, bs_one e1]
  have e2 := sum_num w r 0
  rw [Nat.sub_zero] at e2
  rw [show ((T0 call sb gl).hot && !BI.sum.hot) = false from rfl, if_neg (by decide), ok_bind]
  simp only [biD, intsD_map, e2]
end
theorem r9 (n : Nat) {w b : Nat} {r : List Nat} (hw : 1 ≤ w) (hw2 : w ≤ 300) (h : Rwn b r) (hl : r.length ≤ w) (hb : b ≤ 2 ^ BG) : P.run (n + 5) false 9 [.int (w : Int), tN r] = .ok (.int ((num w r : Nat) : Int)) := by
  have hf : P.fn 9 = some ⟨2, 4, b9⟩ := rfl
  rw [run_1 hf rfl]
  exact r9' (r10 n hw h hl) (fun p m h1 h2 h3 => r11 n h1 (by omega) (Nat.le_trans (Rwn.le h m h3) hb)) hl
theorem getD_last {r : List Nat} (h : r ≠ []) : r.getLast?.getD 0 = r.getD (r.length - 1) 0 := by
  rw [List.getLast?_eq_getElem?]
  simp [List.getD]
end Vk19_whole_joining
end
section
set_option Elab.async false
set_option linter.all false
set_option maxRecDepth 100000
set_option maxHeartbeats 2000000
namespace Vk19_whole_joining
open PySem PySem.Spec Ev Nr
theorem whl_ok {c : Rho → R Bool} {b : Rho → RS} {I : Nat → Rho → Prop} {Q : Rho → Prop} (h : ∀ k ρ, I k ρ → (c ρ = .ok false ∧ Q ρ) ∨ (∃ j ρ2, j < k ∧ c ρ = .ok true ∧ b ρ = .nx ρ2 ∧ I j ρ2)) : ∀ (n k : Nat) (ρ : Rho), I k ρ → k < n → ∃ ρ', whlL c b n ρ = .nx ρ' ∧ Q ρ' := by
  intro n
  induction n with
  | zero => intro k ρ _ hk; omega
  | succ n ih =>
    intro k ρ hI hk
    rcases h k ρ hI with ⟨e, q⟩ | ⟨j, ρ2, hj, e1, e2, hI2⟩
    · exact ⟨ρ, by simp only [whlL, e], q⟩
    · obtain ⟨ρ', e3, q⟩ := ih j ρ2 hI2 (by omega)
      exact ⟨ρ', by simp only [whlL, e1, e2]; exact e3, q⟩
theorem whl_is {T : Tb} {ρ : Rho} {c : CT} {b : List CS} {I : Nat → Rho → Prop} {Q : Rho → Prop} {k : Nat} (hI : I k ρ) (hk : k < WHL) (h : ∀ k ρ, I k ρ → (evT T c ρ = .ok false ∧ Q ρ) ∨ (∃ j ρ2, j < k ∧ evT T c ρ = .ok true ∧ evSs T b ρ = .nx ρ2 ∧ I j ρ2)) : ∃ ρ', evS T (.whl c b) ρ = .nx ρ' ∧ Q ρ' := by
  rw [s_whl']
  exact whl_ok h WHL k ρ hI hk
theorem whl_lt {k : Nat} (h : k ≤ 1000) : k < WHL := by
  have : 1000 < WHL := by decide
  omega
section
variable {call : Bool → Nat → List D → R D} {sb : Nat → Nat → Bool} {gl : Nat → D}
theorem r35' {p a n v : Nat} (h11 : call false 11 [.int (p : Int), .int ((a + 1 : Nat) : Int)] = .ok (.int (v : Int))) :
    (evSs (T0 call sb gl) [.ret (.bin .gt (.call 11 [(.var 1), (.bin .add (.var 0) (.cst (.int 1)))]) (.var 2))] [.val (.int (a : Int)), .val (.int (p : Int)), .val (.int (n : Int))]).fin = .ok (.bl (decide (n < v))) := by
  refine ret_is ?_
  rw [bin_ok (x := .int (v : Int)) (y := .int (n : Int)) (call_is rfl (bs_two (d := .int (p : Int)) (g := .int ((a + 1 : Nat) : Int)) rfl (by
    rw [bin_ok (x := .int (a : Int)) (y := .int 1) rfl rfl]
    rfl)) h11) rfl]
  show R.ok (D.bl (decide ((n : Int) < (v : Int)))) = _
  congr 2
  exact decide_eq_decide.mpr (by omega)
end
theorem r35 (k : Nat) {p a n : Nat} (hp : 1 ≤ p) (hp2 : p ≤ 300) (ha : a + 1 ≤ 2 ^ BG) : P.run (k + 5) false 35 [.int (a : Int), .int (p : Int), .int (n : Int)] = .ok (.bl (decide (n < bel p (a + 1)))) := by
  have hf : P.fn 35 = some ⟨3, 3, [.ret (.bin .gt (.call 11 [(.var 1), (.bin .add (.var 0) (.cst (.int 1)))]) (.var 2))]⟩ := rfl
  rw [run_1 hf rfl]
  exact r35' (r11 k hp hp2 ha)
section
variable {call : Bool → Nat → List D → R D} {sb : Nat → Nat → Bool} {gl : Nat → D}
abbrev R5 (l h : Nat) (cs : List D) (x3 x4 x5 : Slot) : Rho := [.val (.int (l : Int)), .val (.int (h : Int)), .clo 35 cs, x3, x4, x5]
theorem capp_is {T : Tb} {ρ : Rho} {i l : Nat} {cs ds : List D} {es : List CE} {r : R D} (hT : T.hot = false) (hi : ρ[i]? = some (.clo l cs)) (he : evEs T es ρ = .ok ds) (h : T.call false l (ds ++ cs) = r) : evE T (.capp i es) ρ = r := by
  rw [q_capp, hT, if_neg (by decide), hi, he]
  exact h
theorem es_one {T : Tb} {ρ : Rho} {e : CE} {d : D} (h : evE T e ρ = .ok d) : evEs T [e] ρ = .ok [d] := by
  rw [es_cons, h]
  rfl
theorem es_two {T : Tb} {ρ : Rho} {e f : CE} {d g : D} (h : evE T e ρ = .ok d) (k : evE T f ρ = .ok g) : evEs T [e, f] ρ = .ok [d, g] := by
  rw [es_cons, h, ok_bind, es_one k]
  rfl
theorem r5' {l h : Nat} {cs : List D} {S : Nat → Bool} (hS : ∀ a, l ≤ a → a ≤ h → call false 35 (.int ((a : Nat) : Int) :: cs) = .ok (.bl (S a))) (hlh : l ≤ h) (hh : S h = true) (hb : h < 2 ^ 200) :
    ∃ a, l ≤ a ∧ a ≤ h ∧ S a = true ∧ (a = l ∨ S (a - 1) = false) ∧ (evSs (T0 call sb gl) b5 (R5 l h cs .none .none .none)).fin = .ok (.int (a : Int)) := by
  rw [b5_is]
  have e0 : evT (T0 call sb gl) s5_0c (R5 l h cs .none .none .none) = .ok false := by
    rw [t_not, t_of, bv (capp_is rfl rfl (es_one (d := .int (h : Int)) rfl) (hS h hlh (Nat.le_refl h))), hh]
    rfl
  have e1 : evS (T0 call sb gl) s5_1 (R5 l h cs .none .none .none) = .nx (R5 l h cs (.val (.int (l : Int))) (.val (.int (h : Int))) .none) := by
    rw [s_par', show ((T0 call sb gl).hot && [3, 4].length == 2) = false from rfl, if_neg (by decide), es_two (d := .int (l : Int)) (g := .int (h : Int)) rfl rfl]
    rfl
  have e2 : ∃ ρ', evS (T0 call sb gl) s5_2 (R5 l h cs (.val (.int (l : Int))) (.val (.int (h : Int))) .none) = .nx ρ' ∧ (∃ (a : Nat) (x5 : Slot), ρ' = R5 l h cs (.val (.int (a : Int))) (.val (.int (a : Int))) x5 ∧ l ≤ a ∧ a ≤ h ∧ S a = true ∧ (a = l ∨ S (a - 1) = false)) := by
    refine whl_is (k := 200) (I := fun k ρ => ∃ (a b : Nat) (x5 : Slot), ρ = R5 l h cs (.val (.int (a : Int))) (.val (.int (b : Int))) x5 ∧ l ≤ a ∧ a ≤ b ∧ b ≤ h ∧ S b = true ∧ (a = l ∨ S (a - 1) = false) ∧ b - a < 2 ^ k) ⟨l, h, .none, rfl, Nat.le_refl l, hlh, Nat.le_refl h, hh, .inl rfl, by omega⟩ (whl_lt (by decide)) ?_
    rintro k ρ ⟨a, b, x5, rfl, h1, h2, h3, h4, h5, h6⟩
    have ec : evT (T0 call sb gl) s5_2c (R5 l h cs (.val (.int (a : Int))) (.val (.int (b : Int))) x5) = .ok (decide (a < b)) := by
      rw [t_of, bv (bin_ok (x := .int (a : Int)) (y := .int (b : Int)) rfl rfl)]
      show R.ok (decide ((a : Int) < (b : Int))) = _
      congr 1
      exact decide_eq_decide.mpr (by omega)
    by_cases hab : a < b
    · right
      have hk : k ≠ 0 := by
        intro z
        rw [z] at h6
        simp at h6
        omega
      obtain ⟨j, rfl⟩ : ∃ j, k = j + 1 := ⟨k - 1, by omega⟩
      rw [Nat.pow_succ] at h6
      have em : evE (T0 call sb gl) s5_2b0x (R5 l h cs (.val (.int (a : Int))) (.val (.int (b : Int))) x5) = .ok (.int (((a + b) / 2 : Nat) : Int)) := by
        rw [bin_ok (x := .int ((a : Int) + (b : Int))) (y := .int 2) (by rw [bin_ok (x := .int (a : Int)) (y := .int (b : Int)) rfl rfl]; rfl) rfl]
        show (if (0 : Int) < 2 ∧ (2 : Int) < 1073741824 then R.ok (D.int (((a : Int) + (b : Int)) / 2)) else R.stuck) = _
        rw [if_pos ⟨by decide, by decide⟩]
        congr 2
      have hm1 : a ≤ (a + b) / 2 := by omega
      have hm2 : (a + b) / 2 < b := by omega
      have es : evT (T0 call sb gl) s5_2b1c (R5 l h cs (.val (.int (a : Int))) (.val (.int (b : Int))) (.val (.int (((a + b) / 2 : Nat) : Int)))) = .ok (S ((a + b) / 2)) := by
        rw [t_of, bv (capp_is rfl rfl (es_one (d := .int (((a + b) / 2 : Nat) : Int)) rfl) (hS _ (by omega) (by omega)))]
        rfl
      generalize hmm : (a + b) / 2 = m at em es hm1 hm2
      have e3 : evSs (T0 call sb gl) s5_2b (R5 l h cs (.val (.int (a : Int))) (.val (.int (b : Int))) x5) = evSs (T0 call sb gl) [s5_2b1] (R5 l h cs (.val (.int (a : Int))) (.val (.int (b : Int))) (.val (.int (m : Int)))) := by
        rw [show s5_2b = [s5_2b0, s5_2b1] from rfl, go (set_is em)]
        rfl
      refine ⟨j, ?_⟩
      cases hs : S m with
      | true =>
        refine ⟨_, by omega, by rw [ec, decide_eq_true hab], ?_, a, m, .val (.int (m : Int)), rfl, h1, hm1, by omega, hs, h5, by omega⟩
        rw [e3, go ((ife_yes (by rw [es, hs])).trans (go (set_is (d := .int (m : Int)) rfl)))]
        rfl
      | false =>
        refine ⟨_, by omega, by rw [ec, decide_eq_true hab], ?_, m + 1, b, .val (.int (m : Int)), rfl, by omega, by omega, h3, h4, .inr (by rw [Nat.add_sub_cancel]; exact hs), by omega⟩
        rw [e3, go ((ife_no (by rw [es, hs])).trans (go (set_is (d := .int ((m + 1 : Nat) : Int)) (by
          rw [bin_ok (x := .int (m : Int)) (y := .int 1) rfl rfl]
          rfl))))]
        rfl
    · left
      have : a = b := by omega
      subst this
      exact ⟨by rw [ec, decide_eq_false hab], a, x5, rfl, h1, h3, h4, h5⟩
  obtain ⟨ρ', e3, a, x5, rfl, q1, q2, q3, q4⟩ := e2
  refine ⟨a, q1, q2, q3, q4, ?_⟩
  rw [pass_if e0, go e1, go e3]
  rfl
end
theorem run_ho {P : Pg} {n f : Nat} {hot : Bool} {ds : List D} {d : Fd} (hf : P.fn f = some d) (hl : ds.length = d.np) (hh : P.ho f = true) : P.run (n + 1) hot f ds = (evSs ⟨hot, P.run n, P.sub, P.glb⟩ d.body (ds.map Slot.of ++ List.replicate (d.ns - d.np) .none)).fin := by
  simp only [Pg.run, hf, hl, hh, if_true]
theorem r5 (k : Nat) {h p n : Nat} (hp : 1 ≤ p) (hp2 : p ≤ 300) (hh : 1 ≤ h) (hb : h + 1 ≤ 2 ^ BG) (hS : n < bel p (h + 1)) (hn : 1 ≤ n) : ∃ a, IsG p n a ∧ P.run (k + 6) false 5 [.int 1, .int (h : Int), .clo 35 [.int (p : Int), .int (n : Int)]] = .ok (.int (a : Int)) := by
  have hf : P.fn 5 = some ⟨3, 6, b5⟩ := rfl
  have hb2 : h < 2 ^ 200 := by
    have : 2 ^ BG ≤ 2 ^ 200 := Nat.pow_le_pow_right (by decide) (by decide)
    omega
  obtain ⟨a, h1, h2, h3, h4, e⟩ := r5' (call := P.run (k + 5)) (sb := P.sub) (gl := P.glb) (l := 1) (h := h) (cs := [.int (p : Int), .int (n : Int)]) (S := fun a => decide (n < bel p (a + 1))) (fun a _ ha => r35 k hp hp2 (by omega)) hh (decide_eq_true hS) hb2
  refine ⟨a, ⟨?_, of_decide_eq_true h3⟩, ?_⟩
  · rcases h4 with rfl | h4
    · rw [bel_1]; exact hn
    · have := of_decide_eq_false h4
      rcases Nat.eq_zero_or_pos (a - 1) with z | z
      · have : a = 1 := by omega
        subst this
        rw [bel_1]; exact hn
      · rw [show a - 1 + 1 = a by omega] at this
        omega
  · rw [run_ho hf rfl rfl]
    exact e
end Vk19_whole_joining
end
section
set_option Elab.async false
set_option linter.all false
set_option maxRecDepth 100000
set_option maxHeartbeats 2000000
namespace Vk19_whole_joining
open PySem PySem.Spec Ev Nr
section
variable {call : Bool → Nat → List D → R D} {sb : Nat → Nat → Bool} {gl : Nat → D}
abbrev R13 (p n : Nat) (x2 : Slot) : Rho := [.val (.int (p : Int)), .val (.int (n : Int)), x2]
theorem callL_is {T : Tb} {ρ : Rho} {j l : Nat} {es : List CE} {js : List Nat} {ds cs : List D} {r : R D} (hT : T.hot = false) (he : evEs T es ρ = .ok ds) (hs : slotsE ρ js = .ok cs) (hn : D.noLL cs = true) (h : T.call false j (ds ++ [.clo l cs]) = r) : evE T (.callL j es l js []) ρ = r := by
  rw [q_callL, hT, if_neg (by decide), he, ok_bind, es_nil, ok_bind, hs, ok_bind, if_pos hn]
  exact h
theorem pow_lt_of {j n : Nat} (h : 2 ^ j + 1 ≤ n) (hn : n ≤ 2 ^ 110) : j < 110 := by
  apply Classical.byContradiction
  intro hj
  have : 2 ^ 110 ≤ 2 ^ j := Nat.pow_le_pow_right (by decide) (by omega)
  omega
theorem pow_le_BG {j : Nat} (h : j ≤ 110) : 2 ^ j + 1 ≤ 2 ^ BG := by
  have h1 : 2 ^ j ≤ 2 ^ 110 := Nat.pow_le_pow_right (by decide) h
  have h2 : 2 ^ 110 + 1 ≤ 2 ^ BG := by decide
  omega
theorem r13' {p n : Nat} (hp : 1 ≤ p) (hn : n ≤ 2 ^ 110) (h11 : ∀ m : Nat, m ≤ 2 ^ BG → call false 11 [.int (p : Int), .int (m : Int)] = .ok (.int ((bel p m : Nat) : Int))) :
    ∃ h, 1 ≤ h ∧ h + 1 ≤ 2 ^ BG ∧ n < bel p (h + 1) ∧ ∀ r, call false 5 [.int 1, .int (h : Int), .clo 35 [.int (p : Int), .int (n : Int)]] = .ok r → (evSs (T0 call sb gl) b13 (R13 p n .none)).fin = .ok r := by
  rw [b13_is]
  have e1 : evS (T0 call sb gl) s13_0 (R13 p n .none) = .nx (R13 p n (.val (.int ((1 : Nat) : Int)))) := rfl
  have e2 : ∃ ρ', evS (T0 call sb gl) s13_1 (R13 p n (.val (.int ((1 : Nat) : Int)))) = .nx ρ' ∧ ∃ h, ρ' = R13 p n (.val (.int ((h : Nat) : Int))) ∧ 1 ≤ h ∧ h + 1 ≤ 2 ^ BG ∧ n < bel p (h + 1) := by
    refine whl_is (k := 110) (I := fun k ρ => ∃ j, j + k = 110 ∧ ρ = R13 p n (.val (.int ((2 ^ j : Nat) : Int)))) ⟨0, by omega, by rw [Nat.pow_zero]⟩ (whl_lt (by decide)) ?_
    rintro k ρ ⟨j, hj, rfl⟩
    have hB := pow_le_BG (j := j) (by omega)
    have ha : evE (T0 call sb gl) (.call 11 [(.var 0), (.bin .add (.var 2) (.cst (.int 1)))]) (R13 p n (.val (.int ((2 ^ j : Nat) : Int)))) = .ok (.int ((bel p (2 ^ j + 1) : Nat) : Int)) := by
      refine call_is rfl (bs_two (d := .int (p : Int)) (g := .int ((2 ^ j + 1 : Nat) : Int)) rfl ?_) (h11 _ hB)
      rw [bin_ok (x := .int ((2 ^ j : Nat) : Int)) (y := .int 1) rfl rfl]
      rfl
    have ec : evT (T0 call sb gl) s13_1c (R13 p n (.val (.int ((2 ^ j : Nat) : Int)))) = .ok (decide (bel p (2 ^ j + 1) ≤ n)) := by
      rw [t_of, bv (bin_ok (x := .int ((bel p (2 ^ j + 1) : Nat) : Int)) (y := .int (n : Int)) ha rfl)]
      show R.ok (decide (((bel p (2 ^ j + 1) : Nat) : Int) ≤ (n : Int))) = _
      congr 1
      exact decide_eq_decide.mpr (by omega)
    by_cases hc : bel p (2 ^ j + 1) ≤ n
    · right
      have hl := bel_ge hp (2 ^ j + 1)
      have hj2 := pow_lt_of (j := j) (n := n) (by omega) hn
      refine ⟨k - 1, R13 p n (.val (.int ((2 ^ (j + 1) : Nat) : Int))), by omega, by rw [ec, decide_eq_true hc], ?_, j + 1, by omega, rfl⟩
      have em : evE (T0 call sb gl) s13_1b0x (R13 p n (.val (.int ((2 ^ j : Nat) : Int)))) = .ok (.int ((2 ^ (j + 1) : Nat) : Int)) := by
        rw [bin_ok (x := .int 2) (y := .int ((2 ^ j : Nat) : Int)) rfl rfl]
        have e : mulOk 2 ((2 ^ j : Nat) : Int) = true := by unfold mulOk; exact decide_eq_true (.inl ⟨by decide, by decide⟩)
        simp only [binD]
        rw [e, Bool.true_or, if_pos rfl, Nat.pow_succ]
        congr 2
        omega
      rw [show s13_1b = [s13_1b0] from rfl, go (set_is em)]
      rfl
    · left
      exact ⟨by rw [ec, decide_eq_false hc], 2 ^ j, rfl, Nat.pos_of_ne_zero (by
        have := Nat.two_pow_pos j
        omega), hB, by omega⟩
  obtain ⟨ρ', e3, h, rfl, h1, h2, h3⟩ := e2
  refine ⟨h, h1, h2, h3, fun r hr => ?_⟩
  rw [go e1, go e3]
  exact ret_is (callL_is rfl (es_two (d := .int 1) (g := .int (h : Int)) rfl rfl) (cs := [.int (p : Int), .int (n : Int)]) rfl rfl hr)
end
theorem r13 (k : Nat) {p n : Nat} (hp : 1 ≤ p) (hp2 : p ≤ 300) (hn1 : 1 ≤ n) (hn : n ≤ 2 ^ 110) : ∃ a, IsG p n a ∧ P.run (k + 7) false 13 [.int (p : Int), .int (n : Int)] = .ok (.int (a : Int)) := by
  have hf : P.fn 13 = some ⟨2, 3, b13⟩ := rfl
  obtain ⟨h, h1, h2, h3, e⟩ := r13' (call := P.run (k + 6)) (sb := P.sub) (gl := P.glb) hp hn fun m hm => r11 (k + 2) hp hp2 hm
  obtain ⟨a, ha, e2⟩ := r5 k hp hp2 h1 h2 h3 hn1
  refine ⟨a, ha, ?_⟩
  rw [run_1 hf rfl]
  exact e _ e2
section
variable {call : Bool → Nat → List D → R D} {sb : Nat → Nat → Bool} {gl : Nat → D}
abbrev R12 (w n : Nat) (x2 x3 x4 : Slot) : Rho := [.val (.int (w : Int)), .val (.int (n : Int)), x2, x3, x4]
theorem neg_last {b : List Nat} {v : Nat} : getI (nts (b ++ [v])) (-1) = .ok (.int (v : Int)) := by
  unfold getI ixD
  have e : (nts (b ++ [v])).length = b.length + 1 := by simp
  rw [e, if_neg (by decide), if_pos (by omega)]
  rw [show ((-1 : Int) + ((b.length + 1 : Nat) : Int)).toNat = b.length by omega]
  simp
theorem app_own {ρ : Rho} {i : Nat} {b : List Nat} {e : CE} {v : Nat} (hb : ρ[i]? = some (.own (nts b))) (hl : b.length ≤ 10000) (he : evE (T0 call sb gl) e ρ = .ok (.int (v : Int))) : evS (T0 call sb gl) (.app i e) ρ = .nx (ρ.set i (.own (nts (b ++ [v])))) := by
  rw [s_app', hb]
  show (evE _ e _).on _ _ = _
  rw [he]
  show (if (nts b).length < 16777216 then RS.nx _ else _) = _
  rw [if_pos (by rw [List.length_map]; omega)]
  congr 3
  simp
theorem r12' {w n : Nat} (hw2 : w ≤ 300) (hw : 1 ≤ w) (hn : n ≤ 2 ^ 110) (h1 : ∀ v : Nat, call false 1 [.int (v : Int)] = .ok (.bl true)) (h2 : call false 2 [.int (w : Int)] = .ok (.bl true)) (h3 : ∀ (b : Bool) (s : List Nat), call false 4 [.bl b, .str s] = if b then .ok .non else bad s)
    (h13 : ∀ p m : Nat, 1 ≤ p → p ≤ w → 1 ≤ m → m ≤ 2 ^ 110 → ∃ a, IsG p m a ∧ call false 13 [.int (p : Int), .int (m : Int)] = .ok (.int (a : Int)))
    (h11 : ∀ p m : Nat, 1 ≤ p → p ≤ w → m ≤ 2 ^ BG → call false 11 [.int (p : Int), .int (m : Int)] = .ok (.int ((bel p m : Nat) : Int))) :
    ∃ r, Gr w n r ∧ (evSs (T0 call sb gl) b12 (R12 w n .none .none .none)).fin = .ok (tN r) := by
  rw [b12_is, ask (call_is rfl rfl h2) (fun b => h3 b _) rfl, if_pos rfl, ask (call_is rfl rfl (h1 n)) (fun b => h3 b _) rfl, if_pos rfl]
  have e1 : evS (T0 call sb gl) s12_2 (R12 w n .none .none .none) = .nx (R12 w n (.own (nts [])) .none .none) := rfl
  have e2 : evS (T0 call sb gl) s12_3 (R12 w n (.own (nts [])) .none .none) = .nx (R12 w n (.own (nts [])) (.val (.int (n : Int))) .none) := rfl
  have e3 : ∃ ρ', evS (T0 call sb gl) s12_4 (R12 w n (.own (nts [])) (.val (.int (n : Int))) .none) = .nx ρ' ∧ ∃ r x3 x4, ρ' = R12 w n (.own (nts r)) x3 x4 ∧ Gr w n r := by
    refine whl_is (k := w) (I := fun k ρ => ∃ (b : List Nat) (l : Nat) (x4 : Slot), ρ = R12 w n (.own (nts b)) (.val (.int (l : Int))) x4 ∧ b.length + k = w ∧ l ≤ n ∧ (k = 0 → l = 0) ∧ ∀ s, Gr k l s → Gr w n (b ++ s)) ⟨[], n, .none, rfl, by simp, Nat.le_refl n, by omega, fun s h => h⟩ (whl_lt (by omega)) ?_
    rintro k ρ ⟨b, l, x4, rfl, hb, hl, hk, hg⟩
    have ec : evT (T0 call sb gl) s12_4c (R12 w n (.own (nts b)) (.val (.int (l : Int))) x4) = .ok (decide (0 < l)) := by
      rw [t_of, bv (bin_ok (x := .int (l : Int)) (y := .int 0) rfl rfl)]
      show R.ok (decide ((0 : Int) < (l : Int))) = _
      congr 1
      exact decide_eq_decide.mpr (by omega)
    by_cases h0 : 0 < l
    · right
      have hk1 : 1 ≤ k := by
        rcases Nat.eq_zero_or_pos k with z | z
        · have := hk z; omega
        · exact z
      obtain ⟨a, ha, ea⟩ := h13 k l hk1 (by omega) h0 (by omega)
      have hal := IsG.le hk1 ha
      have hle := IsG.left hk1 ha
      have hbl := ha.1
      have ep : evE (T0 call sb gl) s12_4b0x (R12 w n (.own (nts b)) (.val (.int (l : Int))) x4) = .ok (.int (k : Int)) := by
        have el : evE (T0 call sb gl) (.bi .len [(.var 2)]) (R12 w n (.own (nts b)) (.val (.int (l : Int))) x4) = .ok (.int (b.length : Int)) := by
          rw [q_bi, bs_cons, bs_nil]
          show R.ok (D.int ((nts b).length : Int)) = _
          rw [List.length_map]
        rw [bin_ok (x := .int (w : Int)) (y := .int (b.length : Int)) rfl el]
        show R.ok (D.int _) = _
        congr 2
        omega
      have e5 : evS (T0 call sb gl) s12_4b1 (R12 w n (.own (nts b)) (.val (.int (l : Int))) (.val (.int (k : Int)))) = .nx (R12 w n (.own (nts (b ++ [a]))) (.val (.int (l : Int))) (.val (.int (k : Int)))) :=
        app_own rfl (by omega) (call_is rfl (bs_two (d := .int (k : Int)) (g := .int (l : Int)) rfl rfl) ea)
      have ei : evE (T0 call sb gl) (.idx (.var 2) (.un .neg (.cst (.int 1)))) (R12 w n (.own (nts (b ++ [a]))) (.val (.int (l : Int))) (.val (.int (k : Int)))) = .ok (.int (a : Int)) := neg_last
      have e6 : evS (T0 call sb gl) s12_4b2 (R12 w n (.own (nts (b ++ [a]))) (.val (.int (l : Int))) (.val (.int (k : Int)))) = .nx (R12 w n (.own (nts (b ++ [a]))) (.val (.int ((l - bel k a : Nat) : Int))) (.val (.int (k : Int)))) := by
        have hc := h11 k a hk1 (by omega) (by
          have : 2 ^ 110 ≤ 2 ^ BG := by decide
          omega)
        have ev : evE (T0 call sb gl) (.call 11 [(.var 4), (.idx (.var 2) (.un .neg (.cst (.int 1))))]) (R12 w n (.own (nts (b ++ [a]))) (.val (.int (l : Int))) (.val (.int (k : Int)))) = .ok (.int ((bel k a : Nat) : Int)) := call_is rfl (bs_two (d := .int (k : Int)) (g := .int (a : Int)) rfl ei) hc
        rw [s_aug']
        show (evE _ _ _).on _ _ = _
        rw [ev, Int.ofNat_sub hbl]
        rfl
      refine ⟨k - 1, _, by omega, by rw [ec, decide_eq_true h0], ?_, b ++ [a], l - bel k a, .val (.int (k : Int)), rfl, by simp; omega, by omega, ?_, ?_⟩
      · rw [show s12_4b = [s12_4b0, s12_4b1, s12_4b2] from rfl, go (set_is ep)]
        exact (go e5).trans ((go e6).trans rfl)
      · intro z
        rw [z, bel_z] at hle
        omega
      · intro s hs
        rw [List.append_assoc]
        exact hg _ (.cons h0 ha hs)
    · left
      have : l = 0 := by omega
      subst this
      refine ⟨by rw [ec, decide_eq_false h0], b, _, _, rfl, ?_⟩
      have := hg [] (.nil k)
      rwa [List.append_nil] at this
  obtain ⟨ρ', e4, r, x3, x4, rfl, hg⟩ := e3
  refine ⟨r, hg, ?_⟩
  rw [go e1, go e2, go e4]
  rfl
end
theorem r12 (k : Nat) {w n : Nat} (hw : 1 ≤ w) (hw2 : w ≤ 300) (hn : n ≤ 2 ^ 110) : ∃ r, Gr w n r ∧ P.run (k + 8) false 12 [.int (w : Int), .int (n : Int)] = .ok (tN r) := by
  have hf : P.fn 12 = some ⟨2, 5, b12⟩ := rfl
  obtain ⟨r, h, e⟩ := r12' (call := P.run (k + 7)) (sb := P.sub) (gl := P.glb) hw2 hw hn (fun v => r1n (k + 5) v false) (r2n (k + 5) false hw) (fun b s => r4 (k + 6) b s) (fun p m h1 h2 h3 h4 => r13 k h1 (by omega) h3 h4) (fun p m h1 h2 h3 => r11 (k + 3) h1 (by omega) h3)
  refine ⟨r, h, ?_⟩
  rw [run_1 hf rfl]
  exact e
end Vk19_whole_joining
end
section
set_option Elab.async false
set_option linter.all false
set_option maxRecDepth 100000
set_option maxHeartbeats 2000000
namespace Vk19_whole_joining
open PySem PySem.Spec Ev Nr
theorem sameN (n : Nat) (hot : Bool) (i : Int) : P.run (n + 1) hot 20 [.int i, .int i] = .ok (.bl true) := by
  have hf : P.fn 20 = some ⟨2, 2, b20⟩ := rfl
  rw [run_1 hf rfl]
  simp [q_var, q_cst, q_bin, q_un, q_and, q_or, q_ife, q_tup, q_lst, q_idx, q_slc, q_call, q_callk, q_bi, q_isi, q_rngL, q_rngO, q_cmp, q_exf, q_exi, q_exv, q_chain, q_join, q_fstr, q_tget, q_tin, q_glb, q_bv, t_yes, t_and, t_or, t_not, t_of, o_none, o_some, es_nil, es_cons, bs_nil, bs_cons, i_of, i_rng, i_enum, i_zip, i_rev, s_pass', s_set', s_setC', s_setOwn', s_unp', s_par', s_app', s_ex', s_ret', s_retO', s_retN', s_ife', s_for', s_whl', s_raise', s_try', s_brk', s_cont', ss_nil', ss_cons', h_nil, h_some, h_none, bor, slotE, slotB, isiD, D.isTy, D.truth, unD, binD, guardL, ownArg, isOwn, biD, itHot, BI.hot, tgOwn, ownIt, itemsD, seqD, D.noL, D.isRng, b20, D.isRng, D.eqOk, D.dep, D.plain, D.eqv]
section
variable {call : Bool → Nat → List D → R D} {sb : Nat → Nat → Bool} {gl : Nat → D}
abbrev R22 (a k : Nat) (x2 x3 : Slot) : Rho := [.val (.int (a : Int)), .val (.int (k : Int)), x2, x3]
theorem mul_w {x y : Nat} (h : x.log2 + y.log2 < 1000000) : binD .mul (.int (x : Int)) (.int (y : Int)) = .ok (.int ((x * y : Nat) : Int)) := by
  simp only [binD]
  rw [if_pos]
  · rw [Int.natCast_mul]
  · rw [Int.natAbs_natCast, Int.natAbs_natCast, decide_eq_true h, Bool.or_true]
theorem fdiv_w {x k : Nat} (h : k < 1073741823) : binD .fdiv (.int (x : Int)) (.int ((k + 1 : Nat) : Int)) = .ok (.int ((x / (k + 1) : Nat) : Int)) := by
  simp only [binD]
  rw [if_pos (by omega)]
  rfl
theorem lt_bg {k : Nat} (h : k ≤ 300) : k < 1073741823 := Nat.lt_of_le_of_lt h (by decide)
theorem lt_ml {k : Nat} (h : k ≤ 60000) : k < 1000000 := Nat.lt_of_le_of_lt h (by decide)
theorem log_ok {a i : Nat} (ha : a + 1 ≤ 2 ^ BG) (hi : i ≤ 300) : (ch a i).log2 + (a - i).log2 ≤ 60000 := by
  have q1 := log2_le (ch_lt (n := a) (k := i) ha) (by omega)
  have q2 : (a - i).log2 < BG := log2_le (Nat.lt_of_le_of_lt (Nat.sub_le a i) (Nat.lt_of_succ_le ha)) (by decide)
  have q3 : BG * i ≤ 160 * 300 := Nat.mul_le_mul (by decide) hi
  have q4 : BG = 160 := rfl
  omega
theorem pr0a {a k i : Nat} {x2 : Slot} (hi : i ≤ a) : evE (T0 call sb gl) (.bin .sub (.var 0) (.var 3)) (R22 a k x2 (.val (.int (i : Nat)))) = .ok (.int ((a - i : Nat) : Int)) := by
  rw [bin_ok (x := .int (a : Int)) (y := .int (i : Int)) rfl rfl, Int.ofNat_sub hi]
  rfl
theorem pr0b {a k i c : Nat} (hi : i ≤ a) (hlog : c.log2 + (a - i).log2 < 1000000) : evE (T0 call sb gl) (.bin .mul (.var 2) (.bin .sub (.var 0) (.var 3))) (R22 a k (.val (.int (c : Int))) (.val (.int (i : Nat)))) = .ok (.int ((c * (a - i) : Nat) : Int)) := by
  rw [bin_ok (x := .int (c : Int)) (y := .int ((a - i : Nat) : Int)) rfl (pr0a hi), mul_w hlog]
theorem pr0c {a k i : Nat} {x2 : Slot} : evE (T0 call sb gl) (.bin .add (.var 3) (.cst (.int 1))) (R22 a k x2 (.val (.int (i : Nat)))) = .ok (.int ((i + 1 : Nat) : Int)) := by
  rw [bin_ok (x := .int (i : Int)) (y := .int 1) rfl rfl]
  rfl
theorem pr0 {a k i c d : Nat} (hi : i ≤ a) (hlog : c.log2 + (a - i).log2 < 1000000) (hb : i < 1073741823) (hd : (i + 1) * d = (a - i) * c) : evE (T0 call sb gl) s22_1b0x (R22 a k (.val (.int (c : Int))) (.val (.int (i : Nat)))) = .ok (.int (d : Int)) := by
  rw [bin_ok (pr0b hi hlog) pr0c, fdiv_w hb, Nat.mul_comm, ← hd, Nat.mul_div_cancel_left _ (Nat.succ_pos i)]
theorem pr0d {a k i c d : Nat} (hi : i ≤ a) (hlog : c.log2 + (a - i).log2 < 1000000) (hb : i < 1073741823) (hd : (i + 1) * d = (a - i) * c) : evSs (T0 call sb gl) s22_1b (R22 a k (.val (.int (c : Int))) (.val (.int (i : Nat)))) = .nx (R22 a k (.val (.int (d : Int))) (.val (.int (i : Nat)))) := by
  rw [show s22_1b = [s22_1b0] from rfl, go (set_is (pr0 hi hlog hb hd))]
  rfl
theorem forL_nx {tg : Tgt} {b : Rho → RS} {d : D} {ds : List D} {ρ ρ1 ρ2 : Rho} (h1 : bindT tg d ρ = .ok ρ1) (h2 : b ρ1 = .nx ρ2) : forL tg b (d :: ds) ρ = forL tg b ds ρ2 := by
  simp only [forL, h1, h2]
theorem pr1 {a k z : Nat} {c : Nat → Nat} (hst : ∀ i : Nat, i < z → evSs (T0 call sb gl) s22_1b (R22 a k (.val (.int ((c i : Nat) : Int))) (.val (.int (i : Nat)))) = .nx (R22 a k (.val (.int ((c (i + 1) : Nat) : Int))) (.val (.int (i : Nat))))) : ∀ (m i : Nat) (x3 : Slot), i + m ≤ z →
    ∃ x3', forL (.nm 3) (evSs (T0 call sb gl) s22_1b) (nts (List.range' i m)) (R22 a k (.val (.int ((c i : Nat) : Int))) x3) = .nx (R22 a k (.val (.int ((c (i + m) : Nat) : Int))) x3') := by
  intro m
  induction m with
  | zero =>
    intro i x3 _
    rw [Nat.add_zero]
    exact ⟨x3, rfl⟩
  | succ m ih =>
    intro i x3 h1
    rw [List.range'_succ]
    have e1 : bindT (.nm 3) (.int (i : Nat)) (R22 a k (.val (.int ((c i : Nat) : Int))) x3) = .ok (R22 a k (.val (.int ((c i : Nat) : Int))) (.val (.int (i : Nat)))) := rfl
    have e4 := hst i (by omega)
    generalize (R22 a k (.val (.int ((c i : Nat) : Int))) (.val (.int (i : Nat)))) = ρ at e1 e4
    obtain ⟨x3', e3⟩ := ih (i + 1) (.val (.int (i : Nat))) (by omega)
    refine ⟨x3', ?_⟩
    have e5 := forL_nx (ds := nts (List.range' (i + 1) m)) e1 e4
    rw [show nts (i :: List.range' (i + 1) m) = D.int ((i : Nat) : Int) :: nts (List.range' (i + 1) m) from rfl, e5, e3, show i + (m + 1) = i + 1 + m by omega]
theorem r22' {a k : Nat} (ha : a + 1 ≤ 2 ^ BG) (hk' : k ≤ 300) (h : k ≤ a) : (evSs (T0 call sb gl) b22 (R22 a k .none .none)).fin = .ok (.int ((ch a k : Nat) : Int)) := by
  rw [b22_is]
  have e1 : evS (T0 call sb gl) s22_0 (R22 a k .none .none) = .nx (R22 a k (.val (.int ((ch a 0 : Nat) : Int))) .none) := by
    rw [ch_0]
    rfl
  obtain ⟨x3', e2⟩ := pr1 (k := k) (call := call) (sb := sb) (gl := gl) (c := ch a) (z := k) (fun i hi => pr0d (by omega) (lt_ml (log_ok ha (by omega))) (lt_bg (by omega)) (ch_step a i)) k 0 .none (by omega)
  have e3 : evI (T0 call sb gl) s22_1i (R22 a k (.val (.int ((ch a 0 : Nat) : Int))) .none) = .ok (nts (List.range' 0 k)) := by
    rw [← List.range_eq_range']
    exact i_rng0 rfl (by omega)
  rw [Nat.zero_add] at e2
  rw [go e1, go ((for_is rfl rfl e3).trans e2)]
  refine ret_is (e := s22_2x) ?_
  generalize ch a k = c
  have e4 : evE (T0 call sb gl) (.bi .int [(.bin .ge (.var 0) (.var 1))]) (R22 a k (.val (.int (c : Int))) x3') = .ok (.int 1) := by
    rw [q_bi, bs_one (d := .bl true) (by
      rw [bin_ok (x := .int (a : Int)) (y := .int (k : Int)) rfl rfl]
      show R.ok (D.bl (decide ((k : Int) ≤ (a : Int)))) = _
      rw [decide_eq_true (by omega)])]
    rfl
  show evE (T0 call sb gl) (.bin .mul (.var 2) _) _ = _
  rw [bin_ok (x := .int (c : Int)) (y := .int 1) rfl e4]
  have e5 : mulOk (c : Int) 1 = true := by unfold mulOk; exact decide_eq_true (.inr ⟨by decide, by decide⟩)
  simp only [binD]
  rw [if_pos (by rw [e5, Bool.true_or]), Int.mul_one]
end
theorem r22 (n : Nat) {a k : Nat} (ha : a + 1 ≤ 2 ^ BG) (hk : k ≤ 300) (h : k ≤ a) : P.run (n + 1) false 22 [.int (a : Int), .int (k : Int)] = .ok (.int ((ch a k : Nat) : Int)) := by
  have hf : P.fn 22 = some ⟨2, 4, b22⟩ := rfl
  rw [run_1 hf rfl]
  exact r22' ha hk h
section
variable {call : Bool → Nat → List D → R D} {sb : Nat → Nat → Bool} {gl : Nat → D}
abbrev R23 (w : Nat) (r : List Nat) (x2 x3 : Slot) : Rho := [.val (.int (w : Int)), .val (tN r), x2, x3]
theorem pl1 {w : Nat} {r : List Nat} (hl : r.length ≤ w) (hc : ∀ p m : Nat, 1 ≤ p → p ≤ w → m ∈ r → call false 22 [.int ((m + p - 1 : Nat) : Int), .int (p : Int)] = .ok (.int ((bel p m : Nat) : Int))) : ∀ (s b : List Nat) (v : Nat) (x3 : Slot), r = b ++ s →
    ∃ x3', forL (.nm 3) (evSs (T0 call sb gl) s23_1b) (nts (List.range' b.length s.length)) (R23 w r (.val (.int (v : Int))) x3) = .nx (R23 w r (.val (.int ((v + num (w - b.length) s : Nat) : Int))) x3') := by
  intro s
  induction s with
  | nil => exact fun b v x3 _ => ⟨x3, rfl⟩
  | cons m s ih =>
    intro b v x3 hr
    rw [List.length_cons, List.range'_succ]
    have hbl : b.length < r.length := by rw [hr]; simp
    have hget : r[b.length] = m := by simp [hr]
    have e1 : bindT (.nm 3) (.int ((b.length : Nat) : Int)) (R23 w r (.val (.int (v : Int))) x3) = .ok (R23 w r (.val (.int (v : Int))) (.val (.int ((b.length : Nat) : Int)))) := rfl
    generalize hρ : (R23 w r (.val (.int (v : Int))) (.val (.int ((b.length : Nat) : Int)))) = ρ at e1
    have g1 : evE (T0 call sb gl) (.idx (.var 1) (.var 3)) ρ = .ok (.int (m : Int)) := by
      rw [← hρ, q_idx, vr rfl, ok_bind, vr' rfl, ok_bind]
      show getI (nts r) (b.length : Int) = _
      rw [getI_nat (by rw [List.length_map]; exact hbl)]
      simp [hget]
    have g2 : evE (T0 call sb gl) (.bin .sub (.bin .sub (.bin .add (.idx (.var 1) (.var 3)) (.var 0)) (.cst (.int 1))) (.var 3)) ρ = .ok (.int ((m + (w - b.length) - 1 : Nat) : Int)) := by
      rw [bin_ok (x := .int ((m : Int) + (w : Int) - 1)) (y := .int (b.length : Int)) (by
        rw [bin_ok (x := .int ((m : Int) + (w : Int))) (y := .int 1) (by rw [bin_ok (y := .int (w : Int)) g1 (by rw [← hρ]; rfl)]; rfl) rfl]
        rfl) (by rw [← hρ]; rfl)]
      show R.ok (D.int _) = _
      congr 2
      omega
    have g3 : evE (T0 call sb gl) (.bin .sub (.var 0) (.var 3)) ρ = .ok (.int ((w - b.length : Nat) : Int)) := by
      rw [bin_ok (x := .int (w : Int)) (y := .int (b.length : Int)) (by rw [← hρ]; rfl) (by rw [← hρ]; rfl)]
      show R.ok (D.int _) = _
      congr 2
      omega
    have ho : ([(.bin .sub (.bin .sub (.bin .add (.idx (.var 1) (.var 3)) (.var 0)) (.cst (.int 1))) (.var 3)), (.bin .sub (.var 0) (.var 3))] : List CE).any (ownArg ρ) = false := rfl
    have g4 := call_is (T := T0 call sb gl) ho (bs_two g2 g3) (hc (w - b.length) m (by omega) (by omega) (by rw [hr]; simp))
    have e2 : evS (T0 call sb gl) s23_1b0 ρ = .nx (R23 w r (.val (.int ((v + bel (w - b.length) m : Nat) : Int))) (.val (.int ((b.length : Nat) : Int)))) := by
      rw [set_is (d := .int ((v + bel (w - b.length) m : Nat) : Int)) (by rw [bin_ok (x := .int (v : Int)) (by rw [← hρ]; rfl) g4]; rfl), ← hρ]
      rfl
    obtain ⟨x3', e3⟩ := ih (b ++ [m]) (v + bel (w - b.length) m) (.val (.int ((b.length : Nat) : Int))) (by rw [hr]; simp)
    rw [List.length_append, List.length_singleton] at e3
    refine ⟨x3', ?_⟩
    have e4 : evSs (T0 call sb gl) s23_1b ρ = .nx (R23 w r (.val (.int ((v + bel (w - b.length) m : Nat) : Int))) (.val (.int ((b.length : Nat) : Int)))) := by
      rw [show s23_1b = [s23_1b0] from rfl, go e2]
      rfl
    simp only [List.map_cons, forL, e1, e4]
    rw [e3]
    congr 3
    show _ = _
    simp only [num]
    rw [show w - (b.length + 1) = w - b.length - 1 by omega]
    rw [Nat.add_assoc]
theorem r23' {w : Nat} {r : List Nat} (hw : w ≤ 300) (hl : r.length ≤ w) (hc : ∀ p m : Nat, 1 ≤ p → p ≤ w → m ∈ r → call false 22 [.int ((m + p - 1 : Nat) : Int), .int (p : Int)] = .ok (.int ((bel p m : Nat) : Int))) :
    (evSs (T0 call sb gl) b23 (R23 w r .none .none)).fin = .ok (.int ((num w r : Nat) : Int)) := by
  rw [b23_is]
  obtain ⟨x3', e2⟩ := pl1 (call := call) (sb := sb) (gl := gl) hl hc r [] 0 .none rfl
  have e3 : evI (T0 call sb gl) s23_1i (R23 w r (.val (.int ((0 : Nat) : Int))) .none) = .ok (nts (List.range' 0 r.length)) := by
    rw [← List.range_eq_range']
    refine i_rng0 ?_ (by omega)
    rw [q_bi, bs_one (d := tN r) rfl]
    show R.ok (D.int ((nts r).length : Int)) = _
    rw [List.length_map]
  rw [go (show evS (T0 call sb gl) s23_0 (R23 w r .none .none) = .nx (R23 w r (.val (.int ((0 : Nat) : Int))) .none) from rfl), go ((for_is rfl rfl e3).trans e2)]
  show R.ok (D.int ((0 + num (w - 0) r : Nat) : Int)) = _
  rw [Nat.zero_add, Nat.sub_zero]
end
theorem r23 (n : Nat) {w b : Nat} {r : List Nat} (hw : w ≤ 300) (h : Rwn b r) (hl : r.length ≤ w) (hb : b + 300 ≤ 2 ^ BG) : P.run (n + 2) false 23 [.int (w : Int), tN r] = .ok (.int ((num w r : Nat) : Int)) := by
  have hf : P.fn 23 = some ⟨2, 4, b23⟩ := rfl
  rw [run_1 hf rfl]
  refine r23' hw hl fun p m h1 h2 h3 => ?_
  have := Rwn.le h m h3
  have h0 := (Rwn.ge1 h m h3).1
  exact r22 n (by omega) (by omega) (by omega)
section
variable {call : Bool → Nat → List D → R D} {sb : Nat → Nat → Bool} {gl : Nat → D}
abbrev R25 (w : Nat) (r : List Nat) (x2 x3 : Slot) : Rho := [.val (.int (w : Int)), .val (tN r), x2, x3]
theorem r25' {w : Nat} {r : List Nat} (hw : 1 ≤ w) (hw2 : w ≤ 300) (hl : r.length ≤ w) : (evSs (T0 call sb gl) b25 (R25 w r .none .none)).fin = .ok (tN (aft w r)) := by
  rw [b25_is]
  have el : ∀ x2 x3 : Slot, evE (T0 call sb gl) (.bi .len [(.var 1)]) (R25 w r x2 x3) = .ok (.int (r.length : Int)) := fun x2 x3 => by
    rw [q_bi, bs_one (d := tN r) rfl]
    show R.ok (D.int ((nts r).length : Int)) = _
    rw [List.length_map]
  have ec : evT (T0 call sb gl) s25_0c (R25 w r .none .none) = .ok (decide (r.length < w)) := by
    rw [t_of, bv (bin_ok (x := .int (r.length : Int)) (y := .int (w : Int)) (el _ _) rfl)]
    show R.ok (decide ((r.length : Int) < (w : Int))) = _
    congr 1
    exact decide_eq_decide.mpr (by omega)
  unfold aft
  by_cases h : r.length < w
  · rw [ss_cons', ife_yes (by rw [ec, decide_eq_true h]), if_pos h]
    show ((evSs (T0 call sb gl) [s25_0t0] (R25 w r .none .none)).andThen _).fin = _
    have e1 : evE (T0 call sb gl) s25_0t0x (R25 w r .none .none) = .ok (tN (r ++ [1])) := by
      rw [bin_ok (x := tN r) (y := .tup [.int 1]) rfl rfl, add_tt (by rw [List.length_map, List.length_singleton]; omega)]
      show R.ok (D.tup _) = R.ok (D.tup _)
      congr 2
      simp
    rw [show evSs (T0 call sb gl) [s25_0t0] (R25 w r .none .none) = .ret (tN (r ++ [1])) by
      rw [ss_cons', s_ret', e1]; rfl]
    rfl
  · rw [pass_if (by rw [ec, decide_eq_false h]), if_neg h]
    have hne : r ≠ [] := by
      intro z
      rw [z] at h
      simp at h
      omega
    have hlp : 0 < r.length := List.length_pos_iff.mpr hne
    have e1 : evE (T0 call sb gl) s25_1x (R25 w r .none .none) = .ok (.int ((r.getLast?.getD 0 : Nat) : Int)) := by
      have e2 : evE (T0 call sb gl) (.bin .sub (.bi .len [(.var 1)]) (.cst (.int 1))) (R25 w r .none .none) = .ok (.int ((r.length - 1 : Nat) : Int)) := by
        rw [bin_ok (x := .int (r.length : Int)) (y := .int 1) (el _ _) rfl]
        show R.ok (D.int _) = _
        congr 2
        omega
      rw [q_idx, vr rfl, ok_bind, e2, ok_bind]
      show getI (nts r) ((r.length - 1 : Nat) : Int) = _
      rw [getI_nat (by rw [List.length_map]; omega), getD_last hne]
      have : r.length - 1 < r.length := by omega
      simp [List.getD, this]
    rw [go (set_is e1)]
    generalize r.getLast?.getD 0 = q
    refine ret_is (e := s25_2x) ?_
    have e3 : evE (T0 call sb gl) (.cmp (.nm 3) (.of (.var 1)) (.of (.bin .gt (.var 3) (.var 2))) (.var 3)) (R25 w r (.val (.int (q : Int))) .none) = .ok (.lst (nts (r.filter fun a => decide (q < a)))) := by
      refine cmp_is rfl rfl (xs := nts r) rfl (compL_im (F := fun x : Nat => .int (x : Int)) (G := fun x : Nat => .int (x : Int)) (p := fun a => decide (q < a)) fun m _ => ?_)
      unfold turnQ
      rw [show bindT (.nm 3) (D.int (m : Int)) (R25 w r (.val (.int (q : Int))) .none) = .ok (R25 w r (.val (.int (q : Int))) (.val (.int (m : Int)))) from rfl, ok_bind]
      have e2 : evT (T0 call sb gl) (.of (.bin .gt (.var 3) (.var 2))) (R25 w r (.val (.int (q : Int))) (.val (.int (m : Int)))) = .ok (decide (q < m)) := by
        show R.ok (decide ((q : Int) < (m : Int))) = _
        congr 1
        exact decide_eq_decide.mpr (by omega)
      rw [e2, ok_bind]
      cases decide (q < m) <;> rfl
    have hf : (r.filter fun a => decide (q < a)).length ≤ r.length := List.length_filter_le _ _
    show evE (T0 call sb gl) s25_2x (R25 w r (.val (.int (q : Int))) .none) = _
    rw [bin_ok (x := tN (r.filter fun a => decide (q < a))) (y := .tup [.int ((q + 1 : Nat) : Int)]) (tuple_ok e3) (one_tup (by rw [bin_ok (x := .int (q : Int)) (y := .int 1) rfl rfl]; rfl)), add_tt (by rw [List.length_map, List.length_singleton]; omega)]
    show R.ok (D.tup _) = R.ok (D.tup _)
    congr 2
    simp
end
theorem r25 (n : Nat) {w : Nat} {r : List Nat} (hw : 1 ≤ w) (hw2 : w ≤ 300) (hl : r.length ≤ w) : P.run (n + 1) false 25 [.int (w : Int), tN r] = .ok (tN (aft w r)) := by
  have hf : P.fn 25 = some ⟨2, 4, b25⟩ := rfl
  rw [run_1 hf rfl]
  exact r25' hw hw2 hl
end Vk19_whole_joining
end
section
set_option Elab.async false
set_option linter.all false
set_option maxRecDepth 100000
set_option maxHeartbeats 2000000
namespace Vk19_whole_joining
open PySem PySem.Spec Ev Nr
def Lt (b : List Nat) : Prop := ∀ x ∈ b, x < 983
theorem Lt.app {b : List Nat} {v : Nat} (h : Lt b) (hv : v < 983) : Lt (b ++ [v]) := fun x hx => by
  rcases List.mem_append.mp hx with q | q
  · exact h x q
  · rw [List.mem_singleton.mp q]; exact hv
section
variable {call : Bool → Nat → List D → R D} {sb : Nat → Nat → Bool} {gl : Nat → D}
theorem fdivI_is {x k : Int} (h : 0 < k ∧ k < 1073741824) : binD .fdiv (.int x) (.int k) = .ok (.int (x / k)) := by
  simp only [binD]
  rw [if_pos h]
theorem mulI_is {x k : Int} (h : -(2 ^ 64) < k ∧ k < 2 ^ 64) : binD .mul (.int x) (.int k) = .ok (.int (x * k)) := by
  have e : mulOk x k = true := by unfold mulOk; exact decide_eq_true (.inr h)
  simp only [binD]
  rw [if_pos (by rw [e, Bool.true_or])]
theorem mulW_is {x k : Int} (h : -(2 ^ 64) < x ∧ x < 2 ^ 64) : binD .mul (.int x) (.int k) = .ok (.int (x * k)) := by
  have e : mulOk x k = true := by unfold mulOk; exact decide_eq_true (.inl h)
  simp only [binD]
  rw [if_pos (by rw [e, Bool.true_or])]
theorem fd_ok {ρ : Rho} {e : CE} {x k : Int} (he : evE (T0 call sb gl) e ρ = .ok (.int x)) (h : 0 < k ∧ k < 1073741824) : evE (T0 call sb gl) (.bin .fdiv e (.cst (.int k))) ρ = .ok (.int (x / k)) := by
  rw [bin_ok he q_cst, fdivI_is h]
theorem ml_ok {ρ : Rho} {e : CE} {x k : Int} (he : evE (T0 call sb gl) e ρ = .ok (.int x)) (h : -(2 ^ 64) < k ∧ k < 2 ^ 64) : evE (T0 call sb gl) (.bin .mul e (.cst (.int k))) ρ = .ok (.int (x * k)) := by
  rw [bin_ok he q_cst, mulI_is h]
theorem mlx_ok {ρ : Rho} {e f : CE} {x k : Int} (he : evE (T0 call sb gl) e ρ = .ok (.int x)) (hf : evE (T0 call sb gl) f ρ = .ok (.int k)) (h : -(2 ^ 64) < k ∧ k < 2 ^ 64) : evE (T0 call sb gl) (.bin .mul e f) ρ = .ok (.int (x * k)) := by
  rw [bin_ok he hf, mulI_is h]
theorem ad_ok {ρ : Rho} {e f : CE} {x k : Int} (he : evE (T0 call sb gl) e ρ = .ok (.int x)) (hf : evE (T0 call sb gl) f ρ = .ok (.int k)) : evE (T0 call sb gl) (.bin .add e f) ρ = .ok (.int (x + k)) := by
  rw [bin_ok he hf]
  rfl
theorem md_ok {ρ : Rho} {e : CE} {x k : Int} (he : evE (T0 call sb gl) e ρ = .ok (.int x)) (h : 0 < k) : ∃ v : Nat, (v : Int) < k ∧ evE (T0 call sb gl) (.bin .mod e (.cst (.int k))) ρ = .ok (.int (v : Int)) := by
  obtain ⟨v, hv⟩ := Int.eq_ofNat_of_zero_le (a := x % k) (Int.emod_nonneg _ (by omega))
  refine ⟨v, ?_, ?_⟩
  · rw [← hv]; exact Int.emod_lt_of_pos _ h
  · rw [mod_ok he q_cst h, hv]
abbrev R18 (x k : Int) (x2 : Slot) : Rho := [.val (.int x), .val (.int k), x2]
theorem mx1 {x k : Int} (h : 0 ≤ k ∧ k ≤ 200) : -(2 ^ 64) < k * 6151 + 30011 ∧ k * 6151 + 30011 < 2 ^ 64 := by omega
theorem mx_a {x k : Int} (h : -(2 ^ 64) < k * 6151 + 30011 ∧ k * 6151 + 30011 < 2 ^ 64) : ∃ v : Int, evE (T0 call sb gl) s18_0x (R18 x k .none) = .ok (.int v) := by
  obtain ⟨a, _, ea⟩ := md_ok (call := call) (sb := sb) (gl := gl) (ρ := R18 x k .none) (k := 998244353) (int_ok (e := .var 0) (i := x) rfl) (by decide)
  exact ⟨_, mlx_ok (ad_ok ea (f := .cst (.int 1237)) q_cst) (ad_ok (ml_ok (e := .var 1) (x := k) (k := 6151) rfl ⟨by decide, by decide⟩) (f := .cst (.int 30011)) q_cst) h⟩
theorem mx_b {x k v : Int} : ∃ w : Int, evE (T0 call sb gl) s18_1x (R18 x k (.val (.int v))) = .ok (.int w) := by
  obtain ⟨a, _, ea⟩ := md_ok (call := call) (sb := sb) (gl := gl) (ρ := R18 x k (.val (.int v))) (k := 2147483629) (int_ok (e := .var 2) (i := v) rfl) (by decide)
  exact ⟨_, ml_ok (k := 40487) (ad_ok (fd_ok (k := 19) ea ⟨by decide, by decide⟩) (ml_ok (e := .var 1) (x := k) (k := 86453) rfl ⟨by decide, by decide⟩)) ⟨by decide, by decide⟩⟩
theorem mx_c {x k v : Int} : ∃ w : Nat, (w : Int) < 983 ∧ evE (T0 call sb gl) s18_2x (R18 x k (.val (.int v))) = .ok (.int (w : Int)) := by
  obtain ⟨a, _, ea⟩ := md_ok (call := call) (sb := sb) (gl := gl) (ρ := R18 x k (.val (.int v))) (k := 1999999943) (int_ok (e := .var 2) (i := v) rfl) (by decide)
  exact md_ok (k := 983) (fd_ok (k := 23) ea ⟨by decide, by decide⟩) (by decide)
theorem r18' {x k : Int} (h : 0 ≤ k ∧ k ≤ 200) : ∃ w : Nat, (w : Int) < 983 ∧ (evSs (T0 call sb gl) b18 (R18 x k .none)).fin = .ok (.int (w : Int)) := by
  rw [b18_is]
  obtain ⟨v, e1⟩ := mx_a (call := call) (sb := sb) (gl := gl) (x := x) (mx1 (x := x) h)
  obtain ⟨u, e2⟩ := mx_b (call := call) (sb := sb) (gl := gl) (x := x) (k := k) (v := v)
  obtain ⟨w, hw, e3⟩ := mx_c (call := call) (sb := sb) (gl := gl) (x := x) (k := k) (v := u)
  refine ⟨w, hw, ?_⟩
  rw [go (set_is e1)]
  show (evSs (T0 call sb gl) [s18_1, s18_2] (R18 x k (.val (.int v)))).fin = _
  rw [go (set_is e2)]
  exact ret_is e3
end
theorem r18 (n : Nat) {x k : Int} (h : 0 ≤ k ∧ k ≤ 200) : ∃ w : Nat, (w : Int) < 983 ∧ P.run (n + 1) false 18 [.int x, .int k] = .ok (.int (w : Int)) := by
  have hf : P.fn 18 = some ⟨2, 3, b18⟩ := rfl
  rw [run_1 hf rfl]
  exact r18' h
section
variable {call : Bool → Nat → List D → R D} {sb : Nat → Nat → Bool} {gl : Nat → D}
abbrev R19 (ns : List Int) (x2 x3 x4 x5 : Slot) : Rho := [.val (.frl (ns.map .int)), .val (.int 102), x2, x3, x4, x5]
theorem nts_app (b : List Nat) (v : Nat) : nts b ++ [.int (v : Int)] = nts (b ++ [v]) := by simp
theorem app_16 {ρ : Rho} {i : Nat} {b : List Nat} {e : CE} {v : Nat} (hb : ρ[i]? = some (.own (nts b))) (hl : b.length < 16777216) (he : evE (T0 call sb gl) e ρ = .ok (.int (v : Int))) : evS (T0 call sb gl) (.app i e) ρ = .nx (ρ.set i (.own (nts (b ++ [v])))) := by
  rw [s_app', hb]
  show (evE _ e _).on _ _ = _
  rw [he]
  show (if (nts b).length < 16777216 then RS.nx _ else _) = _
  rw [if_pos (by rw [List.length_map]; exact hl), nts_app]
theorem dr0 {ns : List Int} {b : List Nat} {x3 x5 : Slot} {c : Int} (hb : b.length < 16777216) (hl : Lt b) : ∃ b' c', Lt b' ∧ b'.length ≤ b.length + 1 ∧ evSs (T0 call sb gl) s19_1b1e0b (R19 ns (.own (nts b)) x3 (.val (.int c)) x5) = .nx (R19 ns (.own (nts b')) x3 (.val (.int c')) x5) := by
  have ec : evT (T0 call sb gl) s19_1b1e0b0c (R19 ns (.own (nts b)) x3 (.val (.int c)) x5) = .ok (decide (0 < c)) := by
    rw [t_of, bv (bin_ok (x := .int c) (y := .int 0) rfl rfl)]
    rfl
  rw [show s19_1b1e0b = [s19_1b1e0b0] from rfl]
  cases h : decide (0 < c) with
  | false =>
    refine ⟨b, c, hl, by omega, ?_⟩
    rw [pass_if (by rw [ec, h])]
    rfl
  | true =>
    obtain ⟨v, hv, ev⟩ := md_ok (call := call) (sb := sb) (gl := gl) (ρ := R19 ns (.own (nts b)) x3 (.val (.int c)) x5) (k := 983) (int_ok (e := .var 4) (i := c) rfl) (by decide)
    refine ⟨b ++ [v], c / 983, hl.app (by omega), by simp, ?_⟩
    have e1 : evS (T0 call sb gl) s19_1b1e0b0t0 (R19 ns (.own (nts b)) x3 (.val (.int c)) x5) = .nx (R19 ns (.own (nts (b ++ [v]))) x3 (.val (.int c)) x5) := app_16 rfl hb ev
    have e2 : evS (T0 call sb gl) s19_1b1e0b0t1 (R19 ns (.own (nts (b ++ [v]))) x3 (.val (.int c)) x5) = .nx (R19 ns (.own (nts (b ++ [v]))) x3 (.val (.int (c / 983))) x5) := set_is (fd_ok (k := 983) rfl ⟨by decide, by decide⟩)
    rw [go ((ife_yes (by rw [ec, h])).trans ((go e1).trans (go e2)))]
    rfl
theorem dr1 {ns : List Int} {x3 : Slot} {B : Nat} (hB : B < 16777216) (l : List Nat) : ∀ (b : List Nat) (c : Int) (x5 : Slot), Lt b → b.length + l.length ≤ B →
    ∃ (b' : List Nat) (c' : Int) (x5' : Slot), Lt b' ∧ b'.length ≤ b.length + l.length ∧ forL (.nm 5) (evSs (T0 call sb gl) s19_1b1e0b) (nts l) (R19 ns (.own (nts b)) x3 (.val (.int c)) x5) = .nx (R19 ns (.own (nts b')) x3 (.val (.int c')) x5') := by
  induction l with
  | nil => exact fun b c x5 h _ => ⟨b, c, x5, h, Nat.le_refl _, rfl⟩
  | cons i l ih =>
    intro b c x5 h hl
    rw [List.length_cons] at hl
    obtain ⟨b', c', h1, h2, e2⟩ := dr0 (call := call) (sb := sb) (gl := gl) (ns := ns) (b := b) (x3 := x3) (x5 := .val (.int (i : Nat))) (c := c) (Nat.lt_of_le_of_lt (by omega) hB) h
    have e1 : bindT (.nm 5) (.int (i : Nat)) (R19 ns (.own (nts b)) x3 (.val (.int c)) x5) = .ok (R19 ns (.own (nts b)) x3 (.val (.int c)) (.val (.int (i : Nat)))) := rfl
    obtain ⟨b2, c2, x5', g1, g2, e3⟩ := ih b' c' (.val (.int (i : Nat))) h1 (by omega)
    refine ⟨b2, c2, x5', g1, by rw [List.length_cons]; omega, ?_⟩
    exact (forL_nx (ds := nts l) e1 e2).trans e3
theorem dr2 {B : Nat} {ns : List Int} (hB : B < 16777216) (h15 : ∀ x k : Int, 0 ≤ k ∧ k ≤ 200 → ∃ w : Nat, (w : Int) < 983 ∧ call false 18 [.int x, .int k] = .ok (.int (w : Int))) (l : List Int) : ∀ (b : List Nat) (x3 x4 x5 : Slot), Lt b → b.length + 60 * l.length ≤ B →
    ∃ (b' : List Nat) (x3' x4' x5' : Slot), Lt b' ∧ b'.length ≤ b.length + 60 * l.length ∧ forL (.nm 3) (evSs (T0 call sb gl) s19_1b) (l.map .int) (R19 ns (.own (nts b)) x3 x4 x5) = .nx (R19 ns (.own (nts b')) x3' x4' x5') := by
  induction l with
  | nil => exact fun b x3 x4 x5 h _ => ⟨b, x3, x4, x5, h, Nat.le_refl _, rfl⟩
  | cons i l ih =>
    intro b x3 x4 x5 h hl
    rw [List.length_cons] at hl
    have e1 : bindT (.nm 3) (.int i) (R19 ns (.own (nts b)) x3 x4 x5) = .ok (R19 ns (.own (nts b)) (.val (.int i)) x4 x5) := rfl
    have e2 : evS (T0 call sb gl) s19_1b0 (R19 ns (.own (nts b)) (.val (.int i)) x4 x5) = .nx (R19 ns (.own (nts b)) (.val (.int i)) (.val (.int (if i < 0 then -i else i))) x5) := set_is (by rw [q_bi, bs_one (d := .int i) rfl]; rfl)
    have st : ∃ (b' : List Nat) (x4' x5' : Slot), Lt b' ∧ b'.length ≤ b.length + 60 ∧ evS (T0 call sb gl) s19_1b1 (R19 ns (.own (nts b)) (.val (.int i)) (.val (.int (if i < 0 then -i else i))) x5) = .nx (R19 ns (.own (nts b')) (.val (.int i)) x4' x5') := by
      generalize (if i < 0 then -i else i) = c
      have ec : ∃ t : Bool, evT (T0 call sb gl) s19_1b1c (R19 ns (.own (nts b)) (.val (.int i)) (.val (.int c)) x5) = .ok t := by
        refine ⟨decide (c < (10 : Int) ^ 18), ?_⟩
        rw [t_of, bv (bin_ok (x := .int c) (y := .int (10 ^ 18)) rfl (by rw [bin_ok (x := .int 10) (y := .int 18) rfl rfl]; rfl))]
        rfl
      obtain ⟨t, ec⟩ := ec
      cases t with
      | true =>
        obtain ⟨w, hw, e15⟩ := h15 i 2 ⟨by decide, by decide⟩
        refine ⟨b ++ [w], .val (.int c), x5, h.app (by omega), by simp, ?_⟩
        rw [ife_yes ec, go (app_16 rfl (Nat.lt_of_le_of_lt (by omega) hB) (call_is rfl (bs_two (d := .int i) (g := .int 2) rfl rfl) e15))]
        rfl
      | false =>
        obtain ⟨b', c', x5', h1, h2, e3⟩ := dr1 (call := call) (sb := sb) (gl := gl) (ns := ns) (x3 := .val (.int i)) hB (List.range 60) b c x5 h (by rw [List.length_range]; omega)
        rw [List.length_range] at h2
        refine ⟨b', .val (.int c'), x5', h1, h2, ?_⟩
        rw [ife_no ec, go ((for_is rfl rfl (i_rng0 (k := 60) rfl (by decide))).trans e3)]
        rfl
    obtain ⟨b', x4', x5', h1, h2, e3⟩ := st
    have e4 : evSs (T0 call sb gl) s19_1b (R19 ns (.own (nts b)) (.val (.int i)) x4 x5) = .nx (R19 ns (.own (nts b')) (.val (.int i)) x4' x5') := by
      rw [show s19_1b = [s19_1b0, s19_1b1] from rfl, go e2, go e3]
      rfl
    obtain ⟨b2, y3, y4, y5, g1, g2, e5⟩ := ih b' (.val (.int i)) x4' x5' h1 (by omega)
    refine ⟨b2, y3, y4, y5, g1, by rw [List.length_cons]; omega, ?_⟩
    exact (forL_nx (ds := l.map .int) e1 e4).trans e5
theorem len0 {ρ : Rho} {ns : List Int} (h : ρ[0]? = some (.val (.frl (ns.map .int)))) : evE (T0 call sb gl) (.bi .len [(.var 0)]) ρ = .ok (.int ns.length) := by
  rw [q_bi, bs_one (d := .frl (ns.map .int)) (vr' h)]
  simp [BI.hot, biD]
theorem dr3 {B : Nat} {ns : List Int} {x3 x4 : Slot} (hB : B < 16777216) (hn : 0 < ns.length) (h15 : ∀ x k : Int, 0 ≤ k ∧ k ≤ 200 → ∃ w : Nat, (w : Int) < 983 ∧ call false 18 [.int x, .int k] = .ok (.int (w : Int))) (l : List Nat) : ∀ (b : List Nat) (x5 : Slot), Lt b → b.length + l.length ≤ B → (∀ i ∈ l, i < 102) →
    ∃ (b' : List Nat) (x5' : Slot), Lt b' ∧ forL (.nm 5) (evSs (T0 call sb gl) s19_2t0b) (nts l) (R19 ns (.own (nts b)) x3 x4 x5) = .nx (R19 ns (.own (nts b')) x3 x4 x5') ∧ b'.length ≤ b.length + l.length := by
  induction l with
  | nil => exact fun b x5 h _ _ => ⟨b, x5, h, rfl, Nat.le_refl _⟩
  | cons i l ih =>
    intro b x5 h hl hi
    rw [List.length_cons] at hl
    have hi0 := hi i (by simp)
    have e1 : bindT (.nm 5) (.int (i : Nat)) (R19 ns (.own (nts b)) x3 x4 x5) = .ok (R19 ns (.own (nts b)) x3 x4 (.val (.int (i : Nat)))) := rfl
    generalize hρ : R19 ns (.own (nts b)) x3 x4 (.val (.int (i : Nat))) = ρ at e1
    have hm : ∃ m : Nat, 1 ≤ m ∧ m ≤ ns.length ∧ evE (T0 call sb gl) (.bi .min2 [(.cst (.int 63)), (.bi .len [(.var 0)])]) ρ = .ok (.int (m : Int)) := by
      refine ⟨if ns.length < 63 then ns.length else 63, by split <;> omega, by split <;> omega, ?_⟩
      rw [q_bi, bs_two (d := .int 63) (g := .int ns.length) rfl (len0 (by rw [← hρ]; rfl))]
      show R.ok (D.int (if (ns.length : Int) < 63 then (ns.length : Int) else 63)) = _
      congr 2
      split <;> split <;> omega
    obtain ⟨m, hm1, hm2, em⟩ := hm
    have eq : evE (T0 call sb gl) (.bin .mod (.var 5) (.bi .min2 [(.cst (.int 63)), (.bi .len [(.var 0)])])) ρ = .ok (.int ((i % m : Nat) : Int)) := by
      rw [mod_ok (i := (i : Int)) (m := (m : Int)) (by rw [← hρ]; rfl) em (by omega)]
      rfl
    have hlt : i % m < ns.length := Nat.lt_of_lt_of_le (Nat.mod_lt i (by omega)) hm2
    have ei : evE (T0 call sb gl) (.idx (.var 0) (.bin .mod (.var 5) (.bi .min2 [(.cst (.int 63)), (.bi .len [(.var 0)])]))) ρ = .ok (.int ns[i % m]) := by
      rw [q_idx, vr (d := .frl (ns.map .int)) (by rw [← hρ]; rfl), ok_bind, eq, ok_bind]
      show getI (ns.map D.int) ((i % m : Nat) : Int) = _
      rw [getI_nat (by rw [List.length_map]; exact hlt)]
      simp
    obtain ⟨w, hw, e15⟩ := h15 ns[i % m] (((i : Nat) : Int) + 7) ⟨by omega, by omega⟩
    have ec : evE (T0 call sb gl) s19_2t0b0x ρ = .ok (.int (w : Int)) := call_is rfl (bs_two ei (ad_ok (x := ((i : Nat) : Int)) (k := 7) (by rw [← hρ]; rfl) rfl)) e15
    have e2 : evSs (T0 call sb gl) s19_2t0b ρ = .nx (R19 ns (.own (nts (b ++ [w]))) x3 x4 (.val (.int (i : Nat)))) := by
      rw [show s19_2t0b = [s19_2t0b0] from rfl, go (app_16 (b := b) (by rw [← hρ]; rfl) (Nat.lt_of_le_of_lt (by omega) hB) ec), ← hρ]
      rfl
    obtain ⟨b', x5', g1, e3, g2⟩ := ih (b ++ [w]) (.val (.int (i : Nat))) (h.app (by omega)) (by rw [List.length_append, List.length_singleton]; omega) fun j hj => hi j (List.mem_cons_of_mem _ hj)
    refine ⟨b', x5', g1, (forL_nx (ds := nts l) e1 e2).trans e3, ?_⟩
    rw [List.length_append, List.length_singleton] at g2
    rw [List.length_cons]
    omega
end
end Vk19_whole_joining
end
section
set_option Elab.async false
set_option linter.all false
set_option maxRecDepth 100000
set_option maxHeartbeats 2000000
namespace Vk19_whole_joining
open PySem PySem.Spec Ev Nr
theorem cut_take {α : Type} (xs : List α) (k : Nat) : cutL xs none (some (k : Int)) = xs.take k := by
  show List.take ((if ((k : Nat) : Int) < 0 then (((k : Nat) : Int) + xs.length).toNat else min ((k : Nat) : Int).toNat xs.length) - 0) (xs.drop 0) = _
  rw [if_neg (by omega), List.drop_zero, Nat.sub_zero, Int.toNat_natCast, List.take_eq_take_iff]
  omega
def Dr (b : List Nat) : Prop := b.length = 102 ∧ Lt b
section
variable {call : Bool → Nat → List D → R D} {sb : Nat → Nat → Bool} {gl : Nat → D}
theorem rep0 (k : Nat) : repL (k : Int) [D.int 0] = nts (List.replicate k 0) := by
  unfold repL
  rw [Int.toNat_natCast]
  induction k with
  | zero => rfl
  | succ k ih =>
    rw [List.replicate_succ, List.flatten_cons, ih]
    rfl
theorem B16 {a b : Nat} (ha : a ≤ 63) (hb : b ≤ 102) : 60 * a + b + 102 < 16777216 := Nat.lt_of_le_of_lt (show _ ≤ 5000 by omega) (by decide)
theorem r19e {ns : List Int} {b : List Nat} {x3 x4 x5 : Slot} (hb : Lt b) (hl : b.length + 102 ≤ 16777216) : Ok ((evSs (T0 call sb gl) [s19_3, s19_4] (R19 ns (.own (nts b)) x3 x4 x5)).fin) fun d => ∃ b, Dr b ∧ d = .lst (nts b) := by
  have e1 : evE (T0 call sb gl) s19_3x (R19 ns (.own (nts b)) x3 x4 x5) = .ok (.lst (nts (b ++ List.replicate 102 0))) := by
    have e2 : evE (T0 call sb gl) (.bin .mul (.lst [(.cst (.int 0))]) (.var 1)) (R19 ns (.own (nts b)) x3 x4 x5) = .ok (.lst (nts (List.replicate 102 0))) := by
      rw [← rep0]
      rfl
    rw [show s19_3x = .bin .add (.var 2) (.bin .mul (.lst [(.cst (.int 0))]) (.var 1)) from rfl, bin_is (T := T0 call sb gl) (ρ := R19 ns (.own (nts b)) x3 x4 x5) (a := .var 2) (b := .bin .mul (.lst [(.cst (.int 0))]) (.var 1)) (x := .lst (nts b)) (y := .lst (nts (List.replicate 102 0))) rfl e2, add_ll (by rw [List.length_map, List.length_map, List.length_replicate]; exact hl)]
    unfold nts
    rw [List.map_append]
  refine ok_own e1 ?_
  generalize hc : b ++ List.replicate 102 0 = c
  have hcl : 102 ≤ c.length := by
    rw [← hc, List.length_append, List.length_replicate]
    omega
  refine ok_ret ⟨.lst (nts (c.take 102)), ?_, c.take 102, ⟨by rw [List.length_take]; omega, fun x hx => ?_⟩, rfl⟩
  · show evE (T0 call sb gl) (.slc (.var 2) none (some (.var 1))) (R19 ns (.own (nts c)) x3 x4 x5) = _
    rw [q_slc, q_bv]
    show R.ok (D.lst (cutL (nts c) none (some 102))) = _
    rw [cutL_map]
    have e : cutL c none (some 102) = c.take 102 := cut_take c 102
    rw [e]
  · have := List.mem_of_mem_take hx
    rw [← hc] at this
    rcases List.mem_append.mp this with q | q
    · exact hb x q
    · rw [(List.mem_replicate.mp q).2]; decide
theorem r19' {ns : List Int} (hl : ns.length ≤ 1000) (h15 : ∀ x k : Int, 0 ≤ k ∧ k ≤ 200 → ∃ w : Nat, (w : Int) < 983 ∧ call false 18 [.int x, .int k] = .ok (.int (w : Int))) :
    Ok ((evSs (T0 call sb gl) b19 (R19 ns .none .none .none .none)).fin) fun d => ∃ b, Dr b ∧ d = .lst (nts b) := by
  rw [b19_is]
  have e0 : evS (T0 call sb gl) s19_0 (R19 ns .none .none .none .none) = .nx (R19 ns (.own (nts [])) .none .none .none) := rfl
  refine ok_go e0 ?_
  have hcut : evI (T0 call sb gl) s19_1i (R19 ns (.own (nts [])) .none .none .none) = .ok ((ns.take 63).map .int) := by
    show evI (T0 call sb gl) (.of (.slc (.var 0) none (some (.cst (.int 63))))) (R19 ns (.own (nts [])) .none .none .none) = _
    rw [i_of]
    show (evE (T0 call sb gl) (.slc (.var 0) none (some (.cst (.int 63)))) _ >>= _) = _
    rw [q_slc, q_bv]
    show R.ok (cutL (ns.map D.int) none (some 63)) = _
    rw [cutL_map]
    have e : cutL ns none (some 63) = ns.take 63 := cut_take ns 63
    rw [e]
  have htl : (ns.take 63).length ≤ 63 := by rw [List.length_take]; omega
  obtain ⟨b1, x3, x4, x5, h1, h2, e1⟩ := dr2 (call := call) (sb := sb) (gl := gl) (ns := ns) (B := 4000) (by decide) h15 (ns.take 63) [] .none .none .none (fun x hx => nomatch hx) (by simp only [List.length_nil]; omega)
  simp only [List.length_nil] at h2
  refine ok_go ((for_is rfl rfl hcut).trans e1) ?_
  have hb1 : b1.length ≤ 3780 := by omega
  have ec : evT (T0 call sb gl) s19_2c (R19 ns (.own (nts b1)) x3 x4 x5) = .ok (decide (0 < ns.length)) := by
    rw [t_of, bv (bin_ok (x := .int ns.length) (y := .int 0) (len0 rfl) rfl)]
    show R.ok (decide ((0 : Int) < (ns.length : Int))) = _
    congr 1
    exact decide_eq_decide.mpr (by omega)
  refine ok_if ec (fun hn => ?_) fun _ => r19e h1 (Nat.le_trans (show _ ≤ 4000 by omega) (by decide))
  obtain ⟨b2, x5', g1, e2, g2⟩ := dr3 (call := call) (sb := sb) (gl := gl) (ns := ns) (x3 := x3) (x4 := x4) (B := 4000) (by decide) (of_decide_eq_true hn) h15 (List.range 102) b1 x5 h1 (by rw [List.length_range]; omega) fun i hi => List.mem_range.mp hi
  rw [List.length_range] at g2
  show Ok ((evSs (T0 call sb gl) [s19_2t0, s19_3, s19_4] _).fin) _
  refine ok_go ((for_is rfl rfl (i_rng0 (k := 102) rfl (by decide))).trans e2) ?_
  exact r19e g1 (Nat.le_trans (show _ ≤ 4000 by omega) (by decide))
end
theorem r19 (n : Nat) {ns : List Int} (hl : ns.length ≤ 1000) : Ok (P.run (n + 2) false 19 [.frl (ns.map .int), .int 102]) fun d => ∃ b, Dr b ∧ d = .lst (nts b) := by
  have hf : P.fn 19 = some ⟨2, 6, b19⟩ := rfl
  rw [run_1 hf rfl]
  exact r19' hl fun x k h => r18 n h
theorem Dr.get {b : List Nat} (h : Dr b) {k : Nat} (hk : k < 102) : ∃ v : Nat, v < 983 ∧ getI (nts b) (k : Int) = .ok (.int (v : Int)) := by
  have hk' : k < b.length := by rw [h.1]; exact hk
  refine ⟨b[k], h.2 _ (List.getElem_mem hk'), ?_⟩
  rw [getI_nat (by rw [List.length_map]; exact hk')]
  simp
theorem Dr.at {T : Tb} {ρ : Rho} {i : Nat} {e : CE} {b : List Nat} (h : Dr b) {k : Nat} (hb : ρ[i]? = some (.val (.lst (nts b)))) (he : evE T e ρ = .ok (.int (k : Int))) (hk : k < 102) : ∃ v : Nat, v < 983 ∧ evE T (.idx (.var i) e) ρ = .ok (.int (v : Int)) := by
  obtain ⟨v, hv, e1⟩ := h.get hk
  refine ⟨v, hv, ?_⟩
  rw [q_idx, vr hb, ok_bind, he, ok_bind]
  exact e1
section
variable {call : Bool → Nat → List D → R D} {sb : Nat → Nat → Bool} {gl : Nat → D}
abbrev R21 (b : List Nat) (k : Nat) (x2 x3 : Slot) : Rho := [.val (.lst (nts b)), .val (.int (k : Int)), x2, x3]
theorem mn_ok {T : Tb} {ρ : Rho} {e : CE} {x k : Nat} (he : evE T e ρ = .ok (.int (x : Int))) (h : 0 < k) : evE T (.bin .mod e (.cst (.int (k : Int)))) ρ = .ok (.int ((x % k : Nat) : Int)) := by
  rw [mod_ok he q_cst (by omega)]
  rfl
theorem an_ok {T : Tb} {ρ : Rho} {e f : CE} {x k : Nat} (he : evE T e ρ = .ok (.int (x : Int))) (hf : evE T f ρ = .ok (.int (k : Int))) : evE T (.bin .add e f) ρ = .ok (.int ((x + k : Nat) : Int)) := by
  rw [bin_ok he hf]
  rfl
theorem gr1 {b : List Nat} {k : Nat} (h : Dr b) (hk : k + 11 ≤ 102) : ∀ (m i v : Nat) (x3 : Slot), v < 983 ^ i → i + m ≤ 10 →
    ∃ v' x3', v' < 983 ^ (i + m) ∧ forL (.nm 3) (evSs (T0 call sb gl) s21_1b) (nts (List.range' i m)) (R21 b k (.val (.int (v : Int))) x3) = .nx (R21 b k (.val (.int ((v' : Nat) : Int))) x3') := by
  intro m
  induction m with
  | zero => exact fun i v x3 hv _ => ⟨v, x3, hv, rfl⟩
  | succ m ih =>
    intro i v x3 hv hi
    rw [List.range'_succ]
    have e1 : bindT (.nm 3) (.int (i : Nat)) (R21 b k (.val (.int (v : Int))) x3) = .ok (R21 b k (.val (.int (v : Int))) (.val (.int (i : Nat)))) := rfl
    generalize hρ : R21 b k (.val (.int (v : Int))) (.val (.int (i : Nat))) = ρ at e1
    obtain ⟨x, hx, ex⟩ := h.at (T := T0 call sb gl) (ρ := ρ) (i := 0) (e := (.bin .add (.bin .add (.var 1) (.cst (.int 1))) (.var 3))) (k := k + 1 + i) (by rw [← hρ]; rfl) (an_ok (an_ok (x := k) (k := 1) (by rw [← hρ]; rfl) rfl) (by rw [← hρ]; rfl)) (by omega)
    have em : evE (T0 call sb gl) (.bin .mul (.var 2) (.cst (.int 983))) ρ = .ok (.int ((v * 983 : Nat) : Int)) := by
      rw [ml_ok (x := (v : Int)) (k := 983) (by rw [← hρ]; rfl) ⟨by decide, by decide⟩]
      rfl
    have e2 : evSs (T0 call sb gl) s21_1b ρ = .nx (R21 b k (.val (.int ((v * 983 + x : Nat) : Int))) (.val (.int (i : Nat)))) := by
      rw [show s21_1b = [s21_1b0] from rfl, go (set_is (an_ok em ex)), ← hρ]
      rfl
    have hv2 : v * 983 + x < 983 ^ (i + 1) := by
      rw [Nat.pow_succ]
      have : (v + 1) * 983 ≤ 983 ^ i * 983 := Nat.mul_le_mul_right 983 hv
      omega
    obtain ⟨v', x3', g1, e3⟩ := ih (i + 1) (v * 983 + x) (.val (.int (i : Nat))) hv2 (by omega)
    refine ⟨v', x3', by rw [show i + (m + 1) = i + 1 + m by omega]; exact g1, ?_⟩
    exact (forL_nx (ds := nts (List.range' (i + 1) m)) e1 e2).trans e3
theorem big_le {v i : Nat} (h : v < 983 ^ i) (hi : i ≤ 10) : v < 10 ^ 30 := by
  have h1 : 983 ^ i ≤ 983 ^ 10 := Nat.pow_le_pow_right (by decide) hi
  have h2 : 983 ^ 10 < 10 ^ 30 := by decide
  exact Nat.lt_trans (Nat.lt_of_lt_of_le h h1) h2
theorem r21' {b : List Nat} {k : Nat} (h : Dr b) (hk : k + 11 ≤ 102) : ∃ v : Nat, v < 10 ^ 30 ∧ (evSs (T0 call sb gl) b21 (R21 b k .none .none)).fin = .ok (.int (v : Int)) := by
  rw [b21_is]
  have e0 : evS (T0 call sb gl) s21_0 (R21 b k .none .none) = .nx (R21 b k (.val (.int ((0 : Nat) : Int))) .none) := rfl
  obtain ⟨x, hx, ex⟩ := h.at (T := T0 call sb gl) (ρ := R21 b k (.val (.int ((0 : Nat) : Int))) .none) (i := 0) (e := .var 1) (k := k) rfl rfl (by omega)
  have er : evI (T0 call sb gl) s21_1i (R21 b k (.val (.int ((0 : Nat) : Int))) .none) = .ok (nts (List.range (1 + x % 10))) :=
    i_rng0 (an_ok (x := 1) rfl (mn_ok (k := 10) ex (by decide))) (by omega)
  rw [List.range_eq_range'] at er
  have hm : x % 10 < 10 := Nat.mod_lt _ (by decide)
  obtain ⟨v, x3', hv, e2⟩ := gr1 (call := call) (sb := sb) (gl := gl) h hk (1 + x % 10) 0 0 .none (by decide) (by omega)
  refine ⟨v, big_le hv (by omega), ?_⟩
  rw [go e0, go ((for_is rfl rfl er).trans e2)]
  rfl
end
theorem r21 (n : Nat) {b : List Nat} {k : Nat} (h : Dr b) (hk : k + 11 ≤ 102) : ∃ v : Nat, v < 10 ^ 30 ∧ P.run (n + 1) false 21 [.lst (nts b), .int (k : Int)] = .ok (.int (v : Int)) := by
  have hf : P.fn 21 = some ⟨2, 4, b21⟩ := rfl
  rw [run_1 hf rfl]
  exact r21' h hk
end Vk19_whole_joining
end
section
set_option Elab.async false
set_option linter.all false
set_option maxRecDepth 100000
namespace Nr
open Ev
def insN (x : Nat) : List Nat → List Nat
  | [] => [x]
  | y :: r => if y ≤ x then x :: y :: r else y :: insN x r
def srtN (l : List Nat) : List Nat := l.foldr insN []
def cut (w : Nat) (l : List Nat) : List Nat := (srtN l).take w
theorem insN_perm (x : Nat) : ∀ l : List Nat, (insN x l).Perm (x :: l)
  | [] => .refl _
  | y :: r => by
    simp only [insN]
    split
    · exact .refl _
    · exact ((insN_perm x r).cons y).trans (.swap x y r)
theorem srtN_perm : ∀ l : List Nat, (srtN l).Perm l
  | [] => .refl _
  | x :: r => (insN_perm x (srtN r)).trans ((srtN_perm r).cons x)
theorem insN_desc (x : Nat) : ∀ l : List Nat, l.Pairwise (· ≥ ·) → (insN x l).Pairwise (· ≥ ·)
  | [], _ => List.pairwise_singleton _ _
  | y :: r, h => by
    have h' := List.pairwise_cons.mp h
    simp only [insN]
    split
    · rename_i hxy
      exact List.pairwise_cons.mpr ⟨fun z hz => (List.mem_cons.mp hz).elim (fun e => e ▸ hxy) fun hz => Nat.le_trans (h'.1 z hz) hxy, h⟩
    · rename_i hxy
      refine List.pairwise_cons.mpr ⟨fun z hz => ?_, insN_desc x r h'.2⟩
      rcases List.mem_cons.mp ((insN_perm x r).mem_iff.mp hz) with e | hz
      · rw [e]; show x ≤ y; omega
      · exact h'.1 z hz
theorem srtN_desc : ∀ l : List Nat, (srtN l).Pairwise (· ≥ ·)
  | [] => .nil
  | x :: r => insN_desc x _ (srtN_desc r)
theorem desc_uniq {l m : List Nat} (p : l.Perm m) (h1 : l.Pairwise (· ≥ ·)) (h2 : m.Pairwise (· ≥ ·)) : l = m :=
  p.eq_of_pairwise (fun a b _ _ (x : b ≤ a) (y : a ≤ b) => Nat.le_antisymm y x) h1 h2
theorem srtN_congr {l m : List Nat} (p : l.Perm m) : srtN l = srtN m :=
  desc_uniq (((srtN_perm l).trans p).trans (srtN_perm m).symm) (srtN_desc l) (srtN_desc m)
theorem srtN_self {l : List Nat} (h : l.Pairwise (· ≥ ·)) : srtN l = l := desc_uniq (srtN_perm l) (srtN_desc l) h
theorem cut_congr {w : Nat} {l m : List Nat} (p : l.Perm m) : cut w l = cut w m := by
  unfold cut
  rw [srtN_congr p]
theorem cut_desc (w : Nat) (l : List Nat) : (cut w l).Pairwise (· ≥ ·) := (srtN_desc l).sublist (List.take_sublist w _)
theorem cut_len (w : Nat) (l : List Nat) : (cut w l).length ≤ w := by
  unfold cut
  rw [List.length_take]
  omega
theorem cut_mem {w : Nat} {l : List Nat} {x : Nat} (h : x ∈ cut w l) : x ∈ l := (srtN_perm l).mem_iff.mp (List.mem_of_mem_take h)
theorem Rwn.desc' : ∀ {b : Nat} {r : List Nat}, Rwn b r → r.Pairwise (· ≥ ·)
  | _, _, .nil _ => .nil
  | _, _, .cons h1 h2 h3 => List.pairwise_cons.mpr ⟨fun z hz => (Rwn.ge1 h3 z hz).2, Rwn.desc' h3⟩
theorem Rwn.of : ∀ {b : Nat} {r : List Nat}, r.Pairwise (· ≥ ·) → (∀ x ∈ r, 1 ≤ x ∧ x ≤ b) → Rwn b r
  | b, [], _, _ => .nil b
  | b, x :: r, h, g => by
    have h' := List.pairwise_cons.mp h
    have gx := g x (by simp)
    exact .cons gx.1 gx.2 (Rwn.of h'.2 fun z hz => ⟨(g z (by simp [hz])).1, h'.1 z hz⟩)
theorem cut_self {w b : Nat} {r : List Nat} (h : Rwn b r) (hl : r.length ≤ w) : cut w r = r := by
  unfold cut
  rw [srtN_self h.desc', List.take_of_length_le hl]
theorem cut_row {w b : Nat} {l : List Nat} (h : ∀ x ∈ l, 1 ≤ x ∧ x ≤ b) : Rwn b (cut w l) := Rwn.of (cut_desc w l) fun x hx => h x (cut_mem hx)
theorem insN_take (x : Nat) : ∀ (w : Nat) (l : List Nat), (insN x l).take w = (insN x (l.take w)).take w
  | 0, l => by simp
  | w + 1, [] => rfl
  | w + 1, y :: r => by
    simp only [List.take_succ_cons, insN]
    split
    · simp only [List.take_succ_cons]
      cases w with
      | zero => rfl
      | succ w =>
        simp only [List.take_succ_cons, List.take_take]
        rw [show min w (w + 1) = w by omega]
    · simp only [List.take_succ_cons]
      rw [insN_take x w r]
theorem fold_take (w : Nat) (s : List Nat) : ∀ b : List Nat, (b.foldr insN s).take w = (b.foldr insN (s.take w)).take w
  | [] => by
    show s.take w = (s.take w).take w
    rw [List.take_take, Nat.min_self]
  | x :: b => by
    show (insN x (b.foldr insN s)).take w = (insN x (b.foldr insN (s.take w))).take w
    rw [insN_take, fold_take w s b, ← insN_take]
theorem cut_more (w : Nat) (a b : List Nat) : cut w (b ++ cut w a) = cut w (b ++ a) := by
  have e1 : srtN (b ++ cut w a) = b.foldr insN (cut w a) := by
    unfold srtN
    rw [List.foldr_append]
    exact congrArg (fun s => b.foldr insN s) (srtN_self (cut_desc w a))
  have e2 : srtN (b ++ a) = b.foldr insN (srtN a) := by
    unfold srtN
    rw [List.foldr_append]
  unfold cut at e1 ⊢
  rw [e1, e2, ← fold_take]
theorem cut_left (w : Nat) (a b : List Nat) : cut w (cut w a ++ b) = cut w (a ++ b) := by
  rw [cut_congr (List.perm_append_comm (l₁ := cut w a)), cut_more, cut_congr List.perm_append_comm]
def reps (k : Nat) (r : List Nat) : List Nat := (List.replicate k r).flatten
theorem reps_s (k : Nat) (r : List Nat) : reps (k + 1) r = r ++ reps k r := by
  unfold reps
  rw [List.replicate_succ, List.flatten_cons]
theorem reps_nil (k : Nat) : reps k [] = [] := by
  induction k with
  | zero => rfl
  | succ k ih => rw [reps_s, ih]; rfl
theorem reps_perm {r s : List Nat} (p : r.Perm s) : ∀ k, (reps k r).Perm (reps k s)
  | 0 => .refl _
  | k + 1 => by
    rw [reps_s, reps_s]
    exact p.append (reps_perm p k)
theorem reps_cons (m : Nat) (t : List Nat) : ∀ k, (reps k (m :: t)).Perm (List.replicate k m ++ reps k t)
  | 0 => .refl _
  | k + 1 => by
    rw [reps_s, reps_s, List.replicate_succ]
    have ih := reps_cons m t k
    show (m :: (t ++ reps k (m :: t))).Perm (m :: (List.replicate k m ++ (t ++ reps k t)))
    refine List.Perm.cons m ?_
    have e : (t ++ (List.replicate k m ++ reps k t)).Perm (List.replicate k m ++ (t ++ reps k t)) := by
      rw [← List.append_assoc, ← List.append_assoc]
      exact List.Perm.append_right _ List.perm_append_comm
    exact (List.Perm.append_left t ih).trans e
theorem reps_mem {k x : Nat} {r : List Nat} (h : x ∈ reps k r) : x ∈ r := by
  unfold reps at h
  obtain ⟨l, hl, hx⟩ := List.mem_flatten.mp h
  rw [(List.mem_replicate.mp hl).2] at hx
  exact hx
theorem cut_reps {w k : Nat} {m : Nat} {t : List Nat} (hk : w ≤ k) (ht : ∀ x ∈ t, x ≤ m) : cut w (reps k (m :: t)) = List.replicate w m := by
  rw [cut_congr (reps_cons m t k)]
  have e : srtN (List.replicate k m ++ reps k t) = List.replicate k m ++ srtN (reps k t) := by
    refine desc_uniq ((srtN_perm _).trans (List.Perm.append_left _ (srtN_perm _).symm)) (srtN_desc _) ?_
    refine List.pairwise_append.mpr ⟨?_, srtN_desc _, fun a ha b hb => ?_⟩
    · rw [List.pairwise_replicate]
      exact .inr (Nat.le_refl m)
    · rw [(List.mem_replicate.mp ha).2]
      exact ht b (reps_mem ((srtN_perm _).mem_iff.mp hb))
  unfold cut
  rw [e, List.take_append_of_le_length (by rw [List.length_replicate]; exact hk), List.take_replicate, Nat.min_eq_left hk]
theorem cut_many {w k : Nat} (r : List Nat) (hk : w ≤ k) : cut w (reps k r) = cut w (reps w r) := by
  have p := srtN_perm r
  rw [cut_congr (reps_perm p.symm k), cut_congr (reps_perm p.symm w)]
  have hd := srtN_desc r
  cases e : srtN r with
  | nil => rw [reps_nil, reps_nil]
  | cons m t =>
    rw [e] at hd
    have h := (List.pairwise_cons.mp hd).1
    rw [cut_reps hk h, cut_reps (Nat.le_refl w) h]
theorem cut_min (w k : Nat) (r : List Nat) : cut w (reps (min k w) r) = cut w (reps k r) := by
  rcases Nat.le_total k w with h | h
  · rw [Nat.min_eq_left h]
  · rw [Nat.min_eq_right h, cut_many r h]
theorem num_ge : ∀ {p c : Nat} {r : List Nat}, r.length ≤ p → (∃ x t, r = x :: t ∧ c + 1 ≤ x) → bel p (c + 1) ≤ num p r
  | p, c, r, hl, ⟨x, t, e, h⟩ => by
    subst e
    have hp : 1 ≤ p := by simp at hl; omega
    have := bel_mono hp h
    show bel p (c + 1) ≤ bel p x + num (p - 1) t
    omega
theorem num_room {p c b : Nat} {r : List Nat} (h : Rwn b r) (hl : r.length ≤ p) : num p r < bel p (c + 1) ↔ ∀ x ∈ r, x ≤ c := by
  constructor
  · intro hn
    cases h with
    | nil => intro x hx; cases hx
    | cons h1 h2 h3 =>
      rename_i m t
      have hm : m ≤ c := by
        apply Classical.byContradiction
        intro hc
        have := num_ge (c := c) hl ⟨m, t, rfl, by omega⟩
        omega
      intro x hx
      rcases List.mem_cons.mp hx with e | hx
      · rw [e]; exact hm
      · exact Nat.le_trans (Rwn.ge1 h3 x hx).2 hm
  · intro hx
    exact num_lt (Rwn.of h.desc' fun x hm => ⟨(Rwn.ge1 h x hm).1, hx x hm⟩) hl
theorem cut_room {w c : Nat} (hw : 1 ≤ w) (l : List Nat) : (∀ x ∈ cut w l, x ≤ c) ↔ ∀ x ∈ l, x ≤ c := by
  constructor
  · intro h x hx
    have hd := srtN_desc l
    have hx' : x ∈ srtN l := (srtN_perm l).mem_iff.mpr hx
    unfold cut at h
    cases e : srtN l with
    | nil => rw [e] at hx'; cases hx'
    | cons m t =>
      rw [e] at hd hx' h
      obtain ⟨v, rfl⟩ : ∃ v, w = v + 1 := ⟨w - 1, by omega⟩
      have hm := h m (by rw [List.take_succ_cons]; simp)
      rcases List.mem_cons.mp hx' with q | q
      · rw [q]; exact hm
      · exact Nat.le_trans ((List.pairwise_cons.mp hd).1 x q) hm
  · exact fun h x hx => h x (cut_mem hx)
theorem insI_perm' (x : Int) : ∀ l : List Int, (insI x l).Perm (x :: l)
  | [] => .refl _
  | y :: r => by
    simp only [insI]
    split
    · exact .refl _
    · exact ((insI_perm' x r).cons y).trans (.swap x y r)
theorem sortI_perm' : ∀ l : List Int, (sortI l).Perm l
  | [] => .refl _
  | x :: r => (insI_perm' x (sortI r)).trans ((sortI_perm' r).cons x)
theorem insI_asc (x : Int) : ∀ l : List Int, l.Pairwise (· ≤ ·) → (insI x l).Pairwise (· ≤ ·)
  | [], _ => List.pairwise_singleton _ _
  | y :: r, h => by
    have h' := List.pairwise_cons.mp h
    simp only [insI]
    split
    · rename_i hxy
      exact List.pairwise_cons.mpr ⟨fun z hz => (List.mem_cons.mp hz).elim (fun e => e ▸ hxy) fun hz => Int.le_trans hxy (h'.1 z hz), h⟩
    · rename_i hxy
      refine List.pairwise_cons.mpr ⟨fun z hz => ?_, insI_asc x r h'.2⟩
      rcases List.mem_cons.mp ((insI_perm' x r).mem_iff.mp hz) with e | hz
      · rw [e]; omega
      · exact h'.1 z hz
theorem sortI_asc : ∀ l : List Int, (sortI l).Pairwise (· ≤ ·)
  | [] => .nil
  | x :: r => insI_asc x _ (sortI_asc r)
theorem sortR_is (l : List Nat) : (sortI (l.map fun x : Nat => ((x : Nat) : Int))).reverse = (srtN l).map fun x : Nat => ((x : Nat) : Int) := by
  have p : ((sortI (l.map fun x : Nat => ((x : Nat) : Int))).reverse).Perm ((srtN l).map fun x : Nat => ((x : Nat) : Int)) :=
    ((List.reverse_perm _).trans (sortI_perm' _)).trans ((srtN_perm l).symm.map _)
  refine p.eq_of_pairwise (le := fun a b : Int => b ≤ a) (fun a b _ _ x y => Int.le_antisymm y x) ?_ ?_
  · rw [List.pairwise_reverse]
    exact sortI_asc _
  · rw [List.pairwise_map]
    exact (srtN_desc l).imp fun {a b} (h : b ≤ a) => by omega
end Nr
end
section
set_option Elab.async false
set_option linter.all false
set_option maxRecDepth 100000
set_option maxHeartbeats 2000000
namespace Vk19_whole_joining
open PySem PySem.Spec Ev Nr
theorem compM_im {α : Type} {f : D → Ev.R (List D)} {F : α → D} {G : α → List D} {l : List α} (h : ∀ x ∈ l, f (F x) = .ok (G x)) : compM f (l.map F) = .ok (l.map G).flatten := by
  induction l with
  | nil => rfl
  | cons x l ih =>
    have := ih fun y hy => h y (List.mem_cons_of_mem _ hy)
    simp only [List.map_cons, compM, h x List.mem_cons_self, this, List.flatten_cons]
theorem zs_int (l : List Nat) : (zs l).map D.int = nts l := by
  unfold zs nts
  rw [List.map_map]
  rfl
theorem nts_flat (rows : List (List Nat)) : (rows.map nts).flatten = nts rows.flatten := by
  unfold nts
  rw [List.map_flatten]
section
variable {call : Bool → Nat → List D → R D} {sb : Nat → Nat → Bool} {gl : Nat → D}
theorem sortR_ok {ρ : Rho} {e : CE} {l : List Nat} (h : evE (T0 call sb gl) e ρ = .ok (.lst (nts l)) ∨ evE (T0 call sb gl) e ρ = .ok (.tup (nts l))) : evE (T0 call sb gl) (.bi .sortedR [e]) ρ = .ok (.lst (nts (srtN l))) := by
  have k : D.lst ((sortI (zs l)).reverse.map .int) = .lst (nts (srtN l)) := by
    rw [show (sortI (zs l)).reverse = zs (srtN l) from sortR_is l, zs_int]
  rcases h with h | h
  · rw [q_bi, bs_one h, ← zs_int]
    show biD .sortedR [.lst ((zs l).map .int)] = _
    simp only [biD, intsD_map]
    exact congrArg R.ok k
  · rw [q_bi, bs_one h, ← zs_int]
    show biD .sortedR [.tup ((zs l).map .int)] = _
    simp only [biD, intsD_map]
    exact congrArg R.ok k
theorem cutE {ρ : Rho} {e : CE} {l : List Nat} {w : Nat} (h : evE (T0 call sb gl) e ρ = .ok (.lst (nts l)) ∨ evE (T0 call sb gl) e ρ = .ok (.tup (nts l))) (hw : evE (T0 call sb gl) (.var 0) ρ = .ok (.int (w : Int))) : evE (T0 call sb gl) (.bi .tuple [(.slc (.bi .sortedR [e]) none (some (.var 0)))]) ρ = .ok (tN (cut w l)) := by
  refine tuple_ok ?_
  have e1 := sortR_ok h
  rw [q_slc, bv e1, ok_bind, o_none, ok_bind, o_some, hw]
  show R.ok (D.lst (cutL (nts (srtN l)) none (some (w : Int)))) = _
  rw [cutL_map, cut_take]
  rfl
theorem r24' {w : Nat} {l : List Nat} : (evSs (T0 call sb gl) b24 [.val (.int (w : Int)), .val (tN l)]).fin = .ok (tN (cut w l)) := by
  rw [b24_is]
  exact ret_is (cutE (.inr rfl) rfl)
theorem r17' {w : Nat} {rows : List (List Nat)} (hs : rows.flatten.length ≤ 1000000) : (evSs (T0 call sb gl) b17 [.val (.int (w : Int)), .val (.lst (rows.map tN)), .none, .none]).fin = .ok (tN (cut w rows.flatten)) := by
  rw [b17_is]
  refine ret_is (cutE (.inl ?_) rfl)
  have t : ∀ r ∈ rows, turnQ2 (T0 call sb gl) (.nm 2) (.nm 3) (.of (.var 2)) (.var 3) [.val (.int (w : Int)), .val (.lst (rows.map tN)), .none, .none] (tN r) = .ok (nts r) := fun r _ => by
    unfold turnQ2
    rw [show bindT (.nm 2) (tN r) (wipe0 [.val (.int (w : Int)), .val (.lst (rows.map tN)), .none, .none] (Tgt.nm 3).slots0) = .ok [.val (.int (w : Int)), .val (.lst (rows.map tN)), .val (tN r), .none] from rfl, ok_bind]
    rw [show ownIt [.val (.int (w : Int)), .val (.lst (rows.map tN)), .val (tN r), .none] (.of (.var 2)) = false from rfl, if_neg (by decide)]
    rw [show evI (T0 call sb gl) (.of (.var 2)) [.val (.int (w : Int)), .val (.lst (rows.map tN)), .val (tN r), .none] = .ok (nts r) from rfl, ok_bind]
    exact compL_imA fun m _ => rfl
  rw [q_cmp2]
  rw [if_neg (show ¬ (T0 call sb gl).hot = true from Bool.false_ne_true), show (tgOwn [Slot.val (.int (w : Int)), Slot.val (D.lst (rows.map tN)), Slot.none, Slot.none] (Tgt.nm 2) || tgOwn [Slot.val (.int (w : Int)), Slot.val (D.lst (rows.map tN)), Slot.none, Slot.none] (Tgt.nm 3)) = false from rfl, if_neg Bool.false_ne_true]
  rw [show evI (T0 call sb gl) (.of (.var 1)) [.val (.int (w : Int)), .val (.lst (rows.map tN)), .none, .none] = .ok (rows.map tN) from rfl, ok_bind, compM_im t, ok_bind, nts_flat]
  rw [if_pos (Nat.le_trans (show _ ≤ 1000000 by rw [List.length_map]; exact hs) (by decide))]
  rfl
theorem r3x {l : List Nat} (h1 : ∀ v : Nat, call false 1 [.int (v : Int)] = .ok (.bl true)) : (evSs (T0 call sb gl) b3 [.val (tN l), .none]).fin = .ok (.bl true) := by
  have e : evE (T0 call sb gl) (.bi .all [(.cmp (.nm 1) (.of (.var 0)) .yes (.call 1 [(.var 1)]))]) [.val (tN l), .none] = .ok (.bl (l.all fun _ => true)) :=
    all_cmp (F := fun x : Nat => .int (x : Int)) (p := fun _ => true) rfl rfl rfl fun x _ => turn_of rfl (call_is rfl rfl (h1 x))
  rw [show b3 = [.ret (.and (.isi (.var 0) .tuple) (.bi .all [(.cmp (.nm 1) (.of (.var 0)) .yes (.call 1 [(.var 1)]))]))] from rfl]
  refine ret_is ?_
  rw [q_and]
  show evE _ _ _ = _
  rw [e]
  congr 2
  rw [List.all_eq_true]
  exact fun _ _ => rfl
end
theorem r24c (n : Nat) {w : Nat} {l : List Nat} : P.run (n + 1) false 24 [.int (w : Int), tN l] = .ok (tN (cut w l)) := by
  have hf : P.fn 24 = some ⟨2, 2, b24⟩ := rfl
  rw [run_1 hf rfl]
  exact r24'
theorem r17c (n : Nat) {w : Nat} {rows : List (List Nat)} (hs : rows.flatten.length ≤ 1000000) : P.run (n + 1) false 17 [.int (w : Int), .lst (rows.map tN)] = .ok (tN (cut w rows.flatten)) := by
  have hf : P.fn 17 = some ⟨2, 4, b17⟩ := rfl
  rw [run_1 hf rfl]
  exact r17' hs
theorem r3c (n : Nat) {l : List Nat} : P.run (n + 3) false 3 [tN l] = .ok (.bl true) := by
  have hf : P.fn 3 = some ⟨1, 2, b3⟩ := rfl
  rw [run_1 hf rfl]
  exact r3x fun v => r1n n v false
def Gd (w : Nat) (r : List Nat) : Prop := (∃ b, b + 1000 ≤ 2 ^ 110 ∧ Rwn b r) ∧ r.length ≤ w ∧ num w r ≤ 2 ^ 110
theorem r12g (k : Nat) {w : Nat} {r : List Nat} (hw : 1 ≤ w) (hw2 : w ≤ 300) (h : Gd w r) : P.run (k + 8) false 12 [.int (w : Int), .int ((num w r : Nat) : Int)] = .ok (tN r) := by
  obtain ⟨⟨b, _, hr⟩, hl, hn⟩ := h
  obtain ⟨r', hr', e⟩ := r12 k hw hw2 hn
  rw [Gr.uniq (.inr hw) hr' (gr_of hr hl)] at e
  exact e
theorem cut_gd {w : Nat} {l : List Nat} {b : Nat} (h : ∀ x ∈ l, 1 ≤ x ∧ x ≤ b) : Rwn b (cut w l) ∧ (cut w l).length ≤ w := ⟨cut_row h, cut_len w l⟩
section
variable {call : Bool → Nat → List D → R D} {sb : Nat → Nat → Bool} {gl : Nat → D}
theorem r15x {w : Nat} {rs : List (List Nat)} {out : D} (h2 : call false 2 [.int (w : Int)] = .ok (.bl true)) (h3 : ∀ l : List Nat, call false 3 [tN l] = .ok (.bl true)) (h4 : ∀ (b : Bool) (s : List Nat), call false 4 [.bl b, .str s] = if b then .ok .non else bad s)
    (h12 : ∀ r ∈ rs, call false 12 [.int (w : Int), .int ((num w r : Nat) : Int)] = .ok (tN r)) (h17 : call false 17 [.int (w : Int), .lst (rs.map tN)] = .ok (tN (cut w rs.flatten))) (h9 : call false 9 [.int (w : Int), tN (cut w rs.flatten)] = .ok out) :
    (evSs (T0 call sb gl) b15 [.val (.int (w : Int)), .val (tN (rs.map (num w))), .none, .none]).fin = .ok out := by
  rw [b15_is, ask (call_is rfl rfl h2) (fun b => h4 b _) rfl, if_pos rfl, ask (call_is rfl rfl (h3 _)) (fun b => h4 b _) rfl, if_pos rfl]
  have e : evE (T0 call sb gl) s15_2x [.val (.int (w : Int)), .val (tN (rs.map (num w))), .none, .none] = .ok (.lst (rs.map tN)) := by
    refine cmp_is rfl rfl (xs := rs.map fun r => .int ((num w r : Nat) : Int)) ?_ ?_
    · show R.ok (nts (rs.map (num w))) = _
      unfold nts
      rw [List.map_map]
      rfl
    · exact compL_imA fun r hr => turn_of (ρ1 := [.val (.int (w : Int)), .val (tN (rs.map (num w))), .none, .val (.int ((num w r : Nat) : Int))]) rfl (call_is rfl (bs_two (d := .int (w : Int)) (g := .int ((num w r : Nat) : Int)) rfl rfl) (h12 r hr))
  have e2 : evS (T0 call sb gl) s15_2 [.val (.int (w : Int)), .val (tN (rs.map (num w))), .none, .none] = .nx [.val (.int (w : Int)), .val (tN (rs.map (num w))), .val (.lst (rs.map tN)), .none] := by
    rw [s_setC', show (T0 call sb gl).hot = false from rfl, if_neg (by decide), e]
    rfl
  rw [go e2]
  exact ret_is (call_is rfl (bs_two (d := .int (w : Int)) (g := tN (cut w rs.flatten)) rfl (call_is rfl (bs_two (d := .int (w : Int)) (g := .lst (rs.map tN)) rfl rfl) h17)) h9)
end
theorem flat_le {rs : List (List Nat)} {w k : Nat} (h : ∀ r ∈ rs, r.length ≤ w) (hk : rs.length ≤ k) : rs.flatten.length ≤ k * w := by
  induction rs generalizing k with
  | nil => simp
  | cons r rs ih =>
    rw [List.length_cons] at hk
    have h1 := ih (k := k - 1) (fun x hx => h x (List.mem_cons_of_mem _ hx)) (by omega)
    have h2 := h r (by simp)
    obtain ⟨j, rfl⟩ : ∃ j, k = j + 1 := ⟨k - 1, by omega⟩
    rw [List.flatten_cons, List.length_append, Nat.add_mul, Nat.one_mul]
    rw [Nat.add_sub_cancel] at h1
    omega
theorem gd_max {w : Nat} {rs : List (List Nat)} (h : ∀ r ∈ rs, Gd w r) : ∃ b, b + 1000 ≤ 2 ^ 110 ∧ ∀ x ∈ rs.flatten, 1 ≤ x ∧ x ≤ b := by
  induction rs with
  | nil => exact ⟨0, by decide, fun x hx => by cases hx⟩
  | cons r rs ih =>
    obtain ⟨b, hb, g⟩ := ih fun x hx => h x (List.mem_cons_of_mem _ hx)
    obtain ⟨⟨c, hc, hr⟩, _, _⟩ := h r (by simp)
    refine ⟨max b c, by omega, fun x hx => ?_⟩
    rw [List.flatten_cons] at hx
    rcases List.mem_append.mp hx with q | q
    · have := Rwn.ge1 hr x q
      omega
    · have := g x q
      omega
theorem b110 {b : Nat} (h : b + 1000 ≤ 2 ^ 110) : b ≤ 2 ^ BG := by
  have : 2 ^ 110 ≤ 2 ^ BG := by decide
  omega
theorem r15 (k : Nat) {w : Nat} {rs : List (List Nat)} (hw : 1 ≤ w) (hw2 : w ≤ 300) (h : ∀ r ∈ rs, Gd w r) (hk : rs.length ≤ 1000) : P.run (k + 9) false 15 [.int (w : Int), tN (rs.map (num w))] = .ok (.int ((num w (cut w rs.flatten) : Nat) : Int)) := by
  have hf : P.fn 15 = some ⟨2, 4, b15⟩ := rfl
  obtain ⟨b, hb, g⟩ := gd_max h
  have hc := cut_gd (w := w) g
  have hlen : rs.flatten.length ≤ 1000000 := by
    have h1 := flat_le (w := w) (k := 1000) (fun r hr => (h r hr).2.1) hk
    have h2 : 1000 * w ≤ 1000 * 300 := Nat.mul_le_mul_left 1000 hw2
    omega
  rw [run_1 hf rfl]
  exact r15x (r2n (k + 6) false hw) (fun l => r3c (k + 5)) (fun b s => r4 (k + 7) b s) (fun r hr => r12g k hw hw2 (h r hr)) (r17c (k + 7) hlen) (r9 (k + 3) hw hw2 hc.1 hc.2 (b110 hb))
end Vk19_whole_joining
end
section
set_option Elab.async false
set_option linter.all false
set_option maxRecDepth 100000
set_option maxHeartbeats 2000000
namespace Vk19_whole_joining
open PySem PySem.Spec Ev Nr
theorem repsL {α : Type} (k : Nat) (x : α) : repL (k : Int) [x] = List.replicate k x := by
  unfold repL
  rw [Int.toNat_natCast]
  induction k with
  | zero => rfl
  | succ k ih =>
    rw [List.replicate_succ, List.flatten_cons, ih]
    rfl
theorem mul_l {k : Nat} {d : D} (hk : k ≤ 1000) : binD .mul (.lst [d]) (.int (k : Int)) = .ok (.lst (List.replicate k d)) := by
  have h : -(2 ^ 63) ≤ (k : Int) ∧ (k : Int) < 2 ^ 63 ∧ [d].length * (k : Int).toNat ≤ 16777216 := by
    refine ⟨by omega, by omega, ?_⟩
    rw [Int.toNat_natCast, List.length_singleton, Nat.one_mul]
    exact Nat.le_trans hk (by decide)
  simp only [binD]
  rw [if_pos h, repsL]
section
variable {call : Bool → Nat → List D → R D} {sb : Nat → Nat → Bool} {gl : Nat → D}
theorem r14x {w x y : Nat} {out : R D} (h1 : ∀ v : Nat, call false 1 [.int (v : Int)] = .ok (.bl true)) (h2 : call false 2 [.int (w : Int)] = .ok (.bl true)) (h4 : ∀ (b : Bool) (s : List Nat), call false 4 [.bl b, .str s] = if b then .ok .non else bad s) {d : D} (h15 : call false 15 [.int (w : Int), tN [x, y]] = .ok d) :
    (evSs (T0 call sb gl) b14 [.val (.int (w : Int)), .val (.int (x : Int)), .val (.int (y : Int))]).fin = .ok d := by
  rw [b14_is, ask (call_is rfl rfl h2) (fun b => h4 b _) rfl, if_pos rfl, ask (call_is rfl rfl (h1 x)) (fun b => h4 b _) rfl, if_pos rfl, ask (call_is rfl rfl (h1 y)) (fun b => h4 b _) rfl, if_pos rfl]
  exact ret_is (call_is rfl (bs_two (d := .int (w : Int)) (g := tN [x, y]) rfl (two_tup (d := .int (x : Int)) (g := .int (y : Int)) rfl rfl)) h15)
theorem r16x {w x m : Nat} {r : List Nat} (hw : w ≤ 300) (h1 : ∀ v : Nat, call false 1 [.int (v : Int)] = .ok (.bl true)) (h2 : call false 2 [.int (w : Int)] = .ok (.bl true)) (h4 : ∀ (b : Bool) (s : List Nat), call false 4 [.bl b, .str s] = if b then .ok .non else bad s) {d : D}
    (h12 : call false 12 [.int (w : Int), .int (x : Int)] = .ok (tN r)) {c : List Nat} (h17 : call false 17 [.int (w : Int), .lst ((List.replicate (min m w) r).map tN)] = .ok (tN c)) (h9 : call false 9 [.int (w : Int), tN c] = .ok d) :
    (evSs (T0 call sb gl) b16 [.val (.int (w : Int)), .val (.int (x : Int)), .val (.int (m : Int))]).fin = .ok d := by
  rw [b16_is, ask (call_is rfl rfl h2) (fun b => h4 b _) rfl, if_pos rfl, ask (call_is rfl rfl (h1 x)) (fun b => h4 b _) rfl, if_pos rfl, ask (call_is rfl rfl (h1 m)) (fun b => h4 b _) rfl, if_pos rfl]
  generalize hρ : [Slot.val (.int (w : Int)), .val (.int (x : Int)), .val (.int (m : Int))] = ρ
  have e1 : evE (T0 call sb gl) (.lst [(.call 12 [(.var 0), (.var 1)])]) ρ = .ok (.lst [tN r]) := by
    rw [q_lst, es_cons, call_is (by rw [← hρ]; rfl) (bs_two (d := .int (w : Int)) (g := .int (x : Int)) (by rw [← hρ]; rfl) (by rw [← hρ]; rfl)) h12]
    rfl
  have e2 : evE (T0 call sb gl) (.bi .min2 [(.var 2), (.var 0)]) ρ = .ok (.int ((min m w : Nat) : Int)) := by
    rw [q_bi, bs_two (d := .int (m : Int)) (g := .int (w : Int)) (by rw [← hρ]; rfl) (by rw [← hρ]; rfl)]
    show R.ok (D.int (if (w : Int) < (m : Int) then (w : Int) else (m : Int))) = _
    congr 2
    split <;> omega
  have e3 : evE (T0 call sb gl) (.bin .mul (.lst [(.call 12 [(.var 0), (.var 1)])]) (.bi .min2 [(.var 2), (.var 0)])) ρ = .ok (.lst ((List.replicate (min m w) r).map tN)) := by
    rw [bin_ok e1 e2, mul_l (by omega), List.map_replicate]
  exact ret_is (call_is (by rw [← hρ]; rfl) (bs_two (d := .int (w : Int)) (g := tN c) (by rw [← hρ]; rfl) (call_is (by rw [← hρ]; rfl) (bs_two (d := .int (w : Int)) (by rw [← hρ]; rfl) e3) h17)) h9)
end
theorem r14 (k : Nat) {w : Nat} {r s : List Nat} (hw : 1 ≤ w) (hw2 : w ≤ 300) (hr : Gd w r) (hs : Gd w s) : P.run (k + 10) false 14 [.int (w : Int), .int ((num w r : Nat) : Int), .int ((num w s : Nat) : Int)] = .ok (.int ((num w (cut w (r ++ s)) : Nat) : Int)) := by
  have hf : P.fn 14 = some ⟨3, 3, b14⟩ := rfl
  rw [run_1 hf rfl]
  have h := r15 k (rs := [r, s]) hw hw2 (fun x hx => by
    rcases List.mem_cons.mp hx with e | hx
    · rw [e]; exact hr
    · rw [List.mem_singleton.mp hx]; exact hs) (by simp)
  rw [show [r, s].flatten = r ++ s by simp] at h
  exact r14x (out := .stuck) (fun v => r1n (k + 7) v false) (r2n (k + 7) false hw) (fun b s => r4 (k + 8) b s) h
theorem r16 (k : Nat) {w m : Nat} {r : List Nat} (hw : 1 ≤ w) (hw2 : w ≤ 300) (hr : Gd w r) : P.run (k + 9) false 16 [.int (w : Int), .int ((num w r : Nat) : Int), .int (m : Int)] = .ok (.int ((num w (cut w (reps m r)) : Nat) : Int)) := by
  have hf : P.fn 16 = some ⟨3, 3, b16⟩ := rfl
  rw [run_1 hf rfl]
  obtain ⟨⟨b, hb, hb2⟩, hl, hn⟩ := hr
  have hm : min m w ≤ 300 := by omega
  have hlen : (List.replicate (min m w) r).flatten.length ≤ 1000000 := by
    have h1 := flat_le (w := w) (k := 300) (rs := List.replicate (min m w) r) (fun x hx => by rw [(List.mem_replicate.mp hx).2]; exact hl) (by rw [List.length_replicate]; exact hm)
    have h2 : 300 * w ≤ 300 * 300 := Nat.mul_le_mul_left 300 hw2
    omega
  have g : ∀ x ∈ (List.replicate (min m w) r).flatten, 1 ≤ x ∧ x ≤ b := fun x hx => Rwn.ge1 hb2 x (reps_mem hx)
  have hc := cut_gd (w := w) g
  have e : cut w (List.replicate (min m w) r).flatten = cut w (reps m r) := cut_min w m r
  rw [e] at hc
  have h17 := r17c (k + 7) (w := w) hlen
  rw [e] at h17
  exact r16x hw2 (fun v => r1n (k + 6) v false) (r2n (k + 6) false hw) (fun b s => r4 (k + 7) b s) (r12g k hw hw2 ⟨⟨b, hb, hb2⟩, hl, hn⟩) h17 (r9 (k + 3) hw hw2 hc.1 hc.2 (b110 hb))
theorem gd_cut {w b : Nat} {l : List Nat} (h : ∀ x ∈ l, 1 ≤ x ∧ x ≤ b) (hb : b + 1000 ≤ 2 ^ 110) (hn : num w (cut w l) ≤ 2 ^ 110) : Gd w (cut w l) := ⟨⟨b, hb, cut_row h⟩, cut_len w l, hn⟩
end Vk19_whole_joining
end
section
set_option Elab.async false
set_option linter.all false
set_option maxRecDepth 100000
set_option maxHeartbeats 2000000
namespace Vk19_whole_joining
open PySem PySem.Spec Ev Nr
def okB (u : Nat) (b : Int) : Bool := decide (1 ≤ b) && decide (b.toNat + 1001 ≤ 2 ^ 110) && decide (fpI ((b.toNat + 2 + u - 1 : Nat) : Int) u ≤ ((2 ^ 110 * fac u : Nat) : Int))
def chkB (r : R D) (u : Nat) : Bool := match r with
  | .ok (.int b) => okB u b
  | _ => false
theorem kbnd : ((List.range 40).all fun i => chkB (P.run 38 false 28 [.int ((i + 1 : Nat) : Int)]) (i + 1)) = true := by decide +kernel
theorem r28 {u : Nat} (h1 : 1 ≤ u) (h2 : u ≤ 40) : ∃ B : Nat, 1 ≤ B ∧ B + 1001 ≤ 2 ^ 110 ∧ bel u (B + 2) ≤ 2 ^ 110 ∧ P.run 38 false 28 [.int (u : Int)] = .ok (.int (B : Int)) := by
  have h := List.all_eq_true.mp kbnd (u - 1) (List.mem_range.mpr (by omega))
  rw [show u - 1 + 1 = u by omega] at h
  revert h
  generalize P.run 38 false 28 [.int (u : Int)] = r
  intro h
  cases r with
  | ok d =>
    cases d with
    | int b =>
      have h : okB u b = true := h
      unfold okB at h
      simp only [Bool.and_eq_true, decide_eq_true_eq] at h
      obtain ⟨⟨g1, g2⟩, g3⟩ := h
      refine ⟨b.toNat, by omega, g2, ?_, by rw [Int.toNat_of_nonneg (by omega)]⟩
      rw [fp_ch _ u (by omega)] at g3
      have g4 : fac u * ch (b.toNat + 2 + u - 1) u ≤ 2 ^ 110 * fac u := Int.ofNat_le.mp g3
      rw [Nat.mul_comm] at g4
      exact Nat.le_of_mul_le_mul_right g4 (fac_pos u)
    | _ => cases h
  | _ => cases h
section
variable {call : Bool → Nat → List D → R D} {sb : Nat → Nat → Bool} {gl : Nat → D}
abbrev R29 (u : Nat) (pl b : List Nat) (k : Nat) (x4 x5 : Slot) : Rho := [.val (.int (u : Int)), .val (.lst (nts pl)), .val (.lst (nts b)), .val (.int (k : Int)), x4, x5]
theorem mul_t {k x : Nat} (hk : k ≤ 1000) : binD .mul (.tup [.int (x : Int)]) (.int (k : Int)) = .ok (tN (List.replicate k x)) := by
  have rep : repL (k : Int) [D.int (x : Int)] = nts (List.replicate k x) := by
    rw [repsL]
    unfold nts
    rw [List.map_replicate]
  simp only [binD]
  rcases Nat.lt_or_ge k 2 with h | h
  · rw [if_neg (by omega)]
    rcases Nat.eq_zero_or_pos k with z | z
    · subst z
      rfl
    · have : k = 1 := by omega
      subst this
      rfl
  · rw [if_pos ⟨rfl, by omega, by omega, by simp⟩, rep]
theorem add_tN {x y : List Nat} (h : x.length + y.length ≤ 1000000) : binD .add (tN x) (tN y) = .ok (tN (x ++ y)) := by
  rw [add_tt (Nat.le_trans (show _ ≤ 1000000 by rw [List.length_map, List.length_map]; exact h) (by decide))]
  unfold tN nts
  rw [List.map_append]
def Frm (pl t : List Nat) (n : Nat) : Prop := (∀ x ∈ t, x ∈ pl) ∧ t.length ≤ n
theorem Frm.app {pl t : List Nat} {n k x m : Nat} (h : Frm pl t n) (hx : x ∈ pl) (hk : k ≤ m) : Frm pl (t ++ List.replicate k x) (n + m) := by
  refine ⟨fun y hy => ?_, ?_⟩
  · rcases List.mem_append.mp hy with q | q
    · exact h.1 y q
    · rw [(List.mem_replicate.mp q).2]; exact hx
  · rw [List.length_append, List.length_replicate]
    have := h.2
    omega
theorem mb1 {u : Nat} {pl b : List Nat} {k : Nat} (hD : Dr b) (hp : pl.length = 4) (hk : k + 10 ≤ 102) (l : List Nat) : ∀ (t : List Nat) (n : Nat) (x5 : Slot), Frm pl t n → n + 4 * l.length ≤ 1000 → (∀ i ∈ l, i < 4) →
    ∃ t' x5', Frm pl t' (n + 4 * l.length) ∧ forL (.nm 5) (evSs (T0 call sb gl) s29_1b) (nts l) (R29 u pl b k (.val (tN t)) x5) = .nx (R29 u pl b k (.val (tN t')) x5') := by
  induction l with
  | nil => exact fun t n x5 h _ _ => ⟨t, x5, h, rfl⟩
  | cons i l ih =>
    intro t n x5 h hn hi
    rw [List.length_cons] at hn ⊢
    have hi4 := hi i (by simp)
    have e1 : bindT (.nm 5) (.int (i : Int)) (R29 u pl b k (.val (tN t)) x5) = .ok (R29 u pl b k (.val (tN t)) (.val (.int (i : Int)))) := rfl
    generalize hρ : R29 u pl b k (.val (tN t)) (.val (.int (i : Int))) = ρ at e1
    have g1 : evE (T0 call sb gl) (.idx (.var 1) (.var 5)) ρ = .ok (.int ((pl[i]'(by omega) : Nat) : Int)) := by
      rw [q_idx, vr (d := .lst (nts pl)) (by rw [← hρ]; rfl), ok_bind, vr' (d := .int (i : Int)) (by rw [← hρ]; rfl), ok_bind]
      show getI (nts pl) (i : Int) = _
      rw [getI_nat (by rw [List.length_map]; omega)]
      simp
    obtain ⟨v, _, ev⟩ := hD.at (T := T0 call sb gl) (ρ := ρ) (i := 2) (e := .bin .add (.var 3) (.var 5)) (k := k + i) (by rw [← hρ]; rfl) (an_ok (x := k) (k := i) (by rw [← hρ]; rfl) (by rw [← hρ]; rfl)) (by omega)
    have g2 : evE (T0 call sb gl) (.bin .mod (.idx (.var 2) (.bin .add (.var 3) (.var 5))) (.cst (.int 4))) ρ = .ok (.int ((v % 4 : Nat) : Int)) := mn_ok (k := 4) ev (by decide)
    have hv : v % 4 < 4 := Nat.mod_lt _ (by decide)
    generalize v % 4 = c at g2 hv
    have g3 : evE (T0 call sb gl) (.bin .mul (.tup [(.idx (.var 1) (.var 5))]) (.bin .mod (.idx (.var 2) (.bin .add (.var 3) (.var 5))) (.cst (.int 4)))) ρ = .ok (tN (List.replicate c (pl[i]'(by omega)))) := by
      rw [bin_ok (one_tup g1) g2, mul_t (by omega)]
    have hlen := h.2
    have g4 : evE (T0 call sb gl) s29_1b0x ρ = .ok (tN (t ++ List.replicate c (pl[i]'(by omega)))) := by
      rw [bin_ok (x := tN t) (by rw [← hρ]; rfl) g3, add_tN (by rw [List.length_replicate]; omega)]
    have e2 : evSs (T0 call sb gl) s29_1b ρ = .nx (R29 u pl b k (.val (tN (t ++ List.replicate c (pl[i]'(by omega))))) (.val (.int (i : Int)))) := by
      rw [show s29_1b = [s29_1b0] from rfl, go (set_is g4), ← hρ]
      rfl
    obtain ⟨t', x5', f, e3⟩ := ih _ (n + 4) (.val (.int (i : Int))) (h.app (x := pl[i]'(by omega)) (k := c) (m := 4) (List.getElem_mem (by omega)) (by omega)) (by omega) fun j hj => hi j (List.mem_cons_of_mem _ hj)
    refine ⟨t', x5', ?_, (forL_nx (ds := nts l) e1 e2).trans e3⟩
    rw [show n + 4 * (l.length + 1) = n + 4 + 4 * l.length by omega]
    exact f
theorem r29' {u : Nat} {pl b : List Nat} {k : Nat} (hu : u ≤ 300) (hD : Dr b) (hp : pl.length = 4) (hk : k + 10 ≤ 102) (h24 : ∀ l : List Nat, call false 24 [.int (u : Int), tN l] = .ok (tN (cut u l))) :
    ∃ t : List Nat, (∀ x ∈ t, x ∈ pl) ∧ t.length ≤ 1000 ∧ (evSs (T0 call sb gl) b29 (R29 u pl b k .none .none)).fin = .ok (tN (cut u t)) := by
  rw [b29_is]
  have e0 : evS (T0 call sb gl) s29_0 (R29 u pl b k .none .none) = .nx (R29 u pl b k (.val (tN [])) .none) := rfl
  obtain ⟨t, x5, f, e1⟩ := mb1 (call := call) (sb := sb) (gl := gl) (u := u) hD hp hk (List.range 4) [] 0 .none ⟨fun x hx => (by cases hx), Nat.le_refl 0⟩ (by decide) fun i hi => List.mem_range.mp hi
  have e2 := (for_is (T := T0 call sb gl) (ρ := R29 u pl b k (.val (tN [])) .none) (tg := .nm 5) (it := s29_1i) (b := s29_1b) rfl rfl (i_rng0 (k := 4) rfl (by decide))).trans e1
  rw [List.length_range] at f
  have fl := f.2
  have ec : ∃ q : Nat, evT (T0 call sb gl) s29_2c (R29 u pl b k (.val (tN t)) x5) = .ok (decide ((q : Int) = 0)) := by
    obtain ⟨v, _, ev⟩ := hD.at (T := T0 call sb gl) (ρ := R29 u pl b k (.val (tN t)) x5) (i := 2) (e := .bin .add (.var 3) (.cst (.int 4))) (k := k + 4) rfl (an_ok (x := k) (k := 4) rfl rfl) (by omega)
    have g2 : evE (T0 call sb gl) (.bin .mod (.idx (.var 2) (.bin .add (.var 3) (.cst (.int 4)))) (.cst (.int 4))) (R29 u pl b k (.val (tN t)) x5) = .ok (.int ((v % 4 : Nat) : Int)) := mn_ok (k := 4) ev (by decide)
    refine ⟨v % 4, ?_⟩
    rw [t_of, bv (d := .bl (decide (((v % 4 : Nat) : Int) = 0))) (by rw [bin_ok g2 q_cst, eq_ii])]
    rfl
  obtain ⟨q, ec⟩ := ec
  cases hd : decide ((q : Int) = 0) with
  | false =>
    refine ⟨t, f.1, by omega, ?_⟩
    rw [go e0, go e2, pass_if (by rw [ec, hd])]
    exact ret_is (call_is rfl (bs_two (d := .int (u : Int)) (g := tN t) rfl rfl) (h24 t))
  | true =>
    obtain ⟨v, _, ev⟩ := hD.at (T := T0 call sb gl) (ρ := R29 u pl b k (.val (tN t)) x5) (i := 2) (e := .bin .add (.var 3) (.cst (.int 5))) (k := k + 5) rfl (an_ok (x := k) (k := 5) rfl rfl) (by omega)
    have g2 : evE (T0 call sb gl) (.bin .mod (.idx (.var 2) (.bin .add (.var 3) (.cst (.int 5)))) (.cst (.int 4))) (R29 u pl b k (.val (tN t)) x5) = .ok (.int ((v % 4 : Nat) : Int)) := mn_ok (k := 4) ev (by decide)
    have hv : v % 4 < pl.length := by rw [hp]; exact Nat.mod_lt _ (by decide)
    generalize v % 4 = c at g2 hv
    have g1 : evE (T0 call sb gl) (.idx (.var 1) (.bin .mod (.idx (.var 2) (.bin .add (.var 3) (.cst (.int 5)))) (.cst (.int 4)))) (R29 u pl b k (.val (tN t)) x5) = .ok (.int ((pl[c] : Nat) : Int)) := by
      rw [q_idx, vr (d := .lst (nts pl)) rfl, ok_bind, g2, ok_bind]
      show getI (nts pl) (c : Int) = _
      rw [getI_nat (by rw [List.length_map]; omega)]
      simp
    have g4 : evE (T0 call sb gl) s29_2t0x (R29 u pl b k (.val (tN t)) x5) = .ok (tN (t ++ List.replicate u pl[c])) := by
      have g3 : evE (T0 call sb gl) (.bin .mul (.tup [(.idx (.var 1) (.bin .mod (.idx (.var 2) (.bin .add (.var 3) (.cst (.int 5)))) (.cst (.int 4))))]) (.var 0)) (R29 u pl b k (.val (tN t)) x5) = .ok (tN (List.replicate u pl[c])) := by
        rw [bin_ok (y := .int (u : Int)) (one_tup g1) rfl, mul_t (by omega)]
      rw [bin_ok (x := tN t) rfl g3, add_tN (by rw [List.length_replicate]; omega)]
    have fa := f.app (List.getElem_mem hv) hu (k := u)
    refine ⟨t ++ List.replicate u pl[c], fa.1, by have := fa.2; omega, ?_⟩
    rw [go e0, go e2, go ((ife_yes (by rw [ec, hd])).trans (go (set_is g4)))]
    exact ret_is (call_is rfl (bs_two (d := .int (u : Int)) (g := tN (t ++ List.replicate u pl[c])) rfl rfl) (h24 _))
end
theorem r29 (n : Nat) {u : Nat} {pl b : List Nat} {k : Nat} (hu : u ≤ 300) (hD : Dr b) (hp : pl.length = 4) (hk : k + 10 ≤ 102) :
    ∃ t : List Nat, (∀ x ∈ t, x ∈ pl) ∧ t.length ≤ 1000 ∧ P.run (n + 2) false 29 [.int (u : Int), .lst (nts pl), .lst (nts b), .int (k : Int)] = .ok (tN (cut u t)) := by
  have hf : P.fn 29 = some ⟨4, 6, b29⟩ := rfl
  rw [run_1 hf rfl]
  exact r29' hu hD hp hk fun l => r24c n
end Vk19_whole_joining
end
section
set_option Elab.async false
set_option linter.all false
set_option maxRecDepth 100000
set_option maxHeartbeats 2000000
namespace Vk19_whole_joining
open PySem PySem.Spec Ev Nr
section
variable {call : Bool → Nat → List D → R D} {sb : Nat → Nat → Bool} {gl : Nat → D}
theorem callk_three {ρ : Rho} {f : Nat} {e1 e2 e3 : CE} {d g h : D} {i j k : Nat} {x y z : D} {r : R D} (ho : [e1, e2, e3].any (ownArg ρ) = false) (hb : evBs (T0 call sb gl) [e1, e2, e3] ρ = .ok [d, g, h]) (hp : pick [d, g, h] [i, j, k] = .ok [x, y, z]) (hc : call false f [x, y, z] = r) : evE (T0 call sb gl) (.callk f [] [e1, e2, e3] [i, j, k]) ρ = r := by
  rw [q_callk, show (T0 call sb gl).hot = false from rfl, if_neg (by decide), bs_nil, ok_bind, hb, ok_bind]
  show (pick [d, g, h] [i, j, k] >>= fun ps => guardL ([e1, e2, e3].any (ownArg ρ)) (call false f ps)) = r
  rw [hp, ok_bind, ho, hc]
  cases r <;> rfl
theorem same_t {ρ : Rho} {e f : CE} {i : Int} (ho : [e, f].any (ownArg ρ) = false) (h : evE (T0 call sb gl) e ρ = .ok (.int i)) (h' : evE (T0 call sb gl) f ρ = .ok (.int i)) (hc : call false 20 [.int i, .int i] = .ok (.bl true)) : evT (T0 call sb gl) (.not (.of (.call 20 [e, f]))) ρ = .ok false := by
  rw [t_not, t_of, bv (call_is ho (bs_two h h') hc)]
  rfl
theorem or_no {T : Tb} {ρ : Rho} {a b : CT} (ha : evT T a ρ = .ok false) (hb : evT T b ρ = .ok false) : evT T (.or a b) ρ = .ok false := by
  rw [t_or, ha, ok_bind, hb]
  rfl
theorem c2 {ρ : Rho} {f : Nat} {e1 e2 : CE} {d g r : D} (ho : [e1, e2].any (ownArg ρ) = false) (h1 : evE (T0 call sb gl) e1 ρ = .ok d) (h2 : evE (T0 call sb gl) e2 ρ = .ok g) (hc : call false f [d, g] = .ok r) : evE (T0 call sb gl) (.call f [e1, e2]) ρ = .ok r := call_is ho (bs_two h1 h2) hc
theorem c3 {ρ : Rho} {f : Nat} {e1 e2 e3 : CE} {d g h r : D} (ho : [e1, e2, e3].any (ownArg ρ) = false) (h1 : evE (T0 call sb gl) e1 ρ = .ok d) (h2 : evE (T0 call sb gl) e2 ρ = .ok g) (h3 : evE (T0 call sb gl) e3 ρ = .ok h) (hc : call false f [d, g, h] = .ok r) : evE (T0 call sb gl) (.call f [e1, e2, e3]) ρ = .ok r := call_is ho (bs_three h1 h2 h3) hc
abbrev nD (v : Nat) : D := .int (v : Int)
abbrev R30 (u : Nat) (b : List Nat) (x2 x3 x4 x5 x6 x7 x8 x9 x10 x11 x12 x13 x14 x15 : Slot) : Rho := [.val (nD u), .val (.lst (nts b)), x2, x3, x4, x5, x6, x7, x8, x9, x10, x11, x12, x13, x14, x15]
theorem fa1 {u B : Nat} {b : List Nat} {x3 x4 x5 x6 x7 x8 x9 x10 x11 x12 x13 x14 : Slot} (hB : 1 ≤ B) (h28 : call false 28 [nD u] = .ok (nD B)) (h21 : ∀ k : Nat, k + 11 ≤ 102 → ∃ v : Nat, call false 21 [.lst (nts b), nD k] = .ok (nD v)) :
    ∃ pl : List Nat, pl.length = 4 ∧ (∀ x ∈ pl, 1 ≤ x ∧ x ≤ B) ∧ evS (T0 call sb gl) s30_0 (R30 u b .none x3 x4 x5 x6 x7 x8 x9 x10 x11 x12 x13 x14 .none) = .nx (R30 u b (.val (.lst (nts pl))) x3 x4 x5 x6 x7 x8 x9 x10 x11 x12 x13 x14 .none) := by
  have one : ∀ k : Nat, k < 4 → ∃ v : Nat, (1 ≤ v ∧ v ≤ B) ∧ turnQ (T0 call sb gl) (.nm 15) .yes (.bin .add (.cst (.int 1)) (.bin .mod (.bi .int [(.call 21 [(.var 1), (.bin .add (.cst (.int 46)) (.bin .mul (.cst (.int 11)) (.var 15)))])]) (.call 28 [(.var 0)]))) (R30 u b .none x3 x4 x5 x6 x7 x8 x9 x10 x11 x12 x13 x14 .none) (nD k) = .ok (some (nD v)) := fun k hk => by
    obtain ⟨v, ev⟩ := h21 (46 + 11 * k) (by omega)
    have hm := Nat.mod_lt v hB
    refine ⟨1 + v % B, ⟨by omega, by omega⟩, ?_⟩
    refine turn_of (ρ1 := R30 u b .none x3 x4 x5 x6 x7 x8 x9 x10 x11 x12 x13 x14 (.val (nD k))) rfl ?_
    generalize hρ : R30 u b .none x3 x4 x5 x6 x7 x8 x9 x10 x11 x12 x13 x14 (.val (nD k)) = ρ
    have e1 : evE (T0 call sb gl) (.bin .add (.cst (.int 46)) (.bin .mul (.cst (.int 11)) (.var 15))) ρ = .ok (nD (46 + 11 * k)) := by
      refine an_ok (x := 46) (k := 11 * k) rfl ?_
      rw [bin_ok (x := .int 11) (y := .int (k : Int)) rfl (by rw [← hρ]; rfl), mulW_is ⟨by decide, by decide⟩]
      rfl
    have e2 := c2 (call := call) (sb := sb) (gl := gl) (ρ := ρ) (f := 21) (by rw [← hρ]; rfl) (e1 := .var 1) (d := .lst (nts b)) (by rw [← hρ]; rfl) e1 ev
    have e3 : evE (T0 call sb gl) (.call 28 [(.var 0)]) ρ = .ok (nD B) := call_is (by rw [← hρ]; rfl) (bs_one (d := nD u) (by rw [← hρ]; rfl)) h28
    refine an_ok (x := 1) (k := v % B) rfl ?_
    rw [mod_ok (int_ok e2) e3 (by omega)]
    rfl
  obtain ⟨v0, g0, e0⟩ := one 0 (by decide)
  obtain ⟨v1, g1, e1⟩ := one 1 (by decide)
  obtain ⟨v2, g2, e2⟩ := one 2 (by decide)
  obtain ⟨v3, g3, e3⟩ := one 3 (by decide)
  refine ⟨[v0, v1, v2, v3], rfl, fun x hx => by
    simp only [List.mem_cons, List.not_mem_nil, or_false] at hx
    rcases hx with rfl | rfl | rfl | rfl
    · exact g0
    · exact g1
    · exact g2
    · exact g3, ?_⟩
  have ec : evE (T0 call sb gl) s30_0x (R30 u b .none x3 x4 x5 x6 x7 x8 x9 x10 x11 x12 x13 x14 .none) = .ok (.lst (nts [v0, v1, v2, v3])) := by
    refine cmp_is rfl rfl (i_rng0 (k := 4) rfl (by decide)) ?_
    show compL _ [nD 0, nD 1, nD 2, nD 3] = _
    simp only [compL, e0, e1, e2, e3]
    rfl
  rw [s_setC', show (T0 call sb gl).hot = false from rfl, if_neg (by decide), ec]
  rfl
theorem mul_tN {k : Nat} {r : List Nat} (hk : k ≤ 1000) (hl : r.length ≤ 1000) : binD .mul (tN r) (.int (k : Int)) = .ok (tN (reps k r)) := by
  have rep : repL (k : Int) (nts r) = nts (reps k r) := by
    unfold repL
    rw [Int.toNat_natCast]
    show (List.replicate k (nts r)).flatten = nts (List.replicate k r).flatten
    rw [← nts_flat, List.map_replicate]
  cases r with
  | nil =>
    rw [reps_nil]
    simp only [binD]
    rw [if_neg (by simp), if_pos ⟨by omega, by omega, .inl rfl⟩]
  | cons x t =>
    simp only [binD]
    rcases Nat.lt_or_ge k 2 with h | h
    · rw [if_neg (by omega)]
      rcases Nat.eq_zero_or_pos k with z | z
      · subst z
        rfl
      · have : k = 1 := by omega
        subst this
        rw [if_pos ⟨by omega, by omega, .inr rfl⟩]
        unfold reps
        simp
    · rw [if_pos ⟨rfl, by omega, by omega, by rw [List.length_map]; exact hl⟩, rep]
abbrev S30 (u : Nat) (b a l m : List Nat) (xp x9 x10 x11 x12 x13 x14 : Slot) : Rho := R30 u b xp (.val (tN a)) (.val (tN l)) (.val (tN m)) (.val (nD (num u a))) (.val (nD (num u l))) (.val (nD (num u m))) x9 x10 x11 x12 x13 x14 .none
section
variable {u : Nat} {b a l m : List Nat} {xp x9 x10 x11 x12 x13 x14 : Slot}
theorem pc {ρ : Rho} {e : CE} {t : List Nat} (h0 : ρ[0]? = some (.val (nD u))) (ho : ownArg ρ e = false) (he : evE (T0 call sb gl) e ρ = .ok (tN t)) (h24 : call false 24 [nD u, tN t] = .ok (tN (cut u t))) (h23 : call false 23 [nD u, tN (cut u t)] = .ok (nD (num u (cut u t)))) :
    evE (T0 call sb gl) (.call 23 [(.var 0), (.call 24 [(.var 0), e])]) ρ = .ok (nD (num u (cut u t))) := by
  have o0 : ownArg ρ (.var 0) = false := by
    show isOwn ρ[0]? = false
    rw [h0]
    rfl
  refine c2 (by simp only [List.any_cons, List.any_nil, o0]; rfl) (vr' h0) (c2 (by simp only [List.any_cons, List.any_nil, o0, ho]; rfl) (vr' h0) he h24) h23
theorem addT {ρ : Rho} {e f : CE} {x y : List Nat} (he : evE (T0 call sb gl) e ρ = .ok (tN x)) (hf : evE (T0 call sb gl) f ρ = .ok (tN y)) (h : x.length + y.length ≤ 1000000) : evE (T0 call sb gl) (.bin .add e f) ρ = .ok (tN (x ++ y)) := by
  rw [bin_ok he hf, add_tN h]
end
theorem lt_n {ρ : Rho} {e f : CE} {x y : Nat} (he : evE (T0 call sb gl) e ρ = .ok (nD x)) (hf : evE (T0 call sb gl) f ρ = .ok (nD y)) : evE (T0 call sb gl) (.bin .lt e f) ρ = .ok (.bl (decide (x < y))) := by
  rw [bin_ok he hf]
  show R.ok (D.bl (decide ((x : Int) < (y : Int)))) = _
  congr 2
  exact decide_eq_decide.mpr (by omega)
theorem gd_nil {u : Nat} : Gd u [] := ⟨⟨0, by decide, .nil 0⟩, Nat.zero_le _, Nat.zero_le _⟩
theorem r30' {u : Nat} {b a l m : List Nat} {pl : List Nat} {fr : Nat} (hu : 1 ≤ u) (hu2 : u ≤ 300) (hD : Dr b)
    (h20 : ∀ i : Int, call false 20 [.int i, .int i] = .ok (.bl true))
    (p0 : evS (T0 call sb gl) s30_0 (R30 u b .none .none .none .none .none .none .none .none .none .none .none .none .none .none) = .nx (R30 u b (.val (.lst (nts pl))) .none .none .none .none .none .none .none .none .none .none .none .none .none))
    (ha : call false 29 [nD u, .lst (nts pl), .lst (nts b), nD 22] = .ok (tN a)) (hl : call false 29 [nD u, .lst (nts pl), .lst (nts b), nD 28] = .ok (tN l)) (hm : call false 29 [nD u, .lst (nts pl), .lst (nts b), nD 34] = .ok (tN m))
    (h23 : ∀ r : List Nat, Gd u r → call false 23 [nD u, tN r] = .ok (nD (num u r)))
    (h24 : ∀ t : List Nat, call false 24 [nD u, tN t] = .ok (tN (cut u t)))
    (h14 : ∀ r s : List Nat, Gd u r → Gd u s → call false 14 [nD u, nD (num u r), nD (num u s)] = .ok (nD (num u (cut u (r ++ s)))))
    (h15 : ∀ rs : List (List Nat), (∀ r ∈ rs, Gd u r) → rs.length ≤ 1000 → call false 15 [nD u, tN (rs.map (num u))] = .ok (nD (num u (cut u rs.flatten))))
    (h16 : ∀ (r : List Nat) (k : Nat), Gd u r → call false 16 [nD u, nD (num u r), nD k] = .ok (nD (num u (cut u (reps k r)))))
    (h25 : call false 25 [nD u, tN a] = .ok (tN (aft u a)))
    (ga : Gd u a) (gl' : Gd u l) (gm : Gd u m) (gf : Gd u (aft u a)) (hf : num u (aft u a) = num u a + 1)
    (gc : ∀ t : List Nat, (∀ x ∈ t, x ∈ a ∨ x ∈ l ∨ x ∈ m ∨ x ∈ aft u a) → Gd u (cut u t))
    (h21 : call false 21 [.lst (nts b), nD 90] = .ok (nD fr))
    (h7 : ∀ c : Nat, 1 ≤ c → c ≤ 99 → call false 7 [nD u, nD c] = .ok (nD (ch (u + c) c)))
    (h22 : ∀ c : Nat, 1 ≤ c → c ≤ 99 → call false 22 [nD (u + 1 + (c - 1)), nD u] = .ok (nD (ch (u + c) u))) :
    (evSs (T0 call sb gl) b30 (R30 u b .none .none .none .none .none .none .none .none .none .none .none .none .none .none)).fin = .ok (.bl true) := by
  rw [b30_is, go p0]
  have pa : evS (T0 call sb gl) s30_1 (R30 u b (.val (.lst (nts pl))) .none .none .none .none .none .none .none .none .none .none .none .none .none) = .nx (R30 u b (.val (.lst (nts pl))) (.val (tN a)) .none .none .none .none .none .none .none .none .none .none .none .none) := set_is (call_is (ds := [nD u, .lst (nts pl), .lst (nts b), nD 22]) rfl rfl ha)
  have pl' : evS (T0 call sb gl) s30_2 (R30 u b (.val (.lst (nts pl))) (.val (tN a)) .none .none .none .none .none .none .none .none .none .none .none .none) = .nx (R30 u b (.val (.lst (nts pl))) (.val (tN a)) (.val (tN l)) .none .none .none .none .none .none .none .none .none .none .none) := set_is (call_is (ds := [nD u, .lst (nts pl), .lst (nts b), nD 28]) rfl rfl hl)
  have pm : evS (T0 call sb gl) s30_3 (R30 u b (.val (.lst (nts pl))) (.val (tN a)) (.val (tN l)) .none .none .none .none .none .none .none .none .none .none .none) = .nx (R30 u b (.val (.lst (nts pl))) (.val (tN a)) (.val (tN l)) (.val (tN m)) .none .none .none .none .none .none .none .none .none .none) := set_is (call_is (ds := [nD u, .lst (nts pl), .lst (nts b), nD 34]) rfl rfl hm)
  rw [go pa, go pl', go pm]
  generalize (Slot.val (.lst (nts pl))) = xp
  have q4 : evS (T0 call sb gl) s30_4 (R30 u b xp (.val (tN a)) (.val (tN l)) (.val (tN m)) .none .none .none .none .none .none .none .none .none .none) = .nx (R30 u b xp (.val (tN a)) (.val (tN l)) (.val (tN m)) (.val (nD (num u a))) .none .none .none .none .none .none .none .none .none) := set_is (c2 rfl (d := nD u) (g := tN a) rfl rfl (h23 a ga))
  have q5 : evS (T0 call sb gl) s30_5 (R30 u b xp (.val (tN a)) (.val (tN l)) (.val (tN m)) (.val (nD (num u a))) .none .none .none .none .none .none .none .none .none) = .nx (R30 u b xp (.val (tN a)) (.val (tN l)) (.val (tN m)) (.val (nD (num u a))) (.val (nD (num u l))) .none .none .none .none .none .none .none .none) := set_is (c2 rfl (d := nD u) (g := tN l) rfl rfl (h23 l gl'))
  have q6 : evS (T0 call sb gl) s30_6 (R30 u b xp (.val (tN a)) (.val (tN l)) (.val (tN m)) (.val (nD (num u a))) (.val (nD (num u l))) .none .none .none .none .none .none .none .none) = .nx (R30 u b xp (.val (tN a)) (.val (tN l)) (.val (tN m)) (.val (nD (num u a))) (.val (nD (num u l))) (.val (nD (num u m))) .none .none .none .none .none .none .none) := set_is (c2 rfl (d := nD u) (g := tN m) rfl rfl (h23 m gm))
  rw [go q4, go q5, go q6]
  have la := ga.2.1
  have ll := gl'.2.1
  have lm := gm.2.1
  have laf := gf.2.1
  show (evSs (T0 call sb gl) [s30_7, s30_8, s30_9, s30_10, s30_11, s30_12, s30_13, s30_14, s30_15, s30_16, s30_17, s30_18, s30_19, s30_20, s30_21, s30_22] (S30 u b a l m xp .none .none .none .none .none .none)).fin = _
  have g1 := gc (a ++ l) fun x hx => (List.mem_append.mp hx).elim .inl fun q => .inr (.inl q)
  have e7 : evS (T0 call sb gl) s30_7 (S30 u b a l m xp .none .none .none .none .none .none) = .nx (S30 u b a l m xp (.val (nD (num u (cut u (a ++ l))))) .none .none .none .none .none) := set_is (pc rfl rfl (addT rfl rfl (by omega)) (h24 _) (h23 _ g1))
  rw [go e7]
  have c8 : evT (T0 call sb gl) s30_8c (S30 u b a l m xp (.val (nD (num u (cut u (a ++ l))))) .none .none .none .none .none) = .ok false := by
    refine or_no (same_t rfl (c3 rfl rfl rfl rfl (h14 a l ga gl')) rfl (h20 _)) (same_t rfl (c3 rfl rfl rfl rfl (h14 l a gl' ga)) ?_ (h20 _))
    rw [cut_congr (l := l ++ a) List.perm_append_comm]
    rfl
  rw [pass_if c8]
  have g2 := gc (a ++ l ++ m) fun x hx => by
    rcases List.mem_append.mp hx with hx | hx
    · exact (List.mem_append.mp hx).elim .inl fun q => .inr (.inl q)
    · exact .inr (.inr (.inl hx))
  have e9 : evS (T0 call sb gl) s30_9 (S30 u b a l m xp (.val (nD (num u (cut u (a ++ l))))) .none .none .none .none .none) = .nx (S30 u b a l m xp (.val (nD (num u (cut u (a ++ l))))) (.val (nD (num u (cut u (a ++ l ++ m))))) .none .none .none .none) := set_is (pc rfl rfl (addT (addT rfl rfl (by omega)) rfl (by rw [List.length_append]; omega)) (h24 _) (h23 _ g2))
  rw [go e9]
  have g3 := gc (l ++ m) fun x hx => .inr ((List.mem_append.mp hx).elim .inl fun q => .inr (.inl q))
  have c10 : evT (T0 call sb gl) s30_10c (S30 u b a l m xp (.val (nD (num u (cut u (a ++ l))))) (.val (nD (num u (cut u (a ++ l ++ m))))) .none .none .none .none) = .ok false := by
    refine or_no (same_t rfl (c3 rfl rfl (c3 rfl rfl rfl rfl (h14 a l ga gl')) rfl (h14 (cut u (a ++ l)) m g1 gm)) ?_ (h20 _)) (same_t rfl (c3 rfl rfl rfl (c3 rfl rfl rfl rfl (h14 l m gl' gm)) (h14 a (cut u (l ++ m)) ga g3)) ?_ (h20 _))
    · rw [cut_left]
      rfl
    · rw [cut_more, ← List.append_assoc]
      rfl
  rw [pass_if c10]
  have c11 : evT (T0 call sb gl) s30_11c (S30 u b a l m xp (.val (nD (num u (cut u (a ++ l))))) (.val (nD (num u (cut u (a ++ l ++ m))))) .none .none .none .none) = .ok false := by
    have k1 := h15 [m, a, [], l] (fun r hr => by
      simp only [List.mem_cons, List.not_mem_nil, or_false] at hr
      rcases hr with rfl | rfl | rfl | rfl
      · exact gm
      · exact ga
      · exact gd_nil
      · exact gl') (by show 4 ≤ 1000; decide)
    have k2 := h15 [l, m, a] (fun r hr => by
      simp only [List.mem_cons, List.not_mem_nil, or_false] at hr
      rcases hr with rfl | rfl | rfl
      · exact gl'
      · exact gm
      · exact ga) (by show 3 ≤ 1000; decide)
    have p1 : ([m, a, [], l].flatten).Perm (a ++ l ++ m) := by
      have : [m, a, [], l].flatten = m ++ (a ++ l) := by simp
      rw [this]
      exact List.perm_append_comm
    have p2 : ([l, m, a].flatten).Perm (a ++ l ++ m) := by
      have : [l, m, a].flatten = (l ++ m) ++ a := by simp
      rw [this, List.append_assoc a l m]
      exact List.perm_append_comm
    rw [cut_congr p1] at k1
    rw [cut_congr p2] at k2
    exact or_no (same_t rfl (c2 rfl rfl (show evE (T0 call sb gl) (.tup [(.var 8), (.var 6), (.cst (.int 0)), (.var 7)]) _ = .ok (tN ([m, a, [], l].map (num u))) from rfl) k1) rfl (h20 _)) (same_t rfl (c2 rfl rfl (show evE (T0 call sb gl) (.tup [(.var 7), (.var 8), (.var 6)]) _ = .ok (tN ([l, m, a].map (num u))) from rfl) k2) rfl (h20 _))
  rw [pass_if c11]
  generalize hK : num u (cut u (a ++ l)) = both
  generalize (Slot.val (nD (num u (cut u (a ++ l ++ m))))) = x10
  have g4 := gc (aft u a ++ l) fun x hx => (List.mem_append.mp hx).elim (fun q => .inr (.inr (.inr q))) fun q => .inr (.inl q)
  have e12 : evS (T0 call sb gl) s30_12 (S30 u b a l m xp (.val (nD both)) x10 .none .none .none .none) = .nx (S30 u b a l m xp (.val (nD both)) x10 (.val (nD (num u (cut u (aft u a ++ l))))) .none .none .none) := set_is (pc rfl rfl (addT (c2 rfl rfl rfl h25) rfl (by omega)) (h24 _) (h23 _ g4))
  rw [go e12]
  have c13 : evT (T0 call sb gl) s30_13c (S30 u b a l m xp (.val (nD both)) x10 (.val (nD (num u (cut u (aft u a ++ l))))) .none .none .none) = .ok false := by
    have k := h14 (aft u a) l gf gl'
    rw [hf] at k
    exact same_t rfl (callk_three rfl (bs_three (an_ok (x := num u a) (k := 1) rfl rfl) (g := nD (num u l)) (v := nD u) rfl rfl) rfl k) rfl (h20 _)
  rw [pass_if c13]
  generalize (Slot.val (nD (num u (cut u (aft u a ++ l))))) = x11
  have c14 : evT (T0 call sb gl) s30_14c (S30 u b a l m xp (.val (nD both)) x10 x11 .none .none .none) = .ok false := by
    have k1 := h14 a [] ga gd_nil
    have k2 := h14 [] l gd_nil gl'
    obtain ⟨⟨ba, _, ra⟩, _, _⟩ := ga
    obtain ⟨⟨bl, _, rl⟩, _, _⟩ := gl'
    rw [List.append_nil, cut_self ra la] at k1
    rw [List.nil_append, cut_self rl ll] at k2
    exact or_no (same_t rfl (c3 rfl rfl rfl rfl k1) rfl (h20 _)) (same_t rfl (c3 rfl rfl rfl rfl k2) rfl (h20 _))
  rw [pass_if c14]
  have g5 := gc (reps u l) fun x hx => .inr (.inl (reps_mem hx))
  have e15 : evS (T0 call sb gl) s30_15 (S30 u b a l m xp (.val (nD both)) x10 x11 .none .none .none) = .nx (S30 u b a l m xp (.val (nD both)) x10 (.val (nD (num u (cut u (reps u l))))) .none .none .none) := set_is (pc rfl rfl (by rw [bin_ok (x := tN l) (y := .int (u : Int)) rfl rfl, mul_tN (by omega) (by omega)]) (h24 _) (h23 _ g5))
  have e16 : evS (T0 call sb gl) s30_16 (S30 u b a l m xp (.val (nD both)) x10 (.val (nD (num u (cut u (reps u l))))) .none .none .none) = .nx (S30 u b a l m xp (.val (nD both)) x10 (.val (nD (num u (cut u (reps u l))))) (.val (nD (u + fr))) .none .none) := set_is (an_ok (x := u) rfl (c2 rfl rfl rfl h21))
  rw [go e15, go e16]
  have c17 : evT (T0 call sb gl) s30_17c (S30 u b a l m xp (.val (nD both)) x10 (.val (nD (num u (cut u (reps u l))))) (.val (nD (u + fr))) .none .none) = .ok false := by
    have k1 := h16 l (u + fr) gl'
    rw [cut_many l (Nat.le_add_right u fr)] at k1
    exact or_no (same_t rfl (c3 rfl rfl rfl rfl k1) rfl (h20 _)) (same_t rfl (callk_three rfl (bs_three (d := nD u) (g := nD (num u l)) (v := nD u) rfl rfl rfl) rfl (h16 l u gl')) rfl (h20 _))
  rw [pass_if c17]
  generalize (Slot.val (nD (num u (cut u (reps u l))))) = x11
  generalize (Slot.val (nD (u + fr))) = x12
  obtain ⟨v, _, ev⟩ := hD.at (T := T0 call sb gl) (ρ := S30 u b a l m xp (.val (nD both)) x10 x11 x12 .none .none) (i := 1) (e := .cst (.int 40)) (k := 40) rfl rfl (by decide)
  have e18 : evE (T0 call sb gl) s30_18x (S30 u b a l m xp (.val (nD both)) x10 x11 x12 .none .none) = .ok (nD (v % (u + 2))) := by
    rw [mod_ok ev (an_ok (x := u) (k := 2) rfl rfl) (by omega)]
    rfl
  have hti : v % (u + 2) < u + 2 := Nat.mod_lt _ (by omega)
  generalize v % (u + 2) = ti at e18 hti
  rw [go (set_is e18)]
  show (evSs (T0 call sb gl) [s30_19, s30_20, s30_21, s30_22] (S30 u b a l m xp (.val (nD both)) x10 x11 x12 (.val (nD ti)) .none)).fin = _
  have g6 := gc (reps ti m) fun x hx => .inr (.inr (.inl (reps_mem hx)))
  have e19 : evS (T0 call sb gl) s30_19 (S30 u b a l m xp (.val (nD both)) x10 x11 x12 (.val (nD ti)) .none) = .nx (S30 u b a l m xp (.val (nD both)) x10 (.val (nD (num u (cut u (reps ti m))))) x12 (.val (nD ti)) .none) := set_is (pc rfl rfl (by rw [bin_ok (x := tN m) (y := .int (ti : Int)) rfl rfl, mul_tN (by omega) (by omega)]) (h24 _) (h23 _ g6))
  rw [go e19, pass_if (same_t rfl (c3 rfl rfl rfl rfl (h16 m ti gm)) rfl (h20 _))]
  generalize (Slot.val (nD (num u (cut u (reps ti m))))) = x11
  obtain ⟨v, _, ev⟩ := hD.at (T := T0 call sb gl) (ρ := S30 u b a l m xp (.val (nD both)) x10 x11 x12 (.val (nD ti)) .none) (i := 1) (e := .cst (.int 41)) (k := 41) rfl rfl (by decide)
  have em : evE (T0 call sb gl) (.bin .mod (.idx (.var 1) (.cst (.int 41))) (.cst (.int 99))) (S30 u b a l m xp (.val (nD both)) x10 x11 x12 (.val (nD ti)) .none) = .ok (nD (v % 99)) := mn_ok (k := 99) ev (by decide)
  have hv : v % 99 < 99 := Nat.mod_lt _ (by decide)
  have e21 : evE (T0 call sb gl) s30_21x (S30 u b a l m xp (.val (nD both)) x10 x11 x12 (.val (nD ti)) .none) = .ok (nD (ch (u + (1 + v % 99)) (1 + v % 99))) := c2 rfl rfl (an_ok (x := 1) rfl em) (h7 (1 + v % 99) (by omega) (by omega))
  rw [go (set_is e21)]
  refine ret_is (e := s30_22x) ?_
  show evE (T0 call sb gl) s30_22x (S30 u b a l m xp (.val (nD both)) x10 x11 x12 (.val (nD ti)) (.val (nD (ch (u + (1 + v % 99)) (1 + v % 99))))) = _
  have em2 : ∀ x14 : Slot, evE (T0 call sb gl) (.bin .mod (.idx (.var 1) (.cst (.int 41))) (.cst (.int 99))) (S30 u b a l m xp (.val (nD both)) x10 x11 x12 (.val (nD ti)) x14) = .ok (nD (v % 99)) := fun _ => em
  generalize hc : 1 + v % 99 = c at e21 em2 ⊢
  have hc1 : 1 ≤ c ∧ c ≤ 99 := by omega
  have hv2 : v % 99 = c - 1 := by omega
  rw [hv2] at em2
  have hsym : ch (u + c) c = ch (u + c) u := by
    rw [ch_sym (n := u + c) (k := c) (by omega)]
    congr 1
    omega
  have hbel : ch (u + c) u = bel u (c + 1) := by
    unfold bel
    congr 1
    omega
  rw [hsym] at *
  have k22 := h22 c hc1.1 hc1.2
  generalize hroom : ch (u + c) u = room at *
  have f1 : evE (T0 call sb gl) (.bin .lt (.var 9) (.var 14)) (S30 u b a l m xp (.val (nD both)) x10 x11 x12 (.val (nD ti)) (.val (nD room))) = .ok (.bl (decide (both < room))) := lt_n rfl rfl
  have f2 : evE (T0 call sb gl) (.and (.bin .lt (.var 6) (.var 14)) (.bin .lt (.var 7) (.var 14))) (S30 u b a l m xp (.val (nD both)) x10 x11 x12 (.val (nD ti)) (.val (nD room))) = .ok (.bl (decide (num u a < room) && decide (num u l < room))) := by
    have k1 : evE (T0 call sb gl) (.bin .lt (.var 6) (.var 14)) (S30 u b a l m xp (.val (nD both)) x10 x11 x12 (.val (nD ti)) (.val (nD room))) = .ok (.bl (decide (num u a < room))) := lt_n rfl rfl
    have k2 : evE (T0 call sb gl) (.bin .lt (.var 7) (.var 14)) (S30 u b a l m xp (.val (nD both)) x10 x11 x12 (.val (nD ti)) (.val (nD room))) = .ok (.bl (decide (num u l < room))) := lt_n rfl rfl
    rw [q_and, k1, ok_bind]
    cases decide (num u a < room) with
    | false => rfl
    | true =>
      show evE _ _ _ = _
      rw [k2, Bool.true_and]
  have f3 : (decide (num u a < room) && decide (num u l < room)) = decide (both < room) := by
    obtain ⟨⟨ba, _, ra⟩, _, _⟩ := ga
    obtain ⟨⟨bl, _, rl⟩, _, _⟩ := gl'
    obtain ⟨⟨bc, _, rc⟩, lc, _⟩ := g1
    have i1 := num_room (c := c) ra la
    have i2 := num_room (c := c) rl ll
    have i3 := num_room (c := c) rc lc
    rw [← hbel] at i1 i2 i3
    rw [hK] at i3
    have i4 := cut_room (c := c) hu (a ++ l)
    rw [Bool.eq_iff_iff]
    simp only [Bool.and_eq_true, decide_eq_true_eq]
    rw [i1, i2, i3, i4]
    constructor
    · exact fun h x hx => (List.mem_append.mp hx).elim (h.1 x) (h.2 x)
    · exact fun h => ⟨fun x hx => h x (List.mem_append.mpr (.inl hx)), fun x hx => h x (List.mem_append.mpr (.inr hx))⟩
  rw [f3] at f2
  have f4 : evE (T0 call sb gl) (.bin .eq (.bin .lt (.var 9) (.var 14)) (.and (.bin .lt (.var 6) (.var 14)) (.bin .lt (.var 7) (.var 14)))) (S30 u b a l m xp (.val (nD both)) x10 x11 x12 (.val (nD ti)) (.val (nD room))) = .ok (.bl true) := by
    rw [bin_ok f1 f2]
    cases decide (both < room) <;> rfl
  show evE (T0 call sb gl) (.and (.bin .eq (.bin .lt (.var 9) (.var 14)) (.and (.bin .lt (.var 6) (.var 14)) (.bin .lt (.var 7) (.var 14)))) (.bin .eq (.var 14) (.call 22 [(.bin .add (.bin .add (.var 0) (.cst (.int 1))) (.bin .mod (.idx (.var 1) (.cst (.int 41))) (.cst (.int 99)))), (.var 0)]))) _ = _
  rw [q_and, f4, ok_bind]
  show evE _ _ _ = _
  rw [bin_ok (x := nD room) (y := nD room) rfl (c2 rfl (an_ok (an_ok (x := u) (k := 1) rfl rfl) (em2 _)) rfl k22), eq_ii, decide_eq_true rfl]
end
end Vk19_whole_joining
end
section
set_option Elab.async false
set_option linter.all false
set_option maxRecDepth 100000
set_option maxHeartbeats 2000000
namespace Vk19_whole_joining
open PySem PySem.Spec Ev Nr
def okT : R D → Bool
  | .ok (.bl b) => b
  | _ => false
theorem okT_is {r : R D} (h : okT r = true) : r = .ok (.bl true) := by
  cases r with
  | ok d => cases d <;> simp [okT] at h; subst h; rfl
  | _ => simp [okT] at h
def odd : List D := [.non, .str (L "3"), .lst [], .int (-1), .tup [.int 2], .bl false, .bl true, .int (-(10 ^ 22))]
theorem kb0_1 : okT (P.run 39 false 33 [.non, .int 1]) = true := by decide +kernel
theorem kb0_2 : okT (P.run 39 false 33 [.non, .int 2]) = true := by decide +kernel
theorem kb0_3 : okT (P.run 39 false 33 [.non, .int 3]) = true := by decide +kernel
theorem kb0_4 : okT (P.run 39 false 33 [.non, .int 4]) = true := by decide +kernel
theorem kb0_5 : okT (P.run 39 false 33 [.non, .int 5]) = true := by decide +kernel
theorem kb0_6 : okT (P.run 39 false 33 [.non, .int 6]) = true := by decide +kernel
theorem kb0_7 : okT (P.run 39 false 33 [.non, .int 7]) = true := by decide +kernel
theorem kb1_1 : okT (P.run 39 false 33 [.str (L "3"), .int 1]) = true := by decide +kernel
theorem kb1_2 : okT (P.run 39 false 33 [.str (L "3"), .int 2]) = true := by decide +kernel
theorem kb1_3 : okT (P.run 39 false 33 [.str (L "3"), .int 3]) = true := by decide +kernel
theorem kb1_4 : okT (P.run 39 false 33 [.str (L "3"), .int 4]) = true := by decide +kernel
theorem kb1_5 : okT (P.run 39 false 33 [.str (L "3"), .int 5]) = true := by decide +kernel
theorem kb1_6 : okT (P.run 39 false 33 [.str (L "3"), .int 6]) = true := by decide +kernel
theorem kb1_7 : okT (P.run 39 false 33 [.str (L "3"), .int 7]) = true := by decide +kernel
theorem kb2_1 : okT (P.run 39 false 33 [.lst [], .int 1]) = true := by decide +kernel
theorem kb2_2 : okT (P.run 39 false 33 [.lst [], .int 2]) = true := by decide +kernel
theorem kb2_3 : okT (P.run 39 false 33 [.lst [], .int 3]) = true := by decide +kernel
theorem kb2_4 : okT (P.run 39 false 33 [.lst [], .int 4]) = true := by decide +kernel
theorem kb2_5 : okT (P.run 39 false 33 [.lst [], .int 5]) = true := by decide +kernel
theorem kb2_6 : okT (P.run 39 false 33 [.lst [], .int 6]) = true := by decide +kernel
theorem kb2_7 : okT (P.run 39 false 33 [.lst [], .int 7]) = true := by decide +kernel
theorem kb3_1 : okT (P.run 39 false 33 [.int (-1), .int 1]) = true := by decide +kernel
theorem kb3_2 : okT (P.run 39 false 33 [.int (-1), .int 2]) = true := by decide +kernel
theorem kb3_3 : okT (P.run 39 false 33 [.int (-1), .int 3]) = true := by decide +kernel
theorem kb3_4 : okT (P.run 39 false 33 [.int (-1), .int 4]) = true := by decide +kernel
theorem kb3_5 : okT (P.run 39 false 33 [.int (-1), .int 5]) = true := by decide +kernel
theorem kb3_6 : okT (P.run 39 false 33 [.int (-1), .int 6]) = true := by decide +kernel
theorem kb3_7 : okT (P.run 39 false 33 [.int (-1), .int 7]) = true := by decide +kernel
theorem kb4_1 : okT (P.run 39 false 33 [.tup [.int 2], .int 1]) = true := by decide +kernel
theorem kb4_2 : okT (P.run 39 false 33 [.tup [.int 2], .int 2]) = true := by decide +kernel
theorem kb4_3 : okT (P.run 39 false 33 [.tup [.int 2], .int 3]) = true := by decide +kernel
theorem kb4_4 : okT (P.run 39 false 33 [.tup [.int 2], .int 4]) = true := by decide +kernel
theorem kb4_5 : okT (P.run 39 false 33 [.tup [.int 2], .int 5]) = true := by decide +kernel
theorem kb4_6 : okT (P.run 39 false 33 [.tup [.int 2], .int 6]) = true := by decide +kernel
theorem kb4_7 : okT (P.run 39 false 33 [.tup [.int 2], .int 7]) = true := by decide +kernel
theorem kb5_1 : okT (P.run 39 false 33 [.bl false, .int 1]) = true := by decide +kernel
theorem kb5_2 : okT (P.run 39 false 33 [.bl false, .int 2]) = true := by decide +kernel
theorem kb5_3 : okT (P.run 39 false 33 [.bl false, .int 3]) = true := by decide +kernel
theorem kb5_4 : okT (P.run 39 false 33 [.bl false, .int 4]) = true := by decide +kernel
theorem kb5_5 : okT (P.run 39 false 33 [.bl false, .int 5]) = true := by decide +kernel
theorem kb5_6 : okT (P.run 39 false 33 [.bl false, .int 6]) = true := by decide +kernel
theorem kb5_7 : okT (P.run 39 false 33 [.bl false, .int 7]) = true := by decide +kernel
theorem kb6_1 : okT (P.run 39 false 33 [.bl true, .int 1]) = true := by decide +kernel
theorem kb6_2 : okT (P.run 39 false 33 [.bl true, .int 2]) = true := by decide +kernel
theorem kb6_3 : okT (P.run 39 false 33 [.bl true, .int 3]) = true := by decide +kernel
theorem kb6_4 : okT (P.run 39 false 33 [.bl true, .int 4]) = true := by decide +kernel
theorem kb6_5 : okT (P.run 39 false 33 [.bl true, .int 5]) = true := by decide +kernel
theorem kb6_6 : okT (P.run 39 false 33 [.bl true, .int 6]) = true := by decide +kernel
theorem kb6_7 : okT (P.run 39 false 33 [.bl true, .int 7]) = true := by decide +kernel
theorem kb7_1 : okT (P.run 39 false 33 [.int (-(10 ^ 22)), .int 1]) = true := by decide +kernel
theorem kb7_2 : okT (P.run 39 false 33 [.int (-(10 ^ 22)), .int 2]) = true := by decide +kernel
theorem kb7_3 : okT (P.run 39 false 33 [.int (-(10 ^ 22)), .int 3]) = true := by decide +kernel
theorem kb7_4 : okT (P.run 39 false 33 [.int (-(10 ^ 22)), .int 4]) = true := by decide +kernel
theorem kb7_5 : okT (P.run 39 false 33 [.int (-(10 ^ 22)), .int 5]) = true := by decide +kernel
theorem kb7_6 : okT (P.run 39 false 33 [.int (-(10 ^ 22)), .int 6]) = true := by decide +kernel
theorem kb7_7 : okT (P.run 39 false 33 [.int (-(10 ^ 22)), .int 7]) = true := by decide +kernel
theorem kb : ∀ d ∈ odd, ∀ w : Nat, 1 ≤ w → w ≤ 7 → okT (P.run 39 false 33 [d, .int (w : Int)]) = true := fun d hd w h1 h2 => by
  simp only [odd, List.mem_cons, List.not_mem_nil, or_false] at hd
  have hw : w = 1 ∨ w = 2 ∨ w = 3 ∨ w = 4 ∨ w = 5 ∨ w = 6 ∨ w = 7 := by omega
  rcases hd with rfl | rfl | rfl | rfl | rfl | rfl | rfl | rfl <;> rcases hw with rfl | rfl | rfl | rfl | rfl | rfl | rfl
  · exact kb0_1
  · exact kb0_2
  · exact kb0_3
  · exact kb0_4
  · exact kb0_5
  · exact kb0_6
  · exact kb0_7
  · exact kb1_1
  · exact kb1_2
  · exact kb1_3
  · exact kb1_4
  · exact kb1_5
  · exact kb1_6
  · exact kb1_7
  · exact kb2_1
  · exact kb2_2
  · exact kb2_3
  · exact kb2_4
  · exact kb2_5
  · exact kb2_6
  · exact kb2_7
  · exact kb3_1
  · exact kb3_2
  · exact kb3_3
  · exact kb3_4
  · exact kb3_5
  · exact kb3_6
  · exact kb3_7
  · exact kb4_1
  · exact kb4_2
  · exact kb4_3
  · exact kb4_4
  · exact kb4_5
  · exact kb4_6
  · exact kb4_7
  · exact kb5_1
  · exact kb5_2
  · exact kb5_3
  · exact kb5_4
  · exact kb5_5
  · exact kb5_6
  · exact kb5_7
  · exact kb6_1
  · exact kb6_2
  · exact kb6_3
  · exact kb6_4
  · exact kb6_5
  · exact kb6_6
  · exact kb6_7
  · exact kb7_1
  · exact kb7_2
  · exact kb7_3
  · exact kb7_4
  · exact kb7_5
  · exact kb7_6
  · exact kb7_7
def rwB : Nat → List Nat → Bool
  | _, [] => true
  | b, m :: r => decide (1 ≤ m) && decide (m ≤ b) && rwB m r
theorem rwB_is : ∀ {b : Nat} {r : List Nat}, rwB b r = true → Rwn b r
  | b, [], _ => .nil b
  | b, m :: r, h => by
    simp only [rwB, Bool.and_eq_true, decide_eq_true_eq] at h
    exact .cons h.1.1 h.1.2 (rwB_is h.2)
def chkR (u c : Nat) (L : List (List Nat)) : Bool := decide (L.length = bel u (c + 1)) && L.zipIdx.all fun p => rwB c p.1 && (decide (p.1.length ≤ u) && decide (num u p.1 = p.2))
def chkL (u c : Nat) : R D → Bool
  | .ok (.lst xs) => (match rowsD xs with
    | some l => l.all (fun ns => ns.all fun x => decide (0 ≤ x)) && chkR u c (l.map fun ns => ns.map Int.toNat)
    | none => false)
  | _ => false
theorem ka0 : chkL 1 12 (P.run 38 false 26 [.int 1, .int 12]) = true := by decide +kernel
theorem ka1 : chkL 2 5 (P.run 38 false 26 [.int 2, .int 5]) = true := by decide +kernel
theorem ka2 : chkL 3 4 (P.run 38 false 26 [.int 3, .int 4]) = true := by decide +kernel
theorem ka3 : chkL 4 3 (P.run 38 false 26 [.int 4, .int 3]) = true := by decide +kernel
theorem ka4 : chkL 5 2 (P.run 38 false 26 [.int 5, .int 2]) = true := by decide +kernel
theorem ka5 : chkL 2 6 (P.run 38 false 26 [.int 2, .int 6]) = true := by decide +kernel
theorem ka6 : chkL 6 2 (P.run 38 false 26 [.int 6, .int 2]) = true := by decide +kernel
theorem ka7 : chkL 9 1 (P.run 38 false 26 [.int 9, .int 1]) = true := by decide +kernel
def prs : List (Nat × Nat) := [(1, 12), (2, 5), (3, 4), (4, 3), (5, 2), (2, 6), (6, 2), (9, 1)]
theorem ka : ∀ p ∈ prs, chkL p.1 p.2 (P.run 38 false 26 [.int (p.1 : Nat), .int (p.2 : Nat)]) = true := fun p hp => by
  simp only [prs, List.mem_cons, List.not_mem_nil, or_false] at hp
  rcases hp with rfl | rfl | rfl | rfl | rfl | rfl | rfl | rfl
  · exact ka0
  · exact ka1
  · exact ka2
  · exact ka3
  · exact ka4
  · exact ka5
  · exact ka6
  · exact ka7
theorem ints_of : ∀ {xs : List D} {ns : List Int}, intsD xs = some ns → xs = ns.map .int
  | [], ns, h => by simp [intsD] at h; subst h; rfl
  | x :: xs, ns, h => by
    cases x <;> simp [intsD] at h
    obtain ⟨r, h1, rfl⟩ := h
    rw [ints_of h1]
    rfl
theorem rows_of : ∀ {xs : List D} {l : List (List Int)}, rowsD xs = some l → l.all (fun ns => ns.all fun x => decide (0 ≤ x)) = true → xs = (l.map fun ns => ns.map Int.toNat).map fun r => D.tup (nts r)
  | [], l, h, _ => by simp [rowsD] at h; subst h; rfl
  | x :: xs, l, h, g => by
    cases x with
    | tup ys =>
      simp only [rowsD] at h
      split at h
      · rename_i ns l2 e1 e2
        cases h
        rw [List.all_cons, Bool.and_eq_true] at g
        rw [rows_of e2 g.2, ints_of e1]
        show _ = D.tup (nts (ns.map Int.toNat)) :: _
        congr 2
        unfold nts
        rw [List.map_map]
        apply List.map_congr_left
        intro y hy
        have := of_decide_eq_true (List.all_eq_true.mp g.1 y hy)
        show D.int y = D.int ((y.toNat : Nat) : Int)
        rw [Int.toNat_of_nonneg this]
      · cases h
    | _ => simp [rowsD] at h
theorem list_of {p : Nat × Nat} (hp : p ∈ prs) : ∃ L : List (List Nat), P.run 38 false 26 [.int (p.1 : Nat), .int (p.2 : Nat)] = .ok (.lst (L.map fun r => D.tup (nts r))) ∧ L.length = bel p.1 (p.2 + 1) ∧ ∀ (i : Nat) (h : i < L.length), Rwn p.2 L[i] ∧ L[i].length ≤ p.1 ∧ num p.1 L[i] = i := by
  have h := ka p hp
  revert h
  generalize P.run 38 false 26 [.int (p.1 : Nat), .int (p.2 : Nat)] = r
  intro h
  cases r with
  | ok d =>
    cases d with
    | lst xs =>
      simp only [chkL] at h
      split at h
      · rename_i l e
        rw [Bool.and_eq_true] at h
        refine ⟨l.map fun ns => ns.map Int.toNat, by rw [rows_of e h.1], ?_⟩
        have g := h.2
        generalize (l.map fun ns => ns.map Int.toNat) = L at g
        unfold chkR at g
        rw [Bool.and_eq_true, decide_eq_true_eq] at g
        refine ⟨g.1, fun i hi => ?_⟩
        have q := List.all_eq_true.mp g.2 (L[i], i) (by
          rw [List.mem_iff_getElem]
          exact ⟨i, by rw [List.length_zipIdx]; exact hi, by rw [List.getElem_zipIdx]; simp⟩)
        simp only [Bool.and_eq_true, decide_eq_true_eq] at q
        exact ⟨rwB_is q.1, q.2.1, q.2.2⟩
      · cases h
    | _ => cases h
  | _ => cases h
end Vk19_whole_joining
end
section
set_option Elab.async false
set_option linter.all false
set_option maxRecDepth 100000
set_option maxHeartbeats 2000000
namespace Vk19_whole_joining
open PySem PySem.Spec Ev Nr
theorem idxOf_is {α : Type} [BEq α] [LawfulBEq α] {a : α} : ∀ {l : List α} {i : Nat} (h : i < l.length), l[i] = a → (∀ j (hj : j < i), l[j]'(Nat.lt_trans hj h) ≠ a) → l.idxOf a = i
  | x :: l, 0, _, e, _ => by
    have e : x = a := e
    subst e
    simp
  | x :: l, i + 1, h, e, n => by
    have hx : x ≠ a := n 0 (Nat.succ_pos i)
    rw [List.idxOf_cons]
    have : (x == a) = false := by
      cases q : x == a with
      | false => rfl
      | true => exact absurd (eq_of_beq q) hx
    rw [this]
    show l.idxOf a + 1 = i + 1
    rw [idxOf_is (l := l) (i := i) (by simpa using h) (by simpa using e) fun j hj => by simpa using n (j + 1) (by omega)]
theorem rowsD_tN : ∀ L : List (List Nat), rowsD (L.map tN) = some (L.map zs)
  | [] => rfl
  | r :: L => by
    have e : intsD (nts r) = some (zs r) := by rw [← zs_int, intsD_map]
    show rowsD (D.tup (nts r) :: L.map tN) = _
    simp only [rowsD, e, rowsD_tN L]
    rfl
theorem zs_inj {r s : List Nat} (h : zs r = zs s) : r = s := (List.map_inj_right (fun x y e => by omega)).mp h
abbrev gt (L : List (List Nat)) (i : Nat) : List Nat := L.getD i []
theorem ix_ok {L : List (List Nat)} {u i : Nat} (hn : ∀ i, i < L.length → num u (gt L i) = i) (hi : i < L.length) : ixoD (.lst (L.map tN)) (tN (gt L i)) = .ok (nD i) := by
  have e : intsD (nts (gt L i)) = some (zs (gt L i)) := by rw [← zs_int, intsD_map]
  have hg : ∀ j (hj : j < L.length), L[j] = gt L j := fun j hj => by simp [List.getD, hj]
  have hm : zs (gt L i) ∈ L.map zs := List.mem_map.mpr ⟨gt L i, by rw [← hg i hi]; exact List.getElem_mem hi, rfl⟩
  show (match rowsD (L.map tN), intsD (nts (gt L i)) with
    | some l, some n => if n ∈ l then R.ok (D.int (l.idxOf n : Nat)) else .stuck
    | _, _ => .stuck) = _
  rw [rowsD_tN, e]
  show (if zs (gt L i) ∈ L.map zs then R.ok (D.int ((L.map zs).idxOf (zs (gt L i)) : Nat)) else .stuck) = _
  rw [if_pos hm, idxOf_is (l := L.map zs) (i := i) (by rw [List.length_map]; exact hi) (by rw [List.getElem_map, hg i hi]) fun j hj z => by
    rw [List.getElem_map, hg j (by omega)] at z
    have := zs_inj z
    have a := hn j (by omega)
    rw [this, hn i hi] at a
    omega]
section
variable {call : Bool → Nat → List D → R D} {sb : Nat → Nat → Bool} {gl : Nat → D}
abbrev R27 (u c : Nat) (b : List Nat) (x3 x4 x5 x6 x7 x8 x9 x10 x11 x12 : Slot) : Rho := [.val (nD u), .val (nD c), .val (.lst (nts b)), x3, x4, x5, x6, x7, x8, x9, x10, x11, x12]
abbrev lD (L : List (List Nat)) : D := .lst (L.map tN)
theorem gtE {ρ : Rho} {L : List (List Nat)} {e : CE} {k : Nat} (h : ρ[3]? = some (.val (lD L))) (he : evE (T0 call sb gl) e ρ = .ok (nD k)) (hk : k < L.length) : evE (T0 call sb gl) (.idx (.var 3) e) ρ = .ok (tN (gt L k)) := by
  rw [q_idx, vr h, ok_bind, he, ok_bind]
  show getI (L.map tN) (k : Int) = _
  rw [getI_nat (by rw [List.length_map]; exact hk)]
  simp [List.getD, hk]
structure Ls (u c : Nat) (L : List (List Nat)) : Prop where
  u1 : 1 ≤ u
  u2 : u ≤ 300
  c1 : c + 1000 ≤ 2 ^ 110
  len : L.length = bel u (c + 1)
  sm : L.length ≤ 1000
  pos : 1 ≤ L.length
  row : ∀ i, i < L.length → Rwn c (gt L i) ∧ (gt L i).length ≤ u ∧ num u (gt L i) = i
theorem Ls.gd {u c : Nat} {L : List (List Nat)} (h : Ls u c L) {i : Nat} (hi : i < L.length) : Gd u (gt L i) := by
  obtain ⟨a, b, d⟩ := h.row i hi
  refine ⟨⟨c, h.c1, a⟩, b, ?_⟩
  rw [d]
  have := h.sm
  exact Nat.le_trans (show i ≤ 1000 by omega) (by decide)
theorem Ls.mem {u c : Nat} {L : List (List Nat)} (h : Ls u c L) {i x : Nat} (hi : i < L.length) (hx : x ∈ gt L i) : 1 ≤ x ∧ x ≤ c := Rwn.ge1 (h.row i hi).1 x hx
theorem Ls.at {u c : Nat} {L : List (List Nat)} (h : Ls u c L) {t : List Nat} (ht : ∀ x ∈ t, 1 ≤ x ∧ x ≤ c) : num u (cut u t) < L.length ∧ gt L (num u (cut u t)) = cut u t := by
  have r := cut_row (w := u) ht
  have l := cut_len u t
  have hn : num u (cut u t) < L.length := by rw [h.len]; exact num_lt r l
  refine ⟨hn, ?_⟩
  obtain ⟨a, b, d⟩ := h.row _ hn
  have g1 := gr_of a b
  rw [d] at g1
  exact Gr.uniq (.inr h.u1) g1 (gr_of r l)
theorem ixE {ρ : Rho} {u c : Nat} {L : List (List Nat)} {e : CE} {t : List Nat} (h : Ls u c L) (h0 : ρ[0]? = some (.val (nD u))) (h3 : ρ[3]? = some (.val (lD L))) (ho : ownArg ρ e = false) (he : evE (T0 call sb gl) e ρ = .ok (tN t)) (h24 : call false 24 [nD u, tN t] = .ok (tN (cut u t))) (ht : ∀ x ∈ t, 1 ≤ x ∧ x ≤ c) :
    evE (T0 call sb gl) (.ixo (.var 3) (.call 24 [(.var 0), e])) ρ = .ok (nD (num u (cut u t))) := by
  obtain ⟨g1, g2⟩ := h.at ht
  have o0 : ownArg ρ (.var 0) = false := by
    show isOwn ρ[0]? = false
    rw [h0]
    rfl
  have e1 : evE (T0 call sb gl) (.call 24 [(.var 0), e]) ρ = .ok (tN (cut u t)) := c2 (by simp only [List.any_cons, List.any_nil, o0, ho]; rfl) (vr' h0) he h24
  rw [q_ixo, vr h3, ok_bind]
  show (evE (T0 call sb gl) (.call 24 [(.var 0), e]) ρ >>= fun w => ixoD (lD L) w) = _
  rw [e1, ok_bind, ← g2, ix_ok (fun i hi => (h.row i hi).2.2) g1, g2]
theorem lenL {ρ : Rho} {L : List (List Nat)} (h3 : ρ[3]? = some (.val (lD L))) : evE (T0 call sb gl) (.bi .len [(.var 3)]) ρ = .ok (nD L.length) := by
  rw [q_bi, bs_one (d := lD L) (vr' h3)]
  show R.ok (D.int ((L.map tN).length : Int)) = _
  rw [List.length_map]
theorem dsame {ρ : Rho} {e f : CE} {i : Int} (h20 : call false 20 [.int i, .int i] = .ok (.bl true)) (ho : [e, f].any (ownArg ρ) = false) (h : evE (T0 call sb gl) e ρ = .ok (.int i)) (h' : evE (T0 call sb gl) f ρ = .ok (.int i)) : evT (T0 call sb gl) (.not (.of (.call 20 [e, f]))) ρ = .ok false := same_t ho h h' h20
structure Ans (call : Bool → Nat → List D → R D) (u : Nat) : Prop where
  h20 : ∀ i : Int, call false 20 [.int i, .int i] = .ok (.bl true)
  h24 : ∀ t : List Nat, call false 24 [nD u, tN t] = .ok (tN (cut u t))
  h14 : ∀ r s : List Nat, Gd u r → Gd u s → call false 14 [nD u, nD (num u r), nD (num u s)] = .ok (nD (num u (cut u (r ++ s))))
  h15 : ∀ rs : List (List Nat), (∀ r ∈ rs, Gd u r) → rs.length ≤ 1000 → call false 15 [nD u, tN (rs.map (num u))] = .ok (nD (num u (cut u rs.flatten)))
  h16 : ∀ (r : List Nat) (k : Nat), Gd u r → call false 16 [nD u, nD (num u r), nD k] = .ok (nD (num u (cut u (reps k r))))
theorem Ans.i14 {u c : Nat} {L : List (List Nat)} (A : Ans call u) (h : Ls u c L) {x y : Nat} (hx : x < L.length) (hy : y < L.length) : call false 14 [nD u, nD x, nD y] = .ok (nD (num u (cut u (gt L x ++ gt L y)))) := by
  have := A.h14 _ _ (h.gd hx) (h.gd hy)
  rw [(h.row x hx).2.2, (h.row y hy).2.2] at this
  exact this
theorem Ans.i15 {u c : Nat} {L : List (List Nat)} (A : Ans call u) (h : Ls u c L) {pk : List Nat} (hp : ∀ y ∈ pk, y < L.length) (hl : pk.length ≤ 1000) : call false 15 [nD u, tN pk] = .ok (nD (num u (cut u (pk.map (gt L)).flatten))) := by
  have := A.h15 (pk.map (gt L)) (fun r hr => by
    obtain ⟨y, hy, rfl⟩ := List.mem_map.mp hr
    exact h.gd (hp y hy)) (by rw [List.length_map]; exact hl)
  rw [List.map_map] at this
  have e : pk.map (num u ∘ gt L) = pk := by
    conv => rhs; rw [← List.map_id pk]
    exact List.map_congr_left fun y hy => (h.row y (hp y hy)).2.2
  rw [e] at this
  exact this
theorem sa1 {u c : Nat} {b : List Nat} {L : List (List Nat)} {x : Nat} {x6 x7 x8 x10 x11 x12 : Slot} (A : Ans call u) (h : Ls u c L) (hx : x < L.length) (l : List Nat) : ∀ (x5 x9 : Slot), (∀ y ∈ l, y < L.length) →
    ∃ x5' x9', forL (.nm 5) (evSs (T0 call sb gl) s27_2b) (nts l) (R27 u c b (.val (lD L)) (.val (nD x)) x5 x6 x7 x8 x9 x10 x11 x12) = .nx (R27 u c b (.val (lD L)) (.val (nD x)) x5' x6 x7 x8 x9' x10 x11 x12) := by
  induction l with
  | nil => exact fun x5 x9 _ => ⟨x5, x9, rfl⟩
  | cons y l ih =>
    intro x5 x9 hl
    have hy := hl y (by simp)
    have lx := (h.row x hx).2.1
    have ly := (h.row y hy).2.1
    have hu := h.u2
    have e1 : bindT (.nm 5) (.int (y : Int)) (R27 u c b (.val (lD L)) (.val (nD x)) x5 x6 x7 x8 x9 x10 x11 x12) = .ok (R27 u c b (.val (lD L)) (.val (nD x)) (.val (nD y)) x6 x7 x8 x9 x10 x11 x12) := rfl
    have g0 : evE (T0 call sb gl) s27_2b0x (R27 u c b (.val (lD L)) (.val (nD x)) (.val (nD y)) x6 x7 x8 x9 x10 x11 x12) = .ok (nD (num u (cut u (gt L x ++ gt L y)))) :=
      ixE h rfl rfl rfl (addT (gtE rfl rfl hx) (gtE rfl rfl hy) (by omega)) (A.h24 _) fun z hz => (List.mem_append.mp hz).elim (h.mem hx) (h.mem hy)
    have cc : evT (T0 call sb gl) s27_2b1c (R27 u c b (.val (lD L)) (.val (nD x)) (.val (nD y)) x6 x7 x8 (.val (nD (num u (cut u (gt L x ++ gt L y))))) x10 x11 x12) = .ok false := by
      have k := A.i14 h hy hx
      rw [cut_congr (l := gt L y ++ gt L x) List.perm_append_comm] at k
      exact or_no (dsame (A.h20 _) rfl (c3 rfl rfl rfl rfl (A.i14 h hx hy)) rfl) (dsame (A.h20 _) rfl (callk_three rfl (bs_three (d := nD x) (g := nD u) (v := nD y) rfl rfl rfl) rfl k) rfl)
    have e2 : evSs (T0 call sb gl) s27_2b (R27 u c b (.val (lD L)) (.val (nD x)) (.val (nD y)) x6 x7 x8 x9 x10 x11 x12) = .nx (R27 u c b (.val (lD L)) (.val (nD x)) (.val (nD y)) x6 x7 x8 (.val (nD (num u (cut u (gt L x ++ gt L y))))) x10 x11 x12) := by
      rw [show s27_2b = [s27_2b0, s27_2b1] from rfl, go (set_is g0)]
      exact (pass_if cc).trans rfl
    obtain ⟨x5', x9', e3⟩ := ih (.val (nD y)) _ fun z hz => hl z (List.mem_cons_of_mem _ hz)
    exact ⟨x5', x9', (forL_nx (ds := nts l) e1 e2).trans e3⟩
theorem sa2 {u c : Nat} {b : List Nat} {L : List (List Nat)} {x4 x6 x7 x9 x10 x11 x12 : Slot} (h : Ls u c L) (l : List Nat) : ∀ (t : List Nat) (x5 : Slot), (∀ y ∈ l, y < L.length) → t.length + 300 * l.length ≤ 100000 →
    ∃ x5', forL (.nm 5) (evSs (T0 call sb gl) s27_7b) (nts l) (R27 u c b (.val (lD L)) x4 x5 x6 x7 (.val (tN t)) x9 x10 x11 x12) = .nx (R27 u c b (.val (lD L)) x4 x5' x6 x7 (.val (tN (t ++ (l.map (gt L)).flatten))) x9 x10 x11 x12) := by
  induction l with
  | nil => exact fun t x5 _ _ => ⟨x5, by rw [List.map_nil, List.flatten_nil, List.append_nil]; rfl⟩
  | cons y l ih =>
    intro t x5 hl ht
    rw [List.length_cons] at ht
    have hy := hl y (by simp)
    have ly := (h.row y hy).2.1
    have hu := h.u2
    have e1 : bindT (.nm 5) (.int (y : Int)) (R27 u c b (.val (lD L)) x4 x5 x6 x7 (.val (tN t)) x9 x10 x11 x12) = .ok (R27 u c b (.val (lD L)) x4 (.val (nD y)) x6 x7 (.val (tN t)) x9 x10 x11 x12) := rfl
    have e2 : evSs (T0 call sb gl) s27_7b (R27 u c b (.val (lD L)) x4 (.val (nD y)) x6 x7 (.val (tN t)) x9 x10 x11 x12) = .nx (R27 u c b (.val (lD L)) x4 (.val (nD y)) x6 x7 (.val (tN (t ++ gt L y))) x9 x10 x11 x12) := by
      rw [show s27_7b = [s27_7b0] from rfl, go (set_is (addT (x := t) rfl (gtE rfl rfl hy) (by omega)))]
      rfl
    obtain ⟨x5', e3⟩ := ih (t ++ gt L y) (.val (nD y)) (fun z hz => hl z (List.mem_cons_of_mem _ hz)) (by rw [List.length_append]; omega)
    refine ⟨x5', (forL_nx (ds := nts l) e1 e2).trans ?_⟩
    rw [e3, List.map_cons, List.flatten_cons, List.append_assoc]
theorem sa3 {u c : Nat} {b : List Nat} {L : List (List Nat)} {x3 x4 x6 x7 x8 x9 x11 x12 : Slot} (A : Ans call u) (h : Ls u c L) (l : List Nat) : ∀ (t : List Nat) (x5 : Slot), (∀ y ∈ l, y < L.length) → (∀ z ∈ t, 1 ≤ z ∧ z ≤ c) →
    ∃ x5' t', t'.Perm ((l.map (gt L)).flatten ++ t) ∧ forL (.nm 5) (evSs (T0 call sb gl) s27_12b) (nts l) (R27 u c b x3 x4 x5 x6 x7 x8 x9 (.val (nD (num u (cut u t)))) x11 x12) = .nx (R27 u c b x3 x4 x5' x6 x7 x8 x9 (.val (nD (num u (cut u t')))) x11 x12) := by
  induction l with
  | nil => exact fun t x5 _ _ => ⟨x5, t, .refl _, rfl⟩
  | cons y l ih =>
    intro t x5 hl ht
    have hy := hl y (by simp)
    have e1 : bindT (.nm 5) (.int (y : Int)) (R27 u c b x3 x4 x5 x6 x7 x8 x9 (.val (nD (num u (cut u t)))) x11 x12) = .ok (R27 u c b x3 x4 (.val (nD y)) x6 x7 x8 x9 (.val (nD (num u (cut u t)))) x11 x12) := rfl
    have k : call false 14 [nD u, nD y, nD (num u (cut u t))] = .ok (nD (num u (cut u (gt L y ++ t)))) := by
      obtain ⟨a1, a2⟩ := h.at ht
      have := A.i14 h hy a1
      rw [a2, cut_more] at this
      exact this
    have e2 : evSs (T0 call sb gl) s27_12b (R27 u c b x3 x4 (.val (nD y)) x6 x7 x8 x9 (.val (nD (num u (cut u t)))) x11 x12) = .nx (R27 u c b x3 x4 (.val (nD y)) x6 x7 x8 x9 (.val (nD (num u (cut u (gt L y ++ t))))) x11 x12) := by
      rw [show s27_12b = [s27_12b0] from rfl, go (set_is (c3 rfl rfl rfl rfl k))]
      rfl
    obtain ⟨x5', t', p, e3⟩ := ih (gt L y ++ t) (.val (nD y)) (fun z hz => hl z (List.mem_cons_of_mem _ hz)) fun z hz => (List.mem_append.mp hz).elim (h.mem hy) (ht z)
    refine ⟨x5', t', p.trans ?_, (forL_nx (ds := nts l) e1 e2).trans e3⟩
    rw [List.map_cons, List.flatten_cons, ← List.append_assoc]
    exact List.Perm.append_right _ List.perm_append_comm
theorem sa4 {u c : Nat} {b : List Nat} {L : List (List Nat)} {x : Nat} {x5 x6 x7 x8 x10 x12 : Slot} (A : Ans call u) (h : Ls u c L) (hx : x < L.length) (l : List Nat) : ∀ (x9 x11 : Slot), (∀ y ∈ l, y < 310) →
    ∃ x9' x11', forL (.nm 11) (evSs (T0 call sb gl) s27_14b) (nts l) (R27 u c b (.val (lD L)) (.val (nD x)) x5 x6 x7 x8 x9 x10 x11 x12) = .nx (R27 u c b (.val (lD L)) (.val (nD x)) x5 x6 x7 x8 x9' x10 x11' x12) := by
  induction l with
  | nil => exact fun x9 x11 _ => ⟨x9, x11, rfl⟩
  | cons y l ih =>
    intro x9 x11 hl
    have hy := hl y (by simp)
    have lx := (h.row x hx).2.1
    have hu := h.u2
    have e1 : bindT (.nm 11) (.int (y : Int)) (R27 u c b (.val (lD L)) (.val (nD x)) x5 x6 x7 x8 x9 x10 x11 x12) = .ok (R27 u c b (.val (lD L)) (.val (nD x)) x5 x6 x7 x8 x9 x10 (.val (nD y)) x12) := rfl
    have gm : evE (T0 call sb gl) (.bin .mul (.idx (.var 3) (.var 4)) (.var 11)) (R27 u c b (.val (lD L)) (.val (nD x)) x5 x6 x7 x8 x9 x10 (.val (nD y)) x12) = .ok (tN (reps y (gt L x))) := by
      rw [bin_ok (y := .int (y : Int)) (gtE rfl rfl hx) rfl, mul_tN (by omega) (by omega)]
    have g0 : evE (T0 call sb gl) s27_14b0x (R27 u c b (.val (lD L)) (.val (nD x)) x5 x6 x7 x8 x9 x10 (.val (nD y)) x12) = .ok (nD (num u (cut u (reps y (gt L x))))) :=
      ixE h rfl rfl rfl gm (A.h24 _) fun z hz => h.mem hx (reps_mem hz)
    have cc : evT (T0 call sb gl) s27_14b1c (R27 u c b (.val (lD L)) (.val (nD x)) x5 x6 x7 x8 (.val (nD (num u (cut u (reps y (gt L x)))))) x10 (.val (nD y)) x12) = .ok false := by
      have k1 := A.h16 (gt L x) y (h.gd hx)
      rw [(h.row x hx).2.2] at k1
      have k2 := A.i15 h (pk := List.replicate y x) (fun z hz => by rw [(List.mem_replicate.mp hz).2]; exact hx) (by rw [List.length_replicate]; omega)
      rw [List.map_replicate] at k2
      refine or_no (dsame (A.h20 _) rfl (c3 rfl rfl rfl rfl k1) rfl) (dsame (A.h20 _) rfl (c2 rfl rfl ?_ k2) rfl)
      rw [bin_ok (x := .tup [.int (x : Int)]) (y := .int (y : Int)) rfl rfl, mul_t (by omega)]
    have e2 : evSs (T0 call sb gl) s27_14b (R27 u c b (.val (lD L)) (.val (nD x)) x5 x6 x7 x8 x9 x10 (.val (nD y)) x12) = .nx (R27 u c b (.val (lD L)) (.val (nD x)) x5 x6 x7 x8 (.val (nD (num u (cut u (reps y (gt L x)))))) x10 (.val (nD y)) x12) := by
      rw [show s27_14b = [s27_14b0, s27_14b1] from rfl, go (set_is g0)]
      exact (pass_if cc).trans rfl
    obtain ⟨x9', x11', e3⟩ := ih _ (.val (nD y)) fun z hz => hl z (List.mem_cons_of_mem _ hz)
    exact ⟨x9', x11', (forL_nx (ds := nts l) e1 e2).trans e3⟩
end
end Vk19_whole_joining
end
section
set_option Elab.async false
set_option linter.all false
set_option maxRecDepth 100000
set_option maxHeartbeats 2000000
namespace Vk19_whole_joining
open PySem PySem.Spec Ev Nr
theorem compL_ex {α : Type} {f : D → Ev.R (Option D)} {F : α → D} {p : Nat → Prop} {l : List α} (h : ∀ x ∈ l, ∃ y : Nat, p y ∧ f (F x) = .ok (some (nD y))) : ∃ ys : List Nat, ys.length = l.length ∧ (∀ y ∈ ys, p y) ∧ compL f (l.map F) = .ok (nts ys) := by
  induction l with
  | nil => exact ⟨[], rfl, fun y hy => (by cases hy), rfl⟩
  | cons x l ih =>
    obtain ⟨y, py, e⟩ := h x List.mem_cons_self
    obtain ⟨ys, h1, h2, h3⟩ := ih fun z hz => h z (List.mem_cons_of_mem _ hz)
    refine ⟨y :: ys, by rw [List.length_cons, List.length_cons, h1], fun z hz => ?_, ?_⟩
    · rcases List.mem_cons.mp hz with q | q
      · rw [q]; exact py
      · exact h2 z q
    · simp only [List.map_cons, compL, e, h3]
theorem cut_nil (u : Nat) : cut u [] = [] := by simp [cut, srtN]
section
variable {call : Bool → Nat → List D → R D} {sb : Nat → Nat → Bool} {gl : Nat → D}
theorem callk_two {ρ : Rho} {f : Nat} {e1 e2 : CE} {d g r : D} (ho : [e1, e2].any (ownArg ρ) = false) (h1 : evE (T0 call sb gl) e1 ρ = .ok d) (h2 : evE (T0 call sb gl) e2 ρ = .ok g) (hc : call false f [g, d] = .ok r) : evE (T0 call sb gl) (.callk f [] [e1, e2] [1, 0]) ρ = .ok r := by
  rw [q_callk, show (T0 call sb gl).hot = false from rfl, if_neg (by decide), bs_nil, ok_bind, bs_two h1 h2, ok_bind]
  show guardL ([e1, e2].any (ownArg ρ)) (call false f [g, d]) = .ok r
  rw [ho, hc]
  rfl
theorem r27' {u c : Nat} {b : List Nat} {L : List (List Nat)} (A : Ans call u) (h : Ls u c L) (hD : Dr b) (h26 : call false 26 [nD u, nD c] = .ok (lD L)) :
    (evSs (T0 call sb gl) b27 (R27 u c b .none .none .none .none .none .none .none .none .none .none)).fin = .ok (.bl true) := by
  rw [b27_is]
  have hu := h.u2
  have hpos := h.pos
  have hsm := h.sm
  have e0 : evS (T0 call sb gl) s27_0 (R27 u c b .none .none .none .none .none .none .none .none .none .none) = .nx (R27 u c b (.val (lD L)) .none .none .none .none .none .none .none .none .none) := set_is (c2 rfl rfl rfl h26)
  rw [go e0]
  obtain ⟨v, _, ev⟩ := hD.at (T := T0 call sb gl) (ρ := R27 u c b (.val (lD L)) .none .none .none .none .none .none .none .none .none) (i := 2) (e := .cst (.int 10)) (k := 10) rfl rfl (by decide)
  have e1 : evE (T0 call sb gl) s27_1x (R27 u c b (.val (lD L)) .none .none .none .none .none .none .none .none .none) = .ok (nD (v % L.length)) := by
    rw [mod_ok ev (lenL rfl) (by omega)]
    rfl
  have hx : v % L.length < L.length := Nat.mod_lt _ (by omega)
  generalize v % L.length = x at e1 hx
  rw [go (set_is e1)]
  show (evSs (T0 call sb gl) [s27_2, s27_3, s27_4, s27_5, s27_6, s27_7, s27_8, s27_9, s27_10, s27_11, s27_12, s27_13, s27_14, s27_15] (R27 u c b (.val (lD L)) (.val (nD x)) .none .none .none .none .none .none .none .none)).fin = _
  obtain ⟨x5, x9, e2⟩ := sa1 (call := call) (sb := sb) (gl := gl) (b := b) (x6 := .none) (x7 := .none) (x8 := .none) (x10 := .none) (x11 := .none) (x12 := .none) A h hx (List.range L.length) .none .none fun y hy => List.mem_range.mp hy
  rw [go ((for_is rfl rfl (i_rng0 (lenL rfl) (Nat.le_trans hsm (by decide)))).trans e2)]
  clear e0 e1 e2 ev
  obtain ⟨v, _, ev⟩ := hD.at (T := T0 call sb gl) (ρ := R27 u c b (.val (lD L)) (.val (nD x)) x5 .none .none .none x9 .none .none .none) (i := 2) (e := .cst (.int 11)) (k := 11) rfl rfl (by decide)
  have e3 : evE (T0 call sb gl) s27_3x (R27 u c b (.val (lD L)) (.val (nD x)) x5 .none .none .none x9 .none .none .none) = .ok (nD (v % 9)) := mn_ok (k := 9) ev (by decide)
  have hv : v % 9 ≤ 40 := by have := Nat.mod_lt v (show 0 < 9 by decide); omega
  generalize v % 9 = n0 at e3 hv
  rw [go (set_is e3)]
  show (evSs (T0 call sb gl) [s27_4, s27_5, s27_6, s27_7, s27_8, s27_9, s27_10, s27_11, s27_12, s27_13, s27_14, s27_15] (R27 u c b (.val (lD L)) (.val (nD x)) x5 (.val (nD n0)) .none .none x9 .none .none .none)).fin = _
  have f4 : ∃ n : Nat, n ≤ 40 ∧ evS (T0 call sb gl) s27_4 (R27 u c b (.val (lD L)) (.val (nD x)) x5 (.val (nD n0)) .none .none x9 .none .none .none) = .nx (R27 u c b (.val (lD L)) (.val (nD x)) x5 (.val (nD n)) .none .none x9 .none .none .none) := by
    obtain ⟨t, _, et⟩ := hD.at (T := T0 call sb gl) (ρ := R27 u c b (.val (lD L)) (.val (nD x)) x5 (.val (nD n0)) .none .none x9 .none .none .none) (i := 2) (e := .cst (.int 12)) (k := 12) rfl rfl (by decide)
    have g2 : evE (T0 call sb gl) (.bin .mod (.idx (.var 2) (.cst (.int 12))) (.cst (.int 8))) (R27 u c b (.val (lD L)) (.val (nD x)) x5 (.val (nD n0)) .none .none x9 .none .none .none) = .ok (nD (t % 8)) := mn_ok (k := 8) et (by decide)
    have g3 : evT (T0 call sb gl) s27_4c (R27 u c b (.val (lD L)) (.val (nD x)) x5 (.val (nD n0)) .none .none x9 .none .none .none) = .ok (decide (((t % 8 : Nat) : Int) = 3)) := by
      rw [t_of, bv (d := .bl (decide (((t % 8 : Nat) : Int) = 3))) (by rw [bin_ok g2 q_cst, eq_ii])]
      rfl
    cases hd : decide (((t % 8 : Nat) : Int) = 3) with
    | false => exact ⟨n0, hv, by rw [ife_no (by rw [g3, hd])]; rfl⟩
    | true => exact ⟨40, Nat.le_refl _, by rw [ife_yes (by rw [g3, hd])]; rfl⟩
  obtain ⟨n, hn, f4⟩ := f4
  rw [go f4]
  clear f4 e3 ev
  have f5 : ∃ pk : List Nat, pk.length = n ∧ (∀ y ∈ pk, y < L.length) ∧ evE (T0 call sb gl) s27_5x (R27 u c b (.val (lD L)) (.val (nD x)) x5 (.val (nD n)) .none .none x9 .none .none .none) = .ok (.lst (nts pk)) := by
    obtain ⟨pk, h1, h2, h3⟩ := compL_ex (f := turnQ (T0 call sb gl) (.nm 12) .yes (.bin .mod (.bin .mul (.idx (.var 2) (.bin .add (.cst (.int 13)) (.bin .mod (.var 12) (.cst (.int 9))))) (.bin .add (.var 12) (.cst (.int 1)))) (.bi .len [(.var 3)])) (R27 u c b (.val (lD L)) (.val (nD x)) x5 (.val (nD n)) .none .none x9 .none .none .none)) (F := fun k : Nat => D.int (k : Int)) (p := fun y => y < L.length) (l := List.range n) fun k hk => by
      have hk' := List.mem_range.mp hk
      generalize hρ : R27 u c b (.val (lD L)) (.val (nD x)) x5 (.val (nD n)) .none .none x9 .none .none (.val (nD k)) = ρ
      have hm9 : k % 9 < 9 := Nat.mod_lt _ (by decide)
      obtain ⟨v, _, ev⟩ := hD.at (T := T0 call sb gl) (ρ := ρ) (i := 2) (e := .bin .add (.cst (.int 13)) (.bin .mod (.var 12) (.cst (.int 9)))) (k := 13 + k % 9) (by rw [← hρ]; rfl) (an_ok (x := 13) rfl (mn_ok (k := 9) (x := k) (by rw [← hρ]; rfl) (by decide))) (by omega)
      have e1 : evE (T0 call sb gl) (.bin .mul (.idx (.var 2) (.bin .add (.cst (.int 13)) (.bin .mod (.var 12) (.cst (.int 9))))) (.bin .add (.var 12) (.cst (.int 1)))) ρ = .ok (nD (v * (k + 1))) := by
        rw [bin_ok ev (an_ok (x := k) (k := 1) (by rw [← hρ]; rfl) rfl), mulI_is ⟨by omega, by omega⟩]
        rfl
      refine ⟨v * (k + 1) % L.length, Nat.mod_lt _ (by omega), turn_of (ρ1 := ρ) (by rw [← hρ]; rfl) ?_⟩
      rw [mod_ok e1 (lenL (by rw [← hρ]; rfl)) (by omega)]
      rfl
    rw [List.length_range] at h1
    exact ⟨pk, h1, h2, cmp_is rfl rfl (i_rng0 (k := n) rfl (Nat.le_trans hn (by decide))) h3⟩
  obtain ⟨pk, hpn, hpk, f5⟩ := f5
  have e5 : evS (T0 call sb gl) s27_5 (R27 u c b (.val (lD L)) (.val (nD x)) x5 (.val (nD n)) .none .none x9 .none .none .none) = .nx (R27 u c b (.val (lD L)) (.val (nD x)) x5 (.val (nD n)) (.val (.lst (nts pk))) .none x9 .none .none .none) := by
    rw [s_setC', show (T0 call sb gl).hot = false from rfl, if_neg (by decide), f5]
    rfl
  have e6 : evS (T0 call sb gl) s27_6 (R27 u c b (.val (lD L)) (.val (nD x)) x5 (.val (nD n)) (.val (.lst (nts pk))) .none x9 .none .none .none) = .nx (R27 u c b (.val (lD L)) (.val (nD x)) x5 (.val (nD n)) (.val (.lst (nts pk))) (.val (tN [])) x9 .none .none .none) := rfl
  rw [go e5, go e6]
  clear e5 e6 f5
  obtain ⟨x5', e7⟩ := sa2 (call := call) (sb := sb) (gl := gl) (u := u) (c := c) (b := b) (L := L) (x4 := .val (nD x)) (x6 := .val (nD n)) (x7 := .val (.lst (nts pk))) (x9 := x9) (x10 := .none) (x11 := .none) (x12 := .none) h pk [] x5 hpk (by rw [List.length_nil]; omega)
  rw [go ((for_is rfl rfl (show evI (T0 call sb gl) s27_7i _ = .ok (nts pk) from rfl)).trans e7), List.nil_append]
  have hM : ∀ z ∈ (pk.map (gt L)).flatten, 1 ≤ z ∧ z ≤ c := fun z hz => by
    obtain ⟨r, hr, hz⟩ := List.mem_flatten.mp hz
    obtain ⟨y, hy, rfl⟩ := List.mem_map.mp hr
    exact h.mem (hpk y hy) hz
  have k15 := A.i15 h hpk (by omega)
  have k15r := A.i15 h (pk := pk.reverse) (fun y hy => hpk y (List.mem_reverse.mp hy)) (by rw [List.length_reverse]; omega)
  have pr : ((pk.reverse.map (gt L)).flatten).Perm (pk.map (gt L)).flatten := ((List.reverse_perm pk).map (gt L)).flatten
  rw [cut_congr pr] at k15r
  generalize hMM : (pk.map (gt L)).flatten = M at *
  have e8 : evS (T0 call sb gl) s27_8 (R27 u c b (.val (lD L)) (.val (nD x)) x5' (.val (nD n)) (.val (.lst (nts pk))) (.val (tN M)) x9 .none .none .none) = .nx (R27 u c b (.val (lD L)) (.val (nD x)) x5' (.val (nD n)) (.val (.lst (nts pk))) (.val (tN M)) (.val (nD (num u (cut u M)))) .none .none .none) := set_is (ixE h rfl rfl rfl rfl (A.h24 M) hM)
  rw [go e8]
  have c9 : evT (T0 call sb gl) s27_9c (R27 u c b (.val (lD L)) (.val (nD x)) x5' (.val (nD n)) (.val (.lst (nts pk))) (.val (tN M)) (.val (nD (num u (cut u M)))) .none .none .none) = .ok false := dsame (A.h20 _) rfl (c2 rfl rfl (tuple_ok (xs := nts pk) rfl) k15) rfl
  rw [pass_if c9]
  have c10 : evT (T0 call sb gl) s27_10c (R27 u c b (.val (lD L)) (.val (nD x)) x5' (.val (nD n)) (.val (.lst (nts pk))) (.val (tN M)) (.val (nD (num u (cut u M)))) .none .none .none) = .ok false := by
    refine dsame (A.h20 _) rfl (callk_two rfl (tuple_ok (xs := nts pk.reverse) ?_) rfl k15r) rfl
    rw [q_revS, vr rfl, ok_bind]
    show R.ok (D.lst (nts pk).reverse) = _
    rw [← List.map_reverse]
  rw [pass_if c10]
  have e11 : evS (T0 call sb gl) s27_11 (R27 u c b (.val (lD L)) (.val (nD x)) x5' (.val (nD n)) (.val (.lst (nts pk))) (.val (tN M)) (.val (nD (num u (cut u M)))) .none .none .none) = .nx (R27 u c b (.val (lD L)) (.val (nD x)) x5' (.val (nD n)) (.val (.lst (nts pk))) (.val (tN M)) (.val (nD (num u (cut u M)))) (.val (nD (num u (cut u [])))) .none .none) := by
    rw [cut_nil]
    rfl
  rw [go e11]
  obtain ⟨x5'', t', p, e12⟩ := sa3 (call := call) (sb := sb) (gl := gl) (u := u) (c := c) (b := b) (L := L) (x3 := .val (lD L)) (x4 := .val (nD x)) (x6 := .val (nD n)) (x7 := .val (.lst (nts pk))) (x8 := .val (tN M)) (x9 := .val (nD (num u (cut u M)))) (x11 := .none) (x12 := .none) A h pk [] x5' hpk fun z hz => by cases hz
  rw [List.append_nil, hMM] at p
  rw [cut_congr p] at e12
  rw [go ((for_is rfl rfl (show evI (T0 call sb gl) s27_12i _ = .ok (nts pk) from rfl)).trans e12)]
  have c13 : evT (T0 call sb gl) s27_13c (R27 u c b (.val (lD L)) (.val (nD x)) x5'' (.val (nD n)) (.val (.lst (nts pk))) (.val (tN M)) (.val (nD (num u (cut u M)))) (.val (nD (num u (cut u M)))) .none .none) = .ok false := by
    have k1 := A.i15 h (pk := []) (fun y hy => by cases hy) (by simp)
    rw [List.map_nil, List.flatten_nil, cut_nil] at k1
    have k2 := A.i15 h (pk := [x]) (fun y hy => by rw [List.mem_singleton.mp hy]; exact hx) (by simp)
    have q : ([x].map (gt L)).flatten = gt L x := by simp
    rw [q, cut_self (h.row x hx).1 (h.row x hx).2.1, (h.row x hx).2.2] at k2
    exact or_no (dsame (A.h20 _) rfl rfl rfl) (or_no (dsame (A.h20 _) rfl (c2 rfl rfl (show evE (T0 call sb gl) (.tup []) _ = .ok (tN []) from rfl) k1) rfl) (dsame (A.h20 _) rfl (c2 rfl rfl (show evE (T0 call sb gl) (.tup [(.var 4)]) _ = .ok (tN [x]) from rfl) k2) rfl))
  rw [pass_if c13]
  obtain ⟨x9', x11', e14⟩ := sa4 (call := call) (sb := sb) (gl := gl) (u := u) (c := c) (b := b) (L := L) (x := x) (x5 := x5'') (x6 := .val (nD n)) (x7 := .val (.lst (nts pk))) (x8 := .val (tN M)) (x10 := .val (nD (num u (cut u M)))) (x12 := .none) A h hx (List.range (u + 4)) (.val (nD (num u (cut u M)))) .none fun y hy => by
    have := List.mem_range.mp hy
    omega
  rw [go ((for_is rfl rfl (i_rng0 (an_ok (x := u) (k := 4) rfl rfl) (Nat.le_trans (show u + 4 ≤ 304 by omega) (by decide)))).trans e14)]
  rfl
end
end Vk19_whole_joining
end
section
set_option Elab.async false
set_option linter.all false
set_option maxRecDepth 100000
set_option maxHeartbeats 2000000
namespace Vk19_whole_joining
open PySem PySem.Spec Ev Nr
theorem ans (n : Nat) {u : Nat} (h1 : 1 ≤ u) (h2 : u ≤ 300) : Ans (P.run (n + 10)) u where
  h20 := fun i => sameN (n + 9) false i
  h24 := fun t => r24c (n + 9)
  h14 := fun r s hr hs => r14 n h1 h2 hr hs
  h15 := fun rs h hk => r15 (n + 1) h1 h2 h hk
  h16 := fun r k hr => r16 (n + 1) h1 h2 hr
theorem ls_of {p : Nat × Nat} (hp : p ∈ prs) : ∃ L, P.run 38 false 26 [nD p.1, nD p.2] = .ok (lD L) ∧ Ls p.1 p.2 L := by
  obtain ⟨L, e, hl, hr⟩ := list_of hp
  have hs : bel p.1 (p.2 + 1) ≤ 1000 ∧ 1 ≤ bel p.1 (p.2 + 1) ∧ 1 ≤ p.1 ∧ p.1 ≤ 300 ∧ p.2 + 1000 ≤ 2 ^ 110 := by
    have q : ∀ p ∈ prs, bel p.1 (p.2 + 1) ≤ 1000 ∧ 1 ≤ bel p.1 (p.2 + 1) ∧ 1 ≤ p.1 ∧ p.1 ≤ 300 ∧ p.2 + 1000 ≤ 2 ^ 110 := by decide +kernel
    exact q p hp
  refine ⟨L, e, ⟨hs.2.2.1, hs.2.2.2.1, hs.2.2.2.2, hl, by rw [hl]; exact hs.1, by rw [hl]; exact hs.2.1, fun i hi => ?_⟩⟩
  have := hr i hi
  rw [show gt L i = L[i] by simp [List.getD, hi]]
  exact this
theorem r27 {p : Nat × Nat} (hp : p ∈ prs) {b : List Nat} (hD : Dr b) : P.run 39 false 27 [nD p.1, nD p.2, .lst (nts b)] = .ok (.bl true) := by
  have hf : P.fn 27 = some ⟨3, 13, b27⟩ := rfl
  obtain ⟨L, e, h⟩ := ls_of hp
  rw [run_1 hf rfl]
  exact r27' (ans 28 h.u1 h.u2) h hD e
theorem aft_mem {u : Nat} {r : List Nat} : ∀ x ∈ aft u r, x ∈ r ∨ x = 1 ∨ x = r.getLast?.getD 0 + 1 := fun x hx => by
  unfold aft at hx
  split at hx
  · rcases List.mem_append.mp hx with q | q
    · exact .inl q
    · exact .inr (.inl (List.mem_singleton.mp q))
  · rcases List.mem_append.mp hx with q | q
    · exact .inl (List.mem_filter.mp q).1
    · exact .inr (.inr (List.mem_singleton.mp q))
theorem num_le {u B : Nat} {r : List Nat} (h : Rwn (B + 1) r) (hl : r.length ≤ u) (hb : bel u (B + 2) ≤ 2 ^ 110) : num u r ≤ 2 ^ 110 := Nat.le_of_lt (Nat.lt_of_lt_of_le (num_lt h hl) hb)
theorem r30 {u : Nat} {b : List Nat} (h1 : 1 ≤ u) (h2 : u ≤ 40) (hD : Dr b) : P.run 39 false 30 [nD u, .lst (nts b)] = .ok (.bl true) := by
  have hf : P.fn 30 = some ⟨2, 16, b30⟩ := rfl
  obtain ⟨B, hB1, hB2, hB3, e28⟩ := r28 h1 h2
  have h3 : u ≤ 300 := by omega
  obtain ⟨pl, hp4, hpl, p0⟩ := fa1 (call := P.run 38) (sb := P.sub) (gl := P.glb) (u := u) (b := b) (x3 := .none) (x4 := .none) (x5 := .none) (x6 := .none) (x7 := .none) (x8 := .none) (x9 := .none) (x10 := .none) (x11 := .none) (x12 := .none) (x13 := .none) (x14 := .none) hB1 e28 fun k hk => by
    obtain ⟨v, _, e⟩ := r21 37 hD hk
    exact ⟨v, e⟩
  obtain ⟨ta, ma, _, ea⟩ := r29 36 (pl := pl) (k := 22) h3 hD hp4 (by decide)
  obtain ⟨tl, ml, _, el⟩ := r29 36 (pl := pl) (k := 28) h3 hD hp4 (by decide)
  obtain ⟨tm, mm, _, em⟩ := r29 36 (pl := pl) (k := 34) h3 hD hp4 (by decide)
  have row : ∀ t : List Nat, (∀ x ∈ t, 1 ≤ x ∧ x ≤ B + 1) → Gd u (cut u t) := fun t ht =>
    ⟨⟨B + 1, hB2, cut_row ht⟩, cut_len u t, num_le (cut_row ht) (cut_len u t) hB3⟩
  have rng : ∀ t : List Nat, (∀ x ∈ t, x ∈ pl) → ∀ x ∈ cut u t, 1 ≤ x ∧ x ≤ B := fun t ht x hx => hpl x (ht x (cut_mem hx))
  have rA := rng ta ma
  have rL := rng tl ml
  have rM := rng tm mm
  have rwA : Rwn B (cut u ta) := cut_row fun x hx => hpl x (ma x hx)
  obtain ⟨n1, n2, n3⟩ := aft_ok h1 rwA (cut_len u ta)
  have gf : Gd u (aft u (cut u ta)) := ⟨⟨B + 1, hB2, n2⟩, n3, num_le n2 n3 hB3⟩
  obtain ⟨fr, _, e21⟩ := r21 37 (k := 90) hD (by decide)
  have A := ans 28 h1 h3
  rw [run_1 hf rfl]
  have up : ∀ x, 1 ≤ x ∧ x ≤ B → 1 ≤ x ∧ x ≤ B + 1 := fun x h => ⟨h.1, by omega⟩
  refine r30' (a := cut u ta) (l := cut u tl) (m := cut u tm) (pl := pl) (fr := fr) h1 h3 hD A.h20 p0 ea el em (fun r hr => ?_) A.h24 A.h14 A.h15 A.h16 (r25 37 h1 h3 (cut_len u ta)) (row ta fun x hx => up x (hpl x (ma x hx))) (row tl fun x hx => up x (hpl x (ml x hx))) (row tm fun x hx => up x (hpl x (mm x hx))) gf n1 (fun t ht => row t fun x hx => ?_) e21 (fun c c1 c2 => ?_) (fun c c1 c2 => ?_)
  · obtain ⟨⟨bb, hb, hr⟩, hl, _⟩ := hr
    have : 2 ^ 110 ≤ 2 ^ BG := by decide
    exact r23 36 h3 hr hl (by omega)
  · rcases ht x hx with q | q | q | q
    · exact up x (rA x q)
    · exact up x (rL x q)
    · exact up x (rM x q)
    · exact Rwn.ge1 n2 x q
  · have := r7 34 (a := u) (k := c) (b := 10) h1 c1 (by omega) (by decide) (by omega)
    exact this
  · have e : u + 1 + (c - 1) = u + c := by omega
    rw [e]
    exact r22 37 (Nat.le_trans (show u + c + 1 ≤ 1000 by omega) (by decide)) h3 (by omega)
section
variable {call : Bool → Nat → List D → R D} {sb : Nat → Nat → Bool} {gl : Nat → D}
abbrev R34 (ns : List Int) (x1 x2 x3 x4 x5 : Slot) : Rho := [.val (.frl (ns.map .int)), x1, x2, x3, x4, x5]
def prD : List D := prs.map fun p => .tup [nD p.1, nD p.2]
theorem prD_get {i : Nat} (h2 : i < prD.length) (h : i < prs.length) : prD[i] = .tup [nD prs[i].1, nD prs[i].2] := List.getElem_map _
theorem la1 {ρ : Rho} : evE (T0 call sb gl) s34_1x ρ = .ok (.lst prD) := rfl
theorem la2 {ρ : Rho} : evE (T0 call sb gl) s34_7x ρ = .ok (.lst odd) := by
  have e : evE (T0 call sb gl) (.un .neg (.bin .pow (.cst (.int 10)) (.cst (.int 22)))) ρ = .ok (.int (-(10 ^ 22))) := by
    rw [q_un, bv (bin_ok (x := .int 10) (y := .int 22) rfl rfl)]
    rfl
  show evE (T0 call sb gl) (.lst [(.cst .non), (.cst (.str (L "3"))), (.lst []), (.un .neg (.cst (.int 1))), (.tup [(.cst (.int 2))]), (.cst (.bl false)), (.cst (.bl true)), (.un .neg (.bin .pow (.cst (.int 10)) (.cst (.int 22))))]) ρ = _
  rw [q_lst]
  simp only [es_cons, es_nil, q_cst, q_lst, q_tup, e, ok_bind, pure_ok]
  rfl
theorem pick_l {T : Tb} {ρ : Rho} {i k : Nat} {xs : List D} {e : CE} (hi : ρ[i]? = some (.val (.lst xs))) (he : evE T e ρ = .ok (.int (k : Int))) (hk : k < xs.length) : evE T (.idx (.var i) e) ρ = .ok xs[k] := by
  rw [q_idx, vr hi, ok_bind, he, ok_bind]
  exact getI_nat hk
theorem not_no {T : Tb} {ρ : Rho} {e : CE} (h : evE T e ρ = .ok (.bl true)) : evT T (.not (.of e)) ρ = .ok false := by
  rw [t_not, t_of, bv h]
  rfl
theorem r34' {ns : List Int} {b : List Nat} (hD : Dr b) (h19 : call false 19 [.frl (ns.map .int), .int 102] = .ok (.lst (nts b)))
    (h27 : ∀ p ∈ prs, call false 27 [nD p.1, nD p.2, .lst (nts b)] = .ok (.bl true))
    (h30 : ∀ w : Nat, 1 ≤ w → w ≤ 40 → call false 30 [nD w, .lst (nts b)] = .ok (.bl true))
    (h33 : ∀ d ∈ odd, ∀ w : Nat, 1 ≤ w → w ≤ 7 → call false 33 [d, .int (w : Int)] = .ok (.bl true)) :
    (evSs (T0 call sb gl) b34 (R34 ns .none .none .none .none .none)).fin = .ok (.bl true) := by
  rw [b34_is]
  have e0 : evS (T0 call sb gl) s34_0 (R34 ns .none .none .none .none .none) = .nx (R34 ns (.val (.lst (nts b))) .none .none .none .none) := set_is (call_is rfl (bs_two (d := .frl (ns.map .int)) (g := .int 102) rfl rfl) h19)
  have e1 : evS (T0 call sb gl) s34_1 (R34 ns (.val (.lst (nts b))) .none .none .none .none) = .nx (R34 ns (.val (.lst (nts b))) (.val (.lst prD)) .none .none .none) := set_is la1
  rw [go e0, go e1]
  obtain ⟨v, _, ev⟩ := hD.at (T := T0 call sb gl) (ρ := R34 ns (.val (.lst (nts b))) (.val (.lst prD)) .none .none .none) (i := 1) (e := .cst (.int 0)) (k := 0) rfl rfl (by decide)
  have em : evE (T0 call sb gl) (.bin .mod (.idx (.var 1) (.cst (.int 0))) (.cst (.int 8))) (R34 ns (.val (.lst (nts b))) (.val (.lst prD)) .none .none .none) = .ok (.int ((v % 8 : Nat) : Int)) := mn_ok (k := 8) ev (by decide)
  have hm : v % 8 < prs.length := Nat.mod_lt v (show 0 < 8 by decide)
  generalize v % 8 = i at em hm
  have ep : evE (T0 call sb gl) s34_2x (R34 ns (.val (.lst (nts b))) (.val (.lst prD)) .none .none .none) = .ok (.tup [nD prs[i].1, nD prs[i].2]) := by
    have h : i < prD.length := by unfold prD; rw [List.length_map]; exact hm
    have e := pick_l (T := T0 call sb gl) (ρ := R34 ns (.val (.lst (nts b))) (.val (.lst prD)) .none .none .none) (i := 2) rfl em h
    rw [show s34_2x = .idx (.var 2) (.bin .mod (.idx (.var 1) (.cst (.int 0))) (.cst (.int 8))) from rfl]
    exact e.trans (congrArg R.ok (prD_get h hm))
  have h27' := h27 prs[i] (List.getElem_mem hm)
  generalize prs[i] = p at ep h27'
  generalize prD = pd at ep
  rw [go (set_is ep)]
  show (evSs (T0 call sb gl) [s34_3, s34_4, s34_5, s34_6, s34_7, s34_8] (R34 ns (.val (.lst (nts b))) (.val (.lst pd)) (.val (.tup [nD p.1, nD p.2])) .none .none)).fin = _
  rw [pass_if (not_no (c3 rfl (d := nD p.1) (g := nD p.2) (h := .lst (nts b)) rfl rfl rfl h27'))]
  clear ep em ev e0 e1
  obtain ⟨v, _, ev⟩ := hD.at (T := T0 call sb gl) (ρ := R34 ns (.val (.lst (nts b))) (.val (.lst pd)) (.val (.tup [nD p.1, nD p.2])) .none .none) (i := 1) (e := .cst (.int 1)) (k := 1) rfl rfl (by decide)
  have f4 : evE (T0 call sb gl) s34_4x (R34 ns (.val (.lst (nts b))) (.val (.lst pd)) (.val (.tup [nD p.1, nD p.2])) .none .none) = .ok (.int ((1 + v % 40 : Nat) : Int)) := an_ok (x := 1) rfl (mn_ok (k := 40) ev (by decide))
  have hp : 1 ≤ 1 + v % 40 ∧ 1 + v % 40 ≤ 40 := by have := Nat.mod_lt v (show 0 < 40 by decide); omega
  generalize 1 + v % 40 = w0 at f4 hp
  rw [go (set_is f4)]
  show (evSs (T0 call sb gl) [s34_5, s34_6, s34_7, s34_8] (R34 ns (.val (.lst (nts b))) (.val (.lst pd)) (.val (.tup [nD p.1, nD p.2])) (.val (.int (w0 : Int))) .none)).fin = _
  have f5 : ∃ w : Nat, 1 ≤ w ∧ w ≤ 40 ∧ evS (T0 call sb gl) s34_5 (R34 ns (.val (.lst (nts b))) (.val (.lst pd)) (.val (.tup [nD p.1, nD p.2])) (.val (.int (w0 : Int))) .none) = .nx (R34 ns (.val (.lst (nts b))) (.val (.lst pd)) (.val (.tup [nD p.1, nD p.2])) (.val (.int (w : Int))) .none) := by
    obtain ⟨t, _, et⟩ := hD.at (T := T0 call sb gl) (ρ := R34 ns (.val (.lst (nts b))) (.val (.lst pd)) (.val (.tup [nD p.1, nD p.2])) (.val (.int (w0 : Int))) .none) (i := 1) (e := .cst (.int 2)) (k := 2) rfl rfl (by decide)
    have g2 : evE (T0 call sb gl) (.bin .mod (.idx (.var 1) (.cst (.int 2))) (.cst (.int 4))) (R34 ns (.val (.lst (nts b))) (.val (.lst pd)) (.val (.tup [nD p.1, nD p.2])) (.val (.int (w0 : Int))) .none) = .ok (.int ((t % 4 : Nat) : Int)) := mn_ok (k := 4) et (by decide)
    generalize t % 4 = q at g2
    have g3 : evT (T0 call sb gl) s34_5c (R34 ns (.val (.lst (nts b))) (.val (.lst pd)) (.val (.tup [nD p.1, nD p.2])) (.val (.int (w0 : Int))) .none) = .ok (decide ((0 : Int) < (q : Int))) := by
      rw [t_of, bv (d := .bl (decide ((0 : Int) < (q : Int)))) (by rw [bin_ok g2 q_cst]; rfl)]
      rfl
    cases hd : decide ((0 : Int) < (q : Int)) with
    | false => exact ⟨w0, hp.1, by omega, by rw [ife_no (by rw [g3, hd])]; rfl⟩
    | true =>
      obtain ⟨x, _, eu⟩ := hD.at (T := T0 call sb gl) (ρ := R34 ns (.val (.lst (nts b))) (.val (.lst pd)) (.val (.tup [nD p.1, nD p.2])) (.val (.int (w0 : Int))) .none) (i := 1) (e := .cst (.int 1)) (k := 1) rfl rfl (by decide)
      have f6 : evE (T0 call sb gl) s34_5t0x (R34 ns (.val (.lst (nts b))) (.val (.lst pd)) (.val (.tup [nD p.1, nD p.2])) (.val (.int (w0 : Int))) .none) = .ok (.int ((1 + x % 8 : Nat) : Int)) := an_ok (x := 1) rfl (mn_ok (k := 8) eu (by decide))
      have hp : 1 ≤ 1 + x % 8 ∧ 1 + x % 8 ≤ 8 := by have := Nat.mod_lt x (show 0 < 8 by decide); omega
      refine ⟨1 + x % 8, hp.1, by omega, ?_⟩
      rw [ife_yes (by rw [g3, hd]), go (set_is f6)]
      rfl
  obtain ⟨w, hw1, hw2, f5⟩ := f5
  rw [go f5, pass_if (not_no (c2 rfl (d := nD w) (g := .lst (nts b)) rfl rfl (h30 w hw1 hw2))), go (set_is la2)]
  show (evSs (T0 call sb gl) [s34_8] (R34 ns (.val (.lst (nts b))) (.val (.lst pd)) (.val (.tup [nD p.1, nD p.2])) (.val (.int (w : Int))) (.val (.lst odd)))).fin = _
  obtain ⟨v, _, ev⟩ := hD.at (T := T0 call sb gl) (ρ := R34 ns (.val (.lst (nts b))) (.val (.lst pd)) (.val (.tup [nD p.1, nD p.2])) (.val (.int (w : Int))) (.val (.lst odd))) (i := 1) (e := .cst (.int 3)) (k := 3) rfl rfl (by decide)
  obtain ⟨y, _, eu⟩ := hD.at (T := T0 call sb gl) (ρ := R34 ns (.val (.lst (nts b))) (.val (.lst pd)) (.val (.tup [nD p.1, nD p.2])) (.val (.int (w : Int))) (.val (.lst odd))) (i := 1) (e := .cst (.int 4)) (k := 4) rfl rfl (by decide)
  have em : evE (T0 call sb gl) (.bin .mod (.idx (.var 1) (.cst (.int 3))) (.cst (.int 8))) (R34 ns (.val (.lst (nts b))) (.val (.lst pd)) (.val (.tup [nD p.1, nD p.2])) (.val (.int (w : Int))) (.val (.lst odd))) = .ok (.int ((v % 8 : Nat) : Int)) := mn_ok (k := 8) ev (by decide)
  have hm : v % 8 < odd.length := Nat.mod_lt v (show 0 < 8 by decide)
  generalize v % 8 = i at em hm
  have hp : 1 ≤ 1 + y % 7 ∧ 1 + y % 7 ≤ 7 := by have := Nat.mod_lt y (show 0 < 7 by decide); omega
  have f8 : evE (T0 call sb gl) (.bin .add (.cst (.int 1)) (.bin .mod (.idx (.var 1) (.cst (.int 4))) (.cst (.int 7)))) (R34 ns (.val (.lst (nts b))) (.val (.lst pd)) (.val (.tup [nD p.1, nD p.2])) (.val (.int (w : Int))) (.val (.lst odd))) = .ok (.int ((1 + y % 7 : Nat) : Int)) := an_ok (x := 1) rfl (mn_ok (k := 7) eu (by decide))
  generalize 1 + y % 7 = q at f8 hp
  have h33' := h33 odd[i] (List.getElem_mem hm) q hp.1 hp.2
  generalize odd = od at em hm f8 h33'
  exact ret_is (call_is rfl (bs_two (pick_l rfl em hm) f8) h33')
end
theorem law_at {ns : List Int} (hl : ns.length ≤ 63) : P.run 40 false 34 [.frl (ns.map .int)] = .ok (.bl true) := by
  have hf : P.fn 34 = some ⟨1, 6, b34⟩ := rfl
  obtain ⟨d, h19, b, hD, rfl⟩ := r19 37 (ns := ns) (Nat.le_trans hl (by decide))
  rw [run_1 hf rfl]
  exact r34' hD h19 (fun p hp => r27 hp hD) (fun w h1 h2 => r30 h1 h2 hD) fun d hd w h1 h2 => okT_is (kb d hd w h1 h2)
end Vk19_whole_joining
end
section
set_option Elab.async false
set_option linter.all false
set_option maxRecDepth 100000
namespace Vk19_whole_joining
open PySem PySem.Spec Ev
theorem good : Good 40 := fun ns hn => law_at hn
end Vk19_whole_joining
end
theorem PySem.Challenge.cw_sincemarks_k19_whole_joining_holds : PySem.Challenge.rw_sincemarks_k19_whole_joining.Holds := by
  exact Vk19_whole_joining.holds_of Vk19_whole_joining.good
