import PyProof.Rows.All
import Wide.All
import OpenK.AllK
import Wide.FinOn
import HandS.ForMost
import HandS.Exc
import HandS.TupAny
import HandS.TupMul
import HandS.SortInts
import HandS.IsInst
import HandS.Style
import HandS.Conv
import HandS.Deep
import HandS.Walk
import HandS.ExcCtx
import HandS.HotCalls
import HandS.Flow
import HandS.Rev
import HandS.Zip
import HandS.Defaults
import KE.GoesEnum
import KE.GoesMore
import KE.KIsAll
import HandS.ExcIs
import HandS.ExcField
import HandS.ExcInit
import HandS.TryMany
import HandS.Head0
import HandS.Head1
import HandS.Head2
import HandS.HeadEnd
import HandS.HeadHook1
import HandS.HeadHook2
import HandS.Words
import PySem.Challenge.RW_sincemarks_k02_whole_elders
section
set_option Elab.async false
set_option linter.all false
namespace Ev
open PySem PySem.Spec PyProof.Rows L2

/-! ## data, results -/
inductive D where
  | non | bl (b : Bool) | int (i : Int) | str (x : List Nat) | tup (xs : List D) | lst (xs : List D) | dct (kvs : List (D × D)) | obj (c : Nat) (fs : List D) | frl (xs : List D) | rng (lo hi : Int)
  deriving Inhabited
inductive R (α : Type) where
  | ok (a : α) | err (c : Nat) (fs : List D) | stuck
def R.bind {α β : Type} : R α → (α → R β) → R β
  | .ok a, f => f a
  | .err c fs, _ => .err c fs
  | .stuck, _ => .stuck
instance : Monad R where
  pure := R.ok
  bind := R.bind
@[simp] theorem ok_bind {α β : Type} (a : α) (f : α → R β) : (R.ok a >>= f) = f a := rfl
@[simp] theorem err_bind {α β : Type} (c : Nat) (fs : List D) (f : α → R β) : ((R.err c fs : R α) >>= f) = R.err c fs := rfl
@[simp] theorem stuck_bind {α β : Type} (f : α → R β) : ((R.stuck : R α) >>= f) = R.stuck := rfl
@[simp] theorem pure_ok {α : Type} (a : α) : (pure a : R α) = R.ok a := rfl
inductive Slot where
  | none | val (d : D) | own (xs : List D) | exc (c : Nat) (fs : List D)
  deriving Inhabited
abbrev Rho := List Slot
inductive RS where
  | nx (ρ : Rho) | ret (d : D) | bk (ρ : Rho) | ct (ρ : Rho) | err (c : Nat) (fs : List D) (ρ : Rho) | stuck

/-! ## data: measures, equality, truth -/
mutual
def D.dep : D → Nat
  | .tup xs => D.depL xs + 1
  | .lst xs => D.depL xs + 1
  | _ => 0
def D.depL : List D → Nat
  | [] => 0
  | x :: xs => max (D.dep x) (D.depL xs)
end
mutual
/-- no dict, no object -/
def D.plain : D → Bool
  | .tup xs => D.plainL xs
  | .lst xs => D.plainL xs
  | .dct _ => false
  | .obj _ _ => false
  | .frl _ => false
  | .rng _ _ => false
  | _ => true
def D.plainL : List D → Bool
  | [] => true
  | x :: xs => D.plain x && D.plainL xs
end
mutual
/-- no list within -/
def D.noL : D → Bool
  | .tup xs => D.noLL xs
  | .lst _ => false
  | .dct _ => false
  | .obj _ _ => false
  | .frl _ => false
  | .rng _ _ => false
  | _ => true
def D.noLL : List D → Bool
  | [] => true
  | x :: xs => D.noL x && D.noLL xs
end
mutual
def D.eqv : D → D → Bool
  | .non, .non => true
  | .bl a, .bl b => a == b
  | .bl a, .int j => (if a then 1 else 0) == j
  | .int i, .bl b => i == (if b then 1 else 0)
  | .int i, .int j => i == j
  | .str x, .str y => x == y
  | .tup xs, .tup ys => D.eqvL xs ys
  | .lst xs, .lst ys => D.eqvL xs ys
  | _, _ => false
def D.eqvL : List D → List D → Bool
  | [], [] => true
  | x :: xs, y :: ys => D.eqv x y && D.eqvL xs ys
  | _, _ => false
end
def D.eqOk (x : D) : Bool := decide (x.dep ≤ 60) && x.plain
def D.flat : D → Bool
  | .non => true | .bl _ => true | .int _ => true | .str _ => true | _ => false
def D.truth : D → R Bool
  | .non => .ok false
  | .bl b => .ok b
  | .int i => .ok (i != 0)
  | .str x => .ok (!x.isEmpty)
  | .tup xs => .ok (!xs.isEmpty)
  | .lst xs => .ok (!xs.isEmpty)
  | _ => .stuck

/-! ## operators -/
inductive Op2 where
  | add | sub | mul | fdiv | mod | pow | eq | ne | lt | le | gt | ge | isin | notin
  deriving DecidableEq
def mulOk (i j : Int) : Bool := decide ((-(2 ^ 64) < i ∧ i < 2 ^ 64) ∨ (-(2 ^ 64) < j ∧ j < 2 ^ 64))
def inD (neg : Bool) (x : D) : D → R D
  | .tup xs => if x.flat && xs.all D.flat then .ok (.bl (neg != xs.any fun y => D.eqv y x)) else .stuck
  | .lst xs => if x.flat && xs.all D.flat then .ok (.bl (neg != xs.any fun y => D.eqv y x)) else if x.eqOk && D.eqOk (.lst xs) then .ok (.bl (neg != xs.any fun y => D.eqv y x)) else .stuck
  | .str y => (match x with
    | .str [c] => .ok (.bl (neg != decide (c ∈ y)))
    | _ => .stuck)
  | _ => .stuck
def repL {α : Type} (k : Int) (xs : List α) : List α := (List.replicate k.toNat xs).flatten
def binD : Op2 → D → D → R D
  | .add, .int i, .int j => .ok (.int (i + j))
  | .add, .str x, .str y => if x.length + y.length ≤ 16777216 then .ok (.str (x ++ y)) else .stuck
  | .add, .tup x, .tup y => if x.length + y.length ≤ 16777216 then .ok (.tup (x ++ y)) else .stuck
  | .add, .lst x, .lst y => if x.length + y.length ≤ 16777216 then .ok (.lst (x ++ y)) else .stuck
  | .sub, .int i, .int j => .ok (.int (i - j))
  | .mul, .int i, .int j => if mulOk i j then .ok (.int (i * j)) else .stuck
  | .mul, .lst x, .int k => if -(2 ^ 63) ≤ k ∧ k < 2 ^ 63 ∧ x.length * k.toNat ≤ 16777216 then .ok (.lst (repL k x)) else .stuck
  | .mul, .tup x, .int k => if x.isEmpty = false ∧ 2 ≤ k ∧ k ≤ 1000 ∧ x.length ≤ 1000 then .ok (.tup (repL k x)) else .stuck
  | .fdiv, .int i, .int j => if 0 < j ∧ j < 1073741824 then .ok (.int (i / j)) else .stuck
  | .mod, .int i, .int j => if 0 < j then .ok (.int (i % j)) else .stuck
  | .pow, .int i, .int j => if 0 ≤ j ∧ j ≤ 1000000 ∧ i.natAbs < 2 ^ 64 then .ok (.int (i ^ j.toNat)) else .stuck
  | .eq, x, y => if x.eqOk && y.eqOk then .ok (.bl (D.eqv x y)) else .stuck
  | .ne, x, y => if x.eqOk && y.eqOk then .ok (.bl (!D.eqv x y)) else .stuck
  | .lt, .int i, .int j => .ok (.bl (decide (i < j)))
  | .le, .int i, .int j => .ok (.bl (decide (i ≤ j)))
  | .gt, .int i, .int j => .ok (.bl (decide (j < i)))
  | .ge, .int i, .int j => .ok (.bl (decide (j ≤ i)))
  | .isin, x, y => inD false x y
  | .notin, x, y => inD true x y
  | _, _, _ => .stuck
inductive Op1 where
  | neg | not | isN | notN | isB (b : Bool) | notB (b : Bool)
  deriving DecidableEq
def unD : Op1 → D → R D
  | .neg, .int i => .ok (.int (-i))
  | .not, x => do let b ← x.truth; pure (.bl (!b))
  | .isN, .non => .ok (.bl true)
  | .isN, _ => .ok (.bl false)
  | .notN, .non => .ok (.bl false)
  | .notN, _ => .ok (.bl true)
  | .isB b, .bl c => .ok (.bl (c == b))
  | .isB _, _ => .ok (.bl false)
  | .notB b, .bl c => .ok (.bl (c != b))
  | .notB _, _ => .ok (.bl true)
  | _, _ => .stuck
/-- the place of i in n, from the end where i is below 0 -/
def ixD (n : Nat) (i : Int) : Option Nat := if 0 ≤ i then (if i < n then some i.toNat else none) else if -(n : Int) ≤ i then some (i + n).toNat else none
def getI {α : Type} (xs : List α) (i : Int) : R α := match ixD xs.length i with
  | some k => (match xs[k]? with
    | some v => .ok v
    | none => .stuck)
  | none => .stuck
def lookD (k : D) : List (D × D) → R D
  | [] => .stuck
  | (q, v) :: r => if D.eqv q k then .ok v else lookD k r
def idxD : D → D → R D
  | .tup xs, .int i => getI xs i
  | .lst xs, .int i => getI xs i
  | .str x, .int i => do let c ← getI x i; pure (.str [c])
  | .dct kvs, .int i => lookD (.int i) kvs
  | .dct kvs, .str i => lookD (.str i) kvs
  | _, _ => .stuck
/-- a slice's end -/
def sixD (n d : Nat) : Option Int → Nat
  | none => d
  | some v => if v < 0 then (v + n).toNat else min v.toNat n
def cutL {α : Type} (xs : List α) (lo hi : Option Int) : List α := (xs.drop (sixD xs.length 0 lo)).take (sixD xs.length xs.length hi - sixD xs.length 0 lo)
def slcD (x : D) (lo hi : Option Int) : R D := match x with
  | .tup xs => .ok (.tup (cutL xs lo hi))
  | .lst xs => .ok (.lst (cutL xs lo hi))
  | .str xs => .ok (.str (cutL xs lo hi))
  | _ => .stuck

/-! ## built-ins -/
inductive Ty where
  | int | bool | str | tuple | list | dict
  deriving DecidableEq
def D.isTy : D → Ty → Bool
  | .int _, .int => true
  | .bl _, .int => true
  | .bl _, .bool => true
  | .str _, .str => true
  | .tup _, .tuple => true
  | .lst _, .list => true
  | .frl _, .list => true
  | .dct _, .dict => true
  | _, _ => false
def D.isRng : D → Bool
  | .rng _ _ => true
  | _ => false
def isiD (x : D) (t : Ty) : R D := if x.isRng then .stuck else .ok (.bl (x.isTy t))
inductive BI where
  | len | int | str | abs | min2 | max2 | min1 | max1 | sum | sorted | tuple | list | all | any
  deriving DecidableEq
def intsD : List D → Option (List Int)
  | [] => some []
  | .int i :: r => (intsD r).map (i :: ·)
  | _ => none
def blsD : List D → Option (List Bool)
  | [] => some []
  | .bl i :: r => (blsD r).map (i :: ·)
  | _ => none
def strsD : List D → Option (List (List Nat))
  | [] => some []
  | .str i :: r => (strsD r).map (i :: ·)
  | _ => none
def maxL : List Int → Int
  | [] => 0
  | [x] => x
  | x :: y :: r => max x (maxL (y :: r))
def minL : List Int → Int
  | [] => 0
  | [x] => x
  | x :: y :: r => min x (minL (y :: r))
def insI (x : Int) : List Int → List Int
  | [] => [x]
  | y :: r => if x ≤ y then x :: y :: r else y :: insI x r
def sortI : List Int → List Int
  | [] => []
  | x :: r => insI x (sortI r)
/-- the signs of an int's text -/
def txtI (i : Int) : List Nat := (PySem.Str.ofString (toString i)).cps.toList
/-- those that serve where an exception is handled -/
def BI.hot : BI → Bool
  | .len => true | .int => true | .str => true | .abs => true | .tuple => true | .list => true | .all => true
  | _ => false
def biD : BI → List D → R D
  | .len, [.str x] => .ok (.int x.length)
  | .len, [.tup x] => .ok (.int x.length)
  | .len, [.lst x] => .ok (.int x.length)
  | .len, [.frl x] => .ok (.int x.length)
  | .int, [.int i] => .ok (.int i)
  | .int, [.bl b] => .ok (.int (if b then 1 else 0))
  | .abs, [.int i] => .ok (.int (if i < 0 then -i else i))
  | .min2, [.int i, .int j] => .ok (.int (if j < i then j else i))
  | .max2, [.int i, .int j] => .ok (.int (if j > i then j else i))
  | .max1, [.lst xs] => (match intsD xs with
    | some (i :: r) => .ok (.int (maxL (i :: r)))
    | _ => .stuck)
  | .min1, [.lst xs] => (match intsD xs with
    | some (i :: r) => .ok (.int (minL (i :: r)))
    | _ => .stuck)
  | .sum, [.lst xs] => (match intsD xs with
    | some r => .ok (.int r.sum)
    | _ => .stuck)
  | .sorted, [.lst xs] => (match intsD xs with
    | some r => .ok (.lst ((sortI r).map .int))
    | _ => .stuck)
  | .tuple, [.tup xs] => .ok (.tup xs)
  | .tuple, [.lst xs] => .ok (.tup xs)
  | .list, [.tup xs] => .ok (.lst xs)
  | .list, [.lst xs] => .ok (.lst xs)
  | .all, [.lst xs] => (match blsD xs with
    | some r => .ok (.bl (r.all id))
    | _ => .stuck)
  | .any, [.lst xs] => (match blsD xs with
    | some r => .ok (.bl (r.any id))
    | _ => .stuck)
  | .str, [.int i] => if i.natAbs.log2 < 1920 then .ok (.str (txtI i)) else .stuck
  | .str, [.str x] => .ok (.str x)
  | _, _ => .stuck
/-- lo, lo + 1, .. -/
def rngL (lo hi : Int) : List D := (List.range (hi - lo).toNat).map fun i => .int (lo + (i : Nat))
def rngOk (lo hi : Int) : Bool := decide (-(2 ^ 62) ≤ lo ∧ lo < 2 ^ 62 ∧ -(2 ^ 62) ≤ hi ∧ hi < 2 ^ 62)

/-! ## the code -/
inductive Tgt where
  | nm (i : Nat) | tp (is : List Nat)
mutual
inductive CE where
  | stk
  | var (i : Nat)
  | cst (d : D)
  | glb (j : Nat)
  | bin (o : Op2) (a b : CE)
  | un (o : Op1) (a : CE)
  | and (a b : CE)
  | or (a b : CE)
  | chain (o p : Op2) (a b c : CE)
  | ife (c : CT) (a b : CE)
  | tup (es : List CE)
  | lst (es : List CE)
  | idx (a i : CE)
  | slc (a : CE) (lo hi : Option CE)
  | call (f : Nat) (es : List CE)
  | callk (f : Nat) (es ks : List CE) (perm : List Nat)
  | bi (b : BI) (es : List CE)
  | isi (a : CE) (t : Ty)
  | rngL (tup : Bool) (lo hi : CE)
  | rngO (lo hi : CE)
  | cmp (tg : Tgt) (it : CI) (cd : CT) (elt : CE)
  | join (s e : CE)
  | fstr (es : List CE)
  | exf (i j : Nat)
  | exi (i c : Nat)
/-- tests -/
inductive CT where
  | yes
  | of (e : CE)
  | not (a : CT)
  | and (a b : CT)
  | or (a b : CT)
/-- what is walked -/
inductive CI where
  | of (e : CE)
  | rng (lo hi : CE)
  | enum (e : CE)
  | zip (a b : CE)
  | rev (e : CE)
end
/-- what a value is worth that is walked -/
def itemsD : D → R (List D)
  | .tup xs => .ok xs
  | .lst xs => .ok xs
  | .str xs => .ok (xs.map fun c => .str [c])
  | .frl xs => .ok xs
  | .rng lo hi => if rngOk lo hi && decide ((hi - lo).toNat ≤ 16777216) then .ok (rngL lo hi) else .stuck
  | _ => .stuck
def seqD : D → R (List D)
  | .tup xs => .ok xs
  | .lst xs => .ok xs
  | _ => .stuck
def zipD : D → D → R (List D)
  | .tup xs, .tup ys => .ok ((xs.zip ys).map fun p => .tup [p.1, p.2])
  | .lst xs, .lst ys => .ok ((xs.zip ys).map fun p => .tup [p.1, p.2])
  | _, _ => .stuck
structure Tb where
  hot : Bool
  call : Bool → Nat → List D → R D
  sub : Nat → Nat → Bool
  glb : Nat → D
def itHot : CI → Bool
  | .rng (.cst (.int z)) _ => z == 0
  | _ => false
/-- within an except suite -/
abbrev Tb.heat (T : Tb) : Tb := { T with hot := true }
def slotB (s : Option Slot) : R D := match s with
  | some (.val d) => .ok d
  | some (.own xs) => .ok (.lst xs)
  | _ => .stuck
def slotE (s : Option Slot) : R D := match s with
  | some (.val d) => .ok d
  | _ => .stuck
def isOwn (s : Option Slot) : Bool := match s with
  | some (.own _) => true
  | _ => false
def setAll : List Nat → List D → Rho → R Rho
  | [], [], ρ => .ok ρ
  | i :: is, d :: ds, ρ => setAll is ds (ρ.set i (.val d))
  | _, _, _ => .stuck
def bindT : Tgt → D → Rho → R Rho
  | .nm i, d, ρ => .ok (ρ.set i (.val d))
  | .tp is, .tup ds, ρ => setAll is ds ρ
  | .tp _, _, _ => .stuck
def tgOwn (ρ : Rho) : Tgt → Bool
  | .nm i => isOwn ρ[i]?
  | .tp is => is.any fun i => isOwn ρ[i]?
def compL (f : D → R (Option D)) : List D → R (List D)
  | [] => .ok []
  | d :: ds => match f d with
    | .ok o => (match compL f ds with
      | .ok r => .ok (match o with
        | some y => y :: r
        | none => r)
      | _ => .stuck)
    | _ => .stuck
def pick (ds : List D) : List Nat → R (List D)
  | [] => .ok []
  | i :: r => match ds[i]? with
    | some d => do let q ← pick ds r; pure (d :: q)
    | none => .stuck
def ownArg (ρ : Rho) : CE → Bool
  | .var i => isOwn ρ[i]?
  | _ => false
def guardL (b : Bool) (r : R D) : R D := match r with
  | .ok d => if b && !d.noL then .stuck else .ok d
  | .err c fs => if b && !D.noLL fs then .stuck else .err c fs
  | .stuck => .stuck
/-- texts glued -/
def joinS (s : List Nat) : List (List Nat) → List Nat
  | [] => []
  | [x] => x
  | x :: y :: r => x ++ (s ++ joinS s (y :: r))
def joinD : D → D → R D
  | .str s, .lst xs => (match strsD xs with
    | some ys => if (ys.map (·.length)).sum + ys.length * s.length ≤ 16777216 then .ok (.str (joinS s ys)) else .stuck
    | none => .stuck)
  | .str s, .tup xs => (match strsD xs with
    | some ys => if (ys.map (·.length)).sum + ys.length * s.length ≤ 16777216 then .ok (.str (joinS s ys)) else .stuck
    | none => .stuck)
  | _, _ => .stuck
def fstrD : D → R (List Nat)
  | .str x => .ok x
  | .int i => if i.natAbs.log2 < 1920 then .ok (txtI i) else .stuck
  | _ => .stuck
/-- a list of one's own may be looked at -/
def bor (e : CE) (ρ : Rho) (r : R D) : R D := match e with
  | .var i => slotB ρ[i]?
  | _ => r
mutual
def evE (T : Tb) : CE → Rho → R D
  | .stk, _ => .stuck
  | .var i, ρ => slotE ρ[i]?
  | .cst d, _ => .ok d
  | .glb j, _ => .ok (T.glb j)
  | .bin o a b, ρ => do let x ← bor a ρ (evE T a ρ); let y ← bor b ρ (evE T b ρ); binD o x y
  | .un o a, ρ => do let x ← bor a ρ (evE T a ρ); unD o x
  | .and a b, ρ => do
    let x ← evE T a ρ
    let t ← x.truth
    if t then evE T b ρ else pure x
  | .or a b, ρ => do
    let x ← evE T a ρ
    let t ← x.truth
    if t then pure x else evE T b ρ
  | .chain o p a b c, ρ => do
    let x ← bor a ρ (evE T a ρ)
    let y ← bor b ρ (evE T b ρ)
    let z ← binD o x y
    match z with
    | .bl true => do let u ← bor c ρ (evE T c ρ); binD p y u
    | .bl false => pure (.bl false)
    | _ => .stuck
  | .ife c a b, ρ => do let x ← evT T c ρ; if x then evE T a ρ else evE T b ρ
  | .tup es, ρ => do let ds ← evEs T es ρ; pure (.tup ds)
  | .lst es, ρ => do let ds ← evEs T es ρ; pure (.lst ds)
  | .idx a i, ρ => do let x ← bor a ρ (evE T a ρ); let y ← evE T i ρ; idxD x y
  | .slc a lo hi, ρ => do
    let x ← bor a ρ (evE T a ρ)
    let l ← evO T lo ρ
    let h ← evO T hi ρ
    slcD x l h
  | .call f es, ρ => do let ds ← evBs T es ρ; guardL (es.any (ownArg ρ)) (T.call T.hot f ds)
  | .callk f es ks perm, ρ => if T.hot then .stuck else do let ds ← evBs T es ρ; let qs ← evBs T ks ρ; let ps ← pick (ds ++ qs) perm; guardL ((es ++ ks).any (ownArg ρ)) (T.call T.hot f ps)
  | .bi b es, ρ => if T.hot && !b.hot then .stuck else do let ds ← evBs T es ρ; biD b ds
  | .isi a t, ρ => do let x ← bor a ρ (evE T a ρ); isiD x t
  | .rngL tu lo hi, ρ => if T.hot then .stuck else do
    let x ← evE T lo ρ
    let y ← evE T hi ρ
    match x, y with
    | .int i, .int j => if rngOk i j && decide ((j - i).toNat ≤ 16777216) then pure (if tu then .tup (Ev.rngL i j) else .lst (Ev.rngL i j)) else .stuck
    | _, _ => .stuck
  | .rngO lo hi, ρ => do
    let x ← evE T lo ρ
    let y ← evE T hi ρ
    match x, y with
    | .int i, .int j => pure (.rng i j)
    | _, _ => .stuck
  | .cmp tg it cd elt, ρ => if T.hot && !itHot it then .stuck else if tgOwn ρ tg then .stuck else do
    let xs ← evI T it ρ
    let ys ← compL (fun d => do
      let ρ1 ← bindT tg d ρ
      let c ← evT T cd ρ1
      if c then do let y ← evE T elt ρ1; pure (some y) else pure none) xs
    pure (.lst ys)
  | .join s e, ρ => do let x ← evE T s ρ; let y ← bor e ρ (evE T e ρ); joinD x y
  | .fstr es, ρ => do
    let xs ← evF T es ρ
    if (xs.map (·.length)).sum ≤ 16777216 then pure (.str xs.flatten) else .stuck
  | .exf i j, ρ => (match ρ[i]? with
    | some (.exc _ fs) => (match fs[j]? with
      | some d => .ok d
      | none => .stuck)
    | _ => .stuck)
  | .exi i c, ρ => (match ρ[i]? with
    | some (.exc k _) => .ok (.bl (T.sub k c))
    | _ => .stuck)
termination_by structural e => e
def evT (T : Tb) : CT → Rho → R Bool
  | .yes, _ => .ok true
  | .and a b, ρ => do let x ← evT T a ρ; if x then evT T b ρ else pure false
  | .or a b, ρ => do let x ← evT T a ρ; if x then pure true else evT T b ρ
  | .not a, ρ => do let x ← evT T a ρ; pure (!x)
  | .of e, ρ => do let x ← bor e ρ (evE T e ρ); x.truth
termination_by structural e => e
def evO (T : Tb) : Option CE → Rho → R (Option Int)
  | none, _ => .ok none
  | some e, ρ => do
    let x ← evE T e ρ
    match x with
    | .int i => pure (some i)
    | _ => .stuck
termination_by structural e => e
def evEs (T : Tb) : List CE → Rho → R (List D)
  | [], _ => .ok []
  | e :: es, ρ => do let x ← evE T e ρ; let xs ← evEs T es ρ; pure (x :: xs)
termination_by structural e => e
def evBs (T : Tb) : List CE → Rho → R (List D)
  | [], _ => .ok []
  | e :: es, ρ => do let x ← bor e ρ (evE T e ρ); let xs ← evBs T es ρ; pure (x :: xs)
termination_by structural e => e
def evF (T : Tb) : List CE → Rho → R (List (List Nat))
  | [], _ => .ok []
  | e :: es, ρ => do let x ← evE T e ρ; let y ← fstrD x; let xs ← evF T es ρ; pure (y :: xs)
termination_by structural e => e
def evI (T : Tb) : CI → Rho → R (List D)
  | .rng lo hi, ρ => do
    let x ← evE T lo ρ
    let y ← evE T hi ρ
    match x, y with
    | .int i, .int j => if rngOk i j && decide ((j - i).toNat ≤ 16777216) then pure (Ev.rngL i j) else .stuck
    | _, _ => .stuck
  | .enum e, ρ => do let x ← bor e ρ (evE T e ρ); let xs ← seqD x; pure (xs.mapIdx fun i d => .tup [.int i, d])
  | .zip a b, ρ => do let x ← bor a ρ (evE T a ρ); let y ← bor b ρ (evE T b ρ); zipD x y
  | .rev e, ρ => do let x ← bor e ρ (evE T e ρ); let xs ← seqD x; pure xs.reverse
  | .of e, ρ => do let x ← bor e ρ (evE T e ρ); itemsD x
termination_by structural e => e
end
abbrev evB (T : Tb) (e : CE) (ρ : Rho) : R D := bor e ρ (evE T e ρ)

/-! ## statements -/
inductive Pto where
  | set (i : Nat) | app (j : Nat) | ret | drop
mutual
inductive CS where
  | stk
  | pass
  | set (i : Nat) (e : CE)
  | setC (i : Nat) (e : CE)
  | setOwn (i : Nat) (e : CE)
  | unp (is : List Nat) (e : CE)
  | app (i : Nat) (e : CE)
  | seti (i : Nat) (k e : CE)
  | pop (i : Nat) (k : Option CE) (to : Pto)
  | frz (is : List Nat)
  | ex (e : CE)
  | ret (e : CE)
  | retO (i : Nat)
  | retN
  | ife (c : CT) (a b : List CS)
  | for (tg : Tgt) (it : CI) (b : List CS)
  | whl (c : CT) (b : List CS)
  | raise (c : Nat) (es : List CE)
  | try (b : List CS) (hs : List CH)
  | brk
  | cont
inductive CH where
  | mk (c : Nat) (i : Option Nat) (b : List CS)
end
def forL (tg : Tgt) (body : Rho → RS) : List D → Rho → RS
  | [], ρ => .nx ρ
  | d :: ds, ρ => match bindT tg d ρ with
    | .ok ρ1 => (match body ρ1 with
      | .nx ρ2 => forL tg body ds ρ2
      | .ct ρ2 => forL tg body ds ρ2
      | .bk ρ2 => .nx ρ2
      | r => r)
    | _ => .stuck
def whlL (c : Rho → R Bool) (body : Rho → RS) : Nat → Rho → RS
  | 0, _ => .stuck
  | n + 1, ρ => match c ρ with
    | .ok true => (match body ρ with
      | .nx ρ2 => whlL c body n ρ2
      | .ct ρ2 => whlL c body n ρ2
      | .bk ρ2 => .nx ρ2
      | r => r)
    | .ok false => .nx ρ
    | _ => .stuck
/-- a result, else what was raised -/
def R.on {α : Type} (r : R α) (ρ : Rho) (f : α → RS) : RS := match r with
  | .ok a => f a
  | .err c fs => .err c fs ρ
  | .stuck => .stuck
@[simp] theorem ok_on {α : Type} (a : α) (ρ : Rho) (f : α → RS) : (R.ok a).on ρ f = f a := rfl
@[simp] theorem err_on {α : Type} (c : Nat) (fs : List D) (ρ : Rho) (f : α → RS) : (R.err c fs : R α).on ρ f = .err c fs ρ := rfl
@[simp] theorem stuck_on {α : Type} (ρ : Rho) (f : α → RS) : (R.stuck : R α).on ρ f = .stuck := rfl
def RS.andThen (r : RS) (f : Rho → RS) : RS := match r with
  | .nx ρ => f ρ
  | r => r
@[simp] theorem nx_then (ρ : Rho) (f : Rho → RS) : (RS.nx ρ).andThen f = f ρ := rfl
@[simp] theorem ret_then (d : D) (f : Rho → RS) : (RS.ret d).andThen f = .ret d := rfl
@[simp] theorem bk_then (ρ : Rho) (f : Rho → RS) : (RS.bk ρ).andThen f = .bk ρ := rfl
@[simp] theorem ct_then (ρ : Rho) (f : Rho → RS) : (RS.ct ρ).andThen f = .ct ρ := rfl
@[simp] theorem err_then (c : Nat) (fs : List D) (ρ : Rho) (f : Rho → RS) : (RS.err c fs ρ).andThen f = .err c fs ρ := rfl
@[simp] theorem stuck_then (f : Rho → RS) : RS.stuck.andThen f = .stuck := rfl
def Slot.noX : Slot → Slot
  | .exc _ _ => .none
  | s => s
/-- behind an except suite: its name is gone -/
def RS.wipe (i : Nat) : RS → RS
  | .nx ρ => .nx ((ρ.set i .none).map Slot.noX)
  | .bk ρ => .bk ((ρ.set i .none).map Slot.noX)
  | .ct ρ => .ct ((ρ.set i .none).map Slot.noX)
  | .err _ _ _ => .stuck
  | r => r
def RS.noErr : RS → RS
  | .err _ _ _ => .stuck
  | r => r
def frz1 (ρ : Rho) (i : Nat) : Rho := match ρ[i]? with
  | some (.own xs) => ρ.set i (.val (.lst xs))
  | _ => ρ
def isList : D → Option (List D)
  | .lst xs => some xs
  | _ => none
def WHL : Nat := 100000
def ownIt (ρ : Rho) : CI → Bool
  | .of e => ownArg ρ e
  | .rng _ _ => false
  | .enum e => ownArg ρ e
  | .zip a b => ownArg ρ a || ownArg ρ b
  | .rev e => ownArg ρ e
mutual
def evS (T : Tb) : CS → Rho → RS
  | .stk, _ => .stuck
  | .pass, ρ => .nx ρ
  | .set i e, ρ => (evE T e ρ).on ρ fun d => .nx (ρ.set i (.val d))
  | .setC i e, ρ => if T.hot then .stuck else (evE T e ρ).on ρ fun d => .nx (ρ.set i (.val d))
  | .setOwn i e, ρ => (evE T e ρ).on ρ fun d => match d with
    | .lst xs => .nx (ρ.set i (.own xs))
    | _ => .stuck
  | .unp is e, ρ => if T.hot then .stuck else (evE T e ρ).on ρ fun d => (bindT (.tp is) d ρ).on ρ fun ρ1 => .nx ρ1
  | .app i e, ρ => match ρ[i]? with
    | some (.own xs) => (evE T e ρ).on ρ fun d => if xs.length < 16777216 then .nx (ρ.set i (.own (xs ++ [d]))) else .stuck
    | _ => .stuck
  | .seti i k e, ρ => (evE T e ρ).on ρ fun d => match ρ[i]? with
    | some (.own xs) => (evE T k ρ).on ρ fun q => match q with
      | .int z => (match ixD xs.length z with
        | some j => .nx (ρ.set i (.own (xs.set j d)))
        | none => .stuck)
      | _ => .stuck
    | _ => .stuck
  | .pop i k to, ρ => match ρ[i]? with
    | some (.own xs) => (evO T k ρ).on ρ fun z => match ixD xs.length (z.getD (-1)) with
      | some j => (match xs[j]? with
        | some d => match to with
          | .set t => .nx ((ρ.set i (.own (xs.eraseIdx j))).set t (.val d))
          | .app t => (match ρ[t]? with
            | some (.own ys) => if t ≠ i ∧ ys.length < 16777216 then .nx ((ρ.set i (.own (xs.eraseIdx j))).set t (.own (ys ++ [d]))) else .stuck
            | _ => .stuck)
          | .ret => .ret d
          | .drop => .nx (ρ.set i (.own (xs.eraseIdx j)))
        | none => .stuck)
      | none => .stuck
    | _ => .stuck
  | .frz is, ρ => .nx (is.foldl frz1 ρ)
  | .ex e, ρ => (evE T e ρ).on ρ fun _ => .nx ρ
  | .ret e, ρ => (evE T e ρ).on ρ fun d => .ret d
  | .retO i, ρ => (slotB ρ[i]?).on ρ fun d => .ret d
  | .retN, _ => .ret .non
  | .ife c a b, ρ => (evT T c ρ).on ρ fun x => if x then evSs T a ρ else evSs T b ρ
  | .for tg it b, ρ => if T.hot then .stuck else if ownIt ρ it then .stuck else (evI T it ρ).on ρ fun xs => forL tg (evSs T b) xs ρ
  | .whl c b, ρ => whlL (evT T c) (evSs T b) WHL ρ
  | .raise c es, ρ => if T.hot then .stuck else (evEs T es ρ).on ρ fun ds => .err c ds ρ
  | .try b hs, ρ => if T.hot then .stuck else match evSs T b ρ with
    | .err c fs ρ1 => evH T hs c fs ρ1
    | r => r
  | .brk, ρ => .bk ρ
  | .cont, ρ => .ct ρ
termination_by structural e => e
def evSs (T : Tb) : List CS → Rho → RS
  | [], ρ => .nx ρ
  | s :: r, ρ => (evS T s ρ).andThen (evSs T r)
termination_by structural e => e
def evH (T : Tb) : List CH → Nat → List D → Rho → RS
  | [], c, fs, ρ => .err c fs ρ
  | h :: r, c, fs, ρ => evH1 T h c fs ρ (evH T r c fs ρ)
termination_by structural e => e
def evH1 (T : Tb) : CH → Nat → List D → Rho → RS → RS
  | .mk k i b, c, fs, ρ, r => if T.sub c k then (match i with
      | some i => (evSs T.heat b (ρ.set i (.exc c fs))).wipe i
      | none => (evSs T.heat b ρ).noErr) else r
termination_by structural e => e
end
/-! ## defs -/
structure Fd where
  np : Nat
  ns : Nat
  body : List CS
structure Pg where
  fn : Nat → Option Fd
  sub : Nat → Nat → Bool
  glb : Nat → D
def RS.fin : RS → R D
  | .ret d => .ok d
  | .nx _ => .ok .non
  | .err c fs _ => .err c fs
  | _ => .stuck
def Pg.run (P : Pg) : Nat → Bool → Nat → List D → R D
  | 0, _, _, _ => .stuck
  | n + 1, hot, f, ds => match P.fn f with
    | some d => if ds.length = d.np then (evSs ⟨hot, P.run n, P.sub, P.glb⟩ d.body (ds.map .val ++ List.replicate (d.ns - d.np) .none)).fin else .stuck
    | none => .stuck
abbrev Pg.tb (P : Pg) (n : Nat) (hot : Bool) : Tb := ⟨hot, P.run n, P.sub, P.glb⟩
end Ev
end
section
set_option Elab.async false
set_option linter.all false
set_option maxRecDepth 100000
namespace Ev
open PySem PySem.Spec PyProof.Rows L2

/-! ## how data lie in memory; O: the lists that may still change -/
def sv (x : List Nat) : Str := ⟨x.toArray⟩
theorem sv_len (x : List Nat) : (sv x).length = x.length := by simp [sv, Str.length]
theorem sv_tl (x : List Nat) : (sv x).cps.toList = x := by simp [sv]
theorem sv_of (z : Str) : sv z.cps.toList = z := by cases z; simp [sv]
theorem sv_inj {x y : List Nat} (h : sv x = sv y) : x = y := by rw [← sv_tl x, h, sv_tl]
theorem sv_app (x y : List Nat) : sv (x ++ y) = sv x ++ sv y := by
  show (⟨(x ++ y).toArray⟩ : Str) = ⟨x.toArray ++ y.toArray⟩
  simp
def txtOk (x : List Nat) : Prop := x.length ≤ 16777216 ∧ ∀ c ∈ x, c < 1114112
/-- a list that nobody changes -/
def FrL (K : PySem.W.Frag) (H : Hp) (a : Addr) (vs : List V) : Prop := (∃ o, H a = some (.frz o (.lst vs))) ∨
  ∃ (o : Obj) (its : Array Value) (n : Nat), K.lookup a = some o ∧ o.cls = .type "list" ∧ o.dict = none ∧ o.data = .seq its n ∧ its.size ≤ sizeLine ∧ Vals vs its.toList
theorem FrL.sq {K : PySem.W.Frag} {H : Hp} {a : Addr} {vs : List V} (h : FrL K H a vs) : SqL K H a vs := h.imp (fun ⟨o, e⟩ => .inr ⟨o, e⟩) id
mutual
inductive Rep (K : PySem.W.Frag) (O : Addr → Prop) (H : Hp) : V → D → Prop
  | non : Rep K O H .non .non
  | bl (b : Bool) : Rep K O H (.bl b) (.bl b)
  | int (i : Int) : Rep K O H (.int i) (.int i)
  | str {x : List Nat} (h : txtOk x) : Rep K O H (.str (sv x)) (.str x)
  | tup {a : Addr} {vs : List V} {ds : List D} : ds.length ≤ 16777216 → SqT K H a vs → Reps K O H vs ds → Rep K O H (.ref a) (.tup ds)
  | lst {a : Addr} {vs : List V} {ds : List D} : ds.length ≤ 16777216 → ¬ O a → H a = some (.lst vs) → Reps K O H vs ds → Rep K O H (.ref a) (.lst ds)
  | frl {a : Addr} {vs : List V} {ds : List D} : ds.length ≤ 16777216 → FrL K H a vs → Reps K O H vs ds → Rep K O H (.ref a) (.frl ds)
  | rng {a : Addr} {lo hi : Int} : H a = some (.rng lo hi) → Rep K O H (.ref a) (.rng lo hi)
inductive Reps (K : PySem.W.Frag) (O : Addr → Prop) (H : Hp) : List V → List D → Prop
  | nil : Reps K O H [] []
  | cons {v : V} {d : D} {vs : List V} {ds : List D} : Rep K O H v d → Reps K O H vs ds → Reps K O H (v :: vs) (d :: ds)
end
/-- also a list of one's own, looked at -/
inductive RepB (K : PySem.W.Frag) (O : Addr → Prop) (H : Hp) : V → D → Prop
  | of {v : V} {d : D} : Rep K O H v d → RepB K O H v d
  | own {a : Addr} {vs : List V} {ds : List D} : ds.length ≤ 16777216 → H a = some (.lst vs) → Reps K O H vs ds → RepB K O H (.ref a) (.lst ds)
section
variable {K : PySem.W.Frag} {O O' : Addr → Prop} {H H' : Hp}
/-- what is tracked stays, but the lists of O -/
def Gro (O : Addr → Prop) (H H' : Hp) : Prop := ∀ b o, H b = some o → H' b = some o ∨ (O b ∧ ∃ xs, o = .lst xs)
theorem Gro.of (h : Same H H') : Gro O H H' := fun b o e => .inl (h b o e)
theorem sqT_gro {a : Addr} {xs : List V} (g : Gro O H H') (h : SqT K H a xs) : SqT K H' a xs := by
  rcases h with (h | ⟨o, h⟩) | h
  · rcases g a _ h with e | ⟨_, ys, e⟩
    · exact .inl (.inl e)
    · cases e
  · rcases g a _ h with e | ⟨_, ys, e⟩
    · exact .inl (.inr ⟨o, e⟩)
    · cases e
  · exact .inr h
theorem lst_gro {a : Addr} {xs : List V} (g : Gro O H H') (n : ¬ O a) (h : H a = some (.lst xs)) : H' a = some (.lst xs) := by
  rcases g a _ h with e | ⟨q, _⟩
  · exact e
  · exact (n q).elim
theorem frz_gro {a : Addr} {o : Obj} {xs : List V} (g : Gro O H H') (h : H a = some (.frz o (.lst xs))) : H' a = some (.frz o (.lst xs)) := by
  rcases g a _ h with e | ⟨_, ys, e⟩
  · exact e
  · cases e
mutual
theorem Rep.gro (g : Gro O H H') : ∀ {v : V} {d : D}, Rep K O H v d → Rep K O H' v d
  | _, _, .non => .non
  | _, _, .bl b => .bl b
  | _, _, .int i => .int i
  | _, _, .str h => .str h
  | _, _, .tup l s r => .tup l (sqT_gro g s) (Reps.gro g r)
  | _, _, .lst l n s r => .lst l n (lst_gro g n s) (Reps.gro g r)
  | _, _, .frl l s r => .frl l (s.imp (fun ⟨o, e⟩ => ⟨o, frz_gro g e⟩) id) (Reps.gro g r)
  | _, _, .rng s => .rng ((g _ _ s).elim id fun ⟨_, _, e⟩ => by cases e)
theorem Reps.gro (g : Gro O H H') : ∀ {vs : List V} {ds : List D}, Reps K O H vs ds → Reps K O H' vs ds
  | _, _, .nil => .nil
  | _, _, .cons r t => .cons (Rep.gro g r) (Reps.gro g t)
end
mutual
theorem Rep.less (h : ∀ a, O' a → O a) : ∀ {v : V} {d : D}, Rep K O H v d → Rep K O' H v d
  | _, _, .non => .non
  | _, _, .bl b => .bl b
  | _, _, .int i => .int i
  | _, _, .str h => .str h
  | _, _, .tup l s r => .tup l s (Reps.less h r)
  | _, _, .lst l n s r => .lst l (fun q => n (h _ q)) s (Reps.less h r)
  | _, _, .frl l s r => .frl l s (Reps.less h r)
  | _, _, .rng s => .rng s
theorem Reps.less (h : ∀ a, O' a → O a) : ∀ {vs : List V} {ds : List D}, Reps K O H vs ds → Reps K O' H vs ds
  | _, _, .nil => .nil
  | _, _, .cons r t => .cons (Rep.less h r) (Reps.less h t)
end

mutual
/-- lists that stand nowhere may be put into O -/
theorem Rep.add (h : ∀ a, O' a → O a ∨ H a = none) : ∀ {v : V} {d : D}, Rep K O H v d → Rep K O' H v d
  | _, _, .non => .non
  | _, _, .bl b => .bl b
  | _, _, .int i => .int i
  | _, _, .str h => .str h
  | _, _, .tup l s r => .tup l s (Reps.add h r)
  | _, _, .lst l n s r => .lst l (fun q => (h _ q).elim n fun e => by rw [e] at s; cases s) s (Reps.add h r)
  | _, _, .frl l s r => .frl l s (Reps.add h r)
  | _, _, .rng s => .rng s
theorem Reps.add (h : ∀ a, O' a → O a ∨ H a = none) : ∀ {vs : List V} {ds : List D}, Reps K O H vs ds → Reps K O' H vs ds
  | _, _, .nil => .nil
  | _, _, .cons r t => .cons (Rep.add h r) (Reps.add h t)
end
mutual
/-- a list that stands nowhere may be put into O -/
theorem Rep.more {a : Addr} (hn : H a = none) : ∀ {v : V} {d : D}, Rep K O H v d → Rep K (fun b => O b ∨ b = a) H v d
  | _, _, .non => .non
  | _, _, .bl b => .bl b
  | _, _, .int i => .int i
  | _, _, .str h => .str h
  | _, _, .tup l s r => .tup l s (Reps.more hn r)
  | _, _, .lst l n s r => .lst l (fun q => q.elim n fun e => by rw [e, hn] at s; cases s) s (Reps.more hn r)
  | _, _, .frl l s r => .frl l s (Reps.more hn r)
  | _, _, .rng s => .rng s
theorem Reps.more {a : Addr} (hn : H a = none) : ∀ {vs : List V} {ds : List D}, Reps K O H vs ds → Reps K (fun b => O b ∨ b = a) H vs ds
  | _, _, .nil => .nil
  | _, _, .cons r t => .cons (Rep.more hn r) (Reps.more hn t)
end
mutual
/-- without lists O does not matter -/
theorem Rep.any : ∀ {v : V} {d : D}, Rep K O H v d → d.noL = true → Rep K O' H v d
  | _, _, .non, _ => .non
  | _, _, .bl b, _ => .bl b
  | _, _, .int i, _ => .int i
  | _, _, .str h, _ => .str h
  | _, _, .tup l s r, h => .tup l s (Reps.any r (by simpa [D.noL] using h))
  | _, _, .lst l n s r, h => by simp [D.noL] at h
  | _, _, .frl l s r, h => by simp [D.noL] at h
  | _, _, .rng s, h => by simp [D.noL] at h
theorem Reps.any : ∀ {vs : List V} {ds : List D}, Reps K O H vs ds → D.noLL ds = true → Reps K O' H vs ds
  | _, _, .nil, _ => .nil
  | _, _, .cons r t, h => by
    simp only [D.noLL, Bool.and_eq_true] at h
    exact .cons (Rep.any r h.1) (Reps.any t h.2)
end
theorem Reps.length : ∀ {vs : List V} {ds : List D}, Reps K O H vs ds → vs.length = ds.length
  | _, _, .nil => rfl
  | _, _, .cons _ t => by simp [Reps.length t]
theorem Reps.get : ∀ {vs : List V} {ds : List D} {i : Nat} {v : V}, Reps K O H vs ds → vs[i]? = some v → ∃ d, ds[i]? = some d ∧ Rep K O H v d
  | _, _, _, _, .nil, e => by simp at e
  | _, _, 0, _, .cons r _, e => by simp at e; subst e; exact ⟨_, rfl, r⟩
  | _, _, i + 1, v, .cons _ t, e => by
    obtain ⟨d, h1, h2⟩ := Reps.get (i := i) (v := v) t (by simpa using e)
    exact ⟨d, by simpa using h1, h2⟩
theorem Reps.getD : ∀ {vs : List V} {ds : List D} {i : Nat} {d : D}, Reps K O H vs ds → ds[i]? = some d → ∃ v, vs[i]? = some v ∧ Rep K O H v d
  | _, _, _, _, .nil, e => by simp at e
  | _, _, 0, _, .cons r _, e => by simp at e; subst e; exact ⟨_, rfl, r⟩
  | _, _, i + 1, d, .cons _ t, e => by
    obtain ⟨v, h1, h2⟩ := Reps.getD (i := i) (d := d) t (by simpa using e)
    exact ⟨v, by simpa using h1, h2⟩
theorem Reps.app : ∀ {vs ws : List V} {ds es : List D}, Reps K O H vs ds → Reps K O H ws es → Reps K O H (vs ++ ws) (ds ++ es)
  | _, _, _, _, .nil, s => s
  | _, _, _, _, .cons r t, s => .cons r (Reps.app t s)
theorem Reps.take : ∀ {vs : List V} {ds : List D} (n : Nat), Reps K O H vs ds → Reps K O H (vs.take n) (ds.take n)
  | _, _, 0, _ => by simp; exact .nil
  | _, _, _ + 1, .nil => by simp; exact .nil
  | _, _, n + 1, .cons r t => .cons r (Reps.take n t)
theorem Reps.drop : ∀ {vs : List V} {ds : List D} (n : Nat), Reps K O H vs ds → Reps K O H (vs.drop n) (ds.drop n)
  | _, _, 0, r => r
  | _, _, _ + 1, .nil => by simp; exact .nil
  | _, _, n + 1, .cons _ t => Reps.drop n t
theorem Reps.rev : ∀ {vs : List V} {ds : List D}, Reps K O H vs ds → Reps K O H vs.reverse ds.reverse
  | _, _, .nil => .nil
  | _, _, .cons r t => by simp only [List.reverse_cons]; exact Reps.app (Reps.rev t) (.cons r .nil)
theorem Reps.flat {vs : List V} {ds : List D} (r : Reps K O H vs ds) : ∀ k : Nat, Reps K O H (List.replicate k vs).flatten (List.replicate k ds).flatten
  | 0 => by simp; exact .nil
  | k + 1 => by simp only [List.replicate_succ, List.flatten_cons]; exact Reps.app r (Reps.flat r k)
theorem Reps.set {v : V} {d : D} (r : Rep K O H v d) : ∀ {vs : List V} {ds : List D} (i : Nat), Reps K O H vs ds → Reps K O H (vs.set i v) (ds.set i d)
  | _, _, _, .nil => .nil
  | _, _, 0, .cons _ t => .cons r t
  | _, _, i + 1, .cons q t => .cons q (Reps.set r i t)
theorem Reps.erase : ∀ {vs : List V} {ds : List D} (i : Nat), Reps K O H vs ds → Reps K O H (vs.eraseIdx i) (ds.eraseIdx i)
  | _, _, _, .nil => by simp; exact .nil
  | _, _, 0, .cons _ t => t
  | _, _, i + 1, .cons q t => .cons q (Reps.erase i t)
theorem Reps.ints (ns : List Int) : Reps K O H (ns.map V.int) (ns.map D.int) := by
  induction ns with
  | nil => exact .nil
  | cons n r ih => exact .cons (.int n) ih
theorem Reps.of_ints : ∀ {vs : List V} {ds : List D} {ns : List Int}, Reps K O H vs ds → intsD ds = some ns → vs = ns.map V.int
  | _, _, _, .nil, e => by simp [intsD] at e; subst e; rfl
  | _, _, ns, .cons (d := d) r t, e => by
    cases r with
    | int i =>
      simp only [intsD, Option.map_eq_some_iff] at e
      obtain ⟨r', h1, rfl⟩ := e
      rw [Reps.of_ints t h1]; rfl
    | _ => simp [intsD] at e
theorem Reps.of_bls : ∀ {vs : List V} {ds : List D} {ns : List Bool}, Reps K O H vs ds → blsD ds = some ns → vs = ns.map V.bl
  | _, _, _, .nil, e => by simp [blsD] at e; subst e; rfl
  | _, _, ns, .cons (d := d) r t, e => by
    cases r with
    | bl i =>
      simp only [blsD, Option.map_eq_some_iff] at e
      obtain ⟨r', h1, rfl⟩ := e
      rw [Reps.of_bls t h1]; rfl
    | _ => simp [blsD] at e
theorem Reps.of_strs : ∀ {vs : List V} {ds : List D} {ns : List (List Nat)}, Reps K O H vs ds → strsD ds = some ns → vs = (ns.map sv).map V.str ∧ ∀ x ∈ ns, txtOk x
  | _, _, _, .nil, e => by simp [strsD] at e; subst e; simp
  | _, _, ns, .cons (d := d) r t, e => by
    cases r with
    | str h =>
      simp only [strsD, Option.map_eq_some_iff] at e
      obtain ⟨r', h1, rfl⟩ := e
      obtain ⟨e1, e2⟩ := Reps.of_strs t h1
      refine ⟨by rw [e1]; rfl, fun x hx => ?_⟩
      rcases List.mem_cons.mp hx with rfl | hx
      · exact h
      · exact e2 x hx
    | _ => simp [strsD] at e
/-! equality of data -/
mutual
def D.py : D → PyData
  | .non => .none
  | .bl b => .bool b
  | .int i => .int i
  | .str x => .str (sv x)
  | .tup xs => .tuple (D.pyL xs)
  | .lst xs => .list (D.pyL xs)
  | .dct _ => .dict []
  | .obj _ _ => .dict []
  | .frl _ => .dict []
  | .rng _ _ => .dict []
def D.pyL : List D → List PyData
  | [] => []
  | x :: xs => D.py x :: D.pyL xs
end
theorem strOk_of {x : List Nat} (h : txtOk x) : PyData.strOk (sv x) = true := by
  unfold PyData.strOk
  rw [Array.all_eq_true]
  intro i hi
  have : (sv x).cps[i] ∈ (sv x).cps.toList := by simp
  rw [sv_tl] at this
  exact decide_eq_true (h.2 _ this)
mutual
theorem eqv_py : ∀ x y : D, x.plain = true → y.plain = true → PyData.eqv x.py y.py = D.eqv x y
  | .non, y, _, h => by cases y <;> simp_all [D.py, PyData.eqv, D.eqv, D.plain]
  | .bl b, y, _, h => by cases y <;> simp_all [D.py, PyData.eqv, D.eqv, D.plain]
  | .int b, y, _, h => by cases y <;> simp_all [D.py, PyData.eqv, D.eqv, D.plain]
  | .str x, y, _, h => by
    cases y with
    | str y =>
      simp only [D.py, PyData.eqv, D.eqv]
      rw [Bool.eq_iff_iff, beq_iff_eq, beq_iff_eq]
      exact ⟨sv_inj, fun e => by rw [e]⟩
    | _ => simp_all [D.py, PyData.eqv, D.eqv, D.plain]
  | .tup xs, y, hx, h => by
    cases y with
    | tup ys =>
      simp only [D.py, PyData.eqv, D.eqv]
      exact eqvL_py xs ys (by simpa [D.plain] using hx) (by simpa [D.plain] using h)
    | _ => simp_all [D.py, PyData.eqv, D.eqv, D.plain]
  | .lst xs, y, hx, h => by
    cases y with
    | lst ys =>
      simp only [D.py, PyData.eqv, D.eqv]
      exact eqvL_py xs ys (by simpa [D.plain] using hx) (by simpa [D.plain] using h)
    | _ => simp_all [D.py, PyData.eqv, D.eqv, D.plain]
  | .dct _, y, hx, _ => by simp [D.plain] at hx
  | .obj _ _, y, hx, _ => by simp [D.plain] at hx
  | .frl _, y, hx, _ => by simp [D.plain] at hx
theorem eqvL_py : ∀ xs ys : List D, D.plainL xs = true → D.plainL ys = true → PyData.eqvAll (D.pyL xs) (D.pyL ys) = D.eqvL xs ys
  | [], [], _, _ => rfl
  | [], y :: ys, _, _ => rfl
  | x :: xs, [], _, _ => rfl
  | x :: xs, y :: ys, hx, hy => by
    simp only [D.plainL, Bool.and_eq_true] at hx hy
    simp only [D.pyL, PyData.eqvAll, D.eqvL]
    rw [eqv_py x y hx.1 hy.1, eqvL_py xs ys hx.2 hy.2]
end
mutual
theorem depth_py : ∀ x : D, x.plain = true → x.py.depth ≤ x.dep + 1
  | .non, _ => by simp [D.py, PyData.depth]
  | .bl b, _ => by simp [D.py, PyData.depth]
  | .int i, _ => by simp [D.py, PyData.depth]
  | .str x, _ => by simp [D.py, PyData.depth]
  | .tup xs, h => by
    have := depthL_py xs (by simpa [D.plain] using h)
    simp only [D.py, PyData.depth, D.dep]; omega
  | .lst xs, h => by
    have := depthL_py xs (by simpa [D.plain] using h)
    simp only [D.py, PyData.depth, D.dep]; omega
  | .dct _, h => by simp [D.plain] at h
  | .obj _ _, h => by simp [D.plain] at h
  | .frl _, h => by simp [D.plain] at h
theorem depthL_py : ∀ xs : List D, D.plainL xs = true → PyData.depthAll (D.pyL xs) ≤ D.depL xs + 1
  | [], _ => by simp [D.pyL, PyData.depthAll]
  | x :: xs, h => by
    simp only [D.plainL, Bool.and_eq_true] at h
    have h1 := depth_py x h.1
    have h2 := depthL_py xs h.2
    simp only [D.pyL, PyData.depthAll, D.depL]; omega
end
mutual
theorem Rep.dp : ∀ {v : V} {d : D}, Rep K O H v d → d.plain = true → Dp K H v d.py ∧ d.py.canLay0 = true
  | _, _, .non, _ => ⟨.non, rfl⟩
  | _, _, .bl b, _ => ⟨.bl b, rfl⟩
  | _, _, .int i, _ => ⟨.int i, rfl⟩
  | _, _, .str h, _ => ⟨.str _, by simp only [D.py, PyData.canLay0]; exact strOk_of h⟩
  | _, _, .tup l s r, h => ⟨.tup s (Reps.dp r (by simpa [D.plain] using h)).1, by simp only [D.py, PyData.canLay0]; exact (Reps.dp r (by simpa [D.plain] using h)).2⟩
  | _, _, .lst l n s r, h => ⟨.lst (SqL.of s) (Reps.dp r (by simpa [D.plain] using h)).1, by simp only [D.py, PyData.canLay0]; exact (Reps.dp r (by simpa [D.plain] using h)).2⟩
  | _, _, .frl l s r, h => by simp [D.plain] at h
theorem Reps.dp : ∀ {vs : List V} {ds : List D}, Reps K O H vs ds → D.plainL ds = true → DpAll K H vs (D.pyL ds) ∧ PyData.canLayAll0 (D.pyL ds) = true
  | _, _, .nil, _ => ⟨.nil, rfl⟩
  | _, _, .cons r t, h => by
    simp only [D.plainL, Bool.and_eq_true] at h
    exact ⟨.cons (Rep.dp r h.1).1 (Reps.dp t h.2).1, by simp only [D.pyL, PyData.canLayAll0, (Rep.dp r h.1).2, (Reps.dp t h.2).2, Bool.and_self]⟩
end
theorem RepB.dp {v : V} {d : D} (h : RepB K O H v d) (p : d.plain = true) : Dp K H v d.py ∧ d.py.canLay0 = true := by
  cases h with
  | of r => exact r.dp p
  | own l s r =>
    have q := r.dp (by simpa [D.plain] using p)
    exact ⟨.lst (SqL.of s) q.1, by simp only [D.py, PyData.canLay0]; exact q.2⟩
theorem shaped_of {d : D} (h : d.eqOk = true) (c : d.py.canLay0 = true) : SeqAt.shaped d.py = true := by
  unfold D.eqOk at h
  rw [Bool.and_eq_true, decide_eq_true_eq] at h
  unfold SeqAt.shaped
  have := depth_py d h.2
  rw [c, Bool.true_and, decide_eq_true_eq]
  omega
end
end Ev
end
section
set_option Elab.async false
set_option linter.all false
set_option maxRecDepth 100000
set_option maxHeartbeats 2000000
namespace Ev
open PySem PySem.Spec PyProof.Rows L2

def Trk (O : Addr → Prop) (H : Hp) : Prop := ∀ a, O a → ∃ xs, H a = some (.lst xs)
theorem Trk.same {O : Addr → Prop} {H H' : Hp} (t : Trk O H) (s : Same H H') : Trk O H' := fun a h => let ⟨xs, e⟩ := t a h; ⟨xs, s _ _ e⟩
theorem Trk.no {O : Addr → Prop} {H : Hp} {p : Addr} (t : Trk O H) (h : H p = none) : ¬ O p := fun q => by
  obtain ⟨xs, e⟩ := t p q
  rw [h] at e; cases e
theorem same_upd {H : Hp} {p : Addr} {o : HO} (h : H p = none) : Same H (upd H p o) := fun b u e => by rw [upd_ne (ne_of_none e h)]; exact e
/-- a value is handed on -/
def LdV (K : PySem.W.Frag) (O : Addr → Prop) (H : Hp) (r : R D) (Q : VK) : Prop := match r with
  | .ok d => ∀ v H', Same H H' → Rep K O H' v d → Q v H'
  | _ => False
theorem LdV.here {K : PySem.W.Frag} {O : Addr → Prop} {H : Hp} {d : D} {Q : VK} {v : V} (h : LdV K O H (.ok d) Q) (r : Rep K O H v d) : Q v H := h v H (Same.refl H) r
section
variable {K : PySem.W.Frag} {O : Addr → Prop} {H : Hp} {Q : VK} {p : Addr} {vs : List V} {ds : List D}
theorem LdV.tup (h : LdV K O H (.ok (.tup ds)) Q) (hl : ds.length ≤ 16777216) (r : Reps K O H vs ds) (hp : H p = none) : Q (.ref p) (upd H p (.tup vs)) :=
  h _ _ (same_upd hp) (.tup hl (SqT.of upd_same) (r.gro (Gro.of (same_upd hp))))
theorem LdV.lst (t : Trk O H) (h : LdV K O H (.ok (.lst ds)) Q) (hl : ds.length ≤ 16777216) (r : Reps K O H vs ds) (hp : H p = none) : Q (.ref p) (upd H p (.lst vs)) :=
  h _ _ (same_upd hp) (.lst hl (t.no hp) upd_same (r.gro (Gro.of (same_upd hp))))
end
theorem RepB.int_of {K O H v i} (h : RepB K O H v (.int i)) : v = .int i := by cases h with | of r => cases r; rfl
theorem RepB.bl_of {K O H v i} (h : RepB K O H v (.bl i)) : v = .bl i := by cases h with | of r => cases r; rfl
theorem RepB.non_of {K O H v} (h : RepB K O H v .non) : v = .non := by cases h with | of r => cases r; rfl
theorem RepB.str_of {K O H v x} (h : RepB K O H v (.str x)) : v = .str (sv x) ∧ txtOk x := by cases h with | of r => cases r with | str h => exact ⟨rfl, h⟩
theorem RepB.tup_of {K O H v ds} (h : RepB K O H v (.tup ds)) : ∃ a vs, v = .ref a ∧ SqT K H a vs ∧ Reps K O H vs ds := by cases h with | of r => cases r with | tup l s r => exact ⟨_, _, rfl, s, r⟩
theorem RepB.tupL {K O H v ds} (h : RepB K O H v (.tup ds)) : ds.length ≤ 16777216 := by cases h with | of r => cases r with | tup l s r => exact l
theorem RepB.lstL {K O H v ds} (h : RepB K O H v (.lst ds)) : ds.length ≤ 16777216 := by
  cases h with
  | of r => cases r with | lst l n s r => exact l
  | own l s r => exact l
theorem RepB.frlL {K O H v ds} (h : RepB K O H v (.frl ds)) : ds.length ≤ 16777216 := by cases h with | of r => cases r with | frl l s r => exact l
theorem RepB.lst_of {K O H v ds} (h : RepB K O H v (.lst ds)) : ∃ a vs, v = .ref a ∧ H a = some (.lst vs) ∧ Reps K O H vs ds := by
  cases h with
  | of r => cases r with | lst l n s r => exact ⟨_, _, rfl, s, r⟩
  | own l s r => exact ⟨_, _, rfl, s, r⟩
theorem RepB.frl_of {K O H v ds} (h : RepB K O H v (.frl ds)) : ∃ a vs, v = .ref a ∧ FrL K H a vs ∧ Reps K O H vs ds := by cases h with | of r => cases r with | frl l s r => exact ⟨_, _, rfl, s, r⟩
theorem txtOk.app {x y : List Nat} (hx : txtOk x) (hy : txtOk y) (h : x.length + y.length ≤ 16777216) : txtOk (x ++ y) :=
  ⟨by rw [List.length_append]; exact h, fun c hc => (List.mem_append.mp hc).elim (hx.2 c) (hy.2 c)⟩
theorem txtOk.sub {x y : List Nat} (hx : txtOk x) (h : y.length ≤ x.length) (hs : ∀ c ∈ y, c ∈ x) : txtOk y := ⟨Nat.le_trans h hx.1, fun c hc => hx.2 c (hs c hc)⟩
/-- one operator, by the data -/
def rBin (K : PySem.W.Frag) (o : Op2) : R2 := fun x y H Q => ∃ O dx dy, Trk O H ∧ RepB K O H x dx ∧ RepB K O H y dy ∧ LdV K O H (binD o dx dy) Q
section
variable {X : Cx}
theorem ob_add : OpR X (binaryOp .Add) (rBin X.K .add) := by
  intro pins s σ H x y v u Q I rx ry h
  obtain ⟨O, dx, dy, t, hx, hy, q⟩ := h
  cases dx <;> cases dy <;> try (simp only [binD, LdV] at q; done)
  · cases hx.int_of; cases hy.int_of
    exact op_add pins s σ H _ _ v u Q I rx ry ⟨_, _, rfl, rfl, q.here (.int _)⟩
  · obtain ⟨rfl, ox⟩ := hx.str_of
    obtain ⟨rfl, oy⟩ := hy.str_of
    simp only [binD] at q
    split at q
    · rename_i hl
      refine op_add_str pins s σ H _ _ v u Q I rx ry ⟨_, _, rfl, rfl, by rw [sv_len, sv_len, sizeLine_eq]; exact hl, ?_⟩
      rw [← sv_app]
      exact q.here (.str (ox.app oy hl))
    · exact q.elim
  · obtain ⟨a, vs, rfl, sa, ra⟩ := hx.tup_of
    obtain ⟨b, ws, rfl, sb, rb⟩ := hy.tup_of
    simp only [binD] at q
    split at q
    · rename_i hl
      refine op_catA pins s σ H _ _ v u Q I rx ry ⟨a, b, vs, ws, rfl, rfl, sa, sb, by rw [ra.length, rb.length, sizeLine_eq]; exact hl, fun e => ?_, fun _ e => ?_, fun _ _ p hp => ?_⟩
      · subst e
        cases ra
        exact q.here (.tup hy.tupL sb rb)
      · subst e
        cases rb
        rw [List.append_nil] at q
        exact q.here (.tup hx.tupL sa ra)
      · exact q.tup (by rw [List.length_append]; exact hl) (ra.app rb) hp
    · exact q.elim
  · obtain ⟨a, vs, rfl, sa, ra⟩ := hx.lst_of
    obtain ⟨b, ws, rfl, sb, rb⟩ := hy.lst_of
    simp only [binD] at q
    split at q
    · rename_i hl
      refine op_cat pins s σ H _ _ v u Q I rx ry ⟨a, b, vs, ws, rfl, rfl, sa, sb, by rw [ra.length, rb.length, sizeLine_eq]; exact hl, fun p hp => ?_⟩
      exact q.lst t (by rw [List.length_append]; exact hl) (ra.app rb) hp
    · exact q.elim
theorem ob_sub : OpR X (binaryOp .Sub) (rBin X.K .sub) := by
  intro pins s σ H x y v u Q I rx ry h
  obtain ⟨O, dx, dy, t, hx, hy, q⟩ := h
  cases dx <;> cases dy <;> try (simp only [binD, LdV] at q; done)
  cases hx.int_of; cases hy.int_of
  exact op_sub pins s σ H _ _ v u Q I rx ry ⟨_, _, rfl, rfl, q.here (.int _)⟩
theorem ob_mod : OpR X (binaryOp .Mod) (rBin X.K .mod) := by
  intro pins s σ H x y v u Q I rx ry h
  obtain ⟨O, dx, dy, t, hx, hy, q⟩ := h
  cases dx <;> cases dy <;> try (simp only [binD, LdV] at q; done)
  cases hx.int_of; cases hy.int_of
  simp only [binD] at q
  split at q
  · exact op_mod pins s σ H _ _ v u Q I rx ry ⟨_, _, rfl, rfl, by assumption, q.here (.int _)⟩
  · exact q.elim
theorem ob_fdiv : OpR X (binaryOp .FloorDiv) (rBin X.K .fdiv) := by
  intro pins s σ H x y v u Q I rx ry h
  obtain ⟨O, dx, dy, t, hx, hy, q⟩ := h
  cases dx <;> cases dy <;> try (simp only [binD, LdV] at q; done)
  cases hx.int_of; cases hy.int_of
  simp only [binD] at q
  split at q
  · exact op_fdiv pins s σ H _ _ v u Q I rx ry ⟨_, _, rfl, rfl, by assumption, q.here (.int _)⟩
  · exact q.elim
theorem ob_pow : OpR X (binaryOp .Pow) (rBin X.K .pow) := by
  intro pins s σ H x y v u Q I rx ry h
  obtain ⟨O, dx, dy, t, hx, hy, q⟩ := h
  cases dx <;> cases dy <;> try (simp only [binD, LdV] at q; done)
  cases hx.int_of; cases hy.int_of
  simp only [binD] at q
  split at q
  · exact op_pow pins s σ H _ _ v u Q I rx ry ⟨_, _, rfl, rfl, by assumption, q.here (.int _)⟩
  · exact q.elim
theorem ob_mul : OpR X (binaryOp .Mult) (rBin X.K .mul) := by
  intro pins s σ H x y v u Q I rx ry h
  obtain ⟨O, dx, dy, t, hx, hy, q⟩ := h
  cases dx <;> cases dy <;> try (simp only [binD, LdV] at q; done)
  · cases hx.int_of; cases hy.int_of
    rename_i i j
    simp only [binD] at q
    by_cases hm : mulOk i j = true
    · rw [if_pos hm] at q
      exact op_mul pins s σ H _ _ v u Q I rx ry ⟨_, _, rfl, rfl, (by unfold mulOk at hm; have h2 := of_decide_eq_true hm; exact h2), q.here (.int _)⟩
    · rw [if_neg hm] at q
      exact q.elim
  · obtain ⟨a, vs, rfl, sa, ra⟩ := hx.tup_of
    cases hy.int_of
    simp only [binD] at q
    split at q
    · rename_i hl
      obtain ⟨h1, h2, h3, h4⟩ := hl
      refine op_repT pins s σ H _ _ v u Q I rx ry ⟨a, _, vs, rfl, rfl, sa, fun e => ?_, h2, h3, by rw [ra.length]; exact h4, fun p hp => ?_⟩
      · subst e
        cases ra
        simp at h1
      · exact q.tup (by unfold repL; rw [PyProof.Rows.lm_len_rep_flat]; exact Nat.le_trans (Nat.mul_le_mul (show Int.toNat _ ≤ 1000 by omega) h4) (by decide)) (ra.flat _) hp
    · exact q.elim
  · obtain ⟨a, vs, rfl, sa, ra⟩ := hx.lst_of
    cases hy.int_of
    simp only [binD] at q
    split at q
    · rename_i hl
      obtain ⟨h1, h2, h3⟩ := hl
      refine op_rep pins s σ H _ _ v u Q I rx ry ⟨a, _, vs, rfl, rfl, sa, h1, h2, by rw [ra.length, sizeLine_eq]; exact h3, fun p hp => ?_⟩
      exact q.lst t (by unfold repL; rw [PyProof.Rows.lm_len_rep_flat, Nat.mul_comm]; exact h3) (ra.flat _) hp
    · exact q.elim
theorem oc_eq (hu : X.A.units + 64 < cLine) : OpR X (compareOp .Eq) (rBin X.K .eq) := by
  intro pins s σ H x y v u Q I rx ry h
  obtain ⟨O, dx, dy, t, hx, hy, q⟩ := h
  have e : binD .eq dx dy = if dx.eqOk && dy.eqOk then .ok (.bl (D.eqv dx dy)) else .stuck := by cases dx <;> cases dy <;> rfl
  rw [e] at q
  split at q
  · rename_i hk
    rw [Bool.and_eq_true] at hk
    have px : dx.plain = true := by have := hk.1; unfold D.eqOk at this; simp at this; exact this.2
    have py : dy.plain = true := by have := hk.2; unfold D.eqOk at this; simp at this; exact this.2
    refine op_eqD hu pins s σ H _ _ v u Q I rx ry ⟨dx.py, dy.py, (hx.dp px).1, (hy.dp py).1, shaped_of hk.1 (hx.dp px).2, shaped_of hk.2 (hy.dp py).2, ?_⟩
    rw [eqv_py dx dy px py]
    exact q.here (.bl _)
  · exact q.elim
theorem oc_ne (hu : X.A.units + 64 < cLine) : OpR X (compareOp .NotEq) (rBin X.K .ne) := by
  intro pins s σ H x y v u Q I rx ry h
  obtain ⟨O, dx, dy, t, hx, hy, q⟩ := h
  have e : binD .ne dx dy = if dx.eqOk && dy.eqOk then .ok (.bl (!D.eqv dx dy)) else .stuck := by cases dx <;> cases dy <;> rfl
  rw [e] at q
  split at q
  · rename_i hk
    rw [Bool.and_eq_true] at hk
    have px : dx.plain = true := by have := hk.1; unfold D.eqOk at this; simp at this; exact this.2
    have py : dy.plain = true := by have := hk.2; unfold D.eqOk at this; simp at this; exact this.2
    refine op_neD hu pins s σ H _ _ v u Q I rx ry ⟨dx.py, dy.py, (hx.dp px).1, (hy.dp py).1, shaped_of hk.1 (hx.dp px).2, shaped_of hk.2 (hy.dp py).2, ?_⟩
    rw [eqv_py dx dy px py]
    exact q.here (.bl _)
  · exact q.elim
theorem oc_lt : OpR X (compareOp .Lt) (rBin X.K .lt) := by
  intro pins s σ H x y v u Q I rx ry h
  obtain ⟨O, dx, dy, t, hx, hy, q⟩ := h
  cases dx <;> cases dy <;> try (simp only [binD, LdV] at q; done)
  cases hx.int_of; cases hy.int_of
  exact op_lt pins s σ H _ _ v u Q I rx ry ⟨_, _, rfl, rfl, q.here (.bl _)⟩
theorem oc_le : OpR X (compareOp .LtE) (rBin X.K .le) := by
  intro pins s σ H x y v u Q I rx ry h
  obtain ⟨O, dx, dy, t, hx, hy, q⟩ := h
  cases dx <;> cases dy <;> try (simp only [binD, LdV] at q; done)
  cases hx.int_of; cases hy.int_of
  exact op_le pins s σ H _ _ v u Q I rx ry ⟨_, _, rfl, rfl, q.here (.bl _)⟩
theorem oc_gt : OpR X (compareOp .Gt) (rBin X.K .gt) := by
  intro pins s σ H x y v u Q I rx ry h
  obtain ⟨O, dx, dy, t, hx, hy, q⟩ := h
  cases dx <;> cases dy <;> try (simp only [binD, LdV] at q; done)
  cases hx.int_of; cases hy.int_of
  exact op_gt pins s σ H _ _ v u Q I rx ry ⟨_, _, rfl, rfl, q.here (.bl _)⟩
theorem oc_ge : OpR X (compareOp .GtE) (rBin X.K .ge) := by
  intro pins s σ H x y v u Q I rx ry h
  obtain ⟨O, dx, dy, t, hx, hy, q⟩ := h
  cases dx <;> cases dy <;> try (simp only [binD, LdV] at q; done)
  cases hx.int_of; cases hy.int_of
  exact op_ge pins s σ H _ _ v u Q I rx ry ⟨_, _, rfl, rfl, q.here (.bl _)⟩
theorem RepB.flat {O : Addr → Prop} {H : Hp} {v : V} {d : D} (r : RepB X.K O H v d) (f : d.flat = true) : flatV v = true := by
  cases r with
  | of r => cases r <;> first | rfl | (simp [D.flat] at f)
  | own _ _ _ => simp [D.flat] at f
theorem eqV_flat {O : Addr → Prop} {H : Hp} {v w : V} {d e : D} (r : RepB X.K O H v d) (q : RepB X.K O H w e) (f : d.flat = true) (g : e.flat = true) : eqV v w = D.eqv d e := by
  cases d <;> first | (simp [D.flat] at f; done) | skip
  all_goals cases e <;> first | (simp [D.flat] at g; done) | skip
  all_goals (try cases r.non_of) <;> (try cases r.bl_of) <;> (try cases r.int_of) <;> (try obtain ⟨rfl, _⟩ := r.str_of) <;> (try cases q.non_of) <;> (try cases q.bl_of) <;> (try cases q.int_of) <;> (try obtain ⟨rfl, _⟩ := q.str_of)
  all_goals simp only [eqV, D.eqv]
  rw [Bool.eq_iff_iff, beq_iff_eq, beq_iff_eq]
  exact ⟨sv_inj, fun e => by rw [e]⟩
theorem flat_all {O : Addr → Prop} {H : Hp} : ∀ {vs : List V} {ds : List D}, Reps X.K O H vs ds → ds.all D.flat = true → vs.all flatV = true
  | _, _, .nil, _ => rfl
  | _, _, .cons r t, f => by
    simp only [List.all_cons, Bool.and_eq_true] at f ⊢
    exact ⟨(RepB.of r).flat f.1, flat_all t f.2⟩
theorem inV_eq {O : Addr → Prop} {H : Hp} {v : V} {d : D} (q : RepB X.K O H v d) (g : d.flat = true) : ∀ {vs : List V} {ds : List D}, Reps X.K O H vs ds → ds.all D.flat = true → inV v vs = ds.any fun y => D.eqv y d
  | _, _, .nil, _ => rfl
  | _, _, .cons r t, f => by
    simp only [List.all_cons, Bool.and_eq_true] at f
    have ih := inV_eq q g t f.2
    unfold inV at ih ⊢
    simp only [List.any_cons]
    rw [eqV_flat (.of r) q f.1 g, ih]
theorem anyPy {d : D} (hd : d.plain = true) : ∀ {ds : List D}, D.plainL ds = true → (D.pyL ds).any (fun z => PyData.eqv z d.py) = ds.any fun y => D.eqv y d
  | [], _ => rfl
  | x :: xs, h => by
    simp only [D.plainL, Bool.and_eq_true] at h
    simp only [D.pyL, List.any_cons]
    rw [eqv_py x d h.1 hd, anyPy hd h.2]
theorem eqOk_plain {d : D} (h : d.eqOk = true) : d.plain = true := by
  unfold D.eqOk at h
  rw [Bool.and_eq_true] at h
  exact h.2
theorem oc_in (hu : X.A.units + 65 < cLine) (neg : Bool) : OpR X (compareOp (if neg then .NotIn else .In)) (rBin X.K (if neg then .notin else .isin)) := by
  intro pins s σ H x y v u Q I rx ry h
  obtain ⟨O, dx, dy, t, hx, hy, q⟩ := h
  have e : binD (if neg then .notin else .isin) dx dy = inD neg dx dy := by cases neg <;> cases dx <;> cases dy <;> rfl
  rw [e] at q
  have fin : ∀ {c : Bool}, LdV X.K O H (.ok (.bl (neg != c))) Q → Q (.bl (if neg then !c else c)) H := fun {c} h => by
    have := h.here (.bl _)
    cases neg <;> cases c <;> exact this
  cases dy with
  | tup xs =>
    obtain ⟨a, vs, rfl, sa, ra⟩ := hy.tup_of
    simp only [inD] at q
    split at q
    · rename_i hf
      rw [Bool.and_eq_true] at hf
      have w : rIn X.K neg x (.ref a) H Q := ⟨a, vs, rfl, .inr sa, hx.flat hf.1, flat_all ra hf.2, by rw [inV_eq hx hf.1 ra hf.2]; exact fin q⟩
      cases neg
      · exact op_in_seq pins s σ H _ _ v u Q I rx ry w
      · exact op_notIn_seq pins s σ H _ _ v u Q I rx ry w
    · exact q.elim
  | lst xs =>
    obtain ⟨a, vs, rfl, sa, ra⟩ := hy.lst_of
    simp only [inD] at q
    split at q
    · rename_i hf
      rw [Bool.and_eq_true] at hf
      have w : rIn X.K neg x (.ref a) H Q := ⟨a, vs, rfl, .inl (SqL.of sa), hx.flat hf.1, flat_all ra hf.2, by rw [inV_eq hx hf.1 ra hf.2]; exact fin q⟩
      cases neg
      · exact op_in_seq pins s σ H _ _ v u Q I rx ry w
      · exact op_notIn_seq pins s σ H _ _ v u Q I rx ry w
    · split at q
      · rename_i hf
        rw [Bool.and_eq_true] at hf
        have p1 := eqOk_plain hf.1
        have p2 := eqOk_plain hf.2
        have e1 := hx.dp p1
        have e2 := hy.dp p2
        have p3 : D.plainL xs = true := by simpa [D.plain] using p2
        cases neg
        · exact op_inD hu pins s σ H _ _ v u Q I rx ry ⟨dx.py, D.pyL xs, e1.1, e2.1, shaped_of hf.1 e1.2, shaped_of hf.2 e2.2, by rw [anyPy p1 p3]; exact fin q⟩
        · exact op_notInD hu pins s σ H _ _ v u Q I rx ry ⟨dx.py, D.pyL xs, e1.1, e2.1, shaped_of hf.1 e1.2, shaped_of hf.2 e2.2, by rw [anyPy p1 p3]; exact fin q⟩
      · exact q.elim
  | str y =>
    cases dx <;> try (simp only [inD, LdV] at q; done)
    rename_i x
    cases x with
    | nil => simp only [inD, LdV] at q
    | cons c r =>
      cases r with
      | cons _ _ => simp only [inD, LdV] at q
      | nil =>
        simp only [inD] at q
        obtain ⟨rfl, _⟩ := hx.str_of
        obtain ⟨rfl, _⟩ := hy.str_of
        have := fin q
        cases neg
        · exact op_in_sign pins s σ H _ _ v u Q I rx ry ⟨c, sv y, rfl, rfl, by rw [sv_tl]; exact this⟩
        · exact op_notIn_sign pins s σ H _ _ v u Q I rx ry ⟨c, sv y, rfl, rfl, by rw [sv_tl]; exact this⟩
  | _ => simp only [inD, LdV] at q
end
end Ev
end
section
set_option Elab.async false
set_option linter.all false
set_option maxRecDepth 100000
set_option maxHeartbeats 2000000
namespace Ev
open PySem PySem.Spec PyProof.Rows L2

abbrev RepBs (K : PySem.W.Frag) (O : Addr → Prop) (H : Hp) : List V → List D → Prop := Paired (RepB K O H)
theorem RepBs.one {K O H vs d} (h : RepBs K O H vs [d]) : ∃ v, vs = [v] ∧ RepB K O H v d := by
  cases h with | cons r t => cases t; exact ⟨_, rfl, r⟩
theorem RepBs.two {K O H vs d e} (h : RepBs K O H vs [d, e]) : ∃ v w, vs = [v, w] ∧ RepB K O H v d ∧ RepB K O H w e := by
  cases h with | cons r t => cases t with | cons q t => cases t; exact ⟨_, _, rfl, r, q⟩
theorem RepBs.nil {K O H vs} (h : RepBs K O H vs []) : vs = [] := by cases h; rfl
/-! the least, the greatest, sorted -/
theorem maxL_mem : ∀ (x : Int) (r : List Int), maxL (x :: r) ∈ x :: r
  | x, [] => by simp [maxL]
  | x, y :: r => by
    have ih := maxL_mem y r
    simp only [maxL]
    rcases Int.le_total (maxL (y :: r)) x with h | h
    · rw [Int.max_eq_left h]; simp
    · rw [Int.max_eq_right h]; exact List.mem_cons_of_mem _ ih
theorem le_maxL : ∀ (x : Int) (r : List Int) (z : Int), z ∈ x :: r → z ≤ maxL (x :: r)
  | x, [], z, h => by simp at h; simp [maxL, h]
  | x, y :: r, z, h => by
    simp only [maxL]
    rcases List.mem_cons.mp h with rfl | h
    · exact Int.le_max_left _ _
    · exact Int.le_trans (le_maxL y r z h) (Int.le_max_right _ _)
theorem minL_mem : ∀ (x : Int) (r : List Int), minL (x :: r) ∈ x :: r
  | x, [] => by simp [minL]
  | x, y :: r => by
    have ih := minL_mem y r
    simp only [minL]
    rcases Int.le_total x (minL (y :: r)) with h | h
    · rw [Int.min_eq_left h]; simp
    · rw [Int.min_eq_right h]; exact List.mem_cons_of_mem _ ih
theorem minL_le : ∀ (x : Int) (r : List Int) (z : Int), z ∈ x :: r → minL (x :: r) ≤ z
  | x, [], z, h => by simp at h; simp [minL, h]
  | x, y :: r, z, h => by
    simp only [minL]
    rcases List.mem_cons.mp h with rfl | h
    · exact Int.min_le_left _ _
    · exact Int.le_trans (Int.min_le_right _ _) (minL_le y r z h)
theorem insI_perm (x : Int) : ∀ r : List Int, (insI x r).Perm (x :: r)
  | [] => List.Perm.refl _
  | y :: r => by
    unfold insI
    split
    · exact List.Perm.refl _
    · exact ((insI_perm x r).cons y).trans (List.Perm.swap x y r)
theorem sortI_perm : ∀ r : List Int, (sortI r).Perm r
  | [] => List.Perm.refl _
  | x :: r => (insI_perm x (sortI r)).trans ((sortI_perm r).cons x)
theorem insI_sorted (x : Int) : ∀ r : List Int, r.Pairwise (· ≤ ·) → (insI x r).Pairwise (· ≤ ·)
  | [], _ => by simp [insI]
  | y :: r, h => by
    unfold insI
    have h' := List.pairwise_cons.mp h
    split
    · rename_i hx
      refine List.pairwise_cons.mpr ⟨fun z hz => ?_, h⟩
      rcases List.mem_cons.mp hz with rfl | hz
      · exact hx
      · exact Int.le_trans hx (h'.1 z hz)
    · rename_i hx
      refine List.pairwise_cons.mpr ⟨fun z hz => ?_, insI_sorted x r h'.2⟩
      rcases List.mem_cons.mp ((insI_perm x r).mem_iff.mp hz) with rfl | hz
      · omega
      · exact h'.1 z hz
theorem sortI_sorted : ∀ r : List Int, (sortI r).Pairwise (· ≤ ·)
  | [] => List.Pairwise.nil
  | x :: r => insI_sorted x _ (sortI_sorted r)
theorem sortI_is {ns r : List Int} (p : ns.Perm r) (s : ns.Pairwise (· ≤ ·)) : ns = sortI r :=
  (p.trans (sortI_perm r).symm).eq_of_pairwise (fun _ _ _ _ h1 h2 => Int.le_antisymm h1 h2) s (sortI_sorted r)
/-! ## built-ins -/
def rBI (K : PySem.W.Frag) (b : BI) : List V → Hp → VK → Prop := fun xs H Q => ∃ O ds, Trk O H ∧ RepBs K O H xs ds ∧ LdV K O H (biD b ds) Q
def BI.val : BI → Value
  | .len => .builtin "len" | .int => .type "int" | .str => .type "str" | .abs => .builtin "abs" | .min2 => .builtin "min" | .max2 => .builtin "max" | .min1 => .builtin "min" | .max1 => .builtin "max"
  | .sum => .builtin "sum" | .sorted => .builtin "sorted" | .tuple => .type "tuple" | .list => .type "list" | .all => .builtin "all" | .any => .builtin "any"
section
variable {X : Cx}
theorem cb_len : CallR X (.builtin "len") (rBI X.K .len) := by
  intro pins s σ H xs us Q I r h
  obtain ⟨O, ds, t, hx, q⟩ := h
  match ds, hx, q with
  | [.str x], hx, q =>
    obtain ⟨v, rfl, h1⟩ := hx.one
    obtain ⟨rfl, ox⟩ := h1.str_of
    exact call_len pins s σ H _ us Q I r ⟨_, _, rfl, ⟨by rw [sv_len, sizeLine_eq]; exact ox.1, rfl⟩, by rw [sv_len]; exact q.here (.int _)⟩
  | [.tup x], hx, q =>
    obtain ⟨v, rfl, h1⟩ := hx.one
    obtain ⟨a, vs, rfl, sa, ra⟩ := h1.tup_of
    exact call_len pins s σ H _ us Q I r ⟨_, _, rfl, .inr ⟨vs, sa, rfl⟩, by rw [ra.length]; exact q.here (.int _)⟩
  | [.lst x], hx, q =>
    obtain ⟨v, rfl, h1⟩ := hx.one
    obtain ⟨a, vs, rfl, sa, ra⟩ := h1.lst_of
    exact call_len pins s σ H _ us Q I r ⟨_, _, rfl, .inl ⟨vs, SqL.of sa, rfl⟩, by rw [ra.length]; exact q.here (.int _)⟩
  | [.frl x], hx, q =>
    obtain ⟨v, rfl, h1⟩ := hx.one
    obtain ⟨a, vs, rfl, sa, ra⟩ := h1.frl_of
    exact call_len pins s σ H _ us Q I r ⟨_, _, rfl, .inl ⟨vs, sa.sq, rfl⟩, by rw [ra.length]; exact q.here (.int _)⟩
theorem cb_int : CallR X (.type "int") (rBI X.K .int) := by
  intro pins s σ H xs us Q I r h
  obtain ⟨O, ds, t, hx, q⟩ := h
  match ds, hx, q with
  | [.int x], hx, q =>
    obtain ⟨v, rfl, h1⟩ := hx.one
    cases h1.int_of
    exact call_int1 pins s σ H _ us Q I r (.inl ⟨_, rfl, q.here (.int _)⟩)
  | [.bl x], hx, q =>
    obtain ⟨v, rfl, h1⟩ := hx.one
    cases h1.bl_of
    exact call_int1 pins s σ H _ us Q I r (.inr ⟨_, rfl, q.here (.int _)⟩)
theorem cb_abs : CallR X (.builtin "abs") (rBI X.K .abs) := by
  intro pins s σ H xs us Q I r h
  obtain ⟨O, ds, t, hx, q⟩ := h
  match ds, hx, q with
  | [.int x], hx, q =>
    obtain ⟨v, rfl, h1⟩ := hx.one
    cases h1.int_of
    exact call_abs pins s σ H _ us Q I r ⟨_, rfl, q.here (.int _)⟩
theorem cb_min2 (hc : X.calm = true) : CallR X (.builtin "min") (rBI X.K .min2) := by
  intro pins s σ H xs us Q I r h
  obtain ⟨O, ds, t, hx, q⟩ := h
  match ds, hx, q with
  | [.int x, .int y], hx, q =>
    obtain ⟨v, w, rfl, h1, h2⟩ := hx.two
    cases h1.int_of; cases h2.int_of
    exact call_min2 hc pins s σ H _ us Q I r ⟨_, _, rfl, q.here (.int _)⟩
theorem cb_max2 (hc : X.calm = true) : CallR X (.builtin "max") (rBI X.K .max2) := by
  intro pins s σ H xs us Q I r h
  obtain ⟨O, ds, t, hx, q⟩ := h
  match ds, hx, q with
  | [.int x, .int y], hx, q =>
    obtain ⟨v, w, rfl, h1, h2⟩ := hx.two
    cases h1.int_of; cases h2.int_of
    exact call_max2 hc pins s σ H _ us Q I r ⟨_, _, rfl, q.here (.int _)⟩
theorem cb_max1 (hc : X.calm = true) : CallR X (.builtin "max") (rBI X.K .max1) := by
  intro pins s σ H xs us Q I r h
  obtain ⟨O, ds, t, hx, q⟩ := h
  match ds, hx, q with
  | [.lst x], hx, q =>
    obtain ⟨v, rfl, h1⟩ := hx.one
    obtain ⟨a, vs, rfl, sa, ra⟩ := h1.lst_of
    simp only [biD] at q
    split at q
    · rename_i i r' e
      have ev := ra.of_ints e
      subst ev
      refine cr_max hc pins s σ H _ us Q I r ⟨a, _, rfl, SqL.of sa, by simp, fun m hm hle => ?_⟩
      have : m = maxL (i :: r') := Int.le_antisymm (le_maxL i r' m hm) (hle _ (maxL_mem i r'))
      rw [this]; exact q.here (.int _)
    · exact q.elim
theorem cb_min1 (hc : X.calm = true) : CallR X (.builtin "min") (rBI X.K .min1) := by
  intro pins s σ H xs us Q I r h
  obtain ⟨O, ds, t, hx, q⟩ := h
  match ds, hx, q with
  | [.lst x], hx, q =>
    obtain ⟨v, rfl, h1⟩ := hx.one
    obtain ⟨a, vs, rfl, sa, ra⟩ := h1.lst_of
    simp only [biD] at q
    split at q
    · rename_i i r' e
      have ev := ra.of_ints e
      subst ev
      refine cr_min hc pins s σ H _ us Q I r ⟨a, _, rfl, SqL.of sa, by simp, fun m hm hle => ?_⟩
      have : m = minL (i :: r') := Int.le_antisymm (hle _ (minL_mem i r')) (minL_le i r' m hm)
      rw [this]; exact q.here (.int _)
    · exact q.elim
theorem cb_sum (hc : X.calm = true) : CallR X (.builtin "sum") (rBI X.K .sum) := by
  intro pins s σ H xs us Q I r h
  obtain ⟨O, ds, t, hx, q⟩ := h
  match ds, hx, q with
  | [.lst x], hx, q =>
    obtain ⟨v, rfl, h1⟩ := hx.one
    obtain ⟨a, vs, rfl, sa, ra⟩ := h1.lst_of
    simp only [biD] at q
    split at q
    · rename_i r' e
      have ev := ra.of_ints e
      subst ev
      exact cr_sum hc pins s σ H _ us Q I r ⟨a, _, rfl, SqL.of sa, q.here (.int _)⟩
    · exact q.elim
theorem cb_sorted : CallR X (.builtin "sorted") (rBI X.K .sorted) := by
  intro pins s σ H xs us Q I r h
  obtain ⟨O, ds, t, hx, q⟩ := h
  match ds, hx, q with
  | [.lst x], hx, q =>
    obtain ⟨v, rfl, h1⟩ := hx.one
    obtain ⟨a, vs, rfl, sa, ra⟩ := h1.lst_of
    simp only [biD] at q
    split at q
    · rename_i r' e
      have ev := ra.of_ints e
      subst ev
      refine cr_sortedI pins s σ H _ us Q I r ⟨a, _, rfl, SqL.of sa, fun ns' p pe so hp => ?_⟩
      rw [sortI_is pe so]
      exact q.lst t (by rw [List.length_map, ((sortI_perm _).length_eq)]; have := h1.lstL; rw [← ra.length] at this; simpa using this) (Reps.ints _) hp
    · exact q.elim
theorem cb_all (hc : X.calm = true) : CallR X (.builtin "all") (rBI X.K .all) := by
  intro pins s σ H xs us Q I r h
  obtain ⟨O, ds, t, hx, q⟩ := h
  match ds, hx, q with
  | [.lst x], hx, q =>
    obtain ⟨v, rfl, h1⟩ := hx.one
    obtain ⟨a, vs, rfl, sa, ra⟩ := h1.lst_of
    simp only [biD] at q
    split at q
    · rename_i r' e
      have ev := ra.of_bls e
      subst ev
      exact cr_all hc pins s σ H _ us Q I r ⟨a, _, rfl, SqL.of sa, q.here (.bl _)⟩
    · exact q.elim
theorem cb_any (hc : X.calm = true) : CallR X (.builtin "any") (rBI X.K .any) := by
  intro pins s σ H xs us Q I r h
  obtain ⟨O, ds, t, hx, q⟩ := h
  match ds, hx, q with
  | [.lst x], hx, q =>
    obtain ⟨v, rfl, h1⟩ := hx.one
    obtain ⟨a, vs, rfl, sa, ra⟩ := h1.lst_of
    simp only [biD] at q
    split at q
    · rename_i r' e
      have ev := ra.of_bls e
      subst ev
      exact cr_any hc pins s σ H _ us Q I r ⟨a, _, rfl, SqL.of sa, q.here (.bl _)⟩
    · exact q.elim
theorem cb_list : CallR X (.type "list") (rBI X.K .list) := by
  intro pins s σ H xs us Q I r h
  obtain ⟨O, ds, t, hx, q⟩ := h
  match ds, hx, q with
  | [.tup x], hx, q =>
    obtain ⟨v, rfl, h1⟩ := hx.one
    obtain ⟨a, vs, rfl, sa, ra⟩ := h1.tup_of
    exact call_list_of pins s σ H _ us Q I r ⟨a, vs, rfl, .inr sa, fun l hl => q.lst t h1.tupL ra hl⟩
  | [.lst x], hx, q =>
    obtain ⟨v, rfl, h1⟩ := hx.one
    obtain ⟨a, vs, rfl, sa, ra⟩ := h1.lst_of
    exact call_list_of pins s σ H _ us Q I r ⟨a, vs, rfl, .inl (SqL.of sa), fun l hl => q.lst t h1.lstL ra hl⟩
theorem cb_tuple : CallR X (.type "tuple") (rBI X.K .tuple) := by
  intro pins s σ H xs us Q I r h
  obtain ⟨O, ds, t, hx, q⟩ := h
  match ds, hx, q with
  | [.tup x], hx, q =>
    obtain ⟨v, rfl, h1⟩ := hx.one
    obtain ⟨a, vs, rfl, sa, ra⟩ := h1.tup_of
    exact call_tuple_of pins s σ H _ us Q I r ⟨a, vs, rfl, .inr ⟨sa, q.here (.tup h1.tupL sa ra)⟩⟩
  | [.lst x], hx, q =>
    obtain ⟨v, rfl, h1⟩ := hx.one
    obtain ⟨a, vs, rfl, sa, ra⟩ := h1.lst_of
    exact call_tuple_of pins s σ H _ us Q I r ⟨a, vs, rfl, .inl ⟨SqL.of sa, fun l hl => q.tup h1.lstL ra hl⟩⟩
end
end Ev
end
section
set_option Elab.async false
set_option linter.all false
set_option maxRecDepth 100000
set_option maxHeartbeats 2000000
namespace Ev
open PySem PySem.Spec PyProof.Rows L2

abbrev St := L2.St
/-! ## what stands where, for a program -/
structure Cfg where
  P : Program
  w : World
  K : PySem.W.Frag
  mg : Str → Option Value
  base : Heap
  fNm : Nat → Str
  fPs : Nat → List Str
  fAd : Nat → Addr
  fFd : Nat → FuncData
  cNm : Nat → Str
  cFl : Nat → List Str
  cAd : Nat → Addr
  cIn : Nat → Addr
  cFd : Nat → FuncData
  cPs : Nat → List Str
  nF : Nat
  nC : Nat
/-- an exception's own dict -/
def XF (g : Cfg) (O : Addr → Prop) (H : Hp) (c : Nat) (fs : List D) (d : Addr) : Prop :=
  ∃ fl, H d = some (.xd fl) ∧ ∀ (j : Nat) (n : Str), (g.cFl c)[j]? = some n → ∃ (v : V) (e : D), fs[j]? = some e ∧ fl.lookup n = some v ∧ Rep g.K O H v e
structure XI where
  a : Addr
  c : Nat
  fs : List D
  d : Addr
/-- the lists that may still change: the callers' and our own -/
def Own (O : Addr → Prop) (σ : St) (ρ : Rho) : Addr → Prop := fun a => O a ∨ ∃ (i : Nat) (xs : List D), ρ[i]? = some (.own xs) ∧ σ[i]? = some (some (.ref a))
structure EI (g : Cfg) (O : Addr → Prop) (H0 : Hp) (xi : Option XI) (σ : St) (H : Hp) (ρ : Rho) : Prop where
  len : ρ.length = σ.length
  same : Same H0 H
  trk : Trk O H
  val : ∀ (i : Nat) (d : D), ρ[i]? = some (.val d) → ∃ v, σ[i]? = some (some v) ∧ Rep g.K (Own O σ ρ) H v d
  own : ∀ (i : Nat) (xs : List D), ρ[i]? = some (.own xs) → ∃ a vs, σ[i]? = some (some (.ref a)) ∧ H a = some (.lst vs) ∧ H0 a = none ∧ Reps g.K (Own O σ ρ) H vs xs ∧ xs.length ≤ 16777216
  inj : ∀ (i j : Nat) (xs ys : List D) (a : Addr), ρ[i]? = some (.own xs) → ρ[j]? = some (.own ys) → σ[i]? = some (some (.ref a)) → σ[j]? = some (some (.ref a)) → i = j
  exc : ∀ (i c : Nat) (fs : List D), ρ[i]? = some (.exc c fs) → ∃ x, xi = some x ∧ x.c = c ∧ x.fs = fs ∧ σ[i]? = some (some (.ref x.a)) ∧ XF g (Own O σ ρ) H c fs x.d
section
variable {g : Cfg} {O : Addr → Prop} {H0 H H' : Hp} {xi : Option XI} {σ σ' : St} {ρ ρ' : Rho}
theorem XF.gro {O : Addr → Prop} {H H' : Hp} {c : Nat} {fs : List D} {d : Addr} (h : Gro O H H') (x : XF g O H c fs d) : XF g O H' c fs d := by
  obtain ⟨fl, e, q⟩ := x
  refine ⟨fl, ?_, fun j n hj => ?_⟩
  · rcases h d _ e with z | ⟨_, xs, z⟩
    · exact z
    · cases z
  · obtain ⟨v, e, h1, h2, h3⟩ := q j n hj
    exact ⟨v, e, h1, h2, h3.gro h⟩
theorem EI.trkO (I : EI g O H0 xi σ H ρ) : Trk (Own O σ ρ) H := fun a h => by
  rcases h with h | ⟨i, xs, h1, h2⟩
  · exact I.trk a h
  · obtain ⟨b, vs, e1, e2, _⟩ := I.own i xs h1
    rw [h2] at e1; cases e1
    exact ⟨vs, e2⟩
theorem EI.more (I : EI g O H0 xi σ H ρ) (s : Same H H') : EI g O H0 xi σ H' ρ where
  len := I.len
  same := I.same.trans s
  trk := I.trk.same s
  val := fun i d e => let ⟨v, h1, h2⟩ := I.val i d e; ⟨v, h1, h2.gro (Gro.of s)⟩
  own := fun i xs e => let ⟨a, vs, h1, h2, h3, h4, h5⟩ := I.own i xs e; ⟨a, vs, h1, s _ _ h2, h3, h4.gro (Gro.of s), h5⟩
  inj := I.inj
  exc := fun i c fs e => let ⟨x, h1, h2, h3, h4, h5⟩ := I.exc i c fs e; ⟨x, h1, h2, h3, h4, h5.gro (Gro.of s)⟩

/-! ## an expression's reading -/
/-- what becomes of a result -/
def LdE (g : Cfg) (W : WX) (O : Addr → Prop) (σ : St) (H : Hp) (r : R D) (Q : VK) : Prop := match r with
  | .ok d => ∀ v H', Same H H' → Rep g.K O H' v d → Q v H'
  | .err c fs => ∀ d H', Same H H' → XF g O H' c fs d → W (.ref (g.cAd c)) (some d) σ H'
  | .stuck => False
def LdB (g : Cfg) (W : WX) (O : Addr → Prop) (σ : St) (H : Hp) (r : R D) (b : Bool) (Q : VK) : Prop := match r with
  | .ok d => ∀ v H', Same H H' → RepB g.K O H' v d → (b = false → Rep g.K O H' v d) → Q v H'
  | .err c fs => ∀ d H', Same H H' → XF g O H' c fs d → W (.ref (g.cAd c)) (some d) σ H'
  | .stuck => False
def rE (g : Cfg) (O : Addr → Prop) (H0 : Hp) (xi : Option XI) (W : WX) (f : Rho → R D) : TE := fun σ H Q => ∃ ρ, EI g O H0 xi σ H ρ ∧ LdE g W (Own O σ ρ) σ H (f ρ) Q
def rB (g : Cfg) (O : Addr → Prop) (H0 : Hp) (xi : Option XI) (W : WX) (f : Rho → R D) (b : Rho → Bool) : TE := fun σ H Q => ∃ ρ, EI g O H0 xi σ H ρ ∧ LdB g W (Own O σ ρ) σ H (f ρ) (b ρ) Q
/-- .. of any kind of result, A telling what the value is -/
def LdG {α : Type} (g : Cfg) (W : WX) (O : Addr → Prop) (σ : St) (H : Hp) (r : R α) (S : α → Hp → Prop) : Prop := match r with
  | .ok a => ∀ H', Same H H' → S a H'
  | .err c fs => ∀ d H', Same H H' → XF g O H' c fs d → W (.ref (g.cAd c)) (some d) σ H'
  | .stuck => False
variable {W : WX} {OO : Addr → Prop} {Q S : VK}
theorem LdE.more {r : R D} (h : LdE g W OO σ H r Q) (s : Same H H') : LdE g W OO σ H' r Q := by
  cases r with
  | ok d => exact fun v H2 s2 r => h v H2 (s.trans s2) r
  | err c fs => exact fun d H2 s2 x => h d H2 (s.trans s2) x
  | stuck => exact h
theorem LdB.more {r : R D} {b : Bool} (h : LdB g W OO σ H r b Q) (s : Same H H') : LdB g W OO σ H' r b Q := by
  cases r with
  | ok d => exact fun v H2 s2 r => h v H2 (s.trans s2) r
  | err c fs => exact fun d H2 s2 x => h d H2 (s.trans s2) x
  | stuck => exact h
theorem LdG.more {α : Type} {r : R α} {S : α → Hp → Prop} (h : LdG g W OO σ H r S) (s : Same H H') : LdG g W OO σ H' r S := by
  cases r with
  | ok d => exact fun H2 s2 => h H2 (s.trans s2)
  | err c fs => exact fun d H2 s2 x => h d H2 (s.trans s2) x
  | stuck => exact h
/-- the first part, then the rest -/
theorem LdE.bindB {r : R D} {bb : Bool} {k : D → R D} (h : LdE g W OO σ H (r >>= k) Q) (c : ∀ x v H1, r = .ok x → Same H H1 → RepB g.K OO H1 v x → LdE g W OO σ H1 (k x) Q → S v H1) : LdB g W OO σ H r bb S := by
  cases r with
  | ok d => exact fun v H2 s2 r _ => c d v H2 rfl s2 r (LdE.more h s2)
  | err c fs => exact h
  | stuck => exact h
theorem LdE.bindE {r : R D} {k : D → R D} (h : LdE g W OO σ H (r >>= k) Q) (c : ∀ x v H1, r = .ok x → Same H H1 → Rep g.K OO H1 v x → LdE g W OO σ H1 (k x) Q → S v H1) : LdE g W OO σ H r S := by
  cases r with
  | ok d => exact fun v H2 s2 r => c d v H2 rfl s2 r (LdE.more h s2)
  | err c fs => exact h
  | stuck => exact h
theorem LdG.bindB {α : Type} {r : R D} {bb : Bool} {k : D → R α} {S' : α → Hp → Prop} (h : LdG g W OO σ H (r >>= k) S') (c : ∀ x v H1, r = .ok x → Same H H1 → RepB g.K OO H1 v x → LdG g W OO σ H1 (k x) S' → S v H1) : LdB g W OO σ H r bb S := by
  cases r with
  | ok d => exact fun v H2 s2 r _ => c d v H2 rfl s2 r (LdG.more h s2)
  | err c fs => exact h
  | stuck => exact h
/-- .. telling where it is clean -/
theorem LdG.bindC {α : Type} {r : R D} {bb : Bool} {k : D → R α} {S' : α → Hp → Prop} (h : LdG g W OO σ H (r >>= k) S') (c : ∀ x v H1, r = .ok x → Same H H1 → RepB g.K OO H1 v x → (bb = false → Rep g.K OO H1 v x) → LdG g W OO σ H1 (k x) S' → S v H1) : LdB g W OO σ H r bb S := by
  cases r with
  | ok d => exact fun v H2 s2 r z => c d v H2 rfl s2 r z (LdG.more h s2)
  | err c fs => exact h
  | stuck => exact h
theorem LdG.bindE {α : Type} {r : R D} {k : D → R α} {S' : α → Hp → Prop} (h : LdG g W OO σ H (r >>= k) S') (c : ∀ x v H1, r = .ok x → Same H H1 → Rep g.K OO H1 v x → LdG g W OO σ H1 (k x) S' → S v H1) : LdE g W OO σ H r S := by
  cases r with
  | ok d => exact fun v H2 s2 r => c d v H2 rfl s2 r (LdG.more h s2)
  | err c fs => exact h
  | stuck => exact h
theorem LdE.v {r : R D} (h : LdE g W OO σ H r Q) (ne : ∀ c fs, r ≠ .err c fs) : LdV g.K OO H r Q := by
  cases r with
  | ok d => exact h
  | err c fs => exact (ne c fs rfl).elim
  | stuck => exact h
theorem binD_ne {o : Op2} {x y : D} : ∀ c fs, binD o x y ≠ .err c fs := by
  intro c fs
  unfold binD inD
  repeat' split
  all_goals (intro h; cases h)
end
end Ev
end
section
set_option Elab.async false
set_option linter.all false
set_option maxRecDepth 100000
set_option maxHeartbeats 2000000
namespace Ev
open PySem PySem.Spec PyProof.Rows L2

theorem PE.by' {X : Cx} {e : Expr} {t t' : TE} (h : PE X e t) (i : ∀ σ H Q, t' σ H Q → t σ H Q) : PE X e t' := ⟨fun pins s σ H Q I q => h.run pins s σ H Q I (i σ H Q q)⟩
theorem PT.by' {X : Cx} {e : Expr} {t t' : TT} (h : PT X e t) (i : ∀ σ H Q, t' σ H Q → t σ H Q) : PT X e t' := ⟨fun pins s σ H Q I q => h.run pins s σ H Q I (i σ H Q q)⟩
theorem PA.by' {X : Cx} {e : List Expr} {t t' : TA} (h : PA X e t) (i : ∀ σ H Q, t' σ H Q → t σ H Q) : PA X e t' := ⟨fun pos pins s σ H Q I q => h.run pos pins s σ H Q I (i σ H Q q)⟩
/-- a statement holds from the left to the right -/
theorem PE.stk {X : Cx} {e : Expr} : PE X e (fun _ _ _ => False) := ⟨fun _ _ _ _ _ _ q => q.elim⟩
section
variable {g : Cfg} {O : Addr → Prop} {H0 : Hp} {xi : Option XI} {W : WX} {X : Cx} {T : Tb}
/-- the readings of tests and of argument lists -/
def rT (g : Cfg) (O : Addr → Prop) (H0 : Hp) (xi : Option XI) (W : WX) (f : Rho → R Bool) : TT := fun σ H Q => ∃ ρ, EI g O H0 xi σ H ρ ∧ LdG g W (Own O σ ρ) σ H (f ρ) Q
def rA (g : Cfg) (O : Addr → Prop) (H0 : Hp) (xi : Option XI) (W : WX) (f : Rho → R (List D)) : TA := fun σ H Q => ∃ ρ, EI g O H0 xi σ H ρ ∧ LdG g W (Own O σ ρ) σ H (f ρ) (fun ds H' => ∀ vs, Reps g.K (Own O σ ρ) H' vs ds → Q vs H')
def rAB (g : Cfg) (O : Addr → Prop) (H0 : Hp) (xi : Option XI) (W : WX) (f : Rho → R (List D)) : TA := fun σ H Q => ∃ ρ, EI g O H0 xi σ H ρ ∧ LdG g W (Own O σ ρ) σ H (f ρ) (fun ds H' => ∀ vs, RepBs g.K (Own O σ ρ) H' vs ds → Q vs H')
abbrev SE (g : Cfg) (O : Addr → Prop) (H0 : Hp) (xi : Option XI) (W : WX) (T : Tb) (X : Cx) (e : Expr) (c : CE) : Prop := PE X e (rE g O H0 xi W (evE T c))
abbrev SB (g : Cfg) (O : Addr → Prop) (H0 : Hp) (xi : Option XI) (W : WX) (T : Tb) (X : Cx) (e : Expr) (c : CE) : Prop := PE X e (rB g O H0 xi W (evB T c) (ownArg · c))
abbrev ST' (g : Cfg) (O : Addr → Prop) (H0 : Hp) (xi : Option XI) (W : WX) (T : Tb) (X : Cx) (e : Expr) (c : CT) : Prop := PT X e (rT g O H0 xi W (evT T c))
theorem rE_B {f : Rho → R D} {σ : St} {H : Hp} {Q : VK} (h : rE g O H0 xi W f σ H fun v H' => Q v H') : rE g O H0 xi W f σ H Q := h
theorem LdE.toB {OO : Addr → Prop} {σ : St} {H : Hp} {r : R D} {b : Bool} {Q : VK} (h : LdB g W OO σ H r b Q) : LdE g W OO σ H r Q := by
  cases r with
  | ok d => exact fun v H' s q => h v H' s (.of q) fun _ => q
  | err c fs => exact h
  | stuck => exact h
/-- where nothing of one's own is handed out, a clean reading serves as one that borrows -/
def CE.isVar : CE → Bool
  | .var _ => true
  | _ => false
theorem evB_of {c : CE} (h : c.isVar = false) (ρ : Rho) : evB T c ρ = evE T c ρ := by cases c <;> first | rfl | (simp [CE.isVar] at h)
theorem SB.of {e : Expr} {c : CE} (h : SE g O H0 xi W T X e c) (hv : c.isVar = false) : SB g O H0 xi W T X e c :=
  PE.by' h fun σ H Q ⟨ρ, I, q⟩ => ⟨ρ, I, by rw [evB_of hv] at q; exact LdE.toB q⟩
/-! ### names and constants -/
theorem s_var {i : Nat} {x : Str} {pos : Pos} (hN : X.N[i]? = some x) (hv : Vis X.env.scope x) (hd : (x == ("__debug__" : Str)) = false) (hcd : (x == ("__classdict__" : Str)) = false) : SE g O H0 xi W T X (.Name x pos) (.var i) :=
  PE.by' (pe_var hN hv hd hcd) fun σ H Q ⟨ρ, I, q⟩ => by
    simp only [evE] at q
    unfold slotE at q
    split at q
    · rename_i d e
      obtain ⟨v, h1, h2⟩ := I.val i d e
      exact ⟨v, h1, q v H (Same.refl H) h2⟩
    · exact q.elim
theorem s_varB {i : Nat} {x : Str} {pos : Pos} (hN : X.N[i]? = some x) (hv : Vis X.env.scope x) (hd : (x == ("__debug__" : Str)) = false) (hcd : (x == ("__classdict__" : Str)) = false) : SB g O H0 xi W T X (.Name x pos) (.var i) :=
  PE.by' (pe_var hN hv hd hcd) fun σ H Q ⟨ρ, I, q⟩ => by
    simp only [evB, bor] at q
    unfold slotB at q
    split at q
    · rename_i d e
      obtain ⟨v, h1, h2⟩ := I.val i d e
      exact ⟨v, h1, q v H (Same.refl H) (.of h2) fun _ => h2⟩
    · rename_i xs e
      obtain ⟨a, vs, h1, h2, h3, h4, h5⟩ := I.own i xs e
      exact ⟨_, h1, q _ H (Same.refl H) (.own h5 h2 h4) fun z => by simp only [ownArg, isOwn, e] at z; cases z⟩
    · exact q.elim
theorem s_stk {e : Expr} : SE g O H0 xi W T X e .stk := PE.by' PE.stk fun σ H Q ⟨ρ, I, q⟩ => q
theorem s_int {i : Int} {j pos} : SE g O H0 xi W T X (.Constant (.int i) j pos) (.cst (.int i)) := PE.by' pe_int fun σ H Q ⟨ρ, I, q⟩ => q _ H (Same.refl H) (.int i)
theorem s_bl {i : Bool} {j pos} : SE g O H0 xi W T X (.Constant (.bool i) j pos) (.cst (.bl i)) := PE.by' pe_bl fun σ H Q ⟨ρ, I, q⟩ => q _ H (Same.refl H) (.bl i)
theorem s_non {j pos} : SE g O H0 xi W T X (.Constant .none j pos) (.cst .non) := PE.by' pe_non fun σ H Q ⟨ρ, I, q⟩ => q _ H (Same.refl H) .non
theorem s_str {x : Str} {j pos} (h : txtOk x.cps.toList) : SE g O H0 xi W T X (.Constant (.str x) j pos) (.cst (.str x.cps.toList)) := PE.by' pe_str fun σ H Q ⟨ρ, I, q⟩ => by
  have := q _ H (Same.refl H) (.str h)
  rw [sv_of] at this
  exact this
/-! ### operators -/
theorem s_op {op : Operator} {o : Op2} {a b : Expr} {ca cb : CE} {pos : Pos} (ho : OpR X (binaryOp op) (rBin g.K o)) (ha : SB g O H0 xi W T X a ca) (hb : SB g O H0 xi W T X b cb) : SE g O H0 xi W T X (.BinOp a op b pos) (.bin o ca cb) :=
  PE.by' (pe_op ho ha hb) fun σ H Q ⟨ρ, I, q⟩ => ⟨ρ, I, LdE.bindB q fun x v H1 _ s1 r1 q1 => ⟨ρ, I.more s1, LdE.bindB q1 fun y u H2 _ s2 r2 q2 =>
    ⟨_, x, y, (I.trkO.same s1).same s2, (by cases r1 with | of r => exact .of (r.gro (Gro.of s2)) | own l e r => exact .own l (s2 _ _ e) (r.gro (Gro.of s2))), r2, LdE.v q2 binD_ne⟩⟩⟩
theorem RepB.gro {K : PySem.W.Frag} {OO : Addr → Prop} {H H' : Hp} {v : V} {d : D} (h : RepB K OO H v d) (s : Same H H') : RepB K OO H' v d := by
  cases h with
  | of r => exact .of (r.gro (Gro.of s))
  | own l e r => exact .own l (s _ _ e) (r.gro (Gro.of s))
theorem s_cmp {op : CmpOp} {o : Op2} {a b : Expr} {ca cb : CE} {pos : Pos} (ho : OpR X (compareOp op) (rBin g.K o)) (hm : behindInMarks op b = false) (ha : SB g O H0 xi W T X a ca) (hb : SB g O H0 xi W T X b cb) : SE g O H0 xi W T X (.Compare a [op] [b] pos) (.bin o ca cb) :=
  PE.by' (pe_cmpR ho ha hb hm) fun σ H Q ⟨ρ, I, q⟩ => ⟨ρ, I, LdE.bindB q fun x v H1 _ s1 r1 q1 => ⟨ρ, I.more s1, LdE.bindB q1 fun y u H2 _ s2 r2 q2 =>
    ⟨_, x, y, (I.trkO.same s1).same s2, r1.gro s2, r2, LdE.v q2 binD_ne⟩⟩⟩
/-- a bool that is tested -/
theorem truth_bl (b : Bool) : D.truth (.bl b) = .ok b := rfl
theorem LdG.v {α : Type} {OO : Addr → Prop} {σ : St} {H : Hp} {r : R α} {S : α → Hp → Prop} {a : α} (h : LdG g W OO σ H (.ok a) S) : S a H := h H (Same.refl H)
def opBool : Op2 → Bool
  | .eq => true | .ne => true | .lt => true | .le => true | .gt => true | .ge => true | .isin => true | .notin => true | _ => false
theorem binD_bool {o : Op2} (h : opBool o = true) {x y d : D} (e : binD o x y = .ok d) : ∃ b, d = .bl b := by
  cases o <;> first | (simp [opBool] at h; done) | skip
  all_goals (cases x <;> cases y <;> simp only [binD, inD] at e)
  all_goals (repeat' split at e)
  all_goals (cases e <;> exact ⟨_, rfl⟩)
theorem R.assoc {α β γ : Type} (r : R α) (f : α → R β) (h : β → R γ) : ((r >>= f) >>= h) = (r >>= fun x => f x >>= h) := by cases r <;> rfl
theorem evT_bin {o : Op2} {ca cb : CE} {ρ : Rho} : evT T (.of (.bin o ca cb)) ρ = (evB T ca ρ >>= fun x => evB T cb ρ >>= fun y => binD o x y >>= fun z => z.truth) := by
  show ((evB T ca ρ >>= fun x => evB T cb ρ >>= fun y => binD o x y) >>= fun z => z.truth) = _
  rw [R.assoc]
  congr 1
  funext x
  rw [R.assoc]
theorem evT_un {o : Op1} {ca : CE} {ρ : Rho} : evT T (.of (.un o ca)) ρ = (evB T ca ρ >>= fun x => unD o x >>= fun z => z.truth) := by
  show ((evB T ca ρ >>= fun x => unD o x) >>= fun z => z.truth) = _
  rw [R.assoc]
theorem s_cmpT {op : CmpOp} {o : Op2} {a b : Expr} {ca cb : CE} {pos : Pos} (hb' : opBool o = true) (ho : OpR X (compareOp op) (rBin g.K o)) (hm : behindInMarks op b = false) (ha : SB g O H0 xi W T X a ca) (hb : SB g O H0 xi W T X b cb) : ST' g O H0 xi W T X (.Compare a [op] [b] pos) (.of (.bin o ca cb)) :=
  PT.by' (pt_cmpR ho ha hb hm) fun σ H Q ⟨ρ, I, q⟩ => ⟨ρ, I, by
    have q' := q
    rw [evT_bin] at q'
    exact LdG.bindB q' fun x v H1 _ s1 r1 q1 => ⟨ρ, I.more s1, LdG.bindB q1 fun y u H2 _ s2 r2 q2 => ⟨_, x, y, (I.trkO.same s1).same s2, r1.gro s2, r2, by
      cases h3 : binD o x y with
      | ok d =>
        obtain ⟨c, rfl⟩ := binD_bool hb' h3
        rw [h3] at q2
        intro v' H' s3 r3
        cases r3
        exact ⟨c, rfl, q2 H' s3⟩
      | err c fs => exact (binD_ne _ _ h3).elim
      | stuck => rw [h3] at q2; exact q2⟩⟩⟩
/-! ### truth -/
theorem tru_of {K : PySem.W.Frag} {OO : Addr → Prop} {H : Hp} {v : V} {d : D} {b : Bool} (r : RepB K OO H v d) (e : d.truth = .ok b) : TruV K v H b := by
  cases d <;> simp only [D.truth] at e <;> try (cases e; done)
  · cases r.non_of; injection e with e; exact e.symm
  · cases r.bl_of; injection e with e; exact e.symm
  · cases r.int_of; injection e with e; exact e.symm
  · obtain ⟨rfl, ok⟩ := r.str_of
    injection e with e
    refine ⟨by rw [sv_len, sizeLine_eq]; exact ok.1, ?_⟩
    rw [sv_len, ← e]
    rename_i x
    cases x with
    | nil => rfl
    | cons c r =>
      simp only [List.isEmpty_cons, List.length_cons, Bool.not_false]
      exact (bne_iff_ne.mpr (by omega)).symm
  · obtain ⟨a, vs, rfl, s, r⟩ := r.tup_of
    injection e with e
    refine .inr (.inl ⟨vs, s, ?_⟩)
    rw [← e]; cases r <;> rfl
  · obtain ⟨a, vs, rfl, s, r⟩ := r.lst_of
    injection e with e
    refine .inl ⟨vs, SqL.of s, ?_⟩
    rw [← e]; cases r <;> rfl
theorem truth_ne {d : D} : ∀ c fs, d.truth ≠ .err c fs := by
  intro c fs h
  cases d <;> simp [D.truth] at h
theorem s_truth (hK : X.K = g.K) {e : Expr} {c : CE} (h : SB g O H0 xi W T X e c) (he : ∀ whole, isTrue e X.env whole = (do let v ← whole; standAt e.pos; holding [v] (truthy v))) : ST' g O H0 xi W T X e (.of c) :=
  PT.by' (pt_truth h he) fun σ H Q ⟨ρ, I, q⟩ => ⟨ρ, I, LdG.bindB q fun x v H1 _ s1 r1 q1 => by
    cases ht : x.truth with
    | ok b =>
      rw [ht] at q1
      exact ⟨b, by rw [hK]; exact tru_of r1 ht, q1 H1 (Same.refl H1)⟩
    | err c fs => exact (truth_ne _ _ ht).elim
    | stuck => rw [ht] at q1; exact q1.elim⟩
theorem s_notT {e : Expr} {c : CT} {pos : Pos} (h : ST' g O H0 xi W T X e c) : ST' g O H0 xi W T X (.UnaryOp .Not e pos) (.not c) :=
  PT.by' (pt_not h) fun σ H Q ⟨ρ, I, q⟩ => ⟨ρ, I, by
    simp only [evT] at q
    cases h1 : evT T c ρ with
    | ok b => rw [h1] at q; exact q
    | err k fs => rw [h1] at q; exact q
    | stuck => rw [h1] at q; exact q⟩
theorem LdG.if' {OO : Addr → Prop} {σ : St} {H : Hp} {α : Type} {r : R Bool} {k : Bool → R α} {S' : α → Hp → Prop} {S : Bool → Hp → Prop} (h : LdG g W OO σ H (r >>= k) S') (c : ∀ b H1, r = .ok b → Same H H1 → LdG g W OO σ H1 (k b) S' → S b H1) : LdG g W OO σ H r S := by
  cases r with
  | ok d => exact fun H2 s2 => c d H2 rfl s2 (LdG.more h s2)
  | err c fs => exact h
  | stuck => exact h
theorem LdE.if' {OO : Addr → Prop} {σ : St} {H : Hp} {r : R Bool} {k : Bool → R D} {Q : VK} {S : Bool → Hp → Prop} (h : LdE g W OO σ H (r >>= k) Q) (c : ∀ b H1, r = .ok b → Same H H1 → LdE g W OO σ H1 (k b) Q → S b H1) : LdG g W OO σ H r S := by
  cases r with
  | ok d => exact fun H2 s2 => c d H2 rfl s2 (LdE.more h s2)
  | err c fs => exact h
  | stuck => exact h
theorem s_ife {c a b : Expr} {cc : CT} {ca cb : CE} {pos : Pos} (hc : ST' g O H0 xi W T X c cc) (ha : SE g O H0 xi W T X a ca) (hb : SE g O H0 xi W T X b cb) : SE g O H0 xi W T X (.IfExp c a b pos) (.ife cc ca cb) :=
  PE.by' (pe_ifExp hc ha hb) fun σ H Q ⟨ρ, I, q⟩ => ⟨ρ, I, LdE.if' q fun t H1 _ s1 q1 => by
    cases t with
    | true => exact ⟨ρ, I.more s1, q1⟩
    | false => exact ⟨ρ, I.more s1, q1⟩⟩
/-- and, or as tests: whatever the whole is -/
abbrev SW (g : Cfg) (O : Addr → Prop) (H0 : Hp) (xi : Option XI) (W : WX) (T : Tb) (X : Cx) (e : Expr) (c : CT) : Prop := PW X e (rT g O H0 xi W (evT T c))
theorem PW.by' {X : Cx} {e : Expr} {t t' : TT} (h : PW X e t) (i : ∀ σ H Q, t' σ H Q → t σ H Q) : PW X e t' := ⟨fun wh pins s σ H Q I q => h.run wh pins s σ H Q I (i σ H Q q)⟩
theorem s_and {a b : Expr} {rest : List Expr} {ca cb : CT} {pos : Pos} (ha : ST' g O H0 xi W T X a ca) (hb : SW g O H0 xi W T X (.BoolOp .And (b :: rest) pos) cb) : SW g O H0 xi W T X (.BoolOp .And (a :: b :: rest) pos) (.and ca cb) :=
  PW.by' (pw_and ha hb) fun σ H Q ⟨ρ, I, q⟩ => ⟨ρ, I, by
    simp only [evT] at q
    exact LdG.if' q fun t H1 _ s1 q1 => by
      cases t with
      | true => rw [if_pos rfl]; exact ⟨ρ, I.more s1, q1⟩
      | false => rw [if_neg (by decide)]; exact q1 H1 (Same.refl H1)⟩
theorem s_or {a b : Expr} {rest : List Expr} {ca cb : CT} {pos : Pos} (ha : ST' g O H0 xi W T X a ca) (hb : SW g O H0 xi W T X (.BoolOp .Or (b :: rest) pos) cb) : SW g O H0 xi W T X (.BoolOp .Or (a :: b :: rest) pos) (.or ca cb) :=
  PW.by' (pw_or ha hb) fun σ H Q ⟨ρ, I, q⟩ => ⟨ρ, I, by
    simp only [evT] at q
    exact LdG.if' q fun t H1 _ s1 q1 => by
      cases t with
      | true => rw [if_pos rfl]; exact q1 H1 (Same.refl H1)
      | false => rw [if_neg (by decide)]; exact ⟨ρ, I.more s1, q1⟩⟩
theorem s_andV (hK : X.K = g.K) {a b : Expr} {rest : List Expr} {ca cb : CE} {pos : Pos} (ha : SE g O H0 xi W T X a ca) (hb : SE g O H0 xi W T X (.BoolOp .And (b :: rest) pos) cb) : SE g O H0 xi W T X (.BoolOp .And (a :: b :: rest) pos) (.and ca cb) :=
  PE.by' (pe_andT ha hb) fun σ H Q ⟨ρ, I, q⟩ => ⟨ρ, I, by
    simp only [evE] at q
    exact LdE.bindE q fun x v H1 _ s1 r1 q1 => by
      cases ht : x.truth with
      | ok b =>
        rw [ht] at q1
        refine ⟨b, by rw [hK]; exact tru_of (.of r1) ht, ?_⟩
        cases b with
        | true => rw [if_pos rfl]; exact ⟨ρ, I.more s1, q1⟩
        | false => rw [if_neg (by decide)]; exact q1 v H1 (Same.refl H1) r1
      | err c fs => exact (truth_ne _ _ ht).elim
      | stuck => rw [ht] at q1; exact q1.elim⟩
theorem s_orV (hK : X.K = g.K) {a b : Expr} {rest : List Expr} {ca cb : CE} {pos : Pos} (ha : SE g O H0 xi W T X a ca) (hb : SE g O H0 xi W T X (.BoolOp .Or (b :: rest) pos) cb) : SE g O H0 xi W T X (.BoolOp .Or (a :: b :: rest) pos) (.or ca cb) :=
  PE.by' (pe_orT ha hb) fun σ H Q ⟨ρ, I, q⟩ => ⟨ρ, I, by
    simp only [evE] at q
    exact LdE.bindE q fun x v H1 _ s1 r1 q1 => by
      cases ht : x.truth with
      | ok b =>
        rw [ht] at q1
        refine ⟨b, by rw [hK]; exact tru_of (.of r1) ht, ?_⟩
        cases b with
        | true => rw [if_pos rfl]; exact q1 v H1 (Same.refl H1) r1
        | false => rw [if_neg (by decide)]; exact ⟨ρ, I.more s1, q1⟩
      | err c fs => exact (truth_ne _ _ ht).elim
      | stuck => rw [ht] at q1; exact q1.elim⟩
theorem s_notV (hK : X.K = g.K) {e : Expr} {c : CE} {pos : Pos} (h : SB g O H0 xi W T X e c) : SE g O H0 xi W T X (.UnaryOp .Not e pos) (.un .not c) :=
  PE.by' (pe_notT h) fun σ H Q ⟨ρ, I, q⟩ => ⟨ρ, I, by
    simp only [evE] at q
    exact LdE.bindB q fun x v H1 _ s1 r1 q1 => by
      cases ht : x.truth with
      | ok b =>
        simp only [unD, ht, ok_bind, pure_ok] at q1
        exact ⟨b, by rw [hK]; exact tru_of r1 ht, q1 _ H1 (Same.refl H1) (.bl _)⟩
      | err c fs => exact (truth_ne _ _ ht).elim
      | stuck => simp only [unD, ht] at q1; exact q1.elim⟩
theorem s_neg {e : Expr} {c : CE} {pos : Pos} (h : SB g O H0 xi W T X e c) : SE g O H0 xi W T X (.UnaryOp .USub e pos) (.un .neg c) :=
  PE.by' (pe_un un_neg h) fun σ H Q ⟨ρ, I, q⟩ => ⟨ρ, I, by
    simp only [evE] at q
    exact LdE.bindB q fun x v H1 _ s1 r1 q1 => by
      cases x <;> simp only [unD] at q1 <;> try exact q1.elim
      cases r1.int_of
      exact ⟨_, rfl, q1 _ H1 (Same.refl H1) (.int _)⟩⟩
theorem non_iff {K : PySem.W.Frag} {OO : Addr → Prop} {H : Hp} {v : V} {d : D} (r : RepB K OO H v d) : decide (v = .non) = (match d with | .non => true | _ => false) := by
  cases r with
  | of r => cases r <;> simp
  | own _ _ _ => simp
theorem s_isN {a : Expr} {ca : CE} {j pos pos'} (ha : SB g O H0 xi W T X a ca) : SE g O H0 xi W T X (.Compare a [.Is] [.Constant .none j pos'] pos) (.un .isN ca) :=
  PE.by' (pe_cmp (pc_isN ha) rfl) fun σ H Q ⟨ρ, I, q⟩ => ⟨ρ, I, by
    simp only [evE] at q
    exact LdE.bindB q fun x v H1 _ s1 r1 q1 => by
      rw [non_iff r1]
      cases x <;> exact q1 _ H1 (Same.refl H1) (.bl _)⟩
theorem s_notN {a : Expr} {ca : CE} {j pos pos'} (ha : SB g O H0 xi W T X a ca) : SE g O H0 xi W T X (.Compare a [.IsNot] [.Constant .none j pos'] pos) (.un .notN ca) :=
  PE.by' (pe_cmp (pc_notN ha) rfl) fun σ H Q ⟨ρ, I, q⟩ => ⟨ρ, I, by
    simp only [evE] at q
    exact LdE.bindB q fun x v H1 _ s1 r1 q1 => by
      rw [non_iff r1]
      cases x <;> exact q1 _ H1 (Same.refl H1) (.bl _)⟩
theorem s_isNT {a : Expr} {ca : CE} {j pos pos'} (ha : SB g O H0 xi W T X a ca) : ST' g O H0 xi W T X (.Compare a [.Is] [.Constant .none j pos'] pos) (.of (.un .isN ca)) :=
  PT.by' (pt_cmp (pc_isN ha) rfl) fun σ H Q ⟨ρ, I, q⟩ => ⟨ρ, I, by
    have q' := q
    rw [evT_un] at q'
    exact LdG.bindB q' fun x v H1 _ s1 r1 q1 => by
      rw [non_iff r1]
      cases x <;> exact ⟨_, rfl, q1 H1 (Same.refl H1)⟩⟩
theorem s_notNT {a : Expr} {ca : CE} {j pos pos'} (ha : SB g O H0 xi W T X a ca) : ST' g O H0 xi W T X (.Compare a [.IsNot] [.Constant .none j pos'] pos) (.of (.un .notN ca)) :=
  PT.by' (pt_cmp (pc_notN ha) rfl) fun σ H Q ⟨ρ, I, q⟩ => ⟨ρ, I, by
    have q' := q
    rw [evT_un] at q'
    exact LdG.bindB q' fun x v H1 _ s1 r1 q1 => by
      rw [non_iff r1]
      cases x <;> exact ⟨_, rfl, q1 H1 (Same.refl H1)⟩⟩
end
end Ev
end
section
set_option Elab.async false
set_option linter.all false
set_option maxRecDepth 100000
set_option maxHeartbeats 2000000
namespace Ev
open PySem PySem.Spec PyProof.Rows L2

section
variable {g : Cfg} {O : Addr → Prop} {H0 : Hp} {xi : Option XI} {W : WX} {X : Cx} {T : Tb}
def notStar : Expr → Bool
  | .Starred _ _ => false
  | _ => true
theorem star_cons {e : Expr} {es : List Expr} {env : Env} (h : notStar e = true) : starEach (e :: es) env = (false, eval e env) :: starEach es env := by
  cases e <;> first | rfl | (simp [notStar] at h)
theorem back_any {es : List Expr} {env : Env} {pos : Pos} (h : es.all notStar = true) : (backTo pos (starEach es env)).any (·.1) = false := by
  induction es with
  | nil => rfl
  | cons e r ih =>
    simp only [List.all_cons, Bool.and_eq_true] at h
    rw [star_cons h.1]
    exact ih h.2
/-! ### argument lists -/
abbrev SA (g : Cfg) (O : Addr → Prop) (H0 : Hp) (xi : Option XI) (W : WX) (T : Tb) (X : Cx) (es : List Expr) (cs : List CE) : Prop := PA X es (rA g O H0 xi W (evEs T cs))
abbrev SAB (g : Cfg) (O : Addr → Prop) (H0 : Hp) (xi : Option XI) (W : WX) (T : Tb) (X : Cx) (es : List Expr) (cs : List CE) : Prop := PA X es (rAB g O H0 xi W (evBs T cs))
theorem s_nil : SA g O H0 xi W T X [] [] := PA.by' pa_nil fun σ H Q ⟨ρ, I, q⟩ => q H (Same.refl H) [] .nil
theorem s_nilB : SAB g O H0 xi W T X [] [] := PA.by' pa_nil fun σ H Q ⟨ρ, I, q⟩ => q H (Same.refl H) [] Paired.nil
theorem LdG.bindG {α β : Type} {OO : Addr → Prop} {σ : St} {H : Hp} {r : R α} {k : α → R β} {S' : β → Hp → Prop} {S : α → Hp → Prop} (h : LdG g W OO σ H (r >>= k) S') (c : ∀ x H1, r = .ok x → Same H H1 → LdG g W OO σ H1 (k x) S' → S x H1) : LdG g W OO σ H r S := by
  cases r with
  | ok d => exact fun H2 s2 => c d H2 rfl s2 (LdG.more h s2)
  | err c fs => exact h
  | stuck => exact h
theorem s_cons {e : Expr} {es : List Expr} {c : CE} {cs : List CE} (h1 : SE g O H0 xi W T X e c) (h2 : SA g O H0 xi W T X es cs) (hs : notStar e = true) : SA g O H0 xi W T X (e :: es) (c :: cs) :=
  PA.by' (pa_cons h1 h2 (star_cons hs)) fun σ H Q ⟨ρ, I, q⟩ => ⟨ρ, I, LdG.bindE q fun x v H1 _ s1 r1 q1 => ⟨ρ, I.more s1, LdG.bindG q1 fun xs H2 _ s2 q2 vs r2 => q2 H2 (Same.refl H2) (v :: vs) (.cons (r1.gro (Gro.of s2)) r2)⟩⟩
theorem s_consB {e : Expr} {es : List Expr} {c : CE} {cs : List CE} (h1 : SB g O H0 xi W T X e c) (h2 : SAB g O H0 xi W T X es cs) (hs : notStar e = true) : SAB g O H0 xi W T X (e :: es) (c :: cs) :=
  PA.by' (pa_cons h1 h2 (star_cons hs)) fun σ H Q ⟨ρ, I, q⟩ => ⟨ρ, I, LdG.bindB q fun x v H1 _ s1 r1 q1 => ⟨ρ, I.more s1, LdG.bindG q1 fun xs H2 _ s2 q2 vs r2 => q2 H2 (Same.refl H2) (v :: vs) (Paired.cons (r1.gro s2) r2)⟩⟩
theorem evEs_len : ∀ {cs : List CE} {ρ : Rho} {ds : List D}, evEs T cs ρ = .ok ds → ds.length = cs.length
  | [], ρ, ds, h => by simp only [evEs] at h; cases h; rfl
  | c :: cs, ρ, ds, h => by
    simp only [evEs] at h
    cases h1 : evE T c ρ with
    | ok x =>
      rw [h1] at h
      cases h2 : evEs T cs ρ with
      | ok xs =>
        rw [h2] at h
        cases h
        simp [evEs_len h2]
      | err k fs => rw [h2] at h; cases h
      | stuck => rw [h2] at h; cases h
    | err k fs => rw [h1] at h; cases h
    | stuck => rw [h1] at h; cases h
theorem LdE.bindG {α : Type} {OO : Addr → Prop} {σ : St} {H : Hp} {r : R α} {k : α → R D} {Q : VK} {S : α → Hp → Prop} (h : LdE g W OO σ H (r >>= k) Q) (c : ∀ x H1, r = .ok x → Same H H1 → LdE g W OO σ H1 (k x) Q → S x H1) : LdG g W OO σ H r S := by
  cases r with
  | ok d => exact fun H2 s2 => c d H2 rfl s2 (LdE.more h s2)
  | err c fs => exact h
  | stuck => exact h
theorem s_tup {es : List Expr} {cs : List CE} {k : Nat} {pos : Pos} (h : SA g O H0 xi W T X es cs) (hl : cs.length ≤ 16777216) : SE g O H0 xi W T X (.Tuple es k pos) (.tup cs) :=
  PE.by' (pe_tup h) fun σ H Q ⟨ρ, I, q⟩ => ⟨ρ, I, by
    simp only [evE] at q
    exact LdE.bindG q fun ds H1 e s1 q1 vs r => ⟨by rw [r.length, evEs_len e, sizeLine_eq]; exact hl, fun p hp => LdV.tup (O := Own O σ ρ) (K := g.K) (ds := ds) q1 (by rw [evEs_len e]; exact hl) r hp⟩⟩
theorem s_lst {es : List Expr} {cs : List CE} {pos : Pos} (h : SA g O H0 xi W T X es cs) (hl : cs.length ≤ 16777216) : SE g O H0 xi W T X (.List es pos) (.lst cs) :=
  PE.by' (pe_lst h) fun σ H Q ⟨ρ, I, q⟩ => ⟨ρ, I, by
    simp only [evE] at q
    exact LdE.bindG q fun ds H1 e s1 q1 vs r => ⟨by rw [r.length, evEs_len e, sizeLine_eq]; exact hl, fun p hp => LdV.lst (O := Own O σ ρ) (K := g.K) (ds := ds) (I.trkO.same s1) q1 (by rw [evEs_len e]; exact hl) r hp⟩⟩
/-! ### items, slices -/
theorem ixD_is (n : Nat) (i : Int) : ixN n i = ixD n i := rfl
theorem getI_is {α : Type} {xs : List α} {i : Int} {d : α} (h : getI xs i = .ok d) : ∃ k, ixN xs.length i = some k ∧ xs[k]? = some d := by
  unfold getI at h
  rw [← ixD_is] at h
  split at h
  · rename_i k e
    split at h
    · rename_i v e2
      cases h
      exact ⟨k, e, e2⟩
    · cases h
  · cases h
def rIdx (K : PySem.W.Frag) : R2 := fun x y H Q => ∃ O dx dy, Trk O H ∧ RepB K O H x dx ∧ RepB K O H y dy ∧ LdV K O H (idxD dx dy) Q
theorem ox_idx : IxR X (rIdx X.K) := by
  intro ve se pins s σ H x y v u Q I rx ry h hps
  obtain ⟨OO, dx, dy, t, hx, hy, q⟩ := h
  cases dx <;> cases dy <;> try (simp only [idxD, LdV, lookD] at q; done)
  · cases hy.int_of
    obtain ⟨rfl, ok⟩ := hx.str_of
    rename_i xs i
    simp only [idxD] at q
    cases hg : getI xs i with
    | ok c =>
      rw [hg] at q
      obtain ⟨k, h1, h2⟩ := getI_is hg
      refine ix_str ve se pins s σ H _ _ v u Q I rx ry ⟨sv xs, i, c, rfl, rfl, by rw [sv_len, sizeLine_eq]; exact ok.1, ?_, ?_⟩ hps
      · rw [sv_tl]; unfold atI; rw [h1]; exact h2
      · have := q.here (.str (x := [c]) ⟨by simp, fun z hz => by
          rw [List.mem_singleton.mp hz]
          exact ok.2 c (List.mem_of_getElem? h2)⟩)
        exact this
    | err c fs => rw [hg] at q; exact q.elim
    | stuck => rw [hg] at q; exact q.elim
  · cases hy.int_of
    obtain ⟨a, vs, rfl, sa, ra⟩ := hx.tup_of
    rename_i xs i
    simp only [idxD] at q
    cases hg : getI xs i with
    | ok c =>
      rw [hg] at q
      obtain ⟨k, h1, h2⟩ := getI_is hg
      obtain ⟨v1, e1, r1⟩ := ra.getD h2
      exact ix_tup ve se pins s σ H _ _ v u Q I rx ry ⟨a, vs, i, v1, rfl, rfl, sa, by unfold atI; rw [ra.length, h1]; exact e1, q.here r1⟩ hps
    | err c fs => rw [hg] at q; exact q.elim
    | stuck => rw [hg] at q; exact q.elim
  · cases hy.int_of
    obtain ⟨a, vs, rfl, sa, ra⟩ := hx.lst_of
    rename_i xs i
    simp only [idxD] at q
    cases hg : getI xs i with
    | ok c =>
      rw [hg] at q
      obtain ⟨k, h1, h2⟩ := getI_is hg
      obtain ⟨v1, e1, r1⟩ := ra.getD h2
      exact ix_list ve se pins s σ H _ _ v u Q I rx ry ⟨a, vs, i, v1, rfl, rfl, SqL.of sa, by unfold atI; rw [ra.length, h1]; exact e1, q.here r1⟩ hps
    | err c fs => rw [hg] at q; exact q.elim
    | stuck => rw [hg] at q; exact q.elim
  · exfalso
    cases hx with | of r => cases r
  · exfalso
    cases hx with | of r => cases r
theorem getI_ne {α : Type} {xs : List α} {i : Int} : ∀ c fs, getI xs i ≠ .err c fs := by
  intro c fs h
  unfold getI at h
  repeat' split at h
  all_goals cases h
theorem lookD_ne {k : D} : ∀ {kvs : List (D × D)} (c : Nat) (fs : List D), lookD k kvs ≠ .err c fs
  | [], c, fs, h => by cases h
  | (q, v) :: r, c, fs, h => by
    unfold lookD at h
    split at h
    · cases h
    · exact lookD_ne c fs h
theorem idxD_ne {x y : D} : ∀ c fs, idxD x y ≠ .err c fs := by
  intro c fs h
  cases x <;> cases y <;> simp only [idxD] at h <;> try (cases h; done)
  · rename_i xs i
    cases hg : getI xs i with
    | ok c => rw [hg] at h; cases h
    | err c fs => exact getI_ne _ _ hg
    | stuck => rw [hg] at h; cases h
  · exact getI_ne _ _ h
  · exact getI_ne _ _ h
  · exact lookD_ne _ _ h
  · exact lookD_ne _ _ h
def notSlice : Expr → Bool
  | .Slice _ _ _ _ => false
  | _ => true
theorem plain_ix {e : Expr} (h : notSlice e = true) : PlainIx e := by
  intro o i
  cases e <;> first | rfl | (simp [notSlice] at h)
theorem s_idx (hK : X.K = g.K) {a i : Expr} {ca ci : CE} {pos : Pos} (ha : SB g O H0 xi W T X a ca) (hi : SE g O H0 xi W T X i ci) (hs : notSlice i = true) : SE g O H0 xi W T X (.Subscript a i pos) (.idx ca ci) :=
  PE.by' (pe_ix ox_idx ha hi (plain_ix hs)) fun σ H Q ⟨ρ, I, q⟩ => ⟨ρ, I, by
    simp only [evE] at q
    exact LdE.bindB q fun x v H1 _ s1 r1 q1 => ⟨ρ, I.more s1, LdE.bindE q1 fun y u H2 _ s2 r2 q2 => ⟨_, x, y, (I.trkO.same s1).same s2, by rw [hK]; exact r1.gro s2, by rw [hK]; exact .of r2, by rw [hK]; exact LdE.v q2 idxD_ne⟩⟩⟩
theorem six_is (n d : Nat) (o : Option Int) : HT.sIx n d o = sixD n d o := by cases o <;> rfl
theorem cutV_is (vs : List V) (lo hi : Option Int) : cutV vs lo hi = cutL vs lo hi := by unfold cutV cutL; rw [six_is, six_is]
theorem cutL_reps {K : PySem.W.Frag} {OO : Addr → Prop} {H : Hp} {vs : List V} {ds : List D} (r : Reps K OO H vs ds) (lo hi : Option Int) : Reps K OO H (cutL vs lo hi) (cutL ds lo hi) := by
  unfold cutL
  rw [r.length]
  exact (r.drop _).take _
theorem cutL_len {α : Type} (xs : List α) (lo hi : Option Int) : (cutL xs lo hi).length ≤ xs.length := by
  unfold cutL
  rw [List.length_take, List.length_drop]
  omega
theorem cutL_mem {α : Type} {xs : List α} {lo hi : Option Int} {c : α} (h : c ∈ cutL xs lo hi) : c ∈ xs := by
  unfold cutL at h
  exact List.mem_of_mem_drop (List.mem_of_mem_take h)
theorem cutL_all {α : Type} {xs : List α} {lo hi : Option Int} (h : sixD xs.length 0 lo = 0 ∧ sixD xs.length xs.length hi = xs.length) : cutL xs lo hi = xs := by
  unfold cutL
  rw [h.1, h.2]
  simp
def rSlc (K : PySem.W.Frag) : V → Option Int → Option Int → Hp → VK → Prop := fun x lo hi H Q => ∃ O dx, Trk O H ∧ RepB K O H x dx ∧ LdV K O H (slcD dx lo hi) Q
theorem ox_slc : SlR X (rSlc X.K) := by
  intro pins s σ H x v vl vu lo hi sl Q I rx hs pl pu h
  obtain ⟨OO, dx, t, hx, q⟩ := h
  cases dx <;> try (simp only [slcD, LdV] at q; done)
  · obtain ⟨rfl, ok⟩ := hx.str_of
    rename_i xs
    simp only [slcD] at q
    refine sl_str pins s σ H _ v vl vu lo hi sl Q I rx hs pl pu ⟨sv xs, rfl, by rw [sv_len, sizeLine_eq]; exact ok.1, ?_⟩
    have e : cutS (sv xs) lo hi = sv (cutL xs lo hi) := by
      unfold cutS cutL
      rw [sv_len, sv_tl, six_is, six_is] <;> rfl
    rw [e]
    exact q.here (.str (ok.sub (cutL_len ..) fun c hc => cutL_mem hc))
  · obtain ⟨a, vs, rfl, sa, ra⟩ := hx.tup_of
    rename_i xs
    simp only [slcD] at q
    refine sl_tupA pins s σ H _ v vl vu lo hi sl Q I rx hs pl pu ⟨a, vs, rfl, sa, fun e => ?_, fun _ p hp => ?_⟩
    · rw [six_is, six_is, ra.length] at e
      rw [cutL_all e] at q
      exact q.here (.tup hx.tupL sa ra)
    · rw [cutV_is]
      exact q.tup (Nat.le_trans (cutL_len ..) hx.tupL) (cutL_reps ra lo hi) hp
  · obtain ⟨a, vs, rfl, sa, ra⟩ := hx.lst_of
    rename_i xs
    simp only [slcD] at q
    refine sl_list pins s σ H _ v vl vu lo hi sl Q I rx hs pl pu ⟨a, vs, rfl, SqL.of sa, fun p hp => ?_⟩
    rw [cutV_is]
    exact q.lst t (Nat.le_trans (cutL_len ..) hx.lstL) (cutL_reps ra lo hi) hp
theorem slcD_ne {x : D} {lo hi : Option Int} : ∀ c fs, slcD x lo hi ≠ .err c fs := by
  intro c fs h
  cases x <;> simp only [slcD] at h <;> cases h
/-- an end of a slice -/
def rO (g : Cfg) (O : Addr → Prop) (H0 : Hp) (xi : Option XI) (W : WX) (f : Rho → R (Option Int)) : TO := fun σ H Q => ∃ ρ, EI g O H0 xi σ H ρ ∧ LdG g W (Own O σ ρ) σ H (f ρ) Q
theorem PO.by' {X : Cx} {e : Option Expr} {t t' : TO} (h : PO X e t) (i : ∀ σ H Q, t' σ H Q → t σ H Q) : PO X e t' := ⟨fun pins s σ H Q I q => h.run pins s σ H Q I (i σ H Q q)⟩
abbrev SO (g : Cfg) (O : Addr → Prop) (H0 : Hp) (xi : Option XI) (W : WX) (T : Tb) (X : Cx) (e : Option Expr) (c : Option CE) : Prop := PO X e (rO g O H0 xi W (evO T c))
theorem s_oN : SO g O H0 xi W T X none none := PO.by' po_none fun σ H Q ⟨ρ, I, q⟩ => q H (Same.refl H)
theorem s_oS {e : Expr} {c : CE} (h : SE g O H0 xi W T X e c) : SO g O H0 xi W T X (some e) (some c) := PO.by' (po_some h) fun σ H Q ⟨ρ, I, q⟩ => ⟨ρ, I, by
  simp only [evO] at q
  exact LdG.bindE q fun x v H1 _ s1 r1 q1 => by
    cases x <;> try (exact q1.elim)
    cases r1
    exact ⟨_, rfl, q1 H1 (Same.refl H1)⟩⟩
theorem s_slc (hK : X.K = g.K) {a : Expr} {lo hi : Option Expr} {ca : CE} {cl ch : Option CE} {p2 pos : Pos} (ha : SB g O H0 xi W T X a ca) (hl : SO g O H0 xi W T X lo cl) (hh : SO g O H0 xi W T X hi ch) : SE g O H0 xi W T X (.Subscript a (.Slice lo hi none p2) pos) (.slc ca cl ch) :=
  PE.by' (pe_slice ox_slc ha hl hh) fun σ H Q ⟨ρ, I, q⟩ => ⟨ρ, I, by
    simp only [evE] at q
    exact LdE.bindB q fun x v H1 _ s1 r1 q1 => ⟨ρ, I.more s1, LdE.bindG q1 fun l H2 _ s2 q2 => ⟨ρ, (I.more s1).more s2, LdE.bindG q2 fun u H3 _ s3 q3 =>
      ⟨_, x, ((I.trkO.same s1).same s2).same s3, by rw [hK]; exact (r1.gro s2).gro s3, by rw [hK]; exact LdE.v q3 slcD_ne⟩⟩⟩⟩
/-! ### built-ins -/
theorem biD_ne {b : BI} {ds : List D} : ∀ c fs, biD b ds ≠ .err c fs := by
  intro c fs h
  unfold biD at h
  repeat' split at h
  all_goals cases h
theorem s_biB {b : BI} {x : Str} {e : Expr} {es : List Expr} {cs : List CE} {p pos : Pos} {id : String} (hc : (T.hot && !b.hot) = false → CallR X (.builtin id) (rBI g.K b)) (hg : Gl X x) (hm : X.mg x = none) (hv : bootBuiltins x = some (.builtin id)) (ha : SAB g O H0 xi W T X (e :: es) cs)
    (hs : (e :: es).all notStar = true) (hn : x ≠ "__name__") (hdb : (x == ("__debug__" : Str)) = false) : SE g O H0 xi W T X (.Call (.Name x p) (e :: es) [] pos) (.bi b cs) := by
  have h1 : notStar e = true ∧ es.all notStar = true := by simpa using hs
  cases hh : (T.hot && !b.hot) with
  | true =>
    exact PE.by' PE.stk fun σ H Q ⟨ρ, I, q⟩ => by
      simp only [evE] at q
      rw [if_pos hh] at q
      exact q
  | false => exact PE.by' (pe_callB (hc hh) hg hm hv ha hn hdb (star_cons h1.1) (back_any h1.2)) fun σ H Q ⟨ρ, I, q⟩ => ⟨ρ, I, by
    simp only [evE] at q
    rw [if_neg (by rw [hh]; decide)] at q
    exact LdE.bindG q fun ds H1 _ s1 q1 vs r => ⟨_, ds, I.trkO.same s1, r, LdE.v q1 biD_ne⟩⟩
theorem s_biT {b : BI} {x : Str} {e : Expr} {es : List Expr} {cs : List CE} {p pos : Pos} {id : String} (hc : (T.hot && !b.hot) = false → CallR X (.type id) (rBI g.K b)) (hg : Gl X x) (hm : X.mg x = none) (hv : bootBuiltins x = some (.type id)) (ha : SAB g O H0 xi W T X (e :: es) cs)
    (hs : (e :: es).all notStar = true) (hn : x ≠ "__name__") (hdb : (x == ("__debug__" : Str)) = false) : SE g O H0 xi W T X (.Call (.Name x p) (e :: es) [] pos) (.bi b cs) := by
  have h1 : notStar e = true ∧ es.all notStar = true := by simpa using hs
  cases hh : (T.hot && !b.hot) with
  | true =>
    exact PE.by' PE.stk fun σ H Q ⟨ρ, I, q⟩ => by
      simp only [evE] at q
      rw [if_pos hh] at q
      exact q
  | false => exact PE.by' (pe_callTy (hc hh) hg hm hv ha hn hdb (star_cons h1.1) (back_any h1.2)) fun σ H Q ⟨ρ, I, q⟩ => ⟨ρ, I, by
    simp only [evE] at q
    rw [if_neg (by rw [hh]; decide)] at q
    exact LdE.bindG q fun ds H1 _ s1 q1 vs r => ⟨_, ds, I.trkO.same s1, r, LdE.v q1 biD_ne⟩⟩
/-! ### isinstance -/
def Ty.nm : Ty → String
  | .int => "int" | .bool => "bool" | .str => "str" | .tuple => "tuple" | .list => "list" | .dict => "dict"
theorem tup_tyx {K : PySem.W.Frag} {H : Hp} {a : Addr} {vs : List V} (s : SqT K H a vs) : TyX K H (.ref a) (.type "tuple") := by
  rcases s with (e | ⟨o, e⟩) | ⟨o, its, n, e, c, _⟩
  · exact .base (.tup e)
  · exact .fTuple e
  · exact .kTuple e c
def D.tyn : D → String
  | .non => "NoneType" | .bl _ => "bool" | .int _ => "int" | .str _ => "str" | .tup _ => "tuple" | .lst _ => "list" | .frl _ => "list" | .dct _ => "dict" | .obj _ _ => "object" | .rng _ _ => "range"
theorem tyx_of {K : PySem.W.Frag} {OO : Addr → Prop} {H : Hp} {v : V} {d : D} (r : RepB K OO H v d) (nr : d.isRng = false) : TyX K H v (.type d.tyn) := by
  cases r with
  | of r =>
    cases r with
    | non => exact .base .non
    | bl b => exact .base (.bl b)
    | int i => exact .base (.int i)
    | str h => exact .base (.str _)
    | tup l s r => exact tup_tyx s
    | lst l n s r => exact .base (.lst s)
    | frl l s r =>
      rcases s with ⟨o, e⟩ | ⟨o, its, n, e, c, _⟩
      · exact .base (.frz e)
      · exact .kList e c
    | rng s => simp [D.isRng] at nr
  | own l s r => exact .base (.lst s)
theorem kit_all {K : PySem.W.Frag} (d : D) (t : Ty) (h : d.tyn ≠ "object") : PySem.W.kitOne K (.type d.tyn) (.type t.nm) = some (d.isTy t) := by
  cases d <;> first | (exact (h rfl).elim) | skip
  all_goals cases t
  all_goals (refine kit_ty ?_; simp only [D.tyn, Ty.nm, D.isTy]; decide +kernel)
theorem s_isi (hK : X.K = g.K) {e : Expr} {c : CE} {t : Ty} {x y : Str} {p p2 pos : Pos} (h : SB g O H0 xi W T X e c) (hg : Gl X "isinstance") (hm : X.mg "isinstance" = none) (hg2 : Gl X y) (hm2 : X.mg y = none) (hv2 : bootBuiltins y = some (.type t.nm)) (hs : notStar e = true)
    (hn2 : y ≠ "__name__") (hdb2 : (y == ("__debug__" : Str)) = false) : SE g O H0 xi W T X (.Call (.Name "isinstance" p) [e, .Name y p2] [] pos) (.isi c t) :=
  PE.by' (pe_callB call_isi hg hm (by decide +kernel) (pa_cons h (pa_cons (pe_bltn (v := .ty t.nm) hg2 hm2 hv2 rfl hn2 hdb2) pa_nil rfl) (star_cons hs)) (by decide) (by decide) (star_cons hs) rfl) fun σ H Q ⟨ρ, I, q⟩ => ⟨ρ, I, by
    simp only [evE] at q
    exact LdE.bindB q fun d v H1 _ s1 r1 q1 => by
      unfold isiD at q1
      cases nr : d.isRng with
      | true => rw [nr, if_pos rfl] at q1; exact q1.elim
      | false =>
      rw [nr, if_neg (by decide)] at q1
      have hne : d.tyn ≠ "object" := by
        cases r1 with
        | of r => cases r <;> simp [D.tyn]
        | own _ _ _ => simp [D.tyn]
      exact ⟨v, .ty t.nm, .type d.tyn, .type t.nm, d.isTy t, rfl, .ty _, by rw [hK]; exact tyx_of r1 nr, kit_all d t hne, q1 _ H1 (Same.refl H1) (.bl _)⟩⟩
end
end Ev
end
section
set_option Elab.async false
set_option linter.all false
set_option maxRecDepth 100000
set_option maxHeartbeats 2000000
namespace Ev
open PySem PySem.Spec PyProof.Rows L2

/-! ## slots are set -/
section
variable {g : Cfg} {O : Addr → Prop} {H0 H H' : Hp} {xi : Option XI} {σ σ' : St} {ρ ρ' : Rho} {W : WX} {X : Cx} {T : Tb}
theorem own_set {i : Nat} {v : Option V} {s : Slot} (hs : ∀ xs, s ≠ .own xs) (hl : ρ.length = σ.length) : ∀ a, Own O (σ.set i v) (ρ.set i s) a → Own O σ ρ a := by
  rintro a (h | ⟨j, xs, h1, h2⟩)
  · exact .inl h
  · by_cases hj : i = j
    · subst hj
      by_cases hi : i < ρ.length
      · rw [List.getElem?_set_self hi] at h1
        injection h1 with h1
        exact (hs xs h1).elim
      · rw [List.getElem?_eq_none (by simpa using hi)] at h1
        cases h1
    · rw [List.getElem?_set_ne hj] at h1 h2
      exact .inr ⟨j, xs, h1, h2⟩
theorem set_none_or {α : Type} {l : List α} {i j : Nat} {a b : α} (h : (l.set i a)[j]? = some b) : (i = j ∧ a = b ∧ i < l.length) ∨ (i ≠ j ∧ l[j]? = some b) := by
  by_cases hj : i = j
  · subst hj
    by_cases hi : i < l.length
    · rw [List.getElem?_set_self hi] at h
      injection h with h
      exact .inl ⟨rfl, h, hi⟩
    · rw [List.getElem?_eq_none (by simpa using hi)] at h
      cases h
  · rw [List.getElem?_set_ne hj] at h
    exact .inr ⟨hj, h⟩
theorem XF.less {O O' : Addr → Prop} {c : Nat} {fs : List D} {d : Addr} (h : ∀ a, O' a → O a) (x : XF g O H c fs d) : XF g O' H c fs d := by
  obtain ⟨fl, e, q⟩ := x
  refine ⟨fl, e, fun j n hj => ?_⟩
  obtain ⟨v, e, h1, h2, h3⟩ := q j n hj
  exact ⟨v, e, h1, h2, h3.less h⟩
/-- a slot gets a value, or is emptied -/
theorem EI.put (I : EI g O H0 xi σ H ρ) {i : Nat} {v : Option V} {s : Slot} (hs : ∀ xs, s ≠ .own xs) (hv : ∀ d, s = .val d → ∃ w, v = some w ∧ Rep g.K (Own O σ ρ) H w d)
    (hx : ∀ c fs, s = .exc c fs → ∃ x, xi = some x ∧ x.c = c ∧ x.fs = fs ∧ v = some (.ref x.a) ∧ XF g (Own O σ ρ) H c fs x.d) : EI g O H0 xi (σ.set i v) H (ρ.set i s) := by
  have sub := own_set (O := O) (i := i) (v := v) hs I.len
  refine ⟨by rw [List.length_set, List.length_set]; exact I.len, I.same, I.trk, fun j d e => ?_, fun j xs e => ?_, fun j k xs ys a e1 e2 e3 e4 => ?_, fun j c fs e => ?_⟩
  · rcases set_none_or e with ⟨rfl, e1, hi⟩ | ⟨hj, e⟩
    · obtain ⟨w, rfl, r⟩ := hv d e1
      exact ⟨w, List.getElem?_set_self (by rw [← I.len]; exact hi), r.less sub⟩
    · obtain ⟨w, h1, h2⟩ := I.val j d e
      exact ⟨w, by rw [List.getElem?_set_ne hj]; exact h1, h2.less sub⟩
  · rcases set_none_or e with ⟨rfl, e1, hi⟩ | ⟨hj, e⟩
    · exact (hs xs e1).elim
    · obtain ⟨a, vs, h1, h2, h3, h4, h5⟩ := I.own j xs e
      exact ⟨a, vs, by rw [List.getElem?_set_ne hj]; exact h1, h2, h3, h4.less sub, h5⟩
  · rcases set_none_or e1 with ⟨rfl, e1, hi⟩ | ⟨hj, e1⟩
    · exact (hs xs e1).elim
    · rcases set_none_or e2 with ⟨rfl, e2, hi⟩ | ⟨hk, e2⟩
      · exact (hs ys e2).elim
      · rw [List.getElem?_set_ne hj] at e3
        rw [List.getElem?_set_ne hk] at e4
        exact I.inj j k xs ys a e1 e2 e3 e4
  · rcases set_none_or e with ⟨rfl, e1, hi⟩ | ⟨hj, e⟩
    · obtain ⟨x, h1, h2, h3, h4, h5⟩ := hx c fs e1
      exact ⟨x, h1, h2, h3, by rw [h4]; exact List.getElem?_set_self (by rw [← I.len]; exact hi), h5.less sub⟩
    · obtain ⟨x, h1, h2, h3, h4, h5⟩ := I.exc j c fs e
      exact ⟨x, h1, h2, h3, by rw [List.getElem?_set_ne hj]; exact h4, h5.less sub⟩
theorem EI.set (I : EI g O H0 xi σ H ρ) {i : Nat} {v : V} {d : D} (r : Rep g.K (Own O σ ρ) H v d) : EI g O H0 xi (σ.set i (some v)) H (ρ.set i (.val d)) :=
  I.put (fun _ h => nomatch h) (fun d' h => ⟨v, rfl, by cases h; exact r⟩) fun _ _ h => nomatch h
theorem EI.wipe1 (I : EI g O H0 xi σ H ρ) {i : Nat} {v : Option V} : EI g O H0 xi (σ.set i v) H (ρ.set i .none) :=
  I.put (fun _ h => nomatch h) (fun d' h => nomatch h) fun _ _ h => nomatch h
/-- several targets -/
theorem own_same {i : Nat} {v : Option V} {s : Slot} (hn : isOwn ρ[i]? = false) : ∀ a, Own O σ ρ a → Own O (σ.set i v) (ρ.set i s) a := by
  rintro a (h | ⟨j, xs, h1, h2⟩)
  · exact .inl h
  · have hj : i ≠ j := fun e => by subst e; rw [h1] at hn; simp [isOwn] at hn
    exact .inr ⟨j, xs, by rw [List.getElem?_set_ne hj]; exact h1, by rw [List.getElem?_set_ne hj]; exact h2⟩
/-! ## targets -/
def Tgt.slots : Tgt → List Nat
  | .nm i => [i]
  | .tp is => is
def rG (g : Cfg) (O : Addr → Prop) (H0 : Hp) (xi : Option XI) (tg : Tgt) : TG := fun v σ H Q => ∃ ρ d ρ1, EI g O H0 xi σ H ρ ∧ Rep g.K (Own O σ ρ) H v d ∧ bindT tg d ρ = .ok ρ1 ∧ (∀ σ1, EI g O H0 xi σ1 H ρ1 → (∀ a, Own O σ1 ρ1 a → Own O σ ρ a) → ((tgOwn ρ tg = false) → ∀ a, Own O σ ρ a → Own O σ1 ρ1 a) → (∀ (j : Nat), tg.slots.contains j = false → σ1[j]? = σ[j]? ∧ ρ1[j]? = ρ[j]?) → σ1.length = σ.length → Q σ1 H)
theorem PG.by' {X : Cx} {e : Expr} {t t' : TG} (h : PG X e t) (i : ∀ v σ H Q, t' v σ H Q → t v σ H Q) : PG X e t' := ⟨fun pins s σ H v u Q I r q => h.run pins s σ H v u Q I r (i v σ H Q q)⟩
theorem sg_name {i : Nat} {x : Str} {pos : Pos} (hN : X.N.Nodup) (hi : X.N[i]? = some x) (hx : Loc X.env.scope x) (hf : X.fn x = true ∨ X.env.scope.names.lookup x = some .local) : PG X (.Name x pos) (rG g O H0 xi (.nm i)) :=
  PG.by' (pg_name (pos := pos) hN hi hx hf) fun v σ H Q ⟨ρ, d, ρ1, I, r, e, q⟩ => by
    simp only [bindT] at e
    cases e
    refine q _ (I.set r) (own_set (fun _ h => nomatch h) I.len) (fun hn => own_same hn) (fun j hj => ?_) (List.length_set ..)
    have hj : i ≠ j := by
      intro e
      subst e
      simp [Tgt.slots] at hj
    exact ⟨List.getElem?_set_ne hj, List.getElem?_set_ne hj⟩
def rGs (g : Cfg) (O : Addr → Prop) (H0 : Hp) (xi : Option XI) (is : List Nat) : TGs := fun vs σ H Q => ∃ ρ ds ρ1, EI g O H0 xi σ H ρ ∧ Reps g.K (Own O σ ρ) H vs ds ∧ setAll is ds ρ = .ok ρ1 ∧ (∀ σ1, EI g O H0 xi σ1 H ρ1 → (∀ a, Own O σ1 ρ1 a → Own O σ ρ a) → ((is.any fun i => isOwn ρ[i]?) = false → ∀ a, Own O σ ρ a → Own O σ1 ρ1 a) → (∀ (j : Nat), is.contains j = false → σ1[j]? = σ[j]? ∧ ρ1[j]? = ρ[j]?) → σ1.length = σ.length → Q σ1 H)
theorem PGs.by' {X : Cx} {e : List Expr} {t t' : TGs} (h : PGs X e t) (i : ∀ v σ H Q, t' v σ H Q → t v σ H Q) : PGs X e t' := ⟨fun pins s σ H v u Q I r q => h.run pins s σ H v u Q I r (i v σ H Q q)⟩
theorem sgs_nil : PGs X [] (rGs g O H0 xi []) := PGs.by' pgs_nil fun vs σ H Q ⟨ρ, ds, ρ1, I, r, e, q⟩ => by
  cases ds with
  | nil =>
    cases r
    simp only [setAll] at e
    cases e
    exact ⟨rfl, q σ I (fun _ h => h) (fun _ _ h => h) (fun _ _ => ⟨rfl, rfl⟩) rfl⟩
  | cons d ds => simp [setAll] at e
theorem assignE_cons {e : Expr} {es : List Expr} {env : Env} (h : notStar e = true) : (assignEach (e :: es) env).map (·.2) = assign e env :: (assignEach es env).map (·.2) := by
  cases e <;> first | rfl | (simp [notStar] at h)
theorem sgs_cons {i : Nat} {is : List Nat} {x : Str} {es : List Expr} {pos : Pos} (hN : X.N.Nodup) (hi : X.N[i]? = some x) (hx : Loc X.env.scope x) (hf : X.fn x = true ∨ X.env.scope.names.lookup x = some .local) (h : PGs X es (rGs g O H0 xi is)) : PGs X (.Name x pos :: es) (rGs g O H0 xi (i :: is)) :=
  PGs.by' (pgs_cons (sg_name hN hi hx hf) h (assignE_cons rfl)) fun vs σ H Q ⟨ρ, ds, ρ1, I, r, e, q⟩ => by
    cases ds with
    | nil => simp [setAll] at e
    | cons d ds =>
      cases r with
      | @cons v _ vs _ r rr =>
        simp only [setAll] at e
        refine ⟨v, vs, rfl, ρ, d, ρ.set i (.val d), I, r, rfl, fun σ1 I1 s1 n1 k1 l1 => ⟨ρ.set i (.val d), ds, ρ1, I1, rr.less s1, e, fun σ2 I2 s2 n2 k2 l2 => ?_⟩⟩
        refine q σ2 I2 (fun a h => s1 a (s2 a h)) (fun hn a h => ?_) (fun j hj => ?_) (l2.trans l1)
        · simp only [List.any_cons, Bool.or_eq_false_iff] at hn
          refine n2 ?_ a (n1 hn.1 a h)
          rw [List.any_eq_false] at hn ⊢
          intro k hk
          have := hn.2 k hk
          by_cases hki : i = k
          · subst hki
            by_cases hlt : i < ρ.length
            · rw [List.getElem?_set_self hlt]; simp [isOwn]
            · rw [List.getElem?_eq_none (by simpa using hlt)]; simp [isOwn]
          · rw [List.getElem?_set_ne hki]; exact this
        · simp only [List.contains_cons, Bool.or_eq_false_iff] at hj
          have hij : i ≠ j := by
            intro e
            subst e
            simp at hj
          have a1 := k1 j (by simp [Tgt.slots, hij.symm])
          have a2 := k2 j hj.2
          exact ⟨a2.1.trans a1.1, a2.2.trans (List.getElem?_set_ne hij)⟩
theorem sg_tup (hK : X.K = g.K) {es : List Expr} {is : List Nat} {k : Nat} {pos : Pos} (hc : X.calm = true) (h : PGs X es (rGs g O H0 xi is)) (hl : es.length = is.length) (hs : es.all notStar = true) : PG X (.Tuple es k pos) (rG g O H0 xi (.tp is)) := by
  have e1 : (assignEach es X.env).length = is.length ∧ (assignEach es X.env).findIdx? (·.1) = none := by
    rw [← hl]
    clear h hl
    induction es with
    | nil => exact ⟨rfl, rfl⟩
    | cons e r ih =>
      simp only [List.all_cons, Bool.and_eq_true] at hs
      have e2 : assignEach (e :: r) X.env = (false, assign e X.env) :: assignEach r X.env := by cases e <;> first | rfl | (simp [notStar] at hs)
      rw [e2]
      refine ⟨by simp [(ih hs.2).1], ?_⟩
      rw [List.findIdx?_cons]
      simp [(ih hs.2).2]
  exact PG.by' (pg_tup hc h e1.1 e1.2) fun v σ H Q ⟨ρ, d, ρ1, I, r, e, q⟩ => by
    cases d <;> try (simp only [bindT] at e; cases e; done)
    cases r with
    | @tup a vs ds ll s rr =>
      simp only [bindT] at e
      have hlen : ∀ {is : List Nat} {ds : List D} {ρ ρ1 : Rho}, setAll is ds ρ = .ok ρ1 → ds.length = is.length := by
        intro is
        induction is with
        | nil => intro ds ρ ρ1 h; cases ds with
          | nil => rfl
          | cons _ _ => simp [setAll] at h
        | cons i is ih => intro ds ρ ρ1 h; cases ds with
          | nil => simp [setAll] at h
          | cons d ds => simp only [setAll] at h; simp [ih h]
      exact ⟨a, vs, rfl, by rw [hK]; exact s, by rw [rr.length, hlen e], ρ, _, ρ1, I, rr, e, fun σ1 I1 s1 n1 k1 l1 => q σ1 I1 s1 n1 k1 l1⟩
end
end Ev
end
section
set_option Elab.async false
set_option linter.all false
set_option maxRecDepth 100000
set_option maxHeartbeats 2000000
namespace Ev
open PySem PySem.Spec PyProof.Rows L2

/-! ## calls of defs -/
section
variable {g : Cfg} {O : Addr → Prop} {H0 H H' : Hp} {xi : Option XI} {σ σ' : St} {ρ ρ' : Rho} {W : WX} {X : Cx} {T : Tb}
/-- the promise of the def number j -/
def spF (g : Cfg) (T : Tb) (j np : Nat) : Sp := fun vs H Q E => vs.length = np ∧ ∃ O ds, Trk O H ∧ Reps g.K O H vs ds ∧ (match T.call T.hot j ds with
  | .ok d => ∀ v H', Same H H' → Rep g.K O H' v d → Q v H'
  | .err c fs => ∀ d H', Same H H' → XF g O H' c fs d → E (.ref (g.cAd c)) (some d) H'
  | .stuck => False)
structure FnF (g : Cfg) (T : Tb) (k j : Nat) (x : Str) (ps : List Str) : Prop where
  ok : T.hot = false → FnOk g.P g.w g.K g.mg g.base (L2N.CX g.P g.w) k (g.fAd j) (g.fFd j) ps (spF g T j ps.length)
  hk : T.hot = true → L2H.FnH g.P g.w g.K g.mg g.base (L2N.CX g.P g.w) k (g.fAd j) (g.fFd j) ps (spF g T j ps.length)
  mg : g.mg x = some (.ref (g.fAd j))
  kp : PySem.W.keepIn g.K (.ref (g.fAd j)) = true
  bd : Binds g.K (g.fFd j) ps []
/-- where an exception is handled or where none is, with room for k calls -/
structure Md (T : Tb) (k : Nat) (X : Cx) : Prop where
  cold : T.hot = false → X.calm = true ∧ Room k X.A
  hot : T.hot = true → L2H.HotC X ∧ L2H.RoomH k X.A
/-- how X belongs to g -/
structure Of (g : Cfg) (X : Cx) : Prop where
  P : X.prog = g.P
  w : X.w = g.w
  K : X.K = g.K
  mg : X.mg = g.mg
  base : X.base = g.base
theorem RepBs.clean {K : PySem.W.Frag} {OO : Addr → Prop} {H : Hp} : ∀ {vs : List V} {ds : List D}, RepBs K OO H vs ds → Reps K (fun _ => False) H vs ds
  | _, _, Paired.nil => .nil
  | _, _, Paired.cons r t => .cons (by
      cases r with
      | of r => exact r.less fun _ h => h.elim
      | own l s r => exact .lst l (fun h => h) s (r.less fun _ h => h.elim)) (RepBs.clean t)
/-- arguments, telling whether all are clean -/
def rAC (g : Cfg) (O : Addr → Prop) (H0 : Hp) (xi : Option XI) (W : WX) (f : Rho → R (List D)) (b : Rho → Bool) : TA := fun σ H Q => ∃ ρ, EI g O H0 xi σ H ρ ∧ LdG g W (Own O σ ρ) σ H (f ρ) (fun ds H' => ∀ vs, RepBs g.K (Own O σ ρ) H' vs ds → (b ρ = false → Reps g.K (Own O σ ρ) H' vs ds) → Q vs H')
abbrev SAC (g : Cfg) (O : Addr → Prop) (H0 : Hp) (xi : Option XI) (W : WX) (T : Tb) (X : Cx) (es : List Expr) (cs : List CE) : Prop := PA X es (rAC g O H0 xi W (evBs T cs) fun ρ => cs.any (ownArg ρ))
theorem s_nilC : SAC g O H0 xi W T X [] [] := PA.by' pa_nil fun σ H Q ⟨ρ, I, q⟩ => q H (Same.refl H) [] Paired.nil fun _ => .nil
theorem s_consC {e : Expr} {es : List Expr} {c : CE} {cs : List CE} (h1 : SB g O H0 xi W T X e c) (h2 : SAC g O H0 xi W T X es cs) (hs : notStar e = true) : SAC g O H0 xi W T X (e :: es) (c :: cs) :=
  PA.by' (pa_cons h1 h2 (star_cons hs)) fun σ H Q ⟨ρ, I, q⟩ => ⟨ρ, I, LdG.bindC q fun x v H1 _ s1 r1 z1 q1 => ⟨ρ, I.more s1, LdG.bindG q1 fun xs H2 _ s2 q2 vs r2 z2 => q2 H2 (Same.refl H2) (v :: vs) (Paired.cons (r1.gro s2) r2) fun h => by
    simp only [List.any_cons, Bool.or_eq_false_iff] at h
    exact .cons ((z1 h.1).gro (Gro.of s2)) (z2 h.2)⟩⟩
theorem noLL_get : ∀ {fs : List D} {j : Nat} {e : D}, D.noLL fs = true → fs[j]? = some e → e.noL = true
  | [], _, _, _, h => by simp at h
  | f :: fs, 0, e, hn, h => by
    simp only [D.noLL, Bool.and_eq_true] at hn
    simp at h; rw [← h]; exact hn.1
  | f :: fs, j + 1, e, hn, h => by
    simp only [D.noLL, Bool.and_eq_true] at hn
    exact noLL_get hn.2 (j := j) (by simpa using h)
/-- a result of a call, as the caller has it -/
theorem call_out {b : Bool} {r : R D} {OO : Addr → Prop} {vs : List V} {ds : List D} {j np : Nat} {Q : VK} (hr : T.call T.hot j ds = r) (t : Trk OO H) (hl : vs.length = np) (rb : RepBs g.K OO H vs ds) (rc : b = false → Reps g.K OO H vs ds)
    (q : LdE g W OO σ H (guardL b r) Q) : spF g T j np vs H Q (WE W σ) := by
  refine ⟨hl, ?_⟩
  cases b with
  | false =>
    refine ⟨OO, ds, t, rc rfl, ?_⟩
    rw [hr]
    cases r with
    | ok d => exact fun v H' s x => q v H' s x
    | err c fs => exact fun d H' s x => q d H' s x
    | stuck => exact q
  | true =>
    refine ⟨fun _ => False, ds, fun _ h => h.elim, rb.clean, ?_⟩
    rw [hr]
    cases r with
    | ok d =>
      simp only [guardL, Bool.true_and] at q
      intro v H' s x
      cases hn : d.noL with
      | true => rw [hn] at q; exact q v H' s (x.any hn)
      | false => rw [hn] at q; exact q.elim
    | err c fs =>
      simp only [guardL, Bool.true_and] at q
      intro d H' s ⟨fl, e, x⟩
      cases hn : D.noLL fs with
      | true =>
        rw [hn] at q
        refine q d H' s ⟨fl, e, fun j n hj => ?_⟩
        obtain ⟨v, e, h1, h2, h3⟩ := x j n hj
        exact ⟨v, e, h1, h2, h3.any (noLL_get hn h1)⟩
      | false => rw [hn] at q; exact q.elim
    | stuck => exact q
theorem evBs_len : ∀ {cs : List CE} {ρ : Rho} {ds : List D}, evBs T cs ρ = .ok ds → ds.length = cs.length
  | [], ρ, ds, h => by simp only [evBs] at h; cases h; rfl
  | c :: cs, ρ, ds, h => by
    simp only [evBs] at h
    cases h1 : bor c ρ (evE T c ρ) with
    | ok x =>
      rw [h1] at h
      cases h2 : evBs T cs ρ with
      | ok xs => rw [h2] at h; cases h; simp [evBs_len h2]
      | err k fs => rw [h2] at h; cases h
      | stuck => rw [h2] at h; cases h
    | err k fs => rw [h1] at h; cases h
    | stuck => rw [h1] at h; cases h
theorem s_call {k j : Nat} {x : Str} {ps : List Str} {e : Expr} {es : List Expr} {cs : List CE} {p pos : Pos} (F : FnF g T k j x ps) (hX : Of g X) (hr : Md T k X) (tk : L2N.Takes X W) (hg : Gl X x) (ha : SAC g O H0 xi W T X (e :: es) cs) (hs : (e :: es).all notStar = true) (hl : cs.length = ps.length)
    (hdb : (x == ("__debug__" : Str)) = false) : SE g O H0 xi W T X (.Call (.Name x p) (e :: es) [] pos) (.call j cs) := by
  have h1 : notStar e = true ∧ es.all notStar = true := by simpa using hs
  have post : ∀ σ H Q, rE g O H0 xi W (evE T (.call j cs)) σ H Q → rAC g O H0 xi W (evBs T cs) (fun ρ => cs.any (ownArg ρ)) σ H fun vs H1 => spF g T j ps.length vs H1 Q (WE W σ) := fun σ H Q ⟨ρ, I, q⟩ => ⟨ρ, I, by
    simp only [evE] at q
    exact LdE.bindG q fun ds H1 e1 s1 q1 vs r z => call_out rfl (I.trkO.same s1) (by rw [Paired.length r, evBs_len e1, hl]) r z q1⟩
  cases hh : T.hot with
  | false =>
    have F' : FnOk X.prog X.w X.K X.mg X.base (L2N.CX X.prog X.w) k (g.fAd j) (g.fFd j) ps (spF g T j ps.length) := by rw [hX.P, hX.w, hX.K, hX.mg, hX.base]; exact F.ok hh
    exact PE.by' (pe_callS F' (hr.cold hh).2 hg (by rw [hX.mg]; exact F.mg) (by rw [hX.K]; exact F.kp) (by rw [hX.K]; exact F.bd) (fun σ => L2N.passAt tk σ) ha hdb (star_cons h1.1) (back_any h1.2)) post
  | true =>
    have F' : L2H.FnH X.prog X.w X.K X.mg X.base (L2N.CX X.prog X.w) k (g.fAd j) (g.fFd j) ps (spF g T j ps.length) := by rw [hX.P, hX.w, hX.K, hX.mg, hX.base]; exact F.hk hh
    exact PE.by' (L2H.pe_callH F' (hr.hot hh).2 (hr.hot hh).1 hg (by rw [hX.mg]; exact F.mg) (by rw [hX.K]; exact F.kp) (by rw [hX.K]; exact F.bd) (fun σ => L2N.passAt tk σ) ha hdb (star_cons h1.1) (back_any h1.2)) post
/-! ### with keywords -/
structure KwF (g : Cfg) (j : Nat) (ps : List Str) (n : Nat) (ks : List Str) (perm : List Nat) : Prop where
  b : KBn g.K (g.fFd j) ps n ks (fun us ws => perm.map fun i => (us ++ ws).getD i .none) (fun vs zs => perm.map fun i => (vs ++ zs).getD i .non)
  hp : perm.length = ps.length
theorem run_kw {CX : CXT} {k n : Nat} {f : Addr} {fd : FuncData} {ps ks : List Str} {sp : Sp} {E : St → XK} {gg : List Value → List Value → List Value} {gV : List V → List V → List V} {pins : List (Addr × Obj)} {s : Shared} {Q : VK} {us ws : List Value} {vs zs : List V}
    (F : FnOk X.prog X.w X.K X.mg X.base CX k f fd ps sp) (hr : Room k X.A) (hb : KBn X.K fd ps n ks gg gV) (hx : PassesAt CX X σ (E σ)) (I : Inv X pins σ H s) (r : Vals vs us) (rz : Vals zs ws) (l1 : vs.length = n) (l2 : zs.length = ks.length) (h : sp (gV vs zs) H Q (E σ)) :
    wpAny (model X.prog X.w) X.A (call (.ref f) us (ks.zip ws)) (EP X pins σ Q) X.xe s := by
  refine wpAny_call (codeAny_mono (F.run X.A X.stack s H ⟨us, ks.zip ws⟩ (gg us ws) (gV vs zs) Q (E σ) hr I.env0 (hb.to s us ws I.kIn (r.length.symm.trans l1) (rz.length.symm.trans l2)) (hb.rel r rz) h) fun res s' hq => ?_)
  match res, hq with
  | .error e, hq => exact hx pins H s e s' I hq
  | .ok (.ret u), hq => exact I.after hq
def tCallKS (n m : Nat) (sp : Sp) (gV : List V → List V → List V) (E : St → XK) (t tk : TA) : TE := fun σ H Q => t σ H fun vs H1 => tk σ H1 fun zs H2 => vs.length = n ∧ zs.length = m ∧ sp (gV vs zs) H2 Q (E σ)
theorem pe_kw {CX : CXT} {k n : Nat} {f : Addr} {fd : FuncData} {ps ks : List Str} {sp : Sp} {E : St → XK} {x : Str} {p pos : Pos} {e : Expr} {es : List Expr} {kws : List Keyword} {t tk : TA} {gg : List Value → List Value → List Value} {gV : List V → List V → List V}
    (F : FnOk X.prog X.w X.K X.mg X.base CX k f fd ps sp) (hr : Room k X.A) (hg : Gl X x) (hm : X.mg x = some (.ref f)) (hk : PySem.W.keepIn X.K (.ref f) = true) (hb : KBn X.K fd ps n ks gg gV) (hx : ∀ σ, PassesAt CX X σ (E σ)) (ha : PA X (e :: es) t) (hkw : PK X kws tk)
    (hall : (backToKw pos (keywordEach kws X.env)).all (·.1.isSome) = true) (hks : (backToKw pos (keywordEach kws X.env)).filterMap (·.1) = ks) (hdb : (x == ("__debug__" : Str)) = false) (he : starEach (e :: es) X.env = (false, eval e X.env) :: starEach es X.env)
    (hpl : ((backTo pos (starEach (e :: es) X.env)).any (·.1) || (backToKw pos (keywordEach kws X.env)).any (·.1.isNone)) = false) : PE X (.Call (.Name x p) (e :: es) kws pos) (tCallKS n ks.length sp gV E t tk) := by
  refine ⟨fun pins s σ H Q I h => wpAny_Call_Name_kw (ld_glob I hg hm ?_ hdb)⟩
  refine PySem.W.callWith_KW (h₀ := X.base) I.ok.mod.kin hk hall (thn (ha.run pos pins s σ H _ I h) fun us s1 ⟨vs, H1, I1, r, q⟩ => ?_) hpl he
  refine thn (hkw.run pos pins s1 σ H1 _ I1 q) fun ws s2 ⟨zs, H2, I2, rz, l1, l2, q2⟩ => ⟨I2.kIn, ?_⟩
  rw [hks]
  exact run_kw F hr hb (hx σ) I2 r rz l1 l2 q2
theorem pe_kw0 {CX : CXT} {k : Nat} {f : Addr} {fd : FuncData} {ps ks : List Str} {sp : Sp} {E : St → XK} {x : Str} {p pos : Pos} {kws : List Keyword} {tk : TA} {gg : List Value → List Value → List Value} {gV : List V → List V → List V}
    (F : FnOk X.prog X.w X.K X.mg X.base CX k f fd ps sp) (hr : Room k X.A) (hg : Gl X x) (hm : X.mg x = some (.ref f)) (hk : PySem.W.keepIn X.K (.ref f) = true) (hb : KBn X.K fd ps 0 ks gg gV) (hx : ∀ σ, PassesAt CX X σ (E σ)) (hkw : PK X kws tk)
    (hall : (backToKw pos (keywordEach kws X.env)).all (·.1.isSome) = true) (hks : (backToKw pos (keywordEach kws X.env)).filterMap (·.1) = ks) (hdb : (x == ("__debug__" : Str)) = false)
    (hpl : ((backTo pos (starEach [] X.env)).any (·.1) || (backToKw pos (keywordEach kws X.env)).any (·.1.isNone)) = false) : PE X (.Call (.Name x p) [] kws pos) (tCallKS 0 ks.length sp gV E tNil tk) := by
  refine ⟨fun pins s σ H Q I h => wpAny_Call_Name_kw (ld_glob I hg hm ?_ hdb)⟩
  refine PySem.W.callWith_KW0 (h₀ := X.base) I.ok.mod.kin hk hall ?_ hpl
  refine thn (hkw.run pos pins s σ H _ I h) fun ws s2 ⟨zs, H2, I2, rz, l1, l2, q2⟩ => ⟨I2.kIn, ?_⟩
  rw [hks]
  exact run_kw F hr hb (hx σ) I2 .nil rz l1 l2 q2
theorem PK.by' {X : Cx} {e : List Keyword} {t t' : TA} (h : PK X e t) (i : ∀ σ H Q, t' σ H Q → t σ H Q) : PK X e t' := ⟨fun pos pins s σ H Q I q => h.run pos pins s σ H Q I (i σ H Q q)⟩
abbrev SK (g : Cfg) (O : Addr → Prop) (H0 : Hp) (xi : Option XI) (W : WX) (T : Tb) (X : Cx) (es : List Keyword) (cs : List CE) : Prop := PK X es (rAC g O H0 xi W (evBs T cs) fun ρ => cs.any (ownArg ρ))
theorem s_knil : SK g O H0 xi W T X [] [] := PK.by' pk_nil fun σ H Q ⟨ρ, I, q⟩ => q H (Same.refl H) [] Paired.nil fun _ => .nil
theorem s_kcons {nm : Option Str} {e : Expr} {kp : Pos} {es : List Keyword} {c : CE} {cs : List CE} (h1 : SB g O H0 xi W T X e c) (h2 : SK g O H0 xi W T X es cs) : SK g O H0 xi W T X (⟨nm, e, kp⟩ :: es) (c :: cs) :=
  PK.by' (pk_cons h1 h2) fun σ H Q ⟨ρ, I, q⟩ => ⟨ρ, I, LdG.bindC q fun x v H1 _ s1 r1 z1 q1 => ⟨ρ, I.more s1, LdG.bindG q1 fun xs H2 _ s2 q2 vs r2 z2 => q2 H2 (Same.refl H2) (v :: vs) (Paired.cons (r1.gro s2) r2) fun h => by
    simp only [List.any_cons, Bool.or_eq_false_iff] at h
    exact .cons ((z1 h.1).gro (Gro.of s2)) (z2 h.2)⟩⟩
theorem paired_get {α β : Type} {F : α → β → Prop} : ∀ {l : List α} {m : List β} {i : Nat} {b : β}, Paired F l m → m[i]? = some b → ∃ a, l[i]? = some a ∧ F a b
  | _, _, _, _, .nil, e => by simp at e
  | _, _, 0, _, .cons r _, e => by simp at e; subst e; exact ⟨_, rfl, r⟩
  | _, _, i + 1, b, .cons _ t, e => by
    obtain ⟨a, h1, h2⟩ := paired_get (i := i) (b := b) t (by simpa using e)
    exact ⟨a, by simpa using h1, h2⟩
theorem pick_repB {K : PySem.W.Frag} {OO : Addr → Prop} {vs : List V} {ds : List D} (r : RepBs K OO H vs ds) : ∀ {perm : List Nat} {ps : List D}, pick ds perm = .ok ps → RepBs K OO H (perm.map fun i => vs.getD i .non) ps
  | [], ps, h => by simp only [pick] at h; cases h; exact Paired.nil
  | i :: perm, ps, h => by
    simp only [pick] at h
    cases e : ds[i]? with
    | none => rw [e] at h; cases h
    | some d =>
      rw [e] at h
      cases h2 : pick ds perm with
      | ok q =>
        simp only [h2, ok_bind, pure_ok] at h
        cases h
        obtain ⟨v, e1, e2⟩ := paired_get r e
        refine Paired.cons ?_ (pick_repB r h2)
        show _
        simp only [List.getD_eq_getElem?_getD, e1, Option.getD_some]
        exact e2
      | err c fs => rw [h2] at h; cases h
      | stuck => rw [h2] at h; cases h
theorem pick_rep {K : PySem.W.Frag} {OO : Addr → Prop} {vs : List V} {ds : List D} (r : Reps K OO H vs ds) : ∀ {perm : List Nat} {ps : List D}, pick ds perm = .ok ps → Reps K OO H (perm.map fun i => vs.getD i .non) ps
  | [], ps, h => by simp only [pick] at h; cases h; exact .nil
  | i :: perm, ps, h => by
    simp only [pick] at h
    cases e : ds[i]? with
    | none => rw [e] at h; cases h
    | some d =>
      rw [e] at h
      cases h2 : pick ds perm with
      | ok q =>
        simp only [h2, ok_bind, pure_ok] at h
        cases h
        obtain ⟨v, e1, e2⟩ := r.getD e
        refine .cons ?_ (pick_rep r h2)
        show _
        simp only [List.getD_eq_getElem?_getD, e1, Option.getD_some]
        exact e2
      | err c fs => rw [h2] at h; cases h
      | stuck => rw [h2] at h; cases h
theorem RepBs.app {K : PySem.W.Frag} {OO : Addr → Prop} {H : Hp} : ∀ {vs ws : List V} {ds es : List D}, RepBs K OO H vs ds → RepBs K OO H ws es → RepBs K OO H (vs ++ ws) (ds ++ es)
  | _, _, _, _, Paired.nil, s => s
  | _, _, _, _, Paired.cons r t, s => Paired.cons r (RepBs.app t s)
theorem RepBs.gro {K : PySem.W.Frag} {OO : Addr → Prop} {H H' : Hp} (s : Same H H') : ∀ {vs : List V} {ds : List D}, RepBs K OO H vs ds → RepBs K OO H' vs ds
  | _, _, Paired.nil => Paired.nil
  | _, _, Paired.cons r t => Paired.cons (r.gro s) (RepBs.gro s t)
theorem pick_len {ds : List D} : ∀ {perm : List Nat} {ps : List D}, pick ds perm = .ok ps → ps.length = perm.length
  | [], ps, h => by simp only [pick] at h; cases h; rfl
  | i :: perm, ps, h => by
    simp only [pick] at h
    cases e : ds[i]? with
    | none => rw [e] at h; cases h
    | some d =>
      rw [e] at h
      cases h2 : pick ds perm with
      | ok q => simp only [h2, ok_bind, pure_ok] at h; cases h; simp [pick_len h2]
      | err c fs => rw [h2] at h; cases h
      | stuck => rw [h2] at h; cases h
theorem pick_ne {ds : List D} : ∀ {perm : List Nat} (c : Nat) (fs : List D), pick ds perm ≠ .err c fs
  | [], c, fs, h => by cases h
  | i :: perm, c, fs, h => by
    simp only [pick] at h
    cases e : ds[i]? with
    | none => rw [e] at h; cases h
    | some d =>
      rw [e] at h
      cases h2 : pick ds perm with
      | ok q => simp only [h2, ok_bind, pure_ok] at h; cases h
      | err c fs => exact pick_ne _ _ h2
      | stuck => rw [h2] at h; cases h
theorem kw_fin {j : Nat} {ps : List Str} {perm : List Nat} {OO : Addr → Prop} {b c : Bool} {vs zs : List V} {ds qs : List D} {Q : VK} (hp : perm.length = ps.length) (t : Trk OO H) (r : RepBs g.K OO H vs ds) (z : b = false → Reps g.K OO H vs ds) (r2 : RepBs g.K OO H zs qs) (z2 : c = false → Reps g.K OO H zs qs)
    (q : LdE g W OO σ H (pick (ds ++ qs) perm >>= fun ps => guardL (b || c) (T.call T.hot j ps)) Q) : spF g T j ps.length (perm.map fun i => (vs ++ zs).getD i .non) H Q (WE W σ) := by
  cases hpk : pick (ds ++ qs) perm with
  | ok us =>
    rw [hpk] at q
    exact call_out (b := b || c) rfl t (by rw [List.length_map, hp]) (pick_repB (r.app r2) hpk) (fun h => pick_rep ((z (by cases b <;> simp_all)).app (z2 (by cases c <;> simp_all))) hpk) q
  | err k fs => exact (pick_ne _ _ hpk).elim
  | stuck => rw [hpk] at q; exact q.elim
theorem s_kw {k j n : Nat} {x : Str} {ps ks : List Str} {perm : List Nat} {e : Expr} {es : List Expr} {kws : List Keyword} {cs qs : List CE} {p pos : Pos} (F : FnF g T k j x ps) (B : KwF g j ps n ks perm) (hX : Of g X) (hr : Md T k X) (tk : L2N.Takes X W) (hg : Gl X x)
    (ha : SAC g O H0 xi W T X (e :: es) cs) (hkw : SK g O H0 xi W T X kws qs) (hs : (e :: es).all notStar = true) (hl : cs.length = n) (hl2 : qs.length = ks.length) (hall : (backToKw pos (keywordEach kws X.env)).all (·.1.isSome) = true) (hks : (backToKw pos (keywordEach kws X.env)).filterMap (·.1) = ks)
    (hnone : (backToKw pos (keywordEach kws X.env)).any (·.1.isNone) = false) (hdb : (x == ("__debug__" : Str)) = false) : SE g O H0 xi W T X (.Call (.Name x p) (e :: es) kws pos) (.callk j cs qs perm) := by
  have h1 : notStar e = true ∧ es.all notStar = true := by simpa using hs
  cases hh : T.hot with
  | true =>
    exact PE.by' PE.stk fun σ H Q ⟨ρ, I, q⟩ => by
      simp only [evE] at q
      rw [if_pos hh] at q
      exact q
  | false =>
  have F' : FnOk X.prog X.w X.K X.mg X.base (L2N.CX X.prog X.w) k (g.fAd j) (g.fFd j) ps (spF g T j ps.length) := by rw [hX.P, hX.w, hX.K, hX.mg, hX.base]; exact F.ok hh
  have hst : (backTo pos (starEach (e :: es) X.env)).any (·.1) = false := back_any hs
  exact PE.by' (pe_kw F' (hr.cold hh).2 hg (by rw [hX.mg]; exact F.mg) (by rw [hX.K]; exact F.kp) (by rw [hX.K]; exact B.b) (fun σ => L2N.passAt tk σ) ha hkw hall hks hdb (star_cons h1.1) (by rw [hst, hnone] <;> rfl)) fun σ H Q ⟨ρ, I, q⟩ => ⟨ρ, I, by
    simp only [evE] at q
    rw [if_neg (by rw [hh]; decide)] at q
    exact LdE.bindG q fun ds H1 e1 s1 q1 vs r z => ⟨ρ, I.more s1, LdE.bindG q1 fun us H2 e2 s2 q2 ws r2 z2 => ⟨by rw [Paired.length r, evBs_len e1, hl], by rw [Paired.length r2, evBs_len e2, hl2], by
      rw [List.any_append] at q2
      exact kw_fin B.hp ((I.trkO.same s1).same s2) (r.gro s2) (fun h => (z h).gro (Gro.of s2)) r2 z2 q2⟩⟩⟩
theorem s_kw0 {k j : Nat} {x : Str} {ps ks : List Str} {perm : List Nat} {kws : List Keyword} {qs : List CE} {p pos : Pos} (F : FnF g T k j x ps) (B : KwF g j ps 0 ks perm) (hX : Of g X) (hr : Md T k X) (tk : L2N.Takes X W) (hg : Gl X x)
    (hkw : SK g O H0 xi W T X kws qs) (hl2 : qs.length = ks.length) (hall : (backToKw pos (keywordEach kws X.env)).all (·.1.isSome) = true) (hks : (backToKw pos (keywordEach kws X.env)).filterMap (·.1) = ks)
    (hnone : (backToKw pos (keywordEach kws X.env)).any (·.1.isNone) = false) (hdb : (x == ("__debug__" : Str)) = false) : SE g O H0 xi W T X (.Call (.Name x p) [] kws pos) (.callk j [] qs perm) := by
  cases hh : T.hot with
  | true =>
    exact PE.by' PE.stk fun σ H Q ⟨ρ, I, q⟩ => by
      simp only [evE] at q
      rw [if_pos hh] at q
      exact q
  | false =>
  have F' : FnOk X.prog X.w X.K X.mg X.base (L2N.CX X.prog X.w) k (g.fAd j) (g.fFd j) ps (spF g T j ps.length) := by rw [hX.P, hX.w, hX.K, hX.mg, hX.base]; exact F.ok hh
  exact PE.by' (pe_kw0 F' (hr.cold hh).2 hg (by rw [hX.mg]; exact F.mg) (by rw [hX.K]; exact F.kp) (by rw [hX.K]; exact B.b) (fun σ => L2N.passAt tk σ) hkw hall hks hdb (by rw [hnone] <;> rfl)) fun σ H Q ⟨ρ, I, q⟩ => by
    simp only [evE, evBs, ok_bind] at q
    rw [if_neg (by rw [hh]; decide)] at q
    show _
    refine ⟨ρ, I, LdE.bindG q fun us H2 e2 s2 q2 ws r2 z2 => ⟨rfl, by rw [Paired.length r2, evBs_len e2, hl2], ?_⟩⟩
    rw [List.any_append] at q2
    exact kw_fin B.hp (I.trkO.same s2) (vs := []) (ds := []) Paired.nil (fun _ => .nil) r2 z2 q2
/-! ### list(range(..)), tuple(range(..)) -/
theorem rng_reps {K : PySem.W.Frag} {OO : Addr → Prop} {H : Hp} (i j : Int) : Reps K OO H (rgV i j) (Ev.rngL i j) := by
  unfold rgV Ev.rngL
  have : ∀ l : List Nat, Reps K OO H (l.map fun k => V.int (i + (k : Nat))) (l.map fun k => D.int (i + (k : Nat))) := fun l => by
    induction l with
    | nil => exact .nil
    | cons a l ih => exact .cons (.int _) ih
  exact this _
theorem rngOk_is {i j : Int} (h : (rngOk i j && decide ((j - i).toNat ≤ 16777216)) = true) : RgOk i j := by
  unfold rngOk at h
  simp only [Bool.and_eq_true, decide_eq_true_eq] at h
  exact ⟨h.1.1, h.1.2.1, h.1.2.2.1, h.1.2.2.2, h.2⟩
theorem s_rngL {tu : Bool} {e : Expr} {te : St → Hp → (Int → Int → Hp → Prop) → Prop} {lo hi : CE} {x : Str} {p pos : Pos} (hx : x = (if tu then "tuple" else "list" : Str)) (hc : T.hot = false → X.calm = true) (hg : Gl X x) (hm : X.mg x = none) (he : PRg X e te) (hs : notStar e = true)
    (ht : ∀ σ H Q, (∃ ρ, EI g O H0 xi σ H ρ ∧ LdG g W (Own O σ ρ) σ H (do
      let x ← evE T lo ρ
      let y ← evE T hi ρ
      match x, y with
      | .int i, .int j => pure (i, j)
      | _, _ => .stuck) (fun p H' => Q p.1 p.2 H')) → te σ H Q) : SE g O H0 xi W T X (.Call (.Name x p) [e] [] pos) (.rngL tu lo hi) := by
  cases hh : T.hot with
  | true =>
    exact PE.by' PE.stk fun σ H Q ⟨ρ, I, q⟩ => by
      simp only [evE] at q
      rw [if_pos hh] at q
      exact q
  | false =>
  have hc := hc hh
  have key : ∀ σ H Q, rE g O H0 xi W (evE T (.rngL tu lo hi)) σ H Q → te σ H fun a b H1 => RgOk a b ∧ ∀ q, H1 q = none → Q (.ref q) (upd H1 q (if tu then .tup (rgV a b) else .lst (rgV a b))) := fun σ H Q ⟨ρ, I, q⟩ => by
    refine ht σ H _ ⟨ρ, I, ?_⟩
    simp only [evE] at q
    rw [if_neg (by rw [hh]; decide)] at q
    cases h1 : evE T lo ρ with
    | err c fs => rw [h1] at q; exact q
    | stuck => rw [h1] at q; exact q
    | ok x =>
      rw [h1] at q
      simp only [ok_bind] at q ⊢
      cases h2 : evE T hi ρ with
      | err c fs => rw [h2] at q; exact q
      | stuck => rw [h2] at q; exact q
      | ok y =>
        rw [h2] at q
        simp only [ok_bind] at q ⊢
        cases x <;> cases y <;> try exact q
        rename_i i j
        simp only at q ⊢
        intro H' s
        by_cases hk : (rngOk i j && decide ((j - i).toNat ≤ 16777216)) = true
        · rw [if_pos hk] at q
          refine ⟨rngOk_is hk, fun a ha => ?_⟩
          cases tu with
          | true => exact LdV.tup (K := g.K) (O := Own O σ ρ) (LdE.more q s) (by simpa [Ev.rngL] using (rngOk_is hk).2.2.2.2) (rng_reps i j) ha
          | false => exact LdV.lst (K := g.K) (O := Own O σ ρ) (I.trkO.same s) (LdE.more q s) (by simpa [Ev.rngL] using (rngOk_is hk).2.2.2.2) (rng_reps i j) ha
        · rw [if_neg hk] at q
          exact q.elim
  cases tu with
  | true =>
    subst hx
    exact PE.by' (pe_tupRg hc hg hm he (star_cons hs)) fun σ H Q q => key σ H Q q
  | false =>
    subst hx
    exact PE.by' (pe_listRg hc hg hm he (star_cons hs)) fun σ H Q q => key σ H Q q
end
end Ev
end
section
set_option Elab.async false
set_option linter.all false
set_option maxRecDepth 100000
set_option maxHeartbeats 4000000
/-! enumerate over a tuple -/
namespace PySem
open Sem (wp)
theorem meetsEnum1 {v : Value} {o : Obj} {H : Heap → Prop} (B : Begins v o H) :
    Meets (Builtin.«enumerate.__new__» ⟨[.type "enumerate", v], []⟩) (fun _ R s => H s.heap ∧
      R (.ok (.ret (.ref (s.heap.push o).objs.size))) { s with heap := (s.heap.push o).push { cls := .type "enumerate", data := .fields #[.none, .bool false, .ref s.heap.objs.size, rawInt 0, .none, .none] } }) :=
  .of_wp fun prog w A R st hh => by
    obtain ⟨hp, gg, dr, tk, oo⟩ := st
    obtain ⟨hv, hr⟩ := hh
    have sub := sub_enumerate
    have start : ∀ {A' : Around} {E : Value → Shared → Prop} {Q : Value → Shared → Prop}, Q (.ref hp.objs.size) ⟨hp.push o, gg, dr, tk, oo⟩ → wpAny (model prog w) A' (pyIter v) Q E ⟨hp, gg, dr, tk, oo⟩ :=
      fun z => B.iter prog w _ _ ⟨hp, gg, dr, tk, oo⟩ _ hv z
    wp_walk using start
    refine wpAny_stack_any fun stk => wpAny_pure ?_
    split
    · rename_i cl _ _ _ _ _
      cases (cl == Value.type "enumerate") <;> (wp_walk using start; exact ⟨_, rfl, hr⟩)
    · wp_walk using start
      exact ⟨_, rfl, hr⟩
section
variable {prog : Program} {w : World} {A : Around} {E : Value → Shared → Prop} {s : Shared}
theorem callEnum1 {v : Value} {o : Obj} {H : Heap → Prop} {Q : Value → Shared → Prop} (B : Begins v o H) (hv : H s.heap)
    (k : ∀ h', IsEnum h' (s.heap.objs.size + 1) s.heap.objs.size 0 .none → h'.get? s.heap.objs.size = some o → (∀ b ob, s.heap.get? b = some ob → h'.get? b = some ob) → Q (.ref (s.heap.objs.size + 1)) { s with heap := h' }) :
    wpAny (model prog w) A (call (.type "enumerate") [v]) Q E s := by
  refine callType_new F.called_enumerate (by decide) (F.typeCall_enumerate_1 _) (F.newCall_enumerate_1 _) (fun ob => F.args_object_init_2 ob _) F.entry_enumerate_new (meetsEnum1 B) ⟨hv, ?_⟩
  have size1 : (s.heap.push o).objs.size = s.heap.objs.size + 1 := Heap.size_push ..
  show _ ∧ _
  rw [size1]
  have isE : IsEnum ((s.heap.push o).push { cls := .type "enumerate", data := .fields #[.none, .bool false, .ref s.heap.objs.size, rawInt 0, .none, .none] }) (s.heap.objs.size + 1) s.heap.objs.size 0 .none := by
    have z := Heap.get?_push_size (s.heap.push o) (o := { cls := .type "enumerate", data := .fields #[.none, .bool false, .ref s.heap.objs.size, rawInt 0, .none, .none] }) rfl
    rwa [size1] at z
  exact ⟨⟨_, isE, rfl⟩, k _ isE (Heap.get?_push_of_some _ (Heap.get?_push_size _ B.free)) fun b ob z => Heap.get?_push_of_some _ (Heap.get?_push_of_some _ z)⟩
end
end PySem
namespace L2
open PySem PySem.Spec PyProof.Rows
/-- the tuple at a, its items in new pairs with their places -/
def IteT (K : PySem.W.Frag) (a : Addr) : It :=
  ⟨fun i H => ∃ (xs : List V) (x : V), SqT K H a xs ∧ xs[i]? = some x, fun i H v H' => ∃ T x, v = .ref T ∧ H T = none ∧ H' = upd H T (.tup [.int (i : Nat), x]) ∧ ∀ xs, SqT K H a xs → xs[i]? = some x, fun i H => ∃ xs : List V, SqT K H a xs ∧ xs.length = i⟩
theorem drT {P : Program} {w : World} {A : Around} (hh : A.handled = none) (it t : Addr) (hne : t ≠ it) (items : Array Value) :
    Draws P w A.in1 it [it, t] items.size (fun i v => items[i]? = some v) (fun i h => h.IsTupleIter it t i ∧ h.IsTuple t items) := Draws.tuple (by exact hh) it t hne items
theorem turn_enumT {P : Program} {w : World} {K : PySem.W.Frag} {elts : List Expr} {kk : Nat} {tpos : Pos} (a e it : Addr) :
    Turn P w K (.Tuple elts kk tpos) (IteT K a) [e, it] e (fun i h => (∃ old, IsEnum h e it ((i : Nat) : Int) old) ∧ h.IsTupleIter it a i ∧ e ≠ it ∧ e ≠ a ∧ a ≠ it) where
  mem := by simp
  obj := fun i h st b hb => by
    obtain ⟨⟨old, he⟩, ⟨o, ho, hc, hd⟩, _⟩ := st
    rcases (by simpa using hb : b = e ∨ b = it) with rfl | rfl
    · exact ⟨_, he, fun v z => nomatch z⟩
    · exact ⟨o, ho, fun v z => by rw [hd] at z; cases z⟩
  keep := fun i h h' st k => by
    obtain ⟨⟨old, he⟩, hi, r⟩ := st
    exact ⟨⟨old, k e (by simp) _ he⟩, hi.at fun o z => k it (by simp) o z, r⟩
  item := by
    intro X hP hw hK hc i pins s σ H E I hf st hg
    subst hP hw hK
    obtain ⟨⟨old, he⟩, hit, hne, hea, hai⟩ := st
    obtain ⟨xs, x, hq, hx⟩ := hg
    obtain ⟨its, rv, p, hz⟩ := I.tuple hq
    obtain ⟨u, hu, ru⟩ := rv.get hx
    have el : e < s.heap.objs.size := Heap.lt_size he
    have il : it < s.heap.objs.size := by obtain ⟨_, z, _⟩ := hit; exact Heap.lt_size z
    have hlt : i < its.toArray.size := by
      have := (List.getElem?_eq_some_iff.mp hu).1
      simpa using this
    refine wpAny_pyNext_enum_itemC (drT (I.ok.hd hc) it a hai its.toArray) he ⟨hit, p⟩ hlt hne (by simp [hne, hea]) fun y h' tk hy ho hst' hT hsz hk => ?_
    have yu : y = u := by
      have hy' : its.toArray[i]? = some u := by simpa using hu
      rw [hy] at hy'
      exact Option.some.inj hy'
    subst yu
    refine ⟨_, rfl, wpAny_letOwnedTupleGo_enum (s := { s with heap := h', toks := tk + 1 }) ho fun h'' he' sb => ?_⟩
    have tup2 : h''.get? s.heap.objs.size = some { cls := .type "tuple", data := .seq #[.int i tk, y] } := (sb.2 _ (Nat.ne_of_gt el)).trans hT
    have new : ObjOk X.prog X.w (upd H s.heap.objs.size (.tup [.int (i : Nat), x])) h'' s.heap.objs.size (.tup [.int (i : Nat), x]) :=
      ⟨by show 2 ≤ sizeLine; decide, [.int i tk, y], .cons ⟨_, rfl⟩ (.cons ru .nil), ⟨_, tup2, rfl, _, rfl⟩⟩
    have I1 : Inv X pins σ (upd H s.heap.objs.size (.tup [.int (i : Nat), x])) { s with heap := h'', toks := tk + 1 } :=
      I.turnedNew (ch := [e, it]) (fun b ob hb z => (sb.2 b (fun q => hb (by simp [q]))).trans (hk b ob (fun q => hb (by simp [q])) (fun q => hb (by simp [q])) z)) hf (Nat.le_refl _) new
    refine ⟨.ref s.heap.objs.size, _, I1, rfl, ⟨_, x, rfl, I.hok.fresh (Nat.le_refl _), rfl, fun ys hy => by rw [I.tuple_inj hy hq]; exact hx⟩, ⟨⟨y, ?_⟩, hst'.1.at fun o z => (sb.2 it (Ne.symm hne)).trans z, hne, hea, hai⟩, fun b hb => ?_⟩
    · have e1 : ((i + 1 : Nat) : Int) = (i : Int) + 1 := by omega
      rw [e1]
      exact he'
    · have small : b < s.heap.objs.size := by
        rcases (by simpa using hb : b = e ∨ b = it) with rfl | rfl
        · exact el
        · exact il
      rw [upd_ne (Nat.ne_of_lt small)]
      exact (hf b hb).1
  done := by
    intro X hP hw hK hc i pins s σ H E I hf st hg
    subst hP hw hK
    obtain ⟨⟨old, he⟩, hit, hne, hea, hai⟩ := st
    obtain ⟨xs, hq, hx⟩ := hg
    obtain ⟨its, rv, p, hz⟩ := I.tuple hq
    obtain ⟨f0, f1, f2, f3, f4, f5⟩ := hf it (by simp)
    have len := rv.length
    have en : its.toArray.size = i := by simp; omega
    exact wpAny_pyNext_enum_endD (drT (I.ok.hd hc) it a hai its.toArray) he (by rw [en]; exact ⟨hit, p⟩) fun h' eb => ⟨rfl, I.turned (t' := s.toks) (fun b o hb z => eb b o hb z) f0 f1 f3 f4 f5⟩
  self := fun A i s Q E st h => let ⟨⟨_, he⟩, _⟩ := st; wpAny_pyIter_enum he h
def iEnumT (K : PySem.W.Frag) (te : TE) : TI := fun σ H R => te σ H fun v H1 => ∃ a xs, v = .ref a ∧ SqT K H1 a xs ∧ R (IteT K a) H1
theorem pi_enumT {X : Cx} {e : Expr} {te : TE} {p pos tpos : Pos} {elts : List Expr} {kk : Nat} (hg : Gl X "enumerate") (hm : X.mg "enumerate" = none) (ha : PE X e te) (hs : starEach [e] X.env = [(false, eval e X.env)]) :
    PI X (.Tuple elts kk tpos) (.Call (.Name "enumerate" p) [e] [] pos) (iEnumT X.K te) := by
  refine ⟨fun pins s σ H R I h => ?_⟩
  refine Call_ (ld_blt I hg hm boot_enumerate (PyProof.Rows.callWith_type1 (thn ((pa_cons ha pa_nil hs).run pos pins s σ H (fun vs H1 => ∃ v, vs = [v] ∧ ∃ a xs, v = .ref a ∧ SqT X.K H1 a xs ∧ R (IteT X.K a) H1) I ?_) fun us s1 ⟨vs, H1, I1, r1, q1⟩ => ?_) hs rfl))
  · have h' : te σ H fun v H1 => ∃ a xs, v = .ref a ∧ SqT X.K H1 a xs ∧ R (IteT X.K a) H1 := h
    exact h' |> fun z => by
      show te σ H fun x H1 => ∃ v, [x] = [v] ∧ ∃ a xs, v = .ref a ∧ SqT X.K H1 a xs ∧ R (IteT X.K a) H1
      have e : (fun (x : V) (H1 : Hp) => ∃ v, [x] = [v] ∧ ∃ a xs, v = .ref a ∧ SqT X.K H1 a xs ∧ R (IteT X.K a) H1) = fun v H1 => ∃ a xs, v = .ref a ∧ SqT X.K H1 a xs ∧ R (IteT X.K a) H1 := by
        funext x H1
        apply propext
        constructor
        · rintro ⟨v, e, r⟩
          cases e
          exact r
        · exact fun r => ⟨x, rfl, r⟩
      rw [e]
      exact z
  · obtain ⟨v, ev, a, xs, ea, hq, q⟩ := q1
    subst ev ea
    cases r1 with
    | cons r rr =>
      cases rr
      cases r
      obtain ⟨its, rv, p', hz⟩ := I1.tuple hq
      refine callEnum1 (begins_tuple a its.toArray) p' fun h' he hit hk => wpAny_pyIter_enum he ?_
      have I2 : Inv X pins σ H1 { s1 with heap := h' } := I1.kept (t' := s1.toks) hk
      have al : a < s1.heap.objs.size := by obtain ⟨_, z, _⟩ := p'; exact Heap.lt_size z
      refine ⟨s1.heap.objs.size + 1, [s1.heap.objs.size + 1, s1.heap.objs.size], _, _, H1, rfl, I2, turn_enumT a (s1.heap.objs.size + 1) s1.heap.objs.size, ⟨⟨.none, he⟩, ⟨_, hit, rfl, rfl⟩, Nat.succ_ne_self _, Nat.ne_of_gt (Nat.lt_succ_of_lt al), Nat.ne_of_lt al⟩, fun b hb => ?_, q⟩
      have le : s1.heap.objs.size ≤ b := by
        rcases (by simpa using hb : b = s1.heap.objs.size + 1 ∨ b = s1.heap.objs.size) with rfl | rfl
        · exact Nat.le_add_right _ _
        · exact Nat.le_refl _
      exact I1.fpOk le (I1.hok.fresh le)
end L2
end
section
set_option Elab.async false
set_option linter.all false
set_option maxRecDepth 100000
set_option maxHeartbeats 2000000
namespace Ev
open PySem PySem.Spec PyProof.Rows L2
open RZ (ItzT pi_zipA)
open RT (ItvT pi_revA)

/-! ## what is walked -/
section
variable {g : Cfg} {O : Addr → Prop} {H0 H H' : Hp} {xi : Option XI} {σ σ' : St} {ρ ρ' : Rho} {W : WX} {X : Cx} {T : Tb}
/-- the walk J gives the data ds, whatever else goes on -/
def WkD0 (K : PySem.W.Frag) (OO : Addr → Prop) (b : Bool) (J : It) (ds : List D) (H1 : Hp) : Prop :=
  ds.length ≤ 16777216 ∧ ∃ (G : Hp → Prop) (Y : Nat → Hp → V → Hp → Prop), Walk J ds.length G Y ∧ G H1 ∧ (∀ H H', Same H H' → G H → G H') ∧ (b = false → ∀ H H', Gro OO H H' → G H → G H') ∧
    (∀ i H x H', i < ds.length → G H → Y i H x H' → Same H H' ∧ ∃ d, ds[i]? = some d ∧ Rep K OO H' x d)
def WkD (K : PySem.W.Frag) (OO : Addr → Prop) (b : Bool) (J : It) (ds : List D) (H1 : Hp) : Prop := ∀ OO' : Addr → Prop, (∀ a, OO' a → OO a ∨ H1 a = none) → WkD0 K OO' b J ds H1
def rI (g : Cfg) (O : Addr → Prop) (H0 : Hp) (xi : Option XI) (W : WX) (f : Rho → R (List D)) (b : Rho → Bool) : TI := fun σ H R => ∃ ρ, EI g O H0 xi σ H ρ ∧ LdG g W (Own O σ ρ) σ H (f ρ) (fun ds H1 => ∀ J, WkD g.K (Own O σ ρ) (b ρ) J ds H1 → R J H1)
abbrev SI (g : Cfg) (O : Addr → Prop) (H0 : Hp) (xi : Option XI) (W : WX) (T : Tb) (X : Cx) (tg e : Expr) (c : CI) : Prop := PI X tg e (rI g O H0 xi W (evI T c) (ownIt · c))
theorem PI.by' {X : Cx} {tg e : Expr} {t t' : TI} (h : PI X tg e t) (i : ∀ σ H R, t' σ H R → t σ H R) : PI X tg e t' := ⟨fun pins s σ H R I q => h.run pins s σ H R I (i σ H R q)⟩
theorem PI.or' {X : Cx} {tg e : Expr} {t t' : TI} (h : PI X tg e t) (h' : PI X tg e t') : PI X tg e (fun σ H R => t σ H R ∨ t' σ H R) := ⟨fun pins s σ H R I q => q.elim (h.run pins s σ H R I) (h'.run pins s σ H R I)⟩
section walks
variable {K : PySem.W.Frag} {OO : Addr → Prop} {b : Bool} {a c : Addr} {vs ws : List V} {ds es : List D}
theorem wk0_tup (l : ds.length ≤ 16777216) (s : SqT K H a vs) (r : Reps K OO H vs ds) : WkD0 K OO b (Itt K a) ds H := by
  refine ⟨l, fun H => SqT K H a vs ∧ Reps K OO H vs ds, _, by rw [← r.length]; exact (walk_tup (K := K) (a := a) (xs := vs)).mono (fun _ z => z.1) (fun _ _ _ _ _ _ z => z), ⟨s, r⟩, fun H H' e z => ⟨sqT_gro (Gro.of (O := OO) e) z.1, z.2.gro (Gro.of e)⟩, fun _ H H' e z => ⟨sqT_gro e z.1, z.2.gro e⟩, ?_⟩
  rintro i H x H' hi ⟨z1, z2⟩ ⟨rfl, hx⟩
  obtain ⟨d, e1, e2⟩ := z2.get hx
  exact ⟨Same.refl _, d, e1, e2⟩
theorem wk0_lst (l : ds.length ≤ 16777216) (s : H a = some (.lst vs)) (n : b = false → ¬ OO a) (r : Reps K OO H vs ds) : WkD0 K OO b (Itl K a) ds H := by
  refine ⟨l, fun H => H a = some (.lst vs) ∧ Reps K OO H vs ds, _, by rw [← r.length]; exact (walk_list (K := K) (a := a) (xs := vs)).mono (fun _ z => SqL.of z.1) (fun _ _ _ _ _ _ z => z), ⟨s, r⟩, fun H H' e z => ⟨e _ _ z.1, z.2.gro (Gro.of e)⟩, fun hb H H' e z => ⟨lst_gro e (n hb) z.1, z.2.gro e⟩, ?_⟩
  rintro i H x H' hi ⟨z1, z2⟩ ⟨rfl, hx⟩
  obtain ⟨d, e1, e2⟩ := z2.get hx
  exact ⟨Same.refl _, d, e1, e2⟩
theorem wk0_frl (l : ds.length ≤ 16777216) (s : FrL K H a vs) (r : Reps K OO H vs ds) : WkD0 K OO b (Itl K a) ds H := by
  refine ⟨l, fun H => FrL K H a vs ∧ Reps K OO H vs ds, _, by rw [← r.length]; exact (walk_list (K := K) (a := a) (xs := vs)).mono (fun _ z => z.1.sq) (fun _ _ _ _ _ _ z => z), ⟨s, r⟩, fun H H' e z => ⟨z.1.imp (fun ⟨o, y⟩ => ⟨o, e _ _ y⟩) id, z.2.gro (Gro.of e)⟩, fun hb H H' e z => ⟨z.1.imp (fun ⟨o, y⟩ => ⟨o, frz_gro e y⟩) id, z.2.gro e⟩, ?_⟩
  rintro i H x H' hi ⟨z1, z2⟩ ⟨rfl, hx⟩
  obtain ⟨d, e1, e2⟩ := z2.get hx
  exact ⟨Same.refl _, d, e1, e2⟩
theorem wk0_rng {lo hi : Int} (l : (hi - lo).toNat ≤ 16777216) : WkD0 K OO b (Itr lo (hi - lo).toNat) (Ev.rngL lo hi) H := by
  have hl : (Ev.rngL lo hi).length = (hi - lo).toNat := by simp [Ev.rngL]
  refine ⟨by rw [hl]; exact l, fun _ => True, _, by rw [hl]; exact walk_range, trivial, fun _ _ _ _ => trivial, fun _ _ _ _ _ => trivial, ?_⟩
  rintro i H x H' hi' _ ⟨rfl, rfl⟩
  refine ⟨Same.refl _, .int (lo + i), ?_, .int _⟩
  rw [hl] at hi'
  simp [Ev.rngL, hi']
theorem wk0_str {x : List Nat} (ok : txtOk x) : WkD0 K OO b (Its (sv x)) (x.map fun c => .str [c]) H := by
  have hl : (x.map fun c => D.str [c]).length = (sv x).cps.size := by simp [sv]
  refine ⟨by rw [List.length_map]; exact ok.1, fun _ => True, _, by rw [hl]; exact walk_str, trivial, fun _ _ _ _ => trivial, fun _ _ _ _ _ => trivial, ?_⟩
  rintro i H v H' hi' _ ⟨rfl, c, hc, rfl⟩
  have hc' : x[i]? = some c := by simpa [sv] using hc
  refine ⟨Same.refl _, .str [c], by simp [hc'], Rep.str (x := [c]) ⟨by simp, fun z hz => ?_⟩⟩
  rw [List.mem_singleton.mp hz]
  exact ok.2 c (List.mem_of_getElem? hc')
theorem walk_enumT {xs : List V} : Walk (IteT K a) xs.length (fun H => SqT K H a xs) (YPair (fun i => some (.int (i : Nat))) (fun i => xs[i]?)) where
  goes := fun i H hi h => ⟨xs, xs[i], h, by simp [hi]⟩
  stops := fun H h => ⟨xs, h, rfl⟩
  yields := fun i H x H' hi h y => by
    obtain ⟨T, z, e1, e2, e3, e4⟩ := y
    exact ⟨T, _, z, e1, e2, e3, rfl, e4 xs h⟩
theorem pair_rep {i : Nat} {x : V} {d : D} {T : Addr} (hT : H T = none) (r : Rep K OO H x d) : Same H (upd H T (.tup [.int (i : Nat), x])) ∧ Rep K OO (upd H T (.tup [.int (i : Nat), x])) (.ref T) (.tup [.int i, d]) :=
  ⟨same_upd hT, .tup (by simp) (SqT.of upd_same) (.cons (.int _) (.cons (r.gro (Gro.of (same_upd hT))) .nil))⟩
theorem wk0_enumT (l : ds.length ≤ 16777216) (s : SqT K H a vs) (r : Reps K OO H vs ds) : WkD0 K OO b (IteT K a) (ds.mapIdx fun i d => .tup [.int i, d]) H := by
  have hl : (ds.mapIdx fun i d => D.tup [.int i, d]).length = vs.length := by simp [r.length]
  refine ⟨by simpa using l, fun H => SqT K H a vs ∧ Reps K OO H vs ds, _, by rw [hl]; exact (walk_enumT (K := K) (a := a) (xs := vs)).mono (fun _ z => z.1) (fun _ _ _ _ _ _ z => z), ⟨s, r⟩, fun H H' e z => ⟨sqT_gro (Gro.of (O := OO) e) z.1, z.2.gro (Gro.of e)⟩, fun _ H H' e z => ⟨sqT_gro e z.1, z.2.gro e⟩, ?_⟩
  rintro i H v H' hi ⟨z1, z2⟩ ⟨T, x, y, rfl, hT, rfl, ex, ey⟩
  cases ex
  obtain ⟨d, e1, e2⟩ := z2.get ey
  have q := pair_rep (i := i) hT e2
  exact ⟨q.1, .tup [.int i, d], by simp [e1], q.2⟩
theorem wk0_enumL (l : ds.length ≤ 16777216) (s : H a = some (.lst vs)) (n : b = false → ¬ OO a) (r : Reps K OO H vs ds) : WkD0 K OO b (Ite K a) (ds.mapIdx fun i d => .tup [.int i, d]) H := by
  have hl : (ds.mapIdx fun i d => D.tup [.int i, d]).length = vs.length := by simp [r.length]
  refine ⟨by simpa using l, fun H => H a = some (.lst vs) ∧ Reps K OO H vs ds, _, by rw [hl]; exact (walk_enum (K := K) (a := a) (xs := vs)).mono (fun _ z => SqL.of z.1) (fun _ _ _ _ _ _ z => z), ⟨s, r⟩, fun H H' e z => ⟨e _ _ z.1, z.2.gro (Gro.of e)⟩, fun hb H H' e z => ⟨lst_gro e (n hb) z.1, z.2.gro e⟩, ?_⟩
  rintro i H v H' hi ⟨z1, z2⟩ ⟨T, x, y, rfl, hT, rfl, ex, ey⟩
  cases ex
  obtain ⟨d, e1, e2⟩ := z2.get ey
  have q := pair_rep (i := i) hT e2
  exact ⟨q.1, .tup [.int i, d], by simp [e1], q.2⟩
theorem walk_zipT {n : Nat} (hn : n = min vs.length ws.length) : Walk (ItzT K a c) n (fun H => SqT K H a vs ∧ SqT K H c ws) (YPair (fun i => vs[i]?) (fun i => ws[i]?)) where
  goes := fun i H hi h => by
    have h1 : i < vs.length := by omega
    have h2 : i < ws.length := by omega
    exact ⟨vs, ws, vs[i], ws[i], h.1, h.2, by simp [h1], by simp [h2]⟩
  stops := fun H h => ⟨vs, ws, h.1, h.2, by omega⟩
  yields := fun i H x H' hi h y => by
    obtain ⟨T, z, u, e1, e2, e3, e4, e5⟩ := y
    exact ⟨T, z, u, e1, e2, e3, e4 vs h.1, e5 ws h.2⟩
theorem zip_at {ds es : List D} {i : Nat} {d e : D} (h1 : ds[i]? = some d) (h2 : es[i]? = some e) : ((ds.zip es).map fun p => D.tup [p.1, p.2])[i]? = some (.tup [d, e]) := by
  rw [List.getElem?_map, (List.getElem?_zip_eq_some (z := (d, e))).mpr ⟨h1, h2⟩]
  rfl
theorem pair_rep2 {x y : V} {d e : D} {T : Addr} (hT : H T = none) (r : Rep K OO H x d) (q : Rep K OO H y e) : Same H (upd H T (.tup [x, y])) ∧ Rep K OO (upd H T (.tup [x, y])) (.ref T) (.tup [d, e]) :=
  ⟨same_upd hT, .tup (by simp) (SqT.of upd_same) (.cons (r.gro (Gro.of (same_upd hT))) (.cons (q.gro (Gro.of (same_upd hT))) .nil))⟩
theorem wk0_zipT (l : ds.length ≤ 16777216) (s : SqT K H a vs) (r : Reps K OO H vs ds) (s2 : SqT K H c ws) (r2 : Reps K OO H ws es) : WkD0 K OO b (ItzT K a c) ((ds.zip es).map fun p => .tup [p.1, p.2]) H := by
  have hl : ((ds.zip es).map fun p => D.tup [p.1, p.2]).length = min vs.length ws.length := by simp [r.length, r2.length]
  refine ⟨by simp; omega, fun H => (SqT K H a vs ∧ SqT K H c ws) ∧ Reps K OO H vs ds ∧ Reps K OO H ws es, _, by rw [hl]; exact (walk_zipT (K := K) rfl).mono (fun _ z => z.1) (fun _ _ _ _ _ _ z => z), ⟨⟨s, s2⟩, r, r2⟩,
    fun H H' e z => ⟨⟨sqT_gro (Gro.of (O := OO) e) z.1.1, sqT_gro (Gro.of (O := OO) e) z.1.2⟩, z.2.1.gro (Gro.of e), z.2.2.gro (Gro.of e)⟩, fun _ H H' e z => ⟨⟨sqT_gro e z.1.1, sqT_gro e z.1.2⟩, z.2.1.gro e, z.2.2.gro e⟩, ?_⟩
  rintro i H v H' hi ⟨_, z1, z2⟩ ⟨T, x, y, rfl, hT, rfl, ex, ey⟩
  obtain ⟨d, e1, e2⟩ := z1.get ex
  obtain ⟨e, f1, f2⟩ := z2.get ey
  have q := pair_rep2 hT e2 f2
  exact ⟨q.1, _, zip_at e1 f1, q.2⟩
theorem wk0_zipL (l : ds.length ≤ 16777216) (s : H a = some (.lst vs)) (n : b = false → ¬ OO a) (r : Reps K OO H vs ds) (s2 : H c = some (.lst ws)) (n2 : b = false → ¬ OO c) (r2 : Reps K OO H ws es) : WkD0 K OO b (Itz K a c) ((ds.zip es).map fun p => .tup [p.1, p.2]) H := by
  have hl : ((ds.zip es).map fun p => D.tup [p.1, p.2]).length = min vs.length ws.length := by simp [r.length, r2.length]
  refine ⟨by simp; omega, fun H => (H a = some (.lst vs) ∧ H c = some (.lst ws)) ∧ Reps K OO H vs ds ∧ Reps K OO H ws es, _, by rw [hl]; exact (walk_zip (K := K) rfl).mono (fun _ z => ⟨SqL.of z.1.1, SqL.of z.1.2⟩) (fun _ _ _ _ _ _ z => z), ⟨⟨s, s2⟩, r, r2⟩,
    fun H H' e z => ⟨⟨e _ _ z.1.1, e _ _ z.1.2⟩, z.2.1.gro (Gro.of e), z.2.2.gro (Gro.of e)⟩, fun hb H H' e z => ⟨⟨lst_gro e (n hb) z.1.1, lst_gro e (n2 hb) z.1.2⟩, z.2.1.gro e, z.2.2.gro e⟩, ?_⟩
  rintro i H v H' hi ⟨_, z1, z2⟩ ⟨T, x, y, rfl, hT, rfl, ex, ey⟩
  obtain ⟨d, e1, e2⟩ := z1.get ex
  obtain ⟨e, f1, f2⟩ := z2.get ey
  have q := pair_rep2 hT e2 f2
  exact ⟨q.1, _, zip_at e1 f1, q.2⟩
theorem walk_revT : Walk (ItvT K a vs.length) vs.length (fun H => SqT K H a vs) (fun i H x H' => H' = H ∧ vs[vs.length - 1 - i]? = some x) where
  goes := fun i H hi h => ⟨hi, vs, vs[vs.length - 1 - i], h, by rw [List.getElem?_eq_getElem]⟩
  stops := fun H h => Nat.le_refl _
  yields := fun i H x H' hi h y => ⟨y.1, y.2 vs h⟩
theorem rev_at {i : Nat} {x : V} (r : Reps K OO H vs ds) (hi : i < ds.length) (hx : vs[vs.length - 1 - i]? = some x) : ∃ d, ds.reverse[i]? = some d ∧ Rep K OO H x d := by
  obtain ⟨d, e1, e2⟩ := r.get hx
  refine ⟨d, ?_, e2⟩
  rw [List.getElem?_reverse hi, ← r.length]
  exact e1
theorem wk0_revT (l : ds.length ≤ 16777216) (s : SqT K H a vs) (r : Reps K OO H vs ds) : WkD0 K OO b (ItvT K a vs.length) ds.reverse H := by
  have hl : ds.reverse.length = vs.length := by simp [r.length]
  refine ⟨by simpa using l, fun H => SqT K H a vs ∧ Reps K OO H vs ds, _, by rw [hl]; exact (walk_revT (K := K) (a := a) (vs := vs)).mono (fun _ z => z.1) (fun _ _ _ _ _ _ z => z), ⟨s, r⟩, fun H H' e z => ⟨sqT_gro (Gro.of (O := OO) e) z.1, z.2.gro (Gro.of e)⟩, fun _ H H' e z => ⟨sqT_gro e z.1, z.2.gro e⟩, ?_⟩
  rintro i H x H' hi ⟨z1, z2⟩ ⟨rfl, hx⟩
  obtain ⟨d, e1, e2⟩ := rev_at z2 (by simpa using hi) hx
  exact ⟨Same.refl _, d, e1, e2⟩
theorem wk0_revL (l : ds.length ≤ 16777216) (s : H a = some (.lst vs)) (n : b = false → ¬ OO a) (r : Reps K OO H vs ds) : WkD0 K OO b (Itv K a vs.length) ds.reverse H := by
  have hl : ds.reverse.length = vs.length := by simp [r.length]
  refine ⟨by simpa using l, fun H => H a = some (.lst vs) ∧ Reps K OO H vs ds, _, by rw [hl]; exact (walk_rev (K := K) (a := a) (xs := vs)).mono (fun _ z => SqL.of z.1) (fun _ _ _ _ _ _ z => z), ⟨s, r⟩, fun H H' e z => ⟨e _ _ z.1, z.2.gro (Gro.of e)⟩, fun hb H H' e z => ⟨lst_gro e (n hb) z.1, z.2.gro e⟩, ?_⟩
  rintro i H x H' hi ⟨z1, z2⟩ ⟨rfl, hx⟩
  obtain ⟨d, e1, e2⟩ := rev_at z2 (by simpa using hi) hx
  exact ⟨Same.refl _, d, e1, e2⟩
theorem wk_tup (l : ds.length ≤ 16777216) (s : SqT K H a vs) (r : Reps K OO H vs ds) : WkD K OO b (Itt K a) ds H := fun _ h => wk0_tup l s (r.add h)
theorem no_of {OO' : Addr → Prop} {o : HO} (h : ∀ a, OO' a → OO a ∨ H a = none) (s : H a = some o) (n : b = false → ¬ OO a) : b = false → ¬ OO' a := fun hb q => (h a q).elim (n hb) fun e => by rw [e] at s; cases s
theorem wk_lst (l : ds.length ≤ 16777216) (s : H a = some (.lst vs)) (n : b = false → ¬ OO a) (r : Reps K OO H vs ds) : WkD K OO b (Itl K a) ds H := fun _ h => wk0_lst l s (no_of h s n) (r.add h)
theorem wk_frl (l : ds.length ≤ 16777216) (s : FrL K H a vs) (r : Reps K OO H vs ds) : WkD K OO b (Itl K a) ds H := fun _ h => wk0_frl l s (r.add h)
theorem wk_rng {lo hi : Int} (l : (hi - lo).toNat ≤ 16777216) : WkD K OO b (Itr lo (hi - lo).toNat) (Ev.rngL lo hi) H := fun _ h => wk0_rng l
theorem wk_str {x : List Nat} (ok : txtOk x) : WkD K OO b (Its (sv x)) (x.map fun c => .str [c]) H := fun _ h => wk0_str ok
theorem wk_enumT (l : ds.length ≤ 16777216) (s : SqT K H a vs) (r : Reps K OO H vs ds) : WkD K OO b (IteT K a) (ds.mapIdx fun i d => .tup [.int i, d]) H := fun _ h => wk0_enumT l s (r.add h)
theorem wk_enumL (l : ds.length ≤ 16777216) (s : H a = some (.lst vs)) (n : b = false → ¬ OO a) (r : Reps K OO H vs ds) : WkD K OO b (Ite K a) (ds.mapIdx fun i d => .tup [.int i, d]) H := fun _ h => wk0_enumL l s (no_of h s n) (r.add h)
theorem wk_zipT (l : ds.length ≤ 16777216) (s : SqT K H a vs) (r : Reps K OO H vs ds) (s2 : SqT K H c ws) (r2 : Reps K OO H ws es) : WkD K OO b (ItzT K a c) ((ds.zip es).map fun p => .tup [p.1, p.2]) H := fun _ h => wk0_zipT l s (r.add h) s2 (r2.add h)
theorem wk_zipL (l : ds.length ≤ 16777216) (s : H a = some (.lst vs)) (n : b = false → ¬ OO a) (r : Reps K OO H vs ds) (s2 : H c = some (.lst ws)) (n2 : b = false → ¬ OO c) (r2 : Reps K OO H ws es) : WkD K OO b (Itz K a c) ((ds.zip es).map fun p => .tup [p.1, p.2]) H := fun _ h => wk0_zipL l s (no_of h s n) (r.add h) s2 (no_of h s2 n2) (r2.add h)
theorem wk_revT (l : ds.length ≤ 16777216) (s : SqT K H a vs) (r : Reps K OO H vs ds) : WkD K OO b (ItvT K a vs.length) ds.reverse H := fun _ h => wk0_revT l s (r.add h)
theorem wk_revL (l : ds.length ≤ 16777216) (s : H a = some (.lst vs)) (n : b = false → ¬ OO a) (r : Reps K OO H vs ds) : WkD K OO b (Itv K a vs.length) ds.reverse H := fun _ h => wk0_revL l s (no_of h s n) (r.add h)
/-- what a sequence's reading tells -/
theorem RepB.lst_n {b : Bool} {v : V} {ds : List D} (r : RepB K OO H v (.lst ds)) (z : b = false → Rep K OO H v (.lst ds)) : ∃ a vs, v = .ref a ∧ H a = some (.lst vs) ∧ (b = false → ¬ OO a) ∧ Reps K OO H vs ds := by
  obtain ⟨a, vs, rfl, s, rr⟩ := r.lst_of
  refine ⟨a, vs, rfl, s, fun hb => ?_, rr⟩
  have := z hb
  cases this with | lst l n _ _ => exact n
end walks
/-! ### the sources -/
/-- a range object in a name -/
theorem pi_rngV {tg e : Expr} {te : TE} (he : PE X e te) : PI X tg e (fun σ H R => te σ H fun x H1 => ∃ a lo hi, x = .ref a ∧ H1 a = some (.rng lo hi) ∧ (-(2 ^ 62) ≤ lo ∧ lo < 2 ^ 62 ∧ -(2 ^ 62) ≤ hi ∧ hi < 2 ^ 62) ∧ R (Itr lo (hi - lo).toNat) H1) := by
  refine ⟨fun pins s σ H R I h => ?_⟩
  refine thn (he.run pins s σ H _ I h) fun v s1 ⟨x, H1, I1, r1, a, lo, hi, e, ha, ⟨b1, b2, b3, b4⟩, q⟩ => ?_
  subst e
  cases r1
  obtain ⟨t, u, w, hobj⟩ := I1.hok a _ ha
  refine wpAny_pyIter_range (show IsRange s1.heap a lo hi 1 t u w from hobj) (small_one b1 b2 b3 b4) ?_
  refine ⟨s1.heap.objs.size, [s1.heap.objs.size], _, _, H1, rfl, I1.kept (t' := s1.toks) fun b o e => Heap.get?_push_of_some _ e, turn_range _ lo (hi - lo).toNat, ?_, fun b hb => ?_, q⟩
  · have e1 : lo + ((0 : Nat) : Int) * 1 = lo := by simp
    have e2 : (((hi - lo).toNat : Nat) : Int) - ((0 : Nat) : Int) = Builtin.Range.rangeSize lo hi 1 := by rw [rangeSize_one]; split <;> omega
    show IsRangeIter _ _ (lo + ((0 : Nat) : Int) * 1) ((((hi - lo).toNat : Nat) : Int) - ((0 : Nat) : Int)) 1
    rw [e1, e2]
    exact Heap.get?_push_size _ rfl
  · have e : b = s1.heap.objs.size := by simpa using hb
    subst e
    exact I1.fpOk (Nat.le_refl _) (I1.hok.fresh (Nat.le_refl _))
theorem LdB.at {r : R D} {bb : Bool} {Q : VK} {OO : Addr → Prop} {d : D} (e : r = .ok d) (h : ∀ v H', Same H H' → RepB g.K OO H' v d → (bb = false → Rep g.K OO H' v d) → Q v H') : LdB g W OO σ H r bb Q := by
  rw [e]; exact h
theorem si_of (hK : X.K = g.K) {tg e : Expr} {c : CE} (h : SB g O H0 xi W T X e c) : SI g O H0 xi W T X tg e (.of c) :=
  PI.by' (PI.or' (pi_tup h) (PI.or' (pi_list h) (PI.or' (pi_str h) (pi_rngV h)))) fun σ H R ⟨ρ, I, q⟩ => by
    simp only [evI] at q
    cases hv : evB T c ρ with
    | err k fs =>
      have hv' : bor c ρ (evE T c ρ) = .err k fs := hv
      rw [hv'] at q
      exact .inl ⟨ρ, I, by rw [hv]; exact q⟩
    | stuck =>
      have hv' : bor c ρ (evE T c ρ) = .stuck := hv
      rw [hv'] at q
      exact q.elim
    | ok d =>
      have hv' : bor c ρ (evE T c ρ) = .ok d := hv
      rw [hv'] at q
      simp only [ok_bind] at q
      cases d <;> try (exact q.elim)
      · exact .inr (.inr (.inl ⟨ρ, I, LdB.at hv fun v H1 s1 r z => by
          obtain ⟨rfl, ok⟩ := r.str_of
          exact ⟨_, rfl, q H1 s1 _ (wk_str ok)⟩⟩))
      · exact .inl ⟨ρ, I, LdB.at hv fun v H1 s1 r z => by
          obtain ⟨a, vs, rfl, sq, rr⟩ := r.tup_of
          rw [hK]
          exact ⟨a, rfl, ⟨vs, sq⟩, q H1 s1 _ (wk_tup r.tupL sq rr)⟩⟩
      · exact .inr (.inl ⟨ρ, I, LdB.at hv fun v H1 s1 r z => by
          obtain ⟨a, vs, rfl, sq, n, rr⟩ := r.lst_n z
          rw [hK]
          exact ⟨a, rfl, ⟨vs, SqL.of sq⟩, q H1 s1 _ (wk_lst r.lstL sq n rr)⟩⟩)
      · exact .inr (.inl ⟨ρ, I, LdB.at hv fun v H1 s1 r z => by
          obtain ⟨a, vs, rfl, sq, rr⟩ := r.frl_of
          rw [hK]
          exact ⟨a, rfl, ⟨vs, hK ▸ sq.sq⟩, q H1 s1 _ (wk_frl r.frlL sq rr)⟩⟩)
      · rename_i lo hi
        simp only [itemsD] at q
        by_cases hk : (rngOk lo hi && decide ((hi - lo).toNat ≤ 16777216)) = true
        · rw [if_pos hk] at q
          have hb := rngOk_is hk
          exact .inr (.inr (.inr ⟨ρ, I, LdB.at hv fun v H1 s1 r z => by
            cases r with
            | of r => cases r with
              | rng ha => exact ⟨_, lo, hi, rfl, ha, ⟨hb.1, hb.2.1, hb.2.2.1, hb.2.2.2.1⟩, q H1 s1 _ (wk_rng hb.2.2.2.2)⟩⟩))
        · rw [if_neg hk] at q
          exact q.elim
theorem si_enum (hK : X.K = g.K) {e : Expr} {c : CE} {p pos tpos : Pos} {elts : List Expr} {kk : Nat} (hg : Gl X "enumerate") (hm : X.mg "enumerate" = none) (hs : notStar e = true) (h : SB g O H0 xi W T X e c) : SI g O H0 xi W T X (.Tuple elts kk tpos) (.Call (.Name "enumerate" p) [e] [] pos) (.enum c) :=
  PI.by' (PI.or' (pi_enumT hg hm h (star_cons hs)) (pi_enum hg hm (pa_cons h pa_nil (star_cons hs)) (star_cons hs))) fun σ H R ⟨ρ, I, q⟩ => by
    simp only [evI] at q
    cases hv : evB T c ρ with
    | err k fs =>
      have hv' : bor c ρ (evE T c ρ) = .err k fs := hv
      rw [hv'] at q
      exact .inl ⟨ρ, I, by rw [hv]; exact q⟩
    | stuck =>
      have hv' : bor c ρ (evE T c ρ) = .stuck := hv
      rw [hv'] at q
      exact q.elim
    | ok d =>
      have hv' : bor c ρ (evE T c ρ) = .ok d := hv
      rw [hv'] at q
      simp only [ok_bind] at q
      cases d <;> try (exact q.elim)
      · exact .inl ⟨ρ, I, LdB.at hv fun v H1 s1 r z => by
          obtain ⟨a, vs, rfl, sq, rr⟩ := r.tup_of
          rw [hK]
          exact ⟨a, vs, rfl, sq, q H1 s1 _ (wk_enumT r.tupL sq rr)⟩⟩
      · exact .inr ⟨ρ, I, LdB.at hv fun v H1 s1 r z => by
          obtain ⟨a, vs, rfl, sq, n, rr⟩ := r.lst_n z
          rw [hK]
          exact ⟨a, vs, rfl, SqL.of sq, q H1 s1 _ (wk_enumL r.lstL sq n rr)⟩⟩
theorem si_rev (hK : X.K = g.K) {tg e : Expr} {c : CE} {p pos : Pos} (hg : Gl X "reversed") (hm : X.mg "reversed" = none) (hs : notStar e = true) (h : SB g O H0 xi W T X e c) : SI g O H0 xi W T X tg (.Call (.Name "reversed" p) [e] [] pos) (.rev c) :=
  PI.by' (pi_revA hg hm h (star_cons hs)) fun σ H R ⟨ρ, I, q⟩ => ⟨ρ, I, by
    simp only [evI] at q
    cases hv : evB T c ρ with
    | err k fs =>
      have hv' : bor c ρ (evE T c ρ) = .err k fs := hv
      rw [hv'] at q
      exact q
    | stuck =>
      have hv' : bor c ρ (evE T c ρ) = .stuck := hv
      rw [hv'] at q
      exact q.elim
    | ok d =>
      have hv' : bor c ρ (evE T c ρ) = .ok d := hv
      rw [hv'] at q
      simp only [ok_bind] at q
      intro v H1 s1 r z
      rw [hK]
      cases d <;> try (exact q.elim)
      · obtain ⟨a, vs, rfl, sq, rr⟩ := r.tup_of
        exact ⟨a, vs, rfl, .inr ⟨sq, q H1 s1 _ (wk_revT r.tupL sq rr)⟩⟩
      · obtain ⟨a, vs, rfl, sq, n, rr⟩ := r.lst_n z
        exact ⟨a, vs, rfl, .inl ⟨SqL.of sq, q H1 s1 _ (wk_revL r.lstL sq n rr)⟩⟩⟩
theorem si_zip (hK : X.K = g.K) {e f : Expr} {c k : CE} {p pos tpos : Pos} {elts : List Expr} {kk : Nat} (hg : Gl X "zip") (hm : X.mg "zip" = none) (hs : notStar e = true) (hs2 : notStar f = true) (h : SB g O H0 xi W T X e c) (h2 : SB g O H0 xi W T X f k) :
    SI g O H0 xi W T X (.Tuple elts kk tpos) (.Call (.Name "zip" p) [e, f] [] pos) (.zip c k) :=
  PI.by' (pi_zipA hg hm (pa_cons h (pa_cons h2 pa_nil (star_cons hs2)) (star_cons hs)) (star_cons hs) (by rw [star_cons hs2] <;> rfl)) fun σ H R ⟨ρ, I, q⟩ => ⟨ρ, I, by
    simp only [evI] at q
    exact LdG.bindC q fun x v H1 hx s1 r1 z1 q1 => ⟨ρ, I.more s1, LdG.bindC q1 fun y u H2 hy s2 r2 z2 q2 => by
      rw [hK]
      have r1' := r1.gro s2
      have z1' : ownArg ρ c = false → Rep g.K (Own O σ ρ) H2 v x := fun hb => (z1 hb).gro (Gro.of s2)
      cases x <;> cases y <;> try (exact q2.elim)
      · obtain ⟨a, vs, rfl, sq, rr⟩ := r1'.tup_of
        obtain ⟨b, ws, rfl, sq2, rr2⟩ := r2.tup_of
        exact ⟨a, b, vs, ws, rfl, .inr ⟨sq, sq2, q2 H2 (Same.refl H2) _ (wk_zipT r1'.tupL sq rr sq2 rr2)⟩⟩
      · obtain ⟨a, vs, rfl, sq, n, rr⟩ := r1'.lst_n z1'
        obtain ⟨b, ws, rfl, sq2, n2, rr2⟩ := r2.lst_n z2
        refine ⟨a, b, vs, ws, rfl, .inl ⟨SqL.of sq, SqL.of sq2, q2 H2 (Same.refl H2) _ (wk_zipL r1'.lstL sq (fun hb => n ?_) rr sq2 (fun hb => n2 ?_) rr2)⟩⟩
        · simp only [ownIt, Bool.or_eq_false_iff] at hb; exact hb.1
        · simp only [ownIt, Bool.or_eq_false_iff] at hb; exact hb.2⟩⟩
theorem rngOk_b {i j : Int} (h : rngOk i j = true) : -(2 ^ 62) ≤ i ∧ i < 2 ^ 62 ∧ -(2 ^ 62) ≤ j ∧ j < 2 ^ 62 := by
  unfold rngOk at h
  simpa only [decide_eq_true_eq] using h
theorem si_rng1 {tg e : Expr} {c : CE} {p pos : Pos} (hg : Gl X "range") (hm : X.mg "range" = none) (hs : notStar e = true) (h : SE g O H0 xi W T X e c) : SI g O H0 xi W T X tg (.Call (.Name "range" p) [e] [] pos) (.rng (.cst (.int 0)) c) :=
  PI.by' (pi_range1 hg hm (pa_cons h pa_nil (star_cons hs)) (star_cons hs)) fun σ H R ⟨ρ, I, q⟩ => ⟨ρ, I, by
    simp only [evI, evE, ok_bind] at q
    exact LdG.bindE q fun x v H1 hx s1 r1 q1 => by
      cases x <;> try (exact q1.elim)
      rename_i j
      cases r1
      simp only at q1
      by_cases hk : (rngOk 0 j && decide ((j - 0).toNat ≤ 16777216)) = true
      · rw [if_pos hk] at q1
        have hb := rngOk_is hk
        exact ⟨j, rfl, hb.2.2.1, hb.2.2.2.1, by have := q1 H1 (Same.refl H1) (Itr 0 (j - 0).toNat) (wk_rng hb.2.2.2.2); simpa using this⟩
      · rw [if_neg hk] at q1
        exact q1.elim⟩
theorem si_rng2 {tg e f : Expr} {c k : CE} {p pos : Pos} (hg : Gl X "range") (hm : X.mg "range" = none) (hs : notStar e = true) (hs2 : notStar f = true) (h : SE g O H0 xi W T X e c) (h2 : SE g O H0 xi W T X f k) : SI g O H0 xi W T X tg (.Call (.Name "range" p) [e, f] [] pos) (.rng c k) :=
  PI.by' (pi_range2 hg hm (pa_cons h (pa_cons h2 pa_nil (star_cons hs2)) (star_cons hs)) (by rw [star_cons hs, star_cons hs2] <;> rfl) (star_cons hs2)) fun σ H R ⟨ρ, I, q⟩ => ⟨ρ, I, by
    simp only [evI] at q
    exact LdG.bindE q fun x v H1 hx s1 r1 q1 => ⟨ρ, I.more s1, LdG.bindE q1 fun y u H2 hy s2 r2 q2 => by
      cases x <;> cases y <;> try (exact q2.elim)
      rename_i i j
      cases r1
      cases r2
      simp only at q2
      by_cases hk : (rngOk i j && decide ((j - i).toNat ≤ 16777216)) = true
      · rw [if_pos hk] at q2
        have hb := rngOk_is hk
        exact ⟨i, j, rfl, ⟨hb.1, hb.2.1, hb.2.2.1, hb.2.2.2.1⟩, q2 H2 (Same.refl H2) _ (wk_rng hb.2.2.2.2)⟩
      · rw [if_neg hk] at q2
        exact q2.elim⟩⟩
end
end Ev
end
section
set_option Elab.async false
set_option linter.all false
set_option maxRecDepth 100000
set_option maxHeartbeats 2000000
namespace Ev
open PySem PySem.Spec PyProof.Rows L2

/-! ## comprehensions -/
section
variable {g : Cfg} {O : Addr → Prop} {H0 H H' : Hp} {xi : Option XI} {σ σ' : St} {ρ ρ' : Rho} {W : WX} {X : Cx} {T : Tb}
abbrev WF : WX := fun _ _ _ _ => False
/-- the test and the element of one turn -/
def turnC (T : Tb) (tg : Tgt) (cd : CT) (elt : CE) (ρ : Rho) (d : D) : R (Option D) := do
  let ρ1 ← bindT tg d ρ
  let c ← evT T cd ρ1
  if c then do let y ← evE T elt ρ1; pure (some y) else pure none
theorem evC_is {tg : Tgt} {it : CI} {cd : CT} {elt : CE} (hx : (T.hot && !itHot it) = false) : evE T (.cmp tg it cd elt) ρ = if tgOwn ρ tg then .stuck else (evI T it ρ >>= fun xs => compL (turnC T tg cd elt ρ) xs >>= fun ys => .ok (.lst ys)) := by
  show (if (T.hot && !itHot it) = true then _ else _) = _
  rw [if_neg (by rw [hx]; decide)]
  rfl
theorem compL_cons {f : D → R (Option D)} {d : D} {ds : List D} {ys : List D} (h : compL f (d :: ds) = .ok ys) : ∃ o r, f d = .ok o ∧ compL f ds = .ok r ∧ ys = (match o with | some y => y :: r | none => r) := by
  simp only [compL] at h
  cases h1 : f d with
  | ok o =>
    rw [h1] at h
    cases h2 : compL f ds with
    | ok r => rw [h2] at h; cases h; exact ⟨o, r, rfl, rfl, rfl⟩
    | err c fs => rw [h2] at h; cases h
    | stuck => rw [h2] at h; cases h
  | err c fs => rw [h1] at h; cases h
  | stuck => rw [h1] at h; cases h
theorem compL_ne {f : D → R (Option D)} : ∀ {ds : List D} (c : Nat) (fs : List D), compL f ds ≠ .err c fs
  | [], c, fs, h => by cases h
  | d :: ds, c, fs, h => by
    simp only [compL] at h
    cases h1 : f d with
    | ok o =>
      rw [h1] at h
      cases h2 : compL f ds with
      | ok r => rw [h2] at h; cases h
      | err c fs => rw [h2] at h; cases h
      | stuck => rw [h2] at h; cases h
    | err c fs => rw [h1] at h; cases h
    | stuck => rw [h1] at h; cases h
theorem wipe_at {σ : St} {vs : List Nat} {i : Nat} (h : vs.contains i = false) : (wipe σ vs)[i]? = σ[i]? := by
  induction vs with
  | nil => rfl
  | cons v vs ih =>
    simp only [List.contains_cons, Bool.or_eq_false_iff] at h
    unfold wipe
    have hv : v ≠ i := by
      intro e
      subst e
      simp at h
    rw [List.getElem?_set_ne hv]
    exact ih h.2
theorem wipe_in {σ : St} {vs : List Nat} {i : Nat} (h : vs.contains i = true) (hi : i < σ.length) : (wipe σ vs)[i]? = some none := by
  induction vs with
  | nil => simp at h
  | cons v vs ih =>
    unfold wipe
    by_cases hv : v = i
    · subst hv
      exact List.getElem?_set_self (by rw [wipe_length]; exact hi)
    · rw [List.getElem?_set_ne hv]
      refine ih ?_
      simp only [List.contains_cons] at h
      have : (i == v) = false := by simp [Ne.symm hv]
      rw [this] at h
      simpa using h
/-- slots of the targets wiped in both -/
def wipeR (ρ : Rho) : List Nat → Rho
  | [] => ρ
  | v :: vs => (wipeR ρ vs).set v .none
theorem EI.wipeAll (I : EI g O H0 xi σ H ρ) : ∀ vs : List Nat, EI g O H0 xi (wipe σ vs) H (wipeR ρ vs)
  | [] => I
  | v :: vs => (EI.wipeAll I vs).wipe1
theorem wipeR_len (ρ : Rho) : ∀ vs : List Nat, (wipeR ρ vs).length = ρ.length
  | [] => rfl
  | v :: vs => by unfold wipeR; rw [List.length_set, wipeR_len ρ vs]
theorem wipeR_at {vs : List Nat} {i : Nat} (h : vs.contains i = false) : (wipeR ρ vs)[i]? = ρ[i]? := by
  induction vs with
  | nil => rfl
  | cons v vs ih =>
    simp only [List.contains_cons, Bool.or_eq_false_iff] at h
    unfold wipeR
    have hv : v ≠ i := by
      intro e
      subst e
      simp at h
    rw [List.getElem?_set_ne hv]
    exact ih h.2
theorem wipeR_own {vs : List Nat} (hn : ∀ i ∈ vs, isOwn ρ[i]? = false) {i : Nat} {xs : List D} : (wipeR ρ vs)[i]? = some (.own xs) ↔ ρ[i]? = some (.own xs) := by
  induction vs with
  | nil => rfl
  | cons v vs ih =>
    have ih := ih fun i hi => hn i (List.mem_cons_of_mem _ hi)
    unfold wipeR
    by_cases hv : v = i
    · subst hv
      have hno := hn v (by simp)
      constructor
      · intro h
        by_cases hl : v < (wipeR ρ vs).length
        · rw [List.getElem?_set_self hl] at h; cases h
        · rw [List.getElem?_eq_none (by simpa using hl)] at h; cases h
      · intro h
        rw [h] at hno
        simp [isOwn] at hno
    · rw [List.getElem?_set_ne hv]
      exact ih
/-- what is bound does not lean on what stood there -/
theorem set_wipe {ρ : Rho} {vs : List Nat} {i : Nat} {d : D} (h : i ∈ vs) : ∀ j, vs.contains j = false ∨ j = i → ((wipeR ρ vs).set i (.val d))[j]? = (ρ.set i (.val d))[j]? := by
  intro j hj
  by_cases hij : i = j
  · subst hij
    by_cases hl : i < ρ.length
    · rw [List.getElem?_set_self hl, List.getElem?_set_self (by rw [wipeR_len]; exact hl)]
    · rw [List.getElem?_eq_none (by rw [List.length_set, wipeR_len]; omega), List.getElem?_eq_none (by rw [List.length_set]; omega)]
  · rw [List.getElem?_set_ne hij, List.getElem?_set_ne hij]
    rcases hj with hj | hj
    · exact wipeR_at hj
    · exact (hij hj.symm).elim
theorem setAll_wipe : ∀ {is : List Nat} {ds : List D} {ρ ρ' ρ1 : Rho} {vs : List Nat}, ρ.length = ρ'.length → (∀ j, vs.contains j = false → ρ'[j]? = ρ[j]?) → (∀ j, vs.contains j = true → is.contains j = true) → setAll is ds ρ = .ok ρ1 → setAll is ds ρ' = .ok ρ1
  | [], [], ρ, ρ', ρ1, vs, hl, h1, h2, h => by
    simp only [setAll] at h ⊢
    cases h
    congr 1
    apply List.ext_getElem?
    intro j
    refine h1 j ?_
    cases hc : vs.contains j with
    | false => rfl
    | true => have := h2 j hc; simp at this
  | [], _ :: _, _, _, _, _, _, _, _, h => by simp [setAll] at h
  | _ :: _, [], _, _, _, _, _, _, _, h => by simp [setAll] at h
  | i :: is, d :: ds, ρ, ρ', ρ1, vs, hl, h1, h2, h => by
    simp only [setAll] at h ⊢
    refine setAll_wipe (vs := vs.filter (· ≠ i)) (by simp [hl]) (fun j hj => ?_) (fun j hj => ?_) h
    · by_cases hij : i = j
      · subst hij
        by_cases hlt : i < ρ.length
        · rw [List.getElem?_set_self hlt, List.getElem?_set_self (by rw [← hl]; exact hlt)]
        · rw [List.getElem?_eq_none (by rw [List.length_set]; omega), List.getElem?_eq_none (by rw [List.length_set]; omega)]
      · rw [List.getElem?_set_ne hij, List.getElem?_set_ne hij]
        refine h1 j ?_
        cases hc : vs.contains j with
        | false => rfl
        | true =>
          exfalso
          have hm : j ∈ vs := by simpa using hc
          have : j ∈ vs.filter (· ≠ i) := List.mem_filter.mpr ⟨hm, by simp [Ne.symm hij]⟩
          rw [List.contains_iff_mem.mpr this] at hj
          cases hj
    · have hm : j ∈ vs.filter (· ≠ i) := by simpa using hj
      have hm' := List.mem_filter.mp hm
      have hji : j ≠ i := by simpa using hm'.2
      have := h2 j (by simpa using hm'.1)
      simp only [List.contains_cons] at this
      have hne : (j == i) = false := by simp [hji]
      rw [hne] at this
      simpa using this
theorem bind_wipe {tg : Tgt} {d : D} {ρ1 : Rho} (h : bindT tg d ρ = .ok ρ1) : bindT tg d (wipeR ρ tg.slots) = .ok ρ1 := by
  cases tg with
  | nm i =>
    simp only [bindT] at h ⊢
    cases h
    congr 1
    apply List.ext_getElem?
    intro j
    by_cases hj : i = j
    · exact set_wipe (by simp [Tgt.slots]) j (.inr hj.symm)
    · exact set_wipe (by simp [Tgt.slots]) j (.inl (by simp [Tgt.slots, Ne.symm hj]))
  | tp is =>
    cases d <;> simp only [bindT] at h ⊢ <;> try (cases h; done)
    exact setAll_wipe (vs := is) (wipeR_len ρ is).symm (fun j hj => wipeR_at hj) (fun j hj => hj) h
theorem wipe_set {σ : St} {v : Nat} {x : Option V} : ∀ {vs : List Nat}, v ∈ vs → wipe (σ.set v x) vs = wipe σ vs
  | [], h => by cases h
  | u :: vs, h => by
    apply List.ext_getElem?
    intro j
    cases hj : (u :: vs).contains j with
    | false =>
      rw [wipe_at hj, wipe_at hj, List.getElem?_set_ne]
      intro e
      subst e
      rw [List.contains_iff_mem.mpr h] at hj
      cases hj
    | true =>
      by_cases hlt : j < σ.length
      · rw [wipe_in hj hlt, wipe_in hj (by rw [List.length_set]; exact hlt)]
      · rw [List.getElem?_eq_none (by rw [wipe_length, List.length_set]; omega), List.getElem?_eq_none (by rw [wipe_length]; omega)]
theorem wipe_wipe (σ : St) (vs : List Nat) : wipe (wipe σ vs) vs = wipe σ vs := by
  apply List.ext_getElem?
  intro j
  cases hj : vs.contains j with
  | false => rw [wipe_at hj]
  | true =>
    by_cases hlt : j < σ.length
    · rw [wipe_in hj hlt, wipe_in hj (by rw [wipe_length]; exact hlt)]
    · rw [List.getElem?_eq_none (by rw [wipe_length, wipe_length]; omega), List.getElem?_eq_none (by rw [wipe_length]; omega)]
/-- one more list that may still change -/
theorem EI.addO {D : Addr} {vs : List V} (I : EI g O H0 xi σ H ρ) (hD : H D = none) (s : Same H H') (eD : H' D = some (.lst vs)) : EI g (fun a => O a ∨ a = D) H0 xi σ H' ρ := by
  have sub : ∀ a, Own (fun a => O a ∨ a = D) σ ρ a → Own O σ ρ a ∨ H a = none := by
    rintro a ((z | rfl) | z)
    · exact .inl (.inl z)
    · exact .inr hD
    · exact .inl (.inr z)
  have g1 : ∀ {v : V} {d : Ev.D}, Rep g.K (Own O σ ρ) H v d → Rep g.K (Own (fun a => O a ∨ a = D) σ ρ) H' v d := fun r => (r.add sub).gro (Gro.of s)
  have g2 : ∀ {vs : List V} {ds : List Ev.D}, Reps g.K (Own O σ ρ) H vs ds → Reps g.K (Own (fun a => O a ∨ a = D) σ ρ) H' vs ds := fun r => (r.add sub).gro (Gro.of s)
  refine ⟨I.len, I.same.trans s, fun a z => ?_, fun i d e => ?_, fun i xs e => ?_, I.inj, fun i c fs e => ?_⟩
  · rcases z with z | rfl
    · obtain ⟨xs, e⟩ := I.trk a z
      exact ⟨xs, s _ _ e⟩
    · exact ⟨vs, eD⟩
  · obtain ⟨v, h1, h2⟩ := I.val i d e
    exact ⟨v, h1, g1 h2⟩
  · obtain ⟨a, ws, h1, h2, h3, h4, h5⟩ := I.own i xs e
    exact ⟨a, ws, h1, s _ _ h2, h3, g2 h4, h5⟩
  · obtain ⟨x, h1, h2, h3, h4, fl, e1, h5⟩ := I.exc i c fs e
    refine ⟨x, h1, h2, h3, h4, fl, s _ _ e1, fun j n hj => ?_⟩
    obtain ⟨v, e, h6, h7, h8⟩ := h5 j n hj
    exact ⟨v, e, h6, h7, g1 h8⟩
theorem own_add {D : Addr} {σ : St} {ρ : Rho} (a : Addr) : Own (fun a => O a ∨ a = D) σ ρ a ↔ Own O σ ρ a ∨ a = D := by
  constructor
  · rintro ((z | z) | z)
    · exact .inl (.inl z)
    · exact .inr z
    · exact .inl (.inr z)
  · rintro ((z | z) | z)
    · exact .inl (.inl z)
    · exact .inr z
    · exact .inl (.inr z)
theorem slots_no {ct : Tgt} (h : tgOwn ρ ct = false) : ∀ i ∈ ct.slots, isOwn ρ[i]? = false := by
  intro i hi
  cases ct with
  | nm j =>
    simp only [Tgt.slots, List.mem_singleton] at hi
    subst hi
    exact h
  | tp is =>
    simp only [tgOwn, List.any_eq_false] at h
    simpa using h i hi
theorem slots_no' {ct : Tgt} (h : ∀ i ∈ ct.slots, isOwn ρ[i]? = false) : tgOwn ρ ct = false := by
  cases ct with
  | nm j => exact h j (by simp [Tgt.slots])
  | tp is =>
    simp only [tgOwn, List.any_eq_false]
    intro i hi
    rw [h i hi]
    exact Bool.false_ne_true
theorem own_wipe {vs : List Nat} (hno : ∀ i ∈ vs, isOwn ρ[i]? = false) : Own O (wipe σ vs) (wipeR ρ vs) = Own O σ ρ := by
  have nc : ∀ {j : Nat} {zs : List D}, ρ[j]? = some (.own zs) → vs.contains j = false := fun {j zs} z => by
    cases hcj : vs.contains j with
    | false => rfl
    | true =>
      have := hno j (List.contains_iff_mem.mp hcj)
      rw [z] at this
      simp [isOwn] at this
  funext a
  apply propext
  constructor
  · rintro (z | ⟨j, zs, z1, z2⟩)
    · exact .inl z
    · have z1' := (wipeR_own hno).mp z1
      exact .inr ⟨j, zs, z1', by rw [← wipe_at (nc z1')]; exact z2⟩
  · rintro (z | ⟨j, zs, z1, z2⟩)
    · exact .inl z
    · exact .inr ⟨j, zs, (wipeR_own hno).mpr z1, by rw [wipe_at (nc z1)]; exact z2⟩
theorem isOwn_wipe {vs : List Nat} {j : Nat} (hno : ∀ i ∈ vs, isOwn ρ[i]? = false) (h : isOwn ρ[j]? = false) : isOwn (wipeR ρ vs)[j]? = false := by
  cases e2 : (wipeR ρ vs)[j]? with
  | none => rfl
  | some s =>
    cases s with
    | own zs =>
      rw [(wipeR_own hno).mp e2] at h
      simp [isOwn] at h
    | _ => rfl
def xE (t : (Addr → Prop) → TE) : TE := fun σ H Q => ∃ O, t O σ H Q
def xT (t : (Addr → Prop) → TT) : TT := fun σ H Q => ∃ O, t O σ H Q
def xG (t : (Addr → Prop) → TG) : TG := fun v σ H Q => ∃ O, t O v σ H Q
theorem s_cmpL {tg it elt : Expr} {ifs : List Expr} {scope : Scope} {own : List (Str × Nat)} {ct : Tgt} {ci : CI} {cd : CT} {ce : CE} (how : own.map (·.2) = ct.slots) (hx : (T.hot && !itHot ci) = false) : ∀ σ H Q, rE g O H0 xi W (evE T (.cmp ct ci cd ce)) σ H Q →
      tLc (rI g O H0 xi W (evI T ci) (ownIt · ci)) (xG fun O => rG g O H0 xi ct) (xT fun O => rT g O H0 xi WF (evT T cd)) (xE fun O => rE g O H0 xi WF (evE T ce)) (own.map (·.2)) σ H Q := by
  rintro σ H Q ⟨ρ, I, q⟩
  rw [evC_is hx] at q
  by_cases ho : tgOwn ρ ct = true
  · rw [if_pos ho] at q; exact q.elim
  rw [if_neg ho] at q
  have hno := slots_no (Bool.eq_false_iff.mpr ho)
  refine ⟨ρ, I, LdE.bindG q fun xs H1 hx s1 q1 J wk D hD => ?_⟩
  obtain ⟨ll, G, Y, w, hG, gs, _, gy⟩ := wk (fun a => Own O σ ρ a ∨ a = D) (by rintro a (z | rfl); exact .inl z; exact .inr hD)
  cases hcomp : compL (turnC T ct cd ce ρ) xs with
  | err c fs => exact (compL_ne _ _ hcomp).elim
  | stuck => rw [hcomp] at q1; exact q1.elim
  | ok ys =>
    rw [hcomp] at q1
    have I1 := I.more s1
    have hDO : ¬ Own O σ ρ D := I1.trkO.no hD
    rw [how]
    have ow : ∀ {σ : St} {ρ : Rho}, Own (fun a => O a ∨ a = D) σ ρ = fun a => Own O σ ρ a ∨ a = D := fun {σ ρ} => funext fun a => propext (own_add a)
    refine lc_it w (fun i H2 => i ≤ xs.length ∧ Same H1 H2 ∧ ∃ vs acc rest, H2 D = some (.lst vs) ∧ Reps g.K (fun a => Own O σ ρ a ∨ a = D) H2 vs acc ∧ compL (turnC T ct cd ce ρ) (xs.drop i) = .ok rest ∧ acc ++ rest = ys ∧ vs.length ≤ i)
      ⟨Nat.zero_le _, same_upd hD, [], [], ys, upd_same, .nil, hcomp, rfl, Nat.le_refl _⟩ (fun i H2 _ p => gs _ _ p.2.1 hG) ?_ ?_
    · -- a turn
      rintro i x H2 H3 hlt ⟨_, s2, vs, acc, rest, eD, ra, hr, hy, hl⟩ y
      obtain ⟨s3, d, hd, rx⟩ := gy i H2 x H3 hlt (gs _ _ s2 hG) y
      have hdrop : xs.drop i = d :: xs.drop (i + 1) := by
        rw [List.drop_eq_getElem_cons hlt]
        congr 1
        rw [List.getElem?_eq_getElem hlt] at hd
        exact Option.some.inj hd
      rw [hdrop] at hr
      obtain ⟨o, r, h1, h2, h3⟩ := compL_cons hr
      unfold turnC at h1
      cases hb : bindT ct d ρ with
      | err c fs => rw [hb] at h1; cases h1
      | stuck => rw [hb] at h1; cases h1
      | ok ρ1 =>
        rw [hb] at h1
        simp only [ok_bind] at h1
        have eD3 := s3 _ _ eD
        have Iw := (I1.addO hD (s2.trans s3) eD3).wipeAll ct.slots
        have ow1 := own_wipe (O := fun a => O a ∨ a = D) (σ := σ) hno
        refine ⟨fun a => O a ∨ a = D, wipeR ρ ct.slots, d, ρ1, Iw, by rw [ow1, ow]; exact rx, bind_wipe hb, fun σ1 J1 o1 o2 k1 l1 => ?_⟩
        have ow2 : Own (fun a => O a ∨ a = D) σ1 ρ1 = fun a => Own O σ ρ a ∨ a = D := by
          rw [← ow, ← ow1]
          funext a
          exact propext ⟨o1 a, o2 (slots_no' fun i hi => isOwn_wipe hno (hno i hi)) a⟩
        have hw : wipe σ1 ct.slots = wipe (wipe σ ct.slots) ct.slots := by
          apply List.ext_getElem?
          intro j
          cases hj : ct.slots.contains j with
          | false => rw [wipe_at hj, (k1 j hj).1, wipe_at hj, wipe_at hj, wipe_at hj]
          | true =>
            have hle : σ1.length = σ.length := l1.trans (wipe_length ..)
            by_cases hlt' : j < σ.length
            · rw [wipe_in hj (by rw [hle]; exact hlt'), wipe_in hj (by rw [wipe_length]; exact hlt')]
            · rw [List.getElem?_eq_none (by rw [wipe_length]; omega), List.getElem?_eq_none (by rw [wipe_length, wipe_length]; omega)]
        refine ⟨hw.trans (wipe_wipe ..), fun a => O a ∨ a = D, ρ1, J1, ?_⟩
        cases hcd : evT T cd ρ1 with
        | err c fs => rw [hcd] at h1; cases h1
        | stuck => rw [hcd] at h1; cases h1
        | ok b =>
          rw [hcd] at h1
          intro H4 s4
          simp only [ok_bind] at h1
          cases b with
          | false =>
            rw [if_neg (by decide)] at h1 ⊢
            cases h1
            exact ⟨hlt, (s2.trans s3).trans s4, vs, acc, r, s4 _ _ eD3, ra.gro (Gro.of (s3.trans s4)), h2, by rw [← hy, h3], Nat.le_succ_of_le hl⟩
          | true =>
            rw [if_pos rfl] at h1 ⊢
            refine ⟨fun a => O a ∨ a = D, ρ1, J1.more s4, ?_⟩
            cases hel : evE T ce ρ1 with
            | err c fs => rw [hel] at h1; cases h1
            | stuck => rw [hel] at h1; cases h1
            | ok yv =>
              rw [hel] at h1
              cases h1
              intro v H5 s5 r5
              rw [ow2] at r5
              have s35 := (s3.trans s4).trans s5
              have sD5 : H5 D = some (.lst vs) := s5 _ _ (s4 _ _ eD3)
              have grow : Gro (fun a => Own O σ ρ a ∨ a = D) H5 (upd H5 D (.lst (vs ++ [v]))) := fun b u e => by
                by_cases hb : b = D
                · subst hb
                  rw [sD5] at e
                  cases e
                  exact .inr ⟨.inr rfl, vs, rfl⟩
                · exact .inl (by rw [upd_ne hb]; exact e)
              refine ⟨vs, sD5, by rw [sizeLine_eq]; omega, hlt, fun b u e => ?_, vs ++ [v], acc ++ [yv], r, upd_same, Reps.gro grow (Reps.app (ra.gro (Gro.of s35)) (.cons r5 .nil)), h2, ?_, by simp; omega⟩
              · rw [upd_ne (ne_of_none e hD)]
                exact (s2.trans s35) _ _ e
              · rw [← hy, h3]; simp
    · rintro H2 ⟨_, s2, vs, acc, rest, eD, ra, hr, hy, hl⟩
      rw [List.drop_length] at hr
      simp only [compL] at hr
      cases hr
      rw [List.append_nil] at hy
      subst hy
      exact q1 _ H2 s2 (.lst (by rw [← ra.length]; omega) hDO eD (ra.less fun a z => .inl z))
theorem s_comp {tg it elt : Expr} {ifs : List Expr} {scope : Scope} {own : List (Str × Nat)} {pos : Pos} {ct : Tgt} {ci : CI} {cd : CT} {ce : CE} (hc : T.hot = false → X.calm = true) (hr : T.hot = true → itHot ci = false) (hN : X.N.Nodup) (hi : SI g O H0 xi W T X tg it ci) (ok : BlkOk X.N X.env.scope scope own)
    (how : own.map (·.2) = ct.slots)
    (hg : ∀ (O : Addr → Prop) (s : Shared) (H : Hp) (C : Addr) (cl : List (Str × Addr)) (fp : List Addr), PG (X.blk s H scope (compEnvC scope cl C X.env) fp) tg (rG g O H0 xi ct))
    (ht : ∀ (O : Addr → Prop) (s : Shared) (H : Hp) (C : Addr) (cl : List (Str × Addr)) (fp : List Addr), PTs (X.blk s H scope (compEnvC scope cl C X.env) fp) ifs (rT g O H0 xi WF (evT T cd)))
    (he : ∀ (O : Addr → Prop) (s : Shared) (H : Hp) (C : Addr) (cl : List (Str × Addr)) (fp : List Addr), PE (X.blk s H scope (compEnvC scope cl C X.env) fp) elt (rE g O H0 xi WF (evE T ce)))
    (hs : ∀ x, foldedSetIterable it X.env x = pure x) : SE g O H0 xi W T X (.ListComp elt [⟨tg, it, ifs, 0⟩] scope pos) (.cmp ct ci cd ce) :=
  match hh : T.hot with
  | true => PE.by' PE.stk fun σ H Q ⟨ρ, I, q⟩ => by
    simp only [evE] at q
    rw [if_pos (by rw [hh, hr hh]; rfl)] at q
    exact q
  | false => PE.by' (pe_lc (g := xG fun O => rG g O H0 xi ct) (tt := xT fun O => rT g O H0 xi WF (evT T cd)) (te := xE fun O => rE g O H0 xi WF (evE T ce)) (hc hh) hN hi ok
    (fun s H C cl fp => ⟨fun pins s' σ' H' v u Q I r ⟨O, q⟩ => (hg O s H C cl fp).run pins s' σ' H' v u Q I r q⟩)
    (fun s H C cl fp => ⟨fun pins s' σ' H' Q I ⟨O, q⟩ => (ht O s H C cl fp).run pins s' σ' H' Q I q⟩)
    (fun s H C cl fp => ⟨fun pins s' σ' H' Q I ⟨O, q⟩ => (he O s H C cl fp).run pins s' σ' H' Q I q⟩) hs) (s_cmpL (tg := tg) (it := it) (elt := elt) (ifs := ifs) (scope := scope) how (by rw [hh]; rfl))
end
end Ev
end
section
set_option Elab.async false
set_option linter.all false
set_option maxRecDepth 100000
set_option maxHeartbeats 4000000
/-! isinstance of a caught exception that has a dict of its own -/
namespace PySem.W
open PySem PySem.Spec PySem.Calls PyProof.Rows
section
variable {prog : Program} {w : World} {A : Around} {E : Value → Shared → Prop} {K : Frag} {x D : Addr} {ox od : Obj}
theorem ev_dataObj {C : Addr} {nm : Str} {o : Option Obj} {a gt : Value} (h1 : (clsIn K C).isSome = true) (h2 : findIn K (.ref C) nm = some (some a)) (h3 : specialIn K a "__get__" = some (some gt)) (h4 : takesIn K a = some true) :
    findObj K C o nm = some (.bind gt a) := by
  cases hcd : clsIn K C with
  | none => rw [hcd] at h1; cases h1
  | some cd =>
    unfold findObj
    simp only [hcd, Option.bind_some, h2, h3, h4]
structure ClsAsk (K : Frag) (D : Addr) : Prop where
  c1 : findIn K (.ref D) "__getattribute__" = some (some (.builtin "BaseException.__getattribute__"))
  c2 : findIn K (.ref D) "__getattr__" = some none
  c3 : subIn K (.ref D) (.type "BaseException") = some true
  c4 : (clsIn K D).isSome = true
  c5 : findIn K (.ref D) "__class__" = some (some (.builtin "object.__class__"))
  c6 : specialIn K (.builtin "object.__class__") "__get__" = some (some (.builtin "getset_descriptor.__get__"))
  c7 : takesIn K (.builtin "object.__class__") = some true
  c8 : mroIn K D (.type "object") = some true
theorem ev_classOf (F : ClsAsk K D) {s : Shared} {Q : Option Value → Shared → Prop} (X : K.In s.heap) (J : InstAt s.heap x ox D (some od)) (q : Q (some (.ref D)) { s with toks := s.toks + 1 }) :
    wpAny (model prog w) A (getAttr? (.ref x) "__class__") Q E s := by
  have ff : findObj K D (some od) "__class__" = some (.bind (.builtin "getset_descriptor.__get__") (.builtin "object.__class__")) :=
    ev_dataObj F.c4 F.c5 F.c6 F.c7
  obtain ⟨hh, gg, dd, tt, oo⟩ := s
  have K0 := J.type (M := model prog w)
  have K1 := looks_findIn (M := model prog w) X F.c1
  have K2 := looks_findIn (M := model prog w) X F.c2
  have K3 := looks_find (M := model prog w) X J ff
  have isE : Looks (model prog w) hh (isInstance (.ref x) (.type "BaseException")) true :=
    K0.andThen (looks_subIn X F.c3)
  have e2 : (Value.builtin "BaseException.__getattribute__" == Value.builtin "object.__getattribute__") = false := by
    decide +kernel
  unfold getAttr? getAttrBy? getAttrBy
  refine wpAny_bind (wpAny_mkText (wpAny_bind (wpAny_attempt ?_)))
  refine wpAny_holding (wpAny_bind (K0.at (wpAny_bind (K1.at ?_))))
  have e1 : (onTheHeap (Value.ref D) && Value.builtin "BaseException.__getattribute__" == Value.builtin "object.__getattribute__") = false := by
    rw [e2] <;> rfl
  simp only [e1, Bool.false_eq_true, if_false]
  unfold getAttrByItsOwn hookBefore
  refine wpAny_bind ?_
  have onH : onTheHeap (Value.ref D) = true := rfl
  rw [if_pos onH]
  refine K2.at (wpAny_bind (wpAny_attempt (wpAny_holding ?_)))
  unfold callGetattribute
  simp only [Bool.false_and, Bool.false_eq_true, if_false]
  unfold boundAndCalled
  rw [PySem.F.excAttr_ValueError.ga.bind (Value.ref x)]
  refine wpAny_bind (wpAny_pure ?_)
  have go : codeAny (model prog w) A (.call (.builtin "BaseException.__getattribute__") ⟨[.ref x, .str "__class__" tt], []⟩) (fun r s' => r = .ok (.ret (.ref D)) ∧ s' = ⟨hh, gg, dd, tt + 1, oo⟩) ⟨hh, gg, dd, tt + 1, oo⟩ := by
    refine codeAny_call_builtin PySem.F.excAttr_ValueError.ga.plain PySem.F.entry_bexc_ga ?_
    refine @check_slot (model prog w) _ _ ⟨hh, gg, dd, tt + 1, oo⟩ "BaseException.__getattribute__" "BaseException" "__getattribute__" (Value.ref x) [Value.str "__class__" tt] [] _
      (by decide +kernel) (by decide +kernel) isE (PySem.F.args_bexc_ga (Value.ref x) (Value.str "__class__" tt)) ?_
    unfold Builtin.«object.__getattribute__»
    refine wpAny_bind (wpAny_of_eq (a := (Value.ref x, [Value.str "__class__" tt])) (by first | rfl | (simp only [slotArgs]; rfl)) ?_)
    refine wpAny_bind (wpAny_pure (wpAny_bind (K0.at (wpAny_bind (K3.at ?_)))))
    show wpAny _ _ (holding [Value.builtin "object.__class__"] (call (.builtin "getset_descriptor.__get__") [.builtin "object.__class__", .ref x, .ref D]) >>= fun u => ret u) _ _ _
    refine wpAny_bind (wpAny_holding (wpAny_call (class_get (s := ⟨hh, gg, dd, tt + 1, oo⟩) (ox := ox) (od := some od) X J F.c8 ?_)))
    exact wpAny_pure ⟨rfl, rfl⟩
  show wpAny _ _ (call (.builtin "BaseException.__getattribute__") [.ref x, .str "__class__" tt]) _ _ _
  refine wpAny_call (codeAny_mono go fun r s' z => ?_)
  obtain ⟨rfl, rfl⟩ := z
  show wpAny _ _ (handedOut (Value.ref D)) _ _ _
  rw [handedOut_of (v := Value.ref D) rfl]
  first
    | exact wpAny_pure (wpAny_pure q)
    | exact wpAny_pure q
    | exact wpAny_pure (wpAny_bind (wpAny_pure (wpAny_pure q)))
theorem ev_kitx (F : ClsAsk K D) : KitX K (.ref x) (.ref D) (fun h => InstAt h x ox D (some od)) where
  ty := fun _ _ _ J => J.type
  it := fun M h X _ => by
    have hs := F.c4
    unfold clsIn at hs
    split at hs
    · rename_i c1 d1 cd1 sl1 e1
      intro A1 Q1 E1 s1 k1 q1
      unfold isType loadHead
      exact wpAny_bind (wpAny_loadPart (k1 _ _ (X _ _ e1)) (wpAny_pure q1))
    · simp at hs
  ne := fun h tp d1 its n sl X htp => by
    have hs := F.c4
    refine Bool.eq_false_iff.mpr fun q1 => ?_
    have e0 : D = tp := Value.ref.inj (beq_iff_eq.mp q1)
    subst e0
    unfold clsIn at hs
    split at hs
    · rename_i c1 d1 cd1 sl1 e1
      have := (X _ _ e1).symm.trans htp
      cases this
    · simp at hs
  ca := fun X J q => ev_classOf F X J q
end
end PySem.W
namespace Ev
open PySem PySem.Spec PyProof.Rows L2
/-- X bears the exception x, which is handled -/
structure XiAt (g : Cfg) (X : Cx) (x : XI) : Prop where
  ex : ∃ (oe : Obj) (vs : Array Value), (x.a, oe) ∈ X.pn ∧ Zc (.ref (g.cAd x.c)) (some x.d) oe ∧ oe.data = .fields vs
/-- what a class of exceptions must say -/
structure ExF (g : Cfg) (c : Nat) : Prop where
  ask : PySem.W.ClsAsk g.K (g.cAd c)
  hd : PySem.W.hasDictIn g.K (g.cAd c) = true
  no : ∀ n ∈ g.cFl c, PySem.W.findIn g.K (.ref (g.cAd c)) n = some none
section
variable {g : Cfg} {O : Addr → Prop} {H0 H H' : Hp} {xi : Option XI} {σ σ' : St} {ρ ρ' : Rho} {W : WX} {X : Cx} {T : Tb}
theorem xi_inst {x : XI} {pins : List (Addr × Obj)} {s : Shared} (h : XiAt g X x) (I : Inv X pins σ H s) {fl : List (Str × V)} (e : H x.d = some (.xd fl)) :
    ∃ (oe od : Obj) (mA : Str → Option Value), PySem.W.InstAt s.heap x.a oe (g.cAd x.c) (some od) ∧ (∀ n, PySem.W.lookIn n od = some (mA n)) ∧ ∀ n, RelO (fl.lookup n) (mA n) := by
  obtain ⟨oe, vs, hm, hz, hd⟩ := h.ex
  obtain ⟨ha, _⟩ := I.pin (x.a, oe) (List.mem_append_left _ hm)
  obtain ⟨mA, hns, hr⟩ := (I.hok x.d _ e : ObjOk X.prog X.w H s.heap x.d (.xd fl))
  obtain ⟨od, ho, hl⟩ := lookIn_ns hns
  exact ⟨oe, od, mA, ⟨ha, hz.1, by unfold PySem.W.notCls; rw [hd] <;> rfl, by rw [hz.2]; exact ho⟩, hl, hr⟩
theorem s_exf {x : XI} {i j : Nat} {nm fn : Str} {pos p : Pos} (hK : X.K = g.K) (hx : XiAt g X x) (F : ExF g x.c) (hj : (g.cFl x.c)[j]? = some fn) (hN : X.N[i]? = some nm) (hv : Vis X.env.scope nm) (hd : (nm == ("__debug__" : Str)) = false) (hcd : (nm == ("__classdict__" : Str)) = false)
    (hb : attributeBase (.Name nm p) fn X.env (eval (.Name nm p) X.env) = eval (.Name nm p) X.env) : SE g O H0 (some x) W T X (.Attribute (.Name nm p) fn pos) (.exf i j) := by
  refine ⟨fun pins s σ H Q I ⟨ρ, J, q⟩ => ?_⟩
  simp only [evE] at q
  cases hs : ρ[i]? with
  | none => rw [hs] at q; exact q.elim
  | some sl =>
    cases sl with
    | exc c fs =>
      rw [hs] at q
      simp only at q
      cases hf : fs[j]? with
      | none => rw [hf] at q; exact q.elim
      | some d =>
        rw [hf] at q
        obtain ⟨x', e0, rfl, rfl, e3, fl, e4, e5⟩ := J.exc i c fs hs
        cases e0
        obtain ⟨v, d', h1, h2, h3⟩ := e5 j fn hj
        rw [hf] at h1
        cases h1
        refine attr_of hb (thn ((pe_var (X := X) (pos := p) hN hv hd hcd).run pins s σ H (fun u H1 => u = .ref x.a ∧ H1 = H) I ⟨_, e3, rfl, rfl⟩) fun u s1 ⟨u1, H1, I1, ru, eu, eH⟩ => ?_)
        subst eu eH
        cases (show u = Value.ref x.a from ru)
        obtain ⟨oe, od, mA, hi, hl, hr⟩ := xi_inst hx I1 e4
        obtain ⟨w, hw, rw'⟩ := RelO.some_of (v := v) (o := mA fn) (by rw [← h2]; exact hr fn)
        have kk : X.K.In s1.heap := I1.kIn
        rw [hK] at kk
        exact HandSPX.exc_get kk hi F.ask.c1 F.ask.c2 F.ask.c3 (PySem.W.findObj_own F.hd (F.no fn (List.mem_of_getElem? hj)) rfl (by rw [hl, hw])) (handed_of rw') ⟨v, H1, I1.tok _, rw', q v H1 (Same.refl H1) h3⟩
    | _ => rw [hs] at q; exact q.elim
theorem call_isX {x : XI} (hK : X.K = g.K) (hx : XiAt g X x) (F : ExF g x.c) : CallR X (.builtin "isinstance") (fun xs H Q => ∃ (c : V) (cv : Value) (b : Bool) (fl : List (Str × V)), xs = [.ref x.a, c] ∧ (∀ u, RelV c u → u = cv) ∧ PySem.W.kitOne g.K (.ref (g.cAd x.c)) cv = some b ∧ H x.d = some (.xd fl) ∧ Q (.bl b) H) := by
  intro pins s σ H xs us Q I r h
  obtain ⟨c, cv, b, fl, rfl, hcv, e, e4, q⟩ := h
  obtain ⟨u1, u2, rfl, r1, r2⟩ := vals2 r
  cases (show u1 = Value.ref x.a from r1)
  cases hcv _ r2
  obtain ⟨oe, od, mA, hi, hl, hr⟩ := xi_inst hx I e4
  have kk : X.K.In s.heap := I.kIn
  rw [hK] at kk
  exact PySem.W.kia_one (PySem.W.ev_kitx F.ask) kk hi e (fun z => nomatch z) fun tk => ⟨.bl b, H, I.kept (t' := tk) fun _ _ z => z, rfl, q⟩
theorem s_exi {x : XI} {i c : Nat} {nm cn : Str} {p p1 p2 pos : Pos} (hK : X.K = g.K) (hmg : X.mg = g.mg) (hx : XiAt g X x) (F : ExF g x.c) (hkit : PySem.W.kitOne g.K (.ref (g.cAd x.c)) (.ref (g.cAd c)) = some (T.sub x.c c)) (hN : X.N[i]? = some nm) (hv : Vis X.env.scope nm) (hd : (nm == ("__debug__" : Str)) = false) (hcd : (nm == ("__classdict__" : Str)) = false)
    (hg : Gl X "isinstance") (hm : X.mg "isinstance" = none) (hgc : Gl X cn) (hmc : g.mg cn = some (.ref (g.cAd c))) (hdc : (cn == ("__debug__" : Str)) = false) : SE g O H0 (some x) W T X (.Call (.Name "isinstance" p) [.Name nm p1, .Name cn p2] [] pos) (.exi i c) := by
  have hcl : PE X (.Name cn p2) (fun _ H Q => Q (.ref (g.cAd c)) H) := ⟨fun pins s σ H Q I q => ld_glob I hgc (by rw [hmg]; exact hmc) ⟨.ref (g.cAd c), H, I, rfl, q⟩ hdc⟩
  refine PE.by' (pe_callB (call_isX hK hx F) hg hm (by decide +kernel) (pa_cons (pe_var (pos := p1) hN hv hd hcd) (pa_cons hcl pa_nil rfl) rfl) (by decide) (by decide) rfl rfl) fun σ H Q ⟨ρ, J, q⟩ => ?_
  simp only [evE] at q
  cases hs : ρ[i]? with
  | none => rw [hs] at q; exact q.elim
  | some sl =>
    cases sl with
    | exc c' fs =>
      rw [hs] at q
      obtain ⟨x', e0, rfl, rfl, e3, fl, e4, e5⟩ := J.exc i c' fs hs
      cases e0
      exact ⟨_, e3, .ref (g.cAd c), .ref (g.cAd c), T.sub x.c c, fl, rfl, fun u z => z, hkit, e4, q _ H (Same.refl H) (.bl _)⟩
    | _ => rw [hs] at q; exact q.elim
/-! ### range(a, b) as a value -/
theorem s_rngO (hK : X.K = g.K) {a b : Expr} {lo hi : CE} {p pos : Pos} (ha : SE g O H0 xi W T X a lo) (hb : SE g O H0 xi W T X b hi) (hg : Gl X "range") (hm : X.mg "range" = none) (hs : notStar a = true) (hs2 : notStar b = true) :
    SE g O H0 xi W T X (.Call (.Name "range" p) [a, b] [] pos) (.rngO lo hi) :=
  PE.by' (pe_callTy cr_range2 hg hm (by decide +kernel) (pa_cons ha (pa_cons hb pa_nil (star_cons hs2)) (star_cons hs)) (by decide) (by decide) (star_cons hs) (back_any (by simp [hs2]))) fun σ H Q ⟨ρ, I, q⟩ => ⟨ρ, I, by
    simp only [evE] at q
    exact LdE.bindE q fun x v H1 hx s1 r1 q1 => ⟨ρ, I.more s1, LdE.bindE q1 fun y u H2 hy s2 r2 q2 => by
      cases x <;> cases y <;> try (exact q2.elim)
      cases r1
      cases r2
      exact ⟨_, _, rfl, fun a ha => q2 _ _ (same_upd ha) (.rng upd_same)⟩⟩⟩
end
end Ev
end
section
set_option Elab.async false
set_option linter.all false
set_option maxRecDepth 100000
set_option maxHeartbeats 2000000
namespace Ev
open PySem PySem.Spec PyProof.Rows L2

/-! ## statements -/
section
variable {g : Cfg} {O : Addr → Prop} {H0 H H' H1 H2 : Hp} {xi : Option XI} {σ σ' : St} {ρ ρ' : Rho} {W : WX} {X : Cx} {T : Tb} {OO OO' OO1 OO2 : Addr → Prop}
theorem same_dom (s : Same H H') {a : Addr} (h : H' a = none) : H a = none := by
  cases e : H a with
  | none => rfl
  | some o => rw [s _ _ e] at h; cases h
theorem Gro.mono (h : ∀ a, OO a → OO' a) (q : Gro OO H H') : Gro OO' H H' := fun b o e => (q b o e).imp id fun z => ⟨h _ z.1, z.2⟩
/-- how the heap goes on: OO the lists that may change, OO' those behind -/
structure Adv (OO OO' : Addr → Prop) (H H' : Hp) : Prop where
  gro : Gro OO H H'
  dom : ∀ a, H' a = none → H a = none
  own : ∀ a, OO' a → OO a ∨ H a = none
theorem Adv.of (s : Same H H') (h : ∀ a, OO' a → OO a) : Adv OO OO' H H' := ⟨Gro.of s, fun _ => same_dom s, fun a z => .inl (h a z)⟩
theorem Adv.refl : Adv OO OO H H := Adv.of (Same.refl H) fun _ h => h
theorem Adv.trans (p : Adv OO OO1 H H1) (q : Adv OO1 OO2 H1 H2) : Adv OO OO2 H H2 where
  gro := fun b o e => by
    rcases p.gro b o e with z | z
    · rcases q.gro b o z with y | ⟨y, x⟩
      · exact .inl y
      · rcases p.own b y with w | w
        · exact .inr ⟨w, x⟩
        · rw [e] at w; cases w
    · exact .inr z
  dom := fun a z => p.dom a (q.dom a z)
  own := fun a z => (q.own a z).elim (fun y => p.own a y) fun y => .inr (p.dom a y)
def LdS (g : Cfg) (O : Addr → Prop) (H0 : Hp) (xi : Option XI) (W : WX) (OO : Addr → Prop) (H : Hp) (r : RS) (D : Ends) : Prop := match r with
  | .nx ρ' => ∀ σ' H', EI g O H0 xi σ' H' ρ' → Adv OO (Own O σ' ρ') H H' → D.nx σ' H'
  | .bk ρ' => ∀ σ' H', EI g O H0 xi σ' H' ρ' → Adv OO (Own O σ' ρ') H H' → D.bk σ' H'
  | .ct ρ' => ∀ σ' H', EI g O H0 xi σ' H' ρ' → Adv OO (Own O σ' ρ') H H' → D.ct σ' H'
  | .ret d => ∀ v H', Same H0 H' → Rep g.K O H' v d → D.rt v H'
  | .err c fs ρ' => ∀ d σ' H', EI g O H0 xi σ' H' ρ' → Adv OO (Own O σ' ρ') H H' → XF g (Own O σ' ρ') H' c fs d → W (.ref (g.cAd c)) (some d) σ' H'
  | .stuck => False
theorem LdS.adv {r : RS} {D : Ends} (h : LdS g O H0 xi W OO H r D) (a : Adv OO OO1 H H1) : LdS g O H0 xi W OO1 H1 r D := by
  cases r with
  | nx ρ' => exact fun σ' H' I b => h σ' H' I (a.trans b)
  | bk ρ' => exact fun σ' H' I b => h σ' H' I (a.trans b)
  | ct ρ' => exact fun σ' H' I b => h σ' H' I (a.trans b)
  | ret d => exact h
  | err c fs ρ' => exact fun d σ' H' I b x => h d σ' H' I (a.trans b) x
  | stuck => exact h
def rS (g : Cfg) (O : Addr → Prop) (H0 : Hp) (xi : Option XI) (W : WX) (f : Rho → RS) : TS := fun D σ H => ∃ ρ, EI g O H0 xi σ H ρ ∧ LdS g O H0 xi W (Own O σ ρ) H (f ρ) D
abbrev SS (g : Cfg) (O : Addr → Prop) (H0 : Hp) (xi : Option XI) (W : WX) (T : Tb) (X : Cx) (s : Stmt) (c : CS) : Prop := PS X s (rS g O H0 xi W (evS T c))
abbrev SSs (g : Cfg) (O : Addr → Prop) (H0 : Hp) (xi : Option XI) (W : WX) (T : Tb) (X : Cx) (s : List Stmt) (c : List CS) : Prop := PSs X s (rS g O H0 xi W (evSs T c))
theorem PS.by' {X : Cx} {e : Stmt} {t t' : TS} (h : PS X e t) (i : ∀ D σ H, t' D σ H → t D σ H) : PS X e t' := ⟨fun pins s σ H D I q => h.run pins s σ H D I (i D σ H q)⟩
theorem PSs.by' {X : Cx} {e : List Stmt} {t t' : TS} (h : PSs X e t) (i : ∀ D σ H, t' D σ H → t D σ H) : PSs X e t' := ⟨fun pins s σ H D I q => h.run pins s σ H D I (i D σ H q)⟩
/-- a result, then the rest -/
theorem LdS.onG {α : Type} {r : R α} {f : α → RS} {D : Ends} {S : α → Hp → Prop} (I : EI g O H0 xi σ H ρ) (h : LdS g O H0 xi W (Own O σ ρ) H (r.on ρ f) D) (c : ∀ a H1, r = .ok a → Same H H1 → LdS g O H0 xi W (Own O σ ρ) H1 (f a) D → S a H1) : LdG g W (Own O σ ρ) σ H r S := by
  cases r with
  | ok a => exact fun H1 s => c a H1 rfl s (h.adv (Adv.of s fun _ z => z))
  | err k fs => exact fun d H1 s x => h d σ H1 (I.more s) (Adv.of s fun _ z => z) x
  | stuck => exact h
theorem LdS.onE {r : R D} {f : D → RS} {D' : Ends} {S : VK} (I : EI g O H0 xi σ H ρ) (h : LdS g O H0 xi W (Own O σ ρ) H (r.on ρ f) D') (c : ∀ a v H1, r = .ok a → Same H H1 → Rep g.K (Own O σ ρ) H1 v a → LdS g O H0 xi W (Own O σ ρ) H1 (f a) D' → S v H1) : LdE g W (Own O σ ρ) σ H r S := by
  cases r with
  | ok a => exact fun v H1 s x => c a v H1 rfl s x (h.adv (Adv.of s fun _ z => z))
  | err k fs => exact fun d H1 s x => h d σ H1 (I.more s) (Adv.of s fun _ z => z) x
  | stuck => exact h
theorem ss_nil : SSs g O H0 xi W T X [] [] := PSs.by' pss_nil fun D σ H ⟨ρ, I, q⟩ => q σ H I Adv.refl
theorem ss_cons {s : Stmt} {r : List Stmt} {c : CS} {cs : List CS} (h1 : SS g O H0 xi W T X s c) (h2 : SSs g O H0 xi W T X r cs) : SSs g O H0 xi W T X (s :: r) (c :: cs) :=
  PSs.by' (pss_cons h1 h2) fun D σ H ⟨ρ, I, q⟩ => ⟨ρ, I, by
    simp only [evSs] at q
    cases e : evS T c ρ with
    | nx ρ1 => rw [e] at q; exact fun σ' H' I' a => ⟨ρ1, I', q.adv a⟩
    | bk ρ1 => rw [e] at q; exact q
    | ct ρ1 => rw [e] at q; exact q
    | ret d => rw [e] at q; exact q
    | err c fs ρ1 => rw [e] at q; exact q
    | stuck => rw [e] at q; exact q⟩
theorem ss_pass {pos : Pos} : SS g O H0 xi W T X (.Pass pos) .pass := PS.by' ps_pass fun D σ H ⟨ρ, I, q⟩ => q σ H I Adv.refl
theorem ss_brk {pos : Pos} : SS g O H0 xi W T X (.Break pos) .brk := PS.by' ps_break fun D σ H ⟨ρ, I, q⟩ => q σ H I Adv.refl
theorem ss_cont {pos : Pos} : SS g O H0 xi W T X (.Continue pos) .cont := PS.by' ps_continue fun D σ H ⟨ρ, I, q⟩ => q σ H I Adv.refl
theorem own_O {a : Addr} (h : O a) : Own O σ ρ a := .inl h
theorem ss_ret {e : Expr} {c : CE} {pos : Pos} (h : SE g O H0 xi W T X e c) : SS g O H0 xi W T X (.Return (some e) pos) (.ret c) :=
  PS.by' (ps_ret h) fun D σ H ⟨ρ, I, q⟩ => ⟨ρ, I, LdS.onE I q fun a v H1 _ s x q1 => q1 v H1 (I.same.trans s) (x.less fun _ z => own_O z)⟩
theorem ss_retN {pos : Pos} : SS g O H0 xi W T X (.Return none pos) .retN := PS.by' ps_retN fun D σ H ⟨ρ, I, q⟩ => q .non H I.same .non
theorem ss_ex {e : Expr} {c : CE} {pos : Pos} (h : SE g O H0 xi W T X e c) (hs : swapsWith e none pos.line X.env = pure false) : SS g O H0 xi W T X (.Expr e pos) (.ex c) :=
  PS.by' (ps_expr h hs) fun D σ H ⟨ρ, I, q⟩ => ⟨ρ, I, LdS.onE I q fun a v H1 _ s x q1 => q1 σ H1 (I.more s) Adv.refl⟩
theorem ss_ife {e : Expr} {c : CT} {a b : List Stmt} {ca cb : List CS} {pos : Pos} (h : ST' g O H0 xi W T X e c) (ha : SSs g O H0 xi W T X a ca) (hb : SSs g O H0 xi W T X b cb) : SS g O H0 xi W T X (.If e a b pos) (.ife c ca cb) :=
  PS.by' (ps_if h ha hb) fun D σ H ⟨ρ, I, q⟩ => ⟨ρ, I, LdS.onG I q fun x H1 _ s q1 => by
    cases x with
    | true => rw [if_pos rfl] at q1 ⊢; exact ⟨ρ, I.more s, q1⟩
    | false => rw [if_neg (by decide)] at q1 ⊢; exact ⟨ρ, I.more s, q1⟩⟩
/-! ### names -/
theorem ss_set {i : Nat} {x : Str} {e : Expr} {c : CE} {pos pos' : Pos} (hN : X.N.Nodup) (hi : X.N[i]? = some x) (hx : Loc X.env.scope x) (hf : X.fn x = true ∨ X.env.scope.names.lookup x = some .local) (h : SE g O H0 xi W T X e c) (hs : swapsWith e (some (.Name x pos')) pos.line X.env = pure false) :
    SS g O H0 xi W T X (.Assign [.Name x pos'] e pos) (.set i c) :=
  PS.by' (ps_set hN hi hx h hs hf) fun D σ H ⟨ρ, I, q⟩ => ⟨ρ, I, LdS.onE I q fun a v H1 _ s r q1 => q1 _ H1 ((I.more s).set r) (Adv.of (Same.refl H1) (own_set (fun _ h => nomatch h) I.len))⟩
theorem ss_unp {tg e : Expr} {is : List Nat} {c : CE} {pos : Pos} (hh : T.hot = false → PG X tg (rG g O H0 xi (.tp is))) (h : SE g O H0 xi W T X e c) (hs : swapsWithSole [tg] e pos.line X.env = pure false) (hw : swappedStores [tg] e X.env = pure none)
    (h1 : (assignEach [tg] X.env).map (·.2) = [assign tg X.env]) : SS g O H0 xi W T X (.Assign [tg] e pos) (.unp is c) := by
  cases hot : T.hot with
  | true =>
    exact PS.by' ps_never fun D σ H ⟨ρ, I, q⟩ => by
      simp only [evS] at q
      rw [if_pos hot] at q
      exact q
  | false =>
    exact PS.by' (ps_asg h (hh hot) hs hw h1) fun D σ H ⟨ρ, I, q⟩ => ⟨ρ, I, by
      simp only [evS] at q
      rw [if_neg (by rw [hot]; decide)] at q
      exact LdS.onE I q fun a v H1 _ s r q1 => by
        cases hb : bindT (.tp is) a ρ with
        | ok ρ1 =>
          rw [hb] at q1
          exact ⟨ρ, a, ρ1, I.more s, r, hb, fun σ1 I1 o1 _ _ _ => q1 σ1 H1 I1 (Adv.of (Same.refl H1) o1)⟩
        | err k fs =>
          exfalso
          have ne : ∀ (is : List Nat) (ds : List Ev.D) (ρ : Rho), setAll is ds ρ ≠ .err k fs := by
            intro is
            induction is with
            | nil => intro ds ρ z; cases ds <;> cases z
            | cons j is ih => intro ds ρ z; cases ds with
              | nil => cases z
              | cons d ds => exact ih _ _ z
          cases a <;> simp only [bindT] at hb <;> first | (cases hb; done) | exact ne _ _ _ hb
        | stuck => rw [hb] at q1; exact q1.elim⟩
/-! ### lists of one's own -/
/-- the reading of an expression that makes a new list -/
def LdF (g : Cfg) (W : WX) (OO : Addr → Prop) (σ : St) (H : Hp) (r : R D) (Q : VK) : Prop := match r with
  | .ok d => ∀ p vs xs H', d = .lst xs → Same H H' → H p = none → H' p = some (.lst vs) → Reps g.K (fun a => OO a ∨ a = p) H' vs xs → xs.length ≤ 16777216 → Q (.ref p) H'
  | .err c fs => ∀ d H', Same H H' → XF g OO H' c fs d → W (.ref (g.cAd c)) (some d) σ H'
  | .stuck => False
def rF (g : Cfg) (O : Addr → Prop) (H0 : Hp) (xi : Option XI) (W : WX) (f : Rho → R D) : TE := fun σ H Q => ∃ ρ, EI g O H0 xi σ H ρ ∧ LdF g W (Own O σ ρ) σ H (f ρ) Q
abbrev SF (g : Cfg) (O : Addr → Prop) (H0 : Hp) (xi : Option XI) (W : WX) (T : Tb) (X : Cx) (e : Expr) (c : CE) : Prop := PE X e (rF g O H0 xi W (evE T c))
theorem LdF.bindG {α : Type} {r : R α} {k : α → R D} {Q : VK} {S : α → Hp → Prop} (h : LdF g W OO σ H (r >>= k) Q) (c : ∀ a H1, r = .ok a → Same H H1 → LdF g W OO σ H (k a) Q → S a H1) : LdG g W OO σ H r S := by
  cases r with
  | ok a => exact fun H1 s => c a H1 rfl s h
  | err k fs => exact h
  | stuck => exact h
theorem f_lst {es : List Expr} {cs : List CE} {pos : Pos} (h : SA g O H0 xi W T X es cs) (hl : cs.length ≤ 16777216) : SF g O H0 xi W T X (.List es pos) (.lst cs) :=
  PE.by' (pe_lst h) fun σ H Q ⟨ρ, I, q⟩ => ⟨ρ, I, by
    simp only [evE] at q
    exact LdF.bindG q fun ds H1 e s1 q1 vs r => ⟨by rw [r.length, evEs_len e, sizeLine_eq]; exact hl, fun p hp =>
      q1 p vs ds _ rfl (s1.trans (same_upd hp)) (same_dom s1 hp) upd_same ((r.more hp).gro (Gro.of (same_upd hp))) (by rw [evEs_len e]; exact hl)⟩⟩
/-- a new list, one's own from here on -/
theorem EI.ownNew {i : Nat} {p : Addr} {vs : List V} {xs : List D} (I : EI g O H0 xi σ H ρ) (hi : i < ρ.length) (s : Same H H') (hp : H p = none) (e : H' p = some (.lst vs)) (r : Reps g.K (fun a => Own O σ ρ a ∨ a = p) H' vs xs) (l : xs.length ≤ 16777216) :
    EI g O H0 xi (σ.set i (some (.ref p))) H' (ρ.set i (.own xs)) ∧ ∀ a, Own O (σ.set i (some (.ref p))) (ρ.set i (.own xs)) a → Own O σ ρ a ∨ a = p := by
  have hi' : i < σ.length := by rw [← I.len]; exact hi
  have ow : ∀ a, Own O (σ.set i (some (.ref p))) (ρ.set i (.own xs)) a → Own O σ ρ a ∨ a = p := by
    rintro a (z | ⟨j, ys, z1, z2⟩)
    · exact .inl (.inl z)
    · rcases set_none_or z1 with ⟨rfl, _, _⟩ | ⟨hj, z1⟩
      · rw [List.getElem?_set_self hi'] at z2
        cases z2
        exact .inr rfl
      · rw [List.getElem?_set_ne hj] at z2
        exact .inl (.inr ⟨j, ys, z1, z2⟩)
  have add : ∀ a, Own O (σ.set i (some (.ref p))) (ρ.set i (.own xs)) a → Own O σ ρ a ∨ H a = none := fun a z => (ow a z).imp id fun e => by rw [e]; exact hp
  have h0 : H0 p = none := same_dom I.same hp
  refine ⟨⟨by rw [List.length_set, List.length_set]; exact I.len, I.same.trans s, I.trk.same s, fun j d e1 => ?_, fun j ys e1 => ?_, fun j k ys zs a e1 e2 e3 e4 => ?_, fun j c fs e1 => ?_⟩, ow⟩
  · rcases set_none_or e1 with ⟨rfl, e1, _⟩ | ⟨hj, e1⟩
    · cases e1
    · obtain ⟨w, h1, h2⟩ := I.val j d e1
      exact ⟨w, by rw [List.getElem?_set_ne hj]; exact h1, (h2.add add).gro (Gro.of s)⟩
  · rcases set_none_or e1 with ⟨rfl, e1, _⟩ | ⟨hj, e1⟩
    · cases e1
      exact ⟨p, vs, List.getElem?_set_self hi', e, h0, r.less ow, l⟩
    · obtain ⟨a, ws, h1, h2, h3, h4, h5⟩ := I.own j ys e1
      exact ⟨a, ws, by rw [List.getElem?_set_ne hj]; exact h1, s _ _ h2, h3, (h4.add add).gro (Gro.of s), h5⟩
  · have no : ∀ {j : Nat} {ys : List D}, ρ[j]? = some (.own ys) → σ[j]? = some (some (.ref p)) → False := fun {j ys} z1 z2 => by
      obtain ⟨a, ws, h1, h2, _⟩ := I.own j ys z1
      rw [z2] at h1
      cases h1
      rw [hp] at h2
      cases h2
    rcases set_none_or e1 with ⟨rfl, e1, _⟩ | ⟨hj, e1⟩
    · rw [List.getElem?_set_self hi'] at e3
      cases e3
      rcases set_none_or e2 with ⟨rfl, e2, _⟩ | ⟨hk, e2⟩
      · rfl
      · rw [List.getElem?_set_ne hk] at e4
        exact (no e2 e4).elim
    · rw [List.getElem?_set_ne hj] at e3
      rcases set_none_or e2 with ⟨rfl, e2, _⟩ | ⟨hk, e2⟩
      · rw [List.getElem?_set_self hi'] at e4
        cases e4
        exact (no e1 e3).elim
      · rw [List.getElem?_set_ne hk] at e4
        exact I.inj j k ys zs a e1 e2 e3 e4
  · rcases set_none_or e1 with ⟨rfl, e1, _⟩ | ⟨hj, e1⟩
    · cases e1
    · obtain ⟨x, h1, h2, h3, h4, fl, h5, h6⟩ := I.exc j c fs e1
      refine ⟨x, h1, h2, h3, by rw [List.getElem?_set_ne hj]; exact h4, fl, s _ _ h5, fun k n hk => ?_⟩
      obtain ⟨v, d, y1, y2, y3⟩ := h6 k n hk
      exact ⟨v, d, y1, y2, (y3.add add).gro (Gro.of s)⟩
theorem ss_setOwn {i : Nat} {x : Str} {e : Expr} {c : CE} {pos pos' : Pos} (hN : X.N.Nodup) (hi : X.N[i]? = some x) (hl : ∀ {pins σ H s}, Inv X pins σ H s → i < σ.length) (hx : Loc X.env.scope x) (hf : X.fn x = true ∨ X.env.scope.names.lookup x = some .local) (h : SF g O H0 xi W T X e c) (hs : swapsWith e (some (.Name x pos')) pos.line X.env = pure false) :
    SS g O H0 xi W T X (.Assign [.Name x pos'] e pos) (.setOwn i c) := by
  refine ⟨fun pins s σ H D I0 q0 => (ps_set hN hi hx h hs hf).run pins s σ H D I0 ?_⟩
  obtain ⟨ρ, I, q⟩ := q0
  refine ⟨ρ, I, ?_⟩
  simp only [evS] at q
  cases hd : evE T c ρ with
  | err k fs =>
    rw [hd] at q
    exact fun d H1 s x => q d σ H1 (I.more s) (Adv.of s fun _ z => z) x
  | stuck => rw [hd] at q; exact q
  | ok d =>
    rw [hd] at q
    intro p vs xs H' ed s hp e1 r l
    subst ed
    have hlt : i < ρ.length := by rw [I.len]; exact hl I0
    obtain ⟨J, ow⟩ := I.ownNew hlt s hp e1 r l
    exact q _ H' J ⟨Gro.of s, fun _ => same_dom s, fun a z => (ow a z).imp id fun e => by rw [e]; exact hp⟩
/-- one's own list is written -/
theorem EI.ownUpd {i : Nat} {a : Addr} {vs vs' : List V} {xs xs' : List D} (I : EI g O H0 xi σ H ρ) (hi : ρ[i]? = some (.own xs)) (hs : σ[i]? = some (some (.ref a))) (e : H a = some (.lst vs)) (h0 : H0 a = none) (r : Reps g.K (Own O σ ρ) H vs' xs') (l : xs'.length ≤ 16777216) :
    EI g O H0 xi σ (upd H a (.lst vs')) (ρ.set i (.own xs')) ∧ Adv (Own O σ ρ) (Own O σ (ρ.set i (.own xs'))) H (upd H a (.lst vs')) ∧ ∀ b, Own O σ (ρ.set i (.own xs')) b ↔ Own O σ ρ b := by
  have hlt : i < ρ.length := (List.getElem?_eq_some_iff.mp hi).1
  have oa : Own O σ ρ a := .inr ⟨i, xs, hi, hs⟩
  have ow : ∀ b, Own O σ (ρ.set i (.own xs')) b ↔ Own O σ ρ b := fun b => by
    constructor
    · rintro (z | ⟨j, ys, z1, z2⟩)
      · exact .inl z
      · rcases set_none_or z1 with ⟨rfl, _, _⟩ | ⟨hj, z1⟩
        · exact .inr ⟨i, xs, hi, z2⟩
        · exact .inr ⟨j, ys, z1, z2⟩
    · rintro (z | ⟨j, ys, z1, z2⟩)
      · exact .inl z
      · by_cases hj : i = j
        · subst hj
          exact .inr ⟨i, xs', List.getElem?_set_self hlt, z2⟩
        · exact .inr ⟨j, ys, by rw [List.getElem?_set_ne hj]; exact z1, z2⟩
  have gr : Gro (Own O σ ρ) H (upd H a (.lst vs')) := fun b o eb => by
    by_cases hb : b = a
    · subst hb
      rw [e] at eb
      cases eb
      exact .inr ⟨oa, vs, rfl⟩
    · exact .inl (by rw [upd_ne hb]; exact eb)
  have le : ∀ b, Own O σ (ρ.set i (.own xs')) b → Own O σ ρ b := fun b => (ow b).mp
  refine ⟨⟨by rw [List.length_set]; exact I.len, fun b o eb => ?_, fun b ob => ?_, fun j d e1 => ?_, fun j ys e1 => ?_, fun j k ys zs b e1 e2 e3 e4 => ?_, fun j c fs e1 => ?_⟩, ⟨gr, fun b hb => ?_, fun b z => .inl (le b z)⟩, ow⟩
  · rw [upd_ne (by intro z; rw [z, h0] at eb; cases eb)]
    exact I.same b o eb
  · by_cases hb : b = a
    · subst hb; exact ⟨vs', upd_same⟩
    · obtain ⟨ys, hy⟩ := I.trk b ob
      exact ⟨ys, by rw [upd_ne hb]; exact hy⟩
  · rcases set_none_or e1 with ⟨rfl, e1, _⟩ | ⟨hj, e1⟩
    · cases e1
    · obtain ⟨w, h1, h2⟩ := I.val j d e1
      exact ⟨w, h1, (h2.gro gr).less le⟩
  · rcases set_none_or e1 with ⟨rfl, e1, _⟩ | ⟨hj, e1⟩
    · cases e1
      exact ⟨a, vs', hs, upd_same, h0, (r.gro gr).less le, l⟩
    · obtain ⟨b, ws, h1, h2, h3, h4, h5⟩ := I.own j ys e1
      have hb : b ≠ a := fun z => by
        subst z
        exact hj (I.inj i j xs ys b hi e1 hs h1)
      exact ⟨b, ws, h1, by rw [upd_ne hb]; exact h2, h3, (h4.gro gr).less le, h5⟩
  · have own' : ∀ {j : Nat} {ys : List D}, (ρ.set i (.own xs'))[j]? = some (.own ys) → ∃ zs, ρ[j]? = some (.own zs) := fun {j ys} z => by
      rcases set_none_or z with ⟨rfl, _, _⟩ | ⟨_, z⟩
      · exact ⟨xs, hi⟩
      · exact ⟨ys, z⟩
    obtain ⟨y1, z1⟩ := own' e1
    obtain ⟨y2, z2⟩ := own' e2
    exact I.inj j k y1 y2 b z1 z2 e3 e4
  · rcases set_none_or e1 with ⟨rfl, e1, _⟩ | ⟨hj, e1⟩
    · cases e1
    · obtain ⟨x, h1, h2, h3, h4, h5⟩ := I.exc j c fs e1
      exact ⟨x, h1, h2, h3, h4, (h5.gro gr).less le⟩
  · by_cases hb' : b = a
    · subst hb'; rw [upd_same] at hb; cases hb
    · rw [upd_ne hb'] at hb; exact hb
theorem ss_app {i : Nat} {x : Str} {e : Expr} {c : CE} {pos cpos apos p : Pos} (hN : X.N[i]? = some x) (hv : Vis X.env.scope x) (hd : (x == ("__debug__" : Str)) = false) (hcd : (x == ("__classdict__" : Str)) = false) (h : SE g O H0 xi W T X e c) (hst : notStar e = true)
    (hbase : attributeBase (.Name x p) "append" X.env (eval (.Name x p) X.env) = eval (.Name x p) X.env)
    (hfew : ((backTo cpos (starEach [e] X.env)).all (fun x => !x.1) && (backToKw cpos (keywordEach [] X.env)).all (fun x => x.1.isSome) && decide ([e].length + ([] : List Keyword).length + (if ([] : List Keyword).isEmpty then 0 else 1) < 30)) = true)
    (hline : (apos.endLine == cpos.line) = true) (hs : swapsWith (.Call (.Attribute (.Name x p) "append" apos) [e] [] cpos) none pos.line X.env = pure false) :
    SS g O H0 xi W T X (.Expr (.Call (.Attribute (.Name x p) "append" apos) [e] [] cpos) pos) (.app i c) :=
  PS.by' (ps_expr (pe_bm PySem.F.plainAttrs_list PySem.F.slot_list_append PySem.F.type_list_append mt_append (pe_var hN hv hd hcd) (pa_cons h pa_nil (star_cons hst)) hbase hfew hline (star_cons hst) rfl) hs) fun D σ H ⟨ρ, I, q⟩ => by
    simp only [evS] at q
    cases hr : ρ[i]? with
    | none => rw [hr] at q; exact q.elim
    | some sl =>
      rw [hr] at q
      cases sl with
      | own xs =>
        obtain ⟨a, vs, h1, h2, h3, h4, h5⟩ := I.own i xs hr
        refine ⟨.ref a, h1, .inl ⟨rfl, vs, SqL.of h2⟩, ρ, I, LdS.onE I q fun d v H1 _ s r q1 => ?_⟩
        by_cases hz : xs.length < 16777216
        · rw [if_pos hz] at q1
          have I1 := I.more s
          obtain ⟨J, ad, _⟩ := I1.ownUpd hr h1 (s _ _ h2) h3 (Reps.app (h4.gro (Gro.of s)) (.cons r .nil)) (show (xs ++ [d]).length ≤ 16777216 by simp; omega)
          exact ⟨a, vs, v, rfl, rfl, s _ _ h2, by rw [h4.length, sizeLine_eq]; exact hz, q1 σ _ J ad⟩
        · rw [if_neg hz] at q1; exact q1.elim
      | _ => exact q.elim
/-- name[k] = e -/
theorem ss_seti {i : Nat} {x : Str} {k e : Expr} {ck c : CE} {pos p tpos : Pos} (hN : X.N[i]? = some x) (hv : Vis X.env.scope x) (hd : (x == ("__debug__" : Str)) = false) (hcd : (x == ("__classdict__" : Str)) = false) (hk : SE g O H0 xi W T X k ck) (h : SE g O H0 xi W T X e c)
    (hs : swapsWithSole [.Subscript (.Name x p) k tpos] e pos.line X.env = pure false) (hw : swappedStores [.Subscript (.Name x p) k tpos] e X.env = pure none) (hg : PG X (.Subscript (.Name x p) k tpos) (gSub (tVar i) (rE g O H0 xi W (evE T ck)) rSetL))
    (h1 : (assignEach [.Subscript (.Name x p) k tpos] X.env).map (·.2) = [assign (.Subscript (.Name x p) k tpos) X.env]) : SS g O H0 xi W T X (.Assign [.Subscript (.Name x p) k tpos] e pos) (.seti i ck c) :=
  PS.by' (ps_asg h hg hs hw h1) fun D σ H ⟨ρ, I, q⟩ => ⟨ρ, I, by
    simp only [evS] at q
    refine LdS.onE I q fun d v H1 _ s r q1 => ?_
    cases hr : ρ[i]? with
    | none => rw [hr] at q1; exact q1.elim
    | some sl =>
      rw [hr] at q1
      cases sl with
      | own xs =>
        obtain ⟨a, vs, h1, h2, h3, h4, h5⟩ := I.own i xs hr
        refine ⟨.ref a, h1, ρ, I.more s, LdS.onE (I.more s) q1 fun z u H2 _ s2 r2 q2 => ?_⟩
        cases z with
        | int z =>
          cases r2
          simp only at q2
          cases hx : ixD xs.length z with
          | none => rw [hx] at q2; exact q2.elim
          | some j =>
            rw [hx] at q2
            have I2 := (I.more s).more s2
            obtain ⟨J, ad, _⟩ := I2.ownUpd hr h1 (s2 _ _ (s _ _ h2)) h3 (Reps.set (r.gro (Gro.of s2)) j ((h4.gro (Gro.of s)).gro (Gro.of s2))) (show (xs.set j d).length ≤ 16777216 by simpa using h5)
            exact ⟨a, vs, z, j, rfl, rfl, s2 _ _ (s _ _ h2), by rw [h4.length]; exact hx, q2 σ _ J ad⟩
        | _ => exact q2.elim
      | _ => exact q1.elim⟩
/-! ### lists of one's own are given up -/
theorem EI.frz1 (I : EI g O H0 xi σ H ρ) (hO : Trk O H0) {i : Nat} {xs : List D} (hi : ρ[i]? = some (.own xs)) : EI g O H0 xi σ H (ρ.set i (.val (.lst xs))) ∧ ∀ b, Own O σ (ρ.set i (.val (.lst xs))) b → Own O σ ρ b := by
  have hlt : i < ρ.length := (List.getElem?_eq_some_iff.mp hi).1
  obtain ⟨a, vs, hs, e, h0, r, l⟩ := I.own i xs hi
  have le : ∀ b, Own O σ (ρ.set i (.val (.lst xs))) b → Own O σ ρ b := by
    rintro b (z | ⟨j, ys, z1, z2⟩)
    · exact .inl z
    · rcases set_none_or z1 with ⟨rfl, z1, _⟩ | ⟨hj, z1⟩
      · cases z1
      · exact .inr ⟨j, ys, z1, z2⟩
  have na : ¬ Own O σ (ρ.set i (.val (.lst xs))) a := by
    rintro (z | ⟨j, ys, z1, z2⟩)
    · obtain ⟨zs, hz⟩ := hO a z
      rw [h0] at hz
      cases hz
    · rcases set_none_or z1 with ⟨rfl, z1, _⟩ | ⟨hj, z1⟩
      · cases z1
      · exact hj (I.inj i j xs ys a hi z1 hs z2)
  refine ⟨⟨by rw [List.length_set]; exact I.len, I.same, I.trk, fun j d e1 => ?_, fun j ys e1 => ?_, fun j k ys zs b e1 e2 e3 e4 => ?_, fun j c fs e1 => ?_⟩, le⟩
  · rcases set_none_or e1 with ⟨rfl, e1, _⟩ | ⟨hj, e1⟩
    · cases e1
      exact ⟨.ref a, hs, .lst l na e (r.less le)⟩
    · obtain ⟨w, h1, h2⟩ := I.val j d e1
      exact ⟨w, h1, h2.less le⟩
  · rcases set_none_or e1 with ⟨rfl, e1, _⟩ | ⟨hj, e1⟩
    · cases e1
    · obtain ⟨b, ws, h1, h2, h3, h4, h5⟩ := I.own j ys e1
      exact ⟨b, ws, h1, h2, h3, h4.less le, h5⟩
  · rcases set_none_or e1 with ⟨rfl, e1, _⟩ | ⟨hj, e1⟩
    · cases e1
    · rcases set_none_or e2 with ⟨rfl, e2, _⟩ | ⟨hk, e2⟩
      · cases e2
      · exact I.inj j k ys zs b e1 e2 e3 e4
  · rcases set_none_or e1 with ⟨rfl, e1, _⟩ | ⟨hj, e1⟩
    · cases e1
    · obtain ⟨x, h1, h2, h3, h4, h5⟩ := I.exc j c fs e1
      exact ⟨x, h1, h2, h3, h4, h5.less le⟩
theorem EI.frz (hO : Trk O H0) : ∀ {is : List Nat} {ρ : Rho}, EI g O H0 xi σ H ρ → EI g O H0 xi σ H (is.foldl Ev.frz1 ρ) ∧ ∀ b, Own O σ (is.foldl Ev.frz1 ρ) b → Own O σ ρ b
  | [], ρ, I => ⟨I, fun _ z => z⟩
  | i :: is, ρ, I => by
    simp only [List.foldl_cons]
    unfold Ev.frz1
    split
    · rename_i xs e
      obtain ⟨J, l⟩ := I.frz1 hO e
      obtain ⟨J2, l2⟩ := EI.frz hO (is := is) J
      exact ⟨J2, fun b z => l b (l2 b z)⟩
    · exact EI.frz hO (is := is) I
/-- ahead of a statement -/
theorem ss_frz {is : List Nat} {st : Stmt} {c : CS} {r : List Stmt} {cs : List CS} (hO : Trk O H0) (h : SSs g O H0 xi W T X (st :: r) (c :: cs)) : SSs g O H0 xi W T X (st :: r) (.frz is :: c :: cs) :=
  PSs.by' h fun D σ H ⟨ρ, I, q⟩ => by
    obtain ⟨J, l⟩ := I.frz hO (is := is)
    refine ⟨_, J, ?_⟩
    have e : evSs T (.frz is :: c :: cs) ρ = evSs T (c :: cs) (is.foldl Ev.frz1 ρ) := by
      show (evS T (.frz is) ρ).andThen (evSs T (c :: cs)) = _
      simp only [evS, nx_then]
    rw [e] at q
    exact q.adv (Adv.of (Same.refl H) l)
theorem ss_retO {i : Nat} {x : Str} {pos p : Pos} (hO : Trk O H0) (hN : X.N[i]? = some x) (hv : Vis X.env.scope x) (hd : (x == ("__debug__" : Str)) = false) (hcd : (x == ("__classdict__" : Str)) = false) : SS g O H0 xi W T X (.Return (some (.Name x p)) pos) (.retO i) :=
  PS.by' (ps_ret (pe_var hN hv hd hcd)) fun D σ H ⟨ρ, I, q⟩ => by
    simp only [evS] at q
    cases hr : ρ[i]? with
    | none => rw [hr] at q; exact q.elim
    | some sl =>
      rw [hr] at q
      cases sl with
      | own xs =>
        obtain ⟨a, vs, h1, h2, h3, h4, h5⟩ := I.own i xs hr
        exact ⟨.ref a, h1, q _ H I.same (.lst h5 (fun z => by
          obtain ⟨zs, hz⟩ := hO a z
          rw [h3] at hz
          cases hz) h2 (h4.less fun _ z => own_O z))⟩
      | val d =>
        obtain ⟨v, h1, h2⟩ := I.val i d hr
        exact ⟨v, h1, q _ H I.same (h2.less fun _ z => own_O z)⟩
      | _ => exact q.elim
/-! ### loops -/
theorem ss_for {tg e : Expr} {ct : Tgt} {ci : CI} {b : List Stmt} {cb : List CS} {pos : Pos} (hc : T.hot = false → X.calm = true) (hp : PassesOwn (model X.prog X.w) X.A X.env X.xe) (hi : SI g O H0 xi W T X tg e ci) (hg : T.hot = false → PG X tg (rG g O H0 xi ct)) (hb : SSs g O H0 xi W T X b cb)
    (hs : ∀ x, foldedSetIterable e X.env x = pure x) : SS g O H0 xi W T X (.For tg e b [] pos) (.for ct ci cb) := by
  cases hot : T.hot with
  | true =>
    exact PS.by' ps_never fun D σ H ⟨ρ, I, q⟩ => by
      simp only [evS] at q
      rw [if_pos hot] at q
      exact q
  | false =>
    exact PS.by' (ps_for hp (hc hot) hi (hg hot) hb hs) fun D σ H ⟨ρ, I, q⟩ => ⟨ρ, I, by
      simp only [evS] at q
      rw [if_neg (by rw [hot]; decide)] at q
      cases ho : ownIt ρ ci with
      | true => rw [ho, if_pos rfl] at q; exact q.elim
      | false =>
        rw [ho, if_neg (by decide)] at q
        refine LdS.onG I q fun xs H1 _ s q1 J wk => ?_
        obtain ⟨ll, G, Y, w, hG, gs, gg, gy⟩ := wk (fun a => Own O σ ρ a ∨ H1 a = none) fun a z => z
        have gg := gg ho
        refine for_it w (fun i σ2 H2 => ∃ ρ2, EI g O H0 xi σ2 H2 ρ2 ∧ Adv (Own O σ ρ) (Own O σ2 ρ2) H1 H2 ∧ G H2 ∧ LdS g O H0 xi W (Own O σ ρ) H1 (forL ct (evSs T cb) (xs.drop i) ρ2) D)
          ⟨ρ, I.more s, Adv.refl, hG, q1⟩ (fun i σ2 H2 _ ⟨_, _, _, z, _⟩ => z) ?_ ?_
        · rintro i x σ2 H2 H3 hlt ⟨ρ2, I2, a2, G2, q2⟩ y
          obtain ⟨s3, d, hd, rx⟩ := gy i H2 x H3 hlt G2 y
          have hdrop : xs.drop i = d :: xs.drop (i + 1) := by
            rw [List.drop_eq_getElem_cons hlt]
            congr 1
            rw [List.getElem?_eq_getElem hlt] at hd
            exact Option.some.inj hd
          rw [hdrop] at q2
          simp only [forL] at q2
          cases hbd : bindT ct d ρ2 with
          | err c fs => rw [hbd] at q2; exact q2.elim
          | stuck => rw [hbd] at q2; exact q2.elim
          | ok ρ3 =>
            rw [hbd] at q2
            refine ⟨ρ2, d, ρ3, I2.more s3, rx.less fun a z => a2.own a z, hbd, fun σ4 I4 o1 _ _ _ => ⟨ρ3, I4, ?_⟩⟩
            have a4 : Adv (Own O σ ρ) (Own O σ4 ρ3) H1 H3 := a2.trans (Adv.of s3 o1)
            have G3 := gs H2 H3 s3 G2
            have step : ∀ (ρ5 : Rho) (σ' : St) (H' : Hp), LdS g O H0 xi W (Own O σ ρ) H1 (forL ct (evSs T cb) (xs.drop (i + 1)) ρ5) D → EI g O H0 xi σ' H' ρ5 → Adv (Own O σ4 ρ3) (Own O σ' ρ5) H3 H' → ∃ ρ2, EI g O H0 xi σ' H' ρ2 ∧ Adv (Own O σ ρ) (Own O σ' ρ2) H1 H' ∧ G H' ∧ LdS g O H0 xi W (Own O σ ρ) H1 (forL ct (evSs T cb) (xs.drop (i + 1)) ρ2) D :=
              fun ρ5 σ' H' q5 I5 a5 => ⟨ρ5, I5, a4.trans a5, gg H3 H' (Gro.mono (fun a z => a4.own a z) a5.gro) G3, q5⟩
            simp only at q2
            cases hev : evSs T cb ρ3 with
            | nx ρ5 => rw [hev] at q2; exact fun σ' H' I5 a5 => step ρ5 σ' H' q2 I5 a5
            | ct ρ5 => rw [hev] at q2; exact fun σ' H' I5 a5 => step ρ5 σ' H' q2 I5 a5
            | bk ρ5 => rw [hev] at q2; exact fun σ' H' I5 a5 => q2 σ' H' I5 (a4.trans a5)
            | ret d' => rw [hev] at q2; exact q2
            | err c fs ρ5 => rw [hev] at q2; exact fun d' σ' H' I5 a5 x => q2 d' σ' H' I5 (a4.trans a5) x
            | stuck => rw [hev] at q2; exact q2.elim
        · rintro σ2 H2 ⟨ρ2, I2, a2, G2, q2⟩
          rw [List.drop_length] at q2
          exact q2 σ2 H2 I2 a2⟩
theorem ss_whl {e : Expr} {c : CT} {b : List Stmt} {cb : List CS} {pos : Pos} (hp : PassesOwn (model X.prog X.w) X.A X.env X.xe) (h : ST' g O H0 xi W T X e c) (hb : SSs g O H0 xi W T X b cb) : SS g O H0 xi W T X (.While e b [] pos) (.whl c cb) :=
  PS.by' (ps_while hp h hb) fun D σ H ⟨ρ, I, q⟩ => by
    simp only [evS] at q
    refine ⟨fun m σ2 H2 => ∃ ρ2, EI g O H0 xi σ2 H2 ρ2 ∧ Adv (Own O σ ρ) (Own O σ2 ρ2) H H2 ∧ LdS g O H0 xi W (Own O σ ρ) H (whlL (evT T c) (evSs T cb) m ρ2) D, ⟨WHL, ρ, I, Adv.refl, q⟩, ?_⟩
    rintro m σ2 H2 ⟨ρ2, I2, a2, q2⟩
    cases m with
    | zero => exact q2.elim
    | succ n =>
      simp only [whlL] at q2
      refine ⟨ρ2, I2, ?_⟩
      cases hcv : evT T c ρ2 with
      | err k fs => rw [hcv] at q2; exact q2.elim
      | stuck => rw [hcv] at q2; exact q2.elim
      | ok x =>
        rw [hcv] at q2
        intro H3 s3
        have a3 : Adv (Own O σ ρ) (Own O σ2 ρ2) H H3 := a2.trans (Adv.of s3 fun _ z => z)
        cases x with
        | false =>
          rw [if_neg (by decide)]
          exact q2 σ2 H3 (I2.more s3) a3
        | true =>
          rw [if_pos rfl]
          simp only at q2
          refine ⟨fun σ' H' => ∃ ρ5, EI g O H0 xi σ' H' ρ5 ∧ Adv (Own O σ ρ) (Own O σ' ρ5) H H' ∧ LdS g O H0 xi W (Own O σ ρ) H (whlL (evT T c) (evSs T cb) n ρ5) D, fun σ' H' z => ⟨n, Nat.lt_succ_self n, z⟩, ρ2, I2.more s3, ?_⟩
          cases hev : evSs T cb ρ2 with
          | nx ρ5 => rw [hev] at q2; exact fun σ' H' I5 a5 => ⟨ρ5, I5, a3.trans a5, q2⟩
          | ct ρ5 => rw [hev] at q2; exact fun σ' H' I5 a5 => ⟨ρ5, I5, a3.trans a5, q2⟩
          | bk ρ5 => rw [hev] at q2; exact fun σ' H' I5 a5 => q2 σ' H' I5 (a3.trans a5)
          | ret d' => rw [hev] at q2; exact q2
          | err c fs ρ5 => rw [hev] at q2; exact fun d' σ' H' I5 a5 x => q2 d' σ' H' I5 (a3.trans a5) x
          | stuck => rw [hev] at q2; exact q2.elim
end
end Ev
end
section
set_option Elab.async false
set_option linter.all false
set_option maxRecDepth 100000
set_option maxHeartbeats 4000000
/-! several except clauses, each with a name or without one -/
namespace Ev
open PySem PySem.Spec PyProof.Rows L2
abbrev Suite := Addr → Value → Option Addr → TS
/-- behind a suite its name is gone -/
def wiped (D : Ends) (n : Option Nat) : Ends := match n with
  | none => D
  | some i => { nx := fun σ' H' => D.nx (σ'.set i none) H', rt := D.rt, bk := fun σ' H' => D.bk (σ'.set i none) H', ct := fun σ' H' => D.ct (σ'.set i none) H' }
def caught (n : Option Nat) (a : Addr) (σ : St) : St := match n with
  | none => σ
  | some i => σ.set i (some (.ref a))
def wMix (K : PySem.W.Frag) (Wout : WX) (D : Ends) : List (Value × Option Nat × Suite) → WX
  | [] => Wout
  | (c, n, ts) :: r => fun cls d σ H => ∃ b, PySem.W.exmOne K cls c = some b ∧ (b = true → ∀ a, H a = none → ts a cls d (wiped D n) (caught n a σ) H) ∧ (b = false → wMix K Wout D r cls d σ H)
inductive HdsMix (X : Cx) : List ExceptHandler → List (Value × Option Nat × Suite) → Prop
  | nil : HdsMix X [] []
  | plain {x : Str} {c : Value} {ts : Suite} {st : Stmt} {sts : List Stmt} {np hp : Pos} {hds : List ExceptHandler} {l : List (Value × Option Nat × Suite)} (nm : Names X x c)
      (su : ∀ (a : Addr) (oe : Obj) (cls : Value) (d : Option Addr) (pn : List (Addr × Obj)), L2N.Zn cls d oe → (∃ vs, oe.data = .fields vs) → PSs (X.suite a ((a, oe) :: pn)) (st :: sts) (ts a cls d)) (r : HdsMix X hds l) :
      HdsMix X (.ExceptHandler (some (.Name x np)) none (st :: sts) hp :: hds) ((c, none, ts) :: l)
  | named {x y : Str} {c : Value} {i : Nat} {ts : Suite} {st : Stmt} {sts : List Stmt} {np hp : Pos} {hds : List ExceptHandler} {l : List (Value × Option Nat × Suite)} (nm : Names X x c) (yi : X.N[i]? = some y) (yl : X.env.kindOf y = some .local)
      (su : ∀ (a : Addr) (oe : Obj) (cls : Value) (d : Option Addr) (pn : List (Addr × Obj)), L2N.Zn cls d oe → (∃ vs, oe.data = .fields vs) → PSs (X.suite a ((a, oe) :: pn)) (st :: sts) (ts a cls d)) (r : HdsMix X hds l) :
      HdsMix X (.ExceptHandler (some (.Name x np)) (some y) (st :: sts) hp :: hds) ((c, some i, ts) :: l)
section
variable {X : Cx} {body : List Stmt} {hd : ExceptHandler} {hds : List ExceptHandler} {l : List (Value × Option Nat × Suite)} {pos : Pos} {tb : WX → TS} {Wout : WX}
theorem ps_try_mix (stk : X.stack = X.env :: X.outer) (frm : X.env.frame = some X.env.locals) (ND : X.N.Nodup) (tk : L2N.Takes X Wout)
    (hb : ∀ (W : WX) (pn : List (Addr × Obj)) (xe : Value → Shared → Prop), L2N.Takes (X.tr pn xe) W → PassesOwn (model X.prog X.w) X.A X.env xe → PSs (X.tr pn xe) body (tb W))
    (hm : HdsMix X (hd :: hds) l) : PS X (.Try body (hd :: hds) [] [] pos) (fun D σ H => tb (wMix X.K Wout D l) D σ H) := by
  refine ⟨fun pins s₀ σ₀ H₀ D I₀ q₀ => ?_⟩
  have okX := I₀.ok
  have frs2 : X.A.frames = some (X.env :: X.outer) := by rw [okX.frames, stk]
  refine wpAny_Try_except ?_
  let xe' : Value → Shared → Prop := fun e sa => wpAny (model X.prog X.w) X.A (noteFrame e X.env) (fun _ sb => wpAny (model X.prog X.w) X.A (setFlight e none)
    (fun _ sc => wpAny (model X.prog X.w) X.A (handleBy e X.env (hd :: hds)) (SP X pins D) X.xe sc) X.xe sb) X.xe sa
  have body' := hb (wMix X.K Wout D l) (X.pn ++ pins) xe' (fun u su xx => ?_) PassesOwn.looking
  · refine wpAny_mono (body'.run [] s₀ σ₀ H₀ D (I₀.toTry _) q₀) (fun f sf hf => ?_) fun e se he => he
    cases f with
    | next => exact let ⟨σ1, H1, J1, q1⟩ := hf; wpAny_execs_nil ⟨σ1, H1, J1.ofTry okX, q1⟩
    | brk => exact let ⟨σ1, H1, J1, q1⟩ := hf; ⟨σ1, H1, J1.ofTry okX, q1⟩
    | cont => exact let ⟨σ1, H1, J1, q1⟩ := hf; ⟨σ1, H1, J1.ofTry okX, q1⟩
    | ret u => exact let ⟨v1, σ1, H1, J1, r1, q1⟩ := hf; ⟨v1, σ1, H1, J1.ofTry okX, r1, q1⟩
  · -- what was raised is looked at
    obtain ⟨a, B, sJ, pinsJ, σJ, HJ, cls, d, rfl, J', nb, up, sky, na, os, ag, w⟩ := xx
    have J : Inv X pins σJ HJ sJ := J'.ofTry okX
    have skyE : Sky B (X.env :: X.outer) a (L2N.Zn cls d) X.env.locals su.heap := by rw [← stk]; exact sky
    show wpAny (model X.prog X.w) X.A (noteFrame (.ref a) X.env) _ _ _
    refine L2N.Sky.land L2N.Zn.steady frs2 frm skyE fun hA flA upA => ?_
    have JA : Inv X pins σJ HJ { su with heap := hA } := J.landed nb flA.1 (up.trans upA) os ag
    obtain ⟨oA, vA, eA, zA, dA⟩ := flA.there
    have outside : a ∉ frs (X.env :: X.outer) := fun hin => by
      obtain ⟨_, o2, e2, hnf⟩ := flA.2.2.1.mem hin
      rw [eA] at e2
      cases e2
      exact hnf _ dA
    have notL : a ≠ X.env.locals := fun z => outside (List.mem_filterMap.mpr ⟨X.env, List.mem_cons_self, by rw [frm, z]⟩)
    have notF : a ∉ X.fs := fun hin => by
      obtain ⟨e, he, q⟩ := List.mem_filterMap.mp hin
      exact outside (List.mem_filterMap.mpr ⟨e, List.mem_cons_of_mem _ he, q⟩)
    have SA := JA.suite eA dA na notL notF
    -- the clause's class
    have ask : ∀ {x : Str} {c : Value} {np : Pos} {Q E : Value → Shared → Prop}, Names X x c → Q c { su with heap := hA } →
        wpAny (model X.prog X.w) (X.A.mark (some (.ref a))) (eval (.Name x np) X.env) Q E { su with heap := hA } := fun {x c np Q E} nm q => by
      obtain ⟨k1, k2, k3 | ⟨k3, k4, k5⟩⟩ := nm
      · exact ld_glob (X := X.suite a ((a, oA) :: (X.pn ++ pins))) SA k1 k3 q k2
      · exact ld_blt (X := X.suite a ((a, oA) :: (X.pn ++ pins))) SA k1 k3 k4 q k5 k2
    have LT : PySem.W.Looks (model X.prog X.w) hA (typeOf (.ref a)) cls := fun A Q E s k q =>
      wpAny_typeOf_ref (k _ _ eA) (by rw [zA.1]; exact q)
    have all : ∀ {hds' : List ExceptHandler} {l' : List (Value × Option Nat × Suite)}, HdsMix X hds' l' → wMix X.K Wout D l' cls d σJ HJ →
        wpAny (model X.prog X.w) X.A (handleBy (.ref a) X.env hds') (SP X pins D) X.xe { su with heap := hA } := by
      intro hds' l' hk
      induction hk with
      | nil =>
        intro w'
        refine wpAny_handleBy_nil ?_
        obtain ⟨_, _, _, o3, v3, T3, oT3, t3, e3, z3, d3, f3, _⟩ := id flA
        unfold PySem.passOn
        refine wpAny_bind (wpAny_field e3 d3 f3 ?_)
        have nn : ¬ ((Value.ref T3 == Value.none) = true) := by simp
        rw [if_neg nn]
        have last : wpAny (model X.prog X.w) X.A (setFlight (.ref a) X.env.frame) (fun _ sz => wpAny (model X.prog X.w) X.A (throw (.ref a) : Sem Flow) (SP X pins D) X.xe sz) X.xe { su with heap := hA } := by
          rw [frm]
          refine HandSPX.setFlight_upZ flA fun hB held upB => wpAny_throw (tk _ _ ?_)
          exact ⟨a, B, sJ, pins, σJ, HJ, cls, d, rfl, J, nb, (up.trans upA).trans upB, .inr (.inr (by rw [stk]; exact held)), na, os, ag, w'⟩
        first
          | exact wpAny_bind (wpAny_pure (wpAny_bind last))
          | exact wpAny_bind last
      | @plain x c ts st sts np hp hds2 l2 nm suOk rest ih =>
        rintro ⟨b, hb1, yes, no⟩
        refine wpAny_handleBy_cons (codeAny_handlers_test ?_) (by intro q; cases q)
        refine ask nm ((PySem.W.exm_one (M := model X.prog X.w) JA.kIn LT hb1).here ?_)
        cases b with
        | false => exact ih (no rfl)
        | true =>
          refine codeAny_handlers_suite (HandSPX.lands_againZ flA fun hB flB upB => ?_)
          have JB : Inv X pins σJ HJ { su with heap := hB } := J.landed nb flB.1 ((up.trans upA).trans upB) os ag
          obtain ⟨oB, vB, eB, zB, dB⟩ := flB.there
          have SB := JB.suite eB dB na notL notF
          refine wpAny_mono ((suOk a oB cls d (X.pn ++ pins) zB ⟨_, dB⟩).run [] _ _ HJ _ SB (yes rfl a na)) (fun f sf hf => ?_) fun _ _ z => z.elim
          cases f with
          | next => exact let ⟨σ1, H1, S1, q1⟩ := hf; ⟨σ1, H1, S1.unsuite okX, q1⟩
          | brk => exact let ⟨σ1, H1, S1, q1⟩ := hf; ⟨σ1, H1, S1.unsuite okX, q1⟩
          | cont => exact let ⟨σ1, H1, S1, q1⟩ := hf; ⟨σ1, H1, S1.unsuite okX, q1⟩
          | ret u => exact let ⟨v1, σ1, H1, S1, r1, q1⟩ := hf; ⟨v1, σ1, H1, S1.unsuite okX, r1, q1⟩
      | @named x y c i ts st sts np hp hds2 l2 nm yi yl suOk rest ih =>
        rintro ⟨b, hb1, yes, no⟩
        refine wpAny_handleBy_cons (codeAny_handlers_test ?_) (by intro q; cases q)
        refine ask nm ((PySem.W.exm_one (M := model X.prog X.w) JA.kIn LT hb1).here ?_)
        cases b with
        | false => exact ih (no rfl)
        | true =>
          refine codeAny_handlers_suite_as (HandSPX.lands_againZ flA fun hB flB upB => ?_)
          have JB : Inv X pins σJ HJ { su with heap := hB } := J.landed nb flB.1 ((up.trans upA).trans upB) os ag
          obtain ⟨oB, vB, eB, zB, dB⟩ := flB.there
          have SB := JB.suite eB dB na notL notF
          refine store_ok (X := X.suite a ((a, oB) :: (X.pn ++ pins))) (v := .ref a) SB ND yi (.inl yl) rfl (fun sD SD => ?_) (.inr yl)
          refine wpAny_mono ((suOk a oB cls d (X.pn ++ pins) zB ⟨_, dB⟩).run [] sD _ HJ _ SD (yes rfl a na)) (fun f sf hf => ?_) fun _ _ z => z.elim
          have gone : ∀ {σ1 : St} {H1 : Hp} {Q : Shared → Prop}, Inv (X.suite a ((a, oB) :: (X.pn ++ pins))) [] σ1 H1 sf → (∀ sz, Inv X pins (σ1.set i none) H1 sz → Q sz) →
              wpAny (model X.prog X.w) X.A (do bindName X.env y .none; unbindBehindTheSuite X.env y hp) (fun _ sz => Q sz) X.xe sf := fun {σ1 H1 Q} S1 k => gone_ok (S1.unsuite okX) ND yi yl k
          cases f with
          | next => exact let ⟨σ1, H1, S1, q1⟩ := hf; gone S1 fun sz Jz => ⟨_, _, Jz, q1⟩
          | brk => exact let ⟨σ1, H1, S1, q1⟩ := hf; gone S1 fun sz Jz => ⟨_, _, Jz, q1⟩
          | cont => exact let ⟨σ1, H1, S1, q1⟩ := hf; gone S1 fun sz Jz => ⟨_, _, Jz, q1⟩
          | ret u => exact let ⟨v1, σ1, H1, S1, r1, q1⟩ := hf; gone S1 fun sz Jz => ⟨_, _, _, Jz, r1, q1⟩
    exact all hm w
end
section
variable {g : Cfg} {O : Addr → Prop} {H0 H H' H1 H2 : Hp} {xi : Option XI} {σ σ' : St} {ρ ρ' : Rho} {W : WX} {X : Cx} {T : Tb} {OO OO' OO1 OO2 : Addr → Prop}
theorem noX_at {ρ : Rho} {j : Nat} {s : Slot} (h : (ρ.map Slot.noX)[j]? = some s) (n : s ≠ .none) : ρ[j]? = some s := by
  rw [List.getElem?_map] at h
  cases e : ρ[j]? with
  | none => rw [e] at h; cases h
  | some t =>
    rw [e] at h
    simp only [Option.map_some, Option.some.injEq] at h
    cases t <;> first | (simp only [Slot.noX] at h; subst h; rfl) | (simp only [Slot.noX] at h; exact (n h.symm).elim)
theorem own_noX {a : Addr} (h : Own O σ (ρ.map Slot.noX) a) : Own O σ ρ a := by
  rcases h with z | ⟨j, ys, z1, z2⟩
  · exact .inl z
  · exact .inr ⟨j, ys, noX_at z1 (fun h => nomatch h), z2⟩
theorem EI.dropX (I : EI g O H0 xi σ H ρ) : EI g O H0 none σ H (ρ.map Slot.noX) := by
  refine ⟨by rw [List.length_map]; exact I.len, I.same, I.trk, fun j d e => ?_, fun j ys e => ?_, fun j k ys zs a e1 e2 e3 e4 => ?_, fun j c fs e => ?_⟩
  · obtain ⟨v, h1, h2⟩ := I.val j d (noX_at e (fun h => nomatch h))
    exact ⟨v, h1, h2.less fun _ => own_noX⟩
  · obtain ⟨a, vs, h1, h2, h3, h4, h5⟩ := I.own j ys (noX_at e (fun h => nomatch h))
    exact ⟨a, vs, h1, h2, h3, h4.less fun _ => own_noX, h5⟩
  · exact I.inj j k ys zs a (noX_at e1 (fun h => nomatch h)) (noX_at e2 (fun h => nomatch h)) e3 e4
  · rw [List.getElem?_map] at e
    cases e1 : ρ[j]? with
    | none => rw [e1] at e; cases e
    | some t =>
      rw [e1] at e
      simp only [Option.map_some, Option.some.injEq] at e
      cases t <;> simp only [Slot.noX] at e <;> cases e
theorem EI.withX {x : XI} (I : EI g O H0 none σ H ρ) : EI g O H0 (some x) σ H ρ :=
  ⟨I.len, I.same, I.trk, I.val, I.own, I.inj, fun i c fs e => by
    obtain ⟨x, h, _⟩ := I.exc i c fs e
    cases h⟩
def tsOf (g : Cfg) (O : Addr → Prop) (H0 : Hp) (T : Tb) (k : Nat) (n : Option Nat) (b : List CS) : Suite := fun a cls d D σ H => match n with
  | none => rS g O H0 none WF (evSs T.heat b) D σ H
  | some i => ∃ c fs dd, cls = .ref (g.cAd c) ∧ d = some dd ∧ T.sub c k = true ∧ rS g O H0 (some ⟨a, c, fs, dd⟩) WF (evSs T.heat b) D σ H
def hdOf (g : Cfg) (O : Addr → Prop) (H0 : Hp) (T : Tb) : CH → Value × Option Nat × Suite
  | .mk k n b => (.ref (g.cAd k), n, tsOf g O H0 T k n b)
theorem wMix_of {K : PySem.W.Frag} {D : Ends} {c : Nat} {fs : List Ev.D} {d : Addr} {ρ1 : Rho} (hE : ∀ c k, PySem.W.exmOne K (.ref (g.cAd c)) (.ref (g.cAd k)) = some (T.sub c k)) (I : EI g O H0 none σ' H' ρ1) (a : Adv OO (Own O σ' ρ1) H H') (x : XF g (Own O σ' ρ1) H' c fs d) :
    ∀ {hs : List CH}, LdS g O H0 none W OO H (evH T hs c fs ρ1) D → wMix K W D (hs.map (hdOf g O H0 T)) (.ref (g.cAd c)) (some d) σ' H'
  | [], q => q d σ' H' I a x
  | h :: r, q => by
    obtain ⟨k, n, b⟩ := h
    simp only [evH, evH1] at q
    refine ⟨T.sub c k, hE c k, fun hs e na => ?_, fun hs => ?_⟩
    · rw [hs, if_pos rfl] at q
      cases n with
      | none =>
        refine ⟨ρ1, I, ?_⟩
        simp only at q
        cases ev : evSs T.heat b ρ1 with
        | nx ρ2 => rw [ev] at q; exact LdS.adv (r := .nx ρ2) q a
        | bk ρ2 => rw [ev] at q; exact LdS.adv (r := .bk ρ2) q a
        | ct ρ2 => rw [ev] at q; exact LdS.adv (r := .ct ρ2) q a
        | ret v => rw [ev] at q; exact q
        | err c2 fs2 ρ2 => rw [ev] at q; exact q.elim
        | stuck => rw [ev] at q; exact q.elim
      | some i =>
        have J : EI g O H0 (some ⟨e, c, fs, d⟩) (σ'.set i (some (.ref e))) H' (ρ1.set i (.exc c fs)) :=
          (I.withX (x := ⟨e, c, fs, d⟩)).put (fun _ h => nomatch h) (fun _ h => nomatch h) fun c2 fs2 h => by
            cases h
            exact ⟨_, rfl, rfl, rfl, rfl, x⟩
        have lo : ∀ b, Own O (σ'.set i (some (.ref e))) (ρ1.set i (.exc c fs)) b → Own O σ' ρ1 b := own_set (fun _ h => nomatch h) I.len
        have a2 : Adv OO (Own O (σ'.set i (some (.ref e))) (ρ1.set i (.exc c fs))) H H' := a.trans (Adv.of (Same.refl H') lo)
        refine ⟨c, fs, d, rfl, rfl, hs, _, J, ?_⟩
        simp only at q
        have fin : ∀ {σ2 : St} {H2 : Hp} {ρ2 : Rho}, EI g O H0 (some ⟨e, c, fs, d⟩) σ2 H2 ρ2 → Adv (Own O (σ'.set i (some (.ref e))) (ρ1.set i (.exc c fs))) (Own O σ2 ρ2) H' H2 →
            EI g O H0 none (σ2.set i none) H2 ((ρ2.set i .none).map Slot.noX) ∧ Adv OO (Own O (σ2.set i none) ((ρ2.set i .none).map Slot.noX)) H H2 := fun {σ2 H2 ρ2} I2 b2 =>
          ⟨I2.wipe1.dropX, (a2.trans b2).trans (Adv.of (Same.refl H2) fun b z => own_set (i := i) (v := none) (s := .none) (fun _ h => nomatch h) I2.len b (own_noX z))⟩
        cases ev : evSs T.heat b (ρ1.set i (.exc c fs)) with
        | nx ρ2 => rw [ev] at q; exact fun σ2 H2 I2 b2 => q _ H2 (fin I2 b2).1 (fin I2 b2).2
        | bk ρ2 => rw [ev] at q; exact fun σ2 H2 I2 b2 => q _ H2 (fin I2 b2).1 (fin I2 b2).2
        | ct ρ2 => rw [ev] at q; exact fun σ2 H2 I2 b2 => q _ H2 (fin I2 b2).1 (fin I2 b2).2
        | ret v => rw [ev] at q; exact q
        | err c2 fs2 ρ2 => rw [ev] at q; exact q.elim
        | stuck => rw [ev] at q; exact q.elim
    · rw [hs, if_neg (by decide)] at q
      exact wMix_of hE I a x q
theorem ss_try {body : List Stmt} {hd : ExceptHandler} {hds : List ExceptHandler} {b : List CS} {hs : List CH} {pos : Pos} (hK : X.K = g.K) (hE : ∀ c k, PySem.W.exmOne g.K (.ref (g.cAd c)) (.ref (g.cAd k)) = some (T.sub c k)) (stk : X.stack = X.env :: X.outer) (frm : X.env.frame = some X.env.locals) (ND : X.N.Nodup) (tk : L2N.Takes X W)
    (hb : ∀ (W : WX) (pn : List (Addr × Obj)) (xe : Value → Shared → Prop), L2N.Takes (X.tr pn xe) W → PassesOwn (model X.prog X.w) X.A X.env xe → SSs g O H0 none W T (X.tr pn xe) body b)
    (hm : HdsMix X (hd :: hds) (hs.map (hdOf g O H0 T))) : SS g O H0 none W T X (.Try body (hd :: hds) [] [] pos) (.try b hs) := by
  cases hot : T.hot with
  | true =>
    exact PS.by' ps_never fun D σ H ⟨ρ, I, q⟩ => by
      simp only [evS] at q
      rw [if_pos hot] at q
      exact q
  | false =>
    exact PS.by' (ps_try_mix (tb := fun W => rS g O H0 none W (evSs T b)) stk frm ND tk hb hm) fun D σ H ⟨ρ, I, q⟩ => ⟨ρ, I, by
      simp only [evS] at q
      rw [if_neg (by rw [hot]; decide)] at q
      cases ev : evSs T b ρ with
      | nx ρ2 => rw [ev] at q; exact q
      | bk ρ2 => rw [ev] at q; exact q
      | ct ρ2 => rw [ev] at q; exact q
      | ret v => rw [ev] at q; exact q
      | err c fs ρ1 =>
        rw [ev] at q
        rw [hK]
        exact fun d σ' H' I' a x => wMix_of hE I' a x q
      | stuck => rw [ev] at q; exact q.elim⟩
end
end Ev
end
section
set_option Elab.async false
set_option linter.all false
set_option maxRecDepth 100000
set_option maxHeartbeats 4000000
/-! raising an exception of a class with an __init__ of its own -/
namespace Ev
open PySem PySem.Spec PyProof.Rows L2
section
variable {X : Cx} {e : Expr} {es : List Expr} {ta : TA} {p pos : Pos}
theorem pmk_own {CX : CXT} {x : Str} {C fI : Addr} {k : Nat} {fd : FuncData} {ps : List Str} {sp : Sp} (T : OexC X.K C) (iC : PySem.W.findIn X.K (.ref C) "__init__" = some (some (.ref fI))) (tI : PySem.W.typeIn X.K (.ref fI) = some (.type "function"))
    (F : FnOk X.prog X.w X.K X.mg X.base CX k fI fd ps sp) (room : Room (k + 1) X.A) (bd : Binds X.K fd ps []) (pass : Passes CX X (fun _ _ _ => False)) (hg : Gl X x) (hm : X.mg x = some (.ref C)) (ha : PA X (e :: es) ta)
    (hdb : (x == ("__debug__" : Str)) = false) (he : starEach (e :: es) X.env = (false, eval e X.env) :: starEach es X.env) (hpl : (backTo pos (starEach es X.env)).any (·.1) = false) :
    L2N.PMk X (.Call (.Name x p) (e :: es) [] pos) (tMkO C sp [] ta) := by
  intro pins s σ H Q I q0
  obtain ⟨nm, qn, N, bs, bm, sn, sub, ab, col, dd, k0, k1, k2, k3, k5, hC, hbm⟩ := T.cls
  have args := ha.run pos pins s σ H _ I q0
  refine wpAny_Call_Name_kw (ld_glob I hg hm ?_ hdb)
  refine PySem.W.callWith_K (h₀ := X.base) I.ok.mod.kin T.kC (thn args fun us sA ⟨vs, HA, IA, rA, short, qA⟩ => ⟨IA.kIn, ?_⟩) he hpl
  obtain ⟨hp, gg, dr, tt, oo⟩ := sA
  have far : hp.objs.size ≤ hp.objs.size + 1 := Nat.le_succ _
  have free : HA (hp.objs.size + 1) = none := IA.hok.fresh far
  have want := qA (hp.objs.size + 1) free
  let hB : Heap := (hp.push (PySem.W.kdv_tup us)).push (PySem.HandSPX.excO C hp.objs.size)
  have keeps : ∀ b o, hp.get? b = some o → hB.get? b = some o := fun b o z => Heap.get?_push_of_some _ (Heap.get?_push_of_some _ z)
  have there : hB.get? (hp.objs.size + 1) = some (PySem.HandSPX.excO C hp.objs.size) := by
    show ((hp.push (PySem.W.kdv_tup us)).push (PySem.HandSPX.excO C hp.objs.size)).get? (hp.objs.size + 1) = _
    heap_get
  have IB : Inv X pins σ (upd HA (hp.objs.size + 1) (exo (hp.objs.size + 1) C none)) ⟨hB, gg, dr, tt, oo⟩ :=
    IA.laid (t' := tt) (a := hp.objs.size + 1) (o := exo (hp.objs.size + 1) C none) (h' := hB) keeps far (exo_ok there)
  have rB : Vals (V.ref (hp.objs.size + 1) :: (vs ++ [])) (Value.ref (hp.objs.size + 1) :: us) := .cons rfl (by rw [List.append_nil]; exact rA)
  have len : (Value.ref (hp.objs.size + 1) :: us ++ []).length = ps.length := by
    rw [List.append_nil, ← Paired.length rB]
    exact F.len _ _ _ _ want
  have few : us.length ≤ sizeLine := by
    rw [← Paired.length rA, sizeLine_eq]
    omega
  have bd' := bd _ (Value.ref (hp.objs.size + 1) :: us) IB.kIn len
  rw [List.append_nil] at bd'
  show wpAny _ _ (call (.ref C) us) _ _ _
  refine wpAny_call (PySem.HandSPX.call_own PySem.F.excBase_ValueError (fun Y => PySem.HandSPX.refsVE_contains Y bm hbm) (IA.kIn _ _ hC) (PySem.W.looks_findIn IA.kIn iC) (fun self => PySem.W.bind_fn IA.kIn self tI) few
    (codeAny_mono (F.run _ X.stack _ _ ⟨Value.ref (hp.objs.size + 1) :: us, []⟩ (Value.ref (hp.objs.size + 1) :: us) _ _ (fun _ _ _ => False) (room.make C us []) (IB.env0.make C us []) bd' rB want) fun r sC hC' => ?_))
  cases r with
  | error er => exact pass pins σ _ _ er sC IB hC'
  | ok fl =>
    cases fl with
    | ret u =>
      obtain ⟨v, HC, osC, bareC, unC, okC, ru, ev, dx, fl, ea, ed, fd, qC⟩ := hC'
      subst ev
      obtain ⟨hD, gD, dD, tD, oD⟩ := sC
      obtain ⟨t0, G, J, kG, gone, obj, na⟩ := mk_end0 (d2 := dD) (t2 := tD) IA far keeps unC okC osC bareC ea ed fd
      exact ⟨ru, hp.objs.size + 1, _, _, ⟨G, gD, dD, tD, oD⟩, _, .ref C, some dx, rfl, J, kG, gone, obj, ⟨rfl, rfl, fun vs e => by cases e; rfl⟩, rfl, rfl, na, rfl, bareC, raises_own T.exC T.tyC, qC⟩
    | next => exact hC'.elim
    | brk => exact hC'.elim
    | cont => exact hC'.elim
end
theorem lookup_mem : ∀ {l : List (Str × V)} {n : Str} {v : V}, (l.map (·.1)).Nodup → (n, v) ∈ l → l.lookup n = some v
  | [], _, _, _, h => by cases h
  | (m, u) :: l, n, v, nd, h => by
    simp only [List.map_cons, List.nodup_cons] at nd
    rcases List.mem_cons.mp h with e | h2
    · cases e
      simp [List.lookup]
    · have hne : n ≠ m := fun e => by
        subst e
        exact nd.1 (List.mem_map.mpr ⟨(n, v), h2, rfl⟩)
      have hb : (n == m) = false := by simpa using hne
      simp only [List.lookup, hb]
      exact lookup_mem nd.2 h2
theorem zip_lookup {l : List Str} {vs : List V} {j : Nat} {n : Str} {v : V} (nd : l.Nodup) (hj : l[j]? = some n) (hv : vs[j]? = some v) : (l.zip vs).reverse.lookup n = some v := by
  refine lookup_mem ?_ ?_
  · rw [List.map_reverse]
    refine List.pairwise_reverse.mpr ?_
    have h : ((l.zip vs).map (·.1)).Sublist l := by
      clear hj hv nd
      induction l generalizing vs with
      | nil => simp
      | cons x l ih =>
        cases vs with
        | nil => simp
        | cons y vs => simpa using ih
    exact (nd.sublist h).imp fun h => h.symm
  · rw [List.mem_reverse]
    exact List.mem_of_getElem? (i := j) (List.getElem?_zip_eq_some.mpr ⟨hj, hv⟩)
/-- what an exception's __init__ promises -/
def spI (g : Cfg) (c : Nat) : Sp := fun vs H Q E => ∃ a ws, vs = .ref a :: ws ∧ ws.length = (g.cFl c).length ∧ H a = some (exo a (g.cAd c) none) ∧
  ∀ dx, H dx = none → dx ≠ a → Q .non (upd (upd H dx (exd dx ((g.cFl c).zip ws).reverse)) a (exo a (g.cAd c) (some dx)))
structure ExN (g : Cfg) (k c : Nat) (x : Str) (ps : List Str) : Prop where
  T : OexC g.K (g.cAd c)
  iC : PySem.W.findIn g.K (.ref (g.cAd c)) "__init__" = some (some (.ref (g.cIn c)))
  tI : PySem.W.typeIn g.K (.ref (g.cIn c)) = some (.type "function")
  ok : FnOk g.P g.w g.K g.mg g.base (L2N.CX g.P g.w) k (g.cIn c) (g.cFd c) ps (spI g c)
  bd : Binds g.K (g.cFd c) ps []
  mg : g.mg x = some (.ref (g.cAd c))
  nd : (g.cFl c).Nodup
section
variable {g : Cfg} {O : Addr → Prop} {H0 H H' H1 H2 : Hp} {xi : Option XI} {σ σ' : St} {ρ ρ' : Rho} {W : WX} {X : Cx} {T : Tb} {OO OO' OO1 OO2 : Addr → Prop}
theorem ss_raise {k c : Nat} {x : Str} {ps : List Str} {e : Expr} {es : List Expr} {cs : List CE} {p pos pos' : Pos} (F : ExN g k c x ps) (hX : Of g X) (hr : Md T (k + 1) X) (tk : L2N.Takes X W) (hg : Gl X x) (ha : SA g O H0 xi W T X (e :: es) cs) (hs : (e :: es).all notStar = true)
    (hl : cs.length = (g.cFl c).length) (hl2 : cs.length ≤ 1000) (hdb : (x == ("__debug__" : Str)) = false) : SS g O H0 xi W T X (.Raise (some (.Call (.Name x p) (e :: es) [] pos)) none pos') (.raise c cs) := by
  cases hot : T.hot with
  | true =>
    exact PS.by' ps_never fun D σ H ⟨ρ, I, q⟩ => by
      simp only [evS] at q
      rw [if_pos hot] at q
      exact q
  | false =>
    have h1 : notStar e = true ∧ es.all notStar = true := by simpa using hs
    have ok' : FnOk X.prog X.w X.K X.mg X.base (L2N.CX X.prog X.w) k (g.cIn c) (g.cFd c) ps (spI g c) := by rw [hX.P, hX.w, hX.K, hX.mg, hX.base]; exact F.ok
    have mk := pmk_own (X := X) (e := e) (es := es) (p := p) (pos := pos) (by rw [hX.K]; exact F.T) (by rw [hX.K]; exact F.iC) (by rw [hX.K]; exact F.tI) ok' (hr.cold hot).2 (by rw [hX.K]; exact F.bd)
      (fun _ _ _ _ _ _ _ ⟨_, _, _, _, _, _, _, _, _, _, _, _, z⟩ => z.elim) hg (by rw [hX.mg]; exact F.mg) ha hdb (star_cons h1.1) (back_any h1.2)
    exact PS.by' (L2N.ps_raise (hr.cold hot).1 tk mk) fun D σ H ⟨ρ, I, q⟩ => ⟨ρ, I, by
      simp only [evS] at q
      rw [if_neg (by rw [hot]; decide)] at q
      refine LdS.onG I q fun ds H1 ed s q1 vs r => ?_
      have dl : ds.length = cs.length := evEs_len ed
      have I1 := I.more s
      refine ⟨by rw [r.length, dl]; exact hl2, fun a ha => ⟨a, vs, by rw [List.append_nil], by rw [r.length, dl, hl], upd_same, fun dx hd ne => ⟨rfl, dx, _, upd_same, by rw [upd_ne ne, upd_same], by rw [upd_ne ne] at hd; exact hd, ?_⟩⟩⟩
      have hd1 : H1 dx = none := by rw [upd_ne ne] at hd; exact hd
      generalize hfl : ((g.cFl c).zip vs).reverse = fl
      have eqH : upd (L2.del (upd (upd (upd H1 a (exo a (g.cAd c) none)) dx (exd dx fl)) a (exo a (g.cAd c) (some dx))) a) dx (.xd fl) = upd H1 dx (.xd fl) := by
        funext b
        by_cases hb : b = dx
        · subst hb; rw [upd_same, upd_same]
        · rw [upd_ne hb, upd_ne hb]
          by_cases hba : b = a
          · subst hba; rw [del_same, ha]
          · rw [del_ne hba, upd_ne hba, upd_ne hb, upd_ne hba]
      rw [eqH]
      refine q1 dx σ _ (I1.more (same_upd hd1)) (Adv.of (same_upd hd1) fun _ z => z) ⟨fl, upd_same, fun j n hj => ?_⟩
      have hjl : j < ds.length := by rw [dl, hl]; exact (List.getElem?_eq_some_iff.mp hj).1
      obtain ⟨v, e1, e2⟩ := r.getD (i := j) (d := ds[j]) (by simp [hjl])
      exact ⟨v, ds[j], by simp [hjl], by rw [← hfl]; exact zip_lookup F.nd hj e1, e2.gro (Gro.of (same_upd hd1))⟩⟩
end
/-- two fields -/
theorem init2 {X : Cx} {f0 f1 self p0 p1 : Str} {q0 q1 q2 q3 q4 q5 q6 q7 : Pos} (hN : X.N = [self, p0, p1]) (v0 : Vis X.env.scope self) (v1 : Vis X.env.scope p0) (v2 : Vis X.env.scope p1) (d0 : (self == ("__debug__" : Str)) = false) (d1 : (p0 == ("__debug__" : Str)) = false) (d2 : (p1 == ("__debug__" : Str)) = false)
    (c0 : (self == ("__classdict__" : Str)) = false) (c1 : (p0 == ("__classdict__" : Str)) = false) (c2 : (p1 == ("__classdict__" : Str)) = false) :
    PSs X [.Assign [.Attribute (.Name self q0) f0 q1] (.Name p0 q2) q3, .Assign [.Attribute (.Name self q4) f1 q5] (.Name p1 q6) q7] (tSeq (tOst X.K f0 (tVar 0) (tVar 1)) (tOst X.K f1 (tVar 0) (tVar 2))) :=
  pss_cons (ps_ost (pe_var (by rw [hN]; rfl) v0 d0 c0) (pe_var (by rw [hN]; rfl) v1 d1 c1)) (pss_one (ps_ost (pe_var (by rw [hN]; rfl) v0 d0 c0) (pe_var (by rw [hN]; rfl) v2 d2 c2)))
theorem init2_sp {g : Cfg} {c : Nat} {f0 f1 : Str} {vs : List V} {H : Hp} {Q : VK} {E : XK} {N : List Str} (hf : g.cFl c = [f0, f1]) (hN : N.length = 3) (T : OexC g.K (g.cAd c)) (n0 : PySem.W.findIn g.K (.ref (g.cAd c)) f0 = some none) (n1 : PySem.W.findIn g.K (.ref (g.cAd c)) f1 = some none) (h : spI g c vs H Q E) :
    tSeq (tOst g.K f0 (tVar 0) (tVar 1)) (tOst g.K f1 (tVar 0) (tVar 2)) { nx := fun _ H' => Q .non H', rt := Q } (L2.start N vs) H := by
  obtain ⟨a, ws, rfl, hl, ea, k⟩ := h
  rw [hf] at hl k
  match ws, hl with
  | [w0, w1], _ =>
    have st : L2.start N [.ref a, w0, w1] = [some (.ref a), some w0, some w1] := by
      unfold L2.start
      rw [hN]
      rfl
    rw [st]
    refine ⟨w0, rfl, .ref a, rfl, a, g.cAd c, rfl, T, n0, .inl ⟨ea, fun dx hd ne => ⟨w1, rfl, .ref a, rfl, a, g.cAd c, rfl, T, n1, .inr ⟨dx, [(f0, w0)], upd_same, by rw [upd_ne ne, upd_same], by simp, ?_⟩⟩⟩⟩
    have eqH : upd (upd (upd H dx (exd dx [(f0, w0)])) a (exo a (g.cAd c) (some dx))) dx (exd dx [(f1, w1), (f0, w0)]) = upd (upd H dx (exd dx [(f1, w1), (f0, w0)])) a (exo a (g.cAd c) (some dx)) := by
      funext b
      by_cases hb : b = dx
      · subst hb; rw [upd_same, upd_ne ne, upd_same]
      · rw [upd_ne hb]
        by_cases hba : b = a
        · subst hba; rw [upd_same, upd_same]
        · rw [upd_ne hba, upd_ne hba, upd_ne hb, upd_ne hb]
    rw [eqH]
    exact k dx hd ne
end Ev
end
section
set_option Elab.async false
set_option linter.all false
set_option maxRecDepth 100000
set_option maxHeartbeats 4000000
/-! all(xs) and comprehensions over range(n) while an exception is handled -/
namespace Ev
open PySem PySem.Spec PyProof.Rows L2 HotX
section
variable {prog : Program} {w : World} {A : Around} {E : Value → Shared → Prop} {s : Shared}
theorem list_end_hot {it l x1 : Addr} {i : Nat} {items : Array Value} {Q : Option Value → Shared → Prop} (hot : HotAt A x1 s.heap) (hn1 : x1 ≠ it) (hit : s.heap.IsListIter it l i) (hl : s.heap.IsList l items) (hx : items[i]? = none)
    (q : ∀ h', (∀ b o, b ≠ it → s.heap.get? b = some o → h'.get? b = some o) → Q none { s with heap := h' }) : wpAny (model prog w) A (pyNext (.ref it)) Q E s := by
  obtain ⟨oi, gi, ci, di⟩ := id hit
  obtain ⟨ol, gl, _, nl, dl⟩ := hl
  obtain ⟨hh, o1, v1, g1, d1, c1⟩ := hot
  unfold pyNext
  refine wpAny_bind (wpAny_attempt ?_)
  refine wpAny_callSpecial?_slot (name := Str.ofString "__next__") hit.typeIs slot_listiter_next ?_
  refine wpAny_call_entry slot_listiter_next hit.typeIs entry_listiter_next ?_ (args_listiter_next _)
  show wpAny _ _ (field (.ref it) 0 >>= fun u => _) _ _ s
  refine wpAny_bind (wpAny_field gi di (x := Value.ref l) rfl ?_)
  show wpAny _ _ (if (Value.ref l == Value.none) = true then _ else _) _ _ s
  have nn : ¬ ((Value.ref l == Value.none) = true) := Bool.false_ne_true
  rw [if_neg nn]
  show wpAny _ _ (field (.ref it) 1 >>= fun u => _) _ _ s
  refine wpAny_bind (wpAny_field gi di (x := Value.int i 0) rfl ?_)
  show wpAny _ _ (seqItems? (.ref l) >>= fun u => _) _ _ s
  refine wpAny_bind (wpAny_seqItems gl dl ?_)
  simp only [Int.toNat_natCast, hx]
  refine wpAny_bind (wpAny_rule ?_)
  refine wpAny_bind (wpAny_setField gi di (by simp) ?_)
  show wpAny _ _ (newExc (.type "StopIteration") [] >>= fun u => _) _ _ _
  have f1 : (s.heap.update it (Obj.mapFields (·.setIfInBounds 0 Value.none))).get? x1 = some o1 := (Heap.get?_update_other _ _ (Ne.symm hn1)).trans g1
  refine wpAny_bind ?_
  simp only [newExc, newTuple]
  refine wpAny_bind (wpAny_newObj_type ?_ (by size_fits))
  refine wpAny_bind (m := firstArgMember _ _) (wpAny_of_eq (a := Value.none) ?_ ?_)
  · first
    | rfl
    | (simp only [firstArgMember]; rfl)
  refine wpAny_newObj_type ?_ (by size_fits)
  have f2 := Heap.get?_push_of_some { cls := Value.type "tuple", data := Data.seq (#[] : Array Value) } f1
  refine raiseNew_hot ⟨hh, o1, v1, Heap.get?_push_of_some _ (Heap.get?_push_of_some _ f1), d1, c1⟩ (Nat.ne_of_lt (Heap.lt_size (Heap.get?_push_of_some _ f1))) (Heap.get?_push_size _ rfl) rfl ?_ ?_
  · first
    | (simp; done)
    | (simp; omega)
    | (simp only [Array.size_append]; simp; omega)
  refine wpAny_bind (wpAny_isInstance (T := "StopIteration") (b := true) ⟨_, Heap.get?_update_self _ (Heap.get?_push_size _ rfl) rfl, rfl⟩ isSubtype_stop ?_)
  refine wpAny_pure (q _ fun b o nb e => ?_)
  have e1 : (s.heap.update it (Obj.mapFields (·.setIfInBounds 0 Value.none))).get? b = some o := (Heap.get?_update_other _ _ (Ne.symm nb)).trans e
  rw [Heap.get?_update_other _ _ (Nat.ne_of_gt (Heap.lt_size (Heap.get?_push_of_some _ e1)))]
  exact Heap.get?_push_of_some _ (Heap.get?_push_of_some _ e1)
theorem HotAt.kept {A : Around} {x1 : Addr} {h h' : Heap} (k : ∀ o, h.get? x1 = some o → h'.get? x1 = some o) (c : HotAt A x1 h) : HotAt A x1 h' :=
  let ⟨c0, o, vs, c1, c2, c3⟩ := c
  ⟨c0, o, vs, k _ c1, c2, c3⟩
theorem walks_hot {it l x1 : Addr} (n1 : l ≠ it) (n2 : x1 ≠ it) (items : Array Value) :
    Walks prog w A it [it, l, x1] [it] items.size (fun i v => items[i]? = some v) (fun i h => (h.IsListIter it l i ∧ h.IsList l items) ∧ HotAt A x1 h) where
  sub := fun b hb => by simp at hb; simp [hb]
  frame := fun i h h' st k => ⟨⟨st.1.1.at fun o e => k it (by simp) o e, st.1.2.at fun o e => k l (by simp) o e⟩, HotAt.kept (fun o e => k x1 (by simp) o e) st.2⟩
  item := fun i s Q E hi st q => by
    refine wpAny_pyNext_list_item st.1.1 st.1.2 (x := items[i]) (by simp [hi]) fun h' it' sb => ?_
    refine q _ h' s.toks (by simp [hi]) ⟨⟨it', st.1.2.extBut sb.extBut n1⟩, HotAt.kept (fun o e => sb.extBut x1 o n2 e) st.2⟩ fun b o hb e => ?_
    exact sb.extBut b o (fun z => hb (by simp [z])) e
  done := fun s Q E st q => list_end_hot st.2 n2 st.1.1 st.1.2 (by simp) fun h' k => q h' s.toks fun b o hb e => k b o (fun z => hb (by simp [z])) e
  self := fun i s Q E st q => wpAny_pyIter_listiter st.1.1 q
end
section
variable {X : Cx}
theorem cr_allH (hc : L2H.HotC X) : CallR X (.builtin "all") (rAll X.K) := by
  intro pins s σ H vs us Q I r h
  obtain ⟨a, bs, rfl, hs, q⟩ := h
  obtain ⟨its, rv, hl, _⟩ := I.list hs
  rw [Vals.ref1 r]
  have hb := rv.bls
  obtain ⟨x1, hot⟩ := hc.at I
  have lt1 : x1 < s.heap.objs.size := by
    obtain ⟨_, o, vs, g1, _⟩ := hot
    exact Heap.lt_size g1
  refine call_all_walk (iter_any hl.isList fun s2 e2 st hne => ?_)
  subst e2
  have hot2 : HotAt X.A.in1 x1 (s.heap.push { cls := .type "list_iterator", data := .fields #[.ref a, .int 0 0] }) := HotAt.kept (A := X.A.in1) (h := s.heap) (fun o e => Heap.get?_push_of_some _ e) hot
  refine ⟨_, _, _, _, _, _, _, rfl, walks_hot (A := X.A.in1) hne (Nat.ne_of_lt lt1) its.toArray, ⟨st, hot2⟩, truth_bools hb, fun h' tk hk => ?_⟩
  refine ⟨.bl _, H, I.kept fun b o eo => hk b o (fun hm => ?_) (Heap.get?_push_of_some _ eo), ?_, q⟩
  · rcases List.mem_cons.mp hm with e1 | hm
    · exact absurd (e1 ▸ Heap.lt_size eo) (Nat.lt_irrefl _)
    · cases hm
  · show Value.bool _ = Value.bool _
    rw [← L2.all_range, hb, List.size_toArray, List.length_map]
/-! ### comprehensions -/
/-- a comprehension's block, the pins kept -/
abbrev blkH (X : Cx) (s : Shared) (H : Hp) (scope : Scope) (cenv : Env) (fp : List Addr) : Cx := { X.blk s H scope cenv fp with pn := X.pn }
theorem blkH_inv {sc : Scope} {ce : Env} {fp : List Addr} {s s1 : Shared} {H H1 : Hp} {σ : St} (I : Inv (X.blk s H sc ce fp) [] σ H1 s1) (hp : ∀ p ∈ X.pn, s1.heap.get? p.1 = some p.2 ∧ H1 p.1 = none ∧ p.1 ≠ ce.locals ∧ p.1 ∉ frs X.stack ∧ ∀ v, p.2.data ≠ .cell v) :
    Inv (blkH X s H sc ce fp) [] σ H1 s1 :=
  ⟨⟨I.ok.mod, I.ok.kind, I.ok.glob, I.ok.blt, I.ok.above, I.ok.inj, I.ok.has, I.ok.cab, I.ok.hd, I.ok.frames, I.ok.stk, I.ok.exf, I.ok.bs, I.ok.bsz, I.ok.noex, I.ok.exfs, I.ok.funs, I.ok.frf⟩, I.os, I.bare, I.base, I.loc, I.cell, I.free, I.freeC,
    fun p h => hp p (by simpa using h), I.hok, I.len⟩
theorem blkH_hot {sc : Scope} {ce : Env} {fp : List Addr} {s : Shared} {H : Hp} (hc : L2H.HotC X) : L2H.HotC (blkH X s H sc ce fp) := let ⟨p, h1, h2⟩ := hc; ⟨p, h1, h2⟩
theorem pe_lcH {elt tg iter : Expr} {ifs : List Expr} {scope : Scope} {own : List (Str × Nat)} {pos : Pos} {wi : TI} {gt : TG} {tt : TT} {te : TE} (hc : L2H.HotC X) (ND : X.N.Nodup) (hi : L2H.PIH X tg iter wi) (ok : BlkOk X.N X.env.scope scope own)
    (hg : ∀ (s : Shared) (H : Hp) (C : Addr) (cl : List (Str × Addr)) (fp : List Addr), PG (blkH X s H scope (compEnvC scope cl C X.env) fp) tg gt) (ht : ∀ (s : Shared) (H : Hp) (C : Addr) (cl : List (Str × Addr)) (fp : List Addr), PTs (blkH X s H scope (compEnvC scope cl C X.env) fp) ifs tt)
    (he : ∀ (s : Shared) (H : Hp) (C : Addr) (cl : List (Str × Addr)) (fp : List Addr), PE (blkH X s H scope (compEnvC scope cl C X.env) fp) elt te) (hs : ∀ x, foldedSetIterable iter X.env x = pure x) :
    PE X (.ListComp elt [⟨tg, iter, ifs, 0⟩] scope pos) (tLc wi gt tt te (own.map (·.2))) := by
  refine ⟨fun pins s₀ σ H₀ Q I₀ q₀ => ?_⟩
  have free : ∀ y ∈ scope.names, y.2 = .free → ∃ c, X.env.cells.lookup y.1 = some c := fun y hy e => (ok.free y hy e).elim (fun z => I₀.ok.has _ (.inl z)) fun z => I₀.ok.has _ (.inr z)
  rw [eval_ListComp]
  refine wpAny_comprehension_free (use := none) rfl hs (closure_ok free) ok.kind (fun y hy e => by rw [ok.uniq y hy, e]) ?_
  refine thn (hi.run pins s₀ σ H₀ _ I₀ q₀) fun xv sA hA => thn hA fun itv sB hB => ?_
  obtain ⟨it, fp, tn, J, HB, rfl, IB, T, tB, fB, q⟩ := hB
  refine wpAny_newObj_type (newEnv_comp ?_) (by show 0 ≤ sizeLine; decide)
  generalize hD : sB.heap.objs.size = D
  have freshD : HB D = none := IB.hok.fresh (Nat.le_of_eq hD)
  obtain ⟨Wn, ⟨m0, start⟩, turn⟩ := q D freshD
  generalize hC : ({ sB with heap := sB.heap.push { cls := .type "list", data := .seq ([] : List Value).toArray } } : Shared) = sC
  have heapC : sC.heap = sB.heap.push { cls := .type "list", data := .seq ([] : List Value).toArray } := by rw [← hC]
  have IC : Inv X pins σ (upd HB D (.lst [])) sC := by
    rw [← hC]
    refine IB.laid (t' := sB.toks) (fun b o e => Heap.get?_push_of_some _ e) (Nat.le_of_eq hD) ⟨Nat.zero_le _, [], 0, .nil, ?_⟩
    rw [← hD]
    exact Heap.get?_push_size _ rfl
  have below : ∀ b ∈ fp, b < sB.heap.objs.size := fun b hb => let ⟨o, e, _⟩ := T.obj _ _ tB b hb; Heap.lt_size e
  have fC : ∀ b ∈ fp, FpOk X pins (upd HB D (.lst [])) b ∧ b < sC.heap.objs.size := fun b hb => by
    have lt := below b hb
    refine ⟨⟨?_, (fB b hb).2⟩, by rw [heapC, Heap.size_push]; exact Nat.lt_succ_of_lt lt⟩
    rw [upd_ne (by rw [← hD]; exact Nat.ne_of_lt lt)]
    exact (fB b hb).1
  have tC : tn 0 sC.heap := T.keep _ _ _ tB fun b _ o e => by rw [heapC]; exact Heap.get?_push_of_some _ e
  have ID0 := block_start IC ok ND fC
  have nofp : ∀ b ∈ fp, (upd HB D (.lst [])) b = none := fun b hb => (fC b hb).1.1
  have pG := hg sC (upd HB D (.lst [])) sC.heap.objs.size (cellsFrom (sC.heap.objs.size + 1) scope.names (cloFrom X.env.cells scope.names [])) fp
  have pT := ht sC (upd HB D (.lst [])) sC.heap.objs.size (cellsFrom (sC.heap.objs.size + 1) scope.names (cloFrom X.env.cells scope.names [])) fp
  have pE := he sC (upd HB D (.lst [])) sC.heap.objs.size (cellsFrom (sC.heap.objs.size + 1) scope.names (cloFrom X.env.cells scope.names [])) fp
  show codeAny _ _ (.compStart (.ListComp elt [⟨tg, iter, ifs, 0⟩] scope pos) 0 (.ref it) (.ref D) (compEnvC scope (cellsFrom (sC.heap.objs.size + 1) scope.names (cloFrom X.env.cells scope.names [])) sC.heap.objs.size X.env)) (compPost (model X.prog X.w) X.A X.xe none (EP X pins σ Q) (.ref D) sC.heap.objs.size) { sC with heap := pushCells (sC.heap.push { cls := .type "dict", data := .dict #[] }) scope.names }
  generalize hce : compEnvC scope (cellsFrom (sC.heap.objs.size + 1) scope.names (cloFrom X.env.cells scope.names [])) sC.heap.objs.size X.env = ce at ID0 pG pT pE ⊢
  have locs : ce.locals = sC.heap.objs.size := by rw [← hce]; rfl
  generalize hHC : upd HB D (.lst []) = HC at IC ID0 pG pT pE start nofp fC
  generalize hsD : ({ sC with heap := pushCells (sC.heap.push { cls := .type "dict", data := .dict #[] }) scope.names } : Shared) = sD at ID0 ⊢
  have grown : ∀ b o, sC.heap.get? b = some o → sD.heap.get? b = some o := fun b o e => by rw [← hsD]; exact pushCells_keeps _ _ _ _ (Heap.get?_push_of_some _ e)
  have tD : tn 0 sD.heap := T.keep _ _ _ tC fun b _ o e => grown b o e
  have ID : Inv (blkH X sC HC scope ce fp) [] (wipe σ (own.map (·.2))) HC sD := blkH_inv ID0 fun p hp => by
    have P := IC.pin p (List.mem_append_left _ hp)
    refine ⟨grown _ _ P.1, P.2.1, ?_, fun hm => (List.mem_cons.mp (IC.stkSub p.1 hm)).elim P.2.2.1 P.2.2.2.1, P.2.2.2.2⟩
    rw [locs]
    exact Nat.ne_of_lt (Heap.lt_size P.1)
  have hcB : L2H.HotC (blkH X sC HC scope ce fp) := blkH_hot hc
  have stay : ∀ {σ' : St} {H' : Hp} {s' : Shared}, Inv (blkH X sC HC scope ce fp) [] σ' H' s' → (∀ b ∈ fp, H' b = none) → ∀ b ∈ fp, FpOk (blkH X sC HC scope ce fp) [] H' b := fun {σ' H' s'} I' hn b hb =>
    ⟨hn b hb, (I'.ok.exf b hb).1, I'.ok.exfs b hb, .inl hb, fun x c e => (I'.ok.exf b hb).2 x c e, fun p hp => by
      have hp' : p ∈ X.pn := by simpa using (show p ∈ X.pn ++ [] from hp)
      exact (fC b hb).1.2.2.2.2.2 p (List.mem_append_left _ hp')⟩
  have loop : codeAny (model X.prog X.w) X.A (.compLoop (.ListComp elt [⟨tg, iter, ifs, 0⟩] scope pos) 0 (.ref it) (.ref D) ce) (compPost (model X.prog X.w) X.A X.xe none (EP X pins σ Q) (.ref D) sC.heap.objs.size) sD := by
    refine compLoop_any (fun n s' => ∃ i H', Inv (blkH X sC HC scope ce fp) [] (wipe σ (own.map (·.2))) H' s' ∧ tn i s'.heap ∧ (∀ b ∈ fp, H' b = none) ∧ Wn i n H') ?_ m0 ⟨0, HC, ID, tD, nofp, start⟩
    rintro n sE ⟨i, HE, IE, tE, nE, wE⟩
    rcases turn i n HE wE with ⟨stop, qq⟩ | ⟨go, Nx, back, step⟩
    · refine thnF (T.done (blkH X sC HC scope ce fp) rfl rfl rfl hcB i [] sE _ HE (fun _ _ => False) IE (stay IE nE) tE stop) fun r sF ⟨hr, IF⟩ => ?_
      subst hr
      have JF : Inv X pins σ HE sF := IC.call' (ch := fp) IF.os IF.base IF.hok IF.bare fun b hb => ⟨(fC b hb).1.2.2.2.1, (fC b hb).1.2.1, (fC b hb).1.2.2.2.2.1, (fC b hb).1.2.2.2.2.2⟩
      have noC : HE sC.heap.objs.size = none := by
        have z : HE ce.locals = none := IF.free
        rw [← locs]
        exact z
      obtain ⟨mF, hnF, _⟩ := IF.loc
      have hnF' : sF.heap.Ns ce.locals mF := hnF
      rw [locs] at hnF'
      obtain ⟨y0, y1, y2, y3, y4, y5⟩ := IC.fpOk (Nat.le_refl _) noC
      refine ⟨mF, hnF', fun hZ sb => ⟨.ref D, HE, JF.turned (t' := sF.toks) (fun b o hb e => (sb.2 b hb).trans e) y0 y1 y3 y4 y5, rfl, qq⟩⟩
    · refine thnF (T.item (blkH X sC HC scope ce fp) rfl rfl rfl hcB i [] sE _ HE (fun _ _ => False) IE (stay IE nE) tE go) fun r sF ⟨u, hr, hF⟩ => ?_
      subst hr
      refine thnF hF fun _ sG ⟨x, HG, IG, rG, yG, tG, nG⟩ => ?_
      have IG' := IG.pinned (stay IG nG) (T.obj _ _ tG)
      refine thnF (pG.run _ sG _ HG x u _ IG' rG (step x HG yG)) fun _ sH ⟨σH, HH, IH, wH, qH⟩ => ?_
      refine thnF (pT.run _ sH σH HH _ IH qH) fun b sI ⟨HI, II, qI⟩ => ?_
      have close : ∀ {s' : Shared} {H' : Hp}, Inv (blkH X sC HC scope ce fp) ([] ++ pinsAt fp sG.heap) σH H' s' → Nx H' → ∃ m, m < n ∧ ∃ i H', Inv (blkH X sC HC scope ce fp) [] (wipe σ (own.map (·.2))) H' s' ∧ tn i s'.heap ∧ (∀ b ∈ fp, H' b = none) ∧ Wn i m H' := fun {s' H'} I' nx => by
        obtain ⟨m', lt, w'⟩ := back H' nx
        have pinned : ∀ b ∈ fp, ∀ o, sG.heap.get? b = some o → s'.heap.get? b = some o ∧ H' b = none := fun b hb o e =>
          have z := I'.pin (b, o) (List.mem_append_right _ (List.mem_append_right _ (mem_pinsAt hb e)))
          ⟨z.1, z.2.1⟩
        have sameL : (wipe σ (own.map (·.2))).length = σH.length := by rw [← wH, wipe_length]
        refine ⟨m', lt, i + 1, H', (I'.unpinned (pins := [])).weak sameL (fun j v e => ?_), T.keep _ _ _ tG fun b hb o e => (pinned b hb o e).1, fun b hb => ?_, w'⟩
        · rw [← wH] at e
          exact (wipe_some e).1
        · obtain ⟨o, e, _⟩ := T.obj _ _ tG b hb
          exact (pinned b hb o e).2
      cases b with
      | false =>
        rw [if_neg Bool.false_ne_true] at qI
        exact close II qI
      | true =>
        rw [if_pos rfl] at qI
        refine thnF (pE.run _ sI σH HI _ II qI) fun z sJ ⟨yv, HJ, IJ, rJ, acc, dJ, zJ, nx⟩ => ?_
        exact app_ok (X := blkH X sC HC scope ce fp) IJ dJ zJ rJ fun sK IK => close IK nx
  exact codeAny_compStart_list loop (T.self X.A 0 _ _ _ tD loop)
end
end Ev
end
section
set_option Elab.async false
set_option linter.all false
set_option maxRecDepth 100000
set_option maxHeartbeats 2000000
/-! the rules once more, by one description of the context -/
namespace Ev
open PySem PySem.Spec PyProof.Rows L2
def bnL : List Str := ["isinstance", "len", "int", "str", "abs", "min", "max", "sum", "sorted", "tuple", "list", "all", "any", "range", "enumerate", "zip", "reversed", "bool", "dict"]
/-- what the module's written part says, once for all -/
structure Pf (g : Cfg) (sub : Nat → Nat → Bool) : Prop where
  nb : ∀ x, bnL.contains x = true → g.mg x = none
  em : ∀ c k, PySem.W.exmOne g.K (.ref (g.cAd c)) (.ref (g.cAd k)) = some (sub c k)
  kit : ∀ c k, PySem.W.kitOne g.K (.ref (g.cAd c)) (.ref (g.cAd k)) = some (sub c k)
  exf : ∀ c, ExF g c
  cmg : ∀ c, c < g.nC → g.mg (g.cNm c) = some (.ref (g.cAd c))
  exn : ∀ c, c < g.nC → (g.cPs c).isEmpty = false → ExN g 1 c (g.cNm c) (g.cPs c)
structure Sc (g : Cfg) (T : Tb) (k : Nat) (W : WX) (N : List Str) (sc : Scope) (fb : Str → Bool) (X : Cx) : Prop where
  N : X.N = N
  sc : X.env.scope = sc
  of : Of g X
  md : Md T k X
  tk : L2N.Takes X W
  po : PassesOwn (model X.prog X.w) X.A X.env X.xe
  fn : ∀ x, fb x = true → X.fn x = true
  nd : X.N.Nodup
  pf : Pf g T.sub
  fs : ∀ j, j < g.nF → FnF g T k j (g.fNm j) (g.fPs j)
  fh : ∀ j, j < g.nF → FnF g T.heat k j (g.fNm j) (g.fPs j)
/-- a name that is read -/
def rdB (N : List Str) (sc : Scope) (i : Nat) (x : Str) : Bool :=
  (N[i]? == some x) && (match sc.names.lookup x with | some .local => true | some .cell => true | some .free => true | _ => false) && !(x == ("__debug__" : Str)) && !(x == ("__classdict__" : Str))
/-- a name that is bound -/
def wrB (N : List Str) (sc : Scope) (fb : Str → Bool) (i : Nat) (x : Str) : Bool :=
  (N[i]? == some x) && (match sc.names.lookup x with | some .local => true | some .cell => fb x | _ => false)
/-- a name of the module or a built-in one -/
def glB (sc : Scope) (x : Str) : Bool := (sc.names.lookup x == some .globalImplicit) && !(x == ("__debug__" : Str)) && !(x == ("__name__" : Str))
theorem rdB_is {N : List Str} {sc : Scope} {i : Nat} {x : Str} (h : rdB N sc i x = true) : N[i]? = some x ∧ Vis sc x ∧ (x == ("__debug__" : Str)) = false ∧ (x == ("__classdict__" : Str)) = false := by
  unfold rdB at h
  simp only [Bool.and_eq_true, Bool.not_eq_true', beq_iff_eq] at h
  obtain ⟨⟨⟨h1, h2⟩, h3⟩, h4⟩ := h
  refine ⟨h1, ?_, by simpa using h3, by simpa using h4⟩
  unfold Vis
  split at h2 <;> first | (rename_i e; simp [e]) | cases h2
theorem wrB_is {N : List Str} {sc : Scope} {fb : Str → Bool} {i : Nat} {x : Str} (h : wrB N sc fb i x = true) : N[i]? = some x ∧ L2.Loc sc x ∧ (fb x = true ∨ sc.names.lookup x = some .local) := by
  unfold wrB at h
  simp only [Bool.and_eq_true, beq_iff_eq] at h
  obtain ⟨h1, h2⟩ := h
  refine ⟨h1, ?_⟩
  unfold L2.Loc
  split at h2
  · rename_i e; exact ⟨.inl e, .inr e⟩
  · rename_i e; exact ⟨.inr e, .inl h2⟩
  · cases h2
section
variable {g : Cfg} {O : Addr → Prop} {H0 : Hp} {xi : Option XI} {W : WX} {X : Cx} {T : Tb} {k : Nat} {N : List Str} {sc : Scope} {fb : Str → Bool}
theorem Sc.gl (C : Sc g T k W N sc fb X) {x : Str} (h : glB sc x = true) : Gl X x ∧ (x == ("__debug__" : Str)) = false ∧ x ≠ "__name__" := by
  unfold glB at h
  simp only [Bool.and_eq_true, Bool.not_eq_true', beq_iff_eq] at h
  obtain ⟨⟨h1, h2⟩, h3⟩ := h
  refine ⟨by unfold Gl Env.kindOf; rw [C.sc]; exact h1, by simpa using h2, by simpa using h3⟩
theorem Sc.rd (C : Sc g T k W N sc fb X) {i : Nat} {x : Str} (h : rdB N sc i x = true) : X.N[i]? = some x ∧ Vis X.env.scope x ∧ (x == ("__debug__" : Str)) = false ∧ (x == ("__classdict__" : Str)) = false := by
  have z := rdB_is h
  rw [C.N, C.sc]
  exact z
theorem Sc.wr (C : Sc g T k W N sc fb X) {i : Nat} {x : Str} (h : wrB N sc fb i x = true) : X.N[i]? = some x ∧ L2.Loc X.env.scope x ∧ (X.fn x = true ∨ X.env.scope.names.lookup x = some .local) := by
  have z := wrB_is h
  rw [C.N, C.sc]
  exact ⟨z.1, z.2.1, z.2.2.imp (C.fn x) id⟩
theorem Sc.K (C : Sc g T k W N sc fb X) : X.K = g.K := C.of.K
/-! ### expressions -/
theorem u_v (C : Sc g T k W N sc fb X) (i : Nat) {x : Str} {p : Pos} (h : rdB N sc i x = true) : SE g O H0 xi W T X (.Name x p) (.var i) :=
  let ⟨h1, h2, h3, h4⟩ := C.rd h; s_var h1 h2 h3 h4
theorem u_b (C : Sc g T k W N sc fb X) (i : Nat) {x : Str} {p : Pos} (h : rdB N sc i x = true) : SB g O H0 xi W T X (.Name x p) (.var i) :=
  let ⟨h1, h2, h3, h4⟩ := C.rd h; s_varB h1 h2 h3 h4
def opU : Operator → Option Op2
  | .Add => some .add | .Sub => some .sub | .Mult => some .mul | .FloorDiv => some .fdiv | .Mod => some .mod | .Pow => some .pow | _ => none
def cmpU : CmpOp → Option Op2
  | .Eq => some .eq | .NotEq => some .ne | .Lt => some .lt | .LtE => some .le | .Gt => some .gt | .GtE => some .ge | .In => some .isin | .NotIn => some .notin | _ => none
theorem opU_ok (hK : X.K = g.K) {op : Operator} {o : Op2} (h : opU op = some o) : OpR X (binaryOp op) (rBin g.K o) := by
  rw [← hK]
  cases op <;> cases h
  · exact ob_add
  · exact ob_sub
  · exact ob_mul
  · exact ob_mod
  · exact ob_pow
  · exact ob_fdiv
theorem Md.un (m : Md T k X) : X.A.units + 100 < cLine := by
  cases h : T.hot with
  | true => have := (m.hot h).2.un; omega
  | false => have := (m.cold h).2.un; omega
theorem cmpU_ok (C : Sc g T k W N sc fb X) {op : CmpOp} {o : Op2} (h : cmpU op = some o) : OpR X (compareOp op) (rBin g.K o) := by
  have hu := C.md.un
  rw [← C.K]
  cases op <;> cases h
  · exact oc_eq (by omega)
  · exact oc_ne (by omega)
  · exact oc_lt
  · exact oc_le
  · exact oc_gt
  · exact oc_ge
  · exact oc_in (by omega) false
  · exact oc_in (by omega) true
theorem u_op (C : Sc g T k W N sc fb X) {op : Operator} {o : Op2} {a b : Expr} {ca cb : CE} {pos : Pos} (h : opU op = some o) (ha : SB g O H0 xi W T X a ca) (hb : SB g O H0 xi W T X b cb) : SE g O H0 xi W T X (.BinOp a op b pos) (.bin o ca cb) :=
  s_op (opU_ok C.K h) ha hb
theorem u_cmp (C : Sc g T k W N sc fb X) {op : CmpOp} {o : Op2} {a b : Expr} {ca cb : CE} {pos : Pos} (h : cmpU op = some o) (hm : behindInMarks op b = false) (ha : SB g O H0 xi W T X a ca) (hb : SB g O H0 xi W T X b cb) : SE g O H0 xi W T X (.Compare a [op] [b] pos) (.bin o ca cb) :=
  s_cmp (cmpU_ok C h) hm ha hb
theorem cmpU_bool {op : CmpOp} {o : Op2} (h : cmpU op = some o) : opBool o = true := by cases op <;> cases h <;> rfl
theorem u_cmpT (C : Sc g T k W N sc fb X) {op : CmpOp} {o : Op2} {a b : Expr} {ca cb : CE} {pos : Pos} (h : cmpU op = some o) (hm : behindInMarks op b = false) (ha : SB g O H0 xi W T X a ca) (hb : SB g O H0 xi W T X b cb) : ST' g O H0 xi W T X (.Compare a [op] [b] pos) (.of (.bin o ca cb)) :=
  s_cmpT (cmpU_bool h) (cmpU_ok C h) hm ha hb
theorem u_w {e : Expr} {c : CT} (h : SW g O H0 xi W T X e c) : ST' g O H0 xi W T X e c := ⟨fun pins s σ H Q I q => h.run _ pins s σ H Q I q⟩
theorem u_and1 {a : Expr} {c : CT} {pos : Pos} (h : ST' g O H0 xi W T X a c) : SW g O H0 xi W T X (.BoolOp .And [a] pos) c := pw_and1 h
theorem u_or1 {a : Expr} {c : CT} {pos : Pos} (h : ST' g O H0 xi W T X a c) : SW g O H0 xi W T X (.BoolOp .Or [a] pos) c := pw_or1 h
theorem u_one {op : BoolOp} {a : Expr} {c : CE} {pos : Pos} (h : SE g O H0 xi W T X a c) : SE g O H0 xi W T X (.BoolOp op [a] pos) c := pe_one h
theorem u_idx (C : Sc g T k W N sc fb X) {a i : Expr} {ca ci : CE} {pos : Pos} (ha : SB g O H0 xi W T X a ca) (hi : SE g O H0 xi W T X i ci) (hs : notSlice i = true) : SE g O H0 xi W T X (.Subscript a i pos) (.idx ca ci) := s_idx C.K ha hi hs
theorem u_slc (C : Sc g T k W N sc fb X) {a : Expr} {lo hi : Option Expr} {ca : CE} {cl ch : Option CE} {p2 pos : Pos} (ha : SB g O H0 xi W T X a ca) (hl : SO g O H0 xi W T X lo cl) (hh : SO g O H0 xi W T X hi ch) : SE g O H0 xi W T X (.Subscript a (.Slice lo hi none p2) pos) (.slc ca cl ch) := s_slc C.K ha hl hh
theorem u_tru (C : Sc g T k W N sc fb X) {e : Expr} {c : CE} (h : SB g O H0 xi W T X e c) (he : ∀ whole, isTrue e X.env whole = (do let v ← whole; standAt e.pos; holding [v] (truthy v))) : ST' g O H0 xi W T X e (.of c) := s_truth C.K h he
theorem u_not (C : Sc g T k W N sc fb X) {e : Expr} {c : CE} {pos : Pos} (h : SB g O H0 xi W T X e c) : SE g O H0 xi W T X (.UnaryOp .Not e pos) (.un .not c) := s_notV C.K h
theorem u_andV (C : Sc g T k W N sc fb X) {a b : Expr} {rest : List Expr} {ca cb : CE} {pos : Pos} (ha : SE g O H0 xi W T X a ca) (hb : SE g O H0 xi W T X (.BoolOp .And (b :: rest) pos) cb) : SE g O H0 xi W T X (.BoolOp .And (a :: b :: rest) pos) (.and ca cb) := s_andV C.K ha hb
theorem u_orV (C : Sc g T k W N sc fb X) {a b : Expr} {rest : List Expr} {ca cb : CE} {pos : Pos} (ha : SE g O H0 xi W T X a ca) (hb : SE g O H0 xi W T X (.BoolOp .Or (b :: rest) pos) cb) : SE g O H0 xi W T X (.BoolOp .Or (a :: b :: rest) pos) (.or ca cb) := s_orV C.K ha hb
/-! ### built-ins -/
def bltB (sc : Scope) (x : Str) : Bool := glB sc x && bnL.contains x
theorem Sc.blt (C : Sc g T k W N sc fb X) {x : Str} (h : bltB sc x = true) : Gl X x ∧ X.mg x = none ∧ x ≠ "__name__" ∧ (x == ("__debug__" : Str)) = false := by
  unfold bltB at h
  rw [Bool.and_eq_true] at h
  obtain ⟨a, b, c⟩ := C.gl h.1
  exact ⟨a, by rw [C.of.mg]; exact C.pf.nb x h.2, c, b⟩
theorem cb_allM (m : Md T k X) : CallR X (.builtin "all") (rBI X.K .all) := by
  cases hh : T.hot with
  | false => exact cb_all (m.cold hh).1
  | true =>
    intro pins s σ H xs us Q I r h
    obtain ⟨O, ds, t, hx, q⟩ := h
    match ds, hx, q with
    | [.lst x], hx, q =>
      obtain ⟨v, rfl, h1⟩ := hx.one
      obtain ⟨a, vs, rfl, sa, ra⟩ := h1.lst_of
      simp only [biD] at q
      split at q
      · rename_i r' e
        have ev := ra.of_bls e
        subst ev
        exact cr_allH (m.hot hh).1 pins s σ H _ us Q I r ⟨a, _, rfl, SqL.of sa, q.here (.bl _)⟩
      · exact q.elim
/-- the value of a built-in, by its name -/
def BI.fn : BI → Option String
  | .len => some "len" | .abs => some "abs" | .min2 => some "min" | .max2 => some "max" | .min1 => some "min" | .max1 => some "max" | .sum => some "sum" | .sorted => some "sorted" | .all => some "all" | .any => some "any" | _ => none
def BI.ty : BI → Option String
  | .int => some "int" | .tuple => some "tuple" | .list => some "list" | _ => none
theorem bi_fn (C : Sc g T k W N sc fb X) {b : BI} {id : String} (h : b.fn = some id) (hh : (T.hot && !b.hot) = false) : CallR X (.builtin id) (rBI g.K b) := by
  rw [← C.K]
  have hc : b.hot = false → X.calm = true := fun hb => (C.md.cold (by rw [hb] at hh; simpa using hh)).1
  cases b <;> cases h
  · exact cb_len
  · exact cb_abs
  · exact cb_min2 (hc rfl)
  · exact cb_max2 (hc rfl)
  · exact cb_min1 (hc rfl)
  · exact cb_max1 (hc rfl)
  · exact cb_sum (hc rfl)
  · exact cb_sorted
  · exact cb_allM C.md
  · exact cb_any (hc rfl)
theorem bi_ty (C : Sc g T k W N sc fb X) {b : BI} {id : String} (h : b.ty = some id) (hh : (T.hot && !b.hot) = false) : CallR X (.type id) (rBI g.K b) := by
  rw [← C.K]
  cases b <;> cases h
  · exact cb_int
  · exact cb_tuple
  · exact cb_list
theorem u_bf (C : Sc g T k W N sc fb X) (b : BI) {id : String} {x : Str} {e : Expr} {es : List Expr} {cs : List CE} {p pos : Pos} (hb : b.fn = some id) (hx : bltB sc x = true) (hv : bootBuiltins x = some (.builtin id)) (ha : SAB g O H0 xi W T X (e :: es) cs) (hs : (e :: es).all notStar = true) :
    SE g O H0 xi W T X (.Call (.Name x p) (e :: es) [] pos) (.bi b cs) :=
  let ⟨h1, h2, h3, h4⟩ := C.blt hx; s_biB (fun hh => bi_fn C hb hh) h1 h2 hv ha hs h3 h4
theorem u_bt (C : Sc g T k W N sc fb X) (b : BI) {id : String} {x : Str} {e : Expr} {es : List Expr} {cs : List CE} {p pos : Pos} (hb : b.ty = some id) (hx : bltB sc x = true) (hv : bootBuiltins x = some (.type id)) (ha : SAB g O H0 xi W T X (e :: es) cs) (hs : (e :: es).all notStar = true) :
    SE g O H0 xi W T X (.Call (.Name x p) (e :: es) [] pos) (.bi b cs) :=
  let ⟨h1, h2, h3, h4⟩ := C.blt hx; s_biT (fun hh => bi_ty C hb hh) h1 h2 hv ha hs h3 h4
theorem u_isi (C : Sc g T k W N sc fb X) (t : Ty) {e : Expr} {c : CE} {y : Str} {p p2 pos : Pos} (hx : bltB sc "isinstance" = true) (hy : bltB sc y = true) (hv2 : bootBuiltins y = some (.type t.nm)) (h : SB g O H0 xi W T X e c) (hs : notStar e = true) :
    SE g O H0 xi W T X (.Call (.Name "isinstance" p) [e, .Name y p2] [] pos) (.isi c t) :=
  let ⟨h1, h2, _, _⟩ := C.blt hx; let ⟨k1, k2, k3, k4⟩ := C.blt hy; s_isi (x := y) C.K h h1 h2 k1 k2 hv2 hs k3 k4
theorem u_rgL1 (C : Sc g T k W N sc fb X) (tu : Bool) {x : Str} {e : Expr} {c : CE} {p p2 pos pos2 : Pos} (hx : x = (if tu then "tuple" else "list" : Str)) (hb : bltB sc x = true) (hr : bltB sc "range" = true) (h : SE g O H0 xi W T X e c) (hs : notStar e = true) :
    SE g O H0 xi W T X (.Call (.Name x p) [.Call (.Name "range" p2) [e] [] pos2] [] pos) (.rngL tu (.cst (.int 0)) c) :=
  let ⟨h1, h2, _, _⟩ := C.blt hb
  let ⟨r1, r2, _, _⟩ := C.blt hr
  s_rngL hx (fun hh => (C.md.cold hh).1) h1 h2 (prg_1 r1 r2 h (star_cons hs)) rfl fun σ H Q ⟨ρ, I, q⟩ => ⟨ρ, I, by
    simp only [evE, ok_bind] at q
    exact LdG.bindE q fun x v H1 _ s r q1 => by
      cases x <;> first | exact q1.elim | skip
      cases r
      exact ⟨_, rfl, q1 H1 (Same.refl H1)⟩⟩
theorem u_rgL2 (C : Sc g T k W N sc fb X) (tu : Bool) {x : Str} {e f : Expr} {c d : CE} {p p2 pos pos2 : Pos} (hx : x = (if tu then "tuple" else "list" : Str)) (hb : bltB sc x = true) (hr : bltB sc "range" = true) (h : SE g O H0 xi W T X e c) (h2 : SE g O H0 xi W T X f d) (hs : notStar e = true) (hs2 : notStar f = true) :
    SE g O H0 xi W T X (.Call (.Name x p) [.Call (.Name "range" p2) [e, f] [] pos2] [] pos) (.rngL tu c d) :=
  let ⟨b1, b2, _, _⟩ := C.blt hb
  let ⟨r1, r2, _, _⟩ := C.blt hr
  s_rngL hx (fun hh => (C.md.cold hh).1) b1 b2 (prg_2 r1 r2 h h2 (star_cons hs) (star_cons hs2) (back_any (by simp [hs2]))) rfl fun σ H Q ⟨ρ, I, q⟩ => ⟨ρ, I, LdG.bindE q fun x v H1 _ s r q1 => ⟨ρ, I.more s, LdG.bindE q1 fun y u H2 _ s2 r2 q2 => by
    cases x <;> cases y <;> first | exact q2.elim | skip
    cases r
    cases r2
    exact ⟨_, _, rfl, rfl, q2 H2 (Same.refl H2)⟩⟩⟩
theorem u_rgO (C : Sc g T k W N sc fb X) {a b : Expr} {lo hi : CE} {p pos : Pos} (hr : bltB sc "range" = true) (ha : SE g O H0 xi W T X a lo) (hb : SE g O H0 xi W T X b hi) (hs : notStar a = true) (hs2 : notStar b = true) : SE g O H0 xi W T X (.Call (.Name "range" p) [a, b] [] pos) (.rngO lo hi) :=
  let ⟨r1, r2, _, _⟩ := C.blt hr; s_rngO C.K ha hb r1 r2 hs hs2
/-! ### calls -/
theorem u_call (C : Sc g T k W N sc fb X) (j : Nat) {x : Str} {e : Expr} {es : List Expr} {cs : List CE} {p pos : Pos} (hj : j < g.nF) (hx : g.fNm j = x) (hg : glB sc x = true) (ha : SAC g O H0 xi W T X (e :: es) cs) (hs : (e :: es).all notStar = true) (hl : cs.length = (g.fPs j).length) :
    SE g O H0 xi W T X (.Call (.Name x p) (e :: es) [] pos) (.call j cs) := by
  subst hx
  obtain ⟨h1, h2, _⟩ := C.gl hg
  exact s_call (C.fs j hj) C.of C.md C.tk h1 ha hs hl h2
theorem u_kw (C : Sc g T k W N sc fb X) (j : Nat) {n : Nat} {x : Str} {ks : List Str} {perm : List Nat} {e : Expr} {es : List Expr} {kws : List Keyword} {cs qs : List CE} {p pos : Pos} (hj : j < g.nF) (hx : g.fNm j = x) (B : KwF g j (g.fPs j) n ks perm) (hg : glB sc x = true)
    (ha : SAC g O H0 xi W T X (e :: es) cs) (hkw : SK g O H0 xi W T X kws qs) (hs : (e :: es).all notStar = true) (hl : cs.length = n) (hl2 : qs.length = ks.length) (hall : (backToKw pos (keywordEach kws X.env)).all (·.1.isSome) = true) (hks : (backToKw pos (keywordEach kws X.env)).filterMap (·.1) = ks)
    (hnone : (backToKw pos (keywordEach kws X.env)).any (·.1.isNone) = false) : SE g O H0 xi W T X (.Call (.Name x p) (e :: es) kws pos) (.callk j cs qs perm) := by
  subst hx
  obtain ⟨h1, h2, _⟩ := C.gl hg
  exact s_kw (C.fs j hj) B C.of C.md C.tk h1 ha hkw hs hl hl2 hall hks hnone h2
theorem u_kw0 (C : Sc g T k W N sc fb X) (j : Nat) {x : Str} {ks : List Str} {perm : List Nat} {kws : List Keyword} {qs : List CE} {p pos : Pos} (hj : j < g.nF) (hx : g.fNm j = x) (B : KwF g j (g.fPs j) 0 ks perm) (hg : glB sc x = true)
    (hkw : SK g O H0 xi W T X kws qs) (hl2 : qs.length = ks.length) (hall : (backToKw pos (keywordEach kws X.env)).all (·.1.isSome) = true) (hks : (backToKw pos (keywordEach kws X.env)).filterMap (·.1) = ks)
    (hnone : (backToKw pos (keywordEach kws X.env)).any (·.1.isNone) = false) : SE g O H0 xi W T X (.Call (.Name x p) [] kws pos) (.callk j [] qs perm) := by
  subst hx
  obtain ⟨h1, h2, _⟩ := C.gl hg
  exact s_kw0 (C.fs j hj) B C.of C.md C.tk h1 hkw hl2 hall hks hnone h2
/-! ### what is walked -/
theorem u_iof (C : Sc g T k W N sc fb X) {tg e : Expr} {c : CE} (h : SB g O H0 xi W T X e c) : SI g O H0 xi W T X tg e (.of c) := si_of C.K h
theorem u_ienum (C : Sc g T k W N sc fb X) {e : Expr} {c : CE} {p pos tpos : Pos} {elts : List Expr} {kk : Nat} (hx : bltB sc "enumerate" = true) (h : SB g O H0 xi W T X e c) (hs : notStar e = true) : SI g O H0 xi W T X (.Tuple elts kk tpos) (.Call (.Name "enumerate" p) [e] [] pos) (.enum c) :=
  let ⟨h1, h2, _, _⟩ := C.blt hx; si_enum C.K h1 h2 hs h
theorem u_irev (C : Sc g T k W N sc fb X) {tg e : Expr} {c : CE} {p pos : Pos} (hx : bltB sc "reversed" = true) (h : SB g O H0 xi W T X e c) (hs : notStar e = true) : SI g O H0 xi W T X tg (.Call (.Name "reversed" p) [e] [] pos) (.rev c) :=
  let ⟨h1, h2, _, _⟩ := C.blt hx; si_rev C.K h1 h2 hs h
theorem u_izip (C : Sc g T k W N sc fb X) {e f : Expr} {c d : CE} {p pos tpos : Pos} {elts : List Expr} {kk : Nat} (hx : bltB sc "zip" = true) (h : SB g O H0 xi W T X e c) (h2 : SB g O H0 xi W T X f d) (hs : notStar e = true) (hs2 : notStar f = true) : SI g O H0 xi W T X (.Tuple elts kk tpos) (.Call (.Name "zip" p) [e, f] [] pos) (.zip c d) :=
  let ⟨b1, b2, _, _⟩ := C.blt hx; si_zip C.K b1 b2 hs hs2 h h2
theorem u_ir1 (C : Sc g T k W N sc fb X) {tg e : Expr} {c : CE} {p pos : Pos} (hx : bltB sc "range" = true) (h : SE g O H0 xi W T X e c) (hs : notStar e = true) : SI g O H0 xi W T X tg (.Call (.Name "range" p) [e] [] pos) (.rng (.cst (.int 0)) c) :=
  let ⟨b1, b2, _, _⟩ := C.blt hx; si_rng1 b1 b2 hs h
theorem u_ir2 (C : Sc g T k W N sc fb X) {tg e f : Expr} {c d : CE} {p pos : Pos} (hx : bltB sc "range" = true) (h : SE g O H0 xi W T X e c) (h2 : SE g O H0 xi W T X f d) (hs : notStar e = true) (hs2 : notStar f = true) : SI g O H0 xi W T X tg (.Call (.Name "range" p) [e, f] [] pos) (.rng c d) :=
  let ⟨b1, b2, _, _⟩ := C.blt hx; si_rng2 b1 b2 hs hs2 h h2
/-! ### targets -/
theorem u_gn (C : Sc g T k W N sc fb X) (i : Nat) {x : Str} {p : Pos} (h : wrB N sc fb i x = true) : PG X (.Name x p) (rG g O H0 xi (.nm i)) :=
  let ⟨h1, h2, h3⟩ := C.wr h; sg_name C.nd h1 h2 h3
theorem u_gsn : PGs X [] (rGs g O H0 xi []) := sgs_nil
theorem u_gsc (C : Sc g T k W N sc fb X) (i : Nat) {is : List Nat} {x : Str} {es : List Expr} {p : Pos} (h : wrB N sc fb i x = true) (hr : PGs X es (rGs g O H0 xi is)) : PGs X (.Name x p :: es) (rGs g O H0 xi (i :: is)) :=
  let ⟨h1, h2, h3⟩ := C.wr h; sgs_cons C.nd h1 h2 h3 hr
theorem u_gt (C : Sc g T k W N sc fb X) (hot : T.hot = false) {es : List Expr} {is : List Nat} {kk : Nat} {p : Pos} (h : PGs X es (rGs g O H0 xi is)) (hl : es.length = is.length) (hs : es.all notStar = true) : PG X (.Tuple es kk p) (rG g O H0 xi (.tp is)) :=
  sg_tup C.K (C.md.cold hot).1 h hl hs
/-! ### comprehensions -/
/-- a block's context -/
theorem Sc.blk (C : Sc g T k W N sc fb X) (hot : T.hot = false) (s : Shared) (H : Hp) (scope : Scope) (Cc : Addr) (cl : List (Str × Addr)) (fp : List Addr) : Sc g T k WF N (relS scope sc) (fun x => scope.names.lookup x == some .cell) (X.blk s H scope (compEnvC scope cl Cc X.env) fp) where
  N := C.N
  sc := by rw [← C.sc]; rfl
  of := ⟨C.of.P, C.of.w, C.of.K, C.of.mg, C.of.base⟩
  md := ⟨fun _ => C.md.cold hot, fun h => (by rw [hot] at h; cases h)⟩
  tk := fun _ _ ⟨_, _, _, _, _, _, _, _, _, _, _, _, _, _, _, _, z⟩ => z
  po := PassesOwn.never
  fn := fun _ h => h
  nd := C.nd
  pf := C.pf
  fs := C.fs
  fh := C.fh
theorem Sc.blkH (C : Sc g T k W N sc fb X) (hot : T.hot = true) (s : Shared) (H : Hp) (scope : Scope) (Cc : Addr) (cl : List (Str × Addr)) (fp : List Addr) : Sc g T k WF N (relS scope sc) (fun x => scope.names.lookup x == some .cell) (blkH X s H scope (compEnvC scope cl Cc X.env) fp) where
  N := C.N
  sc := by rw [← C.sc]; rfl
  of := ⟨C.of.P, C.of.w, C.of.K, C.of.mg, C.of.base⟩
  md := ⟨fun h => (by rw [hot] at h; cases h), fun _ => ⟨blkH_hot (C.md.hot hot).1, (C.md.hot hot).2⟩⟩
  tk := fun _ _ ⟨_, _, _, _, _, _, _, _, _, _, _, _, _, _, _, _, z⟩ => z
  po := PassesOwn.never
  fn := fun _ h => h
  nd := C.nd
  pf := C.pf
  fs := C.fs
  fh := C.fh
/-- the block's names -/
def blkB (N : List Str) (sc scope : Scope) (own : List (Str × Nat)) : Bool :=
  (match scope.kind with | .function => true | _ => false) && (scope.names.all fun y => scope.names.lookup y.1 == some y.2) && (own.all fun p => N[p.2]? == some p.1) &&
  (scope.names.all fun y => match y.2 with
    | .free => (match sc.names.lookup y.1 with | some .cell => true | some .free => true | _ => false)
    | .local => (own.map (·.1)).contains y.1 || !N.contains y.1
    | .cell => (own.map (·.1)).contains y.1 || !N.contains y.1
    | _ => true)
theorem blkB_is {N : List Str} {sc scope : Scope} {own : List (Str × Nat)} (h : blkB N sc scope own = true) : BlkOk N sc scope own := by
  unfold blkB at h
  simp only [Bool.and_eq_true, List.all_eq_true] at h
  obtain ⟨⟨⟨h1, h2⟩, h3⟩, h4⟩ := h
  refine ⟨?_, fun y hy => by simpa using h2 y hy, fun p hp => by simpa using h3 p hp, fun y hy e => ?_, fun y hy e => ?_⟩
  · split at h1
    · assumption
    · cases h1
  · have := h4 y hy
    rw [e] at this
    simp only at this
    split at this <;> first | (rename_i z; exact .inl z) | (rename_i z; exact .inr z) | cases this
  · have := h4 y hy
    rcases e with e | e <;> rw [e] at this <;> simp only [Bool.or_eq_true, Bool.not_eq_true'] at this
    · exact this.imp (fun z => by simpa using z) fun z => by simpa using z
    · exact this.imp (fun z => by simpa using z) fun z => by simpa using z
abbrev BlkG (g : Cfg) (H0 : Hp) (xi : Option XI) (T : Tb) (k : Nat) (N : List Str) (sc scope : Scope) (tg : Expr) (ct : Tgt) : Prop := ∀ (O : Addr → Prop) (Y : Cx), Sc g T k WF N (relS scope sc) (fun x => scope.names.lookup x == some .cell) Y → PG Y tg (rG g O H0 xi ct)
abbrev BlkT (g : Cfg) (H0 : Hp) (xi : Option XI) (T : Tb) (k : Nat) (N : List Str) (sc scope : Scope) (ifs : List Expr) (cd : CT) : Prop := ∀ (O : Addr → Prop) (Y : Cx), Sc g T k WF N (relS scope sc) (fun x => scope.names.lookup x == some .cell) Y → PTs Y ifs (rT g O H0 xi WF (evT T cd))
abbrev BlkE (g : Cfg) (H0 : Hp) (xi : Option XI) (T : Tb) (k : Nat) (N : List Str) (sc scope : Scope) (elt : Expr) (ce : CE) : Prop := ∀ (O : Addr → Prop) (Y : Cx), Sc g T k WF N (relS scope sc) (fun x => scope.names.lookup x == some .cell) Y → SE g O H0 xi WF T Y elt ce
theorem u_ifn (O : Addr → Prop) {Y : Cx} : PTs Y [] (rT g O H0 xi WF (evT T .yes)) := ⟨fun pins s σ H Q I ⟨ρ, J, q⟩ => pts_nil.run pins s σ H Q I (q H (Same.refl H))⟩
theorem u_if1 {O : Addr → Prop} {Y : Cx} {e : Expr} {c : CT} (h : ST' g O H0 xi WF T Y e c) : PTs Y [e] (rT g O H0 xi WF (evT T c)) := pts_one h
theorem u_comp (C : Sc g T k W N sc fb X) {tg it elt : Expr} {ifs : List Expr} {scope : Scope} {own : List (Str × Nat)} {pos : Pos} {ct : Tgt} {ci : CI} {cd : CT} {ce : CE} (hr : itHot ci = false) (hb : blkB N sc scope own = true) (how : own.map (·.2) = ct.slots) (hs : ∀ x, foldedSetIterable it X.env x = pure x)
    (hi : SI g O H0 xi W T X tg it ci) (hg : T.hot = false → BlkG g H0 xi T k N sc scope tg ct) (ht : BlkT g H0 xi T k N sc scope ifs cd) (he : BlkE g H0 xi T k N sc scope elt ce) : SE g O H0 xi W T X (.ListComp elt [⟨tg, it, ifs, 0⟩] scope pos) (.cmp ct ci cd ce) := by
  cases hot : T.hot with
  | true =>
    exact PE.by' PE.stk fun σ H Q ⟨ρ, I, q⟩ => by
      simp only [evE] at q
      rw [if_pos (by rw [hot, hr]; rfl)] at q
      exact q
  | false =>
    exact s_comp (fun _ => (C.md.cold hot).1) (fun h => by rw [hot] at h; cases h) C.nd hi (by rw [C.N, C.sc]; exact blkB_is hb) how
      (fun O s H Cc cl fp => hg hot O _ (C.blk hot s H scope Cc cl fp)) (fun O s H Cc cl fp => ht O _ (C.blk hot s H scope Cc cl fp)) (fun O s H Cc cl fp => he O _ (C.blk hot s H scope Cc cl fp)) hs
/-- over range(n): also where an exception is handled -/
theorem u_compR (C : Sc g T k W N sc fb X) {tg a elt : Expr} {ifs : List Expr} {scope : Scope} {own : List (Str × Nat)} {p2 pos2 pos : Pos} {ct : Tgt} {ca : CE} {cd : CT} {ce : CE} (hb : blkB N sc scope own = true) (how : own.map (·.2) = ct.slots) (hrg : bltB sc "range" = true) (hst : notStar a = true)
    (ha : SE g O H0 xi W T X a ca) (hg : BlkG g H0 xi T k N sc scope tg ct) (ht : BlkT g H0 xi T k N sc scope ifs cd) (he : BlkE g H0 xi T k N sc scope elt ce) :
    SE g O H0 xi W T X (.ListComp elt [⟨tg, .Call (.Name "range" p2) [a] [] pos2, ifs, 0⟩] scope pos) (.cmp ct (.rng (.cst (.int 0)) ca) cd ce) := by
  have ok : BlkOk X.N X.env.scope scope own := by rw [C.N, C.sc]; exact blkB_is hb
  cases hot : T.hot with
  | false =>
    exact s_comp (fun _ => (C.md.cold hot).1) (fun h => by rw [hot] at h; cases h) C.nd (u_ir1 C hrg ha hst) ok how
      (fun O s H Cc cl fp => hg O _ (C.blk hot s H scope Cc cl fp)) (fun O s H Cc cl fp => ht O _ (C.blk hot s H scope Cc cl fp)) (fun O s H Cc cl fp => he O _ (C.blk hot s H scope Cc cl fp)) (fun _ => rfl)
  | true =>
    obtain ⟨b1, b2, _, _⟩ := C.blt hrg
    have hi : L2H.PIH X tg (.Call (.Name "range" p2) [a] [] pos2) (iRng1 (tCons (rE g O H0 xi W (evE T ca)) tNil)) := L2H.pi_range1H b1 b2 (pa_cons ha pa_nil (star_cons hst)) (star_cons hst)
    exact PE.by' (pe_lcH (gt := xG fun O => rG g O H0 xi ct) (tt := xT fun O => rT g O H0 xi WF (evT T cd)) (te := xE fun O => rE g O H0 xi WF (evE T ce)) (C.md.hot hot).1 C.nd hi ok
      (fun s H Cc cl fp => ⟨fun pins s' σ' H' v u Q I r ⟨O, q⟩ => (hg O _ (C.blkH hot s H scope Cc cl fp)).run pins s' σ' H' v u Q I r q⟩)
      (fun s H Cc cl fp => ⟨fun pins s' σ' H' Q I ⟨O, q⟩ => (ht O _ (C.blkH hot s H scope Cc cl fp)).run pins s' σ' H' Q I q⟩)
      (fun s H Cc cl fp => ⟨fun pins s' σ' H' Q I ⟨O, q⟩ => (he O _ (C.blkH hot s H scope Cc cl fp)).run pins s' σ' H' Q I q⟩) (fun _ => rfl)) fun σ H Q q => by
        obtain ⟨ρ, I, z⟩ := s_cmpL (tg := tg) (it := .Call (.Name "range" p2) [a] [] pos2) (elt := elt) (ifs := ifs) (scope := scope) how (by rw [hot]; rfl) σ H Q q
        refine ⟨ρ, I, ?_⟩
        simp only [evI, evE, ok_bind] at z
        exact LdG.bindE z fun x v H1 hx s1 r1 q1 => by
          cases x <;> try (exact q1.elim)
          rename_i j
          cases r1
          simp only at q1
          by_cases hk : (rngOk 0 j && decide ((j - 0).toNat ≤ 16777216)) = true
          · rw [if_pos hk] at q1
            have hb := rngOk_is hk
            exact ⟨j, rfl, hb.2.2.1, hb.2.2.2.1, by have := q1 H1 (Same.refl H1) (Itr 0 (j - 0).toNat) (wk_rng hb.2.2.2.2); simpa using this⟩
          · rw [if_neg hk] at q1
            exact q1.elim
/-- a text's signs -/
abbrev L (x : Str) : List Nat := x.cps.toList
def txtB (x : List Nat) : Bool := decide (x.length ≤ 16777216) && x.all fun c => decide (c < 1114112)
theorem u_str {x : Str} {j pos} (h : txtB (L x) = true) : SE g O H0 xi W T X (.Constant (.str x) j pos) (.cst (.str (L x))) := by
  unfold txtB at h
  simp only [Bool.and_eq_true, List.all_eq_true, decide_eq_true_eq] at h
  exact s_str h
end
end Ev
end
section
set_option Elab.async false
set_option linter.all false
set_option maxRecDepth 100000
set_option maxHeartbeats 2000000
namespace Ev
open PySem PySem.Spec PyProof.Rows L2
/-- a def's own frame -/
def Fr2 (X : Cx) : Prop := X.stack = X.env :: X.outer ∧ X.env.frame = some X.env.locals
section
variable {g : Cfg} {O : Addr → Prop} {H0 : Hp} {xi : Option XI} {W : WX} {X : Cx} {T : Tb} {k : Nat} {N : List Str} {sc : Scope} {fb : Str → Bool}
theorem u_set (C : Sc g T k W N sc fb X) (i : Nat) {x : Str} {e : Expr} {c : CE} {pos pos' : Pos} (hw : wrB N sc fb i x = true) (hs : swapsWith e (some (.Name x pos')) pos.line X.env = pure false) (h : SE g O H0 xi W T X e c) : SS g O H0 xi W T X (.Assign [.Name x pos'] e pos) (.set i c) :=
  let ⟨h1, h2, h3⟩ := C.wr hw; ss_set C.nd h1 h2 h3 h hs
theorem u_setOwn (C : Sc g T k W N sc fb X) (i : Nat) {x : Str} {e : Expr} {c : CE} {pos pos' : Pos} (hw : wrB N sc fb i x = true) (hs : swapsWith e (some (.Name x pos')) pos.line X.env = pure false) (h : SF g O H0 xi W T X e c) : SS g O H0 xi W T X (.Assign [.Name x pos'] e pos) (.setOwn i c) :=
  let ⟨h1, h2, h3⟩ := C.wr hw; ss_setOwn C.nd h1 (fun I => by rw [I.len]; exact (List.getElem?_eq_some_iff.mp h1).1) h2 h3 h hs
theorem u_setC (C : Sc g T k W N sc fb X) (i : Nat) {y : Str} {py spos : Pos} {tg it elt : Expr} {ifs : List Expr} {scope : Scope} {own : List (Str × Nat)} {pos : Pos} {ct : Tgt} {ci : CI} {cd : CT} {ce : CE} (hw : wrB N sc (fun _ => false) i y = true) (hk : (match sc.kind with | .function => true | _ => false) = true) (hl : (py.line == pos.line) = true)
    (hn : (scope.names.any fun (n, k) => n == y && (k == .local || k == .cell)) = false) (hb : blkB N sc scope own = true) (how : own.map (·.2) = ct.slots) (hs : ∀ x, foldedSetIterable it X.env x = pure x)
    (hi : SI g O H0 xi W T X tg it ci) (hg : T.hot = false → BlkG g H0 xi T k N sc scope tg ct) (ht : BlkT g H0 xi T k N sc scope ifs cd) (he : BlkE g H0 xi T k N sc scope elt ce) : SS g O H0 xi W T X (.Assign [.Name y py] (.ListComp elt [⟨tg, it, ifs, 0⟩] scope pos) spos) (.setC i (.cmp ct ci cd ce)) := by
  cases hot : T.hot with
  | true =>
    exact PS.by' ps_never fun D σ H ⟨ρ, I, q⟩ => by
      simp only [evS] at q
      rw [if_pos hot] at q
      exact q
  | false =>
    obtain ⟨h1, h2, h3⟩ := wrB_is hw
    have hloc : sc.names.lookup y = some .local := h3.elim (fun z => by cases z) id
    have hkind : X.env.scope.kind = .function := by
      rw [C.sc]
      split at hk
      · assumption
      · cases hk
    have hsw := sw_true (elt := elt) (gs := [⟨tg, it, ifs, 0⟩]) (scope := scope) (pos := pos) (py := py) (y := y) (l := spos.line) (env := X.env) hkind (by rw [C.sc]; exact hloc) hl hn
    exact PS.by' (ps_setLc (g := xG fun O => rG g O H0 xi ct) (tt := xT fun O => rT g O H0 xi WF (evT T cd)) (te := xE fun O => rE g O H0 xi WF (evE T ce)) (C.md.cold hot).1 C.nd (by rw [C.N]; exact h1) (by rw [C.sc]; exact hloc) hsw hi (by rw [C.N, C.sc]; exact blkB_is hb)
      (fun s H Cc cl fp => ⟨fun pins s' σ' H' v u Q I r ⟨O, q⟩ => (hg hot O _ (C.blk hot s H scope Cc cl fp)).run pins s' σ' H' v u Q I r q⟩)
      (fun s H Cc cl fp => ⟨fun pins s' σ' H' Q I ⟨O, q⟩ => (ht O _ (C.blk hot s H scope Cc cl fp)).run pins s' σ' H' Q I q⟩)
      (fun s H Cc cl fp => ⟨fun pins s' σ' H' Q I ⟨O, q⟩ => (he O _ (C.blk hot s H scope Cc cl fp)).run pins s' σ' H' Q I q⟩) hs) fun D σ H ⟨ρ, I, q⟩ =>
      s_cmpL (tg := tg) (it := it) (elt := elt) (ifs := ifs) (scope := scope) how (by rw [hot]; rfl) σ H _ ⟨ρ, I, by
        simp only [evS] at q
        rw [if_neg (by rw [hot]; decide)] at q
        exact LdS.onE I q fun a v H1 _ s r q1 => q1 _ H1 ((I.more s).set r) (Adv.of (Same.refl H1) (own_set (fun _ h => nomatch h) I.len))⟩
theorem sw_cell {elt : Expr} {gs : List Comprehension} {scope : Scope} {pos py : Pos} {y : Str} {l : Nat} {env : Env} (h : env.kindOf y = some .cell) : swapsWith (.ListComp elt gs scope pos) (some (.Name y py)) l env = pure false := by
  unfold swapsWith
  have e : (env.kindOf y == some NameKind.local) = false := by rw [h]; decide
  show (pure (env.blockKind == .function && env.kindOf y == some .local && py.line == pos.line && !(scope.names.any fun (n, k) => n == y && (k == .local || k == .cell))) : Sem Bool) = pure false
  rw [e]
  simp
/-- name = [..], the name a cell -/
theorem u_setD (C : Sc g T k W N sc fb X) (i : Nat) {y : Str} {py spos : Pos} {elt : Expr} {gs : List Comprehension} {scope : Scope} {pos : Pos} {c : CE} (hw : wrB N sc fb i y = true) (hc : (sc.names.lookup y == some .cell) = true) (h : SE g O H0 xi W T X (.ListComp elt gs scope pos) c) : SS g O H0 xi W T X (.Assign [.Name y py] (.ListComp elt gs scope pos) spos) (.set i c) :=
  u_set C i hw (sw_cell (by unfold Env.kindOf; rw [C.sc]; simpa using hc)) h
theorem u_unp (C : Sc g T k W N sc fb X) {es : List Expr} {is : List Nat} {kk : Nat} {e : Expr} {c : CE} {p pos : Pos} (hg : PGs X es (rGs g O H0 xi is)) (hl : es.length = is.length) (hst : es.all notStar = true) (h : SE g O H0 xi W T X e c) (hs : swapsWithSole [.Tuple es kk p] e pos.line X.env = pure false) (hw : swappedStores [.Tuple es kk p] e X.env = pure none)
    (h1 : (assignEach [.Tuple es kk p] X.env).map (·.2) = [assign (.Tuple es kk p) X.env]) : SS g O H0 xi W T X (.Assign [.Tuple es kk p] e pos) (.unp is c) :=
  ss_unp (fun hot => u_gt C hot hg hl hst) h hs hw h1
theorem u_app (C : Sc g T k W N sc fb X) (i : Nat) {x : Str} {e : Expr} {c : CE} {pos cpos apos p : Pos} (hr : rdB N sc i x = true) (h : SE g O H0 xi W T X e c) (hst : notStar e = true) (hbase : attributeBase (.Name x p) "append" X.env (eval (.Name x p) X.env) = eval (.Name x p) X.env)
    (hfew : ((backTo cpos (starEach [e] X.env)).all (fun x => !x.1) && (backToKw cpos (keywordEach [] X.env)).all (fun x => x.1.isSome) && decide ([e].length + ([] : List Keyword).length + (if ([] : List Keyword).isEmpty then 0 else 1) < 30)) = true)
    (hline : (apos.endLine == cpos.line) = true) (hs : swapsWith (.Call (.Attribute (.Name x p) "append" apos) [e] [] cpos) none pos.line X.env = pure false) : SS g O H0 xi W T X (.Expr (.Call (.Attribute (.Name x p) "append" apos) [e] [] cpos) pos) (.app i c) :=
  let ⟨h1, h2, h3, h4⟩ := C.rd hr; ss_app h1 h2 h3 h4 h hst hbase hfew hline hs
theorem u_frz (hO : Trk O H0) {is : List Nat} {st : Stmt} {c : CS} {r : List Stmt} {cs : List CS} (h : SSs g O H0 xi W T X (st :: r) (c :: cs)) : SSs g O H0 xi W T X (st :: r) (.frz is :: c :: cs) := ss_frz hO h
theorem u_retO (C : Sc g T k W N sc fb X) (hO : Trk O H0) (i : Nat) {x : Str} {pos p : Pos} (hr : rdB N sc i x = true) : SS g O H0 xi W T X (.Return (some (.Name x p)) pos) (.retO i) :=
  let ⟨h1, h2, h3, h4⟩ := C.rd hr; ss_retO hO h1 h2 h3 h4
theorem u_for (C : Sc g T k W N sc fb X) {tg e : Expr} {ct : Tgt} {ci : CI} {b : List Stmt} {cb : List CS} {pos : Pos} (hs : ∀ x, foldedSetIterable e X.env x = pure x) (hi : SI g O H0 xi W T X tg e ci) (hg : T.hot = false → PG X tg (rG g O H0 xi ct)) (hb : SSs g O H0 xi W T X b cb) : SS g O H0 xi W T X (.For tg e b [] pos) (.for ct ci cb) :=
  ss_for (fun hh => (C.md.cold hh).1) C.po hi hg hb hs
theorem u_whl (C : Sc g T k W N sc fb X) {e : Expr} {c : CT} {b : List Stmt} {cb : List CS} {pos : Pos} (h : ST' g O H0 xi W T X e c) (hb : SSs g O H0 xi W T X b cb) : SS g O H0 xi W T X (.While e b [] pos) (.whl c cb) := ss_whl C.po h hb
theorem u_raise (C : Sc g T (k + 2) W N sc fb X) (c : Nat) {x : Str} {e : Expr} {es : List Expr} {cs : List CE} {p pos pos' : Pos} (hc : c < g.nC) (hp : (g.cPs c).isEmpty = false) (hx : g.cNm c = x) (hg : glB sc x = true) (hl : cs.length = (g.cFl c).length) (hl2 : cs.length ≤ 1000) (hs : (e :: es).all notStar = true) (ha : SA g O H0 xi W T X (e :: es) cs) :
    SS g O H0 xi W T X (.Raise (some (.Call (.Name x p) (e :: es) [] pos)) none pos') (.raise c cs) := by
  subst hx
  obtain ⟨h1, h2, _⟩ := C.gl hg
  exact ss_raise (k := 1) (C.pf.exn c hc hp) C.of ⟨fun h => ⟨(C.md.cold h).1, (C.md.cold h).2.mono (by omega)⟩, fun h => ⟨(C.md.hot h).1, (C.md.hot h).2.mono (by omega)⟩⟩ C.tk h1 ha hs hl hl2 h2
/-! ### try -/
theorem Sc.tr (C : Sc g T k W N sc fb X) (hot : T.hot = false) {W' : WX} {pn : List (Addr × Obj)} {xe : Value → Shared → Prop} (tk : L2N.Takes (X.tr pn xe) W') (po : PassesOwn (model X.prog X.w) X.A X.env xe) : Sc g T k W' N sc fb (X.tr pn xe) where
  N := C.N
  sc := C.sc
  of := ⟨C.of.P, C.of.w, C.of.K, C.of.mg, C.of.base⟩
  md := ⟨fun _ => C.md.cold hot, fun h => (by rw [hot] at h; cases h)⟩
  tk := tk
  po := po
  fn := C.fn
  nd := C.nd
  pf := C.pf
  fs := C.fs
  fh := C.fh
theorem Sc.suite (C : Sc g T k W N sc fb X) (hot : T.hot = false) {a : Addr} {oe : Obj} {cls : Value} {d : Option Addr} {pn : List (Addr × Obj)} (z : L2N.Zn cls d oe) (hv : ∃ vs, oe.data = .fields vs) : Sc g T.heat k WF N sc fb (X.suite a ((a, oe) :: pn)) where
  N := C.N
  sc := C.sc
  of := ⟨C.of.P, C.of.w, C.of.K, C.of.mg, C.of.base⟩
  md := ⟨fun h => (by cases h), fun _ => ⟨⟨(a, oe), ⟨rfl, let ⟨vs, e⟩ := hv; ⟨vs, e, z.2.2 vs e⟩⟩, List.mem_cons_self⟩, let r := (C.md.cold hot).2; ⟨r.dp, r.un⟩⟩⟩
  tk := fun _ _ ⟨_, _, _, _, _, _, _, _, _, _, _, _, _, _, _, _, z⟩ => z
  po := PassesOwn.never
  fn := C.fn
  nd := C.nd
  pf := C.pf
  fs := C.fh
  fh := C.fh
theorem u_hn : HdsMix X [] (([] : List CH).map (hdOf g O H0 T)) := .nil
theorem Sc.names (C : Sc g T k W N sc fb X) {c : Nat} {x : Str} (hc : c < g.nC) (hx : g.cNm c = x) (hg : glB sc x = true) : Names X x (.ref (g.cAd c)) := by
  subst hx
  obtain ⟨h1, h2, _⟩ := C.gl hg
  exact ⟨h1, h2, .inl (by rw [C.of.mg]; exact C.pf.cmg c hc)⟩
theorem u_hp (C : Sc g T k W N sc fb X) (hot : T.hot = false) (c : Nat) {x : Str} {st : Stmt} {sts : List Stmt} {b : List CS} {np hp : Pos} {hds : List ExceptHandler} {hs : List CH} (hc : c < g.nC) (hx : g.cNm c = x) (hg : glB sc x = true)
    (su : ∀ Y, Sc g T.heat k WF N sc fb Y → SSs g O H0 none WF T.heat Y (st :: sts) b) (r : HdsMix X hds (hs.map (hdOf g O H0 T))) : HdsMix X (.ExceptHandler (some (.Name x np)) none (st :: sts) hp :: hds) ((CH.mk c none b :: hs).map (hdOf g O H0 T)) :=
  .plain (C.names hc hx hg) (fun a oe cls d pn z hv => PSs.by' (su _ (C.suite hot z hv)) fun D σ H q => q) r
theorem u_has (C : Sc g T k W N sc fb X) (hot : T.hot = false) (c i : Nat) {x y : Str} {st : Stmt} {sts : List Stmt} {b : List CS} {np hp : Pos} {hds : List ExceptHandler} {hs : List CH} (hc : c < g.nC) (hx : g.cNm c = x) (hg : glB sc x = true) (hw : wrB N sc (fun _ => false) i y = true)
    (su : ∀ (x : XI) Y, T.sub x.c c = true → XiAt g Y x → Sc g T.heat k WF N sc fb Y → SSs g O H0 (some x) WF T.heat Y (st :: sts) b) (r : HdsMix X hds (hs.map (hdOf g O H0 T))) : HdsMix X (.ExceptHandler (some (.Name x np)) (some y) (st :: sts) hp :: hds) ((CH.mk c (some i) b :: hs).map (hdOf g O H0 T)) := by
  obtain ⟨h1, h2, h3⟩ := wrB_is hw
  have hloc : sc.names.lookup y = some .local := h3.elim (fun z => by cases z) id
  refine .named (C.names hc hx hg) (by rw [C.N]; exact h1) (by unfold Env.kindOf; rw [C.sc]; exact hloc) (fun a oe cls d pn z hv => ⟨fun pins s σ H D I ⟨c', fs, dd, e1, e2, e3, q⟩ => ?_⟩) r
  subst e1 e2
  exact (su ⟨a, c', fs, dd⟩ _ e3 ⟨oe, hv.choose, List.mem_cons_self, ⟨z.1, z.2.1⟩, hv.choose_spec⟩ (C.suite hot z hv)).run pins s σ H D I q
theorem u_try (C : Sc g T k W N sc fb X) (fr : Fr2 X) {body : List Stmt} {hd : ExceptHandler} {hds : List ExceptHandler} {b : List CS} {hs : List CH} {pos : Pos} (hb : ∀ W' Y, Sc g T k W' N sc fb Y → SSs g O H0 none W' T Y body b) (hm : T.hot = false → HdsMix X (hd :: hds) (hs.map (hdOf g O H0 T))) :
    SS g O H0 none W T X (.Try body (hd :: hds) [] [] pos) (.try b hs) := by
  cases hot : T.hot with
  | true =>
    exact PS.by' ps_never fun D σ H ⟨ρ, I, q⟩ => by
      simp only [evS] at q
      rw [if_pos hot] at q
      exact q
  | false => exact ss_try C.K C.pf.em fr.1 fr.2 C.nd C.tk (fun W' pn xe tk po => hb W' _ (C.tr hot tk po)) (hm hot)
/-! ### the caught exception -/
theorem u_exf (C : Sc g T k W N sc fb X) {x : XI} (hx : XiAt g X x) (i j : Nat) {nm fn : Str} {pos p : Pos} (hj : (g.cFl x.c)[j]? = some fn) (h : rdB N sc i nm = true) (hb : attributeBase (.Name nm p) fn X.env (eval (.Name nm p) X.env) = eval (.Name nm p) X.env) : SE g O H0 (some x) W T X (.Attribute (.Name nm p) fn pos) (.exf i j) :=
  let ⟨h1, h2, h3, h4⟩ := C.rd h; s_exf C.K hx (C.pf.exf x.c) hj h1 h2 h3 h4 hb
theorem u_exi (C : Sc g T k W N sc fb X) {x : XI} (hx : XiAt g X x) (i c : Nat) {nm cn : Str} {p p1 p2 pos : Pos} (hc : c < g.nC) (hcn : g.cNm c = cn) (h : rdB N sc i nm = true) (hb : bltB sc "isinstance" = true) (hg : glB sc cn = true) : SE g O H0 (some x) W T X (.Call (.Name "isinstance" p) [.Name nm p1, .Name cn p2] [] pos) (.exi i c) := by
  subst hcn
  obtain ⟨h1, h2, h3, h4⟩ := C.rd h
  obtain ⟨b1, b2, _, _⟩ := C.blt hb
  obtain ⟨g1, g2, _⟩ := C.gl hg
  exact s_exi C.K C.of.mg hx (C.pf.exf x.c) (C.pf.kit x.c c) h1 h2 h3 h4 b1 b2 g1 (C.pf.cmg c hc) g2
end
end Ev
end
section
set_option Elab.async false
set_option linter.all false
set_option maxRecDepth 100000
set_option maxHeartbeats 2000000
/-! defs -/
namespace Ev
open PySem PySem.Spec PyProof.Rows L2
section
variable {g : Cfg} {P : Pg}
theorem setup_get {ds : List D} {n i : Nat} {s : Slot} (h : (ds.map Slot.val ++ List.replicate n .none)[i]? = some s) : (∃ d, ds[i]? = some d ∧ s = .val d) ∨ s = .none := by
  by_cases hi : i < ds.length
  · rw [List.getElem?_append_left (by simpa using hi), List.getElem?_map] at h
    rw [List.getElem?_eq_getElem hi] at h ⊢
    simp only [Option.map_some, Option.some.injEq] at h
    exact .inl ⟨_, rfl, h.symm⟩
  · rw [List.getElem?_append_right (by simpa using hi), List.getElem?_replicate] at h
    split at h
    · cases h; exact .inr rfl
    · cases h
/-- at the entry -/
theorem entry {O : Addr → Prop} {H : Hp} {vs : List V} {ds : List D} {N : List Str} {n : Nat} (t : Trk O H) (r : Reps g.K O H vs ds) (hN : N.length = ds.length + n) : EI g O H none (L2.start N vs) H (ds.map Slot.val ++ List.replicate n .none) ∧ ∀ a, Own O (L2.start N vs) (ds.map Slot.val ++ List.replicate n .none) a → O a := by
  have no : ∀ {i : Nat} {xs : List D}, (ds.map Slot.val ++ List.replicate n .none)[i]? = some (.own xs) → False := fun {i xs} e => by
    rcases setup_get e with ⟨d, _, h⟩ | h <;> cases h
  have ow : ∀ a, Own O (L2.start N vs) (ds.map Slot.val ++ List.replicate n .none) a → O a := by
    rintro a (z | ⟨i, xs, z, _⟩)
    · exact z
    · exact (no z).elim
  have hl := r.length
  refine ⟨⟨by unfold L2.start; simp; omega, Same.refl H, t, fun i d e => ?_, fun i xs e => (no e).elim, fun i _ xs _ _ e _ _ _ => (no e).elim, fun i c fs e => ?_⟩, ow⟩
  · rcases setup_get e with ⟨d', h1, h2⟩ | h
    · cases h2
      obtain ⟨v, e1, e2⟩ := r.getD h1
      refine ⟨v, ?_, e2.less ow⟩
      have hi : i < vs.length := (List.getElem?_eq_some_iff.mp e1).1
      unfold L2.start
      rw [List.getElem?_append_left (by simpa using hi), List.getElem?_map, e1]
      rfl
    · cases h
  · rcases setup_get e with ⟨d', _, h⟩ | h <;> cases h
theorem body_post {hot : Bool} {n j : Nat} {d : Fd} {N : List Str} {vs : List V} {H : Hp} {Q : VK} {E : XK} (hf : P.fn j = some d) (hN : N.length = d.ns) (hle : d.np ≤ d.ns) (h : spF g ⟨hot, P.run (n + 1), P.sub, P.glb⟩ j d.np vs H Q E) :
    ∃ O : Addr → Prop, Trk O H ∧ rS g O H none (fun cls d _ H' => E cls d H') (evSs ⟨hot, P.run n, P.sub, P.glb⟩ d.body) { nx := fun _ H' => Q .non H', rt := Q } (L2.start N vs) H := by
  obtain ⟨hl, O, ds, t, r, q⟩ := h
  have dl : ds.length = d.np := by rw [← r.length, hl]
  obtain ⟨I, ow⟩ := entry (n := d.ns - d.np) (N := N) t r (by omega)
  refine ⟨O, t, _, I, ?_⟩
  have e : P.run (n + 1) hot j ds = (evSs ⟨hot, P.run n, P.sub, P.glb⟩ d.body (ds.map .val ++ List.replicate (d.ns - d.np) .none)).fin := by
    simp only [Pg.run, hf]
    rw [if_pos dl]
  have q' : (match P.run (n + 1) hot j ds with
    | .ok d => ∀ v H', Same H H' → Rep g.K O H' v d → Q v H'
    | .err c fs => ∀ d H', Same H H' → XF g O H' c fs d → E (.ref (g.cAd c)) (some d) H'
    | .stuck => False) := q
  rw [e] at q'
  cases ev : evSs ⟨hot, P.run n, P.sub, P.glb⟩ d.body (ds.map .val ++ List.replicate (d.ns - d.np) .none) with
  | nx ρ => rw [ev] at q'; exact fun σ' H' I' _ => q' .non H' I'.same .non
  | ret x => rw [ev] at q'; exact q'
  | err c fs ρ => rw [ev] at q'; exact fun d σ' H' I' _ x => q' d H' I'.same (x.less fun _ z => own_O z)
  | bk ρ => rw [ev] at q'; exact q'.elim
  | ct ρ => rw [ev] at q'; exact q'.elim
  | stuck => rw [ev] at q'; exact q'.elim
/-- what is static of a def -/
structure DefB (g : Cfg) (P : Pg) (j : Nat) : Prop where
  ex : ∃ (d : Fd) (x qual : Str) (params : Arguments) (body : List Stmt) (sc : Scope) (N : List Str), P.fn j = some d ∧ N.length = d.ns ∧ d.np ≤ d.ns ∧ (g.fPs j).length = d.np ∧ FunD g.K x qual params body sc [] [] (g.fAd j) (g.fFd j) ∧ FnScope N (g.fPs j) sc ∧
    ∀ (T : Tb) (k : Nat) (W : WX) (X : Cx) (O : Addr → Prop) (H0 : Hp), T.sub = P.sub → T.glb = P.glb → Trk O H0 → Sc g T (k + 2) W N sc (fun _ => true) X → Fr2 X → SSs g O H0 none W T X body d.body
  mg : g.mg (g.fNm j) = some (.ref (g.fAd j))
  bd : Binds g.K (g.fFd j) (g.fPs j) []
abbrev tbl (P : Pg) (n : Nat) (hot : Bool) : Tb := ⟨hot, P.run n, P.sub, P.glb⟩
abbrev Facts (g : Cfg) (P : Pg) (n : Nat) : Prop := ∀ (hot : Bool) (j : Nat), j < g.nF → FnF g (tbl P n hot) (n + 2) j (g.fNm j) (g.fPs j)
theorem len_spF {T : Tb} {j np : Nat} : ∀ vs H Q E, spF g T j np vs H Q E → vs.length = np := fun _ _ _ _ h => h.1
theorem facts0 (hd : ∀ j, j < g.nF → DefB g P j) : Facts g P 0 := fun hot j hj => by
  obtain ⟨d, x, qual, params, body, sc, N, h1, h2, h3, h4, F, S, der⟩ := (hd j hj).ex
  have nev : ∀ {np vs H Q E}, ¬ spF g (tbl P 0 hot) j np vs H Q E := fun {np vs H Q E} ⟨_, _, _, _, _, z⟩ => z
  refine ⟨fun _ => F.ok S len_spF fun _ _ _ _ _ _ _ _ _ h => (nev h).elim, fun _ => ?_, (hd j hj).mg, F.kp, (hd j hj).bd⟩
  obtain ⟨oc, od, dV, kV, doc, pm, an, cdv, ct, osl, e, lk, hcd, _, _⟩ := F.ex
  rw [e] at lk ⊢
  exact L2H.fn_ofH lk hcd S len_spF fun _ _ _ _ _ _ _ _ _ _ h => (nev h).elim
theorem factsS (pf : Pf g P.sub) (hd : ∀ j, j < g.nF → DefB g P j) {n : Nat} (ih : Facts g P n) : Facts g P (n + 1) := fun hot j hj => by
  obtain ⟨d, x, qual, params, body, sc, N, h1, h2, h3, h4, F, S, der⟩ := (hd j hj).ex
  have sp : ∀ {vs H Q E}, spF g (tbl P (n + 1) hot) j (g.fPs j).length vs H Q E → spF g (tbl P (n + 1) hot) j d.np vs H Q E := fun {vs H Q E} h => by rw [← h4]; exact h
  refine ⟨fun hh => F.ok S len_spF fun cdv A outer s H vs Q E hr h => ?_, fun hh => ?_, (hd j hj).mg, F.kp, (hd j hj).bd⟩
  · subst hh
    obtain ⟨O, t, q⟩ := body_post h1 h2 h3 (sp h)
    refine ⟨_, der (tbl P n false) n (fun cls d _ H' => E cls d H') _ O H rfl rfl t ?_ ⟨rfl, rfl⟩, q⟩
    exact { N := rfl, sc := rfl, of := ⟨rfl, rfl, rfl, rfl, rfl⟩, md := ⟨fun _ => ⟨rfl, hr⟩, fun z => (by cases z)⟩, tk := L2N.takes_of rfl rfl rfl rfl, po := PassesOwn.leaving, fn := fun _ _ => rfl, nd := S.nd, pf := pf, fs := fun j hj => ih false j hj, fh := fun j hj => ih true j hj }
  · subst hh
    obtain ⟨oc, od, dV, kV, doc, pm, an, cdv, ct, osl, e, lk, hcd, _, _⟩ := F.ex
    rw [e] at lk ⊢
    refine L2H.fn_ofH lk hcd S len_spF fun A outer s H vs Q E p hot1 hr h => ?_
    obtain ⟨O, t, q⟩ := body_post h1 h2 h3 (sp h)
    refine ⟨_, der (tbl P n true) n (fun cls d _ H' => E cls d H') _ O H rfl rfl t ?_ ⟨rfl, rfl⟩, q⟩
    exact { N := rfl, sc := rfl, of := ⟨rfl, rfl, rfl, rfl, rfl⟩, md := ⟨fun z => (by cases z), fun _ => ⟨⟨p, hot1, List.mem_cons_self⟩, hr⟩⟩, tk := L2N.takes_of rfl rfl rfl rfl, po := PassesOwn.leaving, fn := fun _ _ => rfl, nd := S.nd, pf := pf, fs := fun j hj => ih true j hj, fh := fun j hj => ih true j hj }
theorem facts (pf : Pf g P.sub) (hd : ∀ j, j < g.nF → DefB g P j) : ∀ n, Facts g P n
  | 0 => facts0 hd
  | n + 1 => factsS pf hd (facts pf hd n)
end
end Ev
end
section
set_option Elab.async false
set_option linter.all false
set_option maxRecDepth 100000
set_option maxHeartbeats 2000000
/-! a module's written part: what is checked of it once, what follows -/
namespace Ev
open PySem PySem.Spec PyProof.Rows L2
/-! ### binding -/
theorem kbn_of {K : PySem.W.Frag} {x qual : Str} {params : Arguments} {body : List Stmt} {scope : Scope} {f : Addr} {fd : FuncData} {ps ks : List Str} {n : Nat} {perm : List Nat} (F : FunD K x qual params body scope [] [] f fd)
    (hp : ∀ i ∈ perm, i < n + ks.length)
    (h : ∀ (kV doc pm : Value) (an : Option Addr) (cdv ct : Value) (us ws : List Value), us.length = n → ws.length = ks.length → bindArgs (PySem.W.fnOf x qual params body scope .none kV doc pm an cdv ct) ⟨us, ks.zip ws⟩ = pure (ps.zip (perm.map fun i => (us ++ ws).getD i .none))) :
    KBn K fd ps n ks (fun us ws => perm.map fun i => (us ++ ws).getD i .none) (fun vs zs => perm.map fun i => (vs ++ zs).getD i .non) := by
  obtain ⟨oc, od, dV, kV, doc, pm, an, cdv, ct, osl, rfl, lk, hcd, hD, hK⟩ := F.ex
  rcases hD with ⟨_, rfl⟩ | ⟨e, _⟩
  · refine ⟨fun s us ws X l1 l2 => .of_eq (h kV doc pm an cdv ct us ws l1 l2), fun {vs us zs ws} r1 r2 => ?_⟩
    have ra := Vals.append r1 r2
    clear hp h lk
    induction perm with
    | nil => exact .nil
    | cons i perm ih =>
      refine .cons ?_ ih
      cases e : (vs ++ zs)[i]? with
      | some v =>
        obtain ⟨u, hu, ru⟩ := ra.get e
        show RelV ((vs ++ zs).getD i .non) ((us ++ ws).getD i .none)
        rw [List.getD_eq_getElem?_getD, List.getD_eq_getElem?_getD, e, hu]
        exact ru
      | none =>
        have hu := ra.none_of e
        show RelV ((vs ++ zs).getD i .non) ((us ++ ws).getD i .none)
        rw [List.getD_eq_getElem?_getD, List.getD_eq_getElem?_getD, e, hu]
        rfl
  · exact absurd rfl e
/-! ### what a module is made of -/
structure FnI where
  name : Str
  top : Nat
  ps : List Str
  deriving Inhabited
structure ClI where
  name : Str
  top : Nat
  ini : Nat
  fl : List Str
  ps : List Str
  deriving Inhabited
structure Md' where
  prog : Program
  fns : List FnI
  cls : List ClI
  sub : List (List Bool)
section
variable (M : Md')
def Md'.stm (i : Nat) : Stmt := M.prog.main.body.getD i (.Pass ⟨0, 0, 0, 0⟩)
def Md'.ix (c : Nat) : Nat := if c < M.cls.length then c else 0
def Md'.cl (c : Nat) : ClI := M.cls.getD (M.ix c) default
def Md'.subB (c k : Nat) : Bool := (M.sub.getD (M.ix c) []).getD (M.ix k) false
def fdAt (K : PySem.W.Frag) (a : Addr) : FuncData := match K.lookup a with
  | some ⟨_, _, .func fd, _⟩ => fd
  | _ => default
def Md'.cfg (K : PySem.W.Frag) (w : World) (mg : Str → Option Value) (base : Heap) : Cfg where
  P := M.prog
  w := w
  K := K
  mg := mg
  base := base
  fNm j := (M.fns.getD j default).name
  fPs j := (M.fns.getD j default).ps
  fAd j := He.ga K (M.fns.getD j default).name
  fFd j := fdAt K (He.ga K (M.fns.getD j default).name)
  cNm c := (M.cl c).name
  cFl c := (M.cl c).fl
  cAd c := He.ga K (M.cl c).name
  cIn c := He.ma K (He.ga K (M.cl c).name) "__init__"
  cFd c := fdAt K (He.ma K (He.ga K (M.cl c).name) "__init__")
  cPs c := (M.cl c).ps
  nF := M.fns.length
  nC := M.cls.length
def Md'.fnD (f : FnI) : He.DefD := ⟨(f.name, none), f.name, f.name, defArgs (M.stm f.top), defBody (M.stm f.top), defScope (M.stm f.top), [], []⟩
def Md'.clD (c : ClI) : He.DefD := ⟨(c.name, some "__init__"), "__init__", c.name ++ ".__init__", defArgs (L2.inClass (M.stm c.top) c.ini), defBody (L2.inClass (M.stm c.top) c.ini), defScope (L2.inClass (M.stm c.top) c.ini), [], []⟩
def Md'.defs : List He.DefD := M.fns.map M.fnD ++ (M.cls.filter fun c => !c.ps.isEmpty).map M.clD
/-! ### checks -/
def askB (K : PySem.W.Frag) (D : Addr) : Bool :=
  decide (PySem.W.findIn K (.ref D) "__getattribute__" = some (some (.builtin "BaseException.__getattribute__"))) && decide (PySem.W.findIn K (.ref D) "__getattr__" = some none) && decide (PySem.W.subIn K (.ref D) (.type "BaseException") = some true) && (PySem.W.clsIn K D).isSome &&
  decide (PySem.W.findIn K (.ref D) "__class__" = some (some (.builtin "object.__class__"))) && decide (PySem.W.specialIn K (.builtin "object.__class__") "__get__" = some (some (.builtin "getset_descriptor.__get__"))) && decide (PySem.W.takesIn K (.builtin "object.__class__") = some true) && decide (PySem.W.mroIn K D (.type "object") = some true)
theorem askB_ok {K : PySem.W.Frag} {D : Addr} (h : askB K D = true) : PySem.W.ClsAsk K D := by
  unfold askB at h
  simp only [Bool.and_eq_true, decide_eq_true_eq] at h
  obtain ⟨⟨⟨⟨⟨⟨⟨h1, h2⟩, h3⟩, h4⟩, h5⟩, h6⟩, h7⟩, h8⟩ := h
  exact ⟨h1, h2, h3, h4, h5, h6, h7, h8⟩
def exfB (K : PySem.W.Frag) (c : ClI) : Bool := askB K (He.ga K c.name) && PySem.W.hasDictIn K (He.ga K c.name) && c.fl.all fun n => decide (PySem.W.findIn K (.ref (He.ga K c.name)) n = some none)
def oexB (K : PySem.W.Frag) (C : Addr) : Bool := (match K.lookup C with
  | some ⟨.type t, _, .cls cd, sl⟩ => (match cd.mro, sl.toList with
    | .ref C' :: bm, [_, _, _, _, some (.builtin n), _] => t == "type" && C' == C && n == "ValueError.__new__" && !cd.hasDel && cd.hasDict && PySem.HandSPX.refsVE bm
    | _, _ => false)
  | _ => false) && decide (PySem.W.findIn K (.ref C) "__setattr__" = some (some (.builtin "object.__setattr__"))) && decide (PySem.W.subIn K (.ref C) (.type "BaseException") = some true) && decide (PySem.W.typeIn K (.ref C) = some (.type "type")) && PySem.W.keepIn K (.ref C)
theorem oexB_ok {K : PySem.W.Frag} {C : Addr} (h : oexB K C = true) : OexC K C := by
  unfold oexB at h
  simp only [Bool.and_eq_true, decide_eq_true_eq] at h
  obtain ⟨⟨⟨⟨h1, h2⟩, h3⟩, h4⟩, h5⟩ := h
  refine ⟨?_, h2, h3, h4, h5⟩
  split at h1
  · rename_i t dd cd sl ho
    split at h1
    · rename_i C' bm k0 k1 k2 k3 n k5 hm hs
      simp only [Bool.and_eq_true, beq_iff_eq, Bool.not_eq_true'] at h1
      obtain ⟨⟨⟨⟨⟨rfl, rfl⟩, rfl⟩, hdel⟩, hdict⟩, hr⟩ := h1
      obtain ⟨nm, bs, mro, ns, qn, hd, sn, sub, ab, col, del⟩ := cd
      dsimp only at hm hdel hdict
      subst hm hdel hdict
      have hsl : sl = #[k0, k1, k2, k3, some (.builtin "ValueError.__new__"), k5] := by
        obtain ⟨l⟩ := sl
        simp only at hs
        rw [hs]
      subst hsl
      exact ⟨nm, qn, ns, bs, bm, sn, sub, ab, col, dd, k0, k1, k2, k3, k5, ho, hr⟩
    · cases h1
  · cases h1
def exnB (K : PySem.W.Frag) (c : ClI) : Bool := oexB K (He.ga K c.name) && He.eqO (PySem.W.findIn K (.ref (He.ga K c.name)) "__init__") (some (some (.ref (He.ma K (He.ga K c.name) "__init__")))) && decide (PySem.W.typeIn K (.ref (He.ma K (He.ga K c.name) "__init__")) = some (.type "function"))
def Md'.chk (K : PySem.W.Frag) : Bool :=
  (M.fns.all fun f => (He.Fa.glo f.name).ok K) && (M.cls.all fun c => (He.Fa.glo c.name).ok K) && (bnL.all fun x => (He.Fa.free x).ok K) && (M.cls.all fun c => exfB K c) && (M.cls.all fun c => c.ps.isEmpty || exnB K c) &&
  ((List.range M.cls.length).all fun c => (List.range M.cls.length).all fun k => decide (PySem.W.exmOne K (.ref (He.ga K (M.cl c).name)) (.ref (He.ga K (M.cl k).name)) = some (M.subB c k)) && decide (PySem.W.kitOne K (.ref (He.ga K (M.cl c).name)) (.ref (He.ga K (M.cl k).name)) = some (M.subB c k))) &&
  M.defs.all fun d => d.ok K
abbrev AlV : Type := Bool × List He.FnW
def Md'.obsK (K : PySem.W.Frag) : AlV := (M.chk K, M.defs.map fun d => He.fnW K d.at_)
def Md'.val : AlV := (true, M.defs.map He.DefD.val)
def Md'.obsG (n : Nat) (gt : Addr → Option Obj) : AlV := M.obsK (He.frG gt (He.asD gt n))
def Md'.hook (n : Nat) : PySem.W.Hook where
  α := AlV
  obs := fun s => M.obsG n s.heap.get?
  val := fun _ => M.val
  says := fun _ h => ∃ K : PySem.W.Frag, K.In h ∧ M.obsK K = M.val
  of := fun _ _ e => ⟨_, He.frG_in, e⟩
  keeps := fun _ _ _ ⟨K, hK, c⟩ k => ⟨K, PySem.W.Frag.In.keeps hK k, c⟩
theorem Md'.obsG_eq {n : Nat} {gt : Addr → Option Obj} {s : Shared} (h : ∀ a, gt a = s.heap.get? a) : M.obsG n gt = (M.hook n).obs s := by
  have e : gt = s.heap.get? := funext h
  rw [e] <;> rfl
/-! ### what follows -/
theorem and7 {a b c d e f g : Bool} (h : (a && b && c && d && e && f && g) = true) : a = true ∧ b = true ∧ c = true ∧ d = true ∧ e = true ∧ f = true ∧ g = true := by
  simp only [Bool.and_eq_true] at h
  obtain ⟨⟨⟨⟨⟨⟨h1, h2⟩, h3⟩, h4⟩, h5⟩, h6⟩, h7⟩ := h
  exact ⟨h1, h2, h3, h4, h5, h6, h7⟩
variable {M} {K : PySem.W.Frag} {w : World} {mg : Str → Option Value} {base h : Heap}
theorem Md'.ix_lt (ne : M.cls ≠ []) (c : Nat) : M.ix c < M.cls.length := by
  unfold Md'.ix
  split
  · assumption
  · exact List.length_pos_iff.mpr ne
theorem Md'.ix_ix (ne : M.cls ≠ []) (c : Nat) : M.ix (M.ix c) = M.ix c := by
  have h1 := M.ix_lt ne c
  have h2 : M.ix (M.ix c) = if M.ix c < M.cls.length then M.ix c else 0 := rfl
  rw [h2, if_pos h1]
theorem Md'.cl_ix (ne : M.cls ≠ []) (c : Nat) : M.cl (M.ix c) = M.cl c := by unfold Md'.cl; rw [M.ix_ix ne]
theorem Md'.sub_ix (ne : M.cls ≠ []) (c k : Nat) : M.subB (M.ix c) (M.ix k) = M.subB c k := by unfold Md'.subB; rw [M.ix_ix ne, M.ix_ix ne]
theorem Md'.cl_mem (ne : M.cls ≠ []) (c : Nat) : M.cl c ∈ M.cls := by
  have := M.ix_lt ne c
  unfold Md'.cl
  rw [List.getD_eq_getElem?_getD, List.getElem?_eq_getElem this]
  exact List.getElem_mem this
theorem chk_of (c : M.obsK K = M.val) : M.chk K = true := congrArg (fun z : AlV => z.1) c
theorem funD_of (c : M.obsK K = M.val) {d : He.DefD} (hd : d ∈ M.defs) : FunD K d.name d.qual d.params d.body d.scope (d.dvs K) (d.kws K) (He.fAd K d.at_) (fdAt K (He.fAd K d.at_)) := by
  have e : M.defs.map (fun d => He.fnW K d.at_) = M.defs.map He.DefD.val := congrArg (fun z : AlV => z.2) c
  have e1 : He.fnW K d.at_ = d.val := by
    obtain ⟨i, hi, rfl⟩ := List.getElem_of_mem hd
    have e2 : (M.defs.map fun d => He.fnW K d.at_)[i]? = (M.defs.map He.DefD.val)[i]? := by rw [e]
    rw [List.getElem?_map, List.getElem?_map, List.getElem?_eq_getElem hi] at e2
    exact Option.some.inj e2
  obtain ⟨fd, F⟩ := He.DefD.funD e1 (List.all_eq_true.mp (and7 (chk_of c)).2.2.2.2.2.2 d hd)
  obtain ⟨oc, od, dV, kV, doc, pm, an, cdv, ct, osl, hfd, lk, hcd, hD, hKw⟩ := id F.ex
  have ef : fdAt K (He.fAd K d.at_) = fd := by unfold fdAt; rw [lk]
  rw [ef]
  exact F
/-- the j-th def -/
theorem Md'.fn_at (c : M.obsK K = M.val) {j : Nat} {f : FnI} (hj : M.fns[j]? = some f) : FunD K f.name f.name (defArgs (M.stm f.top)) (defBody (M.stm f.top)) (defScope (M.stm f.top)) [] [] (He.ga K f.name) (fdAt K (He.ga K f.name)) :=
  funD_of c (d := M.fnD f) (List.mem_append_left _ (List.mem_map.mpr ⟨f, List.mem_of_getElem? hj, rfl⟩))
/-- the __init__ of the c-th class -/
theorem Md'.in_at (c : M.obsK K = M.val) {x : ClI} (hx : x ∈ M.cls) (hp : x.ps.isEmpty = false) : FunD K "__init__" (x.name ++ ".__init__") (defArgs (L2.inClass (M.stm x.top) x.ini)) (defBody (L2.inClass (M.stm x.top) x.ini)) (defScope (L2.inClass (M.stm x.top) x.ini)) [] [] (He.ma K (He.ga K x.name) "__init__") (fdAt K (He.ma K (He.ga K x.name) "__init__")) :=
  funD_of c (d := M.clD x) (List.mem_append_right _ (List.mem_map.mpr ⟨x, List.mem_filter.mpr ⟨hx, by rw [hp]; rfl⟩, rfl⟩))
theorem Md'.exF (c : M.obsK K = M.val) {x : ClI} (hx : x ∈ M.cls) : PySem.W.ClsAsk K (He.ga K x.name) ∧ PySem.W.hasDictIn K (He.ga K x.name) = true ∧ ∀ n ∈ x.fl, PySem.W.findIn K (.ref (He.ga K x.name)) n = some none := by
  have z := List.all_eq_true.mp (and7 (chk_of c)).2.2.2.1 x hx
  unfold exfB at z
  simp only [Bool.and_eq_true, List.all_eq_true, decide_eq_true_eq] at z
  exact ⟨askB_ok z.1.1, z.1.2, z.2⟩
/-- the facts of the written part; an exception's __init__ apart -/
theorem Md'.pf (c : M.obsK K = M.val) (ne : M.cls ≠ []) (X : K.In h) (G : h.Ns mainGlobals mg)
    (ini : ∀ i, i < M.cls.length → (M.cl i).ps.isEmpty = false → OexC K (He.ga K (M.cl i).name) → FnOk M.prog w K mg base (L2N.CX M.prog w) 1 (He.ma K (He.ga K (M.cl i).name) "__init__") (fdAt K (He.ma K (He.ga K (M.cl i).name) "__init__")) (M.cl i).ps (spI (M.cfg K w mg base) i) ∧
      Binds K (fdAt K (He.ma K (He.ga K (M.cl i).name) "__init__")) (M.cl i).ps [] ∧ (M.cl i).fl.Nodup) : Pf (M.cfg K w mg base) M.subB := by
  obtain ⟨c1, c2, c3, c4, c5, c6, c7⟩ := and7 (chk_of c)
  have pair : ∀ a b, PySem.W.exmOne K (.ref (He.ga K (M.cl a).name)) (.ref (He.ga K (M.cl b).name)) = some (M.subB a b) ∧ PySem.W.kitOne K (.ref (He.ga K (M.cl a).name)) (.ref (He.ga K (M.cl b).name)) = some (M.subB a b) := fun a b => by
    have z := List.all_eq_true.mp (List.all_eq_true.mp c6 (M.ix a) (List.mem_range.mpr (M.ix_lt ne a))) (M.ix b) (List.mem_range.mpr (M.ix_lt ne b))
    simp only [Bool.and_eq_true, decide_eq_true_eq] at z
    rw [M.cl_ix ne, M.cl_ix ne, M.sub_ix ne] at z
    exact z
  refine ⟨fun x hx => ?_, fun a b => (pair a b).1, fun a b => (pair a b).2, fun a => ?_, fun a _ => ?_, fun a ha hp => ?_⟩
  · exact He.free_ok X G (List.all_eq_true.mp c3 x (List.contains_iff_mem.mp hx))
  · obtain ⟨z1, z2, z3⟩ := M.exF c (M.cl_mem ne a)
    exact ⟨z1, z2, z3⟩
  · exact He.glo_ok X G (List.all_eq_true.mp c2 _ (M.cl_mem ne a))
  · have z := List.all_eq_true.mp c5 _ (M.cl_mem ne a)
    have hp' : (M.cl a).ps.isEmpty = false := hp
    rw [hp', Bool.false_or] at z
    unfold exnB at z
    simp only [Bool.and_eq_true, decide_eq_true_eq] at z
    have T := oexB_ok z.1.1
    obtain ⟨ok, bd, nd⟩ := ini a ha hp' T
    exact ⟨T, He.eqO_ok z.1.2, z.2, ok, bd, He.glo_ok X G (List.all_eq_true.mp c2 _ (M.cl_mem ne a)), nd⟩
/-- a def's static part -/
theorem Md'.defB {P : Pg} (c : M.obsK K = M.val) (X : K.In h) (G : h.Ns mainGlobals mg) {j : Nat} {f : FnI} (hj : M.fns[j]? = some f) {d : Fd} {N : List Str} (h1 : P.fn j = some d) (h2 : N.length = d.ns) (h3 : d.np ≤ d.ns) (h4 : f.ps.length = d.np) (S : FnScope N f.ps (defScope (M.stm f.top)))
    (bd : ∀ (kV doc pm : Value) (an : Option Addr) (cdv ct : Value) (us : List Value), us.length = f.ps.length → bindArgs (PySem.W.fnOf f.name f.name (defArgs (M.stm f.top)) (defBody (M.stm f.top)) (defScope (M.stm f.top)) .none kV doc pm an cdv ct) ⟨us, []⟩ = pure (f.ps.zip us))
    (der : ∀ (T : Tb) (k : Nat) (W : WX) (X : Cx) (O : Addr → Prop) (H0 : Hp), T.sub = P.sub → T.glb = P.glb → Trk O H0 → Sc (M.cfg K w mg base) T (k + 2) W N (defScope (M.stm f.top)) (fun _ => true) X → Fr2 X → SSs (M.cfg K w mg base) O H0 none W T X (defBody (M.stm f.top)) d.body) : DefB (M.cfg K w mg base) P j := by
  have e : M.fns.getD j default = f := by rw [List.getD_eq_getElem?_getD, hj]; rfl
  have F := M.fn_at c hj
  have eN : (M.cfg K w mg base).fNm j = f.name := by show (M.fns.getD j default).name = _; rw [e]
  have eP : (M.cfg K w mg base).fPs j = f.ps := by show (M.fns.getD j default).ps = _; rw [e]
  have eA : (M.cfg K w mg base).fAd j = He.ga K f.name := by show He.ga K (M.fns.getD j default).name = _; rw [e]
  have eF : (M.cfg K w mg base).fFd j = fdAt K (He.ga K f.name) := by show fdAt K (He.ga K (M.fns.getD j default).name) = _; rw [e]
  refine ⟨⟨d, f.name, f.name, defArgs (M.stm f.top), defBody (M.stm f.top), defScope (M.stm f.top), N, h1, h2, h3, by rw [eP]; exact h4, by rw [eA, eF]; exact F, by rw [eP]; exact S, der⟩, ?_, ?_⟩
  · rw [eN, eA]
    exact He.glo_ok X G (List.all_eq_true.mp (and7 (chk_of c)).1 f (List.mem_of_getElem? hj))
  · rw [eF, eP]
    exact F.bindsN bd
end
end Ev
end
section
set_option Elab.async false
set_option linter.all false
set_option maxRecDepth 100000
set_option maxHeartbeats 2000000
/-! an exception's __init__; the law's end -/
namespace Ev
open PySem PySem.Spec PyProof.Rows L2
theorem spI_len {g : Cfg} {c : Nat} : ∀ vs H Q E, spI g c vs H Q E → vs.length = (g.cFl c).length + 1 := fun vs H Q E ⟨a, ws, e, l, _⟩ => by rw [e, List.length_cons, l]
def nmOk (x : Str) : Bool := !(x == ("__debug__" : Str)) && !(x == ("__classdict__" : Str))
theorem nmOk_is {x : Str} (h : nmOk x = true) : (x == ("__debug__" : Str)) = false ∧ (x == ("__classdict__" : Str)) = false := by
  unfold nmOk at h
  rw [Bool.and_eq_true] at h
  exact ⟨by simpa using h.1, by simpa using h.2⟩
theorem ini2 {g : Cfg} {x qual : Str} {params : Arguments} {body : List Stmt} {sc : Scope} {f : Addr} {fd : FuncData} {c : Nat} {f0 f1 self p0 p1 : Str} {q0 q1 q2 q3 q4 q5 q6 q7 : Pos} (F : FunD g.K x qual params body sc [] [] f fd) (S : FnScope [self, p0, p1] [self, p0, p1] sc)
    (hb : body = [.Assign [.Attribute (.Name self q0) f0 q1] (.Name p0 q2) q3, .Assign [.Attribute (.Name self q4) f1 q5] (.Name p1 q6) q7]) (hf : g.cFl c = [f0, f1]) (T : OexC g.K (g.cAd c)) (no : ∀ n ∈ g.cFl c, PySem.W.findIn g.K (.ref (g.cAd c)) n = some none)
    (k0 : nmOk self = true) (k1 : nmOk p0 = true) (k2 : nmOk p1 = true) : FnOk g.P g.w g.K g.mg g.base (L2N.CX g.P g.w) 1 f fd [self, p0, p1] (spI g c) := by
  refine F.ok S (fun vs H Q E h => by rw [spI_len vs H Q E h, hf]; rfl) fun cdv A outer s H vs Q E hr h => ⟨_, ?_, init2_sp hf rfl T (no _ (by rw [hf]; simp)) (no _ (by rw [hf]; simp)) h⟩
  rw [hb]
  have vis : ∀ y ∈ [self, p0, p1], Vis sc y := fun y hy => (S.par y hy).elim .inl fun z => .inr (.inl z)
  exact init2 rfl (vis _ (by simp)) (vis _ (by simp)) (vis _ (by simp)) (nmOk_is k0).1 (nmOk_is k1).1 (nmOk_is k2).1 (nmOk_is k0).2 (nmOk_is k1).2 (nmOk_is k2).2
/-- what leaves a def, told of any world -/
def CXw (P : Program) : CXT := fun outer H s E u s' => ∃ w, L2N.CX P w outer H s E u s'
theorem fnOk_cx {P : Program} {w : World} {K : PySem.W.Frag} {mg : Str → Option Value} {base : Heap} {k : Nat} {f : Addr} {fd : FuncData} {ps : List Str} {sp : Sp} (F : FnOk P w K mg base (L2N.CX P w) k f fd ps sp) : FnOk P w K mg base (CXw P) k f fd ps sp :=
  ⟨F.len, fun A outer s H args us vs Q E hr e0 hb r h => codeAny_mono (F.run A outer s H args us vs Q E hr e0 hb r h) fun r s' z => by
    cases r with
    | error e => exact ⟨w, z⟩
    | ok fl => cases fl <;> exact z⟩
theorem CXw_no {P : Program} (H : Hp) (s : Shared) (e : Value) (s' : Shared) : CXw P [] H s (fun _ _ _ => False) e s' → False := fun ⟨_, _, _, _, _, _, _, _, _, _, _, _, _, z⟩ => z
/-- the script, as data -/
theorem rep_script {K : PySem.W.Frag} {H : Hp} {a : Addr} {ns : List Int} (hO : Only H) (hS : SqL K H a (ns.map V.int)) (hl : ns.length ≤ 63) : Rep K (fun _ => False) H (.ref a) (.frl (ns.map .int)) := by
  refine .frl (by simp; omega) ?_ (Reps.ints ns)
  rcases hS with (h | ⟨o, h⟩) | h
  · rcases hO a with z | ⟨o, xs, z⟩
    · rw [h] at z; cases z
    · rw [h] at z; cases z
  · exact .inl ⟨o, h⟩
  · exact .inr h
theorem law_sp {g : Cfg} {P : Pg} {n j : Nat} {K : PySem.W.Frag} (hK : g.K = K) {H : Hp} {a : Addr} {ns : List Int} (hO : Only H) (hS : SqL K H a (ns.map V.int)) (hl : ns.length ≤ 63) (e : P.run n false j [.frl (ns.map .int)] = .ok (.bl true)) :
    spF g (tbl P n false) j 1 [.ref a] H (fun v _ => v = .bl true) (fun _ _ _ => False) := by
  refine ⟨rfl, fun _ => False, [.frl (ns.map .int)], fun _ z => z.elim, by rw [hK]; exact .cons (rep_script hO hS hl) .nil, ?_⟩
  have e' : (tbl P n false).call (tbl P n false).hot j [.frl (ns.map .int)] = .ok (.bl true) := e
  rw [e']
  intro v H' _ r
  cases r
  rfl
end Ev
end
section
set_option Elab.async false
set_option linter.all false
set_option maxRecDepth 100000
/-! the evaluator's equations, each for all of its arguments -/
namespace Ev
section
variable {T : Tb} {ρ : Rho}
theorem q_var {i} : evE T (.var i) ρ = slotE ρ[i]? := rfl
theorem q_cst {d} : evE T (.cst d) ρ = .ok d := rfl
theorem q_bin {o a b} : evE T (.bin o a b) ρ = (bor a ρ (evE T a ρ) >>= fun x => bor b ρ (evE T b ρ) >>= fun y => binD o x y) := rfl
theorem q_un {o a} : evE T (.un o a) ρ = (bor a ρ (evE T a ρ) >>= fun x => unD o x) := rfl
theorem q_and {a b} : evE T (.and a b) ρ = (evE T a ρ >>= fun x => x.truth >>= fun t => if t then evE T b ρ else pure x) := rfl
theorem q_or {a b} : evE T (.or a b) ρ = (evE T a ρ >>= fun x => x.truth >>= fun t => if t then pure x else evE T b ρ) := rfl
theorem q_ife {c a b} : evE T (.ife c a b) ρ = (evT T c ρ >>= fun x => if x then evE T a ρ else evE T b ρ) := rfl
theorem q_tup {es} : evE T (.tup es) ρ = (evEs T es ρ >>= fun ds => pure (.tup ds)) := rfl
theorem q_lst {es} : evE T (.lst es) ρ = (evEs T es ρ >>= fun ds => pure (.lst ds)) := rfl
theorem q_idx {a i} : evE T (.idx a i) ρ = (bor a ρ (evE T a ρ) >>= fun x => evE T i ρ >>= fun y => idxD x y) := rfl
theorem q_slc {a lo hi} : evE T (.slc a lo hi) ρ = (bor a ρ (evE T a ρ) >>= fun x => evO T lo ρ >>= fun l => evO T hi ρ >>= fun h => slcD x l h) := rfl
theorem q_call {f es} : evE T (.call f es) ρ = (evBs T es ρ >>= fun ds => guardL (es.any (ownArg ρ)) (T.call T.hot f ds)) := rfl
theorem q_callk {f es ks perm} : evE T (.callk f es ks perm) ρ = if T.hot then .stuck else (evBs T es ρ >>= fun ds => evBs T ks ρ >>= fun qs => pick (ds ++ qs) perm >>= fun ps => guardL ((es ++ ks).any (ownArg ρ)) (T.call T.hot f ps)) := rfl
theorem q_bi {b es} : evE T (.bi b es) ρ = if T.hot && !b.hot then .stuck else (evBs T es ρ >>= fun ds => biD b ds) := rfl
theorem q_isi {a t} : evE T (.isi a t) ρ = (bor a ρ (evE T a ρ) >>= fun x => isiD x t) := rfl
theorem q_rngL {tu lo hi} : evE T (.rngL tu lo hi) ρ = if T.hot then .stuck else (evE T lo ρ >>= fun x => evE T hi ρ >>= fun y => match x, y with
    | .int i, .int j => if rngOk i j && decide ((j - i).toNat ≤ 16777216) then pure (if tu then .tup (Ev.rngL i j) else .lst (Ev.rngL i j)) else .stuck
    | _, _ => .stuck) := rfl
theorem q_rngO {lo hi} : evE T (.rngO lo hi) ρ = (evE T lo ρ >>= fun x => evE T hi ρ >>= fun y => match x, y with
    | .int i, .int j => pure (.rng i j)
    | _, _ => .stuck) := rfl
/-- one turn of a comprehension -/
def turnQ (T : Tb) (tg : Tgt) (cd : CT) (elt : CE) (ρ : Rho) (d : D) : R (Option D) := bindT tg d ρ >>= fun ρ1 => evT T cd ρ1 >>= fun c => if c then (evE T elt ρ1 >>= fun y => pure (some y)) else pure none
theorem q_cmp {tg it cd elt} : evE T (.cmp tg it cd elt) ρ = if T.hot && !itHot it then .stuck else if tgOwn ρ tg then .stuck else (evI T it ρ >>= fun xs => compL (turnQ T tg cd elt ρ) xs >>= fun ys => pure (.lst ys)) := rfl
theorem q_exf {i j} : evE T (.exf i j) ρ = (match ρ[i]? with
    | some (.exc _ fs) => (match fs[j]? with
      | some d => .ok d
      | none => .stuck)
    | _ => .stuck) := rfl
theorem q_exi {i c} : evE T (.exi i c) ρ = (match ρ[i]? with
    | some (.exc k _) => .ok (.bl (T.sub k c))
    | _ => .stuck) := rfl
theorem q_bv {i r} : bor (.var i) ρ r = slotB ρ[i]? := rfl
theorem t_yes : evT T .yes ρ = .ok true := rfl
theorem t_and {a b} : evT T (.and a b) ρ = (evT T a ρ >>= fun x => if x then evT T b ρ else pure false) := rfl
theorem t_or {a b} : evT T (.or a b) ρ = (evT T a ρ >>= fun x => if x then pure true else evT T b ρ) := rfl
theorem t_not {a} : evT T (.not a) ρ = (evT T a ρ >>= fun x => pure (!x)) := rfl
theorem t_of {e} : evT T (.of e) ρ = (bor e ρ (evE T e ρ) >>= fun x => x.truth) := rfl
theorem o_none : evO T none ρ = .ok none := rfl
theorem o_some {e} : evO T (some e) ρ = (evE T e ρ >>= fun x => match x with
    | .int i => pure (some i)
    | _ => .stuck) := rfl
theorem es_nil : evEs T [] ρ = .ok [] := rfl
theorem es_cons {e es} : evEs T (e :: es) ρ = (evE T e ρ >>= fun x => evEs T es ρ >>= fun xs => pure (x :: xs)) := rfl
theorem bs_nil : evBs T [] ρ = .ok [] := rfl
theorem bs_cons {e es} : evBs T (e :: es) ρ = (bor e ρ (evE T e ρ) >>= fun x => evBs T es ρ >>= fun xs => pure (x :: xs)) := rfl
theorem i_of {e} : evI T (.of e) ρ = (bor e ρ (evE T e ρ) >>= fun x => itemsD x) := rfl
theorem i_rng {lo hi} : evI T (.rng lo hi) ρ = (evE T lo ρ >>= fun x => evE T hi ρ >>= fun y => match x, y with
    | .int i, .int j => if rngOk i j && decide ((j - i).toNat ≤ 16777216) then pure (Ev.rngL i j) else .stuck
    | _, _ => .stuck) := rfl
theorem i_enum {e} : evI T (.enum e) ρ = (bor e ρ (evE T e ρ) >>= fun x => seqD x >>= fun xs => pure (xs.mapIdx fun i d => .tup [.int i, d])) := rfl
theorem i_zip {a b} : evI T (.zip a b) ρ = (bor a ρ (evE T a ρ) >>= fun x => bor b ρ (evE T b ρ) >>= fun y => zipD x y) := rfl
theorem i_rev {e} : evI T (.rev e) ρ = (bor e ρ (evE T e ρ) >>= fun x => seqD x >>= fun xs => pure xs.reverse) := rfl
theorem s_pass' : evS T .pass ρ = .nx ρ := rfl
theorem s_set' {i e} : evS T (.set i e) ρ = (evE T e ρ).on ρ fun d => .nx (ρ.set i (.val d)) := rfl
theorem s_setC' {i e} : evS T (.setC i e) ρ = if T.hot then .stuck else (evE T e ρ).on ρ fun d => .nx (ρ.set i (.val d)) := rfl
theorem s_setOwn' {i e} : evS T (.setOwn i e) ρ = (evE T e ρ).on ρ fun d => match d with
    | .lst xs => .nx (ρ.set i (.own xs))
    | _ => .stuck := rfl
theorem s_unp' {is e} : evS T (.unp is e) ρ = if T.hot then .stuck else (evE T e ρ).on ρ fun d => (bindT (.tp is) d ρ).on ρ fun ρ1 => .nx ρ1 := rfl
theorem s_app' {i e} : evS T (.app i e) ρ = match ρ[i]? with
    | some (.own xs) => (evE T e ρ).on ρ fun d => if xs.length < 16777216 then .nx (ρ.set i (.own (xs ++ [d]))) else .stuck
    | _ => .stuck := rfl
theorem s_ex' {e} : evS T (.ex e) ρ = (evE T e ρ).on ρ fun _ => .nx ρ := rfl
theorem s_ret' {e} : evS T (.ret e) ρ = (evE T e ρ).on ρ fun d => .ret d := rfl
theorem s_retO' {i} : evS T (.retO i) ρ = (slotB ρ[i]?).on ρ fun d => .ret d := rfl
theorem s_retN' : evS T .retN ρ = .ret .non := rfl
theorem s_ife' {c a b} : evS T (.ife c a b) ρ = (evT T c ρ).on ρ fun x => if x then evSs T a ρ else evSs T b ρ := rfl
theorem s_for' {tg it b} : evS T (.for tg it b) ρ = if T.hot then .stuck else if ownIt ρ it then .stuck else (evI T it ρ).on ρ fun xs => forL tg (evSs T b) xs ρ := rfl
theorem s_whl' {c b} : evS T (.whl c b) ρ = whlL (evT T c) (evSs T b) WHL ρ := rfl
theorem s_raise' {c es} : evS T (.raise c es) ρ = if T.hot then .stuck else (evEs T es ρ).on ρ fun ds => .err c ds ρ := rfl
theorem s_try' {b hs} : evS T (.try b hs) ρ = if T.hot then .stuck else match evSs T b ρ with
    | .err c fs ρ1 => evH T hs c fs ρ1
    | r => r := rfl
theorem s_brk' : evS T .brk ρ = .bk ρ := rfl
theorem s_cont' : evS T .cont ρ = .ct ρ := rfl
theorem ss_nil' : evSs T [] ρ = .nx ρ := rfl
theorem ss_cons' {s r} : evSs T (s :: r) ρ = (evS T s ρ).andThen (evSs T r) := rfl
theorem h_nil {c fs} : evH T [] c fs ρ = .err c fs ρ := rfl
theorem h_some {k i b r c fs} : evH T (.mk k (some i) b :: r) c fs ρ = if T.sub c k then (evSs T.heat b (ρ.set i (.exc c fs))).wipe i else evH T r c fs ρ := rfl
theorem h_none {k b r c fs} : evH T (.mk k none b :: r) c fs ρ = if T.sub c k then (evSs T.heat b ρ).noErr else evH T r c fs ρ := rfl
theorem nx_to {ρ : Rho} {s r} : (RS.nx ρ).andThen (evSs T (s :: r)) = (evS T s ρ).andThen (evSs T r) := rfl
theorem nx_end {ρ : Rho} : (RS.nx ρ).andThen (evSs T []) = .nx ρ := rfl
end
end Ev
end
section
set_option Elab.async false
set_option linter.all false
set_option maxRecDepth 100000
set_option maxHeartbeats 4000000
namespace Vk02_whole_elders
open PySem PySem.Spec PyProof.Rows L2 Ev
abbrev prog : Program := PySem.Challenge.pw_sincemarks_k02_whole_elders
def fns : List FnI := [⟨"is_integer", 1, ["thing"]⟩, ⟨"is_number", 2, ["thing"]⟩, ⟨"is_natural", 3, ["thing"]⟩, ⟨"is_parent", 5, ["index", "thing"]⟩, ⟨"is_history", 6, ["thing"]⟩, ⟨"is_version", 7, ["history", "thing"]⟩, ⟨"is_later_version", 8, ["history", "thing"]⟩, ⟨"require", 16, ["holds", "name"]⟩, ⟨"many_of", 18, ["history"]⟩, ⟨"parent_of", 19, ["history", "version"]⟩, ⟨"elders_of", 20, ["history", "version"]⟩, ⟨"path_of", 21, ["history", "version"]⟩, ⟨"is_elder", 22, ["history", "one", "other"]⟩, ⟨"meet_of", 23, ["history", "one", "other"]⟩, ⟨"depth_of", 24, ["history", "version"]⟩, ⟨"depth_in", 25, ["history"]⟩, ⟨"lets_history", 27, ["thing"]⟩, ⟨"children_of", 29, ["history", "version"]⟩, ⟨"branch_of", 30, ["history", "version"]⟩, ⟨"leaves_of", 31, ["history"]⟩, ⟨"is_line", 32, ["history"]⟩, ⟨"_law_mixed", 34, ["_law_state"]⟩, ⟨"_law_draws", 35, ["_law_script", "_law_size"]⟩, ⟨"_law_same", 36, ["_law_got", "_law_due"]⟩, ⟨"_law_tree", 37, ["_law_b", "_law_size", "_law_shape"]⟩, ⟨"_law_ups", 38, ["_law_tree_here"]⟩, ⟨"_law_thing", 39, ["_law_b", "_law_tree_here"]⟩, ⟨"_law_fault", 40, ["_law_x"]⟩, ⟨"_law_judged", 41, ["_law_x"]⟩, ⟨"_law_door", 42, ["_law_which", "_law_tree_here", "_law_x", "_law_v"]⟩, ⟨"_law_refusals", 43, ["_law_tree_here", "_law_x", "_law_v"]⟩, ⟨"_law_version", 44, ["_law_tree_here", "_law_ups_here", "_law_v", "_law_named"]⟩, ⟨"_law_pair", 45, ["_law_tree_here", "_law_ups_here", "_law_v", "_law_w", "_law_named"]⟩, ⟨"_law_whole", 46, ["_law_tree_here", "_law_ups_here", "_law_named"]⟩, ⟨"law", 47, ["_law_script"]⟩]
def cls : List ClI := [⟨"MarkError", 10, 0, [], []⟩, ⟨"PaperError", 11, 0, [], []⟩, ⟨"BookError", 12, 0, [], []⟩, ⟨"InvalidPaper", 13, 0, ["word", "at"], ["self", "word", "at"]⟩, ⟨"NotUsable", 14, 0, ["word", "at"], ["self", "word", "at"]⟩]
def sub : List (List Bool) := [[true, false, false, false, false], [true, true, false, false, false], [true, false, true, false, false], [true, true, false, true, false], [true, false, true, false, true]]
def mod : Md' := ⟨prog, fns, cls, sub⟩
def b0 : List CS := [(.ret (.and (.isi (.var 0) .int) (.un .not (.isi (.var 0) .bool))))]
def n0 : List Str := ["thing"]
def b1 : List CS := [(.ret (.and (.call 0 [(.var 0)]) (.bin .ge (.var 0) (.cst (.int 0)))))]
def n1 : List Str := ["thing"]
def b2 : List CS := [(.ret (.and (.call 0 [(.var 0)]) (.bin .ge (.var 0) (.cst (.int 1)))))]
def n2 : List Str := ["thing"]
def b3 : List CS := [(.ret (.and (.call 1 [(.var 1)]) (.bin .le (.var 1) (.var 0))))]
def n3 : List Str := ["index", "thing"]
def b4 : List CS := [(.ife (.not (.of (.isi (.var 0) .tuple))) [(.ret (.cst (.bl false)))] []), (.ret (.bi .all [(.cmp (.tp [1, 2]) (.enum (.var 0)) .yes (.call 3 [(.var 1), (.var 2)]))]))]
def n4 : List Str := ["thing", "index", "parent"]
def b5 : List CS := [(.ret (.and (.call 1 [(.var 1)]) (.bin .le (.var 1) (.bi .len [(.var 0)]))))]
def n5 : List Str := ["history", "thing"]
def b6 : List CS := [(.ret (.and (.call 2 [(.var 1)]) (.bin .le (.var 1) (.bi .len [(.var 0)]))))]
def n6 : List Str := ["history", "thing"]
def b7 : List CS := [(.ife (.not (.of (.var 0))) [(.raise 4 [(.var 1), (.un .neg (.cst (.int 1)))])] [])]
def n7 : List Str := ["holds", "name"]
def b8 : List CS := [(.ret (.bi .len [(.var 0)]))]
def n8 : List Str := ["history"]
def b9 : List CS := [(.ex (.call 7 [(.call 6 [(.var 0), (.var 1)]), (.cst (.str (L "version")))])), (.ret (.idx (.var 0) (.bin .sub (.var 1) (.cst (.int 1)))))]
def n9 : List Str := ["history", "version"]
def b10 : List CS := [(.ex (.call 7 [(.call 5 [(.var 0), (.var 1)]), (.cst (.str (L "version")))])), (.setOwn 2 (.lst [])), (.set 3 (.var 1)), (.whl (.of (.bin .gt (.var 3) (.cst (.int 0)))) [(.set 3 (.idx (.var 0) (.bin .sub (.var 3) (.cst (.int 1))))), (.app 2 (.var 3))]), (.ret (.bi .tuple [(.var 2)]))]
def n10 : List Str := ["history", "version", "elders", "at"]
def b11 : List CS := [(.set 2 (.bin .add (.tup [(.var 1)]) (.call 10 [(.var 0), (.var 1)]))), (.ret (.bi .tuple [(.bi .sorted [(.cmp (.nm 3) (.of (.var 2)) (.of (.bin .gt (.var 3) (.cst (.int 0)))) (.var 3))])]))]
def n11 : List Str := ["history", "version", "upwards", "at"]
def b12 : List CS := [(.ex (.call 7 [(.call 5 [(.var 0), (.var 1)]), (.cst (.str (L "one")))])), (.ex (.call 7 [(.call 5 [(.var 0), (.var 2)]), (.cst (.str (L "other")))])), (.ret (.bin .isin (.var 1) (.call 10 [(.var 0), (.var 2)])))]
def n12 : List Str := ["history", "one", "other"]
def b13 : List CS := [(.ex (.call 7 [(.call 5 [(.var 0), (.var 1)]), (.cst (.str (L "one")))])), (.ex (.call 7 [(.call 5 [(.var 0), (.var 2)]), (.cst (.str (L "other")))])), (.set 3 (.bin .add (.tup [(.var 1)]) (.call 10 [(.var 0), (.var 1)]))), (.set 4 (.bin .add (.tup [(.var 2)]) (.call 10 [(.var 0), (.var 2)]))), (.ret (.bi .max1 [(.cmp (.nm 5) (.of (.var 3)) (.of (.bin .isin (.var 5) (.var 4))) (.var 5))]))]
def n13 : List Str := ["history", "one", "other", "above_one", "above_other", "version"]
def b14 : List CS := [(.ret (.bi .len [(.call 10 [(.var 0), (.var 1)])]))]
def n14 : List Str := ["history", "version"]
def b15 : List CS := [(.ret (.bi .max1 [(.cmp (.nm 1) (.rng (.cst (.int 0)) (.bin .add (.bi .len [(.var 0)]) (.cst (.int 1)))) .yes (.call 14 [(.var 0), (.var 1)]))]))]
def n15 : List Str := ["history", "version"]
def b16 : List CS := [(.ife (.not (.of (.isi (.var 0) .tuple))) [(.raise 3 [(.cst (.str (L "shape"))), (.un .neg (.cst (.int 1)))])] []), (.for (.tp [1, 2]) (.enum (.var 0)) [(.ife (.not (.of (.call 3 [(.var 1), (.var 2)]))) [(.raise 3 [(.cst (.str (L "parent"))), (.var 1)])] [])]), (.ret (.bi .len [(.var 0)]))]
def n16 : List Str := ["thing", "index", "parent"]
def b17 : List CS := [(.ex (.call 7 [(.call 5 [(.var 0), (.var 1)]), (.cst (.str (L "version")))])), (.ret (.bi .tuple [(.cmp (.tp [2, 3]) (.enum (.var 0)) (.of (.bin .eq (.var 3) (.var 1))) (.bin .add (.var 2) (.cst (.int 1))))]))]
def n17 : List Str := ["history", "version", "index", "parent"]
def b18 : List CS := [(.ex (.call 7 [(.call 5 [(.var 0), (.var 1)]), (.cst (.str (L "version")))])), (.set 2 (.rngO (.bin .add (.var 1) (.cst (.int 1))) (.bin .add (.bi .len [(.var 0)]) (.cst (.int 1))))), (.ret (.bin .add (.tup [(.var 1)]) (.bi .tuple [(.cmp (.nm 3) (.of (.var 2)) (.of (.call 12 [(.var 0), (.var 1), (.var 3)])) (.var 3))])))]
def n18 : List Str := ["history", "version", "later", "at"]
def b19 : List CS := [(.ret (.bi .tuple [(.cmp (.nm 1) (.rng (.cst (.int 0)) (.bin .add (.bi .len [(.var 0)]) (.cst (.int 1)))) (.of (.bin .notin (.var 1) (.var 0))) (.var 1))]))]
def n19 : List Str := ["history", "version"]
def b20 : List CS := [(.ret (.bin .eq (.var 0) (.rngL true (.cst (.int 0)) (.bi .len [(.var 0)]))))]
def n20 : List Str := ["history"]
def b21 : List CS := [(.set 1 (.bin .mod (.bi .int [(.bin .mul (.var 0) (.bin .add (.bin .mod (.bi .int [(.bin .fdiv (.var 0) (.cst (.int 7)))]) (.cst (.int 65497))) (.cst (.int 17))))]) (.cst (.int 2147483629)))), (.ret (.bin .mod (.bi .int [(.bin .fdiv (.bin .mod (.bi .int [(.bin .mul (.var 1) (.bin .add (.bin .mod (.bi .int [(.bin .fdiv (.var 1) (.cst (.int 5)))]) (.cst (.int 32717))) (.cst (.int 5))))]) (.cst (.int 2147483587))) (.cst (.int 23)))]) (.cst (.int 9949))))]
def n21 : List Str := ["_law_state", "_law_twice"]
def b22 : List CS := [(.setOwn 2 (.lst [])), (.set 3 (.cst (.int 0))), (.for (.nm 4) (.of (.var 0)) [(.set 6 (.bi .int [(.var 4)])), (.set 3 (.bin .mod (.bi .int [(.bin .add (.bin .add (.bin .mul (.var 3) (.cst (.int 39373))) (.bin .mod (.bi .int [(.var 6)]) (.cst (.int 2147483629)))) (.cst (.int 60013)))]) (.cst (.int 2147483647)))), (.ife (.and (.of (.bin .lt (.var 6) (.bin .pow (.cst (.int 10)) (.cst (.int 18))))) (.of (.bin .lt (.bi .len [(.var 2)]) (.var 1)))) [(.app 2 (.call 21 [(.var 3)]))] []), (.ife (.of (.bin .ge (.var 6) (.bin .pow (.cst (.int 10)) (.cst (.int 18))))) [(.for (.nm 5) (.rng (.cst (.int 0)) (.cst (.int 60))) [(.ife (.and (.of (.bin .gt (.var 6) (.cst (.int 0)))) (.of (.bin .lt (.bi .len [(.var 2)]) (.var 1)))) [(.app 2 (.bin .mod (.bi .int [(.var 6)]) (.cst (.int 9949)))), (.set 6 (.bin .fdiv (.var 6) (.cst (.int 9949))))] [])])] [])]), (.for (.nm 5) (.rng (.cst (.int 0)) (.var 1)) [(.ife (.of (.bin .lt (.bi .len [(.var 2)]) (.var 1))) [(.set 3 (.bin .mod (.bi .int [(.bin .mul (.var 3) (.cst (.int 39373)))]) (.cst (.int 2147483647)))), (.app 2 (.call 21 [(.var 3)]))] [])]), (.retO 2)]
def n22 : List Str := ["_law_script", "_law_size", "_law_row", "_law_state", "_law_cell", "_law_k", "_law_left"]
def b23 : List CS := [(.ife (.of (.isi (.var 1) .tuple)) [(.ife (.or (.not (.of (.isi (.var 0) .tuple))) (.of (.bin .ne (.bi .len [(.var 0)]) (.bi .len [(.var 1)])))) [(.ret (.cst (.bl false)))] []), (.ret (.bi .all [(.cmp (.nm 2) (.rng (.cst (.int 0)) (.bi .len [(.var 1)])) .yes (.call 23 [(.idx (.var 0) (.var 2)), (.idx (.var 1) (.var 2))]))]))] []), (.ife (.of (.isi (.var 1) .str)) [(.ret (.and (.isi (.var 0) .str) (.bin .eq (.var 0) (.var 1))))] []), (.ife (.or (.of (.un .isN (.var 1))) (.of (.bin .ne (.isi (.var 0) .bool) (.isi (.var 1) .bool)))) [(.ret (.and (.un .isN (.var 1)) (.un .isN (.var 0))))] []), (.ret (.and (.isi (.var 0) .int) (.bin .eq (.var 0) (.var 1))))]
def n23 : List Str := ["_law_got", "_law_due", "_law_k"]
def b24 : List CS := [(.setOwn 3 (.lst [])), (.for (.nm 4) (.rng (.cst (.int 1)) (.bin .add (.var 1) (.cst (.int 1)))) [(.ife (.of (.bin .eq (.var 2) (.cst (.int 1)))) [(.app 3 (.bin .sub (.var 4) (.cst (.int 1))))] [(.ife (.of (.bin .eq (.var 2) (.cst (.int 2)))) [(.app 3 (.bi .min2 [(.bin .sub (.var 4) (.cst (.int 1))), (.bin .mod (.bi .int [(.idx (.var 0) (.cst (.int 0)))]) (.cst (.int 3)))]))] [(.ife (.of (.bin .eq (.var 2) (.cst (.int 3)))) [(.app 3 (.bi .max2 [(.cst (.int 0)), (.bin .sub (.bin .sub (.var 4) (.cst (.int 1))) (.bin .mod (.bi .int [(.idx (.var 0) (.bin .sub (.var 4) (.cst (.int 1))))]) (.cst (.int 3))))]))] [(.ife (.of (.bin .eq (.var 2) (.cst (.int 4)))) [(.app 3 (.bin .fdiv (.var 4) (.cst (.int 2))))] [(.app 3 (.bin .mod (.bi .int [(.idx (.var 0) (.bin .sub (.var 4) (.cst (.int 1))))]) (.var 4)))])])])])]), (.ret (.bi .tuple [(.var 3)]))]
def n24 : List Str := ["_law_b", "_law_size", "_law_shape", "_law_tree_here", "_law_v"]
def b25 : List CS := [(.setOwn 1 (.lst [(.lst [])])), (.for (.nm 2) (.of (.var 0)) [(.app 1 (.bin .add (.lst [(.var 2)]) (.idx (.var 1) (.var 2))))]), (.retO 1)]
def n25 : List Str := ["_law_tree_here", "_law_ups_here", "_law_p"]
def b26 : List CS := [(.set 2 (.bin .mod (.bi .int [(.idx (.var 0) (.cst (.int 0)))]) (.cst (.int 12)))), (.set 3 (.bi .list [(.var 1)])), (.ife (.of (.bin .lt (.var 2) (.cst (.int 2)))) [(.setC 3 (.cmp (.nm 4) (.rng (.cst (.int 0)) (.bin .add (.cst (.int 48)) (.bin .mod (.bi .int [(.idx (.var 0) (.cst (.int 2)))]) (.cst (.int 13))))) .yes (.bi .max2 [(.cst (.int 0)), (.bin .sub (.var 4) (.bin .mod (.bi .int [(.idx (.var 0) (.cst (.int 1)))]) (.cst (.int 2))))])))] []), (.ife (.of (.bin .eq (.var 2) (.cst (.int 1)))) [(.ret (.bi .tuple [(.var 3)]))] []), (.ife (.of (.bin .eq (.var 2) (.cst (.int 2)))) [(.ret (.var 3))] []), (.ife (.of (.bin .eq (.var 2) (.cst (.int 3)))) [(.ret (.idx (.tup [(.cst .non), (.cst (.int 0)), (.cst (.str (L ""))), (.cst (.str (L "0"))), (.cst (.bl true)), (.lst [(.var 1)]), (.cst (.int 5)), (.cst (.int 7))]) (.bin .mod (.bi .int [(.idx (.var 0) (.cst (.int 1)))]) (.cst (.int 8)))))] []), (.ife (.of (.bin .eq (.var 2) (.cst (.int 4)))) [(.ret (.var 1))] []), (.for (.nm 4) (.rng (.cst (.int 0)) (.bin .add (.cst (.int 1)) (.bin .mod (.bi .int [(.idx (.var 0) (.cst (.int 3)))]) (.cst (.int 2))))) [(.set 5 (.bin .mod (.bi .int [(.idx (.var 0) (.bin .add (.cst (.int 4)) (.var 4)))]) (.bin .add (.bi .len [(.var 3)]) (.cst (.int 1))))), (.set 6 (.idx (.tup [(.bin .add (.var 5) (.cst (.int 1))), (.var 5), (.un .neg (.cst (.int 1))), (.cst (.bl true)), (.cst (.bl false)), (.cst .non), (.cst (.str (L "0"))), (.tup [(.cst (.int 0))]), (.bin .pow (.cst (.int 10)) (.cst (.int 20))), (.lst [(.cst (.int 0))]), (.bin .add (.var 5) (.cst (.int 2))), (.cst (.int 0)), (.bi .len [(.var 3)]), (.un .neg (.var 5))]) (.bin .mod (.bi .int [(.idx (.var 0) (.bin .add (.cst (.int 6)) (.var 4)))]) (.cst (.int 14))))), (.set 3 (.bin .add (.bin .add (.slc (.var 3) none (some (.var 5))) (.lst [(.var 6)])) (.slc (.var 3) (some (.bin .add (.var 5) (.cst (.int 1)))) none)))]), (.ret (.bi .tuple [(.var 3)]))]
def n26 : List Str := ["_law_b", "_law_tree_here", "_law_menu", "_law_parts", "_law_k", "_law_p", "_law_odd"]
def b27 : List CS := [(.ife (.not (.of (.isi (.var 0) .tuple))) [(.ret (.tup [(.cst (.str (L "shape"))), (.un .neg (.cst (.int 1)))]))] []), (.for (.nm 1) (.rng (.cst (.int 0)) (.bi .len [(.var 0)])) [(.ife (.or (.not (.of (.isi (.idx (.var 0) (.var 1)) .int))) (.or (.of (.isi (.idx (.var 0) (.var 1)) .bool)) (.or (.of (.bin .lt (.idx (.var 0) (.var 1)) (.cst (.int 0)))) (.of (.bin .gt (.idx (.var 0) (.var 1)) (.var 1)))))) [(.ret (.tup [(.cst (.str (L "parent"))), (.var 1)]))] [])]), (.ret (.cst .non))]
def n27 : List Str := ["_law_x", "_law_k"]
def b28 : List CS := [(.set 1 (.call 27 [(.var 0)])), (.ife (.or (.not (.of (.call 23 [(.call 4 [(.var 0)]), (.un .isN (.var 1))]))) (.not (.of (.call 23 [(.callk 4 [] [(.var 0)] [0]), (.un .isN (.var 1))])))) [(.ret (.cst (.bl false)))] []), (.try [(.set 3 (.call 16 [(.var 0)])), (.ret (.and (.un .isN (.var 1)) (.and (.call 23 [(.var 3), (.bi .len [(.var 0)])]) (.call 23 [(.callk 16 [] [(.var 0)] [0]), (.bi .len [(.var 0)])]))))] [(.mk 3 (some 2) [(.ife (.of (.un .isN (.var 1))) [(.ret (.cst (.bl false)))] []), (.ret (.call 23 [(.tup [(.exf 2 0), (.exf 2 1), (.exi 2 1), (.exi 2 2)]), (.bin .add (.var 1) (.tup [(.cst (.bl true)), (.cst (.bl false))]))]))]), (.mk 0 none [(.ret (.cst (.bl false)))])])]
def n28 : List Str := ["_law_x", "_law_fault_here", "e", "_law_got"]
def b29 : List CS := [(.try [(.ife (.of (.bin .eq (.var 0) (.cst (.int 0)))) [(.ex (.call 9 [(.var 1), (.var 2)]))] [(.ife (.of (.bin .eq (.var 0) (.cst (.int 1)))) [(.ex (.call 10 [(.var 1), (.var 2)]))] [(.ife (.of (.bin .eq (.var 0) (.cst (.int 2)))) [(.ex (.call 11 [(.var 1), (.var 2)]))] [(.ife (.of (.bin .eq (.var 0) (.cst (.int 3)))) [(.ex (.call 14 [(.var 1), (.var 2)]))] [(.ife (.of (.bin .eq (.var 0) (.cst (.int 4)))) [(.ex (.call 17 [(.var 1), (.var 2)]))] [(.ife (.of (.bin .eq (.var 0) (.cst (.int 5)))) [(.ex (.call 18 [(.var 1), (.var 2)]))] [(.ife (.of (.bin .eq (.var 0) (.cst (.int 6)))) [(.ex (.call 12 [(.var 1), (.var 2), (.var 3)]))] [(.ife (.of (.bin .eq (.var 0) (.cst (.int 7)))) [(.ex (.call 12 [(.var 1), (.var 3), (.var 2)]))] [(.ife (.of (.bin .eq (.var 0) (.cst (.int 8)))) [(.ex (.call 13 [(.var 1), (.var 2), (.var 3)]))] [(.ife (.of (.bin .eq (.var 0) (.cst (.int 9)))) [(.ex (.call 13 [(.var 1), (.var 3), (.var 2)]))] [(.ife (.of (.bin .eq (.var 0) (.cst (.int 10)))) [(.ex (.call 12 [(.var 1), (.var 2), (.var 2)]))] [(.ex (.call 13 [(.var 1), (.var 2), (.var 2)]))])])])])])])])])])])])] [(.mk 4 (some 4) [(.ret (.tup [(.exf 4 0), (.exf 4 1), (.exi 4 2), (.exi 4 1)]))]), (.mk 0 none [(.ret (.tup [(.cst (.str (L "another")))]))])]), (.ret (.tup [(.cst (.str (L "let")))]))]
def n29 : List Str := ["_law_which", "_law_tree_here", "_law_x", "_law_v", "e"]
def b30 : List CS := [(.set 3 (.bin .add (.bin .mul (.tup [(.cst (.str (L "version")))]) (.cst (.int 6))) (.tup [(.cst (.str (L "one"))), (.cst (.str (L "other"))), (.cst (.str (L "one"))), (.cst (.str (L "other"))), (.cst (.str (L "one"))), (.cst (.str (L "one")))]))), (.for (.nm 4) (.rng (.cst (.int 0)) (.cst (.int 12))) [(.ife (.not (.of (.call 23 [(.call 29 [(.var 4), (.var 0), (.var 1), (.var 2)]), (.tup [(.idx (.var 3) (.var 4)), (.un .neg (.cst (.int 1))), (.cst (.bl true)), (.cst (.bl false))])]))) [(.ret (.cst (.bl false)))] []), (.ife (.and (.of (.bin .gt (.var 4) (.cst (.int 0)))) (.not (.of (.call 23 [(.call 29 [(.var 4), (.var 0), (.var 2), (.var 2)]), (.tup [(.cst (.str (L "let")))])])))) [(.ret (.cst (.bl false)))] [])]), (.ife (.not (.of (.call 23 [(.call 29 [(.cst (.int 0)), (.var 0), (.cst (.int 0)), (.var 2)]), (.tup [(.cst (.str (L "version"))), (.un .neg (.cst (.int 1))), (.cst (.bl true)), (.cst (.bl false))])]))) [(.ret (.cst (.bl false)))] []), (.ret (.or (.bin .eq (.var 2) (.cst (.int 0))) (.call 23 [(.call 29 [(.cst (.int 0)), (.var 0), (.var 2), (.var 2)]), (.tup [(.cst (.str (L "let")))])])))]
def n30 : List Str := ["_law_tree_here", "_law_x", "_law_v", "_law_names", "_law_which"]
def b31 : List CS := [(.set 4 (.bi .tuple [(.cmp (.nm 8) (.rng (.cst (.int 0)) (.bi .len [(.var 1)])) (.or (.of (.bin .eq (.var 8) (.var 2))) (.of (.bin .isin (.var 2) (.idx (.var 1) (.var 8))))) (.var 8))])), (.set 5 (.bi .tuple [(.cmp (.nm 8) (.rng (.cst (.int 1)) (.bi .len [(.var 1)])) (.of (.bin .eq (.idx (.var 0) (.bin .sub (.var 8) (.cst (.int 1)))) (.var 2))) (.var 8))])), (.set 6 (.bi .tuple [(.bi .sorted [(.cmp (.nm 8) (.of (.bin .add (.lst [(.var 2)]) (.idx (.var 1) (.var 2)))) (.of (.bin .gt (.var 8) (.cst (.int 0)))) (.var 8))])])), (.ife (.of (.var 3)) [(.set 7 (.tup [(.callk 10 [] [(.var 2), (.var 0)] [1, 0]), (.callk 11 [] [(.var 2), (.var 0)] [1, 0]), (.callk 14 [] [(.var 2), (.var 0)] [1, 0]), (.callk 17 [] [(.var 2), (.var 0)] [1, 0]), (.callk 18 [] [(.var 2), (.var 0)] [1, 0])]))] [(.set 7 (.tup [(.call 10 [(.var 0), (.var 2)]), (.call 11 [(.var 0), (.var 2)]), (.call 14 [(.var 0), (.var 2)]), (.call 17 [(.var 0), (.var 2)]), (.call 18 [(.var 0), (.var 2)])]))]), (.ife (.not (.of (.call 23 [(.var 7), (.tup [(.bi .tuple [(.idx (.var 1) (.var 2))]), (.var 6), (.bi .len [(.idx (.var 1) (.var 2))]), (.var 5), (.var 4)])]))) [(.ret (.cst (.bl false)))] []), (.ife (.and (.of (.bin .gt (.var 2) (.cst (.int 0)))) (.of (.var 3))) [(.ret (.call 23 [(.callk 9 [] [(.var 2), (.var 0)] [1, 0]), (.idx (.idx (.var 1) (.var 2)) (.cst (.int 0)))]))] []), (.ret (.or (.bin .eq (.var 2) (.cst (.int 0))) (.call 23 [(.call 9 [(.var 0), (.var 2)]), (.idx (.idx (.var 1) (.var 2)) (.cst (.int 0)))])))]
def n31 : List Str := ["_law_tree_here", "_law_ups_here", "_law_v", "_law_named", "_law_branch", "_law_children", "_law_path", "_law_got", "_law_z"]
def b32 : List CS := [(.set 5 (.bi .max1 [(.cmp (.nm 7) (.of (.bin .add (.lst [(.var 2)]) (.idx (.var 1) (.var 2)))) (.or (.of (.bin .eq (.var 7) (.var 3))) (.of (.bin .isin (.var 7) (.idx (.var 1) (.var 3))))) (.var 7))])), (.ife (.of (.var 4)) [(.set 6 (.tup [(.callk 12 [] [(.var 3), (.var 2), (.var 0)] [2, 1, 0]), (.callk 13 [] [(.var 3), (.var 2), (.var 0)] [2, 1, 0])]))] [(.set 6 (.tup [(.call 12 [(.var 0), (.var 2), (.var 3)]), (.call 13 [(.var 0), (.var 2), (.var 3)])]))]), (.ret (.call 23 [(.var 6), (.tup [(.bin .isin (.var 2) (.idx (.var 1) (.var 3))), (.var 5)])]))]
def n32 : List Str := ["_law_tree_here", "_law_ups_here", "_law_v", "_law_w", "_law_named", "_law_both", "_law_got", "_law_z"]
def b33 : List CS := [(.set 3 (.cmp (.nm 7) (.of (.var 0)) .yes (.var 7))), (.set 4 (.bi .tuple [(.cmp (.nm 8) (.rng (.cst (.int 0)) (.bi .len [(.var 1)])) (.of (.bin .notin (.var 8) (.var 3))) (.var 8))])), (.set 5 (.bin .eq (.var 0) (.rngL true (.cst (.int 0)) (.bi .len [(.var 0)])))), (.ife (.of (.var 2)) [(.set 6 (.tup [(.callk 8 [] [(.var 0)] [0]), (.callk 15 [] [(.var 0)] [0]), (.callk 19 [] [(.var 0)] [0]), (.callk 20 [] [(.var 0)] [0])]))] [(.set 6 (.tup [(.call 8 [(.var 0)]), (.call 15 [(.var 0)]), (.call 19 [(.var 0)]), (.call 20 [(.var 0)])]))]), (.ret (.call 23 [(.var 6), (.tup [(.bi .len [(.var 0)]), (.bi .max1 [(.cmp (.nm 9) (.of (.var 1)) .yes (.bi .len [(.var 9)]))]), (.var 4), (.var 5)])]))]
def n33 : List Str := ["_law_tree_here", "_law_ups_here", "_law_named", "_law_parents", "_law_leaves", "_law_straight", "_law_got", "_law_p", "_law_z", "_law_row"]
def b34 : List CS := [(.set 1 (.call 22 [(.var 0), (.cst (.int 128))])), (.set 2 (.bin .mod (.bi .int [(.idx (.var 1) (.cst (.int 0)))]) (.cst (.int 10)))), (.ife (.of (.bin .gt (.bin .mod (.bi .int [(.idx (.var 1) (.cst (.int 1)))]) (.cst (.int 12))) (.cst (.int 9)))) [(.set 2 (.bin .add (.cst (.int 24)) (.bin .mul (.cst (.int 16)) (.bin .sub (.bin .mod (.bi .int [(.idx (.var 1) (.cst (.int 1)))]) (.cst (.int 12))) (.cst (.int 10))))))] []), (.set 3 (.call 24 [(.slc (.var 1) (some (.cst (.int 2))) (some (.cst (.int 42)))), (.var 2), (.bin .mod (.bi .int [(.idx (.var 1) (.cst (.int 42)))]) (.cst (.int 8)))])), (.set 4 (.call 25 [(.var 3)])), (.ife (.or (.not (.of (.call 28 [(.var 3)]))) (.not (.of (.call 28 [(.call 26 [(.slc (.var 1) (some (.cst (.int 43))) (some (.cst (.int 52)))), (.var 3)])])))) [(.ret (.cst (.bl false)))] []), (.ife (.not (.of (.call 33 [(.var 3), (.var 4), (.cst (.bl false))]))) [(.ret (.cst (.bl false)))] []), (.set 5 (.rngL false (.cst (.int 0)) (.bin .add (.var 2) (.cst (.int 1))))), (.setC 6 (.cmp (.nm 10) (.rng (.cst (.int 0)) (.bin .mul (.bin .add (.var 2) (.cst (.int 1))) (.bin .add (.var 2) (.cst (.int 1))))) .yes (.tup [(.bin .fdiv (.var 10) (.bin .add (.var 2) (.cst (.int 1)))), (.bin .mod (.bi .int [(.var 10)]) (.bin .add (.var 2) (.cst (.int 1))))]))), (.ife (.of (.bin .gt (.var 2) (.cst (.int 9)))) [(.setC 5 (.cmp (.nm 10) (.rng (.cst (.int 0)) (.cst (.int 8))) .yes (.bin .mod (.bi .int [(.idx (.var 1) (.bin .add (.cst (.int 52)) (.var 10)))]) (.bin .add (.var 2) (.cst (.int 1)))))), (.setC 6 (.cmp (.nm 10) (.rng (.cst (.int 0)) (.cst (.int 24))) .yes (.tup [(.bin .mod (.bi .int [(.idx (.var 1) (.bin .add (.cst (.int 60)) (.var 10)))]) (.bin .add (.var 2) (.cst (.int 1)))), (.bin .mod (.bi .int [(.idx (.var 1) (.bin .add (.cst (.int 84)) (.var 10)))]) (.bin .add (.var 2) (.cst (.int 1))))])))] []), (.for (.nm 7) (.of (.var 5)) [(.ife (.not (.of (.call 31 [(.var 3), (.var 4), (.var 7), (.cst (.bl false))]))) [(.ret (.cst (.bl false)))] [])]), (.for (.tp [7, 8]) (.of (.var 6)) [(.ife (.not (.of (.call 32 [(.var 3), (.var 4), (.var 7), (.var 8), (.cst (.bl false))]))) [(.ret (.cst (.bl false)))] [])]), (.set 7 (.bin .mod (.bi .int [(.idx (.var 1) (.cst (.int 108)))]) (.bin .add (.var 2) (.cst (.int 1))))), (.set 8 (.bin .mod (.bi .int [(.idx (.var 1) (.cst (.int 109)))]) (.bin .add (.var 2) (.cst (.int 1))))), (.ife (.or (.not (.of (.call 31 [(.var 3), (.var 4), (.var 8), (.cst (.bl true))]))) (.not (.of (.call 32 [(.var 3), (.var 4), (.var 7), (.var 8), (.cst (.bl true))])))) [(.ret (.cst (.bl false)))] []), (.set 9 (.idx (.tup [(.bin .add (.var 2) (.cst (.int 1))), (.un .neg (.cst (.int 1))), (.cst (.bl true)), (.cst (.bl false)), (.cst .non), (.cst (.str (L "0"))), (.tup [(.var 7)]), (.lst [(.var 7)]), (.bin .add (.var 2) (.cst (.int 2))), (.bin .pow (.cst (.int 10)) (.cst (.int 20))), (.bin .sub (.un .neg (.var 2)) (.cst (.int 1))), (.tup [])]) (.bin .mod (.bi .int [(.idx (.var 1) (.cst (.int 110)))]) (.cst (.int 12))))), (.ret (.and (.call 30 [(.var 3), (.var 9), (.var 7)]) (.call 33 [(.var 3), (.var 4), (.cst (.bl true))])))]
def n34 : List Str := ["_law_script", "_law_row", "_law_size", "_law_tree_here", "_law_ups_here", "_law_asks", "_law_pairs", "_law_v", "_law_w", "_law_odd", "_law_k"]
def fd : Nat → Option Fd
  | 0 => some ⟨1, 1, b0⟩
  | 1 => some ⟨1, 1, b1⟩
  | 2 => some ⟨1, 1, b2⟩
  | 3 => some ⟨2, 2, b3⟩
  | 4 => some ⟨1, 3, b4⟩
  | 5 => some ⟨2, 2, b5⟩
  | 6 => some ⟨2, 2, b6⟩
  | 7 => some ⟨2, 2, b7⟩
  | 8 => some ⟨1, 1, b8⟩
  | 9 => some ⟨2, 2, b9⟩
  | 10 => some ⟨2, 4, b10⟩
  | 11 => some ⟨2, 4, b11⟩
  | 12 => some ⟨3, 3, b12⟩
  | 13 => some ⟨3, 6, b13⟩
  | 14 => some ⟨2, 2, b14⟩
  | 15 => some ⟨1, 2, b15⟩
  | 16 => some ⟨1, 3, b16⟩
  | 17 => some ⟨2, 4, b17⟩
  | 18 => some ⟨2, 4, b18⟩
  | 19 => some ⟨1, 2, b19⟩
  | 20 => some ⟨1, 1, b20⟩
  | 21 => some ⟨1, 2, b21⟩
  | 22 => some ⟨2, 7, b22⟩
  | 23 => some ⟨2, 3, b23⟩
  | 24 => some ⟨3, 5, b24⟩
  | 25 => some ⟨1, 3, b25⟩
  | 26 => some ⟨2, 7, b26⟩
  | 27 => some ⟨1, 2, b27⟩
  | 28 => some ⟨1, 4, b28⟩
  | 29 => some ⟨4, 5, b29⟩
  | 30 => some ⟨3, 5, b30⟩
  | 31 => some ⟨4, 9, b31⟩
  | 32 => some ⟨5, 8, b32⟩
  | 33 => some ⟨3, 10, b33⟩
  | 34 => some ⟨1, 11, b34⟩
  | _ => none
def P : Pg := ⟨fd, mod.subB, fun _ => .non⟩
theorem fj_0 : 0 < mod.fns.length := by decide
theorem fj_1 : 1 < mod.fns.length := by decide
theorem fj_2 : 2 < mod.fns.length := by decide
theorem fj_3 : 3 < mod.fns.length := by decide
theorem fj_4 : 4 < mod.fns.length := by decide
theorem fj_5 : 5 < mod.fns.length := by decide
theorem fj_6 : 6 < mod.fns.length := by decide
theorem fj_7 : 7 < mod.fns.length := by decide
theorem fj_8 : 8 < mod.fns.length := by decide
theorem fj_9 : 9 < mod.fns.length := by decide
theorem fj_10 : 10 < mod.fns.length := by decide
theorem fj_11 : 11 < mod.fns.length := by decide
theorem fj_12 : 12 < mod.fns.length := by decide
theorem fj_13 : 13 < mod.fns.length := by decide
theorem fj_14 : 14 < mod.fns.length := by decide
theorem fj_15 : 15 < mod.fns.length := by decide
theorem fj_16 : 16 < mod.fns.length := by decide
theorem fj_17 : 17 < mod.fns.length := by decide
theorem fj_18 : 18 < mod.fns.length := by decide
theorem fj_19 : 19 < mod.fns.length := by decide
theorem fj_20 : 20 < mod.fns.length := by decide
theorem fj_21 : 21 < mod.fns.length := by decide
theorem fj_22 : 22 < mod.fns.length := by decide
theorem fj_23 : 23 < mod.fns.length := by decide
theorem fj_24 : 24 < mod.fns.length := by decide
theorem fj_25 : 25 < mod.fns.length := by decide
theorem fj_26 : 26 < mod.fns.length := by decide
theorem fj_27 : 27 < mod.fns.length := by decide
theorem fj_28 : 28 < mod.fns.length := by decide
theorem fj_29 : 29 < mod.fns.length := by decide
theorem fj_30 : 30 < mod.fns.length := by decide
theorem fj_31 : 31 < mod.fns.length := by decide
theorem fj_32 : 32 < mod.fns.length := by decide
theorem fj_33 : 33 < mod.fns.length := by decide
theorem fj_34 : 34 < mod.fns.length := by decide
theorem cj_0 : 0 < mod.cls.length := by decide
theorem cj_1 : 1 < mod.cls.length := by decide
theorem cj_2 : 2 < mod.cls.length := by decide
theorem cj_3 : 3 < mod.cls.length := by decide
theorem cj_4 : 4 < mod.cls.length := by decide
theorem fl_3_0 (c : Nat) (h : mod.subB c 3 = true) : (mod.cl c).fl[0]? = some ("word" : Str) := by
  have e := mod.sub_ix (by decide) c 3
  rw [show mod.ix 3 = 3 from by decide, h] at e
  rw [← mod.cl_ix (by decide) c]
  have lt := mod.ix_lt (by decide) c
  generalize mod.ix c = i at e lt ⊢
  have all : ∀ i, i < 5 → mod.subB i 3 = true → (mod.cl i).fl[0]? = some ("word" : Str) := by decide +kernel
  exact all i lt e
theorem fl_3_1 (c : Nat) (h : mod.subB c 3 = true) : (mod.cl c).fl[1]? = some ("at" : Str) := by
  have e := mod.sub_ix (by decide) c 3
  rw [show mod.ix 3 = 3 from by decide, h] at e
  rw [← mod.cl_ix (by decide) c]
  have lt := mod.ix_lt (by decide) c
  generalize mod.ix c = i at e lt ⊢
  have all : ∀ i, i < 5 → mod.subB i 3 = true → (mod.cl i).fl[1]? = some ("at" : Str) := by decide +kernel
  exact all i lt e
theorem fl_4_0 (c : Nat) (h : mod.subB c 4 = true) : (mod.cl c).fl[0]? = some ("word" : Str) := by
  have e := mod.sub_ix (by decide) c 4
  rw [show mod.ix 4 = 4 from by decide, h] at e
  rw [← mod.cl_ix (by decide) c]
  have lt := mod.ix_lt (by decide) c
  generalize mod.ix c = i at e lt ⊢
  have all : ∀ i, i < 5 → mod.subB i 4 = true → (mod.cl i).fl[0]? = some ("word" : Str) := by decide +kernel
  exact all i lt e
theorem fl_4_1 (c : Nat) (h : mod.subB c 4 = true) : (mod.cl c).fl[1]? = some ("at" : Str) := by
  have e := mod.sub_ix (by decide) c 4
  rw [show mod.ix 4 = 4 from by decide, h] at e
  rw [← mod.cl_ix (by decide) c]
  have lt := mod.ix_lt (by decide) c
  generalize mod.ix c = i at e lt ⊢
  have all : ∀ i, i < 5 → mod.subB i 4 = true → (mod.cl i).fl[1]? = some ("at" : Str) := by decide +kernel
  exact all i lt e
section
variable {K : PySem.W.Frag} {w : World} {mg : Str → Option Value} {base : Heap} {T : Tb} {k : Nat} {W : WX} {X : Cx} {O : Addr → Prop} {H0 : Hp}
theorem kw_4_0_0 (h : mod.obsK K = mod.val) : KwF (mod.cfg K w mg base) 4 ["thing"] 0 ["thing"] [0] := ⟨kbn_of (mod.fn_at h (j := 4) rfl) (by decide) fun _ _ _ _ _ _ us ws l1 l2 => match us, ws, l1, l2 with | [], [_], _, _ => rfl, rfl⟩
theorem kw_16_0_0 (h : mod.obsK K = mod.val) : KwF (mod.cfg K w mg base) 16 ["thing"] 0 ["thing"] [0] := ⟨kbn_of (mod.fn_at h (j := 16) rfl) (by decide) fun _ _ _ _ _ _ us ws l1 l2 => match us, ws, l1, l2 with | [], [_], _, _ => rfl, rfl⟩
theorem kw_10_0_1_0 (h : mod.obsK K = mod.val) : KwF (mod.cfg K w mg base) 10 ["history", "version"] 0 ["version", "history"] [1, 0] := ⟨kbn_of (mod.fn_at h (j := 10) rfl) (by decide) fun _ _ _ _ _ _ us ws l1 l2 => match us, ws, l1, l2 with | [], [_, _], _, _ => rfl, rfl⟩
theorem kw_11_0_1_0 (h : mod.obsK K = mod.val) : KwF (mod.cfg K w mg base) 11 ["history", "version"] 0 ["version", "history"] [1, 0] := ⟨kbn_of (mod.fn_at h (j := 11) rfl) (by decide) fun _ _ _ _ _ _ us ws l1 l2 => match us, ws, l1, l2 with | [], [_, _], _, _ => rfl, rfl⟩
theorem kw_14_0_1_0 (h : mod.obsK K = mod.val) : KwF (mod.cfg K w mg base) 14 ["history", "version"] 0 ["version", "history"] [1, 0] := ⟨kbn_of (mod.fn_at h (j := 14) rfl) (by decide) fun _ _ _ _ _ _ us ws l1 l2 => match us, ws, l1, l2 with | [], [_, _], _, _ => rfl, rfl⟩
theorem kw_17_0_1_0 (h : mod.obsK K = mod.val) : KwF (mod.cfg K w mg base) 17 ["history", "version"] 0 ["version", "history"] [1, 0] := ⟨kbn_of (mod.fn_at h (j := 17) rfl) (by decide) fun _ _ _ _ _ _ us ws l1 l2 => match us, ws, l1, l2 with | [], [_, _], _, _ => rfl, rfl⟩
theorem kw_18_0_1_0 (h : mod.obsK K = mod.val) : KwF (mod.cfg K w mg base) 18 ["history", "version"] 0 ["version", "history"] [1, 0] := ⟨kbn_of (mod.fn_at h (j := 18) rfl) (by decide) fun _ _ _ _ _ _ us ws l1 l2 => match us, ws, l1, l2 with | [], [_, _], _, _ => rfl, rfl⟩
theorem kw_9_0_1_0 (h : mod.obsK K = mod.val) : KwF (mod.cfg K w mg base) 9 ["history", "version"] 0 ["version", "history"] [1, 0] := ⟨kbn_of (mod.fn_at h (j := 9) rfl) (by decide) fun _ _ _ _ _ _ us ws l1 l2 => match us, ws, l1, l2 with | [], [_, _], _, _ => rfl, rfl⟩
theorem kw_12_0_2_1_0 (h : mod.obsK K = mod.val) : KwF (mod.cfg K w mg base) 12 ["history", "one", "other"] 0 ["other", "one", "history"] [2, 1, 0] := ⟨kbn_of (mod.fn_at h (j := 12) rfl) (by decide) fun _ _ _ _ _ _ us ws l1 l2 => match us, ws, l1, l2 with | [], [_, _, _], _, _ => rfl, rfl⟩
theorem kw_13_0_2_1_0 (h : mod.obsK K = mod.val) : KwF (mod.cfg K w mg base) 13 ["history", "one", "other"] 0 ["other", "one", "history"] [2, 1, 0] := ⟨kbn_of (mod.fn_at h (j := 13) rfl) (by decide) fun _ _ _ _ _ _ us ws l1 l2 => match us, ws, l1, l2 with | [], [_, _, _], _, _ => rfl, rfl⟩
theorem kw_8_0_0 (h : mod.obsK K = mod.val) : KwF (mod.cfg K w mg base) 8 ["history"] 0 ["history"] [0] := ⟨kbn_of (mod.fn_at h (j := 8) rfl) (by decide) fun _ _ _ _ _ _ us ws l1 l2 => match us, ws, l1, l2 with | [], [_], _, _ => rfl, rfl⟩
theorem kw_15_0_0 (h : mod.obsK K = mod.val) : KwF (mod.cfg K w mg base) 15 ["history"] 0 ["history"] [0] := ⟨kbn_of (mod.fn_at h (j := 15) rfl) (by decide) fun _ _ _ _ _ _ us ws l1 l2 => match us, ws, l1, l2 with | [], [_], _, _ => rfl, rfl⟩
theorem kw_19_0_0 (h : mod.obsK K = mod.val) : KwF (mod.cfg K w mg base) 19 ["history"] 0 ["history"] [0] := ⟨kbn_of (mod.fn_at h (j := 19) rfl) (by decide) fun _ _ _ _ _ _ us ws l1 l2 => match us, ws, l1, l2 with | [], [_], _, _ => rfl, rfl⟩
theorem kw_20_0_0 (h : mod.obsK K = mod.val) : KwF (mod.cfg K w mg base) 20 ["history"] 0 ["history"] [0] := ⟨kbn_of (mod.fn_at h (j := 20) rfl) (by decide) fun _ _ _ _ _ _ us ws l1 l2 => match us, ws, l1, l2 with | [], [_], _, _ => rfl, rfl⟩
theorem der_0 (h : mod.obsK K = mod.val) (hO : Trk O H0) (C : Sc (mod.cfg K w mg base) T (k + 2) W n0 (defScope (mod.stm 1)) (fun _ => true) X) (hsub : T.sub = mod.subB) (fr : Fr2 X) : SSs (mod.cfg K w mg base) O H0 none W T X (defBody (mod.stm 1)) b0 :=
 (ss_cons (ss_ret (u_andV C (u_isi C .int (by decide +kernel) (by decide +kernel) (by decide +kernel) (u_b C 0 (by decide +kernel)) rfl) (u_one (u_not C (SB.of (u_isi C .bool (by decide +kernel) (by decide +kernel) (by decide +kernel) (u_b C 0 (by decide +kernel)) rfl) rfl)))))
 ss_nil)
theorem der_1 (h : mod.obsK K = mod.val) (hO : Trk O H0) (C : Sc (mod.cfg K w mg base) T (k + 2) W n1 (defScope (mod.stm 2)) (fun _ => true) X) (hsub : T.sub = mod.subB) (fr : Fr2 X) : SSs (mod.cfg K w mg base) O H0 none W T X (defBody (mod.stm 2)) b1 :=
 (ss_cons (ss_ret (u_andV C (u_call C 0 fj_0 rfl (by decide +kernel) (s_consC (u_b C 0 (by decide +kernel)) s_nilC rfl) rfl rfl) (u_one (u_cmp C (o := .ge) rfl rfl (u_b C 0 (by decide +kernel)) (SB.of s_int rfl)))))
 ss_nil)
theorem der_2 (h : mod.obsK K = mod.val) (hO : Trk O H0) (C : Sc (mod.cfg K w mg base) T (k + 2) W n2 (defScope (mod.stm 3)) (fun _ => true) X) (hsub : T.sub = mod.subB) (fr : Fr2 X) : SSs (mod.cfg K w mg base) O H0 none W T X (defBody (mod.stm 3)) b2 :=
 (ss_cons (ss_ret (u_andV C (u_call C 0 fj_0 rfl (by decide +kernel) (s_consC (u_b C 0 (by decide +kernel)) s_nilC rfl) rfl rfl) (u_one (u_cmp C (o := .ge) rfl rfl (u_b C 0 (by decide +kernel)) (SB.of s_int rfl)))))
 ss_nil)
theorem der_3 (h : mod.obsK K = mod.val) (hO : Trk O H0) (C : Sc (mod.cfg K w mg base) T (k + 2) W n3 (defScope (mod.stm 5)) (fun _ => true) X) (hsub : T.sub = mod.subB) (fr : Fr2 X) : SSs (mod.cfg K w mg base) O H0 none W T X (defBody (mod.stm 5)) b3 :=
 (ss_cons (ss_ret (u_andV C (u_call C 1 fj_1 rfl (by decide +kernel) (s_consC (u_b C 1 (by decide +kernel)) s_nilC rfl) rfl rfl) (u_one (u_cmp C (o := .le) rfl rfl (u_b C 1 (by decide +kernel)) (u_b C 0 (by decide +kernel))))))
 ss_nil)
theorem der_4 (h : mod.obsK K = mod.val) (hO : Trk O H0) (C : Sc (mod.cfg K w mg base) T (k + 2) W n4 (defScope (mod.stm 6)) (fun _ => true) X) (hsub : T.sub = mod.subB) (fr : Fr2 X) : SSs (mod.cfg K w mg base) O H0 none W T X (defBody (mod.stm 6)) b4 :=
 (ss_cons (ss_ife (s_notT (u_tru C (SB.of (u_isi C .tuple (by decide +kernel) (by decide +kernel) (by decide +kernel) (u_b C 0 (by decide +kernel)) rfl) rfl) (fun _ => rfl))) (ss_cons (ss_ret s_bl)
 ss_nil) ss_nil)
 (ss_cons (ss_ret (u_bf C .all rfl (by decide +kernel) (by decide +kernel) (s_consB (SB.of (u_comp C (own := [("index", 1), ("parent", 2)]) rfl (by decide +kernel) rfl (fun _ => rfl) (u_ienum C (by decide +kernel) (u_b C 0 (by decide +kernel)) rfl) (fun hot _ _ C => (u_gt C hot (u_gsc C 1 (by decide +kernel) (u_gsc C 2 (by decide +kernel) u_gsn)) rfl rfl)) (fun _ _ C => (u_ifn _)) (fun _ _ C => (u_call C 3 fj_3 rfl (by decide +kernel) (s_consC (u_b C 1 (by decide +kernel)) (s_consC (u_b C 2 (by decide +kernel)) s_nilC rfl) rfl) rfl rfl))) rfl) s_nilB rfl) rfl))
 ss_nil))
theorem der_5 (h : mod.obsK K = mod.val) (hO : Trk O H0) (C : Sc (mod.cfg K w mg base) T (k + 2) W n5 (defScope (mod.stm 7)) (fun _ => true) X) (hsub : T.sub = mod.subB) (fr : Fr2 X) : SSs (mod.cfg K w mg base) O H0 none W T X (defBody (mod.stm 7)) b5 :=
 (ss_cons (ss_ret (u_andV C (u_call C 1 fj_1 rfl (by decide +kernel) (s_consC (u_b C 1 (by decide +kernel)) s_nilC rfl) rfl rfl) (u_one (u_cmp C (o := .le) rfl rfl (u_b C 1 (by decide +kernel)) (SB.of (u_bf C .len rfl (by decide +kernel) (by decide +kernel) (s_consB (u_b C 0 (by decide +kernel)) s_nilB rfl) rfl) rfl)))))
 ss_nil)
theorem der_6 (h : mod.obsK K = mod.val) (hO : Trk O H0) (C : Sc (mod.cfg K w mg base) T (k + 2) W n6 (defScope (mod.stm 8)) (fun _ => true) X) (hsub : T.sub = mod.subB) (fr : Fr2 X) : SSs (mod.cfg K w mg base) O H0 none W T X (defBody (mod.stm 8)) b6 :=
 (ss_cons (ss_ret (u_andV C (u_call C 2 fj_2 rfl (by decide +kernel) (s_consC (u_b C 1 (by decide +kernel)) s_nilC rfl) rfl rfl) (u_one (u_cmp C (o := .le) rfl rfl (u_b C 1 (by decide +kernel)) (SB.of (u_bf C .len rfl (by decide +kernel) (by decide +kernel) (s_consB (u_b C 0 (by decide +kernel)) s_nilB rfl) rfl) rfl)))))
 ss_nil)
theorem der_7 (h : mod.obsK K = mod.val) (hO : Trk O H0) (C : Sc (mod.cfg K w mg base) T (k + 2) W n7 (defScope (mod.stm 16)) (fun _ => true) X) (hsub : T.sub = mod.subB) (fr : Fr2 X) : SSs (mod.cfg K w mg base) O H0 none W T X (defBody (mod.stm 16)) b7 :=
 (ss_cons (ss_ife (s_notT (u_tru C (u_b C 0 (by decide +kernel)) (fun _ => rfl))) (ss_cons (u_raise C 4 cj_4 rfl rfl (by decide +kernel) rfl (by decide) rfl (s_cons (u_v C 1 (by decide +kernel)) (s_cons (s_neg (SB.of s_int rfl)) s_nil rfl) rfl))
 ss_nil) ss_nil)
 ss_nil)
theorem der_8 (h : mod.obsK K = mod.val) (hO : Trk O H0) (C : Sc (mod.cfg K w mg base) T (k + 2) W n8 (defScope (mod.stm 18)) (fun _ => true) X) (hsub : T.sub = mod.subB) (fr : Fr2 X) : SSs (mod.cfg K w mg base) O H0 none W T X (defBody (mod.stm 18)) b8 :=
 (ss_cons (ss_ret (u_bf C .len rfl (by decide +kernel) (by decide +kernel) (s_consB (u_b C 0 (by decide +kernel)) s_nilB rfl) rfl))
 ss_nil)
theorem der_9 (h : mod.obsK K = mod.val) (hO : Trk O H0) (C : Sc (mod.cfg K w mg base) T (k + 2) W n9 (defScope (mod.stm 19)) (fun _ => true) X) (hsub : T.sub = mod.subB) (fr : Fr2 X) : SSs (mod.cfg K w mg base) O H0 none W T X (defBody (mod.stm 19)) b9 :=
 (ss_cons (ss_ex (u_call C 7 fj_7 rfl (by decide +kernel) (s_consC (SB.of (u_call C 6 fj_6 rfl (by decide +kernel) (s_consC (u_b C 0 (by decide +kernel)) (s_consC (u_b C 1 (by decide +kernel)) s_nilC rfl) rfl) rfl rfl) rfl) (s_consC (SB.of (u_str (by decide +kernel)) rfl) s_nilC rfl) rfl) rfl rfl) rfl)
 (ss_cons (ss_ret (u_idx C (u_b C 0 (by decide +kernel)) (u_op C (o := .sub) rfl (u_b C 1 (by decide +kernel)) (SB.of s_int rfl)) rfl))
 ss_nil))
theorem der_10 (h : mod.obsK K = mod.val) (hO : Trk O H0) (C : Sc (mod.cfg K w mg base) T (k + 2) W n10 (defScope (mod.stm 20)) (fun _ => true) X) (hsub : T.sub = mod.subB) (fr : Fr2 X) : SSs (mod.cfg K w mg base) O H0 none W T X (defBody (mod.stm 20)) b10 :=
 (ss_cons (ss_ex (u_call C 7 fj_7 rfl (by decide +kernel) (s_consC (SB.of (u_call C 5 fj_5 rfl (by decide +kernel) (s_consC (u_b C 0 (by decide +kernel)) (s_consC (u_b C 1 (by decide +kernel)) s_nilC rfl) rfl) rfl rfl) rfl) (s_consC (SB.of (u_str (by decide +kernel)) rfl) s_nilC rfl) rfl) rfl rfl) rfl)
 (ss_cons (u_setOwn C 2 (by decide +kernel) rfl (f_lst s_nil (by decide)))
 (ss_cons (u_set C 3 (by decide +kernel) rfl (u_v C 1 (by decide +kernel)))
 (ss_cons (u_whl C (u_cmpT C (o := .gt) rfl rfl (u_b C 3 (by decide +kernel)) (SB.of s_int rfl)) (ss_cons (u_set C 3 (by decide +kernel) rfl (u_idx C (u_b C 0 (by decide +kernel)) (u_op C (o := .sub) rfl (u_b C 3 (by decide +kernel)) (SB.of s_int rfl)) rfl))
 (ss_cons (u_app C 2 (by decide +kernel) (u_v C 3 (by decide +kernel)) rfl rfl rfl rfl rfl)
 ss_nil)))
 (ss_cons (ss_ret (u_bt C .tuple rfl (by decide +kernel) (by decide +kernel) (s_consB (u_b C 2 (by decide +kernel)) s_nilB rfl) rfl))
 ss_nil)))))
theorem der_11 (h : mod.obsK K = mod.val) (hO : Trk O H0) (C : Sc (mod.cfg K w mg base) T (k + 2) W n11 (defScope (mod.stm 21)) (fun _ => true) X) (hsub : T.sub = mod.subB) (fr : Fr2 X) : SSs (mod.cfg K w mg base) O H0 none W T X (defBody (mod.stm 21)) b11 :=
 (ss_cons (u_set C 2 (by decide +kernel) rfl (u_op C (o := .add) rfl (SB.of (s_tup (s_cons (u_v C 1 (by decide +kernel)) s_nil rfl) (by decide)) rfl) (SB.of (u_call C 10 fj_10 rfl (by decide +kernel) (s_consC (u_b C 0 (by decide +kernel)) (s_consC (u_b C 1 (by decide +kernel)) s_nilC rfl) rfl) rfl rfl) rfl)))
 (ss_cons (ss_ret (u_bt C .tuple rfl (by decide +kernel) (by decide +kernel) (s_consB (SB.of (u_bf C .sorted rfl (by decide +kernel) (by decide +kernel) (s_consB (SB.of (u_comp C (own := [("at", 3)]) rfl (by decide +kernel) rfl (fun _ => rfl) (u_iof C (u_b C 2 (by decide +kernel))) (fun hot _ _ C => (u_gn C 3 (by decide +kernel))) (fun _ _ C => (u_if1 (u_cmpT C (o := .gt) rfl rfl (u_b C 3 (by decide +kernel)) (SB.of s_int rfl)))) (fun _ _ C => (u_v C 3 (by decide +kernel)))) rfl) s_nilB rfl) rfl) rfl) s_nilB rfl) rfl))
 ss_nil))
theorem der_12 (h : mod.obsK K = mod.val) (hO : Trk O H0) (C : Sc (mod.cfg K w mg base) T (k + 2) W n12 (defScope (mod.stm 22)) (fun _ => true) X) (hsub : T.sub = mod.subB) (fr : Fr2 X) : SSs (mod.cfg K w mg base) O H0 none W T X (defBody (mod.stm 22)) b12 :=
 (ss_cons (ss_ex (u_call C 7 fj_7 rfl (by decide +kernel) (s_consC (SB.of (u_call C 5 fj_5 rfl (by decide +kernel) (s_consC (u_b C 0 (by decide +kernel)) (s_consC (u_b C 1 (by decide +kernel)) s_nilC rfl) rfl) rfl rfl) rfl) (s_consC (SB.of (u_str (by decide +kernel)) rfl) s_nilC rfl) rfl) rfl rfl) rfl)
 (ss_cons (ss_ex (u_call C 7 fj_7 rfl (by decide +kernel) (s_consC (SB.of (u_call C 5 fj_5 rfl (by decide +kernel) (s_consC (u_b C 0 (by decide +kernel)) (s_consC (u_b C 2 (by decide +kernel)) s_nilC rfl) rfl) rfl rfl) rfl) (s_consC (SB.of (u_str (by decide +kernel)) rfl) s_nilC rfl) rfl) rfl rfl) rfl)
 (ss_cons (ss_ret (u_cmp C (o := .isin) rfl rfl (u_b C 1 (by decide +kernel)) (SB.of (u_call C 10 fj_10 rfl (by decide +kernel) (s_consC (u_b C 0 (by decide +kernel)) (s_consC (u_b C 2 (by decide +kernel)) s_nilC rfl) rfl) rfl rfl) rfl)))
 ss_nil)))
theorem der_13 (h : mod.obsK K = mod.val) (hO : Trk O H0) (C : Sc (mod.cfg K w mg base) T (k + 2) W n13 (defScope (mod.stm 23)) (fun _ => true) X) (hsub : T.sub = mod.subB) (fr : Fr2 X) : SSs (mod.cfg K w mg base) O H0 none W T X (defBody (mod.stm 23)) b13 :=
 (ss_cons (ss_ex (u_call C 7 fj_7 rfl (by decide +kernel) (s_consC (SB.of (u_call C 5 fj_5 rfl (by decide +kernel) (s_consC (u_b C 0 (by decide +kernel)) (s_consC (u_b C 1 (by decide +kernel)) s_nilC rfl) rfl) rfl rfl) rfl) (s_consC (SB.of (u_str (by decide +kernel)) rfl) s_nilC rfl) rfl) rfl rfl) rfl)
 (ss_cons (ss_ex (u_call C 7 fj_7 rfl (by decide +kernel) (s_consC (SB.of (u_call C 5 fj_5 rfl (by decide +kernel) (s_consC (u_b C 0 (by decide +kernel)) (s_consC (u_b C 2 (by decide +kernel)) s_nilC rfl) rfl) rfl rfl) rfl) (s_consC (SB.of (u_str (by decide +kernel)) rfl) s_nilC rfl) rfl) rfl rfl) rfl)
 (ss_cons (u_set C 3 (by decide +kernel) rfl (u_op C (o := .add) rfl (SB.of (s_tup (s_cons (u_v C 1 (by decide +kernel)) s_nil rfl) (by decide)) rfl) (SB.of (u_call C 10 fj_10 rfl (by decide +kernel) (s_consC (u_b C 0 (by decide +kernel)) (s_consC (u_b C 1 (by decide +kernel)) s_nilC rfl) rfl) rfl rfl) rfl)))
 (ss_cons (u_set C 4 (by decide +kernel) rfl (u_op C (o := .add) rfl (SB.of (s_tup (s_cons (u_v C 2 (by decide +kernel)) s_nil rfl) (by decide)) rfl) (SB.of (u_call C 10 fj_10 rfl (by decide +kernel) (s_consC (u_b C 0 (by decide +kernel)) (s_consC (u_b C 2 (by decide +kernel)) s_nilC rfl) rfl) rfl rfl) rfl)))
 (ss_cons (ss_ret (u_bf C .max1 rfl (by decide +kernel) (by decide +kernel) (s_consB (SB.of (u_comp C (own := [("version", 5)]) rfl (by decide +kernel) rfl (fun _ => rfl) (u_iof C (u_b C 3 (by decide +kernel))) (fun hot _ _ C => (u_gn C 5 (by decide +kernel))) (fun _ _ C => (u_if1 (u_cmpT C (o := .isin) rfl rfl (u_b C 5 (by decide +kernel)) (u_b C 4 (by decide +kernel))))) (fun _ _ C => (u_v C 5 (by decide +kernel)))) rfl) s_nilB rfl) rfl))
 ss_nil)))))
theorem der_14 (h : mod.obsK K = mod.val) (hO : Trk O H0) (C : Sc (mod.cfg K w mg base) T (k + 2) W n14 (defScope (mod.stm 24)) (fun _ => true) X) (hsub : T.sub = mod.subB) (fr : Fr2 X) : SSs (mod.cfg K w mg base) O H0 none W T X (defBody (mod.stm 24)) b14 :=
 (ss_cons (ss_ret (u_bf C .len rfl (by decide +kernel) (by decide +kernel) (s_consB (SB.of (u_call C 10 fj_10 rfl (by decide +kernel) (s_consC (u_b C 0 (by decide +kernel)) (s_consC (u_b C 1 (by decide +kernel)) s_nilC rfl) rfl) rfl rfl) rfl) s_nilB rfl) rfl))
 ss_nil)
theorem der_15 (h : mod.obsK K = mod.val) (hO : Trk O H0) (C : Sc (mod.cfg K w mg base) T (k + 2) W n15 (defScope (mod.stm 25)) (fun _ => true) X) (hsub : T.sub = mod.subB) (fr : Fr2 X) : SSs (mod.cfg K w mg base) O H0 none W T X (defBody (mod.stm 25)) b15 :=
 (ss_cons (ss_ret (u_bf C .max1 rfl (by decide +kernel) (by decide +kernel) (s_consB (SB.of (u_compR C (own := [("version", 1)]) (by decide +kernel) rfl (by decide +kernel) rfl (u_op C (o := .add) rfl (SB.of (u_bf C .len rfl (by decide +kernel) (by decide +kernel) (s_consB (u_b C 0 (by decide +kernel)) s_nilB rfl) rfl) rfl) (SB.of s_int rfl)) (fun _ _ C => (u_gn C 1 (by decide +kernel))) (fun _ _ C => (u_ifn _)) (fun _ _ C => (u_call C 14 fj_14 rfl (by decide +kernel) (s_consC (u_b C 0 (by decide +kernel)) (s_consC (u_b C 1 (by decide +kernel)) s_nilC rfl) rfl) rfl rfl))) rfl) s_nilB rfl) rfl))
 ss_nil)
theorem der_16 (h : mod.obsK K = mod.val) (hO : Trk O H0) (C : Sc (mod.cfg K w mg base) T (k + 2) W n16 (defScope (mod.stm 27)) (fun _ => true) X) (hsub : T.sub = mod.subB) (fr : Fr2 X) : SSs (mod.cfg K w mg base) O H0 none W T X (defBody (mod.stm 27)) b16 :=
 (ss_cons (ss_ife (s_notT (u_tru C (SB.of (u_isi C .tuple (by decide +kernel) (by decide +kernel) (by decide +kernel) (u_b C 0 (by decide +kernel)) rfl) rfl) (fun _ => rfl))) (ss_cons (u_raise C 3 cj_3 rfl rfl (by decide +kernel) rfl (by decide) rfl (s_cons (u_str (by decide +kernel)) (s_cons (s_neg (SB.of s_int rfl)) s_nil rfl) rfl))
 ss_nil) ss_nil)
 (ss_cons (u_for C (fun _ => rfl) (u_ienum C (by decide +kernel) (u_b C 0 (by decide +kernel)) rfl) (fun hot => (u_gt C hot (u_gsc C 1 (by decide +kernel) (u_gsc C 2 (by decide +kernel) u_gsn)) rfl rfl)) (ss_cons (ss_ife (s_notT (u_tru C (SB.of (u_call C 3 fj_3 rfl (by decide +kernel) (s_consC (u_b C 1 (by decide +kernel)) (s_consC (u_b C 2 (by decide +kernel)) s_nilC rfl) rfl) rfl rfl) rfl) (fun _ => rfl))) (ss_cons (u_raise C 3 cj_3 rfl rfl (by decide +kernel) rfl (by decide) rfl (s_cons (u_str (by decide +kernel)) (s_cons (u_v C 1 (by decide +kernel)) s_nil rfl) rfl))
 ss_nil) ss_nil)
 ss_nil))
 (ss_cons (ss_ret (u_bf C .len rfl (by decide +kernel) (by decide +kernel) (s_consB (u_b C 0 (by decide +kernel)) s_nilB rfl) rfl))
 ss_nil)))
theorem der_17 (h : mod.obsK K = mod.val) (hO : Trk O H0) (C : Sc (mod.cfg K w mg base) T (k + 2) W n17 (defScope (mod.stm 29)) (fun _ => true) X) (hsub : T.sub = mod.subB) (fr : Fr2 X) : SSs (mod.cfg K w mg base) O H0 none W T X (defBody (mod.stm 29)) b17 :=
 (ss_cons (ss_ex (u_call C 7 fj_7 rfl (by decide +kernel) (s_consC (SB.of (u_call C 5 fj_5 rfl (by decide +kernel) (s_consC (u_b C 0 (by decide +kernel)) (s_consC (u_b C 1 (by decide +kernel)) s_nilC rfl) rfl) rfl rfl) rfl) (s_consC (SB.of (u_str (by decide +kernel)) rfl) s_nilC rfl) rfl) rfl rfl) rfl)
 (ss_cons (ss_ret (u_bt C .tuple rfl (by decide +kernel) (by decide +kernel) (s_consB (SB.of (u_comp C (own := [("index", 2), ("parent", 3)]) rfl (by decide +kernel) rfl (fun _ => rfl) (u_ienum C (by decide +kernel) (u_b C 0 (by decide +kernel)) rfl) (fun hot _ _ C => (u_gt C hot (u_gsc C 2 (by decide +kernel) (u_gsc C 3 (by decide +kernel) u_gsn)) rfl rfl)) (fun _ _ C => (u_if1 (u_cmpT C (o := .eq) rfl rfl (u_b C 3 (by decide +kernel)) (u_b C 1 (by decide +kernel))))) (fun _ _ C => (u_op C (o := .add) rfl (u_b C 2 (by decide +kernel)) (SB.of s_int rfl)))) rfl) s_nilB rfl) rfl))
 ss_nil))
theorem der_18 (h : mod.obsK K = mod.val) (hO : Trk O H0) (C : Sc (mod.cfg K w mg base) T (k + 2) W n18 (defScope (mod.stm 30)) (fun _ => true) X) (hsub : T.sub = mod.subB) (fr : Fr2 X) : SSs (mod.cfg K w mg base) O H0 none W T X (defBody (mod.stm 30)) b18 :=
 (ss_cons (ss_ex (u_call C 7 fj_7 rfl (by decide +kernel) (s_consC (SB.of (u_call C 5 fj_5 rfl (by decide +kernel) (s_consC (u_b C 0 (by decide +kernel)) (s_consC (u_b C 1 (by decide +kernel)) s_nilC rfl) rfl) rfl rfl) rfl) (s_consC (SB.of (u_str (by decide +kernel)) rfl) s_nilC rfl) rfl) rfl rfl) rfl)
 (ss_cons (u_set C 2 (by decide +kernel) rfl (u_rgO C (by decide +kernel) (u_op C (o := .add) rfl (u_b C 1 (by decide +kernel)) (SB.of s_int rfl)) (u_op C (o := .add) rfl (SB.of (u_bf C .len rfl (by decide +kernel) (by decide +kernel) (s_consB (u_b C 0 (by decide +kernel)) s_nilB rfl) rfl) rfl) (SB.of s_int rfl)) rfl rfl))
 (ss_cons (ss_ret (u_op C (o := .add) rfl (SB.of (s_tup (s_cons (u_v C 1 (by decide +kernel)) s_nil rfl) (by decide)) rfl) (SB.of (u_bt C .tuple rfl (by decide +kernel) (by decide +kernel) (s_consB (SB.of (u_comp C (own := [("at", 3)]) rfl (by decide +kernel) rfl (fun _ => rfl) (u_iof C (u_b C 2 (by decide +kernel))) (fun hot _ _ C => (u_gn C 3 (by decide +kernel))) (fun _ _ C => (u_if1 (u_tru C (SB.of (u_call C 12 fj_12 rfl (by decide +kernel) (s_consC (u_b C 0 (by decide +kernel)) (s_consC (u_b C 1 (by decide +kernel)) (s_consC (u_b C 3 (by decide +kernel)) s_nilC rfl) rfl) rfl) rfl rfl) rfl) (fun _ => rfl)))) (fun _ _ C => (u_v C 3 (by decide +kernel)))) rfl) s_nilB rfl) rfl) rfl)))
 ss_nil)))
theorem der_19 (h : mod.obsK K = mod.val) (hO : Trk O H0) (C : Sc (mod.cfg K w mg base) T (k + 2) W n19 (defScope (mod.stm 31)) (fun _ => true) X) (hsub : T.sub = mod.subB) (fr : Fr2 X) : SSs (mod.cfg K w mg base) O H0 none W T X (defBody (mod.stm 31)) b19 :=
 (ss_cons (ss_ret (u_bt C .tuple rfl (by decide +kernel) (by decide +kernel) (s_consB (SB.of (u_compR C (own := [("version", 1)]) (by decide +kernel) rfl (by decide +kernel) rfl (u_op C (o := .add) rfl (SB.of (u_bf C .len rfl (by decide +kernel) (by decide +kernel) (s_consB (u_b C 0 (by decide +kernel)) s_nilB rfl) rfl) rfl) (SB.of s_int rfl)) (fun _ _ C => (u_gn C 1 (by decide +kernel))) (fun _ _ C => (u_if1 (u_cmpT C (o := .notin) rfl rfl (u_b C 1 (by decide +kernel)) (u_b C 0 (by decide +kernel))))) (fun _ _ C => (u_v C 1 (by decide +kernel)))) rfl) s_nilB rfl) rfl))
 ss_nil)
theorem der_20 (h : mod.obsK K = mod.val) (hO : Trk O H0) (C : Sc (mod.cfg K w mg base) T (k + 2) W n20 (defScope (mod.stm 32)) (fun _ => true) X) (hsub : T.sub = mod.subB) (fr : Fr2 X) : SSs (mod.cfg K w mg base) O H0 none W T X (defBody (mod.stm 32)) b20 :=
 (ss_cons (ss_ret (u_cmp C (o := .eq) rfl rfl (u_b C 0 (by decide +kernel)) (SB.of (u_rgL1 C true rfl (by decide +kernel) (by decide +kernel) (u_bf C .len rfl (by decide +kernel) (by decide +kernel) (s_consB (u_b C 0 (by decide +kernel)) s_nilB rfl) rfl) rfl) rfl)))
 ss_nil)
theorem der_21 (h : mod.obsK K = mod.val) (hO : Trk O H0) (C : Sc (mod.cfg K w mg base) T (k + 2) W n21 (defScope (mod.stm 34)) (fun _ => true) X) (hsub : T.sub = mod.subB) (fr : Fr2 X) : SSs (mod.cfg K w mg base) O H0 none W T X (defBody (mod.stm 34)) b21 :=
 (ss_cons (u_set C 1 (by decide +kernel) rfl (u_op C (o := .mod) rfl (SB.of (u_bt C .int rfl (by decide +kernel) (by decide +kernel) (s_consB (SB.of (u_op C (o := .mul) rfl (u_b C 0 (by decide +kernel)) (SB.of (u_op C (o := .add) rfl (SB.of (u_op C (o := .mod) rfl (SB.of (u_bt C .int rfl (by decide +kernel) (by decide +kernel) (s_consB (SB.of (u_op C (o := .fdiv) rfl (u_b C 0 (by decide +kernel)) (SB.of s_int rfl)) rfl) s_nilB rfl) rfl) rfl) (SB.of s_int rfl)) rfl) (SB.of s_int rfl)) rfl)) rfl) s_nilB rfl) rfl) rfl) (SB.of s_int rfl)))
 (ss_cons (ss_ret (u_op C (o := .mod) rfl (SB.of (u_bt C .int rfl (by decide +kernel) (by decide +kernel) (s_consB (SB.of (u_op C (o := .fdiv) rfl (SB.of (u_op C (o := .mod) rfl (SB.of (u_bt C .int rfl (by decide +kernel) (by decide +kernel) (s_consB (SB.of (u_op C (o := .mul) rfl (u_b C 1 (by decide +kernel)) (SB.of (u_op C (o := .add) rfl (SB.of (u_op C (o := .mod) rfl (SB.of (u_bt C .int rfl (by decide +kernel) (by decide +kernel) (s_consB (SB.of (u_op C (o := .fdiv) rfl (u_b C 1 (by decide +kernel)) (SB.of s_int rfl)) rfl) s_nilB rfl) rfl) rfl) (SB.of s_int rfl)) rfl) (SB.of s_int rfl)) rfl)) rfl) s_nilB rfl) rfl) rfl) (SB.of s_int rfl)) rfl) (SB.of s_int rfl)) rfl) s_nilB rfl) rfl) rfl) (SB.of s_int rfl)))
 ss_nil))
theorem der_22 (h : mod.obsK K = mod.val) (hO : Trk O H0) (C : Sc (mod.cfg K w mg base) T (k + 2) W n22 (defScope (mod.stm 35)) (fun _ => true) X) (hsub : T.sub = mod.subB) (fr : Fr2 X) : SSs (mod.cfg K w mg base) O H0 none W T X (defBody (mod.stm 35)) b22 :=
 (ss_cons (u_setOwn C 2 (by decide +kernel) rfl (f_lst s_nil (by decide)))
 (ss_cons (u_set C 3 (by decide +kernel) rfl s_int)
 (ss_cons (u_for C (fun _ => rfl) (u_iof C (u_b C 0 (by decide +kernel))) (fun hot => (u_gn C 4 (by decide +kernel))) (ss_cons (u_set C 6 (by decide +kernel) rfl (u_bt C .int rfl (by decide +kernel) (by decide +kernel) (s_consB (u_b C 4 (by decide +kernel)) s_nilB rfl) rfl))
 (ss_cons (u_set C 3 (by decide +kernel) rfl (u_op C (o := .mod) rfl (SB.of (u_bt C .int rfl (by decide +kernel) (by decide +kernel) (s_consB (SB.of (u_op C (o := .add) rfl (SB.of (u_op C (o := .add) rfl (SB.of (u_op C (o := .mul) rfl (u_b C 3 (by decide +kernel)) (SB.of s_int rfl)) rfl) (SB.of (u_op C (o := .mod) rfl (SB.of (u_bt C .int rfl (by decide +kernel) (by decide +kernel) (s_consB (u_b C 6 (by decide +kernel)) s_nilB rfl) rfl) rfl) (SB.of s_int rfl)) rfl)) rfl) (SB.of s_int rfl)) rfl) s_nilB rfl) rfl) rfl) (SB.of s_int rfl)))
 (ss_cons (ss_ife (u_w (s_and (u_cmpT C (o := .lt) rfl rfl (u_b C 6 (by decide +kernel)) (SB.of (u_op C (o := .pow) rfl (SB.of s_int rfl) (SB.of s_int rfl)) rfl)) (u_and1 (u_cmpT C (o := .lt) rfl rfl (SB.of (u_bf C .len rfl (by decide +kernel) (by decide +kernel) (s_consB (u_b C 2 (by decide +kernel)) s_nilB rfl) rfl) rfl) (u_b C 1 (by decide +kernel)))))) (ss_cons (u_app C 2 (by decide +kernel) (u_call C 21 fj_21 rfl (by decide +kernel) (s_consC (u_b C 3 (by decide +kernel)) s_nilC rfl) rfl rfl) rfl rfl rfl rfl rfl)
 ss_nil) ss_nil)
 (ss_cons (ss_ife (u_cmpT C (o := .ge) rfl rfl (u_b C 6 (by decide +kernel)) (SB.of (u_op C (o := .pow) rfl (SB.of s_int rfl) (SB.of s_int rfl)) rfl)) (ss_cons (u_for C (fun _ => rfl) (u_ir1 C (by decide +kernel) s_int rfl) (fun hot => (u_gn C 5 (by decide +kernel))) (ss_cons (ss_ife (u_w (s_and (u_cmpT C (o := .gt) rfl rfl (u_b C 6 (by decide +kernel)) (SB.of s_int rfl)) (u_and1 (u_cmpT C (o := .lt) rfl rfl (SB.of (u_bf C .len rfl (by decide +kernel) (by decide +kernel) (s_consB (u_b C 2 (by decide +kernel)) s_nilB rfl) rfl) rfl) (u_b C 1 (by decide +kernel)))))) (ss_cons (u_app C 2 (by decide +kernel) (u_op C (o := .mod) rfl (SB.of (u_bt C .int rfl (by decide +kernel) (by decide +kernel) (s_consB (u_b C 6 (by decide +kernel)) s_nilB rfl) rfl) rfl) (SB.of s_int rfl)) rfl rfl rfl rfl rfl)
 (ss_cons (u_set C 6 (by decide +kernel) rfl (u_op C (o := .fdiv) rfl (u_b C 6 (by decide +kernel)) (SB.of s_int rfl)))
 ss_nil)) ss_nil)
 ss_nil))
 ss_nil) ss_nil)
 ss_nil)))))
 (ss_cons (u_for C (fun _ => rfl) (u_ir1 C (by decide +kernel) (u_v C 1 (by decide +kernel)) rfl) (fun hot => (u_gn C 5 (by decide +kernel))) (ss_cons (ss_ife (u_cmpT C (o := .lt) rfl rfl (SB.of (u_bf C .len rfl (by decide +kernel) (by decide +kernel) (s_consB (u_b C 2 (by decide +kernel)) s_nilB rfl) rfl) rfl) (u_b C 1 (by decide +kernel))) (ss_cons (u_set C 3 (by decide +kernel) rfl (u_op C (o := .mod) rfl (SB.of (u_bt C .int rfl (by decide +kernel) (by decide +kernel) (s_consB (SB.of (u_op C (o := .mul) rfl (u_b C 3 (by decide +kernel)) (SB.of s_int rfl)) rfl) s_nilB rfl) rfl) rfl) (SB.of s_int rfl)))
 (ss_cons (u_app C 2 (by decide +kernel) (u_call C 21 fj_21 rfl (by decide +kernel) (s_consC (u_b C 3 (by decide +kernel)) s_nilC rfl) rfl rfl) rfl rfl rfl rfl rfl)
 ss_nil)) ss_nil)
 ss_nil))
 (ss_cons (u_retO C hO 2 (by decide +kernel))
 ss_nil)))))
theorem der_23 (h : mod.obsK K = mod.val) (hO : Trk O H0) (C : Sc (mod.cfg K w mg base) T (k + 2) W n23 (defScope (mod.stm 36)) (fun _ => true) X) (hsub : T.sub = mod.subB) (fr : Fr2 X) : SSs (mod.cfg K w mg base) O H0 none W T X (defBody (mod.stm 36)) b23 :=
 (ss_cons (ss_ife (u_tru C (SB.of (u_isi C .tuple (by decide +kernel) (by decide +kernel) (by decide +kernel) (u_b C 1 (by decide +kernel)) rfl) rfl) (fun _ => rfl)) (ss_cons (ss_ife (u_w (s_or (s_notT (u_tru C (SB.of (u_isi C .tuple (by decide +kernel) (by decide +kernel) (by decide +kernel) (u_b C 0 (by decide +kernel)) rfl) rfl) (fun _ => rfl))) (u_or1 (u_cmpT C (o := .ne) rfl rfl (SB.of (u_bf C .len rfl (by decide +kernel) (by decide +kernel) (s_consB (u_b C 0 (by decide +kernel)) s_nilB rfl) rfl) rfl) (SB.of (u_bf C .len rfl (by decide +kernel) (by decide +kernel) (s_consB (u_b C 1 (by decide +kernel)) s_nilB rfl) rfl) rfl))))) (ss_cons (ss_ret s_bl)
 ss_nil) ss_nil)
 (ss_cons (ss_ret (u_bf C .all rfl (by decide +kernel) (by decide +kernel) (s_consB (SB.of (u_compR C (own := [("_law_k", 2)]) (by decide +kernel) rfl (by decide +kernel) rfl (u_bf C .len rfl (by decide +kernel) (by decide +kernel) (s_consB (u_b C 1 (by decide +kernel)) s_nilB rfl) rfl) (fun _ _ C => (u_gn C 2 (by decide +kernel))) (fun _ _ C => (u_ifn _)) (fun _ _ C => (u_call C 23 fj_23 rfl (by decide +kernel) (s_consC (SB.of (u_idx C (u_b C 0 (by decide +kernel)) (u_v C 2 (by decide +kernel)) rfl) rfl) (s_consC (SB.of (u_idx C (u_b C 1 (by decide +kernel)) (u_v C 2 (by decide +kernel)) rfl) rfl) s_nilC rfl) rfl) rfl rfl))) rfl) s_nilB rfl) rfl))
 ss_nil)) ss_nil)
 (ss_cons (ss_ife (u_tru C (SB.of (u_isi C .str (by decide +kernel) (by decide +kernel) (by decide +kernel) (u_b C 1 (by decide +kernel)) rfl) rfl) (fun _ => rfl)) (ss_cons (ss_ret (u_andV C (u_isi C .str (by decide +kernel) (by decide +kernel) (by decide +kernel) (u_b C 0 (by decide +kernel)) rfl) (u_one (u_cmp C (o := .eq) rfl rfl (u_b C 0 (by decide +kernel)) (u_b C 1 (by decide +kernel))))))
 ss_nil) ss_nil)
 (ss_cons (ss_ife (u_w (s_or (s_isNT (u_b C 1 (by decide +kernel))) (u_or1 (u_cmpT C (o := .ne) rfl rfl (SB.of (u_isi C .bool (by decide +kernel) (by decide +kernel) (by decide +kernel) (u_b C 0 (by decide +kernel)) rfl) rfl) (SB.of (u_isi C .bool (by decide +kernel) (by decide +kernel) (by decide +kernel) (u_b C 1 (by decide +kernel)) rfl) rfl))))) (ss_cons (ss_ret (u_andV C (s_isN (u_b C 1 (by decide +kernel))) (u_one (s_isN (u_b C 0 (by decide +kernel))))))
 ss_nil) ss_nil)
 (ss_cons (ss_ret (u_andV C (u_isi C .int (by decide +kernel) (by decide +kernel) (by decide +kernel) (u_b C 0 (by decide +kernel)) rfl) (u_one (u_cmp C (o := .eq) rfl rfl (u_b C 0 (by decide +kernel)) (u_b C 1 (by decide +kernel))))))
 ss_nil))))
theorem der_24 (h : mod.obsK K = mod.val) (hO : Trk O H0) (C : Sc (mod.cfg K w mg base) T (k + 2) W n24 (defScope (mod.stm 37)) (fun _ => true) X) (hsub : T.sub = mod.subB) (fr : Fr2 X) : SSs (mod.cfg K w mg base) O H0 none W T X (defBody (mod.stm 37)) b24 :=
 (ss_cons (u_setOwn C 3 (by decide +kernel) rfl (f_lst s_nil (by decide)))
 (ss_cons (u_for C (fun _ => rfl) (u_ir2 C (by decide +kernel) s_int (u_op C (o := .add) rfl (u_b C 1 (by decide +kernel)) (SB.of s_int rfl)) rfl rfl) (fun hot => (u_gn C 4 (by decide +kernel))) (ss_cons (ss_ife (u_cmpT C (o := .eq) rfl rfl (u_b C 2 (by decide +kernel)) (SB.of s_int rfl)) (ss_cons (u_app C 3 (by decide +kernel) (u_op C (o := .sub) rfl (u_b C 4 (by decide +kernel)) (SB.of s_int rfl)) rfl rfl rfl rfl rfl)
 ss_nil) (ss_cons (ss_ife (u_cmpT C (o := .eq) rfl rfl (u_b C 2 (by decide +kernel)) (SB.of s_int rfl)) (ss_cons (u_app C 3 (by decide +kernel) (u_bf C .min2 rfl (by decide +kernel) (by decide +kernel) (s_consB (SB.of (u_op C (o := .sub) rfl (u_b C 4 (by decide +kernel)) (SB.of s_int rfl)) rfl) (s_consB (SB.of (u_op C (o := .mod) rfl (SB.of (u_bt C .int rfl (by decide +kernel) (by decide +kernel) (s_consB (SB.of (u_idx C (u_b C 0 (by decide +kernel)) s_int rfl) rfl) s_nilB rfl) rfl) rfl) (SB.of s_int rfl)) rfl) s_nilB rfl) rfl) rfl) rfl rfl rfl rfl rfl)
 ss_nil) (ss_cons (ss_ife (u_cmpT C (o := .eq) rfl rfl (u_b C 2 (by decide +kernel)) (SB.of s_int rfl)) (ss_cons (u_app C 3 (by decide +kernel) (u_bf C .max2 rfl (by decide +kernel) (by decide +kernel) (s_consB (SB.of s_int rfl) (s_consB (SB.of (u_op C (o := .sub) rfl (SB.of (u_op C (o := .sub) rfl (u_b C 4 (by decide +kernel)) (SB.of s_int rfl)) rfl) (SB.of (u_op C (o := .mod) rfl (SB.of (u_bt C .int rfl (by decide +kernel) (by decide +kernel) (s_consB (SB.of (u_idx C (u_b C 0 (by decide +kernel)) (u_op C (o := .sub) rfl (u_b C 4 (by decide +kernel)) (SB.of s_int rfl)) rfl) rfl) s_nilB rfl) rfl) rfl) (SB.of s_int rfl)) rfl)) rfl) s_nilB rfl) rfl) rfl) rfl rfl rfl rfl rfl)
 ss_nil) (ss_cons (ss_ife (u_cmpT C (o := .eq) rfl rfl (u_b C 2 (by decide +kernel)) (SB.of s_int rfl)) (ss_cons (u_app C 3 (by decide +kernel) (u_op C (o := .fdiv) rfl (u_b C 4 (by decide +kernel)) (SB.of s_int rfl)) rfl rfl rfl rfl rfl)
 ss_nil) (ss_cons (u_app C 3 (by decide +kernel) (u_op C (o := .mod) rfl (SB.of (u_bt C .int rfl (by decide +kernel) (by decide +kernel) (s_consB (SB.of (u_idx C (u_b C 0 (by decide +kernel)) (u_op C (o := .sub) rfl (u_b C 4 (by decide +kernel)) (SB.of s_int rfl)) rfl) rfl) s_nilB rfl) rfl) rfl) (u_b C 4 (by decide +kernel))) rfl rfl rfl rfl rfl)
 ss_nil))
 ss_nil))
 ss_nil))
 ss_nil))
 ss_nil))
 (ss_cons (ss_ret (u_bt C .tuple rfl (by decide +kernel) (by decide +kernel) (s_consB (u_b C 3 (by decide +kernel)) s_nilB rfl) rfl))
 ss_nil)))
theorem der_25 (h : mod.obsK K = mod.val) (hO : Trk O H0) (C : Sc (mod.cfg K w mg base) T (k + 2) W n25 (defScope (mod.stm 38)) (fun _ => true) X) (hsub : T.sub = mod.subB) (fr : Fr2 X) : SSs (mod.cfg K w mg base) O H0 none W T X (defBody (mod.stm 38)) b25 :=
 (ss_cons (u_setOwn C 1 (by decide +kernel) rfl (f_lst (s_cons (s_lst s_nil (by decide)) s_nil rfl) (by decide)))
 (ss_cons (u_for C (fun _ => rfl) (u_iof C (u_b C 0 (by decide +kernel))) (fun hot => (u_gn C 2 (by decide +kernel))) (ss_cons (u_app C 1 (by decide +kernel) (u_op C (o := .add) rfl (SB.of (s_lst (s_cons (u_v C 2 (by decide +kernel)) s_nil rfl) (by decide)) rfl) (SB.of (u_idx C (u_b C 1 (by decide +kernel)) (u_v C 2 (by decide +kernel)) rfl) rfl)) rfl rfl rfl rfl rfl)
 ss_nil))
 (ss_cons (u_retO C hO 1 (by decide +kernel))
 ss_nil)))
theorem der_26 (h : mod.obsK K = mod.val) (hO : Trk O H0) (C : Sc (mod.cfg K w mg base) T (k + 2) W n26 (defScope (mod.stm 39)) (fun _ => true) X) (hsub : T.sub = mod.subB) (fr : Fr2 X) : SSs (mod.cfg K w mg base) O H0 none W T X (defBody (mod.stm 39)) b26 :=
 (ss_cons (u_set C 2 (by decide +kernel) rfl (u_op C (o := .mod) rfl (SB.of (u_bt C .int rfl (by decide +kernel) (by decide +kernel) (s_consB (SB.of (u_idx C (u_b C 0 (by decide +kernel)) s_int rfl) rfl) s_nilB rfl) rfl) rfl) (SB.of s_int rfl)))
 (ss_cons (u_set C 3 (by decide +kernel) rfl (u_bt C .list rfl (by decide +kernel) (by decide +kernel) (s_consB (u_b C 1 (by decide +kernel)) s_nilB rfl) rfl))
 (ss_cons (ss_ife (u_cmpT C (o := .lt) rfl rfl (u_b C 2 (by decide +kernel)) (SB.of s_int rfl)) (ss_cons (u_setC C (own := [("_law_k", 4)]) 3 (by decide +kernel) (by decide +kernel) (by decide +kernel) (by decide +kernel) (by decide +kernel) rfl (fun _ => rfl) (u_ir1 C (by decide +kernel) (u_op C (o := .add) rfl (SB.of s_int rfl) (SB.of (u_op C (o := .mod) rfl (SB.of (u_bt C .int rfl (by decide +kernel) (by decide +kernel) (s_consB (SB.of (u_idx C (u_b C 0 (by decide +kernel)) s_int rfl) rfl) s_nilB rfl) rfl) rfl) (SB.of s_int rfl)) rfl)) rfl) (fun hot _ _ C => (u_gn C 4 (by decide +kernel))) (fun _ _ C => (u_ifn _)) (fun _ _ C => (u_bf C .max2 rfl (by decide +kernel) (by decide +kernel) (s_consB (SB.of s_int rfl) (s_consB (SB.of (u_op C (o := .sub) rfl (u_b C 4 (by decide +kernel)) (SB.of (u_op C (o := .mod) rfl (SB.of (u_bt C .int rfl (by decide +kernel) (by decide +kernel) (s_consB (SB.of (u_idx C (u_b C 0 (by decide +kernel)) s_int rfl) rfl) s_nilB rfl) rfl) rfl) (SB.of s_int rfl)) rfl)) rfl) s_nilB rfl) rfl) rfl)))
 ss_nil) ss_nil)
 (ss_cons (ss_ife (u_cmpT C (o := .eq) rfl rfl (u_b C 2 (by decide +kernel)) (SB.of s_int rfl)) (ss_cons (ss_ret (u_bt C .tuple rfl (by decide +kernel) (by decide +kernel) (s_consB (u_b C 3 (by decide +kernel)) s_nilB rfl) rfl))
 ss_nil) ss_nil)
 (ss_cons (ss_ife (u_cmpT C (o := .eq) rfl rfl (u_b C 2 (by decide +kernel)) (SB.of s_int rfl)) (ss_cons (ss_ret (u_v C 3 (by decide +kernel)))
 ss_nil) ss_nil)
 (ss_cons (ss_ife (u_cmpT C (o := .eq) rfl rfl (u_b C 2 (by decide +kernel)) (SB.of s_int rfl)) (ss_cons (ss_ret (u_idx C (SB.of (s_tup (s_cons s_non (s_cons s_int (s_cons (u_str (by decide +kernel)) (s_cons (u_str (by decide +kernel)) (s_cons s_bl (s_cons (s_lst (s_cons (u_v C 1 (by decide +kernel)) s_nil rfl) (by decide)) (s_cons s_int (s_cons s_int s_nil rfl) rfl) rfl) rfl) rfl) rfl) rfl) rfl) (by decide)) rfl) (u_op C (o := .mod) rfl (SB.of (u_bt C .int rfl (by decide +kernel) (by decide +kernel) (s_consB (SB.of (u_idx C (u_b C 0 (by decide +kernel)) s_int rfl) rfl) s_nilB rfl) rfl) rfl) (SB.of s_int rfl)) rfl))
 ss_nil) ss_nil)
 (ss_cons (ss_ife (u_cmpT C (o := .eq) rfl rfl (u_b C 2 (by decide +kernel)) (SB.of s_int rfl)) (ss_cons (ss_ret (u_v C 1 (by decide +kernel)))
 ss_nil) ss_nil)
 (ss_cons (u_for C (fun _ => rfl) (u_ir1 C (by decide +kernel) (u_op C (o := .add) rfl (SB.of s_int rfl) (SB.of (u_op C (o := .mod) rfl (SB.of (u_bt C .int rfl (by decide +kernel) (by decide +kernel) (s_consB (SB.of (u_idx C (u_b C 0 (by decide +kernel)) s_int rfl) rfl) s_nilB rfl) rfl) rfl) (SB.of s_int rfl)) rfl)) rfl) (fun hot => (u_gn C 4 (by decide +kernel))) (ss_cons (u_set C 5 (by decide +kernel) rfl (u_op C (o := .mod) rfl (SB.of (u_bt C .int rfl (by decide +kernel) (by decide +kernel) (s_consB (SB.of (u_idx C (u_b C 0 (by decide +kernel)) (u_op C (o := .add) rfl (SB.of s_int rfl) (u_b C 4 (by decide +kernel))) rfl) rfl) s_nilB rfl) rfl) rfl) (SB.of (u_op C (o := .add) rfl (SB.of (u_bf C .len rfl (by decide +kernel) (by decide +kernel) (s_consB (u_b C 3 (by decide +kernel)) s_nilB rfl) rfl) rfl) (SB.of s_int rfl)) rfl)))
 (ss_cons (u_set C 6 (by decide +kernel) rfl (u_idx C (SB.of (s_tup (s_cons (u_op C (o := .add) rfl (u_b C 5 (by decide +kernel)) (SB.of s_int rfl)) (s_cons (u_v C 5 (by decide +kernel)) (s_cons (s_neg (SB.of s_int rfl)) (s_cons s_bl (s_cons s_bl (s_cons s_non (s_cons (u_str (by decide +kernel)) (s_cons (s_tup (s_cons s_int s_nil rfl) (by decide)) (s_cons (u_op C (o := .pow) rfl (SB.of s_int rfl) (SB.of s_int rfl)) (s_cons (s_lst (s_cons s_int s_nil rfl) (by decide)) (s_cons (u_op C (o := .add) rfl (u_b C 5 (by decide +kernel)) (SB.of s_int rfl)) (s_cons s_int (s_cons (u_bf C .len rfl (by decide +kernel) (by decide +kernel) (s_consB (u_b C 3 (by decide +kernel)) s_nilB rfl) rfl) (s_cons (s_neg (u_b C 5 (by decide +kernel))) s_nil rfl) rfl) rfl) rfl) rfl) rfl) rfl) rfl) rfl) rfl) rfl) rfl) rfl) rfl) (by decide)) rfl) (u_op C (o := .mod) rfl (SB.of (u_bt C .int rfl (by decide +kernel) (by decide +kernel) (s_consB (SB.of (u_idx C (u_b C 0 (by decide +kernel)) (u_op C (o := .add) rfl (SB.of s_int rfl) (u_b C 4 (by decide +kernel))) rfl) rfl) s_nilB rfl) rfl) rfl) (SB.of s_int rfl)) rfl))
 (ss_cons (u_set C 3 (by decide +kernel) rfl (u_op C (o := .add) rfl (SB.of (u_op C (o := .add) rfl (SB.of (u_slc C (u_b C 3 (by decide +kernel)) s_oN (s_oS (u_v C 5 (by decide +kernel)))) rfl) (SB.of (s_lst (s_cons (u_v C 6 (by decide +kernel)) s_nil rfl) (by decide)) rfl)) rfl) (SB.of (u_slc C (u_b C 3 (by decide +kernel)) (s_oS (u_op C (o := .add) rfl (u_b C 5 (by decide +kernel)) (SB.of s_int rfl))) s_oN) rfl)))
 ss_nil))))
 (ss_cons (ss_ret (u_bt C .tuple rfl (by decide +kernel) (by decide +kernel) (s_consB (u_b C 3 (by decide +kernel)) s_nilB rfl) rfl))
 ss_nil)))))))))
theorem der_27 (h : mod.obsK K = mod.val) (hO : Trk O H0) (C : Sc (mod.cfg K w mg base) T (k + 2) W n27 (defScope (mod.stm 40)) (fun _ => true) X) (hsub : T.sub = mod.subB) (fr : Fr2 X) : SSs (mod.cfg K w mg base) O H0 none W T X (defBody (mod.stm 40)) b27 :=
 (ss_cons (ss_ife (s_notT (u_tru C (SB.of (u_isi C .tuple (by decide +kernel) (by decide +kernel) (by decide +kernel) (u_b C 0 (by decide +kernel)) rfl) rfl) (fun _ => rfl))) (ss_cons (ss_ret (s_tup (s_cons (u_str (by decide +kernel)) (s_cons (s_neg (SB.of s_int rfl)) s_nil rfl) rfl) (by decide)))
 ss_nil) ss_nil)
 (ss_cons (u_for C (fun _ => rfl) (u_ir1 C (by decide +kernel) (u_bf C .len rfl (by decide +kernel) (by decide +kernel) (s_consB (u_b C 0 (by decide +kernel)) s_nilB rfl) rfl) rfl) (fun hot => (u_gn C 1 (by decide +kernel))) (ss_cons (ss_ife (u_w (s_or (s_notT (u_tru C (SB.of (u_isi C .int (by decide +kernel) (by decide +kernel) (by decide +kernel) (SB.of (u_idx C (u_b C 0 (by decide +kernel)) (u_v C 1 (by decide +kernel)) rfl) rfl) rfl) rfl) (fun _ => rfl))) (s_or (u_tru C (SB.of (u_isi C .bool (by decide +kernel) (by decide +kernel) (by decide +kernel) (SB.of (u_idx C (u_b C 0 (by decide +kernel)) (u_v C 1 (by decide +kernel)) rfl) rfl) rfl) rfl) (fun _ => rfl)) (s_or (u_cmpT C (o := .lt) rfl rfl (SB.of (u_idx C (u_b C 0 (by decide +kernel)) (u_v C 1 (by decide +kernel)) rfl) rfl) (SB.of s_int rfl)) (u_or1 (u_cmpT C (o := .gt) rfl rfl (SB.of (u_idx C (u_b C 0 (by decide +kernel)) (u_v C 1 (by decide +kernel)) rfl) rfl) (u_b C 1 (by decide +kernel)))))))) (ss_cons (ss_ret (s_tup (s_cons (u_str (by decide +kernel)) (s_cons (u_v C 1 (by decide +kernel)) s_nil rfl) rfl) (by decide)))
 ss_nil) ss_nil)
 ss_nil))
 (ss_cons (ss_ret s_non)
 ss_nil)))
theorem der_28 (h : mod.obsK K = mod.val) (hO : Trk O H0) (C : Sc (mod.cfg K w mg base) T (k + 2) W n28 (defScope (mod.stm 41)) (fun _ => true) X) (hsub : T.sub = mod.subB) (fr : Fr2 X) : SSs (mod.cfg K w mg base) O H0 none W T X (defBody (mod.stm 41)) b28 :=
 (ss_cons (u_set C 1 (by decide +kernel) rfl (u_call C 27 fj_27 rfl (by decide +kernel) (s_consC (u_b C 0 (by decide +kernel)) s_nilC rfl) rfl rfl))
 (ss_cons (ss_ife (u_w (s_or (s_notT (u_tru C (SB.of (u_call C 23 fj_23 rfl (by decide +kernel) (s_consC (SB.of (u_call C 4 fj_4 rfl (by decide +kernel) (s_consC (u_b C 0 (by decide +kernel)) s_nilC rfl) rfl rfl) rfl) (s_consC (SB.of (s_isN (u_b C 1 (by decide +kernel))) rfl) s_nilC rfl) rfl) rfl rfl) rfl) (fun _ => rfl))) (u_or1 (s_notT (u_tru C (SB.of (u_call C 23 fj_23 rfl (by decide +kernel) (s_consC (SB.of (u_kw0 C 4 fj_4 rfl (kw_4_0_0 h) (by decide +kernel) (s_kcons (u_b C 0 (by decide +kernel)) s_knil) rfl rfl rfl rfl) rfl) (s_consC (SB.of (s_isN (u_b C 1 (by decide +kernel))) rfl) s_nilC rfl) rfl) rfl rfl) rfl) (fun _ => rfl)))))) (ss_cons (ss_ret s_bl)
 ss_nil) ss_nil)
 (ss_cons (u_try C fr (fun _ _ C => (ss_cons (u_set C 3 (by decide +kernel) rfl (u_call C 16 fj_16 rfl (by decide +kernel) (s_consC (u_b C 0 (by decide +kernel)) s_nilC rfl) rfl rfl))
 (ss_cons (ss_ret (u_andV C (s_isN (u_b C 1 (by decide +kernel))) (u_andV C (u_call C 23 fj_23 rfl (by decide +kernel) (s_consC (u_b C 3 (by decide +kernel)) (s_consC (SB.of (u_bf C .len rfl (by decide +kernel) (by decide +kernel) (s_consB (u_b C 0 (by decide +kernel)) s_nilB rfl) rfl) rfl) s_nilC rfl) rfl) rfl rfl) (u_one (u_call C 23 fj_23 rfl (by decide +kernel) (s_consC (SB.of (u_kw0 C 16 fj_16 rfl (kw_16_0_0 h) (by decide +kernel) (s_kcons (u_b C 0 (by decide +kernel)) s_knil) rfl rfl rfl rfl) rfl) (s_consC (SB.of (u_bf C .len rfl (by decide +kernel) (by decide +kernel) (s_consB (u_b C 0 (by decide +kernel)) s_nilB rfl) rfl) rfl) s_nilC rfl) rfl) rfl rfl)))))
 ss_nil))) (fun hot => (u_has C hot 3 2 cj_3 rfl (by decide +kernel) (by decide +kernel) (fun _ _ hs hx C => (ss_cons (ss_ife (s_isNT (u_b C 1 (by decide +kernel))) (ss_cons (ss_ret s_bl)
 ss_nil) ss_nil)
 (ss_cons (ss_ret (u_call C 23 fj_23 rfl (by decide +kernel) (s_consC (SB.of (s_tup (s_cons (u_exf C hx 2 0 (fl_3_0 _ (by rw [← hsub]; exact hs)) (by decide +kernel) rfl) (s_cons (u_exf C hx 2 1 (fl_3_1 _ (by rw [← hsub]; exact hs)) (by decide +kernel) rfl) (s_cons (u_exi C hx 2 1 cj_1 rfl (by decide +kernel) (by decide +kernel) (by decide +kernel)) (s_cons (u_exi C hx 2 2 cj_2 rfl (by decide +kernel) (by decide +kernel) (by decide +kernel)) s_nil rfl) rfl) rfl) rfl) (by decide)) rfl) (s_consC (SB.of (u_op C (o := .add) rfl (u_b C 1 (by decide +kernel)) (SB.of (s_tup (s_cons s_bl (s_cons s_bl s_nil rfl) rfl) (by decide)) rfl)) rfl) s_nilC rfl) rfl) rfl rfl))
 ss_nil))) (u_hp C hot 0 cj_0 rfl (by decide +kernel) (fun _ C => (ss_cons (ss_ret s_bl)
 ss_nil)) u_hn))))
 ss_nil)))
theorem der_29 (h : mod.obsK K = mod.val) (hO : Trk O H0) (C : Sc (mod.cfg K w mg base) T (k + 2) W n29 (defScope (mod.stm 42)) (fun _ => true) X) (hsub : T.sub = mod.subB) (fr : Fr2 X) : SSs (mod.cfg K w mg base) O H0 none W T X (defBody (mod.stm 42)) b29 :=
 (ss_cons (u_try C fr (fun _ _ C => (ss_cons (ss_ife (u_cmpT C (o := .eq) rfl rfl (u_b C 0 (by decide +kernel)) (SB.of s_int rfl)) (ss_cons (ss_ex (u_call C 9 fj_9 rfl (by decide +kernel) (s_consC (u_b C 1 (by decide +kernel)) (s_consC (u_b C 2 (by decide +kernel)) s_nilC rfl) rfl) rfl rfl) rfl)
 ss_nil) (ss_cons (ss_ife (u_cmpT C (o := .eq) rfl rfl (u_b C 0 (by decide +kernel)) (SB.of s_int rfl)) (ss_cons (ss_ex (u_call C 10 fj_10 rfl (by decide +kernel) (s_consC (u_b C 1 (by decide +kernel)) (s_consC (u_b C 2 (by decide +kernel)) s_nilC rfl) rfl) rfl rfl) rfl)
 ss_nil) (ss_cons (ss_ife (u_cmpT C (o := .eq) rfl rfl (u_b C 0 (by decide +kernel)) (SB.of s_int rfl)) (ss_cons (ss_ex (u_call C 11 fj_11 rfl (by decide +kernel) (s_consC (u_b C 1 (by decide +kernel)) (s_consC (u_b C 2 (by decide +kernel)) s_nilC rfl) rfl) rfl rfl) rfl)
 ss_nil) (ss_cons (ss_ife (u_cmpT C (o := .eq) rfl rfl (u_b C 0 (by decide +kernel)) (SB.of s_int rfl)) (ss_cons (ss_ex (u_call C 14 fj_14 rfl (by decide +kernel) (s_consC (u_b C 1 (by decide +kernel)) (s_consC (u_b C 2 (by decide +kernel)) s_nilC rfl) rfl) rfl rfl) rfl)
 ss_nil) (ss_cons (ss_ife (u_cmpT C (o := .eq) rfl rfl (u_b C 0 (by decide +kernel)) (SB.of s_int rfl)) (ss_cons (ss_ex (u_call C 17 fj_17 rfl (by decide +kernel) (s_consC (u_b C 1 (by decide +kernel)) (s_consC (u_b C 2 (by decide +kernel)) s_nilC rfl) rfl) rfl rfl) rfl)
 ss_nil) (ss_cons (ss_ife (u_cmpT C (o := .eq) rfl rfl (u_b C 0 (by decide +kernel)) (SB.of s_int rfl)) (ss_cons (ss_ex (u_call C 18 fj_18 rfl (by decide +kernel) (s_consC (u_b C 1 (by decide +kernel)) (s_consC (u_b C 2 (by decide +kernel)) s_nilC rfl) rfl) rfl rfl) rfl)
 ss_nil) (ss_cons (ss_ife (u_cmpT C (o := .eq) rfl rfl (u_b C 0 (by decide +kernel)) (SB.of s_int rfl)) (ss_cons (ss_ex (u_call C 12 fj_12 rfl (by decide +kernel) (s_consC (u_b C 1 (by decide +kernel)) (s_consC (u_b C 2 (by decide +kernel)) (s_consC (u_b C 3 (by decide +kernel)) s_nilC rfl) rfl) rfl) rfl rfl) rfl)
 ss_nil) (ss_cons (ss_ife (u_cmpT C (o := .eq) rfl rfl (u_b C 0 (by decide +kernel)) (SB.of s_int rfl)) (ss_cons (ss_ex (u_call C 12 fj_12 rfl (by decide +kernel) (s_consC (u_b C 1 (by decide +kernel)) (s_consC (u_b C 3 (by decide +kernel)) (s_consC (u_b C 2 (by decide +kernel)) s_nilC rfl) rfl) rfl) rfl rfl) rfl)
 ss_nil) (ss_cons (ss_ife (u_cmpT C (o := .eq) rfl rfl (u_b C 0 (by decide +kernel)) (SB.of s_int rfl)) (ss_cons (ss_ex (u_call C 13 fj_13 rfl (by decide +kernel) (s_consC (u_b C 1 (by decide +kernel)) (s_consC (u_b C 2 (by decide +kernel)) (s_consC (u_b C 3 (by decide +kernel)) s_nilC rfl) rfl) rfl) rfl rfl) rfl)
 ss_nil) (ss_cons (ss_ife (u_cmpT C (o := .eq) rfl rfl (u_b C 0 (by decide +kernel)) (SB.of s_int rfl)) (ss_cons (ss_ex (u_call C 13 fj_13 rfl (by decide +kernel) (s_consC (u_b C 1 (by decide +kernel)) (s_consC (u_b C 3 (by decide +kernel)) (s_consC (u_b C 2 (by decide +kernel)) s_nilC rfl) rfl) rfl) rfl rfl) rfl)
 ss_nil) (ss_cons (ss_ife (u_cmpT C (o := .eq) rfl rfl (u_b C 0 (by decide +kernel)) (SB.of s_int rfl)) (ss_cons (ss_ex (u_call C 12 fj_12 rfl (by decide +kernel) (s_consC (u_b C 1 (by decide +kernel)) (s_consC (u_b C 2 (by decide +kernel)) (s_consC (u_b C 2 (by decide +kernel)) s_nilC rfl) rfl) rfl) rfl rfl) rfl)
 ss_nil) (ss_cons (ss_ex (u_call C 13 fj_13 rfl (by decide +kernel) (s_consC (u_b C 1 (by decide +kernel)) (s_consC (u_b C 2 (by decide +kernel)) (s_consC (u_b C 2 (by decide +kernel)) s_nilC rfl) rfl) rfl) rfl rfl) rfl)
 ss_nil))
 ss_nil))
 ss_nil))
 ss_nil))
 ss_nil))
 ss_nil))
 ss_nil))
 ss_nil))
 ss_nil))
 ss_nil))
 ss_nil))
 ss_nil)) (fun hot => (u_has C hot 4 4 cj_4 rfl (by decide +kernel) (by decide +kernel) (fun _ _ hs hx C => (ss_cons (ss_ret (s_tup (s_cons (u_exf C hx 4 0 (fl_4_0 _ (by rw [← hsub]; exact hs)) (by decide +kernel) rfl) (s_cons (u_exf C hx 4 1 (fl_4_1 _ (by rw [← hsub]; exact hs)) (by decide +kernel) rfl) (s_cons (u_exi C hx 4 2 cj_2 rfl (by decide +kernel) (by decide +kernel) (by decide +kernel)) (s_cons (u_exi C hx 4 1 cj_1 rfl (by decide +kernel) (by decide +kernel) (by decide +kernel)) s_nil rfl) rfl) rfl) rfl) (by decide)))
 ss_nil)) (u_hp C hot 0 cj_0 rfl (by decide +kernel) (fun _ C => (ss_cons (ss_ret (s_tup (s_cons (u_str (by decide +kernel)) s_nil rfl) (by decide)))
 ss_nil)) u_hn))))
 (ss_cons (ss_ret (s_tup (s_cons (u_str (by decide +kernel)) s_nil rfl) (by decide)))
 ss_nil))
theorem der_30 (h : mod.obsK K = mod.val) (hO : Trk O H0) (C : Sc (mod.cfg K w mg base) T (k + 2) W n30 (defScope (mod.stm 43)) (fun _ => true) X) (hsub : T.sub = mod.subB) (fr : Fr2 X) : SSs (mod.cfg K w mg base) O H0 none W T X (defBody (mod.stm 43)) b30 :=
 (ss_cons (u_set C 3 (by decide +kernel) rfl (u_op C (o := .add) rfl (SB.of (u_op C (o := .mul) rfl (SB.of (s_tup (s_cons (u_str (by decide +kernel)) s_nil rfl) (by decide)) rfl) (SB.of s_int rfl)) rfl) (SB.of (s_tup (s_cons (u_str (by decide +kernel)) (s_cons (u_str (by decide +kernel)) (s_cons (u_str (by decide +kernel)) (s_cons (u_str (by decide +kernel)) (s_cons (u_str (by decide +kernel)) (s_cons (u_str (by decide +kernel)) s_nil rfl) rfl) rfl) rfl) rfl) rfl) (by decide)) rfl)))
 (ss_cons (u_for C (fun _ => rfl) (u_ir1 C (by decide +kernel) s_int rfl) (fun hot => (u_gn C 4 (by decide +kernel))) (ss_cons (ss_ife (s_notT (u_tru C (SB.of (u_call C 23 fj_23 rfl (by decide +kernel) (s_consC (SB.of (u_call C 29 fj_29 rfl (by decide +kernel) (s_consC (u_b C 4 (by decide +kernel)) (s_consC (u_b C 0 (by decide +kernel)) (s_consC (u_b C 1 (by decide +kernel)) (s_consC (u_b C 2 (by decide +kernel)) s_nilC rfl) rfl) rfl) rfl) rfl rfl) rfl) (s_consC (SB.of (s_tup (s_cons (u_idx C (u_b C 3 (by decide +kernel)) (u_v C 4 (by decide +kernel)) rfl) (s_cons (s_neg (SB.of s_int rfl)) (s_cons s_bl (s_cons s_bl s_nil rfl) rfl) rfl) rfl) (by decide)) rfl) s_nilC rfl) rfl) rfl rfl) rfl) (fun _ => rfl))) (ss_cons (ss_ret s_bl)
 ss_nil) ss_nil)
 (ss_cons (ss_ife (u_w (s_and (u_cmpT C (o := .gt) rfl rfl (u_b C 4 (by decide +kernel)) (SB.of s_int rfl)) (u_and1 (s_notT (u_tru C (SB.of (u_call C 23 fj_23 rfl (by decide +kernel) (s_consC (SB.of (u_call C 29 fj_29 rfl (by decide +kernel) (s_consC (u_b C 4 (by decide +kernel)) (s_consC (u_b C 0 (by decide +kernel)) (s_consC (u_b C 2 (by decide +kernel)) (s_consC (u_b C 2 (by decide +kernel)) s_nilC rfl) rfl) rfl) rfl) rfl rfl) rfl) (s_consC (SB.of (s_tup (s_cons (u_str (by decide +kernel)) s_nil rfl) (by decide)) rfl) s_nilC rfl) rfl) rfl rfl) rfl) (fun _ => rfl)))))) (ss_cons (ss_ret s_bl)
 ss_nil) ss_nil)
 ss_nil)))
 (ss_cons (ss_ife (s_notT (u_tru C (SB.of (u_call C 23 fj_23 rfl (by decide +kernel) (s_consC (SB.of (u_call C 29 fj_29 rfl (by decide +kernel) (s_consC (SB.of s_int rfl) (s_consC (u_b C 0 (by decide +kernel)) (s_consC (SB.of s_int rfl) (s_consC (u_b C 2 (by decide +kernel)) s_nilC rfl) rfl) rfl) rfl) rfl rfl) rfl) (s_consC (SB.of (s_tup (s_cons (u_str (by decide +kernel)) (s_cons (s_neg (SB.of s_int rfl)) (s_cons s_bl (s_cons s_bl s_nil rfl) rfl) rfl) rfl) (by decide)) rfl) s_nilC rfl) rfl) rfl rfl) rfl) (fun _ => rfl))) (ss_cons (ss_ret s_bl)
 ss_nil) ss_nil)
 (ss_cons (ss_ret (u_orV C (u_cmp C (o := .eq) rfl rfl (u_b C 2 (by decide +kernel)) (SB.of s_int rfl)) (u_one (u_call C 23 fj_23 rfl (by decide +kernel) (s_consC (SB.of (u_call C 29 fj_29 rfl (by decide +kernel) (s_consC (SB.of s_int rfl) (s_consC (u_b C 0 (by decide +kernel)) (s_consC (u_b C 2 (by decide +kernel)) (s_consC (u_b C 2 (by decide +kernel)) s_nilC rfl) rfl) rfl) rfl) rfl rfl) rfl) (s_consC (SB.of (s_tup (s_cons (u_str (by decide +kernel)) s_nil rfl) (by decide)) rfl) s_nilC rfl) rfl) rfl rfl))))
 ss_nil))))
theorem der_31 (h : mod.obsK K = mod.val) (hO : Trk O H0) (C : Sc (mod.cfg K w mg base) T (k + 2) W n31 (defScope (mod.stm 44)) (fun _ => true) X) (hsub : T.sub = mod.subB) (fr : Fr2 X) : SSs (mod.cfg K w mg base) O H0 none W T X (defBody (mod.stm 44)) b31 :=
 (ss_cons (u_set C 4 (by decide +kernel) rfl (u_bt C .tuple rfl (by decide +kernel) (by decide +kernel) (s_consB (SB.of (u_compR C (own := [("_law_z", 8)]) (by decide +kernel) rfl (by decide +kernel) rfl (u_bf C .len rfl (by decide +kernel) (by decide +kernel) (s_consB (u_b C 1 (by decide +kernel)) s_nilB rfl) rfl) (fun _ _ C => (u_gn C 8 (by decide +kernel))) (fun _ _ C => (u_if1 (u_w (s_or (u_cmpT C (o := .eq) rfl rfl (u_b C 8 (by decide +kernel)) (u_b C 2 (by decide +kernel))) (u_or1 (u_cmpT C (o := .isin) rfl rfl (u_b C 2 (by decide +kernel)) (SB.of (u_idx C (u_b C 1 (by decide +kernel)) (u_v C 8 (by decide +kernel)) rfl) rfl))))))) (fun _ _ C => (u_v C 8 (by decide +kernel)))) rfl) s_nilB rfl) rfl))
 (ss_cons (u_set C 5 (by decide +kernel) rfl (u_bt C .tuple rfl (by decide +kernel) (by decide +kernel) (s_consB (SB.of (u_comp C (own := [("_law_z", 8)]) rfl (by decide +kernel) rfl (fun _ => rfl) (u_ir2 C (by decide +kernel) s_int (u_bf C .len rfl (by decide +kernel) (by decide +kernel) (s_consB (u_b C 1 (by decide +kernel)) s_nilB rfl) rfl) rfl rfl) (fun hot _ _ C => (u_gn C 8 (by decide +kernel))) (fun _ _ C => (u_if1 (u_cmpT C (o := .eq) rfl rfl (SB.of (u_idx C (u_b C 0 (by decide +kernel)) (u_op C (o := .sub) rfl (u_b C 8 (by decide +kernel)) (SB.of s_int rfl)) rfl) rfl) (u_b C 2 (by decide +kernel))))) (fun _ _ C => (u_v C 8 (by decide +kernel)))) rfl) s_nilB rfl) rfl))
 (ss_cons (u_set C 6 (by decide +kernel) rfl (u_bt C .tuple rfl (by decide +kernel) (by decide +kernel) (s_consB (SB.of (u_bf C .sorted rfl (by decide +kernel) (by decide +kernel) (s_consB (SB.of (u_comp C (own := [("_law_z", 8)]) rfl (by decide +kernel) rfl (fun _ => rfl) (u_iof C (SB.of (u_op C (o := .add) rfl (SB.of (s_lst (s_cons (u_v C 2 (by decide +kernel)) s_nil rfl) (by decide)) rfl) (SB.of (u_idx C (u_b C 1 (by decide +kernel)) (u_v C 2 (by decide +kernel)) rfl) rfl)) rfl)) (fun hot _ _ C => (u_gn C 8 (by decide +kernel))) (fun _ _ C => (u_if1 (u_cmpT C (o := .gt) rfl rfl (u_b C 8 (by decide +kernel)) (SB.of s_int rfl)))) (fun _ _ C => (u_v C 8 (by decide +kernel)))) rfl) s_nilB rfl) rfl) rfl) s_nilB rfl) rfl))
 (ss_cons (ss_ife (u_tru C (u_b C 3 (by decide +kernel)) (fun _ => rfl)) (ss_cons (u_set C 7 (by decide +kernel) rfl (s_tup (s_cons (u_kw0 C 10 fj_10 rfl (kw_10_0_1_0 h) (by decide +kernel) (s_kcons (u_b C 2 (by decide +kernel)) (s_kcons (u_b C 0 (by decide +kernel)) s_knil)) rfl rfl rfl rfl) (s_cons (u_kw0 C 11 fj_11 rfl (kw_11_0_1_0 h) (by decide +kernel) (s_kcons (u_b C 2 (by decide +kernel)) (s_kcons (u_b C 0 (by decide +kernel)) s_knil)) rfl rfl rfl rfl) (s_cons (u_kw0 C 14 fj_14 rfl (kw_14_0_1_0 h) (by decide +kernel) (s_kcons (u_b C 2 (by decide +kernel)) (s_kcons (u_b C 0 (by decide +kernel)) s_knil)) rfl rfl rfl rfl) (s_cons (u_kw0 C 17 fj_17 rfl (kw_17_0_1_0 h) (by decide +kernel) (s_kcons (u_b C 2 (by decide +kernel)) (s_kcons (u_b C 0 (by decide +kernel)) s_knil)) rfl rfl rfl rfl) (s_cons (u_kw0 C 18 fj_18 rfl (kw_18_0_1_0 h) (by decide +kernel) (s_kcons (u_b C 2 (by decide +kernel)) (s_kcons (u_b C 0 (by decide +kernel)) s_knil)) rfl rfl rfl rfl) s_nil rfl) rfl) rfl) rfl) rfl) (by decide)))
 ss_nil) (ss_cons (u_set C 7 (by decide +kernel) rfl (s_tup (s_cons (u_call C 10 fj_10 rfl (by decide +kernel) (s_consC (u_b C 0 (by decide +kernel)) (s_consC (u_b C 2 (by decide +kernel)) s_nilC rfl) rfl) rfl rfl) (s_cons (u_call C 11 fj_11 rfl (by decide +kernel) (s_consC (u_b C 0 (by decide +kernel)) (s_consC (u_b C 2 (by decide +kernel)) s_nilC rfl) rfl) rfl rfl) (s_cons (u_call C 14 fj_14 rfl (by decide +kernel) (s_consC (u_b C 0 (by decide +kernel)) (s_consC (u_b C 2 (by decide +kernel)) s_nilC rfl) rfl) rfl rfl) (s_cons (u_call C 17 fj_17 rfl (by decide +kernel) (s_consC (u_b C 0 (by decide +kernel)) (s_consC (u_b C 2 (by decide +kernel)) s_nilC rfl) rfl) rfl rfl) (s_cons (u_call C 18 fj_18 rfl (by decide +kernel) (s_consC (u_b C 0 (by decide +kernel)) (s_consC (u_b C 2 (by decide +kernel)) s_nilC rfl) rfl) rfl rfl) s_nil rfl) rfl) rfl) rfl) rfl) (by decide)))
 ss_nil))
 (ss_cons (ss_ife (s_notT (u_tru C (SB.of (u_call C 23 fj_23 rfl (by decide +kernel) (s_consC (u_b C 7 (by decide +kernel)) (s_consC (SB.of (s_tup (s_cons (u_bt C .tuple rfl (by decide +kernel) (by decide +kernel) (s_consB (SB.of (u_idx C (u_b C 1 (by decide +kernel)) (u_v C 2 (by decide +kernel)) rfl) rfl) s_nilB rfl) rfl) (s_cons (u_v C 6 (by decide +kernel)) (s_cons (u_bf C .len rfl (by decide +kernel) (by decide +kernel) (s_consB (SB.of (u_idx C (u_b C 1 (by decide +kernel)) (u_v C 2 (by decide +kernel)) rfl) rfl) s_nilB rfl) rfl) (s_cons (u_v C 5 (by decide +kernel)) (s_cons (u_v C 4 (by decide +kernel)) s_nil rfl) rfl) rfl) rfl) rfl) (by decide)) rfl) s_nilC rfl) rfl) rfl rfl) rfl) (fun _ => rfl))) (ss_cons (ss_ret s_bl)
 ss_nil) ss_nil)
 (ss_cons (ss_ife (u_w (s_and (u_cmpT C (o := .gt) rfl rfl (u_b C 2 (by decide +kernel)) (SB.of s_int rfl)) (u_and1 (u_tru C (u_b C 3 (by decide +kernel)) (fun _ => rfl))))) (ss_cons (ss_ret (u_call C 23 fj_23 rfl (by decide +kernel) (s_consC (SB.of (u_kw0 C 9 fj_9 rfl (kw_9_0_1_0 h) (by decide +kernel) (s_kcons (u_b C 2 (by decide +kernel)) (s_kcons (u_b C 0 (by decide +kernel)) s_knil)) rfl rfl rfl rfl) rfl) (s_consC (SB.of (u_idx C (SB.of (u_idx C (u_b C 1 (by decide +kernel)) (u_v C 2 (by decide +kernel)) rfl) rfl) s_int rfl) rfl) s_nilC rfl) rfl) rfl rfl))
 ss_nil) ss_nil)
 (ss_cons (ss_ret (u_orV C (u_cmp C (o := .eq) rfl rfl (u_b C 2 (by decide +kernel)) (SB.of s_int rfl)) (u_one (u_call C 23 fj_23 rfl (by decide +kernel) (s_consC (SB.of (u_call C 9 fj_9 rfl (by decide +kernel) (s_consC (u_b C 0 (by decide +kernel)) (s_consC (u_b C 2 (by decide +kernel)) s_nilC rfl) rfl) rfl rfl) rfl) (s_consC (SB.of (u_idx C (SB.of (u_idx C (u_b C 1 (by decide +kernel)) (u_v C 2 (by decide +kernel)) rfl) rfl) s_int rfl) rfl) s_nilC rfl) rfl) rfl rfl))))
 ss_nil)))))))
theorem der_32 (h : mod.obsK K = mod.val) (hO : Trk O H0) (C : Sc (mod.cfg K w mg base) T (k + 2) W n32 (defScope (mod.stm 45)) (fun _ => true) X) (hsub : T.sub = mod.subB) (fr : Fr2 X) : SSs (mod.cfg K w mg base) O H0 none W T X (defBody (mod.stm 45)) b32 :=
 (ss_cons (u_set C 5 (by decide +kernel) rfl (u_bf C .max1 rfl (by decide +kernel) (by decide +kernel) (s_consB (SB.of (u_comp C (own := [("_law_z", 7)]) rfl (by decide +kernel) rfl (fun _ => rfl) (u_iof C (SB.of (u_op C (o := .add) rfl (SB.of (s_lst (s_cons (u_v C 2 (by decide +kernel)) s_nil rfl) (by decide)) rfl) (SB.of (u_idx C (u_b C 1 (by decide +kernel)) (u_v C 2 (by decide +kernel)) rfl) rfl)) rfl)) (fun hot _ _ C => (u_gn C 7 (by decide +kernel))) (fun _ _ C => (u_if1 (u_w (s_or (u_cmpT C (o := .eq) rfl rfl (u_b C 7 (by decide +kernel)) (u_b C 3 (by decide +kernel))) (u_or1 (u_cmpT C (o := .isin) rfl rfl (u_b C 7 (by decide +kernel)) (SB.of (u_idx C (u_b C 1 (by decide +kernel)) (u_v C 3 (by decide +kernel)) rfl) rfl))))))) (fun _ _ C => (u_v C 7 (by decide +kernel)))) rfl) s_nilB rfl) rfl))
 (ss_cons (ss_ife (u_tru C (u_b C 4 (by decide +kernel)) (fun _ => rfl)) (ss_cons (u_set C 6 (by decide +kernel) rfl (s_tup (s_cons (u_kw0 C 12 fj_12 rfl (kw_12_0_2_1_0 h) (by decide +kernel) (s_kcons (u_b C 3 (by decide +kernel)) (s_kcons (u_b C 2 (by decide +kernel)) (s_kcons (u_b C 0 (by decide +kernel)) s_knil))) rfl rfl rfl rfl) (s_cons (u_kw0 C 13 fj_13 rfl (kw_13_0_2_1_0 h) (by decide +kernel) (s_kcons (u_b C 3 (by decide +kernel)) (s_kcons (u_b C 2 (by decide +kernel)) (s_kcons (u_b C 0 (by decide +kernel)) s_knil))) rfl rfl rfl rfl) s_nil rfl) rfl) (by decide)))
 ss_nil) (ss_cons (u_set C 6 (by decide +kernel) rfl (s_tup (s_cons (u_call C 12 fj_12 rfl (by decide +kernel) (s_consC (u_b C 0 (by decide +kernel)) (s_consC (u_b C 2 (by decide +kernel)) (s_consC (u_b C 3 (by decide +kernel)) s_nilC rfl) rfl) rfl) rfl rfl) (s_cons (u_call C 13 fj_13 rfl (by decide +kernel) (s_consC (u_b C 0 (by decide +kernel)) (s_consC (u_b C 2 (by decide +kernel)) (s_consC (u_b C 3 (by decide +kernel)) s_nilC rfl) rfl) rfl) rfl rfl) s_nil rfl) rfl) (by decide)))
 ss_nil))
 (ss_cons (ss_ret (u_call C 23 fj_23 rfl (by decide +kernel) (s_consC (u_b C 6 (by decide +kernel)) (s_consC (SB.of (s_tup (s_cons (u_cmp C (o := .isin) rfl rfl (u_b C 2 (by decide +kernel)) (SB.of (u_idx C (u_b C 1 (by decide +kernel)) (u_v C 3 (by decide +kernel)) rfl) rfl)) (s_cons (u_v C 5 (by decide +kernel)) s_nil rfl) rfl) (by decide)) rfl) s_nilC rfl) rfl) rfl rfl))
 ss_nil)))
theorem der_33 (h : mod.obsK K = mod.val) (hO : Trk O H0) (C : Sc (mod.cfg K w mg base) T (k + 2) W n33 (defScope (mod.stm 46)) (fun _ => true) X) (hsub : T.sub = mod.subB) (fr : Fr2 X) : SSs (mod.cfg K w mg base) O H0 none W T X (defBody (mod.stm 46)) b33 :=
 (ss_cons (u_setD C 3 (by decide +kernel) (by decide +kernel) (u_comp C (own := [("_law_p", 7)]) rfl (by decide +kernel) rfl (fun _ => rfl) (u_iof C (u_b C 0 (by decide +kernel))) (fun hot _ _ C => (u_gn C 7 (by decide +kernel))) (fun _ _ C => (u_ifn _)) (fun _ _ C => (u_v C 7 (by decide +kernel)))))
 (ss_cons (u_set C 4 (by decide +kernel) rfl (u_bt C .tuple rfl (by decide +kernel) (by decide +kernel) (s_consB (SB.of (u_compR C (own := [("_law_z", 8)]) (by decide +kernel) rfl (by decide +kernel) rfl (u_bf C .len rfl (by decide +kernel) (by decide +kernel) (s_consB (u_b C 1 (by decide +kernel)) s_nilB rfl) rfl) (fun _ _ C => (u_gn C 8 (by decide +kernel))) (fun _ _ C => (u_if1 (u_cmpT C (o := .notin) rfl rfl (u_b C 8 (by decide +kernel)) (u_b C 3 (by decide +kernel))))) (fun _ _ C => (u_v C 8 (by decide +kernel)))) rfl) s_nilB rfl) rfl))
 (ss_cons (u_set C 5 (by decide +kernel) rfl (u_cmp C (o := .eq) rfl rfl (u_b C 0 (by decide +kernel)) (SB.of (u_rgL1 C true rfl (by decide +kernel) (by decide +kernel) (u_bf C .len rfl (by decide +kernel) (by decide +kernel) (s_consB (u_b C 0 (by decide +kernel)) s_nilB rfl) rfl) rfl) rfl)))
 (ss_cons (ss_ife (u_tru C (u_b C 2 (by decide +kernel)) (fun _ => rfl)) (ss_cons (u_set C 6 (by decide +kernel) rfl (s_tup (s_cons (u_kw0 C 8 fj_8 rfl (kw_8_0_0 h) (by decide +kernel) (s_kcons (u_b C 0 (by decide +kernel)) s_knil) rfl rfl rfl rfl) (s_cons (u_kw0 C 15 fj_15 rfl (kw_15_0_0 h) (by decide +kernel) (s_kcons (u_b C 0 (by decide +kernel)) s_knil) rfl rfl rfl rfl) (s_cons (u_kw0 C 19 fj_19 rfl (kw_19_0_0 h) (by decide +kernel) (s_kcons (u_b C 0 (by decide +kernel)) s_knil) rfl rfl rfl rfl) (s_cons (u_kw0 C 20 fj_20 rfl (kw_20_0_0 h) (by decide +kernel) (s_kcons (u_b C 0 (by decide +kernel)) s_knil) rfl rfl rfl rfl) s_nil rfl) rfl) rfl) rfl) (by decide)))
 ss_nil) (ss_cons (u_set C 6 (by decide +kernel) rfl (s_tup (s_cons (u_call C 8 fj_8 rfl (by decide +kernel) (s_consC (u_b C 0 (by decide +kernel)) s_nilC rfl) rfl rfl) (s_cons (u_call C 15 fj_15 rfl (by decide +kernel) (s_consC (u_b C 0 (by decide +kernel)) s_nilC rfl) rfl rfl) (s_cons (u_call C 19 fj_19 rfl (by decide +kernel) (s_consC (u_b C 0 (by decide +kernel)) s_nilC rfl) rfl rfl) (s_cons (u_call C 20 fj_20 rfl (by decide +kernel) (s_consC (u_b C 0 (by decide +kernel)) s_nilC rfl) rfl rfl) s_nil rfl) rfl) rfl) rfl) (by decide)))
 ss_nil))
 (ss_cons (ss_ret (u_call C 23 fj_23 rfl (by decide +kernel) (s_consC (u_b C 6 (by decide +kernel)) (s_consC (SB.of (s_tup (s_cons (u_bf C .len rfl (by decide +kernel) (by decide +kernel) (s_consB (u_b C 0 (by decide +kernel)) s_nilB rfl) rfl) (s_cons (u_bf C .max1 rfl (by decide +kernel) (by decide +kernel) (s_consB (SB.of (u_comp C (own := [("_law_row", 9)]) rfl (by decide +kernel) rfl (fun _ => rfl) (u_iof C (u_b C 1 (by decide +kernel))) (fun hot _ _ C => (u_gn C 9 (by decide +kernel))) (fun _ _ C => (u_ifn _)) (fun _ _ C => (u_bf C .len rfl (by decide +kernel) (by decide +kernel) (s_consB (u_b C 9 (by decide +kernel)) s_nilB rfl) rfl))) rfl) s_nilB rfl) rfl) (s_cons (u_v C 4 (by decide +kernel)) (s_cons (u_v C 5 (by decide +kernel)) s_nil rfl) rfl) rfl) rfl) (by decide)) rfl) s_nilC rfl) rfl) rfl rfl))
 ss_nil)))))
theorem der_34 (h : mod.obsK K = mod.val) (hO : Trk O H0) (C : Sc (mod.cfg K w mg base) T (k + 2) W n34 (defScope (mod.stm 47)) (fun _ => true) X) (hsub : T.sub = mod.subB) (fr : Fr2 X) : SSs (mod.cfg K w mg base) O H0 none W T X (defBody (mod.stm 47)) b34 :=
 (ss_cons (u_set C 1 (by decide +kernel) rfl (u_call C 22 fj_22 rfl (by decide +kernel) (s_consC (u_b C 0 (by decide +kernel)) (s_consC (SB.of s_int rfl) s_nilC rfl) rfl) rfl rfl))
 (ss_cons (u_set C 2 (by decide +kernel) rfl (u_op C (o := .mod) rfl (SB.of (u_bt C .int rfl (by decide +kernel) (by decide +kernel) (s_consB (SB.of (u_idx C (u_b C 1 (by decide +kernel)) s_int rfl) rfl) s_nilB rfl) rfl) rfl) (SB.of s_int rfl)))
 (ss_cons (ss_ife (u_cmpT C (o := .gt) rfl rfl (SB.of (u_op C (o := .mod) rfl (SB.of (u_bt C .int rfl (by decide +kernel) (by decide +kernel) (s_consB (SB.of (u_idx C (u_b C 1 (by decide +kernel)) s_int rfl) rfl) s_nilB rfl) rfl) rfl) (SB.of s_int rfl)) rfl) (SB.of s_int rfl)) (ss_cons (u_set C 2 (by decide +kernel) rfl (u_op C (o := .add) rfl (SB.of s_int rfl) (SB.of (u_op C (o := .mul) rfl (SB.of s_int rfl) (SB.of (u_op C (o := .sub) rfl (SB.of (u_op C (o := .mod) rfl (SB.of (u_bt C .int rfl (by decide +kernel) (by decide +kernel) (s_consB (SB.of (u_idx C (u_b C 1 (by decide +kernel)) s_int rfl) rfl) s_nilB rfl) rfl) rfl) (SB.of s_int rfl)) rfl) (SB.of s_int rfl)) rfl)) rfl)))
 ss_nil) ss_nil)
 (ss_cons (u_set C 3 (by decide +kernel) rfl (u_call C 24 fj_24 rfl (by decide +kernel) (s_consC (SB.of (u_slc C (u_b C 1 (by decide +kernel)) (s_oS s_int) (s_oS s_int)) rfl) (s_consC (u_b C 2 (by decide +kernel)) (s_consC (SB.of (u_op C (o := .mod) rfl (SB.of (u_bt C .int rfl (by decide +kernel) (by decide +kernel) (s_consB (SB.of (u_idx C (u_b C 1 (by decide +kernel)) s_int rfl) rfl) s_nilB rfl) rfl) rfl) (SB.of s_int rfl)) rfl) s_nilC rfl) rfl) rfl) rfl rfl))
 (ss_cons (u_set C 4 (by decide +kernel) rfl (u_call C 25 fj_25 rfl (by decide +kernel) (s_consC (u_b C 3 (by decide +kernel)) s_nilC rfl) rfl rfl))
 (ss_cons (ss_ife (u_w (s_or (s_notT (u_tru C (SB.of (u_call C 28 fj_28 rfl (by decide +kernel) (s_consC (u_b C 3 (by decide +kernel)) s_nilC rfl) rfl rfl) rfl) (fun _ => rfl))) (u_or1 (s_notT (u_tru C (SB.of (u_call C 28 fj_28 rfl (by decide +kernel) (s_consC (SB.of (u_call C 26 fj_26 rfl (by decide +kernel) (s_consC (SB.of (u_slc C (u_b C 1 (by decide +kernel)) (s_oS s_int) (s_oS s_int)) rfl) (s_consC (u_b C 3 (by decide +kernel)) s_nilC rfl) rfl) rfl rfl) rfl) s_nilC rfl) rfl rfl) rfl) (fun _ => rfl)))))) (ss_cons (ss_ret s_bl)
 ss_nil) ss_nil)
 (ss_cons (ss_ife (s_notT (u_tru C (SB.of (u_call C 33 fj_33 rfl (by decide +kernel) (s_consC (u_b C 3 (by decide +kernel)) (s_consC (u_b C 4 (by decide +kernel)) (s_consC (SB.of s_bl rfl) s_nilC rfl) rfl) rfl) rfl rfl) rfl) (fun _ => rfl))) (ss_cons (ss_ret s_bl)
 ss_nil) ss_nil)
 (ss_cons (u_set C 5 (by decide +kernel) rfl (u_rgL1 C false rfl (by decide +kernel) (by decide +kernel) (u_op C (o := .add) rfl (u_b C 2 (by decide +kernel)) (SB.of s_int rfl)) rfl))
 (ss_cons (u_setC C (own := [("_law_k", 10)]) 6 (by decide +kernel) (by decide +kernel) (by decide +kernel) (by decide +kernel) (by decide +kernel) rfl (fun _ => rfl) (u_ir1 C (by decide +kernel) (u_op C (o := .mul) rfl (SB.of (u_op C (o := .add) rfl (u_b C 2 (by decide +kernel)) (SB.of s_int rfl)) rfl) (SB.of (u_op C (o := .add) rfl (u_b C 2 (by decide +kernel)) (SB.of s_int rfl)) rfl)) rfl) (fun hot _ _ C => (u_gn C 10 (by decide +kernel))) (fun _ _ C => (u_ifn _)) (fun _ _ C => (s_tup (s_cons (u_op C (o := .fdiv) rfl (u_b C 10 (by decide +kernel)) (SB.of (u_op C (o := .add) rfl (u_b C 2 (by decide +kernel)) (SB.of s_int rfl)) rfl)) (s_cons (u_op C (o := .mod) rfl (SB.of (u_bt C .int rfl (by decide +kernel) (by decide +kernel) (s_consB (u_b C 10 (by decide +kernel)) s_nilB rfl) rfl) rfl) (SB.of (u_op C (o := .add) rfl (u_b C 2 (by decide +kernel)) (SB.of s_int rfl)) rfl)) s_nil rfl) rfl) (by decide))))
 (ss_cons (ss_ife (u_cmpT C (o := .gt) rfl rfl (u_b C 2 (by decide +kernel)) (SB.of s_int rfl)) (ss_cons (u_setC C (own := [("_law_k", 10)]) 5 (by decide +kernel) (by decide +kernel) (by decide +kernel) (by decide +kernel) (by decide +kernel) rfl (fun _ => rfl) (u_ir1 C (by decide +kernel) s_int rfl) (fun hot _ _ C => (u_gn C 10 (by decide +kernel))) (fun _ _ C => (u_ifn _)) (fun _ _ C => (u_op C (o := .mod) rfl (SB.of (u_bt C .int rfl (by decide +kernel) (by decide +kernel) (s_consB (SB.of (u_idx C (u_b C 1 (by decide +kernel)) (u_op C (o := .add) rfl (SB.of s_int rfl) (u_b C 10 (by decide +kernel))) rfl) rfl) s_nilB rfl) rfl) rfl) (SB.of (u_op C (o := .add) rfl (u_b C 2 (by decide +kernel)) (SB.of s_int rfl)) rfl))))
 (ss_cons (u_setC C (own := [("_law_k", 10)]) 6 (by decide +kernel) (by decide +kernel) (by decide +kernel) (by decide +kernel) (by decide +kernel) rfl (fun _ => rfl) (u_ir1 C (by decide +kernel) s_int rfl) (fun hot _ _ C => (u_gn C 10 (by decide +kernel))) (fun _ _ C => (u_ifn _)) (fun _ _ C => (s_tup (s_cons (u_op C (o := .mod) rfl (SB.of (u_bt C .int rfl (by decide +kernel) (by decide +kernel) (s_consB (SB.of (u_idx C (u_b C 1 (by decide +kernel)) (u_op C (o := .add) rfl (SB.of s_int rfl) (u_b C 10 (by decide +kernel))) rfl) rfl) s_nilB rfl) rfl) rfl) (SB.of (u_op C (o := .add) rfl (u_b C 2 (by decide +kernel)) (SB.of s_int rfl)) rfl)) (s_cons (u_op C (o := .mod) rfl (SB.of (u_bt C .int rfl (by decide +kernel) (by decide +kernel) (s_consB (SB.of (u_idx C (u_b C 1 (by decide +kernel)) (u_op C (o := .add) rfl (SB.of s_int rfl) (u_b C 10 (by decide +kernel))) rfl) rfl) s_nilB rfl) rfl) rfl) (SB.of (u_op C (o := .add) rfl (u_b C 2 (by decide +kernel)) (SB.of s_int rfl)) rfl)) s_nil rfl) rfl) (by decide))))
 ss_nil)) ss_nil)
 (ss_cons (u_for C (fun _ => rfl) (u_iof C (u_b C 5 (by decide +kernel))) (fun hot => (u_gn C 7 (by decide +kernel))) (ss_cons (ss_ife (s_notT (u_tru C (SB.of (u_call C 31 fj_31 rfl (by decide +kernel) (s_consC (u_b C 3 (by decide +kernel)) (s_consC (u_b C 4 (by decide +kernel)) (s_consC (u_b C 7 (by decide +kernel)) (s_consC (SB.of s_bl rfl) s_nilC rfl) rfl) rfl) rfl) rfl rfl) rfl) (fun _ => rfl))) (ss_cons (ss_ret s_bl)
 ss_nil) ss_nil)
 ss_nil))
 (ss_cons (u_for C (fun _ => rfl) (u_iof C (u_b C 6 (by decide +kernel))) (fun hot => (u_gt C hot (u_gsc C 7 (by decide +kernel) (u_gsc C 8 (by decide +kernel) u_gsn)) rfl rfl)) (ss_cons (ss_ife (s_notT (u_tru C (SB.of (u_call C 32 fj_32 rfl (by decide +kernel) (s_consC (u_b C 3 (by decide +kernel)) (s_consC (u_b C 4 (by decide +kernel)) (s_consC (u_b C 7 (by decide +kernel)) (s_consC (u_b C 8 (by decide +kernel)) (s_consC (SB.of s_bl rfl) s_nilC rfl) rfl) rfl) rfl) rfl) rfl rfl) rfl) (fun _ => rfl))) (ss_cons (ss_ret s_bl)
 ss_nil) ss_nil)
 ss_nil))
 (ss_cons (u_set C 7 (by decide +kernel) rfl (u_op C (o := .mod) rfl (SB.of (u_bt C .int rfl (by decide +kernel) (by decide +kernel) (s_consB (SB.of (u_idx C (u_b C 1 (by decide +kernel)) s_int rfl) rfl) s_nilB rfl) rfl) rfl) (SB.of (u_op C (o := .add) rfl (u_b C 2 (by decide +kernel)) (SB.of s_int rfl)) rfl)))
 (ss_cons (u_set C 8 (by decide +kernel) rfl (u_op C (o := .mod) rfl (SB.of (u_bt C .int rfl (by decide +kernel) (by decide +kernel) (s_consB (SB.of (u_idx C (u_b C 1 (by decide +kernel)) s_int rfl) rfl) s_nilB rfl) rfl) rfl) (SB.of (u_op C (o := .add) rfl (u_b C 2 (by decide +kernel)) (SB.of s_int rfl)) rfl)))
 (ss_cons (ss_ife (u_w (s_or (s_notT (u_tru C (SB.of (u_call C 31 fj_31 rfl (by decide +kernel) (s_consC (u_b C 3 (by decide +kernel)) (s_consC (u_b C 4 (by decide +kernel)) (s_consC (u_b C 8 (by decide +kernel)) (s_consC (SB.of s_bl rfl) s_nilC rfl) rfl) rfl) rfl) rfl rfl) rfl) (fun _ => rfl))) (u_or1 (s_notT (u_tru C (SB.of (u_call C 32 fj_32 rfl (by decide +kernel) (s_consC (u_b C 3 (by decide +kernel)) (s_consC (u_b C 4 (by decide +kernel)) (s_consC (u_b C 7 (by decide +kernel)) (s_consC (u_b C 8 (by decide +kernel)) (s_consC (SB.of s_bl rfl) s_nilC rfl) rfl) rfl) rfl) rfl) rfl rfl) rfl) (fun _ => rfl)))))) (ss_cons (ss_ret s_bl)
 ss_nil) ss_nil)
 (ss_cons (u_set C 9 (by decide +kernel) rfl (u_idx C (SB.of (s_tup (s_cons (u_op C (o := .add) rfl (u_b C 2 (by decide +kernel)) (SB.of s_int rfl)) (s_cons (s_neg (SB.of s_int rfl)) (s_cons s_bl (s_cons s_bl (s_cons s_non (s_cons (u_str (by decide +kernel)) (s_cons (s_tup (s_cons (u_v C 7 (by decide +kernel)) s_nil rfl) (by decide)) (s_cons (s_lst (s_cons (u_v C 7 (by decide +kernel)) s_nil rfl) (by decide)) (s_cons (u_op C (o := .add) rfl (u_b C 2 (by decide +kernel)) (SB.of s_int rfl)) (s_cons (u_op C (o := .pow) rfl (SB.of s_int rfl) (SB.of s_int rfl)) (s_cons (u_op C (o := .sub) rfl (SB.of (s_neg (u_b C 2 (by decide +kernel))) rfl) (SB.of s_int rfl)) (s_cons (s_tup s_nil (by decide)) s_nil rfl) rfl) rfl) rfl) rfl) rfl) rfl) rfl) rfl) rfl) rfl) rfl) (by decide)) rfl) (u_op C (o := .mod) rfl (SB.of (u_bt C .int rfl (by decide +kernel) (by decide +kernel) (s_consB (SB.of (u_idx C (u_b C 1 (by decide +kernel)) s_int rfl) rfl) s_nilB rfl) rfl) rfl) (SB.of s_int rfl)) rfl))
 (ss_cons (ss_ret (u_andV C (u_call C 30 fj_30 rfl (by decide +kernel) (s_consC (u_b C 3 (by decide +kernel)) (s_consC (u_b C 9 (by decide +kernel)) (s_consC (u_b C 7 (by decide +kernel)) s_nilC rfl) rfl) rfl) rfl rfl) (u_one (u_call C 33 fj_33 rfl (by decide +kernel) (s_consC (u_b C 3 (by decide +kernel)) (s_consC (u_b C 4 (by decide +kernel)) (s_consC (SB.of s_bl rfl) s_nilC rfl) rfl) rfl) rfl rfl))))
 ss_nil)))))))))))))))))
end
theorem sc_0 : FnScope n0 ["thing"] (defScope (mod.stm 1)) := ⟨rfl, rfl, rfl, by decide +kernel, rfl, by decide +kernel, by decide +kernel⟩
theorem sc_1 : FnScope n1 ["thing"] (defScope (mod.stm 2)) := ⟨rfl, rfl, rfl, by decide +kernel, rfl, by decide +kernel, by decide +kernel⟩
theorem sc_2 : FnScope n2 ["thing"] (defScope (mod.stm 3)) := ⟨rfl, rfl, rfl, by decide +kernel, rfl, by decide +kernel, by decide +kernel⟩
theorem sc_3 : FnScope n3 ["index", "thing"] (defScope (mod.stm 5)) := ⟨rfl, rfl, rfl, by decide +kernel, rfl, by decide +kernel, by decide +kernel⟩
theorem sc_4 : FnScope n4 ["thing"] (defScope (mod.stm 6)) := ⟨rfl, rfl, rfl, by decide +kernel, rfl, by decide +kernel, by decide +kernel⟩
theorem sc_5 : FnScope n5 ["history", "thing"] (defScope (mod.stm 7)) := ⟨rfl, rfl, rfl, by decide +kernel, rfl, by decide +kernel, by decide +kernel⟩
theorem sc_6 : FnScope n6 ["history", "thing"] (defScope (mod.stm 8)) := ⟨rfl, rfl, rfl, by decide +kernel, rfl, by decide +kernel, by decide +kernel⟩
theorem sc_7 : FnScope n7 ["holds", "name"] (defScope (mod.stm 16)) := ⟨rfl, rfl, rfl, by decide +kernel, rfl, by decide +kernel, by decide +kernel⟩
theorem sc_8 : FnScope n8 ["history"] (defScope (mod.stm 18)) := ⟨rfl, rfl, rfl, by decide +kernel, rfl, by decide +kernel, by decide +kernel⟩
theorem sc_9 : FnScope n9 ["history", "version"] (defScope (mod.stm 19)) := ⟨rfl, rfl, rfl, by decide +kernel, rfl, by decide +kernel, by decide +kernel⟩
theorem sc_10 : FnScope n10 ["history", "version"] (defScope (mod.stm 20)) := ⟨rfl, rfl, rfl, by decide +kernel, rfl, by decide +kernel, by decide +kernel⟩
theorem sc_11 : FnScope n11 ["history", "version"] (defScope (mod.stm 21)) := ⟨rfl, rfl, rfl, by decide +kernel, rfl, by decide +kernel, by decide +kernel⟩
theorem sc_12 : FnScope n12 ["history", "one", "other"] (defScope (mod.stm 22)) := ⟨rfl, rfl, rfl, by decide +kernel, rfl, by decide +kernel, by decide +kernel⟩
theorem sc_13 : FnScope n13 ["history", "one", "other"] (defScope (mod.stm 23)) := ⟨rfl, rfl, rfl, by decide +kernel, rfl, by decide +kernel, by decide +kernel⟩
theorem sc_14 : FnScope n14 ["history", "version"] (defScope (mod.stm 24)) := ⟨rfl, rfl, rfl, by decide +kernel, rfl, by decide +kernel, by decide +kernel⟩
theorem sc_15 : FnScope n15 ["history"] (defScope (mod.stm 25)) := ⟨rfl, rfl, rfl, by decide +kernel, rfl, by decide +kernel, by decide +kernel⟩
theorem sc_16 : FnScope n16 ["thing"] (defScope (mod.stm 27)) := ⟨rfl, rfl, rfl, by decide +kernel, rfl, by decide +kernel, by decide +kernel⟩
theorem sc_17 : FnScope n17 ["history", "version"] (defScope (mod.stm 29)) := ⟨rfl, rfl, rfl, by decide +kernel, rfl, by decide +kernel, by decide +kernel⟩
theorem sc_18 : FnScope n18 ["history", "version"] (defScope (mod.stm 30)) := ⟨rfl, rfl, rfl, by decide +kernel, rfl, by decide +kernel, by decide +kernel⟩
theorem sc_19 : FnScope n19 ["history"] (defScope (mod.stm 31)) := ⟨rfl, rfl, rfl, by decide +kernel, rfl, by decide +kernel, by decide +kernel⟩
theorem sc_20 : FnScope n20 ["history"] (defScope (mod.stm 32)) := ⟨rfl, rfl, rfl, by decide +kernel, rfl, by decide +kernel, by decide +kernel⟩
theorem sc_21 : FnScope n21 ["_law_state"] (defScope (mod.stm 34)) := ⟨rfl, rfl, rfl, by decide +kernel, rfl, by decide +kernel, by decide +kernel⟩
theorem sc_22 : FnScope n22 ["_law_script", "_law_size"] (defScope (mod.stm 35)) := ⟨rfl, rfl, rfl, by decide +kernel, rfl, by decide +kernel, by decide +kernel⟩
theorem sc_23 : FnScope n23 ["_law_got", "_law_due"] (defScope (mod.stm 36)) := ⟨rfl, rfl, rfl, by decide +kernel, rfl, by decide +kernel, by decide +kernel⟩
theorem sc_24 : FnScope n24 ["_law_b", "_law_size", "_law_shape"] (defScope (mod.stm 37)) := ⟨rfl, rfl, rfl, by decide +kernel, rfl, by decide +kernel, by decide +kernel⟩
theorem sc_25 : FnScope n25 ["_law_tree_here"] (defScope (mod.stm 38)) := ⟨rfl, rfl, rfl, by decide +kernel, rfl, by decide +kernel, by decide +kernel⟩
theorem sc_26 : FnScope n26 ["_law_b", "_law_tree_here"] (defScope (mod.stm 39)) := ⟨rfl, rfl, rfl, by decide +kernel, rfl, by decide +kernel, by decide +kernel⟩
theorem sc_27 : FnScope n27 ["_law_x"] (defScope (mod.stm 40)) := ⟨rfl, rfl, rfl, by decide +kernel, rfl, by decide +kernel, by decide +kernel⟩
theorem sc_28 : FnScope n28 ["_law_x"] (defScope (mod.stm 41)) := ⟨rfl, rfl, rfl, by decide +kernel, rfl, by decide +kernel, by decide +kernel⟩
theorem sc_29 : FnScope n29 ["_law_which", "_law_tree_here", "_law_x", "_law_v"] (defScope (mod.stm 42)) := ⟨rfl, rfl, rfl, by decide +kernel, rfl, by decide +kernel, by decide +kernel⟩
theorem sc_30 : FnScope n30 ["_law_tree_here", "_law_x", "_law_v"] (defScope (mod.stm 43)) := ⟨rfl, rfl, rfl, by decide +kernel, rfl, by decide +kernel, by decide +kernel⟩
theorem sc_31 : FnScope n31 ["_law_tree_here", "_law_ups_here", "_law_v", "_law_named"] (defScope (mod.stm 44)) := ⟨rfl, rfl, rfl, by decide +kernel, rfl, by decide +kernel, by decide +kernel⟩
theorem sc_32 : FnScope n32 ["_law_tree_here", "_law_ups_here", "_law_v", "_law_w", "_law_named"] (defScope (mod.stm 45)) := ⟨rfl, rfl, rfl, by decide +kernel, rfl, by decide +kernel, by decide +kernel⟩
theorem sc_33 : FnScope n33 ["_law_tree_here", "_law_ups_here", "_law_named"] (defScope (mod.stm 46)) := ⟨rfl, rfl, rfl, by decide +kernel, rfl, by decide +kernel, by decide +kernel⟩
theorem sc_34 : FnScope n34 ["_law_script"] (defScope (mod.stm 47)) := ⟨rfl, rfl, rfl, by decide +kernel, rfl, by decide +kernel, by decide +kernel⟩
theorem isc_3 : FnScope ["self", "word", "at"] ["self", "word", "at"] (defScope (L2.inClass (mod.stm 13) 0)) := ⟨rfl, rfl, rfl, by decide +kernel, rfl, by decide +kernel, by decide +kernel⟩
theorem isc_4 : FnScope ["self", "word", "at"] ["self", "word", "at"] (defScope (L2.inClass (mod.stm 14) 0)) := ⟨rfl, rfl, rfl, by decide +kernel, rfl, by decide +kernel, by decide +kernel⟩
section
variable {K : PySem.W.Frag} {w : World} {mg : Str → Option Value} {base h : Heap}
theorem db_0 (c : mod.obsK K = mod.val) (X : K.In h) (G : h.Ns mainGlobals mg) : DefB (mod.cfg K w mg base) P 0 :=
  mod.defB c X G (j := 0) (f := ⟨"is_integer", 1, ["thing"]⟩) rfl (d := ⟨1, 1, b0⟩) (N := n0) rfl rfl (by decide) rfl sc_0 (fun _ _ _ _ _ _ us hl => match us, hl with | [_], _ => rfl) fun T k W X O H0 e1 e2 hO C fr => der_0 c hO C e1 fr
theorem db_1 (c : mod.obsK K = mod.val) (X : K.In h) (G : h.Ns mainGlobals mg) : DefB (mod.cfg K w mg base) P 1 :=
  mod.defB c X G (j := 1) (f := ⟨"is_number", 2, ["thing"]⟩) rfl (d := ⟨1, 1, b1⟩) (N := n1) rfl rfl (by decide) rfl sc_1 (fun _ _ _ _ _ _ us hl => match us, hl with | [_], _ => rfl) fun T k W X O H0 e1 e2 hO C fr => der_1 c hO C e1 fr
theorem db_2 (c : mod.obsK K = mod.val) (X : K.In h) (G : h.Ns mainGlobals mg) : DefB (mod.cfg K w mg base) P 2 :=
  mod.defB c X G (j := 2) (f := ⟨"is_natural", 3, ["thing"]⟩) rfl (d := ⟨1, 1, b2⟩) (N := n2) rfl rfl (by decide) rfl sc_2 (fun _ _ _ _ _ _ us hl => match us, hl with | [_], _ => rfl) fun T k W X O H0 e1 e2 hO C fr => der_2 c hO C e1 fr
theorem db_3 (c : mod.obsK K = mod.val) (X : K.In h) (G : h.Ns mainGlobals mg) : DefB (mod.cfg K w mg base) P 3 :=
  mod.defB c X G (j := 3) (f := ⟨"is_parent", 5, ["index", "thing"]⟩) rfl (d := ⟨2, 2, b3⟩) (N := n3) rfl rfl (by decide) rfl sc_3 (fun _ _ _ _ _ _ us hl => match us, hl with | [_, _], _ => rfl) fun T k W X O H0 e1 e2 hO C fr => der_3 c hO C e1 fr
theorem db_4 (c : mod.obsK K = mod.val) (X : K.In h) (G : h.Ns mainGlobals mg) : DefB (mod.cfg K w mg base) P 4 :=
  mod.defB c X G (j := 4) (f := ⟨"is_history", 6, ["thing"]⟩) rfl (d := ⟨1, 3, b4⟩) (N := n4) rfl rfl (by decide) rfl sc_4 (fun _ _ _ _ _ _ us hl => match us, hl with | [_], _ => rfl) fun T k W X O H0 e1 e2 hO C fr => der_4 c hO C e1 fr
theorem db_5 (c : mod.obsK K = mod.val) (X : K.In h) (G : h.Ns mainGlobals mg) : DefB (mod.cfg K w mg base) P 5 :=
  mod.defB c X G (j := 5) (f := ⟨"is_version", 7, ["history", "thing"]⟩) rfl (d := ⟨2, 2, b5⟩) (N := n5) rfl rfl (by decide) rfl sc_5 (fun _ _ _ _ _ _ us hl => match us, hl with | [_, _], _ => rfl) fun T k W X O H0 e1 e2 hO C fr => der_5 c hO C e1 fr
theorem db_6 (c : mod.obsK K = mod.val) (X : K.In h) (G : h.Ns mainGlobals mg) : DefB (mod.cfg K w mg base) P 6 :=
  mod.defB c X G (j := 6) (f := ⟨"is_later_version", 8, ["history", "thing"]⟩) rfl (d := ⟨2, 2, b6⟩) (N := n6) rfl rfl (by decide) rfl sc_6 (fun _ _ _ _ _ _ us hl => match us, hl with | [_, _], _ => rfl) fun T k W X O H0 e1 e2 hO C fr => der_6 c hO C e1 fr
theorem db_7 (c : mod.obsK K = mod.val) (X : K.In h) (G : h.Ns mainGlobals mg) : DefB (mod.cfg K w mg base) P 7 :=
  mod.defB c X G (j := 7) (f := ⟨"require", 16, ["holds", "name"]⟩) rfl (d := ⟨2, 2, b7⟩) (N := n7) rfl rfl (by decide) rfl sc_7 (fun _ _ _ _ _ _ us hl => match us, hl with | [_, _], _ => rfl) fun T k W X O H0 e1 e2 hO C fr => der_7 c hO C e1 fr
theorem db_8 (c : mod.obsK K = mod.val) (X : K.In h) (G : h.Ns mainGlobals mg) : DefB (mod.cfg K w mg base) P 8 :=
  mod.defB c X G (j := 8) (f := ⟨"many_of", 18, ["history"]⟩) rfl (d := ⟨1, 1, b8⟩) (N := n8) rfl rfl (by decide) rfl sc_8 (fun _ _ _ _ _ _ us hl => match us, hl with | [_], _ => rfl) fun T k W X O H0 e1 e2 hO C fr => der_8 c hO C e1 fr
theorem db_9 (c : mod.obsK K = mod.val) (X : K.In h) (G : h.Ns mainGlobals mg) : DefB (mod.cfg K w mg base) P 9 :=
  mod.defB c X G (j := 9) (f := ⟨"parent_of", 19, ["history", "version"]⟩) rfl (d := ⟨2, 2, b9⟩) (N := n9) rfl rfl (by decide) rfl sc_9 (fun _ _ _ _ _ _ us hl => match us, hl with | [_, _], _ => rfl) fun T k W X O H0 e1 e2 hO C fr => der_9 c hO C e1 fr
theorem db_10 (c : mod.obsK K = mod.val) (X : K.In h) (G : h.Ns mainGlobals mg) : DefB (mod.cfg K w mg base) P 10 :=
  mod.defB c X G (j := 10) (f := ⟨"elders_of", 20, ["history", "version"]⟩) rfl (d := ⟨2, 4, b10⟩) (N := n10) rfl rfl (by decide) rfl sc_10 (fun _ _ _ _ _ _ us hl => match us, hl with | [_, _], _ => rfl) fun T k W X O H0 e1 e2 hO C fr => der_10 c hO C e1 fr
theorem db_11 (c : mod.obsK K = mod.val) (X : K.In h) (G : h.Ns mainGlobals mg) : DefB (mod.cfg K w mg base) P 11 :=
  mod.defB c X G (j := 11) (f := ⟨"path_of", 21, ["history", "version"]⟩) rfl (d := ⟨2, 4, b11⟩) (N := n11) rfl rfl (by decide) rfl sc_11 (fun _ _ _ _ _ _ us hl => match us, hl with | [_, _], _ => rfl) fun T k W X O H0 e1 e2 hO C fr => der_11 c hO C e1 fr
theorem db_12 (c : mod.obsK K = mod.val) (X : K.In h) (G : h.Ns mainGlobals mg) : DefB (mod.cfg K w mg base) P 12 :=
  mod.defB c X G (j := 12) (f := ⟨"is_elder", 22, ["history", "one", "other"]⟩) rfl (d := ⟨3, 3, b12⟩) (N := n12) rfl rfl (by decide) rfl sc_12 (fun _ _ _ _ _ _ us hl => match us, hl with | [_, _, _], _ => rfl) fun T k W X O H0 e1 e2 hO C fr => der_12 c hO C e1 fr
theorem db_13 (c : mod.obsK K = mod.val) (X : K.In h) (G : h.Ns mainGlobals mg) : DefB (mod.cfg K w mg base) P 13 :=
  mod.defB c X G (j := 13) (f := ⟨"meet_of", 23, ["history", "one", "other"]⟩) rfl (d := ⟨3, 6, b13⟩) (N := n13) rfl rfl (by decide) rfl sc_13 (fun _ _ _ _ _ _ us hl => match us, hl with | [_, _, _], _ => rfl) fun T k W X O H0 e1 e2 hO C fr => der_13 c hO C e1 fr
theorem db_14 (c : mod.obsK K = mod.val) (X : K.In h) (G : h.Ns mainGlobals mg) : DefB (mod.cfg K w mg base) P 14 :=
  mod.defB c X G (j := 14) (f := ⟨"depth_of", 24, ["history", "version"]⟩) rfl (d := ⟨2, 2, b14⟩) (N := n14) rfl rfl (by decide) rfl sc_14 (fun _ _ _ _ _ _ us hl => match us, hl with | [_, _], _ => rfl) fun T k W X O H0 e1 e2 hO C fr => der_14 c hO C e1 fr
theorem db_15 (c : mod.obsK K = mod.val) (X : K.In h) (G : h.Ns mainGlobals mg) : DefB (mod.cfg K w mg base) P 15 :=
  mod.defB c X G (j := 15) (f := ⟨"depth_in", 25, ["history"]⟩) rfl (d := ⟨1, 2, b15⟩) (N := n15) rfl rfl (by decide) rfl sc_15 (fun _ _ _ _ _ _ us hl => match us, hl with | [_], _ => rfl) fun T k W X O H0 e1 e2 hO C fr => der_15 c hO C e1 fr
theorem db_16 (c : mod.obsK K = mod.val) (X : K.In h) (G : h.Ns mainGlobals mg) : DefB (mod.cfg K w mg base) P 16 :=
  mod.defB c X G (j := 16) (f := ⟨"lets_history", 27, ["thing"]⟩) rfl (d := ⟨1, 3, b16⟩) (N := n16) rfl rfl (by decide) rfl sc_16 (fun _ _ _ _ _ _ us hl => match us, hl with | [_], _ => rfl) fun T k W X O H0 e1 e2 hO C fr => der_16 c hO C e1 fr
theorem db_17 (c : mod.obsK K = mod.val) (X : K.In h) (G : h.Ns mainGlobals mg) : DefB (mod.cfg K w mg base) P 17 :=
  mod.defB c X G (j := 17) (f := ⟨"children_of", 29, ["history", "version"]⟩) rfl (d := ⟨2, 4, b17⟩) (N := n17) rfl rfl (by decide) rfl sc_17 (fun _ _ _ _ _ _ us hl => match us, hl with | [_, _], _ => rfl) fun T k W X O H0 e1 e2 hO C fr => der_17 c hO C e1 fr
theorem db_18 (c : mod.obsK K = mod.val) (X : K.In h) (G : h.Ns mainGlobals mg) : DefB (mod.cfg K w mg base) P 18 :=
  mod.defB c X G (j := 18) (f := ⟨"branch_of", 30, ["history", "version"]⟩) rfl (d := ⟨2, 4, b18⟩) (N := n18) rfl rfl (by decide) rfl sc_18 (fun _ _ _ _ _ _ us hl => match us, hl with | [_, _], _ => rfl) fun T k W X O H0 e1 e2 hO C fr => der_18 c hO C e1 fr
theorem db_19 (c : mod.obsK K = mod.val) (X : K.In h) (G : h.Ns mainGlobals mg) : DefB (mod.cfg K w mg base) P 19 :=
  mod.defB c X G (j := 19) (f := ⟨"leaves_of", 31, ["history"]⟩) rfl (d := ⟨1, 2, b19⟩) (N := n19) rfl rfl (by decide) rfl sc_19 (fun _ _ _ _ _ _ us hl => match us, hl with | [_], _ => rfl) fun T k W X O H0 e1 e2 hO C fr => der_19 c hO C e1 fr
theorem db_20 (c : mod.obsK K = mod.val) (X : K.In h) (G : h.Ns mainGlobals mg) : DefB (mod.cfg K w mg base) P 20 :=
  mod.defB c X G (j := 20) (f := ⟨"is_line", 32, ["history"]⟩) rfl (d := ⟨1, 1, b20⟩) (N := n20) rfl rfl (by decide) rfl sc_20 (fun _ _ _ _ _ _ us hl => match us, hl with | [_], _ => rfl) fun T k W X O H0 e1 e2 hO C fr => der_20 c hO C e1 fr
theorem db_21 (c : mod.obsK K = mod.val) (X : K.In h) (G : h.Ns mainGlobals mg) : DefB (mod.cfg K w mg base) P 21 :=
  mod.defB c X G (j := 21) (f := ⟨"_law_mixed", 34, ["_law_state"]⟩) rfl (d := ⟨1, 2, b21⟩) (N := n21) rfl rfl (by decide) rfl sc_21 (fun _ _ _ _ _ _ us hl => match us, hl with | [_], _ => rfl) fun T k W X O H0 e1 e2 hO C fr => der_21 c hO C e1 fr
theorem db_22 (c : mod.obsK K = mod.val) (X : K.In h) (G : h.Ns mainGlobals mg) : DefB (mod.cfg K w mg base) P 22 :=
  mod.defB c X G (j := 22) (f := ⟨"_law_draws", 35, ["_law_script", "_law_size"]⟩) rfl (d := ⟨2, 7, b22⟩) (N := n22) rfl rfl (by decide) rfl sc_22 (fun _ _ _ _ _ _ us hl => match us, hl with | [_, _], _ => rfl) fun T k W X O H0 e1 e2 hO C fr => der_22 c hO C e1 fr
theorem db_23 (c : mod.obsK K = mod.val) (X : K.In h) (G : h.Ns mainGlobals mg) : DefB (mod.cfg K w mg base) P 23 :=
  mod.defB c X G (j := 23) (f := ⟨"_law_same", 36, ["_law_got", "_law_due"]⟩) rfl (d := ⟨2, 3, b23⟩) (N := n23) rfl rfl (by decide) rfl sc_23 (fun _ _ _ _ _ _ us hl => match us, hl with | [_, _], _ => rfl) fun T k W X O H0 e1 e2 hO C fr => der_23 c hO C e1 fr
theorem db_24 (c : mod.obsK K = mod.val) (X : K.In h) (G : h.Ns mainGlobals mg) : DefB (mod.cfg K w mg base) P 24 :=
  mod.defB c X G (j := 24) (f := ⟨"_law_tree", 37, ["_law_b", "_law_size", "_law_shape"]⟩) rfl (d := ⟨3, 5, b24⟩) (N := n24) rfl rfl (by decide) rfl sc_24 (fun _ _ _ _ _ _ us hl => match us, hl with | [_, _, _], _ => rfl) fun T k W X O H0 e1 e2 hO C fr => der_24 c hO C e1 fr
theorem db_25 (c : mod.obsK K = mod.val) (X : K.In h) (G : h.Ns mainGlobals mg) : DefB (mod.cfg K w mg base) P 25 :=
  mod.defB c X G (j := 25) (f := ⟨"_law_ups", 38, ["_law_tree_here"]⟩) rfl (d := ⟨1, 3, b25⟩) (N := n25) rfl rfl (by decide) rfl sc_25 (fun _ _ _ _ _ _ us hl => match us, hl with | [_], _ => rfl) fun T k W X O H0 e1 e2 hO C fr => der_25 c hO C e1 fr
theorem db_26 (c : mod.obsK K = mod.val) (X : K.In h) (G : h.Ns mainGlobals mg) : DefB (mod.cfg K w mg base) P 26 :=
  mod.defB c X G (j := 26) (f := ⟨"_law_thing", 39, ["_law_b", "_law_tree_here"]⟩) rfl (d := ⟨2, 7, b26⟩) (N := n26) rfl rfl (by decide) rfl sc_26 (fun _ _ _ _ _ _ us hl => match us, hl with | [_, _], _ => rfl) fun T k W X O H0 e1 e2 hO C fr => der_26 c hO C e1 fr
theorem db_27 (c : mod.obsK K = mod.val) (X : K.In h) (G : h.Ns mainGlobals mg) : DefB (mod.cfg K w mg base) P 27 :=
  mod.defB c X G (j := 27) (f := ⟨"_law_fault", 40, ["_law_x"]⟩) rfl (d := ⟨1, 2, b27⟩) (N := n27) rfl rfl (by decide) rfl sc_27 (fun _ _ _ _ _ _ us hl => match us, hl with | [_], _ => rfl) fun T k W X O H0 e1 e2 hO C fr => der_27 c hO C e1 fr
theorem db_28 (c : mod.obsK K = mod.val) (X : K.In h) (G : h.Ns mainGlobals mg) : DefB (mod.cfg K w mg base) P 28 :=
  mod.defB c X G (j := 28) (f := ⟨"_law_judged", 41, ["_law_x"]⟩) rfl (d := ⟨1, 4, b28⟩) (N := n28) rfl rfl (by decide) rfl sc_28 (fun _ _ _ _ _ _ us hl => match us, hl with | [_], _ => rfl) fun T k W X O H0 e1 e2 hO C fr => der_28 c hO C e1 fr
theorem db_29 (c : mod.obsK K = mod.val) (X : K.In h) (G : h.Ns mainGlobals mg) : DefB (mod.cfg K w mg base) P 29 :=
  mod.defB c X G (j := 29) (f := ⟨"_law_door", 42, ["_law_which", "_law_tree_here", "_law_x", "_law_v"]⟩) rfl (d := ⟨4, 5, b29⟩) (N := n29) rfl rfl (by decide) rfl sc_29 (fun _ _ _ _ _ _ us hl => match us, hl with | [_, _, _, _], _ => rfl) fun T k W X O H0 e1 e2 hO C fr => der_29 c hO C e1 fr
theorem db_30 (c : mod.obsK K = mod.val) (X : K.In h) (G : h.Ns mainGlobals mg) : DefB (mod.cfg K w mg base) P 30 :=
  mod.defB c X G (j := 30) (f := ⟨"_law_refusals", 43, ["_law_tree_here", "_law_x", "_law_v"]⟩) rfl (d := ⟨3, 5, b30⟩) (N := n30) rfl rfl (by decide) rfl sc_30 (fun _ _ _ _ _ _ us hl => match us, hl with | [_, _, _], _ => rfl) fun T k W X O H0 e1 e2 hO C fr => der_30 c hO C e1 fr
theorem db_31 (c : mod.obsK K = mod.val) (X : K.In h) (G : h.Ns mainGlobals mg) : DefB (mod.cfg K w mg base) P 31 :=
  mod.defB c X G (j := 31) (f := ⟨"_law_version", 44, ["_law_tree_here", "_law_ups_here", "_law_v", "_law_named"]⟩) rfl (d := ⟨4, 9, b31⟩) (N := n31) rfl rfl (by decide) rfl sc_31 (fun _ _ _ _ _ _ us hl => match us, hl with | [_, _, _, _], _ => rfl) fun T k W X O H0 e1 e2 hO C fr => der_31 c hO C e1 fr
theorem db_32 (c : mod.obsK K = mod.val) (X : K.In h) (G : h.Ns mainGlobals mg) : DefB (mod.cfg K w mg base) P 32 :=
  mod.defB c X G (j := 32) (f := ⟨"_law_pair", 45, ["_law_tree_here", "_law_ups_here", "_law_v", "_law_w", "_law_named"]⟩) rfl (d := ⟨5, 8, b32⟩) (N := n32) rfl rfl (by decide) rfl sc_32 (fun _ _ _ _ _ _ us hl => match us, hl with | [_, _, _, _, _], _ => rfl) fun T k W X O H0 e1 e2 hO C fr => der_32 c hO C e1 fr
theorem db_33 (c : mod.obsK K = mod.val) (X : K.In h) (G : h.Ns mainGlobals mg) : DefB (mod.cfg K w mg base) P 33 :=
  mod.defB c X G (j := 33) (f := ⟨"_law_whole", 46, ["_law_tree_here", "_law_ups_here", "_law_named"]⟩) rfl (d := ⟨3, 10, b33⟩) (N := n33) rfl rfl (by decide) rfl sc_33 (fun _ _ _ _ _ _ us hl => match us, hl with | [_, _, _], _ => rfl) fun T k W X O H0 e1 e2 hO C fr => der_33 c hO C e1 fr
theorem db_34 (c : mod.obsK K = mod.val) (X : K.In h) (G : h.Ns mainGlobals mg) : DefB (mod.cfg K w mg base) P 34 :=
  mod.defB c X G (j := 34) (f := ⟨"law", 47, ["_law_script"]⟩) rfl (d := ⟨1, 11, b34⟩) (N := n34) rfl rfl (by decide) rfl sc_34 (fun _ _ _ _ _ _ us hl => match us, hl with | [_], _ => rfl) fun T k W X O H0 e1 e2 hO C fr => der_34 c hO C e1 fr
theorem dbs (c : mod.obsK K = mod.val) (X : K.In h) (G : h.Ns mainGlobals mg) : ∀ j, j < (mod.cfg K w mg base).nF → DefB (mod.cfg K w mg base) P j := fun j hj => match j, hj with
  | 0, _ => db_0 c X G
  | 1, _ => db_1 c X G
  | 2, _ => db_2 c X G
  | 3, _ => db_3 c X G
  | 4, _ => db_4 c X G
  | 5, _ => db_5 c X G
  | 6, _ => db_6 c X G
  | 7, _ => db_7 c X G
  | 8, _ => db_8 c X G
  | 9, _ => db_9 c X G
  | 10, _ => db_10 c X G
  | 11, _ => db_11 c X G
  | 12, _ => db_12 c X G
  | 13, _ => db_13 c X G
  | 14, _ => db_14 c X G
  | 15, _ => db_15 c X G
  | 16, _ => db_16 c X G
  | 17, _ => db_17 c X G
  | 18, _ => db_18 c X G
  | 19, _ => db_19 c X G
  | 20, _ => db_20 c X G
  | 21, _ => db_21 c X G
  | 22, _ => db_22 c X G
  | 23, _ => db_23 c X G
  | 24, _ => db_24 c X G
  | 25, _ => db_25 c X G
  | 26, _ => db_26 c X G
  | 27, _ => db_27 c X G
  | 28, _ => db_28 c X G
  | 29, _ => db_29 c X G
  | 30, _ => db_30 c X G
  | 31, _ => db_31 c X G
  | 32, _ => db_32 c X G
  | 33, _ => db_33 c X G
  | 34, _ => db_34 c X G
  | n + 35, hj => absurd (show n + 35 < 35 from hj) (by omega)
theorem inis (c : mod.obsK K = mod.val) : ∀ i, i < mod.cls.length → (mod.cl i).ps.isEmpty = false → OexC K (He.ga K (mod.cl i).name) → FnOk mod.prog w K mg base (L2N.CX mod.prog w) 1 (He.ma K (He.ga K (mod.cl i).name) "__init__") (fdAt K (He.ma K (He.ga K (mod.cl i).name) "__init__")) (mod.cl i).ps (spI (mod.cfg K w mg base) i) ∧
    Binds K (fdAt K (He.ma K (He.ga K (mod.cl i).name) "__init__")) (mod.cl i).ps [] ∧ (mod.cl i).fl.Nodup := fun i hi => match i, hi with
  | 0, _ => fun hp _ => by cases hp
  | 1, _ => fun hp _ => by cases hp
  | 2, _ => fun hp _ => by cases hp
  | 3, _ => fun hp T => by
    have F := mod.in_at c (x := mod.cl 3) (mod.cl_mem (by decide) 3) rfl
    exact ⟨ini2 (g := mod.cfg K w mg base) (c := 3) F isc_3 rfl rfl T (mod.exF c (mod.cl_mem (by decide) 3)).2.2 (by decide +kernel) (by decide +kernel) (by decide +kernel), F.bindsN (fun _ _ _ _ _ _ us hl => match us, hl with | [_, _, _], _ => rfl), by decide +kernel⟩
  | 4, _ => fun hp T => by
    have F := mod.in_at c (x := mod.cl 4) (mod.cl_mem (by decide) 4) rfl
    exact ⟨ini2 (g := mod.cfg K w mg base) (c := 4) F isc_4 rfl rfl T (mod.exF c (mod.cl_mem (by decide) 4)).2.2 (by decide +kernel) (by decide +kernel) (by decide +kernel), F.bindsN (fun _ _ _ _ _ _ us hl => match us, hl with | [_, _, _], _ => rfl), by decide +kernel⟩
  | n + 5, hi => absurd (show n + 5 < 5 from hi) (by omega)
theorem allF (c : mod.obsK K = mod.val) (X : K.In h) (G : h.Ns mainGlobals mg) (n : Nat) : Facts (mod.cfg K w mg base) P n := facts (mod.pf c (by decide) X G (inis c)) (dbs c X G) n
end
abbrev rw0 : PySem.W.OpenLaw := PySem.Challenge.rw_sincemarks_k02_whole_elders
abbrev R : PySem.W.OpenRow := PySem.W.OpenLaw.row rw0
abbrev hk : PySem.W.Hook := mod.hook 6
def ob (s : PySem.W.SharedT) : AlV := mod.obsG 6 (HandSHeadRun.getT s)
theorem ob_eq (s : PySem.W.SharedT) : ob s = hk.obs s.abs := mod.obsG_eq (HandSHeadRun.getT_eq s)
def loose : List Str := [("is_integer" : Str), ("is_number" : Str), ("is_natural" : Str), ("is_parent" : Str), ("is_history" : Str), ("is_version" : Str), ("is_later_version" : Str), ("MarkError" : Str), ("PaperError" : Str), ("BookError" : Str), ("InvalidPaper" : Str), ("NotUsable" : Str), ("require" : Str), ("many_of" : Str), ("parent_of" : Str), ("elders_of" : Str), ("path_of" : Str), ("is_elder" : Str), ("meet_of" : Str), ("depth_of" : Str), ("depth_in" : Str), ("lets_history" : Str), ("children_of" : Str), ("branch_of" : Str), ("leaves_of" : Str), ("is_line" : Str), ("_law_mixed" : Str), ("_law_draws" : Str), ("_law_same" : Str), ("_law_tree" : Str), ("_law_ups" : Str), ("_law_thing" : Str), ("_law_fault" : Str), ("_law_judged" : Str), ("_law_door" : Str)] ++ [("_law_refusals" : Str), ("_law_version" : Str), ("_law_pair" : Str), ("_law_whole" : Str)]
theorem run (w : World) : HandSHeadRun.RunEq R (PySem.W.view R.prog [47]) hk ob 6000 loose w := by
  intro os
  kernel_rfl
/-- the law holds where its evaluation says so -/
def Good (n : Nat) : Prop := ∀ ns : List Int, ns.length ≤ 63 → P.run n false 34 [.frl (ns.map .int)] = .ok (.bl true)
end Vk02_whole_elders
open PySem PySem.W PySem.Calls PyProof.Rows Ev
theorem Vk02_whole_elders.holds_of (good : Vk02_whole_elders.Good 40) : PySem.Challenge.rw_sincemarks_k02_whole_elders.Holds := by
  w_on; o_law
  refine HandSHeadRun.head_any (r := Vk02_whole_elders.R) (q := view Vk02_whole_elders.R.prog [47]) (H := Vk02_whole_elders.hk) (ob := Vk02_whole_elders.ob) (M := 6000) (loose := Vk02_whole_elders.loose) (d := HandSHeadRun.topDef Vk02_whole_elders.R.prog 47) (kwd := []) Vk02_whole_elders.ob_eq
    (by kernel_rfl) (fun s => by kernel_rfl) Vk02_whole_elders.run (by kernel_rfl) (by kernel_rfl) (by kernel_rfl) (by rfl) (by first | assumption | decide +kernel) (by decide +kernel) ⟨rfl, rfl, rfl, rfl, rfl, by decide +kernel⟩ ?hw ?hc
  case hw => w_witness2
  case hc =>
    refine L2.walk_ofE (l := Vk02_whole_elders.rw0) (n := 63) (k := 42) (x := "_law_script") (CX := CXw Vk02_whole_elders.prog) rfl (by decide) (by kernel_rfl) ⟨rfl, by decide, by decide⟩ ?F CXw_no
    intro w mg fa h Y G hmg0
    obtain ⟨K, KX, c⟩ := Y
    have hmg : mg ("law" : PySem.Str) = some (.ref fa) := by
      have e : (HandSHeadRun.topDef Vk02_whole_elders.R.prog 47).name = ("law" : PySem.Str) := by kernel_rfl
      rw [← e]
      exact hmg0
    have F := Vk02_whole_elders.mod.fn_at c (j := 34) rfl
    have ea : fa = He.ga K "law" := by
      have z := He.glo_ok KX G (List.all_eq_true.mp (and7 (chk_of c)).1 _ (List.mem_of_getElem? (i := 34) (a := ⟨"law", 47, ["_law_script"]⟩) rfl))
      exact Value.ref.inj (Option.some.inj (hmg.symm.trans z))
    subst ea
    have b := L2.FunD.bindsA (ps := ["_law_script"]) F fun _ _ _ _ _ _ us hl => match us, hl with | [_], _ => rfl
    refine ⟨K, fdAt K (He.ga K "law"), spF (Vk02_whole_elders.mod.cfg K w mg default) (tbl Vk02_whole_elders.P 40 false) 34 1, KX, fun s v => b s [v] rfl, fun H a ns hl hO hS => law_sp rfl hO hS hl (good ns hl), fun base hK hG => ?_⟩
    exact fnOk_cx ((Vk02_whole_elders.allF (w := w) (base := base) c KX G 40 false 34 Vk02_whole_elders.fj_34).ok rfl)
end
section
set_option Elab.async false
set_option linter.all false
set_option maxRecDepth 100000
set_option maxHeartbeats 2000000
/-! law k02: the defs, evaluated -/
namespace Vk02_whole_elders
open PySem PySem.Spec Ev
def isInt : D → Bool
  | .int _ => true
  | _ => false
@[simp] theorem fin_ret (d : D) : (RS.ret d).fin = .ok d := rfl
@[simp] theorem fin_nx (ρ : Rho) : (RS.nx ρ).fin = .ok .non := rfl
@[simp] theorem fin_err (c : Nat) (fs : List D) (ρ : Rho) : (RS.err c fs ρ).fin = .err c fs := rfl
@[simp] theorem if_R {α : Type} {c : Prop} [Decidable c] (a b : α) : (if c then R.ok a else R.ok b) = R.ok (if c then a else b) := by split <;> rfl
theorem run1 {n f : Nat} {hot : Bool} {ds : List D} {d : Fd} (hf : P.fn f = some d) (hl : ds.length = d.np) : P.run (n + 1) hot f ds = (evSs ⟨hot, P.run n, P.sub, P.glb⟩ d.body (ds.map .val ++ List.replicate (d.ns - d.np) .none)).fin := by
  simp only [Pg.run, hf, hl, if_true]
theorem r0 (n : Nat) (hot : Bool) (d : D) (h : d.isRng = false) : P.run (n + 1) hot 0 [d] = .ok (.bl (isInt d)) := by
  have hf : P.fn 0 = some ⟨1, 1, b0⟩ := rfl
  rw [run1 hf rfl]
  simp [q_var, q_cst, q_bin, q_un, q_and, q_or, q_ife, q_tup, q_lst, q_idx, q_slc, q_call, q_callk, q_bi, q_isi, q_rngL, q_rngO, q_cmp, q_exf, q_exi, q_bv, t_yes, t_and, t_or, t_not, t_of, o_none, o_some, es_nil, es_cons, bs_nil, bs_cons, i_of, i_rng, i_enum, i_zip, i_rev, s_pass', s_set', s_setC', s_setOwn', s_unp', s_app', s_ex', s_ret', s_retO', s_retN', s_ife', s_for', s_whl', s_raise', s_try', s_brk', s_cont', ss_nil', ss_cons', h_nil, h_some, h_none, bor, slotE, slotB, isiD, D.isTy, D.truth, unD, binD, guardL, ownArg, isOwn, biD, itHot, BI.hot, tgOwn, ownIt, itemsD, seqD, D.noL, b0, h]
  cases d <;> simp [D.isTy, isInt]
def isNum : D → Bool
  | .int i => decide (0 ≤ i)
  | _ => false
theorem r1 (n : Nat) (hot : Bool) (d : D) (h : d.isRng = false) : P.run (n + 2) hot 1 [d] = .ok (.bl (isNum d)) := by
  have hf : P.fn 1 = some ⟨1, 1, b1⟩ := rfl
  rw [run1 hf rfl]
  simp [q_var, q_cst, q_bin, q_un, q_and, q_or, q_ife, q_tup, q_lst, q_idx, q_slc, q_call, q_callk, q_bi, q_isi, q_rngL, q_rngO, q_cmp, q_exf, q_exi, q_bv, t_yes, t_and, t_or, t_not, t_of, o_none, o_some, es_nil, es_cons, bs_nil, bs_cons, i_of, i_rng, i_enum, i_zip, i_rev, s_pass', s_set', s_setC', s_setOwn', s_unp', s_app', s_ex', s_ret', s_retO', s_retN', s_ife', s_for', s_whl', s_raise', s_try', s_brk', s_cont', ss_nil', ss_cons', h_nil, h_some, h_none, bor, slotE, slotB, isiD, D.isTy, D.truth, unD, binD, guardL, ownArg, isOwn, biD, itHot, BI.hot, tgOwn, ownIt, itemsD, seqD, D.noL, b1, r0 n hot d h]
  cases d <;> simp [isInt, isNum]
def isNat : D → Bool
  | .int i => decide (1 ≤ i)
  | _ => false
theorem r2 (n : Nat) (hot : Bool) (d : D) (h : d.isRng = false) : P.run (n + 2) hot 2 [d] = .ok (.bl (isNat d)) := by
  have hf : P.fn 2 = some ⟨1, 1, b2⟩ := rfl
  rw [run1 hf rfl]
  simp [q_var, q_cst, q_bin, q_un, q_and, q_or, q_ife, q_tup, q_lst, q_idx, q_slc, q_call, q_callk, q_bi, q_isi, q_rngL, q_rngO, q_cmp, q_exf, q_exi, q_bv, t_yes, t_and, t_or, t_not, t_of, o_none, o_some, es_nil, es_cons, bs_nil, bs_cons, i_of, i_rng, i_enum, i_zip, i_rev, s_pass', s_set', s_setC', s_setOwn', s_unp', s_app', s_ex', s_ret', s_retO', s_retN', s_ife', s_for', s_whl', s_raise', s_try', s_brk', s_cont', ss_nil', ss_cons', h_nil, h_some, h_none, bor, slotE, slotB, isiD, D.isTy, D.truth, unD, binD, guardL, ownArg, isOwn, biD, itHot, BI.hot, tgOwn, ownIt, itemsD, seqD, D.noL, b2, r0 n hot d h]
  cases d <;> simp [isInt, isNat]
def leInt (d : D) (i : Int) : Bool := match d with
  | .int k => decide (k ≤ i)
  | _ => false
theorem r3 (n : Nat) (hot : Bool) (i : Int) (d : D) (h : d.isRng = false) : P.run (n + 3) hot 3 [.int i, d] = .ok (.bl (isNum d && leInt d i)) := by
  have hf : P.fn 3 = some ⟨2, 2, b3⟩ := rfl
  rw [run1 hf rfl]
  simp [q_var, q_cst, q_bin, q_un, q_and, q_or, q_ife, q_tup, q_lst, q_idx, q_slc, q_call, q_callk, q_bi, q_isi, q_rngL, q_rngO, q_cmp, q_exf, q_exi, q_bv, t_yes, t_and, t_or, t_not, t_of, o_none, o_some, es_nil, es_cons, bs_nil, bs_cons, i_of, i_rng, i_enum, i_zip, i_rev, s_pass', s_set', s_setC', s_setOwn', s_unp', s_app', s_ex', s_ret', s_retO', s_retN', s_ife', s_for', s_whl', s_raise', s_try', s_brk', s_cont', ss_nil', ss_cons', h_nil, h_some, h_none, bor, slotE, slotB, isiD, D.isTy, D.truth, unD, binD, guardL, ownArg, isOwn, biD, itHot, BI.hot, tgOwn, ownIt, itemsD, seqD, D.noL, b3, r1 n hot d h]
  cases d <;> simp [isNum, leInt]
  split <;> simp_all <;> try omega
theorem r5 (n : Nat) (hot : Bool) (xs : List D) (d : D) (h : d.isRng = false) : P.run (n + 3) hot 5 [.tup xs, d] = .ok (.bl (isNum d && leInt d xs.length)) := by
  have hf : P.fn 5 = some ⟨2, 2, b5⟩ := rfl
  rw [run1 hf rfl]
  simp [q_var, q_cst, q_bin, q_un, q_and, q_or, q_ife, q_tup, q_lst, q_idx, q_slc, q_call, q_callk, q_bi, q_isi, q_rngL, q_rngO, q_cmp, q_exf, q_exi, q_bv, t_yes, t_and, t_or, t_not, t_of, o_none, o_some, es_nil, es_cons, bs_nil, bs_cons, i_of, i_rng, i_enum, i_zip, i_rev, s_pass', s_set', s_setC', s_setOwn', s_unp', s_app', s_ex', s_ret', s_retO', s_retN', s_ife', s_for', s_whl', s_raise', s_try', s_brk', s_cont', ss_nil', ss_cons', h_nil, h_some, h_none, bor, slotE, slotB, isiD, D.isTy, D.truth, unD, binD, guardL, ownArg, isOwn, biD, itHot, BI.hot, tgOwn, ownIt, itemsD, seqD, D.noL, b5, r1 n hot d h]
  cases d <;> simp [isNum, leInt]
  split <;> simp_all <;> try omega
theorem r6 (n : Nat) (hot : Bool) (xs : List D) (d : D) (h : d.isRng = false) : P.run (n + 3) hot 6 [.tup xs, d] = .ok (.bl (isNat d && leInt d xs.length)) := by
  have hf : P.fn 6 = some ⟨2, 2, b6⟩ := rfl
  rw [run1 hf rfl]
  simp [q_var, q_cst, q_bin, q_un, q_and, q_or, q_ife, q_tup, q_lst, q_idx, q_slc, q_call, q_callk, q_bi, q_isi, q_rngL, q_rngO, q_cmp, q_exf, q_exi, q_bv, t_yes, t_and, t_or, t_not, t_of, o_none, o_some, es_nil, es_cons, bs_nil, bs_cons, i_of, i_rng, i_enum, i_zip, i_rev, s_pass', s_set', s_setC', s_setOwn', s_unp', s_app', s_ex', s_ret', s_retO', s_retN', s_ife', s_for', s_whl', s_raise', s_try', s_brk', s_cont', ss_nil', ss_cons', h_nil, h_some, h_none, bor, slotE, slotB, isiD, D.isTy, D.truth, unD, binD, guardL, ownArg, isOwn, biD, itHot, BI.hot, tgOwn, ownIt, itemsD, seqD, D.noL, b6, r2 n hot d h]
  cases d <;> simp [isNat, leInt]
  split <;> simp_all <;> try omega
/-- require -/
theorem r7 (n : Nat) (b : Bool) (s : List Nat) : P.run (n + 1) false 7 [.bl b, .str s] = if b then .ok .non else .err 4 [.str s, .int (-1)] := by
  have hf : P.fn 7 = some ⟨2, 2, b7⟩ := rfl
  rw [run1 hf rfl]
  cases b <;> simp [q_var, q_cst, q_bin, q_un, q_and, q_or, q_ife, q_tup, q_lst, q_idx, q_slc, q_call, q_callk, q_bi, q_isi, q_rngL, q_rngO, q_cmp, q_exf, q_exi, q_bv, t_yes, t_and, t_or, t_not, t_of, o_none, o_some, es_nil, es_cons, bs_nil, bs_cons, i_of, i_rng, i_enum, i_zip, i_rev, s_pass', s_set', s_setC', s_setOwn', s_unp', s_app', s_ex', s_ret', s_retO', s_retN', s_ife', s_for', s_whl', s_raise', s_try', s_brk', s_cont', ss_nil', ss_cons', h_nil, h_some, h_none, bor, slotE, slotB, isiD, D.isTy, D.truth, unD, binD, guardL, ownArg, isOwn, biD, itHot, BI.hot, tgOwn, ownIt, itemsD, seqD, D.noL, b7]
theorem r8 (n : Nat) (hot : Bool) (xs : List D) : P.run (n + 1) hot 8 [.tup xs] = .ok (.int xs.length) := by
  have hf : P.fn 8 = some ⟨1, 1, b8⟩ := rfl
  rw [run1 hf rfl]
  simp [q_var, q_cst, q_bin, q_un, q_and, q_or, q_ife, q_tup, q_lst, q_idx, q_slc, q_call, q_callk, q_bi, q_isi, q_rngL, q_rngO, q_cmp, q_exf, q_exi, q_bv, t_yes, t_and, t_or, t_not, t_of, o_none, o_some, es_nil, es_cons, bs_nil, bs_cons, i_of, i_rng, i_enum, i_zip, i_rev, s_pass', s_set', s_setC', s_setOwn', s_unp', s_app', s_ex', s_ret', s_retO', s_retN', s_ife', s_for', s_whl', s_raise', s_try', s_brk', s_cont', ss_nil', ss_cons', h_nil, h_some, h_none, bor, slotE, slotB, isiD, D.isTy, D.truth, unD, binD, guardL, ownArg, isOwn, biD, itHot, BI.hot, tgOwn, ownIt, itemsD, seqD, D.noL, b8]
/-! ### histories -/
/-- a history as data -/
def hs (t : List Nat) : D := .tup (t.map fun x => .int ((x : Nat) : Int))
def Par (t : List Nat) : Prop := ∀ (i x : Nat), t[i]? = some x → x ≤ i
def eldF (t : List Nat) : Nat → Nat → List Nat
  | 0, _ => []
  | f + 1, v => if v = 0 then [] else t.getD (v - 1) 0 :: eldF t f (t.getD (v - 1) 0)
/-- the elders, from the parent up -/
def eld (t : List Nat) (v : Nat) : List Nat := eldF t v v
theorem par_lt {t : List Nat} (h : Par t) {v : Nat} (h0 : v ≠ 0) (hv : v ≤ t.length) : t.getD (v - 1) 0 < v := by
  have hi : v - 1 < t.length := by omega
  have e := h (v - 1) t[v - 1] (by simp [hi])
  rw [List.getD_eq_getElem?_getD, List.getElem?_eq_getElem hi]
  simp only [Option.getD_some]
  omega
theorem eldF_any {t : List Nat} (h : Par t) : ∀ (v f : Nat), v ≤ t.length → v ≤ f → eldF t f v = eld t v := by
  intro v
  induction v using Nat.strongRecOn with
  | _ v ih =>
    intro f hv hf
    cases v with
    | zero => cases f <;> simp [eldF, eld]
    | succ u =>
      obtain ⟨f, rfl⟩ : ∃ g, f = g + 1 := ⟨f - 1, by omega⟩
      have lt := par_lt h (v := u + 1) (by omega) hv
      unfold eld
      simp only [eldF, Nat.add_sub_cancel, Nat.add_one_ne_zero, if_false] at lt ⊢
      rw [ih _ lt f (by omega) (by omega), ih _ lt u (by omega) (by omega)]
theorem eld_zero (t : List Nat) : eld t 0 = [] := rfl
theorem eld_succ {t : List Nat} (h : Par t) {v : Nat} (h0 : v ≠ 0) (hv : v ≤ t.length) : eld t v = t.getD (v - 1) 0 :: eld t (t.getD (v - 1) 0) := by
  obtain ⟨u, rfl⟩ : ∃ u, v = u + 1 := ⟨v - 1, by omega⟩
  have lt := par_lt h h0 hv
  conv => lhs; unfold eld
  simp only [eldF, Nat.add_one_ne_zero, if_false]
  rw [eldF_any h _ u (by omega) (by omega)]
theorem eld_len {t : List Nat} (h : Par t) : ∀ v, v ≤ t.length → (eld t v).length ≤ v := by
  intro v
  induction v using Nat.strongRecOn with
  | _ v ih =>
    intro hv
    by_cases h0 : v = 0
    · subst h0; simp [eld_zero]
    · have lt := par_lt h h0 hv
      rw [eld_succ h h0 hv, List.length_cons]
      have := ih _ lt (by omega)
      omega
abbrev nts (l : List Nat) : List D := l.map fun x => .int ((x : Nat) : Int)
theorem getI_hs {t : List Nat} {i : Nat} (h : i < t.length) : getI (nts t) (i : Int) = .ok (.int (t.getD i 0 : Nat)) := by
  unfold getI ixD
  have e1 : (0 : Int) ≤ (i : Int) := by omega
  have e2 : (i : Int) < ((nts t).length : Nat) := by simpa using h
  rw [if_pos e1, if_pos e2]
  simp [h]
abbrev c10 : CT := .of (.bin .gt (.var 3) (.cst (.int 0)))
abbrev w10 : List CS := [(.set 3 (.idx (.var 0) (.bin .sub (.var 3) (.cst (.int 1))))), (.app 2 (.var 3))]
theorem c10_is {T : Tb} {x y z : Slot} {a : Int} : evT T c10 [x, y, z, .val (.int a)] = .ok (decide (0 < a)) := by
  simp [q_var, q_cst, q_bin, q_un, q_and, q_or, q_ife, q_tup, q_lst, q_idx, q_slc, q_call, q_callk, q_bi, q_isi, q_rngL, q_rngO, q_cmp, q_exf, q_exi, q_bv, t_yes, t_and, t_or, t_not, t_of, o_none, o_some, es_nil, es_cons, bs_nil, bs_cons, i_of, i_rng, i_enum, i_zip, i_rev, s_pass', s_set', s_setC', s_setOwn', s_unp', s_app', s_ex', s_ret', s_retO', s_retN', s_ife', s_for', s_whl', s_raise', s_try', s_brk', s_cont', ss_nil', ss_cons', h_nil, h_some, h_none, bor, slotE, slotB, isiD, D.isTy, D.truth, unD, binD, guardL, ownArg, isOwn, biD, itHot, BI.hot, tgOwn, ownIt, itemsD, seqD, D.noL]
theorem w10_is {T : Tb} {t : List Nat} {v : D} {acc : List D} {a : Nat} (h0 : a ≠ 0) (ha : a ≤ t.length) (hc : acc.length < 16777216) : evSs T w10 [.val (hs t), .val v, .own acc, .val (.int a)] =
    .nx [.val (hs t), .val v, .own (acc ++ [.int (t.getD (a - 1) 0 : Nat)]), .val (.int (t.getD (a - 1) 0 : Nat))] := by
  have e : ((a : Int) - 1) = ((a - 1 : Nat) : Int) := by omega
  have g := getI_hs (t := t) (i := a - 1) (by omega)
  unfold nts at g
  simp [q_var, q_cst, q_bin, q_un, q_and, q_or, q_ife, q_tup, q_lst, q_idx, q_slc, q_call, q_callk, q_bi, q_isi, q_rngL, q_rngO, q_cmp, q_exf, q_exi, q_bv, t_yes, t_and, t_or, t_not, t_of, o_none, o_some, es_nil, es_cons, bs_nil, bs_cons, i_of, i_rng, i_enum, i_zip, i_rev, s_pass', s_set', s_setC', s_setOwn', s_unp', s_app', s_ex', s_ret', s_retO', s_retN', s_ife', s_for', s_whl', s_raise', s_try', s_brk', s_cont', ss_nil', ss_cons', h_nil, h_some, h_none, bor, slotE, slotB, isiD, D.isTy, D.truth, unD, binD, guardL, ownArg, isOwn, biD, itHot, BI.hot, tgOwn, ownIt, itemsD, seqD, D.noL, hs, idxD, e, g, hc]
theorem whl10 {T : Tb} {t : List Nat} (h : Par t) (v : D) : ∀ (a m : Nat) (acc : List D), a ≤ t.length → a < m → acc.length + a ≤ 1000 →
    whlL (evT T c10) (evSs T w10) m [.val (hs t), .val v, .own acc, .val (.int a)] = .nx [.val (hs t), .val v, .own (acc ++ nts (eld t a)), .val (.int 0)] := by
  intro a
  induction a using Nat.strongRecOn with
  | _ a ih =>
    intro m acc ha hm hc
    obtain ⟨m, rfl⟩ : ∃ k, m = k + 1 := ⟨m - 1, by omega⟩
    by_cases h0 : a = 0
    · subst h0
      simp only [whlL, c10_is]
      simp [eld_zero]
    · have lt := par_lt h h0 ha
      have hpos : decide ((0 : Int) < (a : Int)) = true := by simp; omega
      simp only [whlL, c10_is, hpos, w10_is h0 ha (show acc.length < 16777216 by omega)]
      rw [ih _ lt m _ (by omega) (by omega) (by simp only [List.length_append, List.length_singleton]; omega), eld_succ h h0 ha]
      simp [nts]
theorem r5_ok {n : Nat} {hot : Bool} {t : List Nat} {v : Nat} (hv : v ≤ t.length) : P.run (n + 3) hot 5 [hs t, .int v] = .ok (.bl true) := by
  unfold hs
  rw [r5 n hot _ _ rfl]
  simp [isNum, leInt, hv]
/-- elders_of -/
theorem r10 {n : Nat} {t : List Nat} (h : Par t) (hl : t.length ≤ 900) {v : Nat} (hv : v ≤ t.length) : P.run (n + 4) false 10 [hs t, .int v] = .ok (.tup (nts (eld t v))) := by
  have hf : P.fn 10 = some ⟨2, 4, b10⟩ := rfl
  rw [run1 hf rfl]
  have e5 := r5_ok (n := n) (hot := false) hv
  have w := whl10 (T := ⟨false, P.run (n + 3), P.sub, P.glb⟩) h (.int v) v WHL [] hv (by unfold WHL; omega) (by simp; omega)
  unfold b10
  simp [q_var, q_cst, q_bin, q_un, q_and, q_or, q_ife, q_tup, q_lst, q_idx, q_slc, q_call, q_callk, q_bi, q_isi, q_rngL, q_rngO, q_cmp, q_exf, q_exi, q_bv, t_yes, t_and, t_or, t_not, t_of, o_none, o_some, es_nil, es_cons, bs_nil, bs_cons, i_of, i_rng, i_enum, i_zip, i_rev, s_pass', s_set', s_setC', s_setOwn', s_unp', s_app', s_ex', s_ret', s_retO', s_retN', s_ife', s_for', s_whl', s_raise', s_try', s_brk', s_cont', ss_nil', ss_cons', h_nil, h_some, h_none, bor, slotE, slotB, isiD, D.isTy, D.truth, unD, binD, guardL, ownArg, isOwn, biD, itHot, BI.hot, tgOwn, ownIt, itemsD, seqD, D.noL, e5, r7 (n + 2) true, w]
/-- elders_of, where the version is none -/
theorem r10_no {n : Nat} {t : List D} {x : D} (hr : x.isRng = false) (hx : (isNum x && leInt x t.length) = false) : P.run (n + 4) false 10 [.tup t, x] = .err 4 [.str (L "version"), .int (-1)] := by
  have hf : P.fn 10 = some ⟨2, 4, b10⟩ := rfl
  rw [run1 hf rfl]
  have e5 := r5 n false t x hr
  rw [hx] at e5
  unfold b10
  simp [q_var, q_cst, q_bin, q_un, q_and, q_or, q_ife, q_tup, q_lst, q_idx, q_slc, q_call, q_callk, q_bi, q_isi, q_rngL, q_rngO, q_cmp, q_exf, q_exi, q_bv, t_yes, t_and, t_or, t_not, t_of, o_none, o_some, es_nil, es_cons, bs_nil, bs_cons, i_of, i_rng, i_enum, i_zip, i_rev, s_pass', s_set', s_setC', s_setOwn', s_unp', s_app', s_ex', s_ret', s_retO', s_retN', s_ife', s_for', s_whl', s_raise', s_try', s_brk', s_cont', ss_nil', ss_cons', h_nil, h_some, h_none, bor, slotE, slotB, isiD, D.isTy, D.truth, unD, binD, guardL, ownArg, isOwn, biD, itHot, BI.hot, tgOwn, ownIt, itemsD, seqD, D.noL, e5, r7 (n + 2) false]
/-! ### comprehensions -/
theorem compL_of {f : D → Ev.R (Option D)} {p : D → Bool} {g : D → D} : ∀ {xs : List D}, (∀ d ∈ xs, f d = .ok (if p d then some (g d) else none)) → compL f xs = .ok ((xs.filter p).map g)
  | [], _ => rfl
  | d :: ds, h => by
    have h1 := h d (by simp)
    have h2 := compL_of (p := p) (g := g) (xs := ds) fun e he => h e (by simp [he])
    simp only [compL, h1, h2]
    cases hp : p d <;> simp [List.filter_cons, hp]
theorem compL_map {f : D → Ev.R (Option D)} {g : D → D} {xs : List D} (h : ∀ d ∈ xs, f d = .ok (some (g d))) : compL f xs = .ok (xs.map g) := by
  have := compL_of (f := f) (p := fun _ => true) (g := g) (xs := xs) fun d hd => by rw [h d hd]; simp
  have e : xs.filter (fun _ => true) = xs := List.filter_eq_self.mpr fun _ _ => rfl
  rw [e] at this
  exact this
theorem intsD_nts (l : List Nat) : intsD (nts l) = some (l.map fun x => ((x : Nat) : Int)) := by
  induction l with
  | nil => rfl
  | cons x l ih => simp only [nts, List.map_cons, intsD] at ih ⊢; rw [ih]; rfl
/-- the path down to v, v itself too, 0 apart -/
def pth (t : List Nat) (v : Nat) : List Int := sortI (((v :: eld t v).filter fun x => decide (0 < x)).map fun x => ((x : Nat) : Int))
/-- path_of -/
theorem r11 {n : Nat} {t : List Nat} (h : Par t) (hl : t.length ≤ 900) {v : Nat} (hv : v ≤ t.length) : P.run (n + 5) false 11 [hs t, .int v] = .ok (.tup ((pth t v).map .int)) := by
  have hf : P.fn 11 = some ⟨2, 4, b11⟩ := rfl
  rw [run1 hf rfl]
  have e10 := r10 (n := n) h hl hv
  have len := eld_len h v hv
  have hz : 1 + (eld t v).length ≤ 16777216 := by omega
  have cl : ∀ (T : Tb) (ρ : Rho), ρ.length = 4 → compL (turnQ T (.nm 3) (.of (.bin .gt (.var 3) (.cst (.int 0)))) (.var 3) ρ) (nts (v :: eld t v)) = .ok (nts ((v :: eld t v).filter fun x => decide (0 < x))) := fun T ρ hρ => by
    rw [compL_of (p := fun d => match d with | .int i => decide (0 < i) | _ => false) (g := id)]
    · unfold nts
      rw [List.filter_map]
      simp [Function.comp_def]
    · intro d hd
      obtain ⟨x, _, rfl⟩ := List.mem_map.mp hd
      unfold turnQ
      simp [q_var, q_cst, q_bin, q_un, q_and, q_or, q_ife, q_tup, q_lst, q_idx, q_slc, q_call, q_callk, q_bi, q_isi, q_rngL, q_rngO, q_cmp, q_exf, q_exi, q_bv, t_yes, t_and, t_or, t_not, t_of, o_none, o_some, es_nil, es_cons, bs_nil, bs_cons, i_of, i_rng, i_enum, i_zip, i_rev, s_pass', s_set', s_setC', s_setOwn', s_unp', s_app', s_ex', s_ret', s_retO', s_retN', s_ife', s_for', s_whl', s_raise', s_try', s_brk', s_cont', ss_nil', ss_cons', h_nil, h_some, h_none, bor, slotE, slotB, isiD, D.isTy, D.truth, unD, binD, guardL, ownArg, isOwn, biD, itHot, BI.hot, tgOwn, ownIt, itemsD, seqD, D.noL, bindT, hρ]
  unfold b11
  simp [q_var, q_cst, q_bin, q_un, q_and, q_or, q_ife, q_tup, q_lst, q_idx, q_slc, q_call, q_callk, q_bi, q_isi, q_rngL, q_rngO, q_cmp, q_exf, q_exi, q_bv, t_yes, t_and, t_or, t_not, t_of, o_none, o_some, es_nil, es_cons, bs_nil, bs_cons, i_of, i_rng, i_enum, i_zip, i_rev, s_pass', s_set', s_setC', s_setOwn', s_unp', s_app', s_ex', s_ret', s_retO', s_retN', s_ife', s_for', s_whl', s_raise', s_try', s_brk', s_cont', ss_nil', ss_cons', h_nil, h_some, h_none, bor, slotE, slotB, isiD, D.isTy, D.truth, unD, binD, guardL, ownArg, isOwn, biD, itHot, BI.hot, tgOwn, ownIt, itemsD, seqD, D.noL, e10, hz]
  have c2 := cl ⟨false, P.run (n + 4), P.sub, P.glb⟩ [.val (hs t), .val (.int v), .val (.tup (nts (v :: eld t v))), .none] rfl
  unfold nts at c2
  simp only [List.map_cons] at c2
  rw [c2]
  have e3 := intsD_nts ((v :: eld t v).filter fun x => decide (0 < x))
  unfold nts at e3
  simp [biD, e3, pth]
/-! ### elders, the meet -/
theorem flat_nts (l : List Nat) : (nts l).all D.flat = true := by
  rw [List.all_eq_true]
  intro d hd
  obtain ⟨x, _, rfl⟩ := List.mem_map.mp hd
  rfl
theorem any_nts (l : List Nat) (v : Nat) : ((nts l).any fun y => D.eqv y (.int (v : Int))) = decide (v ∈ l) := by
  rw [Bool.eq_iff_iff]
  simp only [List.any_eq_true, decide_eq_true_eq]
  constructor
  · rintro ⟨d, hd, e⟩
    obtain ⟨x, hx, rfl⟩ := List.mem_map.mp hd
    have : x = v := by
      simp only [D.eqv, beq_iff_eq] at e
      omega
    rwa [← this]
  · intro h
    exact ⟨_, List.mem_map.mpr ⟨v, h, rfl⟩, by simp [D.eqv]⟩
theorem isin_nts (l : List Nat) (v : Nat) : inD false (.int (v : Int)) (.tup (nts l)) = .ok (.bl (decide (v ∈ l))) := by
  simp only [inD, D.flat, flat_nts, Bool.true_and, if_true, any_nts]
  simp
theorem notin_nts (l : List Nat) (v : Nat) : inD true (.int (v : Int)) (.tup (nts l)) = .ok (.bl (!decide (v ∈ l))) := by
  simp only [inD, D.flat, flat_nts, Bool.true_and, if_true, any_nts]
  simp
/-- is_elder -/
theorem r12 {n : Nat} {t : List Nat} (h : Par t) (hl : t.length ≤ 900) {a b : Nat} (ha : a ≤ t.length) (hb : b ≤ t.length) : P.run (n + 5) false 12 [hs t, .int a, .int b] = .ok (.bl (decide (a ∈ eld t b))) := by
  have hf : P.fn 12 = some ⟨3, 3, b12⟩ := rfl
  rw [run1 hf rfl]
  have e10 := r10 (n := n) h hl hb
  have e5a := r5_ok (n := n + 1) (hot := false) ha
  have e5b := r5_ok (n := n + 1) (hot := false) hb
  have ei := isin_nts (eld t b) a
  unfold nts at ei
  unfold b12
  simp [q_var, q_cst, q_bin, q_un, q_and, q_or, q_ife, q_tup, q_lst, q_idx, q_slc, q_call, q_callk, q_bi, q_isi, q_rngL, q_rngO, q_cmp, q_exf, q_exi, q_bv, t_yes, t_and, t_or, t_not, t_of, o_none, o_some, es_nil, es_cons, bs_nil, bs_cons, i_of, i_rng, i_enum, i_zip, i_rev, s_pass', s_set', s_setC', s_setOwn', s_unp', s_app', s_ex', s_ret', s_retO', s_retN', s_ife', s_for', s_whl', s_raise', s_try', s_brk', s_cont', ss_nil', ss_cons', h_nil, h_some, h_none, bor, slotE, slotB, isiD, D.isTy, D.truth, unD, binD, guardL, ownArg, isOwn, biD, itHot, BI.hot, tgOwn, ownIt, itemsD, seqD, D.noL, e10, e5a, e5b, r7 (n + 3) true, ei]
/-- depth_of -/
theorem r14 {n : Nat} {t : List Nat} (h : Par t) (hl : t.length ≤ 900) {a : Nat} (ha : a ≤ t.length) : P.run (n + 5) false 14 [hs t, .int a] = .ok (.int (eld t a).length) := by
  have hf : P.fn 14 = some ⟨2, 2, b14⟩ := rfl
  rw [run1 hf rfl]
  have e10 := r10 (n := n) h hl ha
  unfold b14
  simp [q_var, q_cst, q_bin, q_un, q_and, q_or, q_ife, q_tup, q_lst, q_idx, q_slc, q_call, q_callk, q_bi, q_isi, q_rngL, q_rngO, q_cmp, q_exf, q_exi, q_bv, t_yes, t_and, t_or, t_not, t_of, o_none, o_some, es_nil, es_cons, bs_nil, bs_cons, i_of, i_rng, i_enum, i_zip, i_rev, s_pass', s_set', s_setC', s_setOwn', s_unp', s_app', s_ex', s_ret', s_retO', s_retN', s_ife', s_for', s_whl', s_raise', s_try', s_brk', s_cont', ss_nil', ss_cons', h_nil, h_some, h_none, bor, slotE, slotB, isiD, D.isTy, D.truth, unD, binD, guardL, ownArg, isOwn, biD, itHot, BI.hot, tgOwn, ownIt, itemsD, seqD, D.noL, e10]
/-- the common ones, of the first one's sequence -/
def both (t : List Nat) (a b : Nat) : List Nat := (a :: eld t a).filter fun x => decide (x ∈ b :: eld t b)
theorem zero_eld {t : List Nat} (h : Par t) : ∀ v, v ≤ t.length → 0 ∈ v :: eld t v := by
  intro v
  induction v using Nat.strongRecOn with
  | _ v ih =>
    intro hv
    by_cases h0 : v = 0
    · subst h0; simp
    · have lt := par_lt h h0 hv
      rw [eld_succ h h0 hv]
      exact List.mem_cons_of_mem _ (ih _ lt (by omega))
/-- meet_of -/
theorem r13 {n : Nat} {t : List Nat} (h : Par t) (hl : t.length ≤ 900) {a b : Nat} (ha : a ≤ t.length) (hb : b ≤ t.length) : P.run (n + 5) false 13 [hs t, .int a, .int b] = .ok (.int (maxL ((both t a b).map fun x => ((x : Nat) : Int)))) := by
  have hf : P.fn 13 = some ⟨3, 6, b13⟩ := rfl
  rw [run1 hf rfl]
  have e10a := r10 (n := n) h hl ha
  have e10b := r10 (n := n) h hl hb
  have e5a := r5_ok (n := n + 1) (hot := false) ha
  have e5b := r5_ok (n := n + 1) (hot := false) hb
  have la := eld_len h a ha
  have lb := eld_len h b hb
  have za : 1 + (eld t a).length ≤ 16777216 := by omega
  have zb : 1 + (eld t b).length ≤ 16777216 := by omega
  have cl : ∀ (T : Tb) (x0 x1 x2 x3 : Slot), compL (turnQ T (.nm 5) (.of (.bin .isin (.var 5) (.var 4))) (.var 5) [x0, x1, x2, x3, .val (.tup (nts (b :: eld t b))), .none]) (nts (a :: eld t a)) = .ok (nts (both t a b)) := fun T x0 x1 x2 x3 => by
    rw [compL_of (p := fun d => match d with | .int i => decide (i.toNat ∈ b :: eld t b) | _ => false) (g := id)]
    · unfold nts both
      rw [List.filter_map]
      simp [Function.comp_def]
    · intro d hd
      obtain ⟨x, _, rfl⟩ := List.mem_map.mp hd
      have ei := isin_nts (b :: eld t b) x
      unfold turnQ
      unfold nts at ei ⊢
      simp only [List.map_cons] at ei ⊢
      simp [q_var, q_cst, q_bin, q_un, q_and, q_or, q_ife, q_tup, q_lst, q_idx, q_slc, q_call, q_callk, q_bi, q_isi, q_rngL, q_rngO, q_cmp, q_exf, q_exi, q_bv, t_yes, t_and, t_or, t_not, t_of, o_none, o_some, es_nil, es_cons, bs_nil, bs_cons, i_of, i_rng, i_enum, i_zip, i_rev, s_pass', s_set', s_setC', s_setOwn', s_unp', s_app', s_ex', s_ret', s_retO', s_retN', s_ife', s_for', s_whl', s_raise', s_try', s_brk', s_cont', ss_nil', ss_cons', h_nil, h_some, h_none, bor, slotE, slotB, isiD, D.isTy, D.truth, unD, binD, guardL, ownArg, isOwn, biD, itHot, BI.hot, tgOwn, ownIt, itemsD, seqD, D.noL, bindT, ei]
  unfold b13
  simp [q_var, q_cst, q_bin, q_un, q_and, q_or, q_ife, q_tup, q_lst, q_idx, q_slc, q_call, q_callk, q_bi, q_isi, q_rngL, q_rngO, q_cmp, q_exf, q_exi, q_bv, t_yes, t_and, t_or, t_not, t_of, o_none, o_some, es_nil, es_cons, bs_nil, bs_cons, i_of, i_rng, i_enum, i_zip, i_rev, s_pass', s_set', s_setC', s_setOwn', s_unp', s_app', s_ex', s_ret', s_retO', s_retN', s_ife', s_for', s_whl', s_raise', s_try', s_brk', s_cont', ss_nil', ss_cons', h_nil, h_some, h_none, bor, slotE, slotB, isiD, D.isTy, D.truth, unD, binD, guardL, ownArg, isOwn, biD, itHot, BI.hot, tgOwn, ownIt, itemsD, seqD, D.noL, e10a, e10b, e5a, e5b, r7 (n + 3) true, za, zb]
  have c2 := cl ⟨false, P.run (n + 4), P.sub, P.glb⟩ (.val (hs t)) (.val (.int a)) (.val (.int b)) (.val (.tup (nts (a :: eld t a))))
  unfold nts at c2
  simp only [List.map_cons] at c2
  rw [c2]
  have e3 := intsD_nts (both t a b)
  have ne : both t a b ≠ [] := fun e => by
    have z : 0 ∈ both t a b := List.mem_filter.mpr ⟨zero_eld h a ha, by simpa using zero_eld h b hb⟩
    rw [e] at z
    cases z
  cases hc : both t a b with
  | nil => exact (ne hc).elim
  | cons x r =>
    rw [hc] at e3
    unfold nts at e3
    simp only [List.map_cons] at e3
    simp [biD, e3]
/-! ### ranges -/
theorem rngL_nat (k : Nat) : Ev.rngL 0 (k : Int) = nts (List.range k) := by
  unfold Ev.rngL nts
  simp
theorem rngOk_nat {k : Nat} (h : k ≤ 16777216) : (rngOk 0 (k : Int) && decide (((k : Int) - 0).toNat ≤ 16777216)) = true := by
  unfold rngOk
  simp
  omega
theorem maxL_ge : ∀ {l : List Int} {x : Int}, x ∈ l → x ≤ maxL l
  | [y], x, h => by simp at h; simp [maxL, h]
  | y :: z :: r, x, h => by
    simp only [maxL]
    rcases List.mem_cons.mp h with e | e
    · omega
    · have := maxL_ge (l := z :: r) e
      omega
theorem maxL_mem : ∀ {l : List Int}, l ≠ [] → maxL l ∈ l
  | [y], _ => by simp [maxL]
  | y :: z :: r, _ => by
    simp only [maxL]
    have := maxL_mem (l := z :: r) (by simp)
    by_cases hc : y ≤ maxL (z :: r)
    · rw [Int.max_eq_right hc]
      exact List.mem_cons_of_mem _ this
    · rw [Int.max_eq_left (by omega)]
      exact List.mem_cons_self
theorem i_rng0 {T : Tb} {ρ : Rho} {k : Nat} {e : CE} (he : evE T e ρ = .ok (.int (k : Int))) (hk : k ≤ 16777216) : evI T (.rng (.cst (.int 0)) e) ρ = .ok (nts (List.range k)) := by
  rw [i_rng, q_cst, ok_bind, he, ok_bind]
  simp only
  rw [if_pos (rngOk_nat hk), rngL_nat]
  rfl
/-- depth_in -/
theorem r15 {n : Nat} {t : List Nat} (h : Par t) (hl : t.length ≤ 900) : P.run (n + 6) false 15 [hs t] = .ok (.int (maxL ((List.range (t.length + 1)).map fun v => ((eld t v).length : Int)))) := by
  have hf : P.fn 15 = some ⟨1, 2, b15⟩ := rfl
  rw [run1 hf rfl]
  have cl : compL (turnQ ⟨false, P.run (n + 5), P.sub, P.glb⟩ (.nm 1) .yes (.call 14 [.var 0, .var 1]) [.val (hs t), .none]) (nts (List.range (t.length + 1))) = .ok ((List.range (t.length + 1)).map fun v => .int ((eld t v).length : Int)) := by
    rw [compL_map (g := fun d => match d with | .int i => .int ((eld t i.toNat).length : Int) | d => d)]
    · unfold nts
      simp [Function.comp_def]
    · intro d hd
      obtain ⟨x, hx, rfl⟩ := List.mem_map.mp hd
      have hx' : x ≤ t.length := by have := List.mem_range.mp hx; omega
      have e14 := r14 (n := n) h hl hx'
      unfold turnQ
      simp [q_var, q_cst, q_bin, q_un, q_and, q_or, q_ife, q_tup, q_lst, q_idx, q_slc, q_call, q_callk, q_bi, q_isi, q_rngL, q_rngO, q_cmp, q_exf, q_exi, q_bv, t_yes, t_and, t_or, t_not, t_of, o_none, o_some, es_nil, es_cons, bs_nil, bs_cons, i_of, i_rng, i_enum, i_zip, i_rev, s_pass', s_set', s_setC', s_setOwn', s_unp', s_app', s_ex', s_ret', s_retO', s_retN', s_ife', s_for', s_whl', s_raise', s_try', s_brk', s_cont', ss_nil', ss_cons', h_nil, h_some, h_none, bor, slotE, slotB, isiD, D.isTy, D.truth, unD, binD, guardL, ownArg, isOwn, biD, itHot, BI.hot, tgOwn, ownIt, itemsD, seqD, D.noL, bindT, e14]
  have e3 : intsD ((List.range (t.length + 1)).map fun v => D.int ((eld t v).length : Int)) = some ((List.range (t.length + 1)).map fun v => ((eld t v).length : Int)) := by
    have z := intsD_nts ((List.range (t.length + 1)).map fun v => (eld t v).length)
    unfold nts at z
    simpa [List.map_map, Function.comp_def] using z
  unfold b15
  rw [ss_cons', s_ret', q_bi]
  simp only [BI.hot, Bool.false_and, Bool.not_false, Bool.and_true, Bool.false_eq_true, if_false]
  have src : evI (⟨false, P.run (n + 5), P.sub, P.glb⟩ : Tb) (.rng (.cst (.int 0)) (.bin .add (.bi .len [.var 0]) (.cst (.int 1)))) [.val (hs t), .none] = .ok (nts (List.range (t.length + 1))) := by
    refine i_rng0 ?_ (by omega)
    unfold hs
    simp [q_var, q_cst, q_bin, q_un, q_and, q_or, q_ife, q_tup, q_lst, q_idx, q_slc, q_call, q_callk, q_bi, q_isi, q_rngL, q_rngO, q_cmp, q_exf, q_exi, q_bv, t_yes, t_and, t_or, t_not, t_of, o_none, o_some, es_nil, es_cons, bs_nil, bs_cons, i_of, i_rng, i_enum, i_zip, i_rev, s_pass', s_set', s_setC', s_setOwn', s_unp', s_app', s_ex', s_ret', s_retO', s_retN', s_ife', s_for', s_whl', s_raise', s_try', s_brk', s_cont', ss_nil', ss_cons', h_nil, h_some, h_none, bor, slotE, slotB, isiD, D.isTy, D.truth, unD, binD, guardL, ownArg, isOwn, biD, itHot, BI.hot, tgOwn, ownIt, itemsD, seqD, D.noL]
  have cmpv : evE (⟨false, P.run (n + 5), P.sub, P.glb⟩ : Tb) (.cmp (.nm 1) (.rng (.cst (.int 0)) (.bin .add (.bi .len [.var 0]) (.cst (.int 1)))) .yes (.call 14 [.var 0, .var 1])) [.val (hs t), .none] = .ok (.lst ((List.range (t.length + 1)).map fun v => .int ((eld t v).length : Int))) := by
    rw [q_cmp, src]
    simp [q_var, q_cst, q_bin, q_un, q_and, q_or, q_ife, q_tup, q_lst, q_idx, q_slc, q_call, q_callk, q_bi, q_isi, q_rngL, q_rngO, q_cmp, q_exf, q_exi, q_bv, t_yes, t_and, t_or, t_not, t_of, o_none, o_some, es_nil, es_cons, bs_nil, bs_cons, i_of, i_rng, i_enum, i_zip, i_rev, s_pass', s_set', s_setC', s_setOwn', s_unp', s_app', s_ex', s_ret', s_retO', s_retN', s_ife', s_for', s_whl', s_raise', s_try', s_brk', s_cont', ss_nil', ss_cons', h_nil, h_some, h_none, bor, slotE, slotB, isiD, D.isTy, D.truth, unD, binD, guardL, ownArg, isOwn, biD, itHot, BI.hot, tgOwn, ownIt, itemsD, seqD, D.noL, cl]
  have zz : ([hs t].map Slot.val ++ List.replicate (2 - 1) Slot.none) = [.val (hs t), .none] := rfl
  simp only [zz, bs_cons, bs_nil, bor, cmpv]
  cases hr : (List.range (t.length + 1)).map fun v => ((eld t v).length : Int) with
  | nil => simp at hr
  | cons x r =>
    rw [hr] at e3
    simp [biD, e3, ss_nil']
/-! ### parent_of, is_history, leaves_of, children_of -/
theorem r9 {n : Nat} {t : List Nat} {v : Nat} (h0 : v ≠ 0) (hv : v ≤ t.length) : P.run (n + 4) false 9 [hs t, .int v] = .ok (.int (t.getD (v - 1) 0 : Nat)) := by
  have hf : P.fn 9 = some ⟨2, 2, b9⟩ := rfl
  rw [run1 hf rfl]
  have e6 : P.run (n + 3) false 6 [hs t, .int v] = .ok (.bl true) := by
    unfold hs
    rw [r6 n false _ _ rfl]
    simp [isNat, leInt, hv]
    omega
  have e : ((v : Int) - 1) = ((v - 1 : Nat) : Int) := by omega
  have g := getI_hs (t := t) (i := v - 1) (by omega)
  unfold nts at g
  unfold b9
  simp [q_var, q_cst, q_bin, q_un, q_and, q_or, q_ife, q_tup, q_lst, q_idx, q_slc, q_call, q_callk, q_bi, q_isi, q_rngL, q_rngO, q_cmp, q_exf, q_exi, q_bv, t_yes, t_and, t_or, t_not, t_of, o_none, o_some, es_nil, es_cons, bs_nil, bs_cons, i_of, i_rng, i_enum, i_zip, i_rev, s_pass', s_set', s_setC', s_setOwn', s_unp', s_app', s_ex', s_ret', s_retO', s_retN', s_ife', s_for', s_whl', s_raise', s_try', s_brk', s_cont', ss_nil', ss_cons', h_nil, h_some, h_none, bor, slotE, slotB, isiD, D.isTy, D.truth, unD, binD, guardL, ownArg, isOwn, biD, itHot, BI.hot, tgOwn, ownIt, itemsD, seqD, D.noL, e6, r7 (n + 2) true]
  unfold hs
  simp [idxD, e, g]
theorem r9_no {n : Nat} {t : List D} {x : D} (hr : x.isRng = false) (hx : (isNat x && leInt x t.length) = false) : P.run (n + 4) false 9 [.tup t, x] = .err 4 [.str (L "version"), .int (-1)] := by
  have hf : P.fn 9 = some ⟨2, 2, b9⟩ := rfl
  rw [run1 hf rfl]
  have e6 := r6 n false t x hr
  rw [hx] at e6
  unfold b9
  simp [q_var, q_cst, q_bin, q_un, q_and, q_or, q_ife, q_tup, q_lst, q_idx, q_slc, q_call, q_callk, q_bi, q_isi, q_rngL, q_rngO, q_cmp, q_exf, q_exi, q_bv, t_yes, t_and, t_or, t_not, t_of, o_none, o_some, es_nil, es_cons, bs_nil, bs_cons, i_of, i_rng, i_enum, i_zip, i_rev, s_pass', s_set', s_setC', s_setOwn', s_unp', s_app', s_ex', s_ret', s_retO', s_retN', s_ife', s_for', s_whl', s_raise', s_try', s_brk', s_cont', ss_nil', ss_cons', h_nil, h_some, h_none, bor, slotE, slotB, isiD, D.isTy, D.truth, unD, binD, guardL, ownArg, isOwn, biD, itHot, BI.hot, tgOwn, ownIt, itemsD, seqD, D.noL, e6, r7 (n + 2) false]
/-- leaves_of -/
theorem r19 {n : Nat} {t : List Nat} (hl : t.length ≤ 900) : P.run (n + 1) false 19 [hs t] = .ok (.tup (nts ((List.range (t.length + 1)).filter fun v => !decide (v ∈ t)))) := by
  have hf : P.fn 19 = some ⟨1, 2, b19⟩ := rfl
  rw [run1 hf rfl]
  have cl : compL (turnQ ⟨false, P.run n, P.sub, P.glb⟩ (.nm 1) (.of (.bin .notin (.var 1) (.var 0))) (.var 1) [.val (hs t), .none]) (nts (List.range (t.length + 1))) = .ok (nts ((List.range (t.length + 1)).filter fun v => !decide (v ∈ t))) := by
    rw [compL_of (p := fun d => match d with | .int i => !decide (i.toNat ∈ t) | _ => false) (g := id)]
    · unfold nts
      rw [List.filter_map]
      simp [Function.comp_def]
    · intro d hd
      obtain ⟨x, _, rfl⟩ := List.mem_map.mp hd
      have ei := notin_nts t x
      unfold turnQ
      unfold nts at ei
      simp [q_var, q_cst, q_bin, q_un, q_and, q_or, q_ife, q_tup, q_lst, q_idx, q_slc, q_call, q_callk, q_bi, q_isi, q_rngL, q_rngO, q_cmp, q_exf, q_exi, q_bv, t_yes, t_and, t_or, t_not, t_of, o_none, o_some, es_nil, es_cons, bs_nil, bs_cons, i_of, i_rng, i_enum, i_zip, i_rev, s_pass', s_set', s_setC', s_setOwn', s_unp', s_app', s_ex', s_ret', s_retO', s_retN', s_ife', s_for', s_whl', s_raise', s_try', s_brk', s_cont', ss_nil', ss_cons', h_nil, h_some, h_none, bor, slotE, slotB, isiD, D.isTy, D.truth, unD, binD, guardL, ownArg, isOwn, biD, itHot, BI.hot, tgOwn, ownIt, itemsD, seqD, D.noL, bindT, hs, ei]
  have src : evI (⟨false, P.run n, P.sub, P.glb⟩ : Tb) (.rng (.cst (.int 0)) (.bin .add (.bi .len [.var 0]) (.cst (.int 1)))) [.val (hs t), .none] = .ok (nts (List.range (t.length + 1))) := by
    refine i_rng0 ?_ (by omega)
    unfold hs
    simp [q_var, q_cst, q_bin, q_un, q_and, q_or, q_ife, q_tup, q_lst, q_idx, q_slc, q_call, q_callk, q_bi, q_isi, q_rngL, q_rngO, q_cmp, q_exf, q_exi, q_bv, t_yes, t_and, t_or, t_not, t_of, o_none, o_some, es_nil, es_cons, bs_nil, bs_cons, i_of, i_rng, i_enum, i_zip, i_rev, s_pass', s_set', s_setC', s_setOwn', s_unp', s_app', s_ex', s_ret', s_retO', s_retN', s_ife', s_for', s_whl', s_raise', s_try', s_brk', s_cont', ss_nil', ss_cons', h_nil, h_some, h_none, bor, slotE, slotB, isiD, D.isTy, D.truth, unD, binD, guardL, ownArg, isOwn, biD, itHot, BI.hot, tgOwn, ownIt, itemsD, seqD, D.noL]
  have cmpv : evE (⟨false, P.run n, P.sub, P.glb⟩ : Tb) (.cmp (.nm 1) (.rng (.cst (.int 0)) (.bin .add (.bi .len [.var 0]) (.cst (.int 1)))) (.of (.bin .notin (.var 1) (.var 0))) (.var 1)) [.val (hs t), .none] = .ok (.lst (nts ((List.range (t.length + 1)).filter fun v => !decide (v ∈ t)))) := by
    rw [q_cmp, src]
    simp [q_var, q_cst, q_bin, q_un, q_and, q_or, q_ife, q_tup, q_lst, q_idx, q_slc, q_call, q_callk, q_bi, q_isi, q_rngL, q_rngO, q_cmp, q_exf, q_exi, q_bv, t_yes, t_and, t_or, t_not, t_of, o_none, o_some, es_nil, es_cons, bs_nil, bs_cons, i_of, i_rng, i_enum, i_zip, i_rev, s_pass', s_set', s_setC', s_setOwn', s_unp', s_app', s_ex', s_ret', s_retO', s_retN', s_ife', s_for', s_whl', s_raise', s_try', s_brk', s_cont', ss_nil', ss_cons', h_nil, h_some, h_none, bor, slotE, slotB, isiD, D.isTy, D.truth, unD, binD, guardL, ownArg, isOwn, biD, itHot, BI.hot, tgOwn, ownIt, itemsD, seqD, D.noL, cl]
  unfold b19
  rw [ss_cons', s_ret', q_bi]
  have zz : ([hs t].map Slot.val ++ List.replicate (2 - 1) Slot.none) = [.val (hs t), .none] := rfl
  simp [zz, BI.hot, bs_cons, bs_nil, bor, cmpv, biD, ss_nil']
/-! ### is_line, is_history, children_of -/
theorem plain_nts (l : List Nat) : D.plainL (nts l) = true := by
  induction l with
  | nil => rfl
  | cons x l ih => unfold nts at ih ⊢; simp only [List.map_cons, D.plainL, D.plain, ih]; rfl
theorem dep_nts (l : List Nat) : D.depL (nts l) = 0 := by
  induction l with
  | nil => rfl
  | cons x l ih => unfold nts at ih ⊢; simp only [List.map_cons, D.depL, D.dep, ih]; rfl
theorem eqOk_nts (l : List Nat) : D.eqOk (.tup (nts l)) = true := by
  unfold D.eqOk
  simp only [D.dep, D.plain, dep_nts, plain_nts]
  rfl
theorem eqv_nts : ∀ (l m : List Nat), D.eqvL (nts l) (nts m) = decide (l = m)
  | [], [] => rfl
  | [], _ :: _ => rfl
  | _ :: _, [] => rfl
  | x :: l, y :: m => by
    have ih := eqv_nts l m
    unfold nts at ih ⊢
    simp only [List.map_cons, D.eqvL, D.eqv, ih]
    rw [Bool.eq_iff_iff]
    simp
    intro _
    omega
/-- is_line -/
theorem r20 {n : Nat} {t : List Nat} (hl : t.length ≤ 900) : P.run (n + 1) false 20 [hs t] = .ok (.bl (decide (t = List.range t.length))) := by
  have hf : P.fn 20 = some ⟨1, 1, b20⟩ := rfl
  rw [run1 hf rfl]
  have rg : evE (⟨false, P.run n, P.sub, P.glb⟩ : Tb) (.rngL true (.cst (.int 0)) (.bi .len [.var 0])) [.val (hs t)] = .ok (.tup (nts (List.range t.length))) := by
    have e2 : evE (⟨false, P.run n, P.sub, P.glb⟩ : Tb) (.bi .len [.var 0]) [.val (hs t)] = .ok (.int (t.length : Int)) := by
      unfold hs
      simp [q_var, q_cst, q_bin, q_un, q_and, q_or, q_ife, q_tup, q_lst, q_idx, q_slc, q_call, q_callk, q_bi, q_isi, q_rngL, q_rngO, q_cmp, q_exf, q_exi, q_bv, t_yes, t_and, t_or, t_not, t_of, o_none, o_some, es_nil, es_cons, bs_nil, bs_cons, i_of, i_rng, i_enum, i_zip, i_rev, s_pass', s_set', s_setC', s_setOwn', s_unp', s_app', s_ex', s_ret', s_retO', s_retN', s_ife', s_for', s_whl', s_raise', s_try', s_brk', s_cont', ss_nil', ss_cons', h_nil, h_some, h_none, bor, slotE, slotB, isiD, D.isTy, D.truth, unD, binD, guardL, ownArg, isOwn, biD, itHot, BI.hot, tgOwn, ownIt, itemsD, seqD, D.noL]
    rw [q_rngL, if_neg (show ¬ (false = true) from Bool.false_ne_true), q_cst, ok_bind, e2, ok_bind]
    simp only
    rw [if_pos (rngOk_nat (by omega)), rngL_nat]
    rfl
  have cmp : evE (⟨false, P.run n, P.sub, P.glb⟩ : Tb) (.bin .eq (.var 0) (.rngL true (.cst (.int 0)) (.bi .len [.var 0]))) [.val (hs t)] = .ok (.bl (decide (t = List.range t.length))) := by
    rw [q_bin]
    simp only [bor, rg]
    have eh : hs t = .tup (nts t) := rfl
    simp only [slotB, List.getElem?_cons_zero, ok_bind, eh, binD, eqOk_nts, Bool.and_true, if_true, D.eqv, eqv_nts]
  unfold b20
  have zz : ([hs t].map Slot.val ++ List.replicate (1 - 1) Slot.none) = [.val (hs t)] := rfl
  rw [zz, ss_cons', s_ret', cmp]
  rfl
/-- what is_history says of a tuple's elements -/
def okAt (i : Nat) (d : D) : Bool := isNum d && leInt d i
theorem r4_tup {n : Nat} {hot : Bool} {xs : List D} (hr : ∀ d ∈ xs, d.isRng = false) (hh : hot = false) : P.run (n + 4) hot 4 [.tup xs] = .ok (.bl ((xs.mapIdx okAt).all id)) := by
  subst hh
  have hf : P.fn 4 = some ⟨1, 3, b4⟩ := rfl
  rw [run1 hf rfl]
  have cl : compL (turnQ ⟨false, P.run (n + 3), P.sub, P.glb⟩ (.tp [1, 2]) .yes (.call 3 [.var 1, .var 2]) [.val (.tup xs), .none, .none]) (xs.mapIdx fun i d => .tup [.int i, d]) = .ok ((xs.mapIdx okAt).map D.bl) := by
    rw [compL_map (g := fun d => match d with | .tup [.int i, d] => .bl (okAt i.toNat d) | d => d)]
    · congr 1
      rw [List.mapIdx_eq_zipIdx_map, List.mapIdx_eq_zipIdx_map]
      simp [Function.comp_def]
    · intro d hd
      obtain ⟨i, hi, rfl⟩ := List.mem_iff_getElem.mp hd
      simp only [List.getElem_mapIdx]
      have hi' : i < xs.length := by simpa using hi
      have e3 := r3 n false (i : Int) xs[i] (hr _ (List.getElem_mem hi'))
      unfold turnQ
      simp [q_var, q_cst, q_bin, q_un, q_and, q_or, q_ife, q_tup, q_lst, q_idx, q_slc, q_call, q_callk, q_bi, q_isi, q_rngL, q_rngO, q_cmp, q_exf, q_exi, q_bv, t_yes, t_and, t_or, t_not, t_of, o_none, o_some, es_nil, es_cons, bs_nil, bs_cons, i_of, i_rng, i_enum, i_zip, i_rev, s_pass', s_set', s_setC', s_setOwn', s_unp', s_app', s_ex', s_ret', s_retO', s_retN', s_ife', s_for', s_whl', s_raise', s_try', s_brk', s_cont', ss_nil', ss_cons', h_nil, h_some, h_none, bor, slotE, slotB, isiD, D.isTy, D.truth, unD, binD, guardL, ownArg, isOwn, biD, itHot, BI.hot, tgOwn, ownIt, itemsD, seqD, D.noL, bindT, setAll, e3, okAt]
  have bls : ∀ l : List Bool, blsD (l.map D.bl) = some l := fun l => by
    induction l with
    | nil => rfl
    | cons b l ih => simp only [List.map_cons, blsD, ih]; rfl
  unfold b4
  simp [q_var, q_cst, q_bin, q_un, q_and, q_or, q_ife, q_tup, q_lst, q_idx, q_slc, q_call, q_callk, q_bi, q_isi, q_rngL, q_rngO, q_cmp, q_exf, q_exi, q_bv, t_yes, t_and, t_or, t_not, t_of, o_none, o_some, es_nil, es_cons, bs_nil, bs_cons, i_of, i_rng, i_enum, i_zip, i_rev, s_pass', s_set', s_setC', s_setOwn', s_unp', s_app', s_ex', s_ret', s_retO', s_retN', s_ife', s_for', s_whl', s_raise', s_try', s_brk', s_cont', ss_nil', ss_cons', h_nil, h_some, h_none, bor, slotE, slotB, isiD, D.isTy, D.truth, unD, binD, guardL, ownArg, isOwn, biD, itHot, BI.hot, tgOwn, ownIt, itemsD, seqD, D.noL, cl, bls, D.isRng]
/-- the children of v -/
def kids (t : List Nat) (v : Nat) : List Nat := (t.zipIdx.filter fun p => decide (p.1 = v)).map fun p => p.2 + 1
theorem r17 {n : Nat} {t : List Nat} {v : Nat} (hv : v ≤ t.length) : P.run (n + 4) false 17 [hs t, .int v] = .ok (.tup (nts (kids t v))) := by
  have hf : P.fn 17 = some ⟨2, 4, b17⟩ := rfl
  rw [run1 hf rfl]
  have e5 := r5_ok (n := n) (hot := false) hv
  have cl : compL (turnQ ⟨false, P.run (n + 3), P.sub, P.glb⟩ (.tp [2, 3]) (.of (.bin .eq (.var 3) (.var 1))) (.bin .add (.var 2) (.cst (.int 1))) [.val (hs t), .val (.int v), .none, .none]) ((nts t).mapIdx fun i d => .tup [.int i, d]) = .ok (nts (kids t v)) := by
    rw [compL_of (p := fun d => match d with | .tup [_, .int x] => decide (x.toNat = v) | _ => false) (g := fun d => match d with | .tup [.int i, _] => .int (i + 1) | d => d)]
    · unfold nts kids
      rw [List.mapIdx_eq_zipIdx_map, List.zipIdx_map, List.filter_map, List.filter_map]
      simp [Function.comp_def]
    · intro d hd
      obtain ⟨i, hi, rfl⟩ := List.mem_iff_getElem.mp hd
      simp only [List.getElem_mapIdx]
      unfold turnQ nts
      simp [q_var, q_cst, q_bin, q_un, q_and, q_or, q_ife, q_tup, q_lst, q_idx, q_slc, q_call, q_callk, q_bi, q_isi, q_rngL, q_rngO, q_cmp, q_exf, q_exi, q_bv, t_yes, t_and, t_or, t_not, t_of, o_none, o_some, es_nil, es_cons, bs_nil, bs_cons, i_of, i_rng, i_enum, i_zip, i_rev, s_pass', s_set', s_setC', s_setOwn', s_unp', s_app', s_ex', s_ret', s_retO', s_retN', s_ife', s_for', s_whl', s_raise', s_try', s_brk', s_cont', ss_nil', ss_cons', h_nil, h_some, h_none, bor, slotE, slotB, isiD, D.isTy, D.truth, unD, binD, guardL, ownArg, isOwn, biD, itHot, BI.hot, tgOwn, ownIt, itemsD, seqD, D.noL, bindT, setAll, D.eqOk, D.dep, D.plain, D.eqv]
      have z : ((t[i]'(by simpa using hi) : Nat) : Int) = (v : Int) ↔ t[i]'(by simpa using hi) = v := by omega
      simp [z]
  unfold nts at cl
  unfold b17
  simp [q_var, q_cst, q_bin, q_un, q_and, q_or, q_ife, q_tup, q_lst, q_idx, q_slc, q_call, q_callk, q_bi, q_isi, q_rngL, q_rngO, q_cmp, q_exf, q_exi, q_bv, t_yes, t_and, t_or, t_not, t_of, o_none, o_some, es_nil, es_cons, bs_nil, bs_cons, i_of, i_rng, i_enum, i_zip, i_rev, s_pass', s_set', s_setC', s_setOwn', s_unp', s_app', s_ex', s_ret', s_retO', s_retN', s_ife', s_for', s_whl', s_raise', s_try', s_brk', s_cont', ss_nil', ss_cons', h_nil, h_some, h_none, bor, slotE, slotB, isiD, D.isTy, D.truth, unD, binD, guardL, ownArg, isOwn, biD, itHot, BI.hot, tgOwn, ownIt, itemsD, seqD, D.noL, e5, r7 (n + 2) true]
  unfold hs at cl ⊢
  simp [seqD, cl]
end Vk02_whole_elders
end
section
set_option Elab.async false
set_option linter.all false
set_option maxRecDepth 100000
set_option maxHeartbeats 2000000
/-! law k02: the rest of the defs, evaluated -/
namespace Vk02_whole_elders
open PySem PySem.Spec Ev
/-! ### tools -/
theorem rngL_nn (a b : Nat) : Ev.rngL (a : Int) (b : Int) = nts (List.range' a (b - a)) := by
  unfold Ev.rngL nts
  have e : ((b : Int) - (a : Int)).toNat = b - a := by omega
  rw [e, List.range'_eq_map_range, List.map_map]
  apply List.map_congr_left
  intro i _
  simp
theorem rngOk_nn {a b : Nat} (ha : a ≤ 16777216) (hb : b ≤ 16777216) : (rngOk (a : Int) (b : Int) && decide (((b : Int) - (a : Int)).toNat ≤ 16777216)) = true := by
  unfold rngOk
  simp
  omega
theorem items_rng {a b : Nat} (ha : a ≤ 16777216) (hb : b ≤ 16777216) : itemsD (.rng (a : Int) (b : Int)) = .ok (nts (List.range' a (b - a))) := by
  unfold itemsD
  simp only
  rw [if_pos (rngOk_nn ha hb), rngL_nn]
theorem i_rngN {T : Tb} {ρ : Rho} {a b : Nat} {e f : CE} (he : evE T e ρ = .ok (.int (a : Int))) (hf : evE T f ρ = .ok (.int (b : Int))) (ha : a ≤ 16777216) (hb : b ≤ 16777216) : evI T (.rng e f) ρ = .ok (nts (List.range' a (b - a))) := by
  rw [i_rng, he, ok_bind, hf, ok_bind]
  simp only
  rw [if_pos (rngOk_nn ha hb), rngL_nn]
  rfl
/-- a comprehension over the images of a list -/
theorem compL_im {α : Type} {f : D → Ev.R (Option D)} {F G : α → D} {p : α → Bool} {l : List α} (h : ∀ x ∈ l, f (F x) = .ok (if p x then some (G x) else none)) : compL f (l.map F) = .ok ((l.filter p).map G) := by
  induction l with
  | nil => rfl
  | cons x l ih =>
    have h1 := h x (by simp)
    have h2 := ih fun y hy => h y (by simp [hy])
    simp only [List.map_cons, compL, h1, h2]
    cases hp : p x <;> simp [List.filter_cons, hp]
theorem compL_imA {α : Type} {f : D → Ev.R (Option D)} {F G : α → D} {l : List α} (h : ∀ x ∈ l, f (F x) = .ok (some (G x))) : compL f (l.map F) = .ok (l.map G) := by
  have := compL_im (p := fun _ => true) (f := f) (F := F) (G := G) (l := l) fun x hx => by rw [h x hx]; simp
  have e : l.filter (fun _ => true) = l := List.filter_eq_self.mpr fun _ _ => rfl
  rw [e] at this
  exact this
theorem forL_ix {tg : Tgt} {body : Rho → RS} {I : Nat → Rho → Prop} : ∀ (ds : List D) (k : Nat) (ρ : Rho), I k ρ → (∀ i (h : i < ds.length) (ρ : Rho), I (k + i) ρ → ∃ ρ1 ρ2, bindT tg ds[i] ρ = .ok ρ1 ∧ body ρ1 = .nx ρ2 ∧ I (k + i + 1) ρ2) → ∃ ρ', forL tg body ds ρ = .nx ρ' ∧ I (k + ds.length) ρ'
  | [], k, ρ, h, _ => ⟨ρ, rfl, h⟩
  | d :: ds, k, ρ, h, st => by
    obtain ⟨ρ1, ρ2, e1, e2, h2⟩ := st 0 (by simp) ρ h
    obtain ⟨ρ', e3, h3⟩ := forL_ix (I := I) ds (k + 1) ρ2 h2 fun i hi ρ hI => by
      have z := st (i + 1) (by simpa using hi) ρ (by rw [show k + (i + 1) = k + 1 + i by omega]; exact hI)
      rw [show k + (i + 1) + 1 = k + 1 + i + 1 by omega] at z
      exact z
    refine ⟨ρ', ?_, by rw [List.length_cons, show k + (ds.length + 1) = k + 1 + ds.length by omega]; exact h3⟩
    have e1' : bindT tg d ρ = .ok ρ1 := e1
    simp only [forL, e1', e2, e3]
/-- what ends a loop -/
def RS.stop : RS → Bool
  | .ret _ => true
  | .err _ _ _ => true
  | _ => false
theorem forL_to {tg : Tgt} {body : Rho → RS} {I : Rho → Prop} {out : RS} (ho : RS.stop out = true) : ∀ (ds : List D) (k : Nat) (ρ : Rho), I ρ → (hk : k < ds.length) → (∀ i (h : i < k) (ρ : Rho), I ρ → ∃ ρ1 ρ2, bindT tg (ds[i]'(by omega)) ρ = .ok ρ1 ∧ body ρ1 = .nx ρ2 ∧ I ρ2) → (∀ ρ, I ρ → ∃ ρ1, bindT tg ds[k] ρ = .ok ρ1 ∧ body ρ1 = out) → forL tg body ds ρ = out
  | d :: ds, 0, ρ, h, hk, _, st => by
    obtain ⟨ρ1, e1, e2⟩ := st ρ h
    have e1' : bindT tg d ρ = .ok ρ1 := e1
    simp only [forL, e1', e2]
    cases out <;> first | rfl | cases ho
  | d :: ds, k + 1, ρ, h, hk, ps, st => by
    obtain ⟨ρ1, ρ2, e1, e2, h2⟩ := ps 0 (by omega) ρ h
    have e1' : bindT tg d ρ = .ok ρ1 := e1
    simp only [forL, e1', e2]
    exact forL_to ho ds k ρ2 h2 (by simpa using hk) (fun i hi ρ hI => by simpa using ps (i + 1) (by omega) ρ hI) (fun ρ hI => by simpa using st ρ hI)
theorem getI_nat {α : Type} {xs : List α} {i : Nat} (h : i < xs.length) : getI xs (i : Int) = .ok xs[i] := by
  unfold getI ixD
  have e1 : (0 : Int) ≤ (i : Int) := by omega
  have e2 : (i : Int) < (xs.length : Nat) := by omega
  rw [if_pos e1, if_pos e2]
  simp [h]
/-! ### branch_of -/
theorem r18 {n : Nat} {t : List Nat} (h : Par t) (hl : t.length ≤ 900) {v : Nat} (hv : v ≤ t.length) : P.run (n + 6) false 18 [hs t, .int v] = .ok (.tup (nts (v :: (List.range' (v + 1) (t.length - v)).filter fun z => decide (v ∈ eld t z)))) := by
  have hf : P.fn 18 = some ⟨2, 4, b18⟩ := rfl
  rw [run1 hf rfl]
  have e5 := r5_ok (n := n + 2) (hot := false) hv
  have it : itemsD (.rng ((v : Int) + 1) ((t.length : Int) + 1)) = .ok (nts (List.range' (v + 1) (t.length - v))) := by
    have ea : ((v : Int) + 1) = ((v + 1 : Nat) : Int) := by omega
    have eb : ((t.length : Int) + 1) = ((t.length + 1 : Nat) : Int) := by omega
    rw [ea, eb, items_rng (by omega) (by omega), show t.length + 1 - (v + 1) = t.length - v by omega]
  have cl : ∀ x : Slot, compL (turnQ ⟨false, P.run (n + 5), P.sub, P.glb⟩ (.nm 3) (.of (.call 12 [(.var 0), (.var 1), (.var 3)])) (.var 3) [.val (hs t), .val (.int v), x, .none]) (nts (List.range' (v + 1) (t.length - v))) = .ok (nts ((List.range' (v + 1) (t.length - v)).filter fun z => decide (v ∈ eld t z))) := fun x => by
    refine compL_im ?_
    intro z hz
    have hz' := List.mem_range'.mp hz
    have e12 := r12 (n := n) h hl (a := v) (b := z) hv (by omega)
    unfold turnQ
    simp [q_var, q_cst, q_bin, q_un, q_and, q_or, q_ife, q_tup, q_lst, q_idx, q_slc, q_call, q_callk, q_bi, q_isi, q_rngL, q_rngO, q_cmp, q_exf, q_exi, q_bv, t_yes, t_and, t_or, t_not, t_of, o_none, o_some, es_nil, es_cons, bs_nil, bs_cons, i_of, i_rng, i_enum, i_zip, i_rev, s_pass', s_set', s_setC', s_setOwn', s_unp', s_app', s_ex', s_ret', s_retO', s_retN', s_ife', s_for', s_whl', s_raise', s_try', s_brk', s_cont', ss_nil', ss_cons', h_nil, h_some, h_none, bor, slotE, slotB, isiD, D.isTy, D.truth, unD, binD, guardL, ownArg, isOwn, biD, itHot, BI.hot, tgOwn, ownIt, itemsD, seqD, D.noL, bindT, e12]
  have len : ((List.range' (v + 1) (t.length - v)).filter fun z => decide (v ∈ eld t z)).length ≤ t.length := by
    have := List.length_filter_le (fun z => decide (v ∈ eld t z)) (List.range' (v + 1) (t.length - v))
    simp only [List.length_range'] at this
    omega
  have bd : 1 + ((List.range' (v + 1) (t.length - v)).filter fun z => decide (v ∈ eld t z)).length ≤ 16777216 := by omega
  unfold b18
  have cmpv : evE (⟨false, P.run (n + 5), P.sub, P.glb⟩ : Tb) (.cmp (.nm 3) (.of (.var 2)) (.of (.call 12 [(.var 0), (.var 1), (.var 3)])) (.var 3)) [.val (hs t), .val (.int v), .val (.rng ((v : Int) + 1) ((t.length : Int) + 1)), .none] = .ok (.lst (nts ((List.range' (v + 1) (t.length - v)).filter fun z => decide (v ∈ eld t z)))) := by
    have src : evI (⟨false, P.run (n + 5), P.sub, P.glb⟩ : Tb) (.of (.var 2)) [.val (hs t), .val (.int v), .val (.rng ((v : Int) + 1) ((t.length : Int) + 1)), .none] = .ok (nts (List.range' (v + 1) (t.length - v))) := by
      rw [i_of, q_bv, show slotB ([Slot.val (hs t), .val (.int v), .val (.rng ((v : Int) + 1) ((t.length : Int) + 1)), .none][2]?) = .ok (.rng ((v : Int) + 1) ((t.length : Int) + 1)) from rfl, ok_bind, it]
    rw [q_cmp, src]
    simp [q_var, q_cst, q_bin, q_un, q_and, q_or, q_ife, q_tup, q_lst, q_idx, q_slc, q_call, q_callk, q_bi, q_isi, q_rngL, q_rngO, q_cmp, q_exf, q_exi, q_bv, t_yes, t_and, t_or, t_not, t_of, o_none, o_some, es_nil, es_cons, bs_nil, bs_cons, i_of, i_rng, i_enum, i_zip, i_rev, s_pass', s_set', s_setC', s_setOwn', s_unp', s_app', s_ex', s_ret', s_retO', s_retN', s_ife', s_for', s_whl', s_raise', s_try', s_brk', s_cont', ss_nil', ss_cons', h_nil, h_some, h_none, bor, slotE, slotB, isiD, D.isTy, D.truth, unD, binD, guardL, ownArg, isOwn, biD, itHot, BI.hot, tgOwn, ownIt, itemsD, seqD, D.noL, cl]
  have zz : ([hs t, .int v].map Slot.val ++ List.replicate (4 - 2) Slot.none) = [.val (hs t), .val (.int v), .none, .none] := rfl
  have s1 : evS (⟨false, P.run (n + 5), P.sub, P.glb⟩ : Tb) (.ex (.call 7 [(.call 5 [(.var 0), (.var 1)]), (.cst (.str (L "version")))])) [.val (hs t), .val (.int v), .none, .none] = .nx [.val (hs t), .val (.int v), .none, .none] := by
    simp [q_var, q_cst, q_bin, q_un, q_and, q_or, q_ife, q_tup, q_lst, q_idx, q_slc, q_call, q_callk, q_bi, q_isi, q_rngL, q_rngO, q_cmp, q_exf, q_exi, q_bv, t_yes, t_and, t_or, t_not, t_of, o_none, o_some, es_nil, es_cons, bs_nil, bs_cons, i_of, i_rng, i_enum, i_zip, i_rev, s_pass', s_set', s_setC', s_setOwn', s_unp', s_app', s_ex', s_ret', s_retO', s_retN', s_ife', s_for', s_whl', s_raise', s_try', s_brk', s_cont', ss_nil', ss_cons', h_nil, h_some, h_none, bor, slotE, slotB, isiD, D.isTy, D.truth, unD, binD, guardL, ownArg, isOwn, biD, itHot, BI.hot, tgOwn, ownIt, itemsD, seqD, D.noL, e5, r7 (n + 4) true]
  have s2 : evS (⟨false, P.run (n + 5), P.sub, P.glb⟩ : Tb) (.set 2 (.rngO (.bin .add (.var 1) (.cst (.int 1))) (.bin .add (.bi .len [(.var 0)]) (.cst (.int 1))))) [.val (hs t), .val (.int v), .none, .none] = .nx [.val (hs t), .val (.int v), .val (.rng ((v : Int) + 1) ((t.length : Int) + 1)), .none] := by
    unfold hs
    simp [q_var, q_cst, q_bin, q_un, q_and, q_or, q_ife, q_tup, q_lst, q_idx, q_slc, q_call, q_callk, q_bi, q_isi, q_rngL, q_rngO, q_cmp, q_exf, q_exi, q_bv, t_yes, t_and, t_or, t_not, t_of, o_none, o_some, es_nil, es_cons, bs_nil, bs_cons, i_of, i_rng, i_enum, i_zip, i_rev, s_pass', s_set', s_setC', s_setOwn', s_unp', s_app', s_ex', s_ret', s_retO', s_retN', s_ife', s_for', s_whl', s_raise', s_try', s_brk', s_cont', ss_nil', ss_cons', h_nil, h_some, h_none, bor, slotE, slotB, isiD, D.isTy, D.truth, unD, binD, guardL, ownArg, isOwn, biD, itHot, BI.hot, tgOwn, ownIt, itemsD, seqD, D.noL]
  rw [zz, ss_cons', s1, nx_to, s2, nx_to, s_ret', q_bin]
  have e : evE (⟨false, P.run (n + 5), P.sub, P.glb⟩ : Tb) (.bi .tuple [(.cmp (.nm 3) (.of (.var 2)) (.of (.call 12 [(.var 0), (.var 1), (.var 3)])) (.var 3))]) [.val (hs t), .val (.int v), .val (.rng ((v : Int) + 1) ((t.length : Int) + 1)), .none] = .ok (.tup (nts ((List.range' (v + 1) (t.length - v)).filter fun z => decide (v ∈ eld t z)))) := by
    rw [q_bi, bs_cons]
    simp only [bor, cmpv, bs_nil, ok_bind]
    rfl
  simp only [bor, e]
  simp [q_var, q_cst, q_bin, q_un, q_and, q_or, q_ife, q_tup, q_lst, q_idx, q_slc, q_call, q_callk, q_bi, q_isi, q_rngL, q_rngO, q_cmp, q_exf, q_exi, q_bv, t_yes, t_and, t_or, t_not, t_of, o_none, o_some, es_nil, es_cons, bs_nil, bs_cons, i_of, i_rng, i_enum, i_zip, i_rev, s_pass', s_set', s_setC', s_setOwn', s_unp', s_app', s_ex', s_ret', s_retO', s_retN', s_ife', s_for', s_whl', s_raise', s_try', s_brk', s_cont', ss_nil', ss_cons', h_nil, h_some, h_none, bor, slotE, slotB, isiD, D.isTy, D.truth, unD, binD, guardL, ownArg, isOwn, biD, itHot, BI.hot, tgOwn, ownIt, itemsD, seqD, D.noL, bd]
/-! ### lets_history, is_history of other things -/
theorem r4_not {n : Nat} {hot : Bool} {x : D} (h1 : x.isTy .tuple = false) (h2 : x.isRng = false) : P.run (n + 1) hot 4 [x] = .ok (.bl false) := by
  have hf : P.fn 4 = some ⟨1, 3, b4⟩ := rfl
  rw [run1 hf rfl]
  simp [q_var, q_cst, q_bin, q_un, q_and, q_or, q_ife, q_tup, q_lst, q_idx, q_slc, q_call, q_callk, q_bi, q_isi, q_rngL, q_rngO, q_cmp, q_exf, q_exi, q_bv, t_yes, t_and, t_or, t_not, t_of, o_none, o_some, es_nil, es_cons, bs_nil, bs_cons, i_of, i_rng, i_enum, i_zip, i_rev, s_pass', s_set', s_setC', s_setOwn', s_unp', s_app', s_ex', s_ret', s_retO', s_retN', s_ife', s_for', s_whl', s_raise', s_try', s_brk', s_cont', ss_nil', ss_cons', h_nil, h_some, h_none, bor, slotE, slotB, isiD, D.isTy, D.truth, unD, binD, guardL, ownArg, isOwn, biD, itHot, BI.hot, tgOwn, ownIt, itemsD, seqD, D.noL, b4, h2, h1]
  cases x <;> simp_all [D.isTy]
def AllOk (xs : List D) : Prop := ∀ i (h : i < xs.length), okAt i xs[i] = true
def Bad (xs : List D) (k : Nat) : Prop := ∃ h : k < xs.length, okAt k xs[k] = false ∧ ∀ j (hj : j < k), okAt j (xs[j]'(by omega)) = true
theorem ok_or_bad (xs : List D) : AllOk xs ∨ ∃ k, Bad xs k := by
  by_cases h : AllOk xs
  · exact .inl h
  · right
    have : ∀ m, m ≤ xs.length → (∃ k, Bad xs k) ∨ ∀ j (hj : j < xs.length), j < m → okAt j xs[j] = true := by
      intro m
      induction m with
      | zero => intro _; right; intro j _ hj; omega
      | succ m ih =>
        intro hm
        rcases ih (by omega) with k | a
        · exact .inl k
        · cases hb : okAt m xs[m] with
          | false => exact .inl ⟨m, by omega, hb, fun j hj => a j (by omega) hj⟩
          | true =>
            right
            intro j hj hjm
            by_cases e : j = m
            · subst e; exact hb
            · exact a j hj (by omega)
    rcases this xs.length (Nat.le_refl _) with k | a
    · exact k
    · exact (h fun i hi => a i hi hi).elim
theorem all_ok {xs : List D} (h : AllOk xs) : (xs.mapIdx okAt).all id = true := by
  rw [List.all_eq_true]
  intro b hb
  obtain ⟨i, hi, rfl⟩ := List.mem_iff_getElem.mp hb
  simpa using h i (by simpa using hi)
theorem all_bad {xs : List D} {k : Nat} (h : Bad xs k) : (xs.mapIdx okAt).all id = false := by
  obtain ⟨hk, hb, _⟩ := h
  rw [List.all_eq_false]
  exact ⟨okAt k xs[k], List.mem_iff_getElem.mpr ⟨k, by simpa using hk, by simp⟩, by simp [hb]⟩
end Vk02_whole_elders
end
section
set_option Elab.async false
set_option linter.all false
set_option maxRecDepth 100000
set_option maxHeartbeats 2000000
namespace Vk02_whole_elders
open PySem PySem.Spec Ev
theorem r3' {n : Nat} {hot : Bool} {i : Nat} {d : D} (h : d.isRng = false) : P.run (n + 3) hot 3 [.int i, d] = .ok (.bl (okAt i d)) := r3 n hot i d h
abbrev B16 : List CS := [(.ife (.not (.of (.call 3 [(.var 1), (.var 2)]))) [(.raise 3 [(.cst (.str (L "parent"))), (.var 1)])] [])]
theorem B16_ok {n i : Nat} {x y : D} (hr : y.isRng = false) (h : okAt i y = true) : evSs (⟨false, P.run (n + 3), P.sub, P.glb⟩ : Tb) B16 [.val x, .val (.int i), .val y] = .nx [.val x, .val (.int i), .val y] := by
  have e := r3' (n := n) (hot := false) (i := i) hr
  rw [h] at e
  simp [q_var, q_cst, q_bin, q_un, q_and, q_or, q_ife, q_tup, q_lst, q_idx, q_slc, q_call, q_callk, q_bi, q_isi, q_rngL, q_rngO, q_cmp, q_exf, q_exi, q_bv, t_yes, t_and, t_or, t_not, t_of, o_none, o_some, es_nil, es_cons, bs_nil, bs_cons, i_of, i_rng, i_enum, i_zip, i_rev, s_pass', s_set', s_setC', s_setOwn', s_unp', s_app', s_ex', s_ret', s_retO', s_retN', s_ife', s_for', s_whl', s_raise', s_try', s_brk', s_cont', ss_nil', ss_cons', h_nil, h_some, h_none, bor, slotE, slotB, isiD, D.isTy, D.truth, unD, binD, guardL, ownArg, isOwn, biD, itHot, BI.hot, tgOwn, ownIt, itemsD, seqD, D.noL, e]
theorem B16_no {n i : Nat} {x y : D} (hr : y.isRng = false) (h : okAt i y = false) : evSs (⟨false, P.run (n + 3), P.sub, P.glb⟩ : Tb) B16 [.val x, .val (.int i), .val y] = .err 3 [.str (L "parent"), .int i] [.val x, .val (.int i), .val y] := by
  have e := r3' (n := n) (hot := false) (i := i) hr
  rw [h] at e
  simp [q_var, q_cst, q_bin, q_un, q_and, q_or, q_ife, q_tup, q_lst, q_idx, q_slc, q_call, q_callk, q_bi, q_isi, q_rngL, q_rngO, q_cmp, q_exf, q_exi, q_bv, t_yes, t_and, t_or, t_not, t_of, o_none, o_some, es_nil, es_cons, bs_nil, bs_cons, i_of, i_rng, i_enum, i_zip, i_rev, s_pass', s_set', s_setC', s_setOwn', s_unp', s_app', s_ex', s_ret', s_retO', s_retN', s_ife', s_for', s_whl', s_raise', s_try', s_brk', s_cont', ss_nil', ss_cons', h_nil, h_some, h_none, bor, slotE, slotB, isiD, D.isTy, D.truth, unD, binD, guardL, ownArg, isOwn, biD, itHot, BI.hot, tgOwn, ownIt, itemsD, seqD, D.noL, e]
def S3 (x : D) (ρ : Rho) : Prop := ∃ a b, ρ = [.val x, a, b]
theorem r16_ok {n : Nat} {xs : List D} (hr : ∀ d ∈ xs, d.isRng = false) (h : AllOk xs) : P.run (n + 4) false 16 [.tup xs] = .ok (.int xs.length) := by
  have hf : P.fn 16 = some ⟨1, 3, b16⟩ := rfl
  rw [run1 hf rfl]
  obtain ⟨ρ', e, a, b, e2⟩ := forL_ix (tg := .tp [1, 2]) (body := evSs (⟨false, P.run (n + 3), P.sub, P.glb⟩ : Tb) B16) (I := fun _ ρ => S3 (.tup xs) ρ) (xs.mapIdx fun i d => .tup [.int i, d]) 0 [.val (.tup xs), .none, .none] ⟨_, _, rfl⟩ (by
    intro i hi ρ hI
    obtain ⟨a, b, rfl⟩ := hI
    have hi' : i < xs.length := by simpa using hi
    refine ⟨_, _, ?_, B16_ok (n := n) (i := i) (y := xs[i]) (hr _ (List.getElem_mem hi')) (h i hi'), _, _, rfl⟩
    simp [bindT, setAll])
  subst e2
  unfold b16
  simp [q_var, q_cst, q_bin, q_un, q_and, q_or, q_ife, q_tup, q_lst, q_idx, q_slc, q_call, q_callk, q_bi, q_isi, q_rngL, q_rngO, q_cmp, q_exf, q_exi, q_bv, t_yes, t_and, t_or, t_not, t_of, o_none, o_some, es_nil, es_cons, bs_nil, bs_cons, i_of, i_rng, i_enum, i_zip, i_rev, s_pass', s_set', s_setC', s_setOwn', s_unp', s_app', s_ex', s_ret', s_retO', s_retN', s_ife', s_for', s_whl', s_raise', s_try', s_brk', s_cont', ss_nil', ss_cons', h_nil, h_some, h_none, bor, slotE, slotB, isiD, D.isTy, D.truth, unD, binD, guardL, ownArg, isOwn, biD, itHot, BI.hot, tgOwn, ownIt, itemsD, seqD, D.noL, e, D.isRng]
theorem r16_bad {n : Nat} {xs : List D} {k : Nat} (hr : ∀ d ∈ xs, d.isRng = false) (h : Bad xs k) : P.run (n + 4) false 16 [.tup xs] = .err 3 [.str (L "parent"), .int k] := by
  have hf : P.fn 16 = some ⟨1, 3, b16⟩ := rfl
  obtain ⟨hk, hb, hj⟩ := h
  rw [run1 hf rfl]
  have e := forL_to (tg := .tp [1, 2]) (body := evSs (⟨false, P.run (n + 3), P.sub, P.glb⟩ : Tb) B16) (I := S3 (.tup xs)) (out := .err 3 [.str (L "parent"), .int k] [.val (.tup xs), .val (.int k), .val xs[k]]) rfl (xs.mapIdx fun i d => .tup [.int i, d]) k [.val (.tup xs), .none, .none] ⟨_, _, rfl⟩ (by simpa using hk) (by
    intro i hi ρ hI
    obtain ⟨a, b, rfl⟩ := hI
    have hi' : i < xs.length := by omega
    refine ⟨_, _, ?_, B16_ok (n := n) (i := i) (y := xs[i]) (hr _ (List.getElem_mem hi')) (hj i hi), _, _, rfl⟩
    simp [bindT, setAll]) (by
    intro ρ hI
    obtain ⟨a, b, rfl⟩ := hI
    refine ⟨_, ?_, B16_no (n := n) (i := k) (y := xs[k]) (hr _ (List.getElem_mem hk)) hb⟩
    simp [bindT, setAll])
  unfold b16
  simp [q_var, q_cst, q_bin, q_un, q_and, q_or, q_ife, q_tup, q_lst, q_idx, q_slc, q_call, q_callk, q_bi, q_isi, q_rngL, q_rngO, q_cmp, q_exf, q_exi, q_bv, t_yes, t_and, t_or, t_not, t_of, o_none, o_some, es_nil, es_cons, bs_nil, bs_cons, i_of, i_rng, i_enum, i_zip, i_rev, s_pass', s_set', s_setC', s_setOwn', s_unp', s_app', s_ex', s_ret', s_retO', s_retN', s_ife', s_for', s_whl', s_raise', s_try', s_brk', s_cont', ss_nil', ss_cons', h_nil, h_some, h_none, bor, slotE, slotB, isiD, D.isTy, D.truth, unD, binD, guardL, ownArg, isOwn, biD, itHot, BI.hot, tgOwn, ownIt, itemsD, seqD, D.noL, e, D.isRng]
theorem r16_not {n : Nat} {x : D} (h1 : x.isTy .tuple = false) (h2 : x.isRng = false) : P.run (n + 1) false 16 [x] = .err 3 [.str (L "shape"), .int (-1)] := by
  have hf : P.fn 16 = some ⟨1, 3, b16⟩ := rfl
  rw [run1 hf rfl]
  cases x <;> first | cases h1; done | cases h2; done | simp [q_var, q_cst, q_bin, q_un, q_and, q_or, q_ife, q_tup, q_lst, q_idx, q_slc, q_call, q_callk, q_bi, q_isi, q_rngL, q_rngO, q_cmp, q_exf, q_exi, q_bv, t_yes, t_and, t_or, t_not, t_of, o_none, o_some, es_nil, es_cons, bs_nil, bs_cons, i_of, i_rng, i_enum, i_zip, i_rev, s_pass', s_set', s_setC', s_setOwn', s_unp', s_app', s_ex', s_ret', s_retO', s_retN', s_ife', s_for', s_whl', s_raise', s_try', s_brk', s_cont', ss_nil', ss_cons', h_nil, h_some, h_none, bor, slotE, slotB, isiD, D.isTy, D.truth, unD, binD, guardL, ownArg, isOwn, biD, itHot, BI.hot, tgOwn, ownIt, itemsD, seqD, D.noL, b16, D.isRng]
/-! ### the law's fault -/
abbrev c27 : CT := .or (.not (.of (.isi (.idx (.var 0) (.var 1)) .int))) (.or (.of (.isi (.idx (.var 0) (.var 1)) .bool)) (.or (.of (.bin .lt (.idx (.var 0) (.var 1)) (.cst (.int 0)))) (.of (.bin .gt (.idx (.var 0) (.var 1)) (.var 1)))))
theorem c27_is {T : Tb} {xs : List D} {k : Nat} (hk : k < xs.length) (hr : xs[k].isRng = false) : evT T c27 [.val (.tup xs), .val (.int k)] = .ok (!okAt k xs[k]) := by
  have g := getI_nat hk
  cases hx : xs[k] <;> rw [hx] at g hr <;> first | cases hr; done | (simp [q_var, q_cst, q_bin, q_un, q_and, q_or, q_ife, q_tup, q_lst, q_idx, q_slc, q_call, q_callk, q_bi, q_isi, q_rngL, q_rngO, q_cmp, q_exf, q_exi, q_bv, t_yes, t_and, t_or, t_not, t_of, o_none, o_some, es_nil, es_cons, bs_nil, bs_cons, i_of, i_rng, i_enum, i_zip, i_rev, s_pass', s_set', s_setC', s_setOwn', s_unp', s_app', s_ex', s_ret', s_retO', s_retN', s_ife', s_for', s_whl', s_raise', s_try', s_brk', s_cont', ss_nil', ss_cons', h_nil, h_some, h_none, bor, slotE, slotB, isiD, D.isTy, D.truth, unD, binD, guardL, ownArg, isOwn, biD, itHot, BI.hot, tgOwn, ownIt, itemsD, seqD, D.noL, idxD, g, okAt, isNum, leInt, D.isRng]; done) | skip
  rename_i i
  simp [q_var, q_cst, q_bin, q_un, q_and, q_or, q_ife, q_tup, q_lst, q_idx, q_slc, q_call, q_callk, q_bi, q_isi, q_rngL, q_rngO, q_cmp, q_exf, q_exi, q_bv, t_yes, t_and, t_or, t_not, t_of, o_none, o_some, es_nil, es_cons, bs_nil, bs_cons, i_of, i_rng, i_enum, i_zip, i_rev, s_pass', s_set', s_setC', s_setOwn', s_unp', s_app', s_ex', s_ret', s_retO', s_retN', s_ife', s_for', s_whl', s_raise', s_try', s_brk', s_cont', ss_nil', ss_cons', h_nil, h_some, h_none, bor, slotE, slotB, isiD, D.isTy, D.truth, unD, binD, guardL, ownArg, isOwn, biD, itHot, BI.hot, tgOwn, ownIt, itemsD, seqD, D.noL, idxD, g, okAt, isNum, leInt, D.isRng]
  by_cases a : i < 0
  · simp [a]
  · by_cases b : (k : Int) < i
    · simp [a, b]
    · simp [a, b]; omega
abbrev B27 : List CS := [(.ife c27 [(.ret (.tup [(.cst (.str (L "parent"))), (.var 1)]))] [])]
theorem B27_ok {T : Tb} {xs : List D} {k : Nat} (hk : k < xs.length) (hr : xs[k].isRng = false) (h : okAt k xs[k] = true) : evSs T B27 [.val (.tup xs), .val (.int k)] = .nx [.val (.tup xs), .val (.int k)] := by
  rw [ss_cons', s_ife', c27_is hk hr, h]
  rfl
theorem B27_no {T : Tb} {xs : List D} {k : Nat} (hk : k < xs.length) (hr : xs[k].isRng = false) (h : okAt k xs[k] = false) : evSs T B27 [.val (.tup xs), .val (.int k)] = .ret (.tup [.str (L "parent"), .int k]) := by
  rw [ss_cons', s_ife', c27_is hk hr, h]
  rfl
def S2 (x : D) (ρ : Rho) : Prop := ∃ a, ρ = [.val x, a]
theorem nts_get {l : List Nat} {i : Nat} (h : i < (nts l).length) : (nts l)[i] = .int ((l[i]'(by simpa using h) : Nat) : Int) := by simp
theorem src27 {T : Tb} {xs : List D} {a : Slot} (hl : xs.length ≤ 1000) : evI T (.rng (.cst (.int 0)) (.bi .len [(.var 0)])) [.val (.tup xs), a] = .ok (nts (List.range xs.length)) := by
  refine i_rng0 ?_ (by omega)
  simp [q_var, q_cst, q_bin, q_un, q_and, q_or, q_ife, q_tup, q_lst, q_idx, q_slc, q_call, q_callk, q_bi, q_isi, q_rngL, q_rngO, q_cmp, q_exf, q_exi, q_bv, t_yes, t_and, t_or, t_not, t_of, o_none, o_some, es_nil, es_cons, bs_nil, bs_cons, i_of, i_rng, i_enum, i_zip, i_rev, s_pass', s_set', s_setC', s_setOwn', s_unp', s_app', s_ex', s_ret', s_retO', s_retN', s_ife', s_for', s_whl', s_raise', s_try', s_brk', s_cont', ss_nil', ss_cons', h_nil, h_some, h_none, bor, slotE, slotB, isiD, D.isTy, D.truth, unD, binD, guardL, ownArg, isOwn, biD, itHot, BI.hot, tgOwn, ownIt, itemsD, seqD, D.noL]
theorem s27 {T : Tb} {x : D} {a : Slot} (h1 : x.isTy .tuple = true) : evS T (.ife (.not (.of (.isi (.var 0) .tuple))) [(.ret (.tup [(.cst (.str (L "shape"))), (.un .neg (.cst (.int 1)))]))] []) [.val x, a] = .nx [.val x, a] := by
  cases x <;> first | cases h1; done | simp [q_var, q_cst, q_bin, q_un, q_and, q_or, q_ife, q_tup, q_lst, q_idx, q_slc, q_call, q_callk, q_bi, q_isi, q_rngL, q_rngO, q_cmp, q_exf, q_exi, q_bv, t_yes, t_and, t_or, t_not, t_of, o_none, o_some, es_nil, es_cons, bs_nil, bs_cons, i_of, i_rng, i_enum, i_zip, i_rev, s_pass', s_set', s_setC', s_setOwn', s_unp', s_app', s_ex', s_ret', s_retO', s_retN', s_ife', s_for', s_whl', s_raise', s_try', s_brk', s_cont', ss_nil', ss_cons', h_nil, h_some, h_none, bor, slotE, slotB, isiD, D.isTy, D.truth, unD, binD, guardL, ownArg, isOwn, biD, itHot, BI.hot, tgOwn, ownIt, itemsD, seqD, D.noL, D.isRng]
theorem r27_ok {n : Nat} {xs : List D} (hl : xs.length ≤ 1000) (hr : ∀ d ∈ xs, d.isRng = false) (h : AllOk xs) : P.run (n + 1) false 27 [.tup xs] = .ok .non := by
  have hf : P.fn 27 = some ⟨1, 2, b27⟩ := rfl
  rw [run1 hf rfl]
  obtain ⟨ρ', e, a, e2⟩ := forL_ix (tg := .nm 1) (body := evSs (⟨false, P.run n, P.sub, P.glb⟩ : Tb) B27) (I := fun _ ρ => S2 (.tup xs) ρ) (nts (List.range xs.length)) 0 [.val (.tup xs), .none] ⟨_, rfl⟩ (by
    intro i hi ρ hI
    obtain ⟨a, rfl⟩ := hI
    have hi' : i < xs.length := by simpa using hi
    refine ⟨_, _, ?_, B27_ok hi' (hr _ (List.getElem_mem hi')) (h i hi'), _, rfl⟩
    simp [bindT])
  subst e2
  have sr := src27 (T := ⟨false, P.run n, P.sub, P.glb⟩) (a := .none) hl
  have fo : evS (⟨false, P.run n, P.sub, P.glb⟩ : Tb) (.for (.nm 1) (.rng (.cst (.int 0)) (.bi .len [(.var 0)])) B27) [.val (.tup xs), .none] = .nx [.val (.tup xs), a] := by
    rw [s_for', sr]
    simp [q_var, q_cst, q_bin, q_un, q_and, q_or, q_ife, q_tup, q_lst, q_idx, q_slc, q_call, q_callk, q_bi, q_isi, q_rngL, q_rngO, q_cmp, q_exf, q_exi, q_bv, t_yes, t_and, t_or, t_not, t_of, o_none, o_some, es_nil, es_cons, bs_nil, bs_cons, i_of, i_rng, i_enum, i_zip, i_rev, s_pass', s_set', s_setC', s_setOwn', s_unp', s_app', s_ex', s_ret', s_retO', s_retN', s_ife', s_for', s_whl', s_raise', s_try', s_brk', s_cont', ss_nil', ss_cons', h_nil, h_some, h_none, bor, slotE, slotB, isiD, D.isTy, D.truth, unD, binD, guardL, ownArg, isOwn, biD, itHot, BI.hot, tgOwn, ownIt, itemsD, seqD, D.noL, e]
  unfold b27
  have zz : ([D.tup xs].map Slot.val ++ List.replicate (2 - 1) Slot.none) = [.val (.tup xs), .none] := rfl
  rw [zz, ss_cons', s27 rfl, nx_to, fo, nx_to, s_ret']
  rfl
theorem r27_bad {n : Nat} {xs : List D} {k : Nat} (hl : xs.length ≤ 1000) (hr : ∀ d ∈ xs, d.isRng = false) (h : Bad xs k) : P.run (n + 1) false 27 [.tup xs] = .ok (.tup [.str (L "parent"), .int k]) := by
  have hf : P.fn 27 = some ⟨1, 2, b27⟩ := rfl
  obtain ⟨hk, hb, hj⟩ := h
  rw [run1 hf rfl]
  have e := forL_to (tg := .nm 1) (body := evSs (⟨false, P.run n, P.sub, P.glb⟩ : Tb) B27) (I := S2 (.tup xs)) (out := .ret (.tup [.str (L "parent"), .int k])) rfl (nts (List.range xs.length)) k [.val (.tup xs), .none] ⟨_, rfl⟩ (by simpa using hk) (by
    intro i hi ρ hI
    obtain ⟨a, rfl⟩ := hI
    have hi' : i < xs.length := by omega
    refine ⟨_, _, ?_, B27_ok hi' (hr _ (List.getElem_mem hi')) (hj i hi), _, rfl⟩
    simp [bindT]) (by
    intro ρ hI
    obtain ⟨a, rfl⟩ := hI
    refine ⟨_, ?_, B27_no hk (hr _ (List.getElem_mem hk)) hb⟩
    simp [bindT])
  have sr := src27 (T := ⟨false, P.run n, P.sub, P.glb⟩) (a := .none) hl
  have fo : evS (⟨false, P.run n, P.sub, P.glb⟩ : Tb) (.for (.nm 1) (.rng (.cst (.int 0)) (.bi .len [(.var 0)])) B27) [.val (.tup xs), .none] = .ret (.tup [.str (L "parent"), .int k]) := by
    rw [s_for', sr]
    simp [q_var, q_cst, q_bin, q_un, q_and, q_or, q_ife, q_tup, q_lst, q_idx, q_slc, q_call, q_callk, q_bi, q_isi, q_rngL, q_rngO, q_cmp, q_exf, q_exi, q_bv, t_yes, t_and, t_or, t_not, t_of, o_none, o_some, es_nil, es_cons, bs_nil, bs_cons, i_of, i_rng, i_enum, i_zip, i_rev, s_pass', s_set', s_setC', s_setOwn', s_unp', s_app', s_ex', s_ret', s_retO', s_retN', s_ife', s_for', s_whl', s_raise', s_try', s_brk', s_cont', ss_nil', ss_cons', h_nil, h_some, h_none, bor, slotE, slotB, isiD, D.isTy, D.truth, unD, binD, guardL, ownArg, isOwn, biD, itHot, BI.hot, tgOwn, ownIt, itemsD, seqD, D.noL, e]
  unfold b27
  have zz : ([D.tup xs].map Slot.val ++ List.replicate (2 - 1) Slot.none) = [.val (.tup xs), .none] := rfl
  rw [zz, ss_cons', s27 rfl, nx_to, fo]
  rfl
theorem r27_not {n : Nat} {x : D} (h1 : x.isTy .tuple = false) (h2 : x.isRng = false) : P.run (n + 1) false 27 [x] = .ok (.tup [.str (L "shape"), .int (-1)]) := by
  have hf : P.fn 27 = some ⟨1, 2, b27⟩ := rfl
  rw [run1 hf rfl]
  have zz : ([x].map Slot.val ++ List.replicate (2 - 1) Slot.none) = [.val x, .none] := rfl
  have s : evS (⟨false, P.run n, P.sub, P.glb⟩ : Tb) (.ife (.not (.of (.isi (.var 0) .tuple))) [(.ret (.tup [(.cst (.str (L "shape"))), (.un .neg (.cst (.int 1)))]))] []) [.val x, .none] = .ret (.tup [.str (L "shape"), .int (-1)]) := by
    cases x <;> first | cases h1; done | cases h2; done | simp [q_var, q_cst, q_bin, q_un, q_and, q_or, q_ife, q_tup, q_lst, q_idx, q_slc, q_call, q_callk, q_bi, q_isi, q_rngL, q_rngO, q_cmp, q_exf, q_exi, q_bv, t_yes, t_and, t_or, t_not, t_of, o_none, o_some, es_nil, es_cons, bs_nil, bs_cons, i_of, i_rng, i_enum, i_zip, i_rev, s_pass', s_set', s_setC', s_setOwn', s_unp', s_app', s_ex', s_ret', s_retO', s_retN', s_ife', s_for', s_whl', s_raise', s_try', s_brk', s_cont', ss_nil', ss_cons', h_nil, h_some, h_none, bor, slotE, slotB, isiD, D.isTy, D.truth, unD, binD, guardL, ownArg, isOwn, biD, itHot, BI.hot, tgOwn, ownIt, itemsD, seqD, D.noL, D.isRng]
  unfold b27
  rw [zz, ss_cons', s]
  rfl
/-! ### the law's sameness -/
mutual
/-- none, bools, ints, texts, tuples of these, none longer than a thousand -/
def okS : D → Bool
  | .non => true | .bl _ => true | .int _ => true | .str _ => true
  | .tup xs => decide (xs.length ≤ 1000) && okSL xs
  | _ => false
def okSL : List D → Bool
  | [] => true
  | x :: xs => okS x && okSL xs
end
theorem okSL_mem : ∀ {xs : List D}, okSL xs = true → ∀ x ∈ xs, okS x = true
  | x :: xs, h, y, hy => by
    simp only [okSL, Bool.and_eq_true] at h
    rcases List.mem_cons.mp hy with rfl | hy
    · exact h.1
    · exact okSL_mem h.2 y hy
theorem okSL_of : ∀ {xs : List D}, (∀ x ∈ xs, okS x = true) → okSL xs = true
  | [], _ => rfl
  | x :: xs, h => by
    simp only [okSL, Bool.and_eq_true]
    exact ⟨h x (by simp), okSL_of fun y hy => h y (by simp [hy])⟩
theorem depL_mem : ∀ {xs : List D}, ∀ x ∈ xs, x.dep ≤ D.depL xs
  | x :: xs, y, hy => by
    simp only [D.depL]
    rcases List.mem_cons.mp hy with rfl | hy
    · omega
    · have := depL_mem y hy
      omega
theorem eqv_str (x : List Nat) : D.eqv (.str x) (.str x) = true := by simp [D.eqv]
theorem same_up (hot : Bool) : ∀ (k n : Nat) (d : D), d.dep ≤ k → okS d = true → P.run (n + k + 1) hot 23 [d, d] = .ok (.bl true) := by
  intro k
  induction k with
  | zero =>
    intro n d hd ho
    have hf : P.fn 23 = some ⟨2, 3, b23⟩ := rfl
    rw [run1 hf rfl]
    cases d <;> first | cases ho; done | (simp only [D.dep] at hd; omega) | (simp [q_var, q_cst, q_bin, q_un, q_and, q_or, q_ife, q_tup, q_lst, q_idx, q_slc, q_call, q_callk, q_bi, q_isi, q_rngL, q_rngO, q_cmp, q_exf, q_exi, q_bv, t_yes, t_and, t_or, t_not, t_of, o_none, o_some, es_nil, es_cons, bs_nil, bs_cons, i_of, i_rng, i_enum, i_zip, i_rev, s_pass', s_set', s_setC', s_setOwn', s_unp', s_app', s_ex', s_ret', s_retO', s_retN', s_ife', s_for', s_whl', s_raise', s_try', s_brk', s_cont', ss_nil', ss_cons', h_nil, h_some, h_none, bor, slotE, slotB, isiD, D.isTy, D.truth, unD, binD, guardL, ownArg, isOwn, biD, itHot, BI.hot, tgOwn, ownIt, itemsD, seqD, D.noL, b23, D.isRng, D.eqOk, D.dep, D.plain, D.eqv]; done) | skip
  | succ k ih =>
    intro n d hd ho
    have hf : P.fn 23 = some ⟨2, 3, b23⟩ := rfl
    rw [run1 hf rfl]
    cases d with
    | tup xs =>
      have hx : xs.length ≤ 1000 ∧ okSL xs = true := by simpa [okS] using ho
      have hdx : D.depL xs ≤ k := by simp only [D.dep] at hd; omega
      have src : ∀ a : Slot, evI (⟨hot, P.run (n + (k + 1)), P.sub, P.glb⟩ : Tb) (.rng (.cst (.int 0)) (.bi .len [(.var 1)])) [.val (.tup xs), .val (.tup xs), a] = .ok (nts (List.range xs.length)) := fun a => by
        refine i_rng0 ?_ (by omega)
        simp [q_var, q_cst, q_bin, q_un, q_and, q_or, q_ife, q_tup, q_lst, q_idx, q_slc, q_call, q_callk, q_bi, q_isi, q_rngL, q_rngO, q_cmp, q_exf, q_exi, q_bv, t_yes, t_and, t_or, t_not, t_of, o_none, o_some, es_nil, es_cons, bs_nil, bs_cons, i_of, i_rng, i_enum, i_zip, i_rev, s_pass', s_set', s_setC', s_setOwn', s_unp', s_app', s_ex', s_ret', s_retO', s_retN', s_ife', s_for', s_whl', s_raise', s_try', s_brk', s_cont', ss_nil', ss_cons', h_nil, h_some, h_none, bor, slotE, slotB, isiD, D.isTy, D.truth, unD, binD, guardL, ownArg, isOwn, biD, itHot, BI.hot, tgOwn, ownIt, itemsD, seqD, D.noL]
      have cl : compL (turnQ (⟨hot, P.run (n + (k + 1)), P.sub, P.glb⟩ : Tb) (.nm 2) .yes (.call 23 [(.idx (.var 0) (.var 2)), (.idx (.var 1) (.var 2))]) [.val (.tup xs), .val (.tup xs), .none]) (nts (List.range xs.length)) = .ok ((List.range xs.length).map fun _ => .bl true) := by
        refine compL_imA ?_
        intro i hi
        have hi' : i < xs.length := List.mem_range.mp hi
        have g := getI_nat hi'
        have m := List.getElem_mem hi'
        have e := ih n xs[i] (Nat.le_trans (depL_mem _ m) hdx) (okSL_mem hx.2 _ m)
        rw [show n + k + 1 = n + (k + 1) by omega] at e
        unfold turnQ
        simp [q_var, q_cst, q_bin, q_un, q_and, q_or, q_ife, q_tup, q_lst, q_idx, q_slc, q_call, q_callk, q_bi, q_isi, q_rngL, q_rngO, q_cmp, q_exf, q_exi, q_bv, t_yes, t_and, t_or, t_not, t_of, o_none, o_some, es_nil, es_cons, bs_nil, bs_cons, i_of, i_rng, i_enum, i_zip, i_rev, s_pass', s_set', s_setC', s_setOwn', s_unp', s_app', s_ex', s_ret', s_retO', s_retN', s_ife', s_for', s_whl', s_raise', s_try', s_brk', s_cont', ss_nil', ss_cons', h_nil, h_some, h_none, bor, slotE, slotB, isiD, D.isTy, D.truth, unD, binD, guardL, ownArg, isOwn, biD, itHot, BI.hot, tgOwn, ownIt, itemsD, seqD, D.noL, bindT, idxD, g, e]
      have cmpv : evE (⟨hot, P.run (n + (k + 1)), P.sub, P.glb⟩ : Tb) (.cmp (.nm 2) (.rng (.cst (.int 0)) (.bi .len [(.var 1)])) .yes (.call 23 [(.idx (.var 0) (.var 2)), (.idx (.var 1) (.var 2))])) [.val (.tup xs), .val (.tup xs), .none] = .ok (.lst ((List.range xs.length).map fun _ => .bl true)) := by
        rw [q_cmp, src]
        simp [q_var, q_cst, q_bin, q_un, q_and, q_or, q_ife, q_tup, q_lst, q_idx, q_slc, q_call, q_callk, q_bi, q_isi, q_rngL, q_rngO, q_cmp, q_exf, q_exi, q_bv, t_yes, t_and, t_or, t_not, t_of, o_none, o_some, es_nil, es_cons, bs_nil, bs_cons, i_of, i_rng, i_enum, i_zip, i_rev, s_pass', s_set', s_setC', s_setOwn', s_unp', s_app', s_ex', s_ret', s_retO', s_retN', s_ife', s_for', s_whl', s_raise', s_try', s_brk', s_cont', ss_nil', ss_cons', h_nil, h_some, h_none, bor, slotE, slotB, isiD, D.isTy, D.truth, unD, binD, guardL, ownArg, isOwn, biD, itHot, BI.hot, tgOwn, ownIt, itemsD, seqD, D.noL, cl]
      have bls : ∀ l : List Nat, blsD (l.map fun _ => D.bl true) = some (l.map fun _ => true) := fun l => by
        induction l with
        | nil => rfl
        | cons b l ih => simp only [List.map_cons, blsD, ih]; rfl
      have al : evE (⟨hot, P.run (n + (k + 1)), P.sub, P.glb⟩ : Tb) (.bi .all [(.cmp (.nm 2) (.rng (.cst (.int 0)) (.bi .len [(.var 1)])) .yes (.call 23 [(.idx (.var 0) (.var 2)), (.idx (.var 1) (.var 2))]))]) [.val (.tup xs), .val (.tup xs), .none] = .ok (.bl true) := by
        rw [q_bi, bs_cons]
        simp only [bor, cmpv, bs_nil, ok_bind]
        simp [BI.hot, biD, bls]
      have ret : evS (⟨hot, P.run (n + (k + 1)), P.sub, P.glb⟩ : Tb) (.ret (.bi .all [(.cmp (.nm 2) (.rng (.cst (.int 0)) (.bi .len [(.var 1)])) .yes (.call 23 [(.idx (.var 0) (.var 2)), (.idx (.var 1) (.var 2))]))])) [.val (.tup xs), .val (.tup xs), .none] = .ret (.bl true) := by
        rw [s_ret', al]
        rfl
      unfold b23
      have zz : ([D.tup xs, D.tup xs].map Slot.val ++ List.replicate (3 - 2) Slot.none) = [.val (.tup xs), .val (.tup xs), .none] := rfl
      have c1 : evT (⟨hot, P.run (n + (k + 1)), P.sub, P.glb⟩ : Tb) (.of (.isi (.var 1) .tuple)) [.val (.tup xs), .val (.tup xs), .none] = .ok true := by simp [q_var, q_cst, q_bin, q_un, q_and, q_or, q_ife, q_tup, q_lst, q_idx, q_slc, q_call, q_callk, q_bi, q_isi, q_rngL, q_rngO, q_cmp, q_exf, q_exi, q_bv, t_yes, t_and, t_or, t_not, t_of, o_none, o_some, es_nil, es_cons, bs_nil, bs_cons, i_of, i_rng, i_enum, i_zip, i_rev, s_pass', s_set', s_setC', s_setOwn', s_unp', s_app', s_ex', s_ret', s_retO', s_retN', s_ife', s_for', s_whl', s_raise', s_try', s_brk', s_cont', ss_nil', ss_cons', h_nil, h_some, h_none, bor, slotE, slotB, isiD, D.isTy, D.truth, unD, binD, guardL, ownArg, isOwn, biD, itHot, BI.hot, tgOwn, ownIt, itemsD, seqD, D.noL, D.isRng]
      have c2 : evS (⟨hot, P.run (n + (k + 1)), P.sub, P.glb⟩ : Tb) (.ife (.or (.not (.of (.isi (.var 0) .tuple))) (.of (.bin .ne (.bi .len [(.var 0)]) (.bi .len [(.var 1)])))) [(.ret (.cst (.bl false)))] []) [.val (.tup xs), .val (.tup xs), .none] = .nx [.val (.tup xs), .val (.tup xs), .none] := by
        simp [q_var, q_cst, q_bin, q_un, q_and, q_or, q_ife, q_tup, q_lst, q_idx, q_slc, q_call, q_callk, q_bi, q_isi, q_rngL, q_rngO, q_cmp, q_exf, q_exi, q_bv, t_yes, t_and, t_or, t_not, t_of, o_none, o_some, es_nil, es_cons, bs_nil, bs_cons, i_of, i_rng, i_enum, i_zip, i_rev, s_pass', s_set', s_setC', s_setOwn', s_unp', s_app', s_ex', s_ret', s_retO', s_retN', s_ife', s_for', s_whl', s_raise', s_try', s_brk', s_cont', ss_nil', ss_cons', h_nil, h_some, h_none, bor, slotE, slotB, isiD, D.isTy, D.truth, unD, binD, guardL, ownArg, isOwn, biD, itHot, BI.hot, tgOwn, ownIt, itemsD, seqD, D.noL, D.isRng, D.eqOk, D.dep, D.plain, D.eqv]
      rw [zz, ss_cons', s_ife', c1]
      simp only [ok_on, if_true]
      rw [ss_cons', c2, nx_to, ret]
      rfl
    | _ => first | cases ho; done | (simp [q_var, q_cst, q_bin, q_un, q_and, q_or, q_ife, q_tup, q_lst, q_idx, q_slc, q_call, q_callk, q_bi, q_isi, q_rngL, q_rngO, q_cmp, q_exf, q_exi, q_bv, t_yes, t_and, t_or, t_not, t_of, o_none, o_some, es_nil, es_cons, bs_nil, bs_cons, i_of, i_rng, i_enum, i_zip, i_rev, s_pass', s_set', s_setC', s_setOwn', s_unp', s_app', s_ex', s_ret', s_retO', s_retN', s_ife', s_for', s_whl', s_raise', s_try', s_brk', s_cont', ss_nil', ss_cons', h_nil, h_some, h_none, bor, slotE, slotB, isiD, D.isTy, D.truth, unD, binD, guardL, ownArg, isOwn, biD, itHot, BI.hot, tgOwn, ownIt, itemsD, seqD, D.noL, b23, D.isRng, D.eqOk, D.dep, D.plain, D.eqv]; done)
theorem same {N : Nat} {hot : Bool} {d : D} (h : d.dep + 1 ≤ N) (ho : okS d = true) : P.run N hot 23 [d, d] = .ok (.bl true) := by
  have := same_up hot d.dep (N - 1 - d.dep) d (Nat.le_refl _) ho
  rwa [show N - 1 - d.dep + d.dep + 1 = N by omega] at this
end Vk02_whole_elders
end
section
set_option Elab.async false
set_option linter.all false
set_option maxRecDepth 100000
set_option maxHeartbeats 2000000
namespace Vk02_whole_elders
open PySem PySem.Spec Ev
/-! ### judged -/
/-- things that may be judged -/
def Th : D → Prop
  | .tup xs => xs.length ≤ 1000 ∧ ∀ d ∈ xs, d.isRng = false
  | .rng _ _ => False
  | _ => True
theorem sub33 : P.sub 3 3 = true := rfl
theorem sub31 : P.sub 3 1 = true := rfl
theorem sub32 : P.sub 3 2 = false := rfl
theorem sub44 : P.sub 4 4 = true := rfl
theorem sub42 : P.sub 4 2 = true := rfl
theorem sub41 : P.sub 4 1 = false := rfl
theorem same_b {N : Nat} {hot : Bool} (b : Bool) (h : 1 ≤ N) : P.run N hot 23 [.bl b, .bl b] = .ok (.bl true) := same (by simpa [D.dep] using h) rfl
theorem same_i {N : Nat} {hot : Bool} (i : Int) (h : 1 ≤ N) : P.run N hot 23 [.int i, .int i] = .ok (.bl true) := same (by simpa [D.dep] using h) rfl
theorem same4 {N : Nat} {hot : Bool} (s : List Nat) (i : Int) (h : 2 ≤ N) : P.run N hot 23 [.tup [.str s, .int i, .bl true, .bl false], .tup [.str s, .int i, .bl true, .bl false]] = .ok (.bl true) := same (by simpa [D.dep, D.depL] using h) rfl
abbrev J1 : CS := .set 1 (.call 27 [(.var 0)])
abbrev J2 : CS := .ife (.or (.not (.of (.call 23 [(.call 4 [(.var 0)]), (.un .isN (.var 1))]))) (.not (.of (.call 23 [(.callk 4 [] [(.var 0)] [0]), (.un .isN (.var 1))])))) [(.ret (.cst (.bl false)))] []
theorem J1_is {call : Bool → Nat → List D → Ev.R D} {x y : D} (e27 : call false 27 [x] = .ok y) : evS (⟨false, call, P.sub, P.glb⟩ : Tb) J1 [.val x, .none, .none, .none] = .nx [.val x, .val y, .none, .none] := by
  simp [q_var, q_cst, q_bin, q_un, q_and, q_or, q_ife, q_tup, q_lst, q_idx, q_slc, q_call, q_callk, q_bi, q_isi, q_rngL, q_rngO, q_cmp, q_exf, q_exi, q_bv, t_yes, t_and, t_or, t_not, t_of, o_none, o_some, es_nil, es_cons, bs_nil, bs_cons, i_of, i_rng, i_enum, i_zip, i_rev, s_pass', s_set', s_setC', s_setOwn', s_unp', s_app', s_ex', s_ret', s_retO', s_retN', s_ife', s_for', s_whl', s_raise', s_try', s_brk', s_cont', ss_nil', ss_cons', h_nil, h_some, h_none, bor, slotE, slotB, isiD, D.isTy, D.truth, unD, binD, guardL, ownArg, isOwn, biD, itHot, BI.hot, tgOwn, ownIt, itemsD, seqD, D.noL, e27]
theorem judge_ok {n : Nat} {xs : List D} (e27 : P.run (n + 6) false 27 [.tup xs] = .ok .non) (e4 : P.run (n + 6) false 4 [.tup xs] = .ok (.bl true)) (e16 : P.run (n + 6) false 16 [.tup xs] = .ok (.int xs.length)) : P.run (n + 7) false 28 [.tup xs] = .ok (.bl true) := by
  have hf : P.fn 28 = some ⟨1, 4, b28⟩ := rfl
  rw [run1 hf rfl]
  have sm := same_b (hot := false) true (show 1 ≤ n + 6 by omega)
  have si := same_i (hot := false) (xs.length : Int) (show 1 ≤ n + 6 by omega)
  generalize P.run (n + 6) = call at *
  have zz : ([D.tup xs].map Slot.val ++ List.replicate (4 - 1) Slot.none) = [.val (.tup xs), .none, .none, .none] := rfl
  have s1 : evS (⟨false, call, P.sub, P.glb⟩ : Tb) J1 [.val (.tup xs), .none, .none, .none] = .nx [.val (.tup xs), .val .non, .none, .none] := by
    exact J1_is e27
  have s2 : evS (⟨false, call, P.sub, P.glb⟩ : Tb) J2 [.val (.tup xs), .val .non, .none, .none] = .nx [.val (.tup xs), .val .non, .none, .none] := by
    simp [q_var, q_cst, q_bin, q_un, q_and, q_or, q_ife, q_tup, q_lst, q_idx, q_slc, q_call, q_callk, q_bi, q_isi, q_rngL, q_rngO, q_cmp, q_exf, q_exi, q_bv, t_yes, t_and, t_or, t_not, t_of, o_none, o_some, es_nil, es_cons, bs_nil, bs_cons, i_of, i_rng, i_enum, i_zip, i_rev, s_pass', s_set', s_setC', s_setOwn', s_unp', s_app', s_ex', s_ret', s_retO', s_retN', s_ife', s_for', s_whl', s_raise', s_try', s_brk', s_cont', ss_nil', ss_cons', h_nil, h_some, h_none, bor, slotE, slotB, isiD, D.isTy, D.truth, unD, binD, guardL, ownArg, isOwn, biD, itHot, BI.hot, tgOwn, ownIt, itemsD, seqD, D.noL, e4, sm, pick]
  unfold b28
  rw [zz, ss_cons', s1, nx_to, s2, nx_to, s_try']
  simp [q_var, q_cst, q_bin, q_un, q_and, q_or, q_ife, q_tup, q_lst, q_idx, q_slc, q_call, q_callk, q_bi, q_isi, q_rngL, q_rngO, q_cmp, q_exf, q_exi, q_bv, t_yes, t_and, t_or, t_not, t_of, o_none, o_some, es_nil, es_cons, bs_nil, bs_cons, i_of, i_rng, i_enum, i_zip, i_rev, s_pass', s_set', s_setC', s_setOwn', s_unp', s_app', s_ex', s_ret', s_retO', s_retN', s_ife', s_for', s_whl', s_raise', s_try', s_brk', s_cont', ss_nil', ss_cons', h_nil, h_some, h_none, bor, slotE, slotB, isiD, D.isTy, D.truth, unD, binD, guardL, ownArg, isOwn, biD, itHot, BI.hot, tgOwn, ownIt, itemsD, seqD, D.noL, e16, si, pick]
theorem judge_no {n : Nat} {x : D} {s : List Nat} {i : Int} (e27 : P.run (n + 6) false 27 [x] = .ok (.tup [.str s, .int i])) (e4 : P.run (n + 6) false 4 [x] = .ok (.bl false)) (e16 : P.run (n + 6) false 16 [x] = .err 3 [.str s, .int i]) : P.run (n + 7) false 28 [x] = .ok (.bl true) := by
  have hf : P.fn 28 = some ⟨1, 4, b28⟩ := rfl
  rw [run1 hf rfl]
  have sm := same_b (hot := false) false (show 1 ≤ n + 6 by omega)
  have s4 := same4 (hot := true) s i (show 2 ≤ n + 6 by omega)
  generalize P.run (n + 6) = call at *
  have zz : ([x].map Slot.val ++ List.replicate (4 - 1) Slot.none) = [.val x, .none, .none, .none] := rfl
  have s1 : evS (⟨false, call, P.sub, P.glb⟩ : Tb) J1 [.val x, .none, .none, .none] = .nx [.val x, .val (.tup [.str s, .int i]), .none, .none] := by
    exact J1_is e27
  have s2 : evS (⟨false, call, P.sub, P.glb⟩ : Tb) J2 [.val x, .val (.tup [.str s, .int i]), .none, .none] = .nx [.val x, .val (.tup [.str s, .int i]), .none, .none] := by
    simp [q_var, q_cst, q_bin, q_un, q_and, q_or, q_ife, q_tup, q_lst, q_idx, q_slc, q_call, q_callk, q_bi, q_isi, q_rngL, q_rngO, q_cmp, q_exf, q_exi, q_bv, t_yes, t_and, t_or, t_not, t_of, o_none, o_some, es_nil, es_cons, bs_nil, bs_cons, i_of, i_rng, i_enum, i_zip, i_rev, s_pass', s_set', s_setC', s_setOwn', s_unp', s_app', s_ex', s_ret', s_retO', s_retN', s_ife', s_for', s_whl', s_raise', s_try', s_brk', s_cont', ss_nil', ss_cons', h_nil, h_some, h_none, bor, slotE, slotB, isiD, D.isTy, D.truth, unD, binD, guardL, ownArg, isOwn, biD, itHot, BI.hot, tgOwn, ownIt, itemsD, seqD, D.noL, e4, sm, pick]
  unfold b28
  rw [zz, ss_cons', s1, nx_to, s2, nx_to, s_try']
  simp [q_var, q_cst, q_bin, q_un, q_and, q_or, q_ife, q_tup, q_lst, q_idx, q_slc, q_call, q_callk, q_bi, q_isi, q_rngL, q_rngO, q_cmp, q_exf, q_exi, q_bv, t_yes, t_and, t_or, t_not, t_of, o_none, o_some, es_nil, es_cons, bs_nil, bs_cons, i_of, i_rng, i_enum, i_zip, i_rev, s_pass', s_set', s_setC', s_setOwn', s_unp', s_app', s_ex', s_ret', s_retO', s_retN', s_ife', s_for', s_whl', s_raise', s_try', s_brk', s_cont', ss_nil', ss_cons', h_nil, h_some, h_none, bor, slotE, slotB, isiD, D.isTy, D.truth, unD, binD, guardL, ownArg, isOwn, biD, itHot, BI.hot, tgOwn, ownIt, itemsD, seqD, D.noL, e16, s4, sub33, sub31, sub32, RS.wipe]
theorem r28 {n : Nat} {x : D} (hx : Th x) : P.run (n + 7) false 28 [x] = .ok (.bl true) := by
  by_cases ht : ∃ xs, x = .tup xs
  · obtain ⟨xs, rfl⟩ := ht
    obtain ⟨hl, hr⟩ := hx
    rcases ok_or_bad xs with h | ⟨k, h⟩
    · refine judge_ok (r27_ok hl hr h) ?_ (r16_ok (n := n + 2) hr h)
      rw [r4_tup (n := n + 2) hr rfl, all_ok h]
    · refine judge_no (r27_bad hl hr h) ?_ (r16_bad (n := n + 2) hr h)
      rw [r4_tup (n := n + 2) hr rfl, all_bad h]
  · have h1 : x.isTy .tuple = false := by cases x <;> first | rfl | exact (ht ⟨_, rfl⟩).elim
    have h2 : x.isRng = false := by cases x <;> first | rfl | cases hx
    exact judge_no (r27_not h1 h2) (r4_not h1 h2) (r16_not h1 h2)
/-! ### draws -/
def mixT (s : Int) : Int := s * (s / 7 % 65497 + 17) % 2147483629
def mixV (s : Int) : Int := mixT s * (mixT s / 5 % 32717 + 5) % 2147483587 / 23 % 9949
theorem mulOk_r {i j : Int} (h1 : 0 ≤ j) (h2 : j < 1000000000) : mulOk i j = true := by
  unfold mulOk
  simp
  right
  constructor <;> omega
theorem r21 {n : Nat} (s : Int) : P.run (n + 1) false 21 [.int s] = .ok (.int (mixV s)) := by
  have hf : P.fn 21 = some ⟨1, 2, b21⟩ := rfl
  rw [run1 hf rfl]
  have m1 : mulOk s (s / 7 % 65497 + 17) = true := mulOk_r (by omega) (by omega)
  have m2 : mulOk (mixT s) (mixT s / 5 % 32717 + 5) = true := mulOk_r (by omega) (by omega)
  unfold mixT at m2
  simp [q_var, q_cst, q_bin, q_un, q_and, q_or, q_ife, q_tup, q_lst, q_idx, q_slc, q_call, q_callk, q_bi, q_isi, q_rngL, q_rngO, q_cmp, q_exf, q_exi, q_bv, t_yes, t_and, t_or, t_not, t_of, o_none, o_some, es_nil, es_cons, bs_nil, bs_cons, i_of, i_rng, i_enum, i_zip, i_rev, s_pass', s_set', s_setC', s_setOwn', s_unp', s_app', s_ex', s_ret', s_retO', s_retN', s_ife', s_for', s_whl', s_raise', s_try', s_brk', s_cont', ss_nil', ss_cons', h_nil, h_some, h_none, bor, slotE, slotB, isiD, D.isTy, D.truth, unD, binD, guardL, ownArg, isOwn, biD, itHot, BI.hot, tgOwn, ownIt, itemsD, seqD, D.noL, b21, BI.hot, m1, m2, mixV, mixT]
theorem mixV_nat (s : Int) : ∃ x : Nat, x < 9949 ∧ mixV s = x := by
  have h1 : 0 ≤ mixV s := by unfold mixV; omega
  have h2 : mixV s < 9949 := by unfold mixV; omega
  exact ⟨(mixV s).toNat, by omega, by omega⟩
end Vk02_whole_elders
end
section
set_option Elab.async false
set_option linter.all false
set_option maxRecDepth 100000
set_option maxHeartbeats 2000000
namespace Vk02_whole_elders
open PySem PySem.Spec Ev
abbrev Cal := Bool → Nat → List D → Ev.R D
/-- numbers that are drawn -/
def Dr (l : List Nat) : Prop := l.length ≤ 128 ∧ ∀ x ∈ l, x < 9949
theorem Dr.app {l : List Nat} (h : Dr l) {x : Nat} (hx : x < 9949) (hl : l.length < 128) : Dr (l ++ [x]) := by
  refine ⟨by simp; omega, ?_⟩
  intro y hy
  rcases List.mem_append.mp hy with a | a
  · exact h.2 y a
  · simp at a; omega
abbrev G21 (call : Cal) : Prop := ∀ s : Int, call false 21 [.int s] = .ok (.int (mixV s))
section
variable {call : Cal} {x : D} {l : List Nat} {s c : Int} {a4 a5 a6 : Slot}
abbrev T22 (call : Cal) : Tb := ⟨false, call, P.sub, P.glb⟩
abbrev R22 (x : D) (l : List Nat) (s : Int) (a4 a5 a6 : Slot) : Rho := [.val x, .val (.int 128), .own (nts l), .val (.int s), a4, a5, a6]
abbrev A1 : CS := .set 6 (.bi .int [(.var 4)])
abbrev A2 : CS := .set 3 (.bin .mod (.bi .int [(.bin .add (.bin .add (.bin .mul (.var 3) (.cst (.int 39373))) (.bin .mod (.bi .int [(.var 6)]) (.cst (.int 2147483629)))) (.cst (.int 60013)))]) (.cst (.int 2147483647)))
abbrev A3 : CS := .ife (.and (.of (.bin .lt (.var 6) (.bin .pow (.cst (.int 10)) (.cst (.int 18))))) (.of (.bin .lt (.bi .len [(.var 2)]) (.var 1)))) [(.app 2 (.call 21 [(.var 3)]))] []
abbrev A5 : CS := .ife (.and (.of (.bin .gt (.var 6) (.cst (.int 0)))) (.of (.bin .lt (.bi .len [(.var 2)]) (.var 1)))) [(.app 2 (.bin .mod (.bi .int [(.var 6)]) (.cst (.int 9949)))), (.set 6 (.bin .fdiv (.var 6) (.cst (.int 9949))))] []
abbrev A4 : CS := .ife (.of (.bin .ge (.var 6) (.bin .pow (.cst (.int 10)) (.cst (.int 18))))) [(.for (.nm 5) (.rng (.cst (.int 0)) (.cst (.int 60))) [A5])] []
abbrev A6 : CS := .ife (.of (.bin .lt (.bi .len [(.var 2)]) (.var 1))) [(.set 3 (.bin .mod (.bi .int [(.bin .mul (.var 3) (.cst (.int 39373)))]) (.cst (.int 2147483647)))), (.app 2 (.call 21 [(.var 3)]))] []
theorem mul_c (i : Int) : mulOk i 39373 = true := mulOk_r (by omega) (by omega)
theorem A1_is : evS (T22 call) A1 (R22 x l s (.val (.int c)) a5 a6) = .nx (R22 x l s (.val (.int c)) a5 (.val (.int c))) := by
  simp [q_var, q_cst, q_bin, q_un, q_and, q_or, q_ife, q_tup, q_lst, q_idx, q_slc, q_call, q_callk, q_bi, q_isi, q_rngL, q_rngO, q_cmp, q_exf, q_exi, q_bv, t_yes, t_and, t_or, t_not, t_of, o_none, o_some, es_nil, es_cons, bs_nil, bs_cons, i_of, i_rng, i_enum, i_zip, i_rev, s_pass', s_set', s_setC', s_setOwn', s_unp', s_app', s_ex', s_ret', s_retO', s_retN', s_ife', s_for', s_whl', s_raise', s_try', s_brk', s_cont', ss_nil', ss_cons', h_nil, h_some, h_none, bor, slotE, slotB, isiD, D.isTy, D.truth, unD, binD, guardL, ownArg, isOwn, biD, itHot, BI.hot, tgOwn, ownIt, itemsD, seqD, D.noL]
theorem A2_is : evS (T22 call) A2 (R22 x l s a4 a5 (.val (.int c))) = .nx (R22 x l ((s * 39373 + c % 2147483629 + 60013) % 2147483647) a4 a5 (.val (.int c))) := by
  simp [q_var, q_cst, q_bin, q_un, q_and, q_or, q_ife, q_tup, q_lst, q_idx, q_slc, q_call, q_callk, q_bi, q_isi, q_rngL, q_rngO, q_cmp, q_exf, q_exi, q_bv, t_yes, t_and, t_or, t_not, t_of, o_none, o_some, es_nil, es_cons, bs_nil, bs_cons, i_of, i_rng, i_enum, i_zip, i_rev, s_pass', s_set', s_setC', s_setOwn', s_unp', s_app', s_ex', s_ret', s_retO', s_retN', s_ife', s_for', s_whl', s_raise', s_try', s_brk', s_cont', ss_nil', ss_cons', h_nil, h_some, h_none, bor, slotE, slotB, isiD, D.isTy, D.truth, unD, binD, guardL, ownArg, isOwn, biD, itHot, BI.hot, tgOwn, ownIt, itemsD, seqD, D.noL, mul_c]
theorem A3_is (hc : G21 call) (h : Dr l) : ∃ l', Dr l' ∧ evS (T22 call) A3 (R22 x l s a4 a5 (.val (.int c))) = .nx (R22 x l' s a4 a5 (.val (.int c))) := by
  by_cases h1 : c < 1000000000000000000
  · by_cases h2 : (l.length : Int) < 128
    · obtain ⟨y, hy, e⟩ := mixV_nat s
      refine ⟨l ++ [y], h.app hy (by omega), ?_⟩
      have hm := hc s
      rw [e] at hm
      have h3 : l.length < 16777216 := by omega
      simp [q_var, q_cst, q_bin, q_un, q_and, q_or, q_ife, q_tup, q_lst, q_idx, q_slc, q_call, q_callk, q_bi, q_isi, q_rngL, q_rngO, q_cmp, q_exf, q_exi, q_bv, t_yes, t_and, t_or, t_not, t_of, o_none, o_some, es_nil, es_cons, bs_nil, bs_cons, i_of, i_rng, i_enum, i_zip, i_rev, s_pass', s_set', s_setC', s_setOwn', s_unp', s_app', s_ex', s_ret', s_retO', s_retN', s_ife', s_for', s_whl', s_raise', s_try', s_brk', s_cont', ss_nil', ss_cons', h_nil, h_some, h_none, bor, slotE, slotB, isiD, D.isTy, D.truth, unD, binD, guardL, ownArg, isOwn, biD, itHot, BI.hot, tgOwn, ownIt, itemsD, seqD, D.noL, h1, h2, hm, h3, nts]
    · refine ⟨l, h, ?_⟩
      simp [q_var, q_cst, q_bin, q_un, q_and, q_or, q_ife, q_tup, q_lst, q_idx, q_slc, q_call, q_callk, q_bi, q_isi, q_rngL, q_rngO, q_cmp, q_exf, q_exi, q_bv, t_yes, t_and, t_or, t_not, t_of, o_none, o_some, es_nil, es_cons, bs_nil, bs_cons, i_of, i_rng, i_enum, i_zip, i_rev, s_pass', s_set', s_setC', s_setOwn', s_unp', s_app', s_ex', s_ret', s_retO', s_retN', s_ife', s_for', s_whl', s_raise', s_try', s_brk', s_cont', ss_nil', ss_cons', h_nil, h_some, h_none, bor, slotE, slotB, isiD, D.isTy, D.truth, unD, binD, guardL, ownArg, isOwn, biD, itHot, BI.hot, tgOwn, ownIt, itemsD, seqD, D.noL, h1, h2, nts]
  · refine ⟨l, h, ?_⟩
    simp [q_var, q_cst, q_bin, q_un, q_and, q_or, q_ife, q_tup, q_lst, q_idx, q_slc, q_call, q_callk, q_bi, q_isi, q_rngL, q_rngO, q_cmp, q_exf, q_exi, q_bv, t_yes, t_and, t_or, t_not, t_of, o_none, o_some, es_nil, es_cons, bs_nil, bs_cons, i_of, i_rng, i_enum, i_zip, i_rev, s_pass', s_set', s_setC', s_setOwn', s_unp', s_app', s_ex', s_ret', s_retO', s_retN', s_ife', s_for', s_whl', s_raise', s_try', s_brk', s_cont', ss_nil', ss_cons', h_nil, h_some, h_none, bor, slotE, slotB, isiD, D.isTy, D.truth, unD, binD, guardL, ownArg, isOwn, biD, itHot, BI.hot, tgOwn, ownIt, itemsD, seqD, D.noL, h1, nts]
theorem A5_is (h : Dr l) : ∃ l' c', Dr l' ∧ evS (T22 call) A5 (R22 x l s a4 a5 (.val (.int c))) = .nx (R22 x l' s a4 a5 (.val (.int c'))) := by
  by_cases h1 : 0 < c
  · by_cases h2 : (l.length : Int) < 128
    · have hy : (c % 9949).toNat < 9949 := by omega
      have e : c % 9949 = (((c % 9949).toNat : Nat) : Int) := by omega
      refine ⟨l ++ [(c % 9949).toNat], c / 9949, h.app hy (by omega), ?_⟩
      have h3 : l.length < 16777216 := by omega
      generalize (c % 9949).toNat = y at *
      simp [q_var, q_cst, q_bin, q_un, q_and, q_or, q_ife, q_tup, q_lst, q_idx, q_slc, q_call, q_callk, q_bi, q_isi, q_rngL, q_rngO, q_cmp, q_exf, q_exi, q_bv, t_yes, t_and, t_or, t_not, t_of, o_none, o_some, es_nil, es_cons, bs_nil, bs_cons, i_of, i_rng, i_enum, i_zip, i_rev, s_pass', s_set', s_setC', s_setOwn', s_unp', s_app', s_ex', s_ret', s_retO', s_retN', s_ife', s_for', s_whl', s_raise', s_try', s_brk', s_cont', ss_nil', ss_cons', h_nil, h_some, h_none, bor, slotE, slotB, isiD, D.isTy, D.truth, unD, binD, guardL, ownArg, isOwn, biD, itHot, BI.hot, tgOwn, ownIt, itemsD, seqD, D.noL, h1, h2, h3, e, nts]
    · refine ⟨l, c, h, ?_⟩
      simp [q_var, q_cst, q_bin, q_un, q_and, q_or, q_ife, q_tup, q_lst, q_idx, q_slc, q_call, q_callk, q_bi, q_isi, q_rngL, q_rngO, q_cmp, q_exf, q_exi, q_bv, t_yes, t_and, t_or, t_not, t_of, o_none, o_some, es_nil, es_cons, bs_nil, bs_cons, i_of, i_rng, i_enum, i_zip, i_rev, s_pass', s_set', s_setC', s_setOwn', s_unp', s_app', s_ex', s_ret', s_retO', s_retN', s_ife', s_for', s_whl', s_raise', s_try', s_brk', s_cont', ss_nil', ss_cons', h_nil, h_some, h_none, bor, slotE, slotB, isiD, D.isTy, D.truth, unD, binD, guardL, ownArg, isOwn, biD, itHot, BI.hot, tgOwn, ownIt, itemsD, seqD, D.noL, h1, h2, nts]
  · refine ⟨l, c, h, ?_⟩
    simp [q_var, q_cst, q_bin, q_un, q_and, q_or, q_ife, q_tup, q_lst, q_idx, q_slc, q_call, q_callk, q_bi, q_isi, q_rngL, q_rngO, q_cmp, q_exf, q_exi, q_bv, t_yes, t_and, t_or, t_not, t_of, o_none, o_some, es_nil, es_cons, bs_nil, bs_cons, i_of, i_rng, i_enum, i_zip, i_rev, s_pass', s_set', s_setC', s_setOwn', s_unp', s_app', s_ex', s_ret', s_retO', s_retN', s_ife', s_for', s_whl', s_raise', s_try', s_brk', s_cont', ss_nil', ss_cons', h_nil, h_some, h_none, bor, slotE, slotB, isiD, D.isTy, D.truth, unD, binD, guardL, ownArg, isOwn, biD, itHot, BI.hot, tgOwn, ownIt, itemsD, seqD, D.noL, h1, nts]
theorem rng60 {ρ : Rho} : evI (T22 call) (.rng (.cst (.int 0)) (.cst (.int 60))) ρ = .ok (nts (List.range 60)) := i_rng0 (k := 60) q_cst (by omega)
theorem A4_is (h : Dr l) : ∃ l' c' a5', Dr l' ∧ evS (T22 call) A4 (R22 x l s a4 a5 (.val (.int c))) = .nx (R22 x l' s a4 a5' (.val (.int c'))) := by
  by_cases h1 : 1000000000000000000 ≤ c
  · obtain ⟨ρ', e, l', c', a5', h', rfl⟩ := forL_ix (tg := .nm 5) (body := evSs (T22 call) [A5]) (I := fun _ ρ => ∃ l c a5, Dr l ∧ ρ = R22 x l s a4 a5 (.val (.int c))) (nts (List.range 60)) 0 _ ⟨l, c, a5, h, rfl⟩ (by
      intro i hi ρ hI
      obtain ⟨l, c, a5, h, rfl⟩ := hI
      obtain ⟨l', c', h', e⟩ := A5_is (call := call) (x := x) (s := s) (a4 := a4) (a5 := .val (nts (List.range 60))[i]) (c := c) h
      exact ⟨R22 x l s a4 (.val (nts (List.range 60))[i]) (.val (.int c)), R22 x l' s a4 (.val (nts (List.range 60))[i]) (.val (.int c')), rfl, by rw [ss_cons', e, nx_end], l', c', _, h', rfl⟩)
    refine ⟨l', c', a5', h', ?_⟩
    have c1 : evT (T22 call) (.of (.bin .ge (.var 6) (.bin .pow (.cst (.int 10)) (.cst (.int 18))))) (R22 x l s a4 a5 (.val (.int c))) = .ok true := by
      simp [q_var, q_cst, q_bin, q_un, q_and, q_or, q_ife, q_tup, q_lst, q_idx, q_slc, q_call, q_callk, q_bi, q_isi, q_rngL, q_rngO, q_cmp, q_exf, q_exi, q_bv, t_yes, t_and, t_or, t_not, t_of, o_none, o_some, es_nil, es_cons, bs_nil, bs_cons, i_of, i_rng, i_enum, i_zip, i_rev, s_pass', s_set', s_setC', s_setOwn', s_unp', s_app', s_ex', s_ret', s_retO', s_retN', s_ife', s_for', s_whl', s_raise', s_try', s_brk', s_cont', ss_nil', ss_cons', h_nil, h_some, h_none, bor, slotE, slotB, isiD, D.isTy, D.truth, unD, binD, guardL, ownArg, isOwn, biD, itHot, BI.hot, tgOwn, ownIt, itemsD, seqD, D.noL, h1]
    have fo : evS (T22 call) (.for (.nm 5) (.rng (.cst (.int 0)) (.cst (.int 60))) [A5]) (R22 x l s a4 a5 (.val (.int c))) = .nx (R22 x l' s a4 a5' (.val (.int c'))) := by
      rw [s_for', rng60, ok_on, e]
      rfl
    rw [s_ife', c1, ok_on, if_pos rfl, ss_cons', fo, nx_end]
  · refine ⟨l, c, a5, h, ?_⟩
    simp [q_var, q_cst, q_bin, q_un, q_and, q_or, q_ife, q_tup, q_lst, q_idx, q_slc, q_call, q_callk, q_bi, q_isi, q_rngL, q_rngO, q_cmp, q_exf, q_exi, q_bv, t_yes, t_and, t_or, t_not, t_of, o_none, o_some, es_nil, es_cons, bs_nil, bs_cons, i_of, i_rng, i_enum, i_zip, i_rev, s_pass', s_set', s_setC', s_setOwn', s_unp', s_app', s_ex', s_ret', s_retO', s_retN', s_ife', s_for', s_whl', s_raise', s_try', s_brk', s_cont', ss_nil', ss_cons', h_nil, h_some, h_none, bor, slotE, slotB, isiD, D.isTy, D.truth, unD, binD, guardL, ownArg, isOwn, biD, itHot, BI.hot, tgOwn, ownIt, itemsD, seqD, D.noL, h1]
theorem A6_is (hc : G21 call) (h : Dr l) : ∃ l' s', Dr l' ∧ min 128 (l.length + 1) ≤ l'.length ∧ evS (T22 call) A6 (R22 x l s a4 a5 a6) = .nx (R22 x l' s' a4 a5 a6) := by
  by_cases h2 : (l.length : Int) < 128
  · obtain ⟨y, hy, e⟩ := mixV_nat (s * 39373 % 2147483647)
    refine ⟨l ++ [y], s * 39373 % 2147483647, h.app hy (by omega), by simp; omega, ?_⟩
    have hm := hc (s * 39373 % 2147483647)
    rw [e] at hm
    have h3 : l.length < 16777216 := by omega
    simp [q_var, q_cst, q_bin, q_un, q_and, q_or, q_ife, q_tup, q_lst, q_idx, q_slc, q_call, q_callk, q_bi, q_isi, q_rngL, q_rngO, q_cmp, q_exf, q_exi, q_bv, t_yes, t_and, t_or, t_not, t_of, o_none, o_some, es_nil, es_cons, bs_nil, bs_cons, i_of, i_rng, i_enum, i_zip, i_rev, s_pass', s_set', s_setC', s_setOwn', s_unp', s_app', s_ex', s_ret', s_retO', s_retN', s_ife', s_for', s_whl', s_raise', s_try', s_brk', s_cont', ss_nil', ss_cons', h_nil, h_some, h_none, bor, slotE, slotB, isiD, D.isTy, D.truth, unD, binD, guardL, ownArg, isOwn, biD, itHot, BI.hot, tgOwn, ownIt, itemsD, seqD, D.noL, h2, hm, h3, nts, mul_c]
  · refine ⟨l, s, h, by omega, ?_⟩
    simp [q_var, q_cst, q_bin, q_un, q_and, q_or, q_ife, q_tup, q_lst, q_idx, q_slc, q_call, q_callk, q_bi, q_isi, q_rngL, q_rngO, q_cmp, q_exf, q_exi, q_bv, t_yes, t_and, t_or, t_not, t_of, o_none, o_some, es_nil, es_cons, bs_nil, bs_cons, i_of, i_rng, i_enum, i_zip, i_rev, s_pass', s_set', s_setC', s_setOwn', s_unp', s_app', s_ex', s_ret', s_retO', s_retN', s_ife', s_for', s_whl', s_raise', s_try', s_brk', s_cont', ss_nil', ss_cons', h_nil, h_some, h_none, bor, slotE, slotB, isiD, D.isTy, D.truth, unD, binD, guardL, ownArg, isOwn, biD, itHot, BI.hot, tgOwn, ownIt, itemsD, seqD, D.noL, h2, nts]
abbrev F1 : CS := .for (.nm 4) (.of (.var 0)) [A1, A2, A3, A4]
abbrev F2 : CS := .for (.nm 5) (.rng (.cst (.int 0)) (.var 1)) [A6]
theorem F1_is (hc : G21 call) (h : Dr l) (ns : List Int) : ∃ l' s' a4' a5' a6', Dr l' ∧ evS (T22 call) F1 (R22 (.frl (ns.map .int)) l s a4 a5 a6) = .nx (R22 (.frl (ns.map .int)) l' s' a4' a5' a6') := by
  obtain ⟨ρ', e, l', s', a4', a5', a6', h', rfl⟩ := forL_ix (tg := .nm 4) (body := evSs (T22 call) [A1, A2, A3, A4]) (I := fun _ ρ => ∃ l s a4 a5 a6, Dr l ∧ ρ = R22 (.frl (ns.map .int)) l s a4 a5 a6) (ns.map .int) 0 _ ⟨l, s, a4, a5, a6, h, rfl⟩ (by
    intro i hi ρ hI
    obtain ⟨l, s, a4, a5, a6, h, rfl⟩ := hI
    have hd : ∃ c : Int, (ns.map D.int)[i] = .int c := ⟨ns[i]'(by simpa using hi), by simp⟩
    obtain ⟨c, hd⟩ := hd
    rw [hd]
    obtain ⟨l1, h1, e1⟩ := A3_is (call := call) (x := .frl (ns.map .int)) (s := (s * 39373 + c % 2147483629 + 60013) % 2147483647) (a4 := .val (.int c)) (a5 := a5) (c := c) hc h
    obtain ⟨l2, c2, a52, h2, e2⟩ := A4_is (call := call) (x := .frl (ns.map .int)) (s := (s * 39373 + c % 2147483629 + 60013) % 2147483647) (a4 := .val (.int c)) (a5 := a5) (c := c) h1
    refine ⟨R22 (.frl (ns.map .int)) l s (.val (.int c)) a5 a6, R22 (.frl (ns.map .int)) l2 ((s * 39373 + c % 2147483629 + 60013) % 2147483647) (.val (.int c)) a52 (.val (.int c2)), rfl, ?_, l2, _, _, _, _, h2, rfl⟩
    rw [ss_cons', A1_is, nx_to, A2_is, nx_to, e1, nx_to, e2, nx_end])
  refine ⟨l', s', a4', a5', a6', h', ?_⟩
  have src : evI (T22 call) (.of (.var 0)) (R22 (.frl (ns.map .int)) l s a4 a5 a6) = .ok (ns.map .int) := rfl
  rw [s_for', src, ok_on, e]
  rfl
theorem F2_is (hc : G21 call) (h : Dr l) : ∃ l' s' a5', Dr l' ∧ l'.length = 128 ∧ evS (T22 call) F2 (R22 x l s a4 a5 a6) = .nx (R22 x l' s' a4 a5' a6) := by
  obtain ⟨ρ', e, l', s', a5', h', hn, rfl⟩ := forL_ix (tg := .nm 5) (body := evSs (T22 call) [A6]) (I := fun k ρ => ∃ l s a5, Dr l ∧ min 128 k ≤ l.length ∧ ρ = R22 x l s a4 a5 a6) (nts (List.range 128)) 0 _ ⟨l, s, a5, h, by omega, rfl⟩ (by
    intro i hi ρ hI
    obtain ⟨l, s, a5, h, hn, rfl⟩ := hI
    obtain ⟨l1, s1, h1, n1, e1⟩ := A6_is (call := call) (x := x) (s := s) (a4 := a4) (a5 := .val (nts (List.range 128))[i]) (a6 := a6) hc h
    exact ⟨R22 x l s a4 (.val (nts (List.range 128))[i]) a6, R22 x l1 s1 a4 (.val (nts (List.range 128))[i]) a6, rfl, by rw [ss_cons', e1, nx_end], l1, s1, _, h1, by omega, rfl⟩)
  have hn' : min 128 128 ≤ l'.length := by simpa using hn
  refine ⟨l', s', a5', h', by have := h'.1; omega, ?_⟩
  have src : evI (T22 call) (.rng (.cst (.int 0)) (.var 1)) (R22 x l s a4 a5 a6) = .ok (nts (List.range 128)) := i_rng0 (k := 128) rfl (by omega)
  rw [s_for', src, ok_on, e]
  rfl
theorem body22 (hc : G21 call) (ns : List Int) : ∃ l, l.length = 128 ∧ (∀ y ∈ l, y < 9949) ∧ (evSs (T22 call) b22 [.val (.frl (ns.map .int)), .val (.int 128), .none, .none, .none, .none, .none]).fin = .ok (.lst (nts l)) := by
  have s1 : evS (T22 call) (.setOwn 2 (.lst [])) [.val (.frl (ns.map .int)), .val (.int 128), .none, .none, .none, .none, .none] = .nx [.val (.frl (ns.map .int)), .val (.int 128), .own [], .none, .none, .none, .none] := rfl
  have s2 : evS (T22 call) (.set 3 (.cst (.int 0))) [.val (.frl (ns.map .int)), .val (.int 128), .own [], .none, .none, .none, .none] = .nx (R22 (.frl (ns.map .int)) [] 0 .none .none .none) := rfl
  obtain ⟨l1, s1', a4, a5, a6, h1, e1⟩ := F1_is (s := 0) (a4 := .none) (a5 := .none) (a6 := .none) (l := []) hc ⟨by simp, by simp⟩ ns
  obtain ⟨l2, s2', a5', h2, n2, e2⟩ := F2_is (x := .frl (ns.map .int)) (s := s1') (a4 := a4) (a5 := a5) (a6 := a6) hc h1
  refine ⟨l2, n2, h2.2, ?_⟩
  unfold b22
  rw [ss_cons', s1, nx_to, s2, nx_to, e1, nx_to, e2, nx_to]
  rfl
end
theorem r22 {n : Nat} (ns : List Int) : ∃ l, l.length = 128 ∧ (∀ y ∈ l, y < 9949) ∧ P.run (n + 2) false 22 [.frl (ns.map .int), .int 128] = .ok (.lst (nts l)) := by
  have hf : P.fn 22 = some ⟨2, 7, b22⟩ := rfl
  obtain ⟨l, h1, h2, e⟩ := body22 (call := P.run (n + 1)) (fun s => r21 s) ns
  refine ⟨l, h1, h2, ?_⟩
  rw [run1 hf rfl]
  exact e
end Vk02_whole_elders
end
section
set_option Elab.async false
set_option linter.all false
set_option maxRecDepth 100000
set_option maxHeartbeats 2000000
namespace Vk02_whole_elders
open PySem PySem.Spec Ev
theorem getI_nts {l : List Nat} {i : Nat} (h : i < l.length) : getI (nts l) (i : Int) = .ok (.int ((l[i] : Nat) : Int)) := by
  rw [getI_nat (by simpa using h)]
  simp
/-! ### the law's tree -/
section
variable {call : Cal} {bs acc : List Nat} {sz sh : Int} {a : Slot}
abbrev R24 (bs : List Nat) (sz sh : Int) (acc : List Nat) (a : Slot) : Rho := [.val (.lst (nts bs)), .val (.int sz), .val (.int sh), .own (nts acc), a]
abbrev W24 : CS := (.ife (.of (.bin .eq (.var 2) (.cst (.int 1)))) [(.app 3 (.bin .sub (.var 4) (.cst (.int 1))))] [(.ife (.of (.bin .eq (.var 2) (.cst (.int 2)))) [(.app 3 (.bi .min2 [(.bin .sub (.var 4) (.cst (.int 1))), (.bin .mod (.bi .int [(.idx (.var 0) (.cst (.int 0)))]) (.cst (.int 3)))]))] [(.ife (.of (.bin .eq (.var 2) (.cst (.int 3)))) [(.app 3 (.bi .max2 [(.cst (.int 0)), (.bin .sub (.bin .sub (.var 4) (.cst (.int 1))) (.bin .mod (.bi .int [(.idx (.var 0) (.bin .sub (.var 4) (.cst (.int 1))))]) (.cst (.int 3))))]))] [(.ife (.of (.bin .eq (.var 2) (.cst (.int 4)))) [(.app 3 (.bin .fdiv (.var 4) (.cst (.int 2))))] [(.app 3 (.bin .mod (.bi .int [(.idx (.var 0) (.bin .sub (.var 4) (.cst (.int 1))))]) (.var 4)))])])])])
theorem W24_raw {v : Nat} (h0 : 1 ≤ v) (hv : v ≤ bs.length) (hl : acc.length < 16777216) : ∃ r : Int, 0 ≤ r ∧ r < v ∧ evS (T22 call) W24 (R24 bs sz sh acc (.val (.int v))) = .nx [.val (.lst (nts bs)), .val (.int sz), .val (.int sh), .own (nts acc ++ [.int r]), .val (.int v)] := by
  have g0 : getI (nts bs) 0 = .ok (.int ((bs[0]'(by omega) : Nat) : Int)) := getI_nts (i := 0) (by omega)
  have gv : getI (nts bs) ((v : Int) - 1) = .ok (.int ((bs[v - 1]'(by omega) : Nat) : Int)) := by
    rw [show (v : Int) - 1 = ((v - 1 : Nat) : Int) by omega]
    exact getI_nts (by omega)
  unfold nts at g0 gv
  by_cases h1 : sh = 1
  · refine ⟨(v : Int) - 1, by omega, by omega, ?_⟩
    simp [q_var, q_cst, q_bin, q_un, q_and, q_or, q_ife, q_tup, q_lst, q_idx, q_slc, q_call, q_callk, q_bi, q_isi, q_rngL, q_rngO, q_cmp, q_exf, q_exi, q_bv, t_yes, t_and, t_or, t_not, t_of, o_none, o_some, es_nil, es_cons, bs_nil, bs_cons, i_of, i_rng, i_enum, i_zip, i_rev, s_pass', s_set', s_setC', s_setOwn', s_unp', s_app', s_ex', s_ret', s_retO', s_retN', s_ife', s_for', s_whl', s_raise', s_try', s_brk', s_cont', ss_nil', ss_cons', h_nil, h_some, h_none, bor, slotE, slotB, isiD, D.isTy, D.truth, unD, binD, guardL, ownArg, isOwn, biD, itHot, BI.hot, tgOwn, ownIt, itemsD, seqD, D.noL, h1, D.eqOk, D.dep, D.plain, D.eqv, hl, nts]
  by_cases h2 : sh = 2
  · refine ⟨if (bs[0]'(by omega) : Nat) % 3 < (v : Int) - 1 then (bs[0]'(by omega) : Nat) % 3 else (v : Int) - 1, by split <;> omega, by split <;> omega, ?_⟩
    simp [q_var, q_cst, q_bin, q_un, q_and, q_or, q_ife, q_tup, q_lst, q_idx, q_slc, q_call, q_callk, q_bi, q_isi, q_rngL, q_rngO, q_cmp, q_exf, q_exi, q_bv, t_yes, t_and, t_or, t_not, t_of, o_none, o_some, es_nil, es_cons, bs_nil, bs_cons, i_of, i_rng, i_enum, i_zip, i_rev, s_pass', s_set', s_setC', s_setOwn', s_unp', s_app', s_ex', s_ret', s_retO', s_retN', s_ife', s_for', s_whl', s_raise', s_try', s_brk', s_cont', ss_nil', ss_cons', h_nil, h_some, h_none, bor, slotE, slotB, isiD, D.isTy, D.truth, unD, binD, guardL, ownArg, isOwn, biD, itHot, BI.hot, tgOwn, ownIt, itemsD, seqD, D.noL, h2, D.eqOk, D.dep, D.plain, D.eqv, hl, nts, idxD, g0]
  by_cases h3 : sh = 3
  · refine ⟨if (v : Int) - 1 - (bs[v - 1]'(by omega) : Nat) % 3 > 0 then (v : Int) - 1 - (bs[v - 1]'(by omega) : Nat) % 3 else 0, by split <;> omega, by split <;> omega, ?_⟩
    simp [q_var, q_cst, q_bin, q_un, q_and, q_or, q_ife, q_tup, q_lst, q_idx, q_slc, q_call, q_callk, q_bi, q_isi, q_rngL, q_rngO, q_cmp, q_exf, q_exi, q_bv, t_yes, t_and, t_or, t_not, t_of, o_none, o_some, es_nil, es_cons, bs_nil, bs_cons, i_of, i_rng, i_enum, i_zip, i_rev, s_pass', s_set', s_setC', s_setOwn', s_unp', s_app', s_ex', s_ret', s_retO', s_retN', s_ife', s_for', s_whl', s_raise', s_try', s_brk', s_cont', ss_nil', ss_cons', h_nil, h_some, h_none, bor, slotE, slotB, isiD, D.isTy, D.truth, unD, binD, guardL, ownArg, isOwn, biD, itHot, BI.hot, tgOwn, ownIt, itemsD, seqD, D.noL, h3, D.eqOk, D.dep, D.plain, D.eqv, hl, nts, idxD, gv]
  by_cases h4 : sh = 4
  · refine ⟨(v : Int) / 2, by omega, by omega, ?_⟩
    simp [q_var, q_cst, q_bin, q_un, q_and, q_or, q_ife, q_tup, q_lst, q_idx, q_slc, q_call, q_callk, q_bi, q_isi, q_rngL, q_rngO, q_cmp, q_exf, q_exi, q_bv, t_yes, t_and, t_or, t_not, t_of, o_none, o_some, es_nil, es_cons, bs_nil, bs_cons, i_of, i_rng, i_enum, i_zip, i_rev, s_pass', s_set', s_setC', s_setOwn', s_unp', s_app', s_ex', s_ret', s_retO', s_retN', s_ife', s_for', s_whl', s_raise', s_try', s_brk', s_cont', ss_nil', ss_cons', h_nil, h_some, h_none, bor, slotE, slotB, isiD, D.isTy, D.truth, unD, binD, guardL, ownArg, isOwn, biD, itHot, BI.hot, tgOwn, ownIt, itemsD, seqD, D.noL, h4, D.eqOk, D.dep, D.plain, D.eqv, hl, nts, idxD, gv]
  · have hp : (0 : Int) < (v : Int) := by omega
    refine ⟨((bs[v - 1]'(by omega) : Nat) : Int) % (v : Int), Int.emod_nonneg _ (by omega), Int.emod_lt_of_pos _ hp, ?_⟩
    have hq : 0 < v := by omega
    simp [q_var, q_cst, q_bin, q_un, q_and, q_or, q_ife, q_tup, q_lst, q_idx, q_slc, q_call, q_callk, q_bi, q_isi, q_rngL, q_rngO, q_cmp, q_exf, q_exi, q_bv, t_yes, t_and, t_or, t_not, t_of, o_none, o_some, es_nil, es_cons, bs_nil, bs_cons, i_of, i_rng, i_enum, i_zip, i_rev, s_pass', s_set', s_setC', s_setOwn', s_unp', s_app', s_ex', s_ret', s_retO', s_retN', s_ife', s_for', s_whl', s_raise', s_try', s_brk', s_cont', ss_nil', ss_cons', h_nil, h_some, h_none, bor, slotE, slotB, isiD, D.isTy, D.truth, unD, binD, guardL, ownArg, isOwn, biD, itHot, BI.hot, tgOwn, ownIt, itemsD, seqD, D.noL, h1, h2, h3, h4, D.eqOk, D.dep, D.plain, D.eqv, hl, nts, idxD, gv, hq]
theorem W24_is {v : Nat} (h0 : 1 ≤ v) (hv : v ≤ bs.length) (hl : acc.length < 16777216) : ∃ x : Nat, x < v ∧ evS (T22 call) W24 (R24 bs sz sh acc (.val (.int v))) = .nx (R24 bs sz sh (acc ++ [x]) (.val (.int v))) := by
  obtain ⟨r, h1, h2, e⟩ := W24_raw (call := call) (sz := sz) (sh := sh) h0 hv hl
  refine ⟨r.toNat, by omega, ?_⟩
  rw [e]
  have : r = ((r.toNat : Nat) : Int) := by omega
  unfold R24 nts
  simp
  omega
theorem Par.app {l : List Nat} (h : Par l) {x : Nat} (hx : x ≤ l.length) : Par (l ++ [x]) := by
  intro i y hy
  rw [List.getElem?_append] at hy
  split at hy
  · exact h i y hy
  · rw [List.getElem?_singleton] at hy
    split at hy
    · cases hy; omega
    · cases hy
theorem body24 {k : Nat} (hb : bs.length = 40) (hk : k ≤ 40) : ∃ t, Par t ∧ t.length = k ∧ (evSs (T22 call) b24 [.val (.lst (nts bs)), .val (.int k), .val (.int sh), .none, .none]).fin = .ok (hs t) := by
  obtain ⟨ρ', e, acc, a, h', hn, rfl⟩ := forL_ix (tg := .nm 4) (body := evSs (T22 call) [W24]) (I := fun i ρ => ∃ acc a, Par acc ∧ acc.length = i ∧ ρ = R24 bs k sh acc a) (nts (List.range' 1 k)) 0 _ ⟨[], .none, fun i x hx => by simp at hx, rfl, rfl⟩ (by
    intro i hi ρ hI
    obtain ⟨acc, a, h, hn, rfl⟩ := hI
    have hi' : i < k := by simpa using hi
    have hd : (nts (List.range' 1 k))[i] = .int ((1 + i : Nat) : Int) := by simp
    obtain ⟨x, hx, e⟩ := W24_is (call := call) (sz := k) (sh := sh) (bs := bs) (acc := acc) (v := 1 + i) (by omega) (by omega) (by omega)
    rw [hd]
    exact ⟨R24 bs k sh acc (.val (.int (1 + i : Nat))), R24 bs k sh (acc ++ [x]) (.val (.int (1 + i : Nat))), rfl, by rw [ss_cons', e, nx_end], acc ++ [x], _, h.app (by omega), by simp; omega, rfl⟩)
  have hn' : acc.length = k := by simpa using hn
  refine ⟨acc, h', hn', ?_⟩
  have s1 : evS (T22 call) (.setOwn 3 (.lst [])) [.val (.lst (nts bs)), .val (.int k), .val (.int sh), .none, .none] = .nx (R24 bs k sh [] .none) := rfl
  have e1 : evE (T22 call) (.bin .add (.var 1) (.cst (.int 1))) (R24 bs k sh [] .none) = .ok (.int ((k + 1 : Nat) : Int)) := rfl
  have src : evI (T22 call) (.rng (.cst (.int 1)) (.bin .add (.var 1) (.cst (.int 1)))) (R24 bs k sh [] .none) = .ok (nts (List.range' 1 (k + 1 - 1))) := i_rngN (a := 1) (b := k + 1) q_cst e1 (by omega) (by omega)
  rw [Nat.add_sub_cancel] at src
  have s2 : evS (T22 call) (.for (.nm 4) (.rng (.cst (.int 1)) (.bin .add (.var 1) (.cst (.int 1)))) [W24]) (R24 bs k sh [] .none) = .nx (R24 bs k sh acc a) := by
    rw [s_for', src, ok_on, e]
    rfl
  unfold b24
  rw [ss_cons', s1, nx_to, s2, nx_to]
  rfl
end
theorem r24 {n : Nat} {bs : List Nat} {k : Nat} {sh : Int} (hb : bs.length = 40) (hk : k ≤ 40) : ∃ t, Par t ∧ t.length = k ∧ P.run (n + 1) false 24 [.lst (nts bs), .int k, .int sh] = .ok (hs t) := by
  have hf : P.fn 24 = some ⟨3, 5, b24⟩ := rfl
  obtain ⟨t, h1, h2, e⟩ := body24 (call := P.run n) (sh := sh) hb hk
  refine ⟨t, h1, h2, ?_⟩
  rw [run1 hf rfl]
  exact e
/-! ### the law's chains -/
/-- the elders of the versions below k, as lists -/
abbrev upsL (t : List Nat) (k : Nat) : List D := (List.range k).map fun v => .lst (nts (eld t v))
theorem upsL_get {t : List Nat} {k v : Nat} (h : v < k) : getI (upsL t k) (v : Int) = .ok (.lst (nts (eld t v))) := by
  rw [getI_nat (by simpa using h)]
  simp
section
variable {call : Cal} {t : List Nat} {a : Slot}
abbrev W25 : CS := (.app 1 (.bin .add (.lst [(.var 2)]) (.idx (.var 1) (.var 2))))
theorem W25_is {L : List D} {x : D} {p : Nat} {es : List D} (g : getI L (p : Int) = .ok (.lst es)) (h1 : L.length < 16777216) (h2 : 1 + es.length ≤ 16777216) : evS (T22 call) W25 [.val x, .own L, .val (.int p)] = .nx [.val x, .own (L ++ [.lst (.int p :: es)]), .val (.int p)] := by
  simp [q_var, q_cst, q_bin, q_un, q_and, q_or, q_ife, q_tup, q_lst, q_idx, q_slc, q_call, q_callk, q_bi, q_isi, q_rngL, q_rngO, q_cmp, q_exf, q_exi, q_bv, t_yes, t_and, t_or, t_not, t_of, o_none, o_some, es_nil, es_cons, bs_nil, bs_cons, i_of, i_rng, i_enum, i_zip, i_rev, s_pass', s_set', s_setC', s_setOwn', s_unp', s_app', s_ex', s_ret', s_retO', s_retN', s_ife', s_for', s_whl', s_raise', s_try', s_brk', s_cont', ss_nil', ss_cons', h_nil, h_some, h_none, bor, slotE, slotB, isiD, D.isTy, D.truth, unD, binD, guardL, ownArg, isOwn, biD, itHot, BI.hot, tgOwn, ownIt, itemsD, seqD, D.noL, idxD, g, h1, h2]
theorem body25 (h : Par t) (hl : t.length ≤ 900) : (evSs (T22 call) b25 [.val (hs t), .none, .none]).fin = .ok (.lst (upsL t (t.length + 1))) := by
  obtain ⟨ρ', e, a, rfl⟩ := forL_ix (tg := .nm 2) (body := evSs (T22 call) [W25]) (I := fun i ρ => ∃ a, ρ = [.val (hs t), .own (upsL t (i + 1)), a]) (nts t) 0 _ ⟨.none, rfl⟩ (by
    intro i hi ρ hI
    obtain ⟨a, rfl⟩ := hI
    have hi' : i < t.length := by simpa using hi
    have hd : (nts t)[i] = .int ((t[i] : Nat) : Int) := by simp
    have hp : t[i] ≤ i := h i t[i] (by simp [hi'])
    have le := eld_len h t[i] (by omega)
    have e := W25_is (call := call) (x := hs t) (upsL_get (t := t) (k := 0 + i + 1) (v := t[i]) (by omega)) (by simp; omega) (by simp; omega)
    rw [hd]
    refine ⟨[.val (hs t), .own (upsL t (0 + i + 1)), .val (.int (t[i] : Nat))], _, rfl, by rw [ss_cons', e, nx_end], .val (.int (t[i] : Nat)), ?_⟩
    have es := eld_succ h (v := 0 + i + 1) (by omega) (by omega)
    have gd : t.getD (0 + i + 1 - 1) 0 = t[i] := by simp [hi']
    rw [gd] at es
    unfold upsL
    rw [List.range_succ (n := 0 + i + 1), List.map_append, List.map_singleton, es]
    rfl)
  have s1 : evS (T22 call) (.setOwn 1 (.lst [(.lst [])])) [.val (hs t), .none, .none] = .nx [.val (hs t), .own (upsL t (0 + 1)), .none] := rfl
  have src : evI (T22 call) (.of (.var 0)) [.val (hs t), .own (upsL t (0 + 1)), .none] = .ok (nts t) := rfl
  have s2 : evS (T22 call) (.for (.nm 2) (.of (.var 0)) [W25]) [.val (hs t), .own (upsL t (0 + 1)), .none] = .nx [.val (hs t), .own (upsL t (0 + (nts t).length + 1)), a] := by
    rw [s_for', src, ok_on, e]
    rfl
  unfold b25
  rw [ss_cons', s1, nx_to, s2, nx_to, List.length_map, Nat.zero_add]
  rfl
end
theorem r25 {n : Nat} {t : List Nat} (h : Par t) (hl : t.length ≤ 900) : P.run (n + 1) false 25 [hs t] = .ok (.lst (upsL t (t.length + 1))) := by
  have hf : P.fn 25 = some ⟨1, 3, b25⟩ := rfl
  rw [run1 hf rfl]
  exact body25 h hl
end Vk02_whole_elders
end
section
set_option Elab.async false
set_option linter.all false
set_option maxRecDepth 100000
set_option maxHeartbeats 2000000
namespace Vk02_whole_elders
open PySem PySem.Spec Ev
/-! ### the law's thing -/
theorem getI_mod {xs : List D} {m : Nat} {z : Int} (hm : xs.length = m) (h0 : 0 < m) : ∃ d ∈ xs, getI xs (z % (m : Int)) = .ok d := by
  have h1 := Int.emod_nonneg z (b := (m : Int)) (by omega)
  have h2 := Int.emod_lt_of_pos z (b := (m : Int)) (by omega)
  have e : z % (m : Int) = (((z % (m : Int)).toNat : Nat) : Int) := by omega
  have hl : (z % (m : Int)).toNat < xs.length := by omega
  refine ⟨xs[(z % (m : Int)).toNat], List.getElem_mem hl, ?_⟩
  have g := getI_nat hl
  rwa [Int.toNat_of_nonneg h1] at g
abbrev NoR (xs : List D) : Prop := ∀ d ∈ xs, d.isRng = false
theorem NoR.cut {xs : List D} (h : NoR xs) (lo hi : Option Int) : NoR (cutL xs lo hi) := fun d hd => h d (List.mem_of_mem_drop (List.mem_of_mem_take hd))
theorem cut_len {α : Type} (xs : List α) (lo hi : Option Int) : (cutL xs lo hi).length ≤ xs.length := by
  unfold cutL
  simp only [List.length_take, List.length_drop]
  omega
theorem noR_nts (l : List Nat) : NoR (nts l) := fun d hd => by
  obtain ⟨x, _, rfl⟩ := List.mem_map.mp hd
  rfl
section
variable {call : Cal} {bs : List Nat} {t : List Nat} {ps : List D} {m : Int} {a4 a5 a6 : Slot}
abbrev R26 (bs t : List Nat) (m : Int) (ps : List D) (a4 a5 a6 : Slot) : Rho := [.val (.lst (nts bs)), .val (hs t), .val (.int m), .val (.lst ps), a4, a5, a6]
abbrev K1 : CS := .set 5 (.bin .mod (.bi .int [(.idx (.var 0) (.bin .add (.cst (.int 4)) (.var 4)))]) (.bin .add (.bi .len [(.var 3)]) (.cst (.int 1))))
abbrev K2 : CS := (.set 6 (.idx (.tup [(.bin .add (.var 5) (.cst (.int 1))), (.var 5), (.un .neg (.cst (.int 1))), (.cst (.bl true)), (.cst (.bl false)), (.cst .non), (.cst (.str (L "0"))), (.tup [(.cst (.int 0))]), (.bin .pow (.cst (.int 10)) (.cst (.int 20))), (.lst [(.cst (.int 0))]), (.bin .add (.var 5) (.cst (.int 2))), (.cst (.int 0)), (.bi .len [(.var 3)]), (.un .neg (.var 5))]) (.bin .mod (.bi .int [(.idx (.var 0) (.bin .add (.cst (.int 6)) (.var 4)))]) (.cst (.int 14)))))
abbrev K3 : CS := (.set 3 (.bin .add (.bin .add (.slc (.var 3) none (some (.var 5))) (.lst [(.var 6)])) (.slc (.var 3) (some (.bin .add (.var 5) (.cst (.int 1)))) none)))
theorem K1_is {k : Nat} (hb : bs.length = 9) (hk : k < 2) : ∃ p : Int, evS (T22 call) K1 (R26 bs t m ps (.val (.int k)) a5 a6) = .nx (R26 bs t m ps (.val (.int k)) (.val (.int p)) a6) := by
  have g : getI (nts bs) (4 + (k : Int)) = .ok (.int ((bs[4 + k]'(by omega) : Nat) : Int)) := by
    rw [show (4 : Int) + (k : Int) = ((4 + k : Nat) : Int) by omega]
    exact getI_nts (by omega)
  have hp : (0 : Int) < (ps.length : Int) + 1 := by omega
  refine ⟨((bs[4 + k]'(by omega) : Nat) : Int) % ((ps.length : Int) + 1), ?_⟩
  unfold nts at g
  simp [q_var, q_cst, q_bin, q_un, q_and, q_or, q_ife, q_tup, q_lst, q_idx, q_slc, q_call, q_callk, q_bi, q_isi, q_rngL, q_rngO, q_cmp, q_exf, q_exi, q_bv, t_yes, t_and, t_or, t_not, t_of, o_none, o_some, es_nil, es_cons, bs_nil, bs_cons, i_of, i_rng, i_enum, i_zip, i_rev, s_pass', s_set', s_setC', s_setOwn', s_unp', s_app', s_ex', s_ret', s_retO', s_retN', s_ife', s_for', s_whl', s_raise', s_try', s_brk', s_cont', ss_nil', ss_cons', h_nil, h_some, h_none, bor, slotE, slotB, isiD, D.isTy, D.truth, unD, binD, guardL, ownArg, isOwn, biD, itHot, BI.hot, tgOwn, ownIt, itemsD, seqD, D.noL, idxD, g, hp, nts]
abbrev od (p : Int) (n : Nat) : List D := [.int (p + 1), .int p, .int (-1), .bl true, .bl false, .non, .str (L "0"), .tup [.int 0], .int 100000000000000000000, .lst [.int 0], .int (p + 2), .int 0, .int n, .int (-p)]
theorem od_is {ρ : Rho} {p : Int} (h3 : slotB ρ[3]? = .ok (.lst ps)) (h5 : ρ[5]? = some (.val (.int p))) : evE (T22 call) (.tup [(.bin .add (.var 5) (.cst (.int 1))), (.var 5), (.un .neg (.cst (.int 1))), (.cst (.bl true)), (.cst (.bl false)), (.cst .non), (.cst (.str (L "0"))), (.tup [(.cst (.int 0))]), (.bin .pow (.cst (.int 10)) (.cst (.int 20))), (.lst [(.cst (.int 0))]), (.bin .add (.var 5) (.cst (.int 2))), (.cst (.int 0)), (.bi .len [(.var 3)]), (.un .neg (.var 5))]) ρ = .ok (.tup (od p ps.length)) := by
  have h5' : slotB ρ[5]? = .ok (.int p) := by rw [h5]; rfl
  have h5'' : slotE ρ[5]? = .ok (.int p) := by rw [h5]; rfl
  simp only [q_tup, es_cons, es_nil, q_bin, q_un, q_lst, q_cst, q_var, q_bi, bs_cons, bs_nil, bor, h3, h5', h5'', ok_bind, pure_ok, BI.hot, Bool.not_true, Bool.and_false, Bool.false_eq_true, if_false]
  simp [binD, unD, biD]
theorem od_rng {p : Int} {n : Nat} : NoR (od p n) := by
  intro d hd
  simp only [od, List.mem_cons, List.not_mem_nil, or_false] at hd
  rcases hd with h | h | h | h | h | h | h | h | h | h | h | h | h | h <;> subst h <;> rfl
theorem K2_is {k : Nat} {p : Int} (hb : bs.length = 9) (hk : k < 2) : ∃ d, d.isRng = false ∧ evS (T22 call) K2 (R26 bs t m ps (.val (.int k)) (.val (.int p)) a6) = .nx (R26 bs t m ps (.val (.int k)) (.val (.int p)) (.val d)) := by
  have g : getI (nts bs) (6 + (k : Int)) = .ok (.int ((bs[6 + k]'(by omega) : Nat) : Int)) := by
    rw [show (6 : Int) + (k : Int) = ((6 + k : Nat) : Int) by omega]
    exact getI_nts (by omega)
  obtain ⟨d, hd, e⟩ := getI_mod (xs := od p ps.length) (m := 14) (z := ((bs[6 + k]'(by omega) : Nat) : Int)) rfl (by omega)
  refine ⟨d, od_rng d hd, ?_⟩
  have e1 : evE (T22 call) (.bin .mod (.bi .int [(.idx (.var 0) (.bin .add (.cst (.int 6)) (.var 4)))]) (.cst (.int 14))) (R26 bs t m ps (.val (.int k)) (.val (.int p)) a6) = .ok (.int (((bs[6 + k]'(by omega) : Nat) : Int) % 14)) := by
    unfold nts at g
    simp [q_var, q_cst, q_bin, q_un, q_and, q_or, q_ife, q_tup, q_lst, q_idx, q_slc, q_call, q_callk, q_bi, q_isi, q_rngL, q_rngO, q_cmp, q_exf, q_exi, q_bv, t_yes, t_and, t_or, t_not, t_of, o_none, o_some, es_nil, es_cons, bs_nil, bs_cons, i_of, i_rng, i_enum, i_zip, i_rev, s_pass', s_set', s_setC', s_setOwn', s_unp', s_app', s_ex', s_ret', s_retO', s_retN', s_ife', s_for', s_whl', s_raise', s_try', s_brk', s_cont', ss_nil', ss_cons', h_nil, h_some, h_none, bor, slotE, slotB, isiD, D.isTy, D.truth, unD, binD, guardL, ownArg, isOwn, biD, itHot, BI.hot, tgOwn, ownIt, itemsD, seqD, D.noL, idxD, g, nts]
  rw [s_set', q_idx, e1]
  simp only [bor]
  rw [od_is (ps := ps) (p := p) rfl rfl]
  simp only [ok_bind, idxD]
  rw [show ((14 : Nat) : Int) = 14 from rfl] at e
  rw [e]
  rfl
theorem K3_is {p : Int} {d : D} (hp : NoR ps) (hd : d.isRng = false) (hl : ps.length ≤ 1000) : ∃ qs, NoR qs ∧ qs.length ≤ 2 * ps.length + 1 ∧ evS (T22 call) K3 (R26 bs t m ps a4 (.val (.int p)) (.val d)) = .nx (R26 bs t m qs a4 (.val (.int p)) (.val d)) := by
  have l1 := cut_len ps none (some p)
  have l2 := cut_len ps (some (p + 1)) none
  refine ⟨cutL ps none (some p) ++ [d] ++ cutL ps (some (p + 1)) none, ?_, by simp; omega, ?_⟩
  · intro y hy
    rcases List.mem_append.mp hy with h | h
    · rcases List.mem_append.mp h with h | h
      · exact hp.cut _ _ y h
      · simp at h; subst h; exact hd
    · exact hp.cut _ _ y h
  · have b1 : (cutL ps none (some p)).length + 1 ≤ 16777216 := by omega
    have b2 : (cutL ps none (some p)).length + ((cutL ps (some (p + 1)) none).length + 1) ≤ 16777216 := by omega
    have b3 : (cutL ps none (some p)).length + 1 + (cutL ps (some (p + 1)) none).length ≤ 16777216 := by omega
    simp [q_var, q_cst, q_bin, q_un, q_and, q_or, q_ife, q_tup, q_lst, q_idx, q_slc, q_call, q_callk, q_bi, q_isi, q_rngL, q_rngO, q_cmp, q_exf, q_exi, q_bv, t_yes, t_and, t_or, t_not, t_of, o_none, o_some, es_nil, es_cons, bs_nil, bs_cons, i_of, i_rng, i_enum, i_zip, i_rev, s_pass', s_set', s_setC', s_setOwn', s_unp', s_app', s_ex', s_ret', s_retO', s_retN', s_ife', s_for', s_whl', s_raise', s_try', s_brk', s_cont', ss_nil', ss_cons', h_nil, h_some, h_none, bor, slotE, slotB, isiD, D.isTy, D.truth, unD, binD, guardL, ownArg, isOwn, biD, itHot, BI.hot, tgOwn, ownIt, itemsD, seqD, D.noL, slcD, b1, b2, b3]
abbrev M1 : CS := .set 2 (.bin .mod (.bi .int [(.idx (.var 0) (.cst (.int 0)))]) (.cst (.int 12)))
abbrev M2 : CS := .set 3 (.bi .list [(.var 1)])
abbrev C3 : CE := .cmp (.nm 4) (.rng (.cst (.int 0)) (.bin .add (.cst (.int 48)) (.bin .mod (.bi .int [(.idx (.var 0) (.cst (.int 2)))]) (.cst (.int 13))))) .yes (.bi .max2 [(.cst (.int 0)), (.bin .sub (.var 4) (.bin .mod (.bi .int [(.idx (.var 0) (.cst (.int 1)))]) (.cst (.int 2))))])
abbrev M3 : CS := .ife (.of (.bin .lt (.var 2) (.cst (.int 2)))) [(.setC 3 C3)] []
abbrev M4 : CS := .ife (.of (.bin .eq (.var 2) (.cst (.int 1)))) [(.ret (.bi .tuple [(.var 3)]))] []
abbrev M5 : CS := .ife (.of (.bin .eq (.var 2) (.cst (.int 2)))) [(.ret (.var 3))] []
abbrev M6 : CS := .ife (.of (.bin .eq (.var 2) (.cst (.int 3)))) [(.ret (.idx (.tup [(.cst .non), (.cst (.int 0)), (.cst (.str (L ""))), (.cst (.str (L "0"))), (.cst (.bl true)), (.lst [(.var 1)]), (.cst (.int 5)), (.cst (.int 7))]) (.bin .mod (.bi .int [(.idx (.var 0) (.cst (.int 1)))]) (.cst (.int 8)))))] []
abbrev M7 : CS := .ife (.of (.bin .eq (.var 2) (.cst (.int 4)))) [(.ret (.var 1))] []
abbrev M8 : CS := .for (.nm 4) (.rng (.cst (.int 0)) (.bin .add (.cst (.int 1)) (.bin .mod (.bi .int [(.idx (.var 0) (.cst (.int 3)))]) (.cst (.int 2))))) [K1, K2, K3]
abbrev M9 : CS := .ret (.bi .tuple [(.var 3)])
theorem bget {i : Nat} (hb : bs.length = 9) (hi : i < 9) : getI (bs.map fun x => D.int ((x : Nat) : Int)) (i : Int) = .ok (.int ((bs[i]'(by omega) : Nat) : Int)) := getI_nts (l := bs) (by omega)
theorem M1_is (hb : bs.length = 9) : ∃ m : Int, evS (T22 call) M1 [.val (.lst (nts bs)), .val (hs t), .none, .none, .none, .none, .none] = .nx [.val (.lst (nts bs)), .val (hs t), .val (.int m), .none, .none, .none, .none] := by
  have g : getI (bs.map fun x => D.int ((x : Nat) : Int)) 0 = .ok (.int ((bs[0]'(by omega) : Nat) : Int)) := bget (i := 0) hb (by omega)
  exact ⟨_, by simp [q_var, q_cst, q_bin, q_un, q_and, q_or, q_ife, q_tup, q_lst, q_idx, q_slc, q_call, q_callk, q_bi, q_isi, q_rngL, q_rngO, q_cmp, q_exf, q_exi, q_bv, t_yes, t_and, t_or, t_not, t_of, o_none, o_some, es_nil, es_cons, bs_nil, bs_cons, i_of, i_rng, i_enum, i_zip, i_rev, s_pass', s_set', s_setC', s_setOwn', s_unp', s_app', s_ex', s_ret', s_retO', s_retN', s_ife', s_for', s_whl', s_raise', s_try', s_brk', s_cont', ss_nil', ss_cons', h_nil, h_some, h_none, bor, slotE, slotB, isiD, D.isTy, D.truth, unD, binD, guardL, ownArg, isOwn, biD, itHot, BI.hot, tgOwn, ownIt, itemsD, seqD, D.noL, idxD, g, nts]; rfl⟩
theorem M3_is (hb : bs.length = 9) (hp : NoR ps) (hl : ps.length ≤ 100) : ∃ qs, NoR qs ∧ qs.length ≤ 100 ∧ evS (T22 call) M3 (R26 bs t m ps .none a5 a6) = .nx (R26 bs t m qs .none a5 a6) := by
  by_cases h : m < 2
  · have g1 : getI (bs.map fun x => D.int ((x : Nat) : Int)) 1 = .ok (.int ((bs[1]'(by omega) : Nat) : Int)) := bget (i := 1) hb (by omega)
    have g2 : getI (bs.map fun x => D.int ((x : Nat) : Int)) 2 = .ok (.int ((bs[2]'(by omega) : Nat) : Int)) := bget (i := 2) hb (by omega)
    obtain ⟨k, hk, ek⟩ : ∃ k : Nat, k ≤ 60 ∧ (48 : Int) + ((bs[2]'(by omega) : Nat) : Int) % 13 = (k : Int) := ⟨48 + (bs[2]'(by omega)) % 13, by omega, by omega⟩
    have src : evI (T22 call) (.rng (.cst (.int 0)) (.bin .add (.cst (.int 48)) (.bin .mod (.bi .int [(.idx (.var 0) (.cst (.int 2)))]) (.cst (.int 13))))) (R26 bs t m ps .none a5 a6) = .ok (nts (List.range k)) := by
      refine i_rng0 ?_ (by omega)
      rw [← ek]
      simp [q_var, q_cst, q_bin, q_un, q_and, q_or, q_ife, q_tup, q_lst, q_idx, q_slc, q_call, q_callk, q_bi, q_isi, q_rngL, q_rngO, q_cmp, q_exf, q_exi, q_bv, t_yes, t_and, t_or, t_not, t_of, o_none, o_some, es_nil, es_cons, bs_nil, bs_cons, i_of, i_rng, i_enum, i_zip, i_rev, s_pass', s_set', s_setC', s_setOwn', s_unp', s_app', s_ex', s_ret', s_retO', s_retN', s_ife', s_for', s_whl', s_raise', s_try', s_brk', s_cont', ss_nil', ss_cons', h_nil, h_some, h_none, bor, slotE, slotB, isiD, D.isTy, D.truth, unD, binD, guardL, ownArg, isOwn, biD, itHot, BI.hot, tgOwn, ownIt, itemsD, seqD, D.noL, idxD, g2, nts]
    have cl : compL (turnQ (T22 call) (.nm 4) .yes (.bi .max2 [(.cst (.int 0)), (.bin .sub (.var 4) (.bin .mod (.bi .int [(.idx (.var 0) (.cst (.int 1)))]) (.cst (.int 2))))]) (R26 bs t m ps .none a5 a6)) (nts (List.range k)) = .ok ((List.range k).map fun (i : Nat) => .int (if (i : Int) - ((bs[1]'(by omega) : Nat) : Int) % 2 > 0 then (i : Int) - ((bs[1]'(by omega) : Nat) : Int) % 2 else 0)) := by
      refine compL_imA ?_
      intro i hi
      unfold turnQ
      simp [q_var, q_cst, q_bin, q_un, q_and, q_or, q_ife, q_tup, q_lst, q_idx, q_slc, q_call, q_callk, q_bi, q_isi, q_rngL, q_rngO, q_cmp, q_exf, q_exi, q_bv, t_yes, t_and, t_or, t_not, t_of, o_none, o_some, es_nil, es_cons, bs_nil, bs_cons, i_of, i_rng, i_enum, i_zip, i_rev, s_pass', s_set', s_setC', s_setOwn', s_unp', s_app', s_ex', s_ret', s_retO', s_retN', s_ife', s_for', s_whl', s_raise', s_try', s_brk', s_cont', ss_nil', ss_cons', h_nil, h_some, h_none, bor, slotE, slotB, isiD, D.isTy, D.truth, unD, binD, guardL, ownArg, isOwn, biD, itHot, BI.hot, tgOwn, ownIt, itemsD, seqD, D.noL, bindT, idxD, g1, nts]
    refine ⟨(List.range k).map fun (i : Nat) => .int (if (i : Int) - ((bs[1]'(by omega) : Nat) : Int) % 2 > 0 then (i : Int) - ((bs[1]'(by omega) : Nat) : Int) % 2 else 0), fun d hd => ?_, by simp; omega, ?_⟩
    · obtain ⟨i, _, rfl⟩ := List.mem_map.mp hd
      rfl
    · have c : evT (T22 call) (.of (.bin .lt (.var 2) (.cst (.int 2)))) (R26 bs t m ps .none a5 a6) = .ok true := by
        simp [q_var, q_cst, q_bin, q_un, q_and, q_or, q_ife, q_tup, q_lst, q_idx, q_slc, q_call, q_callk, q_bi, q_isi, q_rngL, q_rngO, q_cmp, q_exf, q_exi, q_bv, t_yes, t_and, t_or, t_not, t_of, o_none, o_some, es_nil, es_cons, bs_nil, bs_cons, i_of, i_rng, i_enum, i_zip, i_rev, s_pass', s_set', s_setC', s_setOwn', s_unp', s_app', s_ex', s_ret', s_retO', s_retN', s_ife', s_for', s_whl', s_raise', s_try', s_brk', s_cont', ss_nil', ss_cons', h_nil, h_some, h_none, bor, slotE, slotB, isiD, D.isTy, D.truth, unD, binD, guardL, ownArg, isOwn, biD, itHot, BI.hot, tgOwn, ownIt, itemsD, seqD, D.noL, h]
      have s : evE (T22 call) C3 (R26 bs t m ps .none a5 a6) = .ok (.lst ((List.range k).map fun (i : Nat) => .int (if (i : Int) - ((bs[1]'(by omega) : Nat) : Int) % 2 > 0 then (i : Int) - ((bs[1]'(by omega) : Nat) : Int) % 2 else 0))) := by
        rw [q_cmp, src, ok_bind, cl]
        rfl
      rw [s_ife', c, ok_on, if_pos rfl, ss_cons', s_setC', s]
      rfl
  · refine ⟨ps, hp, hl, ?_⟩
    simp [q_var, q_cst, q_bin, q_un, q_and, q_or, q_ife, q_tup, q_lst, q_idx, q_slc, q_call, q_callk, q_bi, q_isi, q_rngL, q_rngO, q_cmp, q_exf, q_exi, q_bv, t_yes, t_and, t_or, t_not, t_of, o_none, o_some, es_nil, es_cons, bs_nil, bs_cons, i_of, i_rng, i_enum, i_zip, i_rev, s_pass', s_set', s_setC', s_setOwn', s_unp', s_app', s_ex', s_ret', s_retO', s_retN', s_ife', s_for', s_whl', s_raise', s_try', s_brk', s_cont', ss_nil', ss_cons', h_nil, h_some, h_none, bor, slotE, slotB, isiD, D.isTy, D.truth, unD, binD, guardL, ownArg, isOwn, biD, itHot, BI.hot, tgOwn, ownIt, itemsD, seqD, D.noL, h]
def bdp : Nat → Nat
  | 0 => 100
  | 1 => 201
  | _ => 403
theorem bdp_le (i : Nat) : bdp i ≤ 403 := by unfold bdp; split <;> omega
theorem bdp_up {i : Nat} (h : i < 2) : 2 * bdp i + 1 ≤ bdp (i + 1) := by
  have : i = 0 ∨ i = 1 := by omega
  rcases this with rfl | rfl <;> simp [bdp]
theorem M8_is (hb : bs.length = 9) (hp : NoR ps) (hl : ps.length ≤ 100) : ∃ qs a4 a5 a6, NoR qs ∧ qs.length ≤ 1000 ∧ evS (T22 call) M8 (R26 bs t m ps .none .none .none) = .nx (R26 bs t m qs a4 a5 a6) := by
  have g3 : getI (bs.map fun x => D.int ((x : Nat) : Int)) 3 = .ok (.int ((bs[3]'(by omega) : Nat) : Int)) := bget (i := 3) hb (by omega)
  obtain ⟨k, hk, ek⟩ : ∃ k : Nat, k ≤ 2 ∧ (1 : Int) + ((bs[3]'(by omega) : Nat) : Int) % 2 = (k : Int) := ⟨1 + (bs[3]'(by omega)) % 2, by omega, by omega⟩
  have src : evI (T22 call) (.rng (.cst (.int 0)) (.bin .add (.cst (.int 1)) (.bin .mod (.bi .int [(.idx (.var 0) (.cst (.int 3)))]) (.cst (.int 2))))) (R26 bs t m ps .none .none .none) = .ok (nts (List.range k)) := by
    refine i_rng0 ?_ (by omega)
    rw [← ek]
    simp [q_var, q_cst, q_bin, q_un, q_and, q_or, q_ife, q_tup, q_lst, q_idx, q_slc, q_call, q_callk, q_bi, q_isi, q_rngL, q_rngO, q_cmp, q_exf, q_exi, q_bv, t_yes, t_and, t_or, t_not, t_of, o_none, o_some, es_nil, es_cons, bs_nil, bs_cons, i_of, i_rng, i_enum, i_zip, i_rev, s_pass', s_set', s_setC', s_setOwn', s_unp', s_app', s_ex', s_ret', s_retO', s_retN', s_ife', s_for', s_whl', s_raise', s_try', s_brk', s_cont', ss_nil', ss_cons', h_nil, h_some, h_none, bor, slotE, slotB, isiD, D.isTy, D.truth, unD, binD, guardL, ownArg, isOwn, biD, itHot, BI.hot, tgOwn, ownIt, itemsD, seqD, D.noL, idxD, g3, nts]
  obtain ⟨ρ', e, qs, a4, a5, a6, hq, hn, rfl⟩ := forL_ix (tg := .nm 4) (body := evSs (T22 call) [K1, K2, K3]) (I := fun i ρ => ∃ ps a4 a5 a6, NoR ps ∧ ps.length ≤ bdp i ∧ ρ = R26 bs t m ps a4 a5 a6) (nts (List.range k)) 0 _ ⟨ps, .none, .none, .none, hp, hl, rfl⟩ (by
    intro i hi ρ hI
    obtain ⟨ps, a4, a5, a6, hp, hn, rfl⟩ := hI
    have hi' : i < 2 := by have : i < k := by simpa using hi
                           omega
    have hd : (nts (List.range k))[i] = .int ((i : Nat) : Int) := by simp
    rw [hd]
    obtain ⟨p, e1⟩ := K1_is (call := call) (t := t) (ps := ps) (m := m) (a5 := a5) (a6 := a6) hb hi'
    obtain ⟨d, hd, e2⟩ := K2_is (call := call) (t := t) (ps := ps) (m := m) (a6 := a6) (p := p) hb hi'
    obtain ⟨qs, hq, hn2, e3⟩ := K3_is (call := call) (t := t) (bs := bs) (m := m) (a4 := .val (.int (i : Nat))) (p := p) hp hd (by have := bdp_le (0 + i); omega)
    refine ⟨R26 bs t m ps (.val (.int (i : Nat))) a5 a6, R26 bs t m qs (.val (.int (i : Nat))) (.val (.int p)) (.val d), rfl, ?_, qs, _, _, _, hq, ?_, rfl⟩
    · rw [ss_cons', e1, nx_to, e2, nx_to, e3, nx_end]
    · have := bdp_up (i := 0 + i) (by omega)
      omega)
  refine ⟨qs, a4, a5, a6, hq, by have := bdp_le (0 + (nts (List.range k)).length); omega, ?_⟩
  rw [s_for', src, ok_on, e]
  rfl
theorem M4_is : evS (T22 call) M4 (R26 bs t m ps a4 a5 a6) = if m = 1 then .ret (.tup ps) else .nx (R26 bs t m ps a4 a5 a6) := by
  by_cases h : m = 1 <;> simp [q_var, q_cst, q_bin, q_un, q_and, q_or, q_ife, q_tup, q_lst, q_idx, q_slc, q_call, q_callk, q_bi, q_isi, q_rngL, q_rngO, q_cmp, q_exf, q_exi, q_bv, t_yes, t_and, t_or, t_not, t_of, o_none, o_some, es_nil, es_cons, bs_nil, bs_cons, i_of, i_rng, i_enum, i_zip, i_rev, s_pass', s_set', s_setC', s_setOwn', s_unp', s_app', s_ex', s_ret', s_retO', s_retN', s_ife', s_for', s_whl', s_raise', s_try', s_brk', s_cont', ss_nil', ss_cons', h_nil, h_some, h_none, bor, slotE, slotB, isiD, D.isTy, D.truth, unD, binD, guardL, ownArg, isOwn, biD, itHot, BI.hot, tgOwn, ownIt, itemsD, seqD, D.noL, h, D.eqOk, D.dep, D.plain, D.eqv]
theorem M5_is : evS (T22 call) M5 (R26 bs t m ps a4 a5 a6) = if m = 2 then .ret (.lst ps) else .nx (R26 bs t m ps a4 a5 a6) := by
  by_cases h : m = 2 <;> simp [q_var, q_cst, q_bin, q_un, q_and, q_or, q_ife, q_tup, q_lst, q_idx, q_slc, q_call, q_callk, q_bi, q_isi, q_rngL, q_rngO, q_cmp, q_exf, q_exi, q_bv, t_yes, t_and, t_or, t_not, t_of, o_none, o_some, es_nil, es_cons, bs_nil, bs_cons, i_of, i_rng, i_enum, i_zip, i_rev, s_pass', s_set', s_setC', s_setOwn', s_unp', s_app', s_ex', s_ret', s_retO', s_retN', s_ife', s_for', s_whl', s_raise', s_try', s_brk', s_cont', ss_nil', ss_cons', h_nil, h_some, h_none, bor, slotE, slotB, isiD, D.isTy, D.truth, unD, binD, guardL, ownArg, isOwn, biD, itHot, BI.hot, tgOwn, ownIt, itemsD, seqD, D.noL, h, D.eqOk, D.dep, D.plain, D.eqv]
theorem M7_is : evS (T22 call) M7 (R26 bs t m ps a4 a5 a6) = if m = 4 then .ret (hs t) else .nx (R26 bs t m ps a4 a5 a6) := by
  by_cases h : m = 4 <;> simp [q_var, q_cst, q_bin, q_un, q_and, q_or, q_ife, q_tup, q_lst, q_idx, q_slc, q_call, q_callk, q_bi, q_isi, q_rngL, q_rngO, q_cmp, q_exf, q_exi, q_bv, t_yes, t_and, t_or, t_not, t_of, o_none, o_some, es_nil, es_cons, bs_nil, bs_cons, i_of, i_rng, i_enum, i_zip, i_rev, s_pass', s_set', s_setC', s_setOwn', s_unp', s_app', s_ex', s_ret', s_retO', s_retN', s_ife', s_for', s_whl', s_raise', s_try', s_brk', s_cont', ss_nil', ss_cons', h_nil, h_some, h_none, bor, slotE, slotB, isiD, D.isTy, D.truth, unD, binD, guardL, ownArg, isOwn, biD, itHot, BI.hot, tgOwn, ownIt, itemsD, seqD, D.noL, h, D.eqOk, D.dep, D.plain, D.eqv]
theorem M6_is (hb : bs.length = 9) : (∃ d, Th d ∧ evS (T22 call) M6 (R26 bs t m ps a4 a5 a6) = .ret d) ∨ evS (T22 call) M6 (R26 bs t m ps a4 a5 a6) = .nx (R26 bs t m ps a4 a5 a6) := by
  by_cases h : m = 3
  · left
    have g : getI (bs.map fun x => D.int ((x : Nat) : Int)) 1 = .ok (.int ((bs[1]'(by omega) : Nat) : Int)) := bget (i := 1) hb (by omega)
    obtain ⟨d, hd, e⟩ := getI_mod (xs := [.non, .int 0, .str (L ""), .str (L "0"), .bl true, .lst [hs t], .int 5, .int 7]) (m := 8) (z := ((bs[1]'(by omega) : Nat) : Int)) rfl (by omega)
    refine ⟨d, ?_, ?_⟩
    · simp only [List.mem_cons, List.not_mem_nil, or_false] at hd
      rcases hd with h | h | h | h | h | h | h | h <;> subst h <;> trivial
    · rw [show ((8 : Nat) : Int) = 8 from rfl] at e
      simp [q_var, q_cst, q_bin, q_un, q_and, q_or, q_ife, q_tup, q_lst, q_idx, q_slc, q_call, q_callk, q_bi, q_isi, q_rngL, q_rngO, q_cmp, q_exf, q_exi, q_bv, t_yes, t_and, t_or, t_not, t_of, o_none, o_some, es_nil, es_cons, bs_nil, bs_cons, i_of, i_rng, i_enum, i_zip, i_rev, s_pass', s_set', s_setC', s_setOwn', s_unp', s_app', s_ex', s_ret', s_retO', s_retN', s_ife', s_for', s_whl', s_raise', s_try', s_brk', s_cont', ss_nil', ss_cons', h_nil, h_some, h_none, bor, slotE, slotB, isiD, D.isTy, D.truth, unD, binD, guardL, ownArg, isOwn, biD, itHot, BI.hot, tgOwn, ownIt, itemsD, seqD, D.noL, h, D.eqOk, D.dep, D.plain, D.eqv, idxD, g, nts, e]
  · right
    simp [q_var, q_cst, q_bin, q_un, q_and, q_or, q_ife, q_tup, q_lst, q_idx, q_slc, q_call, q_callk, q_bi, q_isi, q_rngL, q_rngO, q_cmp, q_exf, q_exi, q_bv, t_yes, t_and, t_or, t_not, t_of, o_none, o_some, es_nil, es_cons, bs_nil, bs_cons, i_of, i_rng, i_enum, i_zip, i_rev, s_pass', s_set', s_setC', s_setOwn', s_unp', s_app', s_ex', s_ret', s_retO', s_retN', s_ife', s_for', s_whl', s_raise', s_try', s_brk', s_cont', ss_nil', ss_cons', h_nil, h_some, h_none, bor, slotE, slotB, isiD, D.isTy, D.truth, unD, binD, guardL, ownArg, isOwn, biD, itHot, BI.hot, tgOwn, ownIt, itemsD, seqD, D.noL, h, D.eqOk, D.dep, D.plain, D.eqv]
theorem body26 (hb : bs.length = 9) (hl : t.length ≤ 40) : ∃ d, Th d ∧ (evSs (T22 call) b26 [.val (.lst (nts bs)), .val (hs t), .none, .none, .none, .none, .none]).fin = .ok d := by
  obtain ⟨m, e1⟩ := M1_is (call := call) (t := t) hb
  have e2 : evS (T22 call) M2 [.val (.lst (nts bs)), .val (hs t), .val (.int m), .none, .none, .none, .none] = .nx (R26 bs t m (nts t) .none .none .none) := rfl
  obtain ⟨ps, hp, hn, e3⟩ := M3_is (call := call) (t := t) (m := m) (a5 := .none) (a6 := .none) hb (noR_nts t) (by simp; omega)
  unfold b26
  rw [ss_cons', e1, nx_to, e2, nx_to, e3, nx_to, M4_is]
  by_cases h1 : m = 1
  · rw [if_pos h1]
    exact ⟨.tup ps, ⟨by omega, hp⟩, rfl⟩
  rw [if_neg h1, nx_to, M5_is]
  by_cases h2 : m = 2
  · rw [if_pos h2]
    exact ⟨.lst ps, trivial, rfl⟩
  rw [if_neg h2, nx_to]
  rcases M6_is (call := call) (t := t) (m := m) (ps := ps) (a4 := .none) (a5 := .none) (a6 := .none) hb with ⟨d, hd, e6⟩ | e6
  · rw [e6]
    exact ⟨d, hd, rfl⟩
  rw [e6, nx_to, M7_is]
  by_cases h4 : m = 4
  · rw [if_pos h4]
    exact ⟨hs t, ⟨by simp; omega, noR_nts t⟩, rfl⟩
  obtain ⟨qs, a4, a5, a6, hq, hn2, e8⟩ := M8_is (call := call) (t := t) (m := m) hb hp hn
  rw [if_neg h4, nx_to, e8, nx_to]
  exact ⟨.tup qs, ⟨hn2, hq⟩, rfl⟩
end
theorem r26 {n : Nat} {bs t : List Nat} (hb : bs.length = 9) (hl : t.length ≤ 40) : ∃ d, Th d ∧ P.run (n + 1) false 26 [.lst (nts bs), hs t] = .ok d := by
  have hf : P.fn 26 = some ⟨2, 7, b26⟩ := rfl
  obtain ⟨d, h, e⟩ := body26 (call := P.run n) hb hl
  refine ⟨d, h, ?_⟩
  rw [run1 hf rfl]
  exact e
end Vk02_whole_elders
end
section
set_option Elab.async false
set_option linter.all false
set_option maxRecDepth 100000
set_option maxHeartbeats 2000000
namespace Vk02_whole_elders
open PySem PySem.Spec Ev
/-! ### refusals -/
/-- no version of the history -/
def NV (t : List Nat) (x : D) : Prop := x.isRng = false ∧ (isNum x && leInt x t.length) = false
theorem NV.nat {t : List Nat} {x : D} (h : NV t x) : (isNat x && leInt x t.length) = false := by
  have := h.2
  cases x <;> simp_all [isNat, isNum, leInt]
  rename_i i
  intro a
  exact this (by omega)
abbrev refu (s : List Nat) : Ev.R D := .err 4 [.str s, .int (-1)]
section
variable {n : Nat} {t : List Nat} {x : D}
theorem len_nts (l : List Nat) : (nts l).length = l.length := by simp
theorem q9 (h : NV t x) : P.run (n + 4) false 9 [hs t, x] = refu (L "version") := r9_no (t := nts t) h.1 (by rw [len_nts]; exact h.nat)
theorem q10 (h : NV t x) : P.run (n + 4) false 10 [hs t, x] = refu (L "version") := r10_no (t := nts t) h.1 (by rw [len_nts]; exact h.2)
theorem q5 (h : NV t x) : P.run (n + 3) false 5 [hs t, x] = .ok (.bl false) := by
  have z := r5 n false (nts t) x h.1
  rw [len_nts, h.2] at z
  exact z
end
section
variable {call : Cal} {a x y : D} {s : List Nat}
theorem u11 (h : call false 10 [a, x] = refu s) : (evSs (T22 call) b11 [.val a, .val x, .none, .none]).fin = refu s := by
  simp [q_var, q_cst, q_bin, q_un, q_and, q_or, q_ife, q_tup, q_lst, q_idx, q_slc, q_call, q_callk, q_bi, q_isi, q_rngL, q_rngO, q_cmp, q_exf, q_exi, q_bv, t_yes, t_and, t_or, t_not, t_of, o_none, o_some, es_nil, es_cons, bs_nil, bs_cons, i_of, i_rng, i_enum, i_zip, i_rev, s_pass', s_set', s_setC', s_setOwn', s_unp', s_app', s_ex', s_ret', s_retO', s_retN', s_ife', s_for', s_whl', s_raise', s_try', s_brk', s_cont', ss_nil', ss_cons', h_nil, h_some, h_none, bor, slotE, slotB, isiD, D.isTy, D.truth, unD, binD, guardL, ownArg, isOwn, biD, itHot, BI.hot, tgOwn, ownIt, itemsD, seqD, D.noL, b11, h]
theorem u14 (h : call false 10 [a, x] = refu s) : (evSs (T22 call) b14 [.val a, .val x]).fin = refu s := by
  simp [q_var, q_cst, q_bin, q_un, q_and, q_or, q_ife, q_tup, q_lst, q_idx, q_slc, q_call, q_callk, q_bi, q_isi, q_rngL, q_rngO, q_cmp, q_exf, q_exi, q_bv, t_yes, t_and, t_or, t_not, t_of, o_none, o_some, es_nil, es_cons, bs_nil, bs_cons, i_of, i_rng, i_enum, i_zip, i_rev, s_pass', s_set', s_setC', s_setOwn', s_unp', s_app', s_ex', s_ret', s_retO', s_retN', s_ife', s_for', s_whl', s_raise', s_try', s_brk', s_cont', ss_nil', ss_cons', h_nil, h_some, h_none, bor, slotE, slotB, isiD, D.isTy, D.truth, unD, binD, guardL, ownArg, isOwn, biD, itHot, BI.hot, tgOwn, ownIt, itemsD, seqD, D.noL, b14, h]
theorem u17 (h : call false 5 [a, x] = .ok (.bl false)) (h7 : call false 7 [.bl false, .str (L "version")] = refu (L "version")) : (evSs (T22 call) b17 [.val a, .val x, .none, .none]).fin = refu (L "version") := by
  simp [q_var, q_cst, q_bin, q_un, q_and, q_or, q_ife, q_tup, q_lst, q_idx, q_slc, q_call, q_callk, q_bi, q_isi, q_rngL, q_rngO, q_cmp, q_exf, q_exi, q_bv, t_yes, t_and, t_or, t_not, t_of, o_none, o_some, es_nil, es_cons, bs_nil, bs_cons, i_of, i_rng, i_enum, i_zip, i_rev, s_pass', s_set', s_setC', s_setOwn', s_unp', s_app', s_ex', s_ret', s_retO', s_retN', s_ife', s_for', s_whl', s_raise', s_try', s_brk', s_cont', ss_nil', ss_cons', h_nil, h_some, h_none, bor, slotE, slotB, isiD, D.isTy, D.truth, unD, binD, guardL, ownArg, isOwn, biD, itHot, BI.hot, tgOwn, ownIt, itemsD, seqD, D.noL, b17, h, h7]
theorem s18 (h : call false 5 [a, x] = .ok (.bl false)) (h7 : call false 7 [.bl false, .str (L "version")] = refu (L "version")) {ρ : Rho} (e0 : ρ[0]? = some (.val a)) (e1 : ρ[1]? = some (.val x)) : evS (T22 call) (.ex (.call 7 [(.call 5 [(.var 0), (.var 1)]), (.cst (.str (L "version")))])) ρ = .err 4 [.str (L "version"), .int (-1)] ρ := by
  simp [q_var, q_cst, q_bin, q_un, q_and, q_or, q_ife, q_tup, q_lst, q_idx, q_slc, q_call, q_callk, q_bi, q_isi, q_rngL, q_rngO, q_cmp, q_exf, q_exi, q_bv, t_yes, t_and, t_or, t_not, t_of, o_none, o_some, es_nil, es_cons, bs_nil, bs_cons, i_of, i_rng, i_enum, i_zip, i_rev, s_pass', s_set', s_setC', s_setOwn', s_unp', s_app', s_ex', s_ret', s_retO', s_retN', s_ife', s_for', s_whl', s_raise', s_try', s_brk', s_cont', ss_nil', ss_cons', h_nil, h_some, h_none, bor, slotE, slotB, isiD, D.isTy, D.truth, unD, binD, guardL, ownArg, isOwn, biD, itHot, BI.hot, tgOwn, ownIt, itemsD, seqD, D.noL, e0, e1, h, h7, ownArg]
theorem u18 (h : call false 5 [a, x] = .ok (.bl false)) (h7 : call false 7 [.bl false, .str (L "version")] = refu (L "version")) : (evSs (T22 call) b18 [.val a, .val x, .none, .none]).fin = refu (L "version") := by
  unfold b18
  rw [ss_cons', s18 h h7 rfl rfl]
  rfl
theorem u12a (h : call false 5 [a, x] = .ok (.bl false)) (h7 : call false 7 [.bl false, .str (L "one")] = refu (L "one")) : (evSs (T22 call) b12 [.val a, .val x, .val y]).fin = refu (L "one") := by
  simp [q_var, q_cst, q_bin, q_un, q_and, q_or, q_ife, q_tup, q_lst, q_idx, q_slc, q_call, q_callk, q_bi, q_isi, q_rngL, q_rngO, q_cmp, q_exf, q_exi, q_bv, t_yes, t_and, t_or, t_not, t_of, o_none, o_some, es_nil, es_cons, bs_nil, bs_cons, i_of, i_rng, i_enum, i_zip, i_rev, s_pass', s_set', s_setC', s_setOwn', s_unp', s_app', s_ex', s_ret', s_retO', s_retN', s_ife', s_for', s_whl', s_raise', s_try', s_brk', s_cont', ss_nil', ss_cons', h_nil, h_some, h_none, bor, slotE, slotB, isiD, D.isTy, D.truth, unD, binD, guardL, ownArg, isOwn, biD, itHot, BI.hot, tgOwn, ownIt, itemsD, seqD, D.noL, b12, h, h7]
theorem u12b (h : call false 5 [a, x] = .ok (.bl true)) (h' : call false 5 [a, y] = .ok (.bl false)) (h7 : call false 7 [.bl true, .str (L "one")] = .ok .non) (h7' : call false 7 [.bl false, .str (L "other")] = refu (L "other")) : (evSs (T22 call) b12 [.val a, .val x, .val y]).fin = refu (L "other") := by
  simp [q_var, q_cst, q_bin, q_un, q_and, q_or, q_ife, q_tup, q_lst, q_idx, q_slc, q_call, q_callk, q_bi, q_isi, q_rngL, q_rngO, q_cmp, q_exf, q_exi, q_bv, t_yes, t_and, t_or, t_not, t_of, o_none, o_some, es_nil, es_cons, bs_nil, bs_cons, i_of, i_rng, i_enum, i_zip, i_rev, s_pass', s_set', s_setC', s_setOwn', s_unp', s_app', s_ex', s_ret', s_retO', s_retN', s_ife', s_for', s_whl', s_raise', s_try', s_brk', s_cont', ss_nil', ss_cons', h_nil, h_some, h_none, bor, slotE, slotB, isiD, D.isTy, D.truth, unD, binD, guardL, ownArg, isOwn, biD, itHot, BI.hot, tgOwn, ownIt, itemsD, seqD, D.noL, b12, h, h', h7, h7']
theorem u13a (h : call false 5 [a, x] = .ok (.bl false)) (h7 : call false 7 [.bl false, .str (L "one")] = refu (L "one")) : (evSs (T22 call) b13 [.val a, .val x, .val y, .none, .none, .none]).fin = refu (L "one") := by
  simp [q_var, q_cst, q_bin, q_un, q_and, q_or, q_ife, q_tup, q_lst, q_idx, q_slc, q_call, q_callk, q_bi, q_isi, q_rngL, q_rngO, q_cmp, q_exf, q_exi, q_bv, t_yes, t_and, t_or, t_not, t_of, o_none, o_some, es_nil, es_cons, bs_nil, bs_cons, i_of, i_rng, i_enum, i_zip, i_rev, s_pass', s_set', s_setC', s_setOwn', s_unp', s_app', s_ex', s_ret', s_retO', s_retN', s_ife', s_for', s_whl', s_raise', s_try', s_brk', s_cont', ss_nil', ss_cons', h_nil, h_some, h_none, bor, slotE, slotB, isiD, D.isTy, D.truth, unD, binD, guardL, ownArg, isOwn, biD, itHot, BI.hot, tgOwn, ownIt, itemsD, seqD, D.noL, b13, h, h7]
theorem u13b (h : call false 5 [a, x] = .ok (.bl true)) (h' : call false 5 [a, y] = .ok (.bl false)) (h7 : call false 7 [.bl true, .str (L "one")] = .ok .non) (h7' : call false 7 [.bl false, .str (L "other")] = refu (L "other")) : (evSs (T22 call) b13 [.val a, .val x, .val y, .none, .none, .none]).fin = refu (L "other") := by
  simp [q_var, q_cst, q_bin, q_un, q_and, q_or, q_ife, q_tup, q_lst, q_idx, q_slc, q_call, q_callk, q_bi, q_isi, q_rngL, q_rngO, q_cmp, q_exf, q_exi, q_bv, t_yes, t_and, t_or, t_not, t_of, o_none, o_some, es_nil, es_cons, bs_nil, bs_cons, i_of, i_rng, i_enum, i_zip, i_rev, s_pass', s_set', s_setC', s_setOwn', s_unp', s_app', s_ex', s_ret', s_retO', s_retN', s_ife', s_for', s_whl', s_raise', s_try', s_brk', s_cont', ss_nil', ss_cons', h_nil, h_some, h_none, bor, slotE, slotB, isiD, D.isTy, D.truth, unD, binD, guardL, ownArg, isOwn, biD, itHot, BI.hot, tgOwn, ownIt, itemsD, seqD, D.noL, b13, h, h', h7, h7']
end
section
variable {n : Nat} {t : List Nat} {x y : D}
theorem q7f {m : Nat} (s : List Nat) : P.run (m + 1) false 7 [.bl false, .str s] = refu s := r7 m false s
theorem q7t {m : Nat} (s : List Nat) : P.run (m + 1) false 7 [.bl true, .str s] = .ok .non := r7 m true s
theorem q11 (h : NV t x) : P.run (n + 5) false 11 [hs t, x] = refu (L "version") := by
  rw [run1 (d := ⟨2, 4, b11⟩) rfl rfl]
  exact u11 (q10 h)
theorem q14 (h : NV t x) : P.run (n + 5) false 14 [hs t, x] = refu (L "version") := by
  rw [run1 (d := ⟨2, 2, b14⟩) rfl rfl]
  exact u14 (q10 h)
theorem q17 (h : NV t x) : P.run (n + 5) false 17 [hs t, x] = refu (L "version") := by
  rw [run1 (d := ⟨2, 4, b17⟩) rfl rfl]
  exact u17 (q5 h) (q7f _)
theorem q18 (h : NV t x) : P.run (n + 5) false 18 [hs t, x] = refu (L "version") := by
  rw [run1 (d := ⟨2, 4, b18⟩) rfl rfl]
  exact u18 (q5 h) (q7f _)
theorem q12a (h : NV t x) : P.run (n + 5) false 12 [hs t, x, y] = refu (L "one") := by
  rw [run1 (d := ⟨3, 3, b12⟩) rfl rfl]
  exact u12a (q5 h) (q7f _)
theorem q13a (h : NV t x) : P.run (n + 5) false 13 [hs t, x, y] = refu (L "one") := by
  rw [run1 (d := ⟨3, 6, b13⟩) rfl rfl]
  exact u13a (q5 h) (q7f _)
theorem q12b {v : Nat} (hv : v ≤ t.length) (h : NV t x) : P.run (n + 5) false 12 [hs t, .int v, x] = refu (L "other") := by
  rw [run1 (d := ⟨3, 3, b12⟩) rfl rfl]
  exact u12b (r5_ok (n := n + 1) hv) (q5 h) (q7t _) (q7f _)
theorem q13b {v : Nat} (hv : v ≤ t.length) (h : NV t x) : P.run (n + 5) false 13 [hs t, .int v, x] = refu (L "other") := by
  rw [run1 (d := ⟨3, 6, b13⟩) rfl rfl]
  exact u13b (r5_ok (n := n + 1) hv) (q5 h) (q7t _) (q7f _)
end
/-! ### the law's door -/
/-- which def is called -/
def cw (a x v : D) : Nat → Nat × List D
  | 0 => (9, [a, x])
  | 1 => (10, [a, x])
  | 2 => (11, [a, x])
  | 3 => (14, [a, x])
  | 4 => (17, [a, x])
  | 5 => (18, [a, x])
  | 6 => (12, [a, x, v])
  | 7 => (12, [a, v, x])
  | 8 => (13, [a, x, v])
  | 9 => (13, [a, v, x])
  | 10 => (12, [a, x, x])
  | _ => (13, [a, x, x])
theorem upto12 {p : Nat → Prop} (h : p 0 ∧ p 1 ∧ p 2 ∧ p 3 ∧ p 4 ∧ p 5 ∧ p 6 ∧ p 7 ∧ p 8 ∧ p 9 ∧ p 10 ∧ p 11) : ∀ w < 12, p w := by
  intro w hw
  obtain ⟨h0, h1, h2, h3, h4, h5, h6, h7, h8, h9, h10, h11⟩ := h
  match w, hw with
  | 0, _ => exact h0
  | 1, _ => exact h1
  | 2, _ => exact h2
  | 3, _ => exact h3
  | 4, _ => exact h4
  | 5, _ => exact h5
  | 6, _ => exact h6
  | 7, _ => exact h7
  | 8, _ => exact h8
  | 9, _ => exact h9
  | 10, _ => exact h10
  | 11, _ => exact h11
  | w + 12, h => omega
section
variable {call : Cal} {a x v d : D} {s : List Nat}
theorem body29_ok : ∀ w < 12, call false (cw a x v w).1 (cw a x v w).2 = .ok d → (evSs (T22 call) b29 [.val (.int (w : Nat)), .val a, .val x, .val v, .none]).fin = .ok (.tup [.str (L "let")]) := by
  refine upto12 ⟨?_, ?_, ?_, ?_, ?_, ?_, ?_, ?_, ?_, ?_, ?_, ?_⟩ <;> intro h <;> simp only [cw] at h <;> simp [q_var, q_cst, q_bin, q_un, q_and, q_or, q_ife, q_tup, q_lst, q_idx, q_slc, q_call, q_callk, q_bi, q_isi, q_rngL, q_rngO, q_cmp, q_exf, q_exi, q_bv, t_yes, t_and, t_or, t_not, t_of, o_none, o_some, es_nil, es_cons, bs_nil, bs_cons, i_of, i_rng, i_enum, i_zip, i_rev, s_pass', s_set', s_setC', s_setOwn', s_unp', s_app', s_ex', s_ret', s_retO', s_retN', s_ife', s_for', s_whl', s_raise', s_try', s_brk', s_cont', ss_nil', ss_cons', h_nil, h_some, h_none, bor, slotE, slotB, isiD, D.isTy, D.truth, unD, binD, guardL, ownArg, isOwn, biD, itHot, BI.hot, tgOwn, ownIt, itemsD, seqD, D.noL, b29, D.eqOk, D.dep, D.plain, D.eqv, h]
theorem body29_no : ∀ w < 12, call false (cw a x v w).1 (cw a x v w).2 = refu s → (evSs (T22 call) b29 [.val (.int (w : Nat)), .val a, .val x, .val v, .none]).fin = .ok (.tup [.str s, .int (-1), .bl true, .bl false]) := by
  refine upto12 ⟨?_, ?_, ?_, ?_, ?_, ?_, ?_, ?_, ?_, ?_, ?_, ?_⟩ <;> intro h <;> simp only [cw] at h <;> simp [q_var, q_cst, q_bin, q_un, q_and, q_or, q_ife, q_tup, q_lst, q_idx, q_slc, q_call, q_callk, q_bi, q_isi, q_rngL, q_rngO, q_cmp, q_exf, q_exi, q_bv, t_yes, t_and, t_or, t_not, t_of, o_none, o_some, es_nil, es_cons, bs_nil, bs_cons, i_of, i_rng, i_enum, i_zip, i_rev, s_pass', s_set', s_setC', s_setOwn', s_unp', s_app', s_ex', s_ret', s_retO', s_retN', s_ife', s_for', s_whl', s_raise', s_try', s_brk', s_cont', ss_nil', ss_cons', h_nil, h_some, h_none, bor, slotE, slotB, isiD, D.isTy, D.truth, unD, binD, guardL, ownArg, isOwn, biD, itHot, BI.hot, tgOwn, ownIt, itemsD, seqD, D.noL, b29, D.eqOk, D.dep, D.plain, D.eqv, h, sub44, sub42, sub41, RS.wipe]
end
end Vk02_whole_elders
end
section
set_option Elab.async false
set_option linter.all false
set_option maxRecDepth 100000
set_option maxHeartbeats 2000000
namespace Vk02_whole_elders
open PySem PySem.Spec Ev
theorem forL_rng {tg : Tgt} {body : Rho → RS} {I : Nat → Rho → Prop} (k : Nat) (ρ : Rho) (h : I 0 ρ) (st : ∀ i < k, ∀ ρ : Rho, I i ρ → ∃ ρ1 ρ2, bindT tg (.int ((i : Nat) : Int)) ρ = .ok ρ1 ∧ body ρ1 = .nx ρ2 ∧ I (i + 1) ρ2) : ∃ ρ', forL tg body (nts (List.range k)) ρ = .nx ρ' ∧ I k ρ' := by
  obtain ⟨ρ', e, h'⟩ := forL_ix (tg := tg) (body := body) (I := I) (nts (List.range k)) 0 ρ h (by
    intro i hi ρ hI
    have hi' : i < k := by simpa using hi
    have hd : (nts (List.range k))[i] = .int ((i : Nat) : Int) := by simp
    rw [hd, Nat.zero_add]
    rw [Nat.zero_add] at hI
    exact st i hi' ρ hI)
  exact ⟨ρ', e, by simpa using h'⟩
/-- the name that is told -/
def nmO : Nat → List Nat
  | 7 => L "other"
  | 9 => L "other"
  | 6 => L "one"
  | 8 => L "one"
  | 10 => L "one"
  | 11 => L "one"
  | _ => L "version"
section
variable {n : Nat} {t : List Nat} {x : D}
theorem r29_no (hl : t.length ≤ 900) {v : Nat} (hv : v ≤ t.length) (h : NV t x) : ∀ w < 12, P.run (n + 6) false 29 [.int (w : Nat), hs t, x, .int v] = .ok (.tup [.str (nmO w), .int (-1), .bl true, .bl false]) := by
  intro w hw
  rw [run1 (d := ⟨4, 5, b29⟩) rfl rfl]
  refine body29_no w hw ?_
  revert w hw
  refine upto12 ⟨q9 h, q10 h, q11 h, q14 h, q17 h, q18 h, q12a h, q12b hv h, q13a h, q13b hv h, q12a h, q13a h⟩
theorem r29_ok (hp : Par t) (hl : t.length ≤ 900) {v : Nat} (hv : v ≤ t.length) : ∀ w < 12, (w = 0 → v ≠ 0) → P.run (n + 7) false 29 [.int (w : Nat), hs t, .int v, .int v] = .ok (.tup [.str (L "let")]) := by
  intro w hw h0
  rw [run1 (d := ⟨4, 5, b29⟩) rfl rfl]
  have : ∃ d, P.run (n + 6) false (cw (hs t) (.int v) (.int v) w).1 (cw (hs t) (.int v) (.int v) w).2 = .ok d := by
    revert w hw
    refine upto12 ⟨fun h0 => ⟨_, r9 (n := n + 2) (h0 rfl) hv⟩, fun _ => ⟨_, r10 (n := n + 2) hp hl hv⟩, fun _ => ⟨_, r11 (n := n + 1) hp hl hv⟩, fun _ => ⟨_, r14 (n := n + 1) hp hl hv⟩, fun _ => ⟨_, r17 (n := n + 2) hv⟩, fun _ => ⟨_, r18 (n := n) hp hl hv⟩, fun _ => ⟨_, r12 (n := n + 1) hp hl hv hv⟩, fun _ => ⟨_, r12 (n := n + 1) hp hl hv hv⟩, fun _ => ⟨_, r13 (n := n + 1) hp hl hv hv⟩, fun _ => ⟨_, r13 (n := n + 1) hp hl hv hv⟩, fun _ => ⟨_, r12 (n := n + 1) hp hl hv hv⟩, fun _ => ⟨_, r13 (n := n + 1) hp hl hv hv⟩⟩
  obtain ⟨d, e⟩ := this
  exact body29_ok w hw e
/-- parent_of refuses 0 -/
theorem r29_zero : P.run (n + 6) false 29 [.int 0, hs t, .int 0, x] = .ok (.tup [.str (L "version"), .int (-1), .bl true, .bl false]) := by
  rw [run1 (d := ⟨4, 5, b29⟩) rfl rfl]
  exact body29_no (a := hs t) (x := .int 0) (v := x) (s := L "version") 0 (by omega) (r9_no (n := n + 1) (t := nts t) (x := .int 0) rfl (by simp [isNat]))
end
/-! ### the law's refusals -/
section
variable {call : Cal} {a x v : D}
abbrev nmL : List D := [.str (L "version"), .str (L "version"), .str (L "version"), .str (L "version"), .str (L "version"), .str (L "version"), .str (L "one"), .str (L "other"), .str (L "one"), .str (L "other"), .str (L "one"), .str (L "one")]
theorem nmL_get : ∀ w < 12, getI nmL ((w : Nat) : Int) = .ok (.str (nmO w)) := upto12 ⟨rfl, rfl, rfl, rfl, rfl, rfl, rfl, rfl, rfl, rfl, rfl, rfl⟩
abbrev no4 (w : Nat) : D := .tup [.str (nmO w), .int (-1), .bl true, .bl false]
abbrev let1 : D := .tup [.str (L "let")]
theorem okno (w : Nat) : okS (no4 w) = true := by simp [okS, okSL]
abbrev N1 : CS := (.ife (.not (.of (.call 23 [(.call 29 [(.var 4), (.var 0), (.var 1), (.var 2)]), (.tup [(.idx (.var 3) (.var 4)), (.un .neg (.cst (.int 1))), (.cst (.bl true)), (.cst (.bl false))])]))) [(.ret (.cst (.bl false)))] [])
abbrev N2 : CS := (.ife (.and (.of (.bin .gt (.var 4) (.cst (.int 0)))) (.not (.of (.call 23 [(.call 29 [(.var 4), (.var 0), (.var 2), (.var 2)]), (.tup [(.cst (.str (L "let")))])])))) [(.ret (.cst (.bl false)))] [])
theorem N1_is {w : Nat} {s : List Nat} (g : getI nmL (w : Int) = .ok (.str s)) (h : call false 29 [.int w, a, x, v] = .ok (.tup [.str s, .int (-1), .bl true, .bl false])) (hs : call false 23 [.tup [.str s, .int (-1), .bl true, .bl false], .tup [.str s, .int (-1), .bl true, .bl false]] = .ok (.bl true)) {names : List D} (hn : names = nmL) : evS (T22 call) N1 [.val a, .val x, .val v, .val (.tup names), .val (.int w)] = .nx [.val a, .val x, .val v, .val (.tup names), .val (.int w)] := by
  subst hn
  generalize nmL = names at *
  simp [q_var, q_cst, q_bin, q_un, q_and, q_or, q_ife, q_tup, q_lst, q_idx, q_slc, q_call, q_callk, q_bi, q_isi, q_rngL, q_rngO, q_cmp, q_exf, q_exi, q_bv, t_yes, t_and, t_or, t_not, t_of, o_none, o_some, es_nil, es_cons, bs_nil, bs_cons, i_of, i_rng, i_enum, i_zip, i_rev, s_pass', s_set', s_setC', s_setOwn', s_unp', s_app', s_ex', s_ret', s_retO', s_retN', s_ife', s_for', s_whl', s_raise', s_try', s_brk', s_cont', ss_nil', ss_cons', h_nil, h_some, h_none, bor, slotE, slotB, isiD, D.isTy, D.truth, unD, binD, guardL, ownArg, isOwn, biD, itHot, BI.hot, tgOwn, ownIt, itemsD, seqD, D.noL, h, hs, idxD, g]
theorem N2_is {w : Nat} {names : D} (h : w ≠ 0 → call false 29 [.int w, a, v, v] = .ok let1) (hs : call false 23 [let1, let1] = .ok (.bl true)) : evS (T22 call) N2 [.val a, .val x, .val v, .val names, .val (.int w)] = .nx [.val a, .val x, .val v, .val names, .val (.int w)] := by
  by_cases h0 : w = 0
  · subst h0
    simp [q_var, q_cst, q_bin, q_un, q_and, q_or, q_ife, q_tup, q_lst, q_idx, q_slc, q_call, q_callk, q_bi, q_isi, q_rngL, q_rngO, q_cmp, q_exf, q_exi, q_bv, t_yes, t_and, t_or, t_not, t_of, o_none, o_some, es_nil, es_cons, bs_nil, bs_cons, i_of, i_rng, i_enum, i_zip, i_rev, s_pass', s_set', s_setC', s_setOwn', s_unp', s_app', s_ex', s_ret', s_retO', s_retN', s_ife', s_for', s_whl', s_raise', s_try', s_brk', s_cont', ss_nil', ss_cons', h_nil, h_some, h_none, bor, slotE, slotB, isiD, D.isTy, D.truth, unD, binD, guardL, ownArg, isOwn, biD, itHot, BI.hot, tgOwn, ownIt, itemsD, seqD, D.noL]
  · have p : 0 < w := by omega
    have h := h h0
    simp [q_var, q_cst, q_bin, q_un, q_and, q_or, q_ife, q_tup, q_lst, q_idx, q_slc, q_call, q_callk, q_bi, q_isi, q_rngL, q_rngO, q_cmp, q_exf, q_exi, q_bv, t_yes, t_and, t_or, t_not, t_of, o_none, o_some, es_nil, es_cons, bs_nil, bs_cons, i_of, i_rng, i_enum, i_zip, i_rev, s_pass', s_set', s_setC', s_setOwn', s_unp', s_app', s_ex', s_ret', s_retO', s_retN', s_ife', s_for', s_whl', s_raise', s_try', s_brk', s_cont', ss_nil', ss_cons', h_nil, h_some, h_none, bor, slotE, slotB, isiD, D.isTy, D.truth, unD, binD, guardL, ownArg, isOwn, biD, itHot, BI.hot, tgOwn, ownIt, itemsD, seqD, D.noL, h, hs, p]
abbrev N3 : CS := (.ife (.not (.of (.call 23 [(.call 29 [(.cst (.int 0)), (.var 0), (.cst (.int 0)), (.var 2)]), (.tup [(.cst (.str (L "version"))), (.un .neg (.cst (.int 1))), (.cst (.bl true)), (.cst (.bl false))])]))) [(.ret (.cst (.bl false)))] [])
theorem N3_is {a3 a4 : Slot} (h : call false 29 [.int 0, a, .int 0, v] = .ok (.tup [.str (L "version"), .int (-1), .bl true, .bl false])) (hs : call false 23 [.tup [.str (L "version"), .int (-1), .bl true, .bl false], .tup [.str (L "version"), .int (-1), .bl true, .bl false]] = .ok (.bl true)) : evS (T22 call) N3 [.val a, .val x, .val v, a3, a4] = .nx [.val a, .val x, .val v, a3, a4] := by
  simp [q_var, q_cst, q_bin, q_un, q_and, q_or, q_ife, q_tup, q_lst, q_idx, q_slc, q_call, q_callk, q_bi, q_isi, q_rngL, q_rngO, q_cmp, q_exf, q_exi, q_bv, t_yes, t_and, t_or, t_not, t_of, o_none, o_some, es_nil, es_cons, bs_nil, bs_cons, i_of, i_rng, i_enum, i_zip, i_rev, s_pass', s_set', s_setC', s_setOwn', s_unp', s_app', s_ex', s_ret', s_retO', s_retN', s_ife', s_for', s_whl', s_raise', s_try', s_brk', s_cont', ss_nil', ss_cons', h_nil, h_some, h_none, bor, slotE, slotB, isiD, D.isTy, D.truth, unD, binD, guardL, ownArg, isOwn, biD, itHot, BI.hot, tgOwn, ownIt, itemsD, seqD, D.noL, h, hs]
abbrev N4 : CS := (.ret (.or (.bin .eq (.var 2) (.cst (.int 0))) (.call 23 [(.call 29 [(.cst (.int 0)), (.var 0), (.var 2), (.var 2)]), (.tup [(.cst (.str (L "let")))])])))
theorem N4_is {a3 a4 : Slot} {w : Nat} (h : w ≠ 0 → call false 29 [.int 0, a, .int w, .int w] = .ok let1) (hs : call false 23 [let1, let1] = .ok (.bl true)) : evS (T22 call) N4 [.val a, .val x, .val (.int w), a3, a4] = .ret (.bl true) := by
  by_cases h0 : w = 0
  · subst h0
    simp [q_var, q_cst, q_bin, q_un, q_and, q_or, q_ife, q_tup, q_lst, q_idx, q_slc, q_call, q_callk, q_bi, q_isi, q_rngL, q_rngO, q_cmp, q_exf, q_exi, q_bv, t_yes, t_and, t_or, t_not, t_of, o_none, o_some, es_nil, es_cons, bs_nil, bs_cons, i_of, i_rng, i_enum, i_zip, i_rev, s_pass', s_set', s_setC', s_setOwn', s_unp', s_app', s_ex', s_ret', s_retO', s_retN', s_ife', s_for', s_whl', s_raise', s_try', s_brk', s_cont', ss_nil', ss_cons', h_nil, h_some, h_none, bor, slotE, slotB, isiD, D.isTy, D.truth, unD, binD, guardL, ownArg, isOwn, biD, itHot, BI.hot, tgOwn, ownIt, itemsD, seqD, D.noL, D.eqOk, D.dep, D.plain, D.eqv]
  · have h := h h0
    simp [q_var, q_cst, q_bin, q_un, q_and, q_or, q_ife, q_tup, q_lst, q_idx, q_slc, q_call, q_callk, q_bi, q_isi, q_rngL, q_rngO, q_cmp, q_exf, q_exi, q_bv, t_yes, t_and, t_or, t_not, t_of, o_none, o_some, es_nil, es_cons, bs_nil, bs_cons, i_of, i_rng, i_enum, i_zip, i_rev, s_pass', s_set', s_setC', s_setOwn', s_unp', s_app', s_ex', s_ret', s_retO', s_retN', s_ife', s_for', s_whl', s_raise', s_try', s_brk', s_cont', ss_nil', ss_cons', h_nil, h_some, h_none, bor, slotE, slotB, isiD, D.isTy, D.truth, unD, binD, guardL, ownArg, isOwn, biD, itHot, BI.hot, tgOwn, ownIt, itemsD, seqD, D.noL, h, hs, D.eqOk, D.dep, D.plain, D.eqv, h0]
abbrev N0 : CS := (.set 3 (.bin .add (.bin .mul (.tup [(.cst (.str (L "version")))]) (.cst (.int 6))) (.tup [(.cst (.str (L "one"))), (.cst (.str (L "other"))), (.cst (.str (L "one"))), (.cst (.str (L "other"))), (.cst (.str (L "one"))), (.cst (.str (L "one")))])))
theorem N0_is : evS (T22 call) N0 [.val a, .val x, .val v, .none, .none] = .nx [.val a, .val x, .val v, .val (.tup nmL), .none] := by
  simp [q_var, q_cst, q_bin, q_un, q_and, q_or, q_ife, q_tup, q_lst, q_idx, q_slc, q_call, q_callk, q_bi, q_isi, q_rngL, q_rngO, q_cmp, q_exf, q_exi, q_bv, t_yes, t_and, t_or, t_not, t_of, o_none, o_some, es_nil, es_cons, bs_nil, bs_cons, i_of, i_rng, i_enum, i_zip, i_rev, s_pass', s_set', s_setC', s_setOwn', s_unp', s_app', s_ex', s_ret', s_retO', s_retN', s_ife', s_for', s_whl', s_raise', s_try', s_brk', s_cont', ss_nil', ss_cons', h_nil, h_some, h_none, bor, slotE, slotB, isiD, D.isTy, D.truth, unD, binD, guardL, ownArg, isOwn, biD, itHot, BI.hot, tgOwn, ownIt, itemsD, seqD, D.noL, repL, List.replicate]
end
theorem body30 {call : Cal} {a x : D} {v : Nat} (h1 : ∀ w < 12, call false 29 [.int (w : Nat), a, x, .int v] = .ok (no4 w)) (h2 : ∀ w < 12, (w = 0 → v ≠ 0) → call false 29 [.int (w : Nat), a, .int v, .int v] = .ok let1) (h3 : call false 29 [.int 0, a, .int 0, .int v] = .ok (no4 0))
    (s1 : ∀ w, call false 23 [no4 w, no4 w] = .ok (.bl true)) (s2 : call false 23 [let1, let1] = .ok (.bl true)) : (evSs (T22 call) b30 [.val a, .val x, .val (.int v), .none, .none]).fin = .ok (.bl true) := by
  obtain ⟨ρ', e, a4, rfl⟩ := forL_rng (tg := .nm 4) (body := evSs (T22 call) [N1, N2]) (I := fun _ ρ => ∃ a4, ρ = [.val a, .val x, .val (.int v), .val (.tup nmL), a4]) 12 _ ⟨.none, rfl⟩ (by
    intro i hi' ρ hI
    obtain ⟨a4, rfl⟩ := hI
    refine ⟨[.val a, .val x, .val (.int v), .val (.tup nmL), .val (.int (i : Nat))], [.val a, .val x, .val (.int v), .val (.tup nmL), .val (.int (i : Nat))], rfl, ?_, _, rfl⟩
    rw [ss_cons', N1_is (nmL_get i hi') (h1 i hi') (s1 i) rfl, nx_to, N2_is (fun h0 => h2 i hi' fun e => absurd e h0) s2, nx_end])
  have src : evI (T22 call) (.rng (.cst (.int 0)) (.cst (.int 12))) [.val a, .val x, .val (.int v), .val (.tup nmL), .none] = .ok (nts (List.range 12)) := i_rng0 (k := 12) q_cst (by omega)
  have fo : evS (T22 call) (.for (.nm 4) (.rng (.cst (.int 0)) (.cst (.int 12))) [N1, N2]) [.val a, .val x, .val (.int v), .val (.tup nmL), .none] = .nx [.val a, .val x, .val (.int v), .val (.tup nmL), a4] := by
    rw [s_for', src, ok_on, e]
    rfl
  unfold b30
  rw [ss_cons', N0_is, nx_to, fo, nx_to, N3_is h3 (s1 0), nx_to, N4_is (fun h0 => h2 0 (by omega) fun _ => h0) s2]
  rfl
theorem r30 {n : Nat} {t : List Nat} {x : D} (hp : Par t) (hl : t.length ≤ 900) {v : Nat} (hv : v ≤ t.length) (h : NV t x) : P.run (n + 8) false 30 [hs t, x, .int v] = .ok (.bl true) := by
  rw [run1 (d := ⟨3, 5, b30⟩) rfl rfl]
  exact body30 (r29_no (n := n + 1) hl hv h) (r29_ok (n := n) hp hl hv) (r29_zero (n := n + 1)) (fun w => same (by simp [D.dep, D.depL]) (okno w)) (same (by simp [D.dep, D.depL]) rfl)
end Vk02_whole_elders
end
section
set_option Elab.async false
set_option linter.all false
set_option maxRecDepth 100000
set_option maxHeartbeats 2000000
namespace Vk02_whole_elders
open PySem PySem.Spec Ev
/-! ### lists -/
theorem eld_lt {t : List Nat} (h : Par t) : ∀ v, v ≤ t.length → ∀ x ∈ eld t v, x < v := by
  intro v
  induction v using Nat.strongRecOn with
  | _ v ih =>
    intro hv x hx
    by_cases h0 : v = 0
    · subst h0; simp [eld_zero] at hx
    · have lt := par_lt h h0 hv
      rw [eld_succ h h0 hv] at hx
      rcases List.mem_cons.mp hx with rfl | hx
      · exact lt
      · have := ih _ lt (by omega) x hx
        omega
theorem br_eq {t : List Nat} (h : Par t) {v : Nat} (hv : v ≤ t.length) : (List.range (t.length + 1)).filter (fun z => decide (z = v) || decide (v ∈ eld t z)) = v :: (List.range' (v + 1) (t.length - v)).filter fun z => decide (v ∈ eld t z) := by
  have e : List.range (t.length + 1) = List.range' 0 v ++ v :: List.range' (v + 1) (t.length - v) := by
    rw [List.range_eq_range', show t.length + 1 = v + (t.length - v + 1) by omega, ← List.range'_append_1]
    congr 1
    rw [Nat.zero_add, List.range'_succ]
  rw [e, List.filter_append]
  have z1 : (List.range' 0 v).filter (fun z => decide (z = v) || decide (v ∈ eld t z)) = [] := by
    rw [List.filter_eq_nil_iff]
    intro z hz
    have hz' := List.mem_range'.mp hz
    have lt : z < v := by omega
    have : v ∉ eld t z := fun hm => by have := eld_lt h z (by omega) v hm; omega
    simp [this]
    omega
  rw [z1, List.nil_append, List.filter_cons]
  simp
  apply List.filter_congr
  intro z hz
  have hz' := List.mem_range'.mp hz
  have : z ≠ v := by omega
  simp [this]
theorem zip_eq (t : List Nat) : t.zipIdx = (List.range t.length).map fun i => (t.getD i 0, i) := by
  apply List.ext_getElem
  · simp
  · intro i h1 h2
    have h3 : i < t.length := by simpa using h1
    simp [h3]
theorem kids_eq (t : List Nat) (v : Nat) : kids t v = (List.range' 1 t.length).filter fun z => decide (t.getD (z - 1) 0 = v) := by
  unfold kids
  rw [zip_eq, List.range'_eq_map_range, List.filter_map, List.filter_map, List.map_map]
  have e : (fun z => decide (t.getD (z - 1) 0 = v)) ∘ (fun x => 1 + x) = fun x => decide (t.getD x 0 = v) := by
    funext x
    simp only [Function.comp_apply]
    rw [show 1 + x - 1 = x by omega]
  rw [e]
  apply List.map_congr_left
  intro i _
  simp only [Function.comp_apply]
  omega
theorem isinL_nts (l : List Nat) (v : Nat) : inD false (.int (v : Int)) (.lst (nts l)) = .ok (.bl (decide (v ∈ l))) := by
  simp only [inD, D.flat, flat_nts, Bool.true_and, if_true, any_nts]
  simp
theorem notinL_nts (l : List Nat) (v : Nat) : inD true (.int (v : Int)) (.lst (nts l)) = .ok (.bl (!decide (v ∈ l))) := by
  simp only [inD, D.flat, flat_nts, Bool.true_and, if_true, any_nts]
  simp
/-! ### version -/
section
variable {call : Cal} {t : List Nat} {v : Nat} {a3 a4 a5 a6 a7 : Slot}
abbrev ups (t : List Nat) : D := .lst (upsL t (t.length + 1))
theorem ups_len (t : List Nat) : (upsL t (t.length + 1)).length = t.length + 1 := by simp
abbrev cU1 : CE := (.cmp (.nm 8) (.rng (.cst (.int 0)) (.bi .len [(.var 1)])) (.or (.of (.bin .eq (.var 8) (.var 2))) (.of (.bin .isin (.var 2) (.idx (.var 1) (.var 8))))) (.var 8))
theorem turnU1 {T : Tb} {U es : List D} {v z : Nat} {b : Bool} (g : getI U (z : Int) = .ok (.lst es)) (hi : inD false (.int (v : Int)) (.lst es) = .ok (.bl b)) {ρ : Rho} (e1 : ρ[1]? = some (.val (.lst U))) (e2 : ρ[2]? = some (.val (.int v))) (l : ρ.length = 9) : turnQ T (.nm 8) (.or (.of (.bin .eq (.var 8) (.var 2))) (.of (.bin .isin (.var 2) (.idx (.var 1) (.var 8))))) (.var 8) ρ (.int z) = .ok (if (decide (z = v) || b) then some (.int z) else none) := by
  have e8 : (ρ.set 8 (.val (.int z)))[8]? = some (.val (.int z)) := by simp [l]
  have e1' : (ρ.set 8 (.val (.int z)))[1]? = some (.val (.lst U)) := by rw [List.getElem?_set_ne (by omega)]; exact e1
  have e2' : (ρ.set 8 (.val (.int z)))[2]? = some (.val (.int v)) := by rw [List.getElem?_set_ne (by omega)]; exact e2
  unfold turnQ
  simp only [bindT, ok_bind]
  generalize ρ.set 8 (.val (.int z)) = ρ at *
  simp [q_var, q_cst, q_bin, q_un, q_and, q_or, q_ife, q_tup, q_lst, q_idx, q_slc, q_call, q_callk, q_bi, q_isi, q_rngL, q_rngO, q_cmp, q_exf, q_exi, q_bv, t_yes, t_and, t_or, t_not, t_of, o_none, o_some, es_nil, es_cons, bs_nil, bs_cons, i_of, i_rng, i_enum, i_zip, i_rev, s_pass', s_set', s_setC', s_setOwn', s_unp', s_app', s_ex', s_ret', s_retO', s_retN', s_ife', s_for', s_whl', s_raise', s_try', s_brk', s_cont', ss_nil', ss_cons', h_nil, h_some, h_none, bor, slotE, slotB, isiD, D.isTy, D.truth, unD, binD, guardL, ownArg, isOwn, biD, itHot, BI.hot, tgOwn, ownIt, itemsD, seqD, D.noL, e8, e1', e2', idxD, g, hi, D.eqOk, D.dep, D.plain, D.eqv]
  by_cases h : z = v
  · simp [h]
  · have hz : ¬ ((z : Int) = (v : Int)) := by omega
    cases b <;> simp [h, hz]
abbrev R31 (t : List Nat) (v : Nat) (b : Bool) (a4 a5 a6 a7 : Slot) : Rho := [.val (hs t), .val (ups t), .val (.int v), .val (.bl b), a4, a5, a6, a7, .none]
abbrev brs (t : List Nat) (v : Nat) : List Nat := (List.range (t.length + 1)).filter (fun z => decide (z = v) || decide (v ∈ eld t z))
variable {b : Bool}
theorem cU1_is (hl : t.length ≤ 900) : evE (T22 call) cU1 (R31 t v b a4 a5 a6 a7) = .ok (.lst (nts (brs t v))) := by
  have src : evI (T22 call) (.rng (.cst (.int 0)) (.bi .len [(.var 1)])) (R31 t v b a4 a5 a6 a7) = .ok (nts (List.range (t.length + 1))) := by
    refine i_rng0 ?_ (by omega)
    simp [q_var, q_cst, q_bin, q_un, q_and, q_or, q_ife, q_tup, q_lst, q_idx, q_slc, q_call, q_callk, q_bi, q_isi, q_rngL, q_rngO, q_cmp, q_exf, q_exi, q_bv, t_yes, t_and, t_or, t_not, t_of, o_none, o_some, es_nil, es_cons, bs_nil, bs_cons, i_of, i_rng, i_enum, i_zip, i_rev, s_pass', s_set', s_setC', s_setOwn', s_unp', s_app', s_ex', s_ret', s_retO', s_retN', s_ife', s_for', s_whl', s_raise', s_try', s_brk', s_cont', ss_nil', ss_cons', h_nil, h_some, h_none, bor, slotE, slotB, isiD, D.isTy, D.truth, unD, binD, guardL, ownArg, isOwn, biD, itHot, BI.hot, tgOwn, ownIt, itemsD, seqD, D.noL]
  have cl : compL (turnQ (T22 call) (.nm 8) (.or (.of (.bin .eq (.var 8) (.var 2))) (.of (.bin .isin (.var 2) (.idx (.var 1) (.var 8))))) (.var 8) (R31 t v b a4 a5 a6 a7)) (nts (List.range (t.length + 1))) = .ok (nts (brs t v)) := by
    refine compL_im ?_
    intro z hz
    exact turnU1 (upsL_get (List.mem_range.mp hz)) (isinL_nts _ _) rfl rfl rfl
  rw [q_cmp, src, ok_bind, cl]
  rfl
abbrev cU2 : CE := (.cmp (.nm 8) (.rng (.cst (.int 1)) (.bi .len [(.var 1)])) (.of (.bin .eq (.idx (.var 0) (.bin .sub (.var 8) (.cst (.int 1)))) (.var 2))) (.var 8))
theorem turnU2 {T : Tb} {U : List D} {v z p : Nat} (h1 : 1 ≤ z) (g : getI U ((z - 1 : Nat) : Int) = .ok (.int (p : Int))) {ρ : Rho} (e0 : ρ[0]? = some (.val (.tup U))) (e2 : ρ[2]? = some (.val (.int v))) (l : ρ.length = 9) : turnQ T (.nm 8) (.of (.bin .eq (.idx (.var 0) (.bin .sub (.var 8) (.cst (.int 1)))) (.var 2))) (.var 8) ρ (.int z) = .ok (if decide (p = v) then some (.int z) else none) := by
  have e8 : (ρ.set 8 (.val (.int z)))[8]? = some (.val (.int z)) := by simp [l]
  have e0' : (ρ.set 8 (.val (.int z)))[0]? = some (.val (.tup U)) := by rw [List.getElem?_set_ne (by omega)]; exact e0
  have e2' : (ρ.set 8 (.val (.int z)))[2]? = some (.val (.int v)) := by rw [List.getElem?_set_ne (by omega)]; exact e2
  have ez : (z : Int) - 1 = ((z - 1 : Nat) : Int) := by omega
  unfold turnQ
  simp only [bindT, ok_bind]
  generalize ρ.set 8 (.val (.int z)) = ρ at *
  simp [q_var, q_cst, q_bin, q_un, q_and, q_or, q_ife, q_tup, q_lst, q_idx, q_slc, q_call, q_callk, q_bi, q_isi, q_rngL, q_rngO, q_cmp, q_exf, q_exi, q_bv, t_yes, t_and, t_or, t_not, t_of, o_none, o_some, es_nil, es_cons, bs_nil, bs_cons, i_of, i_rng, i_enum, i_zip, i_rev, s_pass', s_set', s_setC', s_setOwn', s_unp', s_app', s_ex', s_ret', s_retO', s_retN', s_ife', s_for', s_whl', s_raise', s_try', s_brk', s_cont', ss_nil', ss_cons', h_nil, h_some, h_none, bor, slotE, slotB, isiD, D.isTy, D.truth, unD, binD, guardL, ownArg, isOwn, biD, itHot, BI.hot, tgOwn, ownIt, itemsD, seqD, D.noL, e8, e0', e2', idxD, ez, g, D.eqOk, D.dep, D.plain, D.eqv]
  by_cases h : p = v
  · simp [h]
  · have hz : ¬ ((p : Int) = (v : Int)) := by omega
    simp [h, hz]
theorem cU2_is (hl : t.length ≤ 900) : evE (T22 call) cU2 (R31 t v b a4 a5 a6 a7) = .ok (.lst (nts (kids t v))) := by
  have el : evE (T22 call) (.bi .len [(.var 1)]) (R31 t v b a4 a5 a6 a7) = .ok (.int ((t.length + 1 : Nat) : Int)) := by
    simp [q_var, q_cst, q_bin, q_un, q_and, q_or, q_ife, q_tup, q_lst, q_idx, q_slc, q_call, q_callk, q_bi, q_isi, q_rngL, q_rngO, q_cmp, q_exf, q_exi, q_bv, t_yes, t_and, t_or, t_not, t_of, o_none, o_some, es_nil, es_cons, bs_nil, bs_cons, i_of, i_rng, i_enum, i_zip, i_rev, s_pass', s_set', s_setC', s_setOwn', s_unp', s_app', s_ex', s_ret', s_retO', s_retN', s_ife', s_for', s_whl', s_raise', s_try', s_brk', s_cont', ss_nil', ss_cons', h_nil, h_some, h_none, bor, slotE, slotB, isiD, D.isTy, D.truth, unD, binD, guardL, ownArg, isOwn, biD, itHot, BI.hot, tgOwn, ownIt, itemsD, seqD, D.noL]
  have src : evI (T22 call) (.rng (.cst (.int 1)) (.bi .len [(.var 1)])) (R31 t v b a4 a5 a6 a7) = .ok (nts (List.range' 1 (t.length + 1 - 1))) := i_rngN (a := 1) (b := t.length + 1) q_cst el (by omega) (by omega)
  rw [Nat.add_sub_cancel] at src
  have cl : compL (turnQ (T22 call) (.nm 8) (.of (.bin .eq (.idx (.var 0) (.bin .sub (.var 8) (.cst (.int 1)))) (.var 2))) (.var 8) (R31 t v b a4 a5 a6 a7)) (nts (List.range' 1 t.length)) = .ok (nts ((List.range' 1 t.length).filter fun z => decide (t.getD (z - 1) 0 = v))) := by
    refine compL_im ?_
    intro z hz
    have hz' := List.mem_range'.mp hz
    exact turnU2 (by omega) (getI_hs (by omega)) rfl rfl rfl
  rw [q_cmp, src, ok_bind, cl, kids_eq]
  rfl
abbrev cU3 : CE := (.cmp (.nm 8) (.of (.bin .add (.lst [(.var 2)]) (.idx (.var 1) (.var 2)))) (.of (.bin .gt (.var 8) (.cst (.int 0)))) (.var 8))
theorem srcU3 {T : Tb} {U es : List D} {v : Nat} (g : getI U (v : Int) = .ok (.lst es)) (hl : 1 + es.length ≤ 16777216) {ρ : Rho} (e1 : ρ[1]? = some (.val (.lst U))) (e2 : ρ[2]? = some (.val (.int v))) : evI T (.of (.bin .add (.lst [(.var 2)]) (.idx (.var 1) (.var 2)))) ρ = .ok (.int v :: es) := by
  simp [q_var, q_cst, q_bin, q_un, q_and, q_or, q_ife, q_tup, q_lst, q_idx, q_slc, q_call, q_callk, q_bi, q_isi, q_rngL, q_rngO, q_cmp, q_exf, q_exi, q_bv, t_yes, t_and, t_or, t_not, t_of, o_none, o_some, es_nil, es_cons, bs_nil, bs_cons, i_of, i_rng, i_enum, i_zip, i_rev, s_pass', s_set', s_setC', s_setOwn', s_unp', s_app', s_ex', s_ret', s_retO', s_retN', s_ife', s_for', s_whl', s_raise', s_try', s_brk', s_cont', ss_nil', ss_cons', h_nil, h_some, h_none, bor, slotE, slotB, isiD, D.isTy, D.truth, unD, binD, guardL, ownArg, isOwn, biD, itHot, BI.hot, tgOwn, ownIt, itemsD, seqD, D.noL, e1, e2, idxD, g, hl]
theorem turnU3 {T : Tb} {z : Nat} {ρ : Rho} (l : ρ.length = 9) : turnQ T (.nm 8) (.of (.bin .gt (.var 8) (.cst (.int 0)))) (.var 8) ρ (.int z) = .ok (if decide (0 < z) then some (.int z) else none) := by
  have e8 : (ρ.set 8 (.val (.int z)))[8]? = some (.val (.int z)) := by simp [l]
  unfold turnQ
  simp only [bindT, ok_bind]
  generalize ρ.set 8 (.val (.int z)) = ρ at *
  simp [q_var, q_cst, q_bin, q_un, q_and, q_or, q_ife, q_tup, q_lst, q_idx, q_slc, q_call, q_callk, q_bi, q_isi, q_rngL, q_rngO, q_cmp, q_exf, q_exi, q_bv, t_yes, t_and, t_or, t_not, t_of, o_none, o_some, es_nil, es_cons, bs_nil, bs_cons, i_of, i_rng, i_enum, i_zip, i_rev, s_pass', s_set', s_setC', s_setOwn', s_unp', s_app', s_ex', s_ret', s_retO', s_retN', s_ife', s_for', s_whl', s_raise', s_try', s_brk', s_cont', ss_nil', ss_cons', h_nil, h_some, h_none, bor, slotE, slotB, isiD, D.isTy, D.truth, unD, binD, guardL, ownArg, isOwn, biD, itHot, BI.hot, tgOwn, ownIt, itemsD, seqD, D.noL, e8]
theorem sorted_nts (l : List Nat) : biD .sorted [.lst (nts l)] = .ok (.lst ((sortI (l.map fun x => ((x : Nat) : Int))).map .int)) := by
  simp only [biD, intsD_nts]
theorem cU3_is (h : Par t) (hl : t.length ≤ 900) (hv : v ≤ t.length) : evE (T22 call) cU3 (R31 t v b a4 a5 a6 a7) = .ok (.lst (nts ((v :: eld t v).filter fun x => decide (0 < x)))) := by
  have le := eld_len h v hv
  have src : evI (T22 call) (.of (.bin .add (.lst [(.var 2)]) (.idx (.var 1) (.var 2)))) (R31 t v b a4 a5 a6 a7) = .ok (nts (v :: eld t v)) := srcU3 (upsL_get (by omega)) (by simp; omega) rfl rfl
  have cl : compL (turnQ (T22 call) (.nm 8) (.of (.bin .gt (.var 8) (.cst (.int 0)))) (.var 8) (R31 t v b a4 a5 a6 a7)) (nts (v :: eld t v)) = .ok (nts ((v :: eld t v).filter fun x => decide (0 < x))) := by
    refine compL_im ?_
    intro z hz
    exact turnU3 rfl
  rw [q_cmp, src, ok_bind, cl]
  rfl
theorem U3_is (h : Par t) (hl : t.length ≤ 900) (hv : v ≤ t.length) : evE (T22 call) (.bi .tuple [(.bi .sorted [cU3])]) (R31 t v b a4 a5 a6 a7) = .ok (.tup ((pth t v).map .int)) := by
  have e : evE (T22 call) (.bi .sorted [cU3]) (R31 t v b a4 a5 a6 a7) = .ok (.lst ((pth t v).map .int)) := by
    rw [q_bi, bs_cons]
    simp only [bor, cU3_is h hl hv, bs_nil, ok_bind, pure_ok, sorted_nts, Bool.false_and, Bool.false_eq_true, if_false]
    rfl
  rw [q_bi, bs_cons]
  simp only [bor, e, bs_nil, ok_bind, pure_ok, Bool.false_and, Bool.false_eq_true, if_false]
  rfl
end
/-! ### the rest of version -/
section
variable {call : Cal} {a u br ch pa : D} {v : Nat} {b : Bool}
abbrev Q31 (a u : D) (v : Nat) (b : Bool) (br ch pa : D) (g : Slot) : Rho := [.val a, .val u, .val (.int v), .val (.bl b), .val br, .val ch, .val pa, g, .none]
abbrev U4 : CS := (.ife (.of (.var 3)) [(.set 7 (.tup [(.callk 10 [] [(.var 2), (.var 0)] [1, 0]), (.callk 11 [] [(.var 2), (.var 0)] [1, 0]), (.callk 14 [] [(.var 2), (.var 0)] [1, 0]), (.callk 17 [] [(.var 2), (.var 0)] [1, 0]), (.callk 18 [] [(.var 2), (.var 0)] [1, 0])]))] [(.set 7 (.tup [(.call 10 [(.var 0), (.var 2)]), (.call 11 [(.var 0), (.var 2)]), (.call 14 [(.var 0), (.var 2)]), (.call 17 [(.var 0), (.var 2)]), (.call 18 [(.var 0), (.var 2)])]))])
theorem U4_is {g : Slot} {d1 d2 d3 d4 d5 : D} (h1 : call false 10 [a, .int v] = .ok d1) (h2 : call false 11 [a, .int v] = .ok d2) (h3 : call false 14 [a, .int v] = .ok d3) (h4 : call false 17 [a, .int v] = .ok d4) (h5 : call false 18 [a, .int v] = .ok d5) : evS (T22 call) U4 (Q31 a u v b br ch pa g) = .nx (Q31 a u v b br ch pa (.val (.tup [d1, d2, d3, d4, d5]))) := by
  cases b <;> simp [q_var, q_cst, q_bin, q_un, q_and, q_or, q_ife, q_tup, q_lst, q_idx, q_slc, q_call, q_callk, q_bi, q_isi, q_rngL, q_rngO, q_cmp, q_exf, q_exi, q_bv, t_yes, t_and, t_or, t_not, t_of, o_none, o_some, es_nil, es_cons, bs_nil, bs_cons, i_of, i_rng, i_enum, i_zip, i_rev, s_pass', s_set', s_setC', s_setOwn', s_unp', s_app', s_ex', s_ret', s_retO', s_retN', s_ife', s_for', s_whl', s_raise', s_try', s_brk', s_cont', ss_nil', ss_cons', h_nil, h_some, h_none, bor, slotE, slotB, isiD, D.isTy, D.truth, unD, binD, guardL, ownArg, isOwn, biD, itHot, BI.hot, tgOwn, ownIt, itemsD, seqD, D.noL, h1, h2, h3, h4, h5, pick]
abbrev U5 : CS := (.ife (.not (.of (.call 23 [(.var 7), (.tup [(.bi .tuple [(.idx (.var 1) (.var 2))]), (.var 6), (.bi .len [(.idx (.var 1) (.var 2))]), (.var 5), (.var 4)])]))) [(.ret (.cst (.bl false)))] [])
theorem U5_is {g : D} {U es : List D} (hg : getI U (v : Int) = .ok (.lst es)) (hs : call false 23 [g, .tup [.tup es, pa, .int es.length, ch, br]] = .ok (.bl true)) : evS (T22 call) U5 (Q31 a (.lst U) v b br ch pa (.val g)) = .nx (Q31 a (.lst U) v b br ch pa (.val g)) := by
  simp [q_var, q_cst, q_bin, q_un, q_and, q_or, q_ife, q_tup, q_lst, q_idx, q_slc, q_call, q_callk, q_bi, q_isi, q_rngL, q_rngO, q_cmp, q_exf, q_exi, q_bv, t_yes, t_and, t_or, t_not, t_of, o_none, o_some, es_nil, es_cons, bs_nil, bs_cons, i_of, i_rng, i_enum, i_zip, i_rev, s_pass', s_set', s_setC', s_setOwn', s_unp', s_app', s_ex', s_ret', s_retO', s_retN', s_ife', s_for', s_whl', s_raise', s_try', s_brk', s_cont', ss_nil', ss_cons', h_nil, h_some, h_none, bor, slotE, slotB, isiD, D.isTy, D.truth, unD, binD, guardL, ownArg, isOwn, biD, itHot, BI.hot, tgOwn, ownIt, itemsD, seqD, D.noL, idxD, hg, hs]
abbrev U6 : CS := (.ife (.and (.of (.bin .gt (.var 2) (.cst (.int 0)))) (.of (.var 3))) [(.ret (.call 23 [(.callk 9 [] [(.var 2), (.var 0)] [1, 0]), (.idx (.idx (.var 1) (.var 2)) (.cst (.int 0)))]))] [])
abbrev U7 : CS := (.ret (.or (.bin .eq (.var 2) (.cst (.int 0))) (.call 23 [(.call 9 [(.var 0), (.var 2)]), (.idx (.idx (.var 1) (.var 2)) (.cst (.int 0)))])))
theorem U67_is {g : D} {U es : List D} {p : D} (hg : getI U (v : Int) = .ok (.lst es)) (he : v ≠ 0 → getI es 0 = .ok p) (h9 : v ≠ 0 → call false 9 [a, .int v] = .ok p) (hs : call false 23 [p, p] = .ok (.bl true)) : evSs (T22 call) [U6, U7] (Q31 a (.lst U) v b br ch pa (.val g)) = .ret (.bl true) := by
  by_cases h0 : v = 0
  · subst h0
    simp [q_var, q_cst, q_bin, q_un, q_and, q_or, q_ife, q_tup, q_lst, q_idx, q_slc, q_call, q_callk, q_bi, q_isi, q_rngL, q_rngO, q_cmp, q_exf, q_exi, q_bv, t_yes, t_and, t_or, t_not, t_of, o_none, o_some, es_nil, es_cons, bs_nil, bs_cons, i_of, i_rng, i_enum, i_zip, i_rev, s_pass', s_set', s_setC', s_setOwn', s_unp', s_app', s_ex', s_ret', s_retO', s_retN', s_ife', s_for', s_whl', s_raise', s_try', s_brk', s_cont', ss_nil', ss_cons', h_nil, h_some, h_none, bor, slotE, slotB, isiD, D.isTy, D.truth, unD, binD, guardL, ownArg, isOwn, biD, itHot, BI.hot, tgOwn, ownIt, itemsD, seqD, D.noL, D.eqOk, D.dep, D.plain, D.eqv]
  · have he := he h0
    have h9 := h9 h0
    have hp : 0 < v := by omega
    cases b <;> simp [q_var, q_cst, q_bin, q_un, q_and, q_or, q_ife, q_tup, q_lst, q_idx, q_slc, q_call, q_callk, q_bi, q_isi, q_rngL, q_rngO, q_cmp, q_exf, q_exi, q_bv, t_yes, t_and, t_or, t_not, t_of, o_none, o_some, es_nil, es_cons, bs_nil, bs_cons, i_of, i_rng, i_enum, i_zip, i_rev, s_pass', s_set', s_setC', s_setOwn', s_unp', s_app', s_ex', s_ret', s_retO', s_retN', s_ife', s_for', s_whl', s_raise', s_try', s_brk', s_cont', ss_nil', ss_cons', h_nil, h_some, h_none, bor, slotE, slotB, isiD, D.isTy, D.truth, unD, binD, guardL, ownArg, isOwn, biD, itHot, BI.hot, tgOwn, ownIt, itemsD, seqD, D.noL, idxD, hg, he, h9, hs, hp, h0, pick, D.eqOk, D.dep, D.plain, D.eqv]
end
end Vk02_whole_elders
end
section
set_option Elab.async false
set_option linter.all false
set_option maxRecDepth 100000
set_option maxHeartbeats 2000000
namespace Vk02_whole_elders
open PySem PySem.Spec Ev
theorem okS_ints (l : List Int) : okSL (l.map .int) = true := okSL_of fun x hx => by
  obtain ⟨i, _, rfl⟩ := List.mem_map.mp hx
  rfl
theorem okS_nts {l : List Nat} (h : l.length ≤ 1000) : okS (.tup (nts l)) = true := by
  simp only [okS, Bool.and_eq_true, decide_eq_true_eq]
  refine ⟨by simpa using h, okSL_of fun x hx => ?_⟩
  obtain ⟨i, _, rfl⟩ := List.mem_map.mp hx
  rfl
theorem dep_ints (l : List Int) : D.depL (l.map .int) = 0 := by
  induction l with
  | nil => rfl
  | cons x l ih => simp only [List.map_cons, D.depL, D.dep, ih]; rfl
theorem sortI_len : ∀ l : List Int, (sortI l).length = l.length
  | [] => rfl
  | x :: l => by
    have ins : ∀ (x : Int) (l : List Int), (insI x l).length = l.length + 1 := fun x l => by
      induction l with
      | nil => rfl
      | cons y l ih => simp only [insI]; split <;> simp [ih]
    simp only [sortI, ins, sortI_len l, List.length_cons]
theorem pth_len {t : List Nat} (h : Par t) {v : Nat} (hv : v ≤ t.length) : (pth t v).length ≤ v + 1 := by
  unfold pth
  rw [sortI_len, List.length_map]
  have := List.length_filter_le (fun x => decide (0 < x)) (v :: eld t v)
  have := eld_len h v hv
  simp only [List.length_cons] at *
  omega
theorem brs_len (t : List Nat) (v : Nat) : (brs t v).length ≤ t.length + 1 := by
  have := List.length_filter_le (fun z => decide (z = v) || decide (v ∈ eld t z)) (List.range (t.length + 1))
  simpa using this
theorem kids_len (t : List Nat) (v : Nat) : (kids t v).length ≤ t.length := by
  rw [kids_eq]
  have := List.length_filter_le (fun z => decide (t.getD (z - 1) 0 = v)) (List.range' 1 t.length)
  simpa using this
/-- what version hands to sameness -/
abbrev due31 (t : List Nat) (v : Nat) : D := .tup [.tup (nts (eld t v)), .tup ((pth t v).map .int), .int (nts (eld t v)).length, .tup (nts (kids t v)), .tup (nts (brs t v))]
theorem same31 {t : List Nat} (h : Par t) (hl : t.length ≤ 900) {v : Nat} (hv : v ≤ t.length) {N : Nat} (hN : 3 ≤ N) : P.run N false 23 [due31 t v, due31 t v] = .ok (.bl true) := by
  refine same ?_ ?_
  · simp only [due31, D.dep, D.depL, dep_nts, dep_ints]
    omega
  · have h1 := eld_len h v hv
    have h2 := pth_len h hv
    have h3 := kids_len t v
    have h4 := brs_len t v
    simp only [due31, okS, okSL, okS_ints, Bool.and_true, Bool.and_eq_true, decide_eq_true_eq, List.length_cons, List.length_nil, List.length_map]
    have z : ∀ l : List Nat, okSL (nts l) = true := fun l => okSL_of fun x hx => by
      obtain ⟨i, _, rfl⟩ := List.mem_map.mp hx
      rfl
    refine ⟨by omega, ⟨by omega, z _⟩, by omega, trivial, ⟨by omega, z _⟩, by omega, z _⟩
theorem body31 {call : Cal} {t : List Nat} (h : Par t) (hl : t.length ≤ 900) {v : Nat} (hv : v ≤ t.length) {b : Bool} (h1 : call false 10 [hs t, .int v] = .ok (.tup (nts (eld t v)))) (h2 : call false 11 [hs t, .int v] = .ok (.tup ((pth t v).map .int))) (h3 : call false 14 [hs t, .int v] = .ok (.int (eld t v).length)) (h4 : call false 17 [hs t, .int v] = .ok (.tup (nts (kids t v)))) (h5 : call false 18 [hs t, .int v] = .ok (.tup (nts (brs t v))))
    (h9 : v ≠ 0 → call false 9 [hs t, .int v] = .ok (.int (t.getD (v - 1) 0 : Nat))) (s1 : call false 23 [due31 t v, due31 t v] = .ok (.bl true)) (s2 : call false 23 [.int (t.getD (v - 1) 0 : Nat), .int (t.getD (v - 1) 0 : Nat)] = .ok (.bl true)) : (evSs (T22 call) b31 [.val (hs t), .val (ups t), .val (.int v), .val (.bl b), .none, .none, .none, .none, .none]).fin = .ok (.bl true) := by
  have e1 : evS (T22 call) (.set 4 (.bi .tuple [cU1])) (R31 t v b .none .none .none .none) = .nx (R31 t v b (.val (.tup (nts (brs t v)))) .none .none .none) := by
    rw [s_set', q_bi, bs_cons]
    simp only [bor, cU1_is hl, bs_nil, ok_bind, pure_ok, Bool.false_and, Bool.false_eq_true, if_false]
    rfl
  have e2 : evS (T22 call) (.set 5 (.bi .tuple [cU2])) (R31 t v b (.val (.tup (nts (brs t v)))) .none .none .none) = .nx (R31 t v b (.val (.tup (nts (brs t v)))) (.val (.tup (nts (kids t v)))) .none .none) := by
    rw [s_set', q_bi, bs_cons]
    simp only [bor, cU2_is hl, bs_nil, ok_bind, pure_ok, Bool.false_and, Bool.false_eq_true, if_false]
    rfl
  have e3 : evS (T22 call) (.set 6 (.bi .tuple [(.bi .sorted [cU3])])) (R31 t v b (.val (.tup (nts (brs t v)))) (.val (.tup (nts (kids t v)))) .none .none) = .nx (R31 t v b (.val (.tup (nts (brs t v)))) (.val (.tup (nts (kids t v)))) (.val (.tup ((pth t v).map .int))) .none) := by
    rw [s_set', U3_is h hl hv]
    rfl
  have g := upsL_get (t := t) (k := t.length + 1) (v := v) (by omega)
  have hd : v ≠ 0 → getI (nts (eld t v)) 0 = .ok (.int (t.getD (v - 1) 0 : Nat)) := fun h0 => by
    rw [eld_succ h h0 hv]
    exact getI_nat (i := 0) (by simp)
  have l3 : ((eld t v).length : Int) = ((nts (eld t v)).length : Int) := by simp
  rw [l3] at h3
  unfold b31
  rw [ss_cons', e1, nx_to, e2, nx_to, e3, nx_to, U4_is h1 h2 h3 h4 h5, nx_to, U5_is g s1]
  have z := U67_is (call := call) (a := hs t) (br := .tup (nts (brs t v))) (ch := .tup (nts (kids t v))) (pa := .tup ((pth t v).map .int)) (b := b) (g := due31 t v) g hd h9 s2
  rw [nx_then, z]
  rfl
theorem r31 {n : Nat} {t : List Nat} (h : Par t) (hl : t.length ≤ 900) {v : Nat} (hv : v ≤ t.length) (b : Bool) : P.run (n + 7) false 31 [hs t, ups t, .int v, .bl b] = .ok (.bl true) := by
  rw [run1 (d := ⟨4, 9, b31⟩) rfl rfl]
  refine body31 h hl hv (r10 (n := n + 2) h hl hv) (r11 (n := n + 1) h hl hv) (r14 (n := n + 1) h hl hv) (r17 (n := n + 2) hv) ?_ (fun h0 => r9 (n := n + 2) h0 hv) (same31 h hl hv (by omega)) (same_i _ (by omega))
  rw [r18 (n := n) h hl hv, brs, br_eq h hv]
/-! ### pair -/
section
variable {call : Cal} {t : List Nat} {v w : Nat} {b : Bool} {a5 a6 : Slot}
abbrev R32 (t : List Nat) (v w : Nat) (b : Bool) (a5 a6 : Slot) : Rho := [.val (hs t), .val (ups t), .val (.int v), .val (.int w), .val (.bl b), a5, a6, .none]
abbrev cV : CE := (.cmp (.nm 7) (.of (.bin .add (.lst [(.var 2)]) (.idx (.var 1) (.var 2)))) (.or (.of (.bin .eq (.var 7) (.var 3))) (.of (.bin .isin (.var 7) (.idx (.var 1) (.var 3))))) (.var 7))
theorem turnV {T : Tb} {U es : List D} {w z : Nat} {b : Bool} (g : getI U (w : Int) = .ok (.lst es)) (hi : inD false (.int (z : Int)) (.lst es) = .ok (.bl b)) {ρ : Rho} (e1 : ρ[1]? = some (.val (.lst U))) (e3 : ρ[3]? = some (.val (.int w))) (l : ρ.length = 8) : turnQ T (.nm 7) (.or (.of (.bin .eq (.var 7) (.var 3))) (.of (.bin .isin (.var 7) (.idx (.var 1) (.var 3))))) (.var 7) ρ (.int z) = .ok (if (decide (z = w) || b) then some (.int z) else none) := by
  have e7 : (ρ.set 7 (.val (.int z)))[7]? = some (.val (.int z)) := by simp [l]
  have e1' : (ρ.set 7 (.val (.int z)))[1]? = some (.val (.lst U)) := by rw [List.getElem?_set_ne (by omega)]; exact e1
  have e3' : (ρ.set 7 (.val (.int z)))[3]? = some (.val (.int w)) := by rw [List.getElem?_set_ne (by omega)]; exact e3
  unfold turnQ
  simp only [bindT, ok_bind]
  generalize ρ.set 7 (.val (.int z)) = ρ at *
  simp [q_var, q_cst, q_bin, q_un, q_and, q_or, q_ife, q_tup, q_lst, q_idx, q_slc, q_call, q_callk, q_bi, q_isi, q_rngL, q_rngO, q_cmp, q_exf, q_exi, q_bv, t_yes, t_and, t_or, t_not, t_of, o_none, o_some, es_nil, es_cons, bs_nil, bs_cons, i_of, i_rng, i_enum, i_zip, i_rev, s_pass', s_set', s_setC', s_setOwn', s_unp', s_app', s_ex', s_ret', s_retO', s_retN', s_ife', s_for', s_whl', s_raise', s_try', s_brk', s_cont', ss_nil', ss_cons', h_nil, h_some, h_none, bor, slotE, slotB, isiD, D.isTy, D.truth, unD, binD, guardL, ownArg, isOwn, biD, itHot, BI.hot, tgOwn, ownIt, itemsD, seqD, D.noL, e7, e1', e3', idxD, g, hi, D.eqOk, D.dep, D.plain, D.eqv]
  by_cases h : z = w
  · simp [h]
  · have hz : ¬ ((z : Int) = (w : Int)) := by omega
    cases b <;> simp [h, hz]
theorem cV_is (h : Par t) (hl : t.length ≤ 900) (hv : v ≤ t.length) (hw : w ≤ t.length) : evE (T22 call) cV (R32 t v w b a5 a6) = .ok (.lst (nts (both t v w))) := by
  have le := eld_len h v hv
  have src : evI (T22 call) (.of (.bin .add (.lst [(.var 2)]) (.idx (.var 1) (.var 2)))) (R32 t v w b a5 a6) = .ok (nts (v :: eld t v)) := srcU3 (upsL_get (by omega)) (by simp; omega) rfl rfl
  have cl : compL (turnQ (T22 call) (.nm 7) (.or (.of (.bin .eq (.var 7) (.var 3))) (.of (.bin .isin (.var 7) (.idx (.var 1) (.var 3))))) (.var 7) (R32 t v w b a5 a6)) (nts (v :: eld t v)) = .ok (nts (both t v w)) := by
    have e : both t v w = (v :: eld t v).filter fun z => decide (z = w) || decide (z ∈ eld t w) := by
      unfold both
      apply List.filter_congr
      intro z _
      simp [List.mem_cons]
    rw [e]
    refine compL_im ?_
    intro z hz
    exact turnV (upsL_get (by omega)) (isinL_nts _ _) rfl rfl rfl
  rw [q_cmp, src, ok_bind, cl]
  rfl
theorem max_nts {l : List Nat} (h : l ≠ []) : biD .max1 [.lst (nts l)] = .ok (.int (maxL (l.map fun x => ((x : Nat) : Int)))) := by
  cases l with
  | nil => exact (h rfl).elim
  | cons x l =>
    have e := intsD_nts (x :: l)
    unfold nts at e ⊢
    simp only [List.map_cons] at e ⊢
    simp only [biD, e]
theorem both_ne (h : Par t) (hv : v ≤ t.length) (hw : w ≤ t.length) : both t v w ≠ [] := fun e => by
  have z : 0 ∈ both t v w := List.mem_filter.mpr ⟨zero_eld h v hv, by simpa using zero_eld h w hw⟩
  rw [e] at z
  cases z
abbrev mxB (t : List Nat) (v w : Nat) : Int := maxL ((both t v w).map fun x => ((x : Nat) : Int))
theorem V1_is (h : Par t) (hl : t.length ≤ 900) (hv : v ≤ t.length) (hw : w ≤ t.length) : evS (T22 call) (.set 5 (.bi .max1 [cV])) (R32 t v w b .none .none) = .nx (R32 t v w b (.val (.int (mxB t v w))) .none) := by
  rw [s_set', q_bi, bs_cons]
  simp only [bor, cV_is h hl hv hw, bs_nil, ok_bind, pure_ok, Bool.false_and, Bool.false_eq_true, if_false, max_nts (both_ne h hv hw)]
  rfl
end
section
variable {call : Cal} {a : D} {U : List D} {v w : Nat} {b : Bool} {m : Int}
abbrev Q32 (a : D) (U : List D) (v w : Nat) (b : Bool) (m : Int) (g : Slot) : Rho := [.val a, .val (.lst U), .val (.int v), .val (.int w), .val (.bl b), .val (.int m), g, .none]
abbrev V2 : CS := (.ife (.of (.var 4)) [(.set 6 (.tup [(.callk 12 [] [(.var 3), (.var 2), (.var 0)] [2, 1, 0]), (.callk 13 [] [(.var 3), (.var 2), (.var 0)] [2, 1, 0])]))] [(.set 6 (.tup [(.call 12 [(.var 0), (.var 2), (.var 3)]), (.call 13 [(.var 0), (.var 2), (.var 3)])]))])
theorem V2_is {g : Slot} {d1 d2 : D} (h1 : call false 12 [a, .int v, .int w] = .ok d1) (h2 : call false 13 [a, .int v, .int w] = .ok d2) : evS (T22 call) V2 (Q32 a U v w b m g) = .nx (Q32 a U v w b m (.val (.tup [d1, d2]))) := by
  cases b <;> simp [q_var, q_cst, q_bin, q_un, q_and, q_or, q_ife, q_tup, q_lst, q_idx, q_slc, q_call, q_callk, q_bi, q_isi, q_rngL, q_rngO, q_cmp, q_exf, q_exi, q_bv, t_yes, t_and, t_or, t_not, t_of, o_none, o_some, es_nil, es_cons, bs_nil, bs_cons, i_of, i_rng, i_enum, i_zip, i_rev, s_pass', s_set', s_setC', s_setOwn', s_unp', s_app', s_ex', s_ret', s_retO', s_retN', s_ife', s_for', s_whl', s_raise', s_try', s_brk', s_cont', ss_nil', ss_cons', h_nil, h_some, h_none, bor, slotE, slotB, isiD, D.isTy, D.truth, unD, binD, guardL, ownArg, isOwn, biD, itHot, BI.hot, tgOwn, ownIt, itemsD, seqD, D.noL, h1, h2, pick]
abbrev V3 : CS := (.ret (.call 23 [(.var 6), (.tup [(.bin .isin (.var 2) (.idx (.var 1) (.var 3))), (.var 5)])]))
theorem V3_is {g : D} {es : List D} {c : Bool} (hg : getI U (w : Int) = .ok (.lst es)) (hi : inD false (.int (v : Int)) (.lst es) = .ok (.bl c)) (hs : call false 23 [g, .tup [.bl c, .int m]] = .ok (.bl true)) : evS (T22 call) V3 (Q32 a U v w b m (.val g)) = .ret (.bl true) := by
  simp [q_var, q_cst, q_bin, q_un, q_and, q_or, q_ife, q_tup, q_lst, q_idx, q_slc, q_call, q_callk, q_bi, q_isi, q_rngL, q_rngO, q_cmp, q_exf, q_exi, q_bv, t_yes, t_and, t_or, t_not, t_of, o_none, o_some, es_nil, es_cons, bs_nil, bs_cons, i_of, i_rng, i_enum, i_zip, i_rev, s_pass', s_set', s_setC', s_setOwn', s_unp', s_app', s_ex', s_ret', s_retO', s_retN', s_ife', s_for', s_whl', s_raise', s_try', s_brk', s_cont', ss_nil', ss_cons', h_nil, h_some, h_none, bor, slotE, slotB, isiD, D.isTy, D.truth, unD, binD, guardL, ownArg, isOwn, biD, itHot, BI.hot, tgOwn, ownIt, itemsD, seqD, D.noL, idxD, hg, hi, hs]
end
theorem r32 {n : Nat} {t : List Nat} (h : Par t) (hl : t.length ≤ 900) {v w : Nat} (hv : v ≤ t.length) (hw : w ≤ t.length) (b : Bool) : P.run (n + 7) false 32 [hs t, ups t, .int v, .int w, .bl b] = .ok (.bl true) := by
  rw [run1 (d := ⟨5, 8, b32⟩) rfl rfl]
  have h1 := r12 (n := n + 1) h hl hv hw
  have h2 := r13 (n := n + 1) h hl hv hw
  have s := same (N := n + 6) (hot := false) (d := .tup [.bl (decide (v ∈ eld t w)), .int (mxB t v w)]) (by simp [D.dep, D.depL]) (by simp [okS, okSL])
  have g := upsL_get (t := t) (k := t.length + 1) (v := w) (by omega)
  generalize P.run (n + 6) = call at *
  have zz : ([hs t, ups t, .int v, .int w, .bl b].map Slot.val ++ List.replicate (8 - 5) Slot.none) = R32 t v w b .none .none := rfl
  unfold b32
  rw [zz, ss_cons', V1_is h hl hv hw, nx_to, V2_is h1 h2, nx_to, V3_is g (isinL_nts _ _) s]
  rfl
end Vk02_whole_elders
end
section
set_option Elab.async false
set_option linter.all false
set_option maxRecDepth 100000
set_option maxHeartbeats 2000000
namespace Vk02_whole_elders
open PySem PySem.Spec Ev
/-! ### whole -/
section
variable {call : Cal} {t : List Nat} {b : Bool} {a3 a4 a5 a6 : Slot}
abbrev R33 (t : List Nat) (b : Bool) (a3 a4 a5 a6 : Slot) : Rho := [.val (hs t), .val (ups t), .val (.bl b), a3, a4, a5, a6, .none, .none, .none]
theorem W1_is : evS (T22 call) (.set 3 (.cmp (.nm 7) (.of (.var 0)) .yes (.var 7))) (R33 t b a3 a4 a5 a6) = .nx (R33 t b (.val (.lst (nts t))) a4 a5 a6) := by
  have src : evI (T22 call) (.of (.var 0)) (R33 t b a3 a4 a5 a6) = .ok (nts t) := rfl
  have cl : compL (turnQ (T22 call) (.nm 7) .yes (.var 7) (R33 t b a3 a4 a5 a6)) (nts t) = .ok (nts t) := by
    refine compL_imA ?_
    intro x _
    rfl
  rw [s_set', q_cmp, src, ok_bind, cl]
  rfl
abbrev lvs (t : List Nat) : List Nat := (List.range (t.length + 1)).filter fun v => !decide (v ∈ t)
theorem turnW {T : Tb} {es : List D} {z : Nat} {c : Bool} (hi : inD true (.int (z : Int)) (.lst es) = .ok (.bl c)) {ρ : Rho} (e3 : ρ[3]? = some (.val (.lst es))) (l : ρ.length = 10) : turnQ T (.nm 8) (.of (.bin .notin (.var 8) (.var 3))) (.var 8) ρ (.int z) = .ok (if c then some (.int z) else none) := by
  have e8 : (ρ.set 8 (.val (.int z)))[8]? = some (.val (.int z)) := by simp [l]
  have e3' : (ρ.set 8 (.val (.int z)))[3]? = some (.val (.lst es)) := by rw [List.getElem?_set_ne (by omega)]; exact e3
  unfold turnQ
  simp only [bindT, ok_bind]
  generalize ρ.set 8 (.val (.int z)) = ρ at *
  simp [q_var, q_cst, q_bin, q_un, q_and, q_or, q_ife, q_tup, q_lst, q_idx, q_slc, q_call, q_callk, q_bi, q_isi, q_rngL, q_rngO, q_cmp, q_exf, q_exi, q_bv, t_yes, t_and, t_or, t_not, t_of, o_none, o_some, es_nil, es_cons, bs_nil, bs_cons, i_of, i_rng, i_enum, i_zip, i_rev, s_pass', s_set', s_setC', s_setOwn', s_unp', s_app', s_ex', s_ret', s_retO', s_retN', s_ife', s_for', s_whl', s_raise', s_try', s_brk', s_cont', ss_nil', ss_cons', h_nil, h_some, h_none, bor, slotE, slotB, isiD, D.isTy, D.truth, unD, binD, guardL, ownArg, isOwn, biD, itHot, BI.hot, tgOwn, ownIt, itemsD, seqD, D.noL, e8, e3', hi]
theorem W2_is (hl : t.length ≤ 900) : evS (T22 call) (.set 4 (.bi .tuple [(.cmp (.nm 8) (.rng (.cst (.int 0)) (.bi .len [(.var 1)])) (.of (.bin .notin (.var 8) (.var 3))) (.var 8))])) (R33 t b (.val (.lst (nts t))) a4 a5 a6) = .nx (R33 t b (.val (.lst (nts t))) (.val (.tup (nts (lvs t)))) a5 a6) := by
  have src : evI (T22 call) (.rng (.cst (.int 0)) (.bi .len [(.var 1)])) (R33 t b (.val (.lst (nts t))) a4 a5 a6) = .ok (nts (List.range (t.length + 1))) := by
    refine i_rng0 ?_ (by omega)
    simp [q_var, q_cst, q_bin, q_un, q_and, q_or, q_ife, q_tup, q_lst, q_idx, q_slc, q_call, q_callk, q_bi, q_isi, q_rngL, q_rngO, q_cmp, q_exf, q_exi, q_bv, t_yes, t_and, t_or, t_not, t_of, o_none, o_some, es_nil, es_cons, bs_nil, bs_cons, i_of, i_rng, i_enum, i_zip, i_rev, s_pass', s_set', s_setC', s_setOwn', s_unp', s_app', s_ex', s_ret', s_retO', s_retN', s_ife', s_for', s_whl', s_raise', s_try', s_brk', s_cont', ss_nil', ss_cons', h_nil, h_some, h_none, bor, slotE, slotB, isiD, D.isTy, D.truth, unD, binD, guardL, ownArg, isOwn, biD, itHot, BI.hot, tgOwn, ownIt, itemsD, seqD, D.noL]
  have cl : compL (turnQ (T22 call) (.nm 8) (.of (.bin .notin (.var 8) (.var 3))) (.var 8) (R33 t b (.val (.lst (nts t))) a4 a5 a6)) (nts (List.range (t.length + 1))) = .ok (nts (lvs t)) := by
    refine compL_im ?_
    intro z hz
    exact turnW (notinL_nts t z) rfl rfl
  have e : evE (T22 call) (.cmp (.nm 8) (.rng (.cst (.int 0)) (.bi .len [(.var 1)])) (.of (.bin .notin (.var 8) (.var 3))) (.var 8)) (R33 t b (.val (.lst (nts t))) a4 a5 a6) = .ok (.lst (nts (lvs t))) := by
    rw [q_cmp, src, ok_bind, cl]
    rfl
  rw [s_set', q_bi, bs_cons]
  simp only [bor, e, bs_nil, ok_bind, pure_ok, Bool.false_and, Bool.false_eq_true, if_false]
  rfl
theorem W3_is (hl : t.length ≤ 900) : evS (T22 call) (.set 5 (.bin .eq (.var 0) (.rngL true (.cst (.int 0)) (.bi .len [(.var 0)])))) (R33 t b a3 a4 a5 a6) = .nx (R33 t b a3 a4 (.val (.bl (decide (t = List.range t.length)))) a6) := by
  have rg : evE (T22 call) (.rngL true (.cst (.int 0)) (.bi .len [.var 0])) (R33 t b a3 a4 a5 a6) = .ok (.tup (nts (List.range t.length))) := by
    have e2 : evE (T22 call) (.bi .len [.var 0]) (R33 t b a3 a4 a5 a6) = .ok (.int (t.length : Int)) := by
      unfold R33 hs
      simp [q_var, q_cst, q_bin, q_un, q_and, q_or, q_ife, q_tup, q_lst, q_idx, q_slc, q_call, q_callk, q_bi, q_isi, q_rngL, q_rngO, q_cmp, q_exf, q_exi, q_bv, t_yes, t_and, t_or, t_not, t_of, o_none, o_some, es_nil, es_cons, bs_nil, bs_cons, i_of, i_rng, i_enum, i_zip, i_rev, s_pass', s_set', s_setC', s_setOwn', s_unp', s_app', s_ex', s_ret', s_retO', s_retN', s_ife', s_for', s_whl', s_raise', s_try', s_brk', s_cont', ss_nil', ss_cons', h_nil, h_some, h_none, bor, slotE, slotB, isiD, D.isTy, D.truth, unD, binD, guardL, ownArg, isOwn, biD, itHot, BI.hot, tgOwn, ownIt, itemsD, seqD, D.noL]
    rw [q_rngL, if_neg (show ¬ (false = true) from Bool.false_ne_true), q_cst, ok_bind, e2, ok_bind]
    simp only
    rw [if_pos (rngOk_nat (by omega)), rngL_nat]
    rfl
  rw [s_set', q_bin]
  simp only [bor, rg]
  have eh : hs t = .tup (nts t) := rfl
  simp only [slotB, List.getElem?_cons_zero, ok_bind, eh, binD, eqOk_nts, Bool.and_true, if_true, D.eqv, eqv_nts]
  rfl
abbrev cW : CE := (.cmp (.nm 9) (.of (.var 1)) .yes (.bi .len [(.var 9)]))
abbrev lens (t : List Nat) : List Nat := (List.range (t.length + 1)).map fun v => (eld t v).length
theorem cW_is : evE (T22 call) cW (R33 t b a3 a4 a5 a6) = .ok (.lst (nts (lens t))) := by
  have src : evI (T22 call) (.of (.var 1)) (R33 t b a3 a4 a5 a6) = .ok (upsL t (t.length + 1)) := rfl
  have cl : compL (turnQ (T22 call) (.nm 9) .yes (.bi .len [(.var 9)]) (R33 t b a3 a4 a5 a6)) (upsL t (t.length + 1)) = .ok (nts (lens t)) := by
    rw [show nts (lens t) = (List.range (t.length + 1)).map fun v => .int ((eld t v).length : Int) by simp [nts, lens, Function.comp_def]]
    refine compL_imA ?_
    intro x _
    unfold turnQ
    simp [q_var, q_cst, q_bin, q_un, q_and, q_or, q_ife, q_tup, q_lst, q_idx, q_slc, q_call, q_callk, q_bi, q_isi, q_rngL, q_rngO, q_cmp, q_exf, q_exi, q_bv, t_yes, t_and, t_or, t_not, t_of, o_none, o_some, es_nil, es_cons, bs_nil, bs_cons, i_of, i_rng, i_enum, i_zip, i_rev, s_pass', s_set', s_setC', s_setOwn', s_unp', s_app', s_ex', s_ret', s_retO', s_retN', s_ife', s_for', s_whl', s_raise', s_try', s_brk', s_cont', ss_nil', ss_cons', h_nil, h_some, h_none, bor, slotE, slotB, isiD, D.isTy, D.truth, unD, binD, guardL, ownArg, isOwn, biD, itHot, BI.hot, tgOwn, ownIt, itemsD, seqD, D.noL, bindT]
  rw [q_cmp, src, ok_bind, cl]
  rfl
theorem cWm_is : evE (T22 call) (.bi .max1 [cW]) (R33 t b a3 a4 a5 a6) = .ok (.int (maxL ((lens t).map fun x => ((x : Nat) : Int)))) := by
  have ne : lens t ≠ [] := by simp [lens]
  rw [q_bi, bs_cons]
  simp only [bor, cW_is, bs_nil, ok_bind, pure_ok, Bool.false_and, Bool.false_eq_true, if_false, max_nts ne]
abbrev W4 : CS := (.ife (.of (.var 2)) [(.set 6 (.tup [(.callk 8 [] [(.var 0)] [0]), (.callk 15 [] [(.var 0)] [0]), (.callk 19 [] [(.var 0)] [0]), (.callk 20 [] [(.var 0)] [0])]))] [(.set 6 (.tup [(.call 8 [(.var 0)]), (.call 15 [(.var 0)]), (.call 19 [(.var 0)]), (.call 20 [(.var 0)])]))])
theorem W4_is {a u : D} {d1 d2 d3 d4 : D} {a7 a8 a9 : Slot} (h1 : call false 8 [a] = .ok d1) (h2 : call false 15 [a] = .ok d2) (h3 : call false 19 [a] = .ok d3) (h4 : call false 20 [a] = .ok d4) : evS (T22 call) W4 [.val a, .val u, .val (.bl b), a3, a4, a5, a6, a7, a8, a9] = .nx [.val a, .val u, .val (.bl b), a3, a4, a5, .val (.tup [d1, d2, d3, d4]), a7, a8, a9] := by
  cases b <;> simp [q_var, q_cst, q_bin, q_un, q_and, q_or, q_ife, q_tup, q_lst, q_idx, q_slc, q_call, q_callk, q_bi, q_isi, q_rngL, q_rngO, q_cmp, q_exf, q_exi, q_bv, t_yes, t_and, t_or, t_not, t_of, o_none, o_some, es_nil, es_cons, bs_nil, bs_cons, i_of, i_rng, i_enum, i_zip, i_rev, s_pass', s_set', s_setC', s_setOwn', s_unp', s_app', s_ex', s_ret', s_retO', s_retN', s_ife', s_for', s_whl', s_raise', s_try', s_brk', s_cont', ss_nil', ss_cons', h_nil, h_some, h_none, bor, slotE, slotB, isiD, D.isTy, D.truth, unD, binD, guardL, ownArg, isOwn, biD, itHot, BI.hot, tgOwn, ownIt, itemsD, seqD, D.noL, h1, h2, h3, h4, pick]
abbrev due33 (t : List Nat) : D := .tup [.int t.length, .int (maxL ((lens t).map fun x => ((x : Nat) : Int))), .tup (nts (lvs t)), .bl (decide (t = List.range t.length))]
abbrev W5 : CS := (.ret (.call 23 [(.var 6), (.tup [(.bi .len [(.var 0)]), (.bi .max1 [cW]), (.var 4), (.var 5)])]))
theorem W5_is (hs' : call false 23 [due33 t, due33 t] = .ok (.bl true)) : evS (T22 call) W5 (R33 t b a3 (.val (.tup (nts (lvs t)))) (.val (.bl (decide (t = List.range t.length)))) (.val (due33 t))) = .ret (.bl true) := by
  have e2 : evE (T22 call) (.bi .len [.var 0]) (R33 t b a3 (.val (.tup (nts (lvs t)))) (.val (.bl (decide (t = List.range t.length)))) (.val (due33 t))) = .ok (.int (t.length : Int)) := by
    unfold R33 hs
    simp [q_var, q_cst, q_bin, q_un, q_and, q_or, q_ife, q_tup, q_lst, q_idx, q_slc, q_call, q_callk, q_bi, q_isi, q_rngL, q_rngO, q_cmp, q_exf, q_exi, q_bv, t_yes, t_and, t_or, t_not, t_of, o_none, o_some, es_nil, es_cons, bs_nil, bs_cons, i_of, i_rng, i_enum, i_zip, i_rev, s_pass', s_set', s_setC', s_setOwn', s_unp', s_app', s_ex', s_ret', s_retO', s_retN', s_ife', s_for', s_whl', s_raise', s_try', s_brk', s_cont', ss_nil', ss_cons', h_nil, h_some, h_none, bor, slotE, slotB, isiD, D.isTy, D.truth, unD, binD, guardL, ownArg, isOwn, biD, itHot, BI.hot, tgOwn, ownIt, itemsD, seqD, D.noL]
  have e : evE (T22 call) (.tup [(.bi .len [(.var 0)]), (.bi .max1 [cW]), (.var 4), (.var 5)]) (R33 t b a3 (.val (.tup (nts (lvs t)))) (.val (.bl (decide (t = List.range t.length)))) (.val (due33 t))) = .ok (due33 t) := by
    rw [q_tup]
    simp only [es_cons, es_nil, e2, cWm_is, ok_bind, q_var]
    rfl
  have e6 : bor (.var 6) (R33 t b a3 (.val (.tup (nts (lvs t)))) (.val (.bl (decide (t = List.range t.length)))) (.val (due33 t))) (evE (T22 call) (.var 6) (R33 t b a3 (.val (.tup (nts (lvs t)))) (.val (.bl (decide (t = List.range t.length)))) (.val (due33 t)))) = .ok (due33 t) := rfl
  rw [s_ret', q_call, bs_cons, e6, ok_bind, bs_cons]
  simp only [bor, e, bs_nil, ok_bind, pure_ok, hs']
  rfl
end
theorem r33 {n : Nat} {t : List Nat} (h : Par t) (hl : t.length ≤ 900) (b : Bool) : P.run (n + 7) false 33 [hs t, ups t, .bl b] = .ok (.bl true) := by
  rw [run1 (d := ⟨3, 10, b33⟩) rfl rfl]
  have h1 : P.run (n + 6) false 8 [hs t] = .ok (.int t.length) := by
    have z := r8 (n + 5) false (nts t)
    rw [len_nts] at z
    exact z
  have h2 := r15 (n := n) h hl
  have h3 := r19 (n := n + 5) hl
  have h4 := r20 (n := n + 5) hl
  have el : ((List.range (t.length + 1)).map fun v => ((eld t v).length : Int)) = (lens t).map fun x => ((x : Nat) : Int) := by simp [lens, Function.comp_def]
  rw [el] at h2
  have s := same (N := n + 6) (hot := false) (d := due33 t) (by simp only [due33, D.dep, D.depL, dep_nts]; omega) (by
    have lv : (lvs t).length ≤ t.length + 1 := by
      have := List.length_filter_le (fun v => !decide (v ∈ t)) (List.range (t.length + 1))
      simpa using this
    have z := okS_nts (l := lvs t) (by omega)
    simp only [due33, okS, okSL, Bool.and_true, Bool.true_and, Bool.and_eq_true, decide_eq_true_eq, List.length_cons, List.length_nil] at z ⊢
    exact ⟨by omega, z⟩)
  generalize P.run (n + 6) = call at *
  have zz : ([hs t, ups t, .bl b].map Slot.val ++ List.replicate (10 - 3) Slot.none) = R33 t b .none .none .none .none := rfl
  unfold b33
  rw [zz, ss_cons', W1_is, nx_to, W2_is hl, nx_to, W3_is hl, nx_to, W4_is h1 h2 h3 h4, nx_to, W5_is s]
  rfl
end Vk02_whole_elders
end
section
set_option Elab.async false
set_option linter.all false
set_option maxRecDepth 100000
set_option maxHeartbeats 2000000
namespace Vk02_whole_elders
open PySem PySem.Spec Ev
/-! ### the law -/
section
variable {call : Cal} {s u t : D} {l : List D} {sz : Slot} {ks : List Nat} {r : Int} {k : Nat} {a3 a4 a5 a6 a7 a8 a9 a10 : Slot}
abbrev rowg (ks : List Nat) (i : Nat) : Int := ((ks.getD i 0 : Nat) : Int)
theorem row_get (hl : ks.length = 128) {i : Nat} (hi : i < 128) : getI (nts ks) (i : Int) = .ok (.int (rowg ks i)) := by
  have z := getI_nts (l := ks) (i := i) (by omega)
  have e : ks.getD i 0 = ks[i]'(by omega) := by simp [hl, hi]
  rw [rowg, e]
  exact z
abbrev R34 (s : D) (l : List D) (a2 a3 a4 a5 a6 a7 a8 a9 : Slot) : Rho := [.val s, .val (.lst l), a2, a3, a4, a5, a6, a7, a8, a9, .none]
abbrev L2 : CS := (.set 2 (.bin .mod (.bi .int [(.idx (.var 1) (.cst (.int 0)))]) (.cst (.int 10))))
theorem L2_is (g : getI l 0 = .ok (.int r)) : evS (T22 call) L2 (R34 s l sz a3 a4 a5 a6 a7 a8 a9) = .nx (R34 s l (.val (.int (r % 10))) a3 a4 a5 a6 a7 a8 a9) := by
  simp [q_var, q_cst, q_bin, q_un, q_and, q_or, q_ife, q_tup, q_lst, q_idx, q_slc, q_call, q_callk, q_bi, q_isi, q_rngL, q_rngO, q_cmp, q_exf, q_exi, q_bv, t_yes, t_and, t_or, t_not, t_of, o_none, o_some, es_nil, es_cons, bs_nil, bs_cons, i_of, i_rng, i_enum, i_zip, i_rev, s_pass', s_set', s_setC', s_setOwn', s_unp', s_app', s_ex', s_ret', s_retO', s_retN', s_ife', s_for', s_whl', s_raise', s_try', s_brk', s_cont', ss_nil', ss_cons', h_nil, h_some, h_none, bor, slotE, slotB, isiD, D.isTy, D.truth, unD, binD, guardL, ownArg, isOwn, biD, itHot, BI.hot, tgOwn, ownIt, itemsD, seqD, D.noL, idxD, g]
abbrev L3 : CS := (.ife (.of (.bin .gt (.bin .mod (.bi .int [(.idx (.var 1) (.cst (.int 1)))]) (.cst (.int 12))) (.cst (.int 9)))) [(.set 2 (.bin .add (.cst (.int 24)) (.bin .mul (.cst (.int 16)) (.bin .sub (.bin .mod (.bi .int [(.idx (.var 1) (.cst (.int 1)))]) (.cst (.int 12))) (.cst (.int 10))))))] [])
theorem L3_is {q : Int} (g : getI l 1 = .ok (.int r)) : ∃ k : Nat, k ≤ 40 ∧ evS (T22 call) L3 (R34 s l (.val (.int (q % 10))) a3 a4 a5 a6 a7 a8 a9) = .nx (R34 s l (.val (.int k)) a3 a4 a5 a6 a7 a8 a9) := by
  have m : mulOk 16 (r % 12 - 10) = true := by
    unfold mulOk
    simp
  by_cases h : 9 < r % 12
  · refine ⟨(24 + 16 * (r % 12 - 10)).toNat, by omega, ?_⟩
    rw [Int.toNat_of_nonneg (by omega)]
    simp [q_var, q_cst, q_bin, q_un, q_and, q_or, q_ife, q_tup, q_lst, q_idx, q_slc, q_call, q_callk, q_bi, q_isi, q_rngL, q_rngO, q_cmp, q_exf, q_exi, q_bv, t_yes, t_and, t_or, t_not, t_of, o_none, o_some, es_nil, es_cons, bs_nil, bs_cons, i_of, i_rng, i_enum, i_zip, i_rev, s_pass', s_set', s_setC', s_setOwn', s_unp', s_app', s_ex', s_ret', s_retO', s_retN', s_ife', s_for', s_whl', s_raise', s_try', s_brk', s_cont', ss_nil', ss_cons', h_nil, h_some, h_none, bor, slotE, slotB, isiD, D.isTy, D.truth, unD, binD, guardL, ownArg, isOwn, biD, itHot, BI.hot, tgOwn, ownIt, itemsD, seqD, D.noL, idxD, g, h, m]
  · refine ⟨(q % 10).toNat, by omega, ?_⟩
    rw [Int.toNat_of_nonneg (by omega)]
    simp [q_var, q_cst, q_bin, q_un, q_and, q_or, q_ife, q_tup, q_lst, q_idx, q_slc, q_call, q_callk, q_bi, q_isi, q_rngL, q_rngO, q_cmp, q_exf, q_exi, q_bv, t_yes, t_and, t_or, t_not, t_of, o_none, o_some, es_nil, es_cons, bs_nil, bs_cons, i_of, i_rng, i_enum, i_zip, i_rev, s_pass', s_set', s_setC', s_setOwn', s_unp', s_app', s_ex', s_ret', s_retO', s_retN', s_ife', s_for', s_whl', s_raise', s_try', s_brk', s_cont', ss_nil', ss_cons', h_nil, h_some, h_none, bor, slotE, slotB, isiD, D.isTy, D.truth, unD, binD, guardL, ownArg, isOwn, biD, itHot, BI.hot, tgOwn, ownIt, itemsD, seqD, D.noL, idxD, g, h]
theorem cut_nts (l : List Nat) (lo hi : Option Int) : cutL (nts l) lo hi = nts (cutL l lo hi) := by
  unfold cutL nts
  rw [List.length_map, List.map_take, List.map_drop]
abbrev L4 : CS := (.set 3 (.call 24 [(.slc (.var 1) (some (.cst (.int 2))) (some (.cst (.int 42)))), (.var 2), (.bin .mod (.bi .int [(.idx (.var 1) (.cst (.int 42)))]) (.cst (.int 8)))]))
theorem L4_is {d : D} {M : List D} (g : getI l 42 = .ok (.int r)) (c : cutL l (some 2) (some 42) = M) (hc : call false 24 [.lst M, .int k, .int (r % 8)] = .ok d) : evS (T22 call) L4 (R34 s l (.val (.int k)) a3 a4 a5 a6 a7 a8 a9) = .nx (R34 s l (.val (.int k)) (.val d) a4 a5 a6 a7 a8 a9) := by
  simp [q_var, q_cst, q_bin, q_un, q_and, q_or, q_ife, q_tup, q_lst, q_idx, q_slc, q_call, q_callk, q_bi, q_isi, q_rngL, q_rngO, q_cmp, q_exf, q_exi, q_bv, t_yes, t_and, t_or, t_not, t_of, o_none, o_some, es_nil, es_cons, bs_nil, bs_cons, i_of, i_rng, i_enum, i_zip, i_rev, s_pass', s_set', s_setC', s_setOwn', s_unp', s_app', s_ex', s_ret', s_retO', s_retN', s_ife', s_for', s_whl', s_raise', s_try', s_brk', s_cont', ss_nil', ss_cons', h_nil, h_some, h_none, bor, slotE, slotB, isiD, D.isTy, D.truth, unD, binD, guardL, ownArg, isOwn, biD, itHot, BI.hot, tgOwn, ownIt, itemsD, seqD, D.noL, idxD, g, slcD, c, hc]
abbrev L5 : CS := (.set 4 (.call 25 [(.var 3)]))
theorem L5_is {d : D} (hc : call false 25 [t] = .ok d) : evS (T22 call) L5 (R34 s l sz (.val t) a4 a5 a6 a7 a8 a9) = .nx (R34 s l sz (.val t) (.val d) a5 a6 a7 a8 a9) := by
  simp [q_var, q_cst, q_bin, q_un, q_and, q_or, q_ife, q_tup, q_lst, q_idx, q_slc, q_call, q_callk, q_bi, q_isi, q_rngL, q_rngO, q_cmp, q_exf, q_exi, q_bv, t_yes, t_and, t_or, t_not, t_of, o_none, o_some, es_nil, es_cons, bs_nil, bs_cons, i_of, i_rng, i_enum, i_zip, i_rev, s_pass', s_set', s_setC', s_setOwn', s_unp', s_app', s_ex', s_ret', s_retO', s_retN', s_ife', s_for', s_whl', s_raise', s_try', s_brk', s_cont', ss_nil', ss_cons', h_nil, h_some, h_none, bor, slotE, slotB, isiD, D.isTy, D.truth, unD, binD, guardL, ownArg, isOwn, biD, itHot, BI.hot, tgOwn, ownIt, itemsD, seqD, D.noL, hc]
abbrev L6 : CS := (.ife (.or (.not (.of (.call 28 [(.var 3)]))) (.not (.of (.call 28 [(.call 26 [(.slc (.var 1) (some (.cst (.int 43))) (some (.cst (.int 52)))), (.var 3)])])))) [(.ret (.cst (.bl false)))] [])
theorem L6_is {d : D} {M : List D} (c : cutL l (some 43) (some 52) = M) (h1 : call false 28 [t] = .ok (.bl true)) (h2 : call false 26 [.lst M, t] = .ok d) (h3 : call false 28 [d] = .ok (.bl true)) : evS (T22 call) L6 (R34 s l sz (.val t) a4 a5 a6 a7 a8 a9) = .nx (R34 s l sz (.val t) a4 a5 a6 a7 a8 a9) := by
  simp [q_var, q_cst, q_bin, q_un, q_and, q_or, q_ife, q_tup, q_lst, q_idx, q_slc, q_call, q_callk, q_bi, q_isi, q_rngL, q_rngO, q_cmp, q_exf, q_exi, q_bv, t_yes, t_and, t_or, t_not, t_of, o_none, o_some, es_nil, es_cons, bs_nil, bs_cons, i_of, i_rng, i_enum, i_zip, i_rev, s_pass', s_set', s_setC', s_setOwn', s_unp', s_app', s_ex', s_ret', s_retO', s_retN', s_ife', s_for', s_whl', s_raise', s_try', s_brk', s_cont', ss_nil', ss_cons', h_nil, h_some, h_none, bor, slotE, slotB, isiD, D.isTy, D.truth, unD, binD, guardL, ownArg, isOwn, biD, itHot, BI.hot, tgOwn, ownIt, itemsD, seqD, D.noL, slcD, c, h1, h2, h3]
abbrev L7 : CS := (.ife (.not (.of (.call 33 [(.var 3), (.var 4), (.cst (.bl false))]))) [(.ret (.cst (.bl false)))] [])
theorem L7_is (h : call false 33 [t, u, .bl false] = .ok (.bl true)) : evS (T22 call) L7 (R34 s l sz (.val t) (.val u) a5 a6 a7 a8 a9) = .nx (R34 s l sz (.val t) (.val u) a5 a6 a7 a8 a9) := by
  simp [q_var, q_cst, q_bin, q_un, q_and, q_or, q_ife, q_tup, q_lst, q_idx, q_slc, q_call, q_callk, q_bi, q_isi, q_rngL, q_rngO, q_cmp, q_exf, q_exi, q_bv, t_yes, t_and, t_or, t_not, t_of, o_none, o_some, es_nil, es_cons, bs_nil, bs_cons, i_of, i_rng, i_enum, i_zip, i_rev, s_pass', s_set', s_setC', s_setOwn', s_unp', s_app', s_ex', s_ret', s_retO', s_retN', s_ife', s_for', s_whl', s_raise', s_try', s_brk', s_cont', ss_nil', ss_cons', h_nil, h_some, h_none, bor, slotE, slotB, isiD, D.isTy, D.truth, unD, binD, guardL, ownArg, isOwn, biD, itHot, BI.hot, tgOwn, ownIt, itemsD, seqD, D.noL, h]
abbrev L8 : CS := (.set 5 (.rngL false (.cst (.int 0)) (.bin .add (.var 2) (.cst (.int 1)))))
theorem rngL_is {T : Tb} (hT : T.hot = false) {ρ : Rho} {e : CE} {m : Nat} (he : evE T e ρ = .ok (.int (m : Int))) (hm : m ≤ 16777216) : evE T (.rngL false (.cst (.int 0)) e) ρ = .ok (.lst (nts (List.range m))) := by
  rw [q_rngL, hT, if_neg (show ¬ (false = true) from Bool.false_ne_true), q_cst, ok_bind, he, ok_bind]
  simp only
  rw [if_pos (rngOk_nat hm), rngL_nat]
  rfl
theorem sz1 {T : Tb} {k : Nat} : evE T (.bin .add (.var 2) (.cst (.int 1))) (R34 s l (.val (.int k)) a3 a4 a5 a6 a7 a8 a9) = .ok (.int ((k + 1 : Nat) : Int)) := by
  simp [q_var, q_cst, q_bin, q_un, q_and, q_or, q_ife, q_tup, q_lst, q_idx, q_slc, q_call, q_callk, q_bi, q_isi, q_rngL, q_rngO, q_cmp, q_exf, q_exi, q_bv, t_yes, t_and, t_or, t_not, t_of, o_none, o_some, es_nil, es_cons, bs_nil, bs_cons, i_of, i_rng, i_enum, i_zip, i_rev, s_pass', s_set', s_setC', s_setOwn', s_unp', s_app', s_ex', s_ret', s_retO', s_retN', s_ife', s_for', s_whl', s_raise', s_try', s_brk', s_cont', ss_nil', ss_cons', h_nil, h_some, h_none, bor, slotE, slotB, isiD, D.isTy, D.truth, unD, binD, guardL, ownArg, isOwn, biD, itHot, BI.hot, tgOwn, ownIt, itemsD, seqD, D.noL]
theorem L8_is (hk : k ≤ 40) : evS (T22 call) L8 (R34 s l (.val (.int k)) a3 a4 a5 a6 a7 a8 a9) = .nx (R34 s l (.val (.int k)) a3 a4 (.val (.lst (nts (List.range (k + 1))))) a6 a7 a8 a9) := by
  have e := rngL_is (T := T22 call) rfl (sz1 (s := s) (l := l) (k := k) (a3 := a3) (a4 := a4) (a5 := a5) (a6 := a6) (a7 := a7) (a8 := a8) (a9 := a9)) (by omega)
  generalize nts (List.range (k + 1)) = Z at *
  rw [s_set', e, ok_on]
  rfl
/-- pairs of versions -/
abbrev prs (ps : List (Nat × Nat)) : List D := ps.map fun p => .tup [.int ((p.1 : Nat) : Int), .int ((p.2 : Nat) : Int)]
def InV (k : Nat) (vs : List Nat) : Prop := ∀ v ∈ vs, v ≤ k
def InP (k : Nat) (ps : List (Nat × Nat)) : Prop := ∀ p ∈ ps, p.1 ≤ k ∧ p.2 ≤ k
abbrev L9 : CS := (.setC 6 (.cmp (.nm 10) (.rng (.cst (.int 0)) (.bin .mul (.bin .add (.var 2) (.cst (.int 1))) (.bin .add (.var 2) (.cst (.int 1))))) .yes (.tup [(.bin .fdiv (.var 10) (.bin .add (.var 2) (.cst (.int 1)))), (.bin .mod (.bi .int [(.var 10)]) (.bin .add (.var 2) (.cst (.int 1))))])))
theorem mul9 {T : Tb} {ρ : Rho} {e : CE} {m : Nat} (hb : ∀ r, bor e ρ r = r) (he : evE T e ρ = .ok (.int (m : Int))) (hm : m ≤ 1000) : evE T (.bin .mul e e) ρ = .ok (.int ((m * m : Nat) : Int)) := by
  have q : mulOk (m : Int) (m : Int) = true := mulOk_r (by omega) (by omega)
  rw [q_bin, hb, he, ok_bind, ok_bind, Int.natCast_mul]
  simp only [binD, q, if_true]
theorem turn9 {T : Tb} {m i : Nat} {ρ : Rho} (h0 : 0 < m) (hm : m ≤ 1000) (he : ∀ z, evE T (.bin .add (.var 2) (.cst (.int 1))) (ρ.set 10 z) = .ok (.int (m : Int))) (l : ρ.length = 11) : turnQ T (.nm 10) .yes (.tup [(.bin .fdiv (.var 10) (.bin .add (.var 2) (.cst (.int 1)))), (.bin .mod (.bi .int [(.var 10)]) (.bin .add (.var 2) (.cst (.int 1))))]) ρ (.int i) = .ok (some (.tup [.int ((i / m : Nat) : Int), .int ((i % m : Nat) : Int)])) := by
  have e10 : (ρ.set 10 (.val (.int i)))[10]? = some (.val (.int i)) := by simp [l]
  have p1 : (0 : Int) < (m : Int) ∧ (m : Int) < 1073741824 := by omega
  have p2 : (0 : Int) < (m : Int) := by omega
  have he := he (.val (.int i))
  unfold turnQ
  simp only [bindT, ok_bind]
  generalize ρ.set 10 (.val (.int i)) = ρ at *
  generalize hE : (CE.bin .add (.var 2) (.cst (.int 1))) = E at *
  have hB : bor E ρ (evE T E ρ) = .ok (.int (m : Int)) := by rw [← hE] at he ⊢; exact he
  simp only [t_yes, ok_bind, if_true, q_tup, es_cons, es_nil, q_bin, hB, q_bi, bs_cons, bs_nil]
  simp [bor, e10, slotB, BI.hot, biD, binD, p1, p2, h0]

theorem prs_le {m : Nat} (h : 0 < m) : InP (m - 1) ((List.range (m * m)).map fun i => (i / m, i % m)) := by
  intro p hp
  obtain ⟨i, hi, rfl⟩ := List.mem_map.mp hp
  have hi' := List.mem_range.mp hi
  have h1 : i / m < m := Nat.div_lt_of_lt_mul hi'
  have h2 : i % m < m := Nat.mod_lt _ h
  constructor <;> simp <;> omega
theorem C9_is {T : Tb} {ρ : Rho} {m : Nat} (hT : T.hot = false) (ho : tgOwn ρ (.nm 10) = false) (h0 : 0 < m) (hm : m ≤ 1000) (he0 : evE T (.bin .add (.var 2) (.cst (.int 1))) ρ = .ok (.int (m : Int))) (he : ∀ z, evE T (.bin .add (.var 2) (.cst (.int 1))) (ρ.set 10 z) = .ok (.int (m : Int))) (l : ρ.length = 11) : evE T (.cmp (.nm 10) (.rng (.cst (.int 0)) (.bin .mul (.bin .add (.var 2) (.cst (.int 1))) (.bin .add (.var 2) (.cst (.int 1))))) .yes (.tup [(.bin .fdiv (.var 10) (.bin .add (.var 2) (.cst (.int 1)))), (.bin .mod (.bi .int [(.var 10)]) (.bin .add (.var 2) (.cst (.int 1))))])) ρ = .ok (.lst (prs ((List.range (m * m)).map fun i => (i / m, i % m)))) := by
  have le : m * m ≤ 1000 * 1000 := Nat.mul_le_mul hm hm
  have src := i_rng0 (T := T) (ρ := ρ) (k := m * m) (mul9 (fun _ => rfl) he0 hm) (by omega)
  have cl := compL_imA (f := turnQ T (.nm 10) .yes (.tup [(.bin .fdiv (.var 10) (.bin .add (.var 2) (.cst (.int 1)))), (.bin .mod (.bi .int [(.var 10)]) (.bin .add (.var 2) (.cst (.int 1))))]) ρ) (F := fun (x : Nat) => D.int ((x : Nat) : Int)) (G := fun i => .tup [.int ((i / m : Nat) : Int), .int ((i % m : Nat) : Int)]) (l := List.range (m * m)) (fun i _ => turn9 h0 hm he l)
  have ep : prs ((List.range (m * m)).map fun i => (i / m, i % m)) = (List.range (m * m)).map fun i => .tup [.int ((i / m : Nat) : Int), .int ((i % m : Nat) : Int)] := by
    unfold prs
    rw [List.map_map]
    rfl
  rw [ep]
  unfold nts at src
  generalize List.map (fun (x : Nat) => D.int ((x : Nat) : Int)) (List.range (m * m)) = S at *
  generalize List.map (fun i => D.tup [.int ((i / m : Nat) : Int), .int ((i % m : Nat) : Int)]) (List.range (m * m)) = Z at *
  rw [q_cmp, src, ok_bind, cl, ok_bind, hT, ho]
  rfl
theorem L9_is (hk : k ≤ 40) : ∃ ps, InP k ps ∧ evS (T22 call) L9 (R34 s l (.val (.int k)) a3 a4 a5 a6 a7 a8 a9) = .nx (R34 s l (.val (.int k)) a3 a4 a5 (.val (.lst (prs ps))) a7 a8 a9) := by
  refine ⟨_, prs_le (m := k + 1) (by omega), ?_⟩
  have c := C9_is (T := T22 call) (ρ := R34 s l (.val (.int k)) a3 a4 a5 a6 a7 a8 a9) (m := k + 1) rfl rfl (by omega) (by omega) sz1 (fun z => by simp [q_var, q_cst, q_bin, q_un, q_and, q_or, q_ife, q_tup, q_lst, q_idx, q_slc, q_call, q_callk, q_bi, q_isi, q_rngL, q_rngO, q_cmp, q_exf, q_exi, q_bv, t_yes, t_and, t_or, t_not, t_of, o_none, o_some, es_nil, es_cons, bs_nil, bs_cons, i_of, i_rng, i_enum, i_zip, i_rev, s_pass', s_set', s_setC', s_setOwn', s_unp', s_app', s_ex', s_ret', s_retO', s_retN', s_ife', s_for', s_whl', s_raise', s_try', s_brk', s_cont', ss_nil', ss_cons', h_nil, h_some, h_none, bor, slotE, slotB, isiD, D.isTy, D.truth, unD, binD, guardL, ownArg, isOwn, biD, itHot, BI.hot, tgOwn, ownIt, itemsD, seqD, D.noL]) rfl
  generalize prs ((List.range ((k + 1) * (k + 1))).map fun i => (i / (k + 1), i % (k + 1))) = Z at *
  rw [s_setC', if_neg (show ¬ (false = true) from Bool.false_ne_true), c, ok_on]
  rfl
end
end Vk02_whole_elders
end
section
set_option Elab.async false
set_option linter.all false
set_option maxRecDepth 100000
set_option maxHeartbeats 2000000
namespace Vk02_whole_elders
open PySem PySem.Spec Ev
section
variable {call : Cal} {s u t : D} {l : List D} {sz : Slot} {k : Nat} {ks : List Nat} {a3 a4 a5 a6 a7 a8 a9 : Slot}
abbrev S1 : CE := .bin .add (.var 2) (.cst (.int 1))
theorem modrow {T : Tb} {ρ : Rho} {c i x m : Nat} (hT : T.hot = false) (h0 : 0 < m) (e1 : ρ[1]? = some (.val (.lst l))) (e10 : ρ[10]? = some (.val (.int i))) (g : getI l ((c : Int) + (i : Int)) = .ok (.int (x : Int))) (he : evE T S1 ρ = .ok (.int (m : Int))) : evE T (.bin .mod (.bi .int [(.idx (.var 1) (.bin .add (.cst (.int (c : Int))) (.var 10)))]) S1) ρ = .ok (.int ((x % m : Nat) : Int)) := by
  generalize hE : S1 = E at *
  have hB : bor E ρ (evE T E ρ) = .ok (.int (m : Int)) := by rw [← hE] at he ⊢; exact he
  have p : (0 : Int) < (m : Int) := by omega
  simp only [q_bin, hB, q_bi, bs_cons, bs_nil, q_idx, q_cst, q_bv, q_var, e1, e10, hT]
  simp [bor, slotB, slotE, binD, biD, idxD, g, h0, e10]
theorem C10a {T : Tb} {ρ : Rho} {m : Nat} (hT : T.hot = false) (ho : tgOwn ρ (.nm 10) = false) (h0 : 0 < m) (e1 : ρ[1]? = some (.val (.lst (nts ks)))) (hl : ks.length = 128) (he : ∀ z, evE T S1 (ρ.set 10 z) = .ok (.int (m : Int))) (l : ρ.length = 11) : evE T (.cmp (.nm 10) (.rng (.cst (.int 0)) (.cst (.int 8))) .yes (.bin .mod (.bi .int [(.idx (.var 1) (.bin .add (.cst (.int 52)) (.var 10)))]) S1)) ρ = .ok (.lst (nts ((List.range 8).map fun i => ks.getD (52 + i) 0 % m))) := by
  have src := i_rng0 (T := T) (ρ := ρ) (k := 8) (e := .cst (.int 8)) q_cst (by omega)
  have cl := compL_imA (f := turnQ T (.nm 10) .yes (.bin .mod (.bi .int [(.idx (.var 1) (.bin .add (.cst (.int 52)) (.var 10)))]) S1) ρ) (F := fun (x : Nat) => D.int ((x : Nat) : Int)) (G := fun i => .int ((ks.getD (52 + i) 0 % m : Nat) : Int)) (l := List.range 8) (fun i hi => by
    have hi' := List.mem_range.mp hi
    have e10 : (ρ.set 10 (.val (.int i)))[10]? = some (.val (.int i)) := by simp [l]
    have e1' : (ρ.set 10 (.val (.int i)))[1]? = some (.val (.lst (nts ks))) := by rw [List.getElem?_set_ne (by omega)]; exact e1
    have g := row_get hl (i := 52 + i) (by omega)
    have q := modrow (T := T) (c := 52) hT h0 e1' e10 g (he _)
    unfold turnQ
    simp only [bindT, ok_bind, t_yes, if_true]
    rw [show ((52 : Nat) : Int) = 52 from rfl] at q
    rw [q]
    rfl)
  have ep : nts ((List.range 8).map fun i => ks.getD (52 + i) 0 % m) = (List.range 8).map fun i => .int ((ks.getD (52 + i) 0 % m : Nat) : Int) := by
    unfold nts
    rw [List.map_map]
    rfl
  rw [ep]
  unfold nts at src
  generalize List.map (fun (x : Nat) => D.int ((x : Nat) : Int)) (List.range 8) = S at *
  generalize List.map (fun i => D.int ((ks.getD (52 + i) 0 % m : Nat) : Int)) (List.range 8) = Z at *
  rw [q_cmp, src, ok_bind, cl, ok_bind, hT, ho]
  rfl
theorem C10b {T : Tb} {ρ : Rho} {m : Nat} (hT : T.hot = false) (ho : tgOwn ρ (.nm 10) = false) (h0 : 0 < m) (e1 : ρ[1]? = some (.val (.lst (nts ks)))) (hl : ks.length = 128) (he : ∀ z, evE T S1 (ρ.set 10 z) = .ok (.int (m : Int))) (l : ρ.length = 11) : evE T (.cmp (.nm 10) (.rng (.cst (.int 0)) (.cst (.int 24))) .yes (.tup [(.bin .mod (.bi .int [(.idx (.var 1) (.bin .add (.cst (.int 60)) (.var 10)))]) S1), (.bin .mod (.bi .int [(.idx (.var 1) (.bin .add (.cst (.int 84)) (.var 10)))]) S1)])) ρ = .ok (.lst (prs ((List.range 24).map fun i => (ks.getD (60 + i) 0 % m, ks.getD (84 + i) 0 % m)))) := by
  have src := i_rng0 (T := T) (ρ := ρ) (k := 24) (e := .cst (.int 24)) q_cst (by omega)
  have cl := compL_imA (f := turnQ T (.nm 10) .yes (.tup [(.bin .mod (.bi .int [(.idx (.var 1) (.bin .add (.cst (.int 60)) (.var 10)))]) S1), (.bin .mod (.bi .int [(.idx (.var 1) (.bin .add (.cst (.int 84)) (.var 10)))]) S1)]) ρ) (F := fun (x : Nat) => D.int ((x : Nat) : Int)) (G := fun i => .tup [.int ((ks.getD (60 + i) 0 % m : Nat) : Int), .int ((ks.getD (84 + i) 0 % m : Nat) : Int)]) (l := List.range 24) (fun i hi => by
    have hi' := List.mem_range.mp hi
    have e10 : (ρ.set 10 (.val (.int i)))[10]? = some (.val (.int i)) := by simp [l]
    have e1' : (ρ.set 10 (.val (.int i)))[1]? = some (.val (.lst (nts ks))) := by rw [List.getElem?_set_ne (by omega)]; exact e1
    have g1 := row_get hl (i := 60 + i) (by omega)
    have g2 := row_get hl (i := 84 + i) (by omega)
    have q1 := modrow (T := T) (c := 60) hT h0 e1' e10 g1 (he _)
    have q2 := modrow (T := T) (c := 84) hT h0 e1' e10 g2 (he _)
    unfold turnQ
    simp only [bindT, ok_bind, t_yes, if_true]
    rw [show ((60 : Nat) : Int) = 60 from rfl] at q1
    rw [show ((84 : Nat) : Int) = 84 from rfl] at q2
    rw [q_tup, es_cons, q1, ok_bind, es_cons, q2]
    rfl)
  have ep : prs ((List.range 24).map fun i => (ks.getD (60 + i) 0 % m, ks.getD (84 + i) 0 % m)) = (List.range 24).map fun i => .tup [.int ((ks.getD (60 + i) 0 % m : Nat) : Int), .int ((ks.getD (84 + i) 0 % m : Nat) : Int)] := by
    unfold prs
    rw [List.map_map]
    rfl
  rw [ep]
  unfold nts at src
  generalize List.map (fun (x : Nat) => D.int ((x : Nat) : Int)) (List.range 24) = S at *
  generalize List.map (fun i => D.tup [.int ((ks.getD (60 + i) 0 % m : Nat) : Int), .int ((ks.getD (84 + i) 0 % m : Nat) : Int)]) (List.range 24) = Z at *
  rw [q_cmp, src, ok_bind, cl, ok_bind, hT, ho]
  rfl
abbrev L10 : CS := (.ife (.of (.bin .gt (.var 2) (.cst (.int 9)))) [(.setC 5 (.cmp (.nm 10) (.rng (.cst (.int 0)) (.cst (.int 8))) .yes (.bin .mod (.bi .int [(.idx (.var 1) (.bin .add (.cst (.int 52)) (.var 10)))]) S1))), (.setC 6 (.cmp (.nm 10) (.rng (.cst (.int 0)) (.cst (.int 24))) .yes (.tup [(.bin .mod (.bi .int [(.idx (.var 1) (.bin .add (.cst (.int 60)) (.var 10)))]) S1), (.bin .mod (.bi .int [(.idx (.var 1) (.bin .add (.cst (.int 84)) (.var 10)))]) S1)])))] [])
theorem L10_is (hl : ks.length = 128) (hk : k ≤ 40) {vs : List Nat} {ps : List (Nat × Nat)} (hv : InV k vs) (hp : InP k ps) : ∃ vs' ps', InV k vs' ∧ InP k ps' ∧ evS (T22 call) L10 (R34 s (nts ks) (.val (.int k)) a3 a4 (.val (.lst (nts vs))) (.val (.lst (prs ps))) a7 a8 a9) = .nx (R34 s (nts ks) (.val (.int k)) a3 a4 (.val (.lst (nts vs'))) (.val (.lst (prs ps'))) a7 a8 a9) := by
  by_cases h : 9 < k
  · have c : evT (T22 call) (.of (.bin .gt (.var 2) (.cst (.int 9)))) (R34 s (nts ks) (.val (.int k)) a3 a4 (.val (.lst (nts vs))) (.val (.lst (prs ps))) a7 a8 a9) = .ok true := by
      simp [q_var, q_cst, q_bin, q_un, q_and, q_or, q_ife, q_tup, q_lst, q_idx, q_slc, q_call, q_callk, q_bi, q_isi, q_rngL, q_rngO, q_cmp, q_exf, q_exi, q_bv, t_yes, t_and, t_or, t_not, t_of, o_none, o_some, es_nil, es_cons, bs_nil, bs_cons, i_of, i_rng, i_enum, i_zip, i_rev, s_pass', s_set', s_setC', s_setOwn', s_unp', s_app', s_ex', s_ret', s_retO', s_retN', s_ife', s_for', s_whl', s_raise', s_try', s_brk', s_cont', ss_nil', ss_cons', h_nil, h_some, h_none, bor, slotE, slotB, isiD, D.isTy, D.truth, unD, binD, guardL, ownArg, isOwn, biD, itHot, BI.hot, tgOwn, ownIt, itemsD, seqD, D.noL]
      omega
    have c1 := C10a (T := T22 call) (ρ := R34 s (nts ks) (.val (.int k)) a3 a4 (.val (.lst (nts vs))) (.val (.lst (prs ps))) a7 a8 a9) (ks := ks) (m := k + 1) rfl rfl (by omega) rfl hl (fun z => by simp [q_var, q_cst, q_bin, q_un, q_and, q_or, q_ife, q_tup, q_lst, q_idx, q_slc, q_call, q_callk, q_bi, q_isi, q_rngL, q_rngO, q_cmp, q_exf, q_exi, q_bv, t_yes, t_and, t_or, t_not, t_of, o_none, o_some, es_nil, es_cons, bs_nil, bs_cons, i_of, i_rng, i_enum, i_zip, i_rev, s_pass', s_set', s_setC', s_setOwn', s_unp', s_app', s_ex', s_ret', s_retO', s_retN', s_ife', s_for', s_whl', s_raise', s_try', s_brk', s_cont', ss_nil', ss_cons', h_nil, h_some, h_none, bor, slotE, slotB, isiD, D.isTy, D.truth, unD, binD, guardL, ownArg, isOwn, biD, itHot, BI.hot, tgOwn, ownIt, itemsD, seqD, D.noL]) rfl
    have c2 := fun Z : Slot => C10b (T := T22 call) (ρ := R34 s (nts ks) (.val (.int k)) a3 a4 Z (.val (.lst (prs ps))) a7 a8 a9) (ks := ks) (m := k + 1) rfl rfl (by omega) rfl hl (fun z => by simp [q_var, q_cst, q_bin, q_un, q_and, q_or, q_ife, q_tup, q_lst, q_idx, q_slc, q_call, q_callk, q_bi, q_isi, q_rngL, q_rngO, q_cmp, q_exf, q_exi, q_bv, t_yes, t_and, t_or, t_not, t_of, o_none, o_some, es_nil, es_cons, bs_nil, bs_cons, i_of, i_rng, i_enum, i_zip, i_rev, s_pass', s_set', s_setC', s_setOwn', s_unp', s_app', s_ex', s_ret', s_retO', s_retN', s_ife', s_for', s_whl', s_raise', s_try', s_brk', s_cont', ss_nil', ss_cons', h_nil, h_some, h_none, bor, slotE, slotB, isiD, D.isTy, D.truth, unD, binD, guardL, ownArg, isOwn, biD, itHot, BI.hot, tgOwn, ownIt, itemsD, seqD, D.noL]) rfl
    refine ⟨(List.range 8).map fun i => ks.getD (52 + i) 0 % (k + 1), (List.range 24).map fun i => (ks.getD (60 + i) 0 % (k + 1), ks.getD (84 + i) 0 % (k + 1)), ?_, ?_, ?_⟩
    · intro v hv
      obtain ⟨i, _, rfl⟩ := List.mem_map.mp hv
      have := Nat.mod_lt (ks.getD (52 + i) 0) (show 0 < k + 1 by omega)
      omega
    · intro p hp
      obtain ⟨i, _, rfl⟩ := List.mem_map.mp hp
      have h1 := Nat.mod_lt (ks.getD (60 + i) 0) (show 0 < k + 1 by omega)
      have h2 := Nat.mod_lt (ks.getD (84 + i) 0) (show 0 < k + 1 by omega)
      constructor <;> simp only <;> omega
    · generalize nts ((List.range 8).map fun i => ks.getD (52 + i) 0 % (k + 1)) = Z1 at *
      generalize prs ((List.range 24).map fun i => (ks.getD (60 + i) 0 % (k + 1), ks.getD (84 + i) 0 % (k + 1))) = Z2 at *
      rw [s_ife', c, ok_on, if_pos rfl, ss_cons', s_setC', if_neg (show ¬ (false = true) from Bool.false_ne_true), c1, ok_on, nx_to, s_setC', if_neg (show ¬ (false = true) from Bool.false_ne_true)]
      have c2' := c2 (.val (.lst Z1))
      show ((evE (T22 call) _ (R34 s (nts ks) (.val (.int k)) a3 a4 (.val (.lst Z1)) (.val (.lst (prs ps))) a7 a8 a9)).on _ _).andThen _ = _
      rw [c2']
      rfl
  · have c : evT (T22 call) (.of (.bin .gt (.var 2) (.cst (.int 9)))) (R34 s (nts ks) (.val (.int k)) a3 a4 (.val (.lst (nts vs))) (.val (.lst (prs ps))) a7 a8 a9) = .ok false := by
      simp [q_var, q_cst, q_bin, q_un, q_and, q_or, q_ife, q_tup, q_lst, q_idx, q_slc, q_call, q_callk, q_bi, q_isi, q_rngL, q_rngO, q_cmp, q_exf, q_exi, q_bv, t_yes, t_and, t_or, t_not, t_of, o_none, o_some, es_nil, es_cons, bs_nil, bs_cons, i_of, i_rng, i_enum, i_zip, i_rev, s_pass', s_set', s_setC', s_setOwn', s_unp', s_app', s_ex', s_ret', s_retO', s_retN', s_ife', s_for', s_whl', s_raise', s_try', s_brk', s_cont', ss_nil', ss_cons', h_nil, h_some, h_none, bor, slotE, slotB, isiD, D.isTy, D.truth, unD, binD, guardL, ownArg, isOwn, biD, itHot, BI.hot, tgOwn, ownIt, itemsD, seqD, D.noL]
      omega
    exact ⟨vs, ps, hv, hp, by rw [s_ife', c]; rfl⟩
abbrev B11 : CS := (.ife (.not (.of (.call 31 [(.var 3), (.var 4), (.var 7), (.cst (.bl false))]))) [(.ret (.cst (.bl false)))] [])
theorem B11_is {v : Nat} (h : call false 31 [t, u, .int v, .bl false] = .ok (.bl true)) : evS (T22 call) B11 (R34 s l sz (.val t) (.val u) a5 a6 (.val (.int v)) a8 a9) = .nx (R34 s l sz (.val t) (.val u) a5 a6 (.val (.int v)) a8 a9) := by
  simp [q_var, q_cst, q_bin, q_un, q_and, q_or, q_ife, q_tup, q_lst, q_idx, q_slc, q_call, q_callk, q_bi, q_isi, q_rngL, q_rngO, q_cmp, q_exf, q_exi, q_bv, t_yes, t_and, t_or, t_not, t_of, o_none, o_some, es_nil, es_cons, bs_nil, bs_cons, i_of, i_rng, i_enum, i_zip, i_rev, s_pass', s_set', s_setC', s_setOwn', s_unp', s_app', s_ex', s_ret', s_retO', s_retN', s_ife', s_for', s_whl', s_raise', s_try', s_brk', s_cont', ss_nil', ss_cons', h_nil, h_some, h_none, bor, slotE, slotB, isiD, D.isTy, D.truth, unD, binD, guardL, ownArg, isOwn, biD, itHot, BI.hot, tgOwn, ownIt, itemsD, seqD, D.noL, h]
abbrev B12 : CS := (.ife (.not (.of (.call 32 [(.var 3), (.var 4), (.var 7), (.var 8), (.cst (.bl false))]))) [(.ret (.cst (.bl false)))] [])
theorem B12_is {v w : Nat} (h : call false 32 [t, u, .int v, .int w, .bl false] = .ok (.bl true)) : evS (T22 call) B12 (R34 s l sz (.val t) (.val u) a5 a6 (.val (.int v)) (.val (.int w)) a9) = .nx (R34 s l sz (.val t) (.val u) a5 a6 (.val (.int v)) (.val (.int w)) a9) := by
  simp [q_var, q_cst, q_bin, q_un, q_and, q_or, q_ife, q_tup, q_lst, q_idx, q_slc, q_call, q_callk, q_bi, q_isi, q_rngL, q_rngO, q_cmp, q_exf, q_exi, q_bv, t_yes, t_and, t_or, t_not, t_of, o_none, o_some, es_nil, es_cons, bs_nil, bs_cons, i_of, i_rng, i_enum, i_zip, i_rev, s_pass', s_set', s_setC', s_setOwn', s_unp', s_app', s_ex', s_ret', s_retO', s_retN', s_ife', s_for', s_whl', s_raise', s_try', s_brk', s_cont', ss_nil', ss_cons', h_nil, h_some, h_none, bor, slotE, slotB, isiD, D.isTy, D.truth, unD, binD, guardL, ownArg, isOwn, biD, itHot, BI.hot, tgOwn, ownIt, itemsD, seqD, D.noL, h]
theorem L11_is {vs : List Nat} (hv : InV k vs) (h : ∀ v ≤ k, call false 31 [t, u, .int (v : Nat), .bl false] = .ok (.bl true)) : ∃ a7', evS (T22 call) (.for (.nm 7) (.of (.var 5)) [B11]) (R34 s l sz (.val t) (.val u) (.val (.lst (nts vs))) a6 a7 a8 a9) = .nx (R34 s l sz (.val t) (.val u) (.val (.lst (nts vs))) a6 a7' a8 a9) := by
  obtain ⟨ρ', e, a7', rfl⟩ := forL_ix (tg := .nm 7) (body := evSs (T22 call) [B11]) (I := fun _ ρ => ∃ a7, ρ = R34 s l sz (.val t) (.val u) (.val (.lst (nts vs))) a6 a7 a8 a9) (nts vs) 0 _ ⟨a7, rfl⟩ (by
    intro i hi ρ hI
    obtain ⟨a7, rfl⟩ := hI
    have hi' : i < vs.length := by simpa using hi
    have hd : (nts vs)[i] = .int ((vs[i] : Nat) : Int) := by simp
    rw [hd]
    refine ⟨R34 s l sz (.val t) (.val u) (.val (.lst (nts vs))) a6 (.val (.int (vs[i] : Nat))) a8 a9, R34 s l sz (.val t) (.val u) (.val (.lst (nts vs))) a6 (.val (.int (vs[i] : Nat))) a8 a9, rfl, ?_, .val (.int (vs[i] : Nat)), rfl⟩
    rw [ss_cons', B11_is (h _ (hv _ (List.getElem_mem hi'))), nx_end])
  exact ⟨a7', by rw [s_for', show evI (T22 call) (.of (.var 5)) (R34 s l sz (.val t) (.val u) (.val (.lst (nts vs))) a6 a7 a8 a9) = .ok (nts vs) from rfl, ok_on, e]; rfl⟩
theorem L12_is {ps : List (Nat × Nat)} (hp : InP k ps) (h : ∀ v ≤ k, ∀ w ≤ k, call false 32 [t, u, .int (v : Nat), .int (w : Nat), .bl false] = .ok (.bl true)) : ∃ a7' a8', evS (T22 call) (.for (.tp [7, 8]) (.of (.var 6)) [B12]) (R34 s l sz (.val t) (.val u) a5 (.val (.lst (prs ps))) a7 a8 a9) = .nx (R34 s l sz (.val t) (.val u) a5 (.val (.lst (prs ps))) a7' a8' a9) := by
  obtain ⟨ρ', e, a7', a8', rfl⟩ := forL_ix (tg := .tp [7, 8]) (body := evSs (T22 call) [B12]) (I := fun _ ρ => ∃ a7 a8, ρ = R34 s l sz (.val t) (.val u) a5 (.val (.lst (prs ps))) a7 a8 a9) (prs ps) 0 _ ⟨a7, a8, rfl⟩ (by
    intro i hi ρ hI
    obtain ⟨a7, a8, rfl⟩ := hI
    have hi' : i < ps.length := by simpa using hi
    have hd : (prs ps)[i] = .tup [.int ((ps[i].1 : Nat) : Int), .int ((ps[i].2 : Nat) : Int)] := by simp
    have hq := hp _ (List.getElem_mem hi')
    rw [hd]
    refine ⟨R34 s l sz (.val t) (.val u) a5 (.val (.lst (prs ps))) (.val (.int (ps[i].1 : Nat))) (.val (.int (ps[i].2 : Nat))) a9, R34 s l sz (.val t) (.val u) a5 (.val (.lst (prs ps))) (.val (.int (ps[i].1 : Nat))) (.val (.int (ps[i].2 : Nat))) a9, rfl, ?_, .val (.int (ps[i].1 : Nat)), .val (.int (ps[i].2 : Nat)), rfl⟩
    rw [ss_cons', B12_is (h _ hq.1 _ hq.2), nx_end])
  exact ⟨a7', a8', by rw [s_for', show evI (T22 call) (.of (.var 6)) (R34 s l sz (.val t) (.val u) a5 (.val (.lst (prs ps))) a7 a8 a9) = .ok (prs ps) from rfl, ok_on, e]; rfl⟩
end
end Vk02_whole_elders
end
section
set_option Elab.async false
set_option linter.all false
set_option maxRecDepth 100000
set_option maxHeartbeats 2000000
namespace Vk02_whole_elders
open PySem PySem.Spec Ev
section
variable {call : Cal} {s u t : D} {l : List D} {sz : Slot} {k : Nat} {ks : List Nat} {a2 a3 a4 a5 a6 a7 a8 a9 : Slot}
theorem rowmod {T : Tb} {ρ : Rho} {c x m : Nat} {ci : Int} (hT : T.hot = false) (h0 : 0 < m) (e1 : ρ[1]? = some (.val (.lst l))) (g : getI l ci = .ok (.int (x : Int))) (he : evE T S1 ρ = .ok (.int (m : Int))) : evE T (.bin .mod (.bi .int [(.idx (.var 1) (.cst (.int ci)))]) S1) ρ = .ok (.int ((x % m : Nat) : Int)) := by
  generalize hE : S1 = E at *
  have hB : bor E ρ (evE T E ρ) = .ok (.int (m : Int)) := by rw [← hE] at he ⊢; exact he
  simp only [q_bin, hB, q_bi, bs_cons, bs_nil, q_idx, q_cst, q_bv, q_var, e1, hT]
  simp [bor, slotB, slotE, binD, biD, idxD, g, h0]
abbrev L13 : CS := (.set 7 (.bin .mod (.bi .int [(.idx (.var 1) (.cst (.int 108)))]) S1))
abbrev L14 : CS := (.set 8 (.bin .mod (.bi .int [(.idx (.var 1) (.cst (.int 109)))]) S1))
theorem L13_is {x : Nat} (g : getI l 108 = .ok (.int (x : Int))) : evS (T22 call) L13 (R34 s l (.val (.int k)) a3 a4 a5 a6 a7 a8 a9) = .nx (R34 s l (.val (.int k)) a3 a4 a5 a6 (.val (.int (x % (k + 1) : Nat))) a8 a9) := by
  rw [s_set', rowmod (c := 0) rfl (show 0 < k + 1 by omega) rfl g sz1]
  rfl
theorem L14_is {x : Nat} (g : getI l 109 = .ok (.int (x : Int))) : evS (T22 call) L14 (R34 s l (.val (.int k)) a3 a4 a5 a6 a7 a8 a9) = .nx (R34 s l (.val (.int k)) a3 a4 a5 a6 a7 (.val (.int (x % (k + 1) : Nat))) a9) := by
  rw [s_set', rowmod (c := 0) rfl (show 0 < k + 1 by omega) rfl g sz1]
  rfl
abbrev L15 : CS := (.ife (.or (.not (.of (.call 31 [(.var 3), (.var 4), (.var 8), (.cst (.bl true))]))) (.not (.of (.call 32 [(.var 3), (.var 4), (.var 7), (.var 8), (.cst (.bl true))])))) [(.ret (.cst (.bl false)))] [])
theorem L15_is {v w : D} (h1 : call false 31 [t, u, w, .bl true] = .ok (.bl true)) (h2 : call false 32 [t, u, v, w, .bl true] = .ok (.bl true)) : evS (T22 call) L15 (R34 s l sz (.val t) (.val u) a5 a6 (.val v) (.val w) a9) = .nx (R34 s l sz (.val t) (.val u) a5 a6 (.val v) (.val w) a9) := by
  simp [q_var, q_cst, q_bin, q_un, q_and, q_or, q_ife, q_tup, q_lst, q_idx, q_slc, q_call, q_callk, q_bi, q_isi, q_rngL, q_rngO, q_cmp, q_exf, q_exi, q_bv, t_yes, t_and, t_or, t_not, t_of, o_none, o_some, es_nil, es_cons, bs_nil, bs_cons, i_of, i_rng, i_enum, i_zip, i_rev, s_pass', s_set', s_setC', s_setOwn', s_unp', s_app', s_ex', s_ret', s_retO', s_retN', s_ife', s_for', s_whl', s_raise', s_try', s_brk', s_cont', ss_nil', ss_cons', h_nil, h_some, h_none, bor, slotE, slotB, isiD, D.isTy, D.truth, unD, binD, guardL, ownArg, isOwn, biD, itHot, BI.hot, tgOwn, ownIt, itemsD, seqD, D.noL, h1, h2]
abbrev odE : CE := (.tup [(.bin .add (.var 2) (.cst (.int 1))), (.un .neg (.cst (.int 1))), (.cst (.bl true)), (.cst (.bl false)), (.cst .non), (.cst (.str (L "0"))), (.tup [(.var 7)]), (.lst [(.var 7)]), (.bin .add (.var 2) (.cst (.int 2))), (.bin .pow (.cst (.int 10)) (.cst (.int 20))), (.bin .sub (.un .neg (.var 2)) (.cst (.int 1))), (.tup [])])
abbrev odL (k : Nat) (v : Nat) : List D := [.int (k + 1), .int (-1), .bl true, .bl false, .non, .str (L "0"), .tup [.int v], .lst [.int v], .int (k + 2), .int 100000000000000000000, .int (-k - 1), .tup []]
theorem odE_is {T : Tb} {v : Nat} : evE T odE (R34 s l (.val (.int k)) a3 a4 a5 a6 (.val (.int v)) a8 a9) = .ok (.tup (odL k v)) := by
  simp [q_var, q_cst, q_bin, q_un, q_and, q_or, q_ife, q_tup, q_lst, q_idx, q_slc, q_call, q_callk, q_bi, q_isi, q_rngL, q_rngO, q_cmp, q_exf, q_exi, q_bv, t_yes, t_and, t_or, t_not, t_of, o_none, o_some, es_nil, es_cons, bs_nil, bs_cons, i_of, i_rng, i_enum, i_zip, i_rev, s_pass', s_set', s_setC', s_setOwn', s_unp', s_app', s_ex', s_ret', s_retO', s_retN', s_ife', s_for', s_whl', s_raise', s_try', s_brk', s_cont', ss_nil', ss_cons', h_nil, h_some, h_none, bor, slotE, slotB, isiD, D.isTy, D.truth, unD, binD, guardL, ownArg, isOwn, biD, itHot, BI.hot, tgOwn, ownIt, itemsD, seqD, D.noL]
theorem odL_nv {p : List Nat} {v : Nat} (hp : p.length = k) (hk : k ≤ 40) : ∀ d ∈ odL k v, NV p d := by
  intro d hd
  simp only [odL, List.mem_cons, List.not_mem_nil, or_false] at hd
  rcases hd with h | h | h | h | h | h | h | h | h | h | h | h <;> subst h <;> refine ⟨rfl, ?_⟩ <;> simp [isNum, leInt] <;> omega
abbrev L16 : CS := (.set 9 (.idx odE (.bin .mod (.bi .int [(.idx (.var 1) (.cst (.int 110)))]) (.cst (.int 12)))))
theorem L16_is {x v : Nat} {p : List Nat} (g : getI l 110 = .ok (.int (x : Int))) (hp : p.length = k) (hk : k ≤ 40) : ∃ d, NV p d ∧ evS (T22 call) L16 (R34 s l (.val (.int k)) a3 a4 a5 a6 (.val (.int v)) a8 a9) = .nx (R34 s l (.val (.int k)) a3 a4 a5 a6 (.val (.int v)) a8 (.val d)) := by
  obtain ⟨d, hd, e⟩ := getI_mod (xs := odL k v) (m := 12) (z := (x : Int)) rfl (by omega)
  refine ⟨d, odL_nv hp hk d hd, ?_⟩
  have e1 : evE (T22 call) (.bin .mod (.bi .int [(.idx (.var 1) (.cst (.int 110)))]) (.cst (.int 12))) (R34 s l (.val (.int k)) a3 a4 a5 a6 (.val (.int v)) a8 a9) = .ok (.int ((x : Int) % 12)) := by
    simp [q_var, q_cst, q_bin, q_un, q_and, q_or, q_ife, q_tup, q_lst, q_idx, q_slc, q_call, q_callk, q_bi, q_isi, q_rngL, q_rngO, q_cmp, q_exf, q_exi, q_bv, t_yes, t_and, t_or, t_not, t_of, o_none, o_some, es_nil, es_cons, bs_nil, bs_cons, i_of, i_rng, i_enum, i_zip, i_rev, s_pass', s_set', s_setC', s_setOwn', s_unp', s_app', s_ex', s_ret', s_retO', s_retN', s_ife', s_for', s_whl', s_raise', s_try', s_brk', s_cont', ss_nil', ss_cons', h_nil, h_some, h_none, bor, slotE, slotB, isiD, D.isTy, D.truth, unD, binD, guardL, ownArg, isOwn, biD, itHot, BI.hot, tgOwn, ownIt, itemsD, seqD, D.noL, idxD, g]
  rw [show ((12 : Nat) : Int) = 12 from rfl] at e
  rw [s_set', q_idx, e1]
  simp only [bor, odE_is, ok_bind, idxD, e]
  rfl
abbrev L17 : CS := (.ret (.and (.call 30 [(.var 3), (.var 9), (.var 7)]) (.call 33 [(.var 3), (.var 4), (.cst (.bl true))])))
theorem L17_is {v x : D} (h1 : call false 30 [t, x, v] = .ok (.bl true)) (h2 : call false 33 [t, u, .bl true] = .ok (.bl true)) : evS (T22 call) L17 (R34 s l sz (.val t) (.val u) a5 a6 (.val v) a8 (.val x)) = .ret (.bl true) := by
  simp [q_var, q_cst, q_bin, q_un, q_and, q_or, q_ife, q_tup, q_lst, q_idx, q_slc, q_call, q_callk, q_bi, q_isi, q_rngL, q_rngO, q_cmp, q_exf, q_exi, q_bv, t_yes, t_and, t_or, t_not, t_of, o_none, o_some, es_nil, es_cons, bs_nil, bs_cons, i_of, i_rng, i_enum, i_zip, i_rev, s_pass', s_set', s_setC', s_setOwn', s_unp', s_app', s_ex', s_ret', s_retO', s_retN', s_ife', s_for', s_whl', s_raise', s_try', s_brk', s_cont', ss_nil', ss_cons', h_nil, h_some, h_none, bor, slotE, slotB, isiD, D.isTy, D.truth, unD, binD, guardL, ownArg, isOwn, biD, itHot, BI.hot, tgOwn, ownIt, itemsD, seqD, D.noL, h1, h2]
end
abbrev TT : Ev.R D := .ok (.bl true)
theorem body34 {call : Cal} {s : D} {ks : List Nat} (hl : ks.length = 128) (c22 : call false 22 [s, .int 128] = .ok (.lst (nts ks)))
    (c24 : ∀ bs : List Nat, bs.length = 40 → ∀ k ≤ 40, ∀ sh : Int, ∃ t, Par t ∧ t.length = k ∧ call false 24 [.lst (nts bs), .int (k : Nat), .int sh] = .ok (hs t))
    (c25 : ∀ t, Par t → t.length ≤ 40 → call false 25 [hs t] = .ok (ups t))
    (c26 : ∀ bs t : List Nat, bs.length = 9 → t.length ≤ 40 → ∃ d, Th d ∧ call false 26 [.lst (nts bs), hs t] = .ok d)
    (c28 : ∀ x, Th x → call false 28 [x] = TT)
    (c30 : ∀ t, Par t → t.length ≤ 40 → ∀ v ≤ t.length, ∀ x, NV t x → call false 30 [hs t, x, .int (v : Nat)] = TT)
    (c31 : ∀ t, Par t → t.length ≤ 40 → ∀ v ≤ t.length, ∀ b, call false 31 [hs t, ups t, .int (v : Nat), .bl b] = TT)
    (c32 : ∀ t, Par t → t.length ≤ 40 → ∀ v ≤ t.length, ∀ w ≤ t.length, ∀ b, call false 32 [hs t, ups t, .int (v : Nat), .int (w : Nat), .bl b] = TT)
    (c33 : ∀ t, Par t → t.length ≤ 40 → ∀ b, call false 33 [hs t, ups t, .bl b] = TT) :
    (evSs (T22 call) b34 [.val s, .none, .none, .none, .none, .none, .none, .none, .none, .none, .none]).fin = TT := by
  have e1 : evS (T22 call) (.set 1 (.call 22 [(.var 0), (.cst (.int 128))])) [.val s, .none, .none, .none, .none, .none, .none, .none, .none, .none, .none] = .nx (R34 s (nts ks) .none .none .none .none .none .none .none .none) := by
    generalize nts ks = L at *
    simp [q_var, q_cst, q_bin, q_un, q_and, q_or, q_ife, q_tup, q_lst, q_idx, q_slc, q_call, q_callk, q_bi, q_isi, q_rngL, q_rngO, q_cmp, q_exf, q_exi, q_bv, t_yes, t_and, t_or, t_not, t_of, o_none, o_some, es_nil, es_cons, bs_nil, bs_cons, i_of, i_rng, i_enum, i_zip, i_rev, s_pass', s_set', s_setC', s_setOwn', s_unp', s_app', s_ex', s_ret', s_retO', s_retN', s_ife', s_for', s_whl', s_raise', s_try', s_brk', s_cont', ss_nil', ss_cons', h_nil, h_some, h_none, bor, slotE, slotB, isiD, D.isTy, D.truth, unD, binD, guardL, ownArg, isOwn, biD, itHot, BI.hot, tgOwn, ownIt, itemsD, seqD, D.noL, c22]
  have e2 := L2_is (call := call) (s := s) (sz := .none) (a3 := .none) (a4 := .none) (a5 := .none) (a6 := .none) (a7 := .none) (a8 := .none) (a9 := .none) (row_get hl (i := 0) (by omega))
  obtain ⟨k, hk, e3⟩ := L3_is (call := call) (s := s) (q := rowg ks 0) (a3 := .none) (a4 := .none) (a5 := .none) (a6 := .none) (a7 := .none) (a8 := .none) (a9 := .none) (row_get hl (i := 1) (by omega))
  have l40 : (cutL ks (some 2) (some 42)).length = 40 := by
    simp [cutL, sixD, hl]
  have l9 : (cutL ks (some 43) (some 52)).length = 9 := by
    simp [cutL, sixD, hl]
  obtain ⟨t, hp, ht, c24'⟩ := c24 _ l40 k hk (rowg ks 42 % 8)
  have tl : t.length ≤ 40 := by omega
  have e4 := L4_is (s := s) (a3 := .none) (a4 := .none) (a5 := .none) (a6 := .none) (a7 := .none) (a8 := .none) (a9 := .none) (row_get hl (i := 42) (by omega)) (cut_nts ks (some 2) (some 42)) c24'
  have e5 := L5_is (s := s) (l := nts ks) (sz := .val (.int k)) (a4 := .none) (a5 := .none) (a6 := .none) (a7 := .none) (a8 := .none) (a9 := .none) (c25 t hp tl)
  obtain ⟨d, hd, c26'⟩ := c26 _ t l9 tl
  have th : Th (hs t) := ⟨by simp; omega, noR_nts t⟩
  have e6 := L6_is (s := s) (sz := .val (.int k)) (a4 := .val (ups t)) (a5 := .none) (a6 := .none) (a7 := .none) (a8 := .none) (a9 := .none) (cut_nts ks (some 43) (some 52)) (c28 _ th) c26' (c28 _ hd)
  have e7 := L7_is (s := s) (l := nts ks) (sz := .val (.int k)) (a5 := .none) (a6 := .none) (a7 := .none) (a8 := .none) (a9 := .none) (c33 t hp tl false)
  have e8 := L8_is (call := call) (s := s) (l := nts ks) (a3 := .val (hs t)) (a4 := .val (ups t)) (a5 := .none) (a6 := .none) (a7 := .none) (a8 := .none) (a9 := .none) hk
  obtain ⟨ps, ip, e9⟩ := L9_is (call := call) (s := s) (l := nts ks) (a3 := .val (hs t)) (a4 := .val (ups t)) (a5 := .val (.lst (nts (List.range (k + 1))))) (a6 := .none) (a7 := .none) (a8 := .none) (a9 := .none) hk
  have iv : InV k (List.range (k + 1)) := fun v hv => by have := List.mem_range.mp hv; omega
  obtain ⟨vs', ps', iv', ip', e10⟩ := L10_is (call := call) (s := s) (a3 := .val (hs t)) (a4 := .val (ups t)) (a7 := .none) (a8 := .none) (a9 := .none) hl hk iv ip
  obtain ⟨a7, e11⟩ := L11_is (call := call) (s := s) (l := nts ks) (sz := .val (.int k)) (t := hs t) (u := ups t) (a6 := .val (.lst (prs ps'))) (a7 := .none) (a8 := .none) (a9 := .none) iv' (fun v hv => c31 t hp tl v (by omega) false)
  obtain ⟨a7', a8', e12⟩ := L12_is (call := call) (s := s) (l := nts ks) (sz := .val (.int k)) (t := hs t) (u := ups t) (a5 := .val (.lst (nts vs'))) (a7 := a7) (a8 := .none) (a9 := .none) ip' (fun v hv w hw => c32 t hp tl v (by omega) w (by omega) false)
  have e13 := L13_is (call := call) (s := s) (k := k) (a3 := .val (hs t)) (a4 := .val (ups t)) (a5 := .val (.lst (nts vs'))) (a6 := .val (.lst (prs ps'))) (a7 := a7') (a8 := a8') (a9 := .none) (row_get hl (i := 108) (by omega))
  have v1 := Nat.mod_lt (ks.getD 108 0) (show 0 < k + 1 by omega)
  generalize ks.getD 108 0 % (k + 1) = v at *
  have e14 := L14_is (call := call) (s := s) (k := k) (a3 := .val (hs t)) (a4 := .val (ups t)) (a5 := .val (.lst (nts vs'))) (a6 := .val (.lst (prs ps'))) (a7 := .val (.int v)) (a8 := a8') (a9 := .none) (row_get hl (i := 109) (by omega))
  have w1 := Nat.mod_lt (ks.getD 109 0) (show 0 < k + 1 by omega)
  generalize ks.getD 109 0 % (k + 1) = w at *
  have e15 := L15_is (s := s) (l := nts ks) (sz := .val (.int k)) (a5 := .val (.lst (nts vs'))) (a6 := .val (.lst (prs ps'))) (a9 := .none) (c31 t hp tl w (by omega) true) (c32 t hp tl v (by omega) w (by omega) true)
  obtain ⟨o, ho, e16⟩ := L16_is (call := call) (s := s) (v := v) (a3 := .val (hs t)) (a4 := .val (ups t)) (a5 := .val (.lst (nts vs'))) (a6 := .val (.lst (prs ps'))) (a8 := .val (.int w)) (a9 := .none) (row_get hl (i := 110) (by omega)) ht hk
  have e17 := L17_is (s := s) (l := nts ks) (sz := .val (.int k)) (a5 := .val (.lst (nts vs'))) (a6 := .val (.lst (prs ps'))) (a8 := .val (.int w)) (c30 t hp tl v (by omega) o ho) (c33 t hp tl true)
  unfold b34
  rw [ss_cons', e1, nx_to, e2, nx_to, e3, nx_to, e4, nx_to, e5, nx_to, e6, nx_to, e7, nx_to, e8, nx_to, e9, nx_to, e10, nx_to, e11, nx_to, e12, nx_to, e13, nx_to, e14, nx_to, e15, nx_to, e16, nx_to, e17]
  rfl
theorem good : Good 40 := by
  intro ns hn
  rw [run1 (d := ⟨1, 11, b34⟩) rfl rfl]
  obtain ⟨ks, hl, _, e22⟩ := r22 (n := 37) ns
  exact body34 hl e22 (fun bs hb k hk sh => r24 (n := 38) hb hk) (fun t hp ht => r25 (n := 38) hp (by omega)) (fun bs t hb ht => r26 (n := 38) hb ht) (fun x hx => r28 (n := 32) hx) (fun t hp ht v hv x hx => r30 (n := 31) hp (by omega) hv hx) (fun t hp ht v hv b => r31 (n := 32) hp (by omega) hv b) (fun t hp ht v hv w hw b => r32 (n := 32) hp (by omega) hv hw b) (fun t hp ht b => r33 (n := 32) hp (by omega) b)
end Vk02_whole_elders
end
theorem PySem.Challenge.cw_sincemarks_k02_whole_elders_holds : PySem.Challenge.rw_sincemarks_k02_whole_elders.Holds := by
  exact Vk02_whole_elders.holds_of Vk02_whole_elders.good
