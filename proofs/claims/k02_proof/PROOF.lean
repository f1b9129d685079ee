import PyProof.Rows.All
import Wide.All
import OpenK.AllK
import Wide.FinOn
import HandS.ForMost
import HandS.ForList
import HandS.ForDict
import HandS.Walk
import HandS.IsInst
import HandS.Wide
import HandS.Defaults
import HandS.More
import HandS.Style
import HandS.WordsDict
import HandS.SortInts
import PyProof.ReprRoads
import HandS.Zip
import KE.KDictPairs
import HandS.Codes
import HandS.Head0
import HandS.Head1
import HandS.Head2
import HandS.HeadEnd
import HandS.HeadHook1
import HandS.HeadHook2
import HandS.EndBits
import HandS.Words
import PySem.Challenge.RW_letterfolk_k02_worths
import PyProof.ReprLen
set_option Elab.async false
set_option linter.all false
set_option maxRecDepth 100000
set_option maxHeartbeats 0
/-! DE: a small language of data, its runs as plain functions. -/
namespace DE
open PySem L2

abbrev D := PyData

/-- what a name may stand for: data that nobody changes; a list, a dict that this name alone has; a cell; the own object of a slot, read -/
inductive SV where
  | d (x : D)
  | l (xs : List D)
  | m (own : Bool) (kvs : List (Key × D))
  | c (n : Nat)
  | b (i : Nat)

abbrev Cell := List (Key × D)

/-- slots, cells -/
structure S where
  v : List (Option SV)
  h : List Cell

inductive BOp where
  | add | sub | mul | fdiv | mod | pow
  deriving DecidableEq
inductive COp where
  | eq | ne | lt | le | gt | ge | isN | notN | inn | nin
  deriving DecidableEq
/-- built-in functions of one value -/
inductive Bi where
  | len | list | tuple | dict | sorted | repr | int | all | any | sum | str | ord
  deriving DecidableEq
inductive Ty where
  | int | bool | str | tuple | list
  deriving DecidableEq

/-- a target -/
inductive T where
  | nm (i : Nat)
  | tp (ts : List T)

mutual
inductive E where
  | k (x : D)
  | v (i : Nat)
  | z (i : Nat)
  | mv (i : Nat)
  | g (n : Nat)
  | tup (es : List E)
  | lst (es : List E)
  | bin (op : BOp) (a b : E)
  | neg (a : E)
  | cmp (op : COp) (a b : E)
  | cmp2 (op op' : COp) (a b c : E)
  | and_ (es : List E)
  | or_ (es : List E)
  | not_ (a : E)
  | ite (c a b : E)
  | ix (a i : E)
  | sl (a : E) (lo hi : Option E)
  | rev (a : E)
  | isi (a : E) (t : Ty)
  | bi (f : Bi) (a : E)
  | two (mx : Bool) (a b : E)
  | call (p : Nat) (es ks : List E)
  | pop (i : Nat)
  | get2 (a k x : E)
  | dct (ks : List Key) (es : List E)
  | comp (elt : E) (t : T) (it : I) (own : List Nat) (c : Option E)
inductive I where
  | seq (a : E)
  | rng (a : E)
  | rng2 (a b : E)
  | zip (a b : E)
  | enum (a : E)
end

inductive St where
  | asg (t : T) (e : E)
  | asgc (i : Nat) (e : E)
  | mas (ts : List Nat) (es : List E)
  | setit (i : Nat) (k e : E)
  | app (i : Nat) (e : E)
  | ext (i : Nat) (e : E)
  | ex (e : E)
  | ret (e : E)
  | retN
  | iff (c : E) (a b : List St)
  | forr (t : T) (it : I) (body : List St)
  | whl (c : E) (body : List St)
  | cont
  | brk
  | aug (i : Nat) (op : BOp) (e : E)

/-! ### values -/
def S.set (s : S) (i : Nat) (w : SV) : S := { s with v := s.v.set i (some w) }
def S.at (s : S) (i : Nat) : Option SV := (s.v[i]?).join

/-- what is read of a value: data -/
def S.view (s : S) : SV → Option D
  | .d x => some x
  | .l xs => some (.list xs)
  | .b i => match s.at i with
    | some (.d x) => some x
    | some (.l xs) => some (.list xs)
    | _ => none
  | _ => none
/-- a value that nobody changes any more -/
def S.fz (s : S) : SV → Option (D × S)
  | .d x => some (x, s)
  | .l xs => some (.list xs, s)
  | .b i => match s.at i with
    | some (.d x) => some (x, s)
    | some (.l xs) => some (.list xs, s.set i (.d (.list xs)))
    | _ => none
  | _ => none
/-- what is handed to a def, kept in a slot -/
def S.hand (s : S) : SV → Option (SV × S)
  | .d x => some (.d x, s)
  | .l xs => some (.l xs, s)
  | .m o kvs => some (.m o kvs, s)
  | .c n => some (.c n, s)
  | .b i => match s.at i with
    | some (.d x) => some (.d x, s)
    | some (.l xs) => some (.d (.list xs), s.set i (.d (.list xs)))
    | some (.m _ kvs) => some (.m false kvs, s.set i (.m false kvs))
    | _ => none
def find (kvs : List (Key × D)) (k : Key) : Option D :=
  match kvs with
  | [] => none
  | (j, x) :: r => if j = k then some x else find r k
def put (kvs : List (Key × D)) (k : Key) (x : D) : List (Key × D) :=
  if (kvs.any fun kv => decide (kv.1 = k)) = true then kvs.map (fun kv => if kv.1 = k then (kv.1, x) else kv) else kvs ++ [(k, x)]
def keyOf : D → Option Key
  | .int i => some (.inl i)
  | .str x => some (.inr x)
  | _ => none
def ofKey : Key → D
  | .inl i => .int i
  | .inr x => .str x
/-- a dict that is read -/
def S.dict (s : S) : SV → Option (List (Key × D))
  | .m _ kvs => some kvs
  | .c n => s.h[n]?
  | .b i => match s.at i with
    | some (.m _ kvs) => some kvs
    | some (.c n) => s.h[n]?
    | _ => none
  | _ => none

def items : D → Option (List D)
  | .list xs => some xs
  | .tuple xs => some xs
  | _ => none
def okMul (i j : Int) : Bool := decide (i.natAbs < 2 ^ 64) || decide (j.natAbs < 2 ^ 64) || (decide (i.natAbs < 2 ^ 9000) && decide (j.natAbs < 2 ^ 9000))
def bin : BOp → D → D → Option SV
  | .add, .int i, .int j => some (.d (.int (i + j)))
  | .sub, .int i, .int j => some (.d (.int (i - j)))
  | .mul, .int i, .int j => if okMul i j = true then some (.d (.int (i * j))) else none
  | .fdiv, .int i, .int j => if 0 < j ∧ j < 1073741824 then some (.d (.int (i / j))) else none
  | .mod, .int i, .int j => if 0 < j then some (.d (.int (i % j))) else none
  | .pow, .int i, .int j => if 0 ≤ j ∧ j ≤ 1000 ∧ i.natAbs < 2 ^ 64 then some (.d (.int (i ^ j.toNat))) else none
  | .add, .str x, .str y => if x.length + y.length ≤ sizeLine then some (.d (.str (x ++ y))) else none
  | .add, .list xs, .list ys => if xs.length + ys.length ≤ sizeLine then some (.l (xs ++ ys)) else none
  | .add, .tuple xs, .tuple ys => if xs ≠ [] ∧ xs.length + ys.length ≤ sizeLine then some (.d (.tuple (xs ++ ys))) else none
  | _, _, _ => none
def isFlat : D → Bool
  | .none | .bool _ | .int _ | .str _ => true
  | _ => false
def isNone : D → Bool
  | .none => true
  | _ => false
def isScal : D → D → Bool
  | .none, x => isFlat x
  | x, .none => isFlat x
  | .int _, .int _ => true | .bool _, .bool _ => true | .str _, .str _ => true
  | .int _, .str _ => true | .str _, .int _ => true | .bool _, .str _ => true | .str _, .bool _ => true
  | _, _ => false
def eqOk (x y : D) : Bool := isScal x y || (SeqAt.shaped x && SeqAt.shaped y)
def mem (x : D) (ys : List D) : Bool := ys.any fun y => PyData.eqv y x
def cmp : COp → D → D → Option Bool
  | .eq, x, y => if eqOk x y = true then some (PyData.eqv x y) else none
  | .ne, x, y => if eqOk x y = true then some (!PyData.eqv x y) else none
  | .lt, .int i, .int j => some (decide (i < j))
  | .le, .int i, .int j => some (decide (i ≤ j))
  | .gt, .int i, .int j => some (decide (j < i))
  | .ge, .int i, .int j => some (decide (j ≤ i))
  | .isN, x, .none => some (isNone x)
  | .notN, x, .none => some (!isNone x)
  | .inn, x, y => (items y).bind fun ys => if isFlat x = true ∧ ys.all isFlat = true then some (mem x ys) else none
  | .nin, x, y => (items y).bind fun ys => if isFlat x = true ∧ ys.all isFlat = true then some (!mem x ys) else none
  | _, _, _ => none
def allBool : List D → Option (List Bool)
  | [] => some []
  | .bool b :: r => (allBool r).map (b :: ·)
  | _ => none
def allInt : List D → Option (List Int)
  | [] => some []
  | .int b :: r => (allInt r).map (b :: ·)
  | _ => none
def allStr : List D → Option (List Str)
  | [] => some []
  | .str b :: r => (allStr r).map (b :: ·)
  | _ => none
def strLe (a b : Str) : Bool := !decide (b.cps.toList < a.cps.toList)
def allPair : List D → Option (List (Key × D))
  | [] => some []
  | .tuple [a, b] :: r => (keyOf a).bind fun k => (allPair r).map ((k, b) :: ·)
  | _ => none
def allKeyStr : List (Key × D) → Option (List Str)
  | [] => some []
  | (.inr x, _) :: r => (allKeyStr r).map (x :: ·)
  | _ => none
def lenOf : D → Option Nat
  | .list xs => some xs.length
  | .tuple xs => some xs.length
  | .str x => if x.length ≤ sizeLine then some x.length else none
  | _ => none
def listOf : D → Option (List D)
  | .list xs => some xs
  | _ => none
def sortD (xs : List D) : Option SV := match allInt xs with
  | some ns => some (.l ((ns.mergeSort fun a b => decide (a ≤ b)).map .int))
  | none => (allStr xs).bind fun ss => if ss.length < 64 then some (.l ((ss.mergeSort strLe).map .str)) else none
def reprD (x : D) : Option SV := if x.showable = true ∧ x.hasDict = false ∧ x.shown.length ≤ sizeLine ∧ x.depth ≤ 100 then some (.d (.str x.shown)) else none
def intD : D → Option SV
  | .int i => some (.d (.int i))
  | .bool k => some (.d (.int (if k then 1 else 0)))
  | _ => none
def strD : D → Option SV
  | .int i => if i.natAbs.log2 < 1920 then some (.d (.str (toString i))) else none
  | _ => none
def ordD : D → Option SV
  | .str x => if x.length = 1 then some (.d (.int (x.cps.getD 0 0 : Nat))) else none
  | _ => none
/-- T(x), f(x) of data -/
def bi1 (f : Bi) (x : D) : Option SV := match f with
  | .len => (lenOf x).map fun (n : Nat) => .d (.int (n : Int))
  | .list => (items x).map .l
  | .tuple => (items x).map fun xs => .d (.tuple xs)
  | .dict => (items x).bind fun xs => (allPair xs).bind fun kvs => some (.m true (kvs.foldl (fun t q => put t q.1 q.2) []))
  | .sorted => (listOf x).bind sortD
  | .repr => reprD x
  | .int => intD x
  | .all => (listOf x).bind fun xs => (allBool xs).map fun bs => .d (.bool (bs.all id))
  | .any => (listOf x).bind fun xs => (allBool xs).map fun bs => .d (.bool (bs.any id))
  | .sum => (listOf x).bind fun xs => (allInt xs).map fun ns => .d (.int ns.sum)
  | .str => strD x
  | .ord => ordD x
def isTy : Ty → D → Bool
  | .int, .int _ => true
  | .int, .bool _ => true
  | .bool, .bool _ => true
  | .str, .str _ => true
  | .tuple, .tuple _ => true
  | .list, .list _ => true
  | _, _ => false
def cutL {α : Type} (xs : List α) (lo hi : Option Int) : List α := (xs.drop (HT.sIx xs.length 0 lo)).take (HT.sIx xs.length xs.length hi - HT.sIx xs.length 0 lo)
def isWhole {α : Type} (xs : List α) (lo hi : Option Int) : Bool := decide (HT.sIx xs.length 0 lo = 0) && decide (HT.sIx xs.length xs.length hi = xs.length)
def ixOf : D → Int → Option D
  | .list xs, i => atI xs i
  | .tuple xs, i => atI xs i
  | .str x, i => if x.length ≤ sizeLine then (atI x.cps.toList i).map fun c => .str ⟨#[c]⟩ else none
  | _, _ => none
def slOf : D → Option Int → Option Int → Option SV
  | .list xs, a, b => some (.l (cutL xs a b))
  | .tuple xs, a, b => if isWhole xs a b = true then none else some (.d (.tuple (cutL xs a b)))
  | _, _, _ => none

/-! ### targets -/
mutual
def asgT : T → D → S → Option S
  | .nm i, x, s => some (s.set i (.d x))
  | .tp ts, .tuple xs, s => asgTs ts xs s
  | .tp _, _, _ => none
def asgTs : List T → List D → S → Option S
  | [], [], s => some s
  | t :: ts, x :: xs, s => (asgT t x s).bind fun s' => asgTs ts xs s'
  | _, _, _ => none
end
/-- a whole value to a target: a name takes any -/
def asgV : T → SV → S → Option S
  | .nm i, .b j, s => (s.hand (.b j)).map fun (w, s') => s'.set i w
  | .nm i, w, s => some (s.set i w)
  | .tp ts, w, s => (s.view w).bind fun x => asgT (.tp ts) x s
/-- names take values, from the left -/
def asgL : List Nat → List SV → S → Option S
  | [], [], s => some s
  | i :: is, w :: ws, s => asgL is ws (s.set i w)
  | _, _, _ => none

/-! ### expressions -/
/-- a call: the pattern's number, the written values -/
abbrev Call := Nat → List SV → List Cell → Option (SV × List Cell)

def tests (f : S → Option (SV × S)) (s : S) : Option (Bool × S) :=
  (f s).bind fun (w, s') => match w with
    | .d (.bool b) => some (b, s')
    | _ => none
/-- the loop of a comprehension -/
def compL (turn : D → S → Option (Option D × S)) : List D → S → List D → Option (List D × S)
  | [], s, acc => some (acc.reverse, s)
  | x :: xs, s, acc => (turn x s).bind fun (o, s') => match o with
    | some y => compL turn xs s' (y :: acc)
    | none => compL turn xs s' acc
def S.wipe (s : S) : List Nat → S
  | [] => s
  | i :: is => let t := s.wipe is; { t with v := t.v.set i none }
/-- the slots of own as they were in s -/
def S.back (s' s : S) : List Nat → S
  | [] => s'
  | i :: is => let t := s'.back s is; { t with v := t.v.set i (s.at i) }

/-! #### the parts of a run -/
abbrev RunE := S → Option (SV × S)
def eVar (i : Nat) : RunE := fun s => (s.at i).map fun w => match w with
  | .l _ => (.b i, s)
  | .m true _ => (.b i, s)
  | w => (w, s)
def eFz (i : Nat) : RunE := fun s => (s.fz (.b i)).map fun (x, s') => (.d x, s')
def eMv (i : Nat) : RunE := fun s => (s.at i).map fun w => (w, { s with v := s.v.set i none })
def eData (g : S → Option (List D × S)) (k : List D → SV) : RunE := fun s => (g s).map fun (xs, s') => (k xs, s')
def eOne (f : RunE) (k : S → SV → Option SV) : RunE := fun s => (f s).bind fun (x, s1) => (k s1 x).map fun r => (r, s1)
def eTwo (f g : RunE) (k : S → SV → SV → Option SV) : RunE := fun s => (f s).bind fun (x, s1) => (g s1).bind fun (y, s2) => (k s2 x y).map fun r => (r, s2)
def eThree (f g h : RunE) (k : S → SV → SV → SV → Option SV) : RunE := fun s => (f s).bind fun (x, s1) => (g s1).bind fun (y, s2) => (h s2).bind fun (z, s3) => (k s3 x y z).map fun r => (r, s3)
def binV (op : BOp) (s : S) (x y : SV) : Option SV := (s.view x).bind fun x' => (s.view y).bind fun y' => bin op x' y'
def negV (_ : S) (x : SV) : Option SV := match x with
  | .d (.int i) => some (.d (.int (-i)))
  | _ => none
/-- a comparison of read values -/
def cmpV (op : COp) (s : S) (x y : SV) : Option Bool := (s.view x).bind fun x' => (s.view y).bind fun y' => cmp op x' y'
/-- x in y: y a dict -/
def inD (neg : Bool) (s : S) (x y : SV) : Option Bool := (s.dict y).bind fun kvs => (s.view x).bind fun x' => (keyOf x').map fun k => if neg = true then !(find kvs k).isSome else (find kvs k).isSome
/-- how a comparison comes out -/
def cmpA (op : COp) (s : S) (x y : SV) : Option Bool := match op, s.dict y with
  | .inn, some _ => inD false s x y
  | .nin, some _ => inD true s x y
  | op, _ => cmpV op s x y
def eCmp (op : COp) (f g : RunE) : RunE := eTwo f g fun s x y => (cmpA op s x y).map fun r => .d (.bool r)
def eCmp2 (op op' : COp) (f g h : RunE) : RunE := fun s => (f s).bind fun (x, s1) => (g s1).bind fun (y, s2) => (cmpV op s2 x y).bind fun r =>
  if r = true then (h s2).bind fun (z, s3) => (cmpV op' s3 y z).map fun r' => (.d (.bool r'), s3) else some (.d (.bool false), s2)
def eNot (f : RunE) : RunE := fun s => (tests f s).map fun (b, s') => (.d (.bool (!b)), s')
def eIte (c f g : RunE) : RunE := fun s => (tests c s).bind fun (k, s') => if k = true then f s' else g s'
def eAnd (f g : RunE) : RunE := fun s => (tests f s).bind fun (b, s') => if b = true then g s' else some (.d (.bool false), s')
def eOr (f g : RunE) : RunE := fun s => (tests f s).bind fun (b, s') => if b = true then some (.d (.bool true), s') else g s'
def ixV (s : S) (x y : SV) : Option SV := (s.view y).bind fun j => match s.dict x with
  | some kvs => (keyOf j).bind fun k => (find kvs k).map .d
  | none => (s.view x).bind fun x' => match j with
    | .int n => (ixOf x' n).map .d
    | _ => none
def eSl (f : RunE) (lo hi : S → Option (Option Int × S)) : RunE := fun s => (f s).bind fun (x, s1) => (lo s1).bind fun (l, s2) => (hi s2).bind fun (h, s3) =>
  (s3.view x).bind fun x' => (slOf x' l h).map fun r => (r, s3)
def revV (s : S) (x : SV) : Option SV := (s.view x).bind fun x' => match x' with
  | .list xs => some (.l xs.reverse)
  | _ => none
def isiV (t : Ty) (s : S) (x : SV) : Option SV := (s.view x).map fun x' => .d (.bool (isTy t x'))
def biV (f : Bi) (s : S) (x : SV) : Option SV := match f, s.dict x with
  | .sorted, some kvs => (allKeyStr kvs).bind fun ss => if ss.length < 64 then some (.l ((ss.mergeSort strLe).map .str)) else none
  | .len, some kvs => some (.d (.int kvs.length))
  | f, _ => (s.view x).bind fun x' => bi1 f x'
def twoV (mx : Bool) (_ : S) (x y : SV) : Option SV := match x, y with
  | .d (.int i), .d (.int j) => some (.d (.int (if mx = true then (if j > i then j else i) else (if j < i then j else i))))
  | _, _ => none
def eCall (C : Call) (p : Nat) (g g' : S → Option (List SV × S)) : RunE := fun s => (g s).bind fun (ws, s1) => (g' s1).bind fun (us, s2) => (C p (ws ++ us) s2.h).map fun (w, h') => (w, { s2 with h := h' })
def ePop (i : Nat) : RunE := fun s => match s.at i with
  | some (.l xs) => (xs.getLast?).map fun x => (.d x, s.set i (.l xs.dropLast))
  | _ => none
def getV (s : S) (w y z : SV) : Option SV := (s.dict w).bind fun kvs => (s.view y).bind fun y' => (keyOf y').bind fun q => match z with
  | .d z' => some (.d ((find kvs q).getD z'))
  | _ => none
def eGet (f g h : RunE) : RunE := fun s => (f s).bind fun (x, s1) => (s1.dict x).bind fun _ => (g s1).bind fun (y, s2) => (h s2).bind fun (z, s3) => (getV s3 x y z).map fun r => (r, s3)
def mkDict (ks : List Key) (xs : List D) : SV := .m true ((ks.zip xs).foldl (fun t q => put t q.1 q.2) [])
/-- a turn of a comprehension -/
def compT (t : T) (c : S → Option (Bool × S)) (f : RunE) (own : List Nat) (x : D) (st : S) : Option (Option D × S) := (asgT t x st).bind fun s2 => (c s2).bind fun (ok, s3) =>
  if ok = true then (f s3).bind fun (w, s4) => (s4.fz w).map fun (y, s5) => (some y, s5.wipe own) else some (none, s3.wipe own)
def eComp (it : S → Option (List D × S)) (t : T) (c : S → Option (Bool × S)) (f : RunE) (own : List Nat) : RunE := fun s => (it s).bind fun (xs, s1) =>
  if xs.length ≤ sizeLine then (compL (compT t c f own) xs (s1.wipe own) []).map fun (ys, s6) => (.l ys, s6) else none
def dNil : S → Option (List D × S) := fun s => some ([], s)
def dCons (f : RunE) (g : S → Option (List D × S)) : S → Option (List D × S) := fun s => (f s).bind fun (w, s1) => (s1.fz w).bind fun (x, s2) => (g s2).map fun (xs, s3) => (x :: xs, s3)
def hNil : S → Option (List SV × S) := fun s => some ([], s)
def hCons (f : RunE) (g : S → Option (List SV × S)) : S → Option (List SV × S) := fun s => (f s).bind fun (w, s1) => (s1.hand w).bind fun (x, s2) => (g s2).map fun (xs, s3) => (x :: xs, s3)
def oNone : S → Option (Option Int × S) := fun s => some (none, s)
def oSome (f : RunE) : S → Option (Option Int × S) := fun s => (f s).bind fun (w, s1) => match w with
  | .d (.int i) => some (some i, s1)
  | _ => none
def itSeq (f : RunE) : S → Option (List D × S) := fun s => (f s).bind fun (w, s1) => (s1.fz w).bind fun (x, s2) => match x with
  | .list xs => some (xs, s2)
  | .tuple xs => some (xs, s2)
  | .str z => some (z.cps.toList.map fun c => .str ⟨#[c]⟩, s2)
  | _ => none
def itRng (f : RunE) : S → Option (List D × S) := fun s => (f s).bind fun (w, s1) => match w with
  | .d (.int j) => if -(2 ^ 62) ≤ j ∧ j < 2 ^ 62 then some ((List.range j.toNat).map fun (n : Nat) => .int (0 + (n : Int)), s1) else none
  | _ => none
def itRng2 (f g : RunE) : S → Option (List D × S) := fun s => (f s).bind fun (w, s1) => (g s1).bind fun (u, s2) => match w, u with
  | .d (.int i), .d (.int j) => if -(2 ^ 62) ≤ i ∧ i < 2 ^ 62 ∧ -(2 ^ 62) ≤ j ∧ j < 2 ^ 62 then some ((List.range (j - i).toNat).map fun (n : Nat) => .int (i + n), s2) else none
  | _, _ => none
def itZip (f g : RunE) : S → Option (List D × S) := fun s => (f s).bind fun (w, s1) => (s1.fz w).bind fun (x, s2) => (g s2).bind fun (u, s3) => (s3.fz u).bind fun (y, s4) => match x, y with
  | .list xs, .list ys => some ((xs.zip ys).map fun q => .tuple [q.1, q.2], s4)
  | .tuple xs, .tuple ys => some ((xs.zip ys).map fun q => .tuple [q.1, q.2], s4)
  | _, _ => none
def itEnum (f : RunE) : S → Option (List D × S) := fun s => (f s).bind fun (w, s1) => (s1.fz w).bind fun (x, s2) => match x with
  | .list xs => some ((xs.zipIdx).map fun q => .tuple [.int (q.2 : Nat), q.1], s2)
  | _ => none

mutual
def evE (G : Nat → Option D) (C : Call) : E → RunE
  | .k x => fun s => some (.d x, s)
  | .v i => eVar i
  | .z i => eFz i
  | .mv i => eMv i
  | .g n => fun s => (G n).map fun x => (.d x, s)
  | .tup es => eData (evD G C es) fun xs => .d (.tuple xs)
  | .lst es => eData (evD G C es) .l
  | .bin op a b => eTwo (evE G C a) (evE G C b) (binV op)
  | .neg a => eOne (evE G C a) negV
  | .cmp op a b => eCmp op (evE G C a) (evE G C b)
  | .cmp2 op op' a b c => eCmp2 op op' (evE G C a) (evE G C b) (evE G C c)
  | .and_ es => evAnd G C es
  | .or_ es => evOr G C es
  | .not_ a => eNot (evE G C a)
  | .ite c a b => eIte (evE G C c) (evE G C a) (evE G C b)
  | .ix a i => eTwo (evE G C a) (evE G C i) ixV
  | .sl a lo hi => eSl (evE G C a) (evO G C lo) (evO G C hi)
  | .rev a => eOne (evE G C a) revV
  | .isi a t => eOne (evE G C a) (isiV t)
  | .bi f a => eOne (evE G C a) (biV f)
  | .two mx a b => eTwo (evE G C a) (evE G C b) (twoV mx)
  | .call p es ks => eCall C p (evH G C es) (evH G C ks)
  | .pop i => ePop i
  | .get2 a k x => eGet (evE G C a) (evE G C k) (evE G C x)
  | .dct ks es => eData (evD G C es) (mkDict ks)
  | .comp elt t it own c => eComp (evI G C it) t (evC G C c) (evE G C elt) own
/-- data, from the left -/
def evD (G : Nat → Option D) (C : Call) : List E → S → Option (List D × S)
  | [] => dNil
  | e :: es => dCons (evE G C e) (evD G C es)
/-- what is handed over -/
def evH (G : Nat → Option D) (C : Call) : List E → S → Option (List SV × S)
  | [] => hNil
  | e :: es => hCons (evE G C e) (evH G C es)
def evAnd (G : Nat → Option D) (C : Call) : List E → RunE
  | [] => fun _ => none
  | [e] => evE G C e
  | e :: es => eAnd (evE G C e) (evAnd G C es)
def evOr (G : Nat → Option D) (C : Call) : List E → RunE
  | [] => fun _ => none
  | [e] => evE G C e
  | e :: es => eOr (evE G C e) (evOr G C es)
def evO (G : Nat → Option D) (C : Call) : Option E → S → Option (Option Int × S)
  | none => oNone
  | some e => oSome (evE G C e)
def evC (G : Nat → Option D) (C : Call) : Option E → S → Option (Bool × S)
  | none => fun s => some (true, s)
  | some e => tests (evE G C e)
/-- what is walked: data that nobody changes -/
def evI (G : Nat → Option D) (C : Call) : I → S → Option (List D × S)
  | .seq a => itSeq (evE G C a)
  | .rng a => itRng (evE G C a)
  | .rng2 a b => itRng2 (evE G C a) (evE G C b)
  | .zip a b => itZip (evE G C a) (evE G C b)
  | .enum a => itEnum (evE G C a)
end

/-! ### statements -/
inductive Fl where
  | nx | bk | ct | rt (w : SV)
def forL (turn : D → S → Option (Fl × S)) : List D → S → Option (Fl × S)
  | [], s => some (.nx, s)
  | x :: xs, s => (turn x s).bind fun (f, s') => match f with
    | .nx => forL turn xs s'
    | .ct => forL turn xs s'
    | .bk => some (.nx, s')
    | .rt w => some (.rt w, s')
def whileL (c : S → Option (Bool × S)) (turn : S → Option (Fl × S)) : Nat → S → Option (Fl × S)
  | 0, _ => none
  | n + 1, s => (c s).bind fun (b, s1) => if b = true then (turn s1).bind fun (f, s2) => match f with
      | .nx => whileL c turn n s2
      | .ct => whileL c turn n s2
      | .bk => some (.nx, s2)
      | .rt w => some (.rt w, s2)
    else some (.nx, s1)
abbrev RunS := S → Option (Fl × S)
def sAsg (t : T) (f : RunE) : RunS := fun s => (f s).bind fun (w, s1) => (asgV t w s1).map fun s2 => (.nx, s2)
def sAsgc (i : Nat) (f : RunE) : RunS := fun s => (f s).bind fun (w, s1) => match w with
  | .m true kvs => some (.nx, { v := s1.v.set i (some (.c s1.h.length)), h := s1.h ++ [kvs] })
  | _ => none
def sMas (ts : List Nat) (g : S → Option (List SV × S)) : RunS := fun s => (g s).bind fun (ws, s1) => (asgL ts ws s1).map fun s2 => (.nx, s2)
def setI (s : S) (i : Nat) (y : D) (x : D) : Option S := match s.at i with
  | some (.m true kvs) => (keyOf y).bind fun q => if kvs.length < sizeLine then some (s.set i (.m true (put kvs q x))) else none
  | some (.c n) => (s.h[n]?).bind fun kvs => (keyOf y).bind fun q => if kvs.length < sizeLine then some { s with h := s.h.set n (put kvs q x) } else none
  | _ => none
def sSet (i : Nat) (k e : RunE) : RunS := fun s => (e s).bind fun (w, s1) => (s1.fz w).bind fun (x, s2) => (s2.at i).bind fun _ => (k s2).bind fun (y, s3) => (s3.view y).bind fun y' => (setI s3 i y' x).map fun s4 => (.nx, s4)
def isL (s : S) (i : Nat) : Bool := match s.at i with
  | some (.l _) => true
  | _ => false
def sApp (i : Nat) (e : RunE) : RunS := fun s => if isL s i = true then (e s).bind fun (w, s1) => (s1.fz w).bind fun (x, s2) => match s2.at i with
  | some (.l xs) => if xs.length < sizeLine then some (.nx, s2.set i (.l (xs ++ [x]))) else none
  | _ => none else none
def extL (xs : List D) : D → Option (List D)
  | .list ys => if xs.length + ys.length ≤ sizeLine then some (xs ++ ys) else none
  | _ => none
def sExt (i : Nat) (e : RunE) : RunS := fun s => if isL s i = true then (e s).bind fun (w, s1) => (s1.view w).bind fun x => match s1.at i with
  | some (.l xs) => (extL xs x).map fun ys => (.nx, s1.set i (.l ys))
  | _ => none else none
def sEx (e : RunE) : RunS := fun s => (e s).map fun (_, s1) => (.nx, s1)
def sRet (e : RunE) : RunS := fun s => (e s).bind fun (w, s1) => (s1.hand w).map fun (w', s2) => (.rt w', s2)
def sIf (c : RunE) (a b : RunS) : RunS := fun s => (tests c s).bind fun (k, s1) => if k = true then a s1 else b s1
def sFor (it : S → Option (List D × S)) (t : T) (b : RunS) : RunS := fun s => (it s).bind fun (xs, s1) => forL (fun x st => (asgT t x st).bind b) xs s1
def sAug (i : Nat) (op : BOp) (e : RunE) : RunS := fun s => match s.at i with
  | some (.d x) => (e s).bind fun (w, s1) => match w with
    | .d y => (bin op x y).bind fun r => match r with
      | .d z => some (.nx, s1.set i (.d z))
      | _ => none
    | _ => none
  | _ => none
def sSeq (a b : RunS) : RunS := fun s => (a s).bind fun (f, s1) => match f with
  | .nx => b s1
  | f => some (f, s1)
mutual
def evS (G : Nat → Option D) (C : Call) (W : Nat) : St → RunS
  | .asg t e => sAsg t (evE G C e)
  | .asgc i e => sAsgc i (evE G C e)
  | .mas ts es => sMas ts (evH G C es)
  | .setit i k e => sSet i (evE G C k) (evE G C e)
  | .app i e => sApp i (evE G C e)
  | .ext i e => sExt i (evE G C e)
  | .ex e => sEx (evE G C e)
  | .ret e => sRet (evE G C e)
  | .retN => fun s => some (.rt (.d .none), s)
  | .iff c a b => sIf (evE G C c) (evSs G C W a) (evSs G C W b)
  | .forr t it body => sFor (evI G C it) t (evSs G C W body)
  | .whl c body => whileL (tests (evE G C c)) (evSs G C W body) W
  | .cont => fun s => some (.ct, s)
  | .brk => fun s => some (.bk, s)
  | .aug i op e => sAug i op (evE G C e)
def evSs (G : Nat → Option D) (C : Call) (W : Nat) : List St → RunS
  | [] => fun s => some (.nx, s)
  | c :: cs => sSeq (evS G C W c) (evSs G C W cs)
end

/-! ### a program -/
/-- a def: how many slots it has (parameters first), its body -/
structure Fn where
  n : Nat
  body : List St
/-- a way to call: the def, and for each parameter the place among the written values, or a default -/
structure Pat where
  f : Nat
  arr : List (Sum Nat D)
def arrange (ws : List SV) : List (Sum Nat D) → Option (List SV)
  | [] => some []
  | .inl j :: r => (ws[j]?).bind fun w => (arrange ws r).map (w :: ·)
  | .inr x :: r => (arrange ws r).map (.d x :: ·)
structure Prog where
  fns : List Fn
  pats : List Pat
  globs : List D
def Prog.G (p : Prog) (n : Nat) : Option D := p.globs[n]?
/-- what a body's end tells -/
def endOf : Fl × S → Option (SV × List Cell)
  | (.nx, s) => some (.d .none, s.h)
  | (.rt w, s) => some (w, s.h)
  | _ => none
def Prog.body (p : Prog) (W : Nat) (C : Call) (f : Fn) (ws : List SV) (h : List Cell) : Option (SV × List Cell) :=
  (evSs p.G C W f.body ⟨ws.map some ++ List.replicate (f.n - ws.length) none, h⟩).bind endOf
/-- a def's run, k calls deep at most, W turns of a while at most -/
def Prog.run (p : Prog) (W : Nat) : Nat → Nat → List SV → List Cell → Option (SV × List Cell)
  | 0, _, _, _ => none
  | k + 1, i, ws, h => (p.fns[i]?).bind fun f => p.body W (fun q us h' => (p.pats[q]?).bind fun t => (arrange us t.arr).bind fun vs => p.run W k t.f vs h') f ws h
def Prog.calls (p : Prog) (W k : Nat) : Call := fun q us h => (p.pats[q]?).bind fun t => (arrange us t.arr).bind fun vs => p.run W k t.f vs h
end DE
/-! DE: what stands for what: data and the heap, slots and cells. -/
namespace DE
open PySem PySem.Spec PyProof.Rows L2

/-- a list that nobody changes: one of F, or locked, or written in the module -/
def FzL (K : PySem.W.Frag) (F : Addr → Prop) (H : Hp) (a : Addr) (xs : List V) : Prop :=
  (F a ∧ H a = some (.lst xs)) ∨ (∃ o, H a = some (.frz o (.lst xs)))
theorem noRd {a : Addr} {u : HO} (h : Rd (fun _ => none) a u) : False := by
  rcases h with h | ⟨o, h⟩
  · have h' : (none : Option HO) = some u := h
    cases h'
  · have h' : (none : Option HO) = some (.frz o u) := h
    cases h'
theorem SqL.any {K : PySem.W.Frag} {H : Hp} {a : Addr} {xs : List V} (h : SqL K (fun _ => none) a xs) : SqL K H a xs :=
  h.elim (fun z => (noRd z).elim) fun z => .inr z
theorem FzL.sq {K : PySem.W.Frag} {F : Addr → Prop} {H : Hp} {a : Addr} {xs : List V} (h : FzL K F H a xs) : SqL K H a xs := by
  rcases h with ⟨_, h⟩ | ⟨o, h⟩
  · exact .inl (.inl h)
  · exact .inl (.inr ⟨o, h⟩)
theorem FzL.rd {K : PySem.W.Frag} {F : Addr → Prop} {H : Hp} {a : Addr} {xs : List V} (h : FzL K F H a xs) : Rd H a (.lst xs) := by
  rcases h with ⟨_, h⟩ | ⟨o, h⟩
  · exact .inl h
  · exact .inr ⟨o, h⟩

/-- a tuple that is known to be plain -/
def PlainT (ob : Obj) : Prop := ob.cls = .type "tuple" ∧ ob.dict = none
def TupF (K : PySem.W.Frag) (H : Hp) (a : Addr) (xs : List V) : Prop :=
  (∃ ob, H a = some (.frz ob (.tup xs)) ∧ PlainT ob) ∨ ∃ (o : Obj) (its : Array Value) (n : Nat), K.lookup a = some o ∧ o.cls = .type "tuple" ∧ o.dict = none ∧ o.data = .seq its n ∧ its.size ≤ sizeLine ∧ Vals xs its.toList
theorem TupF.sq {K : PySem.W.Frag} {H : Hp} {a : Addr} {xs : List V} (h : TupF K H a xs) : SqT K H a xs := by
  rcases h with ⟨ob, h, _⟩ | ⟨o, its, n, h1, h2, h3, h4⟩
  · exact .inl (.inr ⟨ob, h⟩)
  · exact .inr ⟨o, its, n, h1, h2, h4⟩
mutual
inductive DF (K : PySem.W.Frag) (F : Addr → Prop) (H : Hp) : V → PyData → Prop
  | non : DF K F H .non .none
  | bl (b : Bool) : DF K F H (.bl b) (.bool b)
  | int (i : Int) : DF K F H (.int i) (.int i)
  | str (x : Str) : DF K F H (.str x) (.str x)
  | lst {a : Addr} {xs : List V} {ds : List PyData} : FzL K F H a xs → DFs K F H xs ds → DF K F H (.ref a) (.list ds)
  | tup {a : Addr} {xs : List V} {ds : List PyData} : TupF K H a xs → DFs K F H xs ds → DF K F H (.ref a) (.tuple ds)
inductive DFs (K : PySem.W.Frag) (F : Addr → Prop) (H : Hp) : List V → List PyData → Prop
  | nil : DFs K F H [] []
  | cons {v : V} {vs : List V} {d : PyData} {ds : List PyData} : DF K F H v d → DFs K F H vs ds → DFs K F H (v :: vs) (d :: ds)
end

/-- what is of F, what can't change, is as it was -/
def Keep (F : Addr → Prop) (H H' : Hp) : Prop := ∀ a o, H a = some o → (F a ∨ ¬ Mut (some o)) → H' a = some o

section
variable {K : PySem.W.Frag} {F F' : Addr → Prop} {H H' : Hp}
theorem FzL.mono (hF : ∀ a, F a → F' a) (hk : Keep F H H') {a : Addr} {xs : List V} (h : FzL K F H a xs) : FzL K F' H' a xs := by
  rcases h with ⟨hf, h⟩ | ⟨o, h⟩
  · exact .inl ⟨hF a hf, hk a _ h (.inl hf)⟩
  · exact .inr ⟨o, hk a _ h (.inr fun z => z)⟩
theorem sqT_mono (hk : Keep F H H') {a : Addr} {xs : List V} (h : SqT K H a xs) : SqT K H' a xs := by
  rcases h with (h | ⟨o, h⟩) | h
  · exact .inl (.inl (hk a _ h (.inr fun z => z)))
  · exact .inl (.inr ⟨o, hk a _ h (.inr fun z => z)⟩)
  · exact .inr h
theorem tupF_mono (hk : Keep F H H') {a : Addr} {xs : List V} (h : TupF K H a xs) : TupF K H' a xs := by
  rcases h with ⟨ob, h, hp⟩ | h
  · exact .inl ⟨ob, hk a _ h (.inr fun z => z), hp⟩
  · exact .inr h
mutual
theorem DF.mono (hF : ∀ a, F a → F' a) (hk : Keep F H H') : ∀ (d : PyData) (v : V), DF K F H v d → DF K F' H' v d
  | .none, _, h => by cases h; exact .non
  | .bool b, _, h => by cases h; exact .bl b
  | .int i, _, h => by cases h; exact .int i
  | .str x, _, h => by cases h; exact .str x
  | .list ds, _, h => by
    cases h with
    | lst h1 h2 => exact .lst (h1.mono hF hk) (DFs.mono hF hk ds _ h2)
  | .tuple ds, _, h => by
    cases h with
    | tup h1 h2 => exact .tup (tupF_mono hk h1) (DFs.mono hF hk ds _ h2)
  | .dict _, _, h => by cases h
theorem DFs.mono (hF : ∀ a, F a → F' a) (hk : Keep F H H') : ∀ (ds : List PyData) (vs : List V), DFs K F H vs ds → DFs K F' H' vs ds
  | [], _, h => by cases h; exact .nil
  | d :: ds, _, h => by
    cases h with
    | cons h1 h2 => exact .cons (DF.mono hF hk d _ h1) (DFs.mono hF hk ds _ h2)
end
mutual
theorem DF.dp : ∀ (d : PyData) (v : V), DF K F H v d → Dp K H v d
  | .none, _, h => by cases h; exact .non
  | .bool b, _, h => by cases h; exact .bl b
  | .int i, _, h => by cases h; exact .int i
  | .str x, _, h => by cases h; exact .str x
  | .list ds, _, h => by
    cases h with
    | lst h1 h2 => exact .lst h1.sq (DFs.dp ds _ h2)
  | .tuple ds, _, h => by
    cases h with
    | tup h1 h2 => exact .tup h1.sq (DFs.dp ds _ h2)
  | .dict _, _, h => by cases h
theorem DFs.dp : ∀ (ds : List PyData) (vs : List V), DFs K F H vs ds → DpAll K H vs ds
  | [], _, h => by cases h; exact .nil
  | d :: ds, _, h => by
    cases h with
    | cons h1 h2 => exact .cons (DF.dp d _ h1) (DFs.dp ds _ h2)
end
theorem DFs.length : ∀ {vs : List V} {ds : List PyData}, DFs K F H vs ds → vs.length = ds.length
  | _, _, .nil => rfl
  | _, _, .cons _ t => congrArg Nat.succ t.length
theorem DFs.get : ∀ {vs : List V} {ds : List PyData} {i : Nat} {d : PyData}, DFs K F H vs ds → ds[i]? = some d → ∃ v, vs[i]? = some v ∧ DF K F H v d
  | _, _, _, _, .nil, e => by simp at e
  | _, _, 0, _, .cons h _, e => by
    simp at e
    subst e
    exact ⟨_, rfl, h⟩
  | _, _, i + 1, d, .cons _ t, e => by
    obtain ⟨v, h1, h2⟩ := t.get (i := i) (d := d) (by simpa using e)
    exact ⟨v, by simpa using h1, h2⟩
theorem DFs.getV : ∀ {vs : List V} {ds : List PyData} {i : Nat} {v : V}, DFs K F H vs ds → vs[i]? = some v → ∃ d, ds[i]? = some d ∧ DF K F H v d
  | _, _, _, _, .nil, e => by simp at e
  | _, _, 0, _, .cons h _, e => by
    simp at e
    subst e
    exact ⟨_, rfl, h⟩
  | _, _, i + 1, d, .cons _ t, e => by
    obtain ⟨v, h1, h2⟩ := t.getV (i := i) (v := d) (by simpa using e)
    exact ⟨v, by simpa using h1, h2⟩
theorem DFs.append : ∀ {vs ws : List V} {ds es : List PyData}, DFs K F H vs ds → DFs K F H ws es → DFs K F H (vs ++ ws) (ds ++ es)
  | _, _, _, _, .nil, s => s
  | _, _, _, _, .cons h t, s => .cons h (t.append s)
theorem DFs.take : ∀ {vs : List V} {ds : List PyData} (n : Nat), DFs K F H vs ds → DFs K F H (vs.take n) (ds.take n)
  | _, _, 0, _ => .nil
  | _, _, _ + 1, .nil => .nil
  | _, _, n + 1, .cons h t => .cons h (t.take n)
theorem DFs.drop : ∀ {vs : List V} {ds : List PyData} (n : Nat), DFs K F H vs ds → DFs K F H (vs.drop n) (ds.drop n)
  | _, _, 0, h => h
  | _, _, _ + 1, .nil => .nil
  | _, _, n + 1, .cons _ t => t.drop n
theorem DFs.dropLast {vs : List V} {ds : List PyData} (h : DFs K F H vs ds) : DFs K F H vs.dropLast ds.dropLast := by
  rw [List.dropLast_eq_take, List.dropLast_eq_take, h.length]
  exact h.take _
theorem DFs.reverse : ∀ {vs : List V} {ds : List PyData}, DFs K F H vs ds → DFs K F H vs.reverse ds.reverse
  | _, _, .nil => .nil
  | _, _, .cons h t => by
    rw [List.reverse_cons, List.reverse_cons]
    exact t.reverse.append (.cons h .nil)
theorem DFs.set : ∀ {vs : List V} {ds : List PyData} {v : V} {d : PyData} (n : Nat), DFs K F H vs ds → DF K F H v d → DFs K F H (vs.set n v) (ds.set n d)
  | _, _, _, _, _, .nil, _ => .nil
  | _, _, _, _, 0, .cons _ t, h => .cons h t
  | _, _, _, _, n + 1, .cons h0 t, h => .cons h0 (t.set n h)
end

/-- the pairs of a dict -/
def KF (K : PySem.W.Frag) (F : Addr → Prop) (H : Hp) : List (Key × V) → List (Key × D) → Prop
  | [], [] => True
  | p :: ps, q :: qs => (p.1 = q.1 ∧ DF K F H p.2 q.2) ∧ KF K F H ps qs
  | _, _ => False
theorem KF.mono {K : PySem.W.Frag} {F F' : Addr → Prop} {H H' : Hp} (hF : ∀ a, F a → F' a) (hk : Keep F H H') : ∀ {ps : List (Key × V)} {qs : List (Key × D)}, KF K F H ps qs → KF K F' H' ps qs
  | [], [], _ => trivial
  | _ :: _, _ :: _, h => ⟨⟨h.1.1, DF.mono hF hk _ _ h.1.2⟩, KF.mono hF hk h.2⟩
  | [], _ :: _, h => h.elim
  | _ :: _, [], h => h.elim
theorem KF.length {K : PySem.W.Frag} {F : Addr → Prop} {H : Hp} : ∀ {ps : List (Key × V)} {qs : List (Key × D)}, KF K F H ps qs → ps.length = qs.length
  | [], [], _ => rfl
  | _ :: _, _ :: _, h => congrArg Nat.succ (KF.length h.2)
  | [], _ :: _, h => h.elim
  | _ :: _, [], h => h.elim
theorem KF.keys {K : PySem.W.Frag} {F : Addr → Prop} {H : Hp} : ∀ {ps : List (Key × V)} {qs : List (Key × D)}, KF K F H ps qs → ps.map (·.1) = qs.map (·.1)
  | [], [], _ => rfl
  | p :: ps, q :: qs, h => by rw [List.map_cons, List.map_cons, h.1.1, KF.keys h.2]
  | [], _ :: _, h => h.elim
  | _ :: _, [], h => h.elim
theorem KF.find {K : PySem.W.Frag} {F : Addr → Prop} {H : Hp} (k : Key) : ∀ {ps : List (Key × V)} {qs : List (Key × D)}, KF K F H ps qs →
    (valV ps k = none ∧ find qs k = none) ∨ ∃ v d, valV ps k = some v ∧ find qs k = some d ∧ DF K F H v d
  | [], [], _ => .inl ⟨rfl, rfl⟩
  | p :: ps, q :: qs, h => by
    obtain ⟨j, x⟩ := q
    obtain ⟨j', y⟩ := p
    obtain ⟨⟨e, hd⟩, ht⟩ := h
    simp only at e hd
    subst e
    by_cases hj : j' = k
    · refine .inr ⟨y, x, valV_pos hj, ?_, hd⟩
      unfold DE.find
      rw [if_pos hj]
    · rcases KF.find k ht with ⟨h1, h2⟩ | ⟨v, d, h1, h2, h3⟩
      · refine .inl ⟨(valV_neg (p := (j', y)) hj).trans h1, ?_⟩
        unfold DE.find
        rw [if_neg hj]
        exact h2
      · refine .inr ⟨v, d, (valV_neg (p := (j', y)) hj).trans h1, ?_, h3⟩
        unfold DE.find
        rw [if_neg hj]
        exact h2
  | [], _ :: _, h => h.elim
  | _ :: _, [], h => h.elim
theorem KF.put {K : PySem.W.Frag} {F : Addr → Prop} {H : Hp} (k : Key) {v : V} {d : D} (hd : DF K F H v d) {ps : List (Key × V)} {qs : List (Key × D)} (h : KF K F H ps qs) : KF K F H (putK ps k v) (DE.put qs k d) := by
  have hany : (ps.any fun kv => decide (kv.1 = k)) = (qs.any fun kv => decide (kv.1 = k)) := by
    have e := KF.keys h
    have e1 : (ps.any fun kv => decide (kv.1 = k)) = (ps.map (·.1)).any fun j => decide (j = k) := by rw [List.any_map]; rfl
    have e2 : (qs.any fun kv => decide (kv.1 = k)) = (qs.map (·.1)).any fun j => decide (j = k) := by rw [List.any_map]; rfl
    rw [e1, e2, e]
  have hmap : ∀ {ps : List (Key × V)} {qs : List (Key × D)}, KF K F H ps qs → KF K F H (ps.map fun kv => if kv.1 = k then (kv.1, v) else kv) (qs.map fun kv => if kv.1 = k then (kv.1, d) else kv) := by
    intro ps
    induction ps with
    | nil => intro qs h; cases qs with
      | nil => trivial
      | cons q qs => exact h.elim
    | cons p ps ih => intro qs h; cases qs with
      | nil => exact h.elim
      | cons q qs =>
        refine ⟨?_, ih h.2⟩
        by_cases e : p.1 = k
        · show (if p.1 = k then (p.1, v) else p).1 = (if q.1 = k then (q.1, d) else q).1 ∧ DF K F H (if p.1 = k then (p.1, v) else p).2 (if q.1 = k then (q.1, d) else q).2
          rw [if_pos e, if_pos (h.1.1.symm.trans e)]
          exact ⟨h.1.1, hd⟩
        · show (if p.1 = k then (p.1, v) else p).1 = (if q.1 = k then (q.1, d) else q).1 ∧ DF K F H (if p.1 = k then (p.1, v) else p).2 (if q.1 = k then (q.1, d) else q).2
          rw [if_neg e, if_neg (fun z => e (h.1.1.trans z))]
          exact h.1
  have happ : ∀ {ps : List (Key × V)} {qs : List (Key × D)}, KF K F H ps qs → KF K F H (ps ++ [(k, v)]) (qs ++ [(k, d)]) := by
    intro ps
    induction ps with
    | nil => intro qs h; cases qs with
      | nil => exact ⟨⟨rfl, hd⟩, trivial⟩
      | cons q qs => exact h.elim
    | cons p ps ih => intro qs h; cases qs with
      | nil => exact h.elim
      | cons q qs => exact ⟨h.1, ih h.2⟩
  unfold putK DE.put
  rw [hany]
  split
  · exact hmap h
  · exact happ h
theorem KF.foldPut {K : PySem.W.Frag} {F : Addr → Prop} {H : Hp} : ∀ {ps : List (Key × V)} {qs : List (Key × D)} {ps0 : List (Key × V)} {qs0 : List (Key × D)}, KF K F H ps0 qs0 → KF K F H ps qs →
    KF K F H (mergeK ps0 ps) (qs.foldl (fun t q => DE.put t q.1 q.2) qs0)
  | [], [], _, _, h0, _ => h0
  | p :: ps, q :: qs, ps0, qs0, h0, h => by
    have e : p.1 = q.1 := h.1.1
    show KF K F H (mergeK (putK ps0 p.1 p.2) ps) (qs.foldl (fun t q => DE.put t q.1 q.2) (DE.put qs0 q.1 q.2))
    rw [e]
    exact KF.foldPut (h0.put q.1 h.1.2) h.2
  | [], _ :: _, _, _, _, h => h.elim
  | _ :: _, [], _, _, _, h => h.elim
end DE
/-! DE: the state held. -/
namespace DE
open PySem PySem.Spec PyProof.Rows L2

def isOwn : SV → Bool
  | .l _ => true
  | .m true _ => true
  | _ => false
/-- a value that stands in a slot -/
def SVR (K : PySem.W.Frag) (ι : List Addr) (F : Addr → Prop) (H : Hp) : SV → V → Prop
  | .d x, v => DF K F H v x
  | .l xs, v => ∃ a vs, v = .ref a ∧ H a = some (.lst vs) ∧ DFs K F H vs xs ∧ ¬ F a
  | .m o kvs, v => ∃ a ps, v = .ref a ∧ H a = some (.dK ps) ∧ KF K F H ps kvs ∧ (o = true → ¬ F a) ∧ (o = false → F a)
  | .c n, v => ∃ a, v = .ref a ∧ ι[n]? = some a
  | .b _, _ => False
/-- the slot i alone has the object at a -/
def OwnA (st : S) (σ : L2.St) (i : Nat) (a : Addr) : Prop := ∃ w, st.at i = some w ∧ isOwn w = true ∧ σ[i]? = some (some (.ref a))

structure SR (K : PySem.W.Frag) (ι : List Addr) (F : Addr → Prop) (st : S) (σ : L2.St) (H : Hp) : Prop where
  sl : ∀ i w, st.at i = some w → ∃ v, σ[i]? = some (some v) ∧ SVR K ι F H w v
  di : ∀ i j a, OwnA st σ i a → OwnA st σ j a → i = j
  cl : ι.length = st.h.length
  ce : ∀ (n : Nat) kvs, st.h[n]? = some kvs → ∃ a ps, ι[n]? = some a ∧ H a = some (.dK ps) ∧ KF K F H ps kvs
  cn : ι.Nodup
  co : ∀ i a, OwnA st σ i a → a ∉ ι
  cf : ∀ a, a ∈ ι → ¬ F a
  ft : ∀ a, F a → H a ≠ none
  ln : st.v.length = σ.length

/-- from one state to a later one -/
structure Stp (ι : List Addr) (F : Addr → Prop) (st : S) (σ : L2.St) (H : Hp) (ι' : List Addr) (F' : Addr → Prop) (st' : S) (σ' : L2.St) (H' : Hp) : Prop where
  fr : ∀ a o, H a = some o → a ∉ ι → (∀ i, ¬ OwnA st σ i a) → H' a = some o
  ix : ∃ l, ι' = ι ++ l ∧ ∀ a ∈ l, H a = none ∨ ∃ i, OwnA st σ i a
  fm : ∀ a, F a → F' a
  fn : ∀ a, F' a → F a ∨ H a = none ∨ ∃ i, OwnA st σ i a
  om : ∀ i a, OwnA st' σ' i a → H a = none ∨ ∃ j, OwnA st σ j a
  tr : ∀ a, H' a = none → H a = none

section
variable {K : PySem.W.Frag} {ι ι1 ι2 : List Addr} {F F1 F2 : Addr → Prop} {st s1 s2 : S} {σ σ1 σ2 : L2.St} {H H1 H2 : Hp}

theorem Stp.refl : Stp ι F st σ H ι F st σ H :=
  ⟨fun _ _ e _ _ => e, ⟨[], (List.append_nil _).symm, fun _ z => by cases z⟩, fun _ h => h, fun _ h => .inl h, fun i a h => .inr ⟨i, h⟩, fun _ h => h⟩
theorem Stp.trans (p : Stp ι F st σ H ι1 F1 s1 σ1 H1) (q : Stp ι1 F1 s1 σ1 H1 ι2 F2 s2 σ2 H2) : Stp ι F st σ H ι2 F2 s2 σ2 H2 where
  fr := fun a o e hi ho => by
    refine q.fr a o (p.fr a o e hi ho) (fun z => ?_) fun i z => ?_
    · obtain ⟨l, rfl, hl⟩ := p.ix
      rcases List.mem_append.mp z with z | z
      · exact hi z
      · rcases hl a z with z | ⟨j, z⟩
        · rw [z] at e; cases e
        · exact ho j z
    · rcases p.om i a z with z | ⟨j, z⟩
      · rw [z] at e; cases e
      · exact ho j z
  ix := by
    obtain ⟨l, rfl, hl⟩ := p.ix
    obtain ⟨l', rfl, hl'⟩ := q.ix
    refine ⟨l ++ l', by rw [List.append_assoc], fun a z => ?_⟩
    rcases List.mem_append.mp z with z | z
    · exact hl a z
    · rcases hl' a z with z | ⟨i, z⟩
      · exact .inl (p.tr a z)
      · exact p.om i a z
  fm := fun a h => q.fm a (p.fm a h)
  fn := fun a h => by
    rcases q.fn a h with h | h | ⟨i, h⟩
    · exact p.fn a h
    · exact .inr (.inl (p.tr a h))
    · rcases p.om i a h with h | ⟨j, h⟩
      · exact .inr (.inl h)
      · exact .inr (.inr ⟨j, h⟩)
  om := fun i a h => by
    rcases q.om i a h with h | ⟨j, h⟩
    · exact .inl (p.tr a h)
    · exact p.om j a h
  tr := fun a h => p.tr a (q.tr a h)

theorem own_mut (R : SR K ι F st σ H) {i : Nat} {a : Addr} (h : OwnA st σ i a) : (∃ vs, H a = some (.lst vs) ∨ ∃ ps, H a = some (.dK ps)) ∧ ¬ F a := by
  obtain ⟨w, h1, h2, h3⟩ := h
  obtain ⟨v, e, r⟩ := R.sl i w h1
  rw [h3] at e
  cases e
  cases w with
  | l xs =>
    obtain ⟨b, vs, e, hb, _, hf⟩ := r
    cases e
    exact ⟨⟨vs, .inl hb⟩, hf⟩
  | m o kvs =>
    cases o with
    | false => cases h2
    | true =>
      obtain ⟨b, ps, e, hb, _, hf, _⟩ := r
      cases e
      exact ⟨⟨[], .inr ⟨ps, hb⟩⟩, hf rfl⟩
  | d _ => cases h2
  | c _ => cases h2
  | b _ => cases h2
theorem cell_mut (R : SR K ι F st σ H) {a : Addr} (h : a ∈ ι) : ∃ ps, H a = some (.dK ps) := by
  obtain ⟨n, hn, e⟩ := List.getElem_of_mem h
  have hl : n < st.h.length := by rw [← R.cl]; exact hn
  obtain ⟨b, ps, e1, e2, _⟩ := R.ce n st.h[n] (List.getElem?_eq_getElem hl)
  rw [List.getElem?_eq_getElem hn] at e1
  cases e1
  rw [← e]
  exact ⟨ps, e2⟩
theorem Stp.keep (p : Stp ι F st σ H ι1 F1 s1 σ1 H1) (R : SR K ι F st σ H) : Keep F H H1 := fun a o e h => by
  refine p.fr a o e (fun z => ?_) fun i z => ?_
  · obtain ⟨ps, e'⟩ := cell_mut R z
    rcases h with h | h
    · exact R.cf a z h
    · rw [e'] at e; cases e; exact h True.intro
  · obtain ⟨⟨vs, e'⟩, hf⟩ := own_mut R z
    rcases h with h | h
    · exact hf h
    · rcases e' with e' | ⟨ps, e'⟩
      · rw [e'] at e; cases e; exact h True.intro
      · rw [e'] at e; cases e; exact h True.intro

/-- the value of an expression, behind it -/
def RV (K : PySem.W.Frag) (ι : List Addr) (F : Addr → Prop) (st : S) (σ : L2.St) (H : Hp) (w : SV) (v : V) : Prop :=
  match w with
  | .b i => σ[i]? = some (some v)
  | w => SVR K ι F H w v ∧ (isOwn w = true → ∀ a, v = .ref a → a ∉ ι ∧ ∀ i, ¬ OwnA st σ i a)
theorem RV.b {i : Nat} {v : V} (h : σ[i]? = some (some v)) : RV K ι F st σ H (.b i) v := h
theorem RV.d {x : D} {v : V} (h : DF K F H v x) : RV K ι F st σ H (.d x) v := ⟨h, fun z => by cases z⟩
/-- where it comes from -/
def Fresh (st : S) (σ : L2.St) (H : Hp) (w : SV) (v : V) : Prop := isOwn w = true → ∀ a, v = .ref a → H a = none ∨ ∃ i, OwnA st σ i a
theorem Fresh.d {x : D} {v : V} : Fresh st σ H (.d x) v := fun z => by cases z
theorem Fresh.b {i : Nat} {v : V} : Fresh st σ H (.b i) v := fun z => by cases z
theorem Fresh.back (p : Stp ι F st σ H ι1 F1 s1 σ1 H1) {w : SV} {v : V} (h : Fresh s1 σ1 H1 w v) : Fresh st σ H w v := fun o a e => by
  rcases h o a e with h | ⟨i, h⟩
  · exact .inl (p.tr a h)
  · exact p.om i a h

/-- a value is carried over a step -/
theorem RV.step {w : SV} {v : V} (r : RV K ι F st σ H w v) (R : SR K ι F st σ H) (p : Stp ι F st σ H ι1 F1 s1 σ H1) : RV K ι1 F1 s1 σ H1 w v := by
  have hk := p.keep R
  have pend : ∀ a o, H a = some o → a ∉ ι → (∀ i, ¬ OwnA st σ i a) → ¬ F a → H1 a = some o ∧ ¬ F1 a ∧ a ∉ ι1 ∧ ∀ i, ¬ OwnA s1 σ i a := fun a o e hi ho hf => by
    refine ⟨p.fr a o e hi ho, fun z => ?_, fun z => ?_, fun i z => ?_⟩
    · rcases p.fn a z with z | z | ⟨i, z⟩
      · exact hf z
      · rw [z] at e; cases e
      · exact ho i z
    · obtain ⟨l, rfl, hl⟩ := p.ix
      rcases List.mem_append.mp z with z | z
      · exact hi z
      · rcases hl a z with z | ⟨j, z⟩
        · rw [z] at e; cases e
        · exact ho j z
    · rcases p.om i a z with z | ⟨j, z⟩
      · rw [z] at e; cases e
      · exact ho j z
  cases w with
  | b i => exact r
  | d x => exact ⟨DF.mono p.fm hk _ _ r.1, fun z => by cases z⟩
  | c n =>
    obtain ⟨⟨a, e, h⟩, _⟩ := r
    obtain ⟨l, rfl, _⟩ := p.ix
    refine ⟨⟨a, e, ?_⟩, fun z => by cases z⟩
    rw [List.getElem?_append_left (List.getElem?_eq_some_iff.mp h).1]
    exact h
  | l xs =>
    obtain ⟨⟨a, vs, e, h1, h2, h3⟩, h4⟩ := r
    obtain ⟨h5, h6⟩ := h4 rfl a e
    obtain ⟨k1, k2, k3, k4⟩ := pend a _ h1 h5 h6 h3
    refine ⟨⟨a, vs, e, k1, DFs.mono p.fm hk _ _ h2, k2⟩, fun _ b eb => ?_⟩
    rw [e] at eb; cases eb
    exact ⟨k3, k4⟩
  | m o kvs =>
    obtain ⟨⟨a, ps, e, h1, h2, h3, h3'⟩, h4⟩ := r
    cases o with
    | false =>
      exact ⟨⟨a, ps, e, hk a _ h1 (.inl (h3' rfl)), h2.mono p.fm hk, fun z => (by cases z), fun _ => p.fm a (h3' rfl)⟩, fun z => by cases z⟩
    | true =>
      obtain ⟨h5, h6⟩ := h4 rfl a e
      obtain ⟨k1, k2, k3, k4⟩ := pend a _ h1 h5 h6 (h3 rfl)
      refine ⟨⟨a, ps, e, k1, h2.mono p.fm hk, fun _ => k2, fun z => by cases z⟩, fun _ b eb => ?_⟩
      rw [e] at eb; cases eb
      exact ⟨k3, k4⟩

/-- data that is read: nobody changes its parts -/
def DT (K : PySem.W.Frag) (F : Addr → Prop) (H : Hp) (v : V) (x : D) : Prop := DF K F H v x ∨ ∃ a vs xs, v = .ref a ∧ x = .list xs ∧ H a = some (.lst vs) ∧ DFs K F H vs xs
theorem DT.dp {v : V} {x : D} (h : DT K F H v x) : Dp K H v x := by
  rcases h with h | ⟨a, vs, xs, rfl, rfl, h1, h2⟩
  · exact DF.dp _ _ h
  · exact .lst (SqL.of h1) (DFs.dp _ _ h2)
theorem DT.list {v : V} {xs : List D} (h : DT K F H v (.list xs)) : ∃ a vs, v = .ref a ∧ Rd H a (.lst vs) ∧ DFs K F H vs xs := by
  rcases h with h | ⟨a, vs, ys, rfl, e, h1, h2⟩
  · cases h with
    | lst h1 h2 => exact ⟨_, _, rfl, h1.rd, h2⟩
  · cases e
    exact ⟨a, vs, rfl, .inl h1, h2⟩
theorem DT.tuple {v : V} {xs : List D} (h : DT K F H v (.tuple xs)) : ∃ a vs, v = .ref a ∧ TupF K H a vs ∧ DFs K F H vs xs := by
  rcases h with h | ⟨a, vs, ys, rfl, e, h1, h2⟩
  · cases h with
    | tup h1 h2 => exact ⟨_, _, rfl, h1, h2⟩
  · cases e
theorem DT.int {v : V} {i : Int} (h : DT K F H v (.int i)) : v = .int i := by
  rcases h with h | ⟨a, vs, ys, rfl, e, h1, h2⟩
  · cases h; rfl
  · cases e
theorem DT.str {v : V} {i : Str} (h : DT K F H v (.str i)) : v = .str i := by
  rcases h with h | ⟨a, vs, ys, rfl, e, h1, h2⟩
  · cases h; rfl
  · cases e
theorem DT.bl {v : V} {i : Bool} (h : DT K F H v (.bool i)) : v = .bl i := by
  rcases h with h | ⟨a, vs, ys, rfl, e, h1, h2⟩
  · cases h; rfl
  · cases e
theorem DT.non {v : V} (h : DT K F H v .none) : v = .non := by
  rcases h with h | ⟨a, vs, ys, rfl, e, h1, h2⟩
  · cases h; rfl
  · cases e
theorem view_ok (R : SR K ι F st σ H) {w : SV} {v : V} {x : D} (r : RV K ι F st σ H w v) (e : st.view w = some x) : DT K F H v x := by
  cases w with
  | d y => cases e; exact .inl r.1
  | l xs =>
    cases e
    obtain ⟨⟨a, vs, e, h1, h2, _⟩, _⟩ := r
    exact .inr ⟨a, vs, xs, e, rfl, h1, h2⟩
  | m _ _ => cases e
  | c _ => cases e
  | b i =>
    have e' : (match st.at i with | some (.d x) => some x | some (.l xs) => some (.list xs) | _ => none) = some x := e
    cases h : st.at i with
    | none => rw [h] at e'; cases e'
    | some u =>
      rw [h] at e'
      obtain ⟨v', hv, r'⟩ := R.sl i u h
      have hr : σ[i]? = some (some v) := r
      rw [hr] at hv
      cases hv
      cases u with
      | d y => cases e'; exact .inl r'
      | l xs =>
        cases e'
        obtain ⟨a, vs, e, h1, h2, _⟩ := r'
        exact .inr ⟨a, vs, xs, e, rfl, h1, h2⟩
      | m _ _ => cases e'
      | c _ => cases e'
      | b _ => cases e'
end
end DE
/-! DE: slots that change. -/
namespace DE
open PySem PySem.Spec PyProof.Rows L2

def S.put (s : S) (i : Nat) (o : Option SV) : S := { s with v := s.v.set i o }
theorem S.set_eq (s : S) (i : Nat) (w : SV) : s.set i w = s.put i (some w) := rfl
theorem S.at_put_ne {s : S} {i j : Nat} {o : Option SV} (h : j ≠ i) : (s.put i o).at j = s.at j := by
  unfold S.at S.put
  simp only
  rw [List.getElem?_set_ne (Ne.symm h)]
theorem S.at_put_self {s : S} {i : Nat} {o : Option SV} {u : SV} (h : (s.put i o).at i = some u) : o = some u ∧ i < s.v.length := by
  unfold S.at S.put at h
  simp only at h
  by_cases hi : i < s.v.length
  · rw [List.getElem?_set_self hi] at h
    exact ⟨h, hi⟩
  · rw [List.getElem?_eq_none (by simpa using hi)] at h
    cases h
theorem S.at_put {s : S} {i j : Nat} {o : Option SV} {u : SV} (h : (s.put i o).at j = some u) : (j = i ∧ o = some u) ∨ (j ≠ i ∧ s.at j = some u) := by
  by_cases e : j = i
  · subst e
    exact .inl ⟨rfl, (S.at_put_self h).1⟩
  · rw [S.at_put_ne e] at h
    exact .inr ⟨e, h⟩
theorem S.at_lt {s : S} {i : Nat} {u : SV} (h : s.at i = some u) : i < s.v.length := by
  unfold S.at at h
  by_cases hi : i < s.v.length
  · exact hi
  · rw [List.getElem?_eq_none (by simpa using hi)] at h
    cases h
theorem S.at_put_eq {s : S} {i : Nat} {o : Option SV} (h : i < s.v.length) : (s.put i o).at i = o := by
  unfold S.at S.put
  simp only
  rw [List.getElem?_set_self h]
  rfl

section
variable {K : PySem.W.Frag} {ι ι1 ι2 : List Addr} {F F1 F2 : Addr → Prop} {st s1 s2 : S} {σ σ1 σ2 : L2.St} {H H1 H2 : Hp}

theorem OwnA.put_none {i j : Nat} {a : Addr} (h : OwnA (st.put i none) σ j a) : j ≠ i ∧ OwnA st σ j a := by
  obtain ⟨w, h1, h2, h3⟩ := h
  rcases S.at_put h1 with ⟨_, e⟩ | ⟨e, h⟩
  · cases e
  · exact ⟨e, w, h, h2, h3⟩
theorem OwnA.put_ne {i j : Nat} {o : Option SV} {a : Addr} (hj : j ≠ i) (h : OwnA st σ j a) : OwnA (st.put i o) σ j a := by
  obtain ⟨w, h1, h2, h3⟩ := h
  exact ⟨w, by rw [S.at_put_ne hj]; exact h1, h2, h3⟩

/-- F grows by an object that no slot has alone -/
def addF (F : Addr → Prop) (a : Addr) : Addr → Prop := fun b => F b ∨ b = a
theorem keep_same {F : Addr → Prop} {H : Hp} : Keep F H H := fun _ _ e _ => e
theorem SVR.grow {a : Addr} {w : SV} {v : V} (h : SVR K ι F H w v) (hv : isOwn w = true → v ≠ .ref a) : SVR K ι (addF F a) H w v := by
  cases w with
  | d x => exact DF.mono (fun _ h => .inl h) keep_same _ _ h
  | l xs =>
    obtain ⟨b, vs, e, h1, h2, h3⟩ := h
    refine ⟨b, vs, e, h1, DFs.mono (fun _ h => .inl h) keep_same _ _ h2, fun z => ?_⟩
    rcases z with z | z
    · exact h3 z
    · exact hv rfl (by rw [e, z])
  | m o kvs =>
    obtain ⟨b, ps, e, h1, h2, h3, h4⟩ := h
    refine ⟨b, ps, e, h1, h2.mono (fun _ h => .inl h) keep_same, fun ho z => ?_, fun ho => .inl (h4 ho)⟩
    subst ho
    rcases z with z | z
    · exact h3 rfl z
    · exact hv rfl (by rw [e, z])
  | c n => exact h
  | b n => exact h
theorem SR.grow (R : SR K ι F st σ H) {a : Addr} (ht : H a ≠ none) (hi : a ∉ ι) (ho : ∀ i, ¬ OwnA st σ i a) : SR K ι (addF F a) st σ H where
  sl := fun i w e => by
    obtain ⟨v, h1, h2⟩ := R.sl i w e
    refine ⟨v, h1, h2.grow fun hw z => ?_⟩
    subst z
    exact ho i ⟨w, e, hw, h1⟩
  di := R.di
  cl := R.cl
  ce := fun n kvs e => by
    obtain ⟨b, ps, h1, h2, h3⟩ := R.ce n kvs e
    exact ⟨b, ps, h1, h2, h3.mono (fun _ h => .inl h) keep_same⟩
  cn := R.cn
  co := R.co
  cf := fun b hb z => by
    rcases z with z | z
    · exact R.cf b hb z
    · exact hi (z ▸ hb)
  ft := fun b z => by
    rcases z with z | z
    · exact R.ft b z
    · rw [z]; exact ht
  ln := R.ln
theorem SR.drop (R : SR K ι F st σ H) (i : Nat) : SR K ι F (st.put i none) σ H where
  sl := fun j w e => by
    rcases S.at_put e with ⟨_, z⟩ | ⟨_, e⟩
    · cases z
    · exact R.sl j w e
  di := fun j k a h1 h2 => R.di j k a h1.put_none.2 h2.put_none.2
  cl := R.cl
  ce := R.ce
  cn := R.cn
  co := fun j a h => R.co j a h.put_none.2
  cf := R.cf
  ft := R.ft
  ln := by
    show (st.v.set i none).length = _
    rw [List.length_set]
    exact R.ln
/-- a slot takes a value: the slot's own, or a new one -/
theorem SR.put {st : S} (R : SR K ι F st σ H) {i : Nat} {w : SV} {v : V} (hv : i < st.v.length → SVR K ι F H w v) (ho : isOwn w = true → ∀ a, v = .ref a → a ∉ ι ∧ ∀ j, j ≠ i → ¬ OwnA st σ j a) :
    SR K ι F (st.set i w) (σ.set i (some v)) H := by
  have own : ∀ j a, OwnA (st.set i w) (σ.set i (some v)) j a → (j = i ∧ isOwn w = true ∧ v = .ref a) ∨ (j ≠ i ∧ OwnA st σ j a) := fun j a h => by
    obtain ⟨u, h1, h2, h3⟩ := h
    rw [S.set_eq] at h1
    rcases S.at_put h1 with ⟨e, e'⟩ | ⟨e, h⟩
    · subst e
      cases e'
      have hl : j < σ.length := by rw [← R.ln]; exact (S.at_put_self h1).2
      rw [List.getElem?_set_self hl] at h3
      cases h3
      exact .inl ⟨rfl, h2, rfl⟩
    · rw [List.getElem?_set_ne (Ne.symm e)] at h3
      exact .inr ⟨e, u, h, h2, h3⟩
  refine ⟨fun j u e => ?_, fun j k a h1 h2 => ?_, R.cl, R.ce, R.cn, fun j a h => ?_, R.cf, R.ft, ?_⟩
  · rw [S.set_eq] at e
    rcases S.at_put e with ⟨hj, e'⟩ | ⟨hj, e'⟩
    · subst hj
      cases e'
      have hl := (S.at_put_self e).2
      exact ⟨v, List.getElem?_set_self (by rw [← R.ln]; exact hl), hv hl⟩
    · obtain ⟨v', h1, h2⟩ := R.sl j u e'
      exact ⟨v', by rw [List.getElem?_set_ne (Ne.symm hj)]; exact h1, h2⟩
  · rcases own j a h1 with ⟨e, hw, hva⟩ | ⟨e, hj⟩
    · rcases own k a h2 with ⟨e', _, _⟩ | ⟨e', hk⟩
      · rw [e, e']
      · exact ((ho hw a hva).2 k e' hk).elim
    · rcases own k a h2 with ⟨e', hw, hva⟩ | ⟨e', hk⟩
      · exact ((ho hw a hva).2 j e hj).elim
      · exact R.di j k a hj hk
  · rcases own j a h with ⟨_, hw, hva⟩ | ⟨_, hj⟩
    · exact (ho hw a hva).1
    · exact R.co j a hj
  · show (st.v.set i (some w)).length = _
    rw [List.length_set, List.length_set]
    exact R.ln
/-- .. where the name's value is the one it had -/
theorem SR.put' {st : S} (R : SR K ι F st σ H) {i : Nat} {w : SV} {v : V} (hσ : σ[i]? = some (some v)) (hv : SVR K ι F H w v) (ho : isOwn w = true → ∀ a, v = .ref a → a ∉ ι ∧ ∀ j, j ≠ i → ¬ OwnA st σ j a) :
    SR K ι F (st.set i w) σ H := by
  have e : σ.set i (some v) = σ := by
    apply List.ext_getElem?
    intro j
    by_cases h : i = j
    · subst h
      rw [List.getElem?_set_self (List.getElem?_eq_some_iff.mp hσ).1, hσ]
    · rw [List.getElem?_set_ne h]
  have q := R.put (i := i) (w := w) (v := v) (fun _ => hv) ho
  rw [e] at q
  exact q

/-- the i-th slot's own object, and the slot without it -/
theorem fz_slot (R : SR K ι F st σ H) {i : Nat} {w w' : SV} {v : V} (h : st.at i = some w) (ow : isOwn w = true) (hσ : σ[i]? = some (some v)) (nw' : isOwn w' = false)
    (hv : ∀ F' : Addr → Prop, (∀ b, F b → F' b) → (∀ a, v = .ref a → F' a) → SVR K ι F' H w' v) :
    ∃ F', Stp ι F st σ H ι F' (st.set i w') σ H ∧ SR K ι F' (st.set i w') σ H ∧ SVR K ι F' H w' v := by
  obtain ⟨v', e, r⟩ := R.sl i w h
  rw [hσ] at e; cases e
  have hr : ∃ a, v = .ref a ∧ H a ≠ none := by
    cases w with
    | l xs => obtain ⟨a, vs, e, h1, _⟩ := r; exact ⟨a, e, by rw [h1]; simp⟩
    | m o kvs => obtain ⟨a, vs, e, h1, _⟩ := r; exact ⟨a, e, by rw [h1]; simp⟩
    | d _ => cases ow
    | c _ => cases ow
    | b _ => cases ow
  obtain ⟨a, rfl, hn⟩ := hr
  have oa : OwnA st σ i a := ⟨w, h, ow, hσ⟩
  have R1 := (R.drop i).grow hn (R.co i a oa) fun j z => z.put_none.1 (R.di j i a z.put_none.2 oa)
  have hs := hv (addF F a) (fun _ h => .inl h) (fun b e => by cases e; exact .inr rfl)
  have R2 := R1.put' (i := i) (w := w') hσ hs (fun z => by rw [nw'] at z; cases z)
  have e2 : (st.put i none).set i w' = st.set i w' := by
    unfold S.set S.put
    simp only [List.set_set]
  rw [e2] at R2
  refine ⟨addF F a, ⟨fun _ _ e _ _ => e, ⟨[], (List.append_nil _).symm, fun _ z => (by cases z)⟩, fun _ h => .inl h, fun b hb => ?_, fun j b hb => .inr ?_, fun _ z => z⟩, R2, hs⟩
  · rcases hb with hb | hb
    · exact .inl hb
    · subst hb
      exact .inr (.inr ⟨i, oa⟩)
  · obtain ⟨u, h1, h2, h3⟩ := hb
    rw [S.set_eq] at h1
    rcases S.at_put h1 with ⟨e, e'⟩ | ⟨e, e'⟩
    · cases e'
      rw [nw'] at h2; cases h2
    · exact ⟨j, u, e', h2, h3⟩

/-- a value that nobody changes any more -/
theorem fz_ok {st0 : S} {ι0 : List Addr} {F0 : Addr → Prop} {H0 : Hp} (p : Stp ι0 F0 st0 σ H0 ι F st σ H) (R : SR K ι F st σ H) {w : SV} {v : V} {x : D} (r : RV K ι F st σ H w v) (f : Fresh st0 σ H0 w v) (e : st.fz w = some (x, s1)) :
    ∃ F', Stp ι0 F0 st0 σ H0 ι F' s1 σ H ∧ SR K ι F' s1 σ H ∧ DF K F' H v x := by
  cases w with
  | d y => cases e; exact ⟨F, p, R, r.1⟩
  | m _ _ => cases e
  | c _ => cases e
  | l xs =>
    cases e
    obtain ⟨⟨a, vs, ev, h1, h2, h3⟩, h4⟩ := r
    obtain ⟨h5, h6⟩ := h4 rfl a ev
    subst ev
    have R1 := R.grow (a := a) (by rw [h1]; simp) h5 h6
    refine ⟨addF F a, ⟨p.fr, p.ix, fun b hb => .inl (p.fm b hb), fun b hb => ?_, p.om, p.tr⟩, R1, .lst (.inl ⟨.inr rfl, h1⟩) (DFs.mono (fun _ h => .inl h) keep_same _ _ h2)⟩
    rcases hb with hb | hb
    · exact p.fn b hb
    · subst hb
      rcases f rfl b rfl with z | z
      · exact .inr (.inl z)
      · exact .inr (.inr z)
  | b i =>
    have e' : (match st.at i with | some (.d x) => some (x, st) | some (.l xs) => some (.list xs, st.set i (.d (.list xs))) | _ => none) = some (x, s1) := e
    have hσ : σ[i]? = some (some v) := r
    cases h : st.at i with
    | none => rw [h] at e'; cases e'
    | some u =>
      rw [h] at e'
      cases u with
      | m _ _ => cases e'
      | c _ => cases e'
      | b _ => cases e'
      | d y =>
        cases e'
        obtain ⟨v', hv, r'⟩ := R.sl i _ h
        rw [hσ] at hv; cases hv
        exact ⟨F, p, R, r'⟩
      | l xs =>
        cases e'
        obtain ⟨v', hv, r'⟩ := R.sl i _ h
        rw [hσ] at hv; cases hv
        obtain ⟨a, vs, ev, h1, h2, h3⟩ := r'
        subst ev
        obtain ⟨F', q, R', hs⟩ := fz_slot R (w' := .d (.list xs)) h rfl hσ rfl fun F' hF hF' => (DF.lst (.inl ⟨hF' a rfl, h1⟩) (DFs.mono hF keep_same _ _ h2) : DF K F' H (.ref a) (.list xs))
        exact ⟨F', p.trans q, R', hs⟩
/-- a value that is handed over -/
theorem hand_ok {st0 : S} {ι0 : List Addr} {F0 : Addr → Prop} {H0 : Hp} (p : Stp ι0 F0 st0 σ H0 ι F st σ H) (R : SR K ι F st σ H) {w w' : SV} {v : V} (r : RV K ι F st σ H w v) (f : Fresh st0 σ H0 w v) (e : st.hand w = some (w', s1)) :
    ∃ F', Stp ι0 F0 st0 σ H0 ι F' s1 σ H ∧ SR K ι F' s1 σ H ∧ RV K ι F' s1 σ H w' v ∧ Fresh st0 σ H0 w' v ∧ ∀ j, w' ≠ .b j := by
  cases w with
  | d y => cases e; exact ⟨F, p, R, r, f, fun _ z => by cases z⟩
  | m _ _ => cases e; exact ⟨F, p, R, r, f, fun _ z => by cases z⟩
  | c _ => cases e; exact ⟨F, p, R, r, f, fun _ z => by cases z⟩
  | l _ => cases e; exact ⟨F, p, R, r, f, fun _ z => by cases z⟩
  | b i =>
    have e' : (match st.at i with | some (.d x) => some (SV.d x, st) | some (.l xs) => some (.d (.list xs), st.set i (.d (.list xs))) | some (.m _ kvs) => some (.m false kvs, st.set i (.m false kvs)) | _ => none) = some (w', s1) := e
    have hσ : σ[i]? = some (some v) := r
    cases h : st.at i with
    | none => rw [h] at e'; cases e'
    | some u =>
      rw [h] at e'
      obtain ⟨v', hv, r'⟩ := R.sl i _ h
      rw [hσ] at hv; cases hv
      cases u with
      | c _ => cases e'
      | b _ => cases e'
      | d y =>
        cases e'
        exact ⟨F, p, R, ⟨r', fun z => by cases z⟩, fun z => (by cases z), fun _ z => by cases z⟩
      | l xs =>
        cases e'
        obtain ⟨a, vs, ev, h1, h2, h3⟩ := r'
        subst ev
        obtain ⟨F', q, R', hs⟩ := fz_slot R (w' := .d (.list xs)) h rfl hσ rfl fun F' hF hF' => (DF.lst (.inl ⟨hF' a rfl, h1⟩) (DFs.mono hF keep_same _ _ h2) : DF K F' H (.ref a) (.list xs))
        exact ⟨F', p.trans q, R', ⟨hs, fun z => by cases z⟩, fun z => (by cases z), fun _ z => by cases z⟩
      | m o kvs =>
        cases e'
        obtain ⟨a, ps, ev, h1, h2, h3, h4⟩ := r'
        subst ev
        have hm : ∀ F' : Addr → Prop, (∀ b, F b → F' b) → (∀ b, V.ref a = .ref b → F' b) → SVR K ι F' H (.m false kvs) (.ref a) := fun F' hF hF' => ⟨a, ps, rfl, h1, h2.mono hF keep_same, fun z => (by cases z), fun _ => hF' a rfl⟩
        cases o with
        | true =>
          obtain ⟨F', q, R', hs⟩ := fz_slot R (w' := .m false kvs) h rfl hσ rfl hm
          exact ⟨F', p.trans q, R', ⟨hs, fun z => by cases z⟩, fun z => (by cases z), fun _ z => by cases z⟩
        | false =>
          have hs := hm F (fun _ h => h) fun b e => by cases e; exact h4 rfl
          have R' := R.put' (i := i) (w := .m false kvs) hσ hs fun z => by cases z
          refine ⟨F, ?_, R', ⟨hs, fun z => by cases z⟩, fun z => (by cases z), fun _ z => by cases z⟩
          refine p.trans ⟨fun _ _ e _ _ => e, ⟨[], (List.append_nil _).symm, fun _ z => (by cases z)⟩, fun _ h => h, fun b hb => .inl hb, fun j b hb => .inr ?_, fun _ z => z⟩
          obtain ⟨u, g1, g2, g3⟩ := hb
          rw [S.set_eq] at g1
          rcases S.at_put g1 with ⟨e, e'⟩ | ⟨e, e'⟩
          · cases e'
            cases g2
          · exact ⟨j, u, e', g2, g3⟩
end
end DE
/-! DE: readings by runs, and the rules over them. -/
namespace DE
open PySem PySem.Spec PyProof.Rows L2

/-! ### tuples, known as objects -/
theorem new_tup {X : Cx} {pins : List (Addr × Obj)} {σ : L2.St} {H : Hp} {s : Shared} (I : Inv X pins σ H s) {xs : List V} {its : List Value} (r : Vals xs its) (hz : xs.length ≤ sizeLine) :
    Inv X pins σ (upd H s.heap.objs.size (.frz { cls := .type "tuple", data := .seq its.toArray } (.tup xs))) { s with heap := s.heap.push { cls := .type "tuple", data := .seq its.toArray } } :=
  I.laid (t' := s.toks) (fun b o e => Heap.get?_push_of_some _ e) (Nat.le_refl _) ⟨Heap.get?_push_size _ rfl, hz, its, r, ⟨_, Heap.get?_push_size _ rfl, rfl, _, rfl⟩⟩
def tTupF (t : TA) : TE := fun σ H Q => t σ H fun xs H1 => xs.length ≤ sizeLine ∧ ∀ p ob, H1 p = none → PlainT ob → Q (.ref p) (upd H1 p (.frz ob (.tup xs)))
theorem pe_tupF {X : Cx} {es : List Expr} {t : TA} {pos : Pos} {k : Nat} (h : PA X es t) : PE X (.Tuple es k pos) (tTupF t) := ⟨fun pins s σ H Q I hq => wpAny_Tuple_spliced (thn (h.run pos pins s σ H _ I hq) fun us s1 z => by
  obtain ⟨xs, H1, I1, r, hz, q⟩ := z
  exact ⟨by rw [← r.length]; exact hz, .ref s1.heap.objs.size, _, new_tup I1 r hz, rfl, q _ _ (I1.hok.fresh (Nat.le_refl _)) ⟨rfl, rfl⟩⟩)⟩

/-! ### readings -/
def TEv (K : PySem.W.Frag) (f : S → Option (SV × S)) : TE := fun σ H Q => ∃ ι F st w s1, SR K ι F st σ H ∧ f st = some (w, s1) ∧
  ∀ ι' F' H' v, Stp ι F st σ H ι' F' s1 σ H' → SR K ι' F' s1 σ H' → RV K ι' F' s1 σ H' w v → Fresh st σ H w v → Q v H'
def TTv (K : PySem.W.Frag) (f : S → Option (Bool × S)) : TT := fun σ H Q => ∃ ι F st b s1, SR K ι F st σ H ∧ f st = some (b, s1) ∧
  ∀ ι' F' H', Stp ι F st σ H ι' F' s1 σ H' → SR K ι' F' s1 σ H' → Q b H'
/-- data from the left -/
def TDs (K : PySem.W.Frag) (f : S → Option (List D × S)) : TA := fun σ H Q => ∃ ι F st xs s1, SR K ι F st σ H ∧ f st = some (xs, s1) ∧
  ∀ ι' F' H' vs, Stp ι F st σ H ι' F' s1 σ H' → SR K ι' F' s1 σ H' → DFs K F' H' vs xs → Q vs H'
/-- one value that is data or a number -/
def TIx (K : PySem.W.Frag) (f : S → Option (Option Int × S)) : L2.St → Hp → (Option Int → Hp → Prop) → Prop := fun σ H Q => ∃ ι F st o s1, SR K ι F st σ H ∧ f st = some (o, s1) ∧
  ∀ ι' F' H', Stp ι F st σ H ι' F' s1 σ H' → SR K ι' F' s1 σ H' → Q o H'

theorem PE.imp {X : Cx} {e : Expr} {t t' : TE} (h : PE X e t) (i : ∀ σ H Q, t' σ H Q → t σ H Q) : PE X e t' := ⟨fun pins s σ H Q I q => h.run pins s σ H Q I (i σ H Q q)⟩
theorem PT.imp {X : Cx} {e : Expr} {t t' : TT} (h : PT X e t) (i : ∀ σ H Q, t' σ H Q → t σ H Q) : PT X e t' := ⟨fun pins s σ H Q I q => h.run pins s σ H Q I (i σ H Q q)⟩
theorem PW.imp {X : Cx} {e : Expr} {t t' : TT} (h : PW X e t) (i : ∀ σ H Q, t' σ H Q → t σ H Q) : PW X e t' := ⟨fun wh pins s σ H Q I q => h.run wh pins s σ H Q I (i σ H Q q)⟩
theorem PA.imp {X : Cx} {e : List Expr} {t t' : TA} (h : PA X e t) (i : ∀ σ H Q, t' σ H Q → t σ H Q) : PA X e t' := ⟨fun pos pins s σ H Q I q => h.run pos pins s σ H Q I (i σ H Q q)⟩
theorem PE.or {X : Cx} {e : Expr} {t t' : TE} (h : PE X e t) (h' : PE X e t') : PE X e (fun σ H Q => t σ H Q ∨ t' σ H Q) :=
  ⟨fun pins s σ H Q I q => q.elim (h.run pins s σ H Q I) (h'.run pins s σ H Q I)⟩

theorem bindSome {α β : Type} {o : Option α} {f : α → Option β} {b : β} (h : o.bind f = some b) : ∃ a, o = some a ∧ f a = some b := by
  cases o with
  | none => cases h
  | some a => exact ⟨a, rfl, h⟩
theorem mapSome {α β : Type} {o : Option α} {f : α → β} {b : β} (h : o.map f = some b) : ∃ a, o = some a ∧ f a = b := by
  cases o with
  | none => cases h
  | some a => exact ⟨a, rfl, Option.some.inj h⟩

section
variable {K : PySem.W.Frag} {ι ι1 ι2 : List Addr} {F F1 F2 : Addr → Prop} {st s1 s2 : S} {σ σ1 σ2 : L2.St} {H H1 H2 : Hp}

/-! ### new objects -/
theorem keep_new {p : Addr} {o : HO} (hp : H p = none) : Keep F H (upd H p o) := fun a u e _ => by
  rw [upd_ne (ne_of_none e hp)]
  exact e
theorem Stp.new {p : Addr} {o : HO} (hp : H p = none) : Stp ι F st σ H ι F st σ (upd H p o) :=
  ⟨fun a u e _ _ => by rw [upd_ne (ne_of_none e hp)]; exact e, ⟨[], (List.append_nil _).symm, fun _ z => (by cases z)⟩, fun _ h => h, fun _ h => .inl h, fun i a h => .inr ⟨i, h⟩,
    fun a h => by
      by_cases e : a = p
      · rw [e]; exact hp
      · rw [upd_ne e] at h; exact h⟩
theorem SVR.mono {w : SV} {v : V} (hk : ∀ a o, H a = some o → H1 a = some o) (h : SVR K ι F H w v) : SVR K ι F H1 w v := by
  have k : Keep F H H1 := fun a o e _ => hk a o e
  cases w with
  | d x => exact DF.mono (fun _ h => h) k _ _ h
  | l xs =>
    obtain ⟨a, vs, e, h1, h2, h3⟩ := h
    exact ⟨a, vs, e, hk a _ h1, DFs.mono (fun _ h => h) k _ _ h2, h3⟩
  | m o kvs =>
    obtain ⟨a, ps, e, h1, h2, h3⟩ := h
    exact ⟨a, ps, e, hk a _ h1, h2.mono (fun _ h => h) k, h3⟩
  | c n => exact h
  | b n => exact h
theorem SR.mono (R : SR K ι F st σ H) (hk : ∀ a o, H a = some o → H1 a = some o) : SR K ι F st σ H1 where
  sl := fun i w e => by
    obtain ⟨v, h1, h2⟩ := R.sl i w e
    exact ⟨v, h1, h2.mono hk⟩
  di := R.di
  cl := R.cl
  ce := fun n kvs e => by
    obtain ⟨b, ps, h1, h2, h3⟩ := R.ce n kvs e
    exact ⟨b, ps, h1, hk b _ h2, h3.mono (fun _ h => h) fun a o e _ => hk a o e⟩
  cn := R.cn
  co := R.co
  cf := R.cf
  ft := fun a h z => by
    cases e : H a with
    | none => exact R.ft a h e
    | some o => rw [hk a o e] at z; cases z
  ln := R.ln
theorem SR.new (R : SR K ι F st σ H) {p : Addr} {o : HO} (hp : H p = none) : SR K ι F st σ (upd H p o) :=
  R.mono fun a u e => by rw [upd_ne (ne_of_none e hp)]; exact e
theorem new_free (R : SR K ι F st σ H) {p : Addr} (hp : H p = none) : ¬ F p ∧ p ∉ ι ∧ ∀ i, ¬ OwnA st σ i p := by
  refine ⟨fun z => R.ft p z hp, fun z => ?_, fun i z => ?_⟩
  · obtain ⟨ps, e⟩ := cell_mut R z
    rw [hp] at e; cases e
  · obtain ⟨⟨vs, e⟩, _⟩ := own_mut R z
    rcases e with e | ⟨ps, e⟩
    · rw [hp] at e; cases e
    · rw [hp] at e; cases e
theorem rv_list (R : SR K ι F st σ H) {p : Addr} {vs : List V} {xs : List D} (hp : H p = none) (h : DFs K F H vs xs) : RV K ι F st σ (upd H p (.lst vs)) (.l xs) (.ref p) := by
  obtain ⟨h1, h2, h3⟩ := new_free R hp
  exact ⟨⟨p, vs, rfl, upd_same, DFs.mono (fun _ h => h) (keep_new hp) _ _ h, h1⟩, fun _ a e => by cases e; exact ⟨h2, h3⟩⟩
theorem rv_tup {p : Addr} {vs : List V} {xs : List D} {ob : Obj} (hp : H p = none) (ho : PlainT ob) (h : DFs K F H vs xs) : RV K ι F st σ (upd H p (.frz ob (.tup vs))) (.d (.tuple xs)) (.ref p) :=
  RV.d (.tup (.inl ⟨ob, upd_same, ho⟩) (DFs.mono (fun _ h => h) (keep_new hp) _ _ h))
theorem rv_dict (R : SR K ι F st σ H) {p : Addr} {ps : List (Key × V)} {kvs : List (Key × D)} (hp : H p = none) (h : KF K F H ps kvs) : RV K ι F st σ (upd H p (.dK ps)) (.m true kvs) (.ref p) := by
  obtain ⟨h1, h2, h3⟩ := new_free R hp
  exact ⟨⟨p, ps, rfl, upd_same, h.mono (fun _ h => h) (keep_new hp), fun _ => h1, fun z => by cases z⟩, fun _ a e => by cases e; exact ⟨h2, h3⟩⟩
theorem Fresh.new {w : SV} {p : Addr} (h : H p = none) : Fresh st σ H w (.ref p) := fun _ a e => by cases e; exact .inl h

/-- two values, the first one carried -/
theorem TEv.two {fa fb : S → Option (SV × S)} {R : V → V → Hp → Prop} (hS : SR K ι F st σ H) {x y : SV} (ha : fa st = some (x, s1)) (hb : fb s1 = some (y, s2))
    (h : ∀ ι' F' H' v u, Stp ι F st σ H ι' F' s2 σ H' → SR K ι' F' s2 σ H' → RV K ι' F' s2 σ H' x v → RV K ι' F' s2 σ H' y u → R v u H') :
    TEv K fa σ H fun v H1 => TEv K fb σ H1 fun u H2 => R v u H2 :=
  ⟨ι, F, st, x, s1, hS, ha, fun ι1 F1 H1 v p1 R1 r1 _ => ⟨ι1, F1, s1, y, s2, R1, hb, fun ι2 F2 H2 u p2 R2 r2 _ => h ι2 F2 H2 v u (p1.trans p2) R2 (r1.step R1 p2) r2⟩⟩
theorem TEv.one {fa : S → Option (SV × S)} {R : V → Hp → Prop} (hS : SR K ι F st σ H) {x : SV} (ha : fa st = some (x, s1))
    (h : ∀ ι' F' H' v, Stp ι F st σ H ι' F' s1 σ H' → SR K ι' F' s1 σ H' → RV K ι' F' s1 σ H' x v → Fresh st σ H x v → R v H') : TEv K fa σ H R :=
  ⟨ι, F, st, x, s1, hS, ha, fun ι1 F1 H1 v p1 R1 r1 f1 => h ι1 F1 H1 v p1 R1 r1 f1⟩
end

/-! ### constants, names -/
section
variable {X : Cx}
def constIs : Const → D → Bool
  | .none, .none => true
  | .bool a, .bool b => a == b
  | .int i, .int j => decide (i = j)
  | .str x, .str y => decide (x = y)
  | _, _ => false
theorem r_const {c : Const} {x : D} {j : Nat} {pos : Pos} (h : constIs c x = true) : PE X (.Constant c j pos) (TEv X.K fun s => some (.d x, s)) := by
  have go : ∀ {v : V}, PE X (.Constant c j pos) (tC v) → (∀ F H, DF X.K F H v x) → PE X (.Constant c j pos) (TEv X.K fun s => some (.d x, s)) := fun {v} hp hd => PE.imp hp fun σ H Q q => by
    obtain ⟨ι, F, st, w, s1, hS, e, hQ⟩ := q
    cases e
    exact hQ ι F H v Stp.refl hS (RV.d (hd F H)) Fresh.d
  cases c with
  | none => cases x <;> first | exact go pe_non fun _ _ => .non | cases h
  | bool a => cases x with
    | bool b =>
      have e : a = b := eq_of_beq h
      subst e
      exact go pe_bl fun _ _ => .bl a
    | _ => cases h
  | int a => cases x with
    | int b =>
      have e : a = b := of_decide_eq_true h
      subst e
      exact go pe_int fun _ _ => .int a
    | _ => cases h
  | str a => cases x with
    | str b =>
      have e : a = b := of_decide_eq_true h
      subst e
      exact go pe_str fun _ _ => .str a
    | _ => cases h
  | _ => cases h
theorem r_v {i : Nat} {x : Str} {pos : Pos} (h : PE X (.Name x pos) (tVar i)) : PE X (.Name x pos) (TEv X.K (eVar i)) := PE.imp h fun σ H Q q => by
  obtain ⟨ι, F, st, w, s1, hS, e, hQ⟩ := q
  obtain ⟨u, hu, e⟩ := mapSome e
  obtain ⟨v, hv, r⟩ := hS.sl i u hu
  refine ⟨v, hv, ?_⟩
  cases u with
  | l xs => cases e; exact hQ ι F H v Stp.refl hS (RV.b hv) Fresh.b
  | m o kvs => cases o with
    | true => cases e; exact hQ ι F H v Stp.refl hS (RV.b hv) Fresh.b
    | false => cases e; exact hQ ι F H v Stp.refl hS ⟨r, fun z => by cases z⟩ fun z => by cases z
  | d x => cases e; exact hQ ι F H v Stp.refl hS (RV.d r) Fresh.d
  | c n => cases e; exact hQ ι F H v Stp.refl hS ⟨r, fun z => by cases z⟩ fun z => by cases z
  | b n => exact (show False from r).elim
theorem r_z {i : Nat} {x : Str} {pos : Pos} (h : PE X (.Name x pos) (tVar i)) : PE X (.Name x pos) (TEv X.K (eFz i)) := PE.imp h fun σ H Q q => by
  obtain ⟨ι, F, st, w, s1, hS, e, hQ⟩ := q
  obtain ⟨⟨y, s2⟩, hu, e⟩ := mapSome e
  cases e
  have : ∃ u, st.at i = some u := by
    have e' : (match st.at i with | some (.d x) => some (x, st) | some (.l xs) => some (.list xs, st.set i (.d (.list xs))) | _ => none) = some (y, s1) := hu
    cases h : st.at i with
    | none => rw [h] at e'; cases e'
    | some u => exact ⟨u, rfl⟩
  obtain ⟨u, hu'⟩ := this
  obtain ⟨v, hv, r⟩ := hS.sl i u hu'
  obtain ⟨F', p, R', d⟩ := fz_ok (v := v) Stp.refl hS (RV.b hv) Fresh.b hu
  exact ⟨v, hv, hQ ι F' H v p R' (RV.d d) Fresh.d⟩
theorem r_mv {i : Nat} {x : Str} {pos : Pos} (h : PE X (.Name x pos) (tVar i)) : PE X (.Name x pos) (TEv X.K (eMv i)) := PE.imp h fun σ H Q q => by
  obtain ⟨ι, F, st, w, s1, hS, e, hQ⟩ := q
  obtain ⟨u, hu, e⟩ := mapSome e
  cases e
  obtain ⟨v, hv, r⟩ := hS.sl i w hu
  refine ⟨v, hv, hQ ι F H v ⟨fun _ _ e _ _ => e, ⟨[], (List.append_nil _).symm, fun _ z => (by cases z)⟩, fun _ h => h, fun _ h => .inl h, fun j a z => .inr ⟨j, (OwnA.put_none (st := st) (i := i) z).2⟩, fun _ h => h⟩ (hS.drop i) ?_ ?_⟩
  · cases w with
    | b n => exact (show False from r).elim
    | d x => exact RV.d r
    | c n => exact ⟨r, fun z => by cases z⟩
    | l xs => exact ⟨r, fun _ a e => by subst e; exact ⟨hS.co i a ⟨_, hu, rfl, hv⟩, fun j z => (OwnA.put_none (st := st) (i := i) z).1 (hS.di j i a (OwnA.put_none (st := st) (i := i) z).2 ⟨_, hu, rfl, hv⟩)⟩⟩
    | m o kvs => exact ⟨r, fun ho a e => by subst e; exact ⟨hS.co i a ⟨_, hu, ho, hv⟩, fun j z => (OwnA.put_none (st := st) (i := i) z).1 (hS.di j i a (OwnA.put_none (st := st) (i := i) z).2 ⟨_, hu, ho, hv⟩)⟩⟩
  · exact fun ho a e => by subst e; exact .inr ⟨i, w, hu, ho, hv⟩
theorem r_g {x : Str} {d : D} {v : V} {G : Option D} {pos : Pos} (h : PE X (.Name x pos) (tC v)) (hd : ∀ F H, DF X.K F H v d) (hG : G = some d) : PE X (.Name x pos) (TEv X.K (fun s => G.map fun x => (.d x, s))) := PE.imp h fun σ H Q q => by
  obtain ⟨ι, F, st, w, s1, hS, e, hQ⟩ := q
  subst hG
  cases e
  exact hQ ι F H v Stp.refl hS (RV.d (hd F H)) Fresh.d

/-! ### displays -/
theorem r_nil : PA X [] (TDs X.K dNil) := PA.imp pa_nil fun σ H Q q => by
  obtain ⟨ι, F, st, w, s1, hS, e, hQ⟩ := q
  cases e
  exact hQ ι F H [] Stp.refl hS .nil
def notStar : Expr → Bool
  | .Starred _ _ => false
  | _ => true
theorem star_cons {e : Expr} {es : List Expr} {env : Env} (h : notStar e = true) : starEach (e :: es) env = (false, eval e env) :: starEach es env := by
  cases e <;> first | rfl | cases h
theorem r_cons {e : Expr} {es : List Expr} {f : S → Option (SV × S)} {g : S → Option (List D × S)} (hn : notStar e = true) (he : PE X e (TEv X.K f)) (hs : PA X es (TDs X.K g)) :
    PA X (e :: es) (TDs X.K (dCons f g)) := PA.imp (pa_cons he hs (star_cons hn)) fun σ H Q q => by
  obtain ⟨ι, F, st, w, s1, hS, e, hQ⟩ := q
  obtain ⟨⟨u, t1⟩, e1, e⟩ := bindSome e
  obtain ⟨⟨x, t2⟩, e2, e⟩ := bindSome e
  obtain ⟨⟨xs, t3⟩, e3, e⟩ := mapSome e
  cases e
  refine ⟨ι, F, st, u, t1, hS, e1, fun ι1 F1 H1 v p1 R1 r1 f1 => ?_⟩
  obtain ⟨F2, p2, R2, d2⟩ := fz_ok p1 R1 r1 f1 e2
  refine ⟨ι1, F2, t2, xs, s1, R2, e3, fun ι3 F3 H3 vs p3 R3 d3 => ?_⟩
  exact hQ ι3 F3 H3 (v :: vs) (p2.trans p3) R3 (.cons (DF.mono p3.fm (p3.keep R2) _ _ d2) d3)
theorem r_tup {es : List Expr} {g : S → Option (List D × S)} {k : Nat} {pos : Pos} (hs : PA X es (TDs X.K g)) (hl : ∀ s xs s', g s = some (xs, s') → xs.length ≤ sizeLine) :
    PE X (.Tuple es k pos) (TEv X.K (eData g fun xs => .d (.tuple xs))) := PE.imp (pe_tupF hs) fun σ H Q q => by
  obtain ⟨ι, F, st, w, s1, hS, e, hQ⟩ := q
  obtain ⟨⟨xs, t1⟩, e1, e⟩ := mapSome e
  cases e
  refine ⟨ι, F, st, xs, s1, hS, e1, fun ι1 F1 H1 vs p1 R1 d1 => ⟨by rw [d1.length]; exact hl _ _ _ e1, fun p ob hp ho => ?_⟩⟩
  exact hQ ι1 F1 _ (.ref p) (p1.trans (Stp.new hp)) (R1.new hp) (rv_tup hp ho d1) Fresh.d
theorem r_lst {es : List Expr} {g : S → Option (List D × S)} {pos : Pos} (hs : PA X es (TDs X.K g)) (hl : ∀ s xs s', g s = some (xs, s') → xs.length ≤ sizeLine) :
    PE X (.List es pos) (TEv X.K (eData g .l)) := PE.imp (pe_lst hs) fun σ H Q q => by
  obtain ⟨ι, F, st, w, s1, hS, e, hQ⟩ := q
  obtain ⟨⟨xs, t1⟩, e1, e⟩ := mapSome e
  cases e
  refine ⟨ι, F, st, xs, s1, hS, e1, fun ι1 F1 H1 vs p1 R1 d1 => ⟨by rw [d1.length]; exact hl _ _ _ e1, fun p hp => ?_⟩⟩
  exact hQ ι1 F1 _ (.ref p) (p1.trans (Stp.new hp)) (R1.new hp) (rv_list R1 hp d1) (Fresh.new (p1.tr p hp))
end
end DE
/-! DE: operators. -/
namespace DE
open PySem PySem.Spec PyProof.Rows L2

/-- what an operation on read values leaves -/
structure Res (K : PySem.W.Frag) (ι : List Addr) (F : Addr → Prop) (st : S) (σ : L2.St) (H : Hp) (r : SV) (H' : Hp) (v : V) : Prop where
  p : Stp ι F st σ H ι F st σ H'
  R : SR K ι F st σ H'
  rv : RV K ι F st σ H' r v
  f : Fresh st σ H r v
section
variable {K : PySem.W.Frag} {ι : List Addr} {F : Addr → Prop} {st : S} {σ : L2.St} {H : Hp}
theorem Res.d (R : SR K ι F st σ H) {x : D} {v : V} (h : DF K F H v x) : Res K ι F st σ H (.d x) H v := ⟨Stp.refl, R, RV.d h, Fresh.d⟩
theorem Res.list (R : SR K ι F st σ H) {p : Addr} {vs : List V} {xs : List D} (hp : H p = none) (h : DFs K F H vs xs) : Res K ι F st σ H (.l xs) (upd H p (.lst vs)) (.ref p) :=
  ⟨Stp.new hp, R.new hp, rv_list R hp h, Fresh.new hp⟩
theorem Res.tup (R : SR K ι F st σ H) {p : Addr} {vs : List V} {xs : List D} {ob : Obj} (hp : H p = none) (ho : PlainT ob) (h : DFs K F H vs xs) : Res K ι F st σ H (.d (.tuple xs)) (upd H p (.frz ob (.tup vs))) (.ref p) :=
  ⟨Stp.new hp, R.new hp, rv_tup hp ho h, Fresh.d⟩
theorem Res.dict (R : SR K ι F st σ H) {p : Addr} {ps : List (Key × V)} {kvs : List (Key × D)} (hp : H p = none) (h : KF K F H ps kvs) : Res K ι F st σ H (.m true kvs) (upd H p (.dK ps)) (.ref p) :=
  ⟨Stp.new hp, R.new hp, rv_dict R hp h, Fresh.new hp⟩
end

section
variable {X : Cx}
/-- list + list: tracked or locked -/
def rCatR : R2 := fun x y H Q => ∃ l b xs zs, x = .ref l ∧ y = .ref b ∧ Rd H l (.lst xs) ∧ Rd H b (.lst zs) ∧ xs.length + zs.length ≤ sizeLine ∧ ∀ p, H p = none → Q (.ref p) (upd H p (.lst (xs ++ zs)))
theorem op_catR : OpR X (binaryOp .Add) rCatR := fun pins s σ H x y v u Q I rx ry h => by
  obtain ⟨l, b, xs, zs, ex, ey, h1, h2, hz, q⟩ := h
  subst ex ey
  cases rx; cases ry
  obtain ⟨_, i1, n1, v1, g1⟩ := h1.ok I.hok
  obtain ⟨_, i2, n2, v2, g2⟩ := h2.ok I.hok
  have k1 := v1.length
  have k2 := v2.length
  refine PySem.P.add_list g1 g2 ?_ (by simp only [List.size_toArray]; omega)
  rw [show i1.toArray ++ i2.toArray = (i1 ++ i2).toArray by simp]
  exact ⟨.ref _, _, I.lnew (t' := s.toks) (v1.append v2) (by simp only [List.length_append]; omega), rfl, q _ I.fresh⟩
/-- tuple + tuple -/
def rCatF (K : PySem.W.Frag) : R2 := fun x y H Q => ∃ a b xs ys, x = .ref a ∧ y = .ref b ∧ SqT K H a xs ∧ SqT K H b ys ∧ xs ≠ [] ∧ xs.length + ys.length ≤ sizeLine ∧
  (ys = [] → Q (.ref a) H) ∧ (ys ≠ [] → ∀ p ob, H p = none → PlainT ob → Q (.ref p) (upd H p (.frz ob (.tup (xs ++ ys)))))
theorem op_catF : OpR X (binaryOp .Add) (rCatF X.K) := fun pins s σ H x y v u Q I rx ry h => by
  obtain ⟨a, b, xs, ys, ex, ey, ha, hb, hne, hz, q1, q2⟩ := h
  subst ex ey
  cases rx; cases ry
  obtain ⟨i1, r1, p1, _⟩ := I.tuple ha
  obtain ⟨i2, r2, p2, _⟩ := I.tuple hb
  refine HT.cat_tup p1 p2 (fun z => hne (r1.nil_iff.mp z)) (fun z => ⟨.ref a, H, I, rfl, q1 (r2.nil_iff.mp z)⟩) (fun z => ?_) (by have := r1.length; have := r2.length; omega)
  exact ⟨.ref s.heap.objs.size, _, new_tup I (r1.append r2) (by simp only [List.length_append]; omega), rfl, q2 (fun e => z (r2.nil_iff.mpr e)) _ _ (I.hok.fresh (Nat.le_refl _)) ⟨rfl, rfl⟩⟩
def rMulW : R2 := fun x y H Q => ∃ i j, x = .int i ∧ y = .int j ∧ IntMulOk i j ∧ Q (.int (i * j)) H
theorem op_mulA : OpR X (binaryOp .Mult) rMulW := fun pins s σ H x y v u Q I rx ry h => by
  obtain ⟨i, j, ex, ey, hc, q⟩ := h
  subst ex ey
  obtain ⟨t1, rfl⟩ := rx
  obtain ⟨t2, rfl⟩ := ry
  exact mul_int ⟨.int (i * j), H, I.tok _, ⟨_, rfl⟩, q⟩ hc
end
def pyBOp : BOp → Operator
  | .add => .Add | .sub => .Sub | .mul => .Mult | .fdiv => .FloorDiv | .mod => .Mod | .pow => .Pow
def rAll4 (K : PySem.W.Frag) : R2 := fun x y H Q => (∃ i j, x = .int i ∧ y = .int j ∧ Q (.int (i + j)) H) ∨ (∃ i j, x = .str i ∧ y = .str j ∧ i.length + j.length ≤ sizeLine ∧ Q (.str (i ++ j)) H) ∨ rCatR x y H Q ∨ rCatF K x y H Q
def opR (K : PySem.W.Frag) : BOp → R2
  | .add => rAll4 K
  | .sub => rI0 fun i j => .int (i - j)
  | .mul => rMulW
  | .fdiv => rI CDiv fun i j => .int (i / j)
  | .mod => rI (fun _ j => 0 < j) fun i j => .int (i % j)
  | .pow => rI CPow fun i j => .int (i ^ j.toNat)
theorem opR_ok {X : Cx} : ∀ op : BOp, OpR X (binaryOp (pyBOp op)) (opR X.K op)
  | .add => OpR.or op_add (OpR.or op_add_str (OpR.or op_catR op_catF))
  | .sub => op_sub
  | .mul => op_mulA
  | .fdiv => op_fdiv
  | .mod => op_mod
  | .pow => op_pow
theorem okMul_ok {i j : Int} (h : okMul i j = true) : IntMulOk i j := by
  unfold okMul at h
  simp only [Bool.or_eq_true, Bool.and_eq_true, decide_eq_true_eq] at h
  rcases h with (h | h) | ⟨h1, h2⟩
  · exact CMul.ok (.inl ⟨by omega, by omega⟩)
  · exact CMul.ok (.inr ⟨by omega, by omega⟩)
  · exact CMulW.ok (wide_mul h1 h2 (by decide) (by decide) (by decide))
theorem bin_ok {K : PySem.W.Frag} {ι : List Addr} {F : Addr → Prop} {st : S} {σ : L2.St} {H : Hp} (R : SR K ι F st σ H) {op : BOp} {x y : D} {vx vy : V} {r : SV} {Q : VK} (hb : bin op x y = some r) (dx : DT K F H vx x) (dy : DT K F H vy y)
    (hQ : ∀ H' v, Res K ι F st σ H r H' v → Q v H') : opR K op vx vy H Q := by
  have fin : ∀ {z : D} {v : V}, r = .d z → DF K F H v z → Q v H := fun {z v} e d => hQ H v (by rw [e]; exact Res.d R d)
  unfold bin at hb
  split at hb
  · cases dx.int; cases dy.int; cases hb
    exact .inl ⟨_, _, rfl, rfl, fin rfl (.int _)⟩
  · cases dx.int; cases dy.int; cases hb
    exact ⟨_, _, rfl, rfl, fin rfl (.int _)⟩
  · split at hb
    · cases dx.int; cases dy.int; cases hb
      exact ⟨_, _, rfl, rfl, okMul_ok (by assumption), fin rfl (.int _)⟩
    · cases hb
  · split at hb
    · cases dx.int; cases dy.int; cases hb
      rename_i hc
      exact ⟨_, _, rfl, rfl, hc, fin rfl (.int _)⟩
    · cases hb
  · split at hb
    · cases dx.int; cases dy.int; cases hb
      rename_i hc
      exact ⟨_, _, rfl, rfl, hc, fin rfl (.int _)⟩
    · cases hb
  · split at hb
    · cases dx.int; cases dy.int; cases hb
      rename_i hc
      exact ⟨_, _, rfl, rfl, ⟨hc.1, by omega, hc.2.2⟩, fin rfl (.int _)⟩
    · cases hb
  · split at hb
    · cases dx.str; cases dy.str; cases hb
      rename_i hc
      exact .inr (.inl ⟨_, _, rfl, rfl, hc, fin rfl (.str _)⟩)
    · cases hb
  · split at hb
    · cases hb
      rename_i hc
      obtain ⟨a, vs, rfl, h1, h2⟩ := dx.list
      obtain ⟨b, us, rfl, h3, h4⟩ := dy.list
      exact .inr (.inr (.inl ⟨a, b, vs, us, rfl, rfl, h1, h3, by rw [h2.length, h4.length]; exact hc, fun p hp => hQ _ _ (Res.list R hp (h2.append h4))⟩))
    · cases hb
  · split at hb
    · cases hb
      rename_i xs ys hc
      obtain ⟨a, vs, rfl, h1, h2⟩ := dx.tuple
      obtain ⟨b, us, rfl, h3, h4⟩ := dy.tuple
      have l1 := h2.length
      have l2 := h4.length
      refine .inr (.inr (.inr ⟨a, b, vs, us, rfl, rfl, h1.sq, h3.sq, fun z => hc.1 (by subst z; cases h2; rfl), by omega, fun z => hQ _ _ ?_, fun z p ob hp ho => hQ _ _ (Res.tup R hp ho (h2.append h4))⟩))
      subst z
      cases h4
      rw [List.append_nil]
      exact Res.d R (.tup h1 h2)
    · cases hb
  · cases hb

/-! ### comparisons -/
theorem scal_eqv {K : PySem.W.Frag} {F : Addr → Prop} {H : Hp} {x y : D} {v u : V} (h : isScal x y = true) (dx : DT K F H v x) (dy : DT K F H u y) : scal v u = true ∧ PyData.eqv x y = decide (v = u) := by
  cases x <;> cases y <;> first
    | (cases dx.non; cases dy.non; exact ⟨rfl, by simp [PyData.eqv]⟩)
    | (cases dx.non; cases dy.int; exact ⟨rfl, by simp [PyData.eqv]⟩)
    | (cases dx.non; cases dy.bl; exact ⟨rfl, by simp [PyData.eqv]⟩)
    | (cases dx.non; cases dy.str; exact ⟨rfl, by simp [PyData.eqv]⟩)
    | (cases dx.int; cases dy.non; exact ⟨rfl, by simp [PyData.eqv]⟩)
    | (cases dx.bl; cases dy.non; exact ⟨rfl, by simp [PyData.eqv]⟩)
    | (cases dx.str; cases dy.non; exact ⟨rfl, by simp [PyData.eqv]⟩)
    | (cases dx.int; cases dy.int; exact ⟨rfl, by simp only [PyData.eqv]; exact dec_int.symm⟩)
    | (cases dx.bl; cases dy.bl; exact ⟨rfl, by simp only [PyData.eqv]; exact dec_bl.symm⟩)
    | (cases dx.str; cases dy.str; exact ⟨rfl, by simp only [PyData.eqv]; exact dec_str.symm⟩)
    | (cases dx.int; cases dy.str; exact ⟨rfl, by simp [PyData.eqv]⟩)
    | (cases dx.str; cases dy.int; exact ⟨rfl, by simp [PyData.eqv]⟩)
    | (cases dx.bl; cases dy.str; exact ⟨rfl, by simp [PyData.eqv]⟩)
    | (cases dx.str; cases dy.bl; exact ⟨rfl, by simp [PyData.eqv]⟩)
    | cases h
def pyCOp : COp → CmpOp
  | .eq => .Eq | .ne => .NotEq | .lt => .Lt | .le => .LtE | .gt => .Gt | .ge => .GtE | .isN => .Is | .notN => .IsNot | .inn => .In | .nin => .NotIn
def cmpR (K : PySem.W.Frag) : COp → R2
  | .eq => fun x y H Q => rEq x y H Q ∨ rEqD K x y H Q
  | .ne => fun x y H Q => rNe x y H Q ∨ rNeD K x y H Q
  | .lt => rI0 fun i j => .bl (decide (i < j))
  | .le => rI0 fun i j => .bl (decide (i ≤ j))
  | .gt => rI0 fun i j => .bl (decide (j < i))
  | .ge => rI0 fun i j => .bl (decide (j ≤ i))
  | .isN => fun x y H Q => y = .non ∧ Q (.bl (decide (x = .non))) H
  | .notN => fun x y H Q => y = .non ∧ Q (.bl (!decide (x = .non))) H
  | .inn => rIn K false
  | .nin => rIn K true
theorem cmpR_ok {X : Cx} (hu : X.A.units + 64 < cLine) : ∀ op : COp, OpR X (compareOp (pyCOp op)) (cmpR X.K op)
  | .eq => OpR.or op_eq (op_eqD hu)
  | .ne => OpR.or op_ne (op_neD hu)
  | .lt => op_lt
  | .le => op_le
  | .gt => op_gt
  | .ge => op_ge
  | .isN => op_isN
  | .notN => op_notN
  | .inn => op_in_seq
  | .nin => op_notIn_seq
theorem flat_of {K : PySem.W.Frag} {F : Addr → Prop} {H : Hp} {x : D} {v : V} (h : isFlat x = true) (d : DF K F H v x) : flatV v = true := by
  cases x <;> first | (cases d; rfl) | cases h
theorem flat_all {K : PySem.W.Frag} {F : Addr → Prop} {H : Hp} : ∀ {xs : List D} {vs : List V}, xs.all isFlat = true → DFs K F H vs xs → vs.all flatV = true
  | [], _, _, h => by cases h; rfl
  | x :: xs, _, e, h => by
    cases h with
    | cons h1 h2 =>
      rw [List.all_cons, Bool.and_eq_true] at e
      rw [List.all_cons, Bool.and_eq_true]
      exact ⟨flat_of e.1 h1, flat_all e.2 h2⟩
theorem eqV_eqv {K : PySem.W.Frag} {F : Addr → Prop} {H : Hp} {x y : D} {v u : V} (hx : isFlat x = true) (hy : isFlat y = true) (dx : DF K F H v x) (dy : DF K F H u y) : eqV v u = PyData.eqv x y := by
  cases x <;> first
    | (cases dx; cases y <;> first | (cases dy; simp [eqV, PyData.eqv]; done) | cases hy)
    | cases hx
theorem mem_inV {K : PySem.W.Frag} {F : Addr → Prop} {H : Hp} {x : D} {v : V} (hx : isFlat x = true) (dx : DF K F H v x) : ∀ {ys : List D} {us : List V}, ys.all isFlat = true → DFs K F H us ys → inV v us = mem x ys
  | [], _, _, h => by cases h; rfl
  | y :: ys, _, e, h => by
    cases h with
    | cons h1 h2 =>
      rw [List.all_cons, Bool.and_eq_true] at e
      have ih := mem_inV hx dx e.2 h2
      unfold inV mem at ih ⊢
      rw [List.any_cons, List.any_cons, eqV_eqv e.1 hx h1 dx, ih]
theorem isFlat_df {K : PySem.W.Frag} {F : Addr → Prop} {H : Hp} {x : D} {v : V} (h : isFlat x = true) (d : DT K F H v x) : DF K F H v x := by
  rcases d with d | ⟨a, vs, xs, _, e, _⟩
  · exact d
  · subst e; cases h
theorem isNone_ok {K : PySem.W.Frag} {F : Addr → Prop} {H : Hp} {x : D} {v : V} (d : DT K F H v x) : isNone x = decide (v = V.non) := by
  rcases d with d | ⟨a, vs, xs, rfl, rfl, _⟩
  · cases d <;> rfl
  · rfl
theorem items_ok {K : PySem.W.Frag} {F : Addr → Prop} {H : Hp} {x : D} {v : V} {xs : List D} (e : items x = some xs) (d : DT K F H v x) : ∃ a vs, v = .ref a ∧ (SqL K H a vs ∨ SqT K H a vs) ∧ DFs K F H vs xs := by
  cases x <;> first
    | (cases e
       obtain ⟨a, vs, h0, h1, h2⟩ := d.list
       exact ⟨a, vs, h0, .inl (.inl h1), h2⟩)
    | (cases e
       obtain ⟨a, vs, h0, h1, h2⟩ := d.tuple
       exact ⟨a, vs, h0, .inr h1.sq, h2⟩)
    | cases e
theorem cmp_ok {K : PySem.W.Frag} {F : Addr → Prop} {H : Hp} {op : COp} {x y : D} {vx vy : V} {r : Bool} {Q : VK} (hb : cmp op x y = some r) (dx : DT K F H vx x) (dy : DT K F H vy y) (hQ : Q (.bl r) H) : cmpR K op vx vy H Q := by
  unfold cmp at hb
  split at hb
  · split at hb
    · cases hb
      rename_i he
      unfold eqOk at he
      rw [Bool.or_eq_true, Bool.and_eq_true] at he
      rcases he with he | ⟨h1, h2⟩
      · obtain ⟨e1, e2⟩ := scal_eqv he dx dy
        exact .inl ⟨e1, by rw [← e2]; exact hQ⟩
      · exact .inr ⟨x, y, dx.dp, dy.dp, h1, h2, hQ⟩
    · cases hb
  · split at hb
    · cases hb
      rename_i he
      unfold eqOk at he
      rw [Bool.or_eq_true, Bool.and_eq_true] at he
      rcases he with he | ⟨h1, h2⟩
      · obtain ⟨e1, e2⟩ := scal_eqv he dx dy
        exact .inl ⟨e1, by rw [← e2]; exact hQ⟩
      · exact .inr ⟨x, y, dx.dp, dy.dp, h1, h2, hQ⟩
    · cases hb
  · cases dx.int; cases dy.int; cases hb
    exact ⟨_, _, rfl, rfl, hQ⟩
  · cases dx.int; cases dy.int; cases hb
    exact ⟨_, _, rfl, rfl, hQ⟩
  · cases dx.int; cases dy.int; cases hb
    exact ⟨_, _, rfl, rfl, hQ⟩
  · cases dx.int; cases dy.int; cases hb
    exact ⟨_, _, rfl, rfl, hQ⟩
  · cases dy.non
    cases hb
    exact ⟨rfl, by rw [← isNone_ok dx]; exact hQ⟩
  · cases dy.non
    cases hb
    exact ⟨rfl, by rw [← isNone_ok dx]; exact hQ⟩
  · obtain ⟨ys, e1, hb⟩ := bindSome hb
    split at hb
    · cases hb
      rename_i hf
      have d := isFlat_df hf.1 dx
      obtain ⟨a, vs, rfl, h1, h2⟩ := items_ok e1 dy
      exact ⟨a, vs, rfl, h1, flat_of hf.1 d, flat_all hf.2 h2, by rw [mem_inV hf.1 d hf.2 h2]; exact hQ⟩
    · cases hb
  · obtain ⟨ys, e1, hb⟩ := bindSome hb
    split at hb
    · cases hb
      rename_i hf
      have d := isFlat_df hf.1 dx
      obtain ⟨a, vs, rfl, h1, h2⟩ := items_ok e1 dy
      exact ⟨a, vs, rfl, h1, flat_of hf.1 d, flat_all hf.2 h2, by rw [mem_inV hf.1 d hf.2 h2]; exact hQ⟩
    · cases hb
  · cases hb
end DE
/-! DE: rules of expressions. -/
namespace DE
open PySem PySem.Spec PyProof.Rows L2
section
variable {X : Cx} {a b c : Expr} {fa fb fc : S → Option (SV × S)} {pos : Pos}
theorem r_bin {op : BOp} (ha : PE X a (TEv X.K fa)) (hb : PE X b (TEv X.K fb)) : PE X (.BinOp a (pyBOp op) b pos) (TEv X.K (eTwo fa fb (binV op))) := PE.imp (pe_op (opR_ok op) ha hb) fun σ H Q q => by
  obtain ⟨ι, F, st, w, s1, hS, e, hQ⟩ := q
  obtain ⟨⟨x, t1⟩, e1, e⟩ := bindSome e
  obtain ⟨⟨y, t2⟩, e2, e⟩ := bindSome e
  obtain ⟨r, e5, e⟩ := mapSome e
  cases e
  obtain ⟨x', e3, e5⟩ := bindSome e5
  obtain ⟨y', e4, e5⟩ := bindSome e5
  exact TEv.two hS e1 e2 fun ι' F' H' v u p R r1 r2 => bin_ok R e5 (view_ok R r1 e3) (view_ok R r2 e4) fun H2 v2 z => hQ ι' F' H2 v2 (p.trans z.p) z.R z.rv (z.f.back p)
theorem r_neg (ha : PE X a (TEv X.K fa)) : PE X (.UnaryOp .USub a pos) (TEv X.K (eOne fa negV)) := PE.imp (pe_un un_neg ha) fun σ H Q q => by
  obtain ⟨ι, F, st, w, s1, hS, e, hQ⟩ := q
  obtain ⟨⟨x, t1⟩, e1, e⟩ := bindSome e
  obtain ⟨r, e2, e⟩ := mapSome e
  cases e
  unfold negV at e2
  split at e2
  · cases e2
    refine TEv.one hS e1 fun ι' F' H' v p R r f => ?_
    cases r.1
    exact ⟨_, rfl, hQ ι' F' H' _ p R (RV.d (.int _)) Fresh.d⟩
  · cases e2
theorem cmpV_ok {ι : List Addr} {F : Addr → Prop} {st : S} {σ : L2.St} {H : Hp} {op : COp} {x y : SV} {v u : V} {r : Bool} {Q : VK} (R : SR X.K ι F st σ H) (h : cmpV op st x y = some r) (r1 : RV X.K ι F st σ H x v) (r2 : RV X.K ι F st σ H y u) (hQ : Q (.bl r) H) : cmpR X.K op v u H Q := by
  obtain ⟨x', e1, h⟩ := bindSome h
  obtain ⟨y', e2, h⟩ := bindSome h
  exact cmp_ok h (view_ok R r1 e1) (view_ok R r2 e2) hQ
theorem dict_ok {K : PySem.W.Frag} {ι : List Addr} {F : Addr → Prop} {st : S} {σ : L2.St} {H : Hp} {w : SV} {v : V} {kvs : List (Key × D)} (R : SR K ι F st σ H) (r : RV K ι F st σ H w v) (e : st.dict w = some kvs) : ∃ a ps, v = .ref a ∧ H a = some (.dK ps) ∧ KF K F H ps kvs := by
  have cell : ∀ (n : Nat), st.h[n]? = some kvs → (∃ a, v = .ref a ∧ ι[n]? = some a) → ∃ a ps, v = .ref a ∧ H a = some (.dK ps) ∧ KF K F H ps kvs := fun n h z => by
    obtain ⟨a, ev, hi⟩ := z
    obtain ⟨b, ps, h1, h2, h3⟩ := R.ce n kvs h
    rw [hi] at h1; cases h1
    exact ⟨a, ps, ev, h2, h3⟩
  cases w with
  | d x => cases e
  | l x => cases e
  | m o k =>
    cases e
    obtain ⟨⟨a, ps, ev, h1, h2, _⟩, _⟩ := r
    exact ⟨a, ps, ev, h1, h2⟩
  | c n => exact cell n e r.1
  | b i =>
    have e' : (match st.at i with | some (.m _ kvs) => some kvs | some (.c n) => st.h[n]? | _ => none) = some kvs := e
    have hσ : σ[i]? = some (some v) := r
    cases h : st.at i with
    | none => rw [h] at e'; cases e'
    | some u =>
      rw [h] at e'
      obtain ⟨v', hv, r'⟩ := R.sl i u h
      rw [hσ] at hv; cases hv
      cases u with
      | d x => cases e'
      | l x => cases e'
      | b x => cases e'
      | c n => exact cell n e' r'
      | m o k =>
        cases e'
        obtain ⟨a, ps, ev, h1, h2, _⟩ := r'
        exact ⟨a, ps, ev, h1, h2⟩
theorem keyOf_ok {K : PySem.W.Frag} {F : Addr → Prop} {H : Hp} {x : D} {v : V} {k : Key} (e : keyOf x = some k) (d : DT K F H v x) : v = kV k := by
  cases x <;> first
    | (cases e; exact d.int)
    | (cases e; exact d.str)
    | cases e
theorem inD_ok {neg : Bool} {ι : List Addr} {F : Addr → Prop} {st : S} {σ : L2.St} {H : Hp} {x y : SV} {v u : V} {r : Bool} (R : SR X.K ι F st σ H) (h : inD neg st x y = some r) (r1 : RV X.K ι F st σ H x v) (r2 : RV X.K ι F st σ H y u) :
    ∃ a o, u = .ref a ∧ DGet H a v o ∧ r = (if neg = true then !o.isSome else o.isSome) := by
  obtain ⟨kvs, e1, h⟩ := bindSome h
  obtain ⟨x', e2, h⟩ := bindSome h
  obtain ⟨k, e3, h⟩ := mapSome h
  subst h
  obtain ⟨a, ps, ev, h1, h2⟩ := dict_ok R r2 e1
  have ek := keyOf_ok e3 (view_ok R r1 e2)
  subst ek
  refine ⟨a, _, ev, DGet.k h1, ?_⟩
  rcases h2.find k with ⟨z1, z2⟩ | ⟨_, _, z1, z2, _⟩
  · rw [z1, z2] <;> rfl
  · rw [z1, z2] <;> rfl
theorem r_cmp {op : COp} (hu : X.A.units + 64 < cLine) (ha : PE X a (TEv X.K fa)) (hb : PE X b (TEv X.K fb)) (hm : behindInMarks (pyCOp op) b = false) : PE X (.Compare a [pyCOp op] [b] pos) (TEv X.K (eCmp op fa fb)) := by
  have h1 := pe_cmpR (pos := pos) (cmpR_ok hu op) ha hb hm
  have hin : PE X (.Compare a [.In] [b] pos) (tDIn (TEv X.K fa) (TEv X.K fb)) ∨ op ≠ .inn := by
    by_cases e : op = .inn
    · subst e; exact .inl (pe_cmp (pc_din (by omega) ha hb) hm)
    · exact .inr e
  have hnin : PE X (.Compare a [.NotIn] [b] pos) (tDNotIn (TEv X.K fa) (TEv X.K fb)) ∨ op ≠ .nin := by
    by_cases e : op = .nin
    · subst e; exact .inl (pe_cmp (pc_dnotin (by omega) ha hb) hm)
    · exact .inr e
  refine ⟨fun pins s σ H Q I q => ?_⟩
  obtain ⟨ι, F, st, w, s1, hS, e, hQ⟩ := q
  obtain ⟨⟨x, t1⟩, e1, e⟩ := bindSome e
  obtain ⟨⟨y, t2⟩, e2, e⟩ := bindSome e
  obtain ⟨r0, e4, e⟩ := mapSome e
  cases e
  obtain ⟨r, e3, e⟩ := mapSome e4
  subst e
  clear e4
  have plain : cmpV op s1 x y = some r → wpAny (model X.prog X.w) X.A (eval (.Compare a [pyCOp op] [b] pos) X.env) (EP X pins σ Q) X.xe s := fun hc =>
    h1.run pins s σ H Q I (TEv.two hS e1 e2 fun ι' F' H' v u p R r1 r2 => cmpV_ok R hc r1 r2 (hQ ι' F' H' _ p R (RV.d (.bl _)) Fresh.d))
  unfold cmpA at e3
  split at e3
  · rcases hin with hin | hin
    · refine hin.run pins s σ H Q I (TEv.two hS e1 e2 fun ι' F' H' v u p R r1 r2 => ?_)
      obtain ⟨a, o, h1, h2, h3⟩ := inD_ok R e3 r1 r2
      refine ⟨a, o, h1, h2, ?_⟩
      rw [if_neg (by decide)] at h3
      rw [← h3]
      exact hQ ι' F' H' _ p R (RV.d (.bl _)) Fresh.d
    · exact absurd rfl hin
  · rcases hnin with hnin | hnin
    · refine hnin.run pins s σ H Q I (TEv.two hS e1 e2 fun ι' F' H' v u p R r1 r2 => ?_)
      obtain ⟨a, o, h1, h2, h3⟩ := inD_ok R e3 r1 r2
      refine ⟨a, o, h1, h2, ?_⟩
      rw [if_pos rfl] at h3
      rw [← h3]
      exact hQ ι' F' H' _ p R (RV.d (.bl _)) Fresh.d
    · exact absurd rfl hnin
  · exact plain e3
theorem r_cmp2 {op op' : COp} (hu : X.A.units + 64 < cLine) (ha : PE X a (TEv X.K fa)) (hb : PE X b (TEv X.K fb)) (hc : PE X c (TEv X.K fc)) (hm : behindInMarks (pyCOp op) b = false) (hm' : behindInMarks (pyCOp op') c = false)
    (ch : PE X (.Compare a [pyCOp op, pyCOp op'] [b, c] pos) (tChain (cmpR X.K op) (cmpR X.K op') (TEv X.K fa) (TEv X.K fb) (TEv X.K fc))) :
    PE X (.Compare a [pyCOp op, pyCOp op'] [b, c] pos) (TEv X.K (eCmp2 op op' fa fb fc)) := PE.imp ch fun σ H Q q => by
  obtain ⟨ι, F, st, w, s1, hS, e, hQ⟩ := q
  obtain ⟨⟨x, t1⟩, e1, e⟩ := bindSome e
  obtain ⟨⟨y, t2⟩, e2, e⟩ := bindSome e
  obtain ⟨r, e3, e⟩ := bindSome e
  refine TEv.two hS e1 e2 fun ι' F' H' v u p R r1 r2 => cmpV_ok R e3 r1 r2 ⟨r, rfl, ?_⟩
  cases r with
  | true =>
    rw [if_pos rfl] at e
    obtain ⟨⟨z, t3⟩, e4, e⟩ := bindSome e
    obtain ⟨r', e5, e⟩ := mapSome e
    cases e
    refine TEv.one R e4 fun ι2 F2 H2 v2 p2 R2 r3 f2 => cmpV_ok R2 e5 (r2.step R p2) r3 ?_
    exact hQ ι2 F2 H2 _ (p.trans p2) R2 (RV.d (.bl _)) Fresh.d
  | false =>
    rw [if_neg Bool.false_ne_true] at e
    cases e
    exact hQ ι' F' H' _ p R (RV.d (.bl _)) Fresh.d

/-! ### tests -/
theorem r_tB (h : PE X a (TEv X.K fa)) {t : TE} (e : t = TEv X.K fa) : ∀ σ H (Q : Bool → Hp → Prop), TTv X.K (tests fa) σ H Q → tB (TEv X.K fa) σ H Q := fun σ H Q q => by
  obtain ⟨ι, F, st, b, s1, hS, e, hQ⟩ := q
  obtain ⟨⟨w, t1⟩, e1, e⟩ := bindSome e
  dsimp only at e
  split at e
  · cases e
    refine TEv.one hS e1 fun ι' F' H' v p R r f => ?_
    cases r.1
    exact ⟨_, rfl, hQ ι' F' H' p R⟩
  · cases e
theorem r_val (h : PE X a (TEv X.K fa)) (he : ∀ whole, isTrue a X.env whole = (do let v ← whole; standAt a.pos; holding [v] (truthy v))) : PT X a (TTv X.K (tests fa)) :=
  PT.imp (pt_val h he) (r_tB h rfl)
end
end DE
/-! DE: more rules of expressions. -/
namespace DE
open PySem PySem.Spec PyProof.Rows L2
section
variable {X : Cx} {a b c : Expr} {fa fb fc : S → Option (SV × S)} {pos : Pos}

/-! ### comparisons as tests -/
theorem tests_bool {f : RunE} {st s1 : S} {b : Bool} (h : tests f st = some (b, s1)) : f st = some (.d (.bool b), s1) := by
  obtain ⟨⟨w, t1⟩, e1, e⟩ := bindSome h
  dsimp only at e
  split at e
  · cases e; exact e1
  · cases e
theorem r_cmpT {op : COp} (hu : X.A.units + 64 < cLine) (ha : PE X a (TEv X.K fa)) (hb : PE X b (TEv X.K fb)) (hm : behindInMarks (pyCOp op) b = false) : PT X (.Compare a [pyCOp op] [b] pos) (TTv X.K (tests (eCmp op fa fb))) := by
  have h1 := pt_cmpR (pos := pos) (cmpR_ok hu op) ha hb hm
  have hin : PT X (.Compare a [.In] [b] pos) (tB (tDIn (TEv X.K fa) (TEv X.K fb))) ∨ op ≠ .inn := by
    by_cases e : op = .inn
    · subst e; exact .inl (pt_cmp (pc_din (by omega) ha hb) hm)
    · exact .inr e
  have hnin : PT X (.Compare a [.NotIn] [b] pos) (tB (tDNotIn (TEv X.K fa) (TEv X.K fb))) ∨ op ≠ .nin := by
    by_cases e : op = .nin
    · subst e; exact .inl (pt_cmp (pc_dnotin (by omega) ha hb) hm)
    · exact .inr e
  refine ⟨fun pins s σ H Q I q => ?_⟩
  obtain ⟨ι, F, st, b0, s1, hS, e, hQ⟩ := q
  replace e := tests_bool e
  obtain ⟨⟨x, t1⟩, e1, e⟩ := bindSome e
  obtain ⟨⟨y, t2⟩, e2, e⟩ := bindSome e
  obtain ⟨r0, e4, e⟩ := mapSome e
  obtain ⟨r, e3, e'⟩ := mapSome e4
  subst e'
  cases e
  clear e4
  unfold cmpA at e3
  split at e3
  · rcases hin with hin | hin
    · refine hin.run pins s σ H Q I (TEv.two hS e1 e2 fun ι' F' H' v u p R r1 r2 => ?_)
      obtain ⟨a, o, h1, h2, h3⟩ := inD_ok R e3 r1 r2
      refine ⟨a, o, h1, h2, _, rfl, ?_⟩
      rw [if_neg (by decide)] at h3
      rw [← h3]
      exact hQ ι' F' H' p R
    · exact absurd rfl hin
  · rcases hnin with hnin | hnin
    · refine hnin.run pins s σ H Q I (TEv.two hS e1 e2 fun ι' F' H' v u p R r1 r2 => ?_)
      obtain ⟨a, o, h1, h2, h3⟩ := inD_ok R e3 r1 r2
      refine ⟨a, o, h1, h2, _, rfl, ?_⟩
      rw [if_pos rfl] at h3
      rw [← h3]
      exact hQ ι' F' H' p R
    · exact absurd rfl hnin
  · exact h1.run pins s σ H Q I (TEv.two hS e1 e2 fun ι' F' H' v u p R r1 r2 => cmpV_ok R e3 r1 r2 ⟨_, rfl, hQ ι' F' H' p R⟩)
theorem r_cmp2T {op op' : COp}
    (ch : PT X (.Compare a [pyCOp op, pyCOp op'] [b, c] pos) (tTest (tChain (cmpR X.K op) (cmpR X.K op') (TEv X.K fa) (TEv X.K fb) (TEv X.K fc)))) :
    PT X (.Compare a [pyCOp op, pyCOp op'] [b, c] pos) (TTv X.K (tests (eCmp2 op op' fa fb fc))) := PT.imp ch fun σ H Q q => by
  obtain ⟨ι, F, st, b0, s1, hS, e, hQ⟩ := q
  replace e := tests_bool e
  obtain ⟨⟨x, t1⟩, e1, e⟩ := bindSome e
  obtain ⟨⟨y, t2⟩, e2, e⟩ := bindSome e
  obtain ⟨r, e3, e⟩ := bindSome e
  refine TEv.two hS e1 e2 fun ι' F' H' v u p R r1 r2 => cmpV_ok R e3 r1 r2 ⟨r, rfl, ?_⟩
  cases r with
  | true =>
    rw [if_pos rfl] at e
    obtain ⟨⟨z, t3⟩, e4, e⟩ := bindSome e
    obtain ⟨r', e5, e⟩ := mapSome e
    cases e
    refine TEv.one R e4 fun ι2 F2 H2 v2 p2 R2 r3 f2 => cmpV_ok R2 e5 (r2.step R p2) r3 ?_
    exact ⟨_, rfl, hQ ι2 F2 H2 (p.trans p2) R2⟩
  | false =>
    rw [if_neg Bool.false_ne_true] at e
    cases e
    exact ⟨_, rfl, hQ ι' F' H' p R⟩

/-! ### and, or, not, if-else -/
theorem TTv.one {K : PySem.W.Frag} {ι : List Addr} {F : Addr → Prop} {st s1 : S} {σ : L2.St} {H : Hp} {f : S → Option (Bool × S)} {R : Bool → Hp → Prop} (hS : SR K ι F st σ H) {b : Bool} (h : f st = some (b, s1))
    (k : ∀ ι' F' H', Stp ι F st σ H ι' F' s1 σ H' → SR K ι' F' s1 σ H' → R b H') : TTv K f σ H R := ⟨ι, F, st, b, s1, hS, h, k⟩
theorem r_not (ha : PT X a (TTv X.K (tests fa))) : PT X (.UnaryOp .Not a pos) (TTv X.K (tests (eNot fa))) := PT.imp (pt_not ha) fun σ H Q q => by
  obtain ⟨ι, F, st, b0, s1, hS, e, hQ⟩ := q
  replace e := tests_bool e
  obtain ⟨⟨b, t1⟩, e1, e⟩ := mapSome e
  cases e
  exact TTv.one hS e1 fun ι' F' H' p R => hQ ι' F' H' p R
theorem r_notV (ha : PE X a (TEv X.K fa)) : PE X (.UnaryOp .Not a pos) (TEv X.K (eNot fa)) := PE.imp (pe_not ha) fun σ H Q q => by
  obtain ⟨ι, F, st, w, s1, hS, e, hQ⟩ := q
  obtain ⟨⟨b, t1⟩, e1, e⟩ := mapSome e
  cases e
  refine TEv.one hS (tests_bool e1) fun ι' F' H' v p R r f => ?_
  cases r.1
  exact ⟨_, rfl, hQ ι' F' H' _ p R (RV.d (.bl _)) Fresh.d⟩
theorem r_and1V {op : PySem.BoolOp} (ha : PE X a (TEv X.K fa)) : PE X (.BoolOp op [a] pos) (TEv X.K fa) := pe_one ha
theorem r_and1 (ha : PT X a (TTv X.K (tests fa))) : PW X (.BoolOp .And [a] pos) (TTv X.K (tests fa)) := pw_and1 ha
theorem r_or1 (ha : PT X a (TTv X.K (tests fa))) : PW X (.BoolOp .Or [a] pos) (TTv X.K (tests fa)) := pw_or1 ha
theorem r_andV {rest : List Expr} (ha : PE X a (TEv X.K fa)) (hb : PE X (.BoolOp .And (b :: rest) pos) (TEv X.K fb)) : PE X (.BoolOp .And (a :: b :: rest) pos) (TEv X.K (eAnd fa fb)) := PE.imp (pe_and ha hb) fun σ H Q q => by
  obtain ⟨ι, F, st, w, s1, hS, e, hQ⟩ := q
  obtain ⟨⟨k, t1⟩, e1, e⟩ := bindSome e
  refine TEv.one hS (tests_bool e1) fun ι' F' H' v p R r f => ?_
  cases r.1
  refine ⟨k, rfl, ?_⟩
  cases k with
  | true => exact TEv.one R e fun ι2 F2 H2 v2 p2 R2 r2 f2 => hQ ι2 F2 H2 v2 (p.trans p2) R2 r2 (f2.back p)
  | false => cases e; exact hQ ι' F' H' _ p R (RV.d (.bl _)) Fresh.d
theorem r_orV {rest : List Expr} (ha : PE X a (TEv X.K fa)) (hb : PE X (.BoolOp .Or (b :: rest) pos) (TEv X.K fb)) : PE X (.BoolOp .Or (a :: b :: rest) pos) (TEv X.K (eOr fa fb)) := PE.imp (pe_or ha hb) fun σ H Q q => by
  obtain ⟨ι, F, st, w, s1, hS, e, hQ⟩ := q
  obtain ⟨⟨k, t1⟩, e1, e⟩ := bindSome e
  refine TEv.one hS (tests_bool e1) fun ι' F' H' v p R r f => ?_
  cases r.1
  refine ⟨k, rfl, ?_⟩
  cases k with
  | false => exact TEv.one R e fun ι2 F2 H2 v2 p2 R2 r2 f2 => hQ ι2 F2 H2 v2 (p.trans p2) R2 r2 (f2.back p)
  | true => cases e; exact hQ ι' F' H' _ p R (RV.d (.bl _)) Fresh.d
theorem r_and {rest : List Expr} (ha : PT X a (TTv X.K (tests fa))) (hb : PW X (.BoolOp .And (b :: rest) pos) (TTv X.K (tests fb))) : PW X (.BoolOp .And (a :: b :: rest) pos) (TTv X.K (tests (eAnd fa fb))) := PW.imp (pw_and ha hb) fun σ H Q q => by
  obtain ⟨ι, F, st, b0, s1, hS, e, hQ⟩ := q
  replace e := tests_bool e
  obtain ⟨⟨k, t1⟩, e1, e⟩ := bindSome e
  refine TTv.one hS e1 fun ι' F' H' p R => ?_
  cases k with
  | true =>
    have e' : tests fb t1 = some (b0, s1) := by
      unfold tests
      rw [show fb t1 = some (.d (.bool b0), s1) from e]
      rfl
    exact TTv.one R e' fun ι2 F2 H2 p2 R2 => hQ ι2 F2 H2 (p.trans p2) R2
  | false => cases e; exact hQ ι' F' H' p R
theorem r_or {rest : List Expr} (ha : PT X a (TTv X.K (tests fa))) (hb : PW X (.BoolOp .Or (b :: rest) pos) (TTv X.K (tests fb))) : PW X (.BoolOp .Or (a :: b :: rest) pos) (TTv X.K (tests (eOr fa fb))) := PW.imp (pw_or ha hb) fun σ H Q q => by
  obtain ⟨ι, F, st, b0, s1, hS, e, hQ⟩ := q
  replace e := tests_bool e
  obtain ⟨⟨k, t1⟩, e1, e⟩ := bindSome e
  refine TTv.one hS e1 fun ι' F' H' p R => ?_
  cases k with
  | false =>
    have e' : tests fb t1 = some (b0, s1) := by
      unfold tests
      rw [show fb t1 = some (.d (.bool b0), s1) from e]
      rfl
    exact TTv.one R e' fun ι2 F2 H2 p2 R2 => hQ ι2 F2 H2 (p.trans p2) R2
  | true => cases e; exact hQ ι' F' H' p R
theorem r_ite (hc : PT X c (TTv X.K (tests fc))) (ha : PE X a (TEv X.K fa)) (hb : PE X b (TEv X.K fb)) : PE X (.IfExp c a b pos) (TEv X.K (eIte fc fa fb)) := PE.imp (pe_ifExp hc ha hb) fun σ H Q q => by
  obtain ⟨ι, F, st, w, s1, hS, e, hQ⟩ := q
  obtain ⟨⟨k, t1⟩, e1, e⟩ := bindSome e
  refine TTv.one hS e1 fun ι' F' H' p R => ?_
  cases k with
  | true => exact TEv.one R e fun ι2 F2 H2 v2 p2 R2 r2 f2 => hQ ι2 F2 H2 v2 (p.trans p2) R2 r2 (f2.back p)
  | false => exact TEv.one R e fun ι2 F2 H2 v2 p2 R2 r2 f2 => hQ ι2 F2 H2 v2 (p.trans p2) R2 r2 (f2.back p)

/-! ### subscripts -/
theorem atI_df {K : PySem.W.Frag} {F : Addr → Prop} {H : Hp} {xs : List D} {vs : List V} {i : Int} {d : D} (h : DFs K F H vs xs) (e : atI xs i = some d) : ∃ v, atI vs i = some v ∧ DF K F H v d := by
  unfold atI at e ⊢
  rw [h.length]
  obtain ⟨j, e1, e2⟩ := bindSome e
  obtain ⟨v, e3, e4⟩ := h.get e2
  exact ⟨v, by rw [e1]; exact e3, e4⟩
theorem plainIx_of (h : match b with | .Slice _ _ _ _ => false | _ => true) : PlainIx b := by
  intro o i
  cases b <;> first | rfl | exact absurd h (by simp)
theorem r_ix (hu : X.A.units + 64 < cLine) (ha : PE X a (TEv X.K fa)) (hb : PE X b (TEv X.K fb)) (hp : PlainIx b) : PE X (.Subscript a b pos) (TEv X.K (eTwo fa fb ixV)) := by
  refine PE.imp (PE.or (pe_ix ix_seq ha hb hp) (pe_dget (by omega) ha hb fun o i => hp o i)) fun σ H Q q => ?_
  obtain ⟨ι, F, st, w, s1, hS, e, hQ⟩ := q
  obtain ⟨⟨x, t1⟩, e1, e⟩ := bindSome e
  obtain ⟨⟨y, t2⟩, e2, e⟩ := bindSome e
  obtain ⟨r, e3, e⟩ := mapSome e
  cases e
  obtain ⟨j, e4, e5⟩ := bindSome e3
  cases hd : s1.dict x with
  | some kvs =>
    rw [hd] at e5
    obtain ⟨k, e6, e7⟩ := bindSome e5
    obtain ⟨d, e8, e9⟩ := mapSome e7
    subst e9
    refine .inr (TEv.two hS e1 e2 fun ι' F' H' v u p R r1 r2 => ?_)
    obtain ⟨a, ps, ev, h1, h2⟩ := dict_ok R r1 hd
    have ek := keyOf_ok e6 (view_ok R r2 e4)
    subst ek
    rcases h2.find k with ⟨z1, z2⟩ | ⟨v', d', z1, z2, z3⟩
    · rw [z2] at e8; cases e8
    · rw [z2] at e8; cases e8
      exact ⟨a, v', ev, z1 ▸ DGet.k h1, hQ ι' F' H' v' p R (RV.d z3) Fresh.d⟩
  | none =>
    rw [hd] at e5
    obtain ⟨x', e6, e7⟩ := bindSome e5
    refine .inl (TEv.two hS e1 e2 fun ι' F' H' v u p R r1 r2 => ?_)
    have d1 := view_ok R r1 e6
    have d2 := view_ok R r2 e4
    split at e7
    · obtain ⟨d, e8, e9⟩ := mapSome e7
      subst e9
      cases d2.int
      unfold ixOf at e8
      split at e8
      · obtain ⟨a, vs, rfl, h1, h2⟩ := d1.list
        obtain ⟨v', g1, g2⟩ := atI_df h2 e8
        exact .inl ⟨a, vs, _, v', rfl, rfl, .inl h1, g1, hQ ι' F' H' v' p R (RV.d g2) Fresh.d⟩
      · obtain ⟨a, vs, rfl, h1, h2⟩ := d1.tuple
        obtain ⟨v', g1, g2⟩ := atI_df h2 e8
        exact .inr (.inl ⟨a, vs, _, v', rfl, rfl, h1.sq, g1, hQ ι' F' H' v' p R (RV.d g2) Fresh.d⟩)
      · split at e8
        · obtain ⟨c, e10, e11⟩ := mapSome e8
          subst e11
          cases d1.str
          exact .inr (.inr ⟨_, _, c, rfl, rfl, by assumption, e10, hQ ι' F' H' _ p R (RV.d (.str _)) Fresh.d⟩)
        · cases e8
      · cases e8
    · cases e7
end
end DE
/-! DE: slices, built-in calls. -/
namespace DE
open PySem PySem.Spec PyProof.Rows L2
theorem cut_df {K : PySem.W.Frag} {F : Addr → Prop} {H : Hp} {xs : List D} {vs : List V} (h : DFs K F H vs xs) (lo hi : Option Int) : DFs K F H (cutV vs lo hi) (cutL xs lo hi) := by
  unfold cutV cutL
  rw [h.length]
  exact (h.drop _).take _
section
variable {X : Cx} {a b c : Expr} {fa fb fc : S → Option (SV × S)} {pos : Pos}
/-- t[lo:hi] -/
def rSlF (K : PySem.W.Frag) : V → Option Int → Option Int → Hp → VK → Prop := fun x lo hi H Q => ∃ a xs, x = .ref a ∧ SqT K H a xs ∧ ¬ (HT.sIx xs.length 0 lo = 0 ∧ HT.sIx xs.length xs.length hi = xs.length) ∧
  ∀ p ob, H p = none → PlainT ob → Q (.ref p) (upd H p (.frz ob (.tup (cutV xs lo hi))))
theorem sl_tupF : SlR X (rSlF X.K) := fun pins s σ H x v vl vu lo hi sl Q I rx hs pl pu h => by
  obtain ⟨a, xs, ex, hx, hw, q⟩ := h
  subst ex
  cases rx
  obtain ⟨i1, r, p1, hz⟩ := I.tuple hx
  have hlen : i1.toArray.size = xs.length := by have := r.length; simp only [List.size_toArray]; omega
  refine ⟨"tuple", _, PyProof.Rows.slot_tuple_getitem.lookup, p1.typeIs, HT.getItem_tuple_cut p1 hs pl pu (by rw [hlen]; exact hw) ?_ (by rw [hlen]; exact hz)⟩
  rw [hlen]
  exact ⟨.ref s.heap.objs.size, _, new_tup I ((r.drop (HT.sIx xs.length 0 lo)).take _) (Nat.le_trans (cutV_length xs lo hi) hz), rfl, q _ _ (I.hok.fresh (Nat.le_refl _)) ⟨rfl, rfl⟩⟩
/-- a part of a slice -/
theorem r_oNone : PO X none (TIx X.K oNone) := ⟨fun pins s σ H Q I q => po_none.run pins s σ H Q I (by
  obtain ⟨ι, F, st, o, s1, hS, e, hQ⟩ := q
  cases e
  exact hQ ι F H Stp.refl hS)⟩
theorem r_oSome (ha : PE X a (TEv X.K fa)) : PO X (some a) (TIx X.K (oSome fa)) := ⟨fun pins s σ H Q I q => (po_some ha).run pins s σ H Q I (by
  obtain ⟨ι, F, st, o, s1, hS, e, hQ⟩ := q
  obtain ⟨⟨w, t1⟩, e1, e⟩ := bindSome e
  dsimp only at e
  split at e
  · cases e
    refine TEv.one hS e1 fun ι' F' H' v p R r f => ?_
    cases r.1
    exact ⟨_, rfl, hQ ι' F' H' p R⟩
  · cases e)⟩
theorem r_sl {lo hi : Option Expr} {p2 : Pos} {gl gh : S → Option (Option Int × S)} (ha : PE X a (TEv X.K fa)) (hl : PO X lo (TIx X.K gl)) (hh : PO X hi (TIx X.K gh)) : PE X (.Subscript a (.Slice lo hi none p2) pos) (TEv X.K (eSl fa gl gh)) := by
  refine PE.imp (pe_slice (SlR.or sl_list sl_tupF) ha hl hh) fun σ H Q q => ?_
  obtain ⟨ι, F, st, w, s1, hS, e, hQ⟩ := q
  obtain ⟨⟨x, t1⟩, e1, e⟩ := bindSome e
  obtain ⟨⟨l, t2⟩, e2, e⟩ := bindSome e
  obtain ⟨⟨h, t3⟩, e3, e⟩ := bindSome e
  obtain ⟨x', e4, e⟩ := bindSome e
  obtain ⟨r, e5, e⟩ := mapSome e
  cases e
  refine TEv.one hS e1 fun ι1 F1 H1 v p1 R1 r1 f1 => ⟨ι1, F1, t1, l, t2, R1, e2, fun ι2 F2 H2 p2 R2 => ⟨ι2, F2, t2, h, s1, R2, e3, fun ι3 F3 H3 p3 R3 => ?_⟩⟩
  have r3 := (r1.step R1 p2).step R2 p3
  have d := view_ok R3 r3 e4
  have pp := (p1.trans p2).trans p3
  unfold slOf at e5
  split at e5
  · cases e5
    obtain ⟨a, vs, rfl, h1, h2⟩ := d.list
    refine .inl ⟨a, vs, rfl, .inl h1, fun p hp => ?_⟩
    have z := Res.list R3 hp (cut_df h2 l h)
    exact hQ ι3 F3 _ _ (pp.trans z.p) z.R z.rv (z.f.back pp)
  · split at e5
    · cases e5
    · rename_i hw
      cases e5
      obtain ⟨a, vs, rfl, h1, h2⟩ := d.tuple
      refine .inr ⟨a, vs, rfl, h1.sq, fun z => hw ?_, fun p ob hp ho => ?_⟩
      · unfold isWhole
        rw [h2.length] at z
        rw [Bool.and_eq_true, decide_eq_true_eq, decide_eq_true_eq]
        exact z
      · have z := Res.tup R3 hp ho (cut_df h2 l h)
        exact hQ ι3 F3 _ _ (pp.trans z.p) z.R z.rv (z.f.back pp)
  · cases e5
theorem r_revL {k : Nat} {p1 p2 p3 : Pos} (ha : PE X a (TEv X.K fa)) : PE X (.Subscript a (.Slice none none (some (.UnaryOp .USub (.Constant (.int 1) k p1) p2)) p3) pos) (TEv X.K (eOne fa revV)) := by
  refine PE.imp (pe_revL ha) fun σ H Q q => ?_
  obtain ⟨ι, F, st, w, s1, hS, e, hQ⟩ := q
  obtain ⟨⟨x, t1⟩, e1, e⟩ := bindSome e
  obtain ⟨r, e2, e⟩ := mapSome e
  cases e
  obtain ⟨x', e3, e4⟩ := bindSome e2
  refine TEv.one hS e1 fun ι1 F1 H1 v p1 R1 r1 f1 => ?_
  have d := view_ok R1 r1 e3
  split at e4
  · cases e4
    obtain ⟨a, vs, rfl, h1, h2⟩ := d.list
    refine ⟨a, vs, rfl, .inl h1, fun p hp => ?_⟩
    have z := Res.list R1 hp h2.reverse
    exact hQ ι1 F1 _ _ (p1.trans z.p) z.R z.rv (z.f.back p1)
  · cases e4

/-! ### one value -/
/-- a call of one value -/
theorem r_call1 {f : Expr} {es : List Expr} {k : S → SV → Option SV} {r : List V → Hp → VK → Prop} (hc : PE X (.Call f [a] [] pos) (tCB r (tCons (TEv X.K fa) tNil)))
    (h : ∀ ι F st σ H w v u, SR X.K ι F st σ H → RV X.K ι F st σ H w v → k st w = some u → ∀ Q : VK, (∀ H' v', Res X.K ι F st σ H u H' v' → Q v' H') → r [v] H Q) : PE X (.Call f [a] [] pos) (TEv X.K (eOne fa k)) := PE.imp hc fun σ H Q q => by
  obtain ⟨ι, F, st, w, s1, hS, e, hQ⟩ := q
  obtain ⟨⟨x, t1⟩, e1, e⟩ := bindSome e
  obtain ⟨u, e2, e⟩ := mapSome e
  cases e
  exact TEv.one hS e1 fun ι1 F1 H1 v p1 R1 r1 f1 => h ι1 F1 _ σ H1 x v _ R1 r1 e2 _ fun H' v' z => hQ ι1 F1 H' v' (p1.trans z.p) z.R z.rv (z.f.back p1)

theorem isTy_ok {K : PySem.W.Frag} {F : Addr → Prop} {H : Hp} {x : D} {v : V} (t : Ty) (d : DT K F H v x) :
    ∃ u, TyX K H v u ∧ PySem.W.kitOne K u (.type (match t with | .int => "int" | .bool => "bool" | .str => "str" | .tuple => "tuple" | .list => "list")) = some (isTy t x) := by
  cases x with
  | none => cases d.non; exact ⟨_, .base .non, by cases t <;> first | exact kit_ty (r := true) (by decide +kernel) | exact kit_ty (r := false) (by decide +kernel)⟩
  | bool b => cases d.bl; exact ⟨_, .base (.bl _), by cases t <;> first | exact kit_ty (r := true) (by decide +kernel) | exact kit_ty (r := false) (by decide +kernel)⟩
  | int i => cases d.int; exact ⟨_, .base (.int _), by cases t <;> first | exact kit_ty (r := true) (by decide +kernel) | exact kit_ty (r := false) (by decide +kernel)⟩
  | str i => cases d.str; exact ⟨_, .base (.str _), by cases t <;> first | exact kit_ty (r := true) (by decide +kernel) | exact kit_ty (r := false) (by decide +kernel)⟩
  | list xs =>
    obtain ⟨a, vs, rfl, h1, _⟩ := d.list
    rcases h1 with h1 | ⟨o, h1⟩
    · exact ⟨_, .base (.lst h1), by cases t <;> first | exact kit_ty (r := true) (by decide +kernel) | exact kit_ty (r := false) (by decide +kernel)⟩
    · exact ⟨_, .base (.frz h1), by cases t <;> first | exact kit_ty (r := true) (by decide +kernel) | exact kit_ty (r := false) (by decide +kernel)⟩
  | tuple xs =>
    obtain ⟨a, vs, rfl, h1, _⟩ := d.tuple
    rcases h1.sq with (h1 | ⟨o, h1⟩) | ⟨o, its, n, h1, h2, _⟩
    · exact ⟨_, .base (.tup h1), by cases t <;> first | exact kit_ty (r := true) (by decide +kernel) | exact kit_ty (r := false) (by decide +kernel)⟩
    · exact ⟨_, .fTuple h1, by cases t <;> first | exact kit_ty (r := true) (by decide +kernel) | exact kit_ty (r := false) (by decide +kernel)⟩
    · exact ⟨_, .kTuple h1 h2, by cases t <;> first | exact kit_ty (r := true) (by decide +kernel) | exact kit_ty (r := false) (by decide +kernel)⟩
  | dict kvs => rcases d with d | ⟨_, _, _, _, e, _⟩ <;> first | cases d | cases e
def tyName : Ty → String
  | .int => "int" | .bool => "bool" | .str => "str" | .tuple => "tuple" | .list => "list"
theorem r_isi {p0 p1 : Pos} {t : Ty} {nm : Str} (ha : PE X a (TEv X.K fa)) (hn : notStar a = true) (hg : Gl X "isinstance") (hm : X.mg "isinstance" = none) (hT : PE X (.Name nm p1) (tC (.ty (tyName t)))) :
    PE X (.Call (.Name "isinstance" p0) [a, .Name nm p1] [] pos) (TEv X.K (eOne fa (isiV t))) := by
  have h := pe_callB (pos := pos) (p := p0) (call_isi (X := X)) hg hm (by decide +kernel) (pa_cons ha (pa_cons hT pa_nil rfl) (star_cons hn)) (he := star_cons hn)
  refine PE.imp h fun σ H Q q => ?_
  obtain ⟨ι, F, st, w, s1, hS, e, hQ⟩ := q
  obtain ⟨⟨x, t1⟩, e1, e⟩ := bindSome e
  obtain ⟨u, e2, e⟩ := mapSome e
  cases e
  obtain ⟨x', e3, e4⟩ := mapSome e2
  subst e4
  refine TEv.one hS e1 fun ι1 F1 H1 v p1 R1 r1 f1 => ?_
  obtain ⟨u, ty, kk⟩ := isTy_ok t (view_ok R1 r1 e3)
  refine ⟨v, .ty (tyName t), u, _, _, rfl, .ty _, ty, ?_, hQ ι1 F1 H1 _ p1 R1 (RV.d (.bl _)) Fresh.d⟩
  cases t <;> exact kk
end
end DE
/-! DE: built-in functions of one value. -/
namespace DE
open PySem PySem.Spec PyProof.Rows L2
theorem CallR.or {X : Cx} {f : Value} {r r' : List V → Hp → VK → Prop} (h : CallR X f r) (h' : CallR X f r') : CallR X f (fun xs H Q => r xs H Q ∨ r' xs H Q) :=
  fun pins s σ H xs us Q I rr q => q.elim (h pins s σ H xs us Q I rr) (h' pins s σ H xs us Q I rr)

/-! ### sorted -/
theorem strLe_iff {a b : Str} : strLe a b = true ↔ ¬ b.cps.toList < a.cps.toList := by
  unfold strLe
  rw [Bool.not_eq_true', decide_eq_false_iff_not]
theorem str_ext {a b : Str} (h : a.cps.toList = b.cps.toList) : a = b := by
  cases a; cases b
  simp only [Str.mk.injEq]
  exact Array.toList_inj.mp h
theorem strLe_trans (a b c : Str) : strLe a b = true → strLe b c = true → strLe a c = true := by
  rw [strLe_iff, strLe_iff, strLe_iff]
  intro h1 h2
  exact List.le_trans h1 h2
theorem strLe_total (a b : Str) : (strLe a b || strLe b a) = true := by
  rw [Bool.or_eq_true, strLe_iff, strLe_iff]
  exact List.le_total a.cps.toList b.cps.toList
theorem strLe_anti {a b : Str} (h1 : strLe a b = true) (h2 : strLe b a = true) : a = b := by
  rw [strLe_iff] at h1 h2
  exact str_ext (List.le_antisymm h1 h2)
theorem rising_pw : ∀ (r : List Str) (x : Str), risingS x r = true → (x :: r).Pairwise (fun a b => strLe a b = true)
  | [], x, _ => by simp
  | y :: r, x, h => by
    unfold risingS at h
    rw [Bool.and_eq_true] at h
    have ih := rising_pw r y h.2
    have hxy : strLe x y = true := by
      have h1 := h.1
      rw [ltCps_eq] at h1
      exact h1
    refine List.pairwise_cons.mpr ⟨fun z hz => ?_, ih⟩
    rcases List.mem_cons.mp hz with e | hz
    · rw [e]; exact hxy
    · exact strLe_trans x y z hxy ((List.pairwise_cons.mp ih).1 z hz)
theorem sortedS_pw {ys : List Str} (h : sortedS ys = true) : ys.Pairwise (fun a b => strLe a b = true) := by
  cases ys with
  | nil => exact .nil
  | cons y r => exact rising_pw r y h
theorem sortS_eq {ys ks : List Str} (hp : ys.Perm ks) (hs : sortedS ys = true) : ys = ks.mergeSort strLe :=
  List.Perm.eq_of_pairwise (fun a b _ _ h1 h2 => strLe_anti h1 h2) (sortedS_pw hs) (List.pairwise_mergeSort strLe_trans strLe_total ks) (hp.trans (List.mergeSort_perm ks strLe).symm)
theorem sortI_eq {ys ks : List Int} (hp : ys.Perm ks) (hs : ys.Pairwise (· ≤ ·)) : ys = ks.mergeSort fun a b => decide (a ≤ b) := by
  refine List.Perm.eq_of_pairwise (le := fun a b => decide (a ≤ b) = true) (fun a b _ _ h1 h2 => ?_) ?_ (List.pairwise_mergeSort (fun a b c h1 h2 => ?_) (fun a b => ?_) ks) (hp.trans (List.mergeSort_perm ks _).symm)
  · have := of_decide_eq_true h1
    have := of_decide_eq_true h2
    omega
  · exact hs.imp fun h => decide_eq_true h
  · have := of_decide_eq_true h1
    have := of_decide_eq_true h2
    exact decide_eq_true (by omega)
  · rw [Bool.or_eq_true, decide_eq_true_eq, decide_eq_true_eq]
    omega
theorem allInt_df {K : PySem.W.Frag} {F : Addr → Prop} {H : Hp} : ∀ {xs : List D} {ns : List Int} {vs : List V}, allInt xs = some ns → DFs K F H vs xs → vs = ns.map V.int
  | [], _, _, e, h => by cases e; cases h; rfl
  | x :: xs, ns, _, e, h => by
    cases h with
    | cons h1 h2 =>
      cases x <;> first
        | (obtain ⟨ms, e1, e2⟩ := mapSome e
           subst e2
           cases h1
           rw [List.map_cons, allInt_df e1 h2])
        | cases e
theorem allStr_df {K : PySem.W.Frag} {F : Addr → Prop} {H : Hp} : ∀ {xs : List D} {ns : List Str} {vs : List V}, allStr xs = some ns → DFs K F H vs xs → vs = ns.map V.str
  | [], _, _, e, h => by cases e; cases h; rfl
  | x :: xs, ns, _, e, h => by
    cases h with
    | cons h1 h2 =>
      cases x <;> first
        | (obtain ⟨ms, e1, e2⟩ := mapSome e
           subst e2
           cases h1
           rw [List.map_cons, allStr_df e1 h2])
        | cases e
theorem allBool_df {K : PySem.W.Frag} {F : Addr → Prop} {H : Hp} : ∀ {xs : List D} {ns : List Bool} {vs : List V}, allBool xs = some ns → DFs K F H vs xs → vs = ns.map V.bl
  | [], _, _, e, h => by cases e; cases h; rfl
  | x :: xs, ns, _, e, h => by
    cases h with
    | cons h1 h2 =>
      cases x <;> first
        | (obtain ⟨ms, e1, e2⟩ := mapSome e
           subst e2
           cases h1
           rw [List.map_cons, allBool_df e1 h2])
        | cases e
theorem dfs_ints {K : PySem.W.Frag} {F : Addr → Prop} {H : Hp} : ∀ ns : List Int, DFs K F H (ns.map V.int) (ns.map .int)
  | [] => .nil
  | n :: ns => .cons (.int n) (dfs_ints ns)
theorem dfs_strs {K : PySem.W.Frag} {F : Addr → Prop} {H : Hp} : ∀ ns : List Str, DFs K F H (ns.map V.str) (ns.map .str)
  | [] => .nil
  | n :: ns => .cons (.str n) (dfs_strs ns)
theorem allKeyStr_map {K : PySem.W.Frag} {F : Addr → Prop} {H : Hp} : ∀ {kvs : List (Key × D)} {ss : List Str} {ps : List (Key × V)}, allKeyStr kvs = some ss → KF K F H ps kvs → ps.map (·.1) = ss.map Sum.inr
  | [], _, [], e, _ => by cases e; rfl
  | (k, x) :: kvs, ss, p :: ps, e, h => by
    cases k with
    | inl _ => cases e
    | inr z =>
      obtain ⟨ms, e1, e2⟩ := mapSome e
      subst e2
      rw [List.map_cons, List.map_cons, allKeyStr_map e1 h.2, h.1.1]
  | [], _, _ :: _, _, h => h.elim
  | _ :: _, _, [], _, h => h.elim

/-! ### the rules by values -/
section
variable {X : Cx}
def rLenA (K : PySem.W.Frag) : List V → Hp → VK → Prop := fun xs H Q => (∃ x n, xs = [x] ∧ LenV K x H n ∧ Q (.int n) H) ∨ ∃ a kvs, xs = [V.ref a] ∧ H a = some (.dK kvs) ∧ Q (.int kvs.length) H
theorem call_lenA : CallR X (.builtin "len") (rLenA X.K) := CallR.or call_len call_lenD
def rSortA (K : PySem.W.Frag) : List V → Hp → VK → Prop := fun xs H Q => rSortedI K xs H Q ∨ rSortedS K xs H Q ∨ ∃ (a : Addr) (kvs : List (Key × V)) (ks : List Str), xs = [.ref a] ∧ Rd H a (.dK kvs) ∧ kvs.map (·.1) = ks.map Sum.inr ∧ ks.length < 64 ∧
    ∀ ys p, ys.Perm ks → sortedS ys = true → H p = none → Q (.ref p) (upd H p (.lst (ys.map V.str)))
theorem call_sortA (hc : X.calm = true) : CallR X (.builtin "sorted") (rSortA X.K) := CallR.or cr_sortedI (CallR.or cr_sortedS (call_sortedD hc))
/-- repr of data -/
def rRepr (K : PySem.W.Frag) : List V → Hp → VK → Prop := fun xs H Q => ∃ v d, xs = [v] ∧ Dp K H v d ∧ d.showable = true ∧ d.hasDict = false ∧ d.shown.length ≤ sizeLine ∧ d.depth ≤ 100 ∧ Q (.str d.shown) H
theorem call_reprD (hg : X.A.guards = some []) (hu : X.A.units + 164 < cLine) : CallR X (.builtin "repr") (rRepr X.K) := fun pins s σ H xs us Q I r q => by
  obtain ⟨v, d, ex, hd, h1, h2, h3, h4, q⟩ := q
  subst ex
  obtain ⟨u, eu, ru⟩ := vals1 r
  subst eu
  have obj : ∀ a, v = .ref a → wpAny (model X.prog X.w) X.A (call (.builtin "repr") [u]) (EP X pins σ Q) X.xe s := fun a ev => by
    subst ev
    obtain ⟨as, hr⟩ := Dp.reads I d _ u hd ru
    cases ru
    exact repr_of_reads' hr h1 (PyData.noDict_hsm h2) hg (by omega) (fun _ _ e => e) (fun h' t tk hk => ⟨.str d.shown, H, I.kept hk, ⟨_, rfl⟩, q⟩) h3
  cases hd with
  | lst _ _ => exact obj _ rfl
  | tup _ _ => exact obj _ rfl
  | non => cases ru; exact P.repr_of_none ⟨.str "None", H, I.tok _, ⟨_, rfl⟩, (by simpa only [PyData.shown] using q)⟩
  | bl b =>
    cases ru
    refine P.repr_of_bool ⟨.str (if b then "True" else "False"), H, I.tok _, ⟨_, rfl⟩, ?_⟩
    simpa only [PyData.shown] using q
  | int i =>
    obtain ⟨t, rfl⟩ := ru
    refine P.repr_of_int (by simpa only [PyData.showable, decide_eq_true_eq] using h1) ⟨.str (toString i), H, I.tok _, ⟨_, rfl⟩, ?_⟩
    simpa only [PyData.shown] using q
  | str x =>
    obtain ⟨t, rfl⟩ := ru
    refine P.repr_of_str ⟨.str (reprText x), H, I.tok _, ⟨_, rfl⟩, ?_⟩ (by simpa only [PyData.shown] using h3)
    simpa only [PyData.shown] using q
end

/-- tuple(x) -/
def rTupF (K : PySem.W.Frag) : List V → Hp → VK → Prop := fun xs H Q => ∃ p ys, xs = [.ref p] ∧ ((SqL K H p ys ∧ ∀ l ob, H l = none → PlainT ob → Q (.ref l) (upd H l (.frz ob (.tup ys)))) ∨ (SqT K H p ys ∧ Q (.ref p) H))
theorem call_tupF {X : Cx} : CallR X (.type "tuple") (rTupF X.K) := fun pins s σ H xs us Q I r h => by
  obtain ⟨p, ys, ex, h⟩ := h
  subst ex
  obtain ⟨u, eu, rx⟩ := vals1 r
  subst eu
  cases rx
  rcases h with ⟨hq, q⟩ | ⟨hq, q⟩
  · obtain ⟨i1, r1, pl, hz⟩ := I.list hq
    refine call_tuple_list pl.isList (fun h' kp => ?_) (by have := r1.length; simp only [List.size_toArray]; omega)
    have I1 : Inv X pins σ H { s with heap := h' } := I.kept (t' := s.toks) kp
    exact ⟨.ref h'.objs.size, _, new_tup I1 r1 hz, rfl, q _ _ (I1.hok.fresh (Nat.le_refl _)) ⟨rfl, rfl⟩⟩
  · obtain ⟨i1, r1, pl, hz⟩ := I.tuple hq
    exact call_tuple_same pl ⟨.ref p, H, I, rfl, q⟩
/-- what the call of a built-in answers -/
def biR (K : PySem.W.Frag) : Bi → List V → Hp → VK → Prop
  | .len => rLenA K
  | .list => fun xs H Q => ∃ p ys, xs = [.ref p] ∧ (SqL K H p ys ∨ SqT K H p ys) ∧ ∀ l, H l = none → Q (.ref l) (upd H l (.lst ys))
  | .tuple => rTupF K
  | .sorted => rSortA K
  | .repr => rRepr K
  | .int => fun xs H Q => (∃ i, xs = [.int i] ∧ Q (.int i) H) ∨ ∃ k, xs = [.bl k] ∧ Q (.int (if k then 1 else 0)) H
  | .all => rAll K
  | .any => rAny K
  | .sum => rSum K
  | .str => fun xs H Q => ∃ i, xs = [.int i] ∧ i.natAbs.log2 < 1920 ∧ Q (.str (toString i)) H
  | .ord => fun xs H Q => ∃ x, xs = [.str x] ∧ x.length = 1 ∧ Q (.int (x.cps.getD 0 0 : Nat)) H
  | .dict => fun xs H Q => (∃ (a : Addr) (kvs : List (Key × V)), xs = [.ref a] ∧ Rd H a (.dK kvs) ∧ ∀ p, H p = none → Q (.ref p) (upd H p (.dK kvs))) ∨
      ∃ (a : Addr) (ps : List Addr) (kvs : List (Key × V)), xs = [.ref a] ∧ (SqL K H a (ps.map V.ref) ∨ TupF K H a (ps.map V.ref)) ∧ Paired (fun p kv => SqT K H p [kV kv.1, kv.2]) ps kvs ∧ ∀ p, H p = none → Q (.ref p) (upd H p (.dK (mergeK [] kvs)))
theorem DT.inlF {K : PySem.W.Frag} {F : Addr → Prop} {H : Hp} {v : V} {x : D} (h : DF K F H v x) : DT K F H v x := .inl h
theorem allPair_df {K : PySem.W.Frag} {F : Addr → Prop} {H : Hp} : ∀ {xs : List D} {kvs : List (Key × D)} {vs : List V}, allPair xs = some kvs → DFs K F H vs xs →
    ∃ ps ks, vs = ps.map V.ref ∧ Paired (fun p kv => SqT K H p [kV kv.1, kv.2]) ps ks ∧ KF K F H ks kvs
  | [], _, _, e, h => by cases e; cases h; exact ⟨[], [], rfl, .nil, trivial⟩
  | x :: xs, kvs, _, e, h => by
    cases h with
    | cons h1 h2 =>
      unfold allPair at e
      split at e
      · rename_i e0; cases e0
      · rename_i a b r e0
        cases e0
        obtain ⟨k, e1, e⟩ := bindSome e
        obtain ⟨ms, e2, e⟩ := mapSome e
        subst e
        obtain ⟨ps, ks, e3, e4, e5⟩ := allPair_df e2 h2
        cases h1 with
        | @tup q ws _ hs hd =>
          cases hd with
          | cons g1 g2 =>
            cases g2 with
            | cons g3 g4 =>
              cases g4
              have ek := keyOf_ok e1 (DT.inlF g1)
              subst ek
              exact ⟨q :: ps, (k, _) :: ks, by rw [List.map_cons, e3], .cons hs.sq e4, ⟨⟨rfl, g3⟩, e5⟩⟩
      · cases e
theorem itemsF_ok {K : PySem.W.Frag} {F : Addr → Prop} {H : Hp} {x : D} {v : V} {xs : List D} (e : items x = some xs) (d : DT K F H v x) : ∃ a vs, v = .ref a ∧ (SqL K H a vs ∨ TupF K H a vs) ∧ DFs K F H vs xs := by
  cases x <;> first
    | (cases e
       obtain ⟨a, vs, h0, h1, h2⟩ := d.list
       exact ⟨a, vs, h0, .inl (.inl h1), h2⟩)
    | (cases e
       obtain ⟨a, vs, h0, h1, h2⟩ := d.tuple
       exact ⟨a, vs, h0, .inr h1, h2⟩)
    | cases e
theorem listOf_ok {K : PySem.W.Frag} {F : Addr → Prop} {H : Hp} {x : D} {v : V} {xs : List D} (e : listOf x = some xs) (d : DT K F H v x) : ∃ a vs, v = .ref a ∧ Rd H a (.lst vs) ∧ DFs K F H vs xs := by
  cases x <;> first
    | (cases e; exact d.list)
    | cases e
theorem lenOf_ok {K : PySem.W.Frag} {F : Addr → Prop} {H : Hp} {x : D} {v : V} {n : Nat} (e : lenOf x = some n) (d : DT K F H v x) : LenV K v H n := by
  unfold lenOf at e
  split at e
  · cases e
    obtain ⟨a, vs, rfl, h1, h2⟩ := d.list
    exact .inl ⟨vs, .inl h1, h2.length.symm⟩
  · cases e
    obtain ⟨a, vs, rfl, h1, h2⟩ := d.tuple
    exact .inr ⟨vs, h1.sq, h2.length.symm⟩
  · split at e
    · cases e
      cases d.str
      exact ⟨by assumption, rfl⟩
    · cases e
  · cases e
theorem bi_ok {K : PySem.W.Frag} {ι : List Addr} {F : Addr → Prop} {st : S} {σ : L2.St} {H : Hp} (R : SR K ι F st σ H) {f : Bi} {w u : SV} {v : V} (r : RV K ι F st σ H w v) (e : biV f st w = some u) {Q : VK} (hQ : ∀ H' v', Res K ι F st σ H u H' v' → Q v' H') : biR K f [v] H Q := by
  unfold biV at e
  split at e
  · rename_i kvs hd
    obtain ⟨a, ps, rfl, h1, h2⟩ := dict_ok R r hd
    obtain ⟨ss, e1, e⟩ := bindSome e
    split at e
    · cases e
      rename_i hl
      refine .inr (.inr ⟨a, ps, ss, rfl, .inl h1, allKeyStr_map e1 h2, hl, fun ys p hp hs hn => ?_⟩)
      rw [sortS_eq hp hs]
      exact hQ _ _ (Res.list R hn (dfs_strs _))
    · cases e
  · rename_i kvs hd
    cases e
    obtain ⟨a, ps, rfl, h1, h2⟩ := dict_ok R r hd
    refine .inr ⟨a, ps, rfl, h1, ?_⟩
    rw [h2.length]
    exact hQ _ _ (Res.d R (.int _))
  · rename_i f0 _ _ _ _
    obtain ⟨x, e1, e⟩ := bindSome e
    have d := view_ok R r e1
    cases f0 with
    | len =>
      obtain ⟨n, e2, e⟩ := mapSome e
      subst e
      exact .inl ⟨v, n, rfl, lenOf_ok e2 d, hQ _ _ (Res.d R (.int _))⟩
    | list =>
      obtain ⟨xs, e2, e⟩ := mapSome e
      subst e
      obtain ⟨a, vs, rfl, h1, h2⟩ := items_ok e2 d
      exact ⟨a, vs, rfl, h1, fun l hl => hQ _ _ (Res.list R hl h2)⟩
    | tuple =>
      obtain ⟨xs, e2, e⟩ := mapSome e
      subst e
      cases x <;> first
        | (cases e2
           obtain ⟨a, vs, rfl, h1, h2⟩ := d.list
           exact ⟨a, vs, rfl, .inl ⟨.inl h1, fun l ob hl ho => hQ _ _ (Res.tup R hl ho h2)⟩⟩)
        | (cases e2
           obtain ⟨a, vs, rfl, h1, h2⟩ := d.tuple
           exact ⟨a, vs, rfl, .inr ⟨h1.sq, hQ _ _ (Res.d R (.tup h1 h2))⟩⟩)
        | cases e2
    | dict =>
      obtain ⟨xs, e2, e⟩ := bindSome e
      obtain ⟨kvs, e3, e⟩ := bindSome e
      cases e
      obtain ⟨a, vs, rfl, h1, h2⟩ := itemsF_ok e2 d
      obtain ⟨ps, ks, rfl, h3, h4⟩ := allPair_df e3 h2
      exact .inr ⟨a, ps, ks, rfl, h1, h3, fun p hp => hQ _ _ (Res.dict R hp (KF.foldPut (show KF K F H [] [] from trivial) h4))⟩
    | sorted =>
      obtain ⟨xs, e2, e⟩ := bindSome e
      obtain ⟨a, vs, rfl, h1, h2⟩ := listOf_ok e2 d
      unfold sortD at e
      split at e
      · rename_i ns e3
        cases e
        have ev := allInt_df e3 h2
        subst ev
        refine .inl ⟨a, ns, rfl, .inl h1, fun ys p hp hs hn => ?_⟩
        rw [sortI_eq hp hs]
        exact hQ _ _ (Res.list R hn (dfs_ints _))
      · obtain ⟨ss, e3, e⟩ := bindSome e
        split at e
        · rename_i hl
          cases e
          have ev := allStr_df e3 h2
          subst ev
          refine .inr (.inl ⟨a, ss, rfl, .inl h1, hl, fun ys p hp hs hn => ?_⟩)
          rw [sortS_eq hp hs]
          exact hQ _ _ (Res.list R hn (dfs_strs _))
        · cases e
    | repr =>
      have e' : reprD x = some u := e
      unfold reprD at e'
      split at e'
      · rename_i hc
        cases e'
        exact ⟨v, x, rfl, d.dp, hc.1, hc.2.1, hc.2.2.1, hc.2.2.2, hQ _ _ (Res.d R (.str _))⟩
      · cases e'
    | int =>
      have e' : intD x = some u := e
      unfold intD at e'
      split at e'
      · cases e'
        cases d.int
        exact .inl ⟨_, rfl, hQ _ _ (Res.d R (.int _))⟩
      · cases e'
        cases d.bl
        exact .inr ⟨_, rfl, hQ _ _ (Res.d R (.int _))⟩
      · cases e'
    | all =>
      obtain ⟨xs, e2, e⟩ := bindSome e
      obtain ⟨bs, e3, e⟩ := mapSome e
      subst e
      obtain ⟨a, vs, rfl, h1, h2⟩ := listOf_ok e2 d
      have ev := allBool_df e3 h2
      subst ev
      exact ⟨a, bs, rfl, .inl h1, hQ _ _ (Res.d R (.bl _))⟩
    | any =>
      obtain ⟨xs, e2, e⟩ := bindSome e
      obtain ⟨bs, e3, e⟩ := mapSome e
      subst e
      obtain ⟨a, vs, rfl, h1, h2⟩ := listOf_ok e2 d
      have ev := allBool_df e3 h2
      subst ev
      exact ⟨a, bs, rfl, .inl h1, hQ _ _ (Res.d R (.bl _))⟩
    | sum =>
      obtain ⟨xs, e2, e⟩ := bindSome e
      obtain ⟨bs, e3, e⟩ := mapSome e
      subst e
      obtain ⟨a, vs, rfl, h1, h2⟩ := listOf_ok e2 d
      have ev := allInt_df e3 h2
      subst ev
      exact ⟨a, bs, rfl, .inl h1, hQ _ _ (Res.d R (.int _))⟩
    | str =>
      have e' : strD x = some u := e
      unfold strD at e'
      split at e'
      · split at e'
        · cases e'
          cases d.int
          exact ⟨_, rfl, by assumption, hQ _ _ (Res.d R (.str _))⟩
        · cases e'
      · cases e'
    | ord =>
      have e' : ordD x = some u := e
      unfold ordD at e'
      split at e'
      · split at e'
        · cases e'
          cases d.str
          exact ⟨_, rfl, by assumption, hQ _ _ (Res.d R (.int _))⟩
        · cases e'
      · cases e'
end DE
/-! DE: what changes: lists, dicts. -/
namespace DE
open PySem PySem.Spec PyProof.Rows L2
section
variable {K : PySem.W.Frag} {ι : List Addr} {F : Addr → Prop} {st : S} {σ : L2.St} {H : Hp}
/-- an object that is not of F is changed -/
theorem keep_upd {a : Addr} {o : HO} (hf : ¬ F a) (hm : Mut (H a)) : Keep F H (upd H a o) := fun b u e h => by
  refine (upd_ne fun z => ?_).trans e
  subst z
  rcases h with h | h
  · exact hf h
  · rw [e] at hm; exact h hm
/-- the own object of the slot i is changed -/
theorem upd_own (R : SR K ι F st σ H) {i : Nat} {a : Addr} (oa : OwnA st σ i a) {w' : SV} {o : HO} (ow : isOwn w' = true) (hw : SVR K ι F (upd H a o) w' (.ref a)) :
    Stp ι F st σ H ι F (st.set i w') σ (upd H a o) ∧ SR K ι F (st.set i w') σ (upd H a o) := by
  obtain ⟨⟨vs, hh⟩, hf⟩ := own_mut R oa
  have hm : Mut (H a) := by
    rcases hh with e | ⟨ps, e⟩
    · rw [e]; trivial
    · rw [e]; trivial
  have hk : Keep F H (upd H a o) := keep_upd hf hm
  have hσ : σ[i]? = some (some (.ref a)) := by obtain ⟨w, h1, h2, h3⟩ := oa; exact h3
  have hi : a ∉ ι := R.co i a oa
  have trk : ∀ b, upd H a o b = none → H b = none := fun b z => by
    by_cases e : b = a
    · subst e; rw [upd_same] at z; cases z
    · rw [upd_ne e] at z; exact z
  -- the state without the slot, over the new heap
  have R1 : SR K ι F (st.put i none) σ (upd H a o) := by
    have R0 := R.drop i
    refine ⟨fun j w e => ?_, R0.di, R0.cl, fun n kvs e => ?_, R0.cn, R0.co, R0.cf, fun b hb z => R0.ft b hb (trk b z), R0.ln⟩
    · obtain ⟨v, h1, h2⟩ := R0.sl j w e
      have nown : ∀ b, isOwn w = true → v = .ref b → b ≠ a := fun b hw' ev z => by
        subst ev z
        have oj : OwnA (st.put i none) σ j b := ⟨w, e, hw', h1⟩
        exact oj.put_none.1 (R.di j i b oj.put_none.2 oa)
      refine ⟨v, h1, ?_⟩
      cases w with
      | d x => exact DF.mono (fun _ h => h) hk _ _ h2
      | l xs =>
        obtain ⟨b, us, e1, h3, h4, h5⟩ := h2
        exact ⟨b, us, e1, (upd_ne (nown b rfl e1)).trans h3, DFs.mono (fun _ h => h) hk _ _ h4, h5⟩
      | m ow kvs =>
        obtain ⟨b, ps, e1, h3, h4, h5, h6⟩ := h2
        have hb : b ≠ a := by
          cases ow with
          | true => exact nown b rfl e1
          | false => exact fun z => hf (z ▸ h6 rfl)
        exact ⟨b, ps, e1, (upd_ne hb).trans h3, h4.mono (fun _ h => h) hk, h5, h6⟩
      | c n => exact h2
      | b n => exact h2
    · obtain ⟨b, ps, h1, h2, h3⟩ := R0.ce n kvs e
      exact ⟨b, ps, h1, (upd_ne fun (z : b = a) => hi (by rw [← z]; exact List.mem_of_getElem? h1)).trans h2, h3.mono (fun _ h => h) hk⟩
  have R2 := R1.put' (i := i) (w := w') hσ hw fun _ b e => by
    cases e
    exact ⟨hi, fun j hj z => hj (R.di j i a z.put_none.2 oa)⟩
  have e2 : (st.put i none).set i w' = st.set i w' := by
    unfold S.set S.put
    simp only [List.set_set]
  rw [e2] at R2
  refine ⟨⟨fun b u e hb ho => (upd_ne fun (z : b = a) => ho i (by rw [z]; exact oa)).trans e, ⟨[], (List.append_nil _).symm, fun _ z => (by cases z)⟩, fun _ h => h, fun _ h => .inl h, fun j b hb => .inr ?_, trk⟩, R2⟩
  obtain ⟨u, h1, h2, h3⟩ := hb
  rw [S.set_eq] at h1
  rcases S.at_put h1 with ⟨e, e'⟩ | ⟨e, e'⟩
  · subst e
    rw [hσ] at h3; cases h3
    exact ⟨j, oa⟩
  · exact ⟨j, u, e', h2, h3⟩
/-- a cell is changed -/
theorem upd_cell (R : SR K ι F st σ H) {n : Nat} {a : Addr} (hn : ι[n]? = some a) {ps : List (Key × V)} {kvs : List (Key × D)} (hw : KF K F H ps kvs) :
    Stp ι F st σ H ι F { st with h := st.h.set n kvs } σ (upd H a (.dK ps)) ∧ SR K ι F { st with h := st.h.set n kvs } σ (upd H a (.dK ps)) := by
  have ha : a ∈ ι := List.mem_of_getElem? hn
  obtain ⟨ps0, h0⟩ := cell_mut R ha
  have hf := R.cf a ha
  have hk : Keep F H (upd H a (.dK ps)) := keep_upd hf (by rw [h0]; trivial)
  have trk : ∀ b, upd H a (.dK ps) b = none → H b = none := fun b z => by
    by_cases e : b = a
    · subst e; rw [upd_same] at z; cases z
    · rw [upd_ne e] at z; exact z
  refine ⟨⟨fun b u e hb ho => (upd_ne fun (z : b = a) => hb (by rw [z]; exact ha)).trans e, ⟨[], (List.append_nil _).symm, fun _ z => (by cases z)⟩, fun _ h => h, fun _ h => .inl h, fun j b hb => .inr ⟨j, hb⟩, trk⟩, ?_⟩
  refine ⟨fun j w e => ?_, R.di, by rw [R.cl]; simp, fun m q e => ?_, R.cn, R.co, R.cf, fun b hb z => R.ft b hb (trk b z), R.ln⟩
  · obtain ⟨v, h1, h2⟩ := R.sl j w e
    have nown : ∀ b, isOwn w = true → v = .ref b → b ≠ a := fun b hw' ev z => by
      subst ev z
      exact R.co j b ⟨w, e, hw', h1⟩ ha
    refine ⟨v, h1, ?_⟩
    cases w with
    | d x => exact DF.mono (fun _ h => h) hk _ _ h2
    | l xs =>
      obtain ⟨b, us, e1, h3, h4, h5⟩ := h2
      exact ⟨b, us, e1, (upd_ne (nown b rfl e1)).trans h3, DFs.mono (fun _ h => h) hk _ _ h4, h5⟩
    | m ow kvs =>
      obtain ⟨b, qs, e1, h3, h4, h5, h6⟩ := h2
      have hb : b ≠ a := by
        cases ow with
        | true => exact nown b rfl e1
        | false => exact fun z => hf (z ▸ h6 rfl)
      exact ⟨b, qs, e1, (upd_ne hb).trans h3, h4.mono (fun _ h => h) hk, h5, h6⟩
    | c n => exact h2
    | b n => exact h2
  · have e' : (st.h.set n kvs)[m]? = some q := e
    by_cases hm : n = m
    · subst hm
      have hl : n < st.h.length := by rw [← R.cl]; exact (List.getElem?_eq_some_iff.mp hn).1
      rw [List.getElem?_set_self hl] at e'
      cases e'
      exact ⟨a, ps, hn, upd_same, hw.mono (fun _ h => h) hk⟩
    · rw [List.getElem?_set_ne hm] at e'
      obtain ⟨b, qs, h1, h2, h3⟩ := R.ce m q e'
      refine ⟨b, qs, h1, (upd_ne fun z => ?_).trans h2, h3.mono (fun _ h => h) hk⟩
      subst z
      exact hm (nodup_at R.cn hn h1)
where
  nodup_at {α : Type} {l : List α} {i j : Nat} {x : α} (h : l.Nodup) (a : l[i]? = some x) (b : l[j]? = some x) : i = j := by
    obtain ⟨h1, e1⟩ := List.getElem?_eq_some_iff.mp a
    obtain ⟨h2, e2⟩ := List.getElem?_eq_some_iff.mp b
    exact (List.getElem_inj h).mp (e1.trans e2.symm)
end

section
variable {X : Cx} {a b c : Expr} {fa fb fc : S → Option (SV × S)} {pos : Pos}
theorem last_df {K : PySem.W.Frag} {F : Addr → Prop} {H : Hp} {vs : List V} {xs : List D} {x : D} (h : DFs K F H vs xs) (e : xs.getLast? = some x) : ∃ v, vs[vs.length - 1]? = some v ∧ DF K F H v x := by
  rw [List.getLast?_eq_getElem?] at e
  rw [h.length]
  exact h.get e
theorem r_pop {i : Nat} {x : Str} {p apos cpos : Pos} (h : PE X (.Name x p) (tVar i)) (hl : (apos.endLine == cpos.line) = true) : PE X (.Call (.Attribute (.Name x p) "pop" apos) [] [] cpos) (TEv X.K (ePop i)) :=
  PE.imp (pe_bm0 PySem.F.plainAttrs_list PySem.F.slot_list_pop PySem.F.type_list_pop mt_pop h rfl hl) fun σ H Q q => by
  obtain ⟨ι, F, st, w, s1, hS, e, hQ⟩ := q
  unfold ePop at e
  split at e
  · rename_i xs hi
    obtain ⟨y, e1, e⟩ := mapSome e
    cases e
    obtain ⟨v, hv, r⟩ := hS.sl i _ hi
    obtain ⟨a, vs, rfl, h1, h2, h3⟩ := r
    have oa : OwnA st σ i a := ⟨_, hi, rfl, hv⟩
    obtain ⟨u, hu, du⟩ := last_df h2 e1
    refine ⟨_, hv, .inl ⟨rfl, vs, .inl (.inl h1)⟩, a, vs, u, rfl, rfl, h1, hu, ?_⟩
    have hk : Keep F H (upd H a (.lst vs.dropLast)) := keep_upd h3 (by rw [h1]; trivial)
    obtain ⟨p, R⟩ := upd_own hS oa (w' := .l xs.dropLast) (o := .lst vs.dropLast) rfl ⟨a, _, rfl, upd_same, DFs.mono (fun _ h => h) hk _ _ h2.dropLast, h3⟩
    exact hQ ι F _ u p R (RV.d (DF.mono (fun _ h => h) hk _ _ du)) Fresh.d
  · cases e
theorem r_two {mx : Bool} {p : Pos} (ha : PE X a (TEv X.K fa)) (hb : PE X b (TEv X.K fb)) (hc : X.calm = true) (na : notStar a = true) (nb : notStar b = true) (hg : Gl X (if mx = true then "max" else "min")) (hm : X.mg (if mx = true then "max" else "min") = none) :
    PE X (.Call (.Name (if mx = true then "max" else "min") p) [a, b] [] pos) (TEv X.K (eTwo fa fb (twoV mx))) := by
  have args : PA X [a, b] (tCons (TEv X.K fa) (tCons (TEv X.K fb) tNil)) := pa_cons ha (pa_cons hb pa_nil (star_cons nb)) (star_cons na)
  have pl : (backTo pos (starEach [b] X.env)).any (·.1) = false := by rw [star_cons nb]; rfl
  have fin : ∀ {r : List V → Hp → VK → Prop}, PE X (.Call (.Name (if mx = true then "max" else "min") p) [a, b] [] pos) (tCB r (tCons (TEv X.K fa) (tCons (TEv X.K fb) tNil))) →
      (∀ (i j : Int) H (Q : VK), Q (.int (if mx = true then (if j > i then j else i) else (if j < i then j else i))) H → r [.int i, .int j] H Q) →
      PE X (.Call (.Name (if mx = true then "max" else "min") p) [a, b] [] pos) (TEv X.K (eTwo fa fb (twoV mx))) := fun {r} h hr => PE.imp h fun σ H Q q => by
    obtain ⟨ι, F, st, w, s1, hS, e, hQ⟩ := q
    obtain ⟨⟨x, t1⟩, e1, e⟩ := bindSome e
    obtain ⟨⟨y, t2⟩, e2, e⟩ := bindSome e
    obtain ⟨u, e3, e⟩ := mapSome e
    cases e
    unfold twoV at e3
    split at e3
    · cases e3
      refine TEv.two hS e1 e2 fun ι' F' H' v u p R r1 r2 => ?_
      cases r1.1; cases r2.1
      exact hr _ _ _ _ (hQ ι' F' H' _ p R (RV.d (.int _)) Fresh.d)
    · cases e3
  cases mx with
  | true => exact fin (pe_callB (call_max2 hc) hg hm (by decide +kernel) args (he := star_cons na) (hpl := pl)) fun i j H Q q => ⟨i, j, rfl, q⟩
  | false => exact fin (pe_callB (call_min2 hc) hg hm (by decide +kernel) args (he := star_cons na) (hpl := pl)) fun i j H Q q => ⟨i, j, rfl, q⟩
def plainRecv : Expr → Bool
  | .Name _ _ => true
  | .Subscript _ _ _ => true
  | _ => false
theorem base_of {o : Expr} {m : Str} {env : Env} (h : plainRecv o = true) : attributeBase o m env (eval o env) = eval o env := by
  cases o <;> first | rfl | cases h
theorem r_get2 {apos cpos : Pos} (hu : X.A.units + 1 < cLine) (ha : PE X a (TEv X.K fa)) (hb : PE X b (TEv X.K fb)) (hc : PE X c (TEv X.K fc)) (na : plainRecv a = true) (nb : notStar b = true) (nc : notStar c = true) (hl : (apos.endLine == cpos.line) = true) :
    PE X (.Call (.Attribute a "get" apos) [b, c] [] cpos) (TEv X.K (eGet fa fb fc)) := by
  have m : M2 X a "get" apos b c cpos := ⟨base_of na, by rw [star_cons nb, star_cons nc]; rfl, hl, by rw [star_cons nb, star_cons nc]; rfl⟩
  refine PE.imp (pe_dget2 hu ha hb hc m) fun σ H Q q => ?_
  obtain ⟨ι, F, st, w, s1, hS, e, hQ⟩ := q
  obtain ⟨⟨x, t1⟩, e1, e⟩ := bindSome e
  obtain ⟨kv0, e0, e⟩ := bindSome e
  obtain ⟨⟨y, t2⟩, e2, e⟩ := bindSome e
  obtain ⟨⟨z, t3⟩, e3, e⟩ := bindSome e
  obtain ⟨u, e4, e⟩ := mapSome e
  cases e
  obtain ⟨kvs, e5, e6⟩ := bindSome e4
  obtain ⟨y', e7, e8⟩ := bindSome e6
  obtain ⟨k, e9, e10⟩ := bindSome e8
  clear e4 e6 e8
  cases z with
  | d z' =>
    cases e10
    refine TEv.one hS e1 fun ι1 F1 H1 v p1 R1 r1 f1 => ?_
    obtain ⟨a, ps0, ev, h0, _⟩ := dict_ok R1 r1 e0
    refine ⟨a, ev, .inl ⟨ps0, .inl h0⟩, ?_⟩
    refine ⟨ι1, F1, t1, y, t2, R1, e2, fun ι2 F2 H2 v2 p2 R2 r2 f2 => ⟨ι2, F2, t2, .d z', s1, R2, e3, fun ι3 F3 H3 v3 p3 R3 r3 f3 => ?_⟩⟩
    obtain ⟨a', ps, ev', h1, h2⟩ := dict_ok R3 ((r1.step R1 p2).step R2 p3) e5
    rw [ev] at ev'; cases ev'
    have ek := keyOf_ok e9 (view_ok R3 (r2.step R2 p3) e7)
    subst ek
    refine ⟨_, DGet.k h1, ?_⟩
    rcases h2.find k with ⟨z1, z2⟩ | ⟨v', d', z1, z2, z3⟩
    · rw [z2] at hQ
      rw [z1]
      exact hQ ι3 F3 H3 v3 ((p1.trans p2).trans p3) R3 r3 (fun z => by cases z)
    · rw [z2] at hQ
      rw [z1]
      exact hQ ι3 F3 H3 v' ((p1.trans p2).trans p3) R3 (RV.d z3) (fun z => by cases z)
  | _ => cases e10
end
end DE
/-! DE: what is walked. -/
namespace DE
open PySem PySem.Spec PyProof.Rows L2 RZ
section
variable {K : PySem.W.Frag} {ι : List Addr} {F : Addr → Prop} {st : S} {σ : L2.St} {H : Hp}
/-- an item: data, or (b) a tuple that is only taken apart -/
def DI (b : Bool) (K : PySem.W.Frag) (F : Addr → Prop) (H : Hp) (v : V) (x : D) : Prop := DF K F H v x ∨ (b = true ∧ ∃ a vs ds, v = .ref a ∧ x = .tuple ds ∧ SqT K H a vs ∧ DFs K F H vs ds)
/-- the value that a turn gives: the item, as it stands -/
def YD (b : Bool) (K : PySem.W.Frag) (F : Addr → Prop) (H0 : Hp) (xs : List D) : Nat → Hp → V → Hp → Prop := fun i H x H' => (H' = H ∨ ∃ p o, H p = none ∧ H' = upd H p o) ∧
  ∃ d, xs[i]? = some d ∧ ∀ F2 : Addr → Prop, (∀ a, F a → F2 a) → Keep F H0 H → DI b K F2 H' x d
/-- what is walked stands still as long as nobody changes what is of F -/
def Stays (F : Addr → Prop) (H0 : Hp) (G : Hp → Prop) : Prop := ∀ H, Keep F H0 H → G H
def TIv (b : Bool) (K : PySem.W.Frag) (g : S → Option (List D × S)) : TI := fun σ H R => ∃ ι F st xs s1, SR K ι F st σ H ∧ g st = some (xs, s1) ∧
  ∀ ι' F' H' J G, Stp ι F st σ H ι' F' s1 σ H' → SR K ι' F' s1 σ H' → Stays F' H' G → Walk J xs.length G (YD b K F' H' xs) → R J H'
theorem PI.imp {X : Cx} {tg e : Expr} {t t' : TI} (h : PI X tg e t) (i : ∀ σ H Q, t' σ H Q → t σ H Q) : PI X tg e t' := ⟨fun pins s σ H Q I q => h.run pins s σ H Q I (i σ H Q q)⟩
theorem PI.or {X : Cx} {tg e : Expr} {t t' : TI} (h : PI X tg e t) (h' : PI X tg e t') : PI X tg e (fun σ H Q => t σ H Q ∨ t' σ H Q) :=
  ⟨fun pins s σ H Q I q => q.elim (h.run pins s σ H Q I) (h'.run pins s σ H Q I)⟩
theorem fz_rd {a : Addr} {xs : List V} {ds : List D} (h : DF K F H (.ref a) (.list ds)) : ∃ vs, FzL K F H a vs ∧ DFs K F H vs ds := by
  cases h with
  | lst h1 h2 => exact ⟨_, h1, h2⟩
theorem walkT_zip {a b : Addr} {xs ys : List V} {n : Nat} (hn : n = min xs.length ys.length) : Walk (ItzT K a b) n (fun H => SqT K H a xs ∧ SqT K H b ys) (YPair (fun i => xs[i]?) (fun i => ys[i]?)) := by
  subst hn
  refine ⟨fun i _ hi q => ?_, fun _ q => ⟨xs, ys, q.1, q.2, by omega⟩, fun i H v H' _ q y => ?_⟩
  · have h1 : i < xs.length := by omega
    have h2 : i < ys.length := by omega
    exact ⟨xs, ys, xs[i], ys[i], q.1, q.2, by simp [h1], by simp [h2]⟩
  · obtain ⟨T, x, z, h1, h2, h3, h4, h5⟩ := y
    exact ⟨T, x, z, h1, h2, h3, h4 xs q.1, h5 ys q.2⟩
/-- turns that give the items of a list of values -/
theorem yd_at {b : Bool} {vs : List V} {xs : List D} (h : DFs K F H vs xs) : ∀ i H1 x H2, i < xs.length → YAt vs i H1 x H2 → YD b K F H xs i H1 x H2 := fun i H1 x H2 hi y => by
  obtain ⟨e, y⟩ := y
  subst e
  obtain ⟨d, h1, h2⟩ := h.getV y
  exact ⟨.inl rfl, d, h1, fun F2 hF hk => .inl (DF.mono hF hk _ _ h2)⟩
/-- .. pairs of two -/
theorem yd_pair {f g : Nat → Option V} {xs : List D} (h : ∀ i x y, f i = some x → g i = some y → ∃ d e, xs[i]? = some (.tuple [d, e]) ∧ DF K F H x d ∧ DF K F H y e) : ∀ i H1 x H2, i < xs.length → YPair f g i H1 x H2 → YD true K F H xs i H1 x H2 := fun i H1 v H2 hi y => by
  obtain ⟨T, x, z, h1, h2, h3, h4, h5⟩ := y
  subst h1 h3
  obtain ⟨d, e, h6, h7, h8⟩ := h i x z h4 h5
  refine ⟨.inr ⟨T, _, h2, rfl⟩, _, h6, fun F2 hF hk => ?_⟩
  have k2 : Keep F H (upd H1 T (.tup [x, z])) := fun a o e0 hh => by
    have e1 := hk a o e0 hh
    rw [upd_ne (ne_of_none e1 h2)]
    exact e1
  exact .inr ⟨rfl, T, _, _, rfl, rfl, SqT.of upd_same, .cons (DF.mono hF k2 _ _ h7) (.cons (DF.mono hF k2 _ _ h8) .nil)⟩
end

section
variable {X : Cx} {a b tg : Expr} {fa fb : S → Option (SV × S)} {pos : Pos}
theorem r_itSeq {bb : Bool} (ha : PE X a (TEv X.K fa)) : PI X tg a (TIv bb X.K (itSeq fa)) := by
  refine PI.imp (PI.or (pi_list ha) (PI.or (pi_tup ha) (pi_str ha))) fun σ H R q => ?_
  obtain ⟨ι, F, st, xs, s1, hS, e, hR⟩ := q
  obtain ⟨⟨w, t1⟩, e1, e⟩ := bindSome e
  obtain ⟨⟨x, t2⟩, e2, e⟩ := bindSome e
  cases x with
  | list ys =>
    cases e
    refine .inl (TEv.one hS e1 fun ι1 F1 H1 v p1 R1 r1 f1 => ?_)
    obtain ⟨F2, p2, R2, d2⟩ := fz_ok p1 R1 r1 f1 e2
    cases d2 with
    | lst h1 h2 =>
      refine ⟨_, rfl, ⟨_, h1.sq⟩, hR ι1 F2 H1 _ _ p2 R2 (fun H2 hk => (h1.mono (fun _ h => h) hk).sq) ?_⟩
      rw [← h2.length]
      exact (walk_list (K := X.K)).mono (fun _ h => h) fun i H1 x H' hi hg y => yd_at h2 i H1 x H' (by rw [← h2.length]; exact hi) y
  | tuple ys =>
    cases e
    refine .inr (.inl (TEv.one hS e1 fun ι1 F1 H1 v p1 R1 r1 f1 => ?_))
    obtain ⟨F2, p2, R2, d2⟩ := fz_ok p1 R1 r1 f1 e2
    cases d2 with
    | tup h1 h2 =>
      refine ⟨_, rfl, ⟨_, h1.sq⟩, hR ι1 F2 H1 _ _ p2 R2 (fun H2 hk => sqT_mono hk h1.sq) ?_⟩
      rw [← h2.length]
      exact (walk_tup (K := X.K)).mono (fun _ h => h) fun i H1 x H' hi hg y => yd_at h2 i H1 x H' (by rw [← h2.length]; exact hi) y
  | str z =>
    cases e
    refine .inr (.inr (TEv.one hS e1 fun ι1 F1 H1 v p1 R1 r1 f1 => ?_))
    obtain ⟨F2, p2, R2, d2⟩ := fz_ok p1 R1 r1 f1 e2
    cases d2
    refine ⟨z, rfl, hR ι1 F2 H1 _ (fun _ => True) p2 R2 (fun _ _ => trivial) ?_⟩
    have w := walk_str (z := z)
    have hl : (List.map (fun c => PyData.str ⟨#[c]⟩) z.cps.toList).length = z.cps.size := by simp
    rw [hl]
    refine w.mono (fun _ h => h) fun i H1 x H' hi hg y => ?_
    obtain ⟨e, c, h1, h2⟩ := y
    subst e h2
    exact ⟨.inl rfl, .str ⟨#[c]⟩, by simp [h1], fun F2 _ _ => .inl (.str _)⟩
  | _ => cases e
theorem r_itRng {bb : Bool} {p : Pos} (ha : PE X a (TEv X.K fa)) (na : notStar a = true) (hg : Gl X "range") (hm : X.mg "range" = none) : PI X tg (.Call (.Name "range" p) [a] [] pos) (TIv bb X.K (itRng fa)) := by
  refine PI.imp (pi_range1 hg hm (pa_cons ha pa_nil (star_cons na)) (star_cons na)) fun σ H R q => ?_
  obtain ⟨ι, F, st, xs, s1, hS, e, hR⟩ := q
  obtain ⟨⟨w, t1⟩, e1, e⟩ := bindSome e
  dsimp only at e
  split at e
  · split at e
    · rename_i j hj
      cases e
      refine TEv.one hS e1 fun ι1 F1 H1 v p1 R1 r1 f1 => ?_
      cases r1.1
      refine ⟨j, rfl, hj.1, hj.2, hR ι1 F1 H1 _ (fun _ => True) p1 R1 (fun _ _ => trivial) ?_⟩
      have w := walk_range (lo := 0) (n := j.toNat)
      rw [List.length_map, List.length_range]
      refine w.mono (fun _ h => h) fun i H1 x H' hi hg y => ?_
      obtain ⟨e, h2⟩ := y
      subst e h2
      exact ⟨.inl rfl, .int (0 + i), by simp [hi], fun F2 _ _ => .inl (.int _)⟩
    · cases e
  · cases e
theorem r_itRng2 {bb : Bool} {p : Pos} (ha : PE X a (TEv X.K fa)) (hb : PE X b (TEv X.K fb)) (na : notStar a = true) (nb : notStar b = true) (hg : Gl X "range") (hm : X.mg "range" = none) : PI X tg (.Call (.Name "range" p) [a, b] [] pos) (TIv bb X.K (itRng2 fa fb)) := by
  refine PI.imp (pi_range2 hg hm (pa_cons ha (pa_cons hb pa_nil (star_cons nb)) (star_cons na)) (by rw [star_cons na, star_cons nb]; rfl) (star_cons nb)) fun σ H R q => ?_
  obtain ⟨ι, F, st, xs, s1, hS, e, hR⟩ := q
  obtain ⟨⟨w, t1⟩, e1, e⟩ := bindSome e
  obtain ⟨⟨u, t2⟩, e2, e⟩ := bindSome e
  dsimp only at e
  split at e
  · split at e
    · rename_i hj
      cases e
      refine TEv.two hS e1 e2 fun ι1 F1 H1 v u p1 R1 r1 r2 => ?_
      cases r1.1; cases r2.1
      refine ⟨_, _, rfl, hj, hR ι1 F1 H1 _ (fun _ => True) p1 R1 (fun _ _ => trivial) ?_⟩
      rw [List.length_map, List.length_range]
      refine walk_range.mono (fun _ h => h) fun i H1 x H' hi hg y => ?_
      obtain ⟨e, h2⟩ := y
      subst e h2
      exact ⟨.inl rfl, _, by simp [hi], fun F2 _ _ => .inl (.int _)⟩
    · cases e
  · cases e
theorem zip_get {K : PySem.W.Frag} {F : Addr → Prop} {H : Hp} {xs ys : List D} {vs us : List V} (h1 : DFs K F H vs xs) (h2 : DFs K F H us ys) (i : Nat) (x y : V) (e1 : vs[i]? = some x) (e2 : us[i]? = some y) :
    ∃ d e, ((xs.zip ys).map fun q => PyData.tuple [q.1, q.2])[i]? = some (.tuple [d, e]) ∧ DF K F H x d ∧ DF K F H y e := by
  obtain ⟨d, h3, h4⟩ := h1.getV e1
  obtain ⟨e, h5, h6⟩ := h2.getV e2
  refine ⟨d, e, ?_, h4, h6⟩
  rw [List.getElem?_map, (List.getElem?_zip_eq_some (z := (d, e))).mpr ⟨h3, h5⟩]
  rfl
theorem r_itZip {elts : List Expr} {kk : Nat} {p tpos : Pos} (ha : PE X a (TEv X.K fa)) (hb : PE X b (TEv X.K fb)) (na : notStar a = true) (nb : notStar b = true) (hg : Gl X "zip") (hm : X.mg "zip" = none) :
    PI X (.Tuple elts kk tpos) (.Call (.Name "zip" p) [a, b] [] pos) (TIv true X.K (itZip fa fb)) := by
  refine PI.imp (pi_zipA hg hm (pa_cons ha (pa_cons hb pa_nil (star_cons nb)) (star_cons na)) (star_cons na) (by rw [star_cons nb]; rfl)) fun σ H R q => ?_
  obtain ⟨ι, F, st, xs, s1, hS, e, hR⟩ := q
  obtain ⟨⟨w, t1⟩, e1, e⟩ := bindSome e
  obtain ⟨⟨x, t2⟩, e2, e⟩ := bindSome e
  obtain ⟨⟨u, t3⟩, e3, e⟩ := bindSome e
  obtain ⟨⟨y, t4⟩, e4, e⟩ := bindSome e
  refine TEv.one hS e1 fun ι1 F1 H1 v p1 R1 r1 f1 => ?_
  obtain ⟨F2, p2, R2, d2⟩ := fz_ok p1 R1 r1 f1 e2
  refine TEv.one R2 e3 fun ι3 F3 H3 v3 p3 R3 r3 f3 => ?_
  obtain ⟨F4, p4, R4, d4⟩ := fz_ok p3 R3 r3 f3 e4
  have d2' := DF.mono p4.fm (p4.keep R2) _ _ d2
  have pp := p2.trans p4
  dsimp only at e
  split at e
  · cases e
    cases d2' with
    | lst h1 h2 =>
      cases d4 with
      | lst h3 h4 =>
        refine ⟨_, _, _, _, rfl, .inl ⟨h1.sq, h3.sq, hR ι3 F4 H3 _ (fun H => SqL X.K H _ _ ∧ SqL X.K H _ _) pp R4 (fun H2 hk => ⟨(h1.mono (fun _ h => h) hk).sq, (h3.mono (fun _ h => h) hk).sq⟩) ?_⟩⟩
        refine (walk_zip (K := X.K) ?_).mono (fun _ h => h) fun i H1 x H' hi hg y => yd_pair (fun i x y => zip_get h2 h4 i x y) i H1 x H' hi y
        rw [List.length_map, List.length_zip, h2.length, h4.length]
  · cases e
    cases d2' with
    | tup h1 h2 =>
      cases d4 with
      | tup h3 h4 =>
        refine ⟨_, _, _, _, rfl, .inr ⟨h1.sq, h3.sq, hR ι3 F4 H3 _ (fun H => SqT X.K H _ _ ∧ SqT X.K H _ _) pp R4 (fun H2 hk => ⟨sqT_mono hk h1.sq, sqT_mono hk h3.sq⟩) ?_⟩⟩
        refine (walkT_zip (K := X.K) ?_).mono (fun _ h => h) fun i H1 x H' hi hg y => yd_pair (fun i x y => zip_get h2 h4 i x y) i H1 x H' hi y
        rw [List.length_map, List.length_zip, h2.length, h4.length]
  · cases e
theorem r_itEnum {elts : List Expr} {kk : Nat} {p tpos : Pos} (ha : PE X a (TEv X.K fa)) (na : notStar a = true) (hg : Gl X "enumerate") (hm : X.mg "enumerate" = none) :
    PI X (.Tuple elts kk tpos) (.Call (.Name "enumerate" p) [a] [] pos) (TIv true X.K (itEnum fa)) := by
  refine PI.imp (pi_enum hg hm (pa_cons ha pa_nil (star_cons na)) (star_cons na)) fun σ H R q => ?_
  obtain ⟨ι, F, st, xs, s1, hS, e, hR⟩ := q
  obtain ⟨⟨w, t1⟩, e1, e⟩ := bindSome e
  obtain ⟨⟨x, t2⟩, e2, e⟩ := bindSome e
  refine TEv.one hS e1 fun ι1 F1 H1 v p1 R1 r1 f1 => ?_
  obtain ⟨F2, p2, R2, d2⟩ := fz_ok p1 R1 r1 f1 e2
  dsimp only at e
  split at e
  · cases e
    cases d2 with
    | lst h1 h2 =>
      refine ⟨_, _, rfl, h1.sq, hR ι1 F2 H1 _ _ p2 R2 (fun H2 hk => (h1.mono (fun _ h => h) hk).sq) ?_⟩
      have hl : ∀ ys : List D, (ys.zipIdx.map fun q => PyData.tuple [.int (q.2 : Nat), q.1]).length = ys.length := fun ys => by simp
      rw [hl, ← h2.length]
      refine (walk_enum (K := X.K)).mono (fun _ h => h) fun i H1 x H' hi hg y => yd_pair (fun i x y hx hy => ?_) i H1 x H' (by rw [hl, ← h2.length]; exact hi) y
      obtain ⟨d, h5, h6⟩ := h2.getV hy
      cases hx
      refine ⟨.int (i : Nat), d, ?_, .int _, h6⟩
      rw [List.getElem?_map, List.getElem?_zipIdx, h5]
      simp
  · cases e
end
end DE
/-! DE: targets. -/
namespace DE
open PySem PySem.Spec PyProof.Rows L2

/-- what is known of where one stands -/
structure Cn (X : Cx) (N : List Str) (sc : Scope) (ow : Str → Bool) : Prop where
  nN : X.N = N
  nd : N.Nodup
  es : X.env.scope = sc
  calm : X.calm = true
  fc : ∀ x, ow x = true → X.fn x = true
def kindIs (sc : Scope) (x : Str) (k : NameKind) : Bool := match sc.names.lookup x with
  | some j => decide (j = k)
  | none => false
theorem kindIs_ok {sc : Scope} {x : Str} {k : NameKind} (h : kindIs sc x k = true) : sc.names.lookup x = some k := by
  unfold kindIs at h
  split at h
  · rename_i j e
    rw [e, of_decide_eq_true h]
  · cases h
/-- a slot that is stored -/
def stoOk (N : List Str) (sc : Scope) (ow : Str → Bool) (i : Nat) (x : Str) : Bool := decide (N[i]? = some x) && (kindIs sc x .local || (kindIs sc x .cell && ow x))
/-- a slot that is read -/
def seeOk (N : List Str) (sc : Scope) (i : Nat) (x : Str) : Bool := decide (N[i]? = some x) && (kindIs sc x .local || kindIs sc x .cell || kindIs sc x .free) && !(x == ("__debug__" : Str)) && !(x == ("__classdict__" : Str))
theorem Cn.see {X : Cx} {N : List Str} {sc : Scope} {ow : Str → Bool} (c : Cn X N sc ow) {i : Nat} {x : Str} {p : Pos} (h : seeOk N sc i x = true) : PE X (.Name x p) (tVar i) := by
  unfold seeOk at h
  rw [Bool.and_eq_true, Bool.and_eq_true, Bool.and_eq_true, decide_eq_true_eq, Bool.or_eq_true, Bool.or_eq_true, Bool.not_eq_true', Bool.not_eq_true'] at h
  obtain ⟨⟨⟨h1, h2⟩, h3⟩, h4⟩ := h
  refine pe_var (by rw [c.nN]; exact h1) ?_ h3 h4
  rw [c.es]
  rcases h2 with (h2 | h2) | h2
  · exact .inl (kindIs_ok h2)
  · exact .inr (.inl (kindIs_ok h2))
  · exact .inr (.inr (kindIs_ok h2))
theorem Cn.sto {X : Cx} {N : List Str} {sc : Scope} {ow : Str → Bool} (c : Cn X N sc ow) {i : Nat} {x : Str} {p : Pos} (h : stoOk N sc ow i x = true) : X.N.Nodup ∧ X.N[i]? = some x ∧ Loc X.env.scope x ∧ (X.fn x = true ∨ X.env.scope.names.lookup x = some .local) := by
  unfold stoOk at h
  rw [Bool.and_eq_true, decide_eq_true_eq, Bool.or_eq_true, Bool.and_eq_true] at h
  obtain ⟨h1, h2⟩ := h
  refine ⟨by rw [c.nN]; exact c.nd, by rw [c.nN]; exact h1, ?_, ?_⟩
  · rw [c.es]
    rcases h2 with h2 | h2
    · exact .inl (kindIs_ok h2)
    · exact .inr (kindIs_ok h2.1)
  · rw [c.es]
    rcases h2 with h2 | h2
    · exact .inr (kindIs_ok h2)
    · exact .inl (c.fc x h2.2)

section
variable {K : PySem.W.Frag} {ι : List Addr} {F : Addr → Prop} {st : S} {σ : L2.St} {H : Hp}
theorem Stp.setD {i : Nat} {x : D} {v : V} (R : SR K ι F st σ H) : Stp ι F st σ H ι F (st.set i (.d x)) (σ.set i (some v)) H := by
  refine ⟨fun _ _ e _ _ => e, ⟨[], (List.append_nil _).symm, fun _ z => (by cases z)⟩, fun _ h => h, fun _ h => .inl h, fun j a h => .inr ?_, fun _ h => h⟩
  obtain ⟨u, h1, h2, h3⟩ := h
  rw [S.set_eq] at h1
  rcases S.at_put h1 with ⟨e, e'⟩ | ⟨e, e'⟩
  · cases e'; cases h2
  · rw [List.getElem?_set_ne (Ne.symm e)] at h3
    exact ⟨j, u, e', h2, h3⟩
end
mutual
def slotsT : T → List Nat
  | .nm i => [i]
  | .tp ts => slotsTs ts
def slotsTs : List T → List Nat
  | [] => []
  | t :: ts => slotsT t ++ slotsTs ts
end
theorem wipe_set {σ : L2.St} {i : Nat} {v : Option V} : ∀ {own : List Nat}, i ∈ own → wipe (σ.set i v) own = wipe σ own
  | [], h => by cases h
  | j :: own, h => by
    unfold wipe
    by_cases hj : i ∈ own
    · rw [wipe_set hj]
    · have e : i = j := by
        rcases List.mem_cons.mp h with e | e
        · exact e
        · exact absurd e hj
      subst e
      apply List.ext_getElem?
      intro k
      have key : ∀ (own : List Nat) (σ : L2.St), i ∉ own → ∀ k, k ≠ i → (wipe (σ.set i v) own)[k]? = (wipe σ own)[k]? := by
        intro own
        induction own with
        | nil => intro σ _ k hk; exact List.getElem?_set_ne (Ne.symm hk)
        | cons m own ih =>
          intro σ hm k hk
          unfold wipe
          by_cases e : m = k
          · subst e
            by_cases hl : m < (wipe σ own).length
            · rw [List.getElem?_set_self hl, List.getElem?_set_self (by rw [wipe_length, List.length_set]; rw [wipe_length] at hl; exact hl)]
            · rw [List.getElem?_eq_none (by rw [List.length_set, wipe_length, List.length_set]; rw [wipe_length] at hl; omega), List.getElem?_eq_none (by rw [List.length_set]; omega)]
          · rw [List.getElem?_set_ne e, List.getElem?_set_ne e]
            exact ih σ (fun z => hm (List.mem_cons_of_mem _ z)) k hk
      by_cases e : i = k
      · subst e
        by_cases hl : i < (wipe σ own).length
        · rw [List.getElem?_set_self hl, List.getElem?_set_self (by rw [wipe_length, List.length_set]; rw [wipe_length] at hl; exact hl)]
        · rw [List.getElem?_eq_none (by rw [List.length_set, wipe_length, List.length_set]; rw [wipe_length] at hl; omega), List.getElem?_eq_none (by rw [List.length_set]; omega)]
      · rw [List.getElem?_set_ne e, List.getElem?_set_ne e]
        exact key own σ hj k (Ne.symm e)

/-- behind a target -/
structure AfT (K : PySem.W.Frag) (ι : List Addr) (F : Addr → Prop) (st : S) (σ : L2.St) (H : Hp) (sl : List Nat) (s2 : S) (σ2 : L2.St) : Prop where
  R : SR K ι F s2 σ2 H
  p : Stp ι F st σ H ι F s2 σ2 H
  w : ∀ own : List Nat, (∀ i ∈ sl, i ∈ own) → wipe σ2 own = wipe σ own
def isTp : T → Bool
  | .nm _ => false
  | .tp _ => true
def TGd (K : PySem.W.Frag) (t : T) : TG := fun v σ H Q => ∃ ι F st x s2, SR K ι F st σ H ∧ DI (isTp t) K F H v x ∧ asgT t x st = some s2 ∧ ∀ σ2, AfT K ι F st σ H (slotsT t) s2 σ2 → Q σ2 H
def TGds (K : PySem.W.Frag) (ts : List T) : TGs := fun vs σ H Q => ∃ ι F st xs s2, SR K ι F st σ H ∧ DFs K F H vs xs ∧ asgTs ts xs st = some s2 ∧ ∀ σ2, AfT K ι F st σ H (slotsTs ts) s2 σ2 → Q σ2 H
theorem PG.imp {X : Cx} {e : Expr} {t t' : TG} (h : PG X e t) (i : ∀ v σ H Q, t' v σ H Q → t v σ H Q) : PG X e t' := ⟨fun pins s σ H v u Q I r q => h.run pins s σ H v u Q I r (i v σ H Q q)⟩
theorem PGs.imp {X : Cx} {e : List Expr} {t t' : TGs} (h : PGs X e t) (i : ∀ v σ H Q, t' v σ H Q → t v σ H Q) : PGs X e t' := ⟨fun pins s σ H v u Q I r q => h.run pins s σ H v u Q I r (i v σ H Q q)⟩

mutual
def chkG (N : List Str) (sc : Scope) (ow : Str → Bool) : T → Expr → Bool
  | .nm i, e => match e with
    | .Name x _ => stoOk N sc ow i x
    | _ => false
  | .tp ts, e => match e with
    | .Tuple es _ _ => chkGs N sc ow ts es
    | _ => false
def chkGs (N : List Str) (sc : Scope) (ow : Str → Bool) : List T → List Expr → Bool
  | [], [] => true
  | t :: ts, e :: es => chkG N sc ow t e && chkGs N sc ow ts es
  | _, _ => false
end
theorem chkG_star {N : List Str} {sc : Scope} {ow : Str → Bool} {t : T} {e : Expr} (h : chkG N sc ow t e = true) : notStar e = true := by
  cases t <;> cases e <;> first | rfl | (unfold chkG at h; cases h)
theorem assign_cons {e : Expr} {es : List Expr} {env : Env} (h : notStar e = true) : (assignEach (e :: es) env) = (false, assign e env) :: assignEach es env := by
  cases e <;> first | rfl | cases h
theorem assign_len {N : List Str} {sc : Scope} {ow : Str → Bool} {env : Env} : ∀ {ts : List T} {es : List Expr}, chkGs N sc ow ts es = true → (assignEach es env).length = es.length ∧ (assignEach es env).findIdx? (·.1) = none ∧ ts.length = es.length
  | [], [], _ => ⟨rfl, rfl, rfl⟩
  | [], _ :: _, h => by unfold chkGs at h; cases h
  | _ :: _, [], h => by unfold chkGs at h; cases h
  | t :: ts, e :: es, h => by
    unfold chkGs at h
    rw [Bool.and_eq_true] at h
    obtain ⟨h1, h2, h3⟩ := assign_len (env := env) h.2
    rw [assign_cons (chkG_star h.1)]
    refine ⟨by simp [h1], ?_, by simp [h3]⟩
    rw [List.findIdx?_cons]
    simp [h2]
theorem asgTs_len : ∀ {ts : List T} {xs : List D} {s s2 : S}, asgTs ts xs s = some s2 → ts.length = xs.length
  | [], [], _, _, _ => rfl
  | [], _ :: _, _, _, h => by unfold asgTs at h; cases h
  | _ :: _, [], _, _, h => by unfold asgTs at h; cases h
  | t :: ts, x :: xs, s, s2, h => by
    unfold asgTs at h
    obtain ⟨s1, _, h⟩ := bindSome h
    simp [asgTs_len h]
mutual
theorem g_ok {X : Cx} {N : List Str} {sc : Scope} {ow : Str → Bool} (c : Cn X N sc ow) : ∀ (t : T) (e : Expr), chkG N sc ow t e = true → PG X e (TGd X.K t)
  | .nm i, e, h => by
    unfold chkG at h
    split at h
    · rename_i x p
      obtain ⟨h1, h2, h3, h4⟩ := c.sto (p := p) h
      refine PG.imp (pg_name h1 h2 h3 h4) fun v σ H Q q => ?_
      obtain ⟨ι, F, st, x', s2, hS, d, e, hQ⟩ := q
      unfold asgT at e
      cases e
      have d' : DF X.K F H v x' := by
        rcases d with d | ⟨z, _⟩
        · exact d
        · cases z
      refine hQ _ ⟨hS.put (fun _ => d') (fun z => by cases z), Stp.setD hS, fun own ho => wipe_set (ho i ?_)⟩
      unfold slotsT
      exact List.mem_singleton.mpr rfl
    · cases h
  | .tp ts, e, h => by
    unfold chkG at h
    split at h
    · rename_i es k p
      obtain ⟨l1, l2, l3⟩ := assign_len (env := X.env) h
      refine PG.imp (pg_tup c.calm (gs_ok c ts es h) l1 l2) fun v σ H Q q => ?_
      obtain ⟨ι, F, st, x', s2, hS, d, e, hQ⟩ := q
      have d' : ∃ a vs ds, v = .ref a ∧ x' = .tuple ds ∧ SqT X.K H a vs ∧ DFs X.K F H vs ds := by
        rcases d with d | ⟨_, d⟩
        · cases x' <;> first
            | (unfold asgT at e; cases e; done)
            | (cases d with
               | tup h1 h2 => exact ⟨_, _, _, rfl, rfl, h1.sq, h2⟩)
        · exact d
      obtain ⟨a, vs, ds, rfl, rfl, h1, h2⟩ := d'
      unfold asgT at e
      refine ⟨_, _, rfl, h1, ?_, ι, F, st, _, s2, hS, h2, e, fun σ2 z => hQ σ2 ?_⟩
      · rw [h2.length, ← asgTs_len e, l3]
      · unfold slotsT
        exact z
    · cases h
theorem gs_ok {X : Cx} {N : List Str} {sc : Scope} {ow : Str → Bool} (c : Cn X N sc ow) : ∀ (ts : List T) (es : List Expr), chkGs N sc ow ts es = true → PGs X es (TGds X.K ts)
  | [], [], _ => PGs.imp pgs_nil fun v σ H Q q => by
    obtain ⟨ι, F, st, xs, s2, hS, d, e, hQ⟩ := q
    cases xs with
    | nil =>
      unfold asgTs at e
      cases e
      cases d
      exact ⟨rfl, hQ σ ⟨hS, Stp.refl, fun _ _ => rfl⟩⟩
    | cons x xs => unfold asgTs at e; cases e
  | [], _ :: _, h => by unfold chkGs at h; cases h
  | _ :: _, [], h => by unfold chkGs at h; cases h
  | t :: ts, e :: es, h => by
    unfold chkGs at h
    rw [Bool.and_eq_true] at h
    refine PGs.imp (pgs_cons (g_ok c t e h.1) (gs_ok c ts es h.2) (by rw [assign_cons (chkG_star h.1)]; rfl)) fun v σ H Q q => ?_
    obtain ⟨ι, F, st, xs, s2, hS, d, e, hQ⟩ := q
    cases xs with
    | nil => unfold asgTs at e; cases e
    | cons x xs =>
      unfold asgTs at e
      obtain ⟨s1, e1, e2⟩ := bindSome e
      cases d with
      | cons h1 h2 =>
        refine ⟨_, _, rfl, ι, F, st, x, s1, hS, .inl h1, e1, fun σ1 z1 => ⟨ι, F, s1, xs, s2, z1.R, h2, e2, fun σ2 z2 => hQ σ2 ⟨z2.R, z1.p.trans z2.p, fun own ho => ?_⟩⟩⟩
        unfold slotsTs at ho
        rw [z2.w own fun i hi => ho i (List.mem_append_right _ hi), z1.w own fun i hi => ho i (List.mem_append_left _ hi)]
end
end DE
/-! DE: comprehensions. -/
namespace DE
open PySem PySem.Spec PyProof.Rows L2 RZ

/-! ### slots forgotten -/
theorem wipe_in {σ : L2.St} {i : Nat} : ∀ {own : List Nat}, i ∈ own → i < σ.length → (wipe σ own)[i]? = some none
  | [], h, _ => by cases h
  | j :: own, h, hl => by
    unfold wipe
    by_cases e : j = i
    · subst e
      rw [List.getElem?_set_self (by rw [wipe_length]; exact hl)]
    · rw [List.getElem?_set_ne e]
      refine wipe_in ?_ hl
      rcases List.mem_cons.mp h with h | h
      · exact absurd h.symm e
      · exact h
theorem wipe_idem {σ : L2.St} {own : List Nat} : wipe (wipe σ own) own = wipe σ own := by
  apply List.ext_getElem?
  intro i
  by_cases h : i ∈ own
  · by_cases hl : i < σ.length
    · rw [wipe_in h (by rw [wipe_length]; exact hl), wipe_in h hl]
    · rw [List.getElem?_eq_none (by rw [wipe_length, wipe_length]; omega), List.getElem?_eq_none (by rw [wipe_length]; omega)]
  · rw [wipe_out h]
theorem S.wipe_at {s : S} {j : Nat} : ∀ {own : List Nat}, (j ∈ own → (s.wipe own).at j = none) ∧ (j ∉ own → (s.wipe own).at j = s.at j)
  | [] => ⟨fun h => (by cases h), fun _ => rfl⟩
  | i :: own => by
    have ih := S.wipe_at (s := s) (j := j) (own := own)
    have e : s.wipe (i :: own) = (s.wipe own).put i none := rfl
    rw [e]
    by_cases hj : j = i
    · subst hj
      refine ⟨fun _ => ?_, fun h => absurd (List.mem_cons_self ..) h⟩
      cases h : ((s.wipe own).put j none).at j with
      | none => rfl
      | some u => cases (S.at_put_self h).1
    · rw [S.at_put_ne hj]
      refine ⟨fun h => ih.1 ?_, fun h => ih.2 fun z => h (List.mem_cons_of_mem _ z)⟩
      rcases List.mem_cons.mp h with h | h
      · exact absurd h hj
      · exact h
theorem S.wipe_some {s : S} {j : Nat} {own : List Nat} {w : SV} (h : (s.wipe own).at j = some w) : j ∉ own ∧ s.at j = some w := by
  by_cases hj : j ∈ own
  · rw [S.wipe_at.1 hj] at h; cases h
  · rw [S.wipe_at.2 hj] at h
    exact ⟨hj, h⟩
theorem S.wipe_len {s : S} : ∀ {own : List Nat}, (s.wipe own).v.length = s.v.length
  | [] => rfl
  | i :: own => by
    show ((s.wipe own).v.set i none).length = _
    rw [List.length_set, S.wipe_len]
theorem S.wipe_h {s : S} : ∀ {own : List Nat}, (s.wipe own).h = s.h
  | [] => rfl
  | i :: own => S.wipe_h (own := own)
section
variable {K : PySem.W.Frag} {ι ι' : List Addr} {F F' : Addr → Prop} {st s1 : S} {σ σ' : L2.St} {H H' : Hp}
theorem OwnA.wiped {own : List Nat} {i : Nat} {a : Addr} (h : OwnA (st.wipe own) (wipe σ own) i a) : i ∉ own ∧ OwnA st σ i a := by
  obtain ⟨w, h1, h2, h3⟩ := h
  obtain ⟨hi, h1⟩ := S.wipe_some h1
  rw [wipe_out hi] at h3
  exact ⟨hi, w, h1, h2, h3⟩
theorem SR.wipe (R : SR K ι F st σ H) (own : List Nat) : SR K ι F (st.wipe own) (wipe σ own) H where
  sl := fun i w e => by
    obtain ⟨hi, e⟩ := S.wipe_some e
    rw [wipe_out hi]
    exact R.sl i w e
  di := fun i j a h1 h2 => R.di i j a h1.wiped.2 h2.wiped.2
  cl := by rw [S.wipe_h]; exact R.cl
  ce := by rw [S.wipe_h]; exact R.ce
  cn := R.cn
  co := fun i a h => R.co i a h.wiped.2
  cf := R.cf
  ft := R.ft
  ln := by rw [S.wipe_len, wipe_length]; exact R.ln
theorem Stp.wipe (own : List Nat) : Stp ι F st σ H ι F (st.wipe own) (wipe σ own) H :=
  ⟨fun _ _ e _ _ => e, ⟨[], (List.append_nil _).symm, fun _ z => (by cases z)⟩, fun _ h => h, fun _ h => .inl h, fun i a h => .inr ⟨i, h.wiped.2⟩, fun _ h => h⟩
theorem OwnA.unwiped {own : List Nat} {i : Nat} {a : Addr} (hn : ∀ j ∈ own, st.at j = none) : OwnA st σ i a ↔ OwnA st (wipe σ own) i a := by
  have ni : ∀ w, st.at i = some w → i ∉ own := fun w e z => by rw [hn i z] at e; cases e
  constructor
  · rintro ⟨w, h1, h2, h3⟩
    exact ⟨w, h1, h2, by rw [wipe_out (ni w h1)]; exact h3⟩
  · rintro ⟨w, h1, h2, h3⟩
    rw [wipe_out (ni w h1)] at h3
    exact ⟨w, h1, h2, h3⟩
theorem SR.unwipe {own : List Nat} (hn : ∀ j ∈ own, st.at j = none) (R : SR K ι F st (L2.wipe σ own) H) : SR K ι F st σ H where
  sl := fun i w e => by
    have hi : i ∉ own := fun z => by rw [hn i z] at e; cases e
    have q := R.sl i w e
    rw [wipe_out hi] at q
    exact q
  di := fun i j a h1 h2 => R.di i j a ((OwnA.unwiped hn).mp h1) ((OwnA.unwiped hn).mp h2)
  cl := R.cl
  ce := R.ce
  cn := R.cn
  co := fun i a h => R.co i a ((OwnA.unwiped hn).mp h)
  cf := R.cf
  ft := R.ft
  ln := by rw [R.ln, wipe_length]
theorem Stp.unwipe {own : List Nat} (hn : ∀ j ∈ own, st.at j = none) : Stp ι F st (L2.wipe σ own) H ι F st σ H :=
  ⟨fun _ _ e _ _ => e, ⟨[], (List.append_nil _).symm, fun _ z => (by cases z)⟩, fun _ h => h, fun _ h => .inl h, fun i a h => .inr ⟨i, (OwnA.unwiped hn).mp h⟩, fun _ h => h⟩

/-! ### an object that no slot has, in hand -/
structure Pend (ι : List Addr) (F : Addr → Prop) (st : S) (σ : L2.St) (a : Addr) : Prop where
  i : a ∉ ι
  f : ¬ F a
  o : ∀ j, ¬ OwnA st σ j a
theorem Pend.step {a : Addr} {o : HO} (P : Pend ι F st σ a) (e : H a = some o) (p : Stp ι F st σ H ι' F' s1 σ' H') : Pend ι' F' s1 σ' a ∧ H' a = some o := by
  refine ⟨⟨fun z => ?_, fun z => ?_, fun j z => ?_⟩, p.fr a o e P.i P.o⟩
  · obtain ⟨l, rfl, hl⟩ := p.ix
    rcases List.mem_append.mp z with z | z
    · exact P.i z
    · rcases hl a z with z | ⟨j, z⟩
      · rw [z] at e; cases e
      · exact P.o j z
  · rcases p.fn a z with z | z | ⟨i, z⟩
    · exact P.f z
    · rw [z] at e; cases e
    · exact P.o i z
  · rcases p.om j a z with z | ⟨j, z⟩
    · rw [z] at e; cases e
    · exact P.o j z
theorem SR.pend (R : SR K ι F st σ H) {a : Addr} {o : HO} (P : Pend ι F st σ a) (hm : Mut (H a)) : SR K ι F st σ (upd H a o) := by
  have hk : Keep F H (upd H a o) := keep_upd P.f hm
  refine ⟨fun j w e => ?_, R.di, R.cl, fun n kvs e => ?_, R.cn, R.co, R.cf, fun b hb z => ?_, R.ln⟩
  · obtain ⟨v, h1, h2⟩ := R.sl j w e
    have nown : ∀ b, isOwn w = true → v = .ref b → b ≠ a := fun b hw' ev z => by
      subst ev z
      exact P.o j ⟨w, e, hw', h1⟩
    refine ⟨v, h1, ?_⟩
    cases w with
    | d x => exact DF.mono (fun _ h => h) hk _ _ h2
    | l xs =>
      obtain ⟨b, us, e1, h3, h4, h5⟩ := h2
      exact ⟨b, us, e1, (upd_ne (nown b rfl e1)).trans h3, DFs.mono (fun _ h => h) hk _ _ h4, h5⟩
    | m ow kvs =>
      obtain ⟨b, ps, e1, h3, h4, h5, h6⟩ := h2
      have hb : b ≠ a := by
        cases ow with
        | true => exact nown b rfl e1
        | false => exact fun z => P.f (z ▸ h6 rfl)
      exact ⟨b, ps, e1, (upd_ne hb).trans h3, h4.mono (fun _ h => h) hk, h5, h6⟩
    | c n => exact h2
    | b n => exact h2
  · obtain ⟨b, ps, h1, h2, h3⟩ := R.ce n kvs e
    exact ⟨b, ps, h1, (upd_ne fun (z : b = a) => P.i (by rw [← z]; exact List.mem_of_getElem? h1)).trans h2, h3.mono (fun _ h => h) hk⟩
  · by_cases e : b = a
    · subst e; rw [upd_same] at z; cases z
    · rw [upd_ne e] at z; exact R.ft b hb z
theorem Stp.pend {st0 : S} {σ0 : L2.St} {ι0 : List Addr} {F0 : Addr → Prop} {H0 : Hp} (p : Stp ι0 F0 st0 σ0 H0 ι F st σ H) {a : Addr} {o : HO} (ha : H0 a = none) : Stp ι0 F0 st0 σ0 H0 ι F st σ (upd H a o) :=
  ⟨fun b u e hb ho => (upd_ne fun (z : b = a) => by rw [z, ha] at e; cases e).trans (p.fr b u e hb ho), p.ix, p.fm, p.fn, p.om, fun b z => by
    by_cases e : b = a
    · rw [e]; exact ha
    · rw [upd_ne e] at z; exact p.tr b z⟩
end

def notSet : Expr → Bool
  | .Set _ _ _ => false
  | _ => true
theorem folded_of {e : Expr} {env : Env} (h : notSet e = true) : ∀ x, foldedSetIterable e env x = pure x := by
  intro x
  cases e <;> first | rfl | cases h

section
variable {X : Cx}
theorem compL_cons {turn : D → S → Option (Option D × S)} {x : D} {xs : List D} {s : S} {acc : List D} : compL turn (x :: xs) s acc = (turn x s).bind fun (o, s') => match o with
    | some y => compL turn xs s' (y :: acc)
    | none => compL turn xs s' acc := rfl
theorem comp_imp {K : PySem.W.Frag} {it : S → Option (List D × S)} {t : T} {c : S → Option (Bool × S)} {f : RunE} {own : List Nat} (hsl : ∀ i ∈ slotsT t, i ∈ own) : ∀ σ H0 Q, TEv K (eComp it t c f own) σ H0 Q → tLc (TIv (isTp t) K it) (TGd K t) (TTv K c) (TEv K f) own σ H0 Q := fun σ H0 Q q => by
  obtain ⟨ι, F, st, w, s6, hS, e, hQ⟩ := q
  obtain ⟨⟨xs, s1⟩, e1, e⟩ := bindSome e
  dsimp only at e
  split at e
  · rename_i hlen
    obtain ⟨⟨ys, s7⟩, e2, e⟩ := mapSome e
    cases e
    refine ⟨ι, F, st, xs, s1, hS, e1, fun ι1 F1 H1 J G p1 R1 sty wk => fun D hD => ?_⟩
    have R1w : SR K ι1 F1 (s1.wipe own) (wipe σ own) H1 := R1.wipe own
    refine lc_it wk (fun i H => ∃ ι2 F2 st2 acc accV, SR K ι2 F2 st2 (wipe σ own) H ∧ Stp ι1 F1 (s1.wipe own) (wipe σ own) H1 ι2 F2 st2 (wipe σ own) H ∧ (∀ j ∈ own, st2.at j = none) ∧ H D = some (.lst accV) ∧
      DFs K F2 H accV acc.reverse ∧ Pend ι2 F2 st2 (wipe σ own) D ∧ acc.length ≤ i ∧ compL (compT t c f own) (xs.drop i) st2 acc = some (ys, s7)) ?_ ?_ ?_ ?_
    · -- the start
      obtain ⟨n1, n2, n3⟩ := new_free R1w hD
      exact ⟨ι1, F1, s1.wipe own, [], [], R1w.new hD, Stp.new hD, fun j hj => S.wipe_at.1 hj, upd_same, .nil, ⟨n2, n1, n3⟩, Nat.le_refl _, e2⟩
    · -- the walked thing stands still
      rintro i H hle ⟨ι2, F2, st2, acc, accV, R2, p2, _⟩
      exact sty H (p2.keep R1w)
    · -- a turn
      rintro i x H H' hlt ⟨ι2, F2, st2, acc, accV, R2, p2, hno, hDH, dacc, PD, hal, ec⟩ ⟨hH', d, hd, hdf⟩
      have dx : DI (isTp t) K F2 H' x d := hdf F2 p2.fm (p2.keep R1w)
      have st0 : SR K ι2 F2 st2 (wipe σ own) H' ∧ Stp ι2 F2 st2 (wipe σ own) H ι2 F2 st2 (wipe σ own) H' := by
        rcases hH' with e | ⟨p, o, hp, e⟩
        · subst e; exact ⟨R2, Stp.refl⟩
        · subst e; exact ⟨R2.new hp, Stp.new hp⟩
      obtain ⟨R2', p0⟩ := st0
      have hdrop : xs.drop i = d :: xs.drop (i + 1) := by
        have hl : i < xs.length := hlt
        rw [List.drop_eq_getElem_cons hl]
        rw [List.getElem?_eq_getElem hl] at hd
        rw [Option.some.inj hd]
      rw [hdrop, compL_cons] at ec
      obtain ⟨⟨o, s3⟩, et, ec⟩ := bindSome ec
      obtain ⟨a2, ea, et⟩ := bindSome et
      obtain ⟨⟨k, a3⟩, eb, et⟩ := bindSome et
      refine ⟨ι2, F2, st2, d, a2, R2', dx, ea, fun σ2 z => ?_⟩
      have hw2 : wipe σ2 own = wipe σ own := (z.w own hsl).trans wipe_idem
      refine ⟨hw2, ι2, F2, a2, k, a3, z.R, eb, fun ι3 F3 H3 p3 R3 => ?_⟩
      have q3 := (p0.trans z.p).trans p3
      cases k with
      | false =>
        dsimp only at et ⊢
        rw [if_neg Bool.false_ne_true]
        rw [if_neg Bool.false_ne_true] at et
        cases et
        have p5 : Stp ι2 F2 st2 (wipe σ own) H ι3 F3 (a3.wipe own) (wipe σ own) H3 := by
          have := q3.trans (Stp.wipe own)
          rw [hw2] at this
          exact this
        obtain ⟨P', e'⟩ := PD.step hDH p5
        refine ⟨ι3, F3, a3.wipe own, acc, accV, ?_, p2.trans p5, fun j hj => S.wipe_at.1 hj, e', DFs.mono p5.fm (p5.keep R2) _ _ dacc, P', by omega, ec⟩
        have := R3.wipe own
        rw [hw2] at this
        exact this
      | true =>
        dsimp only at et ⊢
        rw [if_pos rfl]
        rw [if_pos rfl] at et
        obtain ⟨⟨w, a4⟩, ef, et⟩ := bindSome et
        obtain ⟨⟨y, a5⟩, eg, et⟩ := mapSome et
        cases et
        refine ⟨ι3, F3, a3, w, a4, R3, ef, fun ι4 F4 H4 v p4 R4 r4 f4 => ?_⟩
        obtain ⟨F5, p5, R5, d5⟩ := fz_ok p4 R4 r4 f4 eg
        have q5 := q3.trans p5
        obtain ⟨P5, e5⟩ := PD.step hDH q5
        have dacc5 := DFs.mono q5.fm (q5.keep R2) _ _ dacc
        have hm : Mut (H4 D) := by rw [e5]; trivial
        have hk : Keep F5 H4 (upd H4 D (.lst (accV ++ [v]))) := keep_upd P5.f hm
        have R6 := (R5.pend (o := .lst (accV ++ [v])) P5 hm).wipe own
        rw [hw2] at R6
        have p6 : Stp ι1 F1 (s1.wipe own) (wipe σ own) H1 ι4 F5 (a5.wipe own) (wipe σ own) (upd H4 D (.lst (accV ++ [v]))) := by
          have := ((p2.trans q5).pend (o := .lst (accV ++ [v])) hD).trans (Stp.wipe own)
          rw [hw2] at this
          exact this
        have hl : accV.length < sizeLine := by
          have h1 := dacc.length
          rw [List.length_reverse] at h1
          have h2 : i < xs.length := hlt
          omega
        refine ⟨accV, e5, hl, ι4, F5, a5.wipe own, y :: acc, accV ++ [v], R6, p6, fun j hj => S.wipe_at.1 hj, upd_same, ?_, ⟨P5.i, P5.f, fun j z => ?_⟩, by rw [List.length_cons]; omega, ec⟩
        · rw [List.reverse_cons]
          exact (DFs.mono (fun _ h => h) hk _ _ dacc5).append (.cons (DF.mono (fun _ h => h) hk _ _ d5) .nil)
        · rw [← hw2] at z
          exact P5.o j z.wiped.2
    · -- the end
      rintro H ⟨ι2, F2, st2, acc, accV, R2, p2, hno, hDH, dacc, PD, hal, ec⟩
      rw [List.drop_length] at ec
      cases ec
      have p3 : Stp ι F st σ H0 ι2 F2 s7 σ H := ((p1.trans (Stp.wipe own)).trans p2).trans (Stp.unwipe hno)
      refine hQ ι2 F2 H (.ref D) p3 (R2.unwipe hno) ⟨⟨D, accV, rfl, hDH, dacc, PD.f⟩, fun _ a ea => ?_⟩ (Fresh.new (p1.tr D hD))
      cases ea
      exact ⟨PD.i, fun j z => PD.o j ((OwnA.unwiped hno).mp z)⟩
  · cases e
theorem r_comp {elt tg iter : Expr} {ifs : List Expr} {scope : Scope} {ownp : List (Str × Nat)} {pos : Pos} {it : S → Option (List D × S)} {t : T} {c : S → Option (Bool × S)} {f : RunE} (hc : X.calm = true) (hN : X.N.Nodup) (hi : PI X tg iter (TIv (isTp t) X.K it))
    (ok : BlkOk X.N X.env.scope scope ownp) (hg : ∀ (s : Shared) (H : Hp) (C : Addr) (cl : List (Str × Addr)) (fp : List Addr), PG (X.blk s H scope (compEnvC scope cl C X.env) fp) tg (TGd X.K t))
    (ht : ∀ (s : Shared) (H : Hp) (C : Addr) (cl : List (Str × Addr)) (fp : List Addr), PTs (X.blk s H scope (compEnvC scope cl C X.env) fp) ifs (TTv X.K c))
    (he : ∀ (s : Shared) (H : Hp) (C : Addr) (cl : List (Str × Addr)) (fp : List Addr), PE (X.blk s H scope (compEnvC scope cl C X.env) fp) elt (TEv X.K f)) (hn : notSet iter = true) (hsl : ∀ i ∈ slotsT t, i ∈ ownp.map (·.2)) :
    PE X (.ListComp elt [⟨tg, iter, ifs, 0⟩] scope pos) (TEv X.K (eComp it t c f (ownp.map (·.2)))) := PE.imp (pe_lc hc hN hi ok hg ht he (folded_of hn)) (comp_imp hsl)
end
end DE
/-! DE: statements. -/
namespace DE
open PySem PySem.Spec PyProof.Rows L2 RZ
/-! ### a, b = x, y: whether the stores are turned about -/
def tgtNames (sc : Scope) (ts : List Expr) : List Str :=
  ts.filterMap fun t => match t with
    | .Name id pos => if (sc.names.lookup id == some .local && pos.line == (ts.head?.map fun t => t.pos.line).getD 0) = true then some id else none
    | _ => none
def swapKind (sc : Scope) (ts vs : List Expr) : Option (Option (List Str)) :=
  if (!(ts.length == 2 || ts.length == 3) || vs.length != ts.length) = true then some none
  else if (vs.any fun e => !notStar e) = true then some none
  else if ((tgtNames sc ts).length != ts.length || (tgtNames sc ts).eraseDups.length != (tgtNames sc ts).length) = true then some none
  else if vs.all (foldedForSure 8) = true then some none
  else if vs.all (constantsAlone 8) = true then none
  else some (some (tgtNames sc ts))
theorem swap_ok {sc : Scope} {env : Env} {ts vs : List Expr} {k k2 : Nat} {p p2 : Pos} {r : Option (List Str)} (hk : sc.kind = .function) (he : env.scope = sc) (h : swapKind sc ts vs = some r) :
    swappedStores [.Tuple ts k p] (.Tuple vs k2 p2) env = pure r := by
  have hb : env.blockKind = .function := by unfold Env.blockKind; rw [he, hk] <;> rfl
  have hko : ∀ x, env.kindOf x = sc.names.lookup x := fun x => by rw [← he]; rfl
  unfold swapKind at h
  unfold swappedStores
  have e1 : (vs.any fun | .Starred .. => true | _ => false) = vs.any fun e => !notStar e := by
    congr 1
    funext e
    cases e <;> rfl
  simp only [hb, hko]
  split at h
  · rename_i hc
    cases h
    simp only [bne_self_eq_false, Bool.or_false]
    rw [if_pos hc]
  · rename_i hc
    simp only [bne_self_eq_false, Bool.or_false]
    rw [if_neg hc]
    split at h
    · rename_i hs
      cases h
      exact if_pos (e1.trans hs)
    · rename_i hs
      refine (if_neg fun z => hs (e1.symm.trans z)).trans ?_
      split at h
      · rename_i hn
        cases h
        exact if_pos hn
      · rename_i hn
        refine (if_neg hn).trans ?_
        split at h
        · rename_i hf
          cases h
          exact if_pos hf
        · rename_i hf
          refine (if_neg hf).trans ?_
          split at h
          · cases h
          · rename_i hca
            cases h
            first
              | exact if_neg hca
              | (rw [if_neg hca])

/-! ### what is handed over -/
section
variable {K : PySem.W.Frag} {ι ι1 : List Addr} {F F1 : Addr → Prop} {st st0 s1 : S} {σ : L2.St} {H H0 H1 : Hp}
inductive HVs (K : PySem.W.Frag) (ι : List Addr) (F : Addr → Prop) (st : S) (σ : L2.St) (H : Hp) (st0 : S) (H0 : Hp) : List SV → List V → Prop
  | nil : HVs K ι F st σ H st0 H0 [] []
  | cons {w : SV} {v : V} {ws : List SV} {vs : List V} : RV K ι F st σ H w v → Fresh st0 σ H0 w v → (∀ j, w ≠ .b j) → (isOwn w = true → ∀ (k : Nat) w', ws[k]? = some w' → isOwn w' = true → vs[k]? ≠ some v) →
      HVs K ι F st σ H st0 H0 ws vs → HVs K ι F st σ H st0 H0 (w :: ws) (v :: vs)
theorem HVs.length : ∀ {ws : List SV} {vs : List V}, HVs K ι F st σ H st0 H0 ws vs → ws.length = vs.length
  | _, _, .nil => rfl
  | _, _, .cons _ _ _ _ t => congrArg Nat.succ t.length
theorem HVs.at : ∀ {ws : List SV} {vs : List V} {k : Nat} {w : SV}, HVs K ι F st σ H st0 H0 ws vs → ws[k]? = some w → ∃ v, vs[k]? = some v ∧ RV K ι F st σ H w v ∧ Fresh st0 σ H0 w v ∧ ∀ j, w ≠ .b j
  | _, _, _, _, .nil, e => by simp at e
  | _, _, 0, _, .cons r f n _ _, e => by
    simp at e
    subst e
    exact ⟨_, rfl, r, f, n⟩
  | _, _, k + 1, w, .cons _ _ _ _ t, e => by
    obtain ⟨v, h⟩ := t.at (k := k) (w := w) (by simpa using e)
    exact ⟨v, by simpa using h⟩
theorem HVs.apart : ∀ {ws : List SV} {vs : List V} {k k' : Nat} {w w' : SV} {v : V}, HVs K ι F st σ H st0 H0 ws vs → ws[k]? = some w → ws[k']? = some w' → isOwn w = true → isOwn w' = true → vs[k]? = some v → vs[k']? = some v → k = k'
  | _, _, _, _, _, _, _, .nil, e, _, _, _, _, _ => by simp at e
  | _, _, 0, 0, _, _, _, .cons _ _ _ _ _, _, _, _, _, _, _ => rfl
  | _, _, 0, k' + 1, w, w', v, .cons _ _ _ ap _, e1, e2, o1, o2, h1, h2 => by
    simp at e1 h1
    subst e1 h1
    exact absurd (by simpa using h2) (ap o1 k' w' (by simpa using e2) o2)
  | _, _, k + 1, 0, w, w', v, .cons _ _ _ ap _, e1, e2, o1, o2, h1, h2 => by
    simp at e2 h2
    subst e2 h2
    exact absurd (by simpa using h1) (ap o2 k w (by simpa using e1) o1)
  | _, _, k + 1, k' + 1, w, w', v, .cons _ _ _ _ t, e1, e2, o1, o2, h1, h2 => by
    rw [t.apart (k := k) (k' := k') (w := w) (w' := w') (v := v) (by simpa using e1) (by simpa using e2) o1 o2 (by simpa using h1) (by simpa using h2)]
theorem HVs.back (p : Stp ι1 F1 s1 σ H1 ι F st0 σ H0) {ι2 : List Addr} {F2 : Addr → Prop} {st2 : S} {H2 : Hp} : ∀ {ws : List SV} {vs : List V}, HVs K ι2 F2 st2 σ H2 st0 H0 ws vs → HVs K ι2 F2 st2 σ H2 s1 H1 ws vs
  | _, _, .nil => .nil
  | _, _, .cons r f n ap t => .cons r (f.back p) n ap (t.back p)
/-- .. where they are fresh over a state in which w stood -/
theorem HVs.unlike {ws : List SV} {vs : List V} {w : SV} {v : V} {ι2 : List Addr} {F2 : Addr → Prop} {st2 : S} {H2 : Hp} (h : HVs K ι2 F2 st2 σ H2 st H ws vs) (r : RV K ι F st σ H w v) (o : isOwn w = true) (k : Nat) (w' : SV) (e : ws[k]? = some w') (o' : isOwn w' = true) : vs[k]? ≠ some v := fun z => by
  obtain ⟨v', e1, r', f', n'⟩ := h.at e
  rw [z] at e1; cases e1
  have tr : ∃ a, v = .ref a ∧ H a ≠ none ∧ ∀ i, ¬ OwnA st σ i a := by
    cases w with
    | l xs =>
      obtain ⟨⟨a, us, ev, h1, _⟩, h2⟩ := r
      exact ⟨a, ev, by rw [h1]; simp, (h2 rfl a ev).2⟩
    | m ow kvs =>
      obtain ⟨⟨a, us, ev, h1, _⟩, h2⟩ := r
      exact ⟨a, ev, by rw [h1]; simp, (h2 o a ev).2⟩
    | d _ => cases o
    | c _ => cases o
    | b _ => cases o
  obtain ⟨a, ev, hn, ho⟩ := tr
  rcases f' o' a ev with z | ⟨i, z⟩
  · exact hn z
  · exact ho i z
end
def THs (K : PySem.W.Frag) (g : S → Option (List SV × S)) : TA := fun σ H Q => ∃ ι F st ws s1, SR K ι F st σ H ∧ g st = some (ws, s1) ∧
  ∀ ι' F' H' vs, Stp ι F st σ H ι' F' s1 σ H' → SR K ι' F' s1 σ H' → HVs K ι' F' s1 σ H' st H ws vs → Q vs H'
section
variable {X : Cx} {a b c e : Expr} {es : List Expr} {fa fb f : RunE} {g : S → Option (List SV × S)} {pos : Pos}
theorem r_hNil : PA X [] (THs X.K hNil) := PA.imp pa_nil fun σ H Q q => by
  obtain ⟨ι, F, st, ws, s1, hS, e, hQ⟩ := q
  cases e
  exact hQ ι F H [] Stp.refl hS .nil
theorem r_hCons (hn : notStar e = true) (he : PE X e (TEv X.K f)) (hs : PA X es (THs X.K g)) : PA X (e :: es) (THs X.K (hCons f g)) := PA.imp (pa_cons he hs (star_cons hn)) fun σ H Q q => by
  obtain ⟨ι, F, st, w, s1, hS, e, hQ⟩ := q
  obtain ⟨⟨u, t1⟩, e1, e⟩ := bindSome e
  obtain ⟨⟨x, t2⟩, e2, e⟩ := bindSome e
  obtain ⟨⟨xs, t3⟩, e3, e⟩ := mapSome e
  cases e
  refine ⟨ι, F, st, u, t1, hS, e1, fun ι1 F1 H1 v p1 R1 r1 f1 => ?_⟩
  obtain ⟨F2, p2, R2, r2, f2, n2⟩ := hand_ok p1 R1 r1 f1 e2
  refine ⟨ι1, F2, t2, xs, s1, R2, e3, fun ι3 F3 H3 vs p3 R3 d3 => ?_⟩
  exact hQ ι3 F3 H3 (v :: vs) (p2.trans p3) R3 (.cons (r2.step R2 p3) f2 n2 (fun o k w' ew o' => d3.unlike r2 o k w' ew o') (d3.back p2))
end

/-! ### statements -/
/-- where a statement's end leads -/
def Go (K : PySem.W.Frag) (D : Ends) (ι' : List Addr) (F' : Addr → Prop) (s1 : S) (σ' : L2.St) (H' : Hp) (st : S) (σ : L2.St) (H : Hp) : Fl → Prop
  | .nx => D.nx σ' H'
  | .bk => D.bk σ' H'
  | .ct => D.ct σ' H'
  | .rt w => ∀ v, RV K ι' F' s1 σ' H' w v → (∀ j, w ≠ .b j) → Fresh st σ H w v → D.rt v H'
def TSv (K : PySem.W.Frag) (g : RunS) : TS := fun D σ H => ∃ ι F st fl s1, SR K ι F st σ H ∧ g st = some (fl, s1) ∧ ∀ ι' F' σ' H', Stp ι F st σ H ι' F' s1 σ' H' → SR K ι' F' s1 σ' H' → Go K D ι' F' s1 σ' H' st σ H fl
theorem PS.imp {X : Cx} {e : Stmt} {t t' : TS} (h : PS X e t) (i : ∀ D σ H, t' D σ H → t D σ H) : PS X e t' := ⟨fun pins s σ H D I q => h.run pins s σ H D I (i D σ H q)⟩
theorem PSs.imp {X : Cx} {e : List Stmt} {t t' : TS} (h : PSs X e t) (i : ∀ D σ H, t' D σ H → t D σ H) : PSs X e t' := ⟨fun pins s σ H D I q => h.run pins s σ H D I (i D σ H q)⟩
def notComp : Expr → Bool
  | .ListComp _ _ _ _ => false
  | .SetComp _ _ _ _ => false
  | .DictComp _ _ _ _ _ => false
  | _ => true
theorem swaps_of {e : Expr} {t : Option Expr} {l : Nat} {env : Env} (h : notComp e = true) : swapsWith e t l env = pure false := by
  cases e <;> first | rfl | cases h
section
variable {K : PySem.W.Frag} {ι : List Addr} {F : Addr → Prop} {st : S} {σ : L2.St} {H : Hp}
/-- a slot takes a value that is in hand -/
theorem put_val (R : SR K ι F st σ H) {i : Nat} {w : SV} {v : V} (r : RV K ι F st σ H w v) (nb : ∀ j, w ≠ .b j) : SR K ι F (st.set i w) (σ.set i (some v)) H := by
  cases w with
  | b j => exact absurd rfl (nb j)
  | d x => exact R.put (fun _ => r.1) (fun z => by cases z)
  | c n => exact R.put (fun _ => r.1) (fun z => by cases z)
  | l xs => exact R.put (fun _ => r.1) (fun z a e => ⟨(r.2 rfl a e).1, fun j _ => (r.2 rfl a e).2 j⟩)
  | m o kvs => exact R.put (fun _ => r.1) (fun z a e => ⟨(r.2 z a e).1, fun j _ => (r.2 z a e).2 j⟩)
theorem put_stp {st0 : S} {ι0 : List Addr} {F0 : Addr → Prop} {σ0 : L2.St} {H0 : Hp} (p : Stp ι0 F0 st0 σ0 H0 ι F st σ H) {i : Nat} {w : SV} {v : V} (f : Fresh st0 σ0 H0 w v) : Stp ι0 F0 st0 σ0 H0 ι F (st.set i w) (σ.set i (some v)) H := by
  refine ⟨p.fr, p.ix, p.fm, p.fn, fun j a h => ?_, p.tr⟩
  obtain ⟨u, h1, h2, h3⟩ := h
  rw [S.set_eq] at h1
  rcases S.at_put h1 with ⟨e, e'⟩ | ⟨e, e'⟩
  · subst e
    cases e'
    have hv : v = .ref a := by
      by_cases hl : j < σ.length
      · rw [List.getElem?_set_self hl] at h3
        cases h3; rfl
      · rw [List.getElem?_eq_none (by rw [List.length_set]; omega)] at h3
        cases h3
    exact f h2 a hv
  · rw [List.getElem?_set_ne (Ne.symm e)] at h3
    exact p.om j a ⟨u, e', h2, h3⟩
end
theorem slots_T {K : PySem.W.Frag} {ι : List Addr} {F : Addr → Prop} {st st0 s2 : S} {ι0 : List Addr} {F0 : Addr → Prop} {σ : L2.St} {H H0 : Hp} (p : Stp ι0 F0 st0 σ H0 ι F st σ H) (R : SR K ι F st σ H) {i : Nat} {w : SV} {v : V} (r : RV K ι F st σ H w v) (f : Fresh st0 σ H0 w v) (e : asgV (.nm i) w st = some s2) :
    ∃ F', Stp ι0 F0 st0 σ H0 ι F' s2 (σ.set i (some v)) H ∧ SR K ι F' s2 (σ.set i (some v)) H := by
  cases w with
  | b j =>
    obtain ⟨⟨w', s'⟩, e1, e2⟩ := mapSome e
    subst e2
    obtain ⟨F', p', R', r', f', n'⟩ := hand_ok p R r f e1
    exact ⟨F', put_stp p' f', put_val R' r' n'⟩
  | d x => cases e; exact ⟨F, put_stp p f, put_val R r fun _ z => by cases z⟩
  | c x => cases e; exact ⟨F, put_stp p f, put_val R r fun _ z => by cases z⟩
  | l x => cases e; exact ⟨F, put_stp p f, put_val R r fun _ z => by cases z⟩
  | m o x => cases e; exact ⟨F, put_stp p f, put_val R r fun _ z => by cases z⟩
section
variable {X : Cx} {N : List Str} {sc : Scope} {ow : Str → Bool} {a b c e : Expr} {es : List Expr} {fa fb f : RunE} {g : S → Option (List SV × S)} {pos : Pos}
/-- x = e, by what the value's reading asks -/
theorem asg_imp {te : TE} {i : Nat} (h : ∀ σ H Q, TEv X.K f σ H Q → te σ H Q) : ∀ D σ H, TSv X.K (sAsg (.nm i) f) D σ H → tAsg te (gName i) D σ H := fun D σ H q => by
  obtain ⟨ι, F, st, fl, s1, hS, e, hD⟩ := q
  obtain ⟨⟨w, t1⟩, e1, e⟩ := bindSome e
  obtain ⟨s2, e2, e⟩ := mapSome e
  cases e
  refine h σ H _ (TEv.one hS e1 fun ι1 F1 H1 v p1 R1 r1 f1 => ?_)
  obtain ⟨F', p', R'⟩ := slots_T p1 R1 r1 f1 e2
  exact hD ι1 F' _ _ p' R'
theorem s_set (cn : Cn X N sc ow) {i : Nat} {x : Str} {p : Pos} (h : stoOk N sc ow i x = true) (he : PE X e (TEv X.K f)) (hn : notComp e = true) : PS X (.Assign [.Name x p] e pos) (TSv X.K (sAsg (.nm i) f)) := by
  obtain ⟨h1, h2, h3, h4⟩ := cn.sto (p := p) h
  exact PS.imp (ps_set h1 h2 h3 he (swaps_of hn) h4) (asg_imp fun _ _ _ q => q)
/-- x = [..] -/
theorem s_setLc (cn : Cn X N sc ow) {i : Nat} {y : Str} {py : Pos} {elt tg iter : Expr} {ifs : List Expr} {scope : Scope} {ownp : List (Str × Nat)} {spos : Pos} {it : S → Option (List D × S)} {t : T} {cc : S → Option (Bool × S)} (hk : sc.kind = .function) (hy : N[i]? = some y) (hl : kindIs sc y .local = true) (hline : (py.line == pos.line) = true)
    (hno : (scope.names.any fun (n, k) => n == y && (k == .local || k == .cell)) = false) (hi : PI X tg iter (TIv (isTp t) X.K it))
    (ok : BlkOk X.N X.env.scope scope ownp) (hg : ∀ (s : Shared) (H : Hp) (C : Addr) (cl : List (Str × Addr)) (fp : List Addr), PG (X.blk s H scope (compEnvC scope cl C X.env) fp) tg (TGd X.K t))
    (ht : ∀ (s : Shared) (H : Hp) (C : Addr) (cl : List (Str × Addr)) (fp : List Addr), PTs (X.blk s H scope (compEnvC scope cl C X.env) fp) ifs (TTv X.K cc))
    (he : ∀ (s : Shared) (H : Hp) (C : Addr) (cl : List (Str × Addr)) (fp : List Addr), PE (X.blk s H scope (compEnvC scope cl C X.env) fp) elt (TEv X.K f)) (hn : notSet iter = true) (hsl : ∀ i ∈ slotsT t, i ∈ ownp.map (·.2)) :
    PS X (.Assign [.Name y py] (.ListComp elt [⟨tg, iter, ifs, 0⟩] scope pos) spos) (TSv X.K (sAsg (.nm i) (eComp it t cc f (ownp.map (·.2))))) := by
  have ly : X.env.scope.names.lookup y = some .local := by rw [cn.es]; exact kindIs_ok hl
  exact PS.imp (ps_setLc cn.calm (by rw [cn.nN]; exact cn.nd) (by rw [cn.nN]; exact hy) ly (sw_true (by rw [cn.es]; exact hk) ly hline hno) hi ok hg ht he (folded_of hn)) (asg_imp (comp_imp hsl))
theorem sole_of {t e : Expr} {l : Nat} {env : Env} (h : notComp e = true) : swapsWithSole [t] e l env = pure false := swaps_of h
theorem s_asgT (cn : Cn X N sc ow) {ts : List T} {tg : List Expr} {k : Nat} {p : Pos} (h : chkGs N sc ow ts tg = true) (he : PE X e (TEv X.K f)) (hn : notComp e = true) (hw : swappedStores [.Tuple tg k p] e X.env = pure none) :
    PS X (.Assign [.Tuple tg k p] e pos) (TSv X.K (sAsg (.tp ts) f)) := by
  have hg : chkG N sc ow (.tp ts) (.Tuple tg k p) = true := by unfold chkG; exact h
  refine PS.imp (ps_asg he (g_ok cn (.tp ts) _ hg) (sole_of hn) hw) fun D σ H q => ?_
  obtain ⟨ι, F, st, fl, s1, hS, e, hD⟩ := q
  obtain ⟨⟨w, t1⟩, e1, e⟩ := bindSome e
  obtain ⟨s2, e2, e⟩ := mapSome e
  cases e
  obtain ⟨x, e3, e4⟩ := bindSome e2
  refine TEv.one hS e1 fun ι1 F1 H1 v p1 R1 r1 f1 => ?_
  have d : DF X.K F1 H1 v x := by
    rcases view_ok R1 r1 e3 with d | ⟨_, _, _, _, ex, _⟩
    · exact d
    · subst ex; unfold asgT at e4; cases e4
  exact ⟨ι1, F1, t1, x, s1, R1, .inl d, e4, fun σ2 z => hD ι1 F1 σ2 H1 (p1.trans z.p) z.R⟩
theorem s_ex (he : PE X e (TEv X.K f)) (hn : notComp e = true) : PS X (.Expr e pos) (TSv X.K (sEx f)) := PS.imp (ps_expr he (swaps_of hn)) fun D σ H q => by
  obtain ⟨ι, F, st, fl, s1, hS, e, hD⟩ := q
  obtain ⟨⟨w, t1⟩, e1, e⟩ := mapSome e
  cases e
  exact TEv.one hS e1 fun ι1 F1 H1 v p1 R1 r1 f1 => hD ι1 F1 σ H1 p1 R1
theorem s_ret (he : PE X e (TEv X.K f)) : PS X (.Return (some e) pos) (TSv X.K (sRet f)) := PS.imp (ps_ret he) fun D σ H q => by
  obtain ⟨ι, F, st, fl, s1, hS, e, hD⟩ := q
  obtain ⟨⟨w, t1⟩, e1, e⟩ := bindSome e
  obtain ⟨⟨w', t2⟩, e2, e⟩ := mapSome e
  cases e
  refine TEv.one hS e1 fun ι1 F1 H1 v p1 R1 r1 f1 => ?_
  obtain ⟨F', p', R', r', f', n'⟩ := hand_ok p1 R1 r1 f1 e2
  exact hD ι1 F' σ H1 p' R' v r' n' f'
theorem s_retN : PS X (.Return none pos) (TSv X.K fun s => some (.rt (.d .none), s)) := PS.imp ps_retN fun D σ H q => by
  obtain ⟨ι, F, st, fl, s1, hS, e, hD⟩ := q
  cases e
  exact hD ι F σ H Stp.refl hS .non (RV.d .non) (fun _ z => by cases z) Fresh.d
theorem s_brk : PS X (.Break pos) (TSv X.K fun s => some (.bk, s)) := PS.imp ps_break fun D σ H q => by
  obtain ⟨ι, F, st, fl, s1, hS, e, hD⟩ := q
  cases e
  exact hD ι F σ H Stp.refl hS
theorem s_cont : PS X (.Continue pos) (TSv X.K fun s => some (.ct, s)) := PS.imp ps_continue fun D σ H q => by
  obtain ⟨ι, F, st, fl, s1, hS, e, hD⟩ := q
  cases e
  exact hD ι F σ H Stp.refl hS
theorem s_pass : PS X (.Pass pos) (TSv X.K fun s => some (.nx, s)) := PS.imp ps_pass fun D σ H q => by
  obtain ⟨ι, F, st, fl, s1, hS, e, hD⟩ := q
  cases e
  exact hD ι F σ H Stp.refl hS
/-- what a statement does behind another one -/
theorem Go.after {K : PySem.W.Frag} {ι ι1 : List Addr} {F F1 : Addr → Prop} {st s1 : S} {σ σ1 : L2.St} {H H1 : Hp} {fl : Fl} {s2 : S} {D : Ends} (p : Stp ι F st σ H ι1 F1 s1 σ1 H1)
    (hD : ∀ ι' F' σ' H', Stp ι F st σ H ι' F' s2 σ' H' → SR K ι' F' s2 σ' H' → Go K D ι' F' s2 σ' H' st σ H fl) : ∀ ι' F' σ' H', Stp ι1 F1 s1 σ1 H1 ι' F' s2 σ' H' → SR K ι' F' s2 σ' H' → Go K D ι' F' s2 σ' H' s1 σ1 H1 fl := fun ι' F' σ' H' p' R' => by
  have q := hD ι' F' σ' H' (p.trans p') R'
  cases fl with
  | nx => exact q
  | bk => exact q
  | ct => exact q
  | rt w => exact fun v r n f => q v r n (f.back p)
theorem s_if {A B : List Stmt} {ga gb : RunS} (hc : PT X c (TTv X.K (tests f))) (ha : PSs X A (TSv X.K ga)) (hb : PSs X B (TSv X.K gb)) : PS X (.If c A B pos) (TSv X.K (sIf f ga gb)) := PS.imp (ps_if hc ha hb) fun D σ H q => by
  obtain ⟨ι, F, st, fl, s1, hS, e, hD⟩ := q
  obtain ⟨⟨k, t1⟩, e1, e⟩ := bindSome e
  refine TTv.one hS e1 fun ι1 F1 H1 p1 R1 => ?_
  cases k with
  | true => exact ⟨ι1, F1, t1, fl, s1, R1, e, Go.after p1 hD⟩
  | false => exact ⟨ι1, F1, t1, fl, s1, R1, e, Go.after p1 hD⟩
theorem ss_nil : PSs X [] (TSv X.K fun s => some (.nx, s)) := PSs.imp pss_nil fun D σ H q => by
  obtain ⟨ι, F, st, fl, s1, hS, e, hD⟩ := q
  cases e
  exact hD ι F σ H Stp.refl hS
theorem ss_cons {A : Stmt} {B : List Stmt} {ga gb : RunS} (ha : PS X A (TSv X.K ga)) (hb : PSs X B (TSv X.K gb)) : PSs X (A :: B) (TSv X.K (sSeq ga gb)) := PSs.imp (pss_cons ha hb) fun D σ H q => by
  obtain ⟨ι, F, st, fl, s2, hS, e, hD⟩ := q
  obtain ⟨⟨f1, t1⟩, e1, e⟩ := bindSome e
  refine ⟨ι, F, st, f1, t1, hS, e1, fun ι1 F1 σ1 H1 p1 R1 => ?_⟩
  cases f1 with
  | nx => exact ⟨ι1, F1, t1, fl, s2, R1, e, Go.after p1 hD⟩
  | bk => cases e; exact hD ι1 F1 σ1 H1 p1 R1
  | ct => cases e; exact hD ι1 F1 σ1 H1 p1 R1
  | rt w => cases e; exact hD ι1 F1 σ1 H1 p1 R1
end
end DE
/-! DE: stores, loops. -/
namespace DE
open PySem PySem.Spec PyProof.Rows L2 RZ
section
variable {X : Cx} {N : List Str} {sc : Scope} {ow : Str → Bool} {a b c e : Expr} {es : List Expr} {fa fb f : RunE} {g : S → Option (List SV × S)} {pos : Pos}

/-! ### a new cell -/
theorem s_asgc (cn : Cn X N sc ow) {i : Nat} {x : Str} {p : Pos} (h : stoOk N sc ow i x = true) (he : PE X e (TEv X.K f)) (hn : notComp e = true) : PS X (.Assign [.Name x p] e pos) (TSv X.K (sAsgc i f)) := by
  obtain ⟨h1, h2, h3, h4⟩ := cn.sto (p := p) h
  refine PS.imp (ps_set h1 h2 h3 he (swaps_of hn) h4) fun D σ H q => ?_
  obtain ⟨ι, F, st, fl, s1, hS, e, hD⟩ := q
  obtain ⟨⟨w, t1⟩, e1, e⟩ := bindSome e
  dsimp only at e
  split at e
  · rename_i kvs
    cases e
    refine TEv.one hS e1 fun ι1 F1 H1 v p1 R1 r1 f1 => ?_
    obtain ⟨⟨d, ps, ev, k1, k2, k3, _⟩, k4⟩ := r1
    obtain ⟨k5, k6⟩ := k4 rfl d ev
    subst ev
    have hl : t1.h.length = ι1.length := R1.cl.symm
    -- the cells are one more
    have R2 : SR X.K (ι1 ++ [d]) F1 { t1 with h := t1.h ++ [kvs] } σ H1 := by
      refine ⟨fun j w e => ?_, R1.di, by simp [R1.cl], fun n q e => ?_, ?_, fun j a z w => ?_, fun a ha => ?_, R1.ft, R1.ln⟩
      · obtain ⟨v, g1, g2⟩ := R1.sl j w e
        refine ⟨v, g1, ?_⟩
        cases w with
        | c n =>
          obtain ⟨a, g3, g4⟩ := g2
          exact ⟨a, g3, by rw [List.getElem?_append_left (List.getElem?_eq_some_iff.mp g4).1]; exact g4⟩
        | d _ => exact g2
        | l _ => exact g2
        | m _ _ => exact g2
        | b _ => exact g2
      · have e' : (t1.h ++ [kvs])[n]? = some q := e
        by_cases hn : n < t1.h.length
        · rw [List.getElem?_append_left hn] at e'
          obtain ⟨a, qs, g1, g2, g3⟩ := R1.ce n q e'
          exact ⟨a, qs, by rw [List.getElem?_append_left (by rw [← hl]; exact hn)]; exact g1, g2, g3⟩
        · rw [List.getElem?_append_right (by omega)] at e'
          have hz : n - t1.h.length = 0 := by
            have := (List.getElem?_eq_some_iff.mp e').1
            simp at this
            omega
          rw [hz] at e'
          cases e'
          refine ⟨d, ps, ?_, k1, k2⟩
          rw [List.getElem?_append_right (by omega), show n - ι1.length = 0 by omega]
          rfl
      · rw [List.nodup_append]
        exact ⟨R1.cn, by simp, fun a ha b hb => by simp at hb; subst hb; exact fun z => k5 (z ▸ ha)⟩
      · rcases List.mem_append.mp w with w | w
        · exact R1.co j a z w
        · simp at w
          subst w
          exact k6 j z
      · rcases List.mem_append.mp ha with w | w
        · exact R1.cf a w
        · simp at w
          subst w
          exact k3 rfl
    have R3 := R2.put (i := i) (w := .c t1.h.length) (v := .ref d) (fun _ => ⟨d, rfl, by rw [hl, List.getElem?_append_right (Nat.le_refl _), Nat.sub_self]; rfl⟩) (fun z => by cases z)
    refine hD (ι1 ++ [d]) F1 _ H1 ⟨fun a o e hb ho => p1.fr a o e hb ho, ?_, p1.fm, p1.fn, fun j a z => ?_, p1.tr⟩ R3
    · obtain ⟨l, rfl, hl'⟩ := p1.ix
      refine ⟨l ++ [d], by rw [List.append_assoc], fun a ha => ?_⟩
      rcases List.mem_append.mp ha with w | w
      · exact hl' a w
      · simp at w
        subst w
        exact f1 rfl a rfl
    · obtain ⟨u, g1, g2, g3⟩ := z
      have g1' : (t1.set i (.c t1.h.length)).at j = some u := g1
      rw [S.set_eq] at g1'
      rcases S.at_put g1' with ⟨e, e'⟩ | ⟨e, e'⟩
      · cases e'; cases g2
      · rw [List.getElem?_set_ne (Ne.symm e)] at g3
        exact p1.om j a ⟨u, e', g2, g3⟩
  · cases e

/-! ### x[k] = e -/
theorem s_set_at (hu : X.A.units + 1 < cLine) {i : Nat} {x : Str} {p p' : Pos} {kk : Expr} {fk : RunE} (hx : PE X (.Name x p) (tVar i)) (hk : PE X kk (TEv X.K fk)) (he : PE X e (TEv X.K f)) (hn : notComp e = true) :
    PS X (.Assign [.Subscript (.Name x p) kk p'] e pos) (TSv X.K (sSet i fk f)) := by
  refine PS.imp (ps_dput hu hx hk he (swaps_of hn)) fun D σ H q => ?_
  obtain ⟨ι, F, st, fl, s1, hS, e, hD⟩ := q
  obtain ⟨⟨w, t1⟩, e1, e⟩ := bindSome e
  obtain ⟨⟨x', t2⟩, e2, e⟩ := bindSome e
  obtain ⟨u, e3, e⟩ := bindSome e
  obtain ⟨⟨y, t3⟩, e4, e⟩ := bindSome e
  obtain ⟨y', e5, e⟩ := bindSome e
  obtain ⟨t4, e6, e⟩ := mapSome e
  cases e
  refine TEv.one hS e1 fun ι1 F1 H1 v p1 R1 r1 f1 => ?_
  obtain ⟨F2, p2, R2, d2⟩ := fz_ok p1 R1 r1 f1 e2
  obtain ⟨v0, hv0, _⟩ := R2.sl i u e3
  refine ⟨v0, hv0, TEv.one R2 e4 fun ι3 F3 H3 v3 p3 R3 r3 f3 => ?_⟩
  have d3 := DF.mono p3.fm (p3.keep R2) _ _ d2
  have dy := view_ok R3 r3 e5
  have pp := p2.trans p3
  unfold setI at e6
  split at e6
  · rename_i kvs hi
    obtain ⟨k, e7, e8⟩ := bindSome e6
    split at e8
    · rename_i hlen
      cases e8
      obtain ⟨v1, hv1, r⟩ := R3.sl i _ hi
      rw [hv0] at hv1; cases hv1
      obtain ⟨d, ps, rfl, h1, h2, h3, _⟩ := r
      have ek := keyOf_ok e7 dy
      subst ek
      refine ⟨d, _, rfl, DPut.k h1 (by rw [h2.length]; exact hlen), ?_⟩
      have oa : OwnA t3 σ i d := ⟨_, hi, rfl, hv0⟩
      have hkp : Keep F3 H3 (upd H3 d (.dK (putK ps k v))) := keep_upd (h3 rfl) (by rw [h1]; trivial)
      obtain ⟨p4, R4⟩ := upd_own R3 oa (w' := .m true (put kvs k x')) (o := .dK (putK ps k v)) rfl ⟨d, _, rfl, upd_same, (h2.put k d3).mono (fun _ h => h) hkp, h3, fun z => by cases z⟩
      exact hD ι3 F3 σ _ (pp.trans p4) R4
    · cases e8
  · rename_i n hi
    obtain ⟨kvs, e7, e8⟩ := bindSome e6
    obtain ⟨k, e9, e10⟩ := bindSome e8
    split at e10
    · rename_i hlen
      cases e10
      obtain ⟨v1, hv1, r⟩ := R3.sl i _ hi
      rw [hv0] at hv1; cases hv1
      obtain ⟨d, rfl, hd⟩ := r
      obtain ⟨d', ps, h0, h1, h2⟩ := R3.ce n kvs e7
      rw [hd] at h0; cases h0
      have ek := keyOf_ok e9 dy
      subst ek
      refine ⟨d, _, rfl, DPut.k h1 (by rw [h2.length]; exact hlen), ?_⟩
      obtain ⟨p4, R4⟩ := upd_cell R3 hd (ps := putK ps k v) (kvs := put kvs k x') (h2.put k d3)
      exact hD ι3 F3 σ _ (pp.trans p4) R4
    · cases e10
  · cases e6

/-! ### append, extend -/
theorem isL_ok {st : S} {i : Nat} (h : isL st i = true) : ∃ xs, st.at i = some (.l xs) := by
  unfold isL at h
  split at h
  · rename_i xs e; exact ⟨xs, e⟩
  · cases h
theorem s_app {i : Nat} {x : Str} {p apos cpos : Pos} (hx : PE X (.Name x p) (tVar i)) (he : PE X e (TEv X.K f)) (ne : notStar e = true) (hl : (apos.endLine == cpos.line) = true) :
    PS X (.Expr (.Call (.Attribute (.Name x p) "append" apos) [e] [] cpos) pos) (TSv X.K (sApp i f)) := by
  refine PS.imp (ps_expr (pe_bm PySem.F.plainAttrs_list PySem.F.slot_list_append PySem.F.type_list_append mt_append hx (pa_cons he pa_nil (star_cons ne)) rfl (by rw [star_cons ne]; rfl) hl (star_cons ne) rfl) rfl) fun D σ H q => ?_
  obtain ⟨ι, F, st, fl, s1, hS, e, hD⟩ := q
  unfold sApp at e
  split at e
  · rename_i hL
    obtain ⟨⟨w, t1⟩, e1, e⟩ := bindSome e
    obtain ⟨⟨x', t2⟩, e2, e⟩ := bindSome e
    obtain ⟨xs0, hi0⟩ := isL_ok hL
    obtain ⟨v0, hv0, r0⟩ := hS.sl i _ hi0
    obtain ⟨d0, vs0, rfl, h0, _, _⟩ := r0
    refine ⟨_, hv0, .inl ⟨rfl, vs0, .inl (.inl h0)⟩, TEv.one hS e1 fun ι1 F1 H1 v p1 R1 r1 f1 => ?_⟩
    obtain ⟨F2, p2, R2, d2⟩ := fz_ok p1 R1 r1 f1 e2
    dsimp only at e
    split at e
    · rename_i xs hi
      split at e
      · rename_i hlen
        cases e
        obtain ⟨v1, hv1, r⟩ := R2.sl i _ hi
        rw [hv0] at hv1; cases hv1
        obtain ⟨d, vs, ev, h1, h2, h3⟩ := r
        cases ev
        have oa : OwnA t2 σ i d0 := ⟨_, hi, rfl, hv0⟩
        refine ⟨d0, vs, v, rfl, rfl, h1, by rw [h2.length]; exact hlen, ?_⟩
        have hk : Keep F2 H1 (upd H1 d0 (.lst (vs ++ [v]))) := keep_upd h3 (by rw [h1]; trivial)
        obtain ⟨p4, R4⟩ := upd_own R2 oa (w' := .l (xs ++ [x'])) (o := .lst (vs ++ [v])) rfl ⟨d0, _, rfl, upd_same, DFs.mono (fun _ h => h) hk _ _ (h2.append (.cons d2 .nil)), h3⟩
        exact hD ι1 F2 σ _ (p2.trans p4) R4
      · cases e
    · cases e
  · cases e
/-- list.extend by a list that stands -/
def rExtR : V → List V → Hp → VK → Prop := fun x vs H Q => ∃ l b xs zs, x = .ref l ∧ vs = [.ref b] ∧ H l = some (.lst xs) ∧ Rd H b (.lst zs) ∧ xs.length + zs.length ≤ sizeLine ∧ Q .non (upd H l (.lst (xs ++ zs)))
theorem mt_extR : MtR X "list.extend" rExtR := fun pins s σ H x xs v us Q I rx rv h => by
  obtain ⟨l, b, ys, zs, ex, exs, h1, h2, hz, q⟩ := h
  subst ex exs
  cases rx
  obtain ⟨u, eu, ru⟩ := vals1 rv
  subst eu
  cases ru
  obtain ⟨_, i1, n1, v1, g1⟩ := I.hok l _ h1
  obtain ⟨_, i2, n2, v2, g2⟩ := h2.ok I.hok
  have k1 := v1.length
  have k2 := v2.length
  have sz : i1.toArray.size + i2.toArray.size ≤ sizeLine := by simp only [List.size_toArray]; omega
  have big : ¬ (!i1.toArray.isEmpty && Builtin.List.listTooLong (i1.toArray.size + i2.toArray.size)) = true := by
    rw [notLongL sz, Bool.and_false]
    decide
  refine call_meets F.slot_list_extend ⟨_, g1, rfl⟩ F.entry_list_extend (F.args_list_extend_2 _ _) (AutoSeq1.list_extend_list_list_0 l i1.toArray n1 b i2.toArray n2 big (by simp only [List.size_toArray]; omega) (by omega)) ⟨g1, g2, ?_⟩
  exact ⟨.non, _, I.lset (its' := i1 ++ i2) h1 g1 (by simp) (v1.append v2) (by rw [List.length_append]; omega), rfl, q⟩
theorem s_ext {i : Nat} {x : Str} {p apos cpos : Pos} (hx : PE X (.Name x p) (tVar i)) (he : PE X e (TEv X.K f)) (ne : notStar e = true) (hl : (apos.endLine == cpos.line) = true) :
    PS X (.Expr (.Call (.Attribute (.Name x p) "extend" apos) [e] [] cpos) pos) (TSv X.K (sExt i f)) := by
  refine PS.imp (ps_expr (pe_bm PySem.F.plainAttrs_list PySem.F.slot_list_extend PySem.F.type_list_extend mt_extR hx (pa_cons he pa_nil (star_cons ne)) rfl (by rw [star_cons ne]; rfl) hl (star_cons ne) rfl) rfl) fun D σ H q => ?_
  obtain ⟨ι, F, st, fl, s1, hS, e, hD⟩ := q
  unfold sExt at e
  split at e
  · rename_i hL
    obtain ⟨⟨w, t1⟩, e1, e⟩ := bindSome e
    obtain ⟨x', e2, e⟩ := bindSome e
    obtain ⟨xs0, hi0⟩ := isL_ok hL
    obtain ⟨v0, hv0, r0⟩ := hS.sl i _ hi0
    obtain ⟨d0, vs0, rfl, h0, _, _⟩ := r0
    refine ⟨_, hv0, .inl ⟨rfl, vs0, .inl (.inl h0)⟩, TEv.one hS e1 fun ι1 F1 H1 v p1 R1 r1 f1 => ?_⟩
    have dx := view_ok R1 r1 e2
    split at e
    · rename_i xs hi
      obtain ⟨ys, e3, e⟩ := mapSome e
      cases e
      obtain ⟨v1, hv1, r⟩ := R1.sl i _ hi
      rw [hv0] at hv1; cases hv1
      obtain ⟨d, vs, ev, h1, h2, h3⟩ := r
      cases ev
      have oa : OwnA t1 σ i d0 := ⟨_, hi, rfl, hv0⟩
      unfold extL at e3
      split at e3
      · split at e3
        · rename_i hlen
          cases e3
          obtain ⟨b, us, rfl, h4, h5⟩ := dx.list
          refine ⟨d0, b, vs, us, rfl, rfl, h1, h4, by rw [h2.length, h5.length]; exact hlen, ?_⟩
          have hk : Keep F1 H1 (upd H1 d0 (.lst (vs ++ us))) := keep_upd h3 (by rw [h1]; trivial)
          obtain ⟨p4, R4⟩ := upd_own R1 oa (w' := .l (xs ++ _)) (o := .lst (vs ++ us)) rfl ⟨d0, _, rfl, upd_same, DFs.mono (fun _ h => h) hk _ _ (h2.append h5), h3⟩
          exact hD ι1 F1 σ _ (p1.trans p4) R4
        · cases e3
      · cases e3
    · cases e
  · cases e

/-! ### a, b = x, y -/
theorem asgL_ok {K : PySem.W.Frag} {ι ι0 : List Addr} {F F0 : Addr → Prop} {st0 : S} {σ0 : L2.St} {H H0 : Hp} : ∀ {is : List Nat} {ws : List SV} {vs : List V} {st s2 : S} {σ : L2.St}, Stp ι0 F0 st0 σ0 H0 ι F st σ H → SR K ι F st σ H →
    (∀ (k : Nat) w, ws[k]? = some w → ∃ v, vs[k]? = some v ∧ RV K ι F st σ H w v ∧ Fresh st0 σ0 H0 w v ∧ ∀ j, w ≠ .b j) →
    (∀ (k k' : Nat) w w' v, ws[k]? = some w → ws[k']? = some w' → isOwn w = true → isOwn w' = true → vs[k]? = some v → vs[k']? = some v → k = k') → ws.length = vs.length →
    asgL is ws st = some s2 → is.length = ws.length ∧ ∃ σ2, σ2 = (is.zip vs).foldl (fun σ q => σ.set q.1 (some q.2)) σ ∧ Stp ι0 F0 st0 σ0 H0 ι F s2 σ2 H ∧ SR K ι F s2 σ2 H
  | [], [], vs, st, s2, σ, p, R, _, _, hl, e => by
    cases e
    exact ⟨rfl, _, by rw [List.zip_nil_left]; rfl, p, R⟩
  | i :: is, w :: ws, [], st, s2, σ, p, R, _, _, hl, e => by cases hl
  | i :: is, w :: ws, v :: vs, st, s2, σ, p, R, hv, ap, hl, e => by
    have e' : asgL is ws (st.set i w) = some s2 := e
    obtain ⟨v0, e0, r0, f0, n0⟩ := hv 0 w rfl
    cases e0
    have R1 := put_val (i := i) R r0 n0
    have p1 := put_stp (i := i) p f0
    have still : ∀ (u : SV) (y : V) (k : Nat), ws[k]? = some u → vs[k]? = some y → RV K ι F st σ H u y → (∀ j, u ≠ .b j) → RV K ι F (st.set i w) (σ.set i (some v)) H u y := fun u y k ek ey r1 n1 => by
      have key : isOwn u = true → ∀ a, y = .ref a → (∀ j, ¬ OwnA st σ j a) → ∀ j, ¬ OwnA (st.set i w) (σ.set i (some v)) j a := fun o a ea no j z => by
        obtain ⟨u', g1, g2, g3⟩ := z
        rw [S.set_eq] at g1
        rcases S.at_put g1 with ⟨q1, q2⟩ | ⟨q1, q2⟩
        · subst q1
          cases q2
          have hlt : j < σ.length := by rw [← R.ln]; exact (S.at_put_self g1).2
          rw [List.getElem?_set_self hlt] at g3
          cases g3
          have := ap 0 (k + 1) w u (.ref a) rfl (by simpa using ek) g2 o rfl (by rw [← ea]; simpa using ey)
          omega
        · rw [List.getElem?_set_ne (Ne.symm q1)] at g3
          exact no j ⟨u', q2, g2, g3⟩
      cases u with
      | b j => exact absurd rfl (n1 j)
      | d x => exact ⟨r1.1, fun z => by cases z⟩
      | c n => exact ⟨r1.1, fun z => by cases z⟩
      | l xs => exact ⟨r1.1, fun o a ea => ⟨(r1.2 o a ea).1, key o a ea (r1.2 o a ea).2⟩⟩
      | m ow kvs => exact ⟨r1.1, fun o a ea => ⟨(r1.2 o a ea).1, key o a ea (r1.2 o a ea).2⟩⟩
    have hv1 : ∀ (k : Nat) u, ws[k]? = some u → ∃ y, vs[k]? = some y ∧ RV K ι F (st.set i w) (σ.set i (some v)) H u y ∧ Fresh st0 σ0 H0 u y ∧ ∀ j, u ≠ .b j := fun k u ek => by
      obtain ⟨y, e1, r1, f1, n1⟩ := hv (k + 1) u (by simpa using ek)
      exact ⟨y, by simpa using e1, still u y k ek (by simpa using e1) r1 n1, f1, n1⟩
    have ap1 : ∀ (k k' : Nat) u u' y, ws[k]? = some u → ws[k']? = some u' → isOwn u = true → isOwn u' = true → vs[k]? = some y → vs[k']? = some y → k = k' := fun k k' u u' y h1 h2 h3 h4 h5 h6 => by
      have := ap (k + 1) (k' + 1) u u' y (by simpa using h1) (by simpa using h2) h3 h4 (by simpa using h5) (by simpa using h6)
      omega
    obtain ⟨h1, σ2, h2, h3, h4⟩ := asgL_ok (is := is) (ws := ws) (vs := vs) p1 R1 hv1 ap1 (by simpa using hl) e'
    exact ⟨by simp [h1], σ2, h2, h3, h4⟩
  | [], _ :: _, _, _, _, _, _, _, _, _, _, e => by cases e
  | _ :: _, [], _, _, _, _, _, _, _, _, _, e => by cases e
end
end DE
/-! DE: several names at once; loops. -/
namespace DE
open PySem PySem.Spec PyProof.Rows L2 RZ
section
variable {X : Cx} {N : List Str} {sc : Scope} {ow : Str → Bool} {a b c e : Expr} {es : List Expr} {fa fb f : RunE} {g : S → Option (List SV × S)} {pos : Pos}
def setAll (σ : L2.St) (is : List Nat) (vs : List V) : L2.St := (is.zip vs).foldl (fun σ q => σ.set q.1 (some q.2)) σ
def gNames (is : List Nat) : TGs := fun vs σ H Q => is.length = vs.length ∧ Q (setAll σ is vs) H
def chkNs (N : List Str) (sc : Scope) (ow : Str → Bool) : List Nat → List Expr → Bool
  | [], [] => true
  | i :: is, e :: es => (match e with
    | .Name x _ => stoOk N sc ow i x
    | _ => false) && chkNs N sc ow is es
  | _, _ => false
theorem gNames_ok (cn : Cn X N sc ow) : ∀ (is : List Nat) (es : List Expr), chkNs N sc ow is es = true → PGs X es (gNames is) ∧ (assignEach es X.env).length = es.length ∧ (assignEach es X.env).findIdx? (·.1) = none ∧ is.length = es.length
  | [], [], _ => by
    refine ⟨PGs.imp pgs_nil fun v σ H Q q => ?_, rfl, rfl, rfl⟩
    obtain ⟨h1, h2⟩ := q
    cases v with
    | nil => exact ⟨rfl, h2⟩
    | cons _ _ => cases h1
  | [], _ :: _, h => by cases h
  | _ :: _, [], h => by cases h
  | i :: is, e :: es, h => by
    unfold chkNs at h
    rw [Bool.and_eq_true] at h
    obtain ⟨h1, h2⟩ := h
    obtain ⟨g1, g2, g3, g4⟩ := gNames_ok cn is es h2
    split at h1
    · rename_i x p
      obtain ⟨k1, k2, k3, k4⟩ := cn.sto (p := p) h1
      refine ⟨PGs.imp (pgs_cons (pg_name k1 k2 k3 k4) g1 rfl) fun v σ H Q q => ?_, ?_, ?_, by simp [g4]⟩
      · obtain ⟨q1, q2⟩ := q
        cases v with
        | nil => cases q1
        | cons v vs => exact ⟨v, vs, rfl, by simpa using q1, q2⟩
      · rw [assign_cons rfl]
        simp [g2]
      · rw [assign_cons rfl, List.findIdx?_cons]
        simp [g3]
    · cases h1
/-- the values at their names -/
theorem mas_end {K : PySem.W.Frag} {ι ι' : List Addr} {F F' : Addr → Prop} {st s1 s2 : S} {σ : L2.St} {H H' : Hp} {is : List Nat} {ws : List SV} {vs : List V} {D : Ends} (p : Stp ι F st σ H ι' F' s1 σ H') (R : SR K ι' F' s1 σ H') (hv : HVs K ι' F' s1 σ H' st H ws vs) (e : asgL is ws s1 = some s2)
    (hD : ∀ ι' F' σ' H', Stp ι F st σ H ι' F' s2 σ' H' → SR K ι' F' s2 σ' H' → Go K D ι' F' s2 σ' H' st σ H .nx) : is.length = vs.length ∧ D.nx (setAll σ is vs) H' := by
  obtain ⟨h1, σ2, h2, h3, h4⟩ := asgL_ok (is := is) (ws := ws) (vs := vs) p R (fun k w ek => hv.at ek) (fun k k' w w' v e1 e2 o1 o2 g1 g2 => hv.apart e1 e2 o1 o2 g1 g2) hv.length e
  subst h2
  exact ⟨h1.trans hv.length, hD ι' F' _ H' h3 h4⟩
theorem HVs.new {K : PySem.W.Frag} {ι : List Addr} {F : Addr → Prop} {st st0 : S} {σ : L2.St} {H H0 : Hp} (R : SR K ι F st σ H) {p : Addr} {o : HO} (hp : H p = none) : ∀ {ws : List SV} {vs : List V}, HVs K ι F st σ H st0 H0 ws vs → HVs K ι F st σ (upd H p o) st0 H0 ws vs
  | _, _, .nil => .nil
  | _, _, .cons r f n ap t => .cons (r.step R (Stp.new hp)) f n ap (t.new R hp)
theorem s_masA (cn : Cn X N sc ow) {is : List Nat} {tg vs : List Expr} {k k2 : Nat} {p p2 : Pos} (h : chkNs N sc ow is tg = true) (hv : PA X vs (THs X.K g)) (hl : ∀ s ws s', g s = some (ws, s') → ws.length ≤ sizeLine) (hw : swappedStores [.Tuple tg k p] (.Tuple vs k2 p2) X.env = pure none) :
    PS X (.Assign [.Tuple tg k p] (.Tuple vs k2 p2) pos) (TSv X.K (sMas is g)) := by
  obtain ⟨g1, g2, g3, g4⟩ := gNames_ok cn is tg h
  refine PS.imp (ps_asg (pe_tup hv) (pg_tup cn.calm g1 g2 g3) rfl hw) fun D σ H q => ?_
  obtain ⟨ι, F, st, fl, s1, hS, e, hD⟩ := q
  obtain ⟨⟨ws, t1⟩, e1, e⟩ := bindSome e
  obtain ⟨s2, e2, e⟩ := mapSome e
  cases e
  refine ⟨ι, F, st, ws, t1, hS, e1, fun ι1 F1 H1 us p1 R1 hs => ⟨by rw [← hs.length]; exact hl _ _ _ e1, fun q hq => ?_⟩⟩
  obtain ⟨m1, m2⟩ := mas_end (p1.trans (Stp.new (o := .tup us) hq)) (R1.new hq) (hs.new R1 hq) e2 hD
  exact ⟨q, us, rfl, SqT.of upd_same, by rw [← m1]; exact g4, m1, m2⟩
theorem s_mas2 (cn : Cn X N sc ow) {i j : Nat} {x y : Str} {px py pt pt2 : Pos} {kt k2 : Nat} (hij : i ≠ j) (hi : N[i]? = some x) (hj : N[j]? = some y) (lx : kindIs sc x .local = true) (ly : kindIs sc y .local = true) (hv : PA X [a, b] (THs X.K g))
    (hw : swappedStores [.Tuple [.Name x px, .Name y py] kt pt] (.Tuple [a, b] k2 pt2) X.env = pure (some [x, y])) : PS X (.Assign [.Tuple [.Name x px, .Name y py] kt pt] (.Tuple [a, b] k2 pt2) pos) (TSv X.K (sMas [i, j] g)) := by
  refine PS.imp (ps_par cn.calm (by rw [cn.nN]; exact cn.nd) (by rw [cn.nN]; exact hi) (by rw [cn.nN]; exact hj) hij (by rw [cn.es]; exact kindIs_ok lx) (by rw [cn.es]; exact kindIs_ok ly) hv hw rfl) fun D σ H q => ?_
  obtain ⟨ι, F, st, fl, s1, hS, e, hD⟩ := q
  obtain ⟨⟨ws, t1⟩, e1, e⟩ := bindSome e
  obtain ⟨s2, e2, e⟩ := mapSome e
  cases e
  refine ⟨ι, F, st, ws, t1, hS, e1, fun ι1 F1 H1 us p1 R1 hs => ?_⟩
  obtain ⟨m1, m2⟩ := mas_end p1 R1 hs e2 hD
  match us, m1, m2 with
  | [v, w], _, m2 => exact ⟨v, w, rfl, m2⟩
theorem s_mas3 (cn : Cn X N sc ow) {i j l : Nat} {x y z : Str} {px py pz pt pt2 : Pos} {kt k2 : Nat} (hij : i ≠ j) (hil : i ≠ l) (hjl : j ≠ l) (hi : N[i]? = some x) (hj : N[j]? = some y) (hl : N[l]? = some z) (lx : kindIs sc x .local = true) (ly : kindIs sc y .local = true) (lz : kindIs sc z .local = true) (hv : PA X [a, b, c] (THs X.K g))
    (hw : swappedStores [.Tuple [.Name x px, .Name y py, .Name z pz] kt pt] (.Tuple [a, b, c] k2 pt2) X.env = pure (some [x, y, z])) : PS X (.Assign [.Tuple [.Name x px, .Name y py, .Name z pz] kt pt] (.Tuple [a, b, c] k2 pt2) pos) (TSv X.K (sMas [i, j, l] g)) := by
  refine PS.imp (ps_par3 cn.calm (by rw [cn.nN]; exact cn.nd) (by rw [cn.nN]; exact hi) (by rw [cn.nN]; exact hj) (by rw [cn.nN]; exact hl) hij hil hjl (by rw [cn.es]; exact kindIs_ok lx) (by rw [cn.es]; exact kindIs_ok ly) (by rw [cn.es]; exact kindIs_ok lz) hv hw rfl) fun D σ H q => ?_
  obtain ⟨ι, F, st, fl, s1, hS, e, hD⟩ := q
  obtain ⟨⟨ws, t1⟩, e1, e⟩ := bindSome e
  obtain ⟨s2, e2, e⟩ := mapSome e
  cases e
  refine ⟨ι, F, st, ws, t1, hS, e1, fun ι1 F1 H1 us p1 R1 hs => ?_⟩
  obtain ⟨m1, m2⟩ := mas_end p1 R1 hs e2 hD
  match us, m1, m2 with
  | [u, v, w], _, m2 => exact ⟨u, v, w, rfl, m2⟩

/-! ### loops -/
theorem forL_cons {turn : D → S → Option (Fl × S)} {x : D} {xs : List D} {s : S} : forL turn (x :: xs) s = (turn x s).bind fun (f, s') => match f with
    | .nx => forL turn xs s'
    | .ct => forL turn xs s'
    | .bk => some (.nx, s')
    | .rt w => some (.rt w, s') := rfl
theorem s_for {tg iter : Expr} {body : List Stmt} {it : S → Option (List D × S)} {t : T} {gb : RunS} (hp : PassesOwn (model X.prog X.w) X.A X.env X.xe) (hc : X.calm = true) (hi : PI X tg iter (TIv (isTp t) X.K it)) (hg : PG X tg (TGd X.K t)) (hb : PSs X body (TSv X.K gb)) (hn : notSet iter = true) :
    PS X (.For tg iter body [] pos) (TSv X.K (sFor it t gb)) := by
  refine PS.imp (ps_for hp hc hi hg hb (folded_of hn)) fun D σ H0 q => ?_
  obtain ⟨ι, F, st, fl, sf, hS, e, hD⟩ := q
  obtain ⟨⟨xs, s1⟩, e1, e⟩ := bindSome e
  refine ⟨ι, F, st, xs, s1, hS, e1, fun ι1 F1 H1 J G p1 R1 sty wk => ?_⟩
  refine for_it wk (fun i σ' H' => ∃ ι2 F2 st2, SR X.K ι2 F2 st2 σ' H' ∧ Stp ι1 F1 s1 σ H1 ι2 F2 st2 σ' H' ∧ forL (fun x st => (asgT t x st).bind gb) (xs.drop i) st2 = some (fl, sf)) ?_ ?_ ?_ ?_
  · exact ⟨ι1, F1, s1, R1, Stp.refl, e⟩
  · rintro i σ' H' hle ⟨ι2, F2, st2, R2, p2, _⟩
    exact sty H' (p2.keep R1)
  · rintro i x σ' H' H2 hlt ⟨ι2, F2, st2, R2, p2, ef⟩ ⟨hH, d, hd, hdf⟩
    have dx : DI (isTp t) X.K F2 H2 x d := hdf F2 p2.fm (p2.keep R1)
    have st0 : SR X.K ι2 F2 st2 σ' H2 ∧ Stp ι2 F2 st2 σ' H' ι2 F2 st2 σ' H2 := by
      rcases hH with e | ⟨p, o, hp, e⟩
      · subst e; exact ⟨R2, Stp.refl⟩
      · subst e; exact ⟨R2.new hp, Stp.new hp⟩
    obtain ⟨R2', p0⟩ := st0
    have hdrop : xs.drop i = d :: xs.drop (i + 1) := by
      have hl : i < xs.length := hlt
      rw [List.drop_eq_getElem_cons hl]
      rw [List.getElem?_eq_getElem hl] at hd
      rw [Option.some.inj hd]
    rw [hdrop, forL_cons] at ef
    obtain ⟨⟨f1, s3⟩, et, ef⟩ := bindSome ef
    obtain ⟨a2, ea, et⟩ := bindSome et
    refine ⟨ι2, F2, st2, d, a2, R2', dx, ea, fun σ2 z => ⟨ι2, F2, a2, f1, s3, z.R, et, fun ι3 F3 σ3 H3 p3 R3 => ?_⟩⟩
    have q3 := (p2.trans (p0.trans z.p)).trans p3
    cases f1 with
    | nx => exact ⟨ι3, F3, s3, R3, q3, ef⟩
    | ct => exact ⟨ι3, F3, s3, R3, q3, ef⟩
    | bk =>
      cases ef
      exact hD ι3 F3 σ3 H3 (p1.trans q3) R3
    | rt w =>
      cases ef
      intro v r n f
      exact hD ι3 F3 σ3 H3 (p1.trans q3) R3 v r n (f.back (p1.trans (p2.trans (p0.trans z.p))))
  · rintro σ' H' ⟨ι2, F2, st2, R2, p2, ef⟩
    rw [List.drop_length] at ef
    cases ef
    exact hD ι2 F2 σ' H' (p1.trans p2) R2
theorem s_while {body : List Stmt} {gc : RunE} {gb : RunS} (W : Nat) (hp : PassesOwn (model X.prog X.w) X.A X.env X.xe) (hc : PT X c (TTv X.K (tests gc))) (hb : PSs X body (TSv X.K gb)) : PS X (.While c body [] pos) (TSv X.K (whileL (tests gc) gb W)) := by
  refine PS.imp (ps_while hp hc hb) fun D σ H q => ?_
  obtain ⟨ι, F, st, fl, sf, hS, e, hD⟩ := q
  refine ⟨fun m σ' H' => ∃ ι2 F2 st2, SR X.K ι2 F2 st2 σ' H' ∧ Stp ι F st σ H ι2 F2 st2 σ' H' ∧ whileL (tests gc) gb m st2 = some (fl, sf), ⟨W, ι, F, st, hS, Stp.refl, e⟩, ?_⟩
  rintro m σ' H' ⟨ι2, F2, st2, R2, p2, ew⟩
  cases m with
  | zero => cases ew
  | succ m =>
    have ew' : ((tests gc) st2).bind (fun (b, s1) => if b = true then (gb s1).bind fun (f, s2) => match f with
      | .nx => whileL (tests gc) gb m s2
      | .ct => whileL (tests gc) gb m s2
      | .bk => some (.nx, s2)
      | .rt w => some (.rt w, s2)
      else some (.nx, s1)) = some (fl, sf) := ew
    obtain ⟨⟨k, s3⟩, e1, ew'⟩ := bindSome ew'
    refine TTv.one R2 e1 fun ι3 F3 H3 p3 R3 => ?_
    cases k with
    | false =>
      cases ew'
      exact hD ι3 F3 σ' H3 (p2.trans p3) R3
    | true =>
      obtain ⟨⟨f1, s4⟩, e2, ew'⟩ := bindSome (show (gb s3).bind _ = some (fl, sf) from ew')
      refine (if_pos rfl).mpr ⟨fun σ4 H4 => ∃ ι4 F4 st4, SR X.K ι4 F4 st4 σ4 H4 ∧ Stp ι F st σ H ι4 F4 st4 σ4 H4 ∧ whileL (tests gc) gb m st4 = some (fl, sf), fun σ4 H4 z => ⟨m, Nat.lt_succ_self m, z⟩, ι3, F3, s3, f1, s4, R3, e2, fun ι4 F4 σ4 H4 p4 R4 => ?_⟩
      have q4 := (p2.trans p3).trans p4
      cases f1 with
      | nx => exact ⟨ι4, F4, s4, R4, q4, ew'⟩
      | ct => exact ⟨ι4, F4, s4, R4, q4, ew'⟩
      | bk =>
        cases ew'
        exact hD ι4 F4 σ4 H4 q4 R4
      | rt w =>
        cases ew'
        intro v r n f
        exact hD ι4 F4 σ4 H4 q4 R4 v r n (f.back (p2.trans p3))
end
end DE
/-! DE: calls. -/
namespace DE
open PySem PySem.Spec PyProof.Rows L2 RZ

/-! ### a def that keeps a promise where no guard is up -/
structure FnG (P : Program) (w : World) (K : PySem.W.Frag) (mg : Str → Option Value) (base : Heap) (k : Nat) (f : Addr) (fd : FuncData) (ps : List Str) (sp : List V → Hp → VK → Prop) : Prop where
  run : ∀ (A : Around) (outer : List Env) (s : Shared) (H : Hp) (args : Args) (us : List Value) (vs : List V) (Q : VK), Room k A → A.guards = some [] → Env0 P w K mg base A outer s H → BindsTo s fd args (ps.zip us) → Vals vs us → vs.length = ps.length → sp vs H Q →
    codeAny (model P w) A (.call (.ref f) args) (fun r s' => match r with
      | .ok (.ret u) => CE outer P w H s Q u s'
      | _ => False) s
theorem fnG_of {P : Program} {w : World} {K : PySem.W.Frag} {mg : Str → Option Value} {base : Heap} {k : Nat} {f : Addr} {name qual : Str} {params : Arguments} {body : List Stmt} {scope : Scope} {dV kV doc pm cdv ct oc : Value} {an od : Option Addr}
    {osl : Array (Option Value)} {N ps : List Str} {sp : List V → Hp → VK → Prop} (at_ : K.lookup f = some ⟨oc, od, .func (PySem.W.fnOf name qual params body scope dV kV doc pm an cdv ct), osl⟩) (code : PySem.W.codeIn K cdv qual = true) (Sc : FnScope N ps scope)
    (bodyOk : ∀ (A : Around) (outer : List Env) (s : Shared) (H : Hp) (vs : List V) (Q : VK), Room k (A.deeper (envOfC qual scope s.heap.objs.size f cdv)) → A.guards = some [] → vs.length = ps.length → sp vs H Q →
      ∃ t, PSs (cxOf CX0 P w K mg base N qual scope f cdv A outer s H E0).nox body t ∧ t { nx := fun _ H' => Q .non H', rt := Q } (start N vs) H) :
    FnG P w K mg base (k + 1) f (PySem.W.fnOf name qual params body scope dV kV doc pm an cdv ct) ps sp := by
  refine ⟨fun A outer s H args us vs Q room grd env bnd rel hlen want => ?_⟩
  have inK : K.In s.heap := env.mod.kin.keeps fun b o e => (env.bs b o e).1
  have noLim : s.heap.NoLimit := env.mod.nolimit.keeps fun b o e => (env.bs b o e).1
  have kinds : ∀ y ∈ ps.zip us, scope.names.lookup y.1 = some .local ∨ (scope.names.lookup y.1 = some .cell ∧ ((cellsFrom (s.heap.objs.size + 1) scope.names []).lookup y.1).isSome = true) := by
    rintro ⟨n, v⟩ hy
    cases Sc.par n (List.of_mem_zip hy).1 with
    | inl q => exact .inl q
    | inr q => exact .inr ⟨q, PySem.W.cellsFrom_some _ _ _ (.inl q)⟩
  refine codeAny_call_function room.depth (inK _ _ at_) rfl Sc.co Sc.gen rfl (PySem.W.codeRec_of inK code) (bnd _ _ _ _ ?_)
  refine wpAny_newFunctionEnv_cells Sc.kind kinds fun en hen s1 x => ?_
  subst hen
  refine ⟨noLim.keeps x.toInCall.keep, codeAny_func ?_⟩
  obtain ⟨t, wk, ht⟩ := bodyOk A outer s H vs Q (room.deeper _) grd hlen want
  have I : Inv (cxOf CX0 P w K mg base N qual scope f cdv A outer s H E0) [] (start N vs) H s1 := inv_start Sc room.hd env hlen rel x
  refine wpAny_mono (wk.nox.run [] s1 (start N vs) H _ I ht) (fun fl s' hs => ?_) fun e s' hs => ?_
  · have fin : ∀ {σ' : L2.St} {H' : Hp} {v : V} {u : Value}, Inv (cxOf CX0 P w K mg base N qual scope f cdv A outer s H E0) [] σ' H' s' → RelV v u → Q v H' → CE outer P w H s Q u s' := fun {σ' H' v u} J rv q =>
      ⟨v, H', J.os, J.bare, J.base, J.hok, rv, q⟩
    cases fl with
    | ret u =>
      obtain ⟨v, σ', H', J, rv, q⟩ := hs
      exact fin J rv q
    | next =>
      obtain ⟨σ', H', J, q⟩ := hs
      exact fin (v := V.non) (u := Value.none) J rfl q
    | brk => exact (show False from by obtain ⟨_, _, _, q⟩ := hs; exact q).elim
    | cont => exact (show False from by obtain ⟨_, _, _, q⟩ := hs; exact q).elim
  · refine wpAny_mono (show wpAny _ _ _ _ _ _ from hs) (fun _ _ z => ?_) fun _ _ z => ?_
    · exact (show False from z).elim
    · exact (show False from z).elim

/-! ### how the arguments are laid -/
def arrA {α : Type} : List (Sum Nat D) → List α → List α → List α
  | [], _, _ => []
  | .inl j :: r, g, ds => match g[j]? with
    | some x => x :: arrA r g ds
    | none => arrA r g ds
  | .inr _ :: r, g, d :: ds => d :: arrA r g ds
  | .inr _ :: r, g, [] => arrA r g []
/-- the defaults' values, in the module's written part -/
def DFlt (K : PySem.W.Frag) : List (Sum Nat D) → List V → Prop
  | [], [] => True
  | .inl _ :: r, ds => DFlt K r ds
  | .inr x :: r, d :: ds => (∀ F H, DF K F H d x) ∧ DFlt K r ds
  | _, _ => False
theorem arr_vals {arr : List (Sum Nat D)} {vs : List V} {us : List Value} {dv : List V} {ds : List Value} (r : Vals vs us) (rd : Vals dv ds) : Vals (arrA arr vs dv) (arrA arr us ds) := by
  induction arr generalizing dv ds with
  | nil => exact .nil
  | cons a arr ih =>
    cases a with
    | inl j =>
      unfold arrA
      cases e : vs[j]? with
      | none => rw [r.none_of e]; exact ih rd
      | some v =>
        obtain ⟨u, e2, r2⟩ := r.get e
        rw [e2]
        exact .cons r2 (ih rd)
    | inr x =>
      cases rd with
      | nil => unfold arrA; exact ih .nil
      | cons h t => unfold arrA; exact .cons h (ih t)
def inls : List (Sum Nat D) → List Nat
  | [] => []
  | .inl j :: r => j :: inls r
  | .inr _ :: r => inls r
section
variable {K : PySem.W.Frag} {ι : List Addr} {F : Addr → Prop} {st st0 : S} {σ : L2.St} {H H0 : Hp}
/-- where an argument comes from -/
theorem arr_at {ws : List SV} {vs : List V} (hv : HVs K ι F st σ H st0 H0 ws vs) : ∀ {arr : List (Sum Nat D)} {dv : List V} {bs : List SV}, DFlt K arr dv → arrange ws arr = some bs → (arrA arr vs dv).length = bs.length ∧ bs.length = arr.length ∧
    ∀ (k : Nat) w, bs[k]? = some w → ∃ v, (arrA arr vs dv)[k]? = some v ∧ ((∃ j, arr[k]? = some (.inl j) ∧ ws[j]? = some w ∧ vs[j]? = some v) ∨ ∃ x, w = .d x ∧ DF K F H v x)
  | [], [], bs, _, e => by
    cases e
    exact ⟨rfl, rfl, fun k w h => by simp at h⟩
  | [], _ :: _, _, h, _ => h.elim
  | .inl j :: arr, dv, bs, hd, e => by
    obtain ⟨w, e1, e2⟩ := bindSome (show (ws[j]?).bind _ = some bs from e)
    obtain ⟨cs, e3, e4⟩ := mapSome e2
    subst e4
    obtain ⟨v, h1, h2⟩ := hv.at e1
    obtain ⟨l1, l2, h⟩ := arr_at hv (arr := arr) (dv := dv) hd e3
    have ea : arrA (.inl j :: arr) vs dv = v :: arrA arr vs dv := by
      simp only [arrA, h1]
    rw [ea]
    refine ⟨by simp [l1], by simp [l2], fun k u hk => ?_⟩
    cases k with
    | zero =>
      simp at hk
      subst hk
      exact ⟨v, rfl, .inl ⟨j, rfl, e1, h1⟩⟩
    | succ k =>
      obtain ⟨y, g1, g2⟩ := h k u (by simpa using hk)
      exact ⟨y, by simpa using g1, by simpa using g2⟩
  | .inr x :: arr, d :: dv, bs, hd, e => by
    obtain ⟨cs, e3, e4⟩ := mapSome (show (arrange ws arr).map _ = some bs from e)
    subst e4
    obtain ⟨l1, l2, h⟩ := arr_at hv (arr := arr) (dv := dv) hd.2 e3
    refine ⟨by simp [arrA, l1], by simp [l2], fun k u hk => ?_⟩
    cases k with
    | zero =>
      simp at hk
      subst hk
      exact ⟨d, rfl, .inr ⟨x, rfl, hd.1 F H⟩⟩
    | succ k =>
      obtain ⟨y, g1, g2⟩ := h k u (by simpa using hk)
      exact ⟨y, by simpa [arrA] using g1, by simpa using g2⟩
  | .inr _ :: _, [], _, h, _ => h.elim
theorem inls_apart : ∀ {arr : List (Sum Nat D)} {k k' j : Nat}, (inls arr).Nodup → arr[k]? = some (.inl j) → arr[k']? = some (.inl j) → k = k'
  | [], _, _, _, _, e, _ => by simp at e
  | a :: arr, 0, 0, _, _, _, _ => rfl
  | .inl i :: arr, 0, k' + 1, j, h, e1, e2 => by
    simp at e1
    subst e1
    exact absurd (mem_inls (by simpa using e2)) (List.nodup_cons.mp h).1
  | .inr x :: arr, 0, k' + 1, j, h, e1, e2 => by simp at e1
  | .inl i :: arr, k + 1, 0, j, h, e1, e2 => by
    simp at e2
    subst e2
    exact absurd (mem_inls (by simpa using e1)) (List.nodup_cons.mp h).1
  | .inr x :: arr, k + 1, 0, j, h, e1, e2 => by simp at e2
  | .inl i :: arr, k + 1, k' + 1, j, h, e1, e2 => by
    exact congrArg Nat.succ (inls_apart (j := j) (List.nodup_cons.mp h).2 (by simpa using e1) (by simpa using e2))
  | .inr x :: arr, k + 1, k' + 1, j, h, e1, e2 => by
    exact congrArg Nat.succ (inls_apart (arr := arr) (j := j) h (by simpa using e1) (by simpa using e2))
where
  mem_inls : ∀ {arr : List (Sum Nat D)} {k j : Nat}, arr[k]? = some (.inl j) → j ∈ inls arr
    | [], _, _, e => by simp at e
    | .inl i :: arr, 0, j, e => by simp at e; subst e; exact List.mem_cons_self ..
    | .inr x :: arr, 0, j, e => by simp at e
    | .inl i :: arr, k + 1, j, e => List.mem_cons_of_mem _ (mem_inls (by simpa using e))
    | .inr x :: arr, k + 1, j, e => mem_inls (arr := arr) (by simpa using e)

/-- the state at a def's entry -/
def entry (n : Nat) (bs : List SV) (h : List Cell) : S := ⟨bs.map some ++ List.replicate (n - bs.length) none, h⟩
def entryS (n : Nat) (vs : List V) : L2.St := vs.map some ++ List.replicate (n - vs.length) none
theorem entry_at {n : Nat} {bs : List SV} {h : List Cell} {i : Nat} {w : SV} (e : (entry n bs h).at i = some w) : bs[i]? = some w := by
  unfold S.at entry at e
  simp only at e
  by_cases hi : i < bs.length
  · rw [List.getElem?_append_left (by simpa using hi), List.getElem?_map, List.getElem?_eq_getElem hi] at e
    rw [List.getElem?_eq_getElem hi]
    exact e
  · rw [List.getElem?_append_right (by simp; omega), List.getElem?_replicate] at e
    split at e <;> cases e
theorem entryS_at {n : Nat} {vs : List V} {i : Nat} {v : V} (e : vs[i]? = some v) : (entryS n vs)[i]? = some (some v) := by
  unfold entryS
  have hi := (List.getElem?_eq_some_iff.mp e).1
  rw [List.getElem?_append_left (by simpa using hi), List.getElem?_map, e]
  rfl
/-- an own argument is one of those in hand -/
theorem entry_own {ws : List SV} {vs : List V} (hv : HVs K ι F st σ H st0 H0 ws vs) {arr : List (Sum Nat D)} {dv : List V} {bs : List SV} (hd : DFlt K arr dv) (e : arrange ws arr = some bs) {n i : Nat} {h : List Cell} {a : Addr}
    (o : OwnA (entry n bs h) (entryS n (arrA arr vs dv)) i a) : ∃ j w, arr[i]? = some (.inl j) ∧ bs[i]? = some w ∧ ws[j]? = some w ∧ vs[j]? = some (.ref a) ∧ isOwn w = true := by
  obtain ⟨w, h1, h2, h3⟩ := o
  have hb := entry_at h1
  obtain ⟨l1, l2, ha⟩ := arr_at hv hd e
  obtain ⟨v, h4, h5⟩ := ha i w hb
  rw [entryS_at h4] at h3
  cases h3
  rcases h5 with ⟨j, h6, h7, h8⟩ | ⟨x, h6, _⟩
  · exact ⟨j, w, h6, hb, h7, h8, h2⟩
  · subst h6; cases h2
theorem entry_SR (R : SR K ι F st σ H) {ws : List SV} {vs : List V} (hv : HVs K ι F st σ H st0 H0 ws vs) {arr : List (Sum Nat D)} (nd : (inls arr).Nodup) {dv : List V} {bs : List SV} (hd : DFlt K arr dv) (e : arrange ws arr = some bs) (n : Nat) (hn : bs.length ≤ n) :
    SR K ι F (entry n bs st.h) (entryS n (arrA arr vs dv)) H := by
  obtain ⟨l1, l2, ha⟩ := arr_at hv hd e
  have inHand : ∀ {j : Nat} {w : SV} {a : Addr}, ws[j]? = some w → vs[j]? = some (.ref a) → isOwn w = true → a ∉ ι := fun {j w a} e1 e2 o => by
    obtain ⟨v, g1, g2, _⟩ := hv.at e1
    rw [e2] at g1; cases g1
    cases w with
    | l xs => exact (g2.2 rfl a rfl).1
    | m ow kvs => exact (g2.2 o a rfl).1
    | d _ => cases o
    | c _ => cases o
    | b _ => cases o
  refine ⟨fun i w h => ?_, fun i j a h1 h2 => ?_, R.cl, R.ce, R.cn, fun i a h => ?_, R.cf, R.ft, ?_⟩
  · have hb := entry_at h
    obtain ⟨v, h4, h5⟩ := ha i w hb
    refine ⟨v, entryS_at h4, ?_⟩
    rcases h5 with ⟨j, _, h7, h8⟩ | ⟨x, h6, h7⟩
    · obtain ⟨v', g1, g2, _, g4⟩ := hv.at h7
      rw [h8] at g1; cases g1
      cases w with
      | b j => exact absurd rfl (g4 j)
      | d _ => exact g2.1
      | c _ => exact g2.1
      | l _ => exact g2.1
      | m _ _ => exact g2.1
    · subst h6; exact h7
  · obtain ⟨k1, w1, a1, b1, c1, d1, o1⟩ := entry_own hv hd e h1
    obtain ⟨k2, w2, a2, b2, c2, d2, o2⟩ := entry_own hv hd e h2
    have := hv.apart c1 c2 o1 o2 d1 d2
    subst this
    exact inls_apart nd a1 a2
  · obtain ⟨k1, w1, a1, b1, c1, d1, o1⟩ := entry_own hv hd e h
    exact inHand c1 d1 o1
  · unfold entry entryS
    simp [l1]

/-! ### back from a call -/
theorem back_call {ι' : List Addr} {F' : Addr → Prop} {s' : S} {σ' : L2.St} {H' : Hp} {ι0 : List Addr} {F0 : Addr → Prop} (p0 : Stp ι0 F0 st0 σ H0 ι F st σ H) (R : SR K ι F st σ H) {ws : List SV} {vs : List V} (hv : HVs K ι F st σ H st0 H0 ws vs) {arr : List (Sum Nat D)}
    {dv : List V} {bs : List SV} (hd : DFlt K arr dv) (e : arrange ws arr = some bs) {n : Nat} (Rc : SR K ι F (entry n bs st.h) (entryS n (arrA arr vs dv)) H) (pc : Stp ι F (entry n bs st.h) (entryS n (arrA arr vs dv)) H ι' F' s' σ' H') (R' : SR K ι' F' s' σ' H')
    {w : SV} {v : V} (r : RV K ι' F' s' σ' H' w v) (nb : ∀ j, w ≠ .b j) (fr : Fresh (entry n bs st.h) (entryS n (arrA arr vs dv)) H w v) :
    Stp ι0 F0 st0 σ H0 ι' F' { st with h := s'.h } σ H' ∧ SR K ι' F' { st with h := s'.h } σ H' ∧ RV K ι' F' { st with h := s'.h } σ H' w v ∧ Fresh st0 σ H0 w v := by
  have hk := pc.keep Rc
  -- what the callee has alone was in hand
  have hand : ∀ {i : Nat} {a : Addr}, OwnA (entry n bs st.h) (entryS n (arrA arr vs dv)) i a → (H0 a = none ∨ ∃ j, OwnA st0 σ j a) ∧ (∀ j, ¬ OwnA st σ j a) := fun {i a} h => by
    obtain ⟨k1, w1, a1, b1, c1, d1, o1⟩ := entry_own hv hd e h
    obtain ⟨y, g1, g2, g3, _⟩ := hv.at c1
    rw [d1] at g1; cases g1
    refine ⟨g3 o1 a rfl, ?_⟩
    cases w1 with
    | l xs => exact (g2.2 rfl a rfl).2
    | m ow kvs => exact (g2.2 o1 a rfl).2
    | d _ => cases o1
    | c _ => cases o1
    | b _ => cases o1
  -- what a slot of the caller has alone
  have mine : ∀ {i : Nat} {a : Addr}, OwnA st σ i a → (∀ o, H a = some o → H' a = some o) ∧ ¬ F' a ∧ a ∉ ι' := fun {i a} h => by
    obtain ⟨⟨us, hh⟩, hf⟩ := own_mut R h
    have hn : H a ≠ none := by
      rcases hh with z | ⟨_, z⟩
      · rw [z]; simp
      · rw [z]; simp
    have hi := R.co i a h
    refine ⟨fun o eo => pc.fr a o eo hi fun j z => (hand z).2 i h, fun z => ?_, fun z => ?_⟩
    · rcases pc.fn a z with z | z | ⟨j, z⟩
      · exact hf z
      · exact hn z
      · exact (hand z).2 i h
    · obtain ⟨l, rfl, hl⟩ := pc.ix
      rcases List.mem_append.mp z with z | z
      · exact hi z
      · rcases hl a z with z | ⟨j, z⟩
        · exact hn z
        · exact (hand z).2 i h
  refine ⟨⟨fun a o eo hb ho => ?_, ?_, fun a h => pc.fm a (p0.fm a h), fun a h => ?_, fun i a h => p0.om i a h, fun a h => p0.tr a (pc.tr a h)⟩, ⟨fun i u eu => ?_, R.di, R'.cl, R'.ce, R'.cn, fun i a h => (mine (i := i) h).2.2, R'.cf, R'.ft, R.ln⟩, ?_, ?_⟩
  · refine pc.fr a o (p0.fr a o eo hb ho) (fun z => ?_) fun i z => ?_
    · obtain ⟨l, rfl, hl⟩ := p0.ix
      rcases List.mem_append.mp z with z | z
      · exact hb z
      · rcases hl a z with z | ⟨j, z⟩
        · rw [z] at eo; cases eo
        · exact ho j z
    · rcases (hand z).1 with z | ⟨j, z⟩
      · rw [z] at eo; cases eo
      · exact ho j z
  · obtain ⟨l, rfl, hl⟩ := p0.ix
    obtain ⟨l', rfl, hl'⟩ := pc.ix
    refine ⟨l ++ l', by rw [List.append_assoc], fun a z => ?_⟩
    rcases List.mem_append.mp z with z | z
    · exact hl a z
    · rcases hl' a z with z | ⟨i, z⟩
      · exact .inl (p0.tr a z)
      · exact (hand z).1
  · rcases pc.fn a h with h | h | ⟨i, h⟩
    · exact p0.fn a h
    · exact .inr (.inl (p0.tr a h))
    · exact .inr (hand h).1
  · obtain ⟨y, h1, h2⟩ := R.sl i u eu
    refine ⟨y, h1, ?_⟩
    cases u with
    | d x => exact DF.mono pc.fm hk _ _ h2
    | l xs =>
      obtain ⟨a, us, ea, g1, g2, g3⟩ := h2
      subst ea
      obtain ⟨m1, m2, _⟩ := mine (i := i) ⟨_, eu, rfl, h1⟩
      exact ⟨a, us, rfl, m1 _ g1, DFs.mono pc.fm hk _ _ g2, m2⟩
    | m o kvs =>
      obtain ⟨a, us, ea, g1, g2, g3, g4⟩ := h2
      subst ea
      cases o with
      | true =>
        obtain ⟨m1, m2, _⟩ := mine (i := i) ⟨_, eu, rfl, h1⟩
        exact ⟨a, us, rfl, m1 _ g1, g2.mono pc.fm hk, fun _ => m2, fun z => by cases z⟩
      | false => exact ⟨a, us, rfl, hk a _ g1 (.inl (g4 rfl)), g2.mono pc.fm hk, fun z => (by cases z), fun _ => pc.fm a (g4 rfl)⟩
    | c m =>
      obtain ⟨a, ea, g1⟩ := h2
      obtain ⟨l, rfl, _⟩ := pc.ix
      exact ⟨a, ea, by rw [List.getElem?_append_left (List.getElem?_eq_some_iff.mp g1).1]; exact g1⟩
    | b m => exact h2
  · have no : ∀ a, isOwn w = true → v = .ref a → ∀ i, ¬ OwnA { st with h := s'.h } σ i a := fun a o ev i z => by
      have z' : OwnA st σ i a := z
      rcases fr o a ev with q | ⟨j, q⟩
      · obtain ⟨⟨us, hh⟩, _⟩ := own_mut R z'
        rcases hh with hh | ⟨_, hh⟩
        · rw [q] at hh; cases hh
        · rw [q] at hh; cases hh
      · exact (hand q).2 i z'
    cases w with
    | b j => exact absurd rfl (nb j)
    | d x => exact ⟨r.1, fun z => by cases z⟩
    | c x => exact ⟨r.1, fun z => by cases z⟩
    | l x => exact ⟨r.1, fun o a ea => ⟨(r.2 o a ea).1, no a o ea⟩⟩
    | m q x => exact ⟨r.1, fun o a ea => ⟨(r.2 o a ea).1, no a o ea⟩⟩
  · exact fun o a ea => by
      rcases fr o a ea with q | ⟨j, q⟩
      · exact .inl (p0.tr a q)
      · exact (hand q).1
end
end DE
/-! DE: the call of a def; a def by its body. -/
namespace DE
open PySem PySem.Spec PyProof.Rows L2 RZ
section
variable {K : PySem.W.Frag} {ι ι1 ι2 : List Addr} {F F1 F2 : Addr → Prop} {st0 s1 s2 : S} {σ : L2.St} {H0 H1 H2 : Hp}
theorem HVs.app (R1 : SR K ι1 F1 s1 σ H1) (p1 : Stp ι F st0 σ H0 ι1 F1 s1 σ H1) (p2 : Stp ι1 F1 s1 σ H1 ι2 F2 s2 σ H2) {us : List SV} {zs : List V} (h2 : HVs K ι2 F2 s2 σ H2 s1 H1 us zs) : ∀ {ws : List SV} {vs : List V}, HVs K ι1 F1 s1 σ H1 st0 H0 ws vs → HVs K ι2 F2 s2 σ H2 st0 H0 (ws ++ us) (vs ++ zs)
  | _, _, .nil => h2.back p1
  | _, _, .cons (ws := ws) (vs := vs) r f n ap t => by
    refine .cons (r.step R1 p2) f n (fun o k w' ew o' => ?_) (HVs.app R1 p1 p2 h2 t)
    replace ew : (ws ++ us)[k]? = some w' := ew
    show (vs ++ zs)[k]? ≠ some _
    have hl := t.length
    by_cases hk : k < ws.length
    · rw [List.getElem?_append_left hk] at ew
      rw [List.getElem?_append_left (by omega)]
      exact ap o k w' ew o'
    · rw [List.getElem?_append_right (by omega)] at ew
      rw [List.getElem?_append_right (by omega), ← hl]
      exact h2.unlike r o _ w' ew o'
end
/-- what the i-th def's run promises -/
def spF (K : PySem.W.Frag) (pr : Prog) (W k i n : Nat) : List V → Hp → VK → Prop := fun vs H Q => ∃ ι F bs h w h', bs.length = vs.length ∧ SR K ι F (entry n bs h) (entryS n vs) H ∧ pr.run W k i bs h = some (w, h') ∧
  ∀ ι' F' s' σ' H' v, s'.h = h' → Stp ι F (entry n bs h) (entryS n vs) H ι' F' s' σ' H' → SR K ι' F' s' σ' H' → RV K ι' F' s' σ' H' w v → (∀ j, w ≠ .b j) → Fresh (entry n bs h) (entryS n vs) H w v → Q v H'
/-- a way to call stands as it is told -/
def PatOk (P : Program) (w : World) (K : PySem.W.Frag) (mg : Str → Option Value) (base : Heap) (pr : Prog) (W k q : Nat) (x : Str) (np : Nat) (ks : List Str) : Prop :=
  ∃ (t : Pat) (fn : Fn) (f : Addr) (fd : FuncData) (ps : List Str) (dv : List V) (ds : List Value), pr.pats[q]? = some t ∧ pr.fns[t.f]? = some fn ∧ mg x = some (.ref f) ∧ PySem.W.keepIn K (.ref f) = true ∧ Vals dv ds ∧ DFlt K t.arr dv ∧ (inls t.arr).Nodup ∧
    t.arr.length = ps.length ∧ t.arr.length ≤ fn.n ∧ (∀ (s : Shared) (us ws : List Value), K.In s.heap → us.length = np → ws.length = ks.length → BindsTo s fd ⟨us, ks.zip ws⟩ (ps.zip (arrA t.arr (us ++ ws) ds))) ∧
    FnG P w K mg base k f fd ps (spF K pr W k t.f fn.n)
section
variable {X : Cx} {pr : Prog} {W k q np : Nat} {x : Str} {ks : List Str}
/-- the call itself -/
theorem call_run {f : Addr} (hP : PatOk X.prog X.w X.K X.mg X.base pr W k q x np ks) (room : Room k X.A) (grd : X.A.guards = some []) {pins : List (Addr × Obj)} {s : Shared} {σ : L2.St} {H H0 : Hp} {ι ι0 : List Addr} {F F0 : Addr → Prop} {st st0 : S} {ws : List SV} {vs : List V} {us kv : List Value} {w : SV} {h' : List Cell} {Q : VK}
    (hf : X.mg x = some (.ref f)) (I : Inv X pins σ H s) (p0 : Stp ι0 F0 st0 σ H0 ι F st σ H) (R : SR X.K ι F st σ H) (hv : HVs X.K ι F st σ H st0 H0 ws vs) (rel : Vals vs (us ++ kv)) (lu : us.length = np) (lk : kv.length = ks.length) (e : pr.calls W k q ws st.h = some (w, h'))
    (hQ : ∀ ι' F' H' v, Stp ι0 F0 st0 σ H0 ι' F' { st with h := h' } σ H' → SR X.K ι' F' { st with h := h' } σ H' → RV X.K ι' F' { st with h := h' } σ H' w v → Fresh st0 σ H0 w v → Q v H') :
    wpAny (model X.prog X.w) X.A (call (.ref f) us (ks.zip kv)) (EP X pins σ Q) X.xe s := by
  obtain ⟨t, fn, f', fd, ps, dv, ds, h1, h2, h3, h4, h5, h6, h7, h8, h9, h10, G⟩ := hP
  rw [hf] at h3
  cases h3
  obtain ⟨t', e1, e⟩ := bindSome e
  rw [h1] at e1
  cases e1
  obtain ⟨bs, e2, e3⟩ := bindSome e
  obtain ⟨l1, l2, _⟩ := arr_at hv h6 e2
  have Rc := entry_SR R hv h7 h6 e2 fn.n (by omega)
  refine wpAny_call (codeAny_mono (G.run X.A X.stack s H ⟨us, ks.zip kv⟩ (arrA t.arr (us ++ kv) ds) (arrA t.arr vs dv) Q room grd I.env0 (h10 s us kv I.kIn lu lk) (arr_vals rel h5) (by omega) ?_) fun r s' hr => ?_)
  · refine ⟨ι, F, bs, st.h, w, h', l1.symm, Rc, e3, fun ι' F' s2 σ' H' v eh pc R' r nb fr => ?_⟩
    subst eh
    obtain ⟨q1, q2, q3, q4⟩ := back_call p0 R hv h6 e2 Rc pc R' r nb fr
    exact hQ ι' F' H' v q1 q2 q3 q4
  · cases r with
    | error e => exact (show False from hr).elim
    | ok fl =>
      cases fl with
      | ret u => exact I.after hr
      | next => exact (show False from hr).elim
      | brk => exact (show False from hr).elim
      | cont => exact (show False from hr).elim

/-! ### keywords -/
theorem PK.imp {e : List Keyword} {t t' : TA} (h : PK X e t) (i : ∀ σ H Q, t' σ H Q → t σ H Q) : PK X e t' := ⟨fun pos pins s σ H Q I q => h.run pos pins s σ H Q I (i σ H Q q)⟩
theorem r_kNil : PK X [] (THs X.K hNil) := PK.imp pk_nil fun σ H Q q => by
  obtain ⟨ι, F, st, ws, s1, hS, e, hQ⟩ := q
  cases e
  exact hQ ι F H [] Stp.refl hS .nil
theorem r_kCons {nm : Option Str} {kpos : Pos} {e : Expr} {es : List Keyword} {f : RunE} {g : S → Option (List SV × S)} (he : PE X e (TEv X.K f)) (hs : PK X es (THs X.K g)) : PK X (⟨nm, e, kpos⟩ :: es) (THs X.K (hCons f g)) := PK.imp (pk_cons he hs) fun σ H Q q => by
  obtain ⟨ι, F, st, w, s1, hS, e, hQ⟩ := q
  obtain ⟨⟨u, t1⟩, e1, e⟩ := bindSome e
  obtain ⟨⟨x, t2⟩, e2, e⟩ := bindSome e
  obtain ⟨⟨xs, t3⟩, e3, e⟩ := mapSome e
  cases e
  refine ⟨ι, F, st, u, t1, hS, e1, fun ι1 F1 H1 v p1 R1 r1 f1 => ?_⟩
  obtain ⟨F2, p2, R2, r2, f2, n2⟩ := hand_ok p1 R1 r1 f1 e2
  refine ⟨ι1, F2, t2, xs, s1, R2, e3, fun ι3 F3 H3 vs p3 R3 d3 => ?_⟩
  exact hQ ι3 F3 H3 (v :: vs) (p2.trans p3) R3 (.cons (r2.step R2 p3) f2 n2 (fun o k w' ew o' => d3.unlike r2 o k w' ew o') (d3.back p2))

/-! ### f(..) -/
theorem r_call0 {p pos : Pos} {f : Addr} (hP : PatOk X.prog X.w X.K X.mg X.base pr W k q x 0 []) (room : Room k X.A) (grd : X.A.guards = some []) (hg : Gl X x) (hf : X.mg x = some (.ref f)) (kp : PySem.W.keepIn X.K (.ref f) = true) (hdb : (x == ("__debug__" : Str)) = false) :
    PE X (.Call (.Name x p) [] [] pos) (TEv X.K (eCall (pr.calls W k) q hNil hNil)) := ⟨fun pins s σ H Q I qq => by
  obtain ⟨ι, F, st, w, s1, hS, e, hQ⟩ := qq
  obtain ⟨⟨w', h'⟩, e1, e⟩ := mapSome e
  cases e
  refine wpAny_Call_Name_kw (ld_glob I hg hf ?_ hdb)
  refine PySem.W.callWith_K0 I.kIn kp ?_
  exact call_run (us := []) (kv := []) hP room grd hf I Stp.refl hS .nil .nil rfl rfl e1 fun ι' F' H' v p R r f => hQ ι' F' H' v p R r f⟩
theorem r_call {p pos : Pos} {f : Addr} {a : Expr} {es : List Expr} {g : S → Option (List SV × S)} (hP : PatOk X.prog X.w X.K X.mg X.base pr W k q x (es.length + 1) []) (room : Room k X.A) (grd : X.A.guards = some []) (hg : Gl X x) (hf : X.mg x = some (.ref f)) (kp : PySem.W.keepIn X.K (.ref f) = true) (hdb : (x == ("__debug__" : Str)) = false)
    (ha : PA X (a :: es) (THs X.K g)) (na : notStar a = true) (hl : ∀ s ws s', g s = some (ws, s') → ws.length = es.length + 1) (hpl : (backTo pos (starEach es X.env)).any (·.1) = false) :
    PE X (.Call (.Name x p) (a :: es) [] pos) (TEv X.K (eCall (pr.calls W k) q g hNil)) := ⟨fun pins s σ H Q I qq => by
  obtain ⟨ι, F, st, w, s1, hS, e, hQ⟩ := qq
  obtain ⟨⟨ws, t1⟩, e1, e⟩ := bindSome e
  obtain ⟨⟨w', h'⟩, e2, e⟩ := mapSome (show ((pr.calls W k) q (ws ++ []) t1.h).map _ = some (w, s1) from e)
  cases e
  rw [List.append_nil] at e2
  refine wpAny_Call_Name_kw (ld_glob I hg hf ?_ hdb)
  refine PySem.W.callWith_K (h₀ := X.base) I.ok.mod.kin kp (thn (ha.run pos pins s σ H (fun vs H1 => ∃ ι1 F1, Stp ι F st σ H ι1 F1 t1 σ H1 ∧ SR X.K ι1 F1 t1 σ H1 ∧ HVs X.K ι1 F1 t1 σ H1 st H ws vs) I ⟨ι, F, st, ws, t1, hS, e1, fun ι1 F1 H1 vs p1 R1 hv => ⟨ι1, F1, p1, R1, hv⟩⟩) fun us s2 z => ?_) (star_cons na) hpl
  obtain ⟨vs, H1, I1, r, ι1, F1, p1, R1, hv⟩ := z
  refine ⟨I1.kIn, ?_⟩
  have lv : us.length = es.length + 1 := by rw [← r.length, ← hv.length]; exact hl _ _ _ e1
  exact call_run (us := us) (kv := []) hP room grd hf I1 p1 R1 hv (by rw [List.append_nil]; exact r) lv rfl e2 fun ι' F' H' v p R r f => hQ ι' F' H' v p R r f⟩
theorem r_callK {p pos : Pos} {f : Addr} {a : Expr} {es : List Expr} {kws : List Keyword} {g g' : S → Option (List SV × S)} (hP : PatOk X.prog X.w X.K X.mg X.base pr W k q x (es.length + 1) ks) (room : Room k X.A) (grd : X.A.guards = some []) (hg : Gl X x) (hf : X.mg x = some (.ref f)) (kp : PySem.W.keepIn X.K (.ref f) = true) (hdb : (x == ("__debug__" : Str)) = false)
    (ha : PA X (a :: es) (THs X.K g)) (hk : PK X kws (THs X.K g')) (na : notStar a = true) (hl : ∀ s ws s', g s = some (ws, s') → ws.length = es.length + 1) (hl' : ∀ s ws s', g' s = some (ws, s') → ws.length = ks.length)
    (hall : (backToKw pos (keywordEach kws X.env)).all (·.1.isSome) = true) (hks : (backToKw pos (keywordEach kws X.env)).filterMap (·.1) = ks) (hpl : ((backTo pos (starEach (a :: es) X.env)).any (·.1) || (backToKw pos (keywordEach kws X.env)).any (·.1.isNone)) = false) :
    PE X (.Call (.Name x p) (a :: es) kws pos) (TEv X.K (eCall (pr.calls W k) q g g')) := ⟨fun pins s σ H Q I qq => by
  obtain ⟨ι, F, st, w, s1, hS, e, hQ⟩ := qq
  obtain ⟨⟨ws, t1⟩, e1, e⟩ := bindSome e
  obtain ⟨⟨us', t2⟩, e2, e⟩ := bindSome e
  obtain ⟨⟨w', h'⟩, e3, e⟩ := mapSome e
  cases e
  refine wpAny_Call_Name_kw (ld_glob I hg hf ?_ hdb)
  refine PySem.W.callWith_KW (h₀ := X.base) I.ok.mod.kin kp hall (thn (ha.run pos pins s σ H (fun vs H1 => ∃ ι1 F1, Stp ι F st σ H ι1 F1 t1 σ H1 ∧ SR X.K ι1 F1 t1 σ H1 ∧ HVs X.K ι1 F1 t1 σ H1 st H ws vs) I ⟨ι, F, st, ws, t1, hS, e1, fun ι1 F1 H1 vs p1 R1 hv => ⟨ι1, F1, p1, R1, hv⟩⟩) fun us s2 z => ?_) hpl (star_cons na)
  obtain ⟨vs, H1, I1, r, ι1, F1, p1, R1, hv⟩ := z
  refine thn (hk.run pos pins s2 σ H1 (fun zs H2 => ∃ ι2 F2, Stp ι1 F1 t1 σ H1 ι2 F2 t2 σ H2 ∧ SR X.K ι2 F2 t2 σ H2 ∧ HVs X.K ι2 F2 t2 σ H2 t1 H1 us' zs) I1 ⟨ι1, F1, t1, us', t2, R1, e2, fun ι2 F2 H2 zs p2 R2 hz => ⟨ι2, F2, p2, R2, hz⟩⟩) fun kv s3 z => ?_
  obtain ⟨zs, H2, I2, r2, ι2, F2, p2, R2, hz⟩ := z
  refine ⟨I2.kIn, ?_⟩
  rw [hks]
  have lv : us.length = es.length + 1 := by rw [← r.length, ← hv.length]; exact hl _ _ _ e1
  have lz : kv.length = ks.length := by rw [← r2.length, ← hz.length]; exact hl' _ _ _ e2
  exact call_run (us := us) (kv := kv) hP room grd hf I2 (p1.trans p2) R2 (HVs.app R1 p1 p2 hz hv) (r.append r2) lv lz e3 fun ι' F' H' v p R r f => hQ ι' F' H' v p R r f⟩
end

/-! ### a def by its body -/
theorem fn_body {P : Program} {w : World} {K : PySem.W.Frag} {mg : Str → Option Value} {base : Heap} {k i : Nat} {f : Addr} {name qual : Str} {params : Arguments} {body : List Stmt} {scope : Scope} {dV kV doc pm cdv ct oc : Value} {an od : Option Addr}
    {osl : Array (Option Value)} {N ps : List Str} {pr : Prog} {W : Nat} {fn : Fn} (at_ : K.lookup f = some ⟨oc, od, .func (PySem.W.fnOf name qual params body scope dV kV doc pm an cdv ct), osl⟩) (code : PySem.W.codeIn K cdv qual = true) (Sc : FnScope N ps scope) (hfn : pr.fns[i]? = some fn) (hn : fn.n = N.length)
    (bodyOk : ∀ (A : Around) (outer : List Env) (s : Shared) (H : Hp), Room k (A.deeper (envOfC qual scope s.heap.objs.size f cdv)) → (A.deeper (envOfC qual scope s.heap.objs.size f cdv)).guards = some [] →
      PSs (cxOf CX0 P w K mg base N qual scope f cdv A outer s H E0).nox body (TSv K (evSs pr.G (pr.calls W k) W fn.body))) :
    FnG P w K mg base (k + 1) f (PySem.W.fnOf name qual params body scope dV kV doc pm an cdv ct) ps (spF K pr W (k + 1) i fn.n) := by
  refine fnG_of at_ code Sc fun A outer s H vs Q room grd hlen sp => ⟨_, bodyOk A outer s H room grd, ?_⟩
  obtain ⟨ι, F, bs, h, w', h', l1, R, e, hQ⟩ := sp
  obtain ⟨fn', e1, e⟩ := bindSome (show (pr.fns[i]?).bind _ = some (w', h') from e)
  rw [hfn] at e1
  cases e1
  obtain ⟨⟨fl, s1⟩, e2, e3⟩ := bindSome (show (evSs pr.G _ W fn.body (entry fn.n bs h)).bind endOf = some (w', h') from e)
  have es : entryS fn.n vs = L2.start N vs := by unfold entryS L2.start; rw [hn]
  refine ⟨ι, F, entry fn.n bs h, fl, s1, by rw [← es]; exact R, e2, fun ι' F' σ' H' p R' => ?_⟩
  rw [← es] at p
  cases fl with
  | nx => cases e3; exact hQ ι' F' s1 σ' H' .non rfl p R' (RV.d .non) (fun _ z => by cases z) Fresh.d
  | rt w1 =>
    cases e3
    intro v r nb fr
    rw [← es] at fr
    exact hQ ι' F' s1 σ' H' v rfl p R' r nb fr
  | bk => cases e3
  | ct => cases e3
end DE
/-! DE: displays of dicts; slices turned about. -/
namespace DE
open PySem PySem.Spec PyProof.Rows L2 RZ
def dRun : List RunE → S → Option (List D × S)
  | [] => dNil
  | f :: fs => dCons f (dRun fs)
def dTrs (K : PySem.W.Frag) : List Key → List RunE → List (TE × TE)
  | k :: ks, f :: fs => (tC (kV k), TEv K f) :: dTrs K ks fs
  | _, _ => []
section
variable {K : PySem.W.Frag}
theorem pairs_imp : ∀ {ks : List Key} {fs : List RunE} {ι : List Addr} {F : Addr → Prop} {st s1 : S} {σ : L2.St} {H : Hp} {xs : List D} {R : List (V × V) → Hp → Prop}, ks.length = fs.length → SR K ι F st σ H → dRun fs st = some (xs, s1) →
    (∀ ι' F' H' vs, Stp ι F st σ H ι' F' s1 σ H' → SR K ι' F' s1 σ H' → DFs K F' H' vs xs → R ((ks.zip vs).map fun q => (kV q.1, q.2)) H') → tPairs (dTrs K ks fs) σ H R
  | [], [], ι, F, st, s1, σ, H, xs, R, _, hS, e, h => by
    cases e
    exact h ι F H [] Stp.refl hS .nil
  | [], _ :: _, _, _, _, _, _, _, _, _, hl, _, _, _ => by cases hl
  | _ :: _, [], _, _, _, _, _, _, _, _, hl, _, _, _ => by cases hl
  | k :: ks, f :: fs, ι, F, st, s1, σ, H, xs, R, hl, hS, e, h => by
    obtain ⟨⟨u, t1⟩, e1, e⟩ := bindSome e
    obtain ⟨⟨x, t2⟩, e2, e⟩ := bindSome e
    obtain ⟨⟨ys, t3⟩, e3, e⟩ := mapSome e
    cases e
    refine TEv.one hS e1 fun ι1 F1 H1 v p1 R1 r1 f1 => ?_
    obtain ⟨F2, p2, R2, d2⟩ := fz_ok p1 R1 r1 f1 e2
    refine pairs_imp (ks := ks) (fs := fs) (by simpa using hl) R2 e3 fun ι3 F3 H3 vs p3 R3 d3 => ?_
    exact h ι3 F3 H3 (v :: vs) (p2.trans p3) R3 (.cons (DF.mono p3.fm (p3.keep R2) _ _ d2) d3)
theorem zip_KF {F : Addr → Prop} {H : Hp} : ∀ {ks : List Key} {vs : List V} {xs : List D}, DFs K F H vs xs → KF K F H (ks.zip vs) (ks.zip xs)
  | [], _, _, _ => trivial
  | _ :: _, _, _, .nil => trivial
  | k :: ks, _, _, .cons h t => ⟨⟨rfl, h⟩, zip_KF t⟩
end
section
variable {X : Cx} {pos : Pos}
theorem r_dct0 : PE X (.Dict [] [] pos) (TEv X.K (eData dNil (mkDict []))) := PE.imp pe_dnewK fun σ H Q q => by
  obtain ⟨ι, F, st, w, s1, hS, e, hQ⟩ := q
  cases e
  intro p hp
  have z := Res.dict (kvs := []) hS hp (show KF X.K F H [] [] from trivial)
  exact hQ ι F _ _ z.p z.R z.rv z.f
theorem r_dct {keys : List (Option Expr)} {values : List Expr} {ks : List Key} {fs : List RunE} (h : PPs X pos keys values (dTrs X.K ks fs)) (hl : ks.length = fs.length) (hall : keys.all (·.isSome) = true) (hlen : keys.length = values.length) (h0 : keys ≠ []) (h15 : keys.length ≤ 15) (hk : ks.length ≤ 15) :
    PE X (.Dict keys values pos) (TEv X.K (eData (dRun fs) (mkDict ks))) := PE.imp (pe_disp h hall hlen h0 h15) fun σ H Q q => by
  obtain ⟨ι, F, st, w, s1, hS, e, hQ⟩ := q
  obtain ⟨⟨xs, t1⟩, e1, e⟩ := mapSome e
  cases e
  intro p hp
  obtain ⟨n1, n2, n3⟩ := new_free hS hp
  have P0 : Pend ι F st σ p := ⟨n2, n1, n3⟩
  refine pairs_imp hl (hS.new (o := .dK []) hp) e1 fun ι1 F1 H1 vs p1 R1 d1 => ?_
  obtain ⟨P1, hD⟩ := P0.step upd_same p1
  have hm : Mut (H1 p) := by rw [hD]; trivial
  refine ⟨hD, ks.zip vs, rfl, by rw [List.length_zip]; omega, ?_⟩
  have hk1 : Keep F1 H1 (upd H1 p (.dK (mergeK [] (ks.zip vs)))) := keep_upd P1.f hm
  have pp : Stp ι F st σ H ι1 F1 s1 σ (upd H1 p (.dK (mergeK [] (ks.zip vs)))) := ((Stp.new (o := .dK []) hp).trans p1).pend hp
  have kf : KF X.K F1 H1 (mergeK [] (ks.zip vs)) ((ks.zip xs).foldl (fun t q => put t q.1 q.2) []) := KF.foldPut (show KF X.K F1 H1 [] [] from trivial) (zip_KF d1)
  exact hQ ι1 F1 _ (.ref p) pp (R1.pend P1 hm) ⟨⟨p, _, rfl, upd_same, kf.mono (fun _ h => h) hk1, fun _ => P1.f, fun z => by cases z⟩, fun _ a ea => by cases ea; exact ⟨P1.i, P1.o⟩⟩ (Fresh.new hp)
end
end DE
/-! DE: dict(pairs); a built-in function of one value. -/
namespace DE
open PySem PySem.Spec PyProof.Rows L2 RZ
section
variable {X : Cx}
theorem rows_of {pins : List (Addr × Obj)} {σ : L2.St} {H : Hp} {s : Shared} (I : L2.Inv X pins σ H s) : ∀ {ps : List Addr} {kvs : List (Key × V)}, Paired (fun p kv => SqT X.K H p [kV kv.1, kv.2]) ps kvs →
    ∃ (prs : List (Key × Value)) (rows : List (Value × Value)), KV kvs prs ∧ prs.length = ps.length ∧ rows.length = ps.length ∧
      ∀ (j : Nat) k v, rows[j]? = some (k, v) → ∃ (key : Key) (b : Addr), prs[j]? = some (key, v) ∧ ps[j]? = some b ∧ IsTup s.heap b #[k, v] ∧ keyIs key k = true
  | _, _, .nil => ⟨[], [], .nil, rfl, rfl, fun j k v e => by simp at e⟩
  | _, _, .cons (a := p) (b := kv) h t => by
    obtain ⟨prs, rows, h1, h2, h3, h4⟩ := rows_of I t
    obtain ⟨its, rv, tp, _⟩ := I.tuple h
    obtain ⟨u, y, eq, ru, ry⟩ := vals2 rv
    subst eq
    refine ⟨(kv.1, y) :: prs, (u, y) :: rows, .cons ⟨rfl, ry⟩ h1, by simp [h2], by simp [h3], fun j k v e => ?_⟩
    cases j with
    | zero =>
      simp at e
      obtain ⟨rfl, rfl⟩ := e
      exact ⟨kv.1, p, rfl, rfl, tp, kV_is (P := X.prog) (w := X.w) ru⟩
    | succ j =>
      obtain ⟨key, b, z1, z2, z3, z4⟩ := h4 j k v (by simpa using e)
      exact ⟨key, b, by simpa using z1, by simpa using z2, z3, z4⟩
theorem dict_tup (hc : X.calm = true) : CallR X (.type "dict") (fun xs H Q => ∃ (a : Addr) (ps : List Addr) (kvs : List (Key × V)), xs = [.ref a] ∧ TupF X.K H a (ps.map V.ref) ∧ Paired (fun p kv => SqT X.K H p [kV kv.1, kv.2]) ps kvs ∧
    ∀ p, H p = none → Q (.ref p) (upd H p (.dK (mergeK [] kvs)))) := by
  intro pins s σ H xs us Q I r q
  obtain ⟨a, ps, kvs, ex, ht, hp, q⟩ := q
  subst ex
  obtain ⟨u, eu, rx⟩ := vals1 r
  subst eu
  cases rx
  -- the tuple's own object
  have hob : ∃ o its n, s.heap.get? a = some o ∧ o.cls = .type "tuple" ∧ o.dict = none ∧ o.data = .seq its n ∧ Vals (ps.map V.ref) its.toList ∧ its.size ≤ sizeLine := by
    rcases ht with ⟨ob, hh, ho⟩ | ⟨o, its, n, h1, h2, h3, h4, h5, h6⟩
    · obtain ⟨g1, hz, its, rv, o, g2, g3, n, g4⟩ := I.hok a _ hh
      rw [g1] at g2
      cases g2
      refine ⟨ob, its.toArray, n, g1, ho.1, ho.2, g4, by simpa using rv, ?_⟩
      rw [List.size_toArray, ← rv.length]
      exact hz
    · exact ⟨o, its, n, I.kIn a o h1, h2, h3, h4, h6, h5⟩
  obtain ⟨o, its, n, g1, g2, g3, g4, rv, hz⟩ := hob
  have ei := refs_at rv
  obtain ⟨prs, rows, rel, hl, hrl, hrows⟩ := rows_of I hp
  have hsz : its.size = ps.length := by rw [← Array.length_toList, ei, List.length_map]
  have OK : PlainSeq "tuple" s.heap a its ∧ PairItems s.heap its (fun j => ps.getD j 0) rows := by
    refine ⟨⟨o, n, g1, g2, g3, g4⟩, by rw [hsz, hrl], fun j k v e => ?_⟩
    obtain ⟨key, b, z1, z2, z3, z4⟩ := hrows j k v e
    have hb : ps.getD j 0 = b := by rw [List.getD_eq_getElem?_getD, z2]; rfl
    have hb' : (fun j => ps.getD j 0) j = b := hb
    refine ⟨?_, .inl (by rw [hb']; exact z3)⟩
    have h1 : its.toList[j]? = some (.ref b) := by rw [ei]; simp [z2]
    have h2 : its[j]? = some (.ref b) := by simpa using h1
    rw [hb']
    exact h2
  refine PySem.call_dict_pairs (K := Key) (knd := mixKind X.prog X.w) (kvs := prs) (PairArg.tuple (prog := X.prog) (w := X.w) a its (fun j => ps.getD j 0) rows) (I.ok.hd hc) OK ⟨by rw [hl, hrl], fun i key v e => ?_⟩ (by rw [hrl, ← hsz]; exact hz) fun h' tk hd' kk => ?_
  · obtain ⟨k, b, z1, z2, z3, z4⟩ := hrows i key v e
    exact ⟨k, z1, z4⟩
  · have hm : (s.heap.objs.size == sysModules) = false := beq_eq_false_iff_ne.mpr (Nat.ne_of_gt I.big)
    have hlen : (mergeK [] kvs).length ≤ sizeLine := by
      have e1 := length_mergeK kvs []
      have e2 := rel.length
      simp only [List.length_nil, Nat.zero_add] at e1
      omega
    exact ⟨.ref s.heap.objs.size, upd H s.heap.objs.size (.dK (mergeK [] kvs)), I.laid (t' := tk) (fun b o e => kk b o (by simp) e) (Nat.le_refl _) (show ObjOk X.prog X.w _ _ _ (.dK (mergeK [] kvs)) from ⟨hlen, hm, merged [] prs, KV.merge rel .nil, hd'⟩), rfl, q _ (I.hok.fresh (Nat.le_refl _))⟩
/-- dict(x) -/
theorem call_dictA (hc : X.calm = true) : CallR X (.type "dict") (biR X.K .dict) := by
  have h := CallR.or (call_dictD (X := X)) (CallR.or (call_dictP hc) (dict_tup hc))
  intro pins s σ H xs us Q I r q
  refine h pins s σ H xs us Q I r ?_
  rcases q with q | ⟨a, ps, kvs, ex, h1, h2, h3⟩
  · exact .inl q
  · rcases h1 with h1 | h1
    · exact .inr (.inl ⟨a, ps, kvs, ex, h1, h2, h3⟩)
    · exact .inr (.inr ⟨a, ps, kvs, ex, h1, h2, h3⟩)

/-- the name of a built-in, whether it is a type -/
def biName : Bi → String
  | .len => "len" | .list => "list" | .tuple => "tuple" | .dict => "dict" | .sorted => "sorted" | .repr => "repr" | .int => "int" | .all => "all" | .any => "any" | .sum => "sum" | .str => "str" | .ord => "ord"
theorem r_bi {p pos : Pos} {a : Expr} {fa : RunE} (f : Bi) (hc : X.calm = true) (hg : X.A.guards = some []) (hu : X.A.units + 164 < cLine) (ha : PE X a (TEv X.K fa)) (na : notStar a = true) (hG : Gl X (biName f : Str)) (hm : X.mg (biName f : Str) = none) :
    PE X (.Call (.Name (biName f : Str) p) [a] [] pos) (TEv X.K (eOne fa (biV f))) := by
  have args : PA X [a] (tCons (TEv X.K fa) tNil) := pa_cons ha pa_nil (star_cons na)
  have fin : PE X (.Call (.Name (biName f : Str) p) [a] [] pos) (tCB (biR X.K f) (tCons (TEv X.K fa) tNil)) → PE X (.Call (.Name (biName f : Str) p) [a] [] pos) (TEv X.K (eOne fa (biV f))) := fun h =>
    r_call1 (es := []) h fun ι F st σ H w v u R r e Q hQ => bi_ok R r e hQ
  cases f with
  | len => exact fin (pe_callB call_lenA hG hm (by decide +kernel) args (he := star_cons na))
  | list => exact fin (pe_callTy call_list_of hG hm (by decide +kernel) args (he := star_cons na))
  | tuple => exact fin (pe_callTy call_tupF hG hm (by decide +kernel) args (he := star_cons na))
  | dict => exact fin (pe_callTy (call_dictA hc) hG hm (by decide +kernel) args (he := star_cons na))
  | sorted => exact fin (pe_callB (call_sortA hc) hG hm (by decide +kernel) args (he := star_cons na))
  | repr => exact fin (pe_callB (call_reprD hg hu) hG hm (by decide +kernel) args (he := star_cons na))
  | int => exact fin (pe_callTy call_int1 hG hm (by decide +kernel) args (he := star_cons na))
  | all => exact fin (pe_callB (cr_all hc) hG hm (by decide +kernel) args (he := star_cons na))
  | any => exact fin (pe_callB (cr_any hc) hG hm (by decide +kernel) args (he := star_cons na))
  | sum => exact fin (pe_callB (cr_sum hc) hG hm (by decide +kernel) args (he := star_cons na))
  | str => exact fin (pe_callTy call_str_int hG hm (by decide +kernel) args (he := star_cons na))
  | ord => exact fin (pe_callB call_ord hG hm (by decide +kernel) args (he := star_cons na))
end
end DE
/-! DE: whether a text is the evaluator's. -/
namespace DE
open PySem PySem.Spec PyProof.Rows L2 RZ
structure Pt where
  name : Str
  np : Nat
  ks : List Str
  deriving DecidableEq
/-- what is fixed in a def's text: its names, the globals' names, the ways to call -/
structure Sg where
  N : List Str
  gn : List Str
  pt : List Pt
def lenOk (n : Nat) : Bool := decide (n ≤ sizeLine)
def glOk (sc : Scope) (x : Str) : Bool := kindIs sc x .globalImplicit && !(x == ("__debug__" : Str))
def notSlice : Expr → Bool
  | .Slice _ _ _ _ => false
  | .Constant _ _ _ | .Name _ _ | .BinOp _ _ _ _ | .Subscript _ _ _ | .Call _ _ _ _ | .IfExp _ _ _ _ | .UnaryOp _ _ _ => true
  | _ => false
def isTupE : Expr → Bool
  | .Tuple _ _ _ => true
  | _ => false
def ownP (N : List Str) (own : List Nat) : List (Str × Nat) := own.map fun i => (N.getD i (Str.ofString ""), i)
def bow (scope : Scope) : Str → Bool := fun x => scope.names.lookup x == some .cell
def keyIsC (k : Key) : Option Expr → Bool
  | some (.Constant (.str x) _ _) => decide (k = .inr x)
  | some (.Constant (.int i) _ _) => decide (k = .inl i)
  | _ => false
def keysAre : List Key → List (Option Expr) → Bool
  | [], [] => true
  | k :: ks, e :: es => keyIsC k e && keysAre ks es
  | _, _ => false
def kwNames : List Keyword → List (Option Str)
  | [] => []
  | ⟨n, _, _⟩ :: r => n :: kwNames r
def bltNames : List Str := ["isinstance", "range", "zip", "enumerate", "max", "min", "len", "list", "tuple", "dict", "sorted", "repr", "int", "all", "any", "sum", "str", "ord", "bool"]
mutual
def chk (g : Sg) : E → Bool → Scope → (Str → Bool) → Expr → Bool
  | .k x, _, _, _, e => match e with
    | .Constant c _ _ => constIs c x
    | _ => false
  | .v i, _, sc, _, e => match e with
    | .Name x _ => seeOk g.N sc i x
    | _ => false
  | .z i, _, sc, _, e => match e with
    | .Name x _ => seeOk g.N sc i x
    | _ => false
  | .mv i, _, sc, _, e => match e with
    | .Name x _ => seeOk g.N sc i x
    | _ => false
  | .g n, _, sc, _, e => match e with
    | .Name x _ => decide (g.gn[n]? = some x) && glOk sc x
    | _ => false
  | .tup es, t, sc, ow, e => match e with
    | .Tuple xs _ _ => !t && lenOk es.length && chkL g es sc ow xs
    | _ => false
  | .lst es, t, sc, ow, e => match e with
    | .List xs _ => !t && lenOk es.length && chkL g es sc ow xs
    | _ => false
  | .bin op a b, _, sc, ow, e => match e with
    | .BinOp a' o b' _ => decide (o = pyBOp op) && chk g a false sc ow a' && chk g b false sc ow b'
    | _ => false
  | .neg a, _, sc, ow, e => match e with
    | .UnaryOp o a' _ => decide (o = .USub) && chk g a false sc ow a'
    | _ => false
  | .cmp op a b, _, sc, ow, e => match e with
    | .Compare a' [o] [b'] _ => decide (o = pyCOp op) && decide (behindInMarks (pyCOp op) b' = false) && chk g a false sc ow a' && chk g b false sc ow b'
    | _ => false
  | .cmp2 op op' a b c, _, sc, ow, e => match e with
    | .Compare a' [o, o'] [b', c'] _ => decide (o = pyCOp op) && decide (o' = pyCOp op') && decide (behindInMarks (pyCOp op) b' = false) && decide (behindInMarks (pyCOp op') c' = false) && chk g a false sc ow a' && chk g b false sc ow b' && chk g c false sc ow c'
    | _ => false
  | .and_ es, t, sc, ow, e => match e with
    | .BoolOp o xs _ => decide (o = .And) && chkB g es t sc ow xs
    | _ => false
  | .or_ es, t, sc, ow, e => match e with
    | .BoolOp o xs _ => decide (o = .Or) && chkB g es t sc ow xs
    | _ => false
  | .not_ a, t, sc, ow, e => match e with
    | .UnaryOp o a' _ => decide (o = .Not) && chk g a t sc ow a'
    | _ => false
  | .ite c a b, t, sc, ow, e => match e with
    | .IfExp c' a' b' _ => !t && chk g c true sc ow c' && chk g a false sc ow a' && chk g b false sc ow b'
    | _ => false
  | .ix a i, _, sc, ow, e => match e with
    | .Subscript a' i' _ => notSlice i' && chk g a false sc ow a' && chk g i false sc ow i'
    | _ => false
  | .sl a lo hi, _, sc, ow, e => match e with
    | .Subscript a' (.Slice lo' hi' none _) _ => chk g a false sc ow a' && chkO g lo sc ow lo' && chkO g hi sc ow hi'
    | _ => false
  | .rev a, _, sc, ow, e => match e with
    | .Subscript a' (.Slice none none (some (.UnaryOp .USub (.Constant (.int 1) _ _) _)) _) _ => chk g a false sc ow a'
    | _ => false
  | .isi a ty, _, sc, ow, e => match e with
    | .Call (.Name f _) [a', .Name nm _] [] _ => decide (f = ("isinstance" : Str)) && decide (nm = (tyName ty : Str)) && glOk sc f && glOk sc nm && notStar a' && chk g a false sc ow a'
    | _ => false
  | .bi f a, _, sc, ow, e => match e with
    | .Call (.Name nm _) [a'] [] _ => decide (nm = (biName f : Str)) && glOk sc nm && notStar a' && chk g a false sc ow a'
    | _ => false
  | .two mx a b, _, sc, ow, e => match e with
    | .Call (.Name nm _) [a', b'] [] _ => decide (nm = (if mx = true then "max" else "min" : Str)) && glOk sc nm && notStar a' && notStar b' && chk g a false sc ow a' && chk g b false sc ow b'
    | _ => false
  | .call p es ks, _, sc, ow, e => match e with
    | .Call (.Name nm _) args kws _ => (match g.pt[p]? with
      | some q => decide (q.name = nm) && decide (q.np = args.length) && decide (kwNames kws = q.ks.map some)
      | none => false) && glOk sc nm && (!args.isEmpty || kws.isEmpty) && chkL g es sc ow args && chkK g ks sc ow kws
    | _ => false
  | .pop i, _, sc, _, e => match e with
    | .Call (.Attribute (.Name x _) m apos) [] [] cpos => decide (m = ("pop" : Str)) && (apos.endLine == cpos.line) && seeOk g.N sc i x
    | _ => false
  | .get2 a k x, _, sc, ow, e => match e with
    | .Call (.Attribute a' m apos) [k', x'] [] cpos => decide (m = ("get" : Str)) && (apos.endLine == cpos.line) && plainRecv a' && notStar k' && notStar x' && chk g a false sc ow a' && chk g k false sc ow k' && chk g x false sc ow x'
    | _ => false
  | .dct ks es, t, sc, ow, e => match e with
    | .Dict keys values _ => !t && decide (ks.length = es.length) && decide (keys.length = values.length) && decide (ks.length ≤ 15) && keysAre ks keys && chkL g es sc ow values
    | _ => false
  | .comp elt t it own c, md, sc, ow, e => match e with
    | .ListComp elt' [⟨tg, iter, ifs, n⟩] scope _ => !md && decide (n = 0) && notSet iter && blkC g.N sc scope (ownP g.N own) && ((slotsT t).all fun i => decide (i ∈ own)) && chkG g.N (relS scope sc) (bow scope) t tg && chkI g it (isTp t) sc ow tg iter && chkC g c (relS scope sc) (bow scope) ifs && chk g elt false (relS scope sc) (bow scope) elt'
    | _ => false
def chkI (g : Sg) : I → Bool → Scope → (Str → Bool) → Expr → Expr → Bool
  | .seq a, _, sc, ow, _, e => chk g a false sc ow e
  | .rng a, _, sc, ow, _, e => match e with
    | .Call (.Name nm _) [a'] [] _ => decide (nm = ("range" : Str)) && glOk sc nm && notStar a' && chk g a false sc ow a'
    | _ => false
  | .rng2 a b, _, sc, ow, _, e => match e with
    | .Call (.Name nm _) [a', b'] [] _ => decide (nm = ("range" : Str)) && glOk sc nm && notStar a' && notStar b' && chk g a false sc ow a' && chk g b false sc ow b'
    | _ => false
  | .zip a b, tp, sc, ow, tg, e => match e with
    | .Call (.Name nm _) [a', b'] [] _ => tp && isTupE tg && decide (nm = ("zip" : Str)) && glOk sc nm && notStar a' && notStar b' && chk g a false sc ow a' && chk g b false sc ow b'
    | _ => false
  | .enum a, tp, sc, ow, tg, e => match e with
    | .Call (.Name nm _) [a'] [] _ => tp && isTupE tg && decide (nm = ("enumerate" : Str)) && glOk sc nm && notStar a' && chk g a false sc ow a'
    | _ => false
def chkC (g : Sg) : Option E → Scope → (Str → Bool) → List Expr → Bool
  | none, _, _, ifs => ifs.isEmpty
  | some c, sc, ow, ifs => match ifs with
    | [c'] => chk g c true sc ow c'
    | _ => false
def chkO (g : Sg) : Option E → Scope → (Str → Bool) → Option Expr → Bool
  | none, _, _, o => o.isNone
  | some c, sc, ow, o => match o with
    | some c' => chk g c false sc ow c'
    | none => false
def chkL (g : Sg) : List E → Scope → (Str → Bool) → List Expr → Bool
  | [], _, _, l => l.isEmpty
  | a :: es, sc, ow, l => match l with
    | a' :: l' => notStar a' && chk g a false sc ow a' && chkL g es sc ow l'
    | [] => false
def chkB (g : Sg) : List E → Bool → Scope → (Str → Bool) → List Expr → Bool
  | [], _, _, _, _ => false
  | a :: es, t, sc, ow, l => match l with
    | a' :: l' => chk g a t sc ow a' && ((es.isEmpty && l'.isEmpty) || chkB g es t sc ow l')
    | [] => false
def chkK (g : Sg) : List E → Scope → (Str → Bool) → List Keyword → Bool
  | [], _, _, l => l.isEmpty
  | a :: es, sc, ow, l => match l with
    | ⟨_, a', _⟩ :: l' => chk g a false sc ow a' && chkK g es sc ow l'
    | [] => false
end
end DE
/-! DE: a text that is the evaluator's does what the evaluator tells: expressions. -/
namespace DE
open PySem PySem.Spec PyProof.Rows L2 RZ
structure Fx (g : Sg) (X : Cx) (sc : Scope) (ow : Str → Bool) (pr : Prog) (W k : Nat) : Prop where
  cn : Cn X g.N sc ow
  xe : X.xe = fun _ _ => False
  room : Room k X.A
  grd : X.A.guards = some []
  glb : ∀ n x, g.gn[n]? = some x → ∃ v u d, X.mg x = some u ∧ RelV v u ∧ (∀ F H, DF X.K F H v d) ∧ pr.G n = some d
  bls : ∀ x ∈ bltNames, X.mg x = none
  pat : ∀ q p, g.pt[q]? = some p → PatOk X.prog X.w X.K X.mg X.base pr W k q p.name p.np p.ks
section
variable {g : Sg} {X : Cx} {sc : Scope} {ow : Str → Bool} {pr : Prog} {W k : Nat}
theorem Fx.gl (fx : Fx g X sc ow pr W k) {x : Str} (h : glOk sc x = true) : Gl X x ∧ (x == ("__debug__" : Str)) = false := by
  unfold glOk at h
  rw [Bool.and_eq_true, Bool.not_eq_true'] at h
  refine ⟨?_, h.2⟩
  show X.env.scope.names.lookup x = _
  rw [fx.cn.es]
  exact kindIs_ok h.1
theorem Fx.u164 (fx : Fx g X sc ow pr W k) : X.A.units + 164 < cLine := by have := fx.room.un; omega
theorem Fx.u64 (fx : Fx g X sc ow pr W k) : X.A.units + 64 < cLine := by have := fx.room.un; omega
theorem Fx.u1 (fx : Fx g X sc ow pr W k) : X.A.units + 1 < cLine := by have := fx.room.un; omega
theorem Fx.blk (fx : Fx g X sc ow pr W k) (scope : Scope) (s : Shared) (H : Hp) (C : Addr) (cl : List (Str × Addr)) (fp : List Addr) :
    Fx g (X.blk s H scope (compEnvC scope cl C X.env) fp) (relS scope sc) (bow scope) pr W k where
  cn := ⟨fx.cn.nN, fx.cn.nd, by rw [← fx.cn.es]; rfl, fx.cn.calm, fun x h => h⟩
  xe := rfl
  room := fx.room
  grd := fx.grd
  glb := fx.glb
  bls := fx.bls
  pat := fx.pat
theorem plainIx_nS {b : Expr} (h : notSlice b = true) : PlainIx b := by
  cases b <;> first | (exact fun _ _ => rfl) | cases h
theorem all_star {X : Cx} {pos : Pos} : ∀ {es : List E} {xs : List Expr}, chkL g es sc ow xs = true → (backTo pos (starEach xs X.env)).any (·.1) = false ∧ es.length = xs.length
  | [], xs, h => by
    unfold chkL at h
    cases xs with
    | nil => exact ⟨rfl, rfl⟩
    | cons _ _ => cases h
  | e :: es, xs, h => by
    unfold chkL at h
    cases xs with
    | nil => cases h
    | cons x xs =>
      simp only [Bool.and_eq_true] at h
      obtain ⟨h1, h2⟩ := all_star (X := X) (pos := pos) h.2
      rw [star_cons h.1.1]
      refine ⟨?_, by simp [h2]⟩
      unfold backTo at h1 ⊢
      rw [List.map_cons, List.any_cons, h1]
      rfl
theorem kw_all {env : Env} {pos : Pos} : ∀ {kws : List Keyword} {ks : List Str}, kwNames kws = ks.map some →
    (backToKw pos (keywordEach kws env)).all (·.1.isSome) = true ∧ (backToKw pos (keywordEach kws env)).filterMap (·.1) = ks ∧ (backToKw pos (keywordEach kws env)).any (·.1.isNone) = false
  | [], [], _ => ⟨rfl, rfl, rfl⟩
  | [], _ :: _, h => by cases h
  | ⟨n, v, p⟩ :: kws, [], h => by cases h
  | ⟨n, v, p⟩ :: kws, x :: ks, h => by
    have h1 : n = some x := (List.cons.inj h).1
    subst h1
    obtain ⟨i1, i2, i3⟩ := kw_all (env := env) (pos := pos) (kws := kws) (ks := ks) (List.cons.inj h).2
    refine ⟨?_, ?_, ?_⟩
    · show (true && (backToKw pos (keywordEach kws env)).all (·.1.isSome)) = true
      rw [i1]; rfl
    · show x :: (backToKw pos (keywordEach kws env)).filterMap (·.1) = x :: ks
      rw [i2]
    · show (false || (backToKw pos (keywordEach kws env)).any (·.1.isNone)) = false
      rw [i3]; rfl
theorem kwk_len : ∀ {es : List E} {kws : List Keyword}, chkK g es sc ow kws = true → es.length = kws.length
  | [], kws, h => by
    unfold chkK at h
    cases kws with
    | nil => rfl
    | cons _ _ => cases h
  | e :: es, kws, h => by
    unfold chkK at h
    cases kws with
    | nil => cases h
    | cons x xs =>
      obtain ⟨n, v, p⟩ := x
      simp only [Bool.and_eq_true] at h
      simp [kwk_len h.2]
theorem kwn_len : ∀ {kws : List Keyword}, (kwNames kws).length = kws.length
  | [] => rfl
  | ⟨_, _, _⟩ :: r => by
    show (kwNames r).length + 1 = _
    rw [kwn_len]
    rfl
theorem evD_len {G : Nat → Option D} {C : Call} : ∀ {es : List E} {s s' : S} {xs : List D}, evD G C es s = some (xs, s') → xs.length = es.length
  | [], s, s', xs, h => by unfold evD at h; cases h; rfl
  | e :: es, s, s', xs, h => by
    unfold evD at h
    obtain ⟨⟨w, s1⟩, e1, h⟩ := bindSome h
    obtain ⟨⟨x, s2⟩, e2, h⟩ := bindSome h
    obtain ⟨⟨ys, s3⟩, e3, h⟩ := mapSome h
    cases h
    simp [evD_len e3]
theorem evH_len {G : Nat → Option D} {C : Call} : ∀ {es : List E} {s s' : S} {xs : List SV}, evH G C es s = some (xs, s') → xs.length = es.length
  | [], s, s', xs, h => by unfold evH at h; cases h; rfl
  | e :: es, s, s', xs, h => by
    unfold evH at h
    obtain ⟨⟨w, s1⟩, e1, h⟩ := bindSome h
    obtain ⟨⟨x, s2⟩, e2, h⟩ := bindSome h
    obtain ⟨⟨ys, s3⟩, e3, h⟩ := mapSome h
    cases h
    simp [evH_len e3]
theorem evD_dRun {G : Nat → Option D} {C : Call} : ∀ {es : List E}, evD G C es = dRun (es.map (evE G C))
  | [] => rfl
  | e :: es => by
    unfold evD
    rw [evD_dRun]
    rfl
theorem and_cons {G : Nat → Option D} {C : Call} {e e' : E} {es : List E} : evAnd G C (e :: e' :: es) = eAnd (evE G C e) (evAnd G C (e' :: es)) := by
  rw [evAnd]
  intro h; cases h
theorem or_cons {G : Nat → Option D} {C : Call} {e e' : E} {es : List E} : evOr G C (e :: e' :: es) = eOr (evE G C e) (evOr G C (e' :: es)) := by
  rw [evOr]
  intro h; cases h
end
/-- what a checked text keeps: as a value, as a test -/
def Gd (X : Cx) (e : Expr) (f : RunE) : Bool → Prop
  | false => PE X e (TEv X.K f)
  | true => PT X e (TTv X.K (tests f))
/-- a value's reading serves for the test, too -/
theorem Gd.of {X : Cx} {e : Expr} {f : RunE} (t : Bool) (h : PE X e (TEv X.K f)) (hv : t = true → ∀ whole, isTrue e X.env whole = (do let v ← whole; standAt e.pos; holding [v] (truthy v))) : Gd X e f t := by
  cases t with
  | false => exact h
  | true => exact r_val h (hv rfl)
end DE
/-! DE: expressions, one by one. -/
namespace DE
open PySem PySem.Spec PyProof.Rows L2 RZ
def GdW (X : Cx) (e : Expr) (f : RunE) : Bool → Prop
  | false => PE X e (TEv X.K f)
  | true => PW X e (TTv X.K (tests f))
theorem GdW.gd {X : Cx} {e : Expr} {f : RunE} : ∀ {t : Bool}, GdW X e f t → Gd X e f t
  | false, h => h
  | true, h => PW.pt h
theorem ownP_snd {N : List Str} : ∀ {own : List Nat}, (ownP N own).map (·.2) = own
  | [] => rfl
  | i :: own => by
    show i :: (ownP N own).map (·.2) = _
    rw [ownP_snd]
theorem key_pe {X : Cx} {kk : Key} {e : Option Expr} (h : keyIsC kk e = true) : ∃ e', e = some e' ∧ PE X e' (tC (kV kk)) := by
  unfold keyIsC at h
  split at h
  · have := of_decide_eq_true h
    subst this
    exact ⟨_, rfl, pe_str⟩
  · have := of_decide_eq_true h
    subst this
    exact ⟨_, rfl, pe_int⟩
  · cases h
theorem keys_len : ∀ {ks : List Key} {es : List (Option Expr)}, keysAre ks es = true → ks.length = es.length ∧ es.all (·.isSome) = true
  | [], [], _ => ⟨rfl, rfl⟩
  | [], _ :: _, h => by cases h
  | _ :: _, [], h => by cases h
  | k :: ks, e :: es, h => by
    unfold keysAre at h
    rw [Bool.and_eq_true] at h
    obtain ⟨h1, h2⟩ := keys_len h.2
    have he : ∃ e', e = some e' := by
      have h1 := h.1
      unfold keyIsC at h1
      split at h1
      · exact ⟨_, rfl⟩
      · exact ⟨_, rfl⟩
      · cases h1
    obtain ⟨e', he⟩ := he
    subst he
    exact ⟨by simp [h1], by rw [List.all_cons, h2]; rfl⟩
theorem ty_pe {X : Cx} (t : Ty) {p : Pos} (hg : Gl X (tyName t : Str)) (hm : X.mg (tyName t : Str) = none) : PE X (.Name (tyName t : Str) p) (tC (.ty (tyName t))) := by
  cases t <;> exact pe_bltn hg hm (by decide +kernel) rfl (by decide) (by decide)
section
variable {g : Sg} {pr : Prog} {W k : Nat}
mutual
theorem snd : ∀ (x : E) {X : Cx} {sc : Scope} {ow : Str → Bool} (fx : Fx g X sc ow pr W k) (t : Bool) (e : Expr), chk g x t sc ow e = true → Gd X e (evE pr.G (pr.calls W k) x) t
  | .k x, X, sc, ow, fx, t, e, h => by
    unfold chk at h
    split at h
    · unfold evE
      exact Gd.of t (r_const h) fun _ _ => rfl
    · cases h
  | .v i, X, sc, ow, fx, t, e, h => by
    unfold chk at h
    split at h
    · unfold evE
      exact Gd.of t (r_v (fx.cn.see h)) fun _ _ => rfl
    · cases h
  | .z i, X, sc, ow, fx, t, e, h => by
    unfold chk at h
    split at h
    · unfold evE
      exact Gd.of t (r_z (fx.cn.see h)) fun _ _ => rfl
    · cases h
  | .mv i, X, sc, ow, fx, t, e, h => by
    unfold chk at h
    split at h
    · unfold evE
      exact Gd.of t (r_mv (fx.cn.see h)) fun _ _ => rfl
    · cases h
  | .g n, X, sc, ow, fx, t, e, h => by
    unfold chk at h
    split at h
    · simp only [Bool.and_eq_true, decide_eq_true_eq] at h
      obtain ⟨v, u, d, h1, h2, h3, h4⟩ := fx.glb n _ h.1
      obtain ⟨g1, g2⟩ := fx.gl h.2
      unfold evE
      exact Gd.of t (r_g (pe_glob g1 h1 h2 g2) h3 h4) fun _ _ => rfl
    · cases h
  | .tup es, X, sc, ow, fx, t, e, h => by
    unfold chk at h
    split at h
    · simp only [Bool.and_eq_true, Bool.not_eq_true'] at h
      obtain ⟨⟨ht, hl⟩, hc⟩ := h
      subst ht
      unfold evE
      exact r_tup (sndL es fx _ hc) fun s xs s' z => by rw [evD_len z]; exact of_decide_eq_true hl
    · cases h
  | .lst es, X, sc, ow, fx, t, e, h => by
    unfold chk at h
    split at h
    · simp only [Bool.and_eq_true, Bool.not_eq_true'] at h
      obtain ⟨⟨ht, hl⟩, hc⟩ := h
      subst ht
      unfold evE
      exact r_lst (sndL es fx _ hc) fun s xs s' z => by rw [evD_len z]; exact of_decide_eq_true hl
    · cases h
  | .bin op a b, X, sc, ow, fx, t, e, h => by
    unfold chk at h
    split at h
    · simp only [Bool.and_eq_true, decide_eq_true_eq] at h
      obtain ⟨⟨ho, ha⟩, hb⟩ := h
      subst ho
      unfold evE
      exact Gd.of t (r_bin (snd a fx false _ ha) (snd b fx false _ hb)) fun _ _ => rfl
    · cases h
  | .neg a, X, sc, ow, fx, t, e, h => by
    unfold chk at h
    split at h
    · simp only [Bool.and_eq_true, decide_eq_true_eq] at h
      obtain ⟨ho, ha⟩ := h
      subst ho
      unfold evE
      exact Gd.of t (r_neg (snd a fx false _ ha)) fun _ _ => rfl
    · cases h
  | .cmp op a b, X, sc, ow, fx, t, e, h => by
    unfold chk at h
    split at h
    · simp only [Bool.and_eq_true, decide_eq_true_eq] at h
      obtain ⟨⟨⟨ho, hm⟩, ha⟩, hb⟩ := h
      subst ho
      unfold evE
      cases t with
      | false => exact r_cmp fx.u64 (snd a fx false _ ha) (snd b fx false _ hb) hm
      | true => exact r_cmpT fx.u64 (snd a fx false _ ha) (snd b fx false _ hb) hm
    · cases h
  | .cmp2 op op' a b c, X, sc, ow, fx, t, e, h => by
    unfold chk at h
    split at h
    · simp only [Bool.and_eq_true, decide_eq_true_eq] at h
      obtain ⟨⟨⟨⟨⟨⟨ho, ho'⟩, hm⟩, hm'⟩, ha⟩, hb⟩, hc⟩ := h
      subst ho ho'
      unfold evE
      have pa := snd a fx false _ ha
      have pb := snd b fx false _ hb
      have pc := snd c fx false _ hc
      cases t with
      | false => exact r_cmp2 fx.u64 pa pb pc hm hm' (pe_chain (cmpR_ok fx.u64 op) (cmpR_ok fx.u64 op') pa pb pc hm')
      | true => exact r_cmp2T (pt_chain (cmpR_ok fx.u64 op) (cmpR_ok fx.u64 op') pa pb pc hm')
    · cases h
  | .and_ es, X, sc, ow, fx, t, e, h => by
    unfold chk at h
    split at h
    · simp only [Bool.and_eq_true, decide_eq_true_eq] at h
      obtain ⟨ho, ha⟩ := h
      subst ho
      unfold evE
      exact (sndA es fx t _ _ ha).gd
    · cases h
  | .or_ es, X, sc, ow, fx, t, e, h => by
    unfold chk at h
    split at h
    · simp only [Bool.and_eq_true, decide_eq_true_eq] at h
      obtain ⟨ho, ha⟩ := h
      subst ho
      unfold evE
      exact (sndO es fx t _ _ ha).gd
    · cases h
  | .not_ a, X, sc, ow, fx, t, e, h => by
    unfold chk at h
    split at h
    · simp only [Bool.and_eq_true, decide_eq_true_eq] at h
      obtain ⟨ho, ha⟩ := h
      subst ho
      unfold evE
      have pa := snd a fx t _ ha
      cases t with
      | false => exact r_notV pa
      | true => exact r_not pa
    · cases h
  | .ite c a b, X, sc, ow, fx, t, e, h => by
    unfold chk at h
    split at h
    · simp only [Bool.and_eq_true, Bool.not_eq_true'] at h
      obtain ⟨⟨⟨ht, hc⟩, ha⟩, hb⟩ := h
      subst ht
      unfold evE
      exact r_ite (snd c fx true _ hc) (snd a fx false _ ha) (snd b fx false _ hb)
    · cases h
  | .ix a i, X, sc, ow, fx, t, e, h => by
    unfold chk at h
    split at h
    · simp only [Bool.and_eq_true] at h
      obtain ⟨⟨hs, ha⟩, hi⟩ := h
      unfold evE
      exact Gd.of t (r_ix fx.u64 (snd a fx false _ ha) (snd i fx false _ hi) (plainIx_nS hs)) fun _ _ => rfl
    · cases h
  | .sl a lo hi, X, sc, ow, fx, t, e, h => by
    unfold chk at h
    split at h
    · simp only [Bool.and_eq_true] at h
      obtain ⟨⟨ha, hl⟩, hh⟩ := h
      unfold evE
      exact Gd.of t (r_sl (snd a fx false _ ha) (sndO1 lo fx _ hl) (sndO1 hi fx _ hh)) fun _ _ => rfl
    · cases h
  | .rev a, X, sc, ow, fx, t, e, h => by
    unfold chk at h
    split at h
    · unfold evE
      exact Gd.of t (r_revL (snd a fx false _ h)) fun _ _ => rfl
    · cases h
  | .isi a ty, X, sc, ow, fx, t, e, h => by
    unfold chk at h
    split at h
    · simp only [Bool.and_eq_true, decide_eq_true_eq] at h
      obtain ⟨⟨⟨⟨⟨hf, hn⟩, g1⟩, g2⟩, ns⟩, ha⟩ := h
      subst hf hn
      unfold evE
      exact Gd.of t (r_isi (snd a fx false _ ha) ns (fx.gl g1).1 (fx.bls _ (by decide)) (ty_pe ty (fx.gl g2).1 (fx.bls _ (by cases ty <;> decide)))) fun _ _ => rfl
    · cases h
  | .bi f a, X, sc, ow, fx, t, e, h => by
    unfold chk at h
    split at h
    · simp only [Bool.and_eq_true, decide_eq_true_eq] at h
      obtain ⟨⟨⟨hn, g1⟩, ns⟩, ha⟩ := h
      subst hn
      unfold evE
      exact Gd.of t (r_bi f fx.cn.calm fx.grd fx.u164 (snd a fx false _ ha) ns (fx.gl g1).1 (fx.bls _ (by cases f <;> decide))) fun _ _ => rfl
    · cases h
  | .two mx a b, X, sc, ow, fx, t, e, h => by
    unfold chk at h
    split at h
    · simp only [Bool.and_eq_true, decide_eq_true_eq] at h
      obtain ⟨⟨⟨⟨⟨hn, g1⟩, na⟩, nb⟩, ha⟩, hb⟩ := h
      subst hn
      unfold evE
      exact Gd.of t (r_two (snd a fx false _ ha) (snd b fx false _ hb) fx.cn.calm na nb (fx.gl g1).1 (fx.bls _ (by cases mx <;> decide))) fun _ _ => rfl
    · cases h
  | .call p es ks, X, sc, ow, fx, t, e, h => by
    unfold chk at h
    split at h
    · rename_i nm p1 args kws pos
      simp only [Bool.and_eq_true] at h
      obtain ⟨⟨⟨⟨hp, g1⟩, hne⟩, hl⟩, hk⟩ := h
      obtain ⟨g1, g2⟩ := fx.gl g1
      split at hp
      · rename_i q hq
        simp only [Bool.and_eq_true, decide_eq_true_eq] at hp
        obtain ⟨⟨q1, q2⟩, q3⟩ := hp
        have P := fx.pat _ q hq
        subst q1
        have P0 := P
        obtain ⟨_, _, f, _, _, _, _, _, _, hf, kp, _⟩ := P
        unfold evE
        refine Gd.of t ?_ fun _ _ => rfl
        have pa := sndH es fx args hl
        have pk := sndK ks fx kws hk
        have lk := kwk_len hk
        have ln := kwn_len (kws := kws)
        rw [q3, List.length_map] at ln
        cases args with
        | nil =>
          have e1 : es = [] := by
            have := (all_star (X := X) (pos := pos) hl).2
            cases es with
            | nil => rfl
            | cons _ _ => cases this
          have e2 : kws = [] := by
            cases kws with
            | nil => rfl
            | cons _ _ => cases hne
          subst e1 e2
          have e3 : ks = [] := by cases ks with
            | nil => rfl
            | cons _ _ => cases lk
          subst e3
          have e4 : q.ks = [] := List.eq_nil_of_length_eq_zero ln
          rw [q2, e4] at P0
          have e5 : evH pr.G (pr.calls W k) [] = hNil := by unfold evH; rfl
          rw [e5]
          exact r_call0 P0 fx.room fx.grd g1 hf kp g2
        | cons a args =>
          have hl2 := hl
          have lh := (all_star (X := X) (pos := pos) hl).2
          have ls := (all_star (X := X) (pos := pos) hl).1
          have na : notStar a = true := by
            cases es with
            | nil => unfold chkL at hl2; cases hl2
            | cons e es =>
              unfold chkL at hl2
              simp only [Bool.and_eq_true] at hl2
              exact hl2.1.1
          have hpl : (backTo pos (starEach args X.env)).any (·.1) = false := by
            rw [star_cons na] at ls
            unfold backTo at ls ⊢
            rw [List.map_cons, List.any_cons] at ls
            exact ls
          rw [q2] at P0
          cases kws with
          | nil =>
            have e3 : ks = [] := by cases ks with
              | nil => rfl
              | cons _ _ => cases lk
            subst e3
            have e4 : q.ks = [] := List.eq_nil_of_length_eq_zero ln
            rw [e4] at P0
            have e5 : evH pr.G (pr.calls W k) [] = hNil := by unfold evH; rfl
            rw [e5]
            exact r_call P0 fx.room fx.grd g1 hf kp g2 pa na (fun s ws s' z => by rw [evH_len z, lh]; rfl) hpl
          | cons kw kws =>
            obtain ⟨k1, k2, k3⟩ := kw_all (env := X.env) (pos := pos) q3
            exact r_callK P0 fx.room fx.grd g1 hf kp g2 pa pk na (fun s ws s' z => by rw [evH_len z, lh]; rfl) (fun s ws s' z => by rw [evH_len z, lk, ln]) k1 k2 (by rw [ls, k3]; rfl)
      · cases hp
    · cases h
  | .pop i, X, sc, ow, fx, t, e, h => by
    unfold chk at h
    split at h
    · simp only [Bool.and_eq_true, decide_eq_true_eq] at h
      obtain ⟨⟨hm, hl⟩, hs⟩ := h
      subst hm
      unfold evE
      exact Gd.of t (r_pop (fx.cn.see hs) hl) fun _ _ => rfl
    · cases h
  | .get2 a q x, X, sc, ow, fx, t, e, h => by
    unfold chk at h
    split at h
    · simp only [Bool.and_eq_true, decide_eq_true_eq] at h
      obtain ⟨⟨⟨⟨⟨⟨⟨hm, hl⟩, hr⟩, n1⟩, n2⟩, ha⟩, hk⟩, hx⟩ := h
      subst hm
      unfold evE
      exact Gd.of t (r_get2 fx.u1 (snd a fx false _ ha) (snd q fx false _ hk) (snd x fx false _ hx) hr n1 n2 hl) fun _ _ => rfl
    · cases h
  | .dct ks es, X, sc, ow, fx, t, e, h => by
    unfold chk at h
    split at h
    · rename_i keys values pos
      simp only [Bool.and_eq_true, decide_eq_true_eq, Bool.not_eq_true'] at h
      obtain ⟨⟨⟨⟨⟨ht, l1⟩, l2⟩, l3⟩, hk⟩, hl⟩ := h
      subst ht
      obtain ⟨l4, l5⟩ := keys_len hk
      unfold evE
      show PE X _ _
      cases keys with
      | nil =>
        have e1 : ks = [] := List.eq_nil_of_length_eq_zero l4
        subst e1
        have e2 : es = [] := List.eq_nil_of_length_eq_zero l1.symm
        have e3 : values = [] := List.eq_nil_of_length_eq_zero l2.symm
        subst e2 e3
        have e5 : evD pr.G (pr.calls W k) [] = dNil := by unfold evD; rfl
        rw [e5]
        exact r_dct0
      | cons q qs =>
        rw [evD_dRun]
        exact r_dct (sndP es fx _ _ _ _ l1 hl hk) (by rw [List.length_map]; exact l1) l5 l2 (fun z => by cases z) (by rw [← l4]; exact l3) l3
    · cases h
  | .comp elt t it own c, X, sc, ow, fx, md, e, h => by
    unfold chk at h
    split at h
    · rename_i elt' tg iter ifs n scope pos
      simp only [Bool.and_eq_true, decide_eq_true_eq, Bool.not_eq_true', List.all_eq_true] at h
      obtain ⟨⟨⟨⟨⟨⟨⟨⟨hm, hn⟩, hs⟩, hb⟩, hsl⟩, hg⟩, hi⟩, hc⟩, he⟩ := h
      subst hm hn
      unfold evE
      have R := r_comp (X := X) (pos := pos) fx.cn.calm (by rw [fx.cn.nN]; exact fx.cn.nd) (sndI it fx (isTp t) tg iter hi) (by rw [fx.cn.nN, fx.cn.es]; exact blkOk_by hb)
        (fun s H C cl fp => g_ok (fx.blk scope s H C cl fp).cn t tg hg) (fun s H C cl fp => sndC c (fx.blk scope s H C cl fp) ifs hc) (fun s H C cl fp => snd elt (fx.blk scope s H C cl fp) false elt' he) hs
        (fun i z => by rw [ownP_snd]; exact hsl i z)
      rw [ownP_snd] at R
      exact R
    · cases h
theorem sndI : ∀ (it : I) {X : Cx} {sc : Scope} {ow : Str → Bool} (fx : Fx g X sc ow pr W k) (tp : Bool) (tg iter : Expr), chkI g it tp sc ow tg iter = true → PI X tg iter (TIv tp X.K (evI pr.G (pr.calls W k) it))
  | .seq a, X, sc, ow, fx, tp, tg, e, h => by
    unfold chkI at h
    unfold evI
    exact r_itSeq (snd a fx false _ h)
  | .rng a, X, sc, ow, fx, tp, tg, e, h => by
    unfold chkI at h
    split at h
    · simp only [Bool.and_eq_true, decide_eq_true_eq] at h
      obtain ⟨⟨⟨hn, g1⟩, na⟩, ha⟩ := h
      subst hn
      unfold evI
      exact r_itRng (snd a fx false _ ha) na (fx.gl g1).1 (fx.bls _ (by decide))
    · cases h
  | .rng2 a b, X, sc, ow, fx, tp, tg, e, h => by
    unfold chkI at h
    split at h
    · simp only [Bool.and_eq_true, decide_eq_true_eq] at h
      obtain ⟨⟨⟨⟨⟨hn, g1⟩, na⟩, nb⟩, ha⟩, hb⟩ := h
      subst hn
      unfold evI
      exact r_itRng2 (snd a fx false _ ha) (snd b fx false _ hb) na nb (fx.gl g1).1 (fx.bls _ (by decide))
    · cases h
  | .zip a b, X, sc, ow, fx, tp, tg, e, h => by
    unfold chkI at h
    split at h
    · simp only [Bool.and_eq_true, decide_eq_true_eq] at h
      obtain ⟨⟨⟨⟨⟨⟨⟨ht, hu⟩, hn⟩, g1⟩, na⟩, nb⟩, ha⟩, hb⟩ := h
      subst hn ht
      unfold evI
      cases tg <;> first | exact r_itZip (snd a fx false _ ha) (snd b fx false _ hb) na nb (fx.gl g1).1 (fx.bls _ (by decide)) | cases hu
    · cases h
  | .enum a, X, sc, ow, fx, tp, tg, e, h => by
    unfold chkI at h
    split at h
    · simp only [Bool.and_eq_true, decide_eq_true_eq] at h
      obtain ⟨⟨⟨⟨⟨ht, hu⟩, hn⟩, g1⟩, na⟩, ha⟩ := h
      subst hn ht
      unfold evI
      cases tg <;> first | exact r_itEnum (snd a fx false _ ha) na (fx.gl g1).1 (fx.bls _ (by decide)) | cases hu
    · cases h
theorem sndC : ∀ (c : Option E) {X : Cx} {sc : Scope} {ow : Str → Bool} (fx : Fx g X sc ow pr W k) (ifs : List Expr), chkC g c sc ow ifs = true → PTs X ifs (TTv X.K (evC pr.G (pr.calls W k) c))
  | none, X, sc, ow, fx, ifs, h => by
    unfold chkC at h
    cases ifs with
    | cons _ _ => cases h
    | nil =>
      unfold evC
      refine ⟨fun pins s σ H Q I q => pts_nil.run pins s σ H Q I ?_⟩
      obtain ⟨ι, F, st, b, s1, hS, e, hQ⟩ := q
      cases e
      exact hQ ι F H Stp.refl hS
  | some c, X, sc, ow, fx, ifs, h => by
    unfold chkC at h
    split at h
    · unfold evC
      exact pts_one (snd c fx true _ h)
    · cases h
theorem sndO1 : ∀ (c : Option E) {X : Cx} {sc : Scope} {ow : Str → Bool} (fx : Fx g X sc ow pr W k) (o : Option Expr), chkO g c sc ow o = true → PO X o (TIx X.K (evO pr.G (pr.calls W k) c))
  | none, X, sc, ow, fx, o, h => by
    unfold chkO at h
    cases o with
    | some _ => cases h
    | none =>
      unfold evO
      exact r_oNone
  | some c, X, sc, ow, fx, o, h => by
    unfold chkO at h
    split at h
    · unfold evO
      exact r_oSome (snd c fx false _ h)
    · cases h
theorem sndL : ∀ (es : List E) {X : Cx} {sc : Scope} {ow : Str → Bool} (fx : Fx g X sc ow pr W k) (l : List Expr), chkL g es sc ow l = true → PA X l (TDs X.K (evD pr.G (pr.calls W k) es))
  | [], X, sc, ow, fx, l, h => by
    unfold chkL at h
    cases l with
    | cons _ _ => cases h
    | nil =>
      unfold evD
      exact r_nil
  | a :: es, X, sc, ow, fx, l, h => by
    unfold chkL at h
    split at h
    · simp only [Bool.and_eq_true] at h
      unfold evD
      exact r_cons h.1.1 (snd a fx false _ h.1.2) (sndL es fx _ h.2)
    · cases h
theorem sndH : ∀ (es : List E) {X : Cx} {sc : Scope} {ow : Str → Bool} (fx : Fx g X sc ow pr W k) (l : List Expr), chkL g es sc ow l = true → PA X l (THs X.K (evH pr.G (pr.calls W k) es))
  | [], X, sc, ow, fx, l, h => by
    unfold chkL at h
    cases l with
    | cons _ _ => cases h
    | nil =>
      unfold evH
      exact r_hNil
  | a :: es, X, sc, ow, fx, l, h => by
    unfold chkL at h
    split at h
    · simp only [Bool.and_eq_true] at h
      unfold evH
      exact r_hCons h.1.1 (snd a fx false _ h.1.2) (sndH es fx _ h.2)
    · cases h
theorem sndK : ∀ (es : List E) {X : Cx} {sc : Scope} {ow : Str → Bool} (fx : Fx g X sc ow pr W k) (l : List Keyword), chkK g es sc ow l = true → PK X l (THs X.K (evH pr.G (pr.calls W k) es))
  | [], X, sc, ow, fx, l, h => by
    unfold chkK at h
    cases l with
    | cons _ _ => cases h
    | nil =>
      unfold evH
      exact r_kNil
  | a :: es, X, sc, ow, fx, l, h => by
    unfold chkK at h
    split at h
    · simp only [Bool.and_eq_true] at h
      unfold evH
      exact r_kCons (snd a fx false _ h.1) (sndK es fx _ h.2)
    · cases h
theorem sndP : ∀ (es : List E) {X : Cx} {sc : Scope} {ow : Str → Bool} (fx : Fx g X sc ow pr W k) (pos : Pos) (ks : List Key) (keys : List (Option Expr)) (l : List Expr), ks.length = es.length → chkL g es sc ow l = true → keysAre ks keys = true → PPs X pos keys l (dTrs X.K ks (es.map (evE pr.G (pr.calls W k))))
  | [], X, sc, ow, fx, pos, ks, keys, l, hn, h, hk => by
    unfold chkL at h
    cases l with
    | cons _ _ => cases h
    | nil =>
      cases ks with
      | cons _ _ => cases hn
      | nil => cases keys with
        | cons _ _ => cases hk
        | nil => exact pps_nil
  | a :: es, X, sc, ow, fx, pos, ks, keys, l, hn, h, hk => by
    unfold chkL at h
    split at h
    · simp only [Bool.and_eq_true] at h
      cases ks with
      | nil => cases hn
      | cons q ks => cases keys with
        | nil => cases hk
        | cons y keys =>
          unfold keysAre at hk
          rw [Bool.and_eq_true] at hk
          obtain ⟨y', hy, py⟩ := key_pe (X := X) hk.1
          subst hy
          exact pps_cons py (snd a fx false _ h.1.2) (sndP es fx pos ks keys _ (by simpa using hn) h.2 hk.2)
    · cases h
theorem sndA : ∀ (es : List E) {X : Cx} {sc : Scope} {ow : Str → Bool} (fx : Fx g X sc ow pr W k) (t : Bool) (l : List Expr) (pos : Pos), chkB g es t sc ow l = true → GdW X (.BoolOp .And l pos) (evAnd pr.G (pr.calls W k) es) t
  | [], X, sc, ow, fx, t, l, pos, h => by unfold chkB at h; cases h
  | a :: es, X, sc, ow, fx, t, l, pos, h => by
    unfold chkB at h
    split at h
    · rename_i a' l'
      simp only [Bool.and_eq_true, Bool.or_eq_true] at h
      have pa := snd a fx t _ h.1
      rcases h.2 with h2 | h2
      · cases es with
        | cons _ _ => cases h2.1
        | nil => cases l' with
          | cons _ _ => cases h2.2
          | nil =>
            unfold evAnd
            cases t with
            | false => exact r_and1V pa
            | true => exact r_and1 pa
      · have pb := sndA es fx t _ pos h2
        cases es with
        | nil => unfold chkB at h2; cases h2
        | cons e2 es => cases l' with
          | nil => unfold chkB at h2; cases h2
          | cons x2 l' =>
            rw [and_cons]
            cases t with
            | false => exact r_andV pa pb
            | true => exact r_and pa pb
    · cases h
theorem sndO : ∀ (es : List E) {X : Cx} {sc : Scope} {ow : Str → Bool} (fx : Fx g X sc ow pr W k) (t : Bool) (l : List Expr) (pos : Pos), chkB g es t sc ow l = true → GdW X (.BoolOp .Or l pos) (evOr pr.G (pr.calls W k) es) t
  | [], X, sc, ow, fx, t, l, pos, h => by unfold chkB at h; cases h
  | a :: es, X, sc, ow, fx, t, l, pos, h => by
    unfold chkB at h
    split at h
    · rename_i a' l'
      simp only [Bool.and_eq_true, Bool.or_eq_true] at h
      have pa := snd a fx t _ h.1
      rcases h.2 with h2 | h2
      · cases es with
        | cons _ _ => cases h2.1
        | nil => cases l' with
          | cons _ _ => cases h2.2
          | nil =>
            unfold evOr
            cases t with
            | false => exact r_and1V pa
            | true => exact r_or1 pa
      · have pb := sndO es fx t _ pos h2
        cases es with
        | nil => unfold chkB at h2; cases h2
        | cons e2 es => cases l' with
          | nil => unfold chkB at h2; cases h2
          | cons x2 l' =>
            rw [or_cons]
            cases t with
            | false => exact r_orV pa pb
            | true => exact r_or pa pb
    · cases h
end
end
end DE
/-! DE: statements, one by one. -/
namespace DE
open PySem PySem.Spec PyProof.Rows L2 RZ
def lcOk (sc : Scope) (x : Str) (p : Pos) : Expr → Bool
  | .ListComp _ _ scope pos => decide (sc.kind = .function) && kindIs sc x .local && (p.line == pos.line) && !(scope.names.any fun (n, k) => n == x && (k == .local || k == .cell))
  | _ => false
def sw2 (N : List Str) (sc : Scope) (i j : Nat) (x y : Str) : Bool := decide (i ≠ j) && decide (N[i]? = some x) && decide (N[j]? = some y) && kindIs sc x .local && kindIs sc y .local
def swOk (N : List Str) (sc : Scope) (ns : List Str) : List Nat → List Expr → List Expr → Bool
  | [i, j], [.Name x _, .Name y _], [_, _] => sw2 N sc i j x y && decide (ns = [x, y])
  | [i, j, l], [.Name x _, .Name y _, .Name z _], [_, _, _] => sw2 N sc i j x y && sw2 N sc i l x z && sw2 N sc j l y z && decide (ns = [x, y, z])
  | _, _, _ => false
mutual
def chkS (g : Sg) (sc : Scope) (ow : Str → Bool) : St → Stmt → Bool
  | .asg t e, s => match s with
    | .Assign [tg] v _ => chk g e false sc ow v && (match t, tg with
      | .nm i, .Name x p => stoOk g.N sc ow i x && (notComp v || lcOk sc x p v)
      | .tp ts, .Tuple l _ _ => chkGs g.N sc ow ts l && notComp v && !isTupE v
      | _, _ => false)
    | _ => false
  | .asgc i e, s => match s with
    | .Assign [.Name x _] v _ => stoOk g.N sc ow i x && notComp v && chk g e false sc ow v
    | _ => false
  | .mas is es, s => match s with
    | .Assign [.Tuple tg _ _] (.Tuple vs _ _) _ => lenOk es.length && decide (sc.kind = .function) && chkNs g.N sc ow is tg && chkL g es sc ow vs && (match swapKind sc tg vs with
      | some none => true
      | some (some ns) => swOk g.N sc ns is tg vs
      | none => false)
    | _ => false
  | .setit i q e, s => match s with
    | .Assign [.Subscript (.Name x _) q' _] v _ => seeOk g.N sc i x && notComp v && chk g q false sc ow q' && chk g e false sc ow v
    | _ => false
  | .app i e, s => match s with
    | .Expr (.Call (.Attribute (.Name x _) m apos) [v] [] cpos) _ => decide (m = ("append" : Str)) && (apos.endLine == cpos.line) && notStar v && seeOk g.N sc i x && chk g e false sc ow v
    | _ => false
  | .ext i e, s => match s with
    | .Expr (.Call (.Attribute (.Name x _) m apos) [v] [] cpos) _ => decide (m = ("extend" : Str)) && (apos.endLine == cpos.line) && notStar v && seeOk g.N sc i x && chk g e false sc ow v
    | _ => false
  | .ex e, s => match s with
    | .Expr v _ => notComp v && chk g e false sc ow v
    | _ => false
  | .ret e, s => match s with
    | .Return (some v) _ => chk g e false sc ow v
    | _ => false
  | .retN, s => match s with
    | .Return none _ => true
    | _ => false
  | .iff c a b, s => match s with
    | .If c' A B _ => chk g c true sc ow c' && chkSs g sc ow a A && chkSs g sc ow b B
    | _ => false
  | .forr t it body, s => match s with
    | .For tg iter B [] _ => notSet iter && chkG g.N sc ow t tg && chkI g it (isTp t) sc ow tg iter && chkSs g sc ow body B
    | _ => false
  | .whl c body, s => match s with
    | .While c' B [] _ => chk g c true sc ow c' && chkSs g sc ow body B
    | _ => false
  | .cont, s => match s with
    | .Continue _ => true
    | _ => false
  | .brk, s => match s with
    | .Break _ => true
    | _ => false
  | .aug _ _ _, _ => false
def chkSs (g : Sg) (sc : Scope) (ow : Str → Bool) : List St → List Stmt → Bool
  | [], l => l.isEmpty
  | a :: r, l => match l with
    | a' :: l' => chkS g sc ow a a' && chkSs g sc ow r l'
    | [] => false
end
theorem noSwap {tg : List Expr} {k : Nat} {p : Pos} {v : Expr} {env : Env} (h : isTupE v = false) : swappedStores [.Tuple tg k p] v env = pure none := by
  cases v <;> first | rfl | cases h
section
variable {g : Sg} {pr : Prog} {W k : Nat}
theorem lcOk_lc {sc : Scope} {x : Str} {p : Pos} {v : Expr} (h : lcOk sc x p v = true) : ∃ a b c d, v = .ListComp a b c d := by
  cases v <;> first | exact ⟨_, _, _, _, rfl⟩ | cases h
theorem lc_ok {x : E} {X : Cx} {sc : Scope} {ow : Str → Bool} (fx : Fx g X sc ow pr W k) {y : Str} {i : Nat} {v : Expr} {p spos : Pos} (h : chk g x false sc ow v = true) (hs : stoOk g.N sc ow i y = true) (hl : lcOk sc y p v = true) :
    PS X (.Assign [.Name y p] v spos) (TSv X.K (sAsg (.nm i) (evE pr.G (pr.calls W k) x))) := by
  have hN : g.N[i]? = some y := by
    unfold stoOk at hs
    rw [Bool.and_eq_true, decide_eq_true_eq] at hs
    exact hs.1
  obtain ⟨a, b, c, d, ev⟩ := lcOk_lc hl
  cases x with
  | comp elt t it own c =>
    unfold chk at h
    split at h
    · rename_i elt' tg iter ifs n scope pos
      unfold lcOk at hl
      simp only [Bool.and_eq_true, decide_eq_true_eq, Bool.not_eq_true'] at hl
      obtain ⟨⟨⟨hk, hy⟩, hline⟩, hno⟩ := hl
      simp only [Bool.and_eq_true, decide_eq_true_eq, Bool.not_eq_true', List.all_eq_true] at h
      obtain ⟨⟨⟨⟨⟨⟨⟨⟨hm, hn⟩, hs⟩, hb⟩, hsl⟩, hg⟩, hi⟩, hc⟩, he⟩ := h
      subst hn
      unfold evE
      have R := s_setLc (X := X) (spos := spos) (pos := pos) fx.cn hk hN hy hline hno (sndI it fx (isTp t) tg iter hi) (by rw [fx.cn.nN, fx.cn.es]; exact blkOk_by hb)
        (fun s H C cl fp => g_ok (fx.blk scope s H C cl fp).cn t tg hg) (fun s H C cl fp => sndC c (fx.blk scope s H C cl fp) ifs hc) (fun s H C cl fp => snd elt (fx.blk scope s H C cl fp) false elt' he) hs
        (fun i z => by rw [ownP_snd]; exact hsl i z)
      rw [ownP_snd] at R
      exact R
    · cases h
  | _ => subst ev; unfold chk at h; cases h
theorem sw2_ok {N : List Str} {sc : Scope} {i j : Nat} {x y : Str} (h : sw2 N sc i j x y = true) : i ≠ j ∧ N[i]? = some x ∧ N[j]? = some y ∧ kindIs sc x .local = true ∧ kindIs sc y .local = true := by
  unfold sw2 at h
  simp only [Bool.and_eq_true, decide_eq_true_eq] at h
  exact ⟨h.1.1.1.1, h.1.1.1.2, h.1.1.2, h.1.2, h.2⟩
mutual
theorem sndS : ∀ (x : DE.St) {X : Cx} {sc : Scope} {ow : Str → Bool} (fx : Fx g X sc ow pr W k) (s : Stmt), chkS g sc ow x s = true → PS X s (TSv X.K (evS pr.G (pr.calls W k) W x))
  | .asg t e, X, sc, ow, fx, s, h => by
    unfold chkS at h
    split at h
    · rename_i tg v pos
      rw [Bool.and_eq_true] at h
      obtain ⟨he, h⟩ := h
      unfold evS
      split at h
      · rw [Bool.and_eq_true, Bool.or_eq_true] at h
        rcases h.2 with h2 | h2
        · exact s_set fx.cn h.1 (snd e fx false _ he) h2
        · exact lc_ok fx he h.1 h2
      · simp only [Bool.and_eq_true, Bool.not_eq_true'] at h
        obtain ⟨⟨h1, h2⟩, h3⟩ := h
        exact s_asgT fx.cn h1 (snd e fx false _ he) h2 (noSwap h3)
      · cases h
    · cases h
  | .asgc i e, X, sc, ow, fx, s, h => by
    unfold chkS at h
    split at h
    · simp only [Bool.and_eq_true] at h
      unfold evS
      exact s_asgc fx.cn h.1.1 (snd e fx false _ h.2) h.1.2
    · cases h
  | .mas is es, X, sc, ow, fx, s, h => by
    unfold chkS at h
    split at h
    · rename_i tg k1 p1 vs k2 p2 pos
      simp only [Bool.and_eq_true, decide_eq_true_eq] at h
      obtain ⟨⟨⟨⟨hl, hk⟩, hn⟩, hv⟩, hw⟩ := h
      unfold evS
      have pv := sndH es fx vs hv
      split at hw
      · rename_i r
        exact s_masA fx.cn hn pv (fun s ws s' z => by rw [evH_len z]; exact of_decide_eq_true hl) (swap_ok hk fx.cn.es r)
      · rename_i ns r
        have sw := swap_ok (k := k1) (k2 := k2) (p := p1) (p2 := p2) hk fx.cn.es r
        unfold swOk at hw
        split at hw
        · rw [Bool.and_eq_true, decide_eq_true_eq] at hw
          obtain ⟨hw, en⟩ := hw
          obtain ⟨a1, a2, a3, a4, a5⟩ := sw2_ok hw
          rw [en] at sw
          exact s_mas2 fx.cn a1 a2 a3 a4 a5 pv sw
        · simp only [Bool.and_eq_true, decide_eq_true_eq] at hw
          obtain ⟨⟨⟨w1, w2⟩, w3⟩, en⟩ := hw
          obtain ⟨a1, a2, a3, a4, a5⟩ := sw2_ok w1
          obtain ⟨b1, b2, b3, b4, b5⟩ := sw2_ok w2
          obtain ⟨c1, c2, c3, c4, c5⟩ := sw2_ok w3
          rw [en] at sw
          exact s_mas3 fx.cn a1 b1 c1 a2 a3 b3 a4 a5 b5 pv sw
        · cases hw
      · cases hw
    · cases h
  | .setit i q e, X, sc, ow, fx, s, h => by
    unfold chkS at h
    split at h
    · simp only [Bool.and_eq_true] at h
      unfold evS
      exact s_set_at fx.u1 (fx.cn.see h.1.1.1) (snd q fx false _ h.1.2) (snd e fx false _ h.2) h.1.1.2
    · cases h
  | .app i e, X, sc, ow, fx, s, h => by
    unfold chkS at h
    split at h
    · simp only [Bool.and_eq_true, decide_eq_true_eq] at h
      obtain ⟨⟨⟨⟨hm, hl⟩, hn⟩, hs⟩, he⟩ := h
      subst hm
      unfold evS
      exact s_app (fx.cn.see hs) (snd e fx false _ he) hn hl
    · cases h
  | .ext i e, X, sc, ow, fx, s, h => by
    unfold chkS at h
    split at h
    · simp only [Bool.and_eq_true, decide_eq_true_eq] at h
      obtain ⟨⟨⟨⟨hm, hl⟩, hn⟩, hs⟩, he⟩ := h
      subst hm
      unfold evS
      exact s_ext (fx.cn.see hs) (snd e fx false _ he) hn hl
    · cases h
  | .ex e, X, sc, ow, fx, s, h => by
    unfold chkS at h
    split at h
    · simp only [Bool.and_eq_true] at h
      unfold evS
      exact s_ex (snd e fx false _ h.2) h.1
    · cases h
  | .ret e, X, sc, ow, fx, s, h => by
    unfold chkS at h
    split at h
    · unfold evS
      exact s_ret (snd e fx false _ h)
    · cases h
  | .retN, X, sc, ow, fx, s, h => by
    unfold chkS at h
    split at h
    · unfold evS
      exact s_retN
    · cases h
  | .iff c a b, X, sc, ow, fx, s, h => by
    unfold chkS at h
    split at h
    · simp only [Bool.and_eq_true] at h
      unfold evS
      exact s_if (snd c fx true _ h.1.1) (sndSs a fx _ h.1.2) (sndSs b fx _ h.2)
    · cases h
  | .forr t it body, X, sc, ow, fx, s, h => by
    unfold chkS at h
    split at h
    · simp only [Bool.and_eq_true] at h
      unfold evS
      exact s_for (by rw [fx.xe]; exact PassesOwn.never) fx.cn.calm (sndI it fx _ _ _ h.1.2) (g_ok fx.cn t _ h.1.1.2) (sndSs body fx _ h.2) h.1.1.1
    · cases h
  | .whl c body, X, sc, ow, fx, s, h => by
    unfold chkS at h
    split at h
    · simp only [Bool.and_eq_true] at h
      unfold evS
      exact s_while W (by rw [fx.xe]; exact PassesOwn.never) (snd c fx true _ h.1) (sndSs body fx _ h.2)
    · cases h
  | .cont, X, sc, ow, fx, s, h => by
    unfold chkS at h
    split at h
    · unfold evS
      exact s_cont
    · cases h
  | .brk, X, sc, ow, fx, s, h => by
    unfold chkS at h
    split at h
    · unfold evS
      exact s_brk
    · cases h
  | .aug _ _ _, X, sc, ow, fx, s, h => by unfold chkS at h; cases h
theorem sndSs : ∀ (x : List DE.St) {X : Cx} {sc : Scope} {ow : Str → Bool} (fx : Fx g X sc ow pr W k) (s : List Stmt), chkSs g sc ow x s = true → PSs X s (TSv X.K (evSs pr.G (pr.calls W k) W x))
  | [], X, sc, ow, fx, s, h => by
    unfold chkSs at h
    cases s with
    | cons _ _ => cases h
    | nil =>
      unfold evSs
      exact ss_nil
  | a :: r, X, sc, ow, fx, s, h => by
    unfold chkSs at h
    split at h
    · rw [Bool.and_eq_true] at h
      unfold evSs
      exact ss_cons (sndS a fx _ h.1) (sndSs r fx _ h.2)
    · cases h
end
end
end DE
/-! DE: all the defs of a table keep what the evaluator tells of them. -/
namespace DE
open PySem PySem.Spec PyProof.Rows L2 RZ
/-- a def of the text: its function object, its entry in the table -/
structure DefOk (K : PySem.W.Frag) (pr : Prog) (gn : List Str) (pt : List Pt) (i : Nat) (f : Addr) (fd : FuncData) (ps : List Str) : Prop where
  ex : ∃ (x qual : Str) (params : Arguments) (body : List Stmt) (scope : Scope) (dvs : List V) (kws : List (Str × V)) (N : List Str) (fn : Fn), FunD K x qual params body scope dvs kws f fd ∧ pr.fns[i]? = some fn ∧ fn.n = N.length ∧
    C8.scC N ps scope = true ∧ chkSs ⟨N, gn, pt⟩ scope (fun _ => true) fn.body body = true
/-- a way to call, as it stands -/
structure PatT (K : PySem.W.Frag) (mg : Str → Option Value) (pr : Prog) (gn : List Str) (pt : List Pt) (q : Nat) (x : Str) (np : Nat) (ks : List Str) : Prop where
  ex : ∃ (t : Pat) (fn : Fn) (f : Addr) (fd : FuncData) (ps : List Str) (dv : List V) (ds : List Value), pr.pats[q]? = some t ∧ pr.fns[t.f]? = some fn ∧ mg x = some (.ref f) ∧ PySem.W.keepIn K (.ref f) = true ∧ Vals dv ds ∧ DFlt K t.arr dv ∧ (inls t.arr).Nodup ∧
    t.arr.length = ps.length ∧ t.arr.length ≤ fn.n ∧ (∀ (s : Shared) (us ws : List Value), K.In s.heap → us.length = np → ws.length = ks.length → BindsTo s fd ⟨us, ks.zip ws⟩ (ps.zip (arrA t.arr (us ++ ws) ds))) ∧ DefOk K pr gn pt t.f f fd ps
section
variable {P : Program} {w : World} {K : PySem.W.Frag} {mg : Str → Option Value} {pr : Prog} {gn : List Str} {pt : List Pt} {W : Nat}
theorem table_ok (hb : ∀ x ∈ bltNames, mg x = none) (hg : ∀ n x, gn[n]? = some x → ∃ v u d, mg x = some u ∧ RelV v u ∧ (∀ F H, DF K F H v d) ∧ pr.G n = some d) (hp : ∀ q p, pt[q]? = some p → PatT K mg pr gn pt q p.name p.np p.ks) :
    ∀ (k : Nat) {base : Heap} {i : Nat} {f : Addr} {fd : FuncData} {ps : List Str} {fn : Fn}, DefOk K pr gn pt i f fd ps → pr.fns[i]? = some fn → FnG P w K mg base k f fd ps (spF K pr W k i fn.n)
  | 0, base, i, f, fd, ps, fn, d, e => ⟨fun A outer s H args us vs Q _ _ _ _ _ _ want => by
    obtain ⟨_, _, _, _, _, _, _, _, z, _⟩ := want
    cases z⟩
  | k + 1, base, i, f, fd, ps, fn, d, e => by
    obtain ⟨x, qual, params, body, scope, dvs, kws, N, fn', F, e1, hn, hs, hc⟩ := d.ex
    rw [e] at e1
    cases e1
    obtain ⟨oc, od, dV, kV, doc, pm, an, cdv, ct, osl, rfl, lk, hcd, _, _⟩ := F.ex
    have Sc := C8.fnScope_by hs
    refine fn_body lk hcd Sc e hn fun A outer s H room grd => ?_
    have fx : Fx ⟨N, gn, pt⟩ (cxOf CX0 P w K mg base N qual scope f cdv A outer s H E0).nox scope (fun _ => true) pr W k :=
      { cn := ⟨rfl, Sc.nd, rfl, rfl, fun _ _ => rfl⟩
        xe := rfl
        room := room
        grd := grd
        glb := hg
        bls := hb
        pat := fun q p z => by
          obtain ⟨t, fn2, f2, fd2, ps2, dv, ds, h1, h2, h3, h4, h5, h6, h7, h8, h9, h10, h11⟩ := (hp q p z).ex
          exact ⟨t, fn2, f2, fd2, ps2, dv, ds, h1, h2, h3, h4, h5, h6, h7, h8, h9, h10, table_ok hb hg hp k h11 h2⟩ }
    exact sndSs fn.body fx body hc
end
end DE
/-! DE: a law at its head: what the module's objects are, the script, the end. -/
namespace DE
open PySem PySem.Spec PyProof.Rows L2 RZ
/-! ### data of the module -/
mutual
def datB (K : PySem.W.Frag) : D → Value → Bool
  | .none, u => match u with
    | .none => true
    | _ => false
  | .bool b, u => match u with
    | .bool c => b == c
    | _ => false
  | .int i, u => match u with
    | .int j _ => decide (i = j)
    | _ => false
  | .str x, u => match u with
    | .str y _ => decide (x = y)
    | _ => false
  | .tuple ds, u => match u with
    | .ref a => (match K.lookup a with
      | some ⟨.type c, none, .seq its _, _⟩ => decide (c = "tuple") && decide (its.size ≤ sizeLine) && datBs K ds its.toList
      | _ => false)
    | _ => false
  | _, _ => false
def datBs (K : PySem.W.Frag) : List D → List Value → Bool
  | [], us => us.isEmpty
  | d :: ds, us => match us with
    | u :: us => datB K d u && datBs K ds us
    | [] => false
end
mutual
theorem datB_ok {K : PySem.W.Frag} : ∀ (d : D) (u : Value), datB K d u = true → ∃ v, RelV v u ∧ ∀ F H, DF K F H v d
  | .none, u, h => by
    unfold datB at h
    split at h
    · exact ⟨.non, rfl, fun _ _ => .non⟩
    · cases h
  | .bool b, u, h => by
    unfold datB at h
    split at h
    · have := eq_of_beq h
      subst this
      exact ⟨.bl b, rfl, fun _ _ => .bl b⟩
    · cases h
  | .int i, u, h => by
    unfold datB at h
    split at h
    · have := of_decide_eq_true h
      subst this
      exact ⟨.int i, ⟨_, rfl⟩, fun _ _ => .int i⟩
    · cases h
  | .str x, u, h => by
    unfold datB at h
    split at h
    · have := of_decide_eq_true h
      subst this
      exact ⟨.str x, ⟨_, rfl⟩, fun _ _ => .str x⟩
    · cases h
  | .tuple ds, u, h => by
    unfold datB at h
    split at h
    · rename_i a
      split at h
      · rename_i c its n sl e
        simp only [Bool.and_eq_true, decide_eq_true_eq] at h
        obtain ⟨⟨hc, hz⟩, hs⟩ := h
        subst hc
        obtain ⟨vs, r, q⟩ := datBs_ok ds its.toList hs
        exact ⟨.ref a, rfl, fun F H => .tup (.inr ⟨_, its, n, e, rfl, rfl, rfl, hz, r⟩) (q F H)⟩
      · cases h
    · cases h
  | .list _, u, h => by unfold datB at h; cases h
  | .dict _, u, h => by unfold datB at h; cases h
theorem datBs_ok {K : PySem.W.Frag} : ∀ (ds : List D) (us : List Value), datBs K ds us = true → ∃ vs, Vals vs us ∧ ∀ F H, DFs K F H vs ds
  | [], us, h => by
    unfold datBs at h
    cases us with
    | nil => exact ⟨[], .nil, fun _ _ => .nil⟩
    | cons _ _ => cases h
  | d :: ds, us, h => by
    unfold datBs at h
    cases us with
    | nil => cases h
    | cons u us =>
      rw [Bool.and_eq_true] at h
      obtain ⟨v, r, q⟩ := datB_ok d u h.1
      obtain ⟨vs, rs, qs⟩ := datBs_ok ds us h.2
      exact ⟨v :: vs, .cons r rs, fun F H => .cons (q F H) (qs F H)⟩
end
/-- the module's name x is this data -/
def gloB (K : PySem.W.Frag) (x : Str) (d : D) : Bool := match PySem.W.nsIn K mainGlobals x with
  | some (some u) => datB K d u
  | _ => false
theorem gloB_ok {K : PySem.W.Frag} {x : Str} {d : D} {h : Heap} {mg : Str → Option Value} (X : K.In h) (G : h.Ns mainGlobals mg) (c : gloB K x d = true) : ∃ v u, mg x = some u ∧ RelV v u ∧ ∀ F H, DF K F H v d := by
  unfold gloB at c
  split at c
  · rename_i u e
    obtain ⟨v, r, q⟩ := datB_ok d u c
    exact ⟨v, u, PySem.W.mg_of X G e, r, q⟩
  · cases c
/-- no list is known from the start -/
def noL (K : PySem.W.Frag) : Bool := K.all fun q => match q.2.cls with
  | .type c => !(c == "list")
  | _ => true
theorem noL_ok {K : PySem.W.Frag} (h : noL K = true) {a : Addr} {o : Obj} (e : K.lookup a = some o) (hc : o.cls = .type "list") : False := by
  have key : ∀ {l : List (Addr × Obj)}, (l.all fun q => match q.2.cls with
      | .type c => !(c == "list")
      | _ => true) = true → l.lookup a = some o → False := by
    intro l
    induction l with
    | nil => intro _ z; cases z
    | cons q l ih =>
      intro h1 h2
      rw [List.all_cons, Bool.and_eq_true] at h1
      obtain ⟨b, ob⟩ := q
      rw [List.lookup_cons] at h2
      split at h2
      · cases h2
        have h3 := h1.1
        simp only [hc] at h3
        cases h3
      · exact ih h1.2 h2
  exact key h e
/-! ### the script -/
abbrev scrO (vs : List Value) : Obj := { cls := .type "list", data := .seq vs.toArray }
def scrH (a : Addr) (vs : List Value) (ns : List Int) : Hp := fun b => if b = a then some (.frz (scrO vs) (.lst (ns.map V.int))) else none
theorem scrH_at {a : Addr} {vs : List Value} {ns : List Int} : scrH a vs ns a = some (.frz (scrO vs) (.lst (ns.map V.int))) := if_pos rfl
theorem scrH_ne {a b : Addr} {vs : List Value} {ns : List Int} (h : b ≠ a) : scrH a vs ns b = none := if_neg h
theorem scrH_some {a b : Addr} {vs : List Value} {ns : List Int} (h : scrH a vs ns b ≠ none) : b = a := Classical.byContradiction fun z => h (scrH_ne z)
theorem ints_DF {K : PySem.W.Frag} {F : Addr → Prop} {H : Hp} : ∀ {ns : List Int}, DFs K F H (ns.map V.int) (ns.map .int)
  | [] => .nil
  | n :: ns => .cons (.int n) ints_DF
section
variable {P : Program} {w : World} {K : PySem.W.Frag} {mg mb : Str → Option Value} {k : Nat} {fa a : Addr} {fd : FuncData} {x : Str} {sp : List V → Hp → VK → Prop} {s : Shared} {vs : List Value} {ns : List Int}
theorem endG (KX : K.In s.heap) (G : s.heap.Ns mainGlobals mg) (hb : s.heap.Ns builtinsNs mb) (hbb : ∀ x : Str, x ≠ "__name__" → mb x = bootBuiltins x) (hlim : s.heap.NoLimit) (hg : s.gens = #[]) (ha : s.heap.get? a = some (scrO vs)) (hi : IntsAre vs ns)
    (hl : ns.length ≤ sizeLine) (hr : Room k callerA) (nl : noL K = true) (F : ∀ base : Heap, K.In base → base.Ns mainGlobals mg → FnG P w K mg base k fa fd [x] sp) (hbind : ∀ (s : Shared) (u : Value), BindsTo s fd ⟨[u], []⟩ [(x, u)])
    (hsp : sp [.ref a] (scrH a vs ns) fun v _ => v = .bl true) :
    codeAny (model P w) callerA (.call (.ref fa) ⟨[.ref a], []⟩) (fun r s' => r = .ok (.ret (.bool true)) ∧ OldK s.heap s'.heap ∧ s'.os = s.os ∧ AllBare s'.gens) s := by
  have hH : HOk P w (scrH a vs ns) s.heap := by
    intro b u e
    have eb : b = a := scrH_some (by rw [e]; exact fun z => by cases z)
    subst eb
    rw [scrH_at] at e
    cases e
    exact ⟨ha, by rw [List.length_map]; exact hl, vs, _, vals_ints hi, ha⟩
  -- all but the script stands in the base
  have old : ∀ {b : Addr} {o : Obj}, s.heap.get? b = some o → b ≠ a → (hidT s.heap (scrH a vs ns)).get? b = some o := fun e z => hidT_get e (scrH_ne z)
  have dct : ∀ {b : Addr} {m : Str → Option Value}, s.heap.Ns b m → (hidT s.heap (scrH a vs ns)).Ns b m := fun {b m} z => by
    obtain ⟨o, es, ep, e, d, r⟩ := z
    refine ⟨o, es, ep, old e fun z => ?_, d, r⟩
    subst z
    rw [ha] at e
    cases e
    cases d
  have KB : K.In (hidT s.heap (scrH a vs ns)) := fun b o e => old (KX b o e) fun z => by
    subst z
    have e2 := KX b o e
    rw [ha] at e2
    cases e2
    exact noL_ok nl e rfl
  have en : Env0 P w K mg (hidT s.heap (scrH a vs ns)) callerA [] s (scrH a vs ns) :=
    { frames := rfl
      mod := ⟨KB, dct G, ⟨mb, dct hb, hbb⟩, by obtain ⟨mc, h1, h2⟩ := hlim; exact ⟨mc, dct h1, h2⟩⟩
      bs := fun b o e => of_hidT e
      bsz := Nat.le_of_eq (hidT_size _ _)
      funs := trivial
      frf := fun b z => by cases z
      hok := hH
      bare := .of_eq hg }
  refine codeAny_mono ((F _ KB (dct G)).run callerA [] s _ ⟨[.ref a], []⟩ [.ref a] [.ref a] _ hr rfl en (hbind s (.ref a)) (.cons rfl .nil) rfl hsp) fun r s' z => ?_
  cases r with
  | error e => exact z.elim
  | ok fl =>
    cases fl with
    | next => exact z.elim
    | brk => exact z.elim
    | cont => exact z.elim
    | ret u =>
      obtain ⟨v, H', os, bare, un, hok', r', q⟩ := z
      have q' : v = .bl true := q
      subst q'
      have eu : u = Value.bool true := r'
      subst eu
      refine ⟨rfl, OldK.of_keep fun b o e => ?_, os, bare⟩
      by_cases eb : b = a
      · subst eb
        have z2 := un.frzs b _ _ scrH_at
        obtain ⟨e2, _⟩ := hok' b _ z2
        rw [ha] at e
        cases e
        exact e2
      · exact un.keep b o e (scrH_ne eb) (fun z => by cases z) (fun z => by cases z)
end
end DE
/-! DE: the head's look, ways to call, a law by its run. -/
namespace DE
open PySem PySem.Spec PyProof.Rows L2 RZ
/-! ### the look -/
def lookK (g : Addr → Option Obj) (n : Nat) : PySem.W.Frag := He.frG g (He.asD g n)
def lookE (n : Nat) (fa : List He.Fa) (fn : List He.DefD) (ck : PySem.W.Frag → Bool) (g : Addr → Option Obj) : He.AlD × Bool := (He.obsD fa fn (lookK g n), ck (lookK g n))
def eye (n : Nat) (fa : List He.Fa) (fn : List He.DefD) (ck : PySem.W.Frag → Bool) : PySem.W.Hook where
  α := He.AlD × Bool
  obs := fun s => lookE n fa fn ck s.heap.get?
  val := fun _ => (He.valD fn, true)
  says := fun _ h => ∃ K : PySem.W.Frag, K.In h ∧ He.SaysD fa fn K ∧ ck K = true
  of := fun _ s e => ⟨lookK s.heap.get? n, He.frG_in, congrArg Prod.fst e, congrArg Prod.snd e⟩
  keeps := fun _ _ _ h k => by
    obtain ⟨K, a, b⟩ := h
    exact ⟨K, PySem.W.Frag.In.keeps a k, b⟩
def eyeT (n : Nat) (fa : List He.Fa) (fn : List He.DefD) (ck : PySem.W.Frag → Bool) (s : PySem.W.SharedT) : He.AlD × Bool := lookE n fa fn ck (HandSHeadRun.getT s)
theorem eyeT_eq {n : Nat} {fa : List He.Fa} {fn : List He.DefD} {ck : PySem.W.Frag → Bool} (s : PySem.W.SharedT) : eyeT n fa fn ck s = (eye n fa fn ck).obs s.abs := by
  have e : HandSHeadRun.getT s = s.abs.heap.get? := funext (HandSHeadRun.getT_eq s)
  show lookE n fa fn ck (HandSHeadRun.getT s) = lookE n fa fn ck s.abs.heap.get?
  rw [e]
/-- a default's value is this data -/
def vB (K : PySem.W.Frag) : V → D → Bool
  | .ref a, d => datB K d (.ref a)
  | .non, d => match d with
    | .none => true
    | _ => false
  | .bl b, d => match d with
    | .bool c => b == c
    | _ => false
  | .int i, d => match d with
    | .int j => decide (i = j)
    | _ => false
  | .str x, d => match d with
    | .str y => decide (x = y)
    | _ => false
  | _, _ => false
theorem vB_ok {K : PySem.W.Frag} {v : V} {d : D} (h : vB K v d = true) : ∀ F H, DF K F H v d := by
  intro F H
  unfold vB at h
  split at h
  · rename_i a
    obtain ⟨v', r, q⟩ := datB_ok _ _ h
    have e : v' = .ref a := by
      cases v' <;> first | (cases r; rfl) | (obtain ⟨_, r⟩ := r; cases r) | cases r
    rw [← e]
    exact q F H
  · split at h
    · exact .non
    · cases h
  · split at h
    · rw [eq_of_beq h]; exact .bl _
    · cases h
  · split at h
    · rw [of_decide_eq_true h]; exact .int _
    · cases h
  · split at h
    · rw [of_decide_eq_true h]; exact .str _
    · cases h
  · cases h
/-! ### ways to call -/
def dfB (K : PySem.W.Frag) : List (Sum Nat D) → List V → Bool
  | [], [] => true
  | .inl _ :: r, ds => dfB K r ds
  | .inr x :: r, d :: ds => vB K d x && dfB K r ds
  | _, _ => false
theorem dfB_ok {K : PySem.W.Frag} : ∀ {arr : List (Sum Nat D)} {ds : List V}, dfB K arr ds = true → DFlt K arr ds
  | [], [], _ => trivial
  | [], _ :: _, h => by cases h
  | .inl _ :: r, ds, h => by
    show DFlt K r ds
    exact dfB_ok (arr := r) (ds := ds) (by unfold dfB at h; exact h)
  | .inr x :: r, [], h => by cases h
  | .inr x :: r, d :: ds, h => by
    unfold dfB at h
    rw [Bool.and_eq_true] at h
    exact ⟨vB_ok h.1, dfB_ok h.2⟩
theorem vals_pick {vs : List V} {us : List Value} (r : Vals vs us) : ∀ {js : List Nat}, (js.all fun j => decide (j < vs.length)) = true → Vals (js.map fun j => vs.getD j .non) (js.map fun j => us.getD j .none)
  | [], _ => .nil
  | j :: js, h => by
    rw [List.all_cons, Bool.and_eq_true, decide_eq_true_eq] at h
    refine .cons ?_ (vals_pick r h.2)
    obtain ⟨u, e, q⟩ := r.get (List.getElem?_eq_getElem h.1)
    show RelV (vs.getD j .non) (us.getD j .none)
    rw [List.getD_eq_getElem?_getD, List.getD_eq_getElem?_getD, List.getElem?_eq_getElem h.1, e]
    exact q
section
variable {K : PySem.W.Frag} {mg : Str → Option Value} {pr : Prog} {gn : List Str} {pt : List Pt} {x : Str} {params : Arguments} {body : List Stmt} {scope : Scope} {dvs : List V} {kws : List (Str × V)} {f : Addr} {fd : FuncData} {ps N : List Str} {fn : Fn} {q i np : Nat} {ks : List Str} {arr : List (Sum Nat D)}
/-- what of a way to call is plain -/
def patB (pr : Prog) (q i : Nat) (arr : List (Sum Nat D)) (ps : List Str) (n : Nat) : Bool := (match pr.pats[q]? with
  | some t => decide (t.f = i) && decide (t.arr.length = arr.length)
  | none => false) && decide (inls arr).Nodup && decide (arr.length = ps.length) && decide (arr.length ≤ n)
theorem patA (F : FunD K x x params body scope [] kws f fd) (d : DefOk K pr gn pt i f fd ps) (hm : mg x = some (.ref f)) (hq : pr.pats[q]? = some ⟨i, arr⟩) (hf : pr.fns[i]? = some fn) (h1 : (decide (inls arr).Nodup && decide (arr.length = ps.length) && decide (arr.length ≤ fn.n)) = true) (h2 : dfB K arr [] = true)
    (h : ∀ (kV doc pm : Value) (an : Option Addr) (cdv ct : Value) (us ws : List Value), us.length = np → ws.length = ks.length → bindArgs (PySem.W.fnOf x x params body scope .none kV doc pm an cdv ct) ⟨us, ks.zip ws⟩ = pure (ps.zip (arrA arr (us ++ ws) []))) :
    PatT K mg pr gn pt q x np ks := by
  simp only [Bool.and_eq_true, decide_eq_true_eq] at h1
  refine ⟨_, fn, f, fd, ps, [], [], hq, hf, hm, F.kp, .nil, dfB_ok h2, h1.1.1, h1.1.2, h1.2, ?_, d⟩
  obtain ⟨oc, od, dV, kV, doc, pm, an, cdv, ct, osl, rfl, lk, hcd, hD, hK⟩ := F.ex
  rcases hD with ⟨_, rfl⟩ | ⟨e, _⟩
  · exact fun s us ws _ e1 e2 => .of_eq (h kV doc pm an cdv ct us ws e1 e2)
  · exact absurd rfl e
theorem patD (F : FunD K x x params body scope dvs kws f fd) (d : DefOk K pr gn pt i f fd ps) (hm : mg x = some (.ref f)) (js : List Nat) (hq : pr.pats[q]? = some ⟨i, arr⟩) (hf : pr.fns[i]? = some fn) (h1 : (decide (inls arr).Nodup && decide (arr.length = ps.length) && decide (arr.length ≤ fn.n)) = true)
    (h2 : dfB K arr (js.map fun j => dvs.getD j .non) = true) (h3 : (js.all fun j => decide (j < dvs.length)) = true) (hd : dvs ≠ [])
    (h : ∀ (T : Addr) (kV doc pm : Value) (an : Option Addr) (cdv ct : Value) (us ws its : List Value), us.length = np → ws.length = ks.length → its.length = dvs.length →
      ∃ k, bindArgs (PySem.W.fnOf x x params body scope (.ref T) kV doc pm an cdv ct) ⟨us, ks.zip ws⟩ = seqItems? (.ref T) >>= k ∧ k (some its.toArray) = pure (ps.zip (arrA arr (us ++ ws) (js.map fun j => its.getD j .none)))) :
    PatT K mg pr gn pt q x np ks := by
  simp only [Bool.and_eq_true, decide_eq_true_eq] at h1
  obtain ⟨oc, od, dV, kV, doc, pm, an, cdv, ct, osl, rfl, lk, hcd, hD, hK⟩ := F.ex
  rcases hD with ⟨e, _⟩ | ⟨_, T, o, its, m, rfl, lT, oT, rT⟩
  · exact absurd e hd
  · refine ⟨_, fn, f, _, ps, js.map fun j => dvs.getD j .non, js.map fun j => its.getD j .none, hq, hf, hm, F.kp, vals_pick rT h3, dfB_ok h2, h1.1.1, h1.1.2, h1.2, fun s us ws X e1 e2 => ?_, d⟩
    obtain ⟨k, e3, e4⟩ := h T kV doc pm an cdv ct us ws its e1 e2 rT.length.symm
    refine BindsTo.of_looks fun M => ?_
    rw [e3]
    exact looks_items X lT oT (PySem.W.Looks.of_pure e4)
end
/-! ### a law by its run -/
section
variable {K : PySem.W.Frag} {pr : Prog} {W k i n : Nat} {a : Addr} {vs : List Value} {ns : List Int} {h' : List Cell}
theorem script_run (e : pr.run W k i [.d (.list (ns.map .int))] [] = some (.d (.bool true), h')) : spF K pr W k i n [.ref a] (scrH a vs ns) fun v _ => v = .bl true := by
  refine ⟨[], fun _ => False, [.d (.list (ns.map .int))], [], _, h', rfl, ?_, e, fun ι' F' s' σ' H' v _ _ _ rv _ _ => ?_⟩
  · have own : ∀ j b, ¬ OwnA (entry n [.d (.list (ns.map .int))] []) (entryS n [.ref a]) j b := fun j b z => by
      obtain ⟨w, h1, h2, _⟩ := z
      have h3 := entry_at h1
      cases j with
      | zero => cases h3; cases h2
      | succ j => cases h3
    refine ⟨fun j w e => ?_, fun j _ b z => (own j b z).elim, rfl, fun m kvs z => (by cases z), .nil, fun j b z => (own j b z).elim, fun b z => (by cases z), fun b z => z.elim, ?_⟩
    · have h3 := entry_at e
      cases j with
      | succ j => cases h3
      | zero =>
        cases h3
        exact ⟨.ref a, entryS_at rfl, DF.lst (.inr ⟨_, scrH_at⟩) ints_DF⟩
    · simp [entry, entryS]
  · cases rv.1
    rfl
end
theorem law_deep {l : PySem.W.OpenLaw} {n k : Nat} {q : Program} {loose : List Str} {XP : (Str → Option Value) → Heap → Prop} {YP : World → Heap → Prop} {d : DefRec} {x : Str} {pr : Prog} {W i m : Nat} (hn : l.most = some n) (hn2 : n ≤ sizeLine) (hdf : d.params.defaults = []) (hr : Room k callerA)
    (F : ∀ (w : World) (mg : Str → Option Value) (fa : Addr) (h : Heap), YP w h → h.Ns mainGlobals mg → mg d.name = some (.ref fa) →
      ∃ (K : PySem.W.Frag) (fd : FuncData), K.In h ∧ noL K = true ∧ (∀ (s : Shared) (u : Value), BindsTo s fd ⟨[u], []⟩ [(x, u)]) ∧ ∀ base : Heap, K.In base → base.Ns mainGlobals mg → FnG l.prog w K mg base k fa fd [x] (spF K pr W k i m))
    (holds : ∀ ns : List Int, ns.length ≤ n → (∀ z ∈ ns, Builtin.Int.intBits z ≤ 1048576) → ∃ h', pr.run W k i [.d (.list (ns.map .int))] [] = some (.d (.bool true), h')) :
    PySem.W.WalkO q loose XP YP l.row.toRowW d [] (fun f vs => PySem.call f vs) := by
  refine Att.attach_callB hn hdf fun w s0 s1 mg mb fa o pm cd doc a vs ns G Y _ _ _ hmg hobj hints hlen hbits hg => ?_
  obtain ⟨K, fd, KX, nl, hb, hF⟩ := F w mg fa _ Y G.T.g hmg
  obtain ⟨h', e⟩ := holds ns hlen hbits
  exact endG KX G.T.g G.T.b G.T.builtins G.T.nolimit hg hobj hints (Nat.le_trans hlen hn2) hr nl hF hb (script_run e)
end DE
/-! DE: a law's table. -/
namespace DE
open PySem PySem.Spec PyProof.Rows L2 RZ
/-- keyword-only defaults that lack among the written ones -/
theorem patK {K : PySem.W.Frag} {mg : Str → Option Value} {pr : Prog} {gn : List Str} {pt : List Pt} {x : Str} {params : Arguments} {body : List Stmt} {scope : Scope} {kws : List (Str × V)} {f : Addr} {fd : FuncData} {ps : List Str} {fn : Fn} {q i np : Nat} {ks : List Str} {arr : List (Sum Nat D)}
    (F : FunD K x x params body scope [] kws f fd) (d : DefOk K pr gn pt i f fd ps) (hm : mg x = some (.ref f)) (ms : List (Str × V)) (hq : pr.pats[q]? = some ⟨i, arr⟩) (hf : pr.fns[i]? = some fn) (h1 : (decide (inls arr).Nodup && decide (arr.length = ps.length) && decide (arr.length ≤ fn.n)) = true)
    (h2 : dfB K arr (ms.map (·.2)) = true) (h3 : ∀ z ∈ ms, z ∈ kws) (hd : kws ≠ [])
    (h : ∀ (D : Addr) (doc pm : Value) (an : Option Addr) (cdv ct : Value) (us ws mv : List Value), us.length = np → ws.length = ks.length → mv.length = ms.length →
      KwChain D ((ms.map (·.1)).zip mv) (bindArgs (PySem.W.fnOf x x params body scope .none (.ref D) doc pm an cdv ct) ⟨us, ks.zip ws⟩) (ps.zip (arrA arr (us ++ ws) mv))) :
    PatT K mg pr gn pt q x np ks := by
  simp only [Bool.and_eq_true, decide_eq_true_eq] at h1
  obtain ⟨oc, od, dV, kV, doc, pm, an, cdv, ct, osl, rfl, lk, hcd, hD, hK⟩ := F.ex
  rcases hD with ⟨_, rfl⟩ | ⟨e, _⟩
  · rcases hK with e | ⟨D, rfl, hv⟩
    · exact absurd e hd
    · obtain ⟨mv, e1, e2, e3⟩ := kwd_vals (ms := ms) fun z hz => hv z (h3 z hz)
      refine ⟨_, fn, f, _, ps, ms.map (·.2), mv, hq, hf, hm, F.kp, e2, dfB_ok h2, h1.1.1, h1.1.2, h1.2, fun s us ws X l1 l2 => ?_, d⟩
      exact BindsTo.of_looks fun M => KwChain.looks X e3 (h D doc pm an cdv ct us ws mv l1 l2 e1)
  · exact absurd rfl e
/-- a def of the table -/
structure DRow where
  nm : Str
  st : Stmt
  N : List Str
  ps : List Str
  dfl : List He.Dv := []
  kwd : List (Str × He.Dv) := []
def DRow.d (r : DRow) : He.DefD := ⟨(r.nm, none), r.nm, r.nm, defArgs r.st, defBody r.st, defScope r.st, r.dfl, r.kwd⟩
def faOf (rows : List DRow) : List He.Fa := rows.map (fun r => .glo r.nm) ++ bltNames.map .free
def chkRow (pr : Prog) (gn : List Str) (pt : List Pt) (r : DRow) (fn : Fn) : Bool := decide (fn.n = r.N.length) && C8.scC r.N r.ps (defScope r.st) && chkSs ⟨r.N, gn, pt⟩ (defScope r.st) (fun _ => true) fn.body (defBody r.st)
/-- the keyword-only default x of the def f, if it is an object -/
def kwAt (f x : Str) (K : PySem.W.Frag) : Addr := match K.lookup (He.ga K f) with
  | some ⟨_, _, .func fd, _⟩ => (match fd.kwdefaults with
    | .ref D => (match PySem.W.nsIn K D x with
      | some (some (.ref a)) => a
      | _ => 0)
    | _ => 0)
  | _ => 0
structure Tbl where
  pr : Prog
  rows : List DRow
  gl : List (Str × D)
  pt : List Pt
def Tbl.gn (t : Tbl) : List Str := t.gl.map (·.1)
def Tbl.ck (t : Tbl) (more : PySem.W.Frag → Bool) (K : PySem.W.Frag) : Bool := noL K && (t.gl.all fun q => gloB K q.1 q.2) && more K
/-- what the head's look tells -/
structure Said (t : Tbl) (more : PySem.W.Frag → Bool) (K : PySem.W.Frag) (mg : Str → Option Value) : Prop where
  c : He.SaysD (faOf t.rows) (t.rows.map DRow.d) K
  k : t.ck more K = true
  h : ∃ h : Heap, K.In h ∧ h.Ns mainGlobals mg
section
variable {t : Tbl} {more : PySem.W.Frag → Bool} {K : PySem.W.Frag} {mg : Str → Option Value}
theorem Said.noL (s : Said t more K mg) : DE.noL K = true := by
  have h := s.k
  unfold Tbl.ck at h
  simp only [Bool.and_eq_true] at h
  exact h.1.1
theorem Said.mor (s : Said t more K mg) : more K = true := by
  have h := s.k
  unfold Tbl.ck at h
  simp only [Bool.and_eq_true] at h
  exact h.2
theorem Said.glo (s : Said t more K mg) {i : Nat} {r : DRow} (h : t.rows[i]? = some r) : mg r.nm = some (.ref (He.ga K r.nm)) := by
  obtain ⟨hp, X, G⟩ := s.h
  refine He.glo_ok X G (s.c.fact i (f := .glo r.nm) ?_)
  have hi := (List.getElem?_eq_some_iff.mp h).1
  unfold faOf
  rw [List.getElem?_append_left (by simpa using hi), List.getElem?_map, h]
  rfl
theorem Said.blt (s : Said t more K mg) : ∀ x ∈ bltNames, mg x = none := fun x hx => by
  obtain ⟨hp, X, G⟩ := s.h
  obtain ⟨j, hj⟩ := List.mem_iff_getElem?.mp hx
  refine He.free_ok X G (s.c.fact (t.rows.length + j) (f := .free x) ?_)
  unfold faOf
  rw [List.getElem?_append_right (by simp), List.getElem?_map]
  simp [hj]
theorem Said.def_ (s : Said t more K mg) {i : Nat} {r : DRow} (h : t.rows[i]? = some r) : ∃ fd, FunD K r.nm r.nm (defArgs r.st) (defBody r.st) (defScope r.st) (r.d.dvs K) (r.d.kws K) (He.ga K r.nm) fd :=
  s.c.def_ i (d := r.d) (by rw [List.getElem?_map, h]; rfl)
theorem Said.defOk (s : Said t more K mg) {i : Nat} {r : DRow} {fn : Fn} {fd : FuncData} (F : FunD K r.nm r.nm (defArgs r.st) (defBody r.st) (defScope r.st) (r.d.dvs K) (r.d.kws K) (He.ga K r.nm) fd) (hf : t.pr.fns[i]? = some fn) (hc : chkRow t.pr t.gn t.pt r fn = true) :
    DefOk K t.pr t.gn t.pt i (He.ga K r.nm) fd r.ps := by
  unfold chkRow at hc
  simp only [Bool.and_eq_true, decide_eq_true_eq] at hc
  exact ⟨_, _, _, _, _, _, _, r.N, fn, F, hf, hc.1.1, hc.1.2, hc.2⟩
theorem Said.glb (s : Said t more K mg) (hg : t.pr.globs = t.gl.map (·.2)) : ∀ n x, t.gn[n]? = some x → ∃ v u d, mg x = some u ∧ RelV v u ∧ (∀ F H, DF K F H v d) ∧ t.pr.G n = some d := fun n x hx => by
  obtain ⟨hp, X, G⟩ := s.h
  unfold Tbl.gn at hx
  rw [List.getElem?_map] at hx
  obtain ⟨q, e1, e2⟩ := mapSome hx
  have h := s.k
  unfold Tbl.ck at h
  simp only [Bool.and_eq_true, List.all_eq_true] at h
  obtain ⟨v, u, g1, g2, g3⟩ := gloB_ok X G (h.1.2 q (List.mem_of_getElem? e1))
  refine ⟨v, u, q.2, by rw [← e2]; exact g1, g2, g3, ?_⟩
  show t.pr.globs[n]? = _
  rw [hg, List.getElem?_map, e1]
  rfl
end
theorem sub_of {α : Type} {l ms : List α} {js : List Nat} (h : js.map (fun j => l[j]?) = ms.map some) : ∀ z ∈ ms, z ∈ l := fun z hz => by
  have h1 : some z ∈ js.map (fun j => l[j]?) := by rw [h]; exact List.mem_map_of_mem hz
  obtain ⟨j, _, e⟩ := List.mem_map.mp h1
  exact List.mem_of_getElem? e
/-- a law by its table -/
theorem law_tbl {t : Tbl} {more : PySem.W.Frag → Bool} {N : Nat} {l : PySem.W.OpenLaw} {n k : Nat} {q : Program} {loose : List Str} {XP : (Str → Option Value) → Heap → Prop} {d : DefRec} {x : Str} {W i : Nat} {r : DRow} {fn : Fn} (hn : l.most = some n) (hn2 : n ≤ sizeLine) (hdf : d.params.defaults = []) (hr : Room k callerA)
    (hg : t.pr.globs = t.gl.map (·.2)) (hrow : t.rows[i]? = some r) (hfn : t.pr.fns[i]? = some fn) (hps : r.ps = [x]) (hname : d.name = r.nm) (hdfl : r.dfl = [])
    (pats : ∀ (K : PySem.W.Frag) (mg : Str → Option Value), Said t more K mg → ∀ q p, t.pt[q]? = some p → PatT K mg t.pr t.gn t.pt q p.name p.np p.ks)
    (hc : chkRow t.pr t.gn t.pt r fn = true) (hb : ∀ (kV doc pm : Value) (an : Option Addr) (cdv ct u : Value), bindArgs (PySem.W.fnOf r.nm r.nm (defArgs r.st) (defBody r.st) (defScope r.st) .none kV doc pm an cdv ct) ⟨[u], []⟩ = pure [(x, u)])
    (holds : ∀ ns : List Int, ns.length ≤ n → (∀ z ∈ ns, Builtin.Int.intBits z ≤ 1048576) → ∃ h', t.pr.run W k i [.d (.list (ns.map .int))] [] = some (.d (.bool true), h')) :
    PySem.W.WalkO q loose XP (eye N (faOf t.rows) (t.rows.map DRow.d) (t.ck more)).says l.row.toRowW d [] (fun f vs => PySem.call f vs) := by
  refine law_deep (W := W) (i := i) (m := fn.n) (x := x) hn hn2 hdf hr (fun w mg fa h Y G hmg => ?_) holds
  obtain ⟨K, KX, c, ck⟩ := Y
  have S : Said t more K mg := ⟨c, ck, h, KX, G⟩
  have e := S.glo hrow
  rw [← hname, hmg] at e
  cases e
  obtain ⟨fd, F⟩ := S.def_ hrow
  refine ⟨K, fd, KX, S.noL, fun s u => ?_, fun base _ _ => ?_⟩
  · obtain ⟨oc, od, dV, kV, doc, pm, an, cdv, ct, osl, rfl, lk, hcd, hD, hK⟩ := F.ex
    rcases hD with ⟨_, rfl⟩ | ⟨e, _⟩
    · exact .of_eq (hb kV doc pm an cdv ct u)
    · exact absurd (show r.d.dvs K = [] by show r.dfl.map _ = []; rw [hdfl]; rfl) e
  · have D := S.defOk F hfn hc
    rw [hps, ← hname] at D
    rw [← hname] at F
    exact table_ok S.blt (S.glb hg) (pats K mg S) k D hfn
end DE
/-! DE: runs, step by step. -/
namespace DE
open PySem
def wp {α : Type} (o : Option α) (P : α → Prop) : Prop := ∃ a, o = some a ∧ P a
section
variable {α β : Type} {P : α → Prop}
theorem wp_some {a : α} (h : P a) : wp (some a) P := ⟨a, rfl, h⟩
theorem wp_of {o : Option α} {a : α} (e : o = some a) (h : P a) : wp o P := ⟨a, e, h⟩
theorem wp_imp {o : Option α} {Q : α → Prop} (h : wp o P) (i : ∀ a, P a → Q a) : wp o Q := by
  obtain ⟨a, e, p⟩ := h
  exact ⟨a, e, i a p⟩
theorem wp_bind {o : Option β} {f : β → Option α} (h : wp o fun a => wp (f a) P) : wp (o.bind f) P := by
  obtain ⟨a, rfl, b, e, p⟩ := h
  exact ⟨b, e, p⟩
theorem wp_map {o : Option β} {f : β → α} (h : wp o fun a => P (f a)) : wp (o.map f) P := by
  obtain ⟨a, rfl, p⟩ := h
  exact ⟨_, rfl, p⟩
end
/-! ### expressions -/
section
variable {f g h : RunE} {s s1 s2 s3 : S} {P : SV × S → Prop} {C : Call} {p : Nat} {gs gs' : S → Option (List SV × S)} {ds : S → Option (List D × S)}
theorem wp_one {k : S → SV → Option SV} (q : wp (f s) fun r => wp (k r.2 r.1) fun w => P (w, r.2)) : wp (eOne f k s) P := wp_bind (wp_imp q fun _ z => wp_map z)
theorem wp_two {k : S → SV → SV → Option SV} (q : wp (f s) fun r => wp (g r.2) fun t => wp (k t.2 r.1 t.1) fun w => P (w, t.2)) : wp (eTwo f g k s) P := wp_bind (wp_imp q fun _ z => wp_bind (wp_imp z fun _ z => wp_map z))
theorem wp_call (q : wp (gs s) fun r => wp (gs' r.2) fun t => wp (C p (r.1 ++ t.1) t.2.h) fun w => P (w.1, { t.2 with h := w.2 })) : wp (eCall C p gs gs' s) P := wp_bind (wp_imp q fun _ z => wp_bind (wp_imp z fun _ z => wp_map z))
/-- a call whose arguments are plain -/
theorem wp_callR {ws us : List SV} (e1 : gs s = some (ws, s1)) (e2 : gs' s1 = some (us, s2)) (q : wp (C p (ws ++ us) s2.h) fun w => P (w.1, { s2 with h := w.2 })) : wp (eCall C p gs gs' s) P := wp_call (wp_of e1 (wp_of e2 q))
theorem wp_data {k : List D → SV} (q : wp (ds s) fun r => P (k r.1, r.2)) : wp (eData ds k s) P := wp_map q
theorem wp_not (q : wp (tests f s) fun r => P (.d (.bool (!r.1)), r.2)) : wp (eNot f s) P := wp_map q
theorem wp_ite (q : wp (tests f s) fun r => if r.1 = true then wp (g r.2) P else wp (h r.2) P) : wp (eIte f g h s) P := wp_bind (wp_imp q fun r z => by
  dsimp only at z ⊢
  split <;> rename_i c
  · rw [if_pos c] at z; exact z
  · rw [if_neg c] at z; exact z)
theorem wp_and (q : wp (tests f s) fun r => if r.1 = true then wp (g r.2) P else P (.d (.bool false), r.2)) : wp (eAnd f g s) P := wp_bind (wp_imp q fun r z => by
  dsimp only at z ⊢
  split <;> rename_i c
  · rw [if_pos c] at z; exact z
  · rw [if_neg c] at z; exact ⟨_, rfl, z⟩)
theorem wp_or (q : wp (tests f s) fun r => if r.1 = true then P (.d (.bool true), r.2) else wp (g r.2) P) : wp (eOr f g s) P := wp_bind (wp_imp q fun r z => by
  dsimp only at z ⊢
  split <;> rename_i c
  · rw [if_pos c] at z; exact ⟨_, rfl, z⟩
  · rw [if_neg c] at z; exact z)
theorem wp_tests {b : Bool} {Q : Bool × S → Prop} (q : wp (f s) fun r => r.1 = .d (.bool b) ∧ Q (b, r.2)) : wp (tests f s) Q := wp_bind (wp_imp q fun r z => by
  obtain ⟨e, z⟩ := z
  obtain ⟨w, t⟩ := r
  dsimp only at e z ⊢
  subst e
  exact ⟨_, rfl, z⟩)
theorem wp_dCons {Q : List D × S → Prop} (q : wp (f s) fun r => wp (r.2.fz r.1) fun t => wp (ds t.2) fun u => Q (t.1 :: u.1, u.2)) : wp (dCons f ds s) Q := wp_bind (wp_imp q fun _ z => wp_bind (wp_imp z fun _ z => wp_map z))
theorem wp_hCons {Q : List SV × S → Prop} (q : wp (f s) fun r => wp (r.2.hand r.1) fun t => wp (gs t.2) fun u => Q (t.1 :: u.1, u.2)) : wp (hCons f gs s) Q := wp_bind (wp_imp q fun _ z => wp_bind (wp_imp z fun _ z => wp_map z))
end
/-! ### statements -/
section
variable {a b : RunS} {f g : RunE} {s s1 : S} {P : Fl × S → Prop}
/-- a statement that goes on -/
theorem wp_nx (e : a s = some (.nx, s1)) (h : wp (b s1) P) : wp (sSeq a b s) P := by
  unfold sSeq
  rw [e]
  exact h
theorem wp_seq (h : wp (a s) fun r => match r.1 with
    | .nx => wp (b r.2) P
    | f => P (f, r.2)) : wp (sSeq a b s) P := by
  obtain ⟨⟨f, s1⟩, e, h⟩ := h
  unfold sSeq
  rw [e]
  cases f with
  | nx => exact h
  | bk => exact ⟨_, rfl, h⟩
  | ct => exact ⟨_, rfl, h⟩
  | rt w => exact ⟨_, rfl, h⟩
/-- a statement that goes on, by what it does -/
theorem wp_go (h : wp (a s) fun r => r.1 = .nx ∧ wp (b r.2) P) : wp (sSeq a b s) P := wp_seq (wp_imp h fun r z => by
  obtain ⟨f, t⟩ := r
  obtain ⟨e, z⟩ := z
  dsimp only at e
  subst e
  exact z)
theorem wp_asg {t : T} (q : wp (f s) fun r => wp (asgV t r.1 r.2) fun s2 => P (.nx, s2)) : wp (sAsg t f s) P := wp_bind (wp_imp q fun _ z => wp_map z)
theorem wp_mas {ts : List Nat} {gs : S → Option (List SV × S)} (q : wp (gs s) fun r => wp (asgL ts r.1 r.2) fun s2 => P (.nx, s2)) : wp (sMas ts gs s) P := wp_bind (wp_imp q fun _ z => wp_map z)
theorem wp_ret (q : wp (f s) fun r => wp (r.2.hand r.1) fun t => P (.rt t.1, t.2)) : wp (sRet f s) P := wp_bind (wp_imp q fun _ z => wp_map z)
theorem wp_if {k : Bool} (e : tests f s = some (k, s1)) (h1 : k = true → wp (a s1) P) (h2 : k = false → wp (b s1) P) : wp (sIf f a b s) P := by
  unfold sIf
  rw [e]
  cases k with
  | true => exact h1 rfl
  | false => exact h2 rfl
theorem wp_ifW (q : wp (tests f s) fun r => if r.1 = true then wp (a r.2) P else wp (b r.2) P) : wp (sIf f a b s) P := wp_bind (wp_imp q fun r z => by
  dsimp only at z ⊢
  split <;> rename_i c
  · rw [if_pos c] at z; exact z
  · rw [if_neg c] at z; exact z)
end
/-! ### defs -/
theorem wp_run {pr : Prog} {W k i : Nat} {fn : Fn} {ws : List SV} {h : List Cell} {P : SV × List Cell → Prop} (e : pr.fns[i]? = some fn)
    (q : wp (evSs pr.G (pr.calls W k) W fn.body ⟨ws.map some ++ List.replicate (fn.n - ws.length) none, h⟩) fun r => wp (endOf r) P) : wp (pr.run W (k + 1) i ws h) P := by
  refine wp_bind (wp_of e ?_)
  exact wp_bind q
theorem wp_calls {pr : Prog} {W k q : Nat} {t : Pat} {us vs : List SV} {h : List Cell} {P : SV × List Cell → Prop} (e : pr.pats[q]? = some t) (e2 : arrange us t.arr = some vs) (z : wp (pr.run W k t.f vs h) P) : wp (pr.calls W k q us h) P :=
  wp_bind (wp_of e (wp_bind (wp_of e2 z)))
/-! ### with what holds -/
theorem t_asg {t : T} {f : RunE} {s s1 s2 : S} {w : SV} (e : f s = some (w, s1)) (e2 : asgV t w s1 = some s2) : sAsg t f s = some (.nx, s2) := by
  unfold sAsg
  rw [e]
  show (asgV t w s1).map _ = _
  rw [e2]
  rfl
theorem t_two {f g : RunE} {k : S → SV → SV → Option SV} {s s1 s2 : S} {x y r : SV} (e : f s = some (x, s1)) (e2 : g s1 = some (y, s2)) (e3 : k s2 x y = some r) : eTwo f g k s = some (r, s2) := by
  unfold eTwo
  rw [e]
  show (g s1).bind _ = _
  rw [e2]
  show (k s2 x y).map _ = _
  rw [e3]
  rfl
theorem t_ret {f : RunE} {s s1 s2 : S} {w w' : SV} (e : f s = some (w, s1)) (e2 : s1.hand w = some (w', s2)) : sRet f s = some (.rt w', s2) := by
  unfold sRet
  rw [e]
  show (s1.hand w).map _ = _
  rw [e2]
  rfl
theorem t_set {i : Nat} {k e : RunE} {s s1 s2 s3 s4 : S} {w y u : SV} {x y' : D} (h1 : e s = some (w, s1)) (h2 : s1.fz w = some (x, s2)) (h3 : s2.at i = some u) (h4 : k s2 = some (y, s3)) (h5 : s3.view y = some y') (h6 : setI s3 i y' x = some s4) : sSet i k e s = some (.nx, s4) := by
  unfold sSet
  rw [h1]
  show (s1.fz w).bind _ = _
  rw [h2]
  show (s2.at i).bind _ = _
  rw [h3]
  show (k s2).bind _ = _
  rw [h4]
  show (s3.view y).bind _ = _
  rw [h5]
  show (setI s3 i y' x).map _ = _
  rw [h6]
  rfl
theorem b_mod {i j : Int} (h : 0 < j) : bin .mod (.int i) (.int j) = some (.d (.int (i % j))) := if_pos h
theorem b_div {i j : Int} (h : 0 < j) (h2 : j < 1073741824) : bin .fdiv (.int i) (.int j) = some (.d (.int (i / j))) := if_pos ⟨h, h2⟩
theorem b_mul {i j : Int} (h : okMul i j = true) : bin .mul (.int i) (.int j) = some (.d (.int (i * j))) := if_pos h
end DE
/-! DE: the laws' own draws. -/
namespace DE
open PySem PySem.Spec PyProof.Rows L2
theorem canLay_ints : ∀ {cs : List Int}, PyData.canLayAll0 (cs.map .int) = true
  | [] => by simp [PyData.canLayAll0]
  | c :: cs => by simp [PyData.canLayAll0, PyData.canLay0, canLay_ints (cs := cs)]
theorem depth_ints : ∀ {cs : List Int}, PyData.depthAll (cs.map .int) ≤ 1
  | [] => by simp [PyData.depthAll]
  | c :: cs => by
    have := depth_ints (cs := cs)
    simp [PyData.depthAll, PyData.depth]
    omega
theorem shaped_ints {cs : List Int} : SeqAt.shaped (.list (cs.map .int)) = true := by
  have h := depth_ints (cs := cs)
  simp [SeqAt.shaped, PyData.canLay0, canLay_ints, PyData.depth]
  omega
/-- the laws' feed -/
def feed (cs : List Int) (at_ left cnt : Int) : Cell := [(.inr "cells", .list (cs.map .int)), (.inr "at", .int at_), (.inr "left", .int left), (.inr "count", .int cnt)]
theorem at_ints {cs : List Int} (h : cs ≠ []) (a : Int) : ∃ c, atI (cs.map PyData.int) (a % (((cs.map PyData.int).length : Nat) : Int)) = some (PyData.int c) := by
  have hl : 0 < cs.length := List.length_pos_iff.mpr h
  have h0 : (0 : Int) < ((cs.map PyData.int).length : Nat) := by rw [List.length_map]; omega
  have h1 := Int.emod_nonneg a (Int.ne_of_gt h0)
  have h2 := Int.emod_lt_of_pos a h0
  unfold atI ixN
  rw [if_pos h1, if_pos h2]
  show ∃ c, (cs.map PyData.int)[(a % _).toNat]? = _
  rw [List.getElem?_map]
  have h3 : (a % (((cs.map PyData.int).length : Nat) : Int)).toNat < cs.length := by
    rw [List.length_map] at h1 h2 ⊢
    omega
  rw [List.getElem?_eq_getElem h3]
  exact ⟨_, rfl⟩
def drawF : Fn := ⟨6, [.setit 0 (.k (.str (Str.ofString "count"))) (.bin .add (.ix (.v 0) (.k (.str (Str.ofString "count")))) (.k (.int 1))),
  .iff (.cmp .gt (.ix (.v 0) (.k (.str (Str.ofString "left")))) (.k (.int 0))) [.asg (.nm 5) (.bin .mod (.ix (.v 0) (.k (.str (Str.ofString "left")))) (.v 1)),
  .setit 0 (.k (.str (Str.ofString "left"))) (.bin .fdiv (.ix (.v 0) (.k (.str (Str.ofString "left")))) (.v 1)),
  .ret (.mv 5)] [],
  .asg (.nm 2) (.ix (.v 0) (.k (.str (Str.ofString "at")))),
  .setit 0 (.k (.str (Str.ofString "at"))) (.bin .add (.v 2) (.k (.int 1))),
  .asg (.nm 3) (.ite (.cmp .ne (.ix (.v 0) (.k (.str (Str.ofString "cells")))) (.lst [])) (.ix (.ix (.v 0) (.k (.str (Str.ofString "cells")))) (.bin .mod (.v 2) (.bi .len (.ix (.v 0) (.k (.str (Str.ofString "cells"))))))) (.k (.int 23))),
  .iff (.and_ [(.cmp .ge (.v 3) (.bin .pow (.k (.int 10)) (.k (.int 18)))), (.cmp .lt (.v 2) (.bi .len (.ix (.v 0) (.k (.str (Str.ofString "cells"))))))]) [.setit 0 (.k (.str (Str.ofString "left"))) (.bin .fdiv (.v 3) (.v 1)),
  .ret (.bin .mod (.v 3) (.v 1))] [],
  .asg (.nm 4) (.bin .mod (.bin .add (.bin .add (.bin .mod (.v 3) (.k (.int 1000000181))) (.bin .mul (.k (.int 70001)) (.ix (.v 0) (.k (.str (Str.ofString "count")))))) (.k (.int 61))) (.k (.int 2147483579))),
  .asg (.nm 4) (.bin .mod (.bin .add (.bin .add (.bin .mul (.v 4) (.v 4)) (.bin .mul (.k (.int 6972593)) (.ix (.v 0) (.k (.str (Str.ofString "count")))))) (.k (.int 43))) (.k (.int 2147483549))),
  .ret (.bin .mod (.bin .fdiv (.bin .mod (.bin .add (.bin .mul (.v 4) (.v 4)) (.bin .mul (.k (.int 41)) (.v 4))) (.k (.int 2147483543))) (.k (.int 16))) (.v 1))]⟩


theorem t_ite {f g h : RunE} {s s1 : S} {k : Bool} (e : tests f s = some (k, s1)) : eIte f g h s = if k = true then g s1 else h s1 := by
  unfold eIte
  rw [e]
  rfl
theorem t_tests {f : RunE} {s s1 : S} {k : Bool} (e : f s = some (.d (.bool k), s1)) : tests f s = some (k, s1) := by
  unfold tests
  rw [e]
  rfl
theorem t_and {f g : RunE} {s s1 : S} {k : Bool} (e : tests f s = some (k, s1)) : eAnd f g s = if k = true then g s1 else some (.d (.bool false), s1) := by
  unfold eAnd
  rw [e]
  rfl
theorem cell_ok {G : Nat → Option D} {C : Call} {cs : List Int} {a l n : Int} {v : List (Option SV)} (hv : v[0]? = some (some (.c 0))) (hv2 : v[2]? = some (some (.d (.int a)))) :
    ∃ c : Int, evE G C ((E.cmp COp.ne ((E.v 0).ix (E.k (.str (Str.ofString "cells")))) (E.lst [])).ite (((E.v 0).ix (E.k (.str (Str.ofString "cells")))).ix (E.bin BOp.mod (E.v 2) (E.bi Bi.len ((E.v 0).ix (E.k (.str (Str.ofString "cells"))))))) (E.k (.int 23))) ⟨v, [feed cs (a + 1) l n]⟩ = some (.d (.int c), ⟨v, [feed cs (a + 1) l n]⟩) := by
  have h0 : S.at ⟨v, [feed cs (a + 1) l n]⟩ 0 = some (.c 0) := by unfold S.at; rw [hv]; rfl
  have h2 : S.at ⟨v, [feed cs (a + 1) l n]⟩ 2 = some (.d (.int a)) := by unfold S.at; rw [hv2]; rfl
  have e0 : eVar 0 ⟨v, [feed cs (a + 1) l n]⟩ = some (.c 0, ⟨v, [feed cs (a + 1) l n]⟩) := by unfold eVar; rw [h0]; rfl
  have e2 : eVar 2 ⟨v, [feed cs (a + 1) l n]⟩ = some (.d (.int a), ⟨v, [feed cs (a + 1) l n]⟩) := by unfold eVar; rw [h2]; rfl
  have ec : evE G C ((E.v 0).ix (E.k (.str (Str.ofString "cells")))) ⟨v, [feed cs (a + 1) l n]⟩ = some (.d (.list (cs.map .int)), ⟨v, [feed cs (a + 1) l n]⟩) := t_two e0 rfl rfl
  have en : evE G C (E.cmp COp.ne ((E.v 0).ix (E.k (.str (Str.ofString "cells")))) (E.lst [])) ⟨v, [feed cs (a + 1) l n]⟩ = some (.d (.bool (!PyData.eqv (.list (cs.map .int)) (.list []))), ⟨v, [feed cs (a + 1) l n]⟩) := by
    rw [evE]
    unfold eCmp
    refine t_two ec (y := .l []) rfl ?_
    show Option.map _ (if eqOk (.list (cs.map .int)) (.list []) = true then _ else none) = _
    rw [if_pos (by
      show (isScal _ _ || (SeqAt.shaped _ && SeqAt.shaped _)) = true
      rw [shaped_ints]
      rfl)]
    rfl
  by_cases hc : cs = []
  · subst hc
    refine ⟨23, ?_⟩
    unfold evE
    rw [t_ite (t_tests en)]
    rfl
  · obtain ⟨c, hcc⟩ := at_ints hc a
    refine ⟨c, ?_⟩
    unfold evE
    rw [t_ite (t_tests en)]
    have hne : (!PyData.eqv (.list (cs.map .int)) (.list [])) = true := by
      cases cs with
      | nil => exact absurd rfl hc
      | cons x xs => rfl
    rw [if_pos hne]
    have hl : (0 : Int) < ((cs.map PyData.int).length : Nat) := by
      rw [List.length_map]
      have := List.length_pos_iff.mpr hc
      omega
    have em : evE G C (E.bin BOp.mod (E.v 2) (E.bi Bi.len ((E.v 0).ix (E.k (.str (Str.ofString "cells")))))) ⟨v, [feed cs (a + 1) l n]⟩ = some (.d (.int (a % (((cs.map PyData.int).length : Nat) : Int))), ⟨v, [feed cs (a + 1) l n]⟩) := by
      refine t_two e2 (y := .d (.int (((cs.map PyData.int).length : Nat) : Int))) ?_ (b_mod hl)
      show eOne (evE G C ((E.v 0).ix (E.k (.str (Str.ofString "cells"))))) (biV .len) _ = _
      unfold eOne
      rw [ec]
      rfl
    refine t_two ec em ?_
    show (ixOf (.list (cs.map .int)) _).map _ = _
    show (atI _ _).map _ = _
    rw [hcc]
    rfl
theorem draw_ok {G : Nat → Option D} {C : Call} {W : Nat} {cs : List Int} {a l n m : Int} (h0 : 0 < m) (h1 : m < 1073741824) :
    wp (evSs G C W drawF.body ⟨[some (.c 0), some (.d (.int m)), none, none, none, none], [feed cs a l n]⟩) fun r => ∃ x a' l' n', 0 ≤ x ∧ x < m ∧ endOf r = some (.d (.int x), [feed cs a' l' n']) := by
  refine wp_nx rfl ?_
  refine wp_seq ?_
  refine wp_if rfl (fun hk => ?_) (fun hk => ?_)
  · refine wp_nx (t_asg (t_two rfl rfl (b_mod h0)) rfl) ?_
    refine wp_nx (t_set (t_two rfl rfl (b_div h0 h1)) rfl rfl rfl rfl rfl) ?_
    refine wp_seq (wp_of rfl ?_)
    exact ⟨_, _, _, _, Int.emod_nonneg _ (Int.ne_of_gt h0), Int.emod_lt_of_pos _ h0, rfl⟩
  · refine wp_of rfl ?_
    refine wp_nx (s1 := ⟨[some (.c 0), some (.d (.int m)), some (.d (.int a)), none, none, none], [feed cs a l (n + 1)]⟩) rfl ?_
    refine wp_nx (s1 := ⟨[some (.c 0), some (.d (.int m)), some (.d (.int a)), none, none, none], [feed cs (a + 1) l (n + 1)]⟩) rfl ?_
    obtain ⟨c, hc⟩ := cell_ok (G := G) (C := C) (cs := cs) (a := a) (l := l) (n := n + 1) (v := [some (.c 0), some (.d (.int m)), some (.d (.int a)), none, none, none]) rfl rfl
    refine wp_nx (s1 := ⟨[some (.c 0), some (.d (.int m)), some (.d (.int a)), some (.d (.int c)), none, none], [feed cs (a + 1) l (n + 1)]⟩) (t_asg hc rfl) ?_
    refine wp_seq ?_
    have mod31 : ∀ x : Int, okMul (x % 2147483549) (x % 2147483549) = true := fun x => by
      have h1 := Int.emod_nonneg x (b := 2147483549) (by decide)
      have h2 := Int.emod_lt_of_pos x (b := 2147483549) (by decide)
      unfold okMul
      rw [decide_eq_true (by omega : (x % 2147483549).natAbs < 2 ^ 64)]
      rfl
    have mod32 : ∀ x : Int, okMul (x % 2147483579) (x % 2147483579) = true := fun x => by
      have h1 := Int.emod_nonneg x (b := 2147483579) (by decide)
      have h2 := Int.emod_lt_of_pos x (b := 2147483579) (by decide)
      unfold okMul
      rw [decide_eq_true (by omega : (x % 2147483579).natAbs < 2 ^ 64)]
      rfl
    refine wp_if (k := decide (1000000000000000000 ≤ c) && decide (a < ((cs.map PyData.int).length : Nat))) (s1 := ⟨[some (.c 0), some (.d (.int m)), some (.d (.int a)), some (.d (.int c)), none, none], [feed cs (a + 1) l (n + 1)]⟩) ?_ (fun hk => ?_) (fun hk => ?_)
    · refine t_tests ?_
      have e1 : tests (evE G C (E.cmp COp.ge (E.v 3) (E.bin BOp.pow (E.k (PyData.int 10)) (E.k (PyData.int 18))))) ⟨[some (.c 0), some (.d (.int m)), some (.d (.int a)), some (.d (.int c)), none, none], [feed cs (a + 1) l (n + 1)]⟩ = some (decide (1000000000000000000 ≤ c), ⟨[some (.c 0), some (.d (.int m)), some (.d (.int a)), some (.d (.int c)), none, none], [feed cs (a + 1) l (n + 1)]⟩) := rfl
      rw [evE, and_cons, t_and e1]
      cases decide (1000000000000000000 ≤ c) <;> rfl
    · refine wp_nx (t_set (t_two rfl rfl (b_div h0 h1)) rfl rfl rfl rfl rfl) ?_
      refine wp_seq (wp_of (t_ret (t_two rfl rfl (b_mod h0)) rfl) ?_)
      exact ⟨_, _, _, _, Int.emod_nonneg _ (Int.ne_of_gt h0), Int.emod_lt_of_pos _ h0, rfl⟩
    · refine wp_of rfl ?_
      refine wp_nx rfl ?_
      refine wp_nx (t_asg (t_two (t_two (t_two (t_two rfl rfl (b_mul (mod32 _))) rfl rfl) rfl rfl) rfl rfl) rfl) ?_
      refine wp_seq (wp_of (t_ret (t_two (t_two (t_two (t_two (t_two rfl rfl (b_mul (mod31 _))) rfl rfl) rfl rfl) rfl rfl) rfl (b_mod h0)) rfl) ?_)
      exact ⟨_, _, _, _, Int.emod_nonneg _ (Int.ne_of_gt h0), Int.emod_lt_of_pos _ h0, rfl⟩
theorem draw_wp {pr : Prog} {W k i : Nat} {cs : List Int} {a l n m : Int} {P : SV × List Cell → Prop} (e : pr.fns[i]? = some drawF) (h0 : 0 < m) (h1 : m < 1073741824) (q : ∀ r a' l' n' : Int, 0 ≤ r → r < m → P (.d (.int r), [feed cs a' l' n'])) :
    wp (pr.run W (k + 1) i [.c 0, .d (.int m)] [feed cs a l n]) P := by
  refine wp_run e (wp_imp (draw_ok h0 h1) fun r z => ?_)
  obtain ⟨x, a', l', n', h2, h3, h4⟩ := z
  exact wp_of h4 (q x a' l' n' h2 h3)
end DE
namespace K02
open PySem PySem.Spec PyProof.Rows L2 DE

def f_is_number : Fn := ⟨1, [.ret (.and_ [(.isi (.v 0) .int), (.not_ (.isi (.v 0) .bool))])]⟩
def f_bound : Fn := ⟨6, [.asg (.nm 3) (.bi .dict (.v 0)),
  .forr (.tp [(.nm 4), (.nm 5)]) (.zip (.v 1) (.v 2)) [.setit 3 (.v 4) (.v 5)],
  .ret (.bi .tuple (.comp (.tup [(.v 4), (.ix (.v 3) (.v 4))]) (.nm 4) (.seq (.bi .sorted (.v 3))) [4] none))]⟩
def f_value_of : Fn := ⟨4, [.forr (.tp [(.nm 2), (.nm 3)]) (.seq (.v 1)) [.iff (.cmp .eq (.v 2) (.v 0)) [.ret (.mv 3)] []],
  .ret (.k (.int 0))]⟩
def f_combined : Fn := ⟨5, [.iff (.cmp .eq (.v 0) (.k (.str (Str.ofString "same")))) [.ret (.ite (.cmp .eq (.v 1) (.v 2)) (.k (.int 1)) (.k (.int 0)))] [],
  .asg (.nm 3) (.ite (.call 0 [(.v 1)] []) (.v 1) (.k (.int 0))),
  .asg (.nm 4) (.ite (.call 0 [(.v 2)] []) (.v 2) (.k (.int 0))),
  .iff (.cmp .eq (.v 0) (.k (.str (Str.ofString "plus")))) [.ret (.bin .add (.v 3) (.v 4))] [],
  .iff (.cmp .eq (.v 0) (.k (.str (Str.ofString "minus")))) [.ret (.bin .sub (.v 3) (.v 4))] [],
  .ret (.ite (.cmp .lt (.v 3) (.v 4)) (.k (.int 1)) (.k (.int 0)))]⟩
def f_worth : Fn := ⟨6, [.asg (.nm 3) (.ix (.v 0) (.k (.int 0))),
  .iff (.cmp .eq (.v 3) (.k (.str (Str.ofString "is")))) [.ret (.ix (.v 0) (.k (.int 1)))] [],
  .iff (.cmp .eq (.v 3) (.k (.str (Str.ofString "of")))) [.ret (.call 1 [(.ix (.v 0) (.k (.int 1))), (.v 1)] [])] [],
  .iff (.cmp .eq (.v 3) (.k (.str (Str.ofString "self")))) [.ret (.mv 2)] [],
  .asg (.nm 4) (.call 2 [(.ix (.v 0) (.k (.int 1)))] [(.v 1), (.v 2)]),
  .asg (.nm 5) (.call 2 [(.ix (.v 0) (.k (.int 2)))] [(.v 1), (.v 2)]),
  .ret (.call 3 [(.v 3), (.v 4), (.v 5)] [])]⟩
def f__law_feed : Fn := ⟨1, [.ret (.dct [(.inr (Str.ofString "cells")), (.inr (Str.ofString "at")), (.inr (Str.ofString "left")), (.inr (Str.ofString "count"))] [(.bi .list (.sl (.v 0) none (some (.k (.int 63))))), (.k (.int 0)), (.k (.int 0)), (.k (.int 0))])]⟩
def f__law_draw : Fn := ⟨6, [.setit 0 (.k (.str (Str.ofString "count"))) (.bin .add (.ix (.v 0) (.k (.str (Str.ofString "count")))) (.k (.int 1))),
  .iff (.cmp .gt (.ix (.v 0) (.k (.str (Str.ofString "left")))) (.k (.int 0))) [.asg (.nm 5) (.bin .mod (.ix (.v 0) (.k (.str (Str.ofString "left")))) (.v 1)),
  .setit 0 (.k (.str (Str.ofString "left"))) (.bin .fdiv (.ix (.v 0) (.k (.str (Str.ofString "left")))) (.v 1)),
  .ret (.mv 5)] [],
  .asg (.nm 2) (.ix (.v 0) (.k (.str (Str.ofString "at")))),
  .setit 0 (.k (.str (Str.ofString "at"))) (.bin .add (.v 2) (.k (.int 1))),
  .asg (.nm 3) (.ite (.cmp .ne (.ix (.v 0) (.k (.str (Str.ofString "cells")))) (.lst [])) (.ix (.ix (.v 0) (.k (.str (Str.ofString "cells")))) (.bin .mod (.v 2) (.bi .len (.ix (.v 0) (.k (.str (Str.ofString "cells"))))))) (.k (.int 23))),
  .iff (.and_ [(.cmp .ge (.v 3) (.bin .pow (.k (.int 10)) (.k (.int 18)))), (.cmp .lt (.v 2) (.bi .len (.ix (.v 0) (.k (.str (Str.ofString "cells"))))))]) [.setit 0 (.k (.str (Str.ofString "left"))) (.bin .fdiv (.v 3) (.v 1)),
  .ret (.bin .mod (.v 3) (.v 1))] [],
  .asg (.nm 4) (.bin .mod (.bin .add (.bin .add (.bin .mod (.v 3) (.k (.int 1000000181))) (.bin .mul (.k (.int 70001)) (.ix (.v 0) (.k (.str (Str.ofString "count")))))) (.k (.int 61))) (.k (.int 2147483579))),
  .asg (.nm 4) (.bin .mod (.bin .add (.bin .add (.bin .mul (.v 4) (.v 4)) (.bin .mul (.k (.int 6972593)) (.ix (.v 0) (.k (.str (Str.ofString "count")))))) (.k (.int 43))) (.k (.int 2147483549))),
  .ret (.bin .mod (.bin .fdiv (.bin .mod (.bin .add (.bin .mul (.v 4) (.v 4)) (.bin .mul (.k (.int 41)) (.v 4))) (.k (.int 2147483543))) (.k (.int 16))) (.v 1))]⟩
def f__law_value : Fn := ⟨4, [.asg (.nm 1) (.call 4 [(.v 0), (.k (.int 4))] []),
  .asg (.nm 2) (.ix (.lst [(.k (.int 10)), (.neg (.k (.int 1))), (.neg (.k (.int 10))), (.k (.int 99)), (.bin .sub (.bin .pow (.k (.int 10)) (.k (.int 6))) (.v 1)), (.bin .sub (.v 1) (.bin .pow (.k (.int 10)) (.k (.int 6)))), (.bin .add (.k (.int 100)) (.v 1))]) (.call 4 [(.v 0), (.k (.int 7))] [])),
  .asg (.nm 3) (.ix (.lst [(.k (.str (Str.ofString "done"))), (.k (.str (Str.ofString "red"))), (.k (.str (Str.ofString "a"))), (.k (.str (Str.ofString "shut"))), (.k (.str (Str.ofString "abcdefgh")))]) (.call 4 [(.v 0), (.k (.int 5))] [])),
  .ret (.ix (.lst [(.v 1), (.bin .add (.v 1) (.k (.int 1))), (.v 2), (.v 3), (.tup [(.k (.str (Str.ofString "at"))), (.call 4 [(.v 0), (.k (.int 2))] []), (.v 1)]), (.v 1)]) (.call 4 [(.v 0), (.k (.int 6))] []))]⟩
def f__law_sum : Fn := ⟨6, [.iff (.and_ [(.cmp .gt (.v 2) (.k (.int 0))), (.cmp .eq (.call 4 [(.v 0), (.k (.int 3))] []) (.k (.int 0)))]) [.asg (.nm 4) (.ix (.lst [(.k (.str (Str.ofString "plus"))), (.k (.str (Str.ofString "minus"))), (.k (.str (Str.ofString "less"))), (.k (.str (Str.ofString "same")))]) (.call 4 [(.v 0), (.k (.int 4))] [])),
  .asg (.nm 5) (.call 5 [(.v 0), (.v 1), (.bin .sub (.v 2) (.k (.int 1)))] []),
  .ret (.tup [(.v 4), (.v 5), (.call 5 [(.v 0), (.v 1), (.bin .sub (.v 2) (.k (.int 1)))] [])])] [],
  .iff (.and_ [(.cmp .ne (.v 1) (.lst [])), (.cmp .gt (.call 4 [(.v 0), (.k (.int 3))] []) (.k (.int 0)))]) [.ret (.tup [(.k (.str (Str.ofString "of"))), (.ix (.v 1) (.call 4 [(.v 0), (.bi .len (.v 1))] []))])] [],
  .asg (.nm 3) (.lst [(.tup [(.k (.str (Str.ofString "is"))), (.call 6 [(.v 0)] [])]), (.tup [(.k (.str (Str.ofString "is"))), (.call 6 [(.v 0)] [])]), (.tup [(.k (.str (Str.ofString "self")))]), (.tup [(.k (.str (Str.ofString "of"))), (.k (.str (Str.ofString "nobody")))])]),
  .ret (.ix (.v 3) (.bin .fdiv (.call 4 [(.v 0), (.k (.int 8))] []) (.k (.int 2))))]⟩
def f__law_counted : Fn := ⟨1, [.ret (.ite (.isi (.v 0) .int) (.v 0) (.k (.int 0)))]⟩
def f__law_worth : Fn := ⟨12, [.mas [4, 5, 6] [(.lst []), (.lst []), (.lst [(.v 0)])],
  .whl (.cmp .ne (.v 6) (.lst [])) [.asg (.nm 3) (.pop 6),
  .app 4 (.v 3),
  .iff (.cmp .inn (.ix (.v 3) (.k (.int 0))) (.tup [(.k (.str (Str.ofString "plus"))), (.k (.str (Str.ofString "minus"))), (.k (.str (Str.ofString "less"))), (.k (.str (Str.ofString "same")))])) [.ext 6 (.lst [(.ix (.v 3) (.k (.int 1))), (.ix (.v 3) (.k (.int 2)))])] []],
  .forr (.nm 3) (.seq (.rev (.v 4))) [.iff (.cmp .eq (.ix (.v 3) (.k (.int 0))) (.k (.str (Str.ofString "is")))) [.app 5 (.ix (.v 3) (.k (.int 1)))] [.iff (.cmp .eq (.ix (.v 3) (.k (.int 0))) (.k (.str (Str.ofString "of")))) [.app 5 (.get2 (.v 1) (.ix (.v 3) (.k (.int 1))) (.k (.int 0)))] [.iff (.cmp .eq (.ix (.v 3) (.k (.int 0))) (.k (.str (Str.ofString "self")))) [.app 5 (.v 2)] [.asg (.nm 7) (.pop 5),
  .asg (.nm 8) (.pop 5),
  .mas [10, 11] [(.call 7 [(.v 8)] []), (.call 7 [(.v 7)] [])],
  .asg (.nm 9) (.dct [(.inr (Str.ofString "plus")), (.inr (Str.ofString "minus")), (.inr (Str.ofString "less"))] [(.bin .add (.v 10) (.v 11)), (.bin .sub (.v 10) (.v 11)), (.bi .int (.cmp .lt (.v 10) (.v 11)))]),
  .app 5 (.ite (.cmp .eq (.ix (.v 3) (.k (.int 0))) (.k (.str (Str.ofString "same")))) (.bi .int (.cmp .eq (.v 8) (.v 7))) (.ix (.v 9) (.ix (.v 3) (.k (.int 0)))))]]]],
  .ret (.ix (.v 5) (.k (.int 0)))]⟩
def f__law_bindings : Fn := ⟨3, [.asg (.nm 1) (.comp (.v 2) (.nm 2) (.seq (.lst [(.k (.str (Str.ofString "k"))), (.k (.str (Str.ofString "n"))), (.k (.str (Str.ofString "to"))), (.k (.str (Str.ofString "who")))])) [2] (some (.cmp .eq (.call 4 [(.v 0), (.k (.int 2))] []) (.k (.int 0))))),
  .ret (.bi .tuple (.comp (.tup [(.v 2), (.call 6 [(.v 0)] [])]) (.nm 2) (.seq (.v 1)) [2] none))]⟩
def f__law_by_hand : Fn := ⟨6, [.mas [1, 2, 3] [(.tup [(.k (.str (Str.ofString "is"))), (.k (.int 1))]), (.tup [(.k (.str (Str.ofString "is"))), (.k (.str (Str.ofString "red")))]), (.tup [(.k (.str (Str.ofString "at"))), (.k (.int 1)), (.k (.int 2))])],
  .asg (.nm 0) (.lst [(.tup [(.tup [(.k (.str (Str.ofString "plus"))), (.v 2), (.v 1)]), (.k (.int 1))]), (.tup [(.tup [(.k (.str (Str.ofString "minus"))), (.v 2), (.v 1)]), (.neg (.k (.int 1)))]), (.tup [(.tup [(.k (.str (Str.ofString "less"))), (.v 2), (.v 1)]), (.k (.int 1))]), (.tup [(.tup [(.k (.str (Str.ofString "same"))), (.v 2), (.v 2)]), (.k (.int 1))])]),
  .ext 0 (.lst [(.tup [(.tup [(.k (.str (Str.ofString "same"))), (.v 2), (.v 1)]), (.k (.int 0))]), (.tup [(.tup [(.k (.str (Str.ofString "same"))), (.tup [(.k (.str (Str.ofString "is"))), (.k (.int 0))]), (.v 2)]), (.k (.int 0))]), (.tup [(.tup [(.k (.str (Str.ofString "same"))), (.tup [(.k (.str (Str.ofString "self")))]), (.tup [(.k (.str (Str.ofString "is"))), (.v 3)])]), (.k (.int 1))])]),
  .ext 0 (.lst [(.tup [(.tup [(.k (.str (Str.ofString "plus"))), (.tup [(.k (.str (Str.ofString "self")))]), (.tup [(.k (.str (Str.ofString "is"))), (.k (.int 7))])]), (.k (.int 7))]), (.tup [(.tup [(.k (.str (Str.ofString "less"))), (.tup [(.k (.str (Str.ofString "self")))]), (.v 2)]), (.k (.int 0))])]),
  .app 0 (.tup [(.tup [(.k (.str (Str.ofString "minus"))), (.tup [(.k (.str (Str.ofString "is"))), (.neg (.k (.int 3)))]), (.tup [(.k (.str (Str.ofString "is"))), (.neg (.k (.int 10)))])]), (.k (.int 7))]),
  .ext 0 (.lst [(.tup [(.tup [(.k (.str (Str.ofString "of"))), (.k (.str (Str.ofString "n")))]), (.k (.str (Str.ofString "red")))]), (.tup [(.tup [(.k (.str (Str.ofString "of"))), (.k (.str (Str.ofString "m")))]), (.k (.int 0))]), (.tup [(.tup [(.k (.str (Str.ofString "same"))), (.tup [(.k (.str (Str.ofString "of"))), (.k (.str (Str.ofString "n")))]), (.v 2)]), (.k (.int 1))])]),
  .app 0 (.tup [(.tup [(.k (.str (Str.ofString "same"))), (.tup [(.k (.str (Str.ofString "of"))), (.k (.str (Str.ofString "m")))]), (.tup [(.k (.str (Str.ofString "is"))), (.k (.int 0))])]), (.k (.int 1))]),
  .ext 0 (.lst [(.tup [(.tup [(.k (.str (Str.ofString "self")))]), (.v 3)]), (.tup [(.tup [(.k (.str (Str.ofString "less"))), (.tup [(.k (.str (Str.ofString "is"))), (.neg (.k (.int 1)))]), (.tup [(.k (.str (Str.ofString "of"))), (.k (.str (Str.ofString "n")))])]), (.k (.int 1))])]),
  .app 0 (.tup [(.tup [(.k (.str (Str.ofString "plus"))), (.tup [(.k (.str (Str.ofString "is"))), (.bin .pow (.k (.int 10)) (.k (.int 6)))]), (.tup [(.k (.str (Str.ofString "is"))), (.bin .pow (.k (.int 10)) (.k (.int 6)))])]), (.bin .mul (.k (.int 2)) (.bin .pow (.k (.int 10)) (.k (.int 6))))]),
  .app 0 (.tup [(.tup [(.k (.str (Str.ofString "minus"))), (.v 1), (.tup [(.k (.str (Str.ofString "minus"))), (.v 1), (.tup [(.k (.str (Str.ofString "minus"))), (.v 1), (.tup [(.k (.str (Str.ofString "is"))), (.k (.int 3))])])])]), (.neg (.k (.int 2)))]),
  .forr (.tp [(.nm 4), (.nm 5)]) (.seq (.v 0)) [.iff (.cmp .ne (.bi .repr (.call 2 [(.v 4)] [(.tup [(.tup [(.k (.str (Str.ofString "n"))), (.k (.str (Str.ofString "red")))])]), (.v 3)])) (.bi .repr (.v 5))) [.ret (.k (.bool false))] []],
  .ret (.cmp .eq (.bi .repr (.lst [(.g 0), (.call 8 [(.tup [(.k (.str (Str.ofString "self")))])] []), (.call 8 [(.tup [(.k (.str (Str.ofString "of"))), (.k (.str (Str.ofString "n")))])] [])])) (.bi .repr (.lst [(.tup [(.k (.str (Str.ofString "at"))), (.k (.int 0)), (.k (.int 0))]), (.tup [(.k (.str (Str.ofString "at"))), (.k (.int 0)), (.k (.int 0))]), (.k (.int 0))])))]⟩
def f__law_bound_right : Fn := ⟨10, [.asg (.nm 2) (.lst [(.k (.str (Str.ofString "n"))), (.k (.str (Str.ofString "to"))), (.k (.str (Str.ofString "who"))), (.k (.str (Str.ofString "a"))), (.k (.str (Str.ofString "zz"))), (.k (.str (Str.ofString "k"))), (.k (.str (Str.ofString "m"))), (.k (.str (Str.ofString "x"))), (.k (.str (Str.ofString "y"))), (.k (.str (Str.ofString "kid"))), (.k (.str (Str.ofString "kin"))), (.k (.str (Str.ofString "q")))]),
  .asg (.nm 3) (.comp (.ix (.v 2) (.call 4 [(.v 0), (.k (.int 12))] [])) (.nm 4) (.rng (.call 4 [(.v 0), (.k (.int 13))] [])) [4] none),
  .mas [7, 8] [(.comp (.call 6 [(.v 0)] []) (.nm 9) (.seq (.v 3)) [9] none), (.bi .dict (.bi .list (.v 1)))],
  .forr (.nm 4) (.rng (.bi .len (.v 3))) [.setit 8 (.ix (.v 3) (.v 4)) (.ix (.v 7) (.v 4))],
  .asg (.nm 5) (.bi .tuple (.comp (.tup [(.v 9), (.ix (.v 8) (.v 9))]) (.nm 9) (.seq (.bi .sorted (.v 8))) [9] none)),
  .asg (.nm 6) (.call 9 [(.v 1)] [(.bi .tuple (.v 3)), (.bi .tuple (.v 7))]),
  .ret (.and_ [(.cmp .eq (.bi .repr (.v 6)) (.bi .repr (.v 5))), (.cmp .eq (.bi .repr (.call 9 [(.v 1)] [(.tup []), (.tup [])])) (.bi .repr (.v 1)))])]⟩
def f__law_great_right : Fn := ⟨8, [.asg (.nm 0) (.bin .mul (.bin .pow (.k (.int 10)) (.k (.int 50))) (.bin .pow (.k (.int 10)) (.k (.int 50)))),
  .asg (.nm 1) (.lst [(.bin .sub (.bin .pow (.k (.int 10)) (.k (.int 30))) (.k (.int 7))), (.bin .sub (.k (.int 7)) (.bin .pow (.k (.int 10)) (.k (.int 30)))), (.bin .sub (.v 0) (.k (.int 1))), (.bin .sub (.k (.int 1)) (.v 0))]),
  .forr (.nm 2) (.seq (.v 1)) [.forr (.nm 3) (.seq (.v 1)) [.asg (.nm 4) (.tup [(.tup [(.k (.str (Str.ofString "n"))), (.v 2)]), (.tup [(.k (.str (Str.ofString "to"))), (.v 3)])]),
  .asg (.nm 5) (.tup [(.k (.str (Str.ofString "plus"))), (.k (.str (Str.ofString "minus"))), (.k (.str (Str.ofString "less"))), (.k (.str (Str.ofString "same")))]),
  .asg (.nm 6) (.comp (.call 10 [(.tup [(.v 7), (.tup [(.k (.str (Str.ofString "of"))), (.k (.str (Str.ofString "n")))]), (.tup [(.k (.str (Str.ofString "of"))), (.k (.str (Str.ofString "to")))])])] [(.v 4)]) (.nm 7) (.seq (.v 5)) [7] none),
  .iff (.cmp .ne (.bi .repr (.v 6)) (.bi .repr (.lst [(.bin .add (.v 2) (.v 3)), (.bin .sub (.v 2) (.v 3)), (.bi .int (.cmp .lt (.v 2) (.v 3))), (.bi .int (.cmp .eq (.v 2) (.v 3)))]))) [.ret (.k (.bool false))] []]],
  .ret (.k (.bool true))]⟩
def f_law : Fn := ⟨9, [.asgc 1 (.call 11 [(.v 0)] []),
  .forr (.nm 2) (.rng (.k (.int 12))) [.mas [7, 8] [(.call 12 [(.v 1)] []), (.tup [(.k (.str (Str.ofString "at"))), (.call 4 [(.v 1), (.k (.int 3))] []), (.call 4 [(.v 1), (.k (.int 9))] [])])],
  .asg (.nm 3) (.call 5 [(.v 1), (.lst [(.k (.str (Str.ofString "n"))), (.k (.str (Str.ofString "to"))), (.k (.str (Str.ofString "who")))]), (.k (.int 3))] []),
  .asg (.nm 4) (.bi .repr (.tup [(.v 7), (.v 3)])),
  .asg (.nm 5) (.lst [(.call 2 [(.v 3)] [(.v 7), (.v 8)]), (.call 13 [(.v 3)] [(.v 8)]), (.call 8 [(.v 3)] [])]),
  .asg (.nm 6) (.lst [(.call 14 [(.v 3), (.bi .dict (.bi .list (.v 7))), (.v 8)] []), (.call 14 [(.v 3), (.dct [] []), (.v 8)] [])]),
  .app 6 (.call 14 [(.v 3), (.dct [] []), (.tup [(.k (.str (Str.ofString "at"))), (.k (.int 0)), (.k (.int 0))])] []),
  .iff (.or_ [(.cmp .ne (.bi .repr (.v 5)) (.bi .repr (.v 6))), (.not_ (.call 15 [(.v 1), (.v 7)] [])), (.cmp .ne (.bi .repr (.tup [(.v 7), (.v 3)])) (.v 4))]) [.ret (.k (.bool false))] []],
  .ret (.and_ [(.call 16 [] []), (.call 17 [] [])])]⟩
def prog : Prog where
  fns := [f_is_number, f_bound, f_value_of, f_combined, f_worth, f__law_feed, f__law_draw, f__law_value, f__law_sum, f__law_counted, f__law_worth, f__law_bindings, f__law_by_hand, f__law_bound_right, f__law_great_right, f_law]
  pats := [⟨0, [.inl 0]⟩, ⟨2, [.inl 0, .inl 1]⟩, ⟨4, [.inl 0, .inl 1, .inl 2]⟩, ⟨3, [.inl 0, .inl 1, .inl 2]⟩, ⟨6, [.inl 0, .inl 1]⟩, ⟨8, [.inl 0, .inl 1, .inl 2]⟩, ⟨7, [.inl 0]⟩, ⟨9, [.inl 0]⟩, ⟨4, [.inl 0, .inr (.tuple []), .inr (.tuple [(.str (Str.ofString "at")), (.int 0), (.int 0)])]⟩, ⟨1, [.inl 0, .inl 1, .inl 2]⟩, ⟨4, [.inl 0, .inl 1, .inr (.tuple [(.str (Str.ofString "at")), (.int 0), (.int 0)])]⟩, ⟨5, [.inl 0]⟩, ⟨11, [.inl 0]⟩, ⟨4, [.inl 0, .inr (.tuple []), .inl 1]⟩, ⟨10, [.inl 0, .inl 1, .inl 2]⟩, ⟨13, [.inl 0, .inl 1]⟩, ⟨12, []⟩, ⟨14, []⟩]
  globs := [(.tuple [(.str (Str.ofString "at")), (.int 0), (.int 0)])]
def top (i : Nat) : Stmt := PySem.Challenge.pw_letterfolk_k02_worths.main.body.getD i (.Pass ⟨0, 0, 0, 0⟩)
def r0 : DRow := ⟨"is_number", top 1, ["thing"], ["thing"], [], []⟩
def r1 : DRow := ⟨"bound", top 4, ["bindings", "names", "values", "table", "name", "value"], ["bindings", "names", "values"], [], []⟩
def r2 : DRow := ⟨"value_of", top 5, ["name", "bindings", "other", "value"], ["name", "bindings"], [], []⟩
def r3 : DRow := ⟨"combined", top 6, ["word", "one", "other", "first", "second"], ["word", "one", "other"], [], []⟩
def r4 : DRow := ⟨"worth", top 7, ["amount", "bindings", "address", "word", "one", "other"], ["amount", "bindings", "address"], [], [("bindings", .adr (kwAt "worth" "bindings")), ("address", .glo "NOBODY")]⟩
def r5 : DRow := ⟨"_law_feed", top 9, ["_law_script"], ["_law_script"], [], []⟩
def r6 : DRow := ⟨"_law_draw", top 10, ["_law_feed_here", "_law_many", "_law_at", "_law_cell", "_law_mixed", "_law_figure"], ["_law_feed_here", "_law_many"], [], []⟩
def r7 : DRow := ⟨"_law_value", top 11, ["_law_feed_here", "_law_few", "_law_far", "_law_word"], ["_law_feed_here"], [], []⟩
def r8 : DRow := ⟨"_law_sum", top 12, ["_law_feed_here", "_law_names_in", "_law_deep", "_law_some", "_law_word", "_law_one"], ["_law_feed_here", "_law_names_in", "_law_deep"], [], []⟩
def r9 : DRow := ⟨"_law_counted", top 13, ["_law_value_here"], ["_law_value_here"], [], []⟩
def r10 : DRow := ⟨"_law_worth", top 14, ["_law_amount", "_law_known", "_law_home", "_law_one", "_law_order", "_law_values_in", "_law_pile", "_law_second", "_law_first", "_law_wanted", "_law_low", "_law_high"], ["_law_amount", "_law_known", "_law_home"], [], []⟩
def r11 : DRow := ⟨"_law_bindings", top 15, ["_law_feed_here", "_law_some", "_law_name"], ["_law_feed_here"], [], []⟩
def r12 : DRow := ⟨"_law_by_hand", top 16, ["_law_rows", "_law_one", "_law_red", "_law_home", "_law_amount", "_law_wanted"], [], [], []⟩
def r13 : DRow := ⟨"_law_bound_right", top 17, ["_law_feed_here", "_law_given", "_law_some", "_law_names_in", "_law_k", "_law_wanted", "_law_told", "_law_values_in", "_law_found", "_law_name"], ["_law_feed_here", "_law_given"], [], []⟩
def r14 : DRow := ⟨"_law_great_right", top 18, ["_law_great", "_law_some", "_law_one", "_law_other", "_law_given", "_law_words", "_law_told", "_law_word"], [], [], []⟩
def r15 : DRow := ⟨"law", top 19, ["_law_script", "_law_feed_here", "_law_k", "_law_amount", "_law_kept", "_law_told", "_law_wanted", "_law_given", "_law_home"], ["_law_script"], [], []⟩
def tb : Tbl where
  pr := prog
  rows := [r0, r1, r2, r3, r4, r5, r6, r7, r8, r9, r10, r11, r12, r13, r14, r15]
  gl := [("NOBODY", (.tuple [(.str (Str.ofString "at")), (.int 0), (.int 0)]))]
  pt := [⟨"is_number", 1, []⟩, ⟨"value_of", 2, []⟩, ⟨"worth", 1, ["bindings", "address"]⟩, ⟨"combined", 3, []⟩, ⟨"_law_draw", 2, []⟩, ⟨"_law_sum", 3, []⟩, ⟨"_law_value", 1, []⟩, ⟨"_law_counted", 1, []⟩, ⟨"worth", 1, []⟩, ⟨"bound", 1, ["names", "values"]⟩, ⟨"worth", 1, ["bindings"]⟩, ⟨"_law_feed", 1, []⟩, ⟨"_law_bindings", 1, []⟩, ⟨"worth", 1, ["address"]⟩, ⟨"_law_worth", 3, []⟩, ⟨"_law_bound_right", 2, []⟩, ⟨"_law_by_hand", 0, []⟩, ⟨"_law_great_right", 0, []⟩]
def more (K : PySem.W.Frag) : Bool := (dfB K [.inl 0, .inr (.tuple []), .inr (.tuple [(.str (Str.ofString "at")), (.int 0), (.int 0)])] (([("bindings", (He.Dv.v K (.adr (kwAt "worth" "bindings")))), ("address", (He.Dv.v K (.glo "NOBODY")))] : List (Str × V)).map (·.2))) && (dfB K [.inl 0, .inl 1, .inr (.tuple [(.str (Str.ofString "at")), (.int 0), (.int 0)])] (([("address", (He.Dv.v K (.glo "NOBODY")))] : List (Str × V)).map (·.2))) && (dfB K [.inl 0, .inr (.tuple []), .inl 1] (([("bindings", (He.Dv.v K (.adr (kwAt "worth" "bindings"))))] : List (Str × V)).map (·.2)))
theorem m0 {K : PySem.W.Frag} (h : more K = true) : (dfB K [.inl 0, .inr (.tuple []), .inr (.tuple [(.str (Str.ofString "at")), (.int 0), (.int 0)])] (([("bindings", (He.Dv.v K (.adr (kwAt "worth" "bindings")))), ("address", (He.Dv.v K (.glo "NOBODY")))] : List (Str × V)).map (·.2))) = true := by
  unfold more at h
  simp only [Bool.and_eq_true] at h
  exact h.1.1
theorem m1 {K : PySem.W.Frag} (h : more K = true) : (dfB K [.inl 0, .inl 1, .inr (.tuple [(.str (Str.ofString "at")), (.int 0), (.int 0)])] (([("address", (He.Dv.v K (.glo "NOBODY")))] : List (Str × V)).map (·.2))) = true := by
  unfold more at h
  simp only [Bool.and_eq_true] at h
  exact h.1.2
theorem m2 {K : PySem.W.Frag} (h : more K = true) : (dfB K [.inl 0, .inr (.tuple []), .inl 1] (([("bindings", (He.Dv.v K (.adr (kwAt "worth" "bindings"))))] : List (Str × V)).map (·.2))) = true := by
  unfold more at h
  simp only [Bool.and_eq_true] at h
  exact h.2
theorem ok0 : chkRow tb.pr tb.gn tb.pt r0 f_is_number = true := by kernel_rfl
theorem ok1 : chkRow tb.pr tb.gn tb.pt r1 f_bound = true := by kernel_rfl
theorem ok2 : chkRow tb.pr tb.gn tb.pt r2 f_value_of = true := by kernel_rfl
theorem ok3 : chkRow tb.pr tb.gn tb.pt r3 f_combined = true := by kernel_rfl
theorem ok4 : chkRow tb.pr tb.gn tb.pt r4 f_worth = true := by kernel_rfl
theorem ok5 : chkRow tb.pr tb.gn tb.pt r5 f__law_feed = true := by kernel_rfl
theorem ok6 : chkRow tb.pr tb.gn tb.pt r6 f__law_draw = true := by kernel_rfl
theorem ok7 : chkRow tb.pr tb.gn tb.pt r7 f__law_value = true := by kernel_rfl
theorem ok8 : chkRow tb.pr tb.gn tb.pt r8 f__law_sum = true := by kernel_rfl
theorem ok9 : chkRow tb.pr tb.gn tb.pt r9 f__law_counted = true := by kernel_rfl
theorem ok10 : chkRow tb.pr tb.gn tb.pt r10 f__law_worth = true := by kernel_rfl
theorem ok11 : chkRow tb.pr tb.gn tb.pt r11 f__law_bindings = true := by kernel_rfl
theorem ok12 : chkRow tb.pr tb.gn tb.pt r12 f__law_by_hand = true := by kernel_rfl
theorem ok13 : chkRow tb.pr tb.gn tb.pt r13 f__law_bound_right = true := by kernel_rfl
theorem ok14 : chkRow tb.pr tb.gn tb.pt r14 f__law_great_right = true := by kernel_rfl
theorem ok15 : chkRow tb.pr tb.gn tb.pt r15 f_law = true := by kernel_rfl
theorem p0 {K : PySem.W.Frag} {mg : Str → Option Value} (S : Said tb more K mg) : PatT K mg tb.pr tb.gn tb.pt 0 "is_number" 1 [] := by
  obtain ⟨fd, F⟩ := S.def_ (i := 0) (r := r0) rfl
  exact patA F (S.defOk F (fn := f_is_number) rfl ok0) (S.glo (i := 0) (r := r0) rfl) (arr := [.inl 0]) rfl (fn := f_is_number) rfl (by decide) rfl fun kV doc pm an cdv ct us ws h1 h2 => match us, h1, ws, h2 with | [a0], _, [], _ => rfl
theorem p1 {K : PySem.W.Frag} {mg : Str → Option Value} (S : Said tb more K mg) : PatT K mg tb.pr tb.gn tb.pt 1 "value_of" 2 [] := by
  obtain ⟨fd, F⟩ := S.def_ (i := 2) (r := r2) rfl
  exact patA F (S.defOk F (fn := f_value_of) rfl ok2) (S.glo (i := 2) (r := r2) rfl) (arr := [.inl 0, .inl 1]) rfl (fn := f_value_of) rfl (by decide) rfl fun kV doc pm an cdv ct us ws h1 h2 => match us, h1, ws, h2 with | [a0, a1], _, [], _ => rfl
theorem p2 {K : PySem.W.Frag} {mg : Str → Option Value} (S : Said tb more K mg) : PatT K mg tb.pr tb.gn tb.pt 2 "worth" 1 ["bindings", "address"] := by
  obtain ⟨fd, F⟩ := S.def_ (i := 4) (r := r4) rfl
  exact patA F (S.defOk F (fn := f_worth) rfl ok4) (S.glo (i := 4) (r := r4) rfl) (arr := [.inl 0, .inl 1, .inl 2]) rfl (fn := f_worth) rfl (by decide) rfl fun kV doc pm an cdv ct us ws h1 h2 => match us, h1, ws, h2 with | [a0], _, [b0, b1], _ => rfl
theorem p3 {K : PySem.W.Frag} {mg : Str → Option Value} (S : Said tb more K mg) : PatT K mg tb.pr tb.gn tb.pt 3 "combined" 3 [] := by
  obtain ⟨fd, F⟩ := S.def_ (i := 3) (r := r3) rfl
  exact patA F (S.defOk F (fn := f_combined) rfl ok3) (S.glo (i := 3) (r := r3) rfl) (arr := [.inl 0, .inl 1, .inl 2]) rfl (fn := f_combined) rfl (by decide) rfl fun kV doc pm an cdv ct us ws h1 h2 => match us, h1, ws, h2 with | [a0, a1, a2], _, [], _ => rfl
theorem p4 {K : PySem.W.Frag} {mg : Str → Option Value} (S : Said tb more K mg) : PatT K mg tb.pr tb.gn tb.pt 4 "_law_draw" 2 [] := by
  obtain ⟨fd, F⟩ := S.def_ (i := 6) (r := r6) rfl
  exact patA F (S.defOk F (fn := f__law_draw) rfl ok6) (S.glo (i := 6) (r := r6) rfl) (arr := [.inl 0, .inl 1]) rfl (fn := f__law_draw) rfl (by decide) rfl fun kV doc pm an cdv ct us ws h1 h2 => match us, h1, ws, h2 with | [a0, a1], _, [], _ => rfl
theorem p5 {K : PySem.W.Frag} {mg : Str → Option Value} (S : Said tb more K mg) : PatT K mg tb.pr tb.gn tb.pt 5 "_law_sum" 3 [] := by
  obtain ⟨fd, F⟩ := S.def_ (i := 8) (r := r8) rfl
  exact patA F (S.defOk F (fn := f__law_sum) rfl ok8) (S.glo (i := 8) (r := r8) rfl) (arr := [.inl 0, .inl 1, .inl 2]) rfl (fn := f__law_sum) rfl (by decide) rfl fun kV doc pm an cdv ct us ws h1 h2 => match us, h1, ws, h2 with | [a0, a1, a2], _, [], _ => rfl
theorem p6 {K : PySem.W.Frag} {mg : Str → Option Value} (S : Said tb more K mg) : PatT K mg tb.pr tb.gn tb.pt 6 "_law_value" 1 [] := by
  obtain ⟨fd, F⟩ := S.def_ (i := 7) (r := r7) rfl
  exact patA F (S.defOk F (fn := f__law_value) rfl ok7) (S.glo (i := 7) (r := r7) rfl) (arr := [.inl 0]) rfl (fn := f__law_value) rfl (by decide) rfl fun kV doc pm an cdv ct us ws h1 h2 => match us, h1, ws, h2 with | [a0], _, [], _ => rfl
theorem p7 {K : PySem.W.Frag} {mg : Str → Option Value} (S : Said tb more K mg) : PatT K mg tb.pr tb.gn tb.pt 7 "_law_counted" 1 [] := by
  obtain ⟨fd, F⟩ := S.def_ (i := 9) (r := r9) rfl
  exact patA F (S.defOk F (fn := f__law_counted) rfl ok9) (S.glo (i := 9) (r := r9) rfl) (arr := [.inl 0]) rfl (fn := f__law_counted) rfl (by decide) rfl fun kV doc pm an cdv ct us ws h1 h2 => match us, h1, ws, h2 with | [a0], _, [], _ => rfl
theorem p8 {K : PySem.W.Frag} {mg : Str → Option Value} (S : Said tb more K mg) : PatT K mg tb.pr tb.gn tb.pt 8 "worth" 1 [] := by
  obtain ⟨fd, F⟩ := S.def_ (i := 4) (r := r4) rfl
  exact patK F (S.defOk F (fn := f_worth) rfl ok4) (S.glo (i := 4) (r := r4) rfl) [("bindings", (He.Dv.v K (.adr (kwAt "worth" "bindings")))), ("address", (He.Dv.v K (.glo "NOBODY")))] (arr := [.inl 0, .inr (.tuple []), .inr (.tuple [(.str (Str.ofString "at")), (.int 0), (.int 0)])]) rfl (fn := f_worth) rfl (by decide) (m0 S.mor) (fun z hz => sub_of (js := [0, 1]) rfl z hz) (fun z => by cases z) fun D doc pm an cdv ct us ws mv h1 h2 h3 => match us, h1, ws, h2, mv, h3 with | [a0], _, [], _, [c0, c1], _ => ⟨_, _, _, _, _, _, rfl, rfl, ⟨_, _, _, _, _, _, rfl, rfl, rfl⟩⟩
theorem p9 {K : PySem.W.Frag} {mg : Str → Option Value} (S : Said tb more K mg) : PatT K mg tb.pr tb.gn tb.pt 9 "bound" 1 ["names", "values"] := by
  obtain ⟨fd, F⟩ := S.def_ (i := 1) (r := r1) rfl
  exact patA F (S.defOk F (fn := f_bound) rfl ok1) (S.glo (i := 1) (r := r1) rfl) (arr := [.inl 0, .inl 1, .inl 2]) rfl (fn := f_bound) rfl (by decide) rfl fun kV doc pm an cdv ct us ws h1 h2 => match us, h1, ws, h2 with | [a0], _, [b0, b1], _ => rfl
theorem p10 {K : PySem.W.Frag} {mg : Str → Option Value} (S : Said tb more K mg) : PatT K mg tb.pr tb.gn tb.pt 10 "worth" 1 ["bindings"] := by
  obtain ⟨fd, F⟩ := S.def_ (i := 4) (r := r4) rfl
  exact patK F (S.defOk F (fn := f_worth) rfl ok4) (S.glo (i := 4) (r := r4) rfl) [("address", (He.Dv.v K (.glo "NOBODY")))] (arr := [.inl 0, .inl 1, .inr (.tuple [(.str (Str.ofString "at")), (.int 0), (.int 0)])]) rfl (fn := f_worth) rfl (by decide) (m1 S.mor) (fun z hz => sub_of (js := [1]) rfl z hz) (fun z => by cases z) fun D doc pm an cdv ct us ws mv h1 h2 h3 => match us, h1, ws, h2, mv, h3 with | [a0], _, [b0], _, [c0], _ => ⟨_, _, _, _, _, _, rfl, rfl, rfl⟩
theorem p11 {K : PySem.W.Frag} {mg : Str → Option Value} (S : Said tb more K mg) : PatT K mg tb.pr tb.gn tb.pt 11 "_law_feed" 1 [] := by
  obtain ⟨fd, F⟩ := S.def_ (i := 5) (r := r5) rfl
  exact patA F (S.defOk F (fn := f__law_feed) rfl ok5) (S.glo (i := 5) (r := r5) rfl) (arr := [.inl 0]) rfl (fn := f__law_feed) rfl (by decide) rfl fun kV doc pm an cdv ct us ws h1 h2 => match us, h1, ws, h2 with | [a0], _, [], _ => rfl
theorem p12 {K : PySem.W.Frag} {mg : Str → Option Value} (S : Said tb more K mg) : PatT K mg tb.pr tb.gn tb.pt 12 "_law_bindings" 1 [] := by
  obtain ⟨fd, F⟩ := S.def_ (i := 11) (r := r11) rfl
  exact patA F (S.defOk F (fn := f__law_bindings) rfl ok11) (S.glo (i := 11) (r := r11) rfl) (arr := [.inl 0]) rfl (fn := f__law_bindings) rfl (by decide) rfl fun kV doc pm an cdv ct us ws h1 h2 => match us, h1, ws, h2 with | [a0], _, [], _ => rfl
theorem p13 {K : PySem.W.Frag} {mg : Str → Option Value} (S : Said tb more K mg) : PatT K mg tb.pr tb.gn tb.pt 13 "worth" 1 ["address"] := by
  obtain ⟨fd, F⟩ := S.def_ (i := 4) (r := r4) rfl
  exact patK F (S.defOk F (fn := f_worth) rfl ok4) (S.glo (i := 4) (r := r4) rfl) [("bindings", (He.Dv.v K (.adr (kwAt "worth" "bindings"))))] (arr := [.inl 0, .inr (.tuple []), .inl 1]) rfl (fn := f_worth) rfl (by decide) (m2 S.mor) (fun z hz => sub_of (js := [0]) rfl z hz) (fun z => by cases z) fun D doc pm an cdv ct us ws mv h1 h2 h3 => match us, h1, ws, h2, mv, h3 with | [a0], _, [b0], _, [c0], _ => ⟨_, _, _, _, _, _, rfl, rfl, rfl⟩
theorem p14 {K : PySem.W.Frag} {mg : Str → Option Value} (S : Said tb more K mg) : PatT K mg tb.pr tb.gn tb.pt 14 "_law_worth" 3 [] := by
  obtain ⟨fd, F⟩ := S.def_ (i := 10) (r := r10) rfl
  exact patA F (S.defOk F (fn := f__law_worth) rfl ok10) (S.glo (i := 10) (r := r10) rfl) (arr := [.inl 0, .inl 1, .inl 2]) rfl (fn := f__law_worth) rfl (by decide) rfl fun kV doc pm an cdv ct us ws h1 h2 => match us, h1, ws, h2 with | [a0, a1, a2], _, [], _ => rfl
theorem p15 {K : PySem.W.Frag} {mg : Str → Option Value} (S : Said tb more K mg) : PatT K mg tb.pr tb.gn tb.pt 15 "_law_bound_right" 2 [] := by
  obtain ⟨fd, F⟩ := S.def_ (i := 13) (r := r13) rfl
  exact patA F (S.defOk F (fn := f__law_bound_right) rfl ok13) (S.glo (i := 13) (r := r13) rfl) (arr := [.inl 0, .inl 1]) rfl (fn := f__law_bound_right) rfl (by decide) rfl fun kV doc pm an cdv ct us ws h1 h2 => match us, h1, ws, h2 with | [a0, a1], _, [], _ => rfl
theorem p16 {K : PySem.W.Frag} {mg : Str → Option Value} (S : Said tb more K mg) : PatT K mg tb.pr tb.gn tb.pt 16 "_law_by_hand" 0 [] := by
  obtain ⟨fd, F⟩ := S.def_ (i := 12) (r := r12) rfl
  exact patA F (S.defOk F (fn := f__law_by_hand) rfl ok12) (S.glo (i := 12) (r := r12) rfl) (arr := []) rfl (fn := f__law_by_hand) rfl (by decide) rfl fun kV doc pm an cdv ct us ws h1 h2 => match us, h1, ws, h2 with | [], _, [], _ => rfl
theorem p17 {K : PySem.W.Frag} {mg : Str → Option Value} (S : Said tb more K mg) : PatT K mg tb.pr tb.gn tb.pt 17 "_law_great_right" 0 [] := by
  obtain ⟨fd, F⟩ := S.def_ (i := 14) (r := r14) rfl
  exact patA F (S.defOk F (fn := f__law_great_right) rfl ok14) (S.glo (i := 14) (r := r14) rfl) (arr := []) rfl (fn := f__law_great_right) rfl (by decide) rfl fun kV doc pm an cdv ct us ws h1 h2 => match us, h1, ws, h2 with | [], _, [], _ => rfl
theorem pats (K : PySem.W.Frag) (mg : Str → Option Value) (S : Said tb more K mg) : ∀ q p, tb.pt[q]? = some p → PatT K mg tb.pr tb.gn tb.pt q p.name p.np p.ks
  | 0, _, e => by cases e; exact p0 S
  | 1, _, e => by cases e; exact p1 S
  | 2, _, e => by cases e; exact p2 S
  | 3, _, e => by cases e; exact p3 S
  | 4, _, e => by cases e; exact p4 S
  | 5, _, e => by cases e; exact p5 S
  | 6, _, e => by cases e; exact p6 S
  | 7, _, e => by cases e; exact p7 S
  | 8, _, e => by cases e; exact p8 S
  | 9, _, e => by cases e; exact p9 S
  | 10, _, e => by cases e; exact p10 S
  | 11, _, e => by cases e; exact p11 S
  | 12, _, e => by cases e; exact p12 S
  | 13, _, e => by cases e; exact p13 S
  | 14, _, e => by cases e; exact p14 S
  | 15, _, e => by cases e; exact p15 S
  | 16, _, e => by cases e; exact p16 S
  | 17, _, e => by cases e; exact p17 S
  | _ + 18, _, e => by cases e
abbrev hk : PySem.W.Hook := eye 6 (faOf tb.rows) (tb.rows.map DRow.d) (tb.ck more)
def ob (s : PySem.W.SharedT) : He.AlD × Bool := eyeT 6 (faOf tb.rows) (tb.rows.map DRow.d) (tb.ck more) s
abbrev R : PySem.W.OpenRow := PySem.W.OpenLaw.row PySem.Challenge.rw_letterfolk_k02_worths
theorem run (w : World) : HandSHeadRun.RunEq R (PySem.W.view R.prog [19]) hk ob 4000 ["is_number", "bound", "value_of", "combined", "worth", "_law_feed", "_law_draw", "_law_value", "_law_sum", "_law_counted", "_law_worth", "_law_bindings", "_law_by_hand", "_law_bound_right", "_law_great_right", "NOBODY"] w := by
  intro os
  kernel_rfl
end K02
namespace DE
open PySem PySem.Spec PyProof.Rows L2
theorem at_mem {α : Type} {xs : List α} {r : Int} (h0 : 0 ≤ r) (h1 : r < (xs.length : Nat)) : ∃ x ∈ xs, atI xs r = some x := by
  unfold atI ixN
  rw [if_pos h0, if_pos h1]
  have h : r.toNat < xs.length := by omega
  exact ⟨xs[r.toNat], List.getElem_mem h, List.getElem?_eq_getElem h⟩
/-- one of a list -/
theorem wp_pick {s : S} {xs : List D} {r : Int} {P : SV → Prop} (h0 : 0 ≤ r) (h1 : r < (xs.length : Nat)) (q : ∀ x ∈ xs, P (.d x)) : wp (ixV s (.l xs) (.d (.int r))) P := by
  obtain ⟨x, hx, e⟩ := at_mem h0 h1
  refine wp_of (a := .d x) ?_ (q x hx)
  show ((atI xs r).map SV.d) = _
  rw [e]
  rfl
end DE
namespace K02
open PySem PySem.Spec PyProof.Rows L2 DE
inductive Vl : D → Prop
  | int {i : Int} (h : -1000000 ≤ i ∧ i ≤ 1000003) : Vl (.int i)
  | str {x : Str} (h : x ∈ (["done", "red", "a", "shut", "abcdefgh"] : List Str)) : Vl (.str x)
  | at_ {i j : Int} (h : 0 ≤ i ∧ i < 10) (h2 : 0 ≤ j ∧ j < 10) : Vl (.tuple [.str "at", .int i, .int j])
theorem draw' {W k : Nat} {cs : List Int} {a l n m : Int} {P : SV × List Cell → Prop} (h0 : 0 < m) (h1 : m < 1073741824) (q : ∀ r a' l' n' : Int, 0 ≤ r → r < m → P (.d (.int r), [feed cs a' l' n'])) :
    wp (prog.calls W (k + 1) 4 [.c 0, .d (.int m)] [feed cs a l n]) P := wp_calls rfl rfl (draw_wp rfl h0 h1 q)
theorem value_wp {W k : Nat} {cs : List Int} {a l n : Int} {P : SV × List Cell → Prop} (q : ∀ v a' l' n', Vl v → P (.d v, [feed cs a' l' n'])) :
    wp (prog.run W (k + 2) 7 [.c 0] [feed cs a l n]) P := by
  refine wp_run rfl ?_
  refine wp_go (wp_asg (wp_callR rfl rfl (draw' (by decide) (by decide) fun r1 a1 l1 n1 g1 g2 => ?_)))
  refine wp_of rfl ⟨rfl, ?_⟩
  refine wp_go (wp_asg (wp_two (wp_of rfl (wp_callR rfl rfl (draw' (by decide) (by decide) fun r2 a2 l2 n2 g3 g4 => wp_pick g3 g4 fun far hfar => ?_)))))
  refine wp_of rfl ⟨rfl, ?_⟩
  refine wp_go (wp_asg (wp_two (wp_of rfl (wp_callR rfl rfl (draw' (by decide) (by decide) fun r3 a3 l3 n3 g5 g6 => wp_pick g5 g6 fun word hword => ?_)))))
  refine wp_of rfl ⟨rfl, ?_⟩
  show wp (evSs _ _ _ _ ⟨[some (.c 0), some (.d (.int r1)), some (.d far), some (.d word)], [feed cs a3 l3 n3]⟩) _
  have one : ∀ {f : RunE} {g : S → Option (List D × S)} {s : S} {x : D} {Q : List D × S → Prop}, f s = some (.d x, s) → wp (g s) (fun u => Q (x :: u.1, u.2)) → wp (dCons f g s) Q := fun e z => wp_dCons (wp_of e (wp_of rfl z))
  refine wp_seq (wp_ret (wp_two (wp_data ?_)))
  refine one rfl (one rfl (one rfl (one rfl (wp_dCons (wp_data (one rfl (wp_dCons (wp_callR rfl rfl (draw' (by decide) (by decide) fun r4 a4 l4 n4 g7 g8 => wp_of rfl (one rfl (wp_of rfl ?_))))))))))) 
  refine wp_of rfl (one rfl (wp_of rfl ?_))
  refine wp_callR rfl rfl (draw' (by decide) (by decide) fun r5 a5 l5 n5 g9 g10 => wp_pick g9 g10 fun x hx => ?_)
  refine wp_of rfl (wp_of rfl (q x _ _ _ ?_))
  have hfar' : Vl far := by
    simp only [List.mem_cons, List.not_mem_nil, or_false] at hfar
    have e6 : (10 : Int) ^ Int.toNat 6 = 1000000 := by decide
    rw [e6] at hfar
    rcases hfar with rfl | rfl | rfl | rfl | rfl | rfl | rfl <;> exact .int (by omega)
  have hword' : Vl word := by
    simp only [List.mem_cons, List.not_mem_nil, or_false] at hword
    rcases hword with rfl | rfl | rfl | rfl | rfl <;> exact .str (by decide)
  dsimp only at hx
  simp only [List.mem_cons, List.not_mem_nil, or_false] at hx
  rcases hx with rfl | rfl | rfl | rfl | rfl | rfl
  · exact .int (by omega)
  · exact .int (by omega)
  · exact hfar'
  · exact hword'
  · exact .at_ (by omega) (by omega)
  · exact .int (by omega)
end K02
namespace DE
open PySem L2
theorem wp_testsAnd {f g : RunE} {s : S} {Q : Bool × S → Prop} (q : wp (tests f s) fun r => if r.1 = true then wp (tests g r.2) Q else Q (false, r.2)) : wp (tests (eAnd f g) s) Q := by
  obtain ⟨⟨b, s1⟩, e, q⟩ := q
  unfold wp
  have e2 : eAnd f g s = if b = true then g s1 else some (.d (.bool false), s1) := t_and e
  cases b with
  | true =>
    rw [if_pos rfl] at q
    obtain ⟨a, e3, q⟩ := q
    refine ⟨a, ?_, q⟩
    show (eAnd f g s).bind _ = _
    rw [e2, if_pos rfl]
    exact e3
  | false =>
    rw [if_neg Bool.false_ne_true] at q
    refine ⟨_, ?_, q⟩
    show (eAnd f g s).bind _ = _
    rw [e2, if_neg Bool.false_ne_true]
    rfl
theorem wp_testsB {f : RunE} {s : S} {Q : Bool × S → Prop} (q : wp (f s) fun r => ∃ b, r.1 = .d (.bool b) ∧ Q (b, r.2)) : wp (tests f s) Q := wp_bind (wp_imp q fun r z => by
  obtain ⟨b, e, z⟩ := z
  obtain ⟨w, t⟩ := r
  dsimp only at e z ⊢
  subst e
  exact ⟨_, rfl, z⟩)
theorem wp_pickV {s : S} {w : SV} {xs : List D} {r : Int} {P : SV → Prop} (hv : s.view w = some (.list xs)) (hd : s.dict w = none) (h0 : 0 ≤ r) (h1 : r < (xs.length : Nat)) (q : ∀ x ∈ xs, P (.d x)) : wp (ixV s w (.d (.int r))) P := by
  obtain ⟨x, hx, e⟩ := at_mem h0 h1
  refine wp_of (a := .d x) ?_ (q x hx)
  show (match s.dict w with
    | some kvs => (keyOf (.int r)).bind fun k => (find kvs k).map SV.d
    | none => (s.view w).bind fun x' => (ixOf x' r).map SV.d) = _
  rw [hd]
  show (s.view w).bind _ = _
  rw [hv]
  show ((atI xs r).map SV.d) = _
  rw [e]
  rfl
theorem wp_and1 {G : Nat → Option D} {C : Call} {e : E} {s : S} {P : SV × S → Prop} (q : wp (evE G C e s) P) : wp (evAnd G C [e] s) P := by
  unfold evAnd
  exact q
theorem wp_cmpE {G : Nat → Option D} {C : Call} {op : COp} {a b : E} {s : S} {P : SV × S → Prop} (q : wp (evE G C a s) fun r => wp (evE G C b r.2) fun t => wp (cmpA op t.2 r.1 t.1) fun k => P (.d (.bool k), t.2)) : wp (evE G C (.cmp op a b) s) P := by
  unfold evE
  exact wp_two (wp_imp q fun r z => wp_imp z fun t z => wp_map z)
theorem wp_one1 {f : RunE} {g : S → Option (List D × S)} {s : S} {x : D} {Q : List D × S → Prop} (e : f s = some (.d x, s)) (z : wp (g s) fun u => Q (x :: u.1, u.2)) : wp (dCons f g s) Q := wp_dCons (wp_of e (wp_of rfl z))
end DE
namespace K02
open PySem PySem.Spec PyProof.Rows L2 DE
inductive T where
  | is (v : D) | of (x : Str) | self | op (w : Str) (a b : T)
def T.d : T → D
  | .is v => .tuple [.str "is", v]
  | .of x => .tuple [.str "of", .str x]
  | .self => .tuple [.str "self"]
  | .op w a b => .tuple [.str w, a.d, b.d]
def ops : List Str := ["plus", "minus", "less", "same"]
def T.ok : Nat → T → Prop
  | _, .is v => Vl v
  | _, .of x => x ∈ (["n", "to", "who", "nobody"] : List Str)
  | _, .self => True
  | 0, .op _ _ _ => False
  | n + 1, .op w a b => w ∈ ops ∧ a.ok n ∧ b.ok n
theorem T.ok_of {d : Nat} {x : Str} (h : x ∈ (["n", "to", "who", "nobody"] : List Str)) : T.ok d (.of x) := by
  cases d <;> exact h
theorem value' {W k : Nat} {cs : List Int} {a l n : Int} {P : SV × List Cell → Prop} (q : ∀ v a' l' n', Vl v → P (.d v, [feed cs a' l' n'])) : wp (prog.calls W (k + 2) 6 [.c 0] [feed cs a l n]) P := wp_calls rfl rfl (value_wp q)
abbrev names : List D := [.str "n", .str "to", .str "who"]
theorem leaf_wp {W k d : Nat} {cs : List Int} {a l n : Int} {x2 x3 x4 x5 : Option SV} {P : Fl × S → Prop} {nw : SV} (hn : nw = .l names ∨ nw = .d (.list names)) (q : ∀ (t : T) a' l' n' v, T.ok d t → P (.rt (.d t.d), ⟨v, [feed cs a' l' n']⟩)) :
    wp (evSs prog.G (prog.calls W (k + 2)) W (f__law_sum.body.drop 1) ⟨[some (.c 0), some nw, x2, x3, x4, x5], [feed cs a l n]⟩) P := by
  refine wp_seq (wp_ifW (wp_testsAnd (wp_of (a := (true, ⟨[some (.c 0), some nw, x2, x3, x4, x5], [feed cs a l n]⟩)) (by rcases hn with rfl | rfl <;> kernel_rfl) ?_)))
  refine wp_testsB (wp_and1 (wp_cmpE (wp_callR rfl rfl (draw' (by decide) (by decide) fun r1 a1 l1 n1 g1 g2 => wp_of rfl (wp_of (a := decide (0 < r1)) rfl ⟨decide (0 < r1), rfl, ?_⟩)))))
  split
  · refine wp_seq (wp_ret (wp_data (wp_one1 rfl (wp_dCons (wp_two ?_)))))
    have hr : wp (evE prog.G (prog.calls W (k + 2)) (.v 1) ⟨[some (.c 0), some nw, x2, x3, x4, x5], [feed cs a1 l1 n1]⟩) fun r => r.2 = ⟨[some (.c 0), some nw, x2, x3, x4, x5], [feed cs a1 l1 n1]⟩ ∧ (∀ s : S, s.v = [some (.c 0), some nw, x2, x3, x4, x5] → s.view r.1 = some (.list names) ∧ s.dict r.1 = none) := by
      rcases hn with rfl | rfl
      · refine wp_of rfl ⟨rfl, fun s hs => ?_⟩
        obtain ⟨v, h⟩ := s
        dsimp only at hs
        subst hs
        exact ⟨rfl, rfl⟩
      · exact wp_of rfl ⟨rfl, fun s hs => ⟨rfl, rfl⟩⟩
    refine wp_imp hr fun r z => ?_
    obtain ⟨w, s1⟩ := r
    obtain ⟨e, z⟩ := z
    dsimp only at e z ⊢
    subst e
    refine wp_callR (ws := [.c 0, .d (.int 3)]) (us := []) (s1 := ⟨[some (.c 0), some nw, x2, x3, x4, x5], [feed cs a1 l1 n1]⟩) (by rcases hn with rfl | rfl <;> rfl) rfl (draw' (by decide) (by decide) fun r2 a2 l2 n2 g3 g4 => ?_)
    obtain ⟨z1, z2⟩ := z ⟨[some (.c 0), some nw, x2, x3, x4, x5], [feed cs a2 l2 n2]⟩ rfl
    refine wp_pickV z1 z2 g3 g4 fun x hx => ?_
    refine wp_of rfl (wp_of rfl (wp_of rfl ?_))
    simp only [List.mem_cons, List.not_mem_nil, or_false] at hx
    rcases hx with rfl | rfl | rfl
    · exact q (.of "n") _ _ _ _ (T.ok_of (by decide))
    · exact q (.of "to") _ _ _ _ (T.ok_of (by decide))
    · exact q (.of "who") _ _ _ _ (T.ok_of (by decide))
  · refine wp_of rfl ?_
    refine wp_go (wp_asg (wp_data ?_))
    refine wp_dCons (wp_data (wp_one1 rfl (wp_dCons (wp_callR rfl rfl (value' fun v1 a2 l2 n2 hv1 => wp_of rfl (wp_of rfl (wp_of rfl ?_)))))))
    refine wp_dCons (wp_data (wp_one1 rfl (wp_dCons (wp_callR rfl rfl (value' fun v2 a3 l3 n3 hv2 => wp_of rfl (wp_of rfl (wp_of rfl ?_)))))))
    refine wp_of rfl (wp_of rfl ⟨rfl, ?_⟩)
    show wp (evSs _ _ _ _ ⟨[some (.c 0), some nw, x2, some (.l [.tuple [.str "is", v1], .tuple [.str "is", v2], .tuple [.str "self"], .tuple [.str "of", .str "nobody"]]), x4, x5], [feed cs a3 l3 n3]⟩) _
    refine wp_seq (wp_ret (wp_two (wp_of rfl (wp_two (wp_callR rfl rfl (draw' (by decide) (by decide) fun r4 a4 l4 n4 g7 g8 => ?_))))))
    refine wp_of rfl (wp_of (a := .d (.int (r4 / 2))) rfl ?_)
    refine wp_pickV (xs := [.tuple [.str "is", v1], .tuple [.str "is", v2], .tuple [.str "self"], .tuple [.str "of", .str "nobody"]]) rfl rfl (by omega) (by show r4 / 2 < 4; omega) fun x hx => ?_
    refine wp_of rfl ?_
    simp only [List.mem_cons, List.not_mem_nil, or_false] at hx
    rcases hx with rfl | rfl | rfl | rfl
    · exact q (.is v1) _ _ _ _ (by cases d <;> exact hv1)
    · exact q (.is v2) _ _ _ _ (by cases d <;> exact hv2)
    · exact q .self _ _ _ _ (by cases d <;> trivial)
    · exact q (.of "nobody") _ _ _ _ (T.ok_of (by decide))
theorem sum_wp {W : Nat} {cs : List Int} : ∀ (d : Nat) {f : Nat} {a l n z : Int} {P : SV × List Cell → Prop} {nw : SV}, d + 3 ≤ f → z = (d : Int) → (nw = .l names ∨ nw = .d (.list names)) → (∀ t a' l' n', T.ok d t → P (.d t.d, [feed cs a' l' n'])) →
    wp (prog.calls W f 5 [.c 0, nw, .d (.int z)] [feed cs a l n]) P := by
  intro d
  induction d with
  | zero =>
    intro f a l n z P nw hf hz hn q
    obtain ⟨k, rfl⟩ : ∃ k, f = k + 3 := ⟨f - 3, by omega⟩
    subst hz
    refine wp_calls rfl rfl (wp_run rfl ?_)
    refine wp_nx (s1 := ⟨[some (.c 0), some nw, some (.d (.int 0)), none, none, none], [feed cs a l n]⟩) (by rcases hn with rfl | rfl <;> rfl) ?_
    exact leaf_wp (d := 0) hn fun t a' l' n' v ht => wp_of rfl (q t a' l' n' ht)
  | succ d ih =>
    intro f a l n z P nw hf hz hn q
    obtain ⟨k, rfl⟩ : ∃ k, f = k + 3 := ⟨f - 3, by omega⟩
    have hz0 : decide (0 < z) = true := decide_eq_true (by omega)
    refine wp_calls rfl rfl (wp_run rfl ?_)
    show wp (evSs prog.G (prog.calls W (k + 2)) W f__law_sum.body ⟨[some (.c 0), some nw, some (.d (.int z)), none, none, none], [feed cs a l n]⟩) _
    refine wp_seq (wp_ifW (wp_testsAnd (wp_of (a := (decide (0 < z), ⟨[some (.c 0), some nw, some (.d (.int z)), none, none, none], [feed cs a l n]⟩)) (by rcases hn with rfl | rfl <;> rfl) ?_)))
    rw [if_pos hz0]
    refine wp_testsB (wp_and1 (wp_cmpE (wp_callR (ws := [.c 0, .d (.int 3)]) (us := []) (s1 := ⟨[some (.c 0), some nw, some (.d (.int z)), none, none, none], [feed cs a l n]⟩) (by rcases hn with rfl | rfl <;> rfl) rfl ?_)))
    refine draw' (by decide) (by decide) fun r1 a1 l1 n1 g1 g2 => wp_of rfl (wp_of (a := PyData.eqv (.int r1) (.int 0)) rfl ⟨PyData.eqv (.int r1) (.int 0), rfl, ?_⟩)
    split
    · refine wp_go (wp_asg (wp_two (wp_of (a := (.l [.str "plus", .str "minus", .str "less", .str "same"], ⟨[some (.c 0), some nw, some (.d (.int z)), none, none, none], [feed cs a1 l1 n1]⟩)) rfl (wp_callR (ws := [.c 0, .d (.int 4)]) (us := []) (s1 := ⟨[some (.c 0), some nw, some (.d (.int z)), none, none, none], [feed cs a1 l1 n1]⟩) (by rcases hn with rfl | rfl <;> rfl) rfl ?_))))
      refine draw' (by decide) (by decide) fun r2 a2 l2 n2 g3 g4 => wp_pick g3 g4 fun w hw => ?_
      refine wp_of (a := ⟨[some (.c 0), some nw, some (.d (.int z)), none, some (.d w), none], [feed cs a2 l2 n2]⟩) rfl ⟨rfl, ?_⟩
      have hz1 : z - 1 = (d : Int) := by omega
      refine wp_go (wp_asg (wp_callR (ws := [.c 0, .d (.list names), .d (.int (z - 1))]) (us := []) (s1 := ⟨[some (.c 0), some (.d (.list names)), some (.d (.int z)), none, some (.d w), none], [feed cs a2 l2 n2]⟩) (by rcases hn with rfl | rfl <;> rfl) rfl ?_))
      refine ih (f := k + 2) (by omega) hz1 (.inr rfl) fun t1 a3 l3 n3 ht1 => ?_
      refine wp_of (a := ⟨[some (.c 0), some (.d (.list names)), some (.d (.int z)), none, some (.d w), some (.d t1.d)], [feed cs a3 l3 n3]⟩) rfl ⟨rfl, ?_⟩
      refine wp_seq (wp_ret (wp_data (wp_one1 rfl (wp_one1 rfl (wp_dCons (wp_callR (ws := [.c 0, .d (.list names), .d (.int (z - 1))]) (us := []) (s1 := ⟨[some (.c 0), some (.d (.list names)), some (.d (.int z)), none, some (.d w), some (.d t1.d)], [feed cs a3 l3 n3]⟩) rfl rfl ?_))))))
      refine ih (f := k + 2) (by omega) hz1 (.inr rfl) fun t2 a4 l4 n4 ht2 => ?_
      refine wp_of rfl (wp_of rfl (wp_of rfl (wp_of rfl ?_)))
      simp only [List.mem_cons, List.not_mem_nil, or_false] at hw
      rcases hw with rfl | rfl | rfl | rfl
      · exact q (.op "plus" t1 t2) _ _ _ ⟨by decide, ht1, ht2⟩
      · exact q (.op "minus" t1 t2) _ _ _ ⟨by decide, ht1, ht2⟩
      · exact q (.op "less" t1 t2) _ _ _ ⟨by decide, ht1, ht2⟩
      · exact q (.op "same" t1 t2) _ _ _ ⟨by decide, ht1, ht2⟩
    · refine wp_of rfl ?_
      exact leaf_wp (d := d + 1) hn fun t a' l' n' v ht => wp_of rfl (q t a' l' n' ht)
end K02
namespace DE
open PySem
theorem t_cmpE {G : Nat → Option D} {C : Call} {op : COp} {a b : E} {s s1 s2 : S} {x y : SV} {k : Bool} (e : evE G C a s = some (x, s1)) (e2 : evE G C b s1 = some (y, s2)) (e3 : cmpA op s2 x y = some k) : evE G C (.cmp op a b) s = some (.d (.bool k), s2) := by
  rw [evE]
  unfold eCmp
  refine t_two e e2 ?_
  rw [e3]
  rfl
end DE
namespace K02
open PySem PySem.Spec PyProof.Rows L2 DE
def num : D → Int
  | .int i => i
  | _ => 0
def comb (w : Str) (x y : D) : D :=
  if w = "same" then .int (if PyData.eqv x y = true then 1 else 0) else if w = "plus" then .int (num x + num y) else if w = "minus" then .int (num x - num y) else .int (if num x < num y then 1 else 0)
def T.val (look : Str → D) (home : D) : T → D
  | .is v => v
  | .of x => look x
  | .self => home
  | .op w a b => comb w (a.val look home) (b.val look home)
/-- what a sum can come to -/
inductive Rv (b : Int) : D → Prop
  | int {i : Int} (h : -b ≤ i ∧ i ≤ b) : Rv b (.int i)
  | str {x : Str} (h : x ∈ (["done", "red", "a", "shut", "abcdefgh"] : List Str)) : Rv b (.str x)
  | at_ {i j : Int} (h : 0 ≤ i ∧ i < 10) (h2 : 0 ≤ j ∧ j < 10) : Rv b (.tuple [.str "at", .int i, .int j])
theorem Vl.rv {v : D} {b : Int} (h : Vl v) (hb : 1000003 ≤ b) : Rv b v := by
  cases h with
  | int h => exact .int (by omega)
  | str h => exact .str h
  | at_ h h2 => exact .at_ h h2
theorem Rv.mono {v : D} {b c : Int} (h : Rv b v) (hb : b ≤ c) : Rv c v := by
  cases h with
  | int h => exact .int (by omega)
  | str h => exact .str h
  | at_ h h2 => exact .at_ h h2
theorem Rv.shaped {v : D} {b : Int} (h : Rv b v) : SeqAt.shaped v = true := by
  cases h with
  | int h => rfl
  | str h =>
    simp only [List.mem_cons, List.not_mem_nil, or_false] at h
    rcases h with rfl | rfl | rfl | rfl | rfl <;> kernel_rfl
  | at_ h h2 => kernel_rfl
theorem Rv.eqOk {v w : D} {b c : Int} (h : Rv b v) (h2 : Rv c w) : DE.eqOk v w = true := by
  unfold DE.eqOk
  rw [h.shaped, h2.shaped]
  simp
theorem wp_eq {α : Type} {o : Option α} {a : α} (h : wp o fun r => r = a) : o = some a := by
  obtain ⟨b, e, rfl⟩ := h
  exact e
theorem comb_same {x y : D} : comb "same" x y = .int (if PyData.eqv x y = true then 1 else 0) := rfl
theorem comb_less {x y : D} : comb "less" x y = .int (if num x < num y then 1 else 0) := by kernel_rfl
theorem num_run {W k : Nat} {h : List Cell} {x : D} {b : Int} {i : Nat} {v : List (Option SV)} (hv : v[i]? = some (some (.d x))) (hx : Rv b x) : evE prog.G (prog.calls W (k + 1)) ((E.call 0 [E.v i] []).ite (E.v i) (E.k (.int 0))) ⟨v, h⟩ = some (.d (.int (num x)), ⟨v, h⟩) := by
  have h0 : S.at ⟨v, h⟩ i = some (.d x) := by unfold S.at; rw [hv]; rfl
  have e0 : eVar i ⟨v, h⟩ = some (.d x, ⟨v, h⟩) := by unfold eVar; rw [h0]; rfl
  have ea : evH prog.G (prog.calls W (k + 1)) [E.v i] ⟨v, h⟩ = some ([.d x], ⟨v, h⟩) := by
    rw [evH, evH, evE]
    unfold hCons
    rw [e0]
    rfl
  have ec : tests (evE prog.G (prog.calls W (k + 1)) (E.call 0 [E.v i] [])) ⟨v, h⟩ = some (isTy .int x && !isTy .bool x, ⟨v, h⟩) := by
    refine t_tests ?_
    rw [evE]
    unfold eCall
    rw [ea]
    cases x <;> rfl
  rw [evE, t_ite ec]
  cases hx with
  | int _ => exact e0
  | str _ => rfl
  | at_ _ _ => rfl
theorem comb_run {W k : Nat} {h : List Cell} {x y : D} {b c : Int} {w : Str} (hw : w ∈ ops) (hx : Rv b x) (hy : Rv c y) : prog.run W (k + 2) 3 [.d (.str w), .d x, .d y] h = some (.d (comb w x y), h) := by
  simp only [ops, List.mem_cons, List.not_mem_nil, or_false] at hw
  rcases hw with rfl | rfl | rfl | rfl
  · cases hx <;> cases hy <;> kernel_rfl
  · cases hx <;> cases hy <;> kernel_rfl
  · rw [comb_less]
    refine wp_eq (wp_run rfl ?_)
    refine wp_nx (s1 := ⟨[some (.d (.str "less")), some (.d x), some (.d y), none, none], h⟩) (by kernel_rfl) ?_
    refine wp_nx (s1 := ⟨[some (.d (.str "less")), some (.d x), some (.d y), some (.d (.int (num x))), none], h⟩) (t_asg (num_run rfl hx) rfl) ?_
    refine wp_nx (s1 := ⟨[some (.d (.str "less")), some (.d x), some (.d y), some (.d (.int (num x))), some (.d (.int (num y)))], h⟩) (t_asg (num_run rfl hy) rfl) ?_
    refine wp_nx (s1 := ⟨[some (.d (.str "less")), some (.d x), some (.d y), some (.d (.int (num x))), some (.d (.int (num y)))], h⟩) (by kernel_rfl) ?_
    refine wp_nx (s1 := ⟨[some (.d (.str "less")), some (.d x), some (.d y), some (.d (.int (num x))), some (.d (.int (num y)))], h⟩) (by kernel_rfl) ?_
    refine wp_seq (wp_ret (wp_ite (wp_of (a := (decide (num x < num y), ⟨[some (.d (.str "less")), some (.d x), some (.d y), some (.d (.int (num x))), some (.d (.int (num y)))], h⟩)) rfl ?_)))
    by_cases hl : num x < num y
    · rw [if_pos hl, if_pos (decide_eq_true hl)]
      exact wp_of rfl (wp_of rfl (wp_of rfl rfl))
    · rw [if_neg hl, if_neg (by simpa using hl)]
      exact wp_of rfl (wp_of rfl (wp_of rfl rfl))
  · rw [comb_same]
    refine wp_eq (wp_run rfl ?_)
    refine wp_seq (wp_ifW (wp_of (a := (true, ⟨[some (.d (.str "same")), some (.d x), some (.d y), none, none], h⟩)) (by kernel_rfl) ?_))
    refine wp_seq (wp_ret (wp_ite (wp_of (a := (PyData.eqv x y, ⟨[some (.d (.str "same")), some (.d x), some (.d y), none, none], h⟩)) (t_tests (t_cmpE (x := .d x) (y := .d y) rfl rfl ?_)) ?_)))
    · show (if eqOk x y = true then _ else none) = _
      rw [if_pos (hx.eqOk hy)]
    · split <;> exact wp_of rfl (wp_of rfl (wp_of rfl rfl))
/-! ### the program's own worth -/
abbrev B := List (Str × D)
def B.d (b : B) : D := .tuple (b.map fun q => .tuple [.str q.1, q.2])
def look : B → Str → D
  | [], _ => .int 0
  | (y, v) :: r, x => if (y == x) = true then v else look r x
theorem value_of_run {W k : Nat} {h : List Cell} {x : Str} {b : B} : prog.run W (k + 1) 2 [.d (.str x), .d b.d] h = some (.d (look b x), h) := by
  have key : ∀ (c : B) (v2 v3 : Option SV), wp (forL (fun y st => (asgT (.tp [.nm 2, .nm 3]) y st).bind (evSs prog.G (prog.calls W k) W [.iff (.cmp .eq (.v 2) (.v 0)) [.ret (.mv 3)] []])) (c.map fun q => .tuple [.str q.1, q.2]) ⟨[some (.d (.str x)), some (.d b.d), v2, v3], h⟩)
      (fun r => (r.1 = .rt (.d (look c x)) ∧ r.2.h = h) ∨ (r.1 = .nx ∧ look c x = .int 0 ∧ ∃ v, r.2 = ⟨v, h⟩)) := by
    intro c
    induction c with
    | nil => exact fun v2 v3 => wp_of rfl (.inr ⟨rfl, rfl, _, rfl⟩)
    | cons q c ih =>
      intro v2 v3
      obtain ⟨y, v⟩ := q
      have e : (asgT (.tp [.nm 2, .nm 3]) (.tuple [.str y, v]) ⟨[some (.d (.str x)), some (.d b.d), v2, v3], h⟩).bind (evSs prog.G (prog.calls W k) W [.iff (.cmp .eq (.v 2) (.v 0)) [.ret (.mv 3)] []]) = if (y == x) = true then some (.rt (.d v), ⟨[some (.d (.str x)), some (.d b.d), some (.d (.str y)), none], h⟩) else some (.nx, ⟨[some (.d (.str x)), some (.d b.d), some (.d (.str y)), some (.d v)], h⟩) := by
        cases hb : y == x with
        | true =>
          refine wp_eq (wp_seq (wp_if (k := y == x) (s1 := ⟨[some (.d (.str x)), some (.d b.d), some (.d (.str y)), some (.d v)], h⟩) rfl (fun _ => wp_of rfl rfl) (fun z => ?_)))
          rw [hb] at z; cases z
        | false =>
          refine wp_eq (wp_seq (wp_if (k := y == x) (s1 := ⟨[some (.d (.str x)), some (.d b.d), some (.d (.str y)), some (.d v)], h⟩) rfl (fun z => ?_) (fun _ => wp_of rfl (wp_of rfl rfl))))
          rw [hb] at z; cases z
      show wp ((Option.bind _ _).bind _) _
      rw [e]
      unfold look
      by_cases hb : (y == x) = true
      · rw [if_pos hb, if_pos hb]
        exact wp_of rfl (.inl ⟨rfl, rfl⟩)
      · rw [if_neg hb, if_neg hb]
        exact ih _ _
  refine wp_eq (wp_run rfl ?_)
  refine wp_seq ?_
  show wp (forL _ (b.map fun q => .tuple [.str q.1, q.2]) ⟨[some (.d (.str x)), some (.d b.d), none, none], h⟩) _
  refine wp_imp (key b none none) fun r z => ?_
  obtain ⟨f, s⟩ := r
  rcases z with ⟨e, e2⟩ | ⟨e, e2, v, e3⟩
  · dsimp only at e e2 ⊢
    subst e
    exact wp_of (by show some (_, s.h) = _; rw [e2]) rfl
  · dsimp only at e e3 ⊢
    subst e e3
    rw [e2]
    exact wp_of rfl (wp_of rfl rfl)
end K02
namespace K02
open PySem PySem.Spec PyProof.Rows L2 DE
theorem comb_Rv {b : Int} {x y : D} {w : Str} (hw : w ∈ ops) (hb : 1 ≤ b) (hx : Rv b x) (hy : Rv b y) : Rv (2 * b) (comb w x y) := by
  have nb : ∀ {z : D}, Rv b z → -b ≤ num z ∧ num z ≤ b := fun h => by
    cases h with
    | int h => exact h
    | str _ => show -b ≤ 0 ∧ 0 ≤ b; omega
    | at_ _ _ => show -b ≤ 0 ∧ 0 ≤ b; omega
  have h1 := nb hx
  have h2 := nb hy
  simp only [ops, List.mem_cons, List.not_mem_nil, or_false] at hw
  rcases hw with rfl | rfl | rfl | rfl
  · exact (show Rv (2 * b) (.int (num x + num y)) from .int (by omega))
  · exact (show Rv (2 * b) (.int (num x - num y)) from .int (by omega))
  · rw [comb_less]
    split <;> exact .int (by omega)
  · rw [comb_same]
    split <;> exact .int (by omega)
def bd : Nat → Int
  | 0 => 1000003
  | n + 1 => 2 * bd n
theorem bd_ge : ∀ n, 1000003 ≤ bd n
  | 0 => Int.le_refl _
  | n + 1 => by
    have := bd_ge n
    unfold bd
    omega
theorem val_Rv {lk : Str → D} {home : D} (hl : ∀ x, Rv 1000003 (lk x)) (hh : Vl home) : ∀ (t : T) (d : Nat), T.ok d t → Rv (bd d) (t.val lk home)
  | .is v, d, h => Vl.rv (by cases d <;> exact h) (bd_ge d)
  | .of x, d, h => (hl x).mono (bd_ge d)
  | .self, d, h => hh.rv (bd_ge d)
  | .op w a b, 0, h => h.elim
  | .op w a b, d + 1, h => comb_Rv h.1 (by have := bd_ge d; omega) (val_Rv hl hh a d h.2.1) (val_Rv hl hh b d h.2.2)
theorem worth_run {W : Nat} {b : B} {home : D} (hl : ∀ x, Rv 1000003 (look b x)) (hh : Vl home) : ∀ (t : T) (d : Nat) {f : Nat} {h : List Cell}, T.ok d t → d + 3 ≤ f → prog.run W f 4 [.d t.d, .d b.d, .d home] h = some (.d (t.val (look b) home), h)
  | .is v, d, f, h, ht, hf => by
    obtain ⟨k, rfl⟩ : ∃ k, f = k + 3 := ⟨f - 3, by omega⟩
    rfl
  | .self, d, f, h, ht, hf => by
    obtain ⟨k, rfl⟩ : ∃ k, f = k + 3 := ⟨f - 3, by omega⟩
    kernel_rfl
  | .of x, d, f, h, ht, hf => by
    obtain ⟨k, rfl⟩ : ∃ k, f = k + 3 := ⟨f - 3, by omega⟩
    refine wp_eq (wp_run rfl ?_)
    refine wp_nx (s1 := ⟨[some (.d (T.of x).d), some (.d b.d), some (.d home), some (.d (.str "of")), none, none], h⟩) rfl ?_
    refine wp_nx (s1 := ⟨[some (.d (T.of x).d), some (.d b.d), some (.d home), some (.d (.str "of")), none, none], h⟩) (by kernel_rfl) ?_
    refine wp_seq (wp_ifW (wp_of (a := (true, ⟨[some (.d (T.of x).d), some (.d b.d), some (.d home), some (.d (.str "of")), none, none], h⟩)) (by kernel_rfl) ?_))
    refine wp_seq (wp_ret (wp_callR (ws := [.d (.str x), .d b.d]) (us := []) rfl rfl ?_))
    exact wp_calls rfl rfl (wp_of value_of_run (wp_of rfl (wp_of rfl rfl)))
  | .op w x y, 0, f, h, ht, hf => ht.elim
  | .op w x y, d + 1, f, h, ht, hf => by
    obtain ⟨k, rfl⟩ : ∃ k, f = k + 3 := ⟨f - 3, by omega⟩
    obtain ⟨hw, hx, hy⟩ := ht
    have ex := fun h => worth_run (W := W) hl hh x d (f := k + 2) (h := h) hx (by omega)
    have ey := fun h => worth_run (W := W) hl hh y d (f := k + 2) (h := h) hy (by omega)
    have rx := val_Rv hl hh x d hx
    have ry := val_Rv hl hh y d hy
    refine wp_eq (wp_run rfl ?_)
    refine wp_nx (s1 := ⟨[some (.d (T.op w x y).d), some (.d b.d), some (.d home), some (.d (.str w)), none, none], h⟩) rfl ?_
    refine wp_nx (s1 := ⟨[some (.d (T.op w x y).d), some (.d b.d), some (.d home), some (.d (.str w)), none, none], h⟩) ?_ ?_
    · simp only [ops, List.mem_cons, List.not_mem_nil, or_false] at hw
      rcases hw with rfl | rfl | rfl | rfl <;> kernel_rfl
    refine wp_nx (s1 := ⟨[some (.d (T.op w x y).d), some (.d b.d), some (.d home), some (.d (.str w)), none, none], h⟩) ?_ ?_
    · simp only [ops, List.mem_cons, List.not_mem_nil, or_false] at hw
      rcases hw with rfl | rfl | rfl | rfl <;> kernel_rfl
    refine wp_nx (s1 := ⟨[some (.d (T.op w x y).d), some (.d b.d), some (.d home), some (.d (.str w)), none, none], h⟩) ?_ ?_
    · simp only [ops, List.mem_cons, List.not_mem_nil, or_false] at hw
      rcases hw with rfl | rfl | rfl | rfl <;> kernel_rfl
    refine wp_go (wp_asg (wp_callR (ws := [.d x.d]) (us := [.d b.d, .d home]) rfl rfl (wp_calls rfl rfl (wp_of (ex h) ?_))))
    refine wp_of (a := ⟨[some (.d (T.op w x y).d), some (.d b.d), some (.d home), some (.d (.str w)), some (.d (x.val (look b) home)), none], h⟩) rfl ⟨rfl, ?_⟩
    refine wp_go (wp_asg (wp_callR (ws := [.d y.d]) (us := [.d b.d, .d home]) rfl rfl (wp_calls rfl rfl (wp_of (ey h) ?_))))
    refine wp_of (a := ⟨[some (.d (T.op w x y).d), some (.d b.d), some (.d home), some (.d (.str w)), some (.d (x.val (look b) home)), some (.d (y.val (look b) home))], h⟩) rfl ⟨rfl, ?_⟩
    refine wp_seq (wp_ret (wp_callR (ws := [.d (.str w), .d (x.val (look b) home), .d (y.val (look b) home)]) (us := []) rfl rfl (wp_calls rfl rfl (wp_of (comb_run hw rx ry) ?_))))
    exact wp_of rfl (wp_of rfl rfl)
end K02
namespace DE
open PySem L2
theorem t_pop {i : Nat} {s : S} {xs : List D} {x : D} (h : s.at i = some (.l (xs ++ [x]))) : ePop i s = some (.d x, s.set i (.l xs)) := by
  unfold ePop
  rw [h]
  simp
theorem t_app {i : Nat} {e : RunE} {s s1 s2 : S} {w : SV} {x : D} {xs : List D} (h0 : isL s i = true) (h1 : e s = some (w, s1)) (h2 : s1.fz w = some (x, s2)) (h3 : s2.at i = some (.l xs)) (h4 : xs.length < sizeLine) : sApp i e s = some (.nx, s2.set i (.l (xs ++ [x]))) := by
  unfold sApp
  rw [if_pos h0, h1]
  show (s1.fz w).bind _ = _
  rw [h2]
  show (match s2.at i with
    | some (.l xs) => if xs.length < sizeLine then some (Fl.nx, s2.set i (.l (xs ++ [x]))) else none
    | _ => none) = _
  rw [h3]
  exact if_pos h4
theorem t_ext {i : Nat} {e : RunE} {s s1 : S} {w : SV} {xs ys : List D} (h0 : isL s i = true) (h1 : e s = some (w, s1)) (h2 : s1.view w = some (.list ys)) (h3 : s1.at i = some (.l xs)) (h4 : xs.length + ys.length ≤ sizeLine) : sExt i e s = some (.nx, s1.set i (.l (xs ++ ys))) := by
  unfold sExt
  rw [if_pos h0, h1]
  show (s1.view w).bind _ = _
  rw [h2]
  show (match s1.at i with
    | some (.l xs) => (extL xs (.list ys)).map fun ys => (Fl.nx, s1.set i (.l ys))
    | _ => none) = _
  rw [h3]
  show (if xs.length + ys.length ≤ sizeLine then some (xs ++ ys) else none).map _ = _
  rw [if_pos h4]
  rfl
theorem wp_while {c : S → Option (Bool × S)} {turn : RunS} {n : Nat} {s : S} {P : Fl × S → Prop} (q : wp (c s) fun r => if r.1 = true then wp (turn r.2) (fun t => match t.1 with
    | .nx => wp (whileL c turn n t.2) P
    | .ct => wp (whileL c turn n t.2) P
    | .bk => P (.nx, t.2)
    | .rt w => P (.rt w, t.2)) else P (.nx, r.2)) : wp (whileL c turn (n + 1) s) P := by
  unfold whileL
  refine wp_bind (wp_imp q fun r z => ?_)
  obtain ⟨b, s1⟩ := r
  cases b with
  | false => exact wp_some z
  | true =>
    refine wp_bind (wp_imp z fun t z => ?_)
    obtain ⟨f, s2⟩ := t
    cases f with
    | nx => exact z
    | ct => exact z
    | bk => exact wp_some z
    | rt w => exact wp_some z
end DE
namespace K02
open PySem PySem.Spec PyProof.Rows L2 DE
def T.size : T → Nat
  | .op _ a b => a.size + b.size + 1
  | _ => 1
def T.ord : T → List T
  | .op w a b => .op w a b :: (b.ord ++ a.ord)
  | t => [t]
def flat (ts : List T) : List T := ts.flatMap T.ord
def sizes (ts : List T) : Nat := (ts.map T.size).sum
theorem T.lay : ∀ (t : T) (d : Nat), T.ok d t → t.d.canLay0 = true ∧ t.d.depth ≤ d + 2
  | .is v, d, h => by
    have hv : Vl v := by cases d <;> exact h
    have hs := (hv.rv (Int.le_refl _)).shaped
    refine ⟨?_, ?_⟩
    · show ((PyData.str "is").canLay0 && (v.canLay0 && true)) = true
      rw [SeqAt.canLay_of_shaped hs]
      kernel_rfl
    · have h1 : v.depth ≤ 1 := by
        cases hv with
        | int _ => exact Nat.zero_le _
        | str _ => exact Nat.zero_le _
        | at_ _ _ => exact (show max 0 (max 0 (max 0 0)) + 1 ≤ 1 by decide)
      show max 0 (max v.depth 0) + 1 ≤ _
      omega
  | .of x, d, h => by
    have hx : x ∈ (["n", "to", "who", "nobody"] : List Str) := by cases d <;> exact h
    simp only [List.mem_cons, List.not_mem_nil, or_false] at hx
    refine ⟨?_, ?_⟩
    · rcases hx with rfl | rfl | rfl | rfl <;> kernel_rfl
    · show max 0 (max 0 0) + 1 ≤ _
      omega
  | .self, d, h => ⟨by kernel_rfl, by show max 0 0 + 1 ≤ _; omega⟩
  | .op w a b, 0, h => h.elim
  | .op w a b, d + 1, h => by
    obtain ⟨hw, ha, hb⟩ := h
    obtain ⟨a1, a2⟩ := T.lay a d ha
    obtain ⟨b1, b2⟩ := T.lay b d hb
    refine ⟨?_, ?_⟩
    · show ((PyData.str w).canLay0 && (a.d.canLay0 && (b.d.canLay0 && true))) = true
      rw [a1, b1]
      simp only [ops, List.mem_cons, List.not_mem_nil, or_false] at hw
      rcases hw with rfl | rfl | rfl | rfl <;> kernel_rfl
    · show max 0 (max a.d.depth (max b.d.depth 0)) + 1 ≤ _
      omega
theorem lays {d : Nat} : ∀ {ts : List T}, (∀ t ∈ ts, T.ok d t) → PyData.canLayAll0 (ts.map T.d) = true ∧ PyData.depthAll (ts.map T.d) ≤ d + 2
  | [], _ => ⟨rfl, Nat.zero_le _⟩
  | t :: ts, h => by
    obtain ⟨h1, h2⟩ := T.lay t d (h t (List.mem_cons_self ..))
    obtain ⟨h3, h4⟩ := lays (ts := ts) fun x hx => h x (List.mem_cons_of_mem _ hx)
    refine ⟨?_, ?_⟩
    · show (t.d.canLay0 && PyData.canLayAll0 (ts.map T.d)) = true
      rw [h1, h3]
      rfl
    · show max t.d.depth (PyData.depthAll (ts.map T.d)) ≤ _
      omega
theorem T.mono : ∀ (t : T) {d e : Nat}, T.ok d t → d ≤ e → T.ok e t
  | .is v, d, e, h, _ => by cases d <;> cases e <;> exact h
  | .of v, d, e, h, _ => by cases d <;> cases e <;> exact h
  | .self, d, e, h, _ => by cases e <;> trivial
  | .op w a b, 0, e, h, _ => h.elim
  | .op w a b, d + 1, 0, h, he => by omega
  | .op w a b, d + 1, e + 1, h, he => ⟨h.1, T.mono a h.2.1 (by omega), T.mono b h.2.2 (by omega)⟩

/-- the loop over the pile -/
theorem pile_wp {W k : Nat} {h : List Cell} {kn : SV} {am ho : D} {d : Nat} (hd : d ≤ 40) : ∀ (n : Nat) (ts os : List T) (x3 : Option SV) {W' : Nat} {P : Fl × S → Prop}, (∀ t ∈ ts, T.ok d t) → sizes ts ≤ n → n < W' → os.length + ts.length + 2 * n < 1000 →
    (∀ y3, P (.nx, ⟨[some (.d am), some kn, some (.d ho), y3, some (.l ((os ++ flat ts).map T.d)), some (.l []), some (.l []), none, none, none, none, none], h⟩)) →
    wp (whileL (tests (evE prog.G (prog.calls W k) (.cmp .ne (.v 6) (.lst [])))) (evSs prog.G (prog.calls W k) W [.asg (.nm 3) (.pop 6), .app 4 (.v 3), .iff (.cmp .inn (.ix (.v 3) (.k (.int 0))) (.tup [.k (.str (Str.ofString "plus")), .k (.str (Str.ofString "minus")), .k (.str (Str.ofString "less")), .k (.str (Str.ofString "same"))])) [.ext 6 (.lst [.ix (.v 3) (.k (.int 1)), .ix (.v 3) (.k (.int 2))])] []]) W'
      ⟨[some (.d am), some kn, some (.d ho), x3, some (.l (os.map T.d)), some (.l []), some (.l ((ts.map T.d).reverse)), none, none, none, none, none], h⟩) P := by
  intro n
  induction n with
  | zero =>
    intro ts os x3 W' P hok hsz hW hb q
    obtain ⟨m, rfl⟩ : ∃ m, W' = m + 1 := ⟨W' - 1, by omega⟩
    cases ts with
    | cons t ts =>
      exfalso
      have : 1 ≤ t.size := by cases t <;> simp [T.size]
      simp [sizes] at hsz
      omega
    | nil =>
      refine wp_while (wp_of (a := (false, _)) rfl ?_)
      have := q x3
      simpa [flat] using this
  | succ n ih =>
    intro ts os x3 W' P hok hsz hW hb q
    obtain ⟨m, rfl⟩ : ∃ m, W' = m + 1 := ⟨W' - 1, by omega⟩
    cases ts with
    | nil =>
      refine wp_while (wp_of (a := (false, _)) rfl ?_)
      have := q x3
      simpa [flat] using this
    | cons t ts =>
      obtain ⟨l1, l2⟩ := lays hok
      have hpile : ((t :: ts).map T.d).reverse = (ts.map T.d).reverse ++ [t.d] := by simp
      have hne : ∃ y ys, ((t :: ts).map T.d).reverse = y :: ys := by
        cases e : ((t :: ts).map T.d).reverse with
        | nil => simp at e
        | cons y ys => exact ⟨y, ys, rfl⟩
      have hsh : SeqAt.shaped (.list ((t :: ts).map T.d).reverse) = true := by
        obtain ⟨m1, m2⟩ := lays (d := d) (ts := (t :: ts).reverse) fun x hx => hok x (List.mem_reverse.mp hx)
        rw [← List.map_reverse]
        show ((PyData.canLayAll0 _) && decide (PyData.depthAll _ + 1 ≤ 64)) = true
        rw [m1, decide_eq_true (by omega)]
        rfl
      refine wp_while (wp_of (a := (true, ⟨[some (.d am), some kn, some (.d ho), x3, some (.l (os.map T.d)), some (.l []), some (.l (((t :: ts).map T.d).reverse)), none, none, none, none, none], h⟩)) (t_tests (t_cmpE (y := .l []) rfl rfl ?_)) ?_)
      · show (if eqOk (.list ((t :: ts).map T.d).reverse) (.list []) = true then some (!PyData.eqv (.list ((t :: ts).map T.d).reverse) (.list [])) else none) = some true
        rw [if_pos (by unfold eqOk; rw [hsh]; rfl)]
        obtain ⟨y, ys, e⟩ := hne
        rw [e]
        rfl
      rw [if_pos rfl, hpile]
      simp only [sizes, List.map_cons, List.sum_cons] at hsz
      have hlen : (os.map T.d).length < sizeLine := by rw [List.length_map]; exact Nat.lt_of_lt_of_le (m := 1000) (by omega) (by decide)
      have hlen2 : (ts.map T.d).reverse.length + 2 ≤ sizeLine := by
        simp only [List.length_reverse, List.length_map]
        simp only [List.length_cons] at hb
        exact Nat.le_trans (m := 1000) (by omega) (by decide)
      simp only [List.length_cons] at hb
      refine wp_nx (s1 := ⟨[some (.d am), some kn, some (.d ho), some (.d t.d), some (.l (os.map T.d)), some (.l []), some (.l ((ts.map T.d).reverse)), none, none, none, none, none], h⟩) (t_asg (t_pop rfl) rfl) ?_
      refine wp_nx (t_app (s1 := ⟨[some (.d am), some kn, some (.d ho), some (.d t.d), some (.l (os.map T.d)), some (.l []), some (.l ((ts.map T.d).reverse)), none, none, none, none, none], h⟩) (s2 := ⟨[some (.d am), some kn, some (.d ho), some (.d t.d), some (.l (os.map T.d)), some (.l []), some (.l ((ts.map T.d).reverse)), none, none, none, none, none], h⟩) (w := .d t.d) (x := t.d) (xs := os.map T.d) rfl rfl rfl rfl hlen) ?_
      show wp (evSs _ _ _ _ ⟨[some (.d am), some kn, some (.d ho), some (.d t.d), some (.l (os.map T.d ++ [t.d])), some (.l []), some (.l ((ts.map T.d).reverse)), none, none, none, none, none], h⟩) _
      have hos : os.map T.d ++ [t.d] = (os ++ [t]).map T.d := by simp
      have hrest : ∀ x ∈ ts, T.ok d x := fun x hx => hok x (List.mem_cons_of_mem _ hx)
      have leaf : t.ord = [t] → 1 ≤ t.size → wp (whileL (tests (evE prog.G (prog.calls W k) (.cmp .ne (.v 6) (.lst [])))) (evSs prog.G (prog.calls W k) W [.asg (.nm 3) (.pop 6), .app 4 (.v 3), .iff (.cmp .inn (.ix (.v 3) (.k (.int 0))) (.tup [.k (.str (Str.ofString "plus")), .k (.str (Str.ofString "minus")), .k (.str (Str.ofString "less")), .k (.str (Str.ofString "same"))])) [.ext 6 (.lst [.ix (.v 3) (.k (.int 1)), .ix (.v 3) (.k (.int 2))])] []]) m
          ⟨[some (.d am), some kn, some (.d ho), some (.d t.d), some (.l (os.map T.d ++ [t.d])), some (.l []), some (.l ((ts.map T.d).reverse)), none, none, none, none, none], h⟩) P := fun ho1 h1 => by
        rw [hos]
        refine ih ts (os ++ [t]) _ hrest (by unfold sizes; omega) (by omega) (by simp only [List.length_append, List.length_singleton]; omega) fun y3 => ?_
        have := q y3
        simpa [flat, ho1] using this
      cases t with
      | is v => exact wp_seq (wp_ifW (wp_of (a := (false, _)) (by kernel_rfl) (wp_of rfl (wp_of rfl (leaf rfl (Nat.le_refl _))))))
      | of v => exact wp_seq (wp_ifW (wp_of (a := (false, _)) (by kernel_rfl) (wp_of rfl (wp_of rfl (leaf rfl (Nat.le_refl _))))))
      | self => exact wp_seq (wp_ifW (wp_of (a := (false, _)) (by kernel_rfl) (wp_of rfl (wp_of rfl (leaf rfl (Nat.le_refl _))))))
      | op w a b =>
        have hop := hok _ (List.mem_cons_self ..)
        obtain ⟨d', rfl⟩ : ∃ d', d = d' + 1 := by
          cases d with
          | zero => exact hop.elim
          | succ d' => exact ⟨d', rfl⟩
        obtain ⟨hw, ha, hb'⟩ := hop
        refine wp_seq (wp_ifW (wp_of (a := (true, ⟨[some (.d am), some kn, some (.d ho), some (.d (T.op w a b).d), some (.l (os.map T.d ++ [(T.op w a b).d])), some (.l []), some (.l ((ts.map T.d).reverse)), none, none, none, none, none], h⟩)) ?_ ?_))
        · simp only [ops, List.mem_cons, List.not_mem_nil, or_false] at hw
          rcases hw with rfl | rfl | rfl | rfl <;> kernel_rfl
        rw [if_pos rfl]
        refine wp_nx (t_ext (ys := [a.d, b.d]) rfl rfl rfl rfl hlen2) ?_
        refine wp_of rfl (wp_of rfl ?_)
        have hp2 : (ts.map T.d).reverse ++ [a.d, b.d] = ((b :: a :: ts).map T.d).reverse := by simp
        show wp (whileL _ _ m ⟨[some (.d am), some kn, some (.d ho), some (.d (T.op w a b).d), some (.l (os.map T.d ++ [(T.op w a b).d])), some (.l []), some (.l ((ts.map T.d).reverse ++ [a.d, b.d])), none, none, none, none, none], h⟩) P
        rw [hos, hp2]
        refine ih (b :: a :: ts) (os ++ [.op w a b]) _ (W' := m) (fun x hx => ?_) ?_ (by omega) ?_ fun y3 => ?_
        · rcases List.mem_cons.mp hx with rfl | hx
          · exact T.mono _ hb' (by omega)
          · rcases List.mem_cons.mp hx with rfl | hx
            · exact T.mono _ ha (by omega)
            · exact hrest x hx
        · simp only [sizes, List.map_cons, List.sum_cons]
          simp only [T.size] at hsz
          omega
        · simp only [List.length_append, List.length_singleton, List.length_cons, List.length_nil]
          omega
        · have := q y3
          simpa [flat, T.ord] using this
end K02
namespace DE
open PySem L2
theorem wp_forC {turn : D → S → Option (Fl × S)} {x : D} {xs : List D} {s : S} {P : Fl × S → Prop} (q : wp (turn x s) fun r => match r.1 with
    | .nx => wp (forL turn xs r.2) P
    | .ct => wp (forL turn xs r.2) P
    | .bk => P (.nx, r.2)
    | .rt w => P (.rt w, r.2)) : wp (forL turn (x :: xs) s) P := by
  unfold forL
  refine wp_bind (wp_imp q fun r z => ?_)
  obtain ⟨f, s1⟩ := r
  cases f with
  | nx => exact z
  | ct => exact z
  | bk => exact wp_some z
  | rt w => exact wp_some z
theorem t_one {f : RunE} {k : S → SV → Option SV} {s s1 : S} {x r : SV} (e : f s = some (x, s1)) (e2 : k s1 x = some r) : eOne f k s = some (r, s1) := by
  unfold eOne
  rw [e]
  show (k s1 x).map _ = _
  rw [e2]
  rfl
theorem wp_for {it : S → Option (List D × S)} {t : T} {b : RunS} {s : S} {P : Fl × S → Prop} (q : wp (it s) fun r => wp (forL (fun x st => (asgT t x st).bind b) r.1 r.2) P) : wp (sFor it t b s) P := wp_bind q
theorem wp_get {f g h : RunE} {s : S} {P : SV × S → Prop} (q : wp (f s) fun r => wp (r.2.dict r.1) fun _ => wp (g r.2) fun t => wp (h t.2) fun u => wp (getV u.2 r.1 t.1 u.1) fun w => P (w, u.2)) : wp (eGet f g h s) P := wp_bind (wp_imp q fun _ z => wp_bind (wp_imp z fun _ z => wp_bind (wp_imp z fun _ z => wp_bind (wp_imp z fun _ z => wp_map z))))
end DE
namespace K02
open PySem PySem.Spec PyProof.Rows L2 DE
theorem counted_run {W k : Nat} {h : List Cell} {x : D} {b : Int} (hx : Rv b x) : prog.calls W (k + 1) 7 [.d x] h = some (.d (.int (num x)), h) := by
  cases hx <;> rfl
def lkK (kvs : List (Key × D)) (x : Str) : D := (find kvs (.inr x)).getD (.int 0)
abbrev foldB : List DE.St := [.iff (.cmp .eq (.ix (.v 3) (.k (.int 0))) (.k (.str (Str.ofString "is")))) [.app 5 (.ix (.v 3) (.k (.int 1)))] [.iff (.cmp .eq (.ix (.v 3) (.k (.int 0))) (.k (.str (Str.ofString "of")))) [.app 5 (.get2 (.v 1) (.ix (.v 3) (.k (.int 1))) (.k (.int 0)))] [.iff (.cmp .eq (.ix (.v 3) (.k (.int 0))) (.k (.str (Str.ofString "self")))) [.app 5 (.v 2)] [.asg (.nm 7) (.pop 5),
  .asg (.nm 8) (.pop 5),
  .mas [10, 11] [(.call 7 [(.v 8)] []), (.call 7 [(.v 7)] [])],
  .asg (.nm 9) (.dct [(.inr (Str.ofString "plus")), (.inr (Str.ofString "minus")), (.inr (Str.ofString "less"))] [(.bin .add (.v 10) (.v 11)), (.bin .sub (.v 10) (.v 11)), (.bi .int (.cmp .lt (.v 10) (.v 11)))]),
  .app 5 (.ite (.cmp .eq (.ix (.v 3) (.k (.int 0))) (.k (.str (Str.ofString "same")))) (.bi .int (.cmp .eq (.v 8) (.v 7))) (.ix (.v 9) (.ix (.v 3) (.k (.int 0)))))]]]]
abbrev stF (am ho : D) (kvs : List (Key × D)) (vs : List D) (x3 x4 x7 x8 x9 x10 x11 : Option SV) (h : List Cell) : S := ⟨[some (.d am), some (.m true kvs), some (.d ho), x3, x4, some (.l vs), some (.l []), x7, x8, x9, x10, x11], h⟩
theorem fold_wp {W k : Nat} {h : List Cell} {kvs : List (Key × D)} {am ho : D} {x4 : Option SV} (hl : ∀ x, Rv 1000003 (lkK kvs x)) (hh : Vl ho) : ∀ (t : T) (d : Nat) {vs rest : List D} {x3 x7 x8 x9 x10 x11 : Option SV} {P : Fl × S → Prop}, T.ok d t → vs.length + t.size ≤ 500 →
    (∀ y3 y7 y8 y9 y10 y11, wp (forL (fun x st => (asgT (.nm 3) x st).bind (evSs prog.G (prog.calls W (k + 1)) W foldB)) rest (stF am ho kvs (vs ++ [t.val (lkK kvs) ho]) y3 x4 y7 y8 y9 y10 y11 h)) P) →
    wp (forL (fun x st => (asgT (.nm 3) x st).bind (evSs prog.G (prog.calls W (k + 1)) W foldB)) ((t.ord.reverse).map T.d ++ rest) (stF am ho kvs vs x3 x4 x7 x8 x9 x10 x11 h)) P
  | .is v, d, vs, rest, x3, x7, x8, x9, x10, x11, P, ht, hb, q => by
    have hlen : vs.length < sizeLine := Nat.lt_of_lt_of_le (m := 1000) (by omega) (by decide)
    refine wp_forC (wp_bind (wp_of rfl ?_))
    refine wp_seq (wp_ifW (wp_of (a := (true, stF am ho kvs vs (some (.d (T.is v).d)) x4 x7 x8 x9 x10 x11 h)) (by kernel_rfl) ?_))
    rw [if_pos rfl]
    refine wp_nx (t_app (s1 := stF am ho kvs vs (some (.d (T.is v).d)) x4 x7 x8 x9 x10 x11 h) (s2 := stF am ho kvs vs (some (.d (T.is v).d)) x4 x7 x8 x9 x10 x11 h) (w := .d v) (x := v) (xs := vs) rfl rfl rfl rfl hlen) ?_
    exact wp_of rfl (wp_of rfl (q _ _ _ _ _ _))
  | .of v, d, vs, rest, x3, x7, x8, x9, x10, x11, P, ht, hb, q => by
    have hlen : vs.length < sizeLine := Nat.lt_of_lt_of_le (m := 1000) (by omega) (by decide)
    refine wp_forC (wp_bind (wp_of rfl ?_))
    refine wp_seq (wp_ifW (wp_of (a := (false, stF am ho kvs vs (some (.d (T.of v).d)) x4 x7 x8 x9 x10 x11 h)) (by kernel_rfl) ?_))
    rw [if_neg Bool.false_ne_true]
    refine wp_seq (wp_ifW (wp_of (a := (true, stF am ho kvs vs (some (.d (T.of v).d)) x4 x7 x8 x9 x10 x11 h)) (by kernel_rfl) ?_))
    rw [if_pos rfl]
    refine wp_nx (t_app (s1 := stF am ho kvs vs (some (.d (T.of v).d)) x4 x7 x8 x9 x10 x11 h) (s2 := stF am ho kvs vs (some (.d (T.of v).d)) x4 x7 x8 x9 x10 x11 h) (w := .d (lkK kvs v)) (x := lkK kvs v) (xs := vs) rfl rfl rfl rfl hlen) ?_
    exact wp_of rfl (wp_of rfl (wp_of rfl (q _ _ _ _ _ _)))
  | .self, d, vs, rest, x3, x7, x8, x9, x10, x11, P, ht, hb, q => by
    have hlen : vs.length < sizeLine := Nat.lt_of_lt_of_le (m := 1000) (by omega) (by decide)
    refine wp_forC (wp_bind (wp_of rfl ?_))
    refine wp_seq (wp_ifW (wp_of (a := (false, stF am ho kvs vs (some (.d T.self.d)) x4 x7 x8 x9 x10 x11 h)) (by kernel_rfl) ?_))
    rw [if_neg Bool.false_ne_true]
    refine wp_seq (wp_ifW (wp_of (a := (false, stF am ho kvs vs (some (.d T.self.d)) x4 x7 x8 x9 x10 x11 h)) (by kernel_rfl) ?_))
    rw [if_neg Bool.false_ne_true]
    refine wp_seq (wp_ifW (wp_of (a := (true, stF am ho kvs vs (some (.d T.self.d)) x4 x7 x8 x9 x10 x11 h)) (by kernel_rfl) ?_))
    rw [if_pos rfl]
    refine wp_nx (t_app (s1 := stF am ho kvs vs (some (.d T.self.d)) x4 x7 x8 x9 x10 x11 h) (s2 := stF am ho kvs vs (some (.d T.self.d)) x4 x7 x8 x9 x10 x11 h) (w := .d ho) (x := ho) (xs := vs) rfl rfl rfl rfl hlen) ?_
    exact wp_of rfl (wp_of rfl (wp_of rfl (wp_of rfl (q _ _ _ _ _ _))))
  | .op w a b, 0, vs, rest, x3, x7, x8, x9, x10, x11, P, ht, hb, q => ht.elim
  | .op w a b, d + 1, vs, rest, x3, x7, x8, x9, x10, x11, P, ht, hb, q => by
    obtain ⟨hw, ha, hb'⟩ := ht
    simp only [T.size] at hb
    have ra := val_Rv hl hh a d ha
    have rb := val_Rv hl hh b d hb'
    have sa : 1 ≤ b.size := by cases b <;> simp [T.size]
    have e : ((T.op w a b).ord.reverse).map T.d ++ rest = (a.ord.reverse).map T.d ++ ((b.ord.reverse).map T.d ++ ((T.op w a b).d :: rest)) := by simp [T.ord]
    rw [e]
    refine fold_wp hl hh a d ha (by omega) fun y3 y7 y8 y9 y10 y11 => ?_
    refine fold_wp hl hh b d hb' (by simp only [List.length_append, List.length_singleton]; omega) fun z3 z7 z8 z9 z10 z11 => ?_
    refine wp_forC (wp_bind (wp_of rfl ?_))
    generalize hva : a.val (lkK kvs) ho = va at *
    generalize hvb : b.val (lkK kvs) ho = vb at *
    have q' : ∀ y3 y7 y8 y9 y10 y11, wp (forL (fun x st => (asgT (.nm 3) x st).bind (evSs prog.G (prog.calls W (k + 1)) W foldB)) rest (stF am ho kvs (vs ++ [comb w va vb]) y3 x4 y7 y8 y9 y10 y11 h)) P := fun y3 y7 y8 y9 y10 y11 => by
      have z := q y3 y7 y8 y9 y10 y11
      simp only [T.val, hva, hvb] at z
      exact z
    have hlen : vs.length < sizeLine := Nat.lt_of_lt_of_le (m := 1000) (by omega) (by decide)
    refine wp_seq (wp_ifW (wp_of (a := (false, stF am ho kvs ((vs ++ [va]) ++ [vb]) (some (.d (T.op w a b).d)) x4 z7 z8 z9 z10 z11 h)) ?_ ?_))
    · simp only [ops, List.mem_cons, List.not_mem_nil, or_false] at hw
      rcases hw with rfl | rfl | rfl | rfl <;> kernel_rfl
    rw [if_neg Bool.false_ne_true]
    refine wp_seq (wp_ifW (wp_of (a := (false, stF am ho kvs ((vs ++ [va]) ++ [vb]) (some (.d (T.op w a b).d)) x4 z7 z8 z9 z10 z11 h)) ?_ ?_))
    · simp only [ops, List.mem_cons, List.not_mem_nil, or_false] at hw
      rcases hw with rfl | rfl | rfl | rfl <;> kernel_rfl
    rw [if_neg Bool.false_ne_true]
    refine wp_seq (wp_ifW (wp_of (a := (false, stF am ho kvs ((vs ++ [va]) ++ [vb]) (some (.d (T.op w a b).d)) x4 z7 z8 z9 z10 z11 h)) ?_ ?_))
    · simp only [ops, List.mem_cons, List.not_mem_nil, or_false] at hw
      rcases hw with rfl | rfl | rfl | rfl <;> kernel_rfl
    rw [if_neg Bool.false_ne_true]
    refine wp_nx (s1 := stF am ho kvs (vs ++ [va]) (some (.d (T.op w a b).d)) x4 (some (.d vb)) z8 z9 z10 z11 h) (t_asg (t_pop rfl) rfl) ?_
    refine wp_nx (s1 := stF am ho kvs vs (some (.d (T.op w a b).d)) x4 (some (.d vb)) (some (.d va)) z9 z10 z11 h) (t_asg (t_pop rfl) rfl) ?_
    refine wp_go (wp_mas (wp_hCons (wp_callR (ws := [.d va]) (us := []) rfl rfl (wp_of (counted_run ra) (wp_of rfl (wp_hCons (wp_callR (ws := [.d vb]) (us := []) rfl rfl (wp_of (counted_run rb) (wp_of rfl (wp_of rfl ?_)))))))))) 
    refine wp_of (a := stF am ho kvs vs (some (.d (T.op w a b).d)) x4 (some (.d vb)) (some (.d va)) z9 (some (.d (.int (num va)))) (some (.d (.int (num vb)))) h) rfl ⟨rfl, ?_⟩
    refine wp_nx (s1 := stF am ho kvs vs (some (.d (T.op w a b).d)) x4 (some (.d vb)) (some (.d va)) (some (.m true [(.inr "plus", .int (num va + num vb)), (.inr "minus", .int (num va - num vb)), (.inr "less", .int (if decide (num va < num vb) = true then 1 else 0))])) (some (.d (.int (num va)))) (some (.d (.int (num vb)))) h) (by kernel_rfl) ?_
    have fin : evE prog.G (prog.calls W (k + 1)) (.ite (.cmp .eq (.ix (.v 3) (.k (.int 0))) (.k (.str (Str.ofString "same")))) (.bi .int (.cmp .eq (.v 8) (.v 7))) (.ix (.v 9) (.ix (.v 3) (.k (.int 0))))) (stF am ho kvs vs (some (.d (T.op w a b).d)) x4 (some (.d vb)) (some (.d va)) (some (.m true [(.inr "plus", .int (num va + num vb)), (.inr "minus", .int (num va - num vb)), (.inr "less", .int (if decide (num va < num vb) = true then 1 else 0))])) (some (.d (.int (num va)))) (some (.d (.int (num vb)))) h) = some (.d (comb w va vb), stF am ho kvs vs (some (.d (T.op w a b).d)) x4 (some (.d vb)) (some (.d va)) (some (.m true [(.inr "plus", .int (num va + num vb)), (.inr "minus", .int (num va - num vb)), (.inr "less", .int (if decide (num va < num vb) = true then 1 else 0))])) (some (.d (.int (num va)))) (some (.d (.int (num vb)))) h) := by
      simp only [ops, List.mem_cons, List.not_mem_nil, or_false] at hw
      rcases hw with rfl | rfl | rfl | rfl
      · kernel_rfl
      · kernel_rfl
      · rw [comb_less]
        by_cases hlt : num va < num vb
        · rw [decide_eq_true hlt, if_pos hlt]
          kernel_rfl
        · rw [decide_eq_false hlt, if_neg hlt]
          kernel_rfl
      · have ec : evE prog.G (prog.calls W (k + 1)) (.cmp .eq (.v 8) (.v 7)) (stF am ho kvs vs (some (.d (T.op (Str.ofString "same") a b).d)) x4 (some (.d vb)) (some (.d va)) (some (.m true [(.inr "plus", .int (num va + num vb)), (.inr "minus", .int (num va - num vb)), (.inr "less", .int (if decide (num va < num vb) = true then 1 else 0))])) (some (.d (.int (num va)))) (some (.d (.int (num vb)))) h) = some (.d (.bool (PyData.eqv va vb)), (stF am ho kvs vs (some (.d (T.op (Str.ofString "same") a b).d)) x4 (some (.d vb)) (some (.d va)) (some (.m true [(.inr "plus", .int (num va + num vb)), (.inr "minus", .int (num va - num vb)), (.inr "less", .int (if decide (num va < num vb) = true then 1 else 0))])) (some (.d (.int (num va)))) (some (.d (.int (num vb)))) h)) := t_cmpE (s := (stF am ho kvs vs (some (.d (T.op (Str.ofString "same") a b).d)) x4 (some (.d vb)) (some (.d va)) (some (.m true [(.inr "plus", .int (num va + num vb)), (.inr "minus", .int (num va - num vb)), (.inr "less", .int (if decide (num va < num vb) = true then 1 else 0))])) (some (.d (.int (num va)))) (some (.d (.int (num vb)))) h)) (s1 := (stF am ho kvs vs (some (.d (T.op (Str.ofString "same") a b).d)) x4 (some (.d vb)) (some (.d va)) (some (.m true [(.inr "plus", .int (num va + num vb)), (.inr "minus", .int (num va - num vb)), (.inr "less", .int (if decide (num va < num vb) = true then 1 else 0))])) (some (.d (.int (num va)))) (some (.d (.int (num vb)))) h)) (s2 := (stF am ho kvs vs (some (.d (T.op (Str.ofString "same") a b).d)) x4 (some (.d vb)) (some (.d va)) (some (.m true [(.inr "plus", .int (num va + num vb)), (.inr "minus", .int (num va - num vb)), (.inr "less", .int (if decide (num va < num vb) = true then 1 else 0))])) (some (.d (.int (num va)))) (some (.d (.int (num vb)))) h)) (x := .d va) (y := .d vb) rfl rfl (by
          show (if eqOk va vb = true then _ else none) = _
          rw [if_pos (ra.eqOk rb)])
        have ei : evE prog.G (prog.calls W (k + 1)) (.bi .int (.cmp .eq (.v 8) (.v 7))) (stF am ho kvs vs (some (.d (T.op (Str.ofString "same") a b).d)) x4 (some (.d vb)) (some (.d va)) (some (.m true [(.inr "plus", .int (num va + num vb)), (.inr "minus", .int (num va - num vb)), (.inr "less", .int (if decide (num va < num vb) = true then 1 else 0))])) (some (.d (.int (num va)))) (some (.d (.int (num vb)))) h) = some (.d (comb (Str.ofString "same") va vb), (stF am ho kvs vs (some (.d (T.op (Str.ofString "same") a b).d)) x4 (some (.d vb)) (some (.d va)) (some (.m true [(.inr "plus", .int (num va + num vb)), (.inr "minus", .int (num va - num vb)), (.inr "less", .int (if decide (num va < num vb) = true then 1 else 0))])) (some (.d (.int (num va)))) (some (.d (.int (num vb)))) h)) := by
          rw [comb_same, evE]
          exact t_one ec rfl
        rw [evE, t_ite (k := true) (t_tests (by kernel_rfl)), if_pos rfl]
        exact ei
    refine wp_nx (t_app (s1 := stF am ho kvs vs (some (.d (T.op w a b).d)) x4 (some (.d vb)) (some (.d va)) (some (.m true [(.inr "plus", .int (num va + num vb)), (.inr "minus", .int (num va - num vb)), (.inr "less", .int (if decide (num va < num vb) = true then 1 else 0))])) (some (.d (.int (num va)))) (some (.d (.int (num vb)))) h) (s2 := stF am ho kvs vs (some (.d (T.op w a b).d)) x4 (some (.d vb)) (some (.d va)) (some (.m true [(.inr "plus", .int (num va + num vb)), (.inr "minus", .int (num va - num vb)), (.inr "less", .int (if decide (num va < num vb) = true then 1 else 0))])) (some (.d (.int (num va)))) (some (.d (.int (num vb)))) h) (w := .d (comb w va vb)) (x := comb w va vb) (xs := vs) rfl fin rfl rfl hlen) ?_
    exact wp_of rfl (wp_of rfl (wp_of rfl (wp_of rfl (q' _ _ _ _ _ _))))
end K02
namespace K02
open PySem PySem.Spec PyProof.Rows L2 DE
theorem size_le : ∀ (t : T) (d : Nat), T.ok d t → t.size + 1 ≤ 2 ^ (d + 1)
  | .is v, d, _ => by
    have : 2 ^ 1 ≤ 2 ^ (d + 1) := Nat.pow_le_pow_right (by decide) (by omega)
    show 1 + 1 ≤ _
    omega
  | .of v, d, _ => by
    have : 2 ^ 1 ≤ 2 ^ (d + 1) := Nat.pow_le_pow_right (by decide) (by omega)
    show 1 + 1 ≤ _
    omega
  | .self, d, _ => by
    have : 2 ^ 1 ≤ 2 ^ (d + 1) := Nat.pow_le_pow_right (by decide) (by omega)
    show 1 + 1 ≤ _
    omega
  | .op w a b, 0, h => h.elim
  | .op w a b, d + 1, h => by
    have h1 := size_le a d h.2.1
    have h2 := size_le b d h.2.2
    show a.size + b.size + 1 + 1 ≤ 2 ^ (d + 1 + 1)
    rw [Nat.pow_succ]
    omega
theorem lworth_run {W k : Nat} {h : List Cell} {kvs : List (Key × D)} {ho : D} (hW : 200 ≤ W) (hl : ∀ x, Rv 1000003 (lkK kvs x)) (hh : Vl ho) (t : T) (ht : T.ok 3 t) :
    prog.run W (k + 2) 10 [.d t.d, .m true kvs, .d ho] h = some (.d (t.val (lkK kvs) ho), h) := by
  have hs := size_le t 3 ht
  refine wp_eq (wp_run rfl ?_)
  refine wp_nx (s1 := ⟨[some (.d t.d), some (.m true kvs), some (.d ho), none, some (.l (([] : List T).map T.d)), some (.l []), some (.l (([t].map T.d).reverse)), none, none, none, none, none], h⟩) rfl ?_
  refine wp_seq (pile_wp (d := 3) (by decide) 20 [t] [] none (fun x hx => by rw [List.mem_singleton.mp hx]; exact ht) (by simp [sizes]; omega) (by omega) (by simp) fun y3 => ?_)
  have e : (([] : List T) ++ flat [t]).map T.d = t.ord.map T.d := by simp [flat]
  rw [e]
  refine wp_seq (wp_for (wp_of (a := ((t.ord.map T.d).reverse, ⟨[some (.d t.d), some (.m true kvs), some (.d ho), y3, some (.l (t.ord.map T.d)), some (.l []), some (.l []), none, none, none, none, none], h⟩)) rfl ?_))
  have e2 : (t.ord.map T.d).reverse = (t.ord.reverse).map T.d ++ [] := by simp
  show wp (forL _ (t.ord.map T.d).reverse _) _
  rw [e2]
  refine fold_wp (x4 := some (.l (t.ord.map T.d))) hl hh t 3 ht (by simp; omega) fun y3 y7 y8 y9 y10 y11 => ?_
  refine wp_of rfl ?_
  exact wp_of rfl (wp_of rfl rfl)
end K02
namespace DE
open PySem L2
theorem wp_comp {it : S → Option (List D × S)} {t : T} {c : S → Option (Bool × S)} {f : RunE} {own : List Nat} {s : S} {P : SV × S → Prop} (q : wp (it s) fun r => r.1.length ≤ sizeLine ∧ wp (compL (compT t c f own) r.1 (r.2.wipe own) []) fun u => P (.l u.1, u.2)) : wp (eComp it t c f own s) P := by
  refine wp_bind (wp_imp q fun r z => ?_)
  obtain ⟨h, z⟩ := z
  dsimp only
  rw [if_pos h]
  exact wp_map z
theorem wp_compE {G : Nat → Option D} {C : Call} {elt : E} {t : T} {it : I} {own : List Nat} {c : Option E} {s : S} {P : SV × S → Prop} (q : wp (evI G C it s) fun r => r.1.length ≤ sizeLine ∧ wp (compL (compT t (evC G C c) (evE G C elt) own) r.1 (r.2.wipe own) []) fun u => P (.l u.1, u.2)) : wp (evE G C (.comp elt t it own c) s) P := by
  rw [evE]
  exact wp_comp q
theorem wp_compC {turn : D → S → Option (Option D × S)} {x : D} {xs acc : List D} {s : S} {P : List D × S → Prop} (q : wp (turn x s) fun r => match r.1 with
    | some y => wp (compL turn xs r.2 (y :: acc)) P
    | none => wp (compL turn xs r.2 acc) P) : wp (compL turn (x :: xs) s acc) P := by
  unfold compL
  refine wp_bind (wp_imp q fun r z => ?_)
  obtain ⟨o, s1⟩ := r
  cases o with
  | none => exact z
  | some y => exact z
theorem wp_compT {t : T} {c : S → Option (Bool × S)} {f : RunE} {own : List Nat} {x : D} {st : S} {P : Option D × S → Prop} (q : wp (asgT t x st) fun s2 => wp (c s2) fun r => if r.1 = true then wp (f r.2) (fun u => wp (u.2.fz u.1) fun w => P (some w.1, w.2.wipe own)) else P (none, r.2.wipe own)) : wp (compT t c f own x st) P := by
  refine wp_bind (wp_imp q fun s2 z => wp_bind (wp_imp z fun r z => ?_))
  obtain ⟨b, s3⟩ := r
  cases b with
  | false => exact wp_some z
  | true => exact wp_bind (wp_imp z fun u z => wp_map z)
end DE
namespace K02
open PySem PySem.Spec PyProof.Rows L2 DE
abbrev four : List Str := ["k", "n", "to", "who"]
theorem some_wp {W k : Nat} {cs : List Int} : ∀ (xs acc : List Str) {a l n : Int} {P : List D × S → Prop}, (∀ (ys : List Str) a' l' n', ys.Sublist xs → P ((acc.reverse ++ ys).map PyData.str, ⟨[some (.c 0), none, none], [feed cs a' l' n']⟩)) →
    wp (compL (compT (.nm 2) (evC prog.G (prog.calls W (k + 1)) (some (.cmp .eq (.call 4 [(.v 0), (.k (.int 2))] []) (.k (.int 0))))) (evE prog.G (prog.calls W (k + 1)) (.v 2)) [2]) (xs.map PyData.str) ⟨[some (.c 0), none, none], [feed cs a l n]⟩ (acc.map PyData.str)) P := by
  intro xs
  induction xs with
  | nil =>
    intro acc a l n P q
    have z := q [] a l n (List.Sublist.refl _)
    refine wp_of ?_ z
    show some ((acc.map PyData.str).reverse, _) = _
    simp
  | cons x xs ih =>
    intro acc a l n P q
    refine wp_compC (wp_compT (wp_of rfl ?_))
    refine wp_testsB (wp_cmpE (wp_callR rfl rfl (draw' (by decide) (by decide) fun r a1 l1 n1 g1 g2 => wp_of rfl (wp_of (a := PyData.eqv (.int r) (.int 0)) rfl ⟨PyData.eqv (.int r) (.int 0), rfl, ?_⟩))))
    split
    · refine wp_of rfl (wp_of rfl ?_)
      refine ih (x :: acc) fun ys a' l' n' hs => ?_
      have z := q (x :: ys) a' l' n' (hs.cons₂ x)
      simpa using z
    · refine ih acc fun ys a' l' n' hs => q ys a' l' n' (hs.cons x)
theorem pairs_wp {W k : Nat} {cs : List Int} {o1 : SV} : ∀ (xs : List Str) (acc : B) {a l n : Int} {P : List D × S → Prop}, (∀ (b : B) a' l' n', b.map (·.1) = xs → (∀ q ∈ b, Vl q.2) → P ((acc.reverse ++ b).map fun q => PyData.tuple [.str q.1, q.2], ⟨[some (.c 0), some o1, none], [feed cs a' l' n']⟩)) →
    wp (compL (compT (.nm 2) (evC prog.G (prog.calls W (k + 2)) none) (evE prog.G (prog.calls W (k + 2)) (.tup [(.v 2), (.call 6 [(.v 0)] [])])) [2]) (xs.map PyData.str) ⟨[some (.c 0), some o1, none], [feed cs a l n]⟩ (acc.map fun q => PyData.tuple [.str q.1, q.2])) P := by
  intro xs
  induction xs with
  | nil =>
    intro acc a l n P q
    have z := q [] a l n rfl (fun _ h => by cases h)
    refine wp_of ?_ z
    show some ((acc.map _).reverse, _) = _
    simp
  | cons x xs ih =>
    intro acc a l n P q
    refine wp_compC (wp_compT (wp_of rfl (wp_of rfl ?_)))
    rw [if_pos rfl]
    refine wp_data (wp_one1 rfl (wp_dCons (wp_callR (ws := [.c 0]) (us := []) rfl rfl (value' fun v a1 l1 n1 hv => wp_of rfl (wp_of rfl (wp_of rfl ?_))))))
    refine ih ((x, v) :: acc) fun b a' l' n' h1 h2 => ?_
    have z := q ((x, v) :: b) a' l' n' (by simp [h1]) (fun y hy => by
      rcases List.mem_cons.mp hy with rfl | hy
      · exact hv
      · exact h2 y hy)
    simpa using z
theorem bindings_wp {W k : Nat} {cs : List Int} {a l n : Int} {P : SV × List Cell → Prop} (q : ∀ (b : B) a' l' n', (b.map (·.1)).Sublist four → (∀ y ∈ b, Vl y.2) → P (.d b.d, [feed cs a' l' n'])) :
    wp (prog.calls W (k + 3) 12 [.c 0] [feed cs a l n]) P := by
  refine wp_calls rfl rfl (wp_run rfl ?_)
  refine wp_go (wp_asg (wp_compE (wp_of rfl ⟨(by show (4 : Nat) ≤ sizeLine; decide), ?_⟩)))
  refine some_wp (k := k + 1) four [] fun ys a1 l1 n1 hs => ?_
  refine wp_of rfl ⟨rfl, ?_⟩
  refine wp_seq (wp_ret (wp_one (wp_compE (wp_of (a := (ys.map PyData.str, ⟨[some (.c 0), some (.d (.list (ys.map PyData.str))), none], [feed cs a1 l1 n1]⟩)) rfl ⟨?_, ?_⟩))))
  · rw [List.length_map]
    exact Nat.le_trans hs.length_le (show (4 : Nat) ≤ sizeLine by decide)
  refine pairs_wp (k := k) ys [] fun b a2 l2 n2 h1 h2 => ?_
  refine wp_of rfl (wp_of rfl (wp_of rfl ?_))
  exact q b _ _ _ (h1 ▸ hs) h2
end K02
/-! DE: data whose text is short. -/
namespace DE
open PySem PySem.Spec PyProof.Rows L2
structure Sml (k n : Nat) (x : D) : Prop where
  lay : x.canLay0 = true
  dp : x.depth ≤ k
  wt : x.weight ≤ n
  sh : x.intsShort 13 = true
  so : x.showable = true
structure Smls (k n : Nat) (xs : List D) : Prop where
  lay : PyData.canLayAll0 xs = true
  dp : PyData.depthAll xs ≤ k
  wt : PyData.weightAll xs ≤ n
  sh : PyData.intsShortAll 13 xs = true
  so : PyData.showableAll xs = true
section
variable {k k' n m : Nat} {x : D} {xs ys : List D}
theorem Sml.mono (h : Sml k n x) (hk : k ≤ k') (hn : n ≤ m) : Sml k' m x := ⟨h.lay, Nat.le_trans h.dp hk, Nat.le_trans h.wt hn, h.sh, h.so⟩
theorem Smls.mono (h : Smls k n xs) (hk : k ≤ k') (hn : n ≤ m) : Smls k' m xs := ⟨h.lay, Nat.le_trans h.dp hk, Nat.le_trans h.wt hn, h.sh, h.so⟩
theorem Smls.nil : Smls k n [] := ⟨rfl, Nat.zero_le _, Nat.zero_le _, rfl, rfl⟩
theorem Smls.cons (h : Sml k n x) (t : Smls k m xs) : Smls k (n + 1 + m) (x :: xs) where
  lay := by show (x.canLay0 && PyData.canLayAll0 xs) = true; rw [h.lay, t.lay]; rfl
  dp := Nat.max_le.mpr ⟨h.dp, t.dp⟩
  wt := by
    have h1 := h.wt
    have h2 := t.wt
    show x.weight + 1 + PyData.weightAll xs ≤ _
    omega
  sh := by show (x.intsShort 13 && PyData.intsShortAll 13 xs) = true; rw [h.sh, t.sh]; rfl
  so := by show (x.showable && PyData.showableAll xs) = true; rw [h.so, t.so]; rfl
theorem Sml.tup (h : Smls k n xs) : Sml (k + 1) n (.tuple xs) := ⟨h.lay, Nat.succ_le_succ h.dp, h.wt, h.sh, h.so⟩
theorem Sml.lst (h : Smls k n xs) : Sml (k + 1) n (.list xs) := ⟨h.lay, Nat.succ_le_succ h.dp, h.wt, h.sh, h.so⟩
theorem Sml.int {i : Int} (h : i.natAbs < 10 ^ 12) : Sml k 41 (.int i) := by
  have hl : i.natAbs.log2 < 40 := by
    by_cases h0 : i.natAbs = 0
    · rw [h0]; decide
    · refine (Nat.log2_lt h0).mpr (Nat.lt_of_lt_of_le h (by decide))
  refine ⟨rfl, Nat.zero_le _, ?_, ?_, ?_⟩
  · show (if i == 0 then 0 else i.natAbs.log2 + 1) ≤ 41
    split <;> omega
  · show decide _ = true
    exact decide_eq_true (PyData.shown_int_le h)
  · show decide _ = true
    exact decide_eq_true (by omega)
theorem Sml.str {x : Str} (h : PyData.strOk x = true) (hn : x.cps.size ≤ n) : Sml k n (.str x) := ⟨h, Nat.zero_le _, hn, rfl, rfl⟩
theorem Smls.all (h : ∀ x ∈ xs, Sml k n x) : Smls k (xs.length * (n + 1)) xs := by
  induction xs with
  | nil => exact .nil
  | cons x xs ih =>
    refine (Smls.cons (h x (List.mem_cons_self ..)) (ih fun y hy => h y (List.mem_cons_of_mem _ hy))).mono (Nat.le_refl _) ?_
    rw [List.length_cons, Nat.succ_mul]
    omega
theorem Sml.repr (h : Sml k n x) (hk : k ≤ 64) (hn : n ≤ 1048576) : reprD x = some (.d (.str x.shown)) := by
  have e : (2 : Nat) ^ 20 = 1048576 := by decide
  have hd := h.dp
  have hw := h.wt
  have hl : PyData.layable0 x = true := by
    show (x.canLay0 && decide (x.depth ≤ 64) && decide (x.weight ≤ 2 ^ 20)) = true
    rw [h.lay, decide_eq_true (by omega), decide_eq_true (by omega)]
    rfl
  have h1 := shown_le13 hl h.sh
  exact if_pos ⟨h.so, PyData.hasDict_of_canLay x h.lay, Nat.le_trans h1 (by decide), by omega⟩
end
end DE
namespace K02
open PySem PySem.Spec PyProof.Rows L2 DE
theorem Rv.sml {b : Int} {v : D} (h : Rv b v) (hb : b ≤ 100000000) : Sml 1 100 v := by
  cases h with
  | int h => exact (Sml.int (k := 1) (by have : (10 : Nat) ^ 12 = 1000000000000 := by decide
                                         omega)).mono (Nat.le_refl _) (by decide)
  | str h =>
    simp only [List.mem_cons, List.not_mem_nil, or_false] at h
    rcases h with rfl | rfl | rfl | rfl | rfl <;> exact Sml.str (by decide +kernel) (by decide +kernel)
  | at_ h h2 =>
    have e : (10 : Nat) ^ 12 = 1000000000000 := by decide
    exact (Sml.tup (k := 0) (Smls.cons (n := 2) (Sml.str (by decide +kernel) (by decide +kernel)) (Smls.cons (Sml.int (by omega)) (Smls.cons (Sml.int (by omega)) (.nil (n := 0)))))).mono (Nat.le_refl _) (by decide)
theorem Vl.sml {v : D} (h : Vl v) : Sml 1 100 v := (h.rv (b := 1000003) (by decide)).sml (by decide)
theorem T.sml : ∀ (t : T) (d : Nat), T.ok d t → Sml (d + 2) (120 * t.size) t.d
  | .is v, d, h => by
    have hv : Vl v := by cases d <;> exact h
    exact (Sml.tup (k := 1) (Smls.cons (n := 2) (Sml.str (by decide +kernel) (by decide +kernel)) (Smls.cons hv.sml (.nil (n := 0))))).mono (by omega) (by show _ ≤ 120 * 1; decide)
  | .of x, d, h => by
    have hx : x ∈ (["n", "to", "who", "nobody"] : List Str) := by cases d <;> exact h
    have hs : Sml 0 6 (.str x) := by
      simp only [List.mem_cons, List.not_mem_nil, or_false] at hx
      rcases hx with rfl | rfl | rfl | rfl <;> exact Sml.str (by decide +kernel) (by decide +kernel)
    exact (Sml.tup (k := 0) (Smls.cons (n := 2) (Sml.str (by decide +kernel) (by decide +kernel)) (Smls.cons hs (.nil (n := 0))))).mono (by omega) (by show _ ≤ 120 * 1; decide)
  | .self, d, h => (Sml.tup (k := 0) (Smls.cons (n := 4) (Sml.str (by decide +kernel) (by decide +kernel)) (.nil (n := 0)))).mono (by omega) (by show _ ≤ 120 * 1; decide)
  | .op w a b, 0, h => h.elim
  | .op w a b, d + 1, h => by
    have ha := T.sml a d h.2.1
    have hb := T.sml b d h.2.2
    have hw := h.1
    have hs : Sml (d + 2) 5 (.str w) := by
      simp only [ops, List.mem_cons, List.not_mem_nil, or_false] at hw
      rcases hw with rfl | rfl | rfl | rfl <;> exact Sml.str (by decide +kernel) (by decide +kernel)
    refine (Sml.tup (Smls.cons hs (Smls.cons ha (Smls.cons hb (.nil (n := 0)))))).mono (by omega) ?_
    show _ ≤ 120 * (a.size + b.size + 1)
    omega
/-- pairs of a short name and a value -/
def PairsOk (b : B) : Prop := ∀ q ∈ b, PyData.strOk q.1 = true ∧ q.1.cps.size ≤ 6 ∧ Vl q.2
theorem B.sml {b : B} (h : PairsOk b) : Sml 3 (b.length * 120) b.d := by
  have e : Smls 2 ((b.map fun q => PyData.tuple [.str q.1, q.2]).length * (110 + 1)) (b.map fun q => PyData.tuple [.str q.1, q.2]) := Smls.all fun x hx => by
    obtain ⟨q, hq, rfl⟩ := List.mem_map.mp hx
    obtain ⟨h1, h2, h3⟩ := h q hq
    exact (Sml.tup (k := 1) (Smls.cons (Sml.str h1 h2) (Smls.cons h3.sml (.nil (n := 0))))).mono (by decide) (by decide)
  rw [List.length_map] at e
  exact (Sml.tup e).mono (by decide) (by omega)
theorem four_ok {b : B} (h : (b.map (·.1)).Sublist four) (hv : ∀ y ∈ b, Vl y.2) : PairsOk b := fun q hq => by
  have h1 := h.subset (List.mem_map_of_mem (f := (·.1)) hq)
  have h2 := hv q hq
  simp only [List.mem_cons, List.not_mem_nil, or_false] at h1
  rcases h1 with e | e | e | e <;> rw [e] <;> exact ⟨by decide +kernel, by decide +kernel, h2⟩
theorem look_Rv {b : B} (hv : ∀ y ∈ b, Vl y.2) (x : Str) : Rv 1000003 (look b x) := by
  induction b with
  | nil => exact .int (by decide)
  | cons q b ih =>
    obtain ⟨y, v⟩ := q
    unfold look
    split
    · exact (hv _ (List.mem_cons_self ..)).rv (by decide)
    · exact ih fun z hz => hv z (List.mem_cons_of_mem _ hz)
end K02
namespace K02
open PySem PySem.Spec PyProof.Rows L2 DE
def dk (b : B) : List (Key × D) := b.map fun q => (.inr q.1, q.2)
def putB (b : B) (x : Str) (v : D) : B := if (b.any fun q => decide (q.1 = x)) = true then b.map (fun q => if q.1 = x then (q.1, v) else q) else b ++ [(x, v)]
theorem put_dk {b : B} {x : Str} {v : D} : put (dk b) (.inr x) v = dk (putB b x v) := by
  have e : ((dk b).any fun kv => decide (kv.1 = (Sum.inr x : Key))) = b.any fun q => decide (q.1 = x) := by
    unfold dk
    rw [List.any_map]
    congr 1
    funext q
    simp
  unfold put putB
  rw [e]
  split
  · unfold dk
    rw [List.map_map, List.map_map]
    congr 1
    funext q
    simp only [Function.comp]
    by_cases h : q.1 = x
    · simp [h]
    · simp [h]
  · simp [dk]
theorem putB_len {b : B} {x : Str} {v : D} : (putB b x v).length ≤ b.length + 1 := by
  unfold putB
  split <;> simp
theorem putB_mem {b : B} {x : Str} {v : D} {q : Str × D} (h : q ∈ putB b x v) : q ∈ b ∨ (q = (x, v)) := by
  unfold putB at h
  split at h
  · obtain ⟨r, hr, e⟩ := List.mem_map.mp h
    split at e
    · rename_i hx
      exact .inr (by rw [← e, hx])
    · exact .inl (e ▸ hr)
  · rcases List.mem_append.mp h with h | h
    · exact .inl h
    · exact .inr (by simpa using h)
def allB (t : B) (ns : List (Str × D)) : B := ns.foldl (fun t q => putB t q.1 q.2) t
theorem fold_dk : ∀ {b t : B}, (dk b).foldl (fun t q => put t q.1 q.2) (dk t) = dk (allB t b)
  | [], t => rfl
  | q :: b, t => by
    show (dk b).foldl _ (put (dk t) (.inr q.1) q.2) = dk (allB (putB t q.1 q.2) b)
    rw [put_dk]
    exact fold_dk
theorem allPair_b : ∀ {b : B}, allPair (b.map fun q => PyData.tuple [.str q.1, q.2]) = some (dk b)
  | [] => rfl
  | q :: b => by
    show ((some (Sum.inr q.1 : Key)).bind fun k => (allPair (b.map fun q => PyData.tuple [.str q.1, q.2])).map ((k, q.2) :: ·)) = _
    rw [allPair_b]
    rfl
theorem all_nodup : ∀ {b t : B}, ((t ++ b).map (·.1)).Nodup → allB t b = t ++ b
  | [], t, _ => by simp [allB]
  | q :: b, t, h => by
    have h1 : (t.any fun r => decide (r.1 = q.1)) = false := by
      rw [Bool.eq_false_iff]
      intro z
      obtain ⟨r, hr, e⟩ := List.any_eq_true.mp z
      rw [List.map_append, List.nodup_append] at h
      exact h.2.2 _ (List.mem_map_of_mem hr) _ (List.mem_map_of_mem (List.mem_cons_self ..)) (of_decide_eq_true e)
    have h2 : putB t q.1 q.2 = t ++ [q] := by
      unfold putB
      rw [h1]
      rfl
    show allB (putB t q.1 q.2) b = _
    rw [h2, all_nodup (by simpa using h)]
    simp
theorem allKey_dk : ∀ {b : B}, allKeyStr (dk b) = some (b.map (·.1))
  | [] => rfl
  | q :: b => by
    show (allKeyStr (dk b)).map _ = _
    rw [allKey_dk]
    rfl
theorem find_dk {b : B} {x : Str} (h : x ∈ b.map (·.1)) : ∃ q ∈ b, q.1 = x ∧ find (dk b) (.inr x) = some q.2 := by
  induction b with
  | nil => cases h
  | cons q b ih =>
    show ∃ r ∈ q :: b, r.1 = x ∧ (if (Sum.inr q.1 : Key) = .inr x then some q.2 else find (dk b) (.inr x)) = some r.2
    by_cases e : q.1 = x
    · exact ⟨q, List.mem_cons_self .., e, if_pos (by rw [e])⟩
    · rw [if_neg (by intro z; exact e (Sum.inr.inj z))]
      obtain ⟨r, h1, h2, h3⟩ := ih (by
        rcases List.mem_cons.mp h with h | h
        · exact absurd h.symm e
        · exact h)
      exact ⟨r, List.mem_cons_of_mem _ h1, h2, h3⟩
theorem lk_dk {b : B} {x : Str} : lkK (dk b) x = look b x := by
  induction b with
  | nil => rfl
  | cons q b ih =>
    obtain ⟨y, v⟩ := q
    show (if (Sum.inr y : Key) = .inr x then some v else find (dk b) (.inr x)).getD _ = if (y == x) = true then v else look b x
    by_cases e : y = x
    · rw [if_pos (by rw [e]), if_pos (by rw [e]; exact beq_self_eq_true x)]
      rfl
    · rw [if_neg (by intro z; exact e (Sum.inr.inj z)), if_neg (by intro z; exact e (eq_of_beq z))]
      exact ih
/-- a dict's pairs, by rising names -/
def outL (b : B) : List D := ((b.map (·.1)).mergeSort strLe).map fun x => .tuple [.str x, (find (dk b) (.inr x)).getD .none]
end K02
namespace DE
open PySem L2
theorem comp_all {turn : D → S → Option (Option D × S)} {st : S} {g : D → D} : ∀ {xs acc : List D}, (∀ x ∈ xs, turn x st = some (some (g x), st)) → compL turn xs st acc = some (acc.reverse ++ xs.map g, st)
  | [], acc, _ => by simp [compL]
  | x :: xs, acc, h => by
    unfold compL
    rw [h x (List.mem_cons_self ..)]
    show compL turn xs st (g x :: acc) = _
    rw [comp_all fun y hy => h y (List.mem_cons_of_mem _ hy)]
    simp
theorem for_all {turn : D → S → Option (Fl × S)} {α : Type} {J : List α → S → Prop} {f : α → D} {P : Fl × S → Prop} (step : ∀ x xs s, J (x :: xs) s → wp (turn (f x) s) fun r => r.1 = .nx ∧ J xs r.2) (fin : ∀ s, J [] s → P (.nx, s)) : ∀ {xs : List α} {s : S}, J xs s → wp (forL turn (xs.map f) s) P
  | [], s, h => wp_of rfl (fin s h)
  | x :: xs, s, h => wp_forC (wp_imp (step x xs s h) fun r z => by
    obtain ⟨fl, s1⟩ := r
    obtain ⟨e, z⟩ := z
    dsimp only at e
    subst e
    exact for_all step fin z)
end DE
namespace K02
open PySem PySem.Spec PyProof.Rows L2 DE
theorem dict_b {b : B} : bi1 .dict b.d = some (.m true (dk (allB [] b))) := by
  show ((some (b.map fun q => PyData.tuple [.str q.1, q.2])).bind fun xs => (allPair xs).bind fun kvs => some (SV.m true (kvs.foldl (fun t q => put t q.1 q.2) []))) = _
  show ((allPair (b.map fun q => PyData.tuple [.str q.1, q.2])).bind fun kvs => some (SV.m true (kvs.foldl (fun t q => put t q.1 q.2) []))) = _
  rw [allPair_b]
  show some (SV.m true ((dk b).foldl (fun t q => put t q.1 q.2) (dk []))) = _
  rw [fold_dk]
theorem dk_len {b : B} : (dk b).length = b.length := by simp [dk]
theorem allB_len : ∀ {l : List (Str × D)} {t : B}, (allB t l).length ≤ t.length + l.length
  | [], t => by simp [allB]
  | q :: l, t => by
    have h1 := allB_len (l := l) (t := putB t q.1 q.2)
    have h2 := putB_len (b := t) (x := q.1) (v := q.2)
    show (allB (putB t q.1 q.2) l).length ≤ t.length + (l.length + 1)
    omega
theorem sort_b {s : S} {w : SV} {b : B} (hd : s.dict w = some (dk b)) (hl : b.length < 64) : biV .sorted s w = some (.l (((b.map (·.1)).mergeSort strLe).map .str)) := by
  unfold biV
  rw [hd]
  show (allKeyStr (dk b)).bind _ = _
  rw [allKey_dk]
  exact if_pos (by rw [List.length_map]; exact hl)
theorem bound_run {W k : Nat} {h : List Cell} {b : B} {ns : List Str} {vs : List D} (hl : b.length + ns.length < 60) : prog.run W (k + 1) 1 [.d b.d, .d (.tuple (ns.map .str)), .d (.tuple vs)] h = some (.d (.tuple (outL (allB (allB [] b) (ns.zip vs)))), h) := by
  have hz : 1000 ≤ sizeLine := by decide
  have l1 : (allB [] b).length ≤ b.length := by have := allB_len (l := b) (t := []); simpa using this
  have l2 : (ns.zip vs).length ≤ ns.length := by rw [List.length_zip]; omega
  refine wp_eq (wp_run rfl ?_)
  refine wp_nx (s1 := ⟨[some (.d b.d), some (.d (.tuple (ns.map .str))), some (.d (.tuple vs)), some (.m true (dk (allB [] b))), none, none], h⟩) (t_asg (t_one rfl dict_b) rfl) ?_
  have e1 : ((ns.map PyData.str).zip vs).map (fun q => PyData.tuple [q.1, q.2]) = (ns.zip vs).map fun q => PyData.tuple [.str q.1, q.2] := by
    rw [List.zip_map_left, List.map_map]
    rfl
  refine wp_seq (wp_for (wp_of (a := (((ns.map PyData.str).zip vs).map (fun q => PyData.tuple [q.1, q.2]), ⟨[some (.d b.d), some (.d (.tuple (ns.map .str))), some (.d (.tuple vs)), some (.m true (dk (allB [] b))), none, none], h⟩)) rfl ?_))
  show wp (forL _ (((ns.map PyData.str).zip vs).map (fun q => PyData.tuple [q.1, q.2])) _) _
  rw [e1]
  refine for_all (J := fun l s => ∃ t : B, t.length + l.length < 60 ∧ allB t l = allB (allB [] b) (ns.zip vs) ∧ ∃ x4 x5, s = ⟨[some (.d b.d), some (.d (.tuple (ns.map .str))), some (.d (.tuple vs)), some (.m true (dk t)), x4, x5], h⟩) (fun q l s hJ => ?_) (fun s hJ => ?_) ⟨allB [] b, by omega, rfl, none, none, rfl⟩
  · obtain ⟨t, h1, h2, x4, x5, rfl⟩ := hJ
    obtain ⟨x, v⟩ := q
    simp only [List.length_cons] at h1
    refine wp_bind (wp_of rfl ?_)
    refine wp_nx (s1 := ⟨[some (.d b.d), some (.d (.tuple (ns.map .str))), some (.d (.tuple vs)), some (.m true (dk (putB t x v))), some (.d (.str x)), some (.d v)], h⟩) (t_set (s1 := ⟨[some (.d b.d), some (.d (.tuple (ns.map .str))), some (.d (.tuple vs)), some (.m true (dk t)), some (.d (.str x)), some (.d v)], h⟩) (s2 := ⟨[some (.d b.d), some (.d (.tuple (ns.map .str))), some (.d (.tuple vs)), some (.m true (dk t)), some (.d (.str x)), some (.d v)], h⟩) (s3 := ⟨[some (.d b.d), some (.d (.tuple (ns.map .str))), some (.d (.tuple vs)), some (.m true (dk t)), some (.d (.str x)), some (.d v)], h⟩) (w := .d v) (x := v) (y := .d (.str x)) (y' := .str x) rfl rfl rfl rfl rfl ?_) ?_
    · show (if (dk t).length < sizeLine then some _ else none) = _
      rw [if_pos (by rw [dk_len]; omega), put_dk]
      rfl
    · refine wp_of rfl ⟨rfl, putB t x v, ?_, h2, _, _, rfl⟩
      have := putB_len (b := t) (x := x) (v := v)
      show (putB t x v).length + l.length < 60
      omega
  · obtain ⟨t, h1, h2, x4, x5, rfl⟩ := hJ
    have h3 : t = allB (allB [] b) (ns.zip vs) := h2
    rw [← h3]
    simp only [List.length_nil, Nat.add_zero] at h1
    have hk : ((t.map (·.1)).mergeSort strLe).length = t.length := by rw [List.length_mergeSort, List.length_map]
    refine wp_seq (wp_ret (wp_one (wp_compE (wp_bind (wp_one (wp_of rfl (wp_of (sort_b (b := t) rfl (by omega)) ?_)))))))
    refine wp_of (a := (((t.map (·.1)).mergeSort strLe).map .str, ⟨[some (.d b.d), some (.d (.tuple (ns.map .str))), some (.d (.tuple vs)), some (.m true (dk t)), x4, x5], h⟩)) rfl ⟨?_, ?_⟩
    · show (((t.map (·.1)).mergeSort strLe).map PyData.str).length ≤ sizeLine
      rw [List.length_map, hk]
      omega
    · refine wp_of (comp_all (st := ⟨[some (.d b.d), some (.d (.tuple (ns.map .str))), some (.d (.tuple vs)), some (.m true (dk t)), none, x5], h⟩) (g := fun y => .tuple [y, match keyOf y with
        | some q => (find (dk t) q).getD .none
        | none => .none]) fun y hy => ?_) ?_
      · obtain ⟨x, hx, rfl⟩ := List.mem_map.mp hy
        obtain ⟨q, _, hq1, hq2⟩ := find_dk (b := t) (x := x) ((List.mergeSort_perm _ _).mem_iff.mp hx)
        refine wp_eq (wp_compT (wp_of rfl (wp_of rfl ?_)))
        rw [if_pos rfl]
        refine wp_data (wp_one1 rfl (wp_dCons (wp_two (wp_of rfl (wp_of rfl (wp_of (a := .d q.2) ?_ (wp_of rfl (wp_of rfl (wp_of rfl ?_)))))))))
        · show (find (dk t) (.inr x)).map SV.d = _
          rw [hq2]
          rfl
        · show (some (PyData.tuple [.str x, q.2]), _) = (some (PyData.tuple [.str x, (find (dk t) (.inr x)).getD .none]), _)
          rw [hq2]
          rfl
      · refine wp_of (a := .d (.tuple (outL t))) ?_ (wp_of rfl (wp_of rfl rfl))
        show some (SV.d (.tuple (([] : List D).reverse ++ (((t.map (·.1)).mergeSort strLe).map PyData.str).map _))) = _
        unfold outL
        rw [List.map_map]
        rfl
end K02
namespace K02
open PySem PySem.Spec PyProof.Rows L2 DE
theorem out_self : ∀ {b t : B}, (t.map (·.1)).Nodup → (∀ q ∈ b, q ∈ t) → (b.map (·.1)).map (fun x => PyData.tuple [.str x, (find (dk t) (.inr x)).getD .none]) = b.map fun q => .tuple [.str q.1, q.2]
  | [], t, _, _ => rfl
  | q :: b, t, hn, h => by
    have hq := h q (List.mem_cons_self ..)
    obtain ⟨r, hr, e1, e2⟩ := find_dk (b := t) (x := q.1) (List.mem_map_of_mem hq)
    have er : r = q := by
      have key : ∀ {t : B}, (t.map (·.1)).Nodup → r ∈ t → q ∈ t → r = q := by
        intro t
        induction t with
        | nil => intro _ h; cases h
        | cons z t ih =>
          intro hn h1 h2
          rw [List.map_cons, List.nodup_cons] at hn
          rcases List.mem_cons.mp h1 with a1 | a1
          · rcases List.mem_cons.mp h2 with a2 | a2
            · rw [a1, a2]
            · exact absurd (List.mem_map_of_mem (f := fun x : Str × D => x.1) a2) (by rw [← e1, a1]; exact hn.1)
          · rcases List.mem_cons.mp h2 with a2 | a2
            · exact absurd (List.mem_map_of_mem (f := fun x : Str × D => x.1) a1) (by rw [e1, a2]; exact hn.1)
            · exact ih hn.2 a1 a2
      exact key hn hr hq
    simp only [List.map_cons]
    rw [e2, er, out_self hn fun y hy => h y (List.mem_cons_of_mem _ hy)]
    rfl
theorem out_given {b : B} (h : (b.map (·.1)).Sublist four) : outL b = b.map fun q => .tuple [.str q.1, q.2] := by
  have hs : (b.map (·.1)).mergeSort strLe = b.map (·.1) := List.mergeSort_of_pairwise (List.Pairwise.sublist h (by decide +kernel))
  unfold outL
  rw [hs]
  exact out_self (h.nodup (by decide +kernel)) fun q hq => hq
theorem all_given {b : B} (h : (b.map (·.1)).Sublist four) : allB [] b = b := by
  have := all_nodup (t := []) (b := b) (by simpa using h.nodup (by decide +kernel))
  simpa using this
abbrev twelve : List Str := ["n", "to", "who", "a", "zz", "k", "m", "x", "y", "kid", "kin", "q"]
end K02
namespace K02
open PySem PySem.Spec PyProof.Rows L2 DE
theorem at_nat {α : Type} {xs : List α} {j : Nat} : atI xs (0 + (j : Int)) = xs[j]? := by
  unfold atI ixN
  by_cases h : (0 + (j : Int)) < (xs.length : Nat)
  · rw [if_pos (by omega), if_pos h]
    show xs[(0 + (j : Int)).toNat]? = _
    congr 1
    omega
  · rw [if_pos (by omega), if_neg h, List.getElem?_eq_none (by omega)]
    rfl
theorem rng_ok {f : RunE} {s s1 : S} {j : Int} (e : f s = some (.d (.int j), s1)) (h : -(2 ^ 62) ≤ j ∧ j < 2 ^ 62) : itRng f s = some ((List.range j.toNat).map fun (n : Nat) => .int (0 + (n : Int)), s1) := by
  unfold itRng
  rw [e]
  exact if_pos h
theorem allB_mem : ∀ {l : List (Str × D)} {t : B} {q : Str × D}, q ∈ allB t l → q ∈ t ∨ q ∈ l
  | [], t, q, h => .inl h
  | z :: l, t, q, h => by
    rcases allB_mem (l := l) (t := putB t z.1 z.2) h with h | h
    · rcases putB_mem h with h | h
      · exact .inl h
      · exact .inr (by rw [h]; exact List.mem_cons_self ..)
    · exact .inr (List.mem_cons_of_mem _ h)
theorem out_sml {t : B} (h : PairsOk t) : Sml 3 ((outL t).length * 111) (.tuple (outL t)) := by
  refine Sml.tup (k := 2) (Smls.all (n := 110) fun x hx => ?_)
  obtain ⟨y, hy, rfl⟩ := List.mem_map.mp hx
  obtain ⟨q, hq, e1, e2⟩ := find_dk (b := t) (x := y) ((List.mergeSort_perm _ _).mem_iff.mp hy)
  obtain ⟨h1, h2, h3⟩ := h q hq
  rw [e2]
  rw [e1] at h1 h2
  exact (Sml.tup (k := 1) (Smls.cons (Sml.str h1 h2) (Smls.cons h3.sml (.nil (n := 0))))).mono (by decide) (by decide)
theorem twelve_ok : ∀ y ∈ twelve, PyData.strOk y = true ∧ y.cps.size ≤ 6 := by decide +kernel
theorem dict_bl {b : B} : bi1 .dict (.list (b.map fun q => PyData.tuple [.str q.1, q.2])) = some (.m true (dk (allB [] b))) := dict_b
abbrev sR (b : B) (x3 x4 x5 x6 x7 x8 x9 : Option SV) (h : List Cell) : S := ⟨[some (.c 0), some (.d b.d), some (.l (twelve.map .str)), x3, x4, x5, x6, x7, x8, x9], h⟩
theorem picks_wp {W k : Nat} {cs : List Int} {b : B} : ∀ (xs : List D) (acc : List Str) {a l n : Int} {P : List D × S → Prop}, (∀ (ys : List Str) a' l' n', ys.length = xs.length → (∀ y ∈ ys, y ∈ twelve) → P ((acc.reverse ++ ys).map PyData.str, sR b none none none none none none none [feed cs a' l' n'])) →
    wp (compL (compT (.nm 4) (evC prog.G (prog.calls W (k + 1)) none) (evE prog.G (prog.calls W (k + 1)) (.ix (.v 2) (.call 4 [(.v 0), (.k (.int 12))] []))) [4]) xs (sR b none none none none none none none [feed cs a l n]) (acc.map PyData.str)) P := by
  intro xs
  induction xs with
  | nil =>
    intro acc a l n P q
    have z := q [] a l n rfl (fun _ h => by cases h)
    refine wp_of ?_ z
    show some ((acc.map PyData.str).reverse, _) = _
    simp
  | cons x xs ih =>
    intro acc a l n P q
    refine wp_compC (wp_compT (wp_of rfl (wp_of rfl ?_)))
    rw [if_pos rfl]
    refine wp_two (wp_of rfl (wp_callR (ws := [.c 0, .d (.int 12)]) (us := []) rfl rfl (draw' (by decide) (by decide) fun r a1 l1 n1 g1 g2 => ?_)))
    refine wp_pickV (xs := twelve.map .str) rfl rfl g1 g2 fun y hy => ?_
    obtain ⟨z, hz, rfl⟩ := List.mem_map.mp hy
    refine wp_of rfl ?_
    refine ih (z :: acc) fun ys a' l' n' h1 h2 => ?_
    have w := q (z :: ys) a' l' n' (by simp [h1]) (fun y hy => by
      rcases List.mem_cons.mp hy with rfl | hy
      · exact hz
      · exact h2 y hy)
    simpa using w
theorem values_wp {W k : Nat} {cs : List Int} {b : B} {x3 : Option SV} : ∀ (xs : List D) (acc : List D) {a l n : Int} {P : List D × S → Prop}, (∀ (ys : List D) a' l' n', ys.length = xs.length → (∀ y ∈ ys, Vl y) → P (acc.reverse ++ ys, sR b x3 none none none none none none [feed cs a' l' n'])) →
    wp (compL (compT (.nm 9) (evC prog.G (prog.calls W (k + 2)) none) (evE prog.G (prog.calls W (k + 2)) (.call 6 [(.v 0)] [])) [9]) xs (sR b x3 none none none none none none [feed cs a l n]) acc) P := by
  intro xs
  induction xs with
  | nil =>
    intro acc a l n P q
    have z := q [] a l n rfl (fun _ h => by cases h)
    refine wp_of ?_ z
    show some (acc.reverse, _) = _
    simp
  | cons x xs ih =>
    intro acc a l n P q
    refine wp_compC (wp_compT (wp_of rfl (wp_of rfl ?_)))
    rw [if_pos rfl]
    refine wp_callR (ws := [.c 0]) (us := []) rfl rfl (value' fun v a1 l1 n1 hv => ?_)
    refine wp_of rfl ?_
    refine ih (v :: acc) fun ys a' l' n' h1 h2 => ?_
    have w := q (v :: ys) a' l' n' (by simp [h1]) (fun y hy => by
      rcases List.mem_cons.mp hy with rfl | hy
      · exact hv
      · exact h2 y hy)
    simpa using w
theorem right_wp {W k : Nat} {cs : List Int} {a l n : Int} {b : B} {P : SV × List Cell → Prop} (hb : (b.map (·.1)).Sublist four) (hv : ∀ y ∈ b, Vl y.2) (q : ∀ a' l' n', P (.d (.bool true), [feed cs a' l' n'])) :
    wp (prog.calls W (k + 3) 15 [.c 0, .d b.d] [feed cs a l n]) P := by
  have hz : 1000 ≤ sizeLine := by decide
  have hb4 : b.length ≤ 4 := by have := hb.length_le; simpa using this
  refine wp_calls rfl rfl (wp_run rfl ?_)
  refine wp_nx (s1 := sR b none none none none none none none [feed cs a l n]) rfl ?_
  refine wp_go (wp_asg (wp_compE ?_))
  refine wp_bind (wp_callR (ws := [.c 0, .d (.int 13)]) (us := []) rfl rfl (draw' (by decide) (by decide) fun r a1 l1 n1 g1 g2 => ?_))
  have hr : -(2 ^ 62 : Int) ≤ r ∧ r < 2 ^ 62 := by omega
  refine wp_of (if_pos hr) ⟨?_, ?_⟩
  · show ((List.range r.toNat).map _).length ≤ sizeLine
    rw [List.length_map, List.length_range]
    omega
  refine picks_wp (k := k + 1) _ [] fun ns a2 l2 n2 h1 h2 => ?_
  have hn : ns.length ≤ 12 := by
    rw [h1]
    show ((List.range r.toNat).map _).length ≤ 12
    rw [List.length_map, List.length_range]
    omega
  refine wp_of (a := sR b (some (.l (ns.map .str))) none none none none none none [feed cs a2 l2 n2]) rfl ⟨rfl, ?_⟩
  refine wp_go (wp_mas (wp_hCons (wp_compE (wp_of (a := (ns.map .str, sR b (some (.d (.list (ns.map .str)))) none none none none none none [feed cs a2 l2 n2])) rfl ⟨?_, ?_⟩))))
  · show (ns.map PyData.str).length ≤ sizeLine
    rw [List.length_map]
    omega
  refine values_wp (k := k) _ [] fun vs a3 l3 n3 h3 h4 => ?_
  rw [List.length_map] at h3
  refine wp_of rfl (wp_hCons (wp_of (a := (.m true (dk (allB [] b)), sR b (some (.d (.list (ns.map .str)))) none none none none none none [feed cs a3 l3 n3])) ?_ (wp_of rfl (wp_of rfl ?_))))
  · rw [evE]
    exact t_one (x := .l (b.map fun q : Str × D => PyData.tuple [.str q.1, q.2])) rfl dict_bl
  rw [all_given hb]
  refine wp_of (a := sR b (some (.d (.list (ns.map .str)))) none none none (some (.l vs)) (some (.m true (dk b))) none [feed cs a3 l3 n3]) rfl ⟨rfl, ?_⟩
  -- the law's own table
  have hzl : (ns.zip vs).length = ns.length := by rw [List.length_zip]; omega
  refine wp_seq (wp_for (wp_of (a := ((List.range ns.length).map fun (j : Nat) => PyData.int (0 + (j : Int)), sR b (some (.d (.list (ns.map .str)))) none none none (some (.l vs)) (some (.m true (dk b))) none [feed cs a3 l3 n3])) ?_ ?_))
  · have hb2 : -(2 ^ 62 : Int) ≤ (((ns.map PyData.str).length : Nat) : Int) ∧ (((ns.map PyData.str).length : Nat) : Int) < 2 ^ 62 := by rw [List.length_map]; omega
    have e := rng_ok (f := evE prog.G (prog.calls W (k + 2)) (.bi .len (.v 3))) (s := sR b (some (.d (.list (ns.map .str)))) none none none (some (.l vs)) (some (.m true (dk b))) none [feed cs a3 l3 n3]) rfl hb2
    rw [Int.toNat_natCast, List.length_map] at e
    rw [evI]
    exact e
  refine for_all (J := fun (js : List Nat) s => ∃ (i : Nat) (t : B) (x4 : Option SV), js = (List.range ns.length).drop i ∧ i ≤ ns.length ∧ t.length + (ns.length - i) < 30 ∧ allB t ((ns.zip vs).drop i) = allB b (ns.zip vs) ∧ s = sR b (some (.d (.list (ns.map .str)))) x4 none none (some (.l vs)) (some (.m true (dk t))) none [feed cs a3 l3 n3]) (fun j js s hJ => ?_) (fun s hJ => ?_) ⟨0, b, none, rfl, Nat.zero_le _, by omega, rfl, rfl⟩
  · obtain ⟨i, t, x4, e1, e2, e3, e4, rfl⟩ := hJ
    have hi : i < ns.length := by
      refine Nat.lt_of_not_le fun z => ?_
      rw [List.drop_eq_nil_of_le (by rw [List.length_range]; exact z)] at e1
      cases e1
    rw [List.drop_eq_getElem_cons (by rw [List.length_range]; exact hi), List.getElem_range] at e1
    obtain ⟨rfl, e1⟩ := List.cons.inj e1
    have hv7 : atI vs (0 + (j : Int)) = some vs[j] := by rw [at_nat, List.getElem?_eq_getElem]
    have hv3 : atI (ns.map PyData.str) (0 + (j : Int)) = some (.str ns[j]) := by rw [at_nat, List.getElem?_map, List.getElem?_eq_getElem hi]; rfl
    have hz2 : (ns.zip vs).drop j = (ns[j], vs[j]) :: (ns.zip vs).drop (j + 1) := by
      rw [List.drop_eq_getElem_cons (by omega), List.getElem_zip]
    rw [hz2] at e4
    refine wp_bind (wp_of rfl ?_)
    refine wp_nx (s1 := sR b (some (.d (.list (ns.map .str)))) (some (.d (.int (0 + (j : Int))))) none none (some (.l vs)) (some (.m true (dk (putB t ns[j] vs[j])))) none [feed cs a3 l3 n3]) (t_set (s1 := sR b (some (.d (.list (ns.map .str)))) (some (.d (.int (0 + (j : Int))))) none none (some (.l vs)) (some (.m true (dk t))) none [feed cs a3 l3 n3]) (s2 := sR b (some (.d (.list (ns.map .str)))) (some (.d (.int (0 + (j : Int))))) none none (some (.l vs)) (some (.m true (dk t))) none [feed cs a3 l3 n3]) (s3 := sR b (some (.d (.list (ns.map .str)))) (some (.d (.int (0 + (j : Int))))) none none (some (.l vs)) (some (.m true (dk t))) none [feed cs a3 l3 n3]) (w := .d vs[j]) (x := vs[j]) (y := .d (.str ns[j])) (y' := .str ns[j]) ?_ rfl rfl ?_ rfl ?_) ?_
    · refine t_two (x := .b 7) (y := .d (.int (0 + (j : Int)))) rfl rfl ?_
      show (atI vs (0 + (j : Int))).map SV.d = _
      rw [hv7]
      rfl
    · refine t_two (x := .d (.list (ns.map .str))) (y := .d (.int (0 + (j : Int)))) rfl rfl ?_
      show (atI (ns.map PyData.str) (0 + (j : Int))).map SV.d = _
      rw [hv3]
      rfl
    · show (if (dk t).length < sizeLine then some _ else none) = _
      rw [if_pos (by rw [dk_len]; omega), put_dk]
      rfl
    · have := putB_len (b := t) (x := ns[j]) (v := vs[j])
      exact wp_of rfl ⟨rfl, j + 1, putB t ns[j] vs[j], _, e1, by omega, by omega, e4, rfl⟩
  · obtain ⟨i, t, x4, e1, e2, e3, e4, rfl⟩ := hJ
    have hi : i = ns.length := by
      have h := congrArg List.length e1
      rw [List.length_drop, List.length_range] at h
      simp only [List.length_nil] at h
      omega
    subst hi
    rw [List.drop_eq_nil_of_le (by omega)] at e4
    have ht : t = allB b (ns.zip vs) := e4
    have hl : t.length < 30 := by omega
    have hok : PairsOk t := by
      intro q hq
      rw [ht] at hq
      rcases allB_mem hq with h | h
      · exact four_ok hb hv q h
      · obtain ⟨y, v⟩ := q
        obtain ⟨h5, h6⟩ := List.of_mem_zip h
        have h7 := h2 y h5
        exact ⟨(twelve_ok y h7).1, (twelve_ok y h7).2, h4 v h6⟩
    have hk : ((t.map (·.1)).mergeSort strLe).length = t.length := by rw [List.length_mergeSort, List.length_map]
    have so := out_sml hok
    have hol : (outL t).length = t.length := by unfold outL; rw [List.length_map, hk]
    rw [hol] at so
    refine wp_go (wp_asg (wp_one (wp_compE (wp_bind (wp_one (wp_of rfl (wp_of (sort_b (b := t) rfl (by omega)) ?_)))))))
    refine wp_of (a := (((t.map (·.1)).mergeSort strLe).map .str, sR b (some (.d (.list (ns.map .str)))) x4 none none (some (.l vs)) (some (.m true (dk t))) none [feed cs a3 l3 n3])) rfl ⟨?_, ?_⟩
    · show (((t.map (·.1)).mergeSort strLe).map PyData.str).length ≤ sizeLine
      rw [List.length_map, hk]
      omega
    refine wp_of (comp_all (st := sR b (some (.d (.list (ns.map .str)))) x4 none none (some (.l vs)) (some (.m true (dk t))) none [feed cs a3 l3 n3]) (g := fun y => .tuple [y, match keyOf y with
        | some q => (find (dk t) q).getD .none
        | none => .none]) fun y hy => ?_) ?_
    · obtain ⟨x, hx, rfl⟩ := List.mem_map.mp hy
      obtain ⟨q, _, hq1, hq2⟩ := find_dk (b := t) (x := x) ((List.mergeSort_perm _ _).mem_iff.mp hx)
      refine wp_eq (wp_compT (wp_of rfl (wp_of rfl ?_)))
      rw [if_pos rfl]
      refine wp_data (wp_one1 rfl (wp_dCons (wp_two (wp_of rfl (wp_of rfl (wp_of (a := .d q.2) ?_ (wp_of rfl (wp_of rfl (wp_of rfl ?_)))))))))
      · show (find (dk t) (.inr x)).map SV.d = _
        rw [hq2]
        rfl
      · show (some (PyData.tuple [.str x, q.2]), _) = (some (PyData.tuple [.str x, (find (dk t) (.inr x)).getD .none]), _)
        rw [hq2]
        rfl
    refine wp_of (a := .d (.tuple (outL t))) ?_ (wp_of (a := sR b (some (.d (.list (ns.map .str)))) x4 (some (.d (.tuple (outL t)))) none (some (.l vs)) (some (.m true (dk t))) none [feed cs a3 l3 n3]) rfl ⟨rfl, ?_⟩)
    · show some (SV.d (.tuple (([] : List D).reverse ++ (((t.map (·.1)).mergeSort strLe).map PyData.str).map _))) = _
      unfold outL
      rw [List.map_map]
      rfl
    have br := bound_run (W := W) (k := k + 1) (h := [feed cs a3 l3 n3]) (b := b) (ns := ns) (vs := vs) (by omega)
    rw [all_given hb, ← ht] at br
    refine wp_go (wp_asg (wp_callR (ws := [.d b.d]) (us := [.d (.tuple (ns.map .str)), .d (.tuple vs)]) rfl rfl (wp_calls rfl rfl (wp_of br ?_))))
    refine wp_of (a := sR b (some (.d (.list (ns.map .str)))) x4 (some (.d (.tuple (outL t)))) (some (.d (.tuple (outL t)))) (some (.l vs)) (some (.m true (dk t))) none [feed cs a3 l3 n3]) rfl ⟨rfl, ?_⟩
    have r1 : reprD (.tuple (outL t)) = some (.d (.str (PyData.tuple (outL t)).shown)) := so.repr (by decide) (by omega)
    have gs : Sml 3 (b.length * 120) b.d := B.sml (four_ok hb hv)
    have r2 : reprD b.d = some (.d (.str b.d.shown)) := gs.repr (by decide) (by omega)
    have seq : ∀ x : Str, PyData.eqv (.str x) (.str x) = true := fun x => beq_self_eq_true x
    have br2 := bound_run (W := W) (k := k + 1) (h := [feed cs a3 l3 n3]) (b := b) (ns := []) (vs := []) (by simp; omega)
    have eo : outL (allB (allB [] b) (([] : List Str).zip ([] : List D))) = b.map fun q => .tuple [.str q.1, q.2] := by
      rw [all_given hb]
      exact out_given hb
    rw [eo] at br2
    refine wp_seq (wp_ret ?_)
    generalize hX : sR b (some (.d (.list (ns.map .str)))) x4 (some (.d (.tuple (outL t)))) (some (.d (.tuple (outL t)))) (some (.l vs)) (some (.m true (dk t))) none [feed cs a3 l3 n3] = X
    have c1 : tests (evE prog.G (prog.calls W (k + 2)) (.cmp .eq (.bi .repr (.v 6)) (.bi .repr (.v 5)))) X = some (true, X) := by
      subst hX
      refine t_tests (t_cmpE (s1 := sR b (some (.d (.list (ns.map .str)))) x4 (some (.d (.tuple (outL t)))) (some (.d (.tuple (outL t)))) (some (.l vs)) (some (.m true (dk t))) none [feed cs a3 l3 n3]) (x := .d (.str (PyData.tuple (outL t)).shown)) (y := .d (.str (PyData.tuple (outL t)).shown)) ?_ ?_ ?_)
      · rw [evE]
        exact t_one (x := .d (.tuple (outL t))) rfl r1
      · rw [evE]
        exact t_one (x := .d (.tuple (outL t))) rfl r1
      · show some (PyData.eqv _ _) = _
        rw [seq]
    have c2 : wp (evE prog.G (prog.calls W (k + 2)) (.cmp .eq (.bi .repr (.call 9 [(.v 1)] [(.tup []), (.tup [])])) (.bi .repr (.v 1))) X) fun r => r = (.d (.bool true), X) := by
      subst hX
      refine wp_cmpE (wp_of (a := (.d (.str b.d.shown), sR b (some (.d (.list (ns.map .str)))) x4 (some (.d (.tuple (outL t)))) (some (.d (.tuple (outL t)))) (some (.l vs)) (some (.m true (dk t))) none [feed cs a3 l3 n3])) ?_ (wp_of (a := (.d (.str b.d.shown), sR b (some (.d (.list (ns.map .str)))) x4 (some (.d (.tuple (outL t)))) (some (.d (.tuple (outL t)))) (some (.l vs)) (some (.m true (dk t))) none [feed cs a3 l3 n3])) ?_ (wp_of (a := PyData.eqv (.str b.d.shown) (.str b.d.shown)) rfl ?_)))
      · rw [evE]
        refine t_one (x := .d b.d) (wp_eq ?_) r2
        exact wp_callR (ws := [.d b.d]) (us := [.d (.tuple []), .d (.tuple [])]) rfl rfl (wp_calls rfl rfl (wp_of br2 rfl))
      · rw [evE]
        exact t_one (x := .d b.d) rfl r2
      · rw [seq]
    rw [evE, and_cons]
    refine wp_of (a := (.d (.bool true), X)) ((t_and c1).trans ?_) ?_
    · rw [if_pos rfl]
      exact wp_eq (wp_and1 c2)
    · subst hX
      exact wp_of rfl (wp_of rfl (q _ _ _))
end K02
namespace DE
open PySem PySem.Spec PyProof.Rows L2
theorem int_len {i : Int} (h : i.natAbs.log2 < 1000) : (PyData.int i).shown.length ≤ 1001 := by
  have e := int_text_length_le (a := i) (k := 1000) (by decide) h
  show (Str.ofString (toString i)).length ≤ 1001
  rw [PySem.ofString_length]
  exact e
theorem repr_4 {a b c d : Int} (ha : a.natAbs.log2 < 1000) (hb : b.natAbs.log2 < 1000) (hc : c.natAbs.log2 < 1000) (hd : d.natAbs.log2 < 1000) : reprD (.list [.int a, .int b, .int c, .int d]) = some (.d (.str (PyData.list [.int a, .int b, .int c, .int d]).shown)) := by
  refine if_pos ⟨?_, rfl, ?_, (show max 0 (max 0 (max 0 (max 0 0))) + 1 ≤ 100 by decide)⟩
  · show (decide (a.natAbs.log2 < 1920) && (decide (b.natAbs.log2 < 1920) && (decide (c.natAbs.log2 < 1920) && (decide (d.natAbs.log2 < 1920) && true)))) = true
    rw [decide_eq_true (by omega), decide_eq_true (by omega), decide_eq_true (by omega), decide_eq_true (by omega)]
    rfl
  · have h := listText_len_le [(PyData.int a).shown, (PyData.int b).shown, (PyData.int c).shown, (PyData.int d).shown]
    simp only [List.map_cons, List.map_nil, List.sum_cons, List.sum_nil, List.length_cons, List.length_nil] at h
    have h1 := int_len ha
    have h2 := int_len hb
    have h3 := int_len hc
    have h4 := int_len hd
    have hz : 10000 ≤ sizeLine := by decide
    show (listText [(PyData.int a).shown, (PyData.int b).shown, (PyData.int c).shown, (PyData.int d).shown]).length ≤ sizeLine
    omega
end DE
namespace K02
open PySem PySem.Spec PyProof.Rows L2 DE
theorem by_hand (h : List Cell) : prog.run 100000 99 12 [] h = some (.d (.bool true), h) := by kernel_rfl
theorem of_run {W k : Nat} {h : List Cell} {x : Str} {b : B} {home : D} : prog.run W (k + 3) 4 [.d (T.of x).d, .d b.d, .d home] h = some (.d (look b x), h) := by
  refine wp_eq (wp_run rfl ?_)
  refine wp_nx (s1 := ⟨[some (.d (T.of x).d), some (.d b.d), some (.d home), some (.d (.str "of")), none, none], h⟩) rfl ?_
  refine wp_nx (s1 := ⟨[some (.d (T.of x).d), some (.d b.d), some (.d home), some (.d (.str "of")), none, none], h⟩) (by kernel_rfl) ?_
  refine wp_seq (wp_ifW (wp_of (a := (true, ⟨[some (.d (T.of x).d), some (.d b.d), some (.d home), some (.d (.str "of")), none, none], h⟩)) (by kernel_rfl) ?_))
  refine wp_seq (wp_ret (wp_callR (ws := [.d (.str x), .d b.d]) (us := []) rfl rfl ?_))
  exact wp_calls rfl rfl (wp_of value_of_run (wp_of rfl (wp_of rfl rfl)))
abbrev gv (x y : Int) : B := [("n", .int x), ("to", .int y)]
abbrev gT (w : Str) : T := .op w (.of "n") (.of "to")
theorem big_run {W k : Nat} {h : List Cell} {x y : Int} {home : D} {w : Str} (hw : w ∈ ops) : prog.run W (k + 4) 4 [.d (gT w).d, .d (gv x y).d, .d home] h = some (.d (comb w (.int x) (.int y)), h) := by
  have e1 := fun h => of_run (W := W) (k := k) (h := h) (x := "n") (b := gv x y) (home := home)
  have e2 := fun h => of_run (W := W) (k := k) (h := h) (x := "to") (b := gv x y) (home := home)
  have l1 : look (gv x y) "n" = .int x := by kernel_rfl
  have l2 : look (gv x y) "to" = .int y := by kernel_rfl
  rw [l1] at e1
  rw [l2] at e2
  refine wp_eq (wp_run rfl ?_)
  have S : ∀ s : DE.St, True := fun _ => trivial
  refine wp_nx (s1 := ⟨[some (.d (gT w).d), some (.d (gv x y).d), some (.d home), some (.d (.str w)), none, none], h⟩) rfl ?_
  refine wp_nx (s1 := ⟨[some (.d (gT w).d), some (.d (gv x y).d), some (.d home), some (.d (.str w)), none, none], h⟩) ?_ ?_
  · simp only [ops, List.mem_cons, List.not_mem_nil, or_false] at hw
    rcases hw with rfl | rfl | rfl | rfl <;> kernel_rfl
  refine wp_nx (s1 := ⟨[some (.d (gT w).d), some (.d (gv x y).d), some (.d home), some (.d (.str w)), none, none], h⟩) ?_ ?_
  · simp only [ops, List.mem_cons, List.not_mem_nil, or_false] at hw
    rcases hw with rfl | rfl | rfl | rfl <;> kernel_rfl
  refine wp_nx (s1 := ⟨[some (.d (gT w).d), some (.d (gv x y).d), some (.d home), some (.d (.str w)), none, none], h⟩) ?_ ?_
  · simp only [ops, List.mem_cons, List.not_mem_nil, or_false] at hw
    rcases hw with rfl | rfl | rfl | rfl <;> kernel_rfl
  refine wp_go (wp_asg (wp_callR (ws := [.d (T.of "n").d]) (us := [.d (gv x y).d, .d home]) rfl rfl (wp_calls rfl rfl (wp_of (e1 h) ?_))))
  refine wp_of (a := ⟨[some (.d (gT w).d), some (.d (gv x y).d), some (.d home), some (.d (.str w)), some (.d (.int x)), none], h⟩) rfl ⟨rfl, ?_⟩
  refine wp_go (wp_asg (wp_callR (ws := [.d (T.of "to").d]) (us := [.d (gv x y).d, .d home]) rfl rfl (wp_calls rfl rfl (wp_of (e2 h) ?_))))
  refine wp_of (a := ⟨[some (.d (gT w).d), some (.d (gv x y).d), some (.d home), some (.d (.str w)), some (.d (.int x)), some (.d (.int y))], h⟩) rfl ⟨rfl, ?_⟩
  have rx : Rv (x.natAbs : Int) (.int x) := .int (by omega)
  have ry : Rv (y.natAbs : Int) (.int y) := .int (by omega)
  refine wp_seq (wp_ret (wp_callR (ws := [.d (.str w), .d (.int x), .d (.int y)]) (us := []) rfl rfl (wp_calls rfl rfl (wp_of (comb_run hw rx ry) ?_))))
  exact wp_of rfl (wp_of rfl rfl)
abbrev gs : List Int := [10 ^ 30 - 7, 7 - 10 ^ 30, 10 ^ 50 * 10 ^ 50 - 1, 1 - 10 ^ 50 * 10 ^ 50]
abbrev sG (x2 x3 x4 x5 x6 x7 : Option SV) (h : List Cell) : S := ⟨[some (.d (.int (10 ^ 50 * 10 ^ 50))), some (.d (.list (gs.map .int))), x2, x3, x4, x5, x6, x7], h⟩
theorem log_lt {i : Int} (h : i.natAbs < 2 ^ 900) : i.natAbs.log2 < 1000 := by
  by_cases h0 : i.natAbs = 0
  · rw [h0]; decide
  · exact (Nat.log2_lt h0).mpr (Nat.lt_of_lt_of_le h (Nat.pow_le_pow_right (by decide) (by decide)))
theorem turn_wp {h : List Cell} {x y : Int} {x4 x5 x6 x7 : Option SV} {P : Fl × S → Prop} (hx : x.natAbs < 2 ^ 400) (hy : y.natAbs < 2 ^ 400) (q : ∀ y4 y5 y6 y7, P (.nx, sG (some (.d (.int x))) (some (.d (.int y))) y4 y5 y6 y7 h)) :
    wp (evSs prog.G (prog.calls 100000 98) 100000 (match f__law_great_right.body with
      | [_, _, .forr _ _ [.forr _ _ b], _] => b
      | _ => []) (sG (some (.d (.int x))) (some (.d (.int y))) x4 x5 x6 x7 h)) P := by
  have hp : (2 : Nat) ^ 400 + 2 ^ 400 ≤ 2 ^ 900 := by decide +kernel
  have b1 : (x + y).natAbs.log2 < 1000 := log_lt (by omega)
  have b2 : (x - y).natAbs.log2 < 1000 := log_lt (by omega)
  have b3 : ∀ c : Bool, (if c = true then (1 : Int) else 0).natAbs.log2 < 1000 := fun c => by cases c <;> decide
  refine wp_nx (s1 := sG (some (.d (.int x))) (some (.d (.int y))) (some (.d (gv x y).d)) x5 x6 x7 h) rfl ?_
  refine wp_nx (s1 := sG (some (.d (.int x))) (some (.d (.int y))) (some (.d (gv x y).d)) (some (.d (.tuple (ops.map .str)))) x6 x7 h) rfl ?_
  have cb : ∀ w ∈ ops, comb w (.int x) (.int y) = (match (w == "plus"), (w == "minus"), (w == "less") with
      | true, _, _ => .int (x + y)
      | _, true, _ => .int (x - y)
      | _, _, true => .int (if decide (x < y) = true then 1 else 0)
      | _, _, _ => .int (if (x == y) = true then 1 else 0)) := fun w hw => by
    simp only [ops, List.mem_cons, List.not_mem_nil, or_false] at hw
    rcases hw with rfl | rfl | rfl | rfl
    · kernel_rfl
    · kernel_rfl
    · rw [comb_less]
      show PyData.int (if x < y then 1 else 0) = PyData.int (if decide (x < y) = true then 1 else 0)
      by_cases hl : x < y
      · rw [if_pos hl, if_pos (decide_eq_true hl)]
      · rw [if_neg hl, if_neg (by simpa using hl)]
    · rw [comb_same]
      kernel_rfl
  have one : ∀ w ∈ ops, compT (.nm 7) (evC prog.G (prog.calls 100000 98) none) (evE prog.G (prog.calls 100000 98) (.call 10 [.tup [.v 7, .tup [.k (.str (Str.ofString "of")), .k (.str (Str.ofString "n"))], .tup [.k (.str (Str.ofString "of")), .k (.str (Str.ofString "to"))]]] [.v 4])) [7] (.str w) (sG (some (.d (.int x))) (some (.d (.int y))) (some (.d (gv x y).d)) (some (.d (.tuple (ops.map .str)))) x6 none h) = some (some (comb w (.int x) (.int y)), sG (some (.d (.int x))) (some (.d (.int y))) (some (.d (gv x y).d)) (some (.d (.tuple (ops.map .str)))) x6 none h) := fun w hw => by
    refine wp_eq (wp_compT (wp_of rfl (wp_of rfl ?_)))
    rw [if_pos rfl]
    exact wp_callR (ws := [.d (gT w).d]) (us := [.d (gv x y).d]) rfl rfl (wp_calls rfl rfl (wp_of (big_run (k := 94) hw) (wp_of rfl rfl)))
  refine wp_go (wp_asg (wp_compE (wp_of (a := (ops.map .str, sG (some (.d (.int x))) (some (.d (.int y))) (some (.d (gv x y).d)) (some (.d (.tuple (ops.map .str)))) x6 x7 h)) rfl ⟨(show 4 ≤ sizeLine by decide), ?_⟩)))
  refine wp_compC (wp_of (one "plus" (by decide)) (wp_compC (wp_of (one "minus" (by decide)) (wp_compC (wp_of (one "less" (by decide)) (wp_compC (wp_of (one "same" (by decide)) (wp_of rfl ?_))))))))
  rw [cb "plus" (by decide), cb "minus" (by decide), cb "less" (by decide), cb "same" (by decide)]
  have r4 := repr_4 b1 b2 (b3 (decide (x < y))) (b3 (x == y))
  generalize hl : PyData.list [.int (x + y), .int (x - y), .int (if decide (x < y) = true then 1 else 0), .int (if (x == y) = true then 1 else 0)] = L at r4
  refine wp_of (a := sG (some (.d (.int x))) (some (.d (.int y))) (some (.d (gv x y).d)) (some (.d (.tuple (ops.map .str)))) (some (.l [.int (x + y), .int (x - y), .int (if decide (x < y) = true then 1 else 0), .int (if (x == y) = true then 1 else 0)])) none h) (by kernel_rfl) ⟨rfl, ?_⟩
  refine wp_seq (wp_ifW (wp_of (a := (false, sG (some (.d (.int x))) (some (.d (.int y))) (some (.d (gv x y).d)) (some (.d (.tuple (ops.map .str)))) (some (.l [.int (x + y), .int (x - y), .int (if decide (x < y) = true then 1 else 0), .int (if (x == y) = true then 1 else 0)])) none h)) (t_tests (t_cmpE (s1 := sG (some (.d (.int x))) (some (.d (.int y))) (some (.d (gv x y).d)) (some (.d (.tuple (ops.map .str)))) (some (.l [.int (x + y), .int (x - y), .int (if decide (x < y) = true then 1 else 0), .int (if (x == y) = true then 1 else 0)])) none h) (x := .d (.str L.shown)) (y := .d (.str L.shown)) ?_ ?_ ?_)) ?_))
  · rw [evE]
    refine t_one (x := .b 6) rfl ?_
    subst hl
    exact r4
  · rw [evE]
    refine t_one (x := .l [.int (x + y), .int (x - y), .int (if decide (x < y) = true then 1 else 0), .int (if (x == y) = true then 1 else 0)]) (by kernel_rfl) ?_
    subst hl
    exact r4
  · show some (!PyData.eqv (.str L.shown) (.str L.shown)) = _
    rw [show PyData.eqv (.str L.shown) (.str L.shown) = true from beq_self_eq_true L.shown]
    rfl
  · rw [if_neg Bool.false_ne_true]
    exact wp_of rfl (wp_of rfl (q _ _ _ _))
theorem great_right (h : List Cell) : prog.run 100000 99 14 [] h = some (.d (.bool true), h) := by
  refine wp_eq (wp_run rfl ?_)
  refine wp_nx (s1 := ⟨[some (.d (.int (10 ^ 50 * 10 ^ 50))), none, none, none, none, none, none, none], h⟩) (by kernel_rfl) ?_
  refine wp_nx (s1 := ⟨[some (.d (.int (10 ^ 50 * 10 ^ 50))), some (.l (gs.map .int)), none, none, none, none, none, none], h⟩) (by kernel_rfl) ?_
  have bnd : ∀ x ∈ gs, x.natAbs < 2 ^ 400 := by decide +kernel
  refine wp_seq (wp_for (wp_of (a := (gs.map .int, sG none none none none none none h)) rfl ?_))
  refine for_all (f := PyData.int) (J := fun xs s => (∀ x ∈ xs, x.natAbs < 2 ^ 400) ∧ ∃ x2 x3 x4 x5 x6 x7, s = sG x2 x3 x4 x5 x6 x7 h) (fun x xs s hJ => ?_) (fun s hJ => ?_) ⟨bnd, _, _, _, _, _, _, rfl⟩
  · obtain ⟨hb, x2, x3, x4, x5, x6, x7, rfl⟩ := hJ
    have hx := hb x (List.mem_cons_self ..)
    refine wp_bind (wp_of rfl ?_)
    refine wp_seq (wp_for (wp_of (a := (gs.map .int, sG (some (.d (.int x))) x3 x4 x5 x6 x7 h)) rfl ?_))
    refine for_all (f := PyData.int) (J := fun ys s => (∀ y ∈ ys, y.natAbs < 2 ^ 400) ∧ ∃ x3 x4 x5 x6 x7, s = sG (some (.d (.int x))) x3 x4 x5 x6 x7 h) (fun y ys s hK => ?_) (fun s hK => ?_) ⟨bnd, _, _, _, _, _, rfl⟩
    · obtain ⟨hc, x3, x4, x5, x6, x7, rfl⟩ := hK
      refine wp_bind (wp_of rfl ?_)
      exact turn_wp hx (hc y (List.mem_cons_self ..)) fun y4 y5 y6 y7 => ⟨rfl, fun z hz => hc z (List.mem_cons_of_mem _ hz), _, _, _, _, _, rfl⟩
    · obtain ⟨_, x3, x4, x5, x6, x7, rfl⟩ := hK
      exact wp_of rfl ⟨rfl, fun z hz => hb z (List.mem_cons_of_mem _ hz), _, _, _, _, _, _, rfl⟩
  · obtain ⟨_, x2, x3, x4, x5, x6, x7, rfl⟩ := hJ
    exact wp_of rfl (wp_of rfl rfl)
end K02
namespace DE
open PySem L2
theorem t_hCons {f : RunE} {g : S → Option (List SV × S)} {s s1 s2 s3 : S} {w x : SV} {xs : List SV} (e : f s = some (w, s1)) (e2 : s1.hand w = some (x, s2)) (e3 : g s2 = some (xs, s3)) : hCons f g s = some (x :: xs, s3) := by
  unfold hCons
  rw [e]
  show (s1.hand w).bind _ = _
  rw [e2]
  show (g s2).map _ = _
  rw [e3]
  rfl
theorem wp_testsOr {f g : RunE} {s : S} {Q : Bool × S → Prop} (q : wp (tests f s) fun r => if r.1 = true then Q (true, r.2) else wp (tests g r.2) Q) : wp (tests (eOr f g) s) Q := by
  obtain ⟨⟨b, s1⟩, e, q⟩ := q
  have e2 : eOr f g s = if b = true then some (.d (.bool true), s1) else g s1 := by
    unfold eOr
    rw [e]
    rfl
  cases b with
  | true =>
    rw [if_pos rfl] at q
    refine ⟨_, ?_, q⟩
    show (eOr f g s).bind _ = _
    rw [e2, if_pos rfl]
    rfl
  | false =>
    rw [if_neg Bool.false_ne_true] at q
    obtain ⟨a, e3, q⟩ := q
    refine ⟨a, ?_, q⟩
    show (eOr f g s).bind _ = _
    rw [e2, if_neg Bool.false_ne_true]
    exact e3
theorem wp_testsNot {f : RunE} {s : S} {Q : Bool × S → Prop} (q : wp (tests f s) fun r => Q (!r.1, r.2)) : wp (tests (eNot f) s) Q := by
  obtain ⟨⟨b, s1⟩, e, q⟩ := q
  refine ⟨(!b, s1), ?_, q⟩
  show (eNot f s).bind _ = _
  unfold eNot
  rw [e]
  rfl
end DE
namespace K02
open PySem PySem.Spec PyProof.Rows L2 DE
theorem cut63 {cs : List Int} (h : cs.length ≤ 63) : cutL (cs.map PyData.int) none (some 63) = cs.map .int := by
  unfold cutL
  have e : HT.sIx (cs.map PyData.int).length 0 none = 0 := rfl
  rw [e, List.drop_zero, List.take_of_length_le]
  have hl : (cs.map PyData.int).length ≤ 63 := by rw [List.length_map]; exact h
  generalize (cs.map PyData.int).length = n at hl ⊢
  unfold HT.sIx
  simp
  omega
abbrev sL (sc : D) (x2 x3 x4 x5 x6 x7 x8 : Option SV) (h : List Cell) : S := ⟨[some (.d sc), some (.c 0), x2, x3, x4, x5, x6, x7, x8], h⟩
theorem repr3 {t : T} (ht : T.ok 3 t) {b : B} (hv : ∀ y ∈ b, Vl y.2) {home : D} (hh : Vl home) : reprD (.list [t.val (look b) home, t.val (look []) home, t.val (look []) (.tuple [.str "at", .int 0, .int 0])]) = some (.d (.str (PyData.list [t.val (look b) home, t.val (look []) home, t.val (look []) (.tuple [.str "at", .int 0, .int 0])]).shown)) := by
  have h0 : Vl (.tuple [.str "at", .int 0, .int 0]) := .at_ (by decide) (by decide)
  have hn : ∀ x, Rv 1000003 (look [] x) := fun x => .int (by decide)
  have r1 := (val_Rv (look_Rv hv) hh t 3 ht).sml (by decide)
  have r2 := (val_Rv hn hh t 3 ht).sml (by decide)
  have r3 := (val_Rv hn h0 t 3 ht).sml (by decide)
  exact (Sml.lst (Smls.cons r1 (Smls.cons r2 (Smls.cons r3 (.nil (n := 0)))))).repr (by decide) (by decide)
theorem body_wp {W k : Nat} {cs : List Int} {a l n : Int} {sc : D} {x2 x3 x4 x5 x6 x7 x8 : Option SV} {P : Fl × S → Prop} (hW : 200 ≤ W) (q : ∀ y3 y4 y5 y6 y7 y8 a' l' n', P (.nx, sL sc x2 y3 y4 y5 y6 y7 y8 [feed cs a' l' n'])) :
    wp (evSs prog.G (prog.calls W (k + 10)) W (match f_law.body with
      | [_, .forr _ _ b, _] => b
      | _ => []) (sL sc x2 x3 x4 x5 x6 x7 x8 [feed cs a l n])) P := by
  have h0 : Vl (.tuple [.str "at", .int 0, .int 0]) := .at_ (by decide) (by decide)
  have hn : ∀ x, Rv 1000003 (look [] x) := fun x => .int (by decide)
  refine wp_go (wp_mas (wp_hCons (wp_callR (ws := [.c 0]) (us := []) rfl rfl (bindings_wp fun b a1 l1 n1 hb hv => wp_of rfl (wp_hCons (wp_data (wp_one1 rfl (wp_dCons (wp_callR (ws := [.c 0, .d (.int 3)]) (us := []) rfl rfl (draw' (by decide) (by decide) fun r1 a2 l2 n2 g1 g2 => wp_of rfl (wp_dCons (wp_callR (ws := [.c 0, .d (.int 9)]) (us := []) rfl rfl (draw' (by decide) (by decide) fun r2 a3 l3 n3 g3 g4 => wp_of rfl (wp_of rfl (wp_of rfl (wp_of rfl ?_))))))))))))))))
  have hh : Vl (.tuple [.str "at", .int r1, .int r2]) := .at_ (by omega) (by omega)
  generalize hho : PyData.tuple [.str "at", .int r1, .int r2] = home at hh
  refine wp_of (a := sL sc x2 x3 x4 x5 x6 (some (.d b.d)) (some (.d home)) [feed cs a3 l3 n3]) (by rw [← hho]; rfl) ⟨rfl, ?_⟩
  refine wp_go (wp_asg (wp_callR (ws := [.c 0, .l names, .d (.int 3)]) (us := []) rfl rfl (sum_wp 3 (by omega) rfl (.inl rfl) fun t a4 l4 n4 ht => ?_)))
  refine wp_of (a := sL sc x2 (some (.d t.d)) x4 x5 x6 (some (.d b.d)) (some (.d home)) [feed cs a4 l4 n4]) rfl ⟨rfl, ?_⟩
  have hsz := size_le t 3 ht
  have hb4 : b.length ≤ 4 := by have := hb.length_le; simpa using this
  have kept : reprD (.tuple [b.d, t.d]) = some (.d (.str (PyData.tuple [b.d, t.d]).shown)) :=
    (Sml.tup (k := 5) (Smls.cons ((B.sml (four_ok hb hv)).mono (by decide) (by omega : b.length * 120 ≤ 480)) (Smls.cons ((T.sml t 3 ht).mono (by decide) (by omega : 120 * t.size ≤ 1800)) (.nil (n := 0))))).repr (by decide) (by decide)
  refine wp_nx (s1 := sL sc x2 (some (.d t.d)) (some (.d (.str (PyData.tuple [b.d, t.d]).shown))) x5 x6 (some (.d b.d)) (some (.d home)) [feed cs a4 l4 n4]) (t_asg (t_one (x := .d (.tuple [b.d, t.d])) rfl kept) rfl) ?_
  have e1 := worth_run (W := W) (f := k + 10) (h := [feed cs a4 l4 n4]) (look_Rv hv) hh t 3 ht (by omega)
  have e2 := worth_run (W := W) (b := []) (f := k + 10) (h := [feed cs a4 l4 n4]) hn hh t 3 ht (by omega)
  have e3 := worth_run (W := W) (b := []) (f := k + 10) (h := [feed cs a4 l4 n4]) hn h0 t 3 ht (by omega)
  refine wp_go (wp_asg (wp_data (wp_dCons (wp_callR (ws := [.d t.d]) (us := [.d b.d, .d home]) rfl rfl (wp_calls rfl rfl (wp_of e1 (wp_of rfl (wp_dCons (wp_callR (ws := [.d t.d]) (us := [.d home]) rfl rfl (wp_calls rfl rfl (wp_of e2 (wp_of rfl (wp_dCons (wp_callR (ws := [.d t.d]) (us := []) rfl rfl (wp_calls rfl rfl (wp_of e3 (wp_of rfl (wp_of rfl ?_))))))))))))))))))
  refine wp_of (a := sL sc x2 (some (.d t.d)) (some (.d (.str (PyData.tuple [b.d, t.d]).shown))) (some (.l [t.val (look b) home, t.val (look []) home, t.val (look []) (.tuple [.str "at", .int 0, .int 0])])) x6 (some (.d b.d)) (some (.d home)) [feed cs a4 l4 n4]) rfl ⟨rfl, ?_⟩
  have lk1 : lkK (dk b) = look b := funext fun x => lk_dk
  have lk2 : lkK [] = look [] := rfl
  have f1 := lworth_run (W := W) (k := k + 8) (h := [feed cs a4 l4 n4]) (kvs := dk b) hW (by rw [lk1]; exact look_Rv hv) hh t ht
  have f2 := lworth_run (W := W) (k := k + 8) (h := [feed cs a4 l4 n4]) (kvs := []) hW (by rw [lk2]; exact hn) hh t ht
  have f3 := lworth_run (W := W) (k := k + 8) (h := [feed cs a4 l4 n4]) (kvs := []) hW (by rw [lk2]; exact hn) h0 t ht
  rw [lk1] at f1
  rw [lk2] at f2 f3
  have r3 := repr3 ht hv hh
  generalize t.val (look b) home = v1 at *
  generalize t.val (look []) home = v2 at *
  generalize t.val (look []) (.tuple [.str "at", .int 0, .int 0]) = v3 at *
  generalize hkp : (PyData.tuple [b.d, t.d]).shown = kp at *
  have hd : evH prog.G (prog.calls W (k + 10)) [.v 3, .bi .dict (.bi .list (.v 7)), .v 8] (sL sc x2 (some (.d t.d)) (some (.d (.str kp))) (some (.l [v1, v2, v3])) x6 (some (.d b.d)) (some (.d home)) [feed cs a4 l4 n4]) = some ([.d t.d, .m true (dk b), .d home], sL sc x2 (some (.d t.d)) (some (.d (.str kp))) (some (.l [v1, v2, v3])) x6 (some (.d b.d)) (some (.d home)) [feed cs a4 l4 n4]) := by
    rw [evH, evH]
    refine t_hCons (s1 := sL sc x2 (some (.d t.d)) (some (.d (.str kp))) (some (.l [v1, v2, v3])) x6 (some (.d b.d)) (some (.d home)) [feed cs a4 l4 n4]) (s2 := sL sc x2 (some (.d t.d)) (some (.d (.str kp))) (some (.l [v1, v2, v3])) x6 (some (.d b.d)) (some (.d home)) [feed cs a4 l4 n4]) (w := .d t.d) rfl rfl (t_hCons (s1 := sL sc x2 (some (.d t.d)) (some (.d (.str kp))) (some (.l [v1, v2, v3])) x6 (some (.d b.d)) (some (.d home)) [feed cs a4 l4 n4]) (s2 := sL sc x2 (some (.d t.d)) (some (.d (.str kp))) (some (.l [v1, v2, v3])) x6 (some (.d b.d)) (some (.d home)) [feed cs a4 l4 n4]) (w := .m true (dk b)) ?_ rfl rfl)
    rw [evE]
    have z := dict_bl (b := b)
    rw [all_given hb] at z
    exact t_one (x := .l (b.map fun q : Str × D => PyData.tuple [.str q.1, q.2])) rfl z
  refine wp_go (wp_asg (wp_data (wp_dCons (wp_callR (us := []) hd rfl (wp_calls rfl rfl (wp_of f1 (wp_of rfl (wp_dCons (wp_callR (ws := [.d t.d, .m true [], .d home]) (us := []) rfl rfl (wp_calls rfl rfl (wp_of f2 (wp_of rfl (wp_of rfl ?_)))))))))))))
  refine wp_of (a := sL sc x2 (some (.d t.d)) (some (.d (.str kp))) (some (.l [v1, v2, v3])) (some (.l [v1, v2])) (some (.d b.d)) (some (.d home)) [feed cs a4 l4 n4]) rfl ⟨rfl, ?_⟩
  have e14 : evE prog.G (prog.calls W (k + 10)) (.call 14 [.v 3, .dct [] [], .tup [.k (.str (Str.ofString "at")), .k (.int 0), .k (.int 0)]] []) (sL sc x2 (some (.d t.d)) (some (.d (.str kp))) (some (.l [v1, v2, v3])) (some (.l [v1, v2])) (some (.d b.d)) (some (.d home)) [feed cs a4 l4 n4]) = some (.d v3, sL sc x2 (some (.d t.d)) (some (.d (.str kp))) (some (.l [v1, v2, v3])) (some (.l [v1, v2])) (some (.d b.d)) (some (.d home)) [feed cs a4 l4 n4]) := by
    rw [evE]
    exact wp_eq (wp_callR (ws := [.d t.d, .m true [], .d (.tuple [.str "at", .int 0, .int 0])]) (us := []) rfl rfl (wp_calls rfl rfl (wp_of f3 rfl)))
  refine wp_nx (t_app (s1 := sL sc x2 (some (.d t.d)) (some (.d (.str kp))) (some (.l [v1, v2, v3])) (some (.l [v1, v2])) (some (.d b.d)) (some (.d home)) [feed cs a4 l4 n4]) (s2 := sL sc x2 (some (.d t.d)) (some (.d (.str kp))) (some (.l [v1, v2, v3])) (some (.l [v1, v2])) (some (.d b.d)) (some (.d home)) [feed cs a4 l4 n4]) (w := .d v3) (x := v3) (xs := [v1, v2]) rfl e14 rfl rfl (show 2 < sizeLine by decide)) ?_
  show wp (evSs _ _ _ _ (sL sc x2 (some (.d t.d)) (some (.d (.str kp))) (some (.l [v1, v2, v3])) (some (.l [v1, v2, v3])) (some (.d b.d)) (some (.d home)) [feed cs a4 l4 n4])) _
  have seq : ∀ x : Str, PyData.eqv (.str x) (.str x) = true := fun x => beq_self_eq_true x
  have c1 : evE prog.G (prog.calls W (k + 10)) (.cmp .ne (.bi .repr (.v 5)) (.bi .repr (.v 6))) (sL sc x2 (some (.d t.d)) (some (.d (.str kp))) (some (.l [v1, v2, v3])) (some (.l [v1, v2, v3])) (some (.d b.d)) (some (.d home)) [feed cs a4 l4 n4]) = some (.d (.bool false), sL sc x2 (some (.d t.d)) (some (.d (.str kp))) (some (.l [v1, v2, v3])) (some (.l [v1, v2, v3])) (some (.d b.d)) (some (.d home)) [feed cs a4 l4 n4]) := by
    refine t_cmpE (s1 := sL sc x2 (some (.d t.d)) (some (.d (.str kp))) (some (.l [v1, v2, v3])) (some (.l [v1, v2, v3])) (some (.d b.d)) (some (.d home)) [feed cs a4 l4 n4]) (x := .d (.str (PyData.list [v1, v2, v3]).shown)) (y := .d (.str (PyData.list [v1, v2, v3]).shown)) ?_ ?_ ?_
    · rw [evE]
      exact t_one (x := .b 5) rfl r3
    · rw [evE]
      exact t_one (x := .b 6) rfl r3
    · show some (!PyData.eqv _ _) = _
      rw [seq]
      rfl
  refine wp_seq (wp_ifW ?_)
  rw [evE, or_cons, or_cons]
  refine wp_testsOr (wp_of (t_tests c1) ?_)
  rw [if_neg Bool.false_ne_true]
  refine wp_testsOr ?_
  rw [evE]
  refine wp_testsNot (wp_testsB ?_)
  rw [evE]
  refine wp_callR (ws := [.c 0, .d b.d]) (us := []) rfl rfl (right_wp hb hv fun a5 l5 n5 => ?_)
  refine ⟨true, rfl, ?_⟩
  split
  · rename_i z
    cases z
  have c3 : evE prog.G (prog.calls W (k + 10)) (.cmp .ne (.bi .repr (.tup [.v 7, .v 3])) (.v 4)) (sL sc x2 (some (.d t.d)) (some (.d (.str kp))) (some (.l [v1, v2, v3])) (some (.l [v1, v2, v3])) (some (.d b.d)) (some (.d home)) [feed cs a5 l5 n5]) = some (.d (.bool false), sL sc x2 (some (.d t.d)) (some (.d (.str kp))) (some (.l [v1, v2, v3])) (some (.l [v1, v2, v3])) (some (.d b.d)) (some (.d home)) [feed cs a5 l5 n5]) := by
    refine t_cmpE (s1 := sL sc x2 (some (.d t.d)) (some (.d (.str kp))) (some (.l [v1, v2, v3])) (some (.l [v1, v2, v3])) (some (.d b.d)) (some (.d home)) [feed cs a5 l5 n5]) (x := .d (.str kp)) (y := .d (.str kp)) ?_ rfl ?_
    · rw [evE]
      exact t_one (x := .d (.tuple [b.d, t.d])) rfl kept
    · show some (!PyData.eqv _ _) = _
      rw [seq]
      rfl
  refine wp_of (a := (false, sL sc x2 (some (.d t.d)) (some (.d (.str kp))) (some (.l [v1, v2, v3])) (some (.l [v1, v2, v3])) (some (.d b.d)) (some (.d home)) [feed cs a5 l5 n5])) (t_tests ?_) ?_
  · unfold evOr
    exact c3
  · rw [if_neg Bool.false_ne_true]
    exact wp_of rfl (wp_of rfl (q _ _ _ _ _ _ _ _ _))
theorem holds (ns : List Int) (h1 : ns.length ≤ 63) (h2 : ∀ z ∈ ns, Builtin.Int.intBits z ≤ 1048576) : ∃ h', tb.pr.run 100000 100 15 [.d (.list (ns.map .int))] [] = some (.d (.bool true), h') := by
  have main : wp (prog.run 100000 (99 + 1) 15 [.d (.list (ns.map .int))] []) fun r => r.1 = .d (.bool true) := by
    refine wp_run rfl ?_
    have ef : evE prog.G (prog.calls 100000 99) (.call 11 [.v 0] []) ⟨[some (.d (.list (ns.map .int))), none, none, none, none, none, none, none, none], []⟩ = some (.m true (feed ns 0 0 0), ⟨[some (.d (.list (ns.map .int))), none, none, none, none, none, none, none, none], []⟩) := by
      rw [evE]
      refine wp_eq (wp_callR (ws := [.d (.list (ns.map .int))]) (us := []) rfl rfl (wp_calls rfl rfl (wp_run rfl ?_)))
      refine wp_seq (wp_ret (wp_data (wp_dCons (wp_of (a := (.l (ns.map .int), ⟨[some (.d (.list (ns.map .int)))], []⟩)) ?_ ?_))))
      · rw [evE]
        refine t_one (x := .l (ns.map .int)) ?_ rfl
        show some (SV.l (cutL (ns.map PyData.int) none (some 63)), _) = _
        rw [cut63 h1]
        rfl
      · exact wp_of rfl (wp_of rfl (wp_of rfl (wp_of rfl rfl)))
    refine wp_nx (s1 := sL (.list (ns.map .int)) none none none none none none none [feed ns 0 0 0]) ?_ ?_
    · show sAsgc 1 (evE prog.G (prog.calls 100000 99) (.call 11 [.v 0] [])) _ = _
      unfold sAsgc
      show (evE prog.G (prog.calls 100000 99) (.call 11 [.v 0] []) ⟨[some (.d (.list (ns.map .int))), none, none, none, none, none, none, none, none], []⟩).bind _ = _
      rw [ef]
      rfl
    refine wp_seq (wp_for (wp_of (a := ((List.range 12).map fun (n : Nat) => PyData.int (0 + (n : Int)), sL (.list (ns.map .int)) none none none none none none none [feed ns 0 0 0])) rfl ?_))
    refine for_all (J := fun _ s => ∃ x2 x3 x4 x5 x6 x7 x8 a l n, s = sL (.list (ns.map .int)) x2 x3 x4 x5 x6 x7 x8 [feed ns a l n]) (fun j js s hJ => ?_) (fun s hJ => ?_) ⟨_, _, _, _, _, _, _, _, _, _, rfl⟩
    · obtain ⟨x2, x3, x4, x5, x6, x7, x8, a, l, n, rfl⟩ := hJ
      refine wp_bind (wp_of rfl ?_)
      exact body_wp (k := 89) (x2 := some (.d (.int (0 + (j : Int))))) (by decide) fun y3 y4 y5 y6 y7 y8 a' l' n' => ⟨rfl, _, _, _, _, _, _, _, _, _, _, rfl⟩
    · obtain ⟨x2, x3, x4, x5, x6, x7, x8, a, l, n, rfl⟩ := hJ
      refine wp_seq (wp_ret ?_)
      rw [evE, and_cons]
      refine wp_and (wp_testsB (wp_callR (ws := []) (us := []) rfl rfl (wp_calls rfl rfl (wp_of (by_hand _) ⟨true, rfl, ?_⟩))))
      rw [if_pos rfl]
      exact wp_and1 (wp_callR (ws := []) (us := []) rfl rfl (wp_calls rfl rfl (wp_of (great_right _) (wp_of rfl (wp_of rfl rfl)))))
  obtain ⟨⟨w, h'⟩, e, e2⟩ := main
  dsimp only at e2
  subst e2
  exact ⟨h', e⟩
end K02
open PySem PySem.W PySem.Calls PyProof.Rows
theorem PySem.Challenge.cw_letterfolk_k02_worths_holds : PySem.Challenge.rw_letterfolk_k02_worths.Holds := by
  w_on; o_law
  refine HandSHeadRun.head_any (r := K02.R) (q := view K02.R.prog [19]) (H := K02.hk) (ob := K02.ob) (M := 4000) (loose := ["is_number", "bound", "value_of", "combined", "worth", "_law_feed", "_law_draw", "_law_value", "_law_sum", "_law_counted", "_law_worth", "_law_bindings", "_law_by_hand", "_law_bound_right", "_law_great_right", "NOBODY"]) (d := HandSHeadRun.topDef K02.R.prog 19) (kwd := []) (fun s => DE.eyeT_eq s)
    (by kernel_rfl) (fun s => by kernel_rfl) K02.run (by kernel_rfl) (by kernel_rfl) (by kernel_rfl) (by rfl) (by first | assumption | decide +kernel) (by decide +kernel) ⟨rfl, rfl, rfl, rfl, rfl, by decide +kernel⟩ ?hw ?hc
  case hw => w_witness2
  case hc => exact DE.law_tbl (t := K02.tb) (more := K02.more) (N := 6) (l := PySem.Challenge.rw_letterfolk_k02_worths) (n := 63) (k := 100) (x := "_law_script") (W := 100000) (i := 15) (r := K02.r15) (fn := K02.f_law) rfl (by decide) (by kernel_rfl) ⟨rfl, by decide, by decide⟩ rfl rfl rfl rfl (by kernel_rfl) rfl K02.pats K02.ok15 (fun _ _ _ _ _ _ _ => rfl) K02.holds
