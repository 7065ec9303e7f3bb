import PyProof.Rows.All
import Wide.All
import OpenK.AllK
import Wide.FinOn
import HandS.ForMost
import HandS.Gcd
import HandS.Wide
import HandS.Codes
import HandS.IsInst
import HandS.Zip
import HandS.Walk
import HandS.MakeKwOnly
import HandS.Property
import KE.KExcSuper
import KE.KSuper
import KE.KExcPX
import HandS.Exc
import HandS.ExcSuper
import KE.KTryMore
import HandS.HotCalls
import HandS.Lambda
import KE.KIsAll
import HandS.WordsExc
import KE.KDflt
import HandS.List
import HandS.Text
import HandS.TupAny
import HandS.Iter
import HandS.Style
import HandS.Deep
import HandS.Flow
import HandS.WideBits
import HandS.FStr
import HandS.SortInts
import HandS.StrMore
import HandS.Rev
import KE.KOpsOwn
import KE.KMathG
import HandS.OwnEq
import HandS.ClsMeth
import Flt.RightSqrt
import HandS.Defaults
import HandS.Comp
import HandS.SetFor
import HandS.Strs
import PyProof.Rows.SortShellAny
import PyProof.CollectIter
import PyProof.TupleIter
import HandS.Star
import PyProof.AutoSeq1
import HandS.Flt
import HandS.EndOwn
import PySem.Challenge.RW_rootfloor_k27_variables_in_scope
set_option Elab.async false
set_option maxRecDepth 100000
set_option maxHeartbeats 8000000
namespace RF
open PySem L2

/-- all that is tracked stays, but what stands at b -/
def Kp (b : Addr) (H H' : Hp) : Prop := ∀ a o, a ≠ b → H a = some o → H' a = some o
theorem Kp.refl (b : Addr) (H : Hp) : Kp b H H := fun _ _ _ e => e
theorem Kp.trans {b : Addr} {H H1 H2 : Hp} (x : Kp b H H1) (y : Kp b H1 H2) : Kp b H H2 := fun a o n e => y a o n (x a o n e)
theorem Kp.upd {b : Addr} {H : Hp} {o : HO} : Kp b H (upd H b o) := fun a u n e => by rw [upd_ne n]; exact e
theorem Kp.of {b : Addr} {H H' : Hp} (s : Same H H') : Kp b H H' := fun a o _ e => s a o e

/-- the bag of a script: its cells, how many are taken, what is left of a great one, the state of the draws -/
structure BagC (H : Hp) (b c : Addr) (ns : List Int) (i : Nat) (z r : Int) : Prop where
  ne : b ≠ c
  at_ : H b = some (.lst [.ref c, .int i, .int z, .int r])
  cs : H c = some (.lst (ns.map V.int))
  le : i ≤ ns.length
  z0 : 0 ≤ z
  r0 : 0 ≤ r
  r1 : r < 2147483647
def Bag (H : Hp) (b : Addr) : Prop := ∃ (c : Addr) (ns : List Int) (i : Nat) (z r : Int), BagC H b c ns i z r
theorem BagC.put {H : Hp} {b c : Addr} {ns : List Int} {i i' : Nat} {z r z' r' : Int} {o : HO} (B : BagC H b c ns i z r) (ho : o = .lst [.ref c, .int i', .int z', .int r']) (hi : i' ≤ ns.length) (hz : 0 ≤ z') (h0 : 0 ≤ r') (h1 : r' < 2147483647) :
    BagC (upd H b o) b c ns i' z' r' := ⟨B.ne, by rw [upd_same, ho], by rw [upd_ne (Ne.symm B.ne)]; exact B.cs, hi, hz, h0, h1⟩
theorem Bag.some {H : Hp} {b : Addr} (B : Bag H b) : ∃ xs, H b = some (.lst xs) := let ⟨_, _, _, _, _, e⟩ := B; ⟨_, e.at_⟩
theorem Bag.same {H H' : Hp} {b : Addr} (B : Bag H b) (s : Same H H') : Bag H' b := by
  obtain ⟨c, ns, i, z, r, h⟩ := B
  exact ⟨c, ns, i, z, r, h.ne, s _ _ h.at_, s _ _ h.cs, h.le, h.z0, h.r0, h.r1⟩
theorem emod_lo (a : Int) {b : Int} (h : 0 < b) : 0 ≤ a % b := Int.emod_nonneg _ (by omega)
theorem emod_hi (a : Int) {b : Int} (h : 0 < b) : a % b < b := Int.emod_lt_of_pos _ h

/-- a draw: some number below the sides; the bag stays one, nothing else changes -/
def spPull : Sp := fun vs H Q _ => ∃ (b : Addr) (k : Int), vs = [.ref b, .int k] ∧ Bag H b ∧ 0 < k ∧ k < 1073741824 ∧
  ∀ (d : Int) (H' : Hp), 0 ≤ d → d < k → Bag H' b → Kp b H H' → Q (.int d) H'
def spBag (K : PySem.W.Frag) : Sp := fun vs H Q _ => ∃ (a : Addr) (ns : List Int), vs = [.ref a] ∧ SqL K H a (ns.map V.int) ∧ ns.length ≤ 63 ∧
  ∀ (b : Addr) (H' : Hp), H b = none → Bag H' b → Same H H' → Q (.ref b) H'
/-- a new object -/
theorem sNew {H H1 : Hp} {p : Addr} {o : HO} (s : Same H H1) (h : H1 p = none) : Same H (upd H1 p o) := fun a u e => by
  rw [upd_ne (ne_of_none (s a u e) h)]
  exact s a u e
theorem ne_new {H : Hp} {p q : Addr} {o : HO} (h : upd H p o q = none) : q ≠ p := fun z => by
  rw [z, upd_same] at h
  cases h
theorem of_new {H : Hp} {p q : Addr} {o : HO} (h : upd H p o q = none) : H q = none := by
  rw [upd_ne (ne_new h)] at h
  exact h

/-! ### data: what a value tells, with the lists and tuples in it -/
inductive D where
  | non | bl (b : Bool) | int (i : Int) | str (x : Str) | lst (ds : List D) | tup (ds : List D)
mutual
def Rp (K : PySem.W.Frag) (H : Hp) : V → D → Prop
  | v, .non => v = .non
  | v, .bl b => v = .bl b
  | v, .int i => v = .int i
  | v, .str x => v = .str x
  | v, .lst ds => ∃ a xs, v = .ref a ∧ SqL K H a xs ∧ xs.length ≤ 100000 ∧ Rps K H xs ds
  | v, .tup ds => ∃ a xs, v = .ref a ∧ SqT K H a xs ∧ xs.length ≤ 100000 ∧ Rps K H xs ds
def Rps (K : PySem.W.Frag) (H : Hp) : List V → List D → Prop
  | xs, [] => xs = []
  | xs, d :: ds => ∃ x r, xs = x :: r ∧ Rp K H x d ∧ Rps K H r ds
end
mutual
def dep : D → Nat
  | .lst ds => depL ds + 1
  | .tup ds => depL ds + 1
  | _ => 0
def depL : List D → Nat
  | [] => 0
  | d :: ds => max (dep d) (depL ds)
end
theorem sameT {K : PySem.W.Frag} {H H' : Hp} {a : Addr} {xs : List V} (e : Same H H') (h : SqT K H a xs) : SqT K H' a xs := by
  rcases h with (h | ⟨o, h⟩) | h
  · exact .inl (.inl (e _ _ h))
  · exact .inl (.inr ⟨o, e _ _ h⟩)
  · exact .inr h
mutual
theorem Rp.same {K : PySem.W.Frag} {H H' : Hp} (e : Same H H') : ∀ {v : V} (d : D), Rp K H v d → Rp K H' v d
  | _, .non, h => h
  | _, .bl _, h => h
  | _, .int _, h => h
  | _, .str _, h => h
  | _, .lst ds, h => by
    obtain ⟨a, xs, h1, h2, h3, h4⟩ := h
    exact ⟨a, xs, h1, e.seq h2, h3, Rps.same e ds h4⟩
  | _, .tup ds, h => by
    obtain ⟨a, xs, h1, h2, h3, h4⟩ := h
    exact ⟨a, xs, h1, sameT e h2, h3, Rps.same e ds h4⟩
theorem Rps.same {K : PySem.W.Frag} {H H' : Hp} (e : Same H H') : ∀ {xs : List V} (ds : List D), Rps K H xs ds → Rps K H' xs ds
  | _, [], h => h
  | _, d :: ds, h => by
    obtain ⟨x, r, h1, h2, h3⟩ := h
    exact ⟨x, r, h1, Rp.same e d h2, Rps.same e ds h3⟩
end
theorem Rps.len {K : PySem.W.Frag} {H : Hp} : ∀ {xs : List V} {ds : List D}, Rps K H xs ds → xs.length = ds.length
  | _, [], h => by rw [show _ = [] from h]; rfl
  | _, d :: ds, h => by
    obtain ⟨x, r, rfl, _, h3⟩ := h
    rw [List.length_cons, List.length_cons, Rps.len h3]
theorem Rps.at_ {K : PySem.W.Frag} {H : Hp} : ∀ {xs : List V} {ds : List D} {i : Nat} {x : V}, Rps K H xs ds → xs[i]? = some x → ∃ d, ds[i]? = some d ∧ Rp K H x d
  | _, [], i, x, h, e => by rw [show _ = [] from h] at e; simp at e
  | _, d :: ds, 0, x, h, e => by
    obtain ⟨y, r, rfl, h2, _⟩ := h
    cases e
    exact ⟨d, rfl, h2⟩
  | _, d :: ds, i + 1, x, h, e => by
    obtain ⟨y, r, rfl, _, h3⟩ := h
    obtain ⟨d', e1, e2⟩ := Rps.at_ (i := i) h3 e
    exact ⟨d', e1, e2⟩
theorem dep_mem : ∀ {ds : List D} {i : Nat} {d : D}, ds[i]? = some d → dep d ≤ depL ds
  | [], _, _, e => by simp at e
  | c :: ds, 0, d, e => by cases e; exact Nat.le_max_left ..
  | c :: ds, i + 1, d, e => Nat.le_trans (dep_mem (i := i) e) (Nat.le_max_right ..)

/-- the class of a datum's value -/
def tyD : D → String
  | .non => "NoneType" | .bl _ => "bool" | .int _ => "int" | .str _ => "str" | .lst _ => "list" | .tup _ => "tuple"
theorem tyL {K : PySem.W.Frag} {H : Hp} {a : Addr} {xs : List V} (h : SqL K H a xs) : TyX K H (.ref a) (.type "list") := by
  rcases h with (h | ⟨o, h⟩) | ⟨o, its, n, h, c, _⟩
  · exact .base (.lst h)
  · exact .base (.frz h)
  · exact .kList h c
theorem tyT {K : PySem.W.Frag} {H : Hp} {a : Addr} {xs : List V} (h : SqT K H a xs) : TyX K H (.ref a) (.type "tuple") := by
  rcases h with (h | ⟨o, h⟩) | ⟨o, its, n, h, c, _⟩
  · exact .base (.tup h)
  · exact .fTuple h
  · exact .kTuple h c
theorem tyX {K : PySem.W.Frag} {H : Hp} : ∀ {v : V} (d : D), Rp K H v d → TyX K H v (.type (tyD d))
  | _, .non, h => by rw [show _ = V.non from h]; exact .base .non
  | _, .bl _, h => by rw [show _ = V.bl _ from h]; exact .base (.bl _)
  | _, .int _, h => by rw [show _ = V.int _ from h]; exact .base (.int _)
  | _, .str _, h => by rw [show _ = V.str _ from h]; exact .base (.str _)
  | _, .lst ds, h => by obtain ⟨a, xs, rfl, h2, _⟩ := h; exact tyL h2
  | _, .tup ds, h => by obtain ⟨a, xs, rfl, h2, _⟩ := h; exact tyT h2

/-! ### a def that others call -/
structure Df (P : Program) (w : World) (K : PySem.W.Frag) (mg : Str → Option Value) (base : Heap) (k : Nat) (x : Str) (ps : List Str) (sp : Sp) : Prop where
  ex : ∃ (f : Addr) (fd : FuncData), FnOk P w K mg base CX0 k f fd ps sp ∧ Binds K fd ps [] ∧ mg x = some (.ref f) ∧ PySem.W.keepIn K (.ref f) = true
theorem fn_false {P : Program} {w : World} {K : PySem.W.Frag} {mg : Str → Option Value} {base : Heap} {CX : CXT} {k : Nat} {f : Addr} {fd : FuncData} {ps : List Str} : FnOk P w K mg base CX k f fd ps (fun _ _ _ _ => False) :=
  ⟨fun _ _ _ _ h => h.elim, fun _ _ _ _ _ _ _ _ _ _ _ _ _ h => h.elim⟩
theorem pe_callD {X : Cx} {j k : Nat} {x : Str} {ps : List Str} {sp : Sp} {p pos : Pos} {e : Expr} {es : List Expr} {t : TA} (F : Df X.prog X.w X.K X.mg X.base k x ps sp) (hr : Room j X.A) (hk : k ≤ j) (ha : PA X (e :: es) t)
    (hg : Gl X x := by rfl) (hdb : (x == ("__debug__" : Str)) = false := by decide)
    (he : starEach (e :: es) X.env = (false, eval e X.env) :: starEach es X.env := by rfl) (hpl : (backTo pos (starEach es X.env)).any (·.1) = false := by rfl) :
    PE X (.Call (.Name x p) (e :: es) [] pos) (tCall sp [] E0 t) := by
  obtain ⟨f, fd, G, b, m, kp⟩ := F.ex
  exact pe_call G (hr.mono hk) hg m kp b .nil pass0 ha hdb he hpl
/-- zip of two tuples -/
theorem walk_zipT {K : PySem.W.Frag} {a b : Addr} {xs ys : List V} {n : Nat} (hn : n = min xs.length ys.length) : Walk (RZ.ItzT K a b) n (fun H => SqT K H a xs ∧ SqT K H b ys) (YPair (fun i => xs[i]?) (fun i => ys[i]?)) := by
  subst hn
  refine ⟨fun i _ hi q => ?_, fun _ q => ⟨xs, ys, q.1, q.2, by omega⟩, fun i H v H' _ q y => ?_⟩
  · have h1 : i < xs.length := by omega
    have h2 : i < ys.length := by omega
    exact ⟨xs, ys, xs[i], ys[i], q.1, q.2, by simp [h1], by simp [h2]⟩
  · obtain ⟨T, x, z, h1, h2, h3, h4, h5⟩ := y
    exact ⟨T, x, z, h1, h2, h3, h4 xs q.1, h5 ys q.2⟩

/-- one datum, told twice: the law's own comparison gives True -/
def spSame (K : PySem.W.Frag) (n : Nat) : Sp := fun vs H Q _ => ∃ (v u : V) (d : D), vs = [v, u] ∧ Rp K H v d ∧ Rp K H u d ∧ dep d ≤ n ∧ ∀ H', Same H H' → Q (.bl true) H'
def spSameL (K : PySem.W.Frag) : Nat → Sp
  | 0 => fun _ _ _ _ => False
  | n + 1 => spSame K n
def spOf (K : PySem.W.Frag) : Sp := fun vs H Q _ => ∃ (b a : Addr) (xs : List V), vs = [.ref b, .ref a] ∧ Bag H b ∧ SqL K H a xs ∧ a ≠ b ∧ 0 < xs.length ∧ xs.length < 1000000 ∧
  ∀ (v : V) (H' : Hp), v ∈ xs → Bag H' b → Kp b H H' → Q v H'
def spRoot : Sp := fun vs H Q _ => ∃ (b : Addr), vs = [.ref b] ∧ Bag H b ∧ ∀ (d : Int) (H' : Hp), d = 2 ∨ d = 3 ∨ d = 5 ∨ d = 6 ∨ d = 13 → Bag H' b → Kp b H H' → Q (.int d) H'
def spFar : Sp := fun vs H Q _ => ∃ (b : Addr) (k : Int), vs = [.ref b, .int k] ∧ Bag H b ∧ 0 < k ∧ k ≤ 1000 ∧ ∀ (n : Int) (H' : Hp), 0 ≤ n → n < 10 ^ k.toNat → Bag H' b → Kp b H H' → Q (.int n) H'
theorem Kp.seq {K : PySem.W.Frag} {b a : Addr} {H H' : Hp} {xs : List V} (k : Kp b H H') (n : a ≠ b) (h : SqL K H a xs) : SqL K H' a xs := by
  rcases h with (h | ⟨o, h⟩) | h
  · exact .inl (.inl (k _ _ n h))
  · exact .inl (.inr ⟨o, k _ _ n h⟩)
  · exact .inr h

theorem iteP {c A B : Prop} [Decidable c] (hc : c) (h : A) : if c then A else B := by
  rw [if_pos hc]
  exact h
theorem iteN {c A B : Prop} [Decidable c] (hc : ¬ c) (h : B) : if c then A else B := by
  rw [if_neg hc]
  exact h
theorem nd_of {p : Prop} [Decidable p] (h : ¬ p) : ¬ decide p = true := fun z => h (of_decide_eq_true z)
theorem eqT {x : V} {Q : VK} {H : Hp} (h : Q (.bl true) H) : Q (.bl (decide (x = x))) H := by
  rw [decide_eq_true rfl]
  exact h
def isBool : D → Bool
  | .bl _ => true
  | _ => false
theorem kb_NoneType_bool : kitB "NoneType" "bool" = some false := by decide +kernel
theorem kb_bool_bool : kitB "bool" "bool" = some true := by decide +kernel
theorem kb_int_bool : kitB "int" "bool" = some false := by decide +kernel
theorem kb_str_bool : kitB "str" "bool" = some false := by decide +kernel
theorem kb_list_bool : kitB "list" "bool" = some false := by decide +kernel
theorem kb_tuple_bool : kitB "tuple" "bool" = some false := by decide +kernel
theorem kit_bool : ∀ d : D, kitB (tyD d) "bool" = some (isBool d)
  | .non => kb_NoneType_bool
  | .bl _ => kb_bool_bool
  | .int _ => kb_int_bool
  | .str _ => kb_str_bool
  | .lst _ => kb_list_bool
  | .tup _ => kb_tuple_bool
def isInt : D → Bool
  | .bl _ => true
  | .int _ => true
  | _ => false
theorem kb_NoneType_int : kitB "NoneType" "int" = some false := by decide +kernel
theorem kb_bool_int : kitB "bool" "int" = some true := by decide +kernel
theorem kb_int_int : kitB "int" "int" = some true := by decide +kernel
theorem kb_str_int : kitB "str" "int" = some false := by decide +kernel
theorem kb_list_int : kitB "list" "int" = some false := by decide +kernel
theorem kb_tuple_int : kitB "tuple" "int" = some false := by decide +kernel
theorem kit_int : ∀ d : D, kitB (tyD d) "int" = some (isInt d)
  | .non => kb_NoneType_int
  | .bl _ => kb_bool_int
  | .int _ => kb_int_int
  | .str _ => kb_str_int
  | .lst _ => kb_list_int
  | .tup _ => kb_tuple_int
def isStr : D → Bool
  | .str _ => true
  | _ => false
theorem kb_NoneType_str : kitB "NoneType" "str" = some false := by decide +kernel
theorem kb_bool_str : kitB "bool" "str" = some false := by decide +kernel
theorem kb_int_str : kitB "int" "str" = some false := by decide +kernel
theorem kb_str_str : kitB "str" "str" = some true := by decide +kernel
theorem kb_list_str : kitB "list" "str" = some false := by decide +kernel
theorem kb_tuple_str : kitB "tuple" "str" = some false := by decide +kernel
theorem kit_str : ∀ d : D, kitB (tyD d) "str" = some (isStr d)
  | .non => kb_NoneType_str
  | .bl _ => kb_bool_str
  | .int _ => kb_int_str
  | .str _ => kb_str_str
  | .lst _ => kb_list_str
  | .tup _ => kb_tuple_str
def isLst : D → Bool
  | .lst _ => true
  | _ => false
theorem kb_NoneType_list : kitB "NoneType" "list" = some false := by decide +kernel
theorem kb_bool_list : kitB "bool" "list" = some false := by decide +kernel
theorem kb_int_list : kitB "int" "list" = some false := by decide +kernel
theorem kb_str_list : kitB "str" "list" = some false := by decide +kernel
theorem kb_list_list : kitB "list" "list" = some true := by decide +kernel
theorem kb_tuple_list : kitB "tuple" "list" = some false := by decide +kernel
theorem kit_list : ∀ d : D, kitB (tyD d) "list" = some (isLst d)
  | .non => kb_NoneType_list
  | .bl _ => kb_bool_list
  | .int _ => kb_int_list
  | .str _ => kb_str_list
  | .lst _ => kb_list_list
  | .tup _ => kb_tuple_list
def isTup : D → Bool
  | .tup _ => true
  | _ => false
theorem kb_NoneType_tuple : kitB "NoneType" "tuple" = some false := by decide +kernel
theorem kb_bool_tuple : kitB "bool" "tuple" = some false := by decide +kernel
theorem kb_int_tuple : kitB "int" "tuple" = some false := by decide +kernel
theorem kb_str_tuple : kitB "str" "tuple" = some false := by decide +kernel
theorem kb_list_tuple : kitB "list" "tuple" = some false := by decide +kernel
theorem kb_tuple_tuple : kitB "tuple" "tuple" = some true := by decide +kernel
theorem kit_tuple : ∀ d : D, kitB (tyD d) "tuple" = some (isTup d)
  | .non => kb_NoneType_tuple
  | .bl _ => kb_bool_tuple
  | .int _ => kb_int_tuple
  | .str _ => kb_str_tuple
  | .lst _ => kb_list_tuple
  | .tup _ => kb_tuple_tuple
theorem kit_lt {K : PySem.W.Frag} (d : D) : PySem.W.kitAny K (.type (tyD d)) [.type "list", .type "tuple"] = some (isLst d || isTup d) := by
  refine kitAny_cons (kit_ty (kit_list d)) (fun e => ?_) (fun e => by rw [e]; rfl)
  rw [e, Bool.false_or]
  exact kitAny_cons (kit_ty (kit_tuple d)) (fun e => by rw [e]; rfl) (fun e => e)
structure TSm (mg : Str → Option Value) : Prop where
  isinstance : mg "isinstance" = none
  bool : mg "bool" = none
  int : mg "int" = none
  str : mg "str" = none
  list : mg "list" = none
  tuple : mg "tuple" = none
  len : mg "len" = none
  all : mg "all" = none
  zip : mg "zip" = none
theorem yes_if {σ : St} {H : Hp} {A B : Hp → Prop} (h : A H) : tYes σ H (fun b H3 => if b = true then A H3 else B H3) := by
  show (if true = true then A H else B H)
  rw [if_pos rfl]
  exact h
end RF

namespace RF
open PySem L2
/-! ### the bag at b with its cells at c, which stay there -/
def BagAt (H : Hp) (b c : Addr) : Prop := ∃ (ns : List Int) (i : Nat) (z r : Int), BagC H b c ns i z r
theorem Bag.here {H : Hp} {b : Addr} (B : Bag H b) : ∃ c, BagAt H b c := let ⟨c, ns, i, z, r, h⟩ := B; ⟨c, ns, i, z, r, h⟩
theorem BagAt.bag {H : Hp} {b c : Addr} (B : BagAt H b c) : Bag H b := let ⟨ns, i, z, r, h⟩ := B; ⟨c, ns, i, z, r, h⟩
theorem BagAt.atB {H : Hp} {b c : Addr} (B : BagAt H b c) : ∃ xs, H b = some (.lst xs) := B.bag.some
theorem BagAt.atC {H : Hp} {b c : Addr} (B : BagAt H b c) : ∃ xs, H c = some (.lst xs) := let ⟨_, _, _, _, h⟩ := B; ⟨_, h.cs⟩
theorem BagAt.same {H H' : Hp} {b c : Addr} (B : BagAt H b c) (s : Same H H') : BagAt H' b c := by
  obtain ⟨ns, i, z, r, h⟩ := B
  exact ⟨ns, i, z, r, h.ne, s _ _ h.at_, s _ _ h.cs, h.le, h.z0, h.r0, h.r1⟩
theorem BagAt.off {H : Hp} {b c p : Addr} (B : BagAt H b c) (h : H p = none) : p ≠ b ∧ p ≠ c := by
  obtain ⟨xs, hb⟩ := B.atB
  obtain ⟨ys, hc⟩ := B.atC
  exact ⟨(ne_of_none hb h).symm, (ne_of_none hc h).symm⟩
theorem BagAt.put {H : Hp} {b c p : Addr} {o : HO} (B : BagAt H b c) (h : p ≠ b ∧ p ≠ c) : BagAt (upd H p o) b c := by
  obtain ⟨ns, i, z, r, B⟩ := B
  exact ⟨ns, i, z, r, B.ne, by rw [upd_ne h.1.symm]; exact B.at_, by rw [upd_ne h.2.symm]; exact B.cs, B.le, B.z0, B.r0, B.r1⟩
theorem Kp.up {b p : Addr} {H H' : Hp} {o : HO} (k : Kp b H H') (h : H p = none) : Kp b H (L2.upd H' p o) := fun a u n e => by
  rw [upd_ne (ne_of_none e h)]
  exact k a u n e
theorem Kp.new {b p : Addr} {H H' : Hp} {o : HO} (k : Kp b H H') (h : H' p = none) : Kp b H (L2.upd H' p o) := k.trans (Kp.of (sNew (Same.refl _) h))
def spPullC : Sp := fun vs H Q _ => ∃ (b c : Addr) (k : Int), vs = [.ref b, .int k] ∧ BagAt H b c ∧ 0 < k ∧ k < 1073741824 ∧
  ∀ (d : Int) (H' : Hp), 0 ≤ d → d < k → BagAt H' b c → Kp b H H' → Q (.int d) H'
def spOfC (K : PySem.W.Frag) : Sp := fun vs H Q _ => ∃ (b c a : Addr) (xs : List V), vs = [.ref b, .ref a] ∧ BagAt H b c ∧ SqL K H a xs ∧ a ≠ b ∧ 0 < xs.length ∧ xs.length < 1000000 ∧
  ∀ (v : V) (H' : Hp), v ∈ xs → BagAt H' b c → Kp b H H' → Q v H'
def spRootC : Sp := fun vs H Q _ => ∃ (b c : Addr), vs = [.ref b] ∧ BagAt H b c ∧ ∀ (d : Int) (H' : Hp), d = 2 ∨ d = 3 ∨ d = 5 ∨ d = 6 ∨ d = 13 → BagAt H' b c → Kp b H H' → Q (.int d) H'
def spFarC : Sp := fun vs H Q _ => ∃ (b c : Addr) (k : Int), vs = [.ref b, .int k] ∧ BagAt H b c ∧ 0 < k ∧ k ≤ 1000 ∧ ∀ (n : Int) (H' : Hp), 0 ≤ n → n < 10 ^ k.toNat → BagAt H' b c → Kp b H H' → Q (.int n) H'
end RF

namespace RF
open PySem L2
def top (i : Nat) : Stmt := PySem.Challenge.pw_rootfloor_k27_variables_in_scope.main.body.getD i (.Pass ⟨0, 0, 0, 0⟩)
abbrev sBag : Stmt := top 38
abbrev sPull : Stmt := top 39
structure TB (mg : Str → Option Value) : Prop where
  list : mg "list" = none
  len : mg "len" = none
  abs : mg "abs" = none
  int : mg "int" = none
section
variable {P : Program} {w : World} {K : PySem.W.Frag} {mg : Str → Option Value} {base : Heap}
theorem scBag : FnScope ["_law_script"] ["_law_script"] (defScope sBag) := ⟨rfl, rfl, rfl, by decide +kernel, rfl, by decide +kernel, by decide +kernel⟩
theorem ok_bag {f : Addr} {fd : FuncData} (F : Fun K "_law_bag" "_law_bag" sBag f fd) (T : TB mg) : FnOk P w K mg base CX0 1 f fd ["_law_script"] (spBag K) := by
  refine F.ok scBag (fun vs H Q E h => ?_) (fun cdv A outer s H vs Q E hr h => ?_)
  · obtain ⟨a, ns, rfl, _⟩ := h
    rfl
  · obtain ⟨a, ns, rfl, hS, hl, k⟩ := h
    refine ⟨_, pss_one (ps_ret (pe_lst (pa_cons (pe_callTy call_list_of (by rfl) T.list (by decide +kernel) (pa_cons (pe_slice sl_list (pv 0) po_none (po_some pe_int)) pa_nil)) (pa_cons pe_int (pa_cons pe_int (pa_cons pe_int pa_nil)))))), ?_⟩
    refine ⟨_, rfl, _, rfl, a, _, rfl, hS, fun p hp => ⟨p, _, rfl, .inl (SqL.of upd_same), fun l hl2 => ⟨by show 4 ≤ sizeLine; decide, fun q hq => ?_⟩⟩⟩
    obtain ⟨ms, e⟩ : ∃ ms : List Int, cutV (ns.map V.int) none (some 63) = ms.map V.int := ⟨_, by unfold cutV; rw [← List.map_drop, ← List.map_take]⟩
    have sm := sNew (o := .lst [.ref l, .int 0, .int 0, .int 3842]) (sNew (o := .lst (cutV (ns.map V.int) none (some 63))) (sNew (o := .lst (cutV (ns.map V.int) none (some 63))) (Same.refl H) hp) hl2) hq
    refine k q _ (of_new (of_new hq)) ⟨l, ms, 0, 0, 3842, ne_new hq, upd_same, ?_, Nat.zero_le _, Int.le_refl _, by decide, by decide⟩ sm
    rw [upd_ne (Ne.symm (ne_new hq)), upd_same, e]
abbrev nPull : List Str := ["_law_bag_here", "_law_sides", "_law_cell", "_law_digit", "_law_twice"]
theorem scPull : FnScope nPull ["_law_bag_here", "_law_sides"] (defScope sPull) := ⟨rfl, rfl, rfl, by decide +kernel, rfl, by decide +kernel, by decide +kernel⟩
theorem ok_pullC {f : Addr} {fd : FuncData} (F : Fun K "_law_pull" "_law_pull" sPull f fd) (T : TB mg) : FnOk P w K mg base CX0 1 f fd ["_law_bag_here", "_law_sides"] spPullC := by
  refine F.ok scPull (fun vs H Q E h => ?_) (fun cdv A outer s H vs Q E hr h => ?_)
  · obtain ⟨b, c, k, rfl, _⟩ := h
    rfl
  · obtain ⟨b, c, m, rfl, ⟨ns, i, z, r, B⟩, m0, m1, k⟩ := h
    have nd := scPull.nd
    -- the second half, from any bag
    refine ⟨_, C8.pss_cut (ps_if (pw_and (pt_cmpR op_eq (pe_ix ix_list (pv 0) pe_int (fun _ _ => rfl)) pe_int (nomark _)) (pw_and1 (pt_cmpR op_lt (pe_ix ix_list (pv 0) pe_int (fun _ _ => rfl)) (pe_callB call_len_seq (by rfl) T.len PySem.boot_len (pa_cons (pe_ix ix_list (pv 0) pe_int (fun _ _ => rfl)) pa_nil)) (nomark _)))).pt
        (pss_cons (ps_set (i := 2) nd rfl (Or.inl rfl) (pe_ix ix_list (pe_ix ix_list (pv 0) pe_int (fun _ _ => rfl)) (pe_ix ix_list (pv 0) pe_int (fun _ _ => rfl)) (fun _ _ => rfl)))
        (pss_cons (ps_asg (pe_op op_add (pe_ix ix_list (pv 0) pe_int (fun _ _ => rfl)) pe_int) (pg_sub (pv 0) pe_int set_list))
        (pss_one (ps_if (pt_cmpR op_ge (pe_callB call_abs (by rfl) T.abs (by decide +kernel) (pa_cons (pv 2) pa_nil)) (pe_op op_pow pe_int pe_int) (nomark _))
          (pss_one (ps_asg (pe_callB call_abs (by rfl) T.abs (by decide +kernel) (pa_cons (pv 2) pa_nil)) (pg_sub (pv 0) pe_int set_list)))
          (pss_one (ps_asg (pe_op op_mod (pe_callTy call_int1 (by rfl) T.int (by decide +kernel) (pa_cons (pe_op op_add (pe_op op_add (pe_op op_mul (pe_ix ix_list (pv 0) pe_int (fun _ _ => rfl)) pe_int) (pe_op op_mul (pe_op op_mod (pe_callTy call_int1 (by rfl) T.int (by decide +kernel) (pa_cons (pv 2) pa_nil)) pe_int) pe_int)) pe_int) pa_nil)) pe_int) (pg_sub (pv 0) pe_int set_list)))))))
        pss_nil)
      (C8.pss_cut (ps_if (pt_cmpR op_gt (pe_ix ix_list (pv 0) pe_int (fun _ _ => rfl)) pe_int (nomark _))
        (pss_cons (ps_set (i := 3) nd rfl (Or.inl rfl) (pe_op op_mod (pe_callTy call_int1 (by rfl) T.int (by decide +kernel) (pa_cons (pe_ix ix_list (pv 0) pe_int (fun _ _ => rfl)) pa_nil)) (pv 1)))
        (pss_cons (ps_asg (pe_op op_fdiv (pe_ix ix_list (pv 0) pe_int (fun _ _ => rfl)) (pv 1)) (pg_sub (pv 0) pe_int set_list))
        (pss_one (ps_ret (pv 3)))))
        pss_nil)
      (pss_cons (ps_set (i := 4) nd rfl (Or.inl rfl) (pe_op op_mod (pe_callTy call_int1 (by rfl) T.int (by decide +kernel) (pa_cons (pe_op op_mul (pe_ix ix_list (pv 0) pe_int (fun _ _ => rfl)) (pe_ix ix_list (pv 0) pe_int (fun _ _ => rfl))) pa_nil)) pe_int))
      (pss_cons (ps_asg (pe_op op_mod (pe_callTy call_int1 (by rfl) T.int (by decide +kernel) (pa_cons (pe_op op_add (pe_op op_add (pe_op op_mul (pv 4) pe_int) (pe_op op_mul (pe_ix ix_list (pv 0) pe_int (fun _ _ => rfl)) pe_int)) pe_int) pa_nil)) pe_int) (pg_sub (pv 0) pe_int set_list))
      (pss_one (ps_ret (pe_op op_mod (pe_callTy call_int1 (by rfl) T.int (by decide +kernel) (pa_cons (pe_op op_fdiv (pe_ix ix_list (pv 0) pe_int (fun _ _ => rfl)) pe_int) pa_nil)) (pv 1))))))), ?_⟩
    have hc : ∀ {H' : Hp} {i : Nat} {z r : Int}, BagC H' b c ns i z r → H' c = some (.lst (ns.map V.int)) := fun B => B.cs
    -- what follows the first if, from any bag
    refine ⟨fun σ' H' => ∃ v i z r, σ' = [some (.ref b), some (.int m), v, none, none] ∧ BagC H' b c ns i z r ∧ Kp b H H', ?_, ?_⟩
    · refine ⟨_, rfl, b, _, _, _, rfl, rfl, SqL.of B.at_, rfl, rfl, _, rfl, ?_⟩
      refine ite2 (fun ez => ?_) (fun _ => ?_)
      · refine ⟨_, rfl, b, _, _, _, rfl, rfl, SqL.of B.at_, rfl, _, rfl, b, _, _, _, rfl, rfl, SqL.of B.at_, rfl, c, _, rfl, .inl (SqL.of B.cs), _, _, rfl, rfl, _, rfl, ?_⟩
        refine ite2 (fun hl => ?_) (fun _ => ⟨_, _, _, _, rfl, B, Kp.refl _ _⟩)
        have hl' : i < ns.length := by
          have := of_decide_eq_true hl
          rw [List.length_map] at this
          omega
        obtain ⟨n, hn⟩ : ∃ n, ns[i]? = some n := ⟨_, List.getElem?_eq_getElem hl'⟩
        have hat : atI (ns.map V.int) (i : Int) = some (V.int n) := atI_nat (by rw [List.getElem?_map, hn]; rfl)
        refine ⟨_, rfl, b, _, _, _, rfl, rfl, SqL.of B.at_, rfl, _, rfl, b, _, _, _, rfl, rfl, SqL.of B.at_, rfl, c, _, _, _, rfl, rfl, SqL.of B.cs, hat, ?_⟩
        refine ⟨_, rfl, b, _, _, _, rfl, rfl, SqL.of B.at_, rfl, _, _, rfl, rfl, _, rfl, b, _, _, _, rfl, rfl, B.at_, rfl, ?_⟩
        have B1 := B.put (i' := i + 1) (z' := z) (r' := r) (o := .lst [.ref c, .int ((i : Int) + 1), .int z, .int r]) (by rw [Int.natCast_add]; rfl) hl' B.z0 B.r0 B.r1
        have k1 : Kp b H (upd H b (.lst [.ref c, .int ((i : Int) + 1), .int z, .int r])) := Kp.upd
        refine ⟨_, rfl, _, rfl, _, _, rfl, rfl, ⟨by decide, by decide, by decide⟩, _, _, rfl, rfl, _, rfl, ?_⟩
        refine ite2 (fun _ => ?_) (fun _ => ?_)
        · refine ⟨_, rfl, _, rfl, _, rfl, b, _, _, _, rfl, rfl, upd_same, rfl, ?_⟩
          exact ⟨_, _, _, _, rfl, B1.put rfl B1.le (by split <;> omega) B1.r0 B1.r1, k1.trans Kp.upd⟩
        · refine ⟨_, rfl, b, _, _, _, rfl, rfl, SqL.of B1.at_, rfl, _, _, rfl, rfl, .inr (by decide), _, rfl, .inl ⟨_, rfl, _, _, rfl, rfl, (by show (0 : Int) < 1000003; decide), _, _, rfl, rfl, .inr (by decide), _, _, rfl, rfl, _, _, rfl, rfl, .inl ⟨_, rfl, _, _, rfl, rfl, (by show (0 : Int) < 2147483647; decide), _, rfl, b, _, _, _, rfl, rfl, upd_same, rfl, ?_⟩⟩⟩
          exact ⟨_, _, _, _, rfl, B1.put rfl B1.le B1.z0 (emod_lo _ (by decide)) (emod_hi _ (by decide)), k1.trans Kp.upd⟩
      · exact ⟨_, _, _, _, rfl, B, Kp.refl _ _⟩
    · rintro σ' H1 ⟨v, i, z, r, rfl, B, kp⟩
      -- if bag[2] > 0
      refine ⟨fun σ' H' => σ' = [some (.ref b), some (.int m), v, none, none] ∧ H' = H1, ?_, ?_⟩
      · refine ⟨_, rfl, b, _, _, _, rfl, rfl, SqL.of B.at_, rfl, _, _, rfl, rfl, _, rfl, ?_⟩
        refine ite2 (fun hz => ?_) (fun _ => ⟨rfl, rfl⟩)
        refine ⟨_, rfl, b, _, _, _, rfl, rfl, SqL.of B.at_, rfl, .inl ⟨_, rfl, _, rfl, _, _, rfl, rfl, m0, ?_⟩⟩
        refine ⟨_, rfl, b, _, _, _, rfl, rfl, SqL.of B.at_, rfl, _, rfl, _, _, rfl, rfl, ⟨m0, m1⟩, _, rfl, b, _, _, _, rfl, rfl, B.at_, rfl, ?_⟩
        refine ⟨_, rfl, ?_⟩
        exact k _ _ (emod_lo _ m0) (emod_hi _ m0) ⟨ns, _, _, _, B.put rfl B.le (Int.ediv_nonneg B.z0 (Int.le_of_lt m0)) B.r0 B.r1⟩ (kp.trans Kp.upd)
      · rintro σ' H2 ⟨rfl, rfl⟩
        refine ⟨_, rfl, b, _, _, _, rfl, rfl, SqL.of B.at_, rfl, _, rfl, b, _, _, _, rfl, rfl, SqL.of B.at_, rfl, _, _, rfl, rfl, .inl ⟨by have := B.r0; omega, by have := B.r1; omega⟩, .inl ⟨_, rfl, _, _, rfl, rfl, (by show (0 : Int) < 2147483629; decide), ?_⟩⟩
        refine ⟨_, rfl, _, _, rfl, rfl, .inr (by decide), _, rfl, b, _, _, _, rfl, rfl, SqL.of B.at_, rfl, _, _, rfl, rfl, .inr (by decide), _, _, rfl, rfl, _, _, rfl, rfl, .inl ⟨_, rfl, _, _, rfl, rfl, (by show (0 : Int) < 2147483647; decide), _, rfl, b, _, _, _, rfl, rfl, B.at_, rfl, ?_⟩⟩
        refine ⟨_, rfl, b, _, _, _, rfl, rfl, SqL.of upd_same, rfl, _, _, rfl, rfl, ⟨by decide, by decide⟩, .inl ⟨_, rfl, _, rfl, _, _, rfl, rfl, m0, ?_⟩⟩
        exact k _ _ (emod_lo _ m0) (emod_hi _ m0) ⟨ns, _, _, _, B.put rfl B.le B.z0 (emod_lo _ (by decide)) (emod_hi _ (by decide))⟩ (kp.trans Kp.upd)
end
end RF

namespace EX
open PySem PySem.Calls PyProof.Rows PySem.HandSPX
open PySem.W (Frag findIn typeIn keepIn subIn hasDictIn nsIn mroIn clsIn codeIn fnX envX Looks KxsFacts kxs_mw ksEnv ksFn looks_mroIn looks_findIn looks_clsIn)
/-! ### the text of an own error's __init__ -/
/-- what the written part says of a class of errors over ValueError: at C; its __init__ at fI, with the class's cell cc -/
structure Own (P : Program) (K : Frag) (mg : Str → Option Value) (nm : Str) (C fI : Addr) : Prop where
  gC : mg nm = some (.ref C)
  cls : ∃ nm' q N bs bm sn sub ab col dd k0 k1 k2 k3 k5, K.lookup C = some (excClassObj nm' q C N bs bm true sn sub ab col dd k0 k1 k2 k3 k5 "ValueError.__new__") ∧ refsVE bm = true ∧ PySem.W.alongIn K "__init__" bm = some (some (.builtin "ValueError.__init__"))
  sa : findIn K (.ref C) "__setattr__" = some (some (.builtin "object.__setattr__"))
  ga : findIn K (.ref C) "__getattribute__" = some (some (.builtin "BaseException.__getattribute__"))
  gg : findIn K (.ref C) "__getattr__" = some none
  noT : findIn K (.ref C) "tag" = some none
  iC : findIn K (.ref C) "__init__" = some (some (.ref fI))
  tC : typeIn K (.ref fI) = some (.type "function")
  kC : keepIn K (.ref C) = true
  exC : subIn K (.ref C) (.type "BaseException") = some true
  tyC : typeIn K (.ref C) = some (.type "type")
  hdC : hasDictIn K C = true
  self : mroIn K C (.ref C) = some true
  noS : mg "super" = none
  opq : nsIn K cStatics "thirdparty.any" = some none
  top : (P.main.scope.names.lookup ("super" : Str)).isSome = false
section
variable {prog : Program} {w : World} {A : Around} {E : Value → Shared → Prop} {h : Heap} {g : Array GenState} {d : Drawn} {t : Nat} {os : OsState} {K : Frag}
variable {nm q : Str} {C N : Addr} {bs bm : List Value} {hdct : Bool} {sn : List Str} {sub : List Value} {ab : Bool} {col : Option Bool} {dd : Option Addr} {k0 k1 k2 k3 k5 : Option Value}
/-- the bound __init__ of ValueError is called -/
theorem call_mw {u e t0 : Addr} {rest : List Value} {Q : Value → Shared → Prop} (hC : h.get? C = some (excClassObj nm q C N bs bm hdct sn sub ab col dd k0 k1 k2 k3 k5 "ValueError.__new__")) (he : h.get? e = some (excO C t0)) (hu : h.get? u = some (kxs_mw "ValueError.__init__" e)) (hrest : rest.length ≤ sizeLine)
    (hq : ∀ h' t1, (∀ b o, b ≠ e → h.get? b = some o → h'.get? b = some o) → h'.get? e = some (excO C t1) → Q .none ⟨h', g, d, t, os⟩) : wpAny (model prog w) A (call (.ref u) rest) Q E ⟨h, g, d, t, os⟩ := by
  refine wpAny_call (codeAny_of_tree ?_)
  show wpAny _ A.in1 (callAny (.ref u) ⟨rest, []⟩) _ _ _
  unfold callAny
  refine wpAny_bind (wpAny_load hu ?_)
  simp only []
  refine PySem.W.KFB.if_so (by decide) ?_
  refine wpAny_bind (PySem.W.check_bound_init F.excBase_ValueError.toExcCallFacts hC he rfl ?_)
  refine wpAny_bind (wpAny_pure (wpAny_pure ?_))
  refine ⟨Code.quiet_builtin _ (by decide +kernel), codeAny_builtin F.excBase_ValueError.initEntry ?_⟩
  rw [Around.under_plainId F.excBase_ValueError.init.plain _]
  wp_walk
  refine hq _ h.objs.size (fun b o hb ho => (Heap.get?_update_other _ _ (Ne.symm hb)).trans (Heap.get?_push_of_some _ ho)) ((Heap.get?_update_self _ (Heap.get?_push_of_some _ he) rfl).trans rfl)
end
/-- the __init__'s own record: its code and its cell -/
structure IFn (P : Program) (K : Frag) (C fI cda cc : Addr) (fd : FuncData) : Prop where
  lk : ∃ oc od osl, K.lookup fI = some ⟨oc, od, .func fd, osl⟩
  code : ∃ ccl cdd vs ccs file tf, K.lookup cda = some ⟨ccl, cdd, .fields vs, ccs⟩ ∧ vs[2]? = some (.str file tf) ∧ ((P.main.file : Str) == file) = true
  cell : ∃ cl cld csl, K.lookup cc = some ⟨cl, cld, .cell (some (.ref C)), csl⟩
section
variable {prog : Program} {w : World} {A : Around} {E : Value → Shared → Prop} {s : Shared} {K : Frag} {mg mb : Str → Option Value} {nm : Str} {C fI cda cc : Addr} {fd : FuncData}
/-- super().__init__('..') -/
theorem super_stmt (O : Own prog K mg nm C fI) (I : IFn prog K C fI cda cc fd) {ar : Arg} (hp : (fd.params.posonlyargs ++ fd.params.args).head? = some ar) {q : Str} {scope : Scope} {L x t0 : Addr} {m : Str → Option Value} {body : List Stmt} {msg : Str} {a1 a2 a3 a4 a5 a6 : Pos} {j : Nat} {Q : Flow → Shared → Prop}
    (X : K.In s.heap) (hg : s.heap.Ns mainGlobals mg) (hb : s.heap.Ns builtinsNs mb) (hmb : mb "super" = bootBuiltins "super") (hn : s.heap.Ns L m) (hm : m ar.arg = some (.ref x)) (hx : s.heap.get? x = some (excO C t0)) (hxC : x ≠ C)
    (hk : scope.kind = .function) (h1 : scope.names.lookup ("super" : Str) = some .globalImplicit) (h2 : scope.names.lookup ("__class__" : Str) = some .free) (h3 : scope.names.lookup ar.arg = some .local)
    (hs : swapsWith (.Call (.Attribute (.Call (.Name "super" a1) [] [] a2) "__init__" a3) [.Constant (.str msg) j a4] [] a5) none a6.line (ksEnv q scope L fI (.ref cda) cc) = pure false)
    (hi : interactive (ksEnv q scope L fI (.ref cda) cc) = false)
    (hev : ∃ pl : Sem Bool, eval (.Call (.Attribute (.Call (.Name "super" a1) [] [] a2) "__init__" a3) [.Constant (.str msg) j a4] [] a5) (ksEnv q scope L fI (.ref cda) cc) = (do
      let ov ← attributeBase (.Call (.Name "super" a1) [] [] a2) "__init__" (ksEnv q scope L fI (.ref cda) cc) (eval (.Call (.Name "super" a1) [] [] a2) (ksEnv q scope L fI (.ref cda) cc))
      standAt a3.atName
      let fb ← holding [ov] (getMethod ov "__init__" pl)
      callWith a5 fb.1 fb.2 (backTo a5 (starEach [.Constant (.str msg) j a4] (ksEnv q scope L fI (.ref cda) cc))) []))
    (hst : starEach [.Constant (.str msg) j a4] (ksEnv q scope L fI (.ref cda) cc) = [(false, eval (.Constant (.str msg) j a4) (ksEnv q scope L fI (.ref cda) cc))])
    (k : ∀ h' tk t1, (∀ b o, b ≠ x → s.heap.get? b = some o → h'.get? b = some o) → h'.get? x = some (excO C t1) → Q .next { s with heap := h', toks := tk }) :
    _root_.PySem.wpAt (model prog w) A (.func body (ksEnv q scope L fI (.ref cda) cc)) (exec (.Expr (.Call (.Attribute (.Call (.Name "super" a1) [] [] a2) "__init__" a3) [.Constant (.str msg) j a4] [] a5) a6) (ksEnv q scope L fI (.ref cda) cc)) Q E s := by
  obtain ⟨nm', q', N, bs, bm, sn, sub, ab, col, dd, k0, k1, k2, k3, k5, hC, hbm, hal⟩ := O.cls
  obtain ⟨oc, od, osl, hf⟩ := I.lk
  obtain ⟨ccl, cdd, vs, ccs, file, tf, hcode, hvs, hfile⟩ := I.code
  obtain ⟨cl, cld, csl, hcell⟩ := I.cell
  have hcl : clsIn K C = some { name := nm', bases := bs, mro := .ref C :: bm, ns := N, qualname := q', hasDict := true, slotNames := sn, subclasses := sub, abstract := ab, collection := col, hasDel := false } := by unfold clsIn; rw [hC] <;> rfl
  obtain ⟨hh, g, d, t, os⟩ := s
  refine ks_wpAt_Expr_any ?_ hi hs
  obtain ⟨pl, hev⟩ := hev
  refine ks_wpAt_MethodCall ?_ hev
  refine ks_wpAt_super_base (env := ksEnv q scope L fI (.ref cda) cc) h1 h2 (by decide) rfl (X _ _ hf) rfl hp rfl (X _ _ hcode) rfl hvs hfile O.top ?_
  refine PySem.W.ks_loadName_global hk h1 (loadGlobal_builtin (env := ksEnv q scope L fI (.ref cda) cc) hg O.noS hb (hmb.trans (by rfl)) ⟨rfl, ?_⟩)
  refine wpAny_loadName_free hk h2 rfl ⟨_, X _ _ hcell, rfl⟩ ?_
  refine wpAny_loadName_local hk h3 hn hm ?_
  refine ks_wpAny_isType_cls (X _ _ hC) rfl ⟨rfl, ?_⟩
  refine ks_wpAny_call_super (X _ _ hC) rfl hx rfl (fun c e => by cases e) (looks_mroIn X O.self) (fun h' e kk => ?_)
  have X' : K.In h' := X.keeps kk
  have hx' := kk _ _ hx
  have IX : PySem.W.InstAt h' x (excO C t0) C none := ⟨hx', rfl, rfl, trivial⟩
  have hI : Looks (model prog w) h' (isInstance (.ref x) (.type "ValueError")) true := IX.type.andThen (looks_mroIn X' (by
    unfold mroIn
    rw [hcl, Option.bind_some, if_neg (by simp), List.contains_cons, refsVE_contains "ValueError" bm hbm, show veTail.contains (.type "ValueError") = true by decide +kernel, Bool.or_true]))
  refine PySem.W.kxs_getMethod PySem.W.kxs_ValueError e (PySem.W.looks_opaque X' O.opq) (l₀ := .ref C :: bm) ?_ rfl X' ?_ hI hxC (by decide) ?_
  · exact fun A Q E s k q => wpAny_bind ((looks_clsIn X' hcl) A _ E s k (wpAny_pure q))
  · have e2 : ((Value.ref C :: bm).dropWhile (· != .ref C)).drop 1 = bm := ESX.drop_own C bm
    rw [e2]
    exact hal
  · have up : ∀ b o, h'.get? b = some o → (h'.push (kxs_mw "ValueError.__init__" x)).get? b = some o := fun b o q => Heap.get?_push_of_some _ q
    have hu : (h'.push (kxs_mw "ValueError.__init__" x)).get? h'.objs.size = some (kxs_mw "ValueError.__init__" x) := Heap.get?_push_at rfl rfl
    show wpAny _ _ (callWith a5 (.ref h'.objs.size) [] (backTo a5 (starEach [.Constant (.str msg) j a4] (ksEnv q scope L fI (.ref cda) cc))) []) _ _ _
    rw [hst]
    refine PySem.W.kxs_callWith (i := "ValueError.__init__") (u := h'.objs.size) (x := x) rfl ?_
    refine evalArgs_plain ?_
    refine Calls.spliced_cons (wpAny_Constant_str (k := j) (pos := a4) (Calls.spliced_nil ⟨hu, ?_⟩))
    have hC1 : (h'.push (kxs_mw "ValueError.__init__" x)).get? C = some _ := up _ _ (X' _ _ hC)
    refine call_mw hC1 (up _ _ hx') hu (by show 1 ≤ sizeLine; decide) fun h2 t1 k1 k2 => ?_
    exact k h2 _ t1 (fun b o hb e => k1 b o hb (up _ _ (kk b o e))) k2
/-- what __init__ leaves of a fresh error at x: its own dict at dx -/
structure IEnd (h h' : Heap) (x C dx L : Addr) (m : Str → Option Value) : Prop where
  keep : ∀ b o, b ≠ x → h.get? b = some o → h'.get? b = some o
  obj : ∃ t1, h'.get? x = some { cls := .ref C, dict := some dx, data := .fields #[.ref t1, .none, .none, .none, .bool false, .none] }
  dbig : L < dx
  dne : dx ≠ x
  ns : h'.Ns1 dx m
/-- the text of __init__(self, fld): the base's, the tag, the field (l: without a field) -/
def sSup (msg : Str) (a1 a2 a3 a4 a5 a6 : Pos) : Stmt := .Expr (.Call (.Attribute (.Call (.Name "super" a1) [] [] a2) "__init__" a3) [.Constant (.str msg) 0 a4] [] a5) a6
def sTag (tag : Str) (b1 b2 b3 b4 : Pos) : Stmt := .Assign [.Attribute (.Name "self" b1) "tag" b2] (.Constant (.str tag) 0 b3) b4
def sFld (fld : Str) (c1 c2 c3 c4 : Pos) : Stmt := .Assign [.Attribute (.Name "self" c1) fld c2] (.Name fld c3) c4
/-- what a look at the text tells, at every frame -/
structure Txt (q : Str) (scope : Scope) (fI cda cc : Addr) (msg tag : Str) (a1 a2 a3 a4 a5 a6 b1 b2 b3 b4 : Pos) : Prop where
  kind : scope.kind = .function
  sup : scope.names.lookup ("super" : Str) = some .globalImplicit
  cls : scope.names.lookup ("__class__" : Str) = some .free
  self : scope.names.lookup ("self" : Str) = some .local
  co : scope.isCoroutine = false
  gen : scope.isGenerator = false
  nocell : ∀ y ∈ scope.names, y.2 ≠ .cell
  sw : ∀ L, swapsWith (.Call (.Attribute (.Call (.Name "super" a1) [] [] a2) "__init__" a3) [.Constant (.str msg) 0 a4] [] a5) none a6.line (ksEnv q scope L fI (.ref cda) cc) = pure false
  int : ∀ L, interactive (ksEnv q scope L fI (.ref cda) cc) = false
  ev : ∀ L, ∃ pl : Sem Bool, eval (.Call (.Attribute (.Call (.Name "super" a1) [] [] a2) "__init__" a3) [.Constant (.str msg) 0 a4] [] a5) (ksEnv q scope L fI (.ref cda) cc) = (do
      let ov ← attributeBase (.Call (.Name "super" a1) [] [] a2) "__init__" (ksEnv q scope L fI (.ref cda) cc) (eval (.Call (.Name "super" a1) [] [] a2) (ksEnv q scope L fI (.ref cda) cc))
      standAt a3.atName
      let fb ← holding [ov] (getMethod ov "__init__" pl)
      callWith a5 fb.1 fb.2 (backTo a5 (starEach [.Constant (.str msg) 0 a4] (ksEnv q scope L fI (.ref cda) cc))) [])
  st : ∀ L, starEach [.Constant (.str msg) 0 a4] (ksEnv q scope L fI (.ref cda) cc) = [(false, eval (.Constant (.str msg) 0 a4) (ksEnv q scope L fI (.ref cda) cc))]
  sw2 : ∀ L, swapsWith (.Constant (.str tag) 0 b3) (some (.Attribute (.Name "self" b1) "tag" b2)) b4.line (ksEnv q scope L fI (.ref cda) cc) = pure false
section
variable {prog : Program} {w : World} {A : Around} {E : Value → Shared → Prop} {s : Shared} {K : Frag} {mg mb : Str → Option Value} {nm : Str} {C fI cda cc : Addr} {fd : FuncData}
/-- super().__init__('..'); self.tag = '..' -/
theorem two_stmts (O : Own prog K mg nm C fI) (I : IFn prog K C fI cda cc fd) {ar : Arg} (hp : (fd.params.posonlyargs ++ fd.params.args).head? = some ar) (har : ar.arg = "self") {q : Str} {scope : Scope} {L x t0 : Addr} {m : Str → Option Value} {body rest : List Stmt} {msg tag : Str} {a1 a2 a3 a4 a5 a6 b1 b2 b3 b4 : Pos} {Q : Flow → Shared → Prop}
    (T : Txt q scope fI cda cc msg tag a1 a2 a3 a4 a5 a6 b1 b2 b3 b4)
    (X : K.In s.heap) (hnx : K.lookup x = none) (hg : s.heap.Ns mainGlobals mg) (hb : s.heap.Ns builtinsNs mb) (hmb : mb "super" = bootBuiltins "super") (hn : s.heap.Ns L m) (hm : m "self" = some (.ref x)) (hx : s.heap.get? x = some (excO C t0)) (hxC : x ≠ C) (hxL : x ≠ L)
    (k : ∀ h' tk dx u, IEnd s.heap h' x C dx L (fun y => if y = "tag" then some (.str tag u) else none) → wpAny (model prog w) A (execs rest (ksEnv q scope L fI (.ref cda) cc)) Q E { s with heap := h', toks := tk }) :
    _root_.PySem.wpAt (model prog w) A (.func body (ksEnv q scope L fI (.ref cda) cc)) (execs (sSup msg a1 a2 a3 a4 a5 a6 :: sTag tag b1 b2 b3 b4 :: rest) (ksEnv q scope L fI (.ref cda) cc)) Q E s := by
  obtain ⟨nm', q', N, bs, bm, sn, sub, ab, col, dd, k0, k1, k2, k3, k5, hC, hbm, hal⟩ := id O.cls
  have hcl : clsIn K C = some { name := nm', bases := bs, mro := .ref C :: bm, ns := N, qualname := q', hasDict := true, slotNames := sn, subclasses := sub, abstract := ab, collection := col, hasDel := false } := by unfold clsIn; rw [hC] <;> rfl
  refine ks_wpAt_execs_cons (super_stmt O I hp X hg hb hmb hn (by rw [har]; exact hm) hx hxC T.kind T.sup T.cls (by rw [har]; exact T.self) (T.sw L) (T.int L) (T.ev L) (T.st L) fun h1 tk t1 k1 e1 => ?_)
  have X1 : K.In h1 := fun a o e => k1 a o (fun z => by rw [z, hnx] at e; cases e) (X a o e)
  have hn1 : h1.Ns L m := by
    obtain ⟨ob, es, ep, ho, r⟩ := hn
    exact ⟨ob, es, ep, k1 _ _ (Ne.symm hxL) ho, r⟩
  refine wpAt_of_wpAny (wpAny_execs_cons (plainObj_wpAny_Assign_Attribute (wpAny_Constant_str (k := 0) (pos := b3) ?_) (T.sw2 L)))
  refine wpAny_Name (wpAny_loadName_local T.kind T.self hn1 hm ?_) (by decide)
  refine PySem.W.set_plain X1 (ox := excO C t1) (od := none) ⟨e1, rfl, rfl, trivial⟩ O.sa ?_
  refine exc_osa X1 e1 hcl (show refsVE (.ref C :: bm) = true from hbm) rfl O.noT (fun h3 tk3 dx k3 dn dne hx3 hn3 => ?_)
  refine k h3 tk3 dx tk ⟨fun b o hb e => k3 b o hb (k1 b o hb e), ⟨t1, hx3⟩, Nat.lt_of_lt_of_le hn1.lt dn, dne, hn3⟩
end
end
end EX

namespace EX
open PySem PySem.Calls PyProof.Rows PySem.HandSPX
open PySem.W (Frag findIn typeIn keepIn subIn hasDictIn nsIn mroIn clsIn codeIn fnX envX Looks KxsFacts kxs_mw ksEnv ksFn looks_mroIn looks_findIn looks_clsIn)
def mT (tag : Str) (u : Tok) : Str → Option Value := fun y => if y = "tag" then some (.str tag u) else none
def mF (fld tag : Str) (u : Tok) (v : Value) : Str → Option Value := fun y => if y = fld then some v else mT tag u y
theorem refs_px (l : List Value) : refsVE l = true → PX.refsVE l = true := by
  induction l with
  | nil =>
    intro h
    exact absurd h (by decide +kernel)
  | cons a r ih =>
    intro h
    rcases refsVE_cases _ h with ⟨c, r', e, h'⟩ | e
    · cases e
      exact ih h'
    · rw [e]
      decide +kernel
theorem within_tag (tag : Str) (u : Tok) : Within (mT tag u) ["tag"] := Within.cons "tag" (.str tag u) Within.nil
section
variable {prog : Program} {w : World} {A : Around} {E : Value → Shared → Prop} {R : Result → Shared → Prop} {s : Shared} {K : Frag} {mg mb : Str → Option Value} {nm : Str} {C fI cda cc : Addr}
variable {n0 q msg tag fld : Str} {params : Arguments} {scope : Scope} {doc pm ct oc : Value} {an od : Option Addr} {osl : Array (Option Value)} {a1 a2 a3 a4 a5 a6 b1 b2 b3 b4 c1 c2 c3 c4 : Pos} {x t0 : Addr} {v : Value}
/-- __init__(self) -/
theorem init0 (O : Own prog K mg nm C fI) (I : IFn prog K C fI cda cc (ksFn n0 q params [sSup msg a1 a2 a3 a4 a5 a6, sTag tag b1 b2 b3 b4] scope .none .none doc pm an (.ref cda) ct cc)) (T : Txt q scope fI cda cc msg tag a1 a2 a3 a4 a5 a6 b1 b2 b3 b4)
    (hcd : codeIn K (.ref cda) q = true) {ar : Arg} (hp : (params.posonlyargs ++ params.args).head? = some ar) (har : ar.arg = "self")
    (hbind : BindsTo s (ksFn n0 q params [sSup msg a1 a2 a3 a4 a5 a6, sTag tag b1 b2 b3 b4] scope .none .none doc pm an (.ref cda) ct cc) ⟨[.ref x], []⟩ [("self", .ref x)])
    (X : K.In s.heap) (hlim : s.heap.NoLimit) (hnx : K.lookup x = none) (hg : s.heap.Ns mainGlobals mg) (hb : s.heap.Ns builtinsNs mb) (hmb : mb "super" = bootBuiltins "super") (hx : s.heap.get? x = some (excO C t0)) (hxC : x ≠ C) (hroom : A.depth < recursionLimit)
    (k : ∀ h' tk dx u, IEnd s.heap h' x C dx s.heap.objs.size (mT tag u) → R (.ok (.ret .none)) { s with heap := h', toks := tk }) :
    codeAny (model prog w) A (.call (.ref fI) ⟨[.ref x], []⟩) R s := by
  obtain ⟨oc', od', osl', lk⟩ := id I.lk
  refine ks_codeAny_call_defAt hroom (X _ _ lk) rfl hlim (PySem.W.codeRec_of X hcd) rfl hbind T.nocell (fun y hy => ?_) (fun h₀ hn kk => ?_) T.co T.gen T.kind
  · rw [List.mem_singleton] at hy
    subst hy
    exact T.self
  · have hxL : x ≠ s.heap.objs.size := Nat.ne_of_lt (Heap.lt_size hx)
    refine two_stmts (s := { s with heap := h₀, toks := _ }) (rest := []) O I hp har T (X.keeps kk) hnx (hg.keeps kk) (hb.keeps kk) hmb hn (by first | rfl | simp) (kk _ _ hx) hxC hxL fun h' tk dx u e => ?_
    refine wpAny_execs_nil ?_
    exact k h' tk dx u ⟨fun b o hb' ho => e.keep b o hb' (kk b o ho), e.obj, e.dbig, e.dne, e.ns⟩
/-- __init__(self, fld) -/
theorem init1 (O : Own prog K mg nm C fI) (hfn : findIn K (.ref C) fld = some none) (I : IFn prog K C fI cda cc (ksFn n0 q params [sSup msg a1 a2 a3 a4 a5 a6, sTag tag b1 b2 b3 b4, sFld fld c1 c2 c3 c4] scope .none .none doc pm an (.ref cda) ct cc)) (T : Txt q scope fI cda cc msg tag a1 a2 a3 a4 a5 a6 b1 b2 b3 b4)
    (hcd : codeIn K (.ref cda) q = true) {ar : Arg} (hp : (params.posonlyargs ++ params.args).head? = some ar) (har : ar.arg = "self")
    (hbind : BindsTo s (ksFn n0 q params [sSup msg a1 a2 a3 a4 a5 a6, sTag tag b1 b2 b3 b4, sFld fld c1 c2 c3 c4] scope .none .none doc pm an (.ref cda) ct cc) ⟨[.ref x, v], []⟩ [("self", .ref x), (fld, v)])
    (hfl : scope.names.lookup fld = some .local) (hfs : (fld == ("self" : Str)) = false) (hfd : (fld == ("__debug__" : Str)) = false) (sw3 : ∀ L, swapsWith (.Name fld c3) (some (.Attribute (.Name "self" c1) fld c2)) c4.line (ksEnv q scope L fI (.ref cda) cc) = pure false)
    (X : K.In s.heap) (hlim : s.heap.NoLimit) (hnx : K.lookup x = none) (hg : s.heap.Ns mainGlobals mg) (hb : s.heap.Ns builtinsNs mb) (hmb : mb "super" = bootBuiltins "super") (hx : s.heap.get? x = some (excO C t0)) (hxC : x ≠ C) (hroom : A.depth < recursionLimit)
    (k : ∀ h' tk dx u, IEnd s.heap h' x C dx s.heap.objs.size (mF fld tag u v) → R (.ok (.ret .none)) { s with heap := h', toks := tk }) :
    codeAny (model prog w) A (.call (.ref fI) ⟨[.ref x, v], []⟩) R s := by
  obtain ⟨oc', od', osl', lk⟩ := id I.lk
  obtain ⟨nm', q', N, bs, bm, sn, sub, ab, col, dd, k0, k1, k2, k3, k5, hC, hbm, hal⟩ := id O.cls
  have hcl : clsIn K C = some { name := nm', bases := bs, mro := .ref C :: bm, ns := N, qualname := q', hasDict := true, slotNames := sn, subclasses := sub, abstract := ab, collection := col, hasDel := false } := by unfold clsIn; rw [hC] <;> rfl
  have hself : (("self" : Str) == fld) = false := by
    rw [beq_eq_false_iff_ne] at hfs ⊢
    exact Ne.symm hfs
  refine ks_codeAny_call_defAt hroom (X _ _ lk) rfl hlim (PySem.W.codeRec_of X hcd) rfl hbind T.nocell (fun y hy => ?_) (fun h₀ hn kk => ?_) T.co T.gen T.kind
  · rcases List.mem_cons.mp hy with e | hy
    · subst e
      exact T.self
    · rw [List.mem_singleton] at hy
      subst hy
      exact hfl
  · have hxL : x ≠ s.heap.objs.size := Nat.ne_of_lt (Heap.lt_size hx)
    have m1 : ([("self", .ref x), (fld, v)] : List (Str × Value)).reverse.lookup ("self" : Str) = some (Value.ref x) := by simp [List.lookup, hself]
    have m2 : ([("self", .ref x), (fld, v)] : List (Str × Value)).reverse.lookup fld = some v := by simp [List.lookup]
    refine two_stmts (s := { s with heap := h₀, toks := _ }) (rest := [sFld fld c1 c2 c3 c4]) O I hp har T (X.keeps kk) hnx (hg.keeps kk) (hb.keeps kk) hmb hn m1 (kk _ _ hx) hxC hxL fun h2 tk dx u e => ?_
    have X2 : K.In h2 := fun a o q => e.keep a o (fun z => by rw [z, hnx] at q; cases q) (X.keeps kk a o q)
    have hn2 : h2.Ns s.heap.objs.size (fun y => ([("self", .ref x), (fld, v)] : List (Str × Value)).reverse.lookup y) := by
      obtain ⟨ob, es, ep, ho, r⟩ := hn
      exact ⟨ob, es, ep, e.keep _ _ (Ne.symm hxL) ho, r⟩
    obtain ⟨t1, hx2⟩ := e.obj
    obtain ⟨oD, esD, epD, hoD, hdD, _⟩ := e.ns.count (within_tag tag u)
    refine wpAny_execs_cons (plainObj_wpAny_Assign_Attribute ?_ (sw3 _))
    refine wpAny_Name (wpAny_loadName_local T.kind hfl hn2 m2 ?_) hfd
    refine wpAny_Name (wpAny_loadName_local T.kind T.self hn2 m1 ?_) (by decide)
    refine PySem.W.set_plain X2 (od := some oD) ⟨hx2, rfl, rfl, hoD⟩ O.sa ?_
    refine PX.osa_old X2 hx2 e.ns (within_tag tag u) (by decide) hcl (refs_px _ (show refsVE (.ref C :: bm) = true from hbm)) rfl hfn (fun h3 tk3 k3 hn3 => ?_)
    refine wpAny_execs_nil ?_
    exact k h3 tk3 dx u ⟨fun b o hb' ho => k3 b o (Nat.ne_of_lt (Nat.lt_trans (Heap.lt_size ho) e.dbig)) (e.keep b o hb' (kk b o ho)), ⟨t1, k3 _ _ (Ne.symm e.dne) hx2⟩, e.dbig, e.dne, hn3⟩
end
end EX

namespace EX
open PySem PySem.Calls PyProof.Rows PySem.HandSPX
open PySem.W (Frag findIn typeIn keepIn subIn hasDictIn nsIn mroIn clsIn codeIn fnX envX Looks KxsFacts kxs_mw ksEnv ksFn looks_mroIn looks_findIn looks_clsIn)
/-- __init__ with the arguments us leaves an own dict that holds mm -/
def Inits (prog : Program) (w : World) (K : Frag) (mg : Str → Option Value) (C fI : Addr) (us : List Value) (mm : Tok → Str → Option Value) : Prop :=
  ∀ (A : Around) (R : Result → Shared → Prop) (s : Shared) (x t0 : Addr) (mb : Str → Option Value), K.In s.heap → s.heap.NoLimit → K.lookup x = none → s.heap.Ns mainGlobals mg → s.heap.Ns builtinsNs mb → mb "super" = bootBuiltins "super" →
    s.heap.get? x = some (excO C t0) → x ≠ C → A.depth < recursionLimit → (∀ h' tk dx u, IEnd s.heap h' x C dx s.heap.objs.size (mm u) → R (.ok (.ret .none)) { s with heap := h', toks := tk }) →
    codeAny (model prog w) A (.call (.ref fI) ⟨.ref x :: us, []⟩) R s
/-- a made error: at e, its own dict at d -/
structure Made (h h' : Heap) (e C d : Addr) (m : Str → Option Value) : Prop where
  keep : ∀ b o, h.get? b = some o → h'.get? b = some o
  new : h.objs.size ≤ e
  obj : ∃ t, h'.get? e = some { cls := .ref C, dict := some d, data := .fields #[.ref t, .none, .none, .none, .bool false, .none] }
  dbig : h.objs.size ≤ d
  dne : d ≠ e
  ns : h'.Ns1 d m
section
variable {prog : Program} {w : World} {A : Around} {E : Value → Shared → Prop} {R : Result → Shared → Prop} {s : Shared} {K : Frag} {mg mb : Str → Option Value} {nm : Str} {C fI : Addr} {us : List Value} {mm : Tok → Str → Option Value}
theorem made (O : Own prog K mg nm C fI) (J : Inits prog w K mg C fI us mm) (hz : us.length ≤ sizeLine) (X : K.In s.heap) (hlim : s.heap.NoLimit) (hg : s.heap.Ns mainGlobals mg) (hb : s.heap.Ns builtinsNs mb) (hmb : mb "super" = bootBuiltins "super") (hroom : A.depth + 1 < recursionLimit)
    (hq : ∀ h' tk e d u, Made s.heap h' e C d (mm u) → R (.ok (.ret (.ref e))) { s with heap := h', toks := tk }) : codeAny (model prog w) A (.call (.ref C) ⟨us, []⟩) R s := by
  obtain ⟨nm', q', N, bs, bm, sn, sub, ab, col, dd, k0, k1, k2, k3, k5, hC, hbm, hal⟩ := id O.cls
  obtain ⟨hp, g, dr, tk, os⟩ := s
  have hold : ∀ b o, hp.get? b = some o → ((hp.push (PySem.W.kdv_tup us)).push (excO C hp.objs.size)).get? b = some o := fun b o e => Heap.get?_push_of_some _ (Heap.get?_push_of_some _ e)
  have hget : ((hp.push (PySem.W.kdv_tup us)).push (excO C hp.objs.size)).get? (hp.objs.size + 1) = some (excO C hp.objs.size) := by heap_get
  have out : ∀ a o, hp.get? a = some o → a ≠ hp.objs.size + 1 := fun a o e => Nat.ne_of_lt (Nat.lt_succ_of_lt (Heap.lt_size e))
  have hnx : K.lookup (hp.objs.size + 1) = none := by
    cases e : K.lookup (hp.objs.size + 1) with
    | none => rfl
    | some o => exact absurd rfl (out _ _ (X _ _ e))
  refine call_own F.excBase_ValueError (fun Y => refsVE_contains Y bm hbm) (X _ _ hC) (looks_findIn X O.iC) (fun self => PySem.W.bind_fn X self O.tC) hz ?_
  refine J _ _ ⟨(hp.push (PySem.W.kdv_tup us)).push (excO C hp.objs.size), g, dr, tk, os⟩ (hp.objs.size + 1) hp.objs.size mb (X.keeps hold) (hlim.keeps hold) hnx (hg.keeps hold) (hb.keeps hold) hmb hget (Ne.symm (out _ _ (X _ _ hC))) hroom fun h' tk' dx u Z => ?_
  obtain ⟨t1, ho⟩ := Z.obj
  have hd : hp.objs.size + 1 + 1 < dx := by
    have := Z.dbig
    rw [Heap.size_push, Heap.size_push] at this
    exact this
  exact ⟨rfl, hq h' tk' (hp.objs.size + 1) dx u ⟨fun b o e => Z.keep b o (out b o e) (hold b o e), Nat.le_succ _, ⟨t1, ho⟩, by show hp.objs.size ≤ dx; omega, Z.dne, Z.ns⟩⟩
end
end EX

namespace EX
open PySem PySem.Spec PyProof.Rows L2
section
variable {X : Cx} {pins : List (Addr × Obj)} {σ : L2.St} {H : Hp} {s : Shared} {nm tag fld : Str} {C fI : Addr}
theorem mkp_of (O : Own X.prog X.K X.mg nm C fI) (I : Inv X pins σ H s) {h' : Heap} {tk' : Nat} {e d : Addr} {m : Str → Option Value} {fs : List (Str × V)} {Q : XK} (M : Made s.heap h' e C d m) (hr : ∀ f, RelO (fs.lookup f) (m f))
    (q : ∀ d, H d = none → Q (.ref C) (some d) (upd H d (.xd fs))) : MkP X pins σ Q (.ref e) { s with heap := h', toks := tk' } := by
  obtain ⟨hp, g, dr, tk, os⟩ := s
  obtain ⟨t, ho⟩ := M.obj
  obtain ⟨G, g1, g2⟩ := restrict h' fun b => decide (b ≠ e)
  have gk : ∀ b, b ≠ e → G.get? b = h'.get? b := fun b hb => g1 b (decide_eq_true hb)
  have ge : G.get? e = none := g2 e (by simp)
  have old : ∀ b o, hp.get? b = some o → G.get? b = some o := fun b o z => (gk b (fun y => absurd (Heap.lt_size z) (by rw [y]; exact Nat.not_lt.mpr M.new))).trans (M.keep b o z)
  have ob : ObjOk X.prog X.w (upd H d (.xd fs)) G d (.xd fs) := ⟨m, M.ns.at (fun o z => (gk d M.dne).trans z), hr⟩
  have J : Inv X pins σ (upd H d (.xd fs)) ⟨G, g, dr, tk', os⟩ := I.laid (t' := tk') old M.dbig ob
  refine ⟨e, _, _, ⟨G, g, dr, tk', os⟩, upd H d (.xd fs), .ref C, some d, rfl, J, fun b o z => ?_, ge, ho, ⟨rfl, rfl⟩, rfl, rfl, ?_, rfl, I.bare, raises_own O.exC O.tyC, q d (I.hok.fresh M.dbig)⟩
  · have z : G.get? b = some o := z
    have hb : b ≠ e := fun y => by rw [y, ge] at z; cases z
    exact (gk b hb).symm.trans z
  · rw [upd_ne (Ne.symm M.dne)]
    exact I.hok.fresh M.new
theorem rel0 (tag : Str) (u : Tok) (f : Str) : RelO (List.lookup f [(("tag" : Str), V.str tag)]) (mT tag u f) := by
  unfold mT
  by_cases h : f = "tag"
  · subst h
    rw [if_pos rfl, show List.lookup ("tag" : Str) [(("tag" : Str), V.str tag)] = some (V.str tag) by simp [List.lookup]]
    exact ⟨u, rfl⟩
  · have h2 : (f == ("tag" : Str)) = false := by simpa using h
    rw [if_neg h, show List.lookup f [(("tag" : Str), V.str tag)] = none by simp [List.lookup, h2]]
    trivial
theorem rel1 {v : V} {v' : Value} (r : RelV v v') (fld tag : Str) (u : Tok) (f : Str) : RelO (List.lookup f [(fld, v), (("tag" : Str), V.str tag)]) (mF fld tag u v' f) := by
  unfold mF
  by_cases h : f = fld
  · subst h
    rw [if_pos rfl, show List.lookup f [(f, v), (("tag" : Str), V.str tag)] = some v by simp [List.lookup]]
    exact r
  · have h2 : (f == fld) = false := by simpa using h
    have e : List.lookup f [(fld, v), (("tag" : Str), V.str tag)] = List.lookup f [(("tag" : Str), V.str tag)] := by simp [List.lookup, h2]
    rw [if_neg h, e]
    exact rel0 tag u f
/-- C() -/
def tMk0 (C : Addr) (tag : Str) : L2.St → Hp → XK → Prop := fun _ H Q => ∀ d, H d = none → Q (.ref C) (some d) (upd H d (.xd [("tag", .str tag)]))
/-- C(e) -/
def tMk1 (C : Addr) (fld tag : Str) (ta : TA) : L2.St → Hp → XK → Prop := fun σ H Q => ta σ H fun vs H1 => ∃ v, vs = [v] ∧ ∀ d, H1 d = none → Q (.ref C) (some d) (upd H1 d (.xd [(fld, v), ("tag", .str tag)]))
theorem pmk0 {p pos : Pos} {k : Nat} (O : Own X.prog X.K X.mg nm C fI) (J : Inits X.prog X.w X.K X.mg C fI [] (mT tag)) (hr : Room k X.A) (hg : Gl X nm := by rfl) (hdb : (nm == ("__debug__" : Str)) = false := by decide) : PMk X (.Call (.Name nm p) [] [] pos) (tMk0 C tag) := by
  intro pins s σ H Q I h
  obtain ⟨mb, hb1, hb2⟩ := I.mod.blt
  refine wpAny_Call_Name_kw (ld_glob I hg O.gC ?_ hdb)
  refine PySem.W.callWith_K0 I.kIn O.kC ?_
  refine wpAny_call (made O J (Nat.zero_le _) I.kIn I.nolimit (I.mod.glob.keeps I.bk) (hb1.keeps I.bk) (hb2 _ (by decide)) (by have := hr.dp; omega) fun h' tk' e d u M => ?_)
  exact mkp_of O I M (rel0 tag u) h
theorem pmk1 {a : Expr} {ta : TA} {p pos : Pos} {k : Nat} (O : Own X.prog X.K X.mg nm C fI) (J : ∀ v, Inits X.prog X.w X.K X.mg C fI [v] (fun u => mF fld tag u v)) (hr : Room k X.A) (ha : PA X [a] ta) (hg : Gl X nm := by rfl) (hdb : (nm == ("__debug__" : Str)) = false := by decide)
    (he : starEach (a :: []) X.env = (false, eval a X.env) :: starEach [] X.env := by rfl) (hpl : (backTo pos (starEach [] X.env)).any (·.1) = false := by rfl) : PMk X (.Call (.Name nm p) [a] [] pos) (tMk1 C fld tag ta) := by
  intro pins s σ H Q I h
  refine wpAny_Call_Name_kw (ld_glob I hg O.gC ?_ hdb)
  refine PySem.W.callWith_K (h₀ := X.base) I.ok.mod.kin O.kC (thn (ha.run pos pins s σ H _ I h) fun us s1 hh => ?_) he hpl
  obtain ⟨vs, H1, I1, r1, v, ev, q1⟩ := hh
  subst ev
  refine ⟨I1.kIn, ?_⟩
  cases r1 with
  | cons rv rn =>
    rename_i v' us'
    cases rn
    obtain ⟨mb, hb1, hb2⟩ := I1.mod.blt
    refine wpAny_call (made O (J v') (by show 1 ≤ sizeLine; decide) I1.kIn I1.nolimit (I1.mod.glob.keeps I1.bk) (hb1.keeps I1.bk) (hb2 _ (by decide)) (by have := hr.dp; omega) fun h' tk' e d u M => ?_)
    exact mkp_of O I1 M (rel1 rv fld tag u) q1
end
end EX

namespace EX
open PySem PySem.Spec PyProof.Rows L2
/-! ### try .. except (x1, x2, x3) as n -/
theorem fly_push {B h : Heap} {l : List Env} {a : Addr} {Z : Obj → Prop} (o : Obj) (f : HandSPX.FlyingZ B l a Z h) : HandSPX.FlyingZ B l a Z (h.push o) := by
  obtain ⟨f1, f2, f3, oe, vs, T, oT, ts, g1, g2, g3, g4, g5, g6, g7, g8, g9⟩ := f
  have up : ∀ b u, h.get? b = some u → (h.push o).get? b = some u := fun b u e => Heap.get?_push_of_some _ e
  exact ⟨fun b u e => up b u (f1 b u e), f2, f3.of_keeps fun b u e _ => ⟨u, up b u e, rfl⟩, oe, vs, T, oT, ts, up _ _ g1, g2, g3, g4, g5, g6, up _ _ g7, g8, g9⟩
theorem upTo_push {h h' : Heap} (o : Obj) (u : h.UpToSlots h') : h.UpToSlots (h'.push o) := fun b z e n => by
  obtain ⟨sl, q⟩ := u b z e n
  exact ⟨sl, Heap.get?_push_of_some _ q⟩
/-- what the clause wishes: the class is one of the three, then the suite -/
def wTup (K : PySem.W.Frag) (cs : List Value) (i : Nat) (ts : Addr → Value → Option Addr → TS) (D : Ends) : WX := fun cls d σ H => PySem.W.exmAny K cls cs = some true ∧
  ∀ a, H a = none → ts a cls d { nx := fun σ1 H1 => D.nx (σ1.set i none) H1, rt := D.rt, bk := fun σ1 H1 => D.bk (σ1.set i none) H1, ct := fun σ1 H1 => D.ct (σ1.set i none) H1 } (σ.set i (some (.ref a))) H
section
variable {X : Cx} {x1 x2 x3 n : Str} {c1 c2 c3 : Addr} {i j : Nat} {body suite : List Stmt} {b₀ : Stmt} {p1 p2 p3 p4 pos pos' : Pos} {tb : WX → TS} {ts : Addr → Value → Option Addr → TS}
/-- the three classes, in a suite's context -/
theorem eval_three {a : Addr} {pn pins : List (Addr × Obj)} {σ : L2.St} {H : Hp} {s : Shared} {Q : Value → Shared → Prop} {E : Value → Shared → Prop} (I : Inv (X.suite a pn) pins σ H s)
    (g1 : Gl X x1 ∧ X.mg x1 = some (.ref c1) ∧ (x1 == ("__debug__" : Str)) = false) (g2 : Gl X x2 ∧ X.mg x2 = some (.ref c2) ∧ (x2 == ("__debug__" : Str)) = false) (g3 : Gl X x3 ∧ X.mg x3 = some (.ref c3) ∧ (x3 == ("__debug__" : Str)) = false)
    (q : Q (.ref s.heap.objs.size) { s with heap := s.heap.push { cls := .type "tuple", data := .seq [Value.ref c1, .ref c2, .ref c3].toArray } })
    (hst : starEach [.Name x1 p1, .Name x2 p2, .Name x3 p3] X.env = [(false, eval (.Name x1 p1) X.env), (false, eval (.Name x2 p2) X.env), (false, eval (.Name x3 p3) X.env)]) :
    wpAny (model X.prog X.w) (X.A.mark (some (.ref a))) (eval (.Tuple [.Name x1 p1, .Name x2 p2, .Name x3 p3] j p4) X.env) Q E s := by
  refine wpAny_Tuple_spliced ?_
  rw [hst]
  refine Calls.spliced_cons (ld_glob (X := X.suite a pn) I g1.1 g1.2.1 ?_ g1.2.2)
  refine Calls.spliced_cons (ld_glob (X := X.suite a pn) I g2.1 g2.2.1 ?_ g2.2.2)
  refine Calls.spliced_cons (ld_glob (X := X.suite a pn) I g3.1 g3.2.1 ?_ g3.2.2)
  exact Calls.spliced_nil ⟨by show 3 ≤ sizeLine; decide, q⟩
theorem ps_try_tup (hs : X.stack = X.env :: X.outer) (hf : X.env.frame = some X.env.locals) (hN : X.N.Nodup) (hi : X.N[i]? = some n) (hln : X.env.kindOf n = some .local)
    (g1 : Gl X x1 ∧ X.mg x1 = some (.ref c1) ∧ (x1 == ("__debug__" : Str)) = false) (g2 : Gl X x2 ∧ X.mg x2 = some (.ref c2) ∧ (x2 == ("__debug__" : Str)) = false) (g3 : Gl X x3 ∧ X.mg x3 = some (.ref c3) ∧ (x3 == ("__debug__" : Str)) = false)
    (hst : starEach [.Name x1 p1, .Name x2 p2, .Name x3 p3] X.env = [(false, eval (.Name x1 p1) X.env), (false, eval (.Name x2 p2) X.env), (false, eval (.Name x3 p3) X.env)])
    (hb : ∀ (W : WX) (pn : List (Addr × Obj)) (xe : Value → Shared → Prop), Takes (X.tr pn xe) W → PSs (X.tr pn xe) body (tb W))
    (hsu : ∀ (a : Addr) (oe : Obj) (cls : Value) (d : Option Addr) (pn : List (Addr × Obj)), Zc cls d oe → (∃ vs, oe.data = .fields vs) → PSs (X.suite a ((a, oe) :: pn)) (b₀ :: suite) (ts a cls d)) :
    PS X (.Try body [.ExceptHandler (some (.Tuple [.Name x1 p1, .Name x2 p2, .Name x3 p3] j p4)) (some n) (b₀ :: suite) pos'] [] [] pos) (fun D σ H => tb (wTup X.K [.ref c1, .ref c2, .ref c3] i ts D) D σ H) := by
  refine ⟨fun pins s σ H D I hw => ?_⟩
  have ok := I.ok
  have frs_ : X.A.frames = some (X.env :: X.outer) := by rw [ok.frames, hs]
  have here : Loc X.env.scope n := .inl hln
  refine wpAny_Try_except (wpAny_mono ((hb (wTup X.K [.ref c1, .ref c2, .ref c3] i ts D) (X.pn ++ pins) (fun e sa => wpAny (model X.prog X.w) X.A (noteFrame e X.env) (fun _ sb => wpAny (model X.prog X.w) X.A (setFlight e none) (fun _ sc =>
    wpAny (model X.prog X.w) X.A (handleBy e X.env [.ExceptHandler (some (.Tuple [.Name x1 p1, .Name x2 p2, .Name x3 p3] j p4)) (some n) (b₀ :: suite) pos']) (SP X pins D) X.xe sc) X.xe sb) X.xe sa) (fun u s2 air => ?_)).run [] s σ H D (I.toTry _) hw) (fun fl s2 done => ?_) (fun _ _ z => z))
  · -- an exception comes
    obtain ⟨a, B, sI, pins2, σ2, H2, cls, d, rfl, Jt, nb, up, sky, na, os, ag, hm, hy⟩ := air
    have J : Inv X pins σ2 H2 sI := Jt.ofTry ok
    rw [show (X.tr (X.pn ++ pins) _).stack = X.env :: X.outer from hs] at sky
    show wpAny (model X.prog X.w) X.A (noteFrame (.ref a) X.env) _ _ _
    refine Sky.land Zc.steady frs_ hf sky fun h3 fl3 up3 => ?_
    obtain ⟨oe3, vs3, ge3, hz3, gd3⟩ := fl3.there
    have nfr : a ∉ frs (X.env :: X.outer) := fun mem => by
      obtain ⟨_, o2, e2, nf⟩ := fl3.2.2.1.mem mem
      rw [ge3] at e2
      cases e2
      exact nf _ gd3
    have nL : a ≠ X.env.locals := fun z => nfr (List.mem_filterMap.mpr ⟨X.env, List.mem_cons_self, hf.trans (by rw [z])⟩)
    have nF : a ∉ X.fs := fun mem => by
      obtain ⟨e2, m2, q2⟩ := List.mem_filterMap.mp mem
      exact nfr (List.mem_filterMap.mpr ⟨e2, List.mem_cons_of_mem _ m2, q2⟩)
    have J3 : Inv X pins σ2 H2 { s2 with heap := h3 } := J.landed nb fl3.1 (up.trans up3) os ag
    refine wpAny_handleBy_cons (codeAny_handlers_test ?_) (fun q => by cases q)
    refine eval_three (pn := (a, oe3) :: (X.pn ++ pins)) (J3.suite ge3 gd3 na nL nF) g1 g2 g3 ?_ hst
    -- the classes' tuple is laid
    have fl4 := fly_push { cls := .type "tuple", data := .seq [Value.ref c1, .ref c2, .ref c3].toArray } fl3
    have up4 := upTo_push { cls := .type "tuple", data := .seq [Value.ref c1, .ref c2, .ref c3].toArray } (up.trans up3)
    have ht : (h3.push { cls := .type "tuple", data := .seq [Value.ref c1, .ref c2, .ref c3].toArray }).get? h3.objs.size = some { cls := .type "tuple", data := .seq [Value.ref c1, .ref c2, .ref c3].toArray } := Heap.get?_push_size _ rfl
    generalize h3.push { cls := .type "tuple", data := .seq [Value.ref c1, .ref c2, .ref c3].toArray } = h4 at fl4 up4 ht
    have J4 : Inv X pins σ2 H2 { s2 with heap := h4 } := J.landed nb fl4.1 up4 os ag
    obtain ⟨oe4, vs4, ge4, hz4, gd4⟩ := fl4.there
    have LT : PySem.W.Looks (model X.prog X.w) h4 (typeOf (.ref a)) cls := fun _ _ _ _ kk q => wpAny_typeOf_ref (kk _ _ ge4) (by rw [hz4.1]; exact q)
    refine (PySem.W.exm_tup3 (M := model X.prog X.w) J4.kIn LT ht hm).here ?_
    refine codeAny_handlers_suite_as (HandSPX.lands_againZ fl4 fun h5 fl5 up5 => ?_)
    have J5 : Inv X pins σ2 H2 { s2 with heap := h5 } := J.landed nb fl5.1 (up4.trans up5) os ag
    obtain ⟨oe5, vs5, ge5, hz5, gd5⟩ := fl5.there
    refine store_ok (X := X.suite a ((a, oe5) :: (X.pn ++ pins))) (v := .ref a) (J5.suite ge5 gd5 na nL nF) hN hi here rfl (fun s6 S6 => ?_) (.inr hln)
    refine wpAny_mono ((hsu a oe5 cls d (X.pn ++ pins) hz5 ⟨_, gd5⟩).run [] s6 _ H2 _ S6 (hy a na)) (fun fl s7 e7 => ?_) (fun _ _ z => False.elim z)
    have fin : ∀ {σ7 : L2.St} {H7 : Hp} {Q : Shared → Prop}, Inv (X.suite a ((a, oe5) :: (X.pn ++ pins))) [] σ7 H7 s7 → (∀ s8, Inv X pins (σ7.set i none) H7 s8 → Q s8) → wpAny (model X.prog X.w) X.A (do bindName X.env n .none; unbindBehindTheSuite X.env n pos') (fun _ s8 => Q s8) X.xe s7 :=
      fun {σ7 H7 Q} S7 hq => gone_ok (S7.unsuite ok) hN hi hln hq
    cases fl with
    | next =>
      obtain ⟨σ7, H7, S7, q7⟩ := e7
      exact fin S7 fun _ J8 => ⟨_, _, J8, q7⟩
    | brk =>
      obtain ⟨σ7, H7, S7, q7⟩ := e7
      exact fin S7 fun _ J8 => ⟨_, _, J8, q7⟩
    | cont =>
      obtain ⟨σ7, H7, S7, q7⟩ := e7
      exact fin S7 fun _ J8 => ⟨_, _, J8, q7⟩
    | ret u7 =>
      obtain ⟨v7, σ7, H7, S7, r7, q7⟩ := e7
      exact fin S7 fun _ J8 => ⟨_, _, _, J8, r7, q7⟩
  · cases fl with
    | next =>
      obtain ⟨σ2, H2, J2, q2⟩ := done
      exact wpAny_execs_nil ⟨σ2, H2, J2.ofTry ok, q2⟩
    | brk =>
      obtain ⟨σ2, H2, J2, q2⟩ := done
      exact ⟨σ2, H2, J2.ofTry ok, q2⟩
    | cont =>
      obtain ⟨σ2, H2, J2, q2⟩ := done
      exact ⟨σ2, H2, J2.ofTry ok, q2⟩
    | ret u2 =>
      obtain ⟨v2, σ2, H2, J2, r2, q2⟩ := done
      exact ⟨v2, σ2, H2, J2.ofTry ok, r2, q2⟩
end
end EX

namespace EX
open PySem PySem.Spec PyProof.Rows L2
open L2H (RoomH PinOk cxH inv_startH)
/-! ### the fields of a pinned error -/
structure ECls (K : PySem.W.Frag) (C : Addr) : Prop where
  ga : PySem.W.findIn K (.ref C) "__getattribute__" = some (some (.builtin "BaseException.__getattribute__"))
  gg : PySem.W.findIn K (.ref C) "__getattr__" = some none
  exC : PySem.W.subIn K (.ref C) (.type "BaseException") = some true
  hd : PySem.W.hasDictIn K C = true
theorem Own.ecls {P : Program} {K : PySem.W.Frag} {mg : Str → Option Value} {nm : Str} {C fI : Addr} (O : Own P K mg nm C fI) : ECls K C := ⟨O.ga, O.gg, O.exC, O.hdC⟩
/-- p is an error of the class C with the fields fs at d -/
structure ErrP (K : PySem.W.Frag) (H : Hp) (p : Addr × Obj) (C d : Addr) (fs : List (Str × V)) : Prop where
  cls : p.2.cls = .ref C
  dict : p.2.dict = some d
  data : ∃ vs, p.2.data = .fields vs
  ec : ECls K C
  at_ : H d = some (.xd fs)
def tXf (K : PySem.W.Frag) (p : Addr × Obj) (f : Str) (te : TE) : TE := fun σ H Q => te σ H fun x H1 => x = .ref p.1 ∧ ∃ C d fs v, ErrP K H1 p C d fs ∧ PySem.W.findIn K (.ref C) f = some none ∧ fs.lookup f = some v ∧ Q v H1
theorem pe_xf {X : Cx} {p : Addr × Obj} {e : Expr} {te : TE} {f : Str} {pos : Pos} (hp : p ∈ X.pn) (he : PE X e te) (hb : attributeBase e f X.env (eval e X.env) = eval e X.env := by rfl) : PE X (.Attribute e f pos) (tXf X.K p f te) := by
  refine ⟨fun pins s σ H Q I h => ?_⟩
  refine attr_of hb (thn (he.run pins s σ H _ I h) fun u s1 hh => ?_)
  obtain ⟨x, H1, I1, rx, ex, C, d, fs, v, EP, hn, hl, q⟩ := hh
  subst ex
  obtain rfl : u = Value.ref p.1 := rx
  obtain ⟨hcl, hdi, ⟨vs, hda⟩, ec, hat⟩ := EP
  have P1 := (I1.pin p (List.mem_append_left _ hp)).1
  obtain ⟨mA, hns, hr⟩ := (show ObjOk X.prog X.w H1 s1.heap d (.xd fs) from I1.hok d _ hat)
  obtain ⟨od, ho, hlk⟩ := lookIn_ns hns
  obtain ⟨u2, hu, ru⟩ := RelO.some_of (v := v) (o := mA f) (by rw [← hl]; exact hr f)
  have J : PySem.W.InstAt s1.heap p.1 p.2 C (some od) := ⟨P1, hcl, by unfold PySem.W.notCls; rw [hda] <;> rfl, by rw [hdi]; exact ho⟩
  exact HandSPX.exc_get I1.kIn J ec.ga ec.gg ec.exC (PySem.W.findObj_own ec.hd hn rfl (by rw [hlk, hu])) (handed_of ru) ⟨v, H1, I1.tok _, ru, q⟩
/-! ### defs called in a suite, with the pinned error -/
structure FnS (P : Program) (w : World) (K : PySem.W.Frag) (mg : Str → Option Value) (base : Heap) (k : Nat) (f : Addr) (fd : FuncData) (ps : List Str) (sp : Addr × Obj → List V → Hp → VK → Prop) : Prop where
  len : ∀ p vs H Q, sp p vs H Q → vs.length = ps.length
  run : ∀ (A : Around) (outer : List Env) (s : Shared) (H : Hp) (args : Args) (us : List Value) (vs : List V) (Q : VK) (p : Addr × Obj), RoomH k A → PinOk outer H s p → Env0 P w K mg base A outer s H → BindsTo s fd args (ps.zip us) → Vals vs us → sp p vs H Q →
    codeAny (model P w) A (.call (.ref f) args) (CR C8.CX0 outer P w H s Q C8.E0) s
theorem fnS {P : Program} {w : World} {K : PySem.W.Frag} {mg : Str → Option Value} {base : Heap} {k : Nat} {f : Addr} {name qual : Str} {params : Arguments} {body : List Stmt} {scope : Scope} {dV kV doc pm cdv ct oc : Value} {an od : Option Addr} {osl : Array (Option Value)} {N ps : List Str}
    {sp : Addr × Obj → List V → Hp → VK → Prop} (lk : K.lookup f = some ⟨oc, od, .func (PySem.W.fnOf name qual params body scope dV kV doc pm an cdv ct), osl⟩) (hcd : PySem.W.codeIn K cdv qual = true) (S : FnScope N ps scope) (len : ∀ p vs H Q, sp p vs H Q → vs.length = ps.length)
    (hbody : ∀ (A : Around) (outer : List Env) (s : Shared) (H : Hp) (vs : List V) (Q : VK) (p : Addr × Obj), RoomH k (A.deeper (envOfC qual scope s.heap.objs.size f cdv)) → sp p vs H Q →
      ∃ t, PSs (cxH C8.CX0 P w K mg base N qual scope f cdv A outer s H C8.E0 p) body t ∧ t { nx := fun _ H1 => Q .non H1, rt := Q } (L2.start N vs) H) :
    FnS P w K mg base (k + 1) f (PySem.W.fnOf name qual params body scope dV kV doc pm an cdv ct) ps sp := by
  refine ⟨len, fun A outer s H args us vs Q p hr pin e0 hb r hq => ?_⟩
  have kin : K.In s.heap := e0.mod.kin.keeps fun b o e => (e0.bs b o e).1
  have lim : s.heap.NoLimit := e0.mod.nolimit.keeps fun b o e => (e0.bs b o e).1
  have kinds : ∀ y ∈ ps.zip us, scope.names.lookup y.1 = some .local ∨ (scope.names.lookup y.1 = some .cell ∧ ((cellsFrom (s.heap.objs.size + 1) scope.names []).lookup y.1).isSome = true) := fun y hy =>
    (S.par y.1 (List.of_mem_zip hy).1).elim .inl fun q => .inr ⟨q, PySem.W.cellsFrom_some _ _ _ (.inl q)⟩
  refine codeAny_call_function hr.depth (kin _ _ lk) rfl S.co S.gen rfl (PySem.W.codeRec_of kin hcd) (hb _ _ _ _ (wpAny_newFunctionEnv_cells S.kind kinds fun env he s1 xx => ?_))
  subst he
  obtain ⟨t, ht, hw⟩ := hbody A outer s H vs Q p (hr.deeper _) hq
  have I := inv_startH (CX := C8.CX0) (E := C8.E0) S pin e0 (len _ _ _ _ hq) r xx
  refine ⟨lim.keeps xx.toInCall.keep, codeAny_func (wpAny_mono (ht.run [] s1 (L2.start N vs) H _ I hw) (fun fl s2 e2 => ?_) fun _ _ z => z)⟩
  cases fl with
  | ret u =>
    obtain ⟨v, σ2, H2, J, rv, q⟩ := e2
    exact ⟨v, H2, J.os, J.bare, J.base, J.hok, rv, q⟩
  | next =>
    obtain ⟨σ2, H2, J, q⟩ := e2
    exact ⟨.non, H2, J.os, J.bare, J.base, J.hok, rfl, q⟩
  | brk => exact e2.elim fun _ z => z.elim fun _ z => z.2.elim
  | cont => exact e2.elim fun _ z => z.elim fun _ z => z.2.elim
/-- f(e, ..) in a suite that holds p -/
def tCallS' (sp : Addr × Obj → List V → Hp → VK → Prop) (p : Addr × Obj) (t : TA) : TE := fun σ H Q => t σ H fun vs H1 => sp p vs H1 Q
theorem pe_callS' {X : Cx} {k : Nat} {f : Addr} {fd : FuncData} {ps : List Str} {sp : Addr × Obj → List V → Hp → VK → Prop} {x : Str} {q pos : Pos} {e : Expr} {es : List Expr} {t : TA} {p : Addr × Obj} (F : FnS X.prog X.w X.K X.mg X.base k f fd ps sp) (hr : RoomH k X.A) (hp : p ∈ X.pn) (hg : Gl X x) (hm : X.mg x = some (.ref f))
    (hk : PySem.W.keepIn X.K (.ref f) = true) (hb : L2.Binds X.K fd ps []) (ha : PA X (e :: es) t) (hdb : (x == ("__debug__" : Str)) = false := by decide) (he : starEach (e :: es) X.env = (false, eval e X.env) :: starEach es X.env := by rfl) (hpl : (backTo pos (starEach es X.env)).any (·.1) = false := by rfl) :
    PE X (.Call (.Name x q) (e :: es) [] pos) (tCallS' sp p t) := by
  refine ⟨fun pins s σ H Q I h => wpAny_Call_Name_kw (ld_glob I hg hm ?_ hdb)⟩
  refine PySem.W.callWith_K (h₀ := X.base) I.ok.mod.kin hk (thn (ha.run pos pins s σ H _ I h) fun us s1 ⟨vs, H1, I1, r, q⟩ => ⟨I1.kIn, ?_⟩) he hpl
  have bb := hb s1 us I1.kIn (by rw [List.append_nil, ← r.length]; exact F.len _ _ _ _ q)
  rw [List.append_nil] at bb
  have P1 := I1.pin p (List.mem_append_left _ hp)
  have pin : PinOk X.stack H1 s1 p := ⟨P1.1, P1.2.1, fun mem => (List.mem_cons.mp (I1.stkSub p.1 mem)).elim P1.2.2.1 P1.2.2.2.1, P1.2.2.2.2⟩
  refine wpAny_call (codeAny_mono (F.run X.A X.stack s1 H1 ⟨us, []⟩ us vs Q p hr pin I1.env0 bb r q) fun rr s2 hq => ?_)
  cases rr with
  | error z => exact (show False from hq).elim
  | ok fl =>
    cases fl with
    | ret u => exact I1.after hq
    | next => exact False.elim hq
    | brk => exact False.elim hq
    | cont => exact False.elim hq
end EX

namespace EX
open PySem PySem.Spec PyProof.Rows L2
/-! ### what an error tells -/
def Kd (tag : Str) (f : Option Str) : Prop := ((tag = "InvalidRoot" ∨ tag = "InvalidNumber" ∨ tag = "InvalidSlope") ∧ f = some "given") ∨ (tag = "InvalidDigits" ∧ f = some "index") ∨ (tag = "InvalidSaying" ∧ f = some "number") ∨ ((tag = "FieldsDiffer" ∨ tag = "InvalidText") ∧ f = none) ∨ (tag = "InvalidRow" ∧ f = some "name")
/-- what is known of an error of the class C with the own dict at d: its tag, and the value u of its field -/
structure Tells (K : PySem.W.Frag) (H : Hp) (C d : Addr) (fs : List (Str × V)) (tag : Str) (u : V) : Prop where
  at_ : H d = some (.xd fs)
  tag_ : fs.lookup ("tag" : Str) = some (V.str tag)
  noT : PySem.W.findIn K (.ref C) "tag" = some none
  fld : ∃ f, Kd tag f ∧ (f = none → u = .non) ∧ ∀ g, f = some g → fs.lookup g = some u ∧ PySem.W.findIn K (.ref C) g = some none
def spErr (K : PySem.W.Frag) : Addr × Obj → List V → Hp → VK → Prop := fun p vs H Q => vs = [V.ref p.1] ∧ ∃ C d fs tag u, ErrP K H p C d fs ∧ Tells K H C d fs tag u ∧ ∀ H', (∀ b o, H b = some o → H' b = some o) → Q u H'
def spPlaceE (K : PySem.W.Frag) : Addr × Obj → List V → Hp → VK → Prop := fun p vs H Q => vs = [V.ref p.1] ∧ ∃ C d fs tag u, ErrP K H p C d fs ∧ Tells K H C d fs tag u ∧ (tag = "InvalidDigits" ∨ tag = "InvalidSaying") ∧ Q u H
theorem kd_digits {f : Option Str} (h : Kd "InvalidDigits" f) : f = some "index" := by
  rcases h with ⟨h | h | h, _⟩ | ⟨_, h⟩ | ⟨h, _⟩ | ⟨h | h, _⟩ | ⟨h, _⟩
  all_goals first | exact h | exact absurd h (by decide)
theorem kd_saying {f : Option Str} (h : Kd "InvalidSaying" f) : f = some "number" := by
  rcases h with ⟨h | h | h, _⟩ | ⟨h, _⟩ | ⟨_, h⟩ | ⟨h | h, _⟩ | ⟨h, _⟩
  all_goals first | exact h | exact absurd h (by decide)
theorem Tells.same {K : PySem.W.Frag} {H H' : Hp} {C d : Addr} {fs : List (Str × V)} {tag : Str} {u : V} (T : Tells K H C d fs tag u) (s : ∀ b o, H b = some o → H' b = some o) : Tells K H' C d fs tag u := ⟨s _ _ T.at_, T.tag_, T.noT, T.fld⟩
theorem ErrP.same {K : PySem.W.Frag} {H H' : Hp} {p : Addr × Obj} {C d : Addr} {fs : List (Str × V)} (e : ErrP K H p C d fs) (s : ∀ b o, H b = some o → H' b = some o) : ErrP K H' p C d fs := ⟨e.cls, e.dict, e.data, e.ec, s _ _ e.at_⟩
theorem inV_str (x : Str) (ys : List Str) : inV (.str x) (ys.map V.str) = decide (x ∈ ys) := by
  unfold inV
  rw [List.any_map]
  induction ys with
  | nil => simp
  | cons y ys ih =>
    rw [List.any_cons, ih]
    by_cases h : y = x
    · subst h
      simp [eqV]
    · simp [eqV, h, Ne.symm h]
theorem flat_strs (ys : List Str) : (ys.map V.str).all flatV = true := by
  induction ys with
  | nil => rfl
  | cons y ys ih => simpa [flatV] using ih
def L1 : List Str := ["InvalidRoot", "InvalidNumber", "InvalidSlope", "InvalidLimit"]
def L2' : List Str := ["TooMany", "CapacityExceeded"]
def L3 : List Str := ["InvalidDigits", "InvalidSaying", "InvalidCommand", "ParseError"]
def L4 : List Str := ["InvalidText", "FieldsDiffer", "NotSingle", "Endless", "NoTurn", "NothingLeft"]
theorem kd1 {tag : Str} {f : Option Str} (h : Kd tag f) (m : tag ∈ L1) : f = some "given" := by
  rcases h with ⟨_, h⟩ | ⟨rfl, _⟩ | ⟨rfl, _⟩ | ⟨rfl | rfl, _⟩ | ⟨rfl, _⟩
  all_goals first | exact h | exact absurd m (by decide +kernel)
theorem kd2 {tag : Str} {f : Option Str} (h : Kd tag f) : ¬ tag ∈ L2' := by
  rcases h with ⟨rfl | rfl | rfl, _⟩ | ⟨rfl, _⟩ | ⟨rfl, _⟩ | ⟨rfl | rfl, _⟩ | ⟨rfl, _⟩
  all_goals decide +kernel
theorem kd3 {tag : Str} {f : Option Str} (h : Kd tag f) (m : tag ∈ L3) : tag = "InvalidDigits" ∨ tag = "InvalidSaying" := by
  rcases h with ⟨rfl | rfl | rfl, _⟩ | ⟨rfl, _⟩ | ⟨rfl, _⟩ | ⟨rfl | rfl, _⟩ | ⟨rfl, _⟩
  all_goals first | exact .inl rfl | exact .inr rfl | exact absurd m (by decide +kernel)
theorem kd4 {tag : Str} {f : Option Str} (h : Kd tag f) (m : tag ∈ L4) : f = none := by
  rcases h with ⟨rfl | rfl | rfl, _⟩ | ⟨rfl, _⟩ | ⟨rfl, _⟩ | ⟨_, h⟩ | ⟨rfl, _⟩
  all_goals first | exact h | exact absurd m (by decide +kernel)
theorem kd5 {tag : Str} {f : Option Str} (h : Kd tag f) (m1 : ¬ tag ∈ L1) (m3 : ¬ tag ∈ L3) (m4 : ¬ tag ∈ L4) : f = some "name" := by
  rcases h with ⟨rfl | rfl | rfl, _⟩ | ⟨rfl, _⟩ | ⟨rfl, _⟩ | ⟨rfl | rfl, _⟩ | ⟨_, h⟩
  all_goals first | exact h | exact absurd (by decide +kernel) m1 | exact absurd (by decide +kernel) m3 | exact absurd (by decide +kernel) m4
end EX

namespace RF
open PySem PySem.Spec L2 PyProof.Rows EX
open PySem.Calls PySem.HandSPX
open PySem.W (Frag findIn typeIn keepIn subIn hasDictIn nsIn mroIn clsIn codeIn fnX ksEnv ksFn alongIn)
/-! The facts of own errors' classes at the end of a law, for every law (the row's own text comes as s). -/
/-- what a raise of the class CE with one field leaves -/
def Rsd (CE : Addr) (nm fld : Str) (v : V) (H : Hp) (E : XK) : Prop := ∀ d H', (∀ b o, H b = some o → H' b = some o) → H' d = none → E (.ref CE) (some d) (upd H' d (.xd [(fld, v), ("tag", .str nm)]))
structure OwnE (P : Program) (w : World) (K : Frag) (mg : Str → Option Value) (nm fld : Str) (C : Addr) : Prop where
  ex : ∃ fI, Own P K mg nm C fI ∧ ∀ v, Inits P w K mg C fI [v] (fun u => mF fld nm u v)
  noF : findIn K (.ref C) fld = some none
structure TxtE (nm fld q : Str) (s : Stmt) : Prop where
  body : ∃ msg a1 a2 a3 a4 a5 a6 b1 b2 b3 b4 c1 c2 c3 c4, defBody s = [sSup msg a1 a2 a3 a4 a5 a6, sTag nm b1 b2 b3 b4, sFld fld c1 c2 c3 c4] ∧
    (∀ fI cda cc, Txt q (defScope s) fI cda cc msg nm a1 a2 a3 a4 a5 a6 b1 b2 b3 b4) ∧
    (∀ fI cda cc L, swapsWith (.Name fld c3) (some (.Attribute (.Name "self" c1) fld c2)) c4.line (ksEnv q (defScope s) L fI (.ref cda) cc) = pure false)
  hd : ∃ ar, ((defArgs s).posonlyargs ++ (defArgs s).args).head? = some ar ∧ ar.arg = "self"
  fs : (fld == ("self" : Str)) = false
  fd : (fld == ("__debug__" : Str)) = false
  loc : (defScope s).names.lookup fld = some .local
  bind : ∀ (doc pm ct : Value) (an : Option Addr) (cda cc : Addr) (st : Shared) (x : Addr) (v : Value), BindsTo st (ksFn "__init__" q (defArgs s) (defBody s) (defScope s) .none .none doc pm an (.ref cda) ct cc) ⟨[.ref x, v], []⟩ [("self", .ref x), (fld, v)]
theorem ownE {P : Program} {w : World} {K : Frag} {mg : Str → Option Value} {nm fld q : Str} {C fI cda cc : Addr} {s : Stmt} {oc doc pm ct : Value} {od an : Option Addr} {osl : Array (Option Value)} (O : Own P K mg nm C fI) (nF : findIn K (.ref C) fld = some none)
    (lI : K.lookup fI = some ⟨oc, od, .func (ksFn "__init__" q (defArgs s) (defBody s) (defScope s) .none .none doc pm an (.ref cda) ct cc), osl⟩) (hcd : codeIn K (.ref cda) q = true)
    (code : ∃ ccl cdd vs ccs file tf, K.lookup cda = some ⟨ccl, cdd, .fields vs, ccs⟩ ∧ vs[2]? = some (.str file tf) ∧ ((P.main.file : Str) == file) = true) (cell : ∃ cl cld csl, K.lookup cc = some ⟨cl, cld, .cell (some (.ref C)), csl⟩) (T : TxtE nm fld q s) : OwnE P w K mg nm fld C := by
  obtain ⟨msg, a1, a2, a3, a4, a5, a6, b1, b2, b3, b4, c1, c2, c3, c4, e, hT, sw⟩ := T.body
  obtain ⟨ar, hp, har⟩ := T.hd
  have I : IFn P K C fI cda cc (ksFn "__init__" q (defArgs s) (defBody s) (defScope s) .none .none doc pm an (.ref cda) ct cc) := ⟨⟨oc, od, osl, lI⟩, code, cell⟩
  have hb := T.bind doc pm ct an cda cc
  rw [e] at I hb
  exact ⟨⟨fI, O, fun v A R s x t0 mb X hlim hnx hg hb1 hmb hx hxC hroom k => init1 O nF I (hT fI cda cc) hcd hp har (hb s x v) T.loc T.fs T.fd (sw fI cda cc) X hlim hnx hg hb1 hmb hx hxC hroom k⟩, nF⟩
/-- the same of a class whose __init__ takes nothing but self -/
structure OwnT (P : Program) (w : World) (K : Frag) (mg : Str → Option Value) (nm : Str) (C : Addr) : Prop where
  ex : ∃ fI, Own P K mg nm C fI ∧ Inits P w K mg C fI [] (mT nm)
structure TxtT (nm q : Str) (s : Stmt) : Prop where
  body : ∃ msg a1 a2 a3 a4 a5 a6 b1 b2 b3 b4, defBody s = [sSup msg a1 a2 a3 a4 a5 a6, sTag nm b1 b2 b3 b4] ∧ (∀ fI cda cc, Txt q (defScope s) fI cda cc msg nm a1 a2 a3 a4 a5 a6 b1 b2 b3 b4)
  hd : ∃ ar, ((defArgs s).posonlyargs ++ (defArgs s).args).head? = some ar ∧ ar.arg = "self"
  bind : ∀ (doc pm ct : Value) (an : Option Addr) (cda cc : Addr) (st : Shared) (x : Addr), BindsTo st (ksFn "__init__" q (defArgs s) (defBody s) (defScope s) .none .none doc pm an (.ref cda) ct cc) ⟨[.ref x], []⟩ [("self", .ref x)]
theorem ownT {P : Program} {w : World} {K : Frag} {mg : Str → Option Value} {nm q : Str} {C fI cda cc : Addr} {s : Stmt} {oc doc pm ct : Value} {od an : Option Addr} {osl : Array (Option Value)} (O : Own P K mg nm C fI)
    (lI : K.lookup fI = some ⟨oc, od, .func (ksFn "__init__" q (defArgs s) (defBody s) (defScope s) .none .none doc pm an (.ref cda) ct cc), osl⟩) (hcd : codeIn K (.ref cda) q = true)
    (code : ∃ ccl cdd vs ccs file tf, K.lookup cda = some ⟨ccl, cdd, .fields vs, ccs⟩ ∧ vs[2]? = some (.str file tf) ∧ ((P.main.file : Str) == file) = true) (cell : ∃ cl cld csl, K.lookup cc = some ⟨cl, cld, .cell (some (.ref C)), csl⟩) (T : TxtT nm q s) : OwnT P w K mg nm C := by
  obtain ⟨msg, a1, a2, a3, a4, a5, a6, b1, b2, b3, b4, e, hT⟩ := T.body
  obtain ⟨ar, hp, har⟩ := T.hd
  have I : IFn P K C fI cda cc (ksFn "__init__" q (defArgs s) (defBody s) (defScope s) .none .none doc pm an (.ref cda) ct cc) := ⟨⟨oc, od, osl, lI⟩, code, cell⟩
  have hb := T.bind doc pm ct an cda cc
  rw [e] at I hb
  exact ⟨fI, O, fun A R s x t0 mb X hlim hnx hg hb1 hmb hx hxC hroom k => init0 O I (hT fI cda cc) hcd hp har (hb s x) X hlim hnx hg hb1 hmb hx hxC hroom k⟩
/-- the facts of an own error's class over RootError -/
theorem own_of {P : Program} {K : Frag} {mg : Str → Option Value} {nm nm' q nR qR : Str} {C R N NR fI : Addr} {bs bm bsR : List Value} {sn snR : List Str} {sub subR : List Value} {ab abR : Bool} {col colR : Option Bool} {dd ddR : Option Addr} {k0 k1 k2 k3 k5 r0 r1 r2 r3 r5 : Option Value}
    (gC : mg nm = some (.ref C)) (lC : K.lookup C = some (excClassObj nm' q C N bs (.ref R :: bm) true sn sub ab col dd k0 k1 k2 k3 k5 "ValueError.__new__")) (lR : K.lookup R = some (excClassObj nR qR R NR bsR bm true snR subR abR colR ddR r0 r1 r2 r3 r5 "ValueError.__new__")) (vb : refsVE bm = true) (fR : findIn K (.ref R) "__init__" = some (some (.builtin "ValueError.__init__")))
    (sa : findIn K (.ref C) "__setattr__" = some (some (.builtin "object.__setattr__"))) (ga : findIn K (.ref C) "__getattribute__" = some (some (.builtin "BaseException.__getattribute__"))) (gg : findIn K (.ref C) "__getattr__" = some none) (noT : findIn K (.ref C) "tag" = some none)
    (iC : findIn K (.ref C) "__init__" = some (some (.ref fI))) (tC : typeIn K (.ref fI) = some (.type "function")) (kC : keepIn K (.ref C) = true) (exC : subIn K (.ref C) (.type "BaseException") = some true) (tyC : typeIn K (.ref C) = some (.type "type")) (hdC : hasDictIn K C = true) (sf : mroIn K C (.ref C) = some true)
    (noS : mg "super" = none) (opq : nsIn K cStatics "thirdparty.any" = some none) (tp : (P.main.scope.names.lookup ("super" : Str)).isSome = false) : Own P K mg nm C fI := by
  refine ⟨gC, ⟨nm', q, N, bs, _, sn, sub, ab, col, dd, k0, k1, k2, k3, k5, lC, vb, ?_⟩, sa, ga, gg, noT, iC, tC, kC, exC, tyC, hdC, sf, noS, opq, tp⟩
  have e : findIn K (.ref R) "__init__" = alongIn K "__init__" (.ref R :: bm) := by
    show (match K.lookup R with
      | some ⟨_, _, .cls cd, _⟩ => alongIn K "__init__" cd.mro
      | _ => none) = _
    rw [lR] <;> rfl
  rw [← e]
  exact fR
/-- an own error's class against the three of _law_why -/
theorem exm_of {K : Frag} {S C : Addr} {b : Bool} (h1 : subIn K (.ref C) (.type "BaseException") = some true) (h2 : PySem.W.isClsIn K C = true) (h3 : typeIn K (.ref C) = some (.type "type")) (h4 : subIn K (.ref S) (.ref C) = some b) : PySem.W.exmOne K (.ref S) (.ref C) = some b := by
  have e1 : (subIn K (.ref C) (.type "BaseException") == some true) = true := by rw [h1] <;> rfl
  have e2 : ((clsIn K C).isSome && typeIn K (.ref C) == some (.type "type")) = true := by
    have h2' : (clsIn K C).isSome = true := h2
    rw [h2', h3] <;> rfl
  show (if (subIn K (.ref C) (.type "BaseException") == some true) = true then (if ((clsIn K C).isSome && typeIn K (.ref C) == some (.type "type")) = true then subIn K (.ref S) (.ref C) else none) else none) = some b
  rw [if_pos e1, if_pos e2]
  exact h4
theorem exm3 {K : Frag} {S a b c : Value} (h1 : PySem.W.exmOne K S a = some true) (h2 : PySem.W.exmOne K S b = some false) (h3 : PySem.W.exmOne K S c = some false) : PySem.W.exmAny K S [a, b, c] = some true := by
  simp only [PySem.W.exmAny, h1, h2, h3, Bool.or_false, Bool.or_true]
end RF

namespace RF
open PySem L2 PyProof.Rows
/-! ### methods that may raise; calls by name -/
def tMethKw (C : Addr) (m : Str) (sp : Sp) (gV : List V → List V → List V) (E : XK) (ta : TE) (tk : TA) : TE := fun σ H Q => ta σ H fun x H1 => ∃ a dx fs, x = .ref a ∧ H1 a = some (.ins C dx fs) ∧ fs.lookup m = none ∧ tk σ H1 fun zs H2 => sp (gV [x] zs) H2 Q E
theorem pe_methKw {X : Cx} {CX : CXT} {k : Nat} {f C : Addr} {fd : FuncData} {ps ks : List Str} {sp : Sp} {E : XK} {m : Str} {apos pos : Pos} {o : Expr} {kws : List Keyword} {ta : TE} {tk : TA} {pl : Sem Bool} {g : List Value → List Value → List Value} {gV : List V → List V → List V} (he : PE X o ta) (c : Cls X.K C) (hm : Meth X.K C m f) (F : FnOk X.prog X.w X.K X.mg X.base CX k f fd ps sp) (hr : Room k X.A)
    (hb : KBn X.K fd ps 1 ks g gV) (hx : Passes CX X E) (hkw : PK X kws tk) (hlen : ∀ (x : V) (zs : List V), (gV [x] zs).length = ps.length → zs.length = ks.length) (hall : (backToKw pos (keywordEach kws X.env)).all (·.1.isSome) = true := by rfl) (hks : (backToKw pos (keywordEach kws X.env)).filterMap (·.1) = ks := by rfl)
    (hpl : ((backTo pos (starEach [] X.env)).any (·.1) || (backToKw pos (keywordEach kws X.env)).any (·.1.isNone)) = false := by rfl)
    (ht : eval (.Call (.Attribute o m apos) [] kws pos) X.env = (do
      let ov ← eval o X.env
      standAt apos.atName
      let (f, first) ← holding [ov] (getMethod ov m pl)
      callWith pos f first (backTo pos (starEach [] X.env)) (backToKw pos (keywordEach kws X.env))) := by rfl) : PE X (.Call (.Attribute o m apos) [] kws pos) (tMethKw C m sp gV E ta tk) := by
  refine ⟨fun pins s σ H Q I h => PySem.W.methodCall_KW (pl := pl) (thn (he.run pins s σ H _ I h) fun u s1 ⟨x, H1, I1, rx, a, dx, fs, ex, ea, l, q⟩ => ?_) ht⟩
  subst ex
  obtain rfl : u = Value.ref a := rx
  refine getmeth_ok I1 ea c hm l (PySem.W.callWith_KW0 (h₀ := X.base) (first := [.ref a]) I1.ok.mod.kin hm.kp hall (thn (hkw.run pos pins s1 σ H1 _ I1 q) fun ws s2 ⟨zs, H2, I2, rz, q2⟩ => ⟨I2.kIn, ?_⟩) hpl)
  rw [hks]
  have r2 := hb.rel (vs := [V.ref a]) (us := [Value.ref a]) (.cons rfl .nil) rz
  have lz : ws.length = ks.length := by rw [← rz.length]; exact hlen (.ref a) zs (F.len _ _ _ _ q2)
  refine wpAny_call (codeAny_mono (F.run X.A X.stack s2 H2 ⟨[.ref a] ++ [], ks.zip ws⟩ (g [.ref a] ws) (gV [.ref a] zs) Q E hr I2.env0 (hb.to s2 [.ref a] ws I2.kIn rfl lz) r2 q2) fun rr s3 hq => ?_)
  cases rr with
  | error z => exact hx pins σ H2 s2 z s3 I2 hq
  | ok fl =>
    cases fl with
    | ret u => exact I2.after hq
    | next => exact False.elim hq
    | brk => exact False.elim hq
    | cont => exact False.elim hq
structure MtX (P : Program) (w : World) (K : PySem.W.Frag) (mg : Str → Option Value) (base : Heap) (C : Addr) (k : Nat) (m : Str) (ps : List Str) (sp : Sp) : Prop where
  ex : ∃ (f : Addr) (fd : FuncData), FnOk P w K mg base (L2.CX P w) k f fd ps sp ∧ Meth K C m f ∧ Binds K fd ps [] ∧ KBn K fd ps 1 (ps.drop 1).reverse (fun us ws => us ++ ws.reverse) (fun vs zs => vs ++ zs.reverse)
/-- what never raises, in such a class of methods -/
def EN : XK := fun _ _ _ => False
theorem passN {X : Cx} : Passes (L2.CX X.prog X.w) X EN := fun pins σ H s e s' I c => L2.passes_call (W := fun _ _ _ _ => False) LamX.takes0 (fun _ _ _ _ z => z) pins σ H s e s' I c
theorem pe_mtX {X : Cx} {j k : Nat} {C : Addr} {m : Str} {ps : List Str} {sp : Sp} {o e : Expr} {es : List Expr} {pos apos : Pos} {ta : TE} {t : TA} {E : XK} {pl : Sem Bool} (he : PE X o ta) (c : Cls X.K C) (M : MtX X.prog X.w X.K X.mg X.base C k m ps sp) (hr : Room j X.A) (hk : k ≤ j) (hx : Passes (L2.CX X.prog X.w) X E) (ha : PA X (e :: es) t)
    (h1 : starEach (e :: es) X.env = (false, eval e X.env) :: starEach es X.env := by rfl) (h2 : (backTo pos (starEach es X.env)).any (·.1) = false := by rfl)
    (ht : eval (.Call (.Attribute o m apos) (e :: es) [] pos) X.env = (do
      let ov ← eval o X.env
      standAt apos.atName
      let (f, first) ← holding [ov] (getMethod ov m pl)
      callWith pos f first (backTo pos (starEach (e :: es) X.env)) (backToKw pos (keywordEach [] X.env))) := by rfl) : PE X (.Call (.Attribute o m apos) (e :: es) [] pos) (tMeth C m sp [] E ta t) := by
  obtain ⟨f, fd, G, hm, b, _⟩ := M.ex
  exact pe_meth he c hm G (hr.mono hk) b .nil hx ha h1 h2 ht
/-- by name, in the other order -/
theorem pe_mtXr {X : Cx} {j k : Nat} {C : Addr} {m : Str} {ps : List Str} {sp : Sp} {o : Expr} {kws : List Keyword} {pos apos : Pos} {ta : TE} {tk : TA} {E : XK} {pl : Sem Bool} (he : PE X o ta) (c : Cls X.K C) (M : MtX X.prog X.w X.K X.mg X.base C k m ps sp) (hr : Room j X.A) (hk : k ≤ j) (hx : Passes (L2.CX X.prog X.w) X E) (hkw : PK X kws tk) (hps : ps ≠ [])
    (hall : (backToKw pos (keywordEach kws X.env)).all (·.1.isSome) = true := by rfl) (hks : (backToKw pos (keywordEach kws X.env)).filterMap (·.1) = (ps.drop 1).reverse := by rfl)
    (hpl : ((backTo pos (starEach [] X.env)).any (·.1) || (backToKw pos (keywordEach kws X.env)).any (·.1.isNone)) = false := by rfl)
    (ht : eval (.Call (.Attribute o m apos) [] kws pos) X.env = (do
      let ov ← eval o X.env
      standAt apos.atName
      let (f, first) ← holding [ov] (getMethod ov m pl)
      callWith pos f first (backTo pos (starEach [] X.env)) (backToKw pos (keywordEach kws X.env))) := by rfl) : PE X (.Call (.Attribute o m apos) [] kws pos) (tMethKw C m sp (fun vs zs => vs ++ zs.reverse) E ta tk) := by
  obtain ⟨f, fd, G, hm, _, b⟩ := M.ex
  refine pe_methKw he c hm G (hr.mono hk) b hx hkw (fun x zs h => ?_) hall hks hpl ht
  simp only [List.length_append, List.length_reverse, List.length_drop, List.length_cons, List.length_nil] at h ⊢
  omega
end RF

namespace RF
open PySem L2 PyProof.Rows EX
open LamX (Tabs TabS ExtN TabB CodeO)
/-! what stays behind the making of a lambda; parts of a text; what _law_why needs (for every law) -/
theorem sqX {K : PySem.W.Frag} {H H' : Hp} {a : Addr} {xs : List V} (e : ExtN H H') (h : SqL K H a xs) : SqL K H' a xs := by
  rcases h with (h | ⟨o, h⟩) | h
  · exact .inl (.inl (e _ _ h (fun _ z => by cases z)))
  · exact .inl (.inr ⟨o, e _ _ h (fun _ z => by cases z)⟩)
  · exact .inr h
theorem stX {K : PySem.W.Frag} {H H' : Hp} {a : Addr} {xs : List V} (e : ExtN H H') (h : SqT K H a xs) : SqT K H' a xs := by
  rcases h with (h | ⟨o, h⟩) | h
  · exact .inl (.inl (e _ _ h (fun _ z => by cases z)))
  · exact .inl (.inr ⟨o, e _ _ h (fun _ z => by cases z)⟩)
  · exact .inr h
mutual
theorem Rp.extN {K : PySem.W.Frag} {H H' : Hp} (e : ExtN H H') : ∀ {v : V} (d : D), Rp K H v d → Rp K H' v d
  | _, .non, h => h
  | _, .bl _, h => h
  | _, .int _, h => h
  | _, .str _, h => h
  | _, .lst ds, h => by
    obtain ⟨a, xs, h1, h2, h3, h4⟩ := h
    exact ⟨a, xs, h1, sqX e h2, h3, Rps.extN e ds h4⟩
  | _, .tup ds, h => by
    obtain ⟨a, xs, h1, h2, h3, h4⟩ := h
    exact ⟨a, xs, h1, stX e h2, h3, Rps.extN e ds h4⟩
theorem Rps.extN {K : PySem.W.Frag} {H H' : Hp} (e : ExtN H H') : ∀ {xs : List V} (ds : List D), Rps K H xs ds → Rps K H' xs ds
  | _, [], h => h
  | _, d :: ds, h => by
    obtain ⟨x, r, h1, h2, h3⟩ := h
    exact ⟨x, r, h1, Rp.extN e d h2, Rps.extN e ds h3⟩
end
theorem Bag.extN {H H' : Hp} {b : Addr} (e : ExtN H H') (B : Bag H b) : Bag H' b := by
  obtain ⟨c, ns, i, z, r, h⟩ := B
  exact ⟨c, ns, i, z, r, h.ne, e _ _ h.at_ (fun _ z => by cases z), e _ _ h.cs (fun _ z => by cases z), h.le, h.z0, h.r0, h.r1⟩
theorem BagAt.extN {H H' : Hp} {b c : Addr} (e : ExtN H H') (B : BagAt H b c) : BagAt H' b c := by
  obtain ⟨ns, i, z, r, h⟩ := B
  exact ⟨ns, i, z, r, h.ne, e _ _ h.at_ (fun _ z => by cases z), e _ _ h.cs (fun _ z => by cases z), h.le, h.z0, h.r0, h.r1⟩
theorem Tabs.kpB {T : List (Addr × Str)} {b : Addr} {xs : List V} {H H' : Hp} (t : Tabs T H) (hb : H b = some (.lst xs)) (k : Kp b H H') : Tabs T H' := fun p hp => by
  obtain ⟨ps, h1, h2, h3⟩ := t p hp
  refine ⟨ps, k _ _ (ne_of h1 hb (by intro z; cases z)) h1, h2, fun pos cv hc => ?_⟩
  obtain ⟨c, e1, e2⟩ := h3 pos cv hc
  exact ⟨c, e1, k _ _ (ne_of e2 hb (by intro z; unfold CodeO at z; cases z)) e2⟩
theorem Tabs.kp {T : List (Addr × Str)} {b : Addr} {H H' : Hp} (t : Tabs T H) (B : Bag H b) (k : Kp b H H') : Tabs T H' := let ⟨_, hb⟩ := B.some; Tabs.kpB t hb k
theorem Tabs.kpC {T : List (Addr × Str)} {b c : Addr} {H H' : Hp} (t : Tabs T H) (B : BagAt H b c) (k : Kp b H H') : Tabs T H' := let ⟨_, hb⟩ := B.atB; Tabs.kpB t hb k
/-- a list of one's own is written: the tables stay -/
theorem Tabs.put {T : List (Addr × Str)} {a : Addr} {H : Hp} {xs : List V} {o : HO} (t : Tabs T H) (h : H a = some (.lst xs)) : Tabs T (upd H a o) := Tabs.kpB t h Kp.upd
theorem Tabs.sm {T : List (Addr × Str)} {H H' : Hp} (t : Tabs T H) (e : Same H H') : Tabs T H' := LamX.Tabs.ext t e
/-! ### parts of a text -/
def valOf : Stmt → Expr
  | .Assign _ v _ => v
  | .Expr v _ => v
  | .Return (some v) _ => v
  | _ => .Constant .none 0 ⟨0, 0, 0, 0⟩
def forB : Stmt → List Stmt
  | .For _ _ b _ _ => b
  | _ => []
def ifT : Stmt → Expr
  | .If t _ _ _ => t
  | _ => .Constant .none 0 ⟨0, 0, 0, 0⟩
def boolA (i : Nat) : Expr → Expr
  | .BoolOp _ l _ => l.getD i (.Constant .none 0 ⟨0, 0, 0, 0⟩)
  | e => e
def notA : Expr → Expr
  | .UnaryOp _ e _ => e
  | e => e
def argA (i : Nat) : Expr → Expr
  | .Call _ l _ _ => l.getD i (.Constant .none 0 ⟨0, 0, 0, 0⟩)
  | e => e
def cmpA (i : Nat) : Expr → Expr
  | .Compare a _ l _ => (a :: l).getD i (.Constant .none 0 ⟨0, 0, 0, 0⟩)
  | e => e
def eltA (i : Nat) : Expr → Expr
  | .List l _ => l.getD i (.Constant .none 0 ⟨0, 0, 0, 0⟩)
  | .Tuple l _ _ => l.getD i (.Constant .none 0 ⟨0, 0, 0, 0⟩)
  | e => e
def stA (i : Nat) (l : List Stmt) : Stmt := l.getD i (.Pass ⟨0, 0, 0, 0⟩)
/-! ### what _law_why needs; the table of the def's lambdas -/
structure WhyE (P : Program) (w : World) (K : PySem.W.Frag) (mg : Str → Option Value) (base : Heap) (sW : Stmt) (kf : Nat) (c1 c2 c3 : Addr) : Prop where
  ex : ∃ (g : Addr) (oc : Value) (od an : Option Addr) (kV doc pm cdv ct : Value) (osl : Array (Option Value)), mg "_law_why" = some (.ref g) ∧ PySem.W.keepIn K (.ref g) = true ∧
    K.lookup g = some ⟨oc, od, .func (PySem.W.fnOf "_law_why" "_law_why" (defArgs sW) (defBody sW) (defScope sW) .none kV doc pm an cdv ct), osl⟩ ∧ PySem.W.codeIn K cdv "_law_why" = true ∧
    Binds K (PySem.W.fnOf "_law_why" "_law_why" (defArgs sW) (defBody sW) (defScope sW) .none kV doc pm an cdv ct) ["_law_ask"] []
  m1 : mg "RootError" = some (.ref c1)
  m2 : mg "Missing" = some (.ref c2)
  m3 : mg "NothingLeft" = some (.ref c3)
  fld : ∃ (gf : Addr) (fdf : FuncData), FnS P w K mg base kf gf fdf ["_law_one"] (spErr K) ∧ mg "_law_field" = some (.ref gf) ∧ PySem.W.keepIn K (.ref gf) = true ∧ Binds K fdf ["_law_one"] []
theorem passL {X : Cx} {A : Around} {outer : List Env} {s : Shared} {H : Hp} {E : XK} {scope : Scope} {f c' : Addr} : Passes (L2.CX X.prog X.w) (LamX.lamCx X A outer s H E scope f c') E := fun pins σ H s e s' I c => L2.passes_call (W := fun cls d _ H => E cls d H) (takes_of rfl rfl rfl rfl) (fun _ _ _ _ h => h) pins σ H s e s' I c
theorem rp2 {K : PySem.W.Frag} {H : Hp} {a : Addr} {v1 v2 : V} {d1 d2 : D} (h : H a = some (.tup [v1, v2])) (r1 : Rp K H v1 d1) (r2 : Rp K H v2 d2) : Rp K H (.ref a) (.tup [d1, d2]) := ⟨a, _, rfl, SqT.of h, by show 2 ≤ 100000; decide, _, _, rfl, r1, _, _, rfl, r2, rfl⟩
/-- an error with one field, for _law_why -/
theorem tellsF {K : PySem.W.Frag} {H : Hp} {C d : Addr} {v : V} {nm fld : Str} (noT : PySem.W.findIn K (.ref C) "tag" = some none) (noF : PySem.W.findIn K (.ref C) fld = some none) (nf : (fld == ("tag" : Str)) = false) (kd : Kd nm (some fld)) : Tells K (upd H d (.xd [(fld, v), ("tag", .str nm)])) C d [(fld, v), ("tag", .str nm)] nm v :=
  ⟨upd_same, by
    show (match ("tag" : Str) == fld with | true => some v | false => some (V.str nm)) = some (V.str nm)
    rw [show (("tag" : Str) == fld) = false from by
      have := beq_eq_false_iff_ne.mp nf
      exact beq_eq_false_iff_ne.mpr (Ne.symm this)], noT, some fld, kd, fun z => (by cases z), fun g hg => by
    cases hg
    exact ⟨by rw [List.lookup_cons, beq_self_eq_true], noF⟩⟩
end RF

set_option linter.all false
/-! lambdas as values: made, kept in the heap, called later (own layer; LamX is the library's) -/
namespace LM
open PySem PySem.Spec PyProof.Rows L2
open LamX (Tabs TabS ExtN TabB CodeO)
/-- the text of a lambda -/
structure LTx where
  params : Arguments
  body : Expr
  scope : Scope
abbrev LTx.fn (L : LTx) (q : Str) (cl : List (Str × Addr)) (dV doc pm cdv ct : Value) : FuncData := PySem.W.kdv_fn "<lambda>" q L.params (.expr L.body) L.scope cl dV doc pm cdv ct
abbrev LTx.ob (L : LTx) (q : Str) (cl : List (Str × Addr)) (dV doc pm : Value) (c1 : Addr) (ct : Value) : Obj := PySem.W.kdv_obj "<lambda>" q L.params (.expr L.body) L.scope cl dV doc pm c1 ct
/-- at f: this lambda, its cells, its default, its code -/
def LamO (f : Addr) (L : LTx) (q : Str) (cl : List (Str × Addr)) (dV : Value) (c1 : Addr) : HO := .ext fun h => ∃ doc pm ct, h.get? f = some (L.ob q cl dV doc pm c1 ct)
abbrev lq (X : Cx) : Str := X.env.qual ++ "<lambda>"
abbrev clo (X : Cx) (L : LTx) : List (Str × Addr) := cloFrom X.env.cells L.scope.names []
section
variable {X : Cx} {pins : List (Addr × Obj)} {σ : L2.St} {H : Hp} {s : Shared}
theorem lamO_tbl {f : Addr} {L : LTx} {q : Str} {cl : List (Str × Addr)} {dV : Value} {c1 : Addr} (ps : Array Value) : LamO f L q cl dV c1 ≠ .tbl ps := fun z => by
  unfold LamO at z
  cases z
theorem lam_ok {P : Program} {w : World} {h1 : Heap} {H1 : Hp} {f : Addr} {L : LTx} {q : Str} {cl : List (Str × Addr)} {dV doc pm ct : Value} {c1 : Addr} (e : h1.get? f = some (L.ob q cl dV doc pm c1 ct)) : ObjOk P w H1 h1 f (LamO f L q cl dV c1) :=
  ⟨⟨doc, pm, ct, e⟩, ⟨_, e⟩, fun g1 g2 ⟨x, y, z, u⟩ st => ⟨x, y, z, st _ u⟩⟩
theorem tabs_new {T : List (Addr × Str)} {H1 : Hp} {f : Addr} {o : HO} (t : Tabs T H1) (hf : H1 f = none) : Tabs T (upd H1 f o) := RF.Tabs.sm t fun b u e => by
  rw [upd_ne (ne_of_none e hf)]
  exact e
theorem ext_new {H1 : Hp} {f : Addr} {o : HO} (e : ExtN H H1) (hf : H1 f = none) : ExtN H (upd H1 f o) := fun b u h n => by
  have h1 := e b u h n
  rw [upd_ne (ne_of_none h1 hf)]
  exact h1
/-- the making, behind the defaults -/
theorem tail_new {T : List (Addr × Str)} {c P : Addr} {L : LTx} {pos : Pos} {dV : Value} {E : Value → Shared → Prop} {Q : Value → Shared → Prop} (I : Inv X pins σ H s) (TB : TabB X.base X.mg c P) (hcode : X.env.code = .ref c)
    (hm : (P, lq X) ∈ T) (hu : ∀ p ∈ T, p.1 = P → p.2 = lq X) (hT : Tabs T H) (hfree : ∀ y ∈ L.scope.names, y.2 = .free → ∃ c, X.env.cells.lookup y.1 = some c)
    (k : ∀ (f c1 : Addr) (H1 : Hp) (s1 : Shared), Inv X pins σ H1 s1 → ExtN H H1 → Tabs T H1 → H1 f = some (LamO f L (lq X) (clo X L) dV c1) → H1 c1 = some (CodeO c1 (lq X)) → H f = none → Q (.ref f) s1) :
    wpAny (model X.prog X.w) X.A (makeTail "<lambda>" (lq X) L.params (.expr L.body) L.scope X.env dV .none none pos pos.line) Q E s := by
  obtain ⟨ps, tP, t3, among⟩ := hT _ hm
  have bA : s.heap.BuiltinsAt X.mg P := TB.bm.keeps I.bk
  have gP : s.heap.get? P = some { cls := .none, data := .fields ps } := I.hok P _ tP
  cases ea : codeAmong pos ps.toList with
  | none =>
    refine PySem.W.kdv_makeTail (P := P) (ps := ps) (mg := X.mg) (c := c) (closure_ok hfree) I.ok.glob (I.mod.glob.keeps I.bk) hcode (TB.code.keeps I.bk) gP t3 ea TB.gP bA fun c1 ct doc g tk kx c_ge c_lt hrec tb' => ?_
    obtain ⟨_, oc, vs, tt, e2, oc1, oc2, oc3⟩ := hrec
    cases e2
    have I1 := LamX.inv_table (t' := tk) (more := #[rawInt pos.line, rawInt pos.col, .ref c1]) (h' := g) I tP (fun b o nb e => kx b o nb e) tb' c_ge ⟨oc, vs, tt, oc1, oc2, oc3⟩
    have nc : H c1 = none := I.hok.fresh c_ge
    have x1 : ExtN H (upd (upd H P (.tbl (ps ++ #[rawInt pos.line, rawInt pos.col, .ref c1]))) c1 (CodeO c1 (lq X))) := fun b o e n => by
      have nb : b ≠ P := fun z => n ps (Option.some.inj (e.symm.trans (z ▸ tP)))
      rw [upd_ne (ne_of_none e nc), upd_ne nb]
      exact e
    have x2 : Tabs T (upd (upd H P (.tbl (ps ++ #[rawInt pos.line, rawInt pos.col, .ref c1]))) c1 (CodeO c1 (lq X))) := fun p hp => by
      have el : (ps ++ #[rawInt pos.line, rawInt pos.col, .ref c1]).toList = ps.toList ++ [rawInt pos.line, rawInt pos.col, .ref c1] := by simp
      by_cases hb : p.1 = P
      · rw [hu p hp hb, hb]
        refine ⟨_, by rw [upd_ne (ne_of_none tP nc), upd_same], by rw [el]; exact PySem.TriplesOk_snoc _ _ _ _ t3, fun p1 cv hcv => ?_⟩
        rw [el] at hcv
        rcases LamX.among_app _ t3 hcv with z | z
        · obtain ⟨c0, z1, z2⟩ := among p1 cv z
          exact ⟨c0, z1, x1 _ _ z2 LamX.codeO_ne⟩
        · exact ⟨c1, z, upd_same⟩
      · obtain ⟨ps1, a1, a2, a3⟩ := hT p hp
        refine ⟨ps1, by rw [upd_ne (ne_of_none a1 nc), upd_ne hb]; exact a1, a2, fun p1 cv hcv => ?_⟩
        obtain ⟨c0, z1, z2⟩ := a3 p1 cv hcv
        exact ⟨c0, z1, x1 _ _ z2 LamX.codeO_ne⟩
    have nf : upd (upd H P (.tbl (ps ++ #[rawInt pos.line, rawInt pos.col, .ref c1]))) c1 (CodeO c1 (lq X)) g.objs.size = none := I1.hok.fresh (Nat.le_refl _)
    have le0 : s.heap.objs.size ≤ g.objs.size := Nat.le_trans c_ge (Nat.le_of_lt c_lt)
    refine k g.objs.size c1 _ _ (I1.laid (t' := tk) (h' := g.push (L.ob (lq X) (clo X L) dV doc ((X.mg "__name__").getD .none) c1 ct)) (fun b u e => Heap.get?_push_of_some _ e) (Nat.le_refl _) (lam_ok (Heap.get?_push_size _ rfl))) (ext_new x1 nf) (tabs_new x2 nf) upd_same ?_ (I.hok.fresh le0)
    rw [upd_ne (Nat.ne_of_lt c_lt)]
    exact upd_same
  | some cv =>
    obtain ⟨c1, rfl, hco⟩ := among pos cv ea
    refine PySem.W.kdv_makeTailHit (P := P) (ps := ps) (mg := X.mg) (c := c) (closure_ok hfree) I.ok.glob (I.mod.glob.keeps I.bk) hcode (TB.code.keeps I.bk) gP t3 ea bA fun ct doc g tk kx sz => ?_
    have I1 : Inv X pins σ H { s with heap := g, toks := tk } := I.kept kx
    have nf : H g.objs.size = none := I1.hok.fresh (Nat.le_refl _)
    refine k g.objs.size c1 _ _ (I1.laid (t' := tk) (h' := g.push (L.ob (lq X) (clo X L) dV doc ((X.mg "__name__").getD .none) c1 ct)) (fun b u e => Heap.get?_push_of_some _ e) (Nat.le_refl _) (lam_ok (Heap.get?_push_size _ rfl))) (ext_new (ExtN.refl H) nf) (tabs_new hT nf) upd_same ?_ nf
    rw [upd_ne (ne_of_none hco nf)]
    exact hco
end
end LM

set_option linter.all false
namespace LM
open PySem PySem.Spec PyProof.Rows L2
open LamX (Tabs TabS ExtN TabB CodeO)
/-- what a call without arguments binds: nothing, or one name by its default -/
inductive LK where
  | plain
  | dflt (x : Str) (v : Int)
def LTx.has (L : LTx) : LK → Prop
  | .plain => L.params.defaults = [] ∧ L.params.kw_defaults = [] ∧ ∀ (q : Str) (cl : List (Str × Addr)) (doc pm cv ct : Value), bindArgs (L.fn q cl .none doc pm cv ct) ⟨[], []⟩ = pure []
  | .dflt x v => (∃ j p, L.params.defaults = [.Constant (.int v) j p]) ∧ L.params.kw_defaults = [] ∧ ∀ (q : Str) (cl : List (Str × Addr)) (t : Addr) (doc pm cv ct : Value), ∃ k, bindArgs (L.fn q cl (.ref t) doc pm cv ct) ⟨[], []⟩ = seqItems? (.ref t) >>= k ∧ ∀ u, k (some #[u]) = pure [(x, u)]
def BndOk (κ : LK) (H : Hp) (dV : Value) : Prop := match κ with
  | .plain => dV = .none
  | .dflt _ v => ∃ t, dV = .ref t ∧ H t = some (.tup [V.int v])
/-- at f: the lambda, ready to be called -/
def LamV (L : LTx) (κ : LK) (q : Str) (cl : List (Str × Addr)) (H : Hp) (f : Addr) : Prop := ∃ dV c1, H f = some (LamO f L q cl dV c1) ∧ H c1 = some (CodeO c1 q) ∧ BndOk κ H dV
theorem LamV.ext {L : LTx} {κ : LK} {q : Str} {cl : List (Str × Addr)} {H H' : Hp} {f : Addr} (h : LamV L κ q cl H f) (e : ExtN H H') : LamV L κ q cl H' f := by
  obtain ⟨dV, c1, h1, h2, h3⟩ := h
  refine ⟨dV, c1, e _ _ h1 lamO_tbl, e _ _ h2 LamX.codeO_ne, ?_⟩
  cases κ with
  | plain => exact h3
  | dflt x v =>
    obtain ⟨t, e1, e2⟩ := h3
    exact ⟨t, e1, e _ _ e2 (fun _ z => by cases z)⟩
theorem LamV.same {L : LTx} {κ : LK} {q : Str} {cl : List (Str × Addr)} {H H' : Hp} {f : Addr} (h : LamV L κ q cl H f) (e : Same H H') : LamV L κ q cl H' f := h.ext (ExtN.of e)
/-- a list changes (the bag, a list of one's own): the lambda stays -/
theorem LamV.kp {L : LTx} {κ : LK} {q : Str} {cl : List (Str × Addr)} {H H' : Hp} {f b : Addr} {xs : List V} (h : LamV L κ q cl H f) (hb : H b = some (.lst xs)) (k : RF.Kp b H H') : LamV L κ q cl H' f := by
  obtain ⟨dV, c1, h1, h2, h3⟩ := h
  refine ⟨dV, c1, k _ _ (ne_of h1 hb (fun z => by unfold LamO at z; cases z)) h1, k _ _ (ne_of h2 hb (fun z => by unfold CodeO at z; cases z)) h2, ?_⟩
  cases κ with
  | plain => exact h3
  | dflt x v =>
    obtain ⟨t, e1, e2⟩ := h3
    exact ⟨t, e1, k _ _ (ne_of e2 hb (fun z => by cases z)) e2⟩
def tLamV (T : List (Addr × Str)) (L : LTx) (κ : LK) (q : Str) (cl : List (Str × Addr)) : TE := fun _ H Q => Tabs T H ∧ ∀ f H1, ExtN H H1 → Tabs T H1 → LamV L κ q cl H1 f → H f = none → Q (.ref f) H1
theorem pe_lamv {X : Cx} {T : List (Addr × Str)} {c P : Addr} {L : LTx} {κ : LK} {pos : Pos} (TB : TabB X.base X.mg c P) (hcode : X.env.code = .ref c) (hm : (P, lq X) ∈ T) (hu : ∀ p ∈ T, p.1 = P → p.2 = lq X)
    (hfree : ∀ y ∈ L.scope.names, y.2 = .free → X.env.scope.names.lookup y.1 = some .cell ∨ X.env.scope.names.lookup y.1 = some .free) (hk : L.has κ) : PE X (.Lambda L.params L.body L.scope pos) (tLamV T L κ (lq X) (clo X L)) := by
  refine ⟨fun pins s σ H Q I h => ?_⟩
  obtain ⟨hT, h⟩ := h
  have hf : ∀ y ∈ L.scope.names, y.2 = .free → ∃ c, X.env.cells.lookup y.1 = some c := fun y hy e => by
    rcases hfree y hy e with z | z
    · exact I.ok.has _ (.inl z)
    · exact I.ok.has _ (.inr z)
  cases κ with
  | plain =>
    obtain ⟨d1, d2, hb⟩ := hk
    refine PySem.W.kla_eval (by rw [defaultsOf_eq, d1, d2]; rfl) ?_
    rw [makeFunction_eq]
    simp only [List.zip_nil_right, List.filterMap_nil, List.isEmpty_nil, if_true, pure_bind]
    exact tail_new I TB hcode hm hu hT hf fun f c1 H1 s1 I1 e1 t1 a1 a2 nf => ⟨.ref f, H1, I1, rfl, h f H1 e1 t1 ⟨_, c1, a1, a2, rfl⟩ nf⟩
  | dflt x v =>
    obtain ⟨⟨j, p, d1⟩, d2, hb⟩ := hk
    refine PySem.W.kdv_lam (by rw [d1]; rfl) d2 ?_
    rw [d1]
    refine PySem.W.kdv_all1 (thn ((pe_int (X := X) (i := v) (j := j) (pos := p)).run pins s σ H (fun u H1 => u = .int v ∧ H1 = H) I ⟨rfl, rfl⟩) fun u s1 ⟨w1, H1, I1, r1, e1, e2⟩ => PySem.W.kdv_all0 ?_)
    subst e1 e2
    rw [makeFunction_eq]
    simp only [List.zip_nil_right, List.filterMap_nil, List.isEmpty_nil, List.isEmpty_cons, Bool.false_eq_true, if_false, if_true, pure_bind]
    refine wpAny_bind (wpAny_newTextTuple ?_)
    have nt : H1 s1.heap.objs.size = none := I1.hok.fresh (Nat.le_refl _)
    have I2 := I1.laid (t' := s1.toks) (a := s1.heap.objs.size) (o := .tup [V.int v]) (h' := s1.heap.push { cls := .type "tuple", data := .seq ([u] : List Value).toArray }) (fun b u e => Heap.get?_push_of_some _ e) (Nat.le_refl _)
      ⟨by show 1 ≤ sizeLine; decide, [u], .cons r1 .nil, ⟨_, Heap.get?_push_size _ rfl, rfl, _, rfl⟩⟩
    refine tail_new I2 TB hcode hm hu (tabs_new hT nt) hf fun f c1 H3 s3 I3 e3 t3 a1 a2 nf => ?_
    have nf1 : H1 f = none := by
      by_cases z : f = s1.heap.objs.size
      · rw [z]; exact nt
      · rw [upd_ne z] at nf; exact nf
    refine ⟨.ref f, H3, I3, rfl, h f H3 ((ext_new (ExtN.refl _) nt).trans e3) t3 ⟨_, c1, a1, a2, _, rfl, e3 _ _ upd_same (fun _ z => by cases z)⟩ nf1⟩
end LM

set_option autoImplicit false
/-! Q0: data, hidden heaps, states of slots -/
namespace Q
open PySem L2
open RF (Kp BagAt)
open LamX (Tabs TabS)

inductive D where
  | non | bl (b : Bool) | int (i : Int) | str (x : Str) | lst (ds : List D) | tup (ds : List D)
  | raw (v : V) | bag
  | obj (c : Str) (ns : List Str) (ds : List D)
  | dic (ks : List Key) (ds : List D)
  | lam (L : LM.LTx) (κ : LM.LK) (q : Str) (cl : List (Str × Addr))
/-- where data are read: the written part, the module's names, the bag and its cells -/
structure Bk where
  K : PySem.W.Frag
  mg : Str → Option Value
  bag : Addr
  cel : Addr
mutual
def Rp (B : Bk) (H : Hp) : V → D → Prop
  | v, .non => v = .non
  | v, .bl b => v = .bl b
  | v, .int i => v = .int i
  | v, .str x => v = .str x
  | v, .lst ds => ∃ a xs, v = .ref a ∧ H a = some (.lst xs) ∧ xs.length ≤ 1000000 ∧ Rps B H xs ds
  | v, .tup ds => ∃ a xs, v = .ref a ∧ SqT B.K H a xs ∧ xs.length ≤ 1000000 ∧ Rps B H xs ds
  | v, .raw u => v = u
  | v, .bag => v = .ref B.bag
  | v, .obj c ns ds => ∃ a C dx fs, v = .ref a ∧ B.mg c = some (.ref C) ∧ H a = some (.ins C dx fs) ∧ fs.map (·.1) = ns ∧ Rps B H (fs.map (·.2)) ds
  | v, .dic ks ds => ∃ a kvs, v = .ref a ∧ H a = some (.dK kvs) ∧ kvs.length ≤ 1000000 ∧ kvs.map (·.1) = ks ∧ Rps B H (kvs.map (·.2)) ds
  | v, .lam L κ q cl => ∃ f, v = .ref f ∧ LM.LamV L κ q cl H f
def Rps (B : Bk) (H : Hp) : List V → List D → Prop
  | xs, [] => xs = []
  | xs, d :: ds => ∃ x r, xs = x :: r ∧ Rp B H x d ∧ Rps B H r ds
end
theorem sameT {K : PySem.W.Frag} {H H' : Hp} {a : Addr} {xs : List V} (e : Same H H') (h : SqT K H a xs) : SqT K H' a xs := by
  rcases h with (h | ⟨o, h⟩) | h
  · exact .inl (.inl (e _ _ h))
  · exact .inl (.inr ⟨o, e _ _ h⟩)
  · exact .inr h
mutual
theorem Rp.same {B : Bk} {H H' : Hp} (e : Same H H') : ∀ {v : V} (d : D), Rp B H v d → Rp B H' v d
  | _, .non, h => h
  | _, .bl _, h => h
  | _, .int _, h => h
  | _, .str _, h => h
  | _, .raw _, h => h
  | _, .bag, h => h
  | _, .lst ds, h => by
    obtain ⟨a, xs, h1, h2, h3, h4⟩ := h
    exact ⟨a, xs, h1, e _ _ h2, h3, Rps.same e ds h4⟩
  | _, .tup ds, h => by
    obtain ⟨a, xs, h1, h2, h3, h4⟩ := h
    exact ⟨a, xs, h1, sameT e h2, h3, Rps.same e ds h4⟩
  | _, .obj c ns ds, h => by
    obtain ⟨a, C, dx, fs, h1, h2, h3, h4, h5⟩ := h
    exact ⟨a, C, dx, fs, h1, h2, e _ _ h3, h4, Rps.same e ds h5⟩
  | _, .dic ks ds, h => by
    obtain ⟨a, kvs, h1, h2, h3, h4, h5⟩ := h
    exact ⟨a, kvs, h1, e _ _ h2, h3, h4, Rps.same e ds h5⟩
  | _, .lam L κ q cl, h => by
    obtain ⟨f, h1, h2⟩ := h
    exact ⟨f, h1, h2.same e⟩
theorem Rps.same {B : Bk} {H H' : Hp} (e : Same H H') : ∀ {xs : List V} (ds : List D), Rps B H xs ds → Rps B H' xs ds
  | _, [], h => h
  | _, d :: ds, h => by
    obtain ⟨x, r, h1, h2, h3⟩ := h
    exact ⟨x, r, h1, Rp.same e d h2, Rps.same e ds h3⟩
end
section
variable {B : Bk} {H : Hp}
theorem Rps.nil : Rps B H [] [] := rfl
theorem Rps.cons {x : V} {xs : List V} {d : D} {ds : List D} (h : Rp B H x d) (g : Rps B H xs ds) : Rps B H (x :: xs) (d :: ds) := ⟨x, xs, rfl, h, g⟩
theorem Rps.len : ∀ {xs : List V} {ds : List D}, Rps B H xs ds → xs.length = ds.length
  | _, [], h => by rw [show _ = [] from h]; rfl
  | _, d :: ds, h => by
    obtain ⟨x, r, rfl, _, h3⟩ := h
    rw [List.length_cons, List.length_cons, Rps.len h3]
theorem Rps.at_ : ∀ {xs : List V} {ds : List D} {i : Nat} {x : V}, Rps B H xs ds → xs[i]? = some x → ∃ d, ds[i]? = some d ∧ Rp B H x d
  | _, [], i, x, h, e => by rw [show _ = [] from h] at e; simp at e
  | _, d :: ds, 0, x, h, e => by
    obtain ⟨y, r, rfl, h2, _⟩ := h
    cases e
    exact ⟨d, rfl, h2⟩
  | _, d :: ds, i + 1, x, h, e => by
    obtain ⟨y, r, rfl, _, h3⟩ := h
    obtain ⟨d', e1, e2⟩ := Rps.at_ (i := i) h3 e
    exact ⟨d', e1, e2⟩
theorem Rps.of : ∀ {xs : List V} {ds : List D} {i : Nat} {d : D}, Rps B H xs ds → ds[i]? = some d → ∃ x, xs[i]? = some x ∧ Rp B H x d
  | xs, [], i, d, h, e => by simp at e
  | xs, c :: ds, 0, d, h, e => by
    obtain ⟨x, r, rfl, h2, _⟩ := h
    cases e
    exact ⟨x, rfl, h2⟩
  | xs, c :: ds, i + 1, d, h, e => by
    obtain ⟨x, r, rfl, _, h3⟩ := h
    obtain ⟨y, e1, e2⟩ := Rps.of (i := i) h3 e
    exact ⟨y, e1, e2⟩
theorem Rps.app : ∀ {xs ys : List V} {ds es : List D}, Rps B H xs ds → Rps B H ys es → Rps B H (xs ++ ys) (ds ++ es)
  | xs, ys, [], es, h, g => by rw [show xs = [] from h]; exact g
  | xs, ys, d :: ds, es, h, g => by
    obtain ⟨x, r, rfl, h2, h3⟩ := h
    exact ⟨x, r ++ ys, rfl, h2, Rps.app h3 g⟩
theorem Rps.take : ∀ {xs : List V} {ds : List D} (n : Nat), Rps B H xs ds → Rps B H (xs.take n) (ds.take n)
  | xs, ds, 0, h => by rw [List.take_zero, List.take_zero]; rfl
  | xs, [], n + 1, h => by rw [show xs = [] from h]; rfl
  | xs, d :: ds, n + 1, h => by
    obtain ⟨x, r, rfl, h2, h3⟩ := h
    exact ⟨x, r.take n, rfl, h2, Rps.take n h3⟩
theorem Rps.drop : ∀ {xs : List V} {ds : List D} (n : Nat), Rps B H xs ds → Rps B H (xs.drop n) (ds.drop n)
  | xs, ds, 0, h => h
  | xs, [], n + 1, h => by rw [show xs = [] from h]; rfl
  | xs, d :: ds, n + 1, h => by
    obtain ⟨x, r, rfl, h2, h3⟩ := h
    exact Rps.drop n h3
theorem Rps.rev : ∀ {xs : List V} {ds : List D}, Rps B H xs ds → Rps B H xs.reverse ds.reverse
  | xs, [], h => by rw [show xs = [] from h]; rfl
  | xs, d :: ds, h => by
    obtain ⟨x, r, rfl, h2, h3⟩ := h
    rw [List.reverse_cons, List.reverse_cons]
    exact (Rps.rev h3).app (Rps.cons h2 Rps.nil)
theorem Rps.set {x : V} {d : D} (hx : Rp B H x d) : ∀ {xs : List V} {ds : List D} (n : Nat), Rps B H xs ds → Rps B H (xs.set n x) (ds.set n d)
  | xs, [], n, h => by rw [show xs = [] from h]; rfl
  | xs, c :: ds, 0, h => by
    obtain ⟨y, r, rfl, h2, h3⟩ := h
    exact ⟨x, r, rfl, hx, h3⟩
  | xs, c :: ds, n + 1, h => by
    obtain ⟨y, r, rfl, h2, h3⟩ := h
    exact ⟨y, r.set n x, rfl, h2, Rps.set hx n h3⟩
theorem Rps.snoc {xs : List V} {ds : List D} {x : V} {d : D} (h : Rps B H xs ds) (g : Rp B H x d) : Rps B H (xs ++ [x]) (ds ++ [d]) := h.app (.cons g .nil)
theorem Rps.rep {xs : List V} {ds : List D} (h : Rps B H xs ds) : ∀ k : Nat, Rps B H (List.replicate k xs).flatten (List.replicate k ds).flatten
  | 0 => rfl
  | k + 1 => by
    rw [List.replicate_succ, List.replicate_succ, List.flatten_cons, List.flatten_cons]
    exact h.app (Rps.rep h k)
theorem Rps.dropLast {xs : List V} {ds : List D} (h : Rps B H xs ds) : Rps B H xs.dropLast ds.dropLast := by
  rw [List.dropLast_eq_take, List.dropLast_eq_take, h.len]
  exact h.take _
end
/-- the part of a list that a slice tells -/
def cutD (ds : List D) (lo hi : Option Int) : List D := (ds.drop (HT.sIx ds.length 0 lo)).take (HT.sIx ds.length ds.length hi - HT.sIx ds.length 0 lo)
theorem Rps.cut {B : Bk} {H : Hp} {xs : List V} {ds : List D} (h : Rps B H xs ds) (lo hi : Option Int) : Rps B H (cutV xs lo hi) (cutD ds lo hi) := by
  unfold cutV cutD
  rw [h.len]
  exact Rps.take _ (Rps.drop _ h)

/-! ### hidden addresses -/
def hid (S : List Addr) (H : Hp) : Hp := fun a => if a ∈ S then none else H a
theorem hid_ne {S : List Addr} {a : Addr} {H : Hp} (h : a ∉ S) : hid S H a = H a := if_neg h
theorem hid_in {S : List Addr} {a : Addr} {H : Hp} (h : a ∈ S) : hid S H a = none := if_pos h
theorem hid_same {S : List Addr} {H : Hp} : Same (hid S H) H := fun a o e => by
  unfold hid at e
  split at e
  · cases e
  · exact e
theorem hid_some {S : List Addr} {H : Hp} {a : Addr} {o : HO} (e : hid S H a = some o) : a ∉ S ∧ H a = some o := by
  unfold hid at e
  split at e
  · cases e
  · rename_i h
    exact ⟨h, e⟩
theorem hid_to {S S' : List Addr} {H H' : Hp} (h : ∀ a o, a ∉ S → H a = some o → a ∉ S' ∧ H' a = some o) : Same (hid S H) (hid S' H') := fun a o e => by
  obtain ⟨h1, h2⟩ := hid_some e
  obtain ⟨h3, h4⟩ := h a o h1 h2
  rw [hid_ne h3]
  exact h4
theorem hid_le {S S' : List Addr} {H : Hp} (h : ∀ s ∈ S', s ∈ S) : Same (hid S H) (hid S' H) := hid_to fun a o n e => ⟨fun m => n (h a m), e⟩
theorem hid_mono {S : List Addr} {H H' : Hp} (s : Same H H') : Same (hid S H) (hid S H') := hid_to fun a o n e => ⟨n, s a o e⟩
theorem hid_upd {S : List Addr} {p : Addr} {H : Hp} {o : HO} (hp : p ∈ S) : hid S (upd H p o) = hid S H := by
  funext a
  unfold hid
  split
  · rfl
  · rename_i h
    exact upd_ne fun z => h (z ▸ hp)
/-- a new address: hidden or not, what is told stays -/
theorem hid_new {S : List Addr} {p : Addr} {H : Hp} {o : HO} (hp : H p = none) : Same (hid S H) (hid S (upd H p o)) := hid_to fun a u n e => ⟨n, by rw [upd_ne (ne_of_none e hp)]; exact e⟩
theorem hid_newS {S : List Addr} {p : Addr} {H : Hp} {o : HO} (hp : H p = none) : Same (hid S H) (hid (p :: S) (upd H p o)) := hid_to fun a u n e =>
  ⟨fun m => (List.mem_cons.mp m).elim (ne_of_none e hp) n, by rw [upd_ne (ne_of_none e hp)]; exact e⟩

/-! ### slots -/
/-- a dict of one's own is written: the tables stay -/
theorem tabs_putD {T : List (Addr × Str)} {a : Addr} {H : Hp} {kvs : List (Key × V)} {o : HO} (t : Tabs T H) (h : H a = some (.dK kvs)) : Tabs T (upd H a o) := fun p hp => by
  obtain ⟨ps, h1, h2, h3⟩ := t p hp
  refine ⟨ps, by rw [upd_ne (ne_of h1 h (by intro z; cases z))]; exact h1, h2, fun pos cv hc => ?_⟩
  obtain ⟨c, e1, e2⟩ := h3 pos cv hc
  exact ⟨c, e1, by rw [upd_ne (ne_of e2 h (by intro z; unfold LamX.CodeO at z; cases z))]; exact e2⟩
/-- what is known of a slot: data that nobody changes, or a list of one's own -/
inductive Sl where
  | fz (d : D)
  | ol (ds : List D)
  | od (ks : List Key) (ds : List D)
def Sl.toD : Sl → D
  | .fz d => d
  | .ol ds => .lst ds
  | .od ks ds => .dic ks ds
def Sl.own : Sl → Bool
  | .fz _ => false
  | .ol _ => true
  | .od _ _ => true
/-- an exception: its class, the names and values of its attributes -/
structure Exc where
  c : Str
  ns : List Str
  ds : List D
structure Cxt where
  B : Bk
  /-- the bag may be drawn from -/
  ub : Bool
  /-- hidden from the start on -/
  Oc : List Addr
  H0 : Hp
  xe : Exc → Prop
  /-- the tables of its lambdas -/
  T : List (Addr × Str) := []
abbrev Ev := List (Option Sl)
def SlOk (C : Cxt) (S : List Addr) (H : Hp) (v : V) : Sl → Prop
  | .fz d => Rp C.B (hid S H) v d
  | .ol ds => ∃ a xs, v = .ref a ∧ a ∈ S ∧ C.H0 a = none ∧ H a = some (.lst xs) ∧ xs.length ≤ 1000000 ∧ Rps C.B (hid S H) xs ds
  | .od ks ds => ∃ a kvs, v = .ref a ∧ a ∈ S ∧ C.H0 a = none ∧ H a = some (.dK kvs) ∧ kvs.length ≤ 1000000 ∧ kvs.map (·.1) = ks ∧ Rps C.B (hid S H) (kvs.map (·.2)) ds
/-- what a piece of code may change -/
structure Chg (ub : Bool) (B : Bk) (H H' : Hp) : Prop where
  keep : ∀ a o, (ub = true → a ≠ B.bag) → H a = some o → H' a = some o
  bag : ub = true → BagAt H' B.bag B.cel
theorem Chg.same {B : Bk} {H H' : Hp} (s : Same H H') : Chg false B H H' := ⟨fun a o _ e => s a o e, fun z => by cases z⟩
theorem Chg.pure {B : Bk} {H H' : Hp} (c : Chg false B H H') : Same H H' := fun a o e => c.keep a o (fun z => by cases z) e
theorem Chg.there {ub : Bool} {B : Bk} {H H' : Hp} (c : Chg ub B H H') {a : Addr} (h : H a ≠ none) : H' a ≠ none := fun z => by
  by_cases u : ub = true ∧ a = B.bag
  · obtain ⟨xs, e⟩ := (c.bag u.1).atB
    rw [u.2, e] at z
    cases z
  · cases e : H a with
    | none => exact h e
    | some o =>
      rw [c.keep a o (fun hu q => u ⟨hu, q⟩) e] at z
      cases z
structure Sta (C : Cxt) (ρ : Ev) (σ : St) (H : Hp) (S : List Addr) : Prop where
  wd : Chg C.ub C.B C.H0 H
  sub : ∀ a ∈ C.Oc, a ∈ S
  own : ∀ a ∈ S, a ∈ C.Oc ∨ C.H0 a = none
  al : ∀ a ∈ S, H a ≠ none
  al0 : ∀ a ∈ C.Oc, C.H0 a ≠ none
  bagO : C.ub = true → C.B.bag ∈ C.Oc ∧ C.B.cel ∈ C.Oc
  tb : Tabs C.T H
  len : ρ.length = σ.length
  sl : ∀ (i : Nat) (s : Sl), ρ[i]? = some (some s) → ∃ v, σ[i]? = some (some v) ∧ SlOk C S H v s
  ap : ∀ (i j : Nat) (s t : Sl) (v : V), ρ[i]? = some (some s) → ρ[j]? = some (some t) → s.own = true → t.own = true → σ[i]? = some (some v) → σ[j]? = some (some v) → i = j
theorem SlOk.to {C : Cxt} {S S' : List Addr} {H H' : Hp} {v : V} {s : Sl} (h : SlOk C S H v s) (k : Same (hid S H) (hid S' H')) (l : ∀ a, v = .ref a → s.own = true → a ∈ S → C.H0 a = none → ∀ o, H a = some o → a ∈ S' ∧ H' a = some o) : SlOk C S' H' v s := by
  cases s with
  | fz d => exact Rp.same k d h
  | ol ds =>
    obtain ⟨a, xs, h1, h2, h3, h4, h5, h6⟩ := h
    obtain ⟨m, e⟩ := l a h1 rfl h2 h3 _ h4
    exact ⟨a, xs, h1, m, h3, e, h5, Rps.same k ds h6⟩
  | od ks ds =>
    obtain ⟨a, xs, h1, h2, h3, h4, h5, h6, h7⟩ := h
    obtain ⟨m, e⟩ := l a h1 rfl h2 h3 _ h4
    exact ⟨a, xs, h1, m, h3, e, h5, h6, Rps.same k ds h7⟩
/-- the address of what is one's own -/
theorem SlOk.own_at {C : Cxt} {S : List Addr} {H : Hp} {v : V} {s : Sl} (h : SlOk C S H v s) (o : s.own = true) : ∃ a u, v = .ref a ∧ a ∈ S ∧ C.H0 a = none ∧ H a = some u := by
  cases s with
  | fz d => cases o
  | ol ds =>
    obtain ⟨a, xs, h1, h2, h3, h4, _⟩ := h
    exact ⟨a, _, h1, h2, h3, h4⟩
  | od ks ds =>
    obtain ⟨a, xs, h1, h2, h3, h4, _⟩ := h
    exact ⟨a, _, h1, h2, h3, h4⟩
section
variable {C : Cxt} {ρ : Ev} {σ : St} {H H' : Hp} {S S' : List Addr} {s : Sl} {v : V}
theorem Sta.off (st : Sta C ρ σ H S) {a : Addr} (h : C.H0 a = none) : a ∉ C.Oc := fun m => st.al0 a m h
theorem Sta.nbag (st : Sta C ρ σ H S) {a : Addr} (h : C.H0 a = none) : C.ub = true → a ≠ C.B.bag := fun u e => st.off h (e ▸ (st.bagO u).1)
/-- the heap, the hidden addresses change; the slots' facts are carried over -/
theorem Sta.to (st : Sta C ρ σ H S) (c : Chg C.ub C.B C.H0 H') (sub : ∀ a ∈ C.Oc, a ∈ S') (own : ∀ a ∈ S', a ∈ C.Oc ∨ C.H0 a = none) (al : ∀ a ∈ S', H' a ≠ none) (k : Same (hid S H) (hid S' H'))
    (tb : Tabs C.T H') (l : ∀ (i : Nat) (s : Sl) (a : Addr), ρ[i]? = some (some s) → s.own = true → σ[i]? = some (some (.ref a)) → a ∈ S → C.H0 a = none → ∀ o, H a = some o → a ∈ S' ∧ H' a = some o) : Sta C ρ σ H' S' :=
  ⟨c, sub, own, al, st.al0, st.bagO, tb, st.len, fun i s e => by
    obtain ⟨v, h1, h2⟩ := st.sl i s e
    refine ⟨v, h1, h2.to k fun a ea eo => ?_⟩
    subst ea
    exact l i s a e eo h1, st.ap⟩
/-- code that keeps to its promise has run -/
theorem Sta.chg {ub : Bool} (st : Sta C ρ σ H S) (hu : ub = true → C.ub = true) (c : Chg ub C.B H H') : Sta C ρ σ H' S := by
  have kp : ∀ a o, (C.ub = true → a ≠ C.B.bag) → H a = some o → H' a = some o := fun a o n e => c.keep a o (fun u => n (hu u)) e
  have bg : C.ub = true → BagAt H' C.B.bag C.B.cel := fun u => by
    cases ub with
    | true => exact c.bag rfl
    | false => exact (st.wd.bag u).same c.pure
  have tb : Tabs C.T H' := by
    cases ub with
    | true => exact RF.Tabs.kpC st.tb (st.wd.bag (hu rfl)) fun a o n e => c.keep a o (fun _ => n) e
    | false => exact RF.Tabs.sm st.tb c.pure
  refine st.to ⟨fun a o n e => kp a o n (st.wd.keep a o n e), bg⟩ st.sub st.own (fun a m => c.there (st.al a m)) (hid_to fun a o n e => ⟨n, kp a o (fun u z => n (z ▸ st.sub _ (st.bagO u).1)) e⟩) tb fun i s a e eo h m h0 o hx => ⟨m, kp a _ (st.nbag h0) hx⟩
theorem Sta.same (st : Sta C ρ σ H S) (s : Same H H') : Sta C ρ σ H' S := st.chg (ub := false) (fun z => by cases z) (Chg.same s)
/-- a new object that stands open -/
theorem Sta.new (st : Sta C ρ σ H S) {p : Addr} {o : HO} (hp : H p = none) : Sta C ρ σ (upd H p o) S := st.same fun a u e => by rw [upd_ne (ne_of_none e hp)]; exact e
theorem Sta.fresh (st : Sta C ρ σ H S) {p : Addr} (hp : H p = none) : C.H0 p = none := by
  cases e : C.H0 p with
  | none => rfl
  | some o =>
    by_cases u : C.ub = true ∧ p = C.B.bag
    · obtain ⟨xs, q⟩ := (st.wd.bag u.1).atB
      rw [u.2, q] at hp
      cases hp
    · rw [st.wd.keep p o (fun hu q => u ⟨hu, q⟩) e] at hp
      cases hp
theorem Sta.notS (st : Sta C ρ σ H S) {p : Addr} (hp : H p = none) : p ∉ S := fun m => st.al p m hp
/-- a new object that is hidden -/
theorem Sta.newS (st : Sta C ρ σ H S) {p : Addr} {o : HO} (hp : H p = none) : Sta C ρ σ (upd H p o) (p :: S) := by
  have st' := st.new (o := o) hp
  refine st.to st'.wd (fun a m => List.mem_cons_of_mem _ (st.sub a m)) (fun a m => ?_) (fun a m => ?_) (hid_newS hp) st'.tb fun i s a e eo h m h0 o hx => ⟨List.mem_cons_of_mem _ m, by rw [upd_ne (ne_of_none hx hp)]; exact hx⟩
  · rcases List.mem_cons.mp m with rfl | m
    · exact .inr (st.fresh hp)
    · exact st.own a m
  · rcases List.mem_cons.mp m with rfl | m
    · rw [upd_same]; exact fun z => nomatch z
    · exact st'.al a m
theorem Sta.get (st : Sta C ρ σ H S) {i : Nat} (e : ρ[i]? = some (some s)) : ∃ v, σ[i]? = some (some v) ∧ SlOk C S H v s := st.sl i s e
theorem Sta.push (st : Sta C ρ σ H S) (ok : SlOk C S H v s) (n : s.own = true → ∀ (i : Nat) (t : Sl), ρ[i]? = some (some t) → t.own = true → σ[i]? ≠ some (some v)) : Sta C (ρ ++ [some s]) (σ ++ [some v]) H S := by
  have hl := st.len
  refine ⟨st.wd, st.sub, st.own, st.al, st.al0, st.bagO, st.tb, by simp [hl], fun i t e => ?_, fun i j t u x e1 e2 o1 o2 q1 q2 => ?_⟩
  · by_cases hi : i < ρ.length
    · rw [List.getElem?_append_left hi] at e
      obtain ⟨w, q, k⟩ := st.sl i t e
      exact ⟨w, by rw [List.getElem?_append_left (hl ▸ hi)]; exact q, k⟩
    · have : i = ρ.length := by
        have := (List.getElem?_eq_some_iff.mp e).1
        simp at this
        omega
      subst this
      rw [List.getElem?_append_right (Nat.le_refl _), Nat.sub_self] at e
      cases e
      exact ⟨v, by rw [hl, List.getElem?_append_right (Nat.le_refl _), Nat.sub_self]; rfl, ok⟩
  · have lt : ∀ {k : Nat} {z : Sl}, (ρ ++ [some s])[k]? = some (some z) → k < ρ.length ∨ (k = ρ.length ∧ z = s) := fun {k z} e => by
      by_cases hk : k < ρ.length
      · exact .inl hk
      · have : k = ρ.length := by
          have := (List.getElem?_eq_some_iff.mp e).1
          simp at this
          omega
        subst this
        rw [List.getElem?_append_right (Nat.le_refl _), Nat.sub_self] at e
        cases e
        exact .inr ⟨rfl, rfl⟩
    have vl : (σ ++ [some v])[ρ.length]? = some (some v) := by rw [hl, List.getElem?_append_right (Nat.le_refl _), Nat.sub_self]; rfl
    rcases lt e1 with h1 | ⟨h1, rfl⟩
    · rw [List.getElem?_append_left h1] at e1
      rw [List.getElem?_append_left (hl ▸ h1)] at q1
      rcases lt e2 with h2 | ⟨h2, rfl⟩
      · rw [List.getElem?_append_left h2] at e2
        rw [List.getElem?_append_left (hl ▸ h2)] at q2
        exact st.ap i j t u x e1 e2 o1 o2 q1 q2
      · subst h2
        rw [vl] at q2
        cases q2
        exact absurd q1 (n o2 i t e1 o1)
    · subst h1
      rw [vl] at q1
      cases q1
      rcases lt e2 with h2 | ⟨h2, rfl⟩
      · rw [List.getElem?_append_left h2] at e2
        rw [List.getElem?_append_left (hl ▸ h2)] at q2
        exact absurd q2 (n o1 j u e2 o2)
      · exact h2.symm
theorem Sta.pushF (st : Sta C ρ σ H S) {d : D} (ok : Rp C.B (hid S H) v d) : Sta C (ρ ++ [some (.fz d)]) (σ ++ [some v]) H S := st.push (s := .fz d) ok fun z => by cases z
/-- a new list of one's own -/
theorem Sta.pushL (st : Sta C ρ σ H S) {p : Addr} {xs : List V} {ds : List D} (hp : H p = none) (hl : xs.length ≤ 1000000) (h : Rps C.B (hid S H) xs ds) :
    Sta C (ρ ++ [some (.ol ds)]) (σ ++ [some (.ref p)]) (upd H p (.lst xs)) (p :: S) := by
  refine (st.newS hp).push ⟨p, xs, rfl, List.mem_cons_self, st.fresh hp, upd_same, hl, Rps.same (hid_newS hp) ds h⟩ fun _ i t e o q => ?_
  obtain ⟨w, e1, e2⟩ := st.sl i t e
  rw [e1] at q
  cases q
  obtain ⟨a, u, h1, h2, h3, h4⟩ := e2.own_at o
  cases h1
  rw [hp] at h4
  cases h4
/-- a new dict of one's own -/
theorem Sta.pushD (st : Sta C ρ σ H S) {p : Addr} {kvs : List (Key × V)} {ks : List Key} {ds : List D} (hp : H p = none) (hl : kvs.length ≤ 1000000) (hk : kvs.map (·.1) = ks) (h : Rps C.B (hid S H) (kvs.map (·.2)) ds) :
    Sta C (ρ ++ [some (.od ks ds)]) (σ ++ [some (.ref p)]) (upd H p (.dK kvs)) (p :: S) := by
  refine (st.newS hp).push ⟨p, kvs, rfl, List.mem_cons_self, st.fresh hp, upd_same, hl, hk, Rps.same (hid_newS hp) ds h⟩ fun _ i t e o q => ?_
  obtain ⟨w, e1, e2⟩ := st.sl i t e
  rw [e1] at q
  cases q
  obtain ⟨a, u, h1, h2, h3, h4⟩ := e2.own_at o
  cases h1
  rw [hp] at h4
  cases h4
/-- a list that a callee has made -/
theorem Sta.pushR (st : Sta C ρ σ H S) {ub : Bool} (hu : ub = true → C.ub = true) (c : Chg ub C.B H H') {p : Addr} {xs : List V} {ds : List D} (hp : H p = none) (hp' : H' p = some (.lst xs)) (hl : xs.length ≤ 1000000) (h : Rps C.B (hid (p :: S) H') xs ds) :
    Sta C (ρ ++ [some (.ol ds)]) (σ ++ [some (.ref p)]) H' (p :: S) := by
  have st' := st.chg hu c
  have ns := st.notS hp
  refine (st.to (S' := p :: S) st'.wd (fun a m => List.mem_cons_of_mem _ (st.sub a m)) (fun a m => ?_) (fun a m => ?_) (hid_to fun a o n e => ⟨fun m => ?_, ?_⟩) st'.tb (fun i s a e eo h m h0 o hx => ⟨List.mem_cons_of_mem _ m, ?_⟩)).push ⟨p, xs, rfl, List.mem_cons_self, st.fresh hp, hp', hl, h⟩ fun _ i t e o q => ?_
  · rcases List.mem_cons.mp m with rfl | m
    · exact .inr (st.fresh hp)
    · exact st.own a m
  · rcases List.mem_cons.mp m with rfl | m
    · rw [hp']; exact fun z => nomatch z
    · exact st'.al a m
  · rcases List.mem_cons.mp m with rfl | m
    · rw [hp] at e; cases e
    · exact n m
  · exact c.keep a o (fun u z => n (z ▸ st.sub _ (st.bagO (hu u)).1)) e
  · exact c.keep a _ (fun u => st.nbag h0 (hu u)) hx
  · obtain ⟨w, e1, e2⟩ := st.sl i t e
    rw [e1] at q
    cases q
    obtain ⟨a, u, h1, h2, h3, h4⟩ := e2.own_at o
    cases h1
    rw [hp] at h4
    cases h4
/-- a dict that a callee has made -/
theorem Sta.pushRD (st : Sta C ρ σ H S) {ub : Bool} (hu : ub = true → C.ub = true) (c : Chg ub C.B H H') {p : Addr} {kvs : List (Key × V)} {ks : List Key} {ds : List D} (hp : H p = none) (hp' : H' p = some (.dK kvs)) (hl : kvs.length ≤ 1000000) (hk : kvs.map (·.1) = ks) (h : Rps C.B (hid (p :: S) H') (kvs.map (·.2)) ds) :
    Sta C (ρ ++ [some (.od ks ds)]) (σ ++ [some (.ref p)]) H' (p :: S) := by
  have st' := st.chg hu c
  have ns := st.notS hp
  refine (st.to (S' := p :: S) st'.wd (fun a m => List.mem_cons_of_mem _ (st.sub a m)) (fun a m => ?_) (fun a m => ?_) (hid_to fun a o n e => ⟨fun m => ?_, ?_⟩) st'.tb (fun i s a e eo h m h0 o hx => ⟨List.mem_cons_of_mem _ m, ?_⟩)).push ⟨p, kvs, rfl, List.mem_cons_self, st.fresh hp, hp', hl, hk, h⟩ fun _ i t e o q => ?_
  · rcases List.mem_cons.mp m with rfl | m
    · exact .inr (st.fresh hp)
    · exact st.own a m
  · rcases List.mem_cons.mp m with rfl | m
    · rw [hp']; exact fun z => nomatch z
    · exact st'.al a m
  · rcases List.mem_cons.mp m with rfl | m
    · rw [hp] at e; cases e
    · exact n m
  · exact c.keep a o (fun u z => n (z ▸ st.sub _ (st.bagO (hu u)).1)) e
  · exact c.keep a _ (fun u => st.nbag h0 (hu u)) hx
  · obtain ⟨w, e1, e2⟩ := st.sl i t e
    rw [e1] at q
    cases q
    obtain ⟨a, u, h1, h2, h3, h4⟩ := e2.own_at o
    cases h1
    rw [hp] at h4
    cases h4
theorem Sta.drop {ρ' : Ev} {σ' : St} (st : Sta C (ρ ++ ρ') (σ ++ σ') H S) (hl : ρ.length = σ.length) : Sta C ρ σ H S := by
  refine ⟨st.wd, st.sub, st.own, st.al, st.al0, st.bagO, st.tb, hl, fun i t e => ?_, fun i j t u x e1 e2 o1 o2 q1 q2 => ?_⟩
  · have hi := (List.getElem?_eq_some_iff.mp e).1
    obtain ⟨w, q, k⟩ := st.sl i t (by rw [List.getElem?_append_left hi]; exact e)
    rw [List.getElem?_append_left (hl ▸ hi)] at q
    exact ⟨w, q, k⟩
  · have h1 := (List.getElem?_eq_some_iff.mp e1).1
    have h2 := (List.getElem?_eq_some_iff.mp e2).1
    exact st.ap i j t u x (by rw [List.getElem?_append_left h1]; exact e1) (by rw [List.getElem?_append_left h2]; exact e2) o1 o2 (by rw [List.getElem?_append_left (hl ▸ h1)]; exact q1) (by rw [List.getElem?_append_left (hl ▸ h2)]; exact q2)
theorem Sta.last (st : Sta C (ρ ++ [some s]) (σ ++ [some v]) H S) (hl : ρ.length = σ.length) : SlOk C S H v s := by
  obtain ⟨w, q, k⟩ := st.sl ρ.length s (by rw [List.getElem?_append_right (Nat.le_refl _), Nat.sub_self]; rfl)
  rw [hl, List.getElem?_append_right (Nat.le_refl _), Nat.sub_self] at q
  cases q
  exact k
/-- a slot is forgotten, or what it holds is told otherwise -/
theorem Sta.put (st : Sta C ρ σ H S) (i : Nat) (o : Option Sl) (h : ∀ s : Sl, o = some s → ∃ v, σ[i]? = some (some v) ∧ SlOk C S H v s) (n : ∀ (s : Sl) (v : V), o = some s → s.own = true → σ[i]? = some (some v) → ∀ (j : Nat) (t : Sl), j ≠ i → ρ[j]? = some (some t) → t.own = true → σ[j]? ≠ some (some v)) : Sta C (ρ.set i o) σ H S := by
  refine ⟨st.wd, st.sub, st.own, st.al, st.al0, st.bagO, st.tb, by rw [List.length_set]; exact st.len, fun j t e => ?_, fun j k t u x e1 e2 o1 o2 q1 q2 => ?_⟩
  · by_cases hj : i = j
    · subst hj
      by_cases hi : i < ρ.length
      · rw [List.getElem?_set_self hi] at e
        cases e
        exact h t rfl
      · rw [List.getElem?_eq_none (by simpa using hi)] at e; cases e
    · rw [List.getElem?_set_ne hj] at e
      exact st.sl j t e
  · by_cases hj : i = j
    · by_cases hk : i = k
      · omega
      · subst hj
        rw [List.getElem?_set_ne hk] at e2
        have hi : i < ρ.length := by have := (List.getElem?_eq_some_iff.mp e1).1; simpa using this
        rw [List.getElem?_set_self hi] at e1
        cases e1
        exact absurd q2 (n t x rfl o1 q1 k u (Ne.symm hk) e2 o2)
    · rw [List.getElem?_set_ne hj] at e1
      by_cases hk : i = k
      · subst hk
        have hi : i < ρ.length := by have := (List.getElem?_eq_some_iff.mp e2).1; simpa using this
        rw [List.getElem?_set_self hi] at e2
        cases e2
        exact absurd q1 (n u x rfl o2 q2 j t (Ne.symm hj) e1 o1)
      · rw [List.getElem?_set_ne hk] at e2
        exact st.ap j k t u x e1 e2 o1 o2 q1 q2
theorem Sta.forget (st : Sta C ρ σ H S) (i : Nat) : Sta C (ρ.set i none) σ H S := st.put i none (fun _ z => by cases z) fun _ _ z => by cases z
/-- a slot that is forgotten may hold anything -/
theorem Sta.blind (st : Sta C ρ σ H S) {i : Nat} (e : ∀ s : Sl, ρ[i]? ≠ some (some s)) (o : Option V) : Sta C ρ (σ.set i o) H S := by
  refine ⟨st.wd, st.sub, st.own, st.al, st.al0, st.bagO, st.tb, by rw [List.length_set]; exact st.len, fun j t q => ?_, fun j k t u x e1 e2 o1 o2 q1 q2 => ?_⟩
  · have hj : i ≠ j := fun z => e t (z ▸ q)
    rw [List.getElem?_set_ne hj]
    exact st.sl j t q
  · have hj : i ≠ j := fun z => e t (z ▸ e1)
    have hk : i ≠ k := fun z => e u (z ▸ e2)
    rw [List.getElem?_set_ne hj] at q1
    rw [List.getElem?_set_ne hk] at q2
    exact st.ap j k t u x e1 e2 o1 o2 q1 q2
theorem set_none (ρ : Ev) (i : Nat) : ∀ s : Sl, (ρ.set i none)[i]? ≠ some (some s) := fun s e => by
  by_cases hi : i < ρ.length
  · rw [List.getElem?_set_self hi] at e; cases e
  · rw [List.getElem?_eq_none (by simpa using hi)] at e; cases e
/-- a list of one's own is given up: from now on nobody changes it -/
theorem Sta.freeze (st : Sta C ρ σ H S) {i : Nat} {ds : List D} (e : ρ[i]? = some (some (.ol ds))) : ∃ S', Sta C (ρ.set i (some (.fz (.lst ds)))) σ H S' := by
  obtain ⟨v, q, a, xs, rfl, m, h0, hx, hl, hr⟩ := st.sl i _ e
  have sub : ∀ b ∈ S.filter (fun b => decide (b ≠ a)), b ∈ S := fun b hb => (List.mem_filter.mp hb).1
  have nm : a ∉ S.filter (fun b => decide (b ≠ a)) := fun hm => by simpa using (List.mem_filter.mp hm).2
  have st1 : Sta C (ρ.set i none) σ H (S.filter (fun b => decide (b ≠ a))) := by
    refine (st.forget i).to st.wd (fun b hb => List.mem_filter.mpr ⟨st.sub b hb, ?_⟩) (fun b hb => st.own b (sub b hb)) (fun b hb => st.al b (sub b hb)) (hid_le sub) st.tb fun j t b ej ot qj mb h0b ys hy => ⟨List.mem_filter.mpr ⟨mb, ?_⟩, hy⟩
    · refine decide_eq_true fun z => st.off h0 (z ▸ hb)
    · refine decide_eq_true fun z => ?_
      subst z
      by_cases hij : i = j
      · subst hij
        exact set_none ρ i _ ej
      · rw [List.getElem?_set_ne hij] at ej
        exact hij (st.ap i j _ _ _ e ej rfl ot q qj)
  refine ⟨S.filter (fun b => decide (b ≠ a)), ?_⟩
  have st2 := st1.put i (some (.fz (.lst ds))) (fun s z => by
    cases z
    exact ⟨.ref a, q, a, xs, rfl, by rw [hid_ne nm]; exact hx, hl, Rps.same (hid_le sub) ds hr⟩) fun s v z o => by cases z; cases o
  rw [List.set_set] at st2
  exact st2
/-- a dict of one's own is given up -/
theorem Sta.freezeD (st : Sta C ρ σ H S) {i : Nat} {ks : List Key} {ds : List D} (e : ρ[i]? = some (some (.od ks ds))) : ∃ S', Sta C (ρ.set i (some (.fz (.dic ks ds)))) σ H S' := by
  obtain ⟨v, q, a, xs, rfl, m, h0, hx, hl, hk, hr⟩ := st.sl i _ e
  have sub : ∀ b ∈ S.filter (fun b => decide (b ≠ a)), b ∈ S := fun b hb => (List.mem_filter.mp hb).1
  have nm : a ∉ S.filter (fun b => decide (b ≠ a)) := fun hm => by simpa using (List.mem_filter.mp hm).2
  have st1 : Sta C (ρ.set i none) σ H (S.filter (fun b => decide (b ≠ a))) := by
    refine (st.forget i).to st.wd (fun b hb => List.mem_filter.mpr ⟨st.sub b hb, ?_⟩) (fun b hb => st.own b (sub b hb)) (fun b hb => st.al b (sub b hb)) (hid_le sub) st.tb fun j t b ej ot qj mb h0b ys hy => ⟨List.mem_filter.mpr ⟨mb, ?_⟩, hy⟩
    · refine decide_eq_true fun z => st.off h0 (z ▸ hb)
    · refine decide_eq_true fun z => ?_
      subst z
      by_cases hij : i = j
      · subst hij
        exact set_none ρ i _ ej
      · rw [List.getElem?_set_ne hij] at ej
        exact hij (st.ap i j _ _ _ e ej rfl ot q qj)
  refine ⟨S.filter (fun b => decide (b ≠ a)), ?_⟩
  have st2 := st1.put i (some (.fz (.dic ks ds))) (fun s z => by
    cases z
    exact ⟨.ref a, q, a, xs, rfl, by rw [hid_ne nm]; exact hx, hl, hk, Rps.same (hid_le sub) ds hr⟩) fun s v z o => by cases z; cases o
  rw [List.set_set] at st2
  exact st2
/-- .. whatever it is -/
theorem Sta.toD (st : Sta C ρ σ H S) {i : Nat} (e : ρ[i]? = some (some s)) : ∃ S', Sta C (ρ.set i (some (.fz s.toD))) σ H S' := by
  cases s with
  | ol ds => exact st.freeze e
  | od ks ds => exact st.freezeD e
  | fz d =>
    refine ⟨S, ?_⟩
    have : ρ.set i (some (.fz d)) = ρ := by
      obtain ⟨h, q⟩ := List.getElem?_eq_some_iff.mp e
      rw [← q]
      exact List.set_getElem_self h
    show Sta C (ρ.set i (some (.fz d))) σ H S
    rw [this]
    exact st
/-- a list of one's own is changed -/
theorem Sta.write (st : Sta C ρ σ H S) {i : Nat} {ds es : List D} {a : Addr} {ys : List V} (e : ρ[i]? = some (some (.ol ds))) (q : σ[i]? = some (some (.ref a))) (hl : ys.length ≤ 1000000) (h : Rps C.B (hid S H) ys es) :
    Sta C (ρ.set i (some (.ol es))) σ (upd H a (.lst ys)) S := by
  obtain ⟨v, q', b, xs, rfl, m, h0, hx, _, _⟩ := st.sl i _ e
  rw [q] at q'
  cases q'
  have st1 : Sta C (ρ.set i none) σ (upd H a (.lst ys)) S := by
    refine (st.forget i).to ⟨fun b o n z => ?_, fun u => ?_⟩ st.sub st.own (fun b hb => ?_) (by rw [hid_upd m]; exact Same.refl _) (RF.Tabs.put st.tb hx) fun j t b ej ot qj mb h0b zs hz => ⟨mb, ?_⟩
    · have hne : b ≠ a := fun w => by rw [w, h0] at z; cases z
      rw [upd_ne hne]
      exact st.wd.keep b o n z
    · refine (st.wd.bag u).put ⟨st.nbag h0 u, fun w => st.off h0 (w ▸ (st.bagO u).2)⟩
    · by_cases hb' : b = a
      · rw [hb', upd_same]; exact fun z => nomatch z
      · rw [upd_ne hb']; exact st.al b hb
    · have hne : b ≠ a := fun w => by
        subst w
        by_cases hij : i = j
        · subst hij
          exact set_none ρ i _ ej
        · rw [List.getElem?_set_ne hij] at ej
          exact hij (st.ap i j _ _ _ e ej rfl ot q qj)
      rw [upd_ne hne]
      exact hz
  have st2 := st1.put i (some (.ol es)) (fun s z => by
    cases z
    exact ⟨.ref a, q, a, ys, rfl, m, h0, upd_same, hl, by rw [hid_upd m]; exact h⟩) fun s v z _ qv j t hj ej to => by
      rw [q] at qv
      cases qv
      rw [List.getElem?_set_ne (Ne.symm hj)] at ej
      exact fun w => hj (st.ap j i _ _ _ ej e to rfl w q)
  rw [List.set_set] at st2
  exact st2
/-- a dict of one's own is changed -/
theorem Sta.writeD (st : Sta C ρ σ H S) {i : Nat} {ks ls : List Key} {ds es : List D} {a : Addr} {ys : List (Key × V)} (e : ρ[i]? = some (some (.od ks ds))) (q : σ[i]? = some (some (.ref a))) (hl : ys.length ≤ 1000000) (hk : ys.map (·.1) = ls) (h : Rps C.B (hid S H) (ys.map (·.2)) es) :
    Sta C (ρ.set i (some (.od ls es))) σ (upd H a (.dK ys)) S := by
  obtain ⟨v, q', b, xs, rfl, m, h0, hx, _, _, _⟩ := st.sl i _ e
  rw [q] at q'
  cases q'
  have st1 : Sta C (ρ.set i none) σ (upd H a (.dK ys)) S := by
    refine (st.forget i).to ⟨fun b o n z => ?_, fun u => ?_⟩ st.sub st.own (fun b hb => ?_) (by rw [hid_upd m]; exact Same.refl _) (tabs_putD st.tb hx) fun j t b ej ot qj mb h0b zs hz => ⟨mb, ?_⟩
    · have hne : b ≠ a := fun w => by rw [w, h0] at z; cases z
      rw [upd_ne hne]
      exact st.wd.keep b o n z
    · refine (st.wd.bag u).put ⟨st.nbag h0 u, fun w => st.off h0 (w ▸ (st.bagO u).2)⟩
    · by_cases hb' : b = a
      · rw [hb', upd_same]; exact fun z => nomatch z
      · rw [upd_ne hb']; exact st.al b hb
    · have hne : b ≠ a := fun w => by
        subst w
        by_cases hij : i = j
        · subst hij
          exact set_none ρ i _ ej
        · rw [List.getElem?_set_ne hij] at ej
          exact hij (st.ap i j _ _ _ e ej rfl ot q qj)
      rw [upd_ne hne]
      exact hz
  have st2 := st1.put i (some (.od ls es)) (fun s z => by
    cases z
    exact ⟨.ref a, q, a, ys, rfl, m, h0, upd_same, hl, hk, by rw [hid_upd m]; exact h⟩) fun s v z _ qv j t hj ej to => by
      rw [q] at qv
      cases qv
      rw [List.getElem?_set_ne (Ne.symm hj)] at ej
      exact fun w => hj (st.ap j i _ _ _ ej e to rfl w q)
  rw [List.set_set] at st2
  exact st2
end
end Q


set_option autoImplicit false
set_option linter.all false
/-! Q1: what is told of expressions, tests, arguments; operators -/
namespace Q
open PySem L2

abbrev WE := Ev → (Sl → Ev → Prop) → Prop
abbrev WT := Ev → (Bool → Ev → Prop) → Prop
abbrev WA := Ev → (List D → Ev → Prop) → Prop
/-- a reading keeps to what is told by w -/
def OkE (C : Cxt) (t : TE) (w : WE) : Prop := ∀ (ρ ρx : Ev) (σ σx : St) (H : Hp) (S : List Addr) (k : Sl → Ev → Prop) (Q : VK), ρ.length = σ.length → Sta C (ρ ++ ρx) (σ ++ σx) H S → w ρ k →
  (∀ (s : Sl) (ρ' : Ev) (v : V) (H' : Hp) (S' : List Addr), ρ'.length = σ.length → Sta C ((ρ' ++ ρx) ++ [some s]) ((σ ++ σx) ++ [some v]) H' S' → k s ρ' → Q v H') → t σ H Q
/-- .. a value that is used at once -/
def OkB (C : Cxt) (t : TE) (w : WE) : Prop := ∀ (ρ ρx : Ev) (σ σx : St) (H : Hp) (S : List Addr) (k : Sl → Ev → Prop) (Q : VK), ρ.length = σ.length → Sta C (ρ ++ ρx) (σ ++ σx) H S → w ρ k →
  (∀ (s : Sl) (ρ' : Ev) (v : V) (H' : Hp) (S' : List Addr), ρ'.length = σ.length → Sta C (ρ' ++ ρx) (σ ++ σx) H' S' → SlOk C S' H' v s → k s ρ' → Q v H') → t σ H Q
def OkT (C : Cxt) (t : TT) (w : WT) : Prop := ∀ (ρ ρx : Ev) (σ σx : St) (H : Hp) (S : List Addr) (k : Bool → Ev → Prop) (Q : Bool → Hp → Prop), ρ.length = σ.length → Sta C (ρ ++ ρx) (σ ++ σx) H S → w ρ k →
  (∀ (b : Bool) (ρ' : Ev) (H' : Hp) (S' : List Addr), ρ'.length = σ.length → Sta C (ρ' ++ ρx) (σ ++ σx) H' S' → k b ρ' → Q b H') → t σ H Q
def fzs (ds : List D) : Ev := ds.map fun d => some (.fz d)
def OkA (C : Cxt) (t : TA) (w : WA) : Prop := ∀ (ρ ρx : Ev) (σ σx : St) (H : Hp) (S : List Addr) (k : List D → Ev → Prop) (Q : List V → Hp → Prop), ρ.length = σ.length → Sta C (ρ ++ ρx) (σ ++ σx) H S → w ρ k →
  (∀ (ds : List D) (ρ' : Ev) (vs : List V) (H' : Hp) (S' : List Addr), ρ'.length = σ.length → Sta C ((ρ' ++ ρx) ++ fzs ds) ((σ ++ σx) ++ vs.map some) H' S' → k ds ρ' → Q vs H') → t σ H Q
structure PD (X : Cx) (C : Cxt) (e : Expr) (t : TE) (w : WE) : Prop where
  pe : PE X e t
  ok : OkE C t w
structure PB (X : Cx) (C : Cxt) (e : Expr) (t : TE) (w : WE) : Prop where
  pe : PE X e t
  ok : OkB C t w
structure QT (X : Cx) (C : Cxt) (e : Expr) (t : TT) (w : WT) : Prop where
  pt : PT X e t
  ok : OkT C t w
structure QW (X : Cx) (C : Cxt) (e : Expr) (t : TT) (w : WT) : Prop where
  pw : PW X e t
  ok : OkT C t w
structure QA (X : Cx) (C : Cxt) (es : List Expr) (t : TA) (w : WA) : Prop where
  pa : PA X es t
  ok : OkA C t w
structure Fit (X : Cx) (C : Cxt) : Prop where
  K : C.B.K = X.K
  mg : C.B.mg = X.mg

section
variable {X : Cx} {C : Cxt} {e a bx : Expr} {t ta tb : TE} {w wa wb : WE} {pos : Pos}
theorem OkE.b (h : OkE C t w) : OkB C t w := fun ρ ρx σ σx H S k Q hl st hw q => h ρ ρx σ σx H S k Q hl st hw fun s ρ' v H' S' hl' st' hk => by
  have e := st'.len
  simp only [List.length_append] at e
  exact q s ρ' v H' S' hl' (st'.drop (by simp only [List.length_append, List.length_cons, List.length_nil] at *; omega)) (st'.last (by simp only [List.length_append, List.length_cons, List.length_nil] at *; omega)) hk
theorem PD.b (h : PD X C e t w) : PB X C e t w := ⟨h.pe, h.ok.b⟩
theorem app_set {α : Type} (l r : List α) (i : Nat) (x : α) (h : i < l.length) : (l ++ r).set i x = l.set i x ++ r := List.set_append_left _ _ h
theorem lt_of_get {α : Type} {l : List α} {i : Nat} {x : α} (h : l[i]? = some x) : i < l.length := (List.getElem?_eq_some_iff.mp h).1
theorem get_app {α : Type} {l r : List α} {i : Nat} {x : α} (h : l[i]? = some x) : (l ++ r)[i]? = some x := by rw [List.getElem?_append_left (lt_of_get h)]; exact h
theorem of_get_app {α : Type} {l r : List α} {i : Nat} {x : α} (h : (l ++ r)[i]? = some x) (hi : i < l.length) : l[i]? = some x := by rw [List.getElem?_append_left hi] at h; exact h

/-! ### names, constants -/
def wVar (i : Nat) : WE := fun ρ k => match ρ[i]? with
  | some (some (.fz d)) => k (.fz d) ρ
  | some (some (.ol ds)) => k (.fz (.lst ds)) (ρ.set i (some (.fz (.lst ds))))
  | some (some (.od ks ds)) => k (.fz (.dic ks ds)) (ρ.set i (some (.fz (.dic ks ds))))
  | _ => False
theorem ok_var (i : Nat) : OkE C (tVar i) (wVar i) := by
  intro ρ ρx σ σx H S k Q hl st hw q
  unfold wVar at hw
  split at hw
  · rename_i d e
    obtain ⟨v, h1, h2⟩ := st.get (get_app e)
    have hi : i < σ.length := hl ▸ lt_of_get e
    exact ⟨v, of_get_app h1 hi, q (.fz d) ρ v H S hl (st.pushF h2) hw⟩
  · rename_i ds e
    obtain ⟨S', st'⟩ := st.freeze (get_app (r := ρx) e)
    rw [app_set _ _ _ _ (lt_of_get e)] at st'
    have e' : (ρ.set i (some (.fz (.lst ds))))[i]? = some (some (.fz (.lst ds))) := List.getElem?_set_self (lt_of_get e)
    obtain ⟨v, h1, h2⟩ := st'.get (get_app e')
    have hi : i < σ.length := hl ▸ lt_of_get e
    exact ⟨v, of_get_app h1 hi, q (.fz (.lst ds)) _ v H S' (by rw [List.length_set]; exact hl) (st'.pushF h2) hw⟩
  · rename_i ks ds e
    obtain ⟨S', st'⟩ := st.freezeD (get_app (r := ρx) e)
    rw [app_set _ _ _ _ (lt_of_get e)] at st'
    have e' : (ρ.set i (some (.fz (.dic ks ds))))[i]? = some (some (.fz (.dic ks ds))) := List.getElem?_set_self (lt_of_get e)
    obtain ⟨v, h1, h2⟩ := st'.get (get_app e')
    have hi : i < σ.length := hl ▸ lt_of_get e
    exact ⟨v, of_get_app h1 hi, q (.fz (.dic ks ds)) _ v H S' (by rw [List.length_set]; exact hl) (st'.pushF h2) hw⟩
  · exact hw.elim
theorem pd_var {i : Nat} (h : PE X e (tVar i)) : PD X C e (tVar i) (wVar i) := ⟨h, ok_var i⟩
/-- what a name holds, used at once -/
def wBor (i : Nat) : WE := fun ρ k => match ρ[i]? with
  | some (some s) => k s ρ
  | _ => False
theorem pb_var {i : Nat} (h : PE X e (tVar i)) : PB X C e (tVar i) (wBor i) := ⟨h, by
  intro ρ ρx σ σx H S k Q hl st hw q
  unfold wBor at hw
  split at hw
  · rename_i s e
    obtain ⟨v, h1, h2⟩ := st.get (get_app e)
    exact ⟨v, of_get_app h1 (hl ▸ lt_of_get e), q s ρ v H S hl st h2 hw⟩
  · exact hw.elim⟩
/-- what a name holds, taken away from it -/
def wMv (i : Nat) : WE := fun ρ k => match ρ[i]? with
  | some (some s) => k s (ρ.set i none)
  | _ => False
theorem pd_mv {i : Nat} (h : PE X e (tVar i)) : PD X C e (tVar i) (wMv i) := ⟨h, by
  intro ρ ρx σ σx H S k Q hl st hw q
  unfold wMv at hw
  split at hw
  · rename_i s e
    have e0 := get_app (r := ρx) e
    obtain ⟨v, h1, h2⟩ := st.get e0
    have st' := st.forget i
    have hi : i < ρ.length := lt_of_get e
    refine ⟨v, of_get_app h1 (hl ▸ hi), q s (ρ.set i none) v H S (by rw [List.length_set]; exact hl) ?_ hw⟩
    rw [← app_set _ _ _ _ hi]
    refine st'.push h2 fun o j t ej to qj => ?_
    by_cases hij : i = j
    · subst hij
      exact set_none _ _ _ ej
    · rw [List.getElem?_set_ne hij] at ej
      exact hij (st.ap i j s t v e0 ej o to h1 qj)
  · exact hw.elim⟩
def wC (d : D) : WE := fun ρ k => k (.fz d) ρ
theorem ok_c {v : V} {d : D} (h : ∀ H, Rp C.B H v d) : OkE C (tC v) (wC d) := fun ρ ρx σ σx H S k Q hl st hw q => q (.fz d) ρ v H S hl (st.pushF (h _)) hw
theorem pd_c {v : V} {d : D} (h : PE X e (tC v)) (hr : ∀ H, Rp C.B H v d) : PD X C e (tC v) (wC d) := ⟨h, ok_c hr⟩
theorem pd_int {i : Int} {j pos} : PD X C (.Constant (.int i) j pos) (tC (.int i)) (wC (.int i)) := pd_c pe_int fun _ => rfl
theorem pd_bl {i : Bool} {j pos} : PD X C (.Constant (.bool i) j pos) (tC (.bl i)) (wC (.bl i)) := pd_c pe_bl fun _ => rfl
theorem pd_str {i : Str} {j pos} : PD X C (.Constant (.str i) j pos) (tC (.str i)) (wC (.str i)) := pd_c pe_str fun _ => rfl
theorem pd_non {j pos} : PD X C (.Constant .none j pos) (tC .non) (wC .non) := pd_c pe_non fun _ => rfl

/-! ### operators by values -/
abbrev P2 := Sl → Sl → (Sl → Prop) → Prop
/-- a relation keeps to what is told of it -/
def Lift2 (C : Cxt) (r : R2) (p : P2) : Prop := ∀ (ρ : Ev) (σ : St) (H : Hp) (S : List Addr) (x y : Sl) (vx vy : V) (k : Sl → Prop) (Q : VK), Sta C ρ σ H S → SlOk C S H vx x → SlOk C S H vy y → p x y k →
  (∀ (s : Sl) (v : V) (H' : Hp) (S' : List Addr), Sta C (ρ ++ [some s]) (σ ++ [some v]) H' S' → k s → Q v H') → r vx vy H Q
def wOp (p : P2) (wa wb : WE) : WE := fun ρ k => wa ρ fun x ρ1 => wb ρ1 fun y ρ2 => p (.fz x.toD) y fun z => k z ρ2
theorem Sta.popLast {ρ : Ev} {σ : St} {H : Hp} {S : List Addr} {s : Sl} {v : V} (st : Sta C (ρ ++ [some s]) (σ ++ [some v]) H S) : Sta C ρ σ H S := st.drop (by have := st.len; simp at this; exact this)
/-- the last slot as data that nobody changes -/
theorem Sta.lastD {ρ : Ev} {σ : St} {H : Hp} {S : List Addr} {s : Sl} {v : V} (st : Sta C (ρ ++ [some s]) (σ ++ [some v]) H S) : ∃ S', Sta C (ρ ++ [some (.fz s.toD)]) (σ ++ [some v]) H S' := by
  obtain ⟨S', h⟩ := st.toD (i := ρ.length) (s := s) (by rw [List.getElem?_append_right (Nat.le_refl _), Nat.sub_self]; rfl)
  refine ⟨S', ?_⟩
  rw [List.set_append_right _ _ (Nat.le_refl _), Nat.sub_self] at h
  exact h
/-- what stands below the last but one -/
theorem Sta.pop2 {ρ : Ev} {σ : St} {H : Hp} {S : List Addr} {s t : Sl} {v u : V} (st : Sta C ((ρ ++ [some s]) ++ [some t]) ((σ ++ [some v]) ++ [some u]) H S) : Sta C ρ σ H S := st.popLast.popLast
theorem ok_op {r : R2} {p : P2} (h : Lift2 C r p) (ha : OkE C ta wa) (hb : OkB C tb wb) : OkE C (tOp r ta tb) (wOp p wa wb) := by
  intro ρ ρx σ σx H S k Q hl st hw q
  refine ha ρ ρx σ σx H S _ _ hl st hw fun x ρ1 vx H1 S1 hl1 st1 hw1 => ?_
  obtain ⟨S1', st1⟩ := st1.lastD
  rw [List.append_assoc, List.append_assoc] at st1
  refine hb ρ1 (ρx ++ [some (.fz x.toD)]) σ (σx ++ [some vx]) H1 S1' _ _ hl1 st1 hw1 fun y ρ2 vy H2 S2 hl2 st2 oky hp => ?_
  rw [← List.append_assoc, ← List.append_assoc] at st2
  have lx : (ρ2 ++ ρx).length = (σ ++ σx).length := by have := st2.len; simp only [List.length_append, List.length_cons, List.length_nil] at *; omega
  refine h (ρ2 ++ ρx) (σ ++ σx) H2 S2 (.fz x.toD) y vx vy _ Q st2.popLast (st2.last lx) oky hp fun z v H' S' st' hk => ?_
  exact q z ρ2 v H' S' hl2 st' hk
/-- the left one a name: it is looked at behind the right one -/
def wOpV (p : P2) (i : Nat) (wb : WE) : WE := fun ρ k => (∃ s, ρ[i]? = some (some s)) ∧ wb ρ fun y ρ1 => match ρ1[i]? with
  | some (some x) => p x y fun z => k z ρ1
  | _ => False
theorem ok_opV {r : R2} {p : P2} (h : Lift2 C r p) {i : Nat} (hb : OkB C tb wb) : OkE C (tOp r (tVar i) tb) (wOpV p i wb) := by
  intro ρ ρx σ σx H S k Q hl st hw q
  obtain ⟨⟨s0, e0⟩, hw⟩ := hw
  obtain ⟨v, h1, _⟩ := st.get (get_app e0)
  have hi : i < σ.length := hl ▸ lt_of_get e0
  refine ⟨v, of_get_app h1 hi, ?_⟩
  refine hb ρ ρx σ σx H S _ _ hl st hw fun y ρ1 vy H1 S1 hl1 st1 oky hp => ?_
  split at hp
  · rename_i x e1
    obtain ⟨v', h2, okx⟩ := st1.get (get_app e1)
    rw [h1] at h2
    cases h2
    exact h (ρ1 ++ ρx) (σ ++ σx) H1 S1 x y v vy _ Q st1 okx oky hp fun z v' H' S' st' hk => q z ρ1 v' H' S' hl1 st' hk
  · exact hp.elim
theorem pd_op {op : Operator} {r : R2} {p : P2} (ho : OpR X (binaryOp op) r) (h : Lift2 C r p) (ha : PD X C a ta wa) (hb : PB X C bx tb wb) : PD X C (.BinOp a op bx pos) (tOp r ta tb) (wOp p wa wb) := ⟨pe_op ho ha.pe hb.pe, ok_op h ha.ok hb.ok⟩
theorem pd_opV {op : Operator} {r : R2} {p : P2} (ho : OpR X (binaryOp op) r) (h : Lift2 C r p) {i : Nat} (ha : PE X a (tVar i)) (hb : PB X C bx tb wb) : PD X C (.BinOp a op bx pos) (tOp r (tVar i) tb) (wOpV p i wb) := ⟨pe_op ho ha hb.pe, ok_opV h hb.ok⟩
theorem pd_cmp {op : CmpOp} {r : R2} {p : P2} (ho : OpR X (compareOp op) r) (h : Lift2 C r p) (ha : PD X C a ta wa) (hb : PB X C bx tb wb) (hm : behindInMarks op bx = false) : PD X C (.Compare a [op] [bx] pos) (tOp r ta tb) (wOp p wa wb) := ⟨pe_cmpR ho ha.pe hb.pe hm, ok_op h ha.ok hb.ok⟩
theorem pd_cmpV {op : CmpOp} {r : R2} {p : P2} (ho : OpR X (compareOp op) r) (h : Lift2 C r p) {i : Nat} (ha : PE X a (tVar i)) (hb : PB X C bx tb wb) (hm : behindInMarks op bx = false) : PD X C (.Compare a [op] [bx] pos) (tOp r (tVar i) tb) (wOpV p i wb) := ⟨pe_cmpR ho ha hb.pe hm, ok_opV h hb.ok⟩
theorem pd_ix {r : R2} {p : P2} (ho : IxR X r) (h : Lift2 C r p) (ha : PD X C a ta wa) (hb : PB X C bx tb wb) (hs : PlainIx bx) : PD X C (.Subscript a bx pos) (tOp r ta tb) (wOp p wa wb) := ⟨pe_ix ho ha.pe hb.pe hs, ok_op h ha.ok hb.ok⟩
theorem pd_ixV {r : R2} {p : P2} (ho : IxR X r) (h : Lift2 C r p) {i : Nat} (ha : PE X a (tVar i)) (hb : PB X C bx tb wb) (hs : PlainIx bx) : PD X C (.Subscript a bx pos) (tOp r (tVar i) tb) (wOpV p i wb) := ⟨pe_ix ho ha hb.pe hs, ok_opV h hb.ok⟩
/-- one operand -/
abbrev P1 := Sl → (Sl → Prop) → Prop
def Lift1 (C : Cxt) (r : V → Hp → VK → Prop) (p : P1) : Prop := ∀ (ρ : Ev) (σ : St) (H : Hp) (S : List Addr) (x : Sl) (vx : V) (k : Sl → Prop) (Q : VK), Sta C ρ σ H S → SlOk C S H vx x → p x k →
  (∀ (s : Sl) (v : V) (H' : Hp) (S' : List Addr), Sta C (ρ ++ [some s]) (σ ++ [some v]) H' S' → k s → Q v H') → r vx H Q
def wUn (p : P1) (wa : WE) : WE := fun ρ k => wa ρ fun x ρ1 => p x fun z => k z ρ1
theorem ok_un {r : V → Hp → VK → Prop} {p : P1} (h : Lift1 C r p) (ha : OkB C ta wa) : OkE C (tUn r ta) (wUn p wa) := by
  intro ρ ρx σ σx H S k Q hl st hw q
  refine ha ρ ρx σ σx H S _ _ hl st hw fun x ρ1 vx H1 S1 hl1 st1 okx hp => ?_
  exact h (ρ1 ++ ρx) (σ ++ σx) H1 S1 x vx _ Q st1 okx hp fun z v H' S' st' hk => q z ρ1 v H' S' hl1 st' hk
theorem pd_un {op : UnaryOp} {r : V → Hp → VK → Prop} {p : P1} (ho : UnR X (unaryOp op) r) (h : Lift1 C r p) (ha : PB X C a ta wa) : PD X C (.UnaryOp op a pos) (tUn r ta) (wUn p wa) := ⟨pe_un ho ha.pe, ok_un h ha.ok⟩

/-! ### arguments -/
theorem qa_nil : QA X C [] tNil (fun ρ k => k [] ρ) := ⟨pa_nil, fun ρ ρx σ σx H S k Q hl st hw q => q [] ρ [] H S hl (by simpa [fzs] using st) hw⟩
def wCons (wa : WE) (wr : WA) : WA := fun ρ k => wa ρ fun x ρ1 => wr ρ1 fun ds ρ2 => k (x.toD :: ds) ρ2
theorem ok_cons {tr : TA} {wr : WA} (ha : OkE C ta wa) (hr : OkA C tr wr) : OkA C (tCons ta tr) (wCons wa wr) := by
  intro ρ ρx σ σx H S k Q hl st hw q
  refine ha ρ ρx σ σx H S _ _ hl st hw fun x ρ1 vx H1 S1 hl1 st1 hw1 => ?_
  obtain ⟨S1', st1⟩ := st1.lastD
  rw [List.append_assoc, List.append_assoc] at st1
  refine hr ρ1 (ρx ++ [some (.fz x.toD)]) σ (σx ++ [some vx]) H1 S1' _ _ hl1 st1 hw1 fun ds ρ2 vs H2 S2 hl2 st2 hk => ?_
  refine q (x.toD :: ds) ρ2 (vx :: vs) H2 S2 hl2 ?_ hk
  simpa [fzs] using st2
theorem qa_cons {es : List Expr} {tr : TA} {wr : WA} (ha : PD X C e t w) (hr : QA X C es tr wr) (hs : starEach (e :: es) X.env = (false, eval e X.env) :: starEach es X.env := by rfl) : QA X C (e :: es) (tCons t tr) (wCons w wr) :=
  ⟨pa_cons ha.pe hr.pa hs, ok_cons ha.ok hr.ok⟩
/-- the arguments' values -/
theorem Sta.args {H : Hp} {S : List Addr} : ∀ {ds : List D} {vs : List V} {ρ : Ev} {σ : St}, ρ.length = σ.length → Sta C (ρ ++ fzs ds) (σ ++ vs.map some) H S → Rps C.B (hid S H) vs ds
  | [], vs, ρ, σ, hl, st => by
    have := st.len
    simp [fzs, hl] at this
    rw [this]; rfl
  | d :: ds, [], ρ, σ, hl, st => by
    have := st.len
    simp [fzs, hl] at this
  | d :: ds, v :: vs, ρ, σ, hl, st => by
    have e1 : ρ ++ fzs (d :: ds) = (ρ ++ ([some (Sl.fz d)] : Ev)) ++ fzs ds := by simp [fzs]
    have e2 : σ ++ (v :: vs).map some = (σ ++ [some v]) ++ vs.map some := by simp
    rw [e1, e2] at st
    have hl' : (ρ ++ ([some (Sl.fz d)] : Ev)).length = (σ ++ [some v]).length := by simp [hl]
    exact ⟨v, vs, rfl, (st.drop hl').last hl, st.args hl'⟩
/-- what comes of arguments -/
abbrev PN := List D → (Sl → Prop) → Prop
def LiftN (C : Cxt) (r : List V → Hp → VK → Prop) (p : PN) : Prop := ∀ (ρ : Ev) (σ : St) (H : Hp) (S : List Addr) (ds : List D) (vs : List V) (k : Sl → Prop) (Q : VK), Sta C ρ σ H S → Rps C.B (hid S H) vs ds → p ds k →
  (∀ (s : Sl) (v : V) (H' : Hp) (S' : List Addr), Sta C (ρ ++ [some s]) (σ ++ [some v]) H' S' → k s → Q v H') → r vs H Q
def wArg (p : PN) (wa : WA) : WE := fun ρ k => wa ρ fun ds ρ1 => p ds fun z => k z ρ1
theorem ok_arg {r : List V → Hp → VK → Prop} {p : PN} {ta : TA} {wa : WA} (h : LiftN C r p) (ha : OkA C ta wa) : OkE C (tCB r ta) (wArg p wa) := by
  intro ρ ρx σ σx H S k Q hl st hw q
  refine ha ρ ρx σ σx H S _ _ hl st hw fun ds ρ1 vs H1 S1 hl1 st1 hp => ?_
  have lx : (ρ1 ++ ρx).length = (σ ++ σx).length := by have := st.len; simp only [List.length_append] at *; omega
  exact h (ρ1 ++ ρx) (σ ++ σx) H1 S1 ds vs _ Q (st1.drop lx) (st1.args lx) hp fun z v H' S' st' hk => q z ρ1 v H' S' hl1 st' hk
theorem pd_callB {es : List Expr} {x : Str} {id : String} {p0 : Pos} {r : List V → Hp → VK → Prop} {p : PN} {ta : TA} {wa : WA} (hc : CallR X (.builtin id) r) (h : LiftN C r p) (hg : Gl X x) (hm : X.mg x = none) (hv : bootBuiltins x = some (.builtin id)) (ha : QA X C (e :: es) ta wa)
    (hn : x ≠ "__name__" := by decide) (hdb : (x == ("__debug__" : Str)) = false := by decide) (he : starEach (e :: es) X.env = (false, eval e X.env) :: starEach es X.env := by rfl) (hpl : (backTo pos (starEach es X.env)).any (·.1) = false := by rfl) :
    PD X C (.Call (.Name x p0) (e :: es) [] pos) (tCB r ta) (wArg p wa) := ⟨pe_callB hc hg hm hv ha.pa hn hdb he hpl, ok_arg h ha.ok⟩
theorem pd_callTy {es : List Expr} {x : Str} {T : String} {p0 : Pos} {r : List V → Hp → VK → Prop} {p : PN} {ta : TA} {wa : WA} (hc : CallR X (.type T) r) (h : LiftN C r p) (hg : Gl X x) (hm : X.mg x = none) (hv : bootBuiltins x = some (.type T)) (ha : QA X C (e :: es) ta wa)
    (hn : x ≠ "__name__" := by decide) (hdb : (x == ("__debug__" : Str)) = false := by decide) (he : starEach (e :: es) X.env = (false, eval e X.env) :: starEach es X.env := by rfl) (hpl : (backTo pos (starEach es X.env)).any (·.1) = false := by rfl) :
    PD X C (.Call (.Name x p0) (e :: es) [] pos) (tCB r ta) (wArg p wa) := ⟨pe_callTy hc hg hm hv ha.pa hn hdb he hpl, ok_arg h ha.ok⟩
/-- one argument, which may be a list of one's own -/
theorem ok_arg1 {r : List V → Hp → VK → Prop} {p : P1} (h : Lift1 C (fun v H Q => r [v] H Q) p) (ha : OkB C ta wa) : OkE C (tCB r (tCons ta tNil)) (wUn p wa) := by
  show OkE C (tUn (fun v H Q => r [v] H Q) ta) (wUn p wa)
  exact ok_un h ha
theorem pd_callB1 {x : Str} {id : String} {p0 : Pos} {r : List V → Hp → VK → Prop} {p : P1} (hc : CallR X (.builtin id) r) (h : Lift1 C (fun v H Q => r [v] H Q) p) (hg : Gl X x) (hm : X.mg x = none) (hv : bootBuiltins x = some (.builtin id)) (ha : PB X C e t w)
    (hn : x ≠ "__name__" := by decide) (hdb : (x == ("__debug__" : Str)) = false := by decide) (he : starEach [e] X.env = (false, eval e X.env) :: starEach [] X.env := by rfl) (hpl : (backTo pos (starEach [] X.env)).any (·.1) = false := by rfl) :
    PD X C (.Call (.Name x p0) [e] [] pos) (tCB r (tCons t tNil)) (wUn p w) := ⟨pe_callB hc hg hm hv (pa_cons ha.pe pa_nil he) hn hdb he hpl, ok_arg1 h ha.ok⟩
theorem pd_callTy1 {x : Str} {T : String} {p0 : Pos} {r : List V → Hp → VK → Prop} {p : P1} (hc : CallR X (.type T) r) (h : Lift1 C (fun v H Q => r [v] H Q) p) (hg : Gl X x) (hm : X.mg x = none) (hv : bootBuiltins x = some (.type T)) (ha : PB X C e t w)
    (hn : x ≠ "__name__" := by decide) (hdb : (x == ("__debug__" : Str)) = false := by decide) (he : starEach [e] X.env = (false, eval e X.env) :: starEach [] X.env := by rfl) (hpl : (backTo pos (starEach [] X.env)).any (·.1) = false := by rfl) :
    PD X C (.Call (.Name x p0) [e] [] pos) (tCB r (tCons t tNil)) (wUn p w) := ⟨pe_callTy hc hg hm hv (pa_cons ha.pe pa_nil he) hn hdb he hpl, ok_arg1 h ha.ok⟩

/-! ### tests, and, or, not -/
def wYes (w : WE) : WT := fun ρ k => w ρ fun x ρ1 => match x with
  | .fz (.bl b) => k b ρ1
  | _ => False
theorem ok_tst (h : OkB C t w) : OkT C (tTest t) (wYes w) := by
  intro ρ ρx σ σx H S k Q hl st hw q
  refine h ρ ρx σ σx H S _ _ hl st hw fun x ρ1 v H1 S1 hl1 st1 ok hk => ?_
  split at hk
  · rename_i b
    obtain rfl : v = .bl b := ok
    exact ⟨b, rfl, q b ρ1 H1 S1 hl1 st1 hk⟩
  · exact hk.elim
theorem qt_val (h : PB X C e t w) (he : ∀ whole, isTrue e X.env whole = (do let v ← whole; standAt e.pos; holding [v] (truthy v)) := by intro _; rfl) : QT X C e (tB t) (wYes w) := ⟨pt_val h.pe he, ok_tst h.ok⟩
theorem qt_cmp {op : CmpOp} {r : R2} {p : P2} (ho : OpR X (compareOp op) r) (h : Lift2 C r p) (ha : PD X C a ta wa) (hb : PB X C bx tb wb) (hm : behindInMarks op bx = false) : QT X C (.Compare a [op] [bx] pos) (tTest (tOp r ta tb)) (wYes (wOp p wa wb)) :=
  ⟨pt_cmpR ho ha.pe hb.pe hm, ok_tst (ok_op h ha.ok hb.ok).b⟩
theorem qt_cmpV {op : CmpOp} {r : R2} {p : P2} (ho : OpR X (compareOp op) r) (h : Lift2 C r p) {i : Nat} (ha : PE X a (tVar i)) (hb : PB X C bx tb wb) (hm : behindInMarks op bx = false) : QT X C (.Compare a [op] [bx] pos) (tTest (tOp r (tVar i) tb)) (wYes (wOpV p i wb)) :=
  ⟨pt_cmpR ho ha hb.pe hm, ok_tst (ok_opV h hb.ok).b⟩
/-- truth -/
def truP : Sl → (Bool → Prop) → Prop
  | .fz .non, k => k false
  | .fz (.bl b), k => k b
  | .fz (.int i), k => k (i != 0)
  | .fz (.str y), k => y.length ≤ sizeLine ∧ k ((y.length : Int) != 0)
  | .fz (.lst ds), k => k (!ds.isEmpty)
  | .fz (.tup ds), k => k (!ds.isEmpty)
  | .fz (.dic ks _), k => k (!ks.isEmpty)
  | .ol ds, k => k (!ds.isEmpty)
  | .od ks _, k => k (!ks.isEmpty)
  | _, _ => False
theorem empty_of {xs : List V} {ds : List D} {B : Bk} {H : Hp} (h : Rps B H xs ds) : xs.isEmpty = ds.isEmpty := by
  have := h.len
  cases xs <;> cases ds <;> simp_all
theorem tru_of {S : List Addr} {H : Hp} {v : V} {s : Sl} {k : Bool → Prop} (ok : SlOk C S H v s) (h : truP s k) : ∃ b, TruV C.B.K v H b ∧ k b := by
  cases s with
  | ol ds =>
    obtain ⟨a, xs, rfl, _, _, e, _, r⟩ := ok
    exact ⟨_, .inl ⟨xs, SqL.of e, rfl⟩, by rw [empty_of r]; exact h⟩
  | od ks ds =>
    obtain ⟨a, kvs, rfl, _, _, e, _, rfl, r⟩ := ok
    refine ⟨_, .inr (.inr ⟨kvs, e, rfl⟩), ?_⟩
    have : kvs.isEmpty = (kvs.map (·.1)).isEmpty := by cases kvs <;> rfl
    rw [this]; exact h
  | fz d =>
    cases d with
    | non => obtain rfl : v = .non := ok; exact ⟨_, rfl, h⟩
    | bl b => obtain rfl : v = .bl b := ok; exact ⟨_, rfl, h⟩
    | int i => obtain rfl : v = .int i := ok; exact ⟨_, rfl, h⟩
    | str y => obtain rfl : v = .str y := ok; exact ⟨_, ⟨h.1, rfl⟩, h.2⟩
    | lst ds =>
      obtain ⟨a, xs, rfl, e, _, r⟩ := ok
      exact ⟨_, .inl ⟨xs, SqL.of (hid_some e).2, rfl⟩, by rw [empty_of r]; exact h⟩
    | tup ds =>
      obtain ⟨a, xs, rfl, e, _, r⟩ := ok
      exact ⟨_, .inr (.inl ⟨xs, sameT hid_same e, rfl⟩), by rw [empty_of r]; exact h⟩
    | dic ks ds =>
      obtain ⟨a, kvs, rfl, e, _, rfl, r⟩ := ok
      refine ⟨_, .inr (.inr ⟨kvs, (hid_some e).2, rfl⟩), ?_⟩
      have : kvs.isEmpty = (kvs.map (·.1)).isEmpty := by cases kvs <;> rfl
      rw [this]; exact h
    | raw _ => exact h.elim
    | bag => exact h.elim
    | obj _ _ _ => exact h.elim
    | lam _ _ _ _ => exact h.elim
def wTru (w : WE) : WT := fun ρ k => w ρ fun x ρ1 => truP x fun b => k b ρ1
def tTru (K : PySem.W.Frag) (t : TE) : TT := fun σ H Q => t σ H fun x H' => ∃ k, TruV K x H' k ∧ Q k H'
theorem qt_truth (F : Fit X C) (h : PB X C e t w) (he : ∀ whole, isTrue e X.env whole = (do let v ← whole; standAt e.pos; holding [v] (truthy v)) := by intro _; rfl) : QT X C e (tTru X.K t) (wTru w) := by
  refine ⟨pt_truth h.pe he, ?_⟩
  intro ρ ρx σ σx H S k Q hl st hw q
  refine h.ok ρ ρx σ σx H S _ _ hl st hw fun x ρ1 v H1 S1 hl1 st1 ok hk => ?_
  obtain ⟨b, h1, h2⟩ := tru_of ok hk
  rw [F.K] at h1
  exact ⟨b, h1, q b ρ1 H1 S1 hl1 st1 h2⟩
theorem qt_w {tt : TT} {w : WT} (h : QW X C e tt w) : QT X C e tt w := ⟨h.pw.pt, h.ok⟩
def wAnd (u w : WT) : WT := fun ρ k => u ρ fun c ρ1 => if c = true then w ρ1 k else k false ρ1
def wOr (u w : WT) : WT := fun ρ k => u ρ fun c ρ1 => if c = true then k true ρ1 else w ρ1 k
theorem ok_and {t1 t2 : TT} {w1 w2 : WT} (h1 : OkT C t1 w1) (h2 : OkT C t2 w2) : OkT C (tAnd t1 t2) (wAnd w1 w2) := by
  intro ρ ρx σ σx H S k Q hl st hw q
  refine h1 ρ ρx σ σx H S _ _ hl st hw fun c ρ1 H1 S1 hl1 st1 hk => ?_
  cases c with
  | true => exact h2 ρ1 ρx σ σx H1 S1 k Q hl1 st1 hk q
  | false => exact q false ρ1 H1 S1 hl1 st1 hk
theorem ok_or {t1 t2 : TT} {w1 w2 : WT} (h1 : OkT C t1 w1) (h2 : OkT C t2 w2) : OkT C (tOr t1 t2) (wOr w1 w2) := by
  intro ρ ρx σ σx H S k Q hl st hw q
  refine h1 ρ ρx σ σx H S _ _ hl st hw fun c ρ1 H1 S1 hl1 st1 hk => ?_
  cases c with
  | true => exact q true ρ1 H1 S1 hl1 st1 hk
  | false => exact h2 ρ1 ρx σ σx H1 S1 k Q hl1 st1 hk q
theorem qw_and1 {tt : TT} {w : WT} (h : QT X C e tt w) : QW X C (.BoolOp .And [e] pos) tt w := ⟨pw_and1 h.pt, h.ok⟩
theorem qw_or1 {tt : TT} {w : WT} (h : QT X C e tt w) : QW X C (.BoolOp .Or [e] pos) tt w := ⟨pw_or1 h.pt, h.ok⟩
theorem qw_and {t1 t2 : TT} {w1 w2 : WT} {rest : List Expr} (h : QT X C e t1 w1) (g : QW X C (.BoolOp .And (a :: rest) pos) t2 w2) : QW X C (.BoolOp .And (e :: a :: rest) pos) (tAnd t1 t2) (wAnd w1 w2) := ⟨pw_and h.pt g.pw, ok_and h.ok g.ok⟩
theorem qw_or {t1 t2 : TT} {w1 w2 : WT} {rest : List Expr} (h : QT X C e t1 w1) (g : QW X C (.BoolOp .Or (a :: rest) pos) t2 w2) : QW X C (.BoolOp .Or (e :: a :: rest) pos) (tOr t1 t2) (wOr w1 w2) := ⟨pw_or h.pt g.pw, ok_or h.ok g.ok⟩
def wNot (w : WT) : WT := fun ρ k => w ρ fun c ρ1 => k (!c) ρ1
theorem qt_not {tt : TT} {w : WT} (h : QT X C e tt w) : QT X C (.UnaryOp .Not e pos) (tNot tt) (wNot w) := ⟨pt_not h.pt, fun ρ ρx σ σx H S k Q hl st hw q => h.ok ρ ρx σ σx H S _ _ hl st hw fun c ρ1 H1 S1 hl1 st1 hk => q (!c) ρ1 H1 S1 hl1 st1 hk⟩
/-- a if c else b -/
def wIf (c : WT) (wa wb : WE) : WE := fun ρ k => c ρ fun b ρ1 => if b = true then wa ρ1 k else wb ρ1 k
theorem pd_if {c : Expr} {tc : TT} {wc : WT} (hc : QT X C c tc wc) (ha : PD X C a ta wa) (hb : PD X C bx tb wb) : PD X C (.IfExp c a bx pos) (tIf tc ta tb) (wIf wc wa wb) := ⟨pe_ifExp hc.pt ha.pe hb.pe, by
  intro ρ ρx σ σx H S k Q hl st hw q
  refine hc.ok ρ ρx σ σx H S _ _ hl st hw fun c ρ1 H1 S1 hl1 st1 hk => ?_
  cases c with
  | true => exact ha.ok ρ1 ρx σ σx H1 S1 k Q hl1 st1 hk q
  | false => exact hb.ok ρ1 ρx σ σx H1 S1 k Q hl1 st1 hk q⟩
/-- and, or of truth values -/
def wAndV (wa wb : WE) : WE := fun ρ k => wa ρ fun x ρ1 => match x with
  | .fz (.bl c) => if c = true then wb ρ1 k else k (.fz (.bl false)) ρ1
  | _ => False
def wOrV (wa wb : WE) : WE := fun ρ k => wa ρ fun x ρ1 => match x with
  | .fz (.bl c) => if c = true then k (.fz (.bl true)) ρ1 else wb ρ1 k
  | _ => False
theorem pd_one {op} (h : PD X C e t w) : PD X C (.BoolOp op [e] pos) t w := ⟨pe_one h.pe, h.ok⟩
theorem pd_and {rest : List Expr} (ha : PB X C a ta wa) (hb : PD X C (.BoolOp .And (bx :: rest) pos) tb wb) : PD X C (.BoolOp .And (a :: bx :: rest) pos) (tAndV ta tb) (wAndV wa wb) := ⟨pe_and ha.pe hb.pe, by
  intro ρ ρx σ σx H S k Q hl st hw q
  refine ha.ok ρ ρx σ σx H S _ _ hl st hw fun x ρ1 v H1 S1 hl1 st1 ok hk => ?_
  split at hk
  · rename_i c
    obtain rfl : v = .bl c := ok
    refine ⟨c, rfl, ?_⟩
    cases c with
    | true => exact hb.ok ρ1 ρx σ σx H1 S1 k Q hl1 st1 hk q
    | false => exact q (.fz (.bl false)) ρ1 _ H1 S1 hl1 (st1.pushF rfl) hk
  · exact hk.elim⟩
theorem pd_or {rest : List Expr} (ha : PB X C a ta wa) (hb : PD X C (.BoolOp .Or (bx :: rest) pos) tb wb) : PD X C (.BoolOp .Or (a :: bx :: rest) pos) (tOrV ta tb) (wOrV wa wb) := ⟨pe_or ha.pe hb.pe, by
  intro ρ ρx σ σx H S k Q hl st hw q
  refine ha.ok ρ ρx σ σx H S _ _ hl st hw fun x ρ1 v H1 S1 hl1 st1 ok hk => ?_
  split at hk
  · rename_i c
    obtain rfl : v = .bl c := ok
    refine ⟨c, rfl, ?_⟩
    cases c with
    | true => exact q (.fz (.bl true)) ρ1 _ H1 S1 hl1 (st1.pushF rfl) hk
    | false => exact hb.ok ρ1 ρx σ σx H1 S1 k Q hl1 st1 hk q
  · exact hk.elim⟩
/-- not e as a value, by truth -/
def wNotV (w : WE) : WE := fun ρ k => w ρ fun x ρ1 => truP x fun b => k (.fz (.bl (!b))) ρ1
theorem pd_not (F : Fit X C) (h : PB X C e t w) : PD X C (.UnaryOp .Not e pos) (tNotT X.K t) (wNotV w) := ⟨pe_notT h.pe, by
  intro ρ ρx σ σx H S k Q hl st hw q
  refine h.ok ρ ρx σ σx H S _ _ hl st hw fun x ρ1 v H1 S1 hl1 st1 ok hk => ?_
  obtain ⟨b, h1, h2⟩ := tru_of ok hk
  rw [F.K] at h1
  exact ⟨b, h1, q (.fz (.bl (!b))) ρ1 _ H1 S1 hl1 (st1.pushF rfl) h2⟩⟩
/-- a < b < c -/
def wChain (p p' : P2) (wa wb wc : WE) : WE := fun ρ k => wa ρ fun x ρ1 => wb ρ1 fun y ρ2 => p (.fz x.toD) (.fz y.toD) fun z => match z with
  | .fz (.bl b) => if b = true then wc ρ2 fun u ρ3 => p' (.fz y.toD) u fun z' => k z' ρ3 else k (.fz (.bl false)) ρ2
  | _ => False
end
end Q

set_option autoImplicit false
set_option linter.all false
/-! Q2: operators, built-in functions -/
namespace Q
open PySem L2
section
variable {C : Cxt} {S : List Addr} {H : Hp} {v : V} {s : Sl}
theorem SlOk.non (h : SlOk C S H v s) (e : s.toD = .non) : v = .non := by cases s <;> cases e; exact h
theorem SlOk.bl {b : Bool} (h : SlOk C S H v s) (e : s.toD = .bl b) : v = .bl b := by cases s <;> cases e; exact h
theorem SlOk.int {i : Int} (h : SlOk C S H v s) (e : s.toD = .int i) : v = .int i := by cases s <;> cases e; exact h
theorem SlOk.str {x : Str} (h : SlOk C S H v s) (e : s.toD = .str x) : v = .str x := by cases s <;> cases e; exact h
theorem SlOk.lst {ds : List D} (h : SlOk C S H v s) (e : s.toD = .lst ds) : ∃ a xs, v = .ref a ∧ H a = some (.lst xs) ∧ xs.length ≤ 1000000 ∧ Rps C.B (hid S H) xs ds := by
  cases s with
  | fz d => cases e; obtain ⟨a, xs, h1, h2, h3, h4⟩ := h; exact ⟨a, xs, h1, (hid_some h2).2, h3, h4⟩
  | ol es => cases e; obtain ⟨a, xs, h1, _, _, h2, h3, h4⟩ := h; exact ⟨a, xs, h1, h2, h3, h4⟩
  | od _ _ => cases e
theorem SlOk.tup {ds : List D} (h : SlOk C S H v s) (e : s.toD = .tup ds) : ∃ a xs, v = .ref a ∧ SqT C.B.K H a xs ∧ xs.length ≤ 1000000 ∧ Rps C.B (hid S H) xs ds := by
  cases s with
  | fz d => cases e; obtain ⟨a, xs, h1, h2, h3, h4⟩ := h; exact ⟨a, xs, h1, sameT hid_same h2, h3, h4⟩
  | ol es => cases e
  | od _ _ => cases e
/-- .. in the heap as it stands -/
theorem SlOk.rp (h : SlOk C S H v s) : Rp C.B H v s.toD := by
  cases s with
  | fz d => exact Rp.same hid_same d h
  | ol ds => obtain ⟨a, xs, h1, _, _, h2, h3, h4⟩ := h; exact ⟨a, xs, h1, h2, h3, Rps.same hid_same ds h4⟩
  | od ks ds => obtain ⟨a, kvs, h1, _, _, h2, h3, h4, h5⟩ := h; exact ⟨a, kvs, h1, h2, h3, h4, Rps.same hid_same ds h5⟩
end
theorem lim_line {n : Nat} (h : n ≤ 1000000) : n ≤ sizeLine := by rw [sizeLine_eq]; omega
theorem lim_lt {n : Nat} (h : n < 1000000) : n < sizeLine := by rw [sizeLine_eq]; omega
/-- the answer of an operator -/
abbrev Ans (C : Cxt) (ρ : Ev) (σ : St) (k : Sl → Prop) (Q : VK) : Prop := ∀ (s : Sl) (v : V) (H' : Hp) (S' : List Addr), Sta C (ρ ++ [some s]) (σ ++ [some v]) H' S' → k s → Q v H'
section
variable {C : Cxt} {ρ : Ev} {σ : St} {H : Hp} {S : List Addr} {k : Sl → Prop} {Q : VK}
theorem ans_int (st : Sta C ρ σ H S) (q : Ans C ρ σ k Q) {i : Int} (h : k (.fz (.int i))) : Q (.int i) H := q _ _ H S (st.pushF (d := .int i) rfl) h
theorem ans_bl (st : Sta C ρ σ H S) (q : Ans C ρ σ k Q) {i : Bool} (h : k (.fz (.bl i))) : Q (.bl i) H := q _ _ H S (st.pushF (d := .bl i) rfl) h
theorem ans_str (st : Sta C ρ σ H S) (q : Ans C ρ σ k Q) {i : Str} (h : k (.fz (.str i))) : Q (.str i) H := q _ _ H S (st.pushF (d := .str i) rfl) h
theorem ans_non (st : Sta C ρ σ H S) (q : Ans C ρ σ k Q) (h : k (.fz .non)) : Q .non H := q _ _ H S (st.pushF (d := .non) rfl) h
theorem ans_fz (st : Sta C ρ σ H S) (q : Ans C ρ σ k Q) {v : V} {d : D} (r : Rp C.B (hid S H) v d) (h : k (.fz d)) : Q v H := q _ _ H S (st.pushF r) h
theorem ans_ol (st : Sta C ρ σ H S) (q : Ans C ρ σ k Q) {xs : List V} {ds : List D} (hl : xs.length ≤ 1000000) (r : Rps C.B (hid S H) xs ds) (h : k (.ol ds)) (p : Addr) (hp : H p = none) : Q (.ref p) (upd H p (.lst xs)) :=
  q _ _ _ _ (st.pushL hp hl r) h
theorem ans_tup (st : Sta C ρ σ H S) (q : Ans C ρ σ k Q) {xs : List V} {ds : List D} (hl : xs.length ≤ 1000000) (r : Rps C.B (hid S H) xs ds) (h : k (.fz (.tup ds))) (p : Addr) (hp : H p = none) : Q (.ref p) (upd H p (.tup xs)) := by
  refine q (.fz (.tup ds)) _ _ _ ((st.new hp).pushF (d := .tup ds) ⟨p, xs, rfl, SqT.of ?_, hl, Rps.same (hid_new hp) ds r⟩) h
  rw [hid_ne (st.notS hp), upd_same]
end

/-! ### + - * // % ** - -/
def pAdd : P2 := fun x y k => match x.toD, y.toD with
  | .int i, .int j => k (.fz (.int (i + j)))
  | .str a, .str b => a.length + b.length ≤ sizeLine ∧ k (.fz (.str (a ++ b)))
  | .lst xs, .lst ys => xs.length + ys.length ≤ 1000000 ∧ k (.ol (xs ++ ys))
  | .tup xs, .tup ys => xs.length + ys.length ≤ 1000000 ∧ k (.fz (.tup (xs ++ ys)))
  | _, _ => False
def rAddA (K : PySem.W.Frag) : R2 := fun x y H Q => rI0 (fun i j => .int (i + j)) x y H Q ∨ (∃ i j, x = .str i ∧ y = .str j ∧ i.length + j.length ≤ sizeLine ∧ Q (.str (i ++ j)) H) ∨ rCat x y H Q ∨ rCatA K x y H Q
theorem op_addA {X : Cx} : OpR X (binaryOp .Add) (rAddA X.K) := op_add.or (op_add_str.or (op_cat.or op_catA))
theorem l_add {X : Cx} {C : Cxt} (F : Fit X C) : Lift2 C (rAddA X.K) pAdd := by
  intro ρ σ H S x y vx vy k Q st ox oy h q
  unfold pAdd at h
  split at h
  · rename_i i j e1 e2
    exact .inl ⟨i, j, ox.int e1, oy.int e2, ans_int st q h⟩
  · rename_i a b e1 e2
    exact .inr (.inl ⟨a, b, ox.str e1, oy.str e2, h.1, ans_str st q h.2⟩)
  · rename_i xs ys e1 e2
    obtain ⟨a, us, rfl, h1, h2, h3⟩ := ox.lst e1
    obtain ⟨b, ws, rfl, g1, g2, g3⟩ := oy.lst e2
    have l1 := h3.len
    have l2 := g3.len
    refine .inr (.inr (.inl ⟨a, b, us, ws, rfl, rfl, h1, g1, lim_line (by omega), fun p hp => ?_⟩))
    exact ans_ol st q (by rw [List.length_append]; omega) (h3.app g3) h.2 p hp
  · rename_i xs ys e1 e2
    obtain ⟨a, us, rfl, h1, h2, h3⟩ := ox.tup e1
    obtain ⟨b, ws, rfl, g1, g2, g3⟩ := oy.tup e2
    have l1 := h3.len
    have l2 := g3.len
    rw [F.K] at h1 g1
    refine .inr (.inr (.inr ⟨a, b, us, ws, rfl, rfl, h1, g1, lim_line (by omega), fun z => ?_, fun z z' => ?_, fun z z' p hp => ?_⟩))
    · subst z
      have : xs = [] := List.eq_nil_of_length_eq_zero (by simpa using l1.symm)
      subst this
      cases y with
      | ol _ => cases e2
      | od _ _ => cases e2
      | fz d => cases e2; exact ans_fz st q oy h.2
    · subst z'
      have : ys = [] := List.eq_nil_of_length_eq_zero (by simpa using l2.symm)
      subst this
      rw [List.append_nil] at h
      cases x with
      | ol _ => cases e1
      | od _ _ => cases e1
      | fz d => cases e1; exact ans_fz st q ox h.2
    · exact ans_tup st q (by rw [List.length_append]; omega) (h3.app g3) h.2 p hp
  · exact h.elim
def pI2 (P : Int → Int → Prop) (g : Int → Int → D) : P2 := fun x y k => match x.toD, y.toD with
  | .int i, .int j => P i j ∧ k (.fz (g i j))
  | _, _ => False
theorem l_I {C : Cxt} {P P' : Int → Int → Prop} {g : Int → Int → Int} (hp : ∀ i j, P i j → P' i j) : Lift2 C (rI P' fun i j => .int (g i j)) (pI2 P fun i j => .int (g i j)) := by
  intro ρ σ H S x y vx vy k Q st ox oy h q
  unfold pI2 at h
  split at h
  · rename_i i j e1 e2
    exact ⟨i, j, ox.int e1, oy.int e2, hp _ _ h.1, ans_int st q h.2⟩
  · exact h.elim
def pSub : P2 := fun x y k => match x.toD, y.toD with
  | .int i, .int j => k (.fz (.int (i - j)))
  | _, _ => False
theorem l_sub {C : Cxt} : Lift2 C (rI0 fun i j => .int (i - j)) pSub := by
  intro ρ σ H S x y vx vy k Q st ox oy h q
  unfold pSub at h
  split at h
  · rename_i i j e1 e2
    exact ⟨i, j, ox.int e1, oy.int e2, ans_int st q h⟩
  · exact h.elim
/-- a product: numbers together below 2 ^ 27 bits; a list some times -/
def pMul : P2 := fun x y k => match x.toD, y.toD with
  | .int i, .int j => CMulX i j ∧ k (.fz (.int (i * j)))
  | .lst xs, .int j => (j < 2 ^ 62 ∧ -(2 ^ 62) < j) ∧ xs.length * j.toNat ≤ 1000000 ∧ k (.ol (List.replicate j.toNat xs).flatten)
  | _, _ => False
theorem op_mulA {X : Cx} : OpR X (binaryOp .Mult) (fun x y H Q => rI CMulX (fun i j => .int (i * j)) x y H Q ∨ rRep x y H Q) := op_mulX.or op_rep
theorem l_mul {C : Cxt} : Lift2 C (fun x y H Q => rI CMulX (fun i j => .int (i * j)) x y H Q ∨ rRep x y H Q) pMul := by
  intro ρ σ H S x y vx vy k Q st ox oy h q
  unfold pMul at h
  split at h
  · rename_i i j e1 e2
    exact .inl ⟨i, j, ox.int e1, oy.int e2, h.1, ans_int st q h.2⟩
  · rename_i xs j e1 e2
    obtain ⟨a, us, rfl, h1, h2, h3⟩ := ox.lst e1
    obtain rfl := oy.int e2
    have l1 := h3.len
    have e : us.length * j.toNat ≤ 1000000 := by rw [l1]; exact h.2.1
    refine .inr ⟨a, j, us, rfl, rfl, h1, by omega, by omega, lim_line e, fun p hp => ?_⟩
    refine ans_ol st q ?_ (h3.rep _) h.2.2 p hp
    rw [List.length_flatten, List.map_replicate, List.sum_replicate_nat, Nat.mul_comm]
    exact e
  · exact h.elim
/-- // by any divisor below 2 ^ 9000 in size -/
def DivOk (j : Int) : Prop := j ≠ 0 ∧ j.natAbs.log2 < 9000
theorem noPy {j : Int} (h : DivOk j) : ∀ i : Int, Builtin.divisionGoesByPylong i j = false := fun i => PyProof.noPylong_of_log2 h.2
theorem op_fdivA {X : Cx} : OpR X (binaryOp .FloorDiv) (rI (fun _ j => DivOk j) fun i j => .int (i.fdiv j)) := opI fun i j _ _ _ _ _ hc q => PyProof.Rows.floordiv_int hc.1 q (.inl (PyProof.noPylong_of_log2 hc.2))
abbrev pFdiv : P2 := pI2 (fun _ j => DivOk j) fun i j => .int (i.fdiv j)
theorem l_fdiv {C : Cxt} : Lift2 C (rI (fun _ j => DivOk j) fun i j => .int (i.fdiv j)) pFdiv := l_I fun _ _ h => h
abbrev pMod : P2 := pI2 (fun _ j => j ≠ 0) fun i j => .int (i.fmod j)
theorem l_mod {C : Cxt} : Lift2 C (rI (fun _ j => j ≠ 0) fun i j => .int (i.fmod j)) pMod := l_I fun _ _ h => h
abbrev pPow : P2 := pI2 CPow fun i j => .int (i ^ j.toNat)
theorem l_pow {C : Cxt} : Lift2 C (rI CPow fun i j => .int (i ^ j.toNat)) pPow := l_I fun _ _ h => h
def pNeg : P1 := fun x k => match x.toD with
  | .int i => k (.fz (.int (-i)))
  | _ => False
theorem l_neg {C : Cxt} : Lift1 C (rU fun i => .int (-i)) pNeg := by
  intro ρ σ H S x vx k Q st ox h q
  unfold pNeg at h
  split at h
  · rename_i i e
    exact ⟨i, ox.int e, ans_int st q h⟩
  · exact h.elim

/-! ### comparisons -/
/-- of numbers or of texts -/
def pOrd (f : Int → Int → Bool) (g : List Nat → List Nat → Bool) : P2 := fun x y k => match x.toD, y.toD with
  | .int i, .int j => k (.fz (.bl (f i j)))
  | .str a, .str b => k (.fz (.bl (g a.cps.toList b.cps.toList)))
  | _, _ => False
def rOrd (f : Int → Int → Bool) (g : List Nat → List Nat → Bool) : R2 := fun x y H Q => rI0 (fun i j => .bl (f i j)) x y H Q ∨ ∃ i j, x = .str i ∧ y = .str j ∧ Q (.bl (g i.cps.toList j.cps.toList)) H
theorem l_ord {C : Cxt} {f : Int → Int → Bool} {g : List Nat → List Nat → Bool} : Lift2 C (rOrd f g) (pOrd f g) := by
  intro ρ σ H S x y vx vy k Q st ox oy h q
  unfold pOrd at h
  split at h
  · rename_i i j e1 e2
    exact .inl ⟨i, j, ox.int e1, oy.int e2, ans_bl st q h⟩
  · rename_i a b e1 e2
    exact .inr ⟨a, b, ox.str e1, oy.str e2, ans_bl st q h⟩
  · exact h.elim
abbrev fLt (i j : Int) : Bool := decide (i < j)
abbrev fLe (i j : Int) : Bool := decide (i ≤ j)
abbrev fGt (i j : Int) : Bool := decide (j < i)
abbrev fGe (i j : Int) : Bool := decide (j ≤ i)
abbrev gLt (i j : List Nat) : Bool := decide (i < j)
abbrev gLe (i j : List Nat) : Bool := !decide (j < i)
abbrev gGt (i j : List Nat) : Bool := decide (j < i)
abbrev gGe (i j : List Nat) : Bool := !decide (i < j)
abbrev pLt : P2 := pOrd fLt gLt
abbrev pLe : P2 := pOrd fLe gLe
abbrev pGt : P2 := pOrd fGt gGt
abbrev pGe : P2 := pOrd fGe gGe
theorem op_ltA {X : Cx} : OpR X (compareOp .Lt) (rOrd fLt gLt) := op_lt.or op_lt_str
theorem op_leA {X : Cx} : OpR X (compareOp .LtE) (rOrd fLe gLe) := op_le.or op_le_str
theorem op_gtA {X : Cx} : OpR X (compareOp .Gt) (rOrd fGt gGt) := op_gt.or op_gt_str
theorem op_geA {X : Cx} : OpR X (compareOp .GtE) (rOrd fGe gGe) := op_ge.or op_ge_str
mutual
/-- data without objects, dicts, other values -/
def plain : D → Bool
  | .non => true
  | .bl _ => true
  | .int _ => true
  | .str x => PyData.strOk x
  | .lst ds => plains ds
  | .tup ds => plains ds
  | _ => false
def plains : List D → Bool
  | [] => true
  | d :: ds => plain d && plains ds
end
mutual
def dep : D → Nat
  | .lst ds => depL ds + 1
  | .tup ds => depL ds + 1
  | _ => 0
def depL : List D → Nat
  | [] => 0
  | d :: ds => max (dep d) (depL ds)
end
mutual
def toP : D → PyData
  | .bl b => .bool b
  | .int i => .int i
  | .str x => .str x
  | .lst ds => .list (toPs ds)
  | .tup ds => .tuple (toPs ds)
  | _ => .none
def toPs : List D → List PyData
  | [] => []
  | d :: ds => toP d :: toPs ds
end
mutual
theorem dp_of {B : Bk} {H : Hp} : ∀ {v : V} (d : D), Rp B H v d → plain d = true → Dp B.K H v (toP d)
  | _, .non, h, _ => by rw [show _ = V.non from h]; exact .non
  | _, .bl _, h, _ => by rw [show _ = V.bl _ from h]; exact .bl _
  | _, .int _, h, _ => by rw [show _ = V.int _ from h]; exact .int _
  | _, .str _, h, _ => by rw [show _ = V.str _ from h]; exact .str _
  | _, .lst ds, h, p => by obtain ⟨a, xs, rfl, h2, _, h4⟩ := h; exact .lst (SqL.of h2) (dps_of ds h4 p)
  | _, .tup ds, h, p => by obtain ⟨a, xs, rfl, h2, _, h4⟩ := h; exact .tup h2 (dps_of ds h4 p)
  | _, .raw _, _, p => by cases p
  | _, .bag, _, p => by cases p
  | _, .obj _ _ _, _, p => by cases p
  | _, .dic _ _, _, p => by cases p
  | _, .lam _ _ _ _, _, p => by cases p
theorem dps_of {B : Bk} {H : Hp} : ∀ {xs : List V} (ds : List D), Rps B H xs ds → plains ds = true → DpAll B.K H xs (toPs ds)
  | _, [], h, _ => by rw [show _ = [] from h]; exact .nil
  | _, d :: ds, h, p => by
    obtain ⟨x, r, rfl, h2, h3⟩ := h
    have p : (plain d && plains ds) = true := p
    rw [Bool.and_eq_true] at p
    exact .cons (dp_of d h2 p.1) (dps_of ds h3 p.2)
end
mutual
theorem lay_of : ∀ (d : D), plain d = true → (toP d).canLay0 = true
  | .non, _ => rfl
  | .bl _, _ => rfl
  | .int _, _ => rfl
  | .str _, p => p
  | .lst ds, p => by show PyData.canLay0 (.list (toPs ds)) = true; unfold PyData.canLay0; exact lays_of ds p
  | .tup ds, p => by show PyData.canLay0 (.tuple (toPs ds)) = true; unfold PyData.canLay0; exact lays_of ds p
  | .raw _, p => by cases p
  | .bag, p => by cases p
  | .obj _ _ _, p => by cases p
  | .dic _ _, p => by cases p
  | .lam _ _ _ _, p => by cases p
theorem lays_of : ∀ (ds : List D), plains ds = true → PyData.canLayAll0 (toPs ds) = true
  | [], _ => rfl
  | d :: ds, p => by
    have p : (plain d && plains ds) = true := p
    rw [Bool.and_eq_true] at p
    show PyData.canLayAll0 (toP d :: toPs ds) = true
    unfold PyData.canLayAll0
    rw [lay_of d p.1, lays_of ds p.2]
    rfl
end
mutual
theorem pdep_of : ∀ (d : D), (toP d).depth = dep d
  | .non => rfl
  | .bl _ => rfl
  | .int _ => rfl
  | .str _ => rfl
  | .lst ds => by show PyData.depth (.list (toPs ds)) = depL ds + 1; unfold PyData.depth; rw [pdeps_of ds]
  | .tup ds => by show PyData.depth (.tuple (toPs ds)) = depL ds + 1; unfold PyData.depth; rw [pdeps_of ds]
  | .raw _ => rfl
  | .bag => rfl
  | .obj _ _ _ => rfl
  | .dic _ _ => rfl
  | .lam _ _ _ _ => rfl
theorem pdeps_of : ∀ (ds : List D), PyData.depthAll (toPs ds) = depL ds
  | [] => rfl
  | d :: ds => by show PyData.depthAll (toP d :: toPs ds) = max (dep d) (depL ds); unfold PyData.depthAll; rw [pdep_of d, pdeps_of ds]
end
def okD (d : D) : Prop := plain d = true ∧ dep d ≤ 60
theorem shaped_of {d : D} (h : okD d) : SeqAt.shaped (toP d) = true := by
  unfold SeqAt.shaped
  rw [lay_of d h.1, pdep_of, decide_eq_true (by have := h.2; omega)]
  rfl
def eqD (x y : D) : Bool := PyData.eqv (toP x) (toP y)
/-- what == takes as it is -/
def scalD : D → D → Bool
  | .non, .non => true | .non, .int _ => true | .int _, .non => true | .non, .bl _ => true | .bl _, .non => true | .non, .str _ => true | .str _, .non => true
  | .int _, .int _ => true | .bl _, .bl _ => true | .str _, .str _ => true
  | .int _, .str _ => true | .str _, .int _ => true | .bl _, .str _ => true | .str _, .bl _ => true
  | _, _ => false
def pEqF (f : Bool → Bool) : P2 := fun x y k => (scalD x.toD y.toD = false → okD x.toD ∧ okD y.toD) ∧ k (.fz (.bl (f (eqD x.toD y.toD))))
abbrev pEq : P2 := pEqF id
abbrev pNe : P2 := pEqF not
theorem SlOk.dp {C : Cxt} {S : List Addr} {H : Hp} {v : V} {s : Sl} (h : SlOk C S H v s) (p : okD s.toD) : Dp C.B.K H v (toP s.toD) := dp_of _ h.rp p.1
theorem scal_V {B : Bk} {H : Hp} {v u : V} {d e : D} (h : Rp B H v d) (g : Rp B H u e) (z : scalD d e = true) : scal v u = true ∧ decide (v = u) = eqD d e := by
  cases d <;> first
    | (cases z; done)
    | (unfold Rp at h
       subst h
       cases e <;> first
         | (cases z; done)
         | (unfold Rp at g
            subst g
            refine ⟨rfl, ?_⟩
            simp only [eqD, toP, PyData.eqv]
            first
              | rfl
              | (simp; done)
              | exact (Bool.beq_eq_decide_eq _ _).symm
              | (rw [Bool.eq_iff_iff]; simp; done))
         | skip)
    | skip
def rEqA (K : PySem.W.Frag) : R2 := fun x y H Q => rEq x y H Q ∨ rEqD K x y H Q
def rNeA (K : PySem.W.Frag) : R2 := fun x y H Q => rNe x y H Q ∨ rNeD K x y H Q
theorem op_eqA {X : Cx} (hu : X.A.units + 64 < cLine) : OpR X (compareOp .Eq) (rEqA X.K) := op_eq.or (op_eqD hu)
theorem op_neA {X : Cx} (hu : X.A.units + 64 < cLine) : OpR X (compareOp .NotEq) (rNeA X.K) := op_ne.or (op_neD hu)
theorem l_eq {X : Cx} {C : Cxt} (F : Fit X C) : Lift2 C (rEqA X.K) pEq := by
  intro ρ σ H S x y vx vy k Q st ox oy h q
  rw [← F.K]
  cases z : scalD x.toD y.toD with
  | true =>
    obtain ⟨z1, z2⟩ := scal_V ox.rp oy.rp z
    exact .inl ⟨z1, by rw [z2]; exact ans_bl st q h.2⟩
  | false =>
    obtain ⟨h1, h2⟩ := h.1 z
    exact .inr ⟨_, _, ox.dp h1, oy.dp h2, shaped_of h1, shaped_of h2, ans_bl st q h.2⟩
theorem l_ne {X : Cx} {C : Cxt} (F : Fit X C) : Lift2 C (rNeA X.K) pNe := by
  intro ρ σ H S x y vx vy k Q st ox oy h q
  rw [← F.K]
  cases z : scalD x.toD y.toD with
  | true =>
    obtain ⟨z1, z2⟩ := scal_V ox.rp oy.rp z
    exact .inl ⟨z1, by rw [z2]; exact ans_bl st q h.2⟩
  | false =>
    obtain ⟨h1, h2⟩ := h.1 z
    exact .inr ⟨_, _, ox.dp h1, oy.dp h2, shaped_of h1, shaped_of h2, ans_bl st q h.2⟩
/-- in a list of data, in a tuple of scalars, a sign in a text -/
def D.flat : D → Bool
  | .non => true
  | .bl _ => true
  | .int _ => true
  | .str _ => true
  | _ => false
def inD (x : D) (ds : List D) : Bool := ds.any fun z => eqD z x
def pIn (f : Bool → Bool) : P2 := fun x y k => match y.toD with
  | .lst ds => okD x.toD ∧ okD (.lst ds) ∧ k (.fz (.bl (f (inD x.toD ds))))
  | .tup ds => x.toD.flat = true ∧ ds.all D.flat = true ∧ k (.fz (.bl (f (inD x.toD ds))))
  | .str z => match x.toD with
    | .str c => c.length = 1 ∧ k (.fz (.bl (f (decide (c.cps.getD 0 0 ∈ z.cps.toList)))))
    | _ => False
  | _ => False
theorem toPs_map : ∀ ds : List D, toPs ds = ds.map toP
  | [] => rfl
  | d :: ds => by rw [toPs, toPs_map ds]; rfl
theorem flat_V {B : Bk} {H : Hp} {v : V} {d : D} (h : Rp B H v d) (f : d.flat = true) : flatV v = true := by
  cases d <;> first
    | (cases f; done)
    | (unfold Rp at h
       subst h
       rfl)
theorem flats_V {B : Bk} {H : Hp} : ∀ {xs : List V} {ds : List D}, Rps B H xs ds → ds.all D.flat = true → xs.all flatV = true
  | _, [], h, _ => by rw [show _ = [] from h]; rfl
  | _, d :: ds, h, f => by
    obtain ⟨x, r, rfl, h2, h3⟩ := h
    rw [List.all_cons, Bool.and_eq_true] at f
    rw [List.all_cons, flat_V h2 f.1, flats_V h3 f.2]
    rfl
theorem eqV_D {B : Bk} {H : Hp} {v u : V} {d e : D} (h : Rp B H v d) (g : Rp B H u e) (f : d.flat = true) (f' : e.flat = true) : eqV v u = eqD d e := by
  cases d <;> first
    | (cases f; done)
    | (unfold Rp at h
       subst h
       cases e <;> first
         | (cases f'; done)
         | (unfold Rp at g
            subst g
            simp only [eqD, toP, PyData.eqv, eqV]))
theorem inV_D {B : Bk} {H : Hp} {v : V} {d : D} (h : Rp B H v d) (f : d.flat = true) : ∀ {xs : List V} {ds : List D}, Rps B H xs ds → ds.all D.flat = true → inV v xs = inD d ds
  | _, [], g, _ => by rw [show _ = [] from g]; rfl
  | _, e :: ds, g, f' => by
    obtain ⟨x, r, rfl, h2, h3⟩ := g
    rw [List.all_cons, Bool.and_eq_true] at f'
    show (eqV x v || inV v r) = (eqD e d || inD d ds)
    rw [eqV_D h2 h f'.1 f, inV_D h f h3 f'.2]
end Q

set_option autoImplicit false
set_option linter.all false
/-! Q3: in, is, subscripts, slices, built-in functions, methods of texts -/
namespace Q
open PySem L2
/-! ### in, is -/
def rInA (K : PySem.W.Frag) : R2 := fun x y H Q => rInD K x y H Q ∨ rIn K false x y H Q ∨ ∃ (c : Nat) (z : Str), x = .str ⟨#[c]⟩ ∧ y = .str z ∧ Q (.bl (decide (c ∈ z.cps.toList))) H
def rNotInA (K : PySem.W.Frag) : R2 := fun x y H Q => rNotInD K x y H Q ∨ rIn K true x y H Q ∨ ∃ (c : Nat) (z : Str), x = .str ⟨#[c]⟩ ∧ y = .str z ∧ Q (.bl (!decide (c ∈ z.cps.toList))) H
theorem op_inA {X : Cx} (hu : X.A.units + 65 < cLine) : OpR X (compareOp .In) (rInA X.K) := (op_inD hu).or (op_in_seq.or op_in_sign)
theorem op_notInA {X : Cx} (hu : X.A.units + 65 < cLine) : OpR X (compareOp .NotIn) (rNotInA X.K) := (op_notInD hu).or (op_notIn_seq.or op_notIn_sign)
theorem any_toPs (d : D) : ∀ ds : List D, (toPs ds).any (fun z => PyData.eqv z (toP d)) = inD d ds
  | [] => rfl
  | e :: ds => by
    show (PyData.eqv (toP e) (toP d) || (toPs ds).any _) = (eqD e d || inD d ds)
    rw [any_toPs d ds]
    rfl
theorem sign_of {c : Str} (h : c.length = 1) : c = ⟨#[c.cps.getD 0 0]⟩ := by
  obtain ⟨⟨l⟩⟩ := c
  cases l with
  | nil => cases h
  | cons x l =>
    cases l with
    | nil => rfl
    | cons y l =>
      exfalso
      have : (x :: y :: l).length = 1 := h
      simp at this
theorem l_in {X : Cx} {C : Cxt} (F : Fit X C) : Lift2 C (rInA X.K) (pIn id) := by
  intro ρ σ H S x y vx vy k Q st ox oy h q
  rw [← F.K]
  unfold pIn at h
  split at h
  · rename_i ds e
    refine .inl ⟨toP x.toD, toPs ds, ox.dp h.1, ?_, shaped_of h.1, ?_, ?_⟩
    · have := oy.dp (e ▸ h.2.1); rw [e] at this; exact this
    · exact shaped_of (d := .lst ds) h.2.1
    · rw [any_toPs]; exact ans_bl st q h.2.2
  · rename_i ds e
    obtain ⟨b, us, rfl, g1, g2, g3⟩ := oy.tup e
    refine .inr (.inl ⟨b, us, rfl, .inr g1, flat_V ox.rp h.1, flats_V g3 h.2.1, ?_⟩)
    rw [inV_D (Rp.same (hid_same (S := [])) _ (by rw [show hid [] H = H from by funext a; rfl]; exact ox.rp)) h.1 (Rps.same hid_same _ g3) h.2.1]
    exact ans_bl st q h.2.2
  · rename_i z e
    split at h
    · rename_i c e'
      rw [ox.str e', oy.str e]
      refine .inr (.inr ⟨c.cps.getD 0 0, z, congrArg V.str (sign_of h.1), rfl, ans_bl st q h.2⟩)
    · exact h.elim
  · exact h.elim
theorem l_notIn {X : Cx} {C : Cxt} (F : Fit X C) : Lift2 C (rNotInA X.K) (pIn not) := by
  intro ρ σ H S x y vx vy k Q st ox oy h q
  rw [← F.K]
  unfold pIn at h
  split at h
  · rename_i ds e
    refine .inl ⟨toP x.toD, toPs ds, ox.dp h.1, ?_, shaped_of h.1, ?_, ?_⟩
    · have := oy.dp (e ▸ h.2.1); rw [e] at this; exact this
    · exact shaped_of (d := .lst ds) h.2.1
    · rw [any_toPs]; exact ans_bl st q h.2.2
  · rename_i ds e
    obtain ⟨b, us, rfl, g1, g2, g3⟩ := oy.tup e
    refine .inr (.inl ⟨b, us, rfl, .inr g1, flat_V ox.rp h.1, flats_V g3 h.2.1, ?_⟩)
    rw [inV_D (Rp.same (hid_same (S := [])) _ (by rw [show hid [] H = H from by funext a; rfl]; exact ox.rp)) h.1 (Rps.same hid_same _ g3) h.2.1]
    exact ans_bl st q h.2.2
  · rename_i z e
    split at h
    · rename_i c e'
      rw [ox.str e', oy.str e]
      refine .inr (.inr ⟨c.cps.getD 0 0, z, congrArg V.str (sign_of h.1), rfl, ans_bl st q h.2⟩)
    · exact h.elim
  · exact h.elim
def isNon : D → Bool
  | .non => true
  | _ => false
def D.told : D → Bool
  | .raw _ => false
  | _ => true
def pIs (f : Bool → Bool) : P2 := fun x y k => match y.toD with
  | .non => x.toD.told = true ∧ k (.fz (.bl (f (isNon x.toD))))
  | .bl b => match x.toD with
    | .bl a => k (.fz (.bl (f (decide (a = b)))))
    | _ => False
  | _ => False
theorem non_V {B : Bk} {H : Hp} {v : V} {d : D} (h : Rp B H v d) (t : d.told = true) : decide (v = .non) = isNon d := by
  cases d with
  | raw _ => cases t
  | non => rw [show v = _ from h]; rfl
  | bl _ => rw [show v = _ from h]; rfl
  | int _ => rw [show v = _ from h]; rfl
  | str _ => rw [show v = _ from h]; rfl
  | bag => rw [show v = _ from h]; rfl
  | lst _ => obtain ⟨a, _, rfl, _⟩ := h; rfl
  | tup _ => obtain ⟨a, _, rfl, _⟩ := h; rfl
  | obj _ _ _ => obtain ⟨a, _, _, _, rfl, _⟩ := h; rfl
  | dic _ _ => obtain ⟨a, _, rfl, _⟩ := h; rfl
  | lam _ _ _ _ => obtain ⟨f, rfl, _⟩ := h; rfl
def rIsA : R2 := fun x y H Q => (y = .non ∧ Q (.bl (decide (x = .non))) H) ∨ rIsB x y H Q
def rNotIsA : R2 := fun x y H Q => (y = .non ∧ Q (.bl (!decide (x = .non))) H) ∨ rNotB x y H Q
theorem op_isA {X : Cx} : OpR X (compareOp .Is) rIsA := op_isN.or op_isBl
theorem op_isNotA {X : Cx} : OpR X (compareOp .IsNot) rNotIsA := op_notN.or op_notBl
theorem l_is {C : Cxt} : Lift2 C rIsA (pIs id) := by
  intro ρ σ H S x y vx vy k Q st ox oy h q
  unfold pIs at h
  split at h
  · rename_i e
    refine .inl ⟨oy.non e, ?_⟩
    rw [non_V ox.rp h.1]
    exact ans_bl st q h.2
  · rename_i b e
    split at h
    · rename_i a e'
      exact .inr ⟨a, b, ox.bl e', oy.bl e, ans_bl st q h⟩
    · exact h.elim
  · exact h.elim
theorem l_isNot {C : Cxt} : Lift2 C rNotIsA (pIs not) := by
  intro ρ σ H S x y vx vy k Q st ox oy h q
  unfold pIs at h
  split at h
  · rename_i e
    refine .inl ⟨oy.non e, ?_⟩
    rw [non_V ox.rp h.1]
    exact ans_bl st q h.2
  · rename_i b e
    split at h
    · rename_i a e'
      exact .inr ⟨a, b, ox.bl e', oy.bl e, ans_bl st q h⟩
    · exact h.elim
  · exact h.elim

/-! ### subscripts, slices -/
def pIx : P2 := fun x y k => match x.toD, y.toD with
  | .lst ds, .int i => ∃ d, atI ds i = some d ∧ k (.fz d)
  | .tup ds, .int i => ∃ d, atI ds i = some d ∧ k (.fz d)
  | .str z, .int i => z.length ≤ sizeLine ∧ ∃ c, atI z.cps.toList i = some c ∧ k (.fz (.str ⟨#[c]⟩))
  | _, _ => False
theorem atI_of {B : Bk} {H : Hp} {xs : List V} {ds : List D} {i : Int} {d : D} (r : Rps B H xs ds) (h : atI ds i = some d) : ∃ x, atI xs i = some x ∧ Rp B H x d := by
  unfold atI at *
  rw [r.len]
  cases e : ixN ds.length i with
  | none => rw [e] at h; cases h
  | some j =>
    rw [e] at h
    exact r.of h
theorem l_ix {X : Cx} {C : Cxt} (F : Fit X C) : Lift2 C (rIx X.K) pIx := by
  intro ρ σ H S x y vx vy k Q st ox oy h q
  rw [← F.K]
  unfold pIx at h
  split at h
  · rename_i ds i e1 e2
    obtain ⟨d, h1, h2⟩ := h
    obtain ⟨a, us, rfl, g1, _, g3⟩ := ox.lst e1
    obtain ⟨u, u1, u2⟩ := atI_of g3 h1
    exact .inl ⟨a, us, i, u, rfl, oy.int e2, SqL.of g1, u1, ans_fz st q u2 h2⟩
  · rename_i ds i e1 e2
    obtain ⟨d, h1, h2⟩ := h
    obtain ⟨a, us, rfl, g1, _, g3⟩ := ox.tup e1
    obtain ⟨u, u1, u2⟩ := atI_of g3 h1
    exact .inr (.inl ⟨a, us, i, u, rfl, oy.int e2, g1, u1, ans_fz st q u2 h2⟩)
  · rename_i z i e1 e2
    obtain ⟨h0, c, h1, h2⟩ := h
    exact .inr (.inr ⟨z, i, c, ox.str e1, oy.int e2, h0, h1, ans_str st q h2⟩)
  · exact h.elim
/-- a part of a slice: nothing, or a number -/
structure QO (X : Cx) (C : Cxt) (e : Option Expr) (t : TO) (w : Ev → (Option Int → Ev → Prop) → Prop) : Prop where
  po : PO X e t
  ok : ∀ (ρ ρx : Ev) (σ σx : St) (H : Hp) (S : List Addr) (k : Option Int → Ev → Prop) (Q : Option Int → Hp → Prop), ρ.length = σ.length → Sta C (ρ ++ ρx) (σ ++ σx) H S → w ρ k →
    (∀ (o : Option Int) (ρ' : Ev) (H' : Hp) (S' : List Addr), ρ'.length = σ.length → Sta C (ρ' ++ ρx) (σ ++ σx) H' S' → k o ρ' → Q o H') → t σ H Q
section
variable {X : Cx} {C : Cxt} {e a bx : Expr} {t ta tb : TE} {w wa wb : WE} {pos : Pos}
theorem qo_none : QO X C none tNoPart (fun ρ k => k none ρ) := ⟨po_none, fun ρ ρx σ σx H S k Q hl st hw q => q none ρ H S hl st hw⟩
def wPart (w : WE) : Ev → (Option Int → Ev → Prop) → Prop := fun ρ k => w ρ fun x ρ1 => match x.toD with
  | .int i => k (some i) ρ1
  | _ => False
theorem qo_some (h : PB X C e t w) : QO X C (some e) (tPart t) (wPart w) := ⟨po_some h.pe, by
  intro ρ ρx σ σx H S k Q hl st hw q
  refine h.ok ρ ρx σ σx H S _ _ hl st hw fun x ρ1 v H1 S1 hl1 st1 ok hk => ?_
  split at hk
  · rename_i i e
    exact ⟨i, ok.int e, q (some i) ρ1 H1 S1 hl1 st1 hk⟩
  · exact hk.elim⟩
/-- x[lo:hi] -/
def pSl (x : Sl) (lo hi : Option Int) (k : Sl → Prop) : Prop := match x.toD with
  | .lst ds => k (.ol (cutD ds lo hi))
  | .tup ds => k (.fz (.tup (cutD ds lo hi)))
  | .str z => z.length ≤ sizeLine ∧ k (.fz (.str (cutS z lo hi)))
  | _ => False
def rSlAll (K : PySem.W.Frag) : V → Option Int → Option Int → Hp → VK → Prop := fun x lo hi H Q => rSlL K x lo hi H Q ∨ rSlA K x lo hi H Q ∨ rSlS x lo hi H Q
theorem sl_all : SlR X (rSlAll X.K) := sl_list.or (sl_tupA.or sl_str)
theorem cut_whole {ds : List D} {lo hi : Option Int} (h : HT.sIx ds.length 0 lo = 0 ∧ HT.sIx ds.length ds.length hi = ds.length) : cutD ds lo hi = ds := by
  unfold cutD
  rw [h.1, h.2, List.drop_zero, Nat.sub_zero, List.take_length]
theorem l_sl (F : Fit X C) {ρ : Ev} {σ : St} {H : Hp} {S : List Addr} {x : Sl} {vx : V} {lo hi : Option Int} {k : Sl → Prop} {Q : VK} (st : Sta C ρ σ H S) (ox : SlOk C S H vx x) (h : pSl x lo hi k) (q : Ans C ρ σ k Q) : rSlAll X.K vx lo hi H Q := by
  rw [← F.K]
  unfold pSl at h
  split at h
  · rename_i ds e
    obtain ⟨a, us, rfl, g1, g2, g3⟩ := ox.lst e
    exact .inl ⟨a, us, rfl, SqL.of g1, fun p hp => ans_ol st q (Nat.le_trans (cutV_length _ _ _) g2) (g3.cut lo hi) h p hp⟩
  · rename_i ds e
    obtain ⟨a, us, rfl, g1, g2, g3⟩ := ox.tup e
    refine .inr (.inl ⟨a, us, rfl, g1, fun z => ?_, fun _ p hp => ?_⟩)
    · rw [g3.len] at z
      rw [cut_whole z] at h
      cases x with
      | ol _ => cases e
      | od _ _ => cases e
      | fz d => cases e; exact ans_fz st q ox h
    · exact ans_tup st q (Nat.le_trans (cutV_length _ _ _) g2) (g3.cut lo hi) h p hp
  · rename_i z e
    exact .inr (.inr ⟨z, ox.str e, h.1, ans_str st q h.2⟩)
  · exact h.elim
def wSl (w : WE) (wl wh : Ev → (Option Int → Ev → Prop) → Prop) : WE := fun ρ k => w ρ fun x ρ1 => wl ρ1 fun lo ρ2 => wh ρ2 fun hi ρ3 => pSl (.fz x.toD) lo hi fun z => k z ρ3
theorem pd_sl {lo hi : Option Expr} {tl th : TO} {wl wh : Ev → (Option Int → Ev → Prop) → Prop} {p2 : Pos} (F : Fit X C) (he : PD X C e t w) (hl : QO X C lo tl wl) (hh : QO X C hi th wh) : PD X C (.Subscript e (.Slice lo hi none p2) pos) (tSl (rSlAll X.K) t tl th) (wSl w wl wh) := ⟨pe_slice sl_all he.pe hl.po hh.po, by
  intro ρ ρx σ σx H S k Q hlen st hw q
  refine he.ok ρ ρx σ σx H S _ _ hlen st hw fun x ρ1 vx H1 S1 hl1 st1 hw1 => ?_
  obtain ⟨S1', st1⟩ := st1.lastD
  rw [List.append_assoc, List.append_assoc] at st1
  refine hl.ok ρ1 (ρx ++ [some (.fz x.toD)]) σ (σx ++ [some vx]) H1 S1' _ _ hl1 st1 hw1 fun o1 ρ2 H2 S2 hl2 st2 hw2 => ?_
  refine hh.ok ρ2 (ρx ++ [some (.fz x.toD)]) σ (σx ++ [some vx]) H2 S2 _ _ hl2 st2 hw2 fun o2 ρ3 H3 S3 hl3 st3 hp => ?_
  rw [← List.append_assoc, ← List.append_assoc] at st3
  have lx : (ρ3 ++ ρx).length = (σ ++ σx).length := by have := st3.len; simp only [List.length_append, List.length_cons, List.length_nil] at *; omega
  exact l_sl F st3.popLast (st3.last lx) hp fun z v H' S' st' hk => q z ρ3 v H' S' hl3 st' hk⟩
def wSlV (i : Nat) (wl wh : Ev → (Option Int → Ev → Prop) → Prop) : WE := fun ρ k => (∃ s, ρ[i]? = some (some s)) ∧ wl ρ fun lo ρ2 => wh ρ2 fun hi ρ3 => match ρ3[i]? with
  | some (some x) => pSl x lo hi fun z => k z ρ3
  | _ => False
theorem pd_slV {lo hi : Option Expr} {tl th : TO} {wl wh : Ev → (Option Int → Ev → Prop) → Prop} {p2 : Pos} (F : Fit X C) {i : Nat} (he : PE X e (tVar i)) (hl : QO X C lo tl wl) (hh : QO X C hi th wh) : PD X C (.Subscript e (.Slice lo hi none p2) pos) (tSl (rSlAll X.K) (tVar i) tl th) (wSlV i wl wh) := ⟨pe_slice sl_all he hl.po hh.po, by
  intro ρ ρx σ σx H S k Q hlen st hw q
  obtain ⟨⟨s0, e0⟩, hw⟩ := hw
  obtain ⟨v, h1, _⟩ := st.get (get_app e0)
  refine ⟨v, of_get_app h1 (hlen ▸ lt_of_get e0), ?_⟩
  refine hl.ok ρ ρx σ σx H S _ _ hlen st hw fun o1 ρ2 H2 S2 hl2 st2 hw2 => ?_
  refine hh.ok ρ2 ρx σ σx H2 S2 _ _ hl2 st2 hw2 fun o2 ρ3 H3 S3 hl3 st3 hp => ?_
  split at hp
  · rename_i x e1
    obtain ⟨v', h2, okx⟩ := st3.get (get_app e1)
    rw [h1] at h2
    cases h2
    exact l_sl F st3 okx hp fun z v H' S' st' hk => q z ρ3 v H' S' hl3 st' hk
  · exact hp.elim⟩
/-- x[::-1] of a list -/
def pRev : P1 := fun x k => match x.toD with
  | .lst ds => k (.ol ds.reverse)
  | _ => False
theorem pd_rev (F : Fit X C) {n : Nat} {p1 p2 p3 pos : Pos} (he : PB X C e t w) : PD X C (.Subscript e (.Slice none none (some (.UnaryOp .USub (.Constant (.int 1) n p1) p2)) p3) pos) (tRevL X.K t) (wUn pRev w) := ⟨pe_revL he.pe, by
  refine ok_un (r := fun x H1 Q => ∃ a xs, x = .ref a ∧ SqL X.K H1 a xs ∧ ∀ p, H1 p = none → Q (.ref p) (upd H1 p (.lst xs.reverse))) ?_ he.ok
  intro ρ σ H S x vx k Q st ox h q
  unfold pRev at h
  split at h
  · rename_i ds e
    obtain ⟨a, us, rfl, g1, g2, g3⟩ := ox.lst e
    exact ⟨a, us, rfl, SqL.of g1, fun p hp => ans_ol st q (by rw [List.length_reverse]; exact g2) g3.rev h p hp⟩
  · exact h.elim⟩
end

/-! ### built-in functions of one argument -/
def pLen : P1 := fun x k => match x.toD with
  | .lst ds => k (.fz (.int ds.length))
  | .tup ds => k (.fz (.int ds.length))
  | .str z => z.length ≤ sizeLine ∧ k (.fz (.int z.length))
  | .dic ks _ => k (.fz (.int ks.length))
  | _ => False

def rLenA (K : PySem.W.Frag) : List V → Hp → VK → Prop := fun xs H Q => ∃ x n, xs = [x] ∧ LenV K x H n ∧ Q (.int n) H
def rLen2 (K : PySem.W.Frag) : List V → Hp → VK → Prop := fun xs H Q => rLenA K xs H Q ∨ ∃ d kvs, xs = [.ref d] ∧ H d = some (.dK kvs) ∧ Q (.int kvs.length) H
section
variable {X : Cx} {C : Cxt}
theorem len_V {C : Cxt} {S : List Addr} {H : Hp} {v : V} {s : Sl} {k : Sl → Prop} (ok : SlOk C S H v s) (h : pLen s k) : (∃ n : Nat, LenV C.B.K v H n ∧ k (.fz (.int n))) ∨ ∃ (d : Addr) (kvs : List (Key × V)), v = .ref d ∧ H d = some (.dK kvs) ∧ k (.fz (.int kvs.length)) := by
  unfold pLen at h
  split at h
  · rename_i ds e
    obtain ⟨a, us, rfl, g1, g2, g3⟩ := ok.lst e
    exact .inl ⟨us.length, .inl ⟨us, SqL.of g1, rfl⟩, by rw [g3.len]; exact h⟩
  · rename_i ds e
    obtain ⟨a, us, rfl, g1, g2, g3⟩ := ok.tup e
    exact .inl ⟨us.length, .inr ⟨us, g1, rfl⟩, by rw [g3.len]; exact h⟩
  · rename_i z e
    rw [ok.str e]
    exact .inl ⟨z.length, ⟨h.1, rfl⟩, h.2⟩
  · rename_i ks ds e
    have r := ok.rp
    rw [e] at r
    obtain ⟨a, kvs, rfl, g1, _, rfl, _⟩ := r
    rw [List.length_map] at h
    exact .inr ⟨a, kvs, rfl, g1, h⟩
  · exact h.elim
theorem l_len (F : Fit X C) : Lift1 C (fun v H Q => rLen2 X.K [v] H Q) pLen := by
  intro ρ σ H S x vx k Q st ox h q
  rcases len_V ox h with ⟨n, h1, h2⟩ | ⟨d, kvs, rfl, h1, h2⟩
  · rw [F.K] at h1
    exact .inl ⟨vx, n, rfl, h1, ans_int st q h2⟩
  · exact .inr ⟨d, kvs, rfl, h1, ans_int st q h2⟩
def pAbs : P1 := fun x k => match x.toD with
  | .int i => k (.fz (.int (if i < 0 then -i else i)))
  | _ => False
theorem l_abs : Lift1 C (fun v H Q => ∃ i, [v] = [V.int i] ∧ Q (.int (if i < 0 then -i else i)) H) pAbs := by
  intro ρ σ H S x vx k Q st ox h q
  unfold pAbs at h
  split at h
  · rename_i i e
    exact ⟨i, by rw [ox.int e], ans_int st q h⟩
  · exact h.elim
def pInt : P1 := fun x k => match x.toD with
  | .int i => k (.fz (.int i))
  | .bl b => k (.fz (.int (if b then 1 else 0)))
  | .str z => z.length ≤ 640 ∧ ∃ n, PySem.intText? z = some n ∧ k (.fz (.int n))
  | _ => False
def rIntA : List V → Hp → VK → Prop := fun xs H Q => ((∃ i, xs = [.int i] ∧ Q (.int i) H) ∨ ∃ k, xs = [.bl k] ∧ Q (.int (if k then 1 else 0)) H) ∨ ∃ a n, xs = [.str a] ∧ PySem.intText? a = some n ∧ a.length ≤ 640 ∧ Q (.int n) H
theorem call_intA : CallR X (.type "int") rIntA := call_int1.or call_int_str
theorem l_int : Lift1 C (fun v H Q => rIntA [v] H Q) pInt := by
  intro ρ σ H S x vx k Q st ox h q
  unfold pInt at h
  split at h
  · rename_i i e
    exact .inl (.inl ⟨i, by rw [ox.int e], ans_int st q h⟩)
  · rename_i b e
    exact .inl (.inr ⟨b, by rw [ox.bl e], ans_int st q h⟩)
  · rename_i z e
    obtain ⟨h0, n, h1, h2⟩ := h
    exact .inr ⟨z, n, by rw [ox.str e], h1, h0, ans_int st q h2⟩
  · exact h.elim
def pBool : P1 := fun x k => match x.toD with
  | .int i => k (.fz (.bl (i != 0)))
  | .bl b => k (.fz (.bl b))
  | _ => False
def rBoolA : List V → Hp → VK → Prop := fun xs H Q => (∃ i, xs = [.int i] ∧ Q (.bl (i != 0)) H) ∨ ∃ k, xs = [.bl k] ∧ Q (.bl k) H
theorem l_bool : Lift1 C (fun v H Q => rBoolA [v] H Q) pBool := by
  intro ρ σ H S x vx k Q st ox h q
  unfold pBool at h
  split at h
  · rename_i i e
    exact .inl ⟨i, by rw [ox.int e], ans_bl st q h⟩
  · rename_i b e
    exact .inr ⟨b, by rw [ox.bl e], ans_bl st q h⟩
  · exact h.elim
/-- str of a number -/
def tS (i : Int) : Str := Str.ofString (toString i)
def pStr : P1 := fun x k => match x.toD with
  | .int i => i.natAbs.log2 < 1920 ∧ k (.fz (.str (tS i)))
  | _ => False
theorem l_str : Lift1 C (fun v H Q => ∃ i, [v] = [V.int i] ∧ i.natAbs.log2 < 1920 ∧ Q (.str (toString i)) H) pStr := by
  intro ρ σ H S x vx k Q st ox h q
  unfold pStr at h
  split at h
  · rename_i i e
    exact ⟨i, by rw [ox.int e], h.1, ans_str st q h.2⟩
  · exact h.elim
def pList : P1 := fun x k => match x.toD with
  | .lst ds => k (.ol ds)
  | .tup ds => k (.ol ds)
  | _ => False
def rListA (K : PySem.W.Frag) : List V → Hp → VK → Prop := fun xs H Q => ∃ p ys, xs = [.ref p] ∧ (SqL K H p ys ∨ SqT K H p ys) ∧ ∀ l, H l = none → Q (.ref l) (upd H l (.lst ys))
theorem l_list (F : Fit X C) : Lift1 C (fun v H Q => rListA X.K [v] H Q) pList := by
  intro ρ σ H S x vx k Q st ox h q
  rw [← F.K]
  unfold pList at h
  split at h
  · rename_i ds e
    obtain ⟨a, us, rfl, g1, g2, g3⟩ := ox.lst e
    exact ⟨a, us, rfl, .inl (SqL.of g1), fun p hp => ans_ol st q g2 g3 h p hp⟩
  · rename_i ds e
    obtain ⟨a, us, rfl, g1, g2, g3⟩ := ox.tup e
    exact ⟨a, us, rfl, .inr g1, fun p hp => ans_ol st q g2 g3 h p hp⟩
  · exact h.elim
def pTuple : P1 := fun x k => match x.toD with
  | .lst ds => k (.fz (.tup ds))
  | .tup ds => k (.fz (.tup ds))
  | _ => False
def rTupleA (K : PySem.W.Frag) : List V → Hp → VK → Prop := fun xs H Q => ∃ p ys, xs = [.ref p] ∧ ((SqL K H p ys ∧ ∀ l, H l = none → Q (.ref l) (upd H l (.tup ys))) ∨ (SqT K H p ys ∧ Q (.ref p) H))
theorem l_tuple (F : Fit X C) : Lift1 C (fun v H Q => rTupleA X.K [v] H Q) pTuple := by
  intro ρ σ H S x vx k Q st ox h q
  rw [← F.K]
  unfold pTuple at h
  split at h
  · rename_i ds e
    obtain ⟨a, us, rfl, g1, g2, g3⟩ := ox.lst e
    exact ⟨a, us, rfl, .inl ⟨SqL.of g1, fun p hp => ans_tup st q g2 g3 h p hp⟩⟩
  · rename_i ds e
    cases x with
    | ol _ => cases e
    | od _ _ => cases e
    | fz d =>
      cases e
      obtain ⟨a, us, rfl, g1, g2, g3⟩ := id ox
      exact ⟨a, us, rfl, .inr ⟨sameT hid_same g1, ans_fz st q ox h⟩⟩
  · exact h.elim
/-- the numbers of data -/
def intsD : List D → Option (List Int)
  | [] => some []
  | .int i :: ds => (intsD ds).map (i :: ·)
  | _ :: _ => none
theorem ints_V {B : Bk} {H : Hp} : ∀ {xs : List V} {ds : List D} {ns : List Int}, Rps B H xs ds → intsD ds = some ns → xs = ns.map V.int
  | _, [], _, h, e => by cases e; exact h
  | _, d :: ds, ns, h, e => by
    obtain ⟨x, r, rfl, h2, h3⟩ := h
    cases d with
    | int i =>
      unfold intsD at e
      cases q : intsD ds with
      | none => rw [q] at e; cases e
      | some ms =>
        rw [q] at e
        cases e
        rw [ints_V h3 q, show x = V.int i from h2]
        rfl
    | _ => cases e
theorem ints_map (ns : List Int) : intsD (ns.map D.int) = some ns := by
  induction ns with
  | nil => rfl
  | cons n ns ih => show (intsD (ns.map D.int)).map (n :: ·) = _; rw [ih]; rfl
def blsD : List D → Option (List Bool)
  | [] => some []
  | .bl i :: ds => (blsD ds).map (i :: ·)
  | _ :: _ => none
theorem bls_V {B : Bk} {H : Hp} : ∀ {xs : List V} {ds : List D} {ns : List Bool}, Rps B H xs ds → blsD ds = some ns → xs = ns.map V.bl
  | _, [], _, h, e => by cases e; exact h
  | _, d :: ds, ns, h, e => by
    obtain ⟨x, r, rfl, h2, h3⟩ := h
    cases d with
    | bl i =>
      unfold blsD at e
      cases q : blsD ds with
      | none => rw [q] at e; cases e
      | some ms =>
        rw [q] at e
        cases e
        rw [bls_V h3 q, show x = V.bl i from h2]
        rfl
    | _ => cases e
theorem bls_map (ns : List Bool) : blsD (ns.map D.bl) = some ns := by
  induction ns with
  | nil => rfl
  | cons n ns ih => show (blsD (ns.map D.bl)).map (n :: ·) = _; rw [ih]; rfl
def strsD : List D → Option (List Str)
  | [] => some []
  | .str i :: ds => (strsD ds).map (i :: ·)
  | _ :: _ => none
theorem strs_V {B : Bk} {H : Hp} : ∀ {xs : List V} {ds : List D} {ns : List Str}, Rps B H xs ds → strsD ds = some ns → xs = ns.map V.str
  | _, [], _, h, e => by cases e; exact h
  | _, d :: ds, ns, h, e => by
    obtain ⟨x, r, rfl, h2, h3⟩ := h
    cases d with
    | str i =>
      unfold strsD at e
      cases q : strsD ds with
      | none => rw [q] at e; cases e
      | some ms =>
        rw [q] at e
        cases e
        rw [strs_V h3 q, show x = V.str i from h2]
        rfl
    | _ => cases e
theorem strs_map (ns : List Str) : strsD (ns.map D.str) = some ns := by
  induction ns with
  | nil => rfl
  | cons n ns ih => show (strsD (ns.map D.str)).map (n :: ·) = _; rw [ih]; rfl
theorem Rps.ints {B : Bk} {H : Hp} : ∀ ns : List Int, Rps B H (ns.map V.int) (ns.map D.int)
  | [] => rfl
  | n :: ns => ⟨_, _, rfl, rfl, Rps.ints ns⟩
theorem Rps.strs {B : Bk} {H : Hp} : ∀ ns : List Str, Rps B H (ns.map V.str) (ns.map D.str)
  | [] => rfl
  | n :: ns => ⟨_, _, rfl, rfl, Rps.strs ns⟩
/-- of a list of numbers -/
def pNums (P : List Int → (Sl → Prop) → Prop) : P1 := fun x k => match x.toD with
  | .lst ds => ∃ ns, intsD ds = some ns ∧ P ns k
  | _ => False
def pSum : P1 := pNums fun ns k => k (.fz (.int ns.sum))
theorem l_sum (F : Fit X C) : Lift1 C (fun v H Q => rSum X.K [v] H Q) pSum := by
  intro ρ σ H S x vx k Q st ox h q
  rw [← F.K]
  unfold pSum pNums at h
  split at h
  · rename_i ds e
    obtain ⟨ns, h1, h2⟩ := h
    obtain ⟨a, us, rfl, g1, g2, g3⟩ := ox.lst e
    obtain rfl := ints_V g3 h1
    exact ⟨a, ns, rfl, SqL.of g1, ans_int st q h2⟩
  · exact h.elim
def pMaxL : P1 := pNums fun ns k => 0 < ns.length ∧ ∀ m, m ∈ ns → (∀ y, y ∈ ns → y ≤ m) → k (.fz (.int m))
theorem l_maxL (F : Fit X C) : Lift1 C (fun v H Q => rMax X.K [v] H Q) pMaxL := by
  intro ρ σ H S x vx k Q st ox h q
  rw [← F.K]
  unfold pMaxL pNums at h
  split at h
  · rename_i ds e
    obtain ⟨ns, h1, h0, h2⟩ := h
    obtain ⟨a, us, rfl, g1, g2, g3⟩ := ox.lst e
    obtain rfl := ints_V g3 h1
    exact ⟨a, ns, rfl, SqL.of g1, h0, fun m hm hy => ans_int st q (h2 m hm hy)⟩
  · exact h.elim
/-- all, any of a list of truth values -/
def pBls (f : List Bool → Bool) : P1 := fun x k => match x.toD with
  | .lst ds => ∃ bs, blsD ds = some bs ∧ k (.fz (.bl (f bs)))
  | _ => False
abbrev pAll : P1 := pBls fun bs => bs.all id
abbrev pAny : P1 := pBls fun bs => bs.any id
theorem l_all (F : Fit X C) : Lift1 C (fun v H Q => rAll X.K [v] H Q) pAll := by
  intro ρ σ H S x vx k Q st ox h q
  rw [← F.K]
  unfold pAll pBls at h
  split at h
  · rename_i ds e
    obtain ⟨ns, h1, h2⟩ := h
    obtain ⟨a, us, rfl, g1, g2, g3⟩ := ox.lst e
    obtain rfl := bls_V g3 h1
    exact ⟨a, ns, rfl, SqL.of g1, ans_bl st q h2⟩
  · exact h.elim
theorem l_any (F : Fit X C) : Lift1 C (fun v H Q => rAny X.K [v] H Q) pAny := by
  intro ρ σ H S x vx k Q st ox h q
  rw [← F.K]
  unfold pAny pBls at h
  split at h
  · rename_i ds e
    obtain ⟨ns, h1, h2⟩ := h
    obtain ⟨a, us, rfl, g1, g2, g3⟩ := ox.lst e
    obtain rfl := bls_V g3 h1
    exact ⟨a, ns, rfl, SqL.of g1, ans_bl st q h2⟩
  · exact h.elim
/-- sorted: of numbers, of at most 63 texts -/
def pSorted : P1 := fun x k => match x.toD with
  | .lst ds => (∃ ns, intsD ds = some ns ∧ ∀ ms : List Int, ms.Perm ns → ms.Pairwise (· ≤ ·) → k (.ol (ms.map .int))) ∨ ∃ ss, strsD ds = some ss ∧ ss.length < 64 ∧ ∀ ms : List Str, ms.Perm ss → PyProof.Rows.sortedS ms = true → k (.ol (ms.map .str))
  | _ => False
def rSortA (K : PySem.W.Frag) : List V → Hp → VK → Prop := fun vs H Q => rSortedI K vs H Q ∨ rSortedS K vs H Q
theorem cr_sortA : CallR X (.builtin "sorted") (rSortA X.K) := cr_sortedI.or cr_sortedS
theorem l_sorted (F : Fit X C) : Lift1 C (fun v H Q => rSortA X.K [v] H Q) pSorted := by
  intro ρ σ H S x vx k Q st ox h q
  rw [← F.K]
  unfold pSorted at h
  split at h
  · rename_i ds e
    obtain ⟨a, us, rfl, g1, g2, g3⟩ := ox.lst e
    rcases h with ⟨ns, h1, h2⟩ | ⟨ss, h1, h0, h2⟩
    · obtain rfl := ints_V g3 h1
      refine .inl ⟨a, ns, rfl, SqL.of g1, fun ms p h3 h4 hp => ans_ol st q ?_ (Rps.ints ms) (h2 ms h3 h4) p hp⟩
      rw [List.length_map, h3.length_eq]
      simpa using g2
    · obtain rfl := strs_V g3 h1
      refine .inr ⟨a, ss, rfl, SqL.of g1, h0, fun ms p h3 h4 hp => ans_ol st q ?_ (Rps.strs ms) (h2 ms h3 h4) p hp⟩
      rw [List.length_map, h3.length_eq]
      simpa using g2
  · exact h.elim

/-! ### .. of two -/
def pI2N (P : Int → Int → Prop) (g : Int → Int → Int) : PN := fun ds k => match ds with
  | [.int i, .int j] => P i j ∧ k (.fz (.int (g i j)))
  | _ => False
theorem rps1 {B : Bk} {H : Hp} {vs : List V} {d : D} (h : Rps B H vs [d]) : ∃ v, vs = [v] ∧ Rp B H v d := by
  obtain ⟨x, r, rfl, h2, h3⟩ := h
  rw [show r = [] from h3]
  exact ⟨x, rfl, h2⟩
theorem rps2 {B : Bk} {H : Hp} {vs : List V} {d e : D} (h : Rps B H vs [d, e]) : ∃ v u, vs = [v, u] ∧ Rp B H v d ∧ Rp B H u e := by
  obtain ⟨x, r, rfl, h2, h3⟩ := h
  obtain ⟨u, rfl, h4⟩ := rps1 h3
  exact ⟨x, u, rfl, h2, h4⟩
theorem rps3 {B : Bk} {H : Hp} {vs : List V} {d e f : D} (h : Rps B H vs [d, e, f]) : ∃ v u w, vs = [v, u, w] ∧ Rp B H v d ∧ Rp B H u e ∧ Rp B H w f := by
  obtain ⟨x, r, rfl, h2, h3⟩ := h
  obtain ⟨u, w, rfl, h4, h5⟩ := rps2 h3
  exact ⟨x, u, w, rfl, h2, h4, h5⟩
theorem l_I2N {P : Int → Int → Prop} {g : Int → Int → Int} {r : List V → Hp → VK → Prop} (hr : ∀ i j H Q, P i j → Q (.int (g i j)) H → r [.int i, .int j] H Q) : LiftN C r (pI2N P g) := by
  intro ρ σ H S ds vs k Q st rr h q
  unfold pI2N at h
  split at h
  · rename_i i j
    obtain ⟨v, u, rfl, h1, h2⟩ := rps2 rr
    rw [show v = _ from h1, show u = _ from h2]
    exact hr i j H Q h.1 (ans_int st q h.2)
  · exact h.elim
abbrev pMax2 : PN := pI2N (fun _ _ => True) fun i j => if j > i then j else i
abbrev pMin2 : PN := pI2N (fun _ _ => True) fun i j => if j < i then j else i
theorem l_max2 : LiftN C (fun xs H Q => ∃ i j, xs = [.int i, .int j] ∧ Q (.int (if j > i then j else i)) H) pMax2 := l_I2N fun i j H Q _ h => ⟨i, j, rfl, h⟩
theorem l_min2 : LiftN C (fun xs H Q => ∃ i j, xs = [.int i, .int j] ∧ Q (.int (if j < i then j else i)) H) pMin2 := l_I2N fun i j H Q _ h => ⟨i, j, rfl, h⟩
def pDivmod : PN := fun ds k => match ds with
  | [.int i, .int j] => CDivP i j ∧ k (.fz (.tup [.int (i / j), .int (i % j)]))
  | _ => False
theorem l_divmod : LiftN C (fun xs H Q => ∃ i j, xs = [.int i, .int j] ∧ CDivP i j ∧ ∀ p, H p = none → Q (.ref p) (upd H p (.tup [.int (i / j), .int (i % j)]))) pDivmod := by
  intro ρ σ H S ds vs k Q st rr h q
  unfold pDivmod at h
  split at h
  · rename_i i j
    obtain ⟨v, u, rfl, h1, h2⟩ := rps2 rr
    rw [show v = _ from h1, show u = _ from h2]
    exact ⟨i, j, rfl, h.1, fun p hp => ans_tup st q (by show 2 ≤ 1000000; decide) (Rps.ints [i / j, i % j]) h.2 p hp⟩
  · exact h.elim
end
end Q

set_option autoImplicit false
set_option linter.all false
/-! Q4: statements, targets, loops -/
namespace Q
open PySem L2
structure En where
  nx : Ev → Prop
  rt : Sl → Prop
  bk : Ev → Prop := fun _ => False
  ct : Ev → Prop := fun _ => False
abbrev WS := En → Ev → Prop
/-- what is wanted by the layer follows from what is told -/
structure Fol (C : Cxt) (ρx : Ev) (σx : St) (E : En) (D : Ends) : Prop where
  nx : ∀ (ρ : Ev) (σ : St) (H : Hp) (S : List Addr), ρ.length = σ.length → Sta C (ρ ++ ρx) (σ ++ σx) H S → E.nx ρ → D.nx σ H
  rt : ∀ (ρ : Ev) (σ : St) (H : Hp) (S : List Addr) (s : Sl) (v : V), ρ.length = σ.length → Sta C ((ρ ++ ρx) ++ [some s]) ((σ ++ σx) ++ [some v]) H S → E.rt s → D.rt v H
  bk : ∀ (ρ : Ev) (σ : St) (H : Hp) (S : List Addr), ρ.length = σ.length → Sta C (ρ ++ ρx) (σ ++ σx) H S → E.bk ρ → D.bk σ H
  ct : ∀ (ρ : Ev) (σ : St) (H : Hp) (S : List Addr), ρ.length = σ.length → Sta C (ρ ++ ρx) (σ ++ σx) H S → E.ct ρ → D.ct σ H
def OkS (C : Cxt) (t : TS) (w : WS) : Prop := ∀ (ρ ρx : Ev) (σ σx : St) (H : Hp) (S : List Addr) (E : En) (D : Ends), ρ.length = σ.length → Sta C (ρ ++ ρx) (σ ++ σx) H S → w E ρ → Fol C ρx σx E D → t D σ H
structure QS (X : Cx) (C : Cxt) (st : Stmt) (t : TS) (w : WS) : Prop where
  ps : PS X st t
  ok : OkS C t w
structure QSs (X : Cx) (C : Cxt) (st : List Stmt) (t : TS) (w : WS) : Prop where
  ps : PSs X st t
  ok : OkS C t w
section
variable {X : Cx} {C : Cxt} {e a bx : Expr} {t ta tb : TE} {w wa wb : WE} {pos : Pos} {st : Stmt} {sts : List Stmt} {t1 t2 : TS} {w1 w2 : WS}
theorem qss_nil : QSs X C [] tNext (fun E ρ => E.nx ρ) := ⟨pss_nil, fun ρ ρx σ σx H S E D hl st h f => f.nx ρ σ H S hl st h⟩
def wSeq (w1 w2 : WS) : WS := fun E ρ => w1 { E with nx := w2 E } ρ
theorem ok_seq (h1 : OkS C t1 w1) (h2 : OkS C t2 w2) : OkS C (tSeq t1 t2) (wSeq w1 w2) := fun ρ ρx σ σx H S E D hl st h f =>
  h1 ρ ρx σ σx H S _ _ hl st h ⟨fun ρ' σ' H' S' hl' st' h' => h2 ρ' ρx σ' σx H' S' E D hl' st' h' f, f.rt, f.bk, f.ct⟩
theorem qss_cons (h1 : QS X C st t1 w1) (h2 : QSs X C sts t2 w2) : QSs X C (st :: sts) (tSeq t1 t2) (wSeq w1 w2) := ⟨pss_cons h1.ps h2.ps, ok_seq h1.ok h2.ok⟩
theorem qss_one (h : QS X C st t1 w1) : QSs X C [st] t1 w1 := ⟨pss_one h.ps, h.ok⟩
theorem qs_pass : QS X C (.Pass pos) tNext (fun E ρ => E.nx ρ) := ⟨ps_pass, fun ρ ρx σ σx H S E D hl st h f => f.nx ρ σ H S hl st h⟩
theorem qs_break : QS X C (.Break pos) tBreak (fun E ρ => E.bk ρ) := ⟨ps_break, fun ρ ρx σ σx H S E D hl st h f => f.bk ρ σ H S hl st h⟩
theorem qs_continue : QS X C (.Continue pos) tCont (fun E ρ => E.ct ρ) := ⟨ps_continue, fun ρ ρx σ σx H S E D hl st h f => f.ct ρ σ H S hl st h⟩
theorem qs_never : QS X C st tNever (fun _ _ => False) := ⟨ps_never, fun _ _ _ _ _ _ _ _ _ _ h _ => h.elim⟩
def wDrop (w : WE) : WS := fun E ρ => w ρ fun _ ρ1 => E.nx ρ1
theorem qs_expr (h : PD X C e t w) (hs : swapsWith e none pos.line X.env = pure false := by rfl) : QS X C (.Expr e pos) (tDrop t) (wDrop w) := ⟨ps_expr h.pe hs, fun ρ ρx σ σx H S E D hl st hw f =>
  h.ok ρ ρx σ σx H S _ _ hl st hw fun s ρ' v H' S' hl' st' hk => f.nx ρ' σ H' S' hl' st'.popLast hk⟩
def wRet (w : WE) : WS := fun E ρ => w ρ fun s _ => E.rt s
theorem qs_ret (h : PD X C e t w) : QS X C (.Return (some e) pos) (tRet t) (wRet w) := ⟨ps_ret h.pe, fun ρ ρx σ σx H S E D hl st hw f =>
  h.ok ρ ρx σ σx H S _ _ hl st hw fun s ρ' v H' S' hl' st' hk => f.rt ρ' σ H' S' s v hl' st' hk⟩
theorem qs_retN : QS X C (.Return none pos) tRetN (fun E _ => E.rt (.fz .non)) := ⟨ps_retN, fun ρ ρx σ σx H S E D hl st hw f => f.rt ρ σ H S (.fz .non) .non hl (st.pushF (d := .non) rfl) hw⟩
def wIfS (c : WT) (w1 w2 : WS) : WS := fun E ρ => c ρ fun b ρ1 => if b = true then w1 E ρ1 else w2 E ρ1
theorem qs_if {c : Expr} {tc : TT} {wc : WT} {p q : List Stmt} (hc : QT X C c tc wc) (h1 : QSs X C p t1 w1) (h2 : QSs X C q t2 w2) : QS X C (.If c p q pos) (tIfS tc t1 t2) (wIfS wc w1 w2) := ⟨ps_if hc.pt h1.ps h2.ps, by
  intro ρ ρx σ σx H S E D hl st hw f
  refine hc.ok ρ ρx σ σx H S _ _ hl st hw fun b ρ1 H1 S1 hl1 st1 hk => ?_
  cases b with
  | true => exact h1.ok ρ1 ρx σ σx H1 S1 E D hl1 st1 hk f
  | false => exact h2.ok ρ1 ρx σ σx H1 S1 E D hl1 st1 hk f⟩

/-! ### targets -/
abbrev WG := Sl → Ev → (Ev → Prop) → Prop
/-- the slots at is may change -/
def At (is : List Nat) (σ σ' : St) : Prop := σ'.length = σ.length ∧ ∀ j : Nat, j ∉ is → σ'[j]? = σ[j]?
/-- a value that no slot holds as its own -/
def Apt (ρ : Ev) (σ : St) (s : Sl) (v : V) : Prop := s.own = true → ∀ (i : Nat) (t : Sl), ρ[i]? = some (some t) → t.own = true → σ[i]? ≠ some (some v)
def OkG (C : Cxt) (is : List Nat) (g : TG) (w : WG) : Prop := ∀ (ρ ρx : Ev) (σ σx : St) (H : Hp) (S : List Addr) (s : Sl) (v : V) (k : Ev → Prop) (Q : St → Hp → Prop), ρ.length = σ.length → Sta C (ρ ++ ρx) (σ ++ σx) H S → SlOk C S H v s → Apt (ρ ++ ρx) (σ ++ σx) s v → w s ρ k →
  (∀ (ρ' : Ev) (σ' : St) (H' : Hp) (S' : List Addr), ρ'.length = σ'.length → At is σ σ' → Sta C (ρ' ++ ρx) (σ' ++ σx) H' S' → k ρ' → Q σ' H') → g v σ H Q
structure QG (X : Cx) (C : Cxt) (is : List Nat) (tg : Expr) (g : TG) (w : WG) : Prop where
  pg : PG X tg g
  ok : OkG C is g w
theorem Sta.apt {ρ : Ev} {σ : St} {H : Hp} {S : List Addr} {s : Sl} {v : V} (st : Sta C (ρ ++ [some s]) (σ ++ [some v]) H S) : Apt ρ σ s v := fun o i t ei to q => by
  have l := st.popLast.len
  have := st.ap i ρ.length t s v (get_app ei) (by rw [List.getElem?_append_right (Nat.le_refl _), Nat.sub_self]; rfl) to o (get_app q) (by rw [l, List.getElem?_append_right (Nat.le_refl _), Nat.sub_self]; rfl)
  have := lt_of_get ei
  omega
theorem Sta.assign {ρ ρx : Ev} {σ σx : St} {H : Hp} {S : List Addr} {s : Sl} {v : V} (hl : ρ.length = σ.length) (st : Sta C (ρ ++ ρx) (σ ++ σx) H S) (ok : SlOk C S H v s) (ap : Apt (ρ ++ ρx) (σ ++ σx) s v) (i : Nat) : Sta C (ρ.set i (some s) ++ ρx) (σ.set i (some v) ++ σx) H S := by
  by_cases hi : i < ρ.length
  · have hi' : i < σ.length := hl ▸ hi
    have st1 := (st.forget i).blind (set_none _ _) (some v)
    have vi : ((σ ++ σx).set i (some v))[i]? = some (some v) := List.getElem?_set_self (by rw [List.length_append]; omega)
    have st2 := st1.put i (some s) (fun t z => by cases z; exact ⟨v, vi, ok⟩) fun t u z o q j r hj ej ro qj => ?_
    · rw [List.set_set, app_set _ _ _ _ hi, app_set _ _ _ _ hi'] at st2
      exact st2
    · cases z
      rw [vi] at q
      cases q
      rw [List.getElem?_set_ne (Ne.symm hj)] at ej qj
      exact ap o j r ej ro qj
  · rw [List.set_eq_of_length_le (by omega), List.set_eq_of_length_le (by omega)]
    exact st
theorem At.set (σ : St) (i : Nat) (o : Option V) : At [i] σ (σ.set i o) := ⟨by simp, fun j hj => by rw [List.getElem?_set_ne (fun z => hj (by simp [z]))]⟩
theorem At.trans {is js : List Nat} {σ σ' σ'' : St} (a : At is σ σ') (b : At js σ' σ'') : At (is ++ js) σ σ'' := ⟨b.1.trans a.1, fun j hj => by
  rw [b.2 j (fun z => hj (List.mem_append_right _ z)), a.2 j (fun z => hj (List.mem_append_left _ z))]⟩
theorem At.refl (σ : St) : At [] σ σ := ⟨rfl, fun _ _ => rfl⟩
def wNm (i : Nat) : WG := fun s ρ k => k (ρ.set i (some s))
theorem ok_nm (i : Nat) : OkG C [i] (gName i) (wNm i) := fun ρ ρx σ σx H S s v k Q hl st ok ap hw q =>
  q _ _ H S (by simp [hl]) (At.set σ i _) (st.assign hl ok ap i) hw
theorem qg_name {i : Nat} {tg : Expr} (h : PG X tg (gName i)) : QG X C [i] tg (gName i) (wNm i) := ⟨h, ok_nm i⟩
abbrev WGs := List D → Ev → (Ev → Prop) → Prop
def OkGs (C : Cxt) (is : List Nat) (g : TGs) (w : WGs) : Prop := ∀ (ρ ρx : Ev) (σ σx : St) (H : Hp) (S : List Addr) (ds : List D) (vs : List V) (k : Ev → Prop) (Q : St → Hp → Prop), ρ.length = σ.length → ρx.length = σx.length → Sta C (ρ ++ (ρx ++ fzs ds)) (σ ++ (σx ++ vs.map some)) H S → w ds ρ k →
  (∀ (ρ' : Ev) (σ' : St) (H' : Hp) (S' : List Addr), ρ'.length = σ'.length → At is σ σ' → Sta C (ρ' ++ ρx) (σ' ++ σx) H' S' → k ρ' → Q σ' H') → g vs σ H Q
structure QGs (X : Cx) (C : Cxt) (is : List Nat) (tg : List Expr) (g : TGs) (w : WGs) : Prop where
  pg : PGs X tg g
  ok : OkGs C is g w
theorem qgs_nil : QGs X C [] [] gNil (fun ds ρ k => ds = [] ∧ k ρ) := ⟨pgs_nil, fun ρ ρx σ σx H S ds vs k Q hl hx st hw q => by
  obtain ⟨rfl, hw⟩ := hw
  have l := st.len
  simp [fzs, hl, hx] at l
  subst l
  exact ⟨rfl, q ρ σ H S hl (At.refl σ) (by simpa [fzs] using st) hw⟩⟩
def wGCons (g : WG) (r : WGs) : WGs := fun ds ρ k => match ds with
  | d :: ds => g (.fz d) ρ fun ρ1 => r ds ρ1 k
  | [] => False
theorem qgs_cons {es : List Expr} {is js : List Nat} {g : TG} {gs : TGs} {u : WG} {us : WGs} (h : QG X C is e g u) (r : QGs X C js es gs us)
    (ha : (assignEach (e :: es) X.env).map (·.2) = assign e X.env :: (assignEach es X.env).map (·.2) := by rfl) : QGs X C (is ++ js) (e :: es) (gCons g gs) (wGCons u us) := ⟨pgs_cons h.pg r.pg ha, fun ρ ρx σ σx H S ds vs k Q hl hx st hw q => by
  cases ds with
  | nil => exact hw.elim
  | cons d ds =>
    have l := st.len
    simp only [fzs, List.length_append, List.length_map, List.length_cons, hl, hx] at l
    cases vs with
    | nil => simp at l
    | cons v vs =>
      obtain ⟨w', e1, ok⟩ := st.get (i := ρ.length + ρx.length) (s := .fz d) (by rw [List.getElem?_append_right (by omega), List.getElem?_append_right (by omega)]; simp [fzs])
      have e1' : some (some v) = some (some w') := by
        rw [← e1, hl, hx, List.getElem?_append_right (by omega), List.getElem?_append_right (by omega)]
        simp
      cases e1'
      refine ⟨v, vs, rfl, ?_⟩
      refine h.ok ρ (ρx ++ fzs (d :: ds)) σ (σx ++ (v :: vs).map some) H S (.fz d) v _ _ hl st ok (fun z => by cases z) hw fun ρ1 σ1 H1 S1 hl1 a1 st1 hw1 => ?_
      refine r.ok ρ1 (ρx ++ [some (.fz d)]) σ1 (σx ++ [some v]) H1 S1 ds vs k Q hl1 (by simp [hx]) (by simpa [fzs] using st1) hw1 fun ρ2 σ2 H2 S2 hl2 a2 st2 hk => ?_
      refine q ρ2 σ2 H2 S2 hl2 (a1.trans a2) ?_ hk
      have := st2
      rw [← List.append_assoc, ← List.append_assoc] at this
      exact this.popLast⟩
/-- a, b = a tuple -/
def wTg (n : Nat) (us : WGs) : WG := fun s ρ k => match s.toD with
  | .tup ds => ds.length = n ∧ us ds ρ k
  | _ => False
theorem Sta.pushs {ρ : Ev} {σ : St} {H : Hp} {S : List Addr} (st : Sta C ρ σ H S) : ∀ {ds : List D} {vs : List V}, Rps C.B (hid S H) vs ds → Sta C (ρ ++ fzs ds) (σ ++ vs.map some) H S := by
  intro ds
  induction ds generalizing ρ σ with
  | nil => intro vs h; rw [show vs = [] from h]; simpa [fzs] using st
  | cons d ds ih =>
    intro vs h
    obtain ⟨x, r, rfl, h2, h3⟩ := h
    have := ih (st.pushF h2) h3
    simpa [fzs] using this
theorem qg_tup (F : Fit X C) {es : List Expr} {n : Nat} {is : List Nat} {gs : TGs} {us : WGs} {kt : Nat} (hc : X.calm = true) (h : QGs X C is es gs us) (h1 : (assignEach es X.env).length = n := by rfl) (h2 : (assignEach es X.env).findIdx? (·.1) = none := by rfl) :
    QG X C is (.Tuple es kt pos) (gTup X.K n gs) (wTg n us) := ⟨pg_tup hc h.pg h1 h2, fun ρ ρx σ σx H S s v k Q hl st ok ap hww q => by
  unfold wTg at hww
  split at hww
  · rename_i ds e
    obtain ⟨a, xs, rfl, g1, g2, g3⟩ := ok.tup e
    rw [F.K] at g1
    refine ⟨a, xs, rfl, g1, by rw [g3.len]; exact hww.1, ?_⟩
    have lx := st.len
    simp only [List.length_append] at lx
    refine h.ok ρ ρx σ σx H S ds xs k Q hl (by omega) ?_ hww.2 q
    rw [← List.append_assoc, ← List.append_assoc]
    exact st.pushs g3
  · exact hww.elim⟩
def wAsg (w : WE) (g : WG) : WS := fun E ρ => w ρ fun s ρ1 => g s ρ1 E.nx
theorem ok_asg {is : List Nat} {g : TG} {u : WG} (h : OkE C t w) (hg : OkG C is g u) : OkS C (tAsg t g) (wAsg w u) := fun ρ ρx σ σx H S E D hl st hw f =>
  h ρ ρx σ σx H S _ _ hl st hw fun s ρ1 v H1 S1 hl1 st1 hk => by
    have lx : (ρ1 ++ ρx).length = (σ ++ σx).length := by have := st.len; simp only [List.length_append] at *; omega
    exact hg ρ1 ρx σ σx H1 S1 s v _ _ hl1 st1.popLast (st1.last lx) st1.apt hk fun ρ2 σ2 H2 S2 hl2 _ st2 h2 => f.nx ρ2 σ2 H2 S2 hl2 st2 h2
theorem qs_asg {is : List Nat} {tg : Expr} {g : TG} {u : WG} (he : PD X C e t w) (hg : QG X C is tg g u) (hs : swapsWithSole [tg] e pos.line X.env = pure false := by rfl) (hw : swappedStores [tg] e X.env = pure none := by rfl)
    (h1 : (assignEach [tg] X.env).map (·.2) = [assign tg X.env] := by rfl) : QS X C (.Assign [tg] e pos) (tAsg t g) (wAsg w u) := ⟨ps_asg he.pe hg.pg hs hw h1, ok_asg he.ok hg.ok⟩
abbrev wSet (i : Nat) (w : WE) : WS := wAsg w (wNm i)
theorem qs_set {i : Nat} {x : Str} {pos' : Pos} (hN : X.N.Nodup) (hi : X.N[i]? = some x) (hx : Loc X.env.scope x) (he : PD X C e t w) (hs : swapsWith e (some (.Name x pos')) pos.line X.env = pure false := by rfl) (hf : X.fn x = true ∨ X.env.scope.names.lookup x = some .local := by first | exact .inl rfl | exact .inr rfl | assumption) :
    QS X C (.Assign [.Name x pos'] e pos) (tAsg t (gName i)) (wSet i w) := ⟨ps_set hN hi hx he.pe hs hf, ok_asg he.ok (ok_nm i)⟩
/-- a, b = e1, e2 of names -/
def wPar (i j : Nat) (wa wb : WE) : WS := fun E ρ => wa ρ fun s ρ1 => wb ρ1 fun u ρ2 => E.nx ((ρ2.set i (some s)).set j (some u))
theorem qs_par {i j : Nat} {x y : Str} {px py pt : Pos} {kt k2 : Nat} {pt2 : Pos} (hc : X.calm = true) (hN : X.N.Nodup) (hi : X.N[i]? = some x) (hj : X.N[j]? = some y) (hij : i ≠ j) (hx : X.env.scope.names.lookup x = some .local) (hy : X.env.scope.names.lookup y = some .local)
    (ha : PD X C a ta wa) (hb : PD X C bx tb wb) (hsw : swappedStores [.Tuple [.Name x px, .Name y py] kt pt] (.Tuple [a, bx] k2 pt2) X.env = pure (some [x, y]))
    (h1 : starEach [a, bx] X.env = (false, eval a X.env) :: starEach [bx] X.env := by rfl) (h2 : starEach [bx] X.env = (false, eval bx X.env) :: starEach [] X.env := by rfl)
    (hs : swapsWithSole [.Tuple [.Name x px, .Name y py] kt pt] (.Tuple [a, bx] k2 pt2) pos.line X.env = pure false := by rfl) :
    QS X C (.Assign [.Tuple [.Name x px, .Name y py] kt pt] (.Tuple [a, bx] k2 pt2) pos) (tPar i j (tCons ta (tCons tb tNil))) (wPar i j wa wb) := ⟨ps_par hc hN hi hj hij hx hy (pa_cons ha.pe (pa_cons hb.pe pa_nil h2) h1) hsw hs, by
  intro ρ ρx σ σx H S E D hl st hw f
  refine ha.ok ρ ρx σ σx H S _ _ hl st hw fun s ρ1 v H1 S1 hl1 st1 hw1 => ?_
  rw [List.append_assoc, List.append_assoc] at st1
  refine hb.ok ρ1 (ρx ++ [some s]) σ (σx ++ [some v]) H1 S1 _ _ hl1 st1 hw1 fun u ρ2 w' H2 S2 hl2 st2 hk => ?_
  refine ⟨v, w', rfl, ?_⟩
  rw [← List.append_assoc, ← List.append_assoc] at st2
  have l2 : (ρ2 ++ ρx).length = (σ ++ σx).length := by have := st2.len; simp only [List.length_append, List.length_cons, List.length_nil] at *; omega
  have l3 : ((ρ2 ++ ρx) ++ [some s]).length = ((σ ++ σx) ++ [some v]).length := by simp only [List.length_append, List.length_cons, List.length_nil] at *; omega
  -- the second one first
  have ok2 := st2.last l3
  have ap2 := st2.apt
  have st3 := st2.popLast
  have ok1 := st3.last l2
  have ap1 := st3.apt
  have st4 := st3.popLast
  have s1 := st4.assign hl2 ok1 ap1 i
  have nvu : s.own = true → u.own = true → v ≠ w' := fun o1 o2 z => ap2 o2 (ρ2 ++ ρx).length s (by rw [List.getElem?_append_right (Nat.le_refl _), Nat.sub_self]; rfl) o1 (by rw [l2, List.getElem?_append_right (Nat.le_refl _), Nat.sub_self, z]; rfl)
  have s2 := s1.assign (by simp [hl2]) ok2 (fun o k t ek to q => by
    by_cases hi' : i < ρ2.length
    · by_cases hk' : k = i
      · subst hk'
        rw [List.getElem?_append_left (by rw [List.length_set]; exact hi'), List.getElem?_set_self hi'] at ek
        cases ek
        rw [List.getElem?_append_left (by rw [List.length_set]; exact hl2 ▸ hi'), List.getElem?_set_self (hl2 ▸ hi')] at q
        cases q
        exact nvu to o rfl
      · rw [← app_set _ _ _ _ hi', List.getElem?_set_ne (Ne.symm hk')] at ek
        rw [← app_set _ _ _ _ (hl2 ▸ hi'), List.getElem?_set_ne (Ne.symm hk')] at q
        exact ap2 o k t (get_app ek) to (get_app q)
    · rw [List.set_eq_of_length_le (by omega)] at ek
      rw [List.set_eq_of_length_le (by omega)] at q
      exact ap2 o k t (get_app ek) to (get_app q)) j
  exact f.nx _ _ H2 S2 (by simp [hl2]) s2 hk⟩
/-- x += e of numbers -/
def wAug (i : Nat) (g : Int → Int → Int) (w : WE) : WS := fun E ρ => (∃ s, ρ[i]? = some (some s)) ∧ w ρ fun y ρ1 => match ρ1[i]?, y.toD with
  | some (some (.fz (.int a))), .int b => E.nx (ρ1.set i (some (.fz (.int (g a b)))))
  | _, _ => False
theorem qs_aug {i : Nat} {x : Str} {op : Operator} {pos' : Pos} {g : Int → Int → Int} (hN : X.N.Nodup) (hi : X.N[i]? = some x) (hx : Loc X.env.scope x) (he : PD X C e t w) (ho : PIp X op (ipI g)) (hf : X.fn x = true ∨ X.env.scope.names.lookup x = some .local := by first | exact .inl rfl | exact .inr rfl | assumption) :
    QS X C (.AugAssign (.Name x pos') op e pos) (tAug i t (ipI g)) (wAug i g w) := ⟨ps_aug hN hi hx he.pe ho hf, by
  intro ρ ρx σ σx H S E D hl st hw f
  obtain ⟨⟨s0, e0⟩, hw⟩ := hw
  obtain ⟨v, h1, _⟩ := st.get (get_app e0)
  refine ⟨v, of_get_app h1 (hl ▸ lt_of_get e0), ?_⟩
  refine he.ok ρ ρx σ σx H S _ _ hl st hw fun y ρ1 u H1 S1 hl1 st1 hk => ?_
  split at hk
  · rename_i a b e1 e2
    have lx : (ρ1 ++ ρx).length = (σ ++ σx).length := by have := st1.len; simp only [List.length_append, List.length_cons, List.length_nil] at *; omega
    have st2 := st1.popLast
    obtain ⟨v', h2, okx⟩ := st2.get (get_app e1)
    rw [h1] at h2
    cases h2
    obtain rfl : v = .int a := okx
    refine ⟨a, b, rfl, (st1.last lx).int e2, ?_⟩
    exact f.nx _ _ H1 S1 (by simp [hl1]) (st2.assign hl1 (s := .fz (.int (g a b))) (v := .int (g a b)) rfl (fun z => by cases z) i) hk
  · exact hk.elim⟩

/-! ### lists of one's own -/
/-- x.append(e) -/
def wApp (i : Nat) (w : WE) : WE := fun ρ k => (∃ ds, ρ[i]? = some (some (.ol ds))) ∧ w ρ fun y ρ1 => match ρ1[i]? with
  | some (some (.ol ds)) => ds.length < 1000000 ∧ k (.fz .non) (ρ1.set i (some (.ol (ds ++ [y.toD]))))
  | _ => False
theorem pd_append {i : Nat} {es0 : Expr} (he : PD X C e t w) {tt : TE} (hp : PE X es0 tt) (htt : tt = tBM X.K "list" rAppend (tVar i) (tCons t tNil)) : PD X C es0 tt (wApp i w) := ⟨hp, by
  subst htt
  intro ρ ρx σ σx H S k Q hl st hw q
  obtain ⟨⟨ds0, e0⟩, hw⟩ := hw
  obtain ⟨v, h1, a, xs, rfl, m, h0, hx, hlen, hr⟩ := st.get (get_app e0)
  refine ⟨.ref a, of_get_app h1 (hl ▸ lt_of_get e0), Or.inl ⟨rfl, xs, SqL.of hx⟩, ?_⟩
  refine he.ok ρ ρx σ σx H S _ _ hl st hw fun y ρ1 u H1 S1 hl1 st1 hk => ?_
  split at hk
  · rename_i ds e1
    obtain ⟨S1', st1'⟩ := st1.lastD
    have lx : (ρ1 ++ ρx).length = (σ ++ σx).length := by have := st1.len; simp only [List.length_append, List.length_cons, List.length_nil] at *; omega
    have oky := st1'.last lx
    have st2 := st1'.popLast
    obtain ⟨v', h2, b, ys, rfl, m', h0', hy, hlen', hr'⟩ := st2.get (get_app e1)
    rw [h1] at h2
    cases h2
    have ly := hr'.len
    refine ⟨a, ys, u, rfl, rfl, hy, lim_lt (by omega), ?_⟩
    have st3 := st2.write (es := ds ++ [y.toD]) (ys := ys ++ [u]) (get_app e1) h1 (by rw [List.length_append]; show ys.length + 1 ≤ _; omega) (hr'.snoc oky)
    rw [app_set _ _ _ _ (lt_of_get e1)] at st3
    exact q (.fz .non) _ .non _ S1' (by simp [hl1]) (st3.pushF (d := .non) rfl) hk.2
  · exact hk.elim⟩
/-- x.pop() -/
def wPop (i : Nat) : WE := fun ρ k => match ρ[i]? with
  | some (some (.ol ds)) => ∃ d, ds.getLast? = some d ∧ k (.fz d) (ρ.set i (some (.ol ds.dropLast)))
  | _ => False
theorem pd_pop {i : Nat} {es0 : Expr} {tt : TE} (hp : PE X es0 tt) (htt : tt = tBM0 X.K "list" rPop (tVar i)) : PD X C es0 tt (wPop i) := ⟨hp, by
  subst htt
  intro ρ ρx σ σx H S k Q hl st hw q
  unfold wPop at hw
  split at hw
  · rename_i ds e1
    obtain ⟨d, hd, hk⟩ := hw
    obtain ⟨v, h1, a, ys, rfl, m, h0, hy, hlen, hr⟩ := st.get (get_app e1)
    have ly := hr.len
    rw [List.getLast?_eq_getElem?] at hd
    obtain ⟨y, hy1, hy2⟩ := hr.of hd
    refine ⟨.ref a, of_get_app h1 (hl ▸ lt_of_get e1), Or.inl ⟨rfl, ys, SqL.of hy⟩, a, ys, y, rfl, rfl, hy, by rw [ly]; exact hy1, ?_⟩
    have st2 := st.pushF hy2
    have e2 : ((ρ ++ ρx) ++ [some (Sl.fz d)])[i]? = some (some (.ol ds)) := get_app (get_app e1)
    have h2 : ((σ ++ σx) ++ [some y])[i]? = some (some (.ref a)) := get_app h1
    have st3 := st2.write (es := ds.dropLast) (ys := ys.dropLast) e2 h2 (by rw [List.length_dropLast]; omega) hr.dropLast
    have hi := lt_of_get e1
    rw [app_set _ _ _ _ (by rw [List.length_append]; omega), app_set _ _ _ _ hi] at st3
    exact q (.fz d) _ y _ S (by simp [hl]) st3 hk
  · exact hw.elim⟩
/-- x.extend(e) of a list -/
def wExt (i : Nat) (w : WE) : WE := fun ρ k => (∃ ds, ρ[i]? = some (some (.ol ds))) ∧ w ρ fun y ρ1 => match ρ1[i]?, y.toD with
  | some (some (.ol ds)), .lst es => ds.length + es.length ≤ 1000000 ∧ k (.fz .non) (ρ1.set i (some (.ol (ds ++ es))))
  | _, _ => False
theorem pd_extend {i : Nat} {es0 : Expr} (he : PD X C e t w) {tt : TE} (hp : PE X es0 tt) (htt : tt = tBM X.K "list" rExtend (tVar i) (tCons t tNil)) : PD X C es0 tt (wExt i w) := ⟨hp, by
  subst htt
  intro ρ ρx σ σx H S k Q hl st hw q
  obtain ⟨⟨ds0, e0⟩, hw⟩ := hw
  obtain ⟨v, h1, a, xs, rfl, m, h0, hx, hlen, hr⟩ := st.get (get_app e0)
  refine ⟨.ref a, of_get_app h1 (hl ▸ lt_of_get e0), Or.inl ⟨rfl, xs, SqL.of hx⟩, ?_⟩
  refine he.ok ρ ρx σ σx H S _ _ hl st hw fun y ρ1 u H1 S1 hl1 st1 hk => ?_
  split at hk
  · rename_i ds es e1 e2
    obtain ⟨S1', st1'⟩ := st1.lastD
    have lx : (ρ1 ++ ρx).length = (σ ++ σx).length := by have := st1.len; simp only [List.length_append, List.length_cons, List.length_nil] at *; omega
    obtain ⟨c, zs, rfl, z1, z2, z3⟩ := (st1'.last lx).lst (show (Sl.fz y.toD).toD = .lst es from e2)
    have st2 := st1'.popLast
    obtain ⟨v', h2, b, ys, rfl, m', h0', hy, hlen', hr'⟩ := st2.get (get_app e1)
    rw [h1] at h2
    cases h2
    have ly := hr'.len
    have lz := z3.len
    refine ⟨a, c, ys, zs, rfl, rfl, hy, z1, lim_line (by omega), ?_⟩
    have st3 := st2.write (es := ds ++ es) (ys := ys ++ zs) (get_app e1) h1 (by rw [List.length_append]; omega) (hr'.app z3)
    rw [app_set _ _ _ _ (lt_of_get e1)] at st3
    exact q (.fz .non) _ .non _ S1' (by simp [hl1]) (st3.pushF (d := .non) rfl) hk.2
  · exact hk.elim⟩
/-- x[i] = .. of a list of one's own -/
def wSub (i : Nat) (w : WE) : WG := fun s ρ k => (∃ ds, ρ[i]? = some (some (.ol ds))) ∧ w ρ fun y ρ1 => match ρ1[i]?, y.toD with
  | some (some (.ol ds)), .int n => ∃ j, ixN ds.length n = some j ∧ k (ρ1.set i (some (.ol (ds.set j s.toD))))
  | _, _ => False
theorem qg_sub {i : Nat} {tg : Expr} {g : TG} (hp : PG X tg g) (hg : g = gSub (tVar i) t rSetL) (he : OkB C t w) : QG X C [] tg g (wSub i w) := ⟨hp, by
  subst hg
  intro ρ ρx σ σx H S s v k Q hl st ok ap hw q
  obtain ⟨⟨ds0, e0⟩, hw⟩ := hw
  obtain ⟨va, h1, a, xs, rfl, m, h0, hx, hlen, hr⟩ := st.get (get_app e0)
  refine ⟨.ref a, of_get_app h1 (hl ▸ lt_of_get e0), ?_⟩
  -- the value as data
  obtain ⟨S0, st0⟩ := (st.push ok ap).lastD
  rw [List.append_assoc, List.append_assoc] at st0
  refine he ρ (ρx ++ [some (.fz s.toD)]) σ (σx ++ [some v]) H S0 _ _ hl st0 hw fun y ρ1 u H1 S1 hl1 st1 oky hk => ?_
  split at hk
  · rename_i ds n e1 e2
    obtain ⟨j, hj, hk⟩ := hk
    rw [← List.append_assoc, ← List.append_assoc] at st1
    have lx : (ρ1 ++ ρx).length = (σ ++ σx).length := by have := st1.len; simp only [List.length_append, List.length_cons, List.length_nil] at *; omega
    have okv := st1.last lx
    have st2 := st1.popLast
    obtain ⟨v', h2, b, ys, rfl, m', h0', hy, hlen', hr'⟩ := st2.get (get_app e1)
    rw [h1] at h2
    cases h2
    refine ⟨a, ys, n, j, rfl, oky.int e2, hy, by rw [hr'.len]; exact hj, ?_⟩
    have st3 := st2.write (es := ds.set j s.toD) (ys := ys.set j v) (get_app e1) h1 (by rw [List.length_set]; exact hlen') (Rps.set okv j hr')
    rw [app_set _ _ _ _ (lt_of_get e1)] at st3
    exact q _ σ _ S1 (by simp [hl1]) (At.refl σ) st3 hk
  · exact hk.elim⟩
end
end Q

set_option autoImplicit false
set_option linter.all false
/-! Q5: what is walked; for, while, comprehensions -/
namespace Q
open PySem L2
abbrev WI := Ev → (List D → Ev → Prop) → Prop
/-- an iterator that walks data, which the slots ρh hold -/
structure ItOk (C : Cxt) (J : It) (ρh : Ev) (σh : St) (ds : List D) : Prop where
  go : ∀ (ρ : Ev) (σ : St) (H : Hp) (S : List Addr) (i : Nat), ρ.length = σ.length → Sta C (ρ ++ ρh) (σ ++ σh) H S → i < ds.length → J.go i H
  stop : ∀ (ρ : Ev) (σ : St) (H : Hp) (S : List Addr), ρ.length = σ.length → Sta C (ρ ++ ρh) (σ ++ σh) H S → J.stop ds.length H
  keep : ∀ (i : Nat) (H : Hp) (x : V) (H' : Hp), J.yld i H x H' → Same H H'
  yld : ∀ (ρ : Ev) (σ : St) (H H' : Hp) (S : List Addr) (i : Nat) (x : V) (d : D), ρ.length = σ.length → Sta C (ρ ++ ρh) (σ ++ σh) H S → ds[i]? = some d → J.yld i H x H' → Sta C (ρ ++ ρh) (σ ++ σh) H' S ∧ Rp C.B (hid S H') x d
theorem ItOk.yldA {C : Cxt} {J : It} {ρh : Ev} {σh : St} {ds : List D} (it : ItOk C J ρh σh ds) {ρ : Ev} {σ : St} {H H' : Hp} {S : List Addr} {i : Nat} {x : V} {d : D} {o : Option Sl} {p : Option V} (hl : ρ.length = σ.length) (hh : ρh.length = σh.length) (st : Sta C ((ρ ++ ρh) ++ [o]) ((σ ++ σh) ++ [p]) H S) (hd : ds[i]? = some d) (y : J.yld i H x H') :
    Sta C ((ρ ++ ρh) ++ [o]) ((σ ++ σh) ++ [p]) H' S ∧ Rp C.B (hid S H') x d := by
  have l : (ρ ++ ρh).length = (σ ++ σh).length := by simp only [List.length_append]; omega
  obtain ⟨h1, h2⟩ := it.yld ρ σ H H' S i x d hl (st.drop l) hd y
  exact ⟨st.same (it.keep i H x H' y), h2⟩
def OkI (C : Cxt) (t : TI) (w : WI) : Prop := ∀ (ρ ρx : Ev) (σ σx : St) (H : Hp) (S : List Addr) (k : List D → Ev → Prop) (R : It → Hp → Prop), ρ.length = σ.length → Sta C (ρ ++ ρx) (σ ++ σx) H S → w ρ k →
  (∀ (ds : List D) (ρ' ρh : Ev) (σh : St) (J : It) (H' : Hp) (S' : List Addr), ρ'.length = σ.length → ρh.length = σh.length → Sta C ((ρ' ++ ρx) ++ ρh) ((σ ++ σx) ++ σh) H' S' → ItOk C J ρh σh ds → k ds ρ' → R J H') → t σ H R
structure QI (X : Cx) (C : Cxt) (tg iter : Expr) (t : TI) (w : WI) : Prop where
  pi : PI X tg iter t
  ok : OkI C t w
section
variable {X : Cx} {C : Cxt} {e a bx tg : Expr} {t ta tb : TE} {w wa wb : WE} {pos : Pos}
theorem split_at {α : Type} {l : List α} {i : Nat} (h : i < l.length) : ∃ x, l[i]? = some x := ⟨_, List.getElem?_eq_getElem h⟩
/-- a held list stands still -/
theorem Sta.held {ρ : Ev} {σ : St} {H : Hp} {S : List Addr} {d : D} {v : V} (hl : ρ.length = σ.length) (st : Sta C (ρ ++ [some (.fz d)]) (σ ++ [some v]) H S) : Rp C.B (hid S H) v d := st.last hl
theorem itok_list {K : PySem.W.Frag} {a : Addr} {ds : List D} : ItOk C (Itl K a) [some (.fz (.lst ds))] [some (.ref a)] ds := by
  have get : ∀ {ρ : Ev} {σ : St} {H : Hp} {S : List Addr}, ρ.length = σ.length → Sta C (ρ ++ [some (.fz (.lst ds))]) (σ ++ [some (.ref a)]) H S → ∃ xs, H a = some (.lst xs) ∧ Rps C.B (hid S H) xs ds := fun hl st => by
    obtain ⟨b, xs, e, h2, _, h4⟩ := st.held hl
    cases e
    exact ⟨xs, (hid_some h2).2, h4⟩
  refine ⟨fun ρ σ H S i hl st hi => ?_, fun ρ σ H S hl st => ?_, fun i H x H' y => by rw [y.1]; exact Same.refl _, fun ρ σ H H' S i x d hl st hd y => ?_⟩
  · obtain ⟨xs, h1, h2⟩ := get hl st
    have := h2.len
    exact (walk_list (K := K)).goes i H (by omega) (SqL.of h1)
  · obtain ⟨xs, h1, h2⟩ := get hl st
    rw [← h2.len]
    exact (walk_list (K := K)).stops H (SqL.of h1)
  · obtain ⟨xs, h1, h2⟩ := get hl st
    have hi := lt_of_get hd
    have := h2.len
    obtain ⟨rfl, hx⟩ := (walk_list (K := K)).yields i H x H' (by omega) (SqL.of h1) y
    obtain ⟨d', e1, e2⟩ := h2.at_ hx
    rw [hd] at e1
    cases e1
    exact ⟨st, e2⟩
theorem itok_tup {a : Addr} {ds : List D} : ItOk C (Itt C.B.K a) [some (.fz (.tup ds))] [some (.ref a)] ds := by
  have get : ∀ {ρ : Ev} {σ : St} {H : Hp} {S : List Addr}, ρ.length = σ.length → Sta C (ρ ++ [some (.fz (.tup ds))]) (σ ++ [some (.ref a)]) H S → ∃ xs, SqT C.B.K H a xs ∧ Rps C.B (hid S H) xs ds := fun hl st => by
    obtain ⟨b, xs, e, h2, _, h4⟩ := st.held hl
    cases e
    exact ⟨xs, sameT hid_same h2, h4⟩
  refine ⟨fun ρ σ H S i hl st hi => ?_, fun ρ σ H S hl st => ?_, fun i H x H' y => by rw [y.1]; exact Same.refl _, fun ρ σ H H' S i x d hl st hd y => ?_⟩
  · obtain ⟨xs, h1, h2⟩ := get hl st
    have := h2.len
    exact walk_tup.goes i H (by omega) h1
  · obtain ⟨xs, h1, h2⟩ := get hl st
    rw [← h2.len]
    exact walk_tup.stops H h1
  · obtain ⟨xs, h1, h2⟩ := get hl st
    have hi := lt_of_get hd
    have := h2.len
    obtain ⟨rfl, hx⟩ := walk_tup.yields i H x H' (by omega) h1 y
    obtain ⟨d', e1, e2⟩ := h2.at_ hx
    rw [hd] at e1
    cases e1
    exact ⟨st, e2⟩
/-- over a list -/
def wList (w : WE) : WI := fun ρ k => w ρ fun s ρ1 => match s.toD with
  | .lst ds => k ds ρ1
  | _ => False
theorem qi_list (h : PD X C e t w) : QI X C tg e (iList X.K t) (wList w) := ⟨pi_list h.pe, by
  intro ρ ρx σ σx H S k R hl st hw q
  refine h.ok ρ ρx σ σx H S _ _ hl st hw fun s ρ1 v H1 S1 hl1 st1 hk => ?_
  obtain ⟨S1', st1'⟩ := st1.lastD
  split at hk
  · rename_i ds e1
    rw [e1] at st1'
    have lx : (ρ1 ++ ρx).length = (σ ++ σx).length := by have := st1.len; simp only [List.length_append, List.length_cons, List.length_nil] at *; omega
    obtain ⟨a, xs, rfl, g1, _, _⟩ := (st1'.last lx).lst rfl
    exact ⟨a, rfl, ⟨xs, SqL.of g1⟩, q ds ρ1 _ _ _ H1 S1' hl1 rfl st1' itok_list hk⟩
  · exact hk.elim⟩
/-- over a tuple -/
def wTupI (w : WE) : WI := fun ρ k => w ρ fun s ρ1 => match s.toD with
  | .tup ds => k ds ρ1
  | _ => False
theorem qi_tup (F : Fit X C) (h : PD X C e t w) : QI X C tg e (iTup X.K t) (wTupI w) := ⟨pi_tup h.pe, by
  intro ρ ρx σ σx H S k R hl st hw q
  refine h.ok ρ ρx σ σx H S _ _ hl st hw fun s ρ1 v H1 S1 hl1 st1 hk => ?_
  obtain ⟨S1', st1'⟩ := st1.lastD
  split at hk
  · rename_i ds e1
    rw [e1] at st1'
    have lx : (ρ1 ++ ρx).length = (σ ++ σx).length := by have := st1.len; simp only [List.length_append, List.length_cons, List.length_nil] at *; omega
    obtain ⟨a, xs, rfl, g1, _, _⟩ := (st1'.last lx).tup rfl
    have it : ItOk C (Itt C.B.K a) [some (.fz (.tup ds))] [some (.ref a)] ds := itok_tup
    rw [F.K] at g1 it
    exact ⟨a, rfl, ⟨xs, g1⟩, q ds ρ1 _ _ _ H1 S1' hl1 rfl st1' it hk⟩
  · exact hk.elim⟩
/-- over a range -/
def rng (lo : Int) (n : Nat) : List D := (List.range n).map fun i => D.int (lo + (i : Nat))
theorem rng_get {lo : Int} {n i : Nat} {d : D} (h : (rng lo n)[i]? = some d) : i < n ∧ d = .int (lo + (i : Nat)) := by
  unfold rng at h
  rw [List.getElem?_map] at h
  obtain ⟨j, h1, h2⟩ := Option.map_eq_some_iff.mp h
  have := lt_of_get h1
  rw [List.length_range] at this
  rw [List.getElem?_range this] at h1
  cases h1
  exact ⟨this, h2.symm⟩
theorem itok_range {lo : Int} {n : Nat} : ItOk C (Itr lo n) [] [] (rng lo n) := by
  have ln : (rng lo n).length = n := by simp [rng]
  refine ⟨fun ρ σ H S i hl st hi => ?_, fun ρ σ H S hl st => ?_, fun i H x H' y => by rw [y.1]; exact Same.refl _, fun ρ σ H H' S i x d hl st hd y => ?_⟩
  · exact (walk_range (lo := lo)).goes i H (ln ▸ hi) trivial
  · rw [ln]; exact (walk_range (lo := lo)).stops H trivial
  · obtain ⟨hi, rfl⟩ := rng_get hd
    obtain ⟨rfl, rfl⟩ := (walk_range (lo := lo)).yields i H x H' hi trivial y
    exact ⟨st, rfl⟩
def wRng1 (wa : WA) : WI := fun ρ k => wa ρ fun ds ρ1 => match ds with
  | [.int j] => (-(2 ^ 62) ≤ j ∧ j < 2 ^ 62) ∧ k (rng 0 j.toNat) ρ1
  | _ => False
def wRng2 (wa : WA) : WI := fun ρ k => wa ρ fun ds ρ1 => match ds with
  | [.int i, .int j] => (-(2 ^ 62) ≤ i ∧ i < 2 ^ 62 ∧ -(2 ^ 62) ≤ j ∧ j < 2 ^ 62) ∧ k (rng i (j - i).toNat) ρ1
  | _ => False
theorem args_of {ρ ρx : Ev} {σ σx : St} {H : Hp} {S : List Addr} {ds : List D} {vs : List V} (lx : (ρ ++ ρx).length = (σ ++ σx).length) (st : Sta C ((ρ ++ ρx) ++ fzs ds) ((σ ++ σx) ++ vs.map some) H S) : Sta C (ρ ++ ρx) (σ ++ σx) H S ∧ Rps C.B (hid S H) vs ds := ⟨st.drop lx, st.args lx⟩
theorem qi_range1 {p : Pos} {ta : TA} {wa : WA} (hg : Gl X "range") (hm : X.mg "range" = none) (ha : QA X C [e] ta wa) (hs : starEach [e] X.env = [(false, eval e X.env)] := by rfl) : QI X C tg (.Call (.Name "range" p) [e] [] pos) (iRng1 ta) (wRng1 wa) := ⟨pi_range1 hg hm ha.pa hs, by
  intro ρ ρx σ σx H S k R hl st hw q
  refine ha.ok ρ ρx σ σx H S _ _ hl st hw fun ds ρ1 vs H1 S1 hl1 st1 hk => ?_
  have lx : (ρ1 ++ ρx).length = (σ ++ σx).length := by have := st.len; simp only [List.length_append] at *; omega
  obtain ⟨st2, r⟩ := args_of lx st1
  split at hk
  · rename_i j
    obtain ⟨v, rfl, h1⟩ := rps1 r
    rw [show v = _ from h1]
    exact ⟨j, rfl, hk.1.1, hk.1.2, q _ ρ1 [] [] _ H1 S1 hl1 rfl (by simpa using st2) itok_range hk.2⟩
  · exact hk.elim⟩
theorem qi_range2 {p : Pos} {ta : TA} {wa : WA} (hg : Gl X "range") (hm : X.mg "range" = none) (ha : QA X C [e, a] ta wa) (hs : starEach [e, a] X.env = [(false, eval e X.env), (false, eval a X.env)] := by rfl) (hs2 : starEach [a] X.env = [(false, eval a X.env)] := by rfl) : QI X C tg (.Call (.Name "range" p) [e, a] [] pos) (iRng2 ta) (wRng2 wa) := ⟨pi_range2 hg hm ha.pa hs hs2, by
  intro ρ ρx σ σx H S k R hl st hw q
  refine ha.ok ρ ρx σ σx H S _ _ hl st hw fun ds ρ1 vs H1 S1 hl1 st1 hk => ?_
  have lx : (ρ1 ++ ρx).length = (σ ++ σx).length := by have := st.len; simp only [List.length_append] at *; omega
  obtain ⟨st2, r⟩ := args_of lx st1
  split at hk
  · rename_i i j
    obtain ⟨v, u, rfl, h1, h2⟩ := rps2 r
    rw [show v = _ from h1, show u = _ from h2]
    exact ⟨i, j, rfl, hk.1, q _ ρ1 [] [] _ H1 S1 hl1 rfl (by simpa using st2) itok_range hk.2⟩
  · exact hk.elim⟩

/-! ### for -/
def loopW (g : WG) (body : WS) : List D → En → Ev → Prop
  | [], E, ρ => E.nx ρ
  | d :: ds, E, ρ => g (.fz d) ρ fun ρ1 => body { E with nx := loopW g body ds E, ct := loopW g body ds E, bk := E.nx } ρ1
def wFor (wi : WI) (g : WG) (body : WS) : WS := fun E ρ => wi ρ fun ds ρ1 => loopW g body ds E ρ1
theorem ok_for {is : List Nat} {ti : TI} {wi : WI} {g : TG} {u : WG} {tb : TS} {b : WS} (hi : OkI C ti wi) (hg : OkG C is g u) (hb : OkS C tb b) : OkS C (tFor ti g tb) (wFor wi u b) := by
  intro ρ ρx σ σx H S E D hl st hw f
  refine hi ρ ρx σ σx H S _ _ hl st hw fun ds ρ1 ρh σh J H1 S1 hl1 hh st1 it hk => ?_
  have lx : (ρ1 ++ ρx).length = (σ ++ σx).length := by have := st1.len; simp only [List.length_append] at *; omega
  have lxx : ρx.length = σx.length := by simp only [List.length_append] at lx; omega
  refine ⟨fun i m σ' H' => m = ds.length - i ∧ i ≤ ds.length ∧ ∃ ρ' S', ρ'.length = σ'.length ∧ Sta C ((ρ' ++ ρx) ++ ρh) ((σ' ++ σx) ++ σh) H' S' ∧ loopW u b (ds.drop i) E ρ', ⟨ds.length, by simp, Nat.zero_le _, ρ1, S1, hl1, st1, hk⟩, ?_⟩
  rintro i m σ' H' ⟨rfl, him, ρ', S', hl', st', hk'⟩
  have lx' : (ρ' ++ ρx).length = (σ' ++ σx).length := by simp only [List.length_append]; omega
  by_cases hlt : i < ds.length
  · obtain ⟨d, hd⟩ := split_at hlt
    rw [List.drop_eq_getElem_cons hlt] at hk'
    have ed : ds[i] = d := by rw [List.getElem?_eq_getElem hlt] at hd; exact Option.some.inj hd
    rw [ed] at hk'
    refine .inr ⟨it.go _ _ H' S' i lx' st' hlt, fun σ2 H2 => ∃ ρ2 S2, ρ2.length = σ2.length ∧ Sta C ((ρ2 ++ ρx) ++ ρh) ((σ2 ++ σx) ++ σh) H2 S2 ∧ loopW u b (ds.drop (i + 1)) E ρ2, fun σ2 H2 h2 => ⟨ds.length - (i + 1), by omega, rfl, hlt, h2⟩, fun x H2 y => ?_⟩
    obtain ⟨st2, r2⟩ := it.yld _ _ H' H2 S' i x d lx' st' hd y
    rw [List.append_assoc, List.append_assoc] at st2
    refine hg ρ' (ρx ++ ρh) σ' (σx ++ σh) H2 S' (.fz d) x _ _ hl' st2 r2 (fun z => by cases z) hk' fun ρ3 σ3 H3 S3 hl3 _ st3 hb3 => ?_
    refine hb ρ3 (ρx ++ ρh) σ3 (σx ++ σh) H3 S3 _ _ hl3 st3 hb3 ⟨fun ρ4 σ4 H4 S4 hl4 st4 h4 => ?_, fun ρ4 σ4 H4 S4 s v hl4 st4 h4 => ?_, fun ρ4 σ4 H4 S4 hl4 st4 h4 => ?_, fun ρ4 σ4 H4 S4 hl4 st4 h4 => ?_⟩
    · exact ⟨ρ4, S4, hl4, by rw [List.append_assoc, List.append_assoc]; exact st4, h4⟩
    · -- the held slots are dropped from below the value
      have ok := st4.last (by simp only [List.length_append]; omega)
      have ap := st4.apt
      have st5 := st4.popLast
      rw [← List.append_assoc, ← List.append_assoc] at st5
      have l5 : (ρ4 ++ ρx).length = (σ4 ++ σx).length := by simp only [List.length_append]; omega
      refine f.rt ρ4 σ4 H4 S4 s v hl4 ((st5.drop l5).push ok fun o k t ek to q => ?_) h4
      refine ap o k t ?_ to ?_
      · rw [← List.append_assoc]; exact get_app ek
      · rw [← List.append_assoc]; exact get_app q
    · rw [← List.append_assoc, ← List.append_assoc] at st4
      exact f.nx ρ4 σ4 H4 S4 hl4 (st4.drop (by simp only [List.length_append]; omega)) h4
    · exact ⟨ρ4, S4, hl4, by rw [List.append_assoc, List.append_assoc]; exact st4, h4⟩
  · have e : i = ds.length := by omega
    subst e
    rw [List.drop_length] at hk'
    exact .inl ⟨it.stop _ _ H' S' lx' st', f.nx ρ' σ' H' S' hl' (st'.drop lx') hk'⟩
theorem qs_for {is : List Nat} {iter : Expr} {body : List Stmt} {ti : TI} {wi : WI} {g : TG} {u : WG} {tb : TS} {b : WS} (hp : PassesOwn (model X.prog X.w) X.A X.env X.xe) (hc : X.calm = true) (hi : QI X C tg iter ti wi) (hg : QG X C is tg g u) (hb : QSs X C body tb b) (hs : ∀ x, foldedSetIterable iter X.env x = pure x := by intro _; rfl) :
    QS X C (.For tg iter body [] pos) (tFor ti g tb) (wFor wi u b) := ⟨ps_for hp hc hi.pi hg.pg hb.ps hs, ok_for hi.ok hg.ok hb.ok⟩

/-! ### while -/
def whW (c : WT) (body : WS) : Nat → En → Ev → Prop
  | 0, _, _ => False
  | n + 1, E, ρ => c ρ fun b ρ1 => if b = true then body { E with nx := whW c body n E, ct := whW c body n E, bk := E.nx } ρ1 else E.nx ρ1
def wWhile (c : WT) (body : WS) : WS := fun E ρ => ∃ n, whW c body n E ρ
theorem qs_while {c : Expr} {body : List Stmt} {tc : TT} {wc : WT} {tb : TS} {b : WS} (hp : PassesOwn (model X.prog X.w) X.A X.env X.xe) (hc : QT X C c tc wc) (hb : QSs X C body tb b) : QS X C (.While c body [] pos) (tWhile tc tb) (wWhile wc b) := ⟨ps_while hp hc.pt hb.ps, by
  intro ρ ρx σ σx H S E D hl st hw f
  obtain ⟨n, hw⟩ := hw
  refine ⟨fun m σ' H' => ∃ ρ' S', ρ'.length = σ'.length ∧ Sta C (ρ' ++ ρx) (σ' ++ σx) H' S' ∧ whW wc b m E ρ', ⟨n, ρ, S, hl, st, hw⟩, ?_⟩
  rintro m σ' H' ⟨ρ', S', hl', st', hk⟩
  cases m with
  | zero => exact hk.elim
  | succ m =>
    refine hc.ok ρ' ρx σ' σx H' S' _ _ hl' st' hk fun c ρ1 H1 S1 hl1 st1 hk1 => ?_
    cases c with
    | true =>
      refine ⟨fun σ2 H2 => ∃ ρ2 S2, ρ2.length = σ2.length ∧ Sta C (ρ2 ++ ρx) (σ2 ++ σx) H2 S2 ∧ whW wc b m E ρ2, fun σ2 H2 h => ⟨m, Nat.lt_succ_self _, h⟩, ?_⟩
      refine hb.ok ρ1 ρx σ' σx H1 S1 _ _ hl1 st1 hk1 ⟨fun ρ4 σ4 H4 S4 hl4 st4 h4 => ⟨ρ4, S4, hl4, st4, h4⟩, f.rt, fun ρ4 σ4 H4 S4 hl4 st4 h4 => f.nx ρ4 σ4 H4 S4 hl4 st4 h4, fun ρ4 σ4 H4 S4 hl4 st4 h4 => ⟨ρ4, S4, hl4, st4, h4⟩⟩
    | false => exact f.nx ρ1 σ' H1 S1 hl1 st1 hk1⟩

/-! ### comprehensions -/
def wipeE (ρ : Ev) : List Nat → Ev
  | [] => ρ
  | v :: vs => (wipeE ρ vs).set v none
theorem wipeE_len (ρ : Ev) : ∀ vs : List Nat, (wipeE ρ vs).length = ρ.length
  | [] => rfl
  | v :: vs => by unfold wipeE; rw [List.length_set, wipeE_len ρ vs]
theorem Sta.wipe {ρ ρx : Ev} {σ σx : St} {H : Hp} {S : List Addr} (hl : ρ.length = σ.length) (st : Sta C (ρ ++ ρx) (σ ++ σx) H S) : ∀ vs : List Nat, Sta C (wipeE ρ vs ++ ρx) (L2.wipe σ vs ++ σx) H S
  | [] => st
  | v :: vs => by
    have ih := Sta.wipe hl st vs
    unfold wipeE L2.wipe
    by_cases hv : v < ρ.length
    · have h1 : v < (wipeE ρ vs).length := by rw [wipeE_len]; exact hv
      have h2 : v < (L2.wipe σ vs).length := by rw [wipe_length]; omega
      have := (ih.forget v).blind (set_none _ _) none
      rw [app_set _ _ _ _ h1, app_set _ _ _ _ h2] at this
      exact this
    · rw [List.set_eq_of_length_le (by rw [wipeE_len]; omega), List.set_eq_of_length_le (by rw [wipe_length]; omega)]
      exact ih
/-- .. where the slots keep what they hold -/
theorem Sta.wipeF {ρ ρx : Ev} {σ σx : St} {H : Hp} {S : List Addr} (st : Sta C (ρ ++ ρx) (σ ++ σx) H S) : ∀ vs : List Nat, Sta C (wipeE ρ vs ++ ρx) (σ ++ σx) H S
  | [] => st
  | v :: vs => by
    have ih := Sta.wipeF st vs
    unfold wipeE
    by_cases hv : v < ρ.length
    · have h1 : v < (wipeE ρ vs).length := by rw [wipeE_len]; exact hv
      have := ih.forget v
      rw [app_set _ _ _ _ h1] at this
      exact this
    · rw [List.set_eq_of_length_le (by rw [wipeE_len]; omega)]
      exact ih
theorem wipe_get (σ : St) (j : Nat) : ∀ vs : List Nat, (L2.wipe σ vs)[j]? = if j ∈ vs ∧ j < σ.length then some none else σ[j]?
  | [] => by simp [L2.wipe]
  | v :: vs => by
    unfold L2.wipe
    by_cases hj : v = j
    · subst hj
      by_cases hv : v < σ.length
      · rw [List.getElem?_set_self (by rw [wipe_length]; exact hv), if_pos ⟨List.mem_cons_self, hv⟩]
      · rw [List.set_eq_of_length_le (by rw [wipe_length]; omega), wipe_get σ v vs, if_neg (fun z => hv z.2), if_neg (fun z => hv z.2)]
    · rw [List.getElem?_set_ne hj, wipe_get σ j vs]
      by_cases hm : j ∈ vs ∧ j < σ.length
      · rw [if_pos hm, if_pos ⟨List.mem_cons_of_mem _ hm.1, hm.2⟩]
      · rw [if_neg hm, if_neg (fun z => hm ⟨(List.mem_cons.mp z.1).resolve_left (Ne.symm hj), z.2⟩)]
theorem wipe_at {is vs : List Nat} {σ σ' : St} (a : At is σ σ') (h : ∀ i ∈ is, i ∈ vs) : L2.wipe σ' vs = L2.wipe σ vs := by
  apply List.ext_getElem?
  intro j
  rw [wipe_get, wipe_get, a.1]
  by_cases hj : j ∈ vs ∧ j < σ.length
  · rw [if_pos hj, if_pos hj]
  · rw [if_neg hj, if_neg hj]
    by_cases hm : j ∈ is
    · have : ¬ j < σ.length := fun z => hj ⟨h j hm, z⟩
      have := a.1
      rw [List.getElem?_eq_none (by omega), List.getElem?_eq_none (by omega)]
    · exact a.2 j hm
theorem wipe_idem (σ : St) (vs : List Nat) : L2.wipe (L2.wipe σ vs) vs = L2.wipe σ vs := by
  apply List.ext_getElem?
  intro j
  rw [wipe_get, wipe_get, wipe_length]
  by_cases hj : j ∈ vs ∧ j < σ.length
  · rw [if_pos hj, if_pos hj]
  · rw [if_neg hj, if_neg hj]
/-- the turns of a comprehension: what is made so far -/
def lcW (vs : List Nat) (g : WG) (c : WT) (we : WE) : List D → List D → Ev → (List D → Ev → Prop) → Prop
  | [], acc, ρ, k => k acc ρ
  | d :: ds, acc, ρ, k => g (.fz d) ρ fun ρ1 => c ρ1 fun b ρ2 => if b = true then we ρ2 fun s ρ3 => acc.length < 1000000 ∧ lcW vs g c we ds (acc ++ [s.toD]) (wipeE ρ3 vs) k else lcW vs g c we ds acc (wipeE ρ2 vs) k
def wLc (vs : List Nat) (wi : WI) (g : WG) (c : WT) (we : WE) : WE := fun ρ k => wi ρ fun ds ρ1 => lcW vs g c we ds [] (wipeE ρ1 vs) fun acc ρ2 => k (.ol acc) ρ2
theorem Sta.agree {ρ : Ev} {σ σ' : St} {H : Hp} {S : List Addr} (st : Sta C ρ σ H S) (hl : σ'.length = σ.length) (h : ∀ (i : Nat) (s : Sl), ρ[i]? = some (some s) → σ'[i]? = σ[i]?) : Sta C ρ σ' H S :=
  ⟨st.wd, st.sub, st.own, st.al, st.al0, st.bagO, st.tb, st.len.trans hl.symm, fun i s e => by rw [h i s e]; exact st.sl i s e, fun i j s t v e1 e2 o1 o2 q1 q2 => st.ap i j s t v e1 e2 o1 o2 (by rw [← h i s e1]; exact q1) (by rw [← h j t e2]; exact q2)⟩
theorem wipeE_get (ρ : Ev) {v : Nat} : ∀ {vs : List Nat}, v ∈ vs → ∀ s, (wipeE ρ vs)[v]? ≠ some (some s)
  | [], h, _ => by cases h
  | u :: vs, h, s => by
    unfold wipeE
    by_cases hu : u = v
    · subst hu; exact set_none _ _ s
    · rw [List.getElem?_set_ne hu]
      exact wipeE_get ρ ((List.mem_cons.mp h).resolve_left (Ne.symm hu)) s
/-- from the wiped slots to those as they stand -/
theorem Sta.unwipe {ρ ρx : Ev} {σ σx : St} {H : Hp} {S : List Addr} {vs : List Nat} (hl : ρ.length = σ.length) (st : Sta C (ρ ++ ρx) (L2.wipe σ vs ++ σx) H S) (hn : ∀ v ∈ vs, ∀ s, ρ[v]? ≠ some (some s)) : Sta C (ρ ++ ρx) (σ ++ σx) H S := by
  refine st.agree (by simp [wipe_length]) fun i s e => ?_
  by_cases hi : i < ρ.length
  · have e' := of_get_app e hi
    rw [List.getElem?_append_left (by omega), List.getElem?_append_left (by rw [wipe_length]; omega), wipe_get, if_neg]
    exact fun z => hn i z.1 s e'
  · rw [List.getElem?_append_right (by omega), List.getElem?_append_right (by rw [wipe_length]; omega), wipe_length]
theorem ok_lc {is vs : List Nat} {ti : TI} {wi : WI} {g : TG} {u : WG} {tt : TT} {wt : WT} (hi : OkI C ti wi) (hg : OkG C is g u) (ht : OkT C tt wt) (he : OkE C t w) (hv : ∀ i ∈ is, i ∈ vs) : OkE C (tLc ti g tt t vs) (wLc vs wi u wt w) := by
  intro ρ ρx σ σx H S k Qd hl st hw q
  refine hi ρ ρx σ σx H S _ _ hl st hw fun ds ρ1 ρh σh J H1 S1 hl1 hh st1 it hk D hD => ?_
  have lx : (ρ1 ++ ρx).length = (σ ++ σx).length := by have := st1.len; simp only [List.length_append] at *; omega
  have lxx : ρx.length = σx.length := by simp only [List.length_append] at lx; omega
  have re : ∀ (ρ' : Ev) (a : List Q.D), ((ρ' ++ ρx) ++ ρh) ++ [some (.ol a)] = ρ' ++ (ρx ++ ρh ++ [some (.ol a)]) := fun ρ' a => by simp only [List.append_assoc]
  have rs : ∀ σ' : St, ((σ' ++ σx) ++ σh) ++ [some (.ref D)] = σ' ++ (σx ++ σh ++ [some (.ref D)]) := fun σ' => by simp only [List.append_assoc]
  refine ⟨fun i m H' => m = ds.length - i ∧ i ≤ ds.length ∧ ∃ acc ρ' S', ρ'.length = σ.length ∧ (∀ v ∈ vs, ∀ s, ρ'[v]? ≠ some (some s)) ∧ Sta C (ρ' ++ (ρx ++ ρh ++ [some (.ol acc)])) (L2.wipe σ vs ++ (σx ++ σh ++ [some (.ref D)])) H' S' ∧ lcW vs u wt w (ds.drop i) acc ρ' (fun acc ρ2 => k (.ol acc) ρ2), ⟨ds.length, by simp, Nat.zero_le _, [], wipeE ρ1 vs, D :: S1, by rw [wipeE_len]; exact hl1, fun v m s => wipeE_get ρ1 m s, ?_, hk⟩, ?_⟩
  · have := st1.pushL (ds := []) (xs := []) hD (Nat.zero_le _) Rps.nil
    rw [re, rs] at this
    exact this.wipe hl1 vs
  · rintro i m H' ⟨rfl, him, acc, ρ', S', hl', hn, stw, hk'⟩
    have lx' : (ρ' ++ ρx).length = (L2.wipe σ vs ++ σx).length := by simp only [List.length_append, wipe_length]; omega
    have lh' : ((ρ' ++ ρx) ++ ρh).length = ((L2.wipe σ vs ++ σx) ++ σh).length := by simp only [List.length_append, wipe_length] at *; omega
    have stl := stw
    rw [← re, ← rs] at stl
    by_cases hlt : i < ds.length
    · obtain ⟨d, hd⟩ := split_at hlt
      rw [List.drop_eq_getElem_cons hlt] at hk'
      have ed : ds[i] = d := by rw [List.getElem?_eq_getElem hlt] at hd; exact Option.some.inj hd
      rw [ed] at hk'
      refine .inr ⟨it.go _ _ H' S' i lx' stl.popLast hlt, fun H2 => ∃ acc ρ2 S2, ρ2.length = σ.length ∧ (∀ v ∈ vs, ∀ s, ρ2[v]? ≠ some (some s)) ∧ Sta C (ρ2 ++ (ρx ++ ρh ++ [some (.ol acc)])) (L2.wipe σ vs ++ (σx ++ σh ++ [some (.ref D)])) H2 S2 ∧ lcW vs u wt w (ds.drop (i + 1)) acc ρ2 (fun acc ρ2 => k (.ol acc) ρ2), fun H2 h2 => ⟨ds.length - (i + 1), by omega, rfl, hlt, h2⟩, fun x H2 y => ?_⟩
      -- the item: the heap may have a new pair
      obtain ⟨st2, r2⟩ := it.yldA (ρ := ρ' ++ ρx) (σ := L2.wipe σ vs ++ σx) lx' hh stl hd y
      rw [re, rs] at st2
      refine hg ρ' (ρx ++ ρh ++ [some (.ol acc)]) (L2.wipe σ vs) (σx ++ σh ++ [some (.ref D)]) H2 S' (.fz d) x _ _ (by rw [wipe_length]; exact hl') st2 r2 (fun z => by cases z) hk' fun ρ3 σ3 H3 S3 hl3 a3 st3 hk3 => ?_
      have ew : L2.wipe σ3 vs = L2.wipe σ vs := by rw [wipe_at a3 hv, wipe_idem]
      have l3 : σ3.length = σ.length := by rw [a3.1, wipe_length]
      refine ⟨ew, ?_⟩
      refine ht ρ3 (ρx ++ ρh ++ [some (.ol acc)]) σ3 (σx ++ σh ++ [some (.ref D)]) H3 S3 _ _ hl3 st3 hk3 fun b ρ4 H4 S4 hl4 st4 hk4 => ?_
      cases b with
      | false =>
        refine ⟨acc, wipeE ρ4 vs, S4, by rw [wipeE_len]; omega, fun v m s => wipeE_get ρ4 m s, ?_, hk4⟩
        have := st4.wipe hl4 vs
        rw [ew] at this
        exact this
      | true =>
        refine he ρ4 (ρx ++ ρh ++ [some (.ol acc)]) σ3 (σx ++ σh ++ [some (.ref D)]) H4 S4 _ _ hl4 st4 hk4 fun s ρ5 v H5 S5 hl5 st5 hk5 => ?_
        obtain ⟨S5', st5'⟩ := st5.lastD
        have l5 : (ρ5 ++ (ρx ++ ρh ++ [some (Sl.ol acc)])).length = (σ3 ++ (σx ++ σh ++ [some (V.ref D)])).length := by simp only [List.length_append, List.length_cons, List.length_nil] at *; omega
        have okv := st5'.last l5
        have st6 := st5'.popLast
        have e6 : (ρ5 ++ (ρx ++ ρh ++ [some (.ol acc)]))[ρ5.length + ρx.length + ρh.length]? = some (some (.ol acc)) := by
          rw [← re, List.getElem?_append_right (by simp only [List.length_append]; omega)]
          simp only [List.length_append]
          rw [show ρ5.length + ρx.length + ρh.length - (ρ5.length + ρx.length + ρh.length) = 0 from by omega]
          rfl
        have q6 : (σ3 ++ (σx ++ σh ++ [some (V.ref D)]))[ρ5.length + ρx.length + ρh.length]? = some (some (.ref D)) := by
          rw [← rs, List.getElem?_append_right (by simp only [List.length_append]; omega)]
          simp only [List.length_append]
          rw [show ρ5.length + ρx.length + ρh.length - (σ3.length + σx.length + σh.length) = 0 from by omega]
          rfl
        obtain ⟨v', h2, b, ys, rfl, m', h0', hy, hlen', hr'⟩ := st6.get e6
        rw [q6] at h2
        cases h2
        have ly := hr'.len
        refine ⟨ys, hy, lim_lt (by omega), ?_⟩
        have st7 := st6.write (es := acc ++ [s.toD]) (ys := ys ++ [v]) e6 q6 (by rw [List.length_append]; show ys.length + 1 ≤ _; omega) (hr'.snoc okv)
        have e7 : (ρ5 ++ (ρx ++ ρh ++ [some (Sl.ol acc)])).set (ρ5.length + ρx.length + ρh.length) (some (.ol (acc ++ [s.toD]))) = ρ5 ++ (ρx ++ ρh ++ [some (.ol (acc ++ [s.toD]))]) := by
          rw [← re, ← re, List.set_append_right _ _ (by simp only [List.length_append]; omega)]
          simp only [List.length_append]
          rw [show ρ5.length + ρx.length + ρh.length - (ρ5.length + ρx.length + ρh.length) = 0 from by omega]
          rfl
        rw [e7] at st7
        refine ⟨acc ++ [s.toD], wipeE ρ5 vs, S5', by rw [wipeE_len]; omega, fun v m s => wipeE_get ρ5 m s, ?_, hk5.2⟩
        have := st7.wipe hl5 vs
        rw [ew] at this
        exact this
    · have e : i = ds.length := by omega
      subst e
      rw [List.drop_length] at hk'
      refine .inl ⟨it.stop _ _ H' S' lx' stl.popLast, ?_⟩
      have stf := stw.unwipe hl' hn
      rw [← re, ← rs] at stf
      have lf : (ρ' ++ ρx).length = (σ ++ σx).length := by simp only [List.length_append]; omega
      have lhf : ((ρ' ++ ρx) ++ ρh).length = ((σ ++ σx) ++ σh).length := by simp only [List.length_append] at *; omega
      refine q (.ol acc) ρ' (.ref D) H' S' hl' ((stf.popLast.drop lf).push (stf.last lhf) fun o j t ej to z => ?_) hk'
      exact stf.apt o j t (get_app ej) to (get_app z)
theorem pd_lc {scope : Scope} {own : List (Str × Nat)} {is : List Nat} {iter elt : Expr} {ifs : List Expr} {ti : TI} {wi : WI} {g : TG} {u : WG} {tt : TT} {wt : WT} (hc : X.calm = true) (hN : X.N.Nodup) (hi : QI X C tg iter ti wi) (ok : BlkOk X.N X.env.scope scope own)
    (hg : ∀ (s : Shared) (H : Hp) (Cl : Addr) (cl : List (Str × Addr)) (fp : List Addr), QG (X.blk s H scope (compEnvC scope cl Cl X.env) fp) C is tg g u) (ht : ∀ (s : Shared) (H : Hp) (Cl : Addr) (cl : List (Str × Addr)) (fp : List Addr), PTs (X.blk s H scope (compEnvC scope cl Cl X.env) fp) ifs tt) (ht' : OkT C tt wt)
    (he : ∀ (s : Shared) (H : Hp) (Cl : Addr) (cl : List (Str × Addr)) (fp : List Addr), PD (X.blk s H scope (compEnvC scope cl Cl X.env) fp) C elt t w) (hv : ∀ i ∈ is, i ∈ own.map (·.2)) (hs : ∀ x, foldedSetIterable iter X.env x = pure x := by intro _; rfl) (h0 : OkG C is g u) (h1 : OkE C t w) :
    PD X C (.ListComp elt [⟨tg, iter, ifs, 0⟩] scope pos) (tLc ti g tt t (own.map (·.2))) (wLc (own.map (·.2)) wi u wt w) := ⟨pe_lc hc hN hi.pi ok (fun s H Cl cl fp => (hg s H Cl cl fp).pg) ht (fun s H Cl cl fp => (he s H Cl cl fp).pe) hs, ok_lc hi.ok h0 ht' h1 hv⟩

/-! ### enumerate, zip, reversed, the signs of a text -/
theorem Sta.newTup {ρ : Ev} {σ : St} {H : Hp} {S : List Addr} (st : Sta C ρ σ H S) {T : Addr} {xs : List V} {ds : List D} (hT : H T = none) (hl : xs.length ≤ 1000000) (r : Rps C.B (hid S H) xs ds) : Sta C ρ σ (upd H T (.tup xs)) S ∧ Rp C.B (hid S (upd H T (.tup xs))) (.ref T) (.tup ds) :=
  ⟨st.new hT, T, xs, rfl, SqT.of (by rw [hid_ne (st.notS hT), upd_same]), hl, Rps.same (hid_new hT) ds r⟩
def enumD (ds : List D) : List D := (List.range ds.length).zipWith (fun i d => D.tup [.int (i : Nat), d]) ds
theorem enumD_len (ds : List D) : (enumD ds).length = ds.length := by simp [enumD]
theorem enumD_get {ds : List D} {i : Nat} {d : D} (h : (enumD ds)[i]? = some d) : ∃ x, ds[i]? = some x ∧ d = .tup [.int (i : Nat), x] := by
  unfold enumD at h
  rw [List.getElem?_zipWith] at h
  have hi : i < ds.length := by
    cases e : ds[i]? with
    | none => rw [e] at h; cases q : (List.range ds.length)[i]? <;> rw [q] at h <;> cases h
    | some x => exact lt_of_get e
  rw [List.getElem?_range hi, List.getElem?_eq_getElem hi] at h
  cases h
  exact ⟨_, List.getElem?_eq_getElem hi, rfl⟩
theorem itok_enum {K : PySem.W.Frag} {a : Addr} {ds : List D} : ItOk C (Ite K a) [some (.fz (.lst ds))] [some (.ref a)] (enumD ds) := by
  have get : ∀ {ρ : Ev} {σ : St} {H : Hp} {S : List Addr}, ρ.length = σ.length → Sta C (ρ ++ [some (.fz (.lst ds))]) (σ ++ [some (.ref a)]) H S → ∃ xs, H a = some (.lst xs) ∧ Rps C.B (hid S H) xs ds := fun hl st => by
    obtain ⟨b, xs, e, h2, _, h4⟩ := st.held hl
    cases e
    exact ⟨xs, (hid_some h2).2, h4⟩
  refine ⟨fun ρ σ H S i hl st hi => ?_, fun ρ σ H S hl st => ?_, fun i H x H' y => ?_, fun ρ σ H H' S i x d hl st hd y => ?_⟩
  · obtain ⟨xs, h1, h2⟩ := get hl st
    rw [enumD_len, ← h2.len] at hi
    exact (walk_enum (K := K)).goes i H hi (SqL.of h1)
  · obtain ⟨xs, h1, h2⟩ := get hl st
    rw [enumD_len, ← h2.len]
    exact (walk_enum (K := K)).stops H (SqL.of h1)
  · obtain ⟨T, x, h1, h2, rfl, h4⟩ := y
    exact fun b o e => by rw [upd_ne (ne_of_none e h2)]; exact e
  · obtain ⟨xs, h1, h2⟩ := get hl st
    obtain ⟨z, hz, rfl⟩ := enumD_get hd
    have hi := lt_of_get hz
    have := h2.len
    obtain ⟨T, y1, y2, rfl, hT, rfl, e1, e2⟩ := (walk_enum (K := K)).yields i H x H' (by omega) (SqL.of h1) y
    cases e1
    obtain ⟨d', e3, e4⟩ := h2.at_ e2
    rw [hz] at e3
    cases e3
    exact st.newTup hT (by show 2 ≤ 1000000; decide) (.cons rfl (.cons e4 .nil))
def wEnum (w : WE) : WI := fun ρ k => w ρ fun s ρ1 => match s.toD with
  | .lst ds => k (enumD ds) ρ1
  | _ => False
theorem sets1 {ρ : Ev} {σ : St} {s : Sl} {v : V} : ρ ++ fzs [s.toD] = ρ ++ [some (Sl.fz s.toD)] ∧ σ ++ [v].map some = σ ++ [some v] := ⟨rfl, rfl⟩
theorem qi_enum (F : Fit X C) {p tpos : Pos} {elts : List Expr} {kk : Nat} (hg : Gl X "enumerate") (hm : X.mg "enumerate" = none) (ha : PD X C e t w) (hs : starEach [e] X.env = (false, eval e X.env) :: starEach [] X.env := by rfl) : QI X C (.Tuple elts kk tpos) (.Call (.Name "enumerate" p) [e] [] pos) (iEnum X.K (tCons t tNil)) (wEnum w) := ⟨pi_enum hg hm (pa_cons ha.pe pa_nil hs) hs, by
  intro ρ ρx σ σx H S k R hl st hw q
  refine ha.ok ρ ρx σ σx H S _ _ hl st hw fun s ρ1 v H1 S1 hl1 st1 hk => ?_
  obtain ⟨S1', st1'⟩ := st1.lastD
  split at hk
  · rename_i ds e1
    rw [e1] at st1'
    have lx : (ρ1 ++ ρx).length = (σ ++ σx).length := by have := st1.len; simp only [List.length_append, List.length_cons, List.length_nil] at *; omega
    obtain ⟨a, xs, rfl, g1, _, _⟩ := (st1'.last lx).lst rfl
    exact ⟨a, xs, rfl, SqL.of g1, q _ ρ1 _ _ _ H1 S1' hl1 rfl st1' itok_enum hk⟩
  · exact hk.elim⟩
def zipD (ds es : List D) : List D := ds.zipWith (fun d e => D.tup [d, e]) es
theorem zipD_len (ds es : List D) : (zipD ds es).length = min ds.length es.length := by simp [zipD]
theorem zipD_get {ds es : List D} {i : Nat} {d : D} (h : (zipD ds es)[i]? = some d) : ∃ x y, ds[i]? = some x ∧ es[i]? = some y ∧ d = .tup [x, y] := by
  unfold zipD at h
  rw [List.getElem?_zipWith] at h
  cases e : ds[i]? with
  | none => rw [e] at h; cases h
  | some x =>
    cases f : es[i]? with
    | none => rw [e, f] at h; cases h
    | some y => rw [e, f] at h; cases h; exact ⟨x, y, rfl, rfl, rfl⟩
theorem Sta.held2 {ρ : Ev} {σ : St} {H : Hp} {S : List Addr} {d d' : D} {v v' : V} (hl : ρ.length = σ.length) (st : Sta C (ρ ++ [some (.fz d), some (.fz d')]) (σ ++ [some v, some v']) H S) : Rp C.B (hid S H) v d ∧ Rp C.B (hid S H) v' d' := by
  have e1 : ρ ++ [some (Sl.fz d), some (.fz d')] = (ρ ++ [some (.fz d)]) ++ [some (.fz d')] := by simp
  have e2 : σ ++ [some v, some v'] = (σ ++ [some v]) ++ [some v'] := by simp
  rw [e1, e2] at st
  exact ⟨st.popLast.held hl, st.held (by simp [hl])⟩
theorem itok_zip {K : PySem.W.Frag} {a b : Addr} {ds es : List D} : ItOk C (Itz K a b) [some (.fz (.lst ds)), some (.fz (.lst es))] [some (.ref a), some (.ref b)] (zipD ds es) := by
  have get : ∀ {ρ : Ev} {σ : St} {H : Hp} {S : List Addr}, ρ.length = σ.length → Sta C (ρ ++ [some (.fz (.lst ds)), some (.fz (.lst es))]) (σ ++ [some (.ref a), some (.ref b)]) H S → ∃ xs ys, H a = some (.lst xs) ∧ H b = some (.lst ys) ∧ Rps C.B (hid S H) xs ds ∧ Rps C.B (hid S H) ys es := fun hl st => by
    obtain ⟨⟨b', xs, e, h2, _, h4⟩, ⟨b2, ys, e', g2, _, g4⟩⟩ := st.held2 hl
    cases e
    cases e'
    exact ⟨xs, ys, (hid_some h2).2, (hid_some g2).2, h4, g4⟩
  refine ⟨fun ρ σ H S i hl st hi => ?_, fun ρ σ H S hl st => ?_, fun i H x H' y => ?_, fun ρ σ H H' S i x d hl st hd y => ?_⟩
  · obtain ⟨xs, ys, h1, h2, h3, h4⟩ := get hl st
    rw [zipD_len, ← h3.len, ← h4.len] at hi
    exact (walk_zip (K := K) rfl).goes i H hi ⟨SqL.of h1, SqL.of h2⟩
  · obtain ⟨xs, ys, h1, h2, h3, h4⟩ := get hl st
    rw [zipD_len, ← h3.len, ← h4.len]
    exact (walk_zip (K := K) rfl).stops H ⟨SqL.of h1, SqL.of h2⟩
  · obtain ⟨T, x, z, h1, h2, rfl, h4⟩ := y
    exact fun b o e => by rw [upd_ne (ne_of_none e h2)]; exact e
  · obtain ⟨xs, ys, h1, h2, h3, h4⟩ := get hl st
    obtain ⟨z, u, hz, hu, rfl⟩ := zipD_get hd
    have l1 := lt_of_get hz
    have l2 := lt_of_get hu
    have := h3.len
    have := h4.len
    obtain ⟨T, y1, y2, rfl, hT, rfl, e1, e2⟩ := (walk_zip (K := K) rfl).yields i H x H' (by omega) ⟨SqL.of h1, SqL.of h2⟩ y
    obtain ⟨d', e3, e4⟩ := h3.at_ e1
    rw [hz] at e3
    cases e3
    obtain ⟨d'', e5, e6⟩ := h4.at_ e2
    rw [hu] at e5
    cases e5
    exact st.newTup hT (by show 2 ≤ 1000000; decide) (.cons e4 (.cons e6 .nil))
theorem itok_zipT {a b : Addr} {ds es : List D} : ItOk C (RZ.ItzT C.B.K a b) [some (.fz (.tup ds)), some (.fz (.tup es))] [some (.ref a), some (.ref b)] (zipD ds es) := by
  have get : ∀ {ρ : Ev} {σ : St} {H : Hp} {S : List Addr}, ρ.length = σ.length → Sta C (ρ ++ [some (.fz (.tup ds)), some (.fz (.tup es))]) (σ ++ [some (.ref a), some (.ref b)]) H S → ∃ xs ys, SqT C.B.K H a xs ∧ SqT C.B.K H b ys ∧ Rps C.B (hid S H) xs ds ∧ Rps C.B (hid S H) ys es := fun hl st => by
    obtain ⟨⟨b', xs, e, h2, _, h4⟩, ⟨b2, ys, e', g2, _, g4⟩⟩ := st.held2 hl
    cases e
    cases e'
    exact ⟨xs, ys, sameT hid_same h2, sameT hid_same g2, h4, g4⟩
  refine ⟨fun ρ σ H S i hl st hi => ?_, fun ρ σ H S hl st => ?_, fun i H x H' y => ?_, fun ρ σ H H' S i x d hl st hd y => ?_⟩
  · obtain ⟨xs, ys, h1, h2, h3, h4⟩ := get hl st
    rw [zipD_len, ← h3.len, ← h4.len] at hi
    exact (RF.walk_zipT rfl).goes i H hi ⟨h1, h2⟩
  · obtain ⟨xs, ys, h1, h2, h3, h4⟩ := get hl st
    rw [zipD_len, ← h3.len, ← h4.len]
    exact (RF.walk_zipT rfl).stops H ⟨h1, h2⟩
  · obtain ⟨T, x, z, h1, h2, rfl, h4⟩ := y
    exact fun b o e => by rw [upd_ne (ne_of_none e h2)]; exact e
  · obtain ⟨xs, ys, h1, h2, h3, h4⟩ := get hl st
    obtain ⟨z, u, hz, hu, rfl⟩ := zipD_get hd
    have l1 := lt_of_get hz
    have l2 := lt_of_get hu
    have := h3.len
    have := h4.len
    obtain ⟨T, y1, y2, rfl, hT, rfl, e1, e2⟩ := (RF.walk_zipT rfl).yields i H x H' (by omega) ⟨h1, h2⟩ y
    obtain ⟨d', e3, e4⟩ := h3.at_ e1
    rw [hz] at e3
    cases e3
    obtain ⟨d'', e5, e6⟩ := h4.at_ e2
    rw [hu] at e5
    cases e5
    exact st.newTup hT (by show 2 ≤ 1000000; decide) (.cons e4 (.cons e6 .nil))
def wZip (wa : WA) : WI := fun ρ k => wa ρ fun ds ρ1 => match ds with
  | [.lst xs, .lst ys] => k (zipD xs ys) ρ1
  | [.tup xs, .tup ys] => k (zipD xs ys) ρ1
  | _ => False
theorem qi_zip (F : Fit X C) {ta : TA} {wa : WA} {p tpos : Pos} {elts : List Expr} {kk : Nat} (hg : Gl X "zip") (hm : X.mg "zip" = none) (ha : QA X C [e, a] ta wa) (hs : starEach [e, a] X.env = (false, eval e X.env) :: starEach [a] X.env := by rfl) (hpl : (backTo pos (starEach [a] X.env)).any (·.1) = false := by rfl) :
    QI X C (.Tuple elts kk tpos) (.Call (.Name "zip" p) [e, a] [] pos) (RZ.iZipA X.K ta) (wZip wa) := ⟨RZ.pi_zipA hg hm ha.pa hs hpl, by
  intro ρ ρx σ σx H S k R hl st hw q
  refine ha.ok ρ ρx σ σx H S _ _ hl st hw fun ds ρ1 vs H1 S1 hl1 st1 hk => ?_
  have lx : (ρ1 ++ ρx).length = (σ ++ σx).length := by have := st.len; simp only [List.length_append] at *; omega
  obtain ⟨st2, r⟩ := args_of lx st1
  split at hk
  · rename_i xs ys
    obtain ⟨v, u, rfl, h1, h2⟩ := rps2 r
    obtain ⟨a, us, rfl, g1, _, _⟩ := id h1
    obtain ⟨b, ws, rfl, g2, _, _⟩ := id h2
    exact ⟨a, b, us, ws, rfl, .inl ⟨SqL.of (hid_some g1).2, SqL.of (hid_some g2).2, q _ ρ1 [some (.fz (.lst xs)), some (.fz (.lst ys))] [some (.ref a), some (.ref b)] _ H1 S1 hl1 rfl (by simpa [fzs] using st1) itok_zip hk⟩⟩
  · rename_i xs ys
    obtain ⟨v, u, rfl, h1, h2⟩ := rps2 r
    obtain ⟨a, us, rfl, g1, _, _⟩ := id h1
    obtain ⟨b, ws, rfl, g2, _, _⟩ := id h2
    have it : ItOk C (RZ.ItzT C.B.K a b) [some (.fz (.tup xs)), some (.fz (.tup ys))] [some (.ref a), some (.ref b)] (zipD xs ys) := itok_zipT
    rw [F.K] at g1 g2 it
    exact ⟨a, b, us, ws, rfl, .inr ⟨sameT hid_same g1, sameT hid_same g2, q _ ρ1 _ _ _ H1 S1 hl1 rfl (by simpa [fzs] using st1) it hk⟩⟩
  · exact hk.elim⟩
theorem itok_rev {K : PySem.W.Frag} {a : Addr} {ds : List D} : ItOk C (Itv K a ds.length) [some (.fz (.lst ds))] [some (.ref a)] ds.reverse := by
  have get : ∀ {ρ : Ev} {σ : St} {H : Hp} {S : List Addr}, ρ.length = σ.length → Sta C (ρ ++ [some (.fz (.lst ds))]) (σ ++ [some (.ref a)]) H S → ∃ xs, xs.length = ds.length ∧ H a = some (.lst xs) ∧ Rps C.B (hid S H) xs ds := fun hl st => by
    obtain ⟨b, xs, e, h2, _, h4⟩ := st.held hl
    cases e
    exact ⟨xs, h4.len, (hid_some h2).2, h4⟩
  refine ⟨fun ρ σ H S i hl st hi => ?_, fun ρ σ H S hl st => ?_, fun i H x H' y => by rw [y.1]; exact Same.refl _, fun ρ σ H H' S i x d hl st hd y => ?_⟩
  · obtain ⟨xs, h0, h1, h2⟩ := get hl st
    rw [List.length_reverse, ← h0] at hi
    rw [← h0]
    exact (walk_rev (K := K)).goes i H hi (SqL.of h1)
  · obtain ⟨xs, h0, h1, h2⟩ := get hl st
    rw [List.length_reverse, ← h0]
    exact (walk_rev (K := K)).stops H (SqL.of h1)
  · obtain ⟨xs, h0, h1, h2⟩ := get hl st
    have hi := lt_of_get hd
    rw [List.length_reverse] at hi
    rw [← h0] at y
    obtain ⟨rfl, hx⟩ := (walk_rev (K := K)).yields i H x H' (by omega) (SqL.of h1) y
    obtain ⟨d', e1, e2⟩ := h2.at_ hx
    rw [List.getElem?_reverse (by omega), ← h0, e1] at hd
    cases hd
    exact ⟨st, e2⟩
def wRevI (w : WE) : WI := fun ρ k => w ρ fun s ρ1 => match s.toD with
  | .lst ds => k ds.reverse ρ1
  | _ => False
theorem qi_rev {p : Pos} (hg : Gl X "reversed") (hm : X.mg "reversed" = none) (ha : PD X C e t w) (hs : starEach [e] X.env = (false, eval e X.env) :: starEach [] X.env := by rfl) : QI X C tg (.Call (.Name "reversed" p) [e] [] pos) (iRev X.K (tCons t tNil)) (wRevI w) := ⟨pi_reversed hg hm (pa_cons ha.pe pa_nil hs) hs, by
  intro ρ ρx σ σx H S k R hl st hw q
  refine ha.ok ρ ρx σ σx H S _ _ hl st hw fun s ρ1 v H1 S1 hl1 st1 hk => ?_
  obtain ⟨S1', st1'⟩ := st1.lastD
  split at hk
  · rename_i ds e1
    rw [e1] at st1'
    have lx : (ρ1 ++ ρx).length = (σ ++ σx).length := by have := st1.len; simp only [List.length_append, List.length_cons, List.length_nil] at *; omega
    obtain ⟨a, xs, rfl, g1, _, g3⟩ := (st1'.last lx).lst rfl
    have it : ItOk C (Itv X.K a ds.length) [some (.fz (.lst ds))] [some (.ref a)] ds.reverse := itok_rev
    rw [← g3.len] at it
    exact ⟨a, xs, rfl, SqL.of g1, q _ ρ1 _ _ _ H1 S1' hl1 rfl st1' it hk⟩
  · exact hk.elim⟩
/-- the signs of a text -/
def signsD (z : Str) : List D := z.cps.toList.map fun c => .str ⟨#[c]⟩
theorem itok_str {z : Str} : ItOk C (Its z) [] [] (signsD z) := by
  have ln : (signsD z).length = z.cps.size := by simp [signsD]
  refine ⟨fun ρ σ H S i hl st hi => ?_, fun ρ σ H S hl st => ?_, fun i H x H' y => by rw [y.1]; exact Same.refl _, fun ρ σ H H' S i x d hl st hd y => ?_⟩
  · exact walk_str.goes i H (ln ▸ hi) trivial
  · rw [ln]; exact walk_str.stops H trivial
  · have hi : i < z.cps.size := ln ▸ lt_of_get hd
    obtain ⟨rfl, c, hc, rfl⟩ := walk_str.yields i H x H' hi trivial y
    refine ⟨st, ?_⟩
    unfold signsD at hd
    rw [List.getElem?_map, Array.getElem?_toList, hc] at hd
    cases hd
    rfl
def wStrI (w : WE) : WI := fun ρ k => w ρ fun s ρ1 => match s.toD with
  | .str z => k (signsD z) ρ1
  | _ => False
theorem qi_str (h : PD X C e t w) : QI X C tg e (iStr t) (wStrI w) := ⟨pi_str h.pe, by
  intro ρ ρx σ σx H S k R hl st hw q
  refine h.ok ρ ρx σ σx H S _ _ hl st hw fun s ρ1 v H1 S1 hl1 st1 hk => ?_
  split at hk
  · rename_i z e1
    have lx : (ρ1 ++ ρx).length = (σ ++ σx).length := by have := st1.len; simp only [List.length_append, List.length_cons, List.length_nil] at *; omega
    exact ⟨z, (st1.last lx).str e1, q _ ρ1 [] [] _ H1 S1 hl1 rfl (by simpa using st1.popLast) itok_str hk⟩
  · exact hk.elim⟩
end
end Q


set_option autoImplicit false
set_option linter.all false
/-! Q6: what a def promises over data; calls -/
namespace Q
open PySem L2
open RF (Df pe_callD BagAt)
open PyProof.Rows (envOfC)
abbrev Ph := List D → (Sl → Prop) → (Exc → Prop) → Prop
def ExcOk (B : Bk) (S : List Addr) (H : Hp) (e : Exc) (cls : Value) (d : Option Addr) : Prop := ∃ (Cl dd : Addr) (fs : List (Str × V)), B.mg e.c = some (.ref Cl) ∧ cls = .ref Cl ∧ d = some dd ∧ H dd = some (.xd fs) ∧ fs.map (·.1) = e.ns ∧ Rps B (hid S H) (fs.map (·.2)) e.ds
def RetOk (B : Bk) (S : List Addr) (H H' : Hp) (v : V) : Sl → Prop
  | .fz d => Rp B (hid S H') v d
  | .ol ds => ∃ a xs, v = .ref a ∧ H a = none ∧ H' a = some (.lst xs) ∧ xs.length ≤ 1000000 ∧ Rps B (hid (a :: S) H') xs ds
  | .od ks ds => ∃ a kvs, v = .ref a ∧ H a = none ∧ H' a = some (.dK kvs) ∧ kvs.length ≤ 1000000 ∧ kvs.map (·.1) = ks ∧ Rps B (hid (a :: S) H') (kvs.map (·.2)) ds
def spD (K : PySem.W.Frag) (mg : Str → Option Value) (ub : Bool) (Φ : Ph) : Sp := fun vs H Q E => ∃ (B : Bk) (S : List Addr) (ds : List D) (k : Sl → Prop) (xk : Exc → Prop), B.K = K ∧ B.mg = mg ∧ (∀ a ∈ S, H a ≠ none) ∧ (ub = true → BagAt H B.bag B.cel ∧ B.bag ∈ S ∧ B.cel ∈ S) ∧
  Rps B (hid S H) vs ds ∧ Φ ds k xk ∧ (∀ s v H', Chg ub B H H' → RetOk B S H H' v s → k s → Q v H') ∧ (∀ e cls d H', Chg ub B H H' → ExcOk B S H' e cls d → xk e → E cls d H')
def startE (N : List Str) (ds : List D) : Ev := fzs ds ++ List.replicate (N.length - ds.length) none
theorem Sta.nones {C : Cxt} {ρ : Ev} {σ : St} {H : Hp} {S : List Addr} (st : Sta C ρ σ H S) (n : Nat) : Sta C (ρ ++ List.replicate n none) (σ ++ List.replicate n none) H S := by
  have hl := st.len
  have cut : ∀ (i : Nat) (s : Sl), (ρ ++ List.replicate n none)[i]? = some (some s) → i < ρ.length ∧ ρ[i]? = some (some s) := fun i s e => by
    by_cases hi : i < ρ.length
    · exact ⟨hi, of_get_app e hi⟩
    · rw [List.getElem?_append_right (by omega), List.getElem?_replicate] at e
      split at e <;> cases e
  refine ⟨st.wd, st.sub, st.own, st.al, st.al0, st.bagO, st.tb, by simp [hl], fun i s e => ?_, fun i j s t v e1 e2 o1 o2 q1 q2 => ?_⟩
  · obtain ⟨hi, e⟩ := cut i s e
    obtain ⟨v, q, k⟩ := st.sl i s e
    exact ⟨v, get_app q, k⟩
  · obtain ⟨hi, e1⟩ := cut i s e1
    obtain ⟨hj, e2⟩ := cut j t e2
    exact st.ap i j s t v e1 e2 o1 o2 (of_get_app q1 (hl ▸ hi)) (of_get_app q2 (hl ▸ hj))
theorem Sta.begin {B : Bk} {ub : Bool} {S : List Addr} {H : Hp} {xk : Exc → Prop} (al : ∀ a ∈ S, H a ≠ none) (bg : ub = true → BagAt H B.bag B.cel ∧ B.bag ∈ S ∧ B.cel ∈ S) : Sta ⟨B, ub, S, H, xk, []⟩ [] [] H S :=
  ⟨⟨fun _ _ _ e => e, fun u => (bg u).1⟩, fun _ m => m, fun _ m => .inl m, al, al, fun u => (bg u).2, (fun _ m => nomatch m), rfl, fun i s e => by simp at e, fun i j s t v e => by simp at e⟩
/-- what is handed back -/
theorem Sta.ret {C : Cxt} {ρ : Ev} {σ : St} {H : Hp} {S : List Addr} {s : Sl} {v : V} (st : Sta C ρ σ H S) (ok : SlOk C S H v s) : RetOk C.B C.Oc C.H0 H v s := by
  cases s with
  | fz d => exact Rp.same (hid_le st.sub) d ok
  | ol ds =>
    obtain ⟨a, xs, h1, h2, h3, h4, h5, h6⟩ := ok
    refine ⟨a, xs, h1, h3, h4, h5, Rps.same (hid_le fun b m => ?_) ds h6⟩
    rcases List.mem_cons.mp m with rfl | m
    · exact h2
    · exact st.sub b m
  | od ks ds =>
    obtain ⟨a, xs, h1, h2, h3, h4, h5, h6, h7⟩ := ok
    refine ⟨a, xs, h1, h3, h4, h5, h6, Rps.same (hid_le fun b m => ?_) ds h7⟩
    rcases List.mem_cons.mp m with rfl | m
    · exact h2
    · exact st.sub b m
/-- a def that raises nothing, by its body -/
theorem fn_pd {P : Program} {wd : World} {K : PySem.W.Frag} {mg : Str → Option Value} {base : Heap} {x qual : Str} {st : Stmt} {f : Addr} {fd : FuncData} {N ps : List Str} {j : Nat} {ub : Bool} {Φ : Ph} (F : Fun K x qual st f fd) (Sc : FnScope N ps (defScope st)) (len : ∀ ds k xk, Φ ds k xk → ds.length = ps.length)
    (hbody : ∀ (cdv : Value) (A : Around) (outer : List Env) (s : Shared) (H : Hp) (E : XK) (C : Cxt) (ds : List D) (k : Sl → Prop) (xk : Exc → Prop), Room j (A.deeper (envOfC qual (defScope st) s.heap.objs.size f cdv)) → Fit (cxOf CX0 P wd K mg base N qual (defScope st) f cdv A outer s H E).nox C → C.ub = ub → Φ ds k xk →
      ∃ t w, QSs (cxOf CX0 P wd K mg base N qual (defScope st) f cdv A outer s H E).nox C (defBody st) t w ∧ w { nx := fun _ => k (.fz .non), rt := k } (startE N ds)) : FnOk P wd K mg base CX0 (j + 1) f fd ps (spD K mg ub Φ) := by
  refine F.ok Sc (fun vs H Q E h => ?_) (fun cdv A outer s H vs Q E hr h => ?_)
  · obtain ⟨B, S, ds, k, xk, _, _, _, _, r, φ, _⟩ := h
    rw [r.len]
    exact len _ _ _ φ
  · obtain ⟨B, S, ds, k, xk, e1, e2, al, bg, r, φ, q, _⟩ := h
    obtain ⟨t, w, hb, hw⟩ := hbody cdv A outer s H E ⟨B, ub, S, H, xk, []⟩ ds k xk hr ⟨e1, e2⟩ rfl φ
    refine ⟨t, hb.ps, ?_⟩
    have ln := len _ _ _ φ
    have s1 := ((Sta.begin (xk := xk) al bg).pushs r).nones (N.length - ds.length)
    have e3 : ([] ++ fzs ds) ++ List.replicate (N.length - ds.length) none = startE N ds ++ [] := by simp [startE]
    have e4 : ([] ++ vs.map some) ++ List.replicate (N.length - ds.length) none = L2.start N vs ++ [] := by simp [L2.start, r.len]
    rw [e3, e4] at s1
    refine hb.ok (startE N ds) [] (L2.start N vs) [] H S _ _ (by have := s1.len; simpa using this) s1 hw ⟨fun ρ σ H' S' hl st' h' => ?_, fun ρ σ H' S' s v hl st' h' => ?_, fun _ _ _ _ _ _ h => h.elim, fun _ _ _ _ _ _ h => h.elim⟩
    · exact q (.fz .non) .non H' st'.wd rfl h'
    · exact q s v H' st'.wd (st'.popLast.ret (st'.last (by simpa using hl))) h'
/-- what comes of a call -/
theorem l_call {K : PySem.W.Frag} {mg : Str → Option Value} {C : Cxt} {ub : Bool} {Φ : Ph} (hK : C.B.K = K) (hmg : C.B.mg = mg) (hu : ub = true → C.ub = true) (E : XK) : LiftN C (fun vs H Q => spD K mg ub Φ vs H Q E) (fun ds k => Φ ds k fun _ => False) := by
  intro ρ σ H S ds vs k Q st r φ q
  refine ⟨C.B, S, ds, k, fun _ => False, hK, hmg, st.al, fun u => ⟨st.wd.bag (hu u), st.sub _ (st.bagO (hu u)).1, st.sub _ (st.bagO (hu u)).2⟩, r, φ, fun s v H' c rt hk => ?_, fun e cls d H' _ _ z => z.elim⟩
  cases s with
  | fz d => exact q (.fz d) v H' S ((st.chg hu c).pushF rt) hk
  | ol es =>
    obtain ⟨a, xs, rfl, h1, h2, h3, h4⟩ := rt
    exact q (.ol es) _ H' _ (st.pushR hu c h1 h2 h3 h4) hk
  | od ks es =>
    obtain ⟨a, kvs, rfl, h1, h2, h3, h4, h5⟩ := rt
    exact q (.od ks es) _ H' _ (st.pushRD hu c h1 h2 h3 h4 h5) hk
section
variable {X : Cx} {C : Cxt} {e a bx : Expr} {es : List Expr} {t ta tb : TE} {w wa wb : WE} {pos p : Pos} {j k : Nat} {x : Str} {ps : List Str} {ub : Bool} {Φ : Ph}
def pCall (Φ : Ph) : PN := fun ds k => Φ ds k fun _ => False
theorem pd_call (Fi : Fit X C) (F : Df X.prog X.w X.K X.mg X.base k x ps (spD X.K X.mg ub Φ)) (hr : Room j X.A) (hk : k ≤ j) {ta : TA} {wa : WA} (ha : QA X C (e :: es) ta wa) (hu : ub = true → C.ub = true := by intro h; first | (cases h; done) | assumption)
    (hg : Gl X x := by rfl) (hdb : (x == ("__debug__" : Str)) = false := by decide)
    (he : starEach (e :: es) X.env = (false, eval e X.env) :: starEach es X.env := by rfl) (hpl : (backTo pos (starEach es X.env)).any (·.1) = false := by rfl) :
    PD X C (.Call (.Name x p) (e :: es) [] pos) (tCall (spD X.K X.mg ub Φ) [] L2.E0 ta) (wArg (pCall Φ) wa) := ⟨pe_callD F hr hk ha.pa hg hdb he hpl, by
  have h := l_call (Φ := Φ) Fi.K Fi.mg hu L2.E0
  have := ok_arg h ha.ok
  intro ρ ρx σ σx H S k Q hl st hw q
  have h2 := this ρ ρx σ σx H S k Q hl st hw q
  refine (show (ta σ H fun vs H1 => spD X.K X.mg ub Φ (vs ++ []) H1 Q L2.E0) from ?_)
  simp only [List.append_nil]
  exact h2⟩
end
/-- a weaker promise -/
theorem spD_imp {P : Program} {wd : World} {K : PySem.W.Frag} {mg : Str → Option Value} {base : Heap} {CX : CXT} {k : Nat} {f : Addr} {fd : FuncData} {ps : List Str} {ub : Bool} {Φ Ψ : Ph} (F : FnOk P wd K mg base CX k f fd ps (spD K mg ub Φ)) (h : ∀ ds k xk, Ψ ds k xk → Φ ds k xk) : FnOk P wd K mg base CX k f fd ps (spD K mg ub Ψ) :=
  F.imp fun vs H Q E ⟨B, S, ds, k, xk, h1, h2, h3, h4, h5, h6, h7⟩ => ⟨B, S, ds, k, xk, h1, h2, h3, h4, h5, h _ _ _ h6, h7⟩
end Q

set_option autoImplicit false
set_option linter.all false
/-! Q7: f-strings, methods of texts, displays, chains, more of calls -/
namespace Q
open PySem L2
section
variable {X : Cx} {C : Cxt} {e a bx : Expr} {es : List Expr} {t ta tb : TE} {w wa wb : WE} {pos p : Pos}
/-! ### f-strings -/
def pFmt : P1 := fun x k => match x.toD with
  | .str y => y.length ≤ sizeLine ∧ k (.fz (.str y))
  | .int i => i.natAbs.log2 < 1920 ∧ k (.fz (.str (tS i)))
  | _ => False
theorem pd_fmt (h : PB X C e t w) : PD X C (.FormattedValue e (-1) none pos) (tFmt t) (wUn pFmt w) := ⟨pe_fmt h.pe, by
  refine ok_un (r := fun x H1 Q => (∃ y : Str, x = .str y ∧ y.length ≤ sizeLine ∧ Q (.str y) H1) ∨ ∃ i : Int, x = .int i ∧ i.natAbs.log2 < 1920 ∧ Q (.str (toString i)) H1) ?_ h.ok
  intro ρ σ H S x vx k Q st ox h q
  unfold pFmt at h
  split at h
  · rename_i y e
    exact .inl ⟨y, ox.str e, h.1, ans_str st q h.2⟩
  · rename_i i e
    exact .inr ⟨i, ox.int e, h.1, ans_str st q h.2⟩
  · exact h.elim⟩
inductive QJ (X : Cx) (C : Cxt) : List Expr → List TE → List WE → Prop where
  | nil : QJ X C [] [] []
  | cons {e : Expr} {t : TE} {w : WE} {es : List Expr} {ts : List TE} {ws : List WE} (h : PD X C e t w) (r : QJ X C es ts ws) : QJ X C (e :: es) (t :: ts) (w :: ws)
theorem QJ.pj {es : List Expr} {ts : List TE} {ws : List WE} (h : QJ X C es ts ws) : PJ X es ts := by
  induction h with
  | nil => exact .nil
  | cons h r ih => exact .cons h.pe ih
def wJs : List WE → Str → Ev → (Str → Ev → Prop) → Prop
  | [], acc, ρ, k => k acc ρ
  | w :: ws, acc, ρ, k => w ρ fun s ρ1 => match s.toD with
    | .str y => (acc ++ y).length ≤ sizeLine ∧ wJs ws (acc ++ y) ρ1 k
    | _ => False
theorem ok_js {es : List Expr} {ts : List TE} {ws : List WE} (h : QJ X C es ts ws) : ∀ (acc : Str) (ρ ρx : Ev) (σ σx : St) (H : Hp) (S : List Addr) (k : Str → Ev → Prop) (Q : Str → Hp → Prop), ρ.length = σ.length → Sta C (ρ ++ ρx) (σ ++ σx) H S → wJs ws acc ρ k →
    (∀ (out : Str) (ρ' : Ev) (H' : Hp) (S' : List Addr), ρ'.length = σ.length → Sta C (ρ' ++ ρx) (σ ++ σx) H' S' → k out ρ' → Q out H') → tJs ts acc σ H Q := by
  induction h with
  | nil => intro acc ρ ρx σ σx H S k Q hl st hw q; exact q acc ρ H S hl st hw
  | cons h r ih =>
    intro acc ρ ρx σ σx H S k Q hl st hw q
    refine h.ok ρ ρx σ σx H S _ _ hl st hw fun s ρ1 v H1 S1 hl1 st1 hk => ?_
    split at hk
    · rename_i y e1
      have lx : (ρ1 ++ ρx).length = (σ ++ σx).length := by have := st1.len; simp only [List.length_append, List.length_cons, List.length_nil] at *; omega
      exact ⟨y, (st1.last lx).str e1, hk.1, ih (acc ++ y) ρ1 ρx σ σx H1 S1 k Q hl1 st1.popLast hk.2 q⟩
    · exact hk.elim
def wJoin (ws : List WE) : WE := fun ρ k => wJs ws Str.empty ρ fun out ρ1 => k (.fz (.str out)) ρ1
theorem pd_joined {v1 v2 : Expr} {rest : List Expr} {ts : List TE} {ws : List WE} (h : QJ X C (v1 :: v2 :: rest) ts ws) : PD X C (.JoinedStr (v1 :: v2 :: rest) pos) (fun σ H Q => tJs ts Str.empty σ H fun out H1 => Q (.str out) H1) (wJoin ws) := ⟨pe_joined h.pj, fun ρ ρx σ σx H S k Q hl st hw q =>
  ok_js h Str.empty ρ ρx σ σx H S _ _ hl st hw fun out ρ' H' S' hl' st' hk => q (.fz (.str out)) ρ' _ H' S' hl' (st'.pushF rfl) hk⟩
theorem pd_joined1 (h : PD X C e t w) : PD X C (.JoinedStr [e] pos) t w := ⟨pe_joined1 h.pe, h.ok⟩

/-! ### methods of texts -/
def wM1 (p : PN) (wo we : WE) : WE := fun ρ k => wo ρ fun x ρ1 => (∃ z, x.toD = .str z) ∧ we ρ1 fun y ρ2 => p [x.toD, y.toD] fun z => k z ρ2
theorem ok_m1 {r : V → List V → Hp → VK → Prop} {p : PN} (h : LiftN C (fun vs H Q => match vs with | [x, y] => r x [y] H Q | _ => False) p) (ho : OkE C ta wa) (he : OkE C tb wb) : OkE C (tM1 r ta tb) (wM1 p wa wb) := by
  intro ρ ρx σ σx H S k Q hl st hw q
  refine ho ρ ρx σ σx H S _ _ hl st hw fun x ρ1 vx H1 S1 hl1 st1 hw1 => ?_
  obtain ⟨⟨z, ez⟩, hw1⟩ := hw1
  obtain ⟨S1', st1⟩ := st1.lastD
  have lx1 : (ρ1 ++ ρx).length = (σ ++ σx).length := by have := st1.len; simp only [List.length_append, List.length_cons, List.length_nil] at *; omega
  refine ⟨⟨z, (st1.last lx1).str ez⟩, ?_⟩
  rw [List.append_assoc, List.append_assoc] at st1
  refine he ρ1 (ρx ++ [some (.fz x.toD)]) σ (σx ++ [some vx]) H1 S1' _ _ hl1 st1 hw1 fun y ρ2 vy H2 S2 hl2 st2 hp => ?_
  obtain ⟨S2', st2⟩ := st2.lastD
  have l2 : (ρ2 ++ ρx).length = (σ ++ σx).length := by have := st2.len; simp only [List.length_append, List.length_cons, List.length_nil] at *; omega
  have e1 : (ρ2 ++ (ρx ++ [some (Sl.fz x.toD)])) ++ [some (.fz y.toD)] = (ρ2 ++ ρx) ++ fzs [x.toD, y.toD] := by simp [fzs]
  have e2 : (σ ++ (σx ++ [some vx])) ++ [some vy] = (σ ++ σx) ++ [vx, vy].map some := by simp
  rw [e1, e2] at st2
  exact h (ρ2 ++ ρx) (σ ++ σx) H2 S2' _ _ _ Q (st2.drop l2) (st2.args l2) hp fun z v H' S' st' hk => q z ρ2 v H' S' hl2 st' hk
/-- a.join(list of texts) -/
def pJoin : PN := fun ds k => match ds with
  | [.str a, .lst es] => ∃ ys, strsD es = some ys ∧ (ys.map (·.length)).sum + ys.length * a.length ≤ 16777216 ∧ k (.fz (.str (Txt.join a ys)))
  | [.str a, .tup es] => ∃ ys, strsD es = some ys ∧ (ys.map (·.length)).sum + ys.length * a.length ≤ 16777216 ∧ k (.fz (.str (Txt.join a ys)))
  | _ => False
theorem pd_join (F : Fit X C) {apos : Pos} (ho : PD X C e ta wa) (he : PD X C a tb wb) (hs : starEach [a] X.env = [(false, eval a X.env)] := by rfl) (hbase : attributeBase e "join" X.env (eval e X.env) = eval e X.env := by rfl) (hline : (apos.endLine == pos.line) = true := by rfl) :
    PD X C (.Call (.Attribute e "join" apos) [a] [] pos) (tM1 (fun x xs H Q => ∃ a p, ∃ ys : List Str, x = .str a ∧ xs = [.ref p] ∧ (SqL X.K H p (ys.map V.str) ∨ SqT X.K H p (ys.map V.str)) ∧
      (ys.map (·.length)).sum + ys.length * a.length ≤ 16777216 ∧ Q (.str (Txt.join a ys)) H) ta tb) (wM1 pJoin wa wb) := ⟨pe_join ho.pe he.pe hs hbase hline, by
  refine ok_m1 ?_ ho.ok he.ok
  intro ρ σ H S ds vs k Q st rr h q
  unfold pJoin at h
  split at h
  · rename_i z es
    obtain ⟨ys, h1, h2, h3⟩ := h
    obtain ⟨v, u, rfl, r1, r2⟩ := rps2 rr
    obtain ⟨b, us, rfl, g1, g2, g3⟩ := r2
    obtain rfl := strs_V g3 h1
    exact ⟨z, b, ys, r1, rfl, .inl (SqL.of (hid_some g1).2), h2, ans_str st q h3⟩
  · rename_i z es
    obtain ⟨ys, h1, h2, h3⟩ := h
    obtain ⟨v, u, rfl, r1, r2⟩ := rps2 rr
    obtain ⟨b, us, rfl, g1, g2, g3⟩ := r2
    obtain rfl := strs_V g3 h1
    rw [F.K] at g1
    exact ⟨z, b, ys, r1, rfl, .inr (sameT hid_same g1), h2, ans_str st q h3⟩
  · exact h.elim⟩
/-- a.zfill(n) -/
def pZfill : PN := fun ds k => match ds with
  | [.str a, .int i] => PadOk i = true ∧ k (.fz (.str (Txt.zfill a i)))
  | _ => False
theorem l_zfill : LiftN C (fun vs H Q => match vs with | [x, y] => (fun x xs H Q => ∃ (a : Str) (i : Int), x = V.str a ∧ xs = [V.int i] ∧ PadOk i = true ∧ Q (V.str (Txt.zfill a i)) H) x [y] H Q | _ => False) pZfill := by
  intro ρ σ H S ds vs k Q st rr h q
  unfold pZfill at h
  split at h
  · rename_i z i
    obtain ⟨v, u, rfl, r1, r2⟩ := rps2 rr
    exact ⟨z, i, r1, by rw [show u = _ from r2], h.1, ans_str st q h.2⟩
  · exact h.elim
theorem pd_m1 {id : String} {name : Str} {apos : Pos} {r : V → List V → Hp → VK → Prop} {p : PN} (slot : PySem.Slot "str" name id) (ty : typeOf (.builtin id) = pure (.type "method_descriptor")) (rule : MtR X id r) (h : LiftN C (fun vs H Q => match vs with | [x, y] => r x [y] H Q | _ => False) p) (ho : PD X C e ta wa) (he : PD X C a tb wb)
    (hs : starEach [a] X.env = [(false, eval a X.env)] := by rfl) (hbase : attributeBase e name X.env (eval e X.env) = eval e X.env := by rfl) (hline : (apos.endLine == pos.line) = true := by rfl) :
    PD X C (.Call (.Attribute e name apos) [a] [] pos) (tM1 r ta tb) (wM1 p wa wb) := ⟨pe_m1 slot ty rule ho.pe he.pe hs hbase hline, ok_m1 h ho.ok he.ok⟩

/-! ### displays -/
def pTupN : PN := fun ds k => ds.length ≤ 1000000 ∧ k (.fz (.tup ds))
def pLstN : PN := fun ds k => ds.length ≤ 1000000 ∧ k (.ol ds)
theorem l_tupN : LiftN C (fun xs H Q => xs.length ≤ sizeLine ∧ ∀ p, H p = none → Q (.ref p) (upd H p (.tup xs))) pTupN := fun ρ σ H S ds vs k Q st rr h q =>
  have l := rr.len
  ⟨lim_line (by have := h.1; omega), fun p hp => ans_tup st q (by have := h.1; omega) rr h.2 p hp⟩
theorem l_lstN : LiftN C (fun xs H Q => xs.length ≤ sizeLine ∧ ∀ p, H p = none → Q (.ref p) (upd H p (.lst xs))) pLstN := fun ρ σ H S ds vs k Q st rr h q =>
  have l := rr.len
  ⟨lim_line (by have := h.1; omega), fun p hp => ans_ol st q (by have := h.1; omega) rr h.2 p hp⟩
theorem pd_tup {x1} {ta : TA} {wa : WA} (h : QA X C es ta wa) : PD X C (.Tuple es x1 pos) (tTup ta) (wArg pTupN wa) := ⟨pe_tup h.pa, ok_arg l_tupN h.ok⟩
theorem pd_lst {ta : TA} {wa : WA} (h : QA X C es ta wa) : PD X C (.List es pos) (tLst ta) (wArg pLstN wa) := ⟨pe_lst h.pa, ok_arg l_lstN h.ok⟩

/-! ### a < b < c -/
theorem ok_chain {r r' : R2} {p p' : P2} {tc : TE} {wc : WE} (h : Lift2 C r p) (h' : Lift2 C r' p') (ha : OkE C ta wa) (hb : OkE C tb wb) (hc : OkB C tc wc) : OkE C (tChain r r' ta tb tc) (wChain p p' wa wb wc) := by
  intro ρ ρx σ σx H S k Q hl st hw q
  refine ha ρ ρx σ σx H S _ _ hl st hw fun x ρ1 vx H1 S1 hl1 st1 hw1 => ?_
  obtain ⟨S1', st1⟩ := st1.lastD
  rw [List.append_assoc, List.append_assoc] at st1
  refine hb ρ1 (ρx ++ [some (.fz x.toD)]) σ (σx ++ [some vx]) H1 S1' _ _ hl1 st1 hw1 fun y ρ2 vy H2 S2 hl2 st2 hp => ?_
  obtain ⟨S2', st2⟩ := st2.lastD
  have l2 : (ρ2 ++ ρx).length = (σ ++ σx).length := by have := st2.len; simp only [List.length_append, List.length_cons, List.length_nil] at *; omega
  have l3 : (ρ2 ++ (ρx ++ [some (Sl.fz x.toD)])).length = (σ ++ (σx ++ [some vx])).length := by simp only [List.length_append, List.length_cons, List.length_nil] at *; omega
  have oky := st2.last l3
  have okx : SlOk C S2' H2 vx (.fz x.toD) := by
    have := st2.popLast
    rw [← List.append_assoc, ← List.append_assoc] at this
    exact this.last l2
  refine h _ _ H2 S2' (.fz x.toD) (.fz y.toD) vx vy _ _ st2 okx oky hp fun z v H3 S3 st3 hk => ?_
  split at hk
  · rename_i b
    have l4 : ((ρ2 ++ (ρx ++ [some (Sl.fz x.toD)])) ++ [some (Sl.fz y.toD)]).length = ((σ ++ (σx ++ [some vx])) ++ [some vy]).length := by simp only [List.length_append, List.length_cons, List.length_nil] at *; omega
    obtain rfl : v = .bl b := st3.last l4
    refine ⟨b, rfl, ?_⟩
    have st4 := st3.popLast
    cases b with
    | true =>
      rw [List.append_assoc ρ2, List.append_assoc σ] at st4
      refine hc ρ2 _ σ _ H3 S3 _ _ hl2 st4 hk fun u ρ3 vu H4 S4 hl4 st5 oku hp' => ?_
      have f1 : ρ3 ++ ((ρx ++ [some (Sl.fz x.toD)]) ++ [some (Sl.fz y.toD)]) = (ρ3 ++ (ρx ++ [some (Sl.fz x.toD)])) ++ [some (Sl.fz y.toD)] := by simp only [List.append_assoc]
      have f2 : σ ++ ((σx ++ [some vx]) ++ [some vy]) = (σ ++ (σx ++ [some vx])) ++ [some vy] := by simp only [List.append_assoc]
      rw [f1, f2] at st5
      have l5 : (ρ3 ++ (ρx ++ [some (Sl.fz x.toD)])).length = (σ ++ (σx ++ [some vx])).length := by simp only [List.length_append, List.length_cons, List.length_nil] at *; omega
      have oky' := st5.last l5
      have st6 := st5.popLast
      rw [← List.append_assoc, ← List.append_assoc] at st6
      exact h' _ _ H4 S4 (.fz y.toD) u vy vu _ _ st6.popLast oky' oku hp' fun z' v' H5 S5 st7 hk' => q z' ρ3 v' H5 S5 hl4 st7 hk'
    | false =>
      have st5 := st4.popLast
      rw [← List.append_assoc, ← List.append_assoc] at st5
      exact q (.fz (.bl false)) ρ2 _ H3 S3 hl2 (st5.popLast.pushF rfl) hk
  · exact hk.elim
theorem pd_chain {op op' : CmpOp} {r r' : R2} {p p' : P2} {c : Expr} {tc : TE} {wc : WE} (ho : OpR X (compareOp op) r) (ho' : OpR X (compareOp op') r') (h : Lift2 C r p) (h' : Lift2 C r' p') (ha : PD X C a ta wa) (hb : PD X C bx tb wb) (hc : PB X C c tc wc)
    (hm : lastMarks [op, op'] [bx, c] = false := by with_unfolding_all rfl) : PD X C (.Compare a [op, op'] [bx, c] pos) (tChain r r' ta tb tc) (wChain p p' wa wb wc) := ⟨pe_chain ho ho' ha.pe hb.pe hc.pe hm, ok_chain h h' ha.ok hb.ok hc.ok⟩
theorem qt_chain {op op' : CmpOp} {r r' : R2} {p p' : P2} {c : Expr} {tc : TE} {wc : WE} (ho : OpR X (compareOp op) r) (ho' : OpR X (compareOp op') r') (h : Lift2 C r p) (h' : Lift2 C r' p') (ha : PD X C a ta wa) (hb : PD X C bx tb wb) (hc : PB X C c tc wc)
    (hm : lastMarks [op, op'] [bx, c] = false := by with_unfolding_all rfl) : QT X C (.Compare a [op, op'] [bx, c] pos) (tTest (tChain r r' ta tb tc)) (wYes (wChain p p' wa wb wc)) := ⟨pt_chain ho ho' ha.pe hb.pe hc.pe hm, ok_tst (ok_chain h h' ha.ok hb.ok hc.ok).b⟩

/-! ### isinstance by a built-in class -/
def tyN : D → Option String
  | .non => some "NoneType"
  | .bl _ => some "bool"
  | .int _ => some "int"
  | .str _ => some "str"
  | .lst _ => some "list"
  | .tup _ => some "tuple"
  | .dic _ _ => some "dict"
  | _ => none
/-- whether a value of the first class is one of the second -/
def isiB (a b : String) : Bool := a == b || (a == "bool" && b == "int")
def isiT : List (String × String) := (["NoneType", "bool", "int", "str", "list", "tuple", "dict"]).flatMap fun a => ["bool", "int", "str", "list", "tuple"].map fun b => (a, b)
theorem isi_all : ∀ p ∈ isiT, kitB p.1 p.2 = some (isiB p.1 p.2) := by decide +kernel
theorem isi_ok {d : D} {a b : String} (h : tyN d = some a) (hb : b ∈ ["bool", "int", "str", "list", "tuple"]) : kitB a b = some (isiB a b) := by
  refine isi_all (a, b) ?_
  unfold isiT
  rw [List.mem_flatMap]
  refine ⟨a, ?_, List.mem_map.mpr ⟨b, hb, rfl⟩⟩
  cases d <;> cases h <;> decide
theorem ty_of {B : Bk} {H : Hp} {v : V} {d : D} {a : String} (h : Rp B H v d) (e : tyN d = some a) : TyX B.K H v (.type a) := by
  cases d with
  | non => cases e; rw [show v = _ from h]; exact .base .non
  | bl _ => cases e; rw [show v = _ from h]; exact .base (.bl _)
  | int _ => cases e; rw [show v = _ from h]; exact .base (.int _)
  | str _ => cases e; rw [show v = _ from h]; exact .base (.str _)
  | lst _ => cases e; obtain ⟨a, xs, rfl, h2, _⟩ := h; exact .base (.lst h2)
  | tup _ => cases e; obtain ⟨a, xs, rfl, h2, _⟩ := h; exact RF.tyT h2
  | dic _ _ => cases e; obtain ⟨a, xs, rfl, h2, _⟩ := h; exact .base (.dK h2)
  | raw _ => cases e
  | bag => cases e
  | obj _ _ _ => cases e
  | lam _ _ _ _ => cases e
def pIsi : PN := fun ds k => match ds with
  | [d, .raw (.ty n)] => n ∈ ["bool", "int", "str", "list", "tuple"] ∧ ∃ a, tyN d = some a ∧ k (.fz (.bl (isiB a n)))
  | _ => False
theorem l_isi (F : Fit X C) : LiftN C (rIsi X.K) pIsi := by
  intro ρ σ H S ds vs k Q st rr h q
  rw [← F.K]
  unfold pIsi at h
  split at h
  · rename_i d n
    obtain ⟨hn, a, h1, h2⟩ := h
    obtain ⟨v, u, rfl, r1, r2⟩ := rps2 rr
    rw [show u = _ from r2]
    exact ⟨v, .ty n, .type a, .type n, isiB a n, rfl, .ty n, ty_of (Rp.same hid_same _ r1) h1, kit_ty (isi_ok h1 hn), ans_bl st q h2⟩
  · exact h.elim
/-- a built-in class as a value -/
theorem pd_ty {x : Str} {n : String} (hg : Gl X x) (hm : X.mg x = none) (hv : bootBuiltins x = some (.type n)) (hn : x ≠ "__name__" := by decide) (hd : (x == ("__debug__" : Str)) = false := by decide) : PD X C (.Name x pos) (tC (.ty n)) (wC (.raw (.ty n))) := pd_c (pe_bltn (v := .ty n) hg hm hv rfl hn hd) fun _ => rfl
end
end Q

set_option autoImplicit false
set_option linter.all false
/-! Q8: the rules in the form in which derivations use them -/
namespace Q
open PySem L2
section
variable {X : Cx} {C : Cxt} {e a bx o tg : Expr} {es : List Expr} {t ta tb : TE} {w wa wb : WE} {pos p apos : Pos} {i : Nat}
theorem Fit.blk (F : Fit X C) {s : Shared} {H : Hp} {sc : Scope} {ce : Env} {fp : List Addr} : Fit (X.blk s H sc ce fp) C := ⟨F.K, F.mg⟩
theorem call_len2 : CallR X (.builtin "len") (rLen2 X.K) := call_len.or call_lenD
theorem pd_app (ho : PE X o (tVar i)) (he : PD X C e t w) (hbase : attributeBase o "append" X.env (eval o X.env) = eval o X.env := by rfl)
    (hfew : ((backTo pos (starEach [e] X.env)).all (fun x => !x.1) && (backToKw pos (keywordEach [] X.env)).all (fun x => x.1.isSome)
      && decide ([e].length + ([] : List Keyword).length + (if ([] : List Keyword).isEmpty then 0 else 1) < 30)) = true := by rfl)
    (hline : (apos.endLine == pos.line) = true := by rfl) (hs : starEach [e] X.env = (false, eval e X.env) :: starEach [] X.env := by rfl) (hplain : (backTo pos (starEach [] X.env)).any (·.1) = false := by rfl) :
    PD X C (.Call (.Attribute o "append" apos) [e] [] pos) (tBM X.K "list" rAppend (tVar i) (tCons t tNil)) (wApp i w) :=
  pd_append he (pe_bm PySem.F.plainAttrs_list PySem.F.slot_list_append PySem.F.type_list_append mt_append ho (pa_cons he.pe pa_nil hs) hbase hfew hline hs hplain) rfl
theorem pd_ext (ho : PE X o (tVar i)) (he : PD X C e t w) (hbase : attributeBase o "extend" X.env (eval o X.env) = eval o X.env := by rfl)
    (hfew : ((backTo pos (starEach [e] X.env)).all (fun x => !x.1) && (backToKw pos (keywordEach [] X.env)).all (fun x => x.1.isSome)
      && decide ([e].length + ([] : List Keyword).length + (if ([] : List Keyword).isEmpty then 0 else 1) < 30)) = true := by rfl)
    (hline : (apos.endLine == pos.line) = true := by rfl) (hs : starEach [e] X.env = (false, eval e X.env) :: starEach [] X.env := by rfl) (hplain : (backTo pos (starEach [] X.env)).any (·.1) = false := by rfl) :
    PD X C (.Call (.Attribute o "extend" apos) [e] [] pos) (tBM X.K "list" rExtend (tVar i) (tCons t tNil)) (wExt i w) :=
  pd_extend he (pe_bm PySem.F.plainAttrs_list PySem.F.slot_list_extend PySem.F.type_list_extend mt_extend ho (pa_cons he.pe pa_nil hs) hbase hfew hline hs hplain) rfl
theorem pd_popm (ho : PE X o (tVar i)) (hbase : attributeBase o "pop" X.env (eval o X.env) = eval o X.env := by rfl) (hline : (apos.endLine == pos.line) = true := by rfl) :
    PD X C (.Call (.Attribute o "pop" apos) [] [] pos) (tBM0 X.K "list" rPop (tVar i)) (wPop i) :=
  pd_pop (pe_bm0 PySem.F.plainAttrs_list PySem.F.slot_list_pop PySem.F.type_list_pop mt_pop ho hbase hline) rfl
/-! ### tests of a comprehension -/
structure QTs (X : Cx) (C : Cxt) (es : List Expr) (t : TT) (w : WT) : Prop where
  pts : PTs X es t
  ok : OkT C t w
theorem qts_nil : QTs X C [] tYes (fun ρ k => k true ρ) := ⟨pts_nil, fun ρ ρx σ σx H S k Q hl st hw q => q true ρ H S hl st hw⟩
theorem qts_one {tt : TT} {wt : WT} (h : QT X C e tt wt) : QTs X C [e] tt wt := ⟨pts_one h.pt, h.ok⟩
abbrev BX (X : Cx) (scope : Scope) (s : Shared) (H : Hp) (Cl : Addr) (cl : List (Str × Addr)) (fp : List Addr) : Cx := X.blk s H scope (compEnvC scope cl Cl X.env) fp
abbrev Dep (α : Type) := Shared → Hp → Addr → List (Str × Addr) → List Addr → α
theorem pd_comp {scope : Scope} {own : List (Str × Nat)} {is : List Nat} {iter elt : Expr} {ifs : List Expr} {ti : TI} {wi : WI} {g : Dep TG} {u : WG} {tt : Dep TT} {wt : WT} {t : Dep TE} (hc : X.calm = true) (hN : X.N.Nodup) (hi : QI X C tg iter ti wi) (ok : BlkOk X.N X.env.scope scope own)
    (hg : ∀ s H Cl cl fp, QG (BX X scope s H Cl cl fp) C is tg (g s H Cl cl fp) u) (ht : ∀ s H Cl cl fp, QTs (BX X scope s H Cl cl fp) C ifs (tt s H Cl cl fp) wt) (he : ∀ s H Cl cl fp, PD (BX X scope s H Cl cl fp) C elt (t s H Cl cl fp) w)
    (hv : ∀ i ∈ is, i ∈ own.map (·.2) := by decide) (eg : ∀ s H Cl cl fp, g s H Cl cl fp = g X.s_0 X.H_0 0 [] [] := by intros; rfl) (et : ∀ s H Cl cl fp, tt s H Cl cl fp = tt X.s_0 X.H_0 0 [] [] := by intros; rfl) (ee : ∀ s H Cl cl fp, t s H Cl cl fp = t X.s_0 X.H_0 0 [] [] := by intros; rfl)
    (hs : ∀ x, foldedSetIterable iter X.env x = pure x := by intro _; rfl) :
    PD X C (.ListComp elt [⟨tg, iter, ifs, 0⟩] scope pos) (tLc ti (g X.s_0 X.H_0 0 [] []) (tt X.s_0 X.H_0 0 [] []) (t X.s_0 X.H_0 0 [] []) (own.map (·.2))) (wLc (own.map (·.2)) wi u wt w) :=
  ⟨pe_lc hc hN hi.pi ok (fun s H Cl cl fp => eg s H Cl cl fp ▸ (hg s H Cl cl fp).pg) (fun s H Cl cl fp => et s H Cl cl fp ▸ (ht s H Cl cl fp).pts) (fun s H Cl cl fp => ee s H Cl cl fp ▸ (he s H Cl cl fp).pe) hs,
    ok_lc hi.ok (hg X.s_0 X.H_0 0 [] []).ok (ht X.s_0 X.H_0 0 [] []).ok (he X.s_0 X.H_0 0 [] []).ok hv⟩
/-- name = [..] -/
theorem qs_setLc {y : Str} {py spos : Pos} {scope : Scope} {own : List (Str × Nat)} {is : List Nat} {iter elt : Expr} {ifs : List Expr} {ti : TI} {wi : WI} {g : Dep TG} {u : WG} {tt : Dep TT} {wt : WT} {t : Dep TE} (hc : X.calm = true) (hN : X.N.Nodup) (hy : X.N[i]? = some y) (hyl : X.env.scope.names.lookup y = some .local)
    (hsw : swapsWith (.ListComp elt [⟨tg, iter, ifs, 0⟩] scope pos) (some (.Name y py)) spos.line X.env = pure true) (hi : QI X C tg iter ti wi) (ok : BlkOk X.N X.env.scope scope own)
    (hg : ∀ s H Cl cl fp, QG (BX X scope s H Cl cl fp) C is tg (g s H Cl cl fp) u) (ht : ∀ s H Cl cl fp, QTs (BX X scope s H Cl cl fp) C ifs (tt s H Cl cl fp) wt) (he : ∀ s H Cl cl fp, PD (BX X scope s H Cl cl fp) C elt (t s H Cl cl fp) w)
    (hv : ∀ i ∈ is, i ∈ own.map (·.2) := by decide) (eg : ∀ s H Cl cl fp, g s H Cl cl fp = g X.s_0 X.H_0 0 [] [] := by intros; rfl) (et : ∀ s H Cl cl fp, tt s H Cl cl fp = tt X.s_0 X.H_0 0 [] [] := by intros; rfl) (ee : ∀ s H Cl cl fp, t s H Cl cl fp = t X.s_0 X.H_0 0 [] [] := by intros; rfl)
    (hs : ∀ x, foldedSetIterable iter X.env x = pure x := by intro _; rfl) :
    QS X C (.Assign [.Name y py] (.ListComp elt [⟨tg, iter, ifs, 0⟩] scope pos) spos) (tAsg (tLc ti (g X.s_0 X.H_0 0 [] []) (tt X.s_0 X.H_0 0 [] []) (t X.s_0 X.H_0 0 [] []) (own.map (·.2))) (gName i)) (wSet i (wLc (own.map (·.2)) wi u wt w)) :=
  ⟨ps_setLc hc hN hy hyl hsw hi.pi ok (fun s H Cl cl fp => eg s H Cl cl fp ▸ (hg s H Cl cl fp).pg) (fun s H Cl cl fp => et s H Cl cl fp ▸ (ht s H Cl cl fp).pts) (fun s H Cl cl fp => ee s H Cl cl fp ▸ (he s H Cl cl fp).pe) hs,
    ok_asg (ok_lc hi.ok (hg X.s_0 X.H_0 0 [] []).ok (ht X.s_0 X.H_0 0 [] []).ok (he X.s_0 X.H_0 0 [] []).ok hv) (ok_nm i)⟩
/-! ### calls by keywords -/
structure QK (X : Cx) (C : Cxt) (kws : List Keyword) (t : TA) (w : WA) : Prop where
  pk : PK X kws t
  ok : OkA C t w
theorem qk_nil : QK X C [] tNil (fun ρ k => k [] ρ) := ⟨pk_nil, qa_nil (X := X).ok⟩
theorem qk_cons {kws : List Keyword} {tr : TA} {wr : WA} {nm : Option Str} {kpos : Pos} (ha : PD X C e t w) (hr : QK X C kws tr wr) : QK X C (⟨nm, e, kpos⟩ :: kws) (tCons t tr) (wCons w wr) := ⟨pk_cons ha.pe hr.pk, ok_cons ha.ok hr.ok⟩
end
end Q

namespace RF
open PySem L2
/-! ### built-in functions of math -/
theorem args_gcd3 (a b c : Value) : argsOk "math.gcd" ⟨[a, b, c], []⟩ := by
  unfold argsOk
  kernel_rfl
theorem run_gcd3 (a : Int) (t : Tok) (b : Int) (u : Tok) (c : Int) (v : Tok) :
    Gives (Builtin.«math.gcd» ⟨[.int a t, .int b u, .int c v], []⟩) (.int (((((Nat.gcd 0 a.natAbs).gcd b.natAbs).gcd c.natAbs : Nat) : Int))) :=
  .of_wp fun M A E s Q h => by
    obtain ⟨hp, g, d, tk, os⟩ := s
    wp_walk
    exact ⟨_, rfl, h⟩

section
variable {X : Cx}
theorem vals3 {x y z : V} {us : List Value} (r : Vals [x, y, z] us) : ∃ u v w, us = [u, v, w] ∧ RelV x u ∧ RelV y v ∧ RelV z w := by
  cases r with
  | cons a r => cases r with
    | cons b r => cases r with
      | cons c r => cases r; exact ⟨_, _, _, rfl, a, b, c⟩
def rGcd3 : List V → Hp → VK → Prop := fun vs H Q => ∃ a b c : Int, vs = [.int a, .int b, .int c] ∧ Q (.int ((Nat.gcd (Nat.gcd a.natAbs b.natAbs) c.natAbs : Nat) : Int)) H
theorem cr_gcd3 : CallR X (.builtin "math.gcd") rGcd3 := by
  intro pins s σ H vs us Q I r h
  obtain ⟨a, b, c, rfl, q⟩ := h
  obtain ⟨u1, u2, u3, rfl, ⟨t1, rfl⟩, ⟨t2, rfl⟩, ⟨t3, rfl⟩⟩ := vals3 r
  have g := run_gcd3 a t1 b t2 c t3
  rw [Nat.gcd_zero_left] at g
  exact call_function_meets PySem.W.MGF.kind_gcd PySem.W.MGF.plain_gcd PySem.W.MGF.entry_gcd (args_gcd3 _ _ _) g.meets (show EP X pins σ Q _ _ from ⟨.int _, H, I.tok _, ⟨_, rfl⟩, q⟩)
def rIsqrt : List V → Hp → VK → Prop := fun vs H Q => ∃ a : Int, vs = [.int a] ∧ 0 ≤ a ∧ a.toNat.log2 < 13000 ∧ Q (.int ((Float64.isqrt a.toNat : Nat) : Int)) H
theorem cr_isqrt : CallR X (.builtin "math.isqrt") rIsqrt := by
  intro pins s σ H vs us Q I r h
  obtain ⟨a, rfl, h0, h1, q⟩ := h
  obtain ⟨u, rfl, t, rfl⟩ := vals1 r
  exact call_function_meets PySem.W.MGF.kind_isqrt PySem.W.MGF.plain_isqrt PySem.W.MGF.entry_isqrt (PySem.W.MGF.args_isqrt _) (PySem.W.mg_run_isqrt a t (by omega) (by omega) (by omega)).meets
    (show EP X pins σ Q _ _ from ⟨.int _, H, I.tok _, ⟨_, rfl⟩, q⟩)

/-! ### operators of an own class -/
/-- C has the operator as the def at f -/
structure OwnOp (K : PySem.W.Frag) (C f : Addr) (m : Str) : Prop where
  first : PySem.W.selfFirst K C = true
  at_ : PySem.W.findIn K (.ref C) m = some (some (.ref f))
  fn : PySem.W.isFn K (.ref f) = true
def rOwn2 (C : Addr) (sp : Sp) (E : XK) : R2 := fun x y H Q => ∃ a b dx dy fs gs, x = .ref a ∧ y = .ref b ∧ H a = some (.ins C dx fs) ∧ H b = some (.ins C dy gs) ∧ sp [.ref a, .ref b] H Q E
theorem notImpl {v : V} {u : Value} {P : Value → Shared → Prop} {s : Shared} (r : RelV v u) (h : P u s) : PySem.W.CmpBack P u s := by
  cases v with
  | non => cases r; exact h
  | bl _ => cases r; exact h
  | int _ => obtain ⟨t, rfl⟩ := r; exact h
  | str _ => obtain ⟨t, rfl⟩ := r; exact h
  | byt _ => obtain ⟨t, rfl⟩ := r; exact h
  | flt _ => obtain ⟨t, rfl⟩ := r; exact h
  | ref _ => cases r; exact h
  | ty _ => cases r; exact h
theorem op_own {CX : CXT} {op : Operator} {n : Nat} {C f : Addr} {sp : Sp} {E : XK} (F : FnR X.prog X.w X.K X.mg X.base CX n f sp) (hr : Room n X.A) (O : OwnOp X.K C f (PySem.dunder op.info.2)) (hx : Passes CX X E) : OpR X (binaryOp op) (rOwn2 C sp E) := by
  intro pins s σ H x y v u Q I rx ry h
  obtain ⟨a, b, dx, dy, fs, gs, rfl, rfl, ha, hb, q⟩ := h
  cases rx
  cases ry
  obtain ⟨mA, J, _⟩ := ins_get I.hok ha
  obtain ⟨mB, J', _⟩ := ins_get I.hok hb
  obtain ⟨od, J, _⟩ := J.look
  obtain ⟨od', J', _⟩ := J'.look
  obtain ⟨m, hF⟩ := I.fr
  refine PySem.W.binop_K hF I.ok.mod.kin J J'.type O.first O.at_ O.fn (wpAny_mono (wpAny_call (run_fnR (us := [.ref a, .ref b]) (vs := [.ref a, .ref b]) F hr hx I (.cons rfl (.cons rfl .nil)) q)) (fun r s' z => ?_) fun _ _ z => z)
  obtain ⟨v, H', I', rv, q'⟩ := id z
  exact notImpl rv z
def rOwn1 (C : Addr) (sp : Sp) (E : XK) : V → Hp → VK → Prop := fun x H Q => ∃ a dx fs, x = .ref a ∧ H a = some (.ins C dx fs) ∧ sp [.ref a] H Q E
theorem un_own_neg {CX : CXT} {n : Nat} {C f : Addr} {sp : Sp} {E : XK} (F : FnR X.prog X.w X.K X.mg X.base CX n f sp) (hr : Room n X.A) (O : OwnOp X.K C f "__neg__") (hx : Passes CX X E) : UnR X (unaryOp .USub) (rOwn1 C sp E) := by
  intro pins s σ H x v Q I rx h
  obtain ⟨a, dx, fs, rfl, ha, q⟩ := h
  cases rx
  obtain ⟨mA, J, _⟩ := ins_get I.hok ha
  obtain ⟨od, J, _⟩ := J.look
  obtain ⟨m, hF⟩ := I.fr
  exact PySem.W.ksp_neg hF I.ok.mod.kin J O.at_ O.fn (wpAny_call (run_fnR (us := [.ref a]) (vs := [.ref a]) F hr hx I (.cons rfl .nil) q))
/-- bool(x) of an instance with its own truth -/
def rOwnB (C : Addr) (sp : Sp) (E : XK) : List V → Hp → VK → Prop := fun vs H Q => ∃ a dx fs, vs = [.ref a] ∧ H a = some (.ins C dx fs) ∧ sp [.ref a] H (fun v H' => ∃ b, v = .bl b ∧ Q (.bl b) H') E
theorem tru_of {M : Model} {A : Around} {x : Value} {s : Shared} {Q0 Q : Bool → Shared → Prop} {E : Value → Shared → Prop} (hs : wpAny M A (truthy x) Q0 E s) (h : ∀ b s', Q0 b s' → Q b s') : wpAny M A (truthy x) Q E s := wpAny_mono hs h fun _ _ z => z
theorem new_bool_own (prog : Program) (w : World) (a : Addr) : MeetsIn prog w (Builtin.«bool.__new__» ⟨[.type "bool", .ref a], []⟩)
    (fun A R s => wpAny (model prog w) A.in1 (truthy (.ref a)) (fun b s' => R (.ok (.ret (.bool b))) s') (fun e s' => R (.error e) s') s) :=
  .of_wp fun A R s hs => by
    have f1 := F.conv_sub_bool
    obtain ⟨hp, g, d, tk, os⟩ := s
    repeat (any_goals (first | assumption | (with_reducible refine tru_of hs (fun b s' hq => ?_)) | wp_step))
    all_goals exact ⟨_, rfl, hq⟩
theorem call_bool_own {CX : CXT} {n : Nat} {C f : Addr} {sp : Sp} {E : XK} (G : FnR X.prog X.w X.K X.mg X.base CX n f sp) (hr : Room (n + 2) X.A) (hat : PySem.W.findIn X.K (.ref C) "__bool__" = some (some (.ref f))) (hfn : PySem.W.isFn X.K (.ref f) = true)
    (hx : Passes CX X E) : CallR X (.type "bool") (rOwnB C sp E) := by
  intro pins s σ H xs us Q I r h
  obtain ⟨a, dx, fs, rfl, ha, q⟩ := h
  obtain ⟨u, rfl, r1⟩ := vals1 r
  cases r1
  obtain ⟨mA, J, _⟩ := ins_get I.hok ha
  obtain ⟨od, J, _⟩ := J.look
  obtain ⟨m, hF⟩ := I.fr
  refine PySem.callType_newIn PySem.F.called_bool PySem.F.newNe_bool (PySem.F.typeCall_bool_1 _) (PySem.F.newCall_bool_1 _) (fun obj => PySem.F.args_object_init_2 obj _) PySem.F.entry_bool_new (new_bool_own X.prog X.w a) ?_
  refine PySem.W.truthy_K hF I.ok.mod.kin J hat hfn ?_
  refine wpAny_call (codeAny_mono (G _ X.stack s H [.ref a] [.ref a] _ E hr.in1.in1 I.env0.in1.in1 (.cons rfl .nil) q) fun r s' hq => ?_)
  cases r with
  | error e => exact hx pins σ H s e s' I hq
  | ok fl =>
    cases fl with
    | ret u =>
      obtain ⟨v, H', I', rv, b, rfl, q'⟩ := I.after hq
      cases rv
      exact ⟨rfl, .bl b, H', I', rfl, q'⟩
    | next => exact False.elim hq
    | brk => exact False.elim hq
    | cont => exact False.elim hq
/-- C.m is a staticmethod: its record at p, its def at g -/
structure SMet (K : PySem.W.Frag) (C : Addr) (mc : Value) (m : Str) (p g : Addr) : Prop where
  at_ : PySem.W.findCls K (.ref C) mc m = some (.get (.builtin "staticmethod.__get__") (.ref p) .none (.ref C))
  rc : ∃ rest, PySem.W.recIn K p "staticmethod" = some (.ref g :: rest)
  kp : PySem.W.keepIn K (.ref g) = true
def tSMeth (C : Addr) (sp : Sp) (E : XK) (ta : TE) (t : TA) : TE := fun σ H Q => ta σ H fun x H1 => x = .ref C ∧ t σ H1 fun vs H2 => sp vs H2 Q E
theorem pe_smeth {CX : CXT} {k : Nat} {C p g : Addr} {mc : Value} {sp : Sp} {E : XK} {o e : Expr} {es : List Expr} {m : Str} {pos apos : Pos} {ta : TE} {t : TA} {pl : Sem Bool} (he : PE X o ta) (r : ClX.CRead X.K C mc) (c : SMet X.K C mc m p g)
    (F : FnR X.prog X.w X.K X.mg X.base CX k g sp) (hr : Room k X.A) (hx : Passes CX X E) (ha : PA X (e :: es) t)
    (hst : starEach (e :: es) X.env = (false, eval e X.env) :: starEach es X.env := by rfl) (hpl : (backTo pos (starEach es X.env)).any (·.1) = false := by rfl)
    (ht : eval (.Call (.Attribute o m apos) (e :: es) [] pos) X.env = (do
      let ov ← eval o X.env
      standAt apos.atName
      let (f, first) ← holding [ov] (getMethod ov m pl)
      callWith pos f first (backTo pos (starEach (e :: es) X.env)) (backToKw pos (keywordEach [] X.env))) := by rfl) :
    PE X (.Call (.Attribute o m apos) (e :: es) [] pos) (tSMeth C sp E ta t) := by
  refine ⟨fun pins s σ H Q I h => ?_⟩
  refine PySem.W.methodCall_KW (pl := pl) (thn (he.run pins s σ H _ I h) fun u s1 ⟨x, H1, I1, rx, ex, q⟩ => ?_) ht
  subst ex
  obtain rfl : u = Value.ref C := rx
  obtain ⟨rest, hp⟩ := c.rc
  refine PySem.W.method_cls I1.kIn r.ga (PySem.W.cls_bind I1.kIn r.rd c.at_ (wpAny_call (PySem.W.sm_get (s := { s1 with toks := s1.toks + 1 }) I1.kIn hp (PySem.W.handed_on rfl ?_))))
  have I2 := I1.tok (s1.toks + 1)
  refine PySem.W.callWith_K (h₀ := X.base) I.ok.mod.kin c.kp (thn (ha.run pos pins _ σ H1 _ I2 q) fun us s3 ⟨vs, H2, I3, rv, q2⟩ => ⟨I3.kIn, ?_⟩) hst hpl
  exact wpAny_call (run_fnR F hr hx I3 rv q2)
end
end RF

namespace RF
theorem sq_nonneg (a : Int) : 0 ≤ a * a := by
  rcases Int.le_total 0 a with h | h
  · exact Int.mul_nonneg h h
  · exact Int.mul_nonneg_of_nonpos_of_nonpos h h
theorem sq_le {a b : Int} (ha : 0 ≤ a) (h : a ≤ b) : a * a ≤ b * b := Int.mul_le_mul h h ha (by omega)
theorem sq_lt {a b : Int} (ha : 0 ≤ a) (h : a < b) : a * a < b * b := by
  have h1 : a * a ≤ a * b := Int.mul_le_mul_of_nonneg_left (by omega) ha
  have h2 : a * b < b * b := Int.mul_lt_mul_of_pos_right h (by omega)
  omega
theorem le_of_sq {a b : Int} (hb : 0 ≤ b) (h : a * a ≤ b * b) : a ≤ b := by
  rcases Int.lt_or_le b a with z | z
  · have := sq_lt hb z
    omega
  · exact z
theorem lt_of_sq {a b : Int} (hb : 0 ≤ b) (h : a * a < b * b) : a < b := by
  rcases Int.lt_or_le a b with z | z
  · exact z
  · have := sq_le hb z
    omega
/-! ### square roots of integers -/
def rt (n : Int) : Int := ((PySem.Float64.isqrt n.toNat : Nat) : Int)
theorem rt_nn (n : Int) : 0 ≤ rt n := Int.natCast_nonneg _
theorem rt_le {n : Int} (h : 0 ≤ n) : rt n * rt n ≤ n := by
  have := (PySem.Float64.isqrt_spec n.toNat).1
  have e : ((PySem.Float64.isqrt n.toNat * PySem.Float64.isqrt n.toNat : Nat) : Int) ≤ ((n.toNat : Nat) : Int) := Int.ofNat_le.mpr this
  rw [Int.natCast_mul] at e
  unfold rt
  omega
theorem rt_lt {n : Int} (h : 0 ≤ n) : n < (rt n + 1) * (rt n + 1) := by
  have := (PySem.Float64.isqrt_spec n.toNat).2
  have e : ((n.toNat : Nat) : Int) < (((PySem.Float64.isqrt n.toNat + 1) * (PySem.Float64.isqrt n.toNat + 1) : Nat) : Int) := Int.ofNat_lt.mpr this
  rw [Int.natCast_mul, Int.natCast_add] at e
  unfold rt
  have e2 : ((n.toNat : Nat) : Int) = n := by omega
  rw [e2] at e
  exact e
theorem rt_uniq {n r : Int} (h : 0 ≤ n) (r0 : 0 ≤ r) (r1 : r * r ≤ n) (r2 : n < (r + 1) * (r + 1)) : r = rt n := by
  have a := rt_le h
  have b := rt_lt h
  have c := rt_nn n
  have h1 : r < rt n + 1 := lt_of_sq (by omega) (by omega)
  have h2 : rt n < r + 1 := lt_of_sq (by omega) (by omega)
  omega
/-! ### the roots -/
def Root (d : Int) : Prop := d = 2 ∨ d = 3 ∨ d = 5 ∨ d = 6 ∨ d = 13
theorem Root.pos {d : Int} (h : Root d) : 0 < d := by unfold Root at h; omega
theorem Root.le {d : Int} (h : Root d) : d ≤ 13 := by unfold Root at h; omega
theorem ex_mul (i : Int) {p : Int} (h : i % p = 0) : ∃ t, i = p * t := ⟨i / p, by
  have := Int.mul_ediv_add_emod i p
  rw [h] at this
  omega⟩
theorem dvd2 {i c : Int} (h : i * i = 2 * c) : ∃ t, i = 2 * t := ex_mul i (by
  have e : (i * i) % 2 = 0 := by omega
  rw [Int.mul_emod] at e
  have : i % 2 = 0 ∨ i % 2 = 1 := by omega
  rcases this with z | z
  · exact z
  · rw [z] at e; simp at e)
theorem dvd3 {i c : Int} (h : i * i = 3 * c) : ∃ t, i = 3 * t := ex_mul i (by
  have e : (i * i) % 3 = 0 := by omega
  rw [Int.mul_emod] at e
  have : i % 3 = 0 ∨ i % 3 = 1 ∨ i % 3 = 2 := by omega
  rcases this with z | z | z
  · exact z
  · rw [z] at e; simp at e
  · rw [z] at e; simp at e)
theorem dvd5 {i c : Int} (h : i * i = 5 * c) : ∃ t, i = 5 * t := ex_mul i (by
  have e : (i * i) % 5 = 0 := by omega
  rw [Int.mul_emod] at e
  have : i % 5 = 0 ∨ i % 5 = 1 ∨ i % 5 = 2 ∨ i % 5 = 3 ∨ i % 5 = 4 := by omega
  rcases this with z | z | z | z | z
  · exact z
  all_goals (rw [z] at e; simp at e))
theorem dvd13 {i c : Int} (h : i * i = 13 * c) : ∃ t, i = 13 * t := ex_mul i (by
  have e : (i * i) % 13 = 0 := by omega
  rw [Int.mul_emod] at e
  have : i % 13 = 0 ∨ i % 13 = 1 ∨ i % 13 = 2 ∨ i % 13 = 3 ∨ i % 13 = 4 ∨ i % 13 = 5 ∨ i % 13 = 6 ∨ i % 13 = 7 ∨ i % 13 = 8 ∨ i % 13 = 9 ∨ i % 13 = 10 ∨ i % 13 = 11 ∨ i % 13 = 12 := by omega
  rcases this with z | z | z | z | z | z | z | z | z | z | z | z | z
  · exact z
  all_goals (rw [z] at e; simp at e))
/-- one step down -/
theorem down {d i j : Int} (hd : Root d) (h : i * i = d * (j * j)) : ∃ p i' j' : Int, 2 ≤ p ∧ j = p * j' ∧ i' * i' = d * (j' * j') := by
  rcases hd with rfl | rfl | rfl | rfl | rfl
  · obtain ⟨t, rfl⟩ := dvd2 h
    obtain ⟨u, rfl⟩ := dvd2 (i := j) (c := t * t) (by grind)
    exact ⟨2, t, u, by omega, rfl, by grind⟩
  · obtain ⟨t, rfl⟩ := dvd3 h
    obtain ⟨u, rfl⟩ := dvd3 (i := j) (c := t * t) (by grind)
    exact ⟨3, t, u, by omega, rfl, by grind⟩
  · obtain ⟨t, rfl⟩ := dvd5 h
    obtain ⟨u, rfl⟩ := dvd5 (i := j) (c := t * t) (by grind)
    exact ⟨5, t, u, by omega, rfl, by grind⟩
  · obtain ⟨t, rfl⟩ := dvd3 (i := i) (c := 2 * (j * j)) (by grind)
    obtain ⟨u, rfl⟩ := dvd3 (i := j) (c := 2 * (t * t) - (j * j)) (by grind)
    exact ⟨3, t, u, by omega, rfl, by grind⟩
  · obtain ⟨t, rfl⟩ := dvd13 h
    obtain ⟨u, rfl⟩ := dvd13 (i := j) (c := t * t) (by grind)
    exact ⟨13, t, u, by omega, rfl, by grind⟩
theorem nonsq {d : Int} (hd : Root d) : ∀ (n : Nat) (i j : Int), j.natAbs ≤ n → i * i = d * (j * j) → j = 0
  | 0, i, j, hn, _ => by omega
  | n + 1, i, j, hn, h => by
    obtain ⟨p, i', j', hp, e, h'⟩ := down hd h
    rcases Int.lt_trichotomy j' 0 with z | z | z
    · have : j'.natAbs ≤ n := by
        have h1 : p * j' ≤ 2 * j' := by
          have := Int.mul_le_mul_of_nonpos_right hp (by omega : j' ≤ 0)
          omega
        omega
      have := nonsq hd n i' j' this h'
      omega
    · rw [e, z]; simp
    · have : j'.natAbs ≤ n := by
        have h1 : 2 * j' ≤ p * j' := Int.mul_le_mul_of_nonneg_right hp (by omega)
        omega
      have := nonsq hd n i' j' this h'
      omega
theorem irr {d i j : Int} (hd : Root d) (h : i * i = d * (j * j)) : j = 0 := nonsq hd j.natAbs i j (Nat.le_refl _) h
end RF

namespace RF
theorem ring1 (x s : Int) : (x + s) * (x + s) = (x - s) * (x - s) + 4 * (x * s) := by grind
theorem amgm (x q y n : Int) (hx : 0 < x) (hq : 0 ≤ q) (hn : n < x * (q + 1)) (hy : x + q ≤ 2 * y + 1) : n < (y + 1) * (y + 1) := by
  have h1 := ring1 x (q + 1)
  have h0 : 0 ≤ (x - (q + 1)) * (x - (q + 1)) := by
    rcases Int.le_total 0 (x - (q + 1)) with h | h
    · exact Int.mul_nonneg h h
    · exact Int.mul_nonneg_of_nonpos_of_nonpos h h
  have h2 : (x + (q + 1)) * (x + (q + 1)) ≤ (2 * (y + 1)) * (2 * (y + 1)) := Int.mul_le_mul (by omega) (by omega) (by omega) (by omega)
  have h3 : (2 * (y + 1)) * (2 * (y + 1)) = 4 * ((y + 1) * (y + 1)) := by grind
  omega
end RF

namespace RF
/-- the size of an integer, as abs gives it -/
def ab (i : Int) : Int := if i < 0 then -i else i
theorem ab_nn (i : Int) : 0 ≤ ab i := by unfold ab; split <;> omega
theorem ab_pos {i : Int} (h : 0 ≤ i) : ab i = i := by unfold ab; rw [if_neg (by omega)]
theorem ab_neg {i : Int} (h : i ≤ 0) : ab i = -i := by
  unfold ab
  split <;> omega
/-- i|i| + d j|j|: it has the sign of i + j r -/
def sgb (d i j : Int) : Int := i * ab i + d * j * ab j
def sg (d i j : Int) : Int := if 0 < sgb d i j then 1 else if sgb d i j < 0 then -1 else 0
/-- the floor of f times the root -/
def flr (d f : Int) : Int := if f < 0 then -rt (d * f * f) - 1 else rt (d * f * f)
theorem dff (d f : Int) : d * f * f = d * (f * f) := Int.mul_assoc d f f
theorem dff_nn {d f : Int} (hd : Root d) : 0 ≤ d * f * f := by
  rw [dff]
  exact Int.mul_nonneg (Int.le_of_lt hd.pos) (sq_nonneg f)
theorem keyL {d x y : Int} (hd : Root d) : 0 ≤ sgb d x y ↔ 0 ≤ x + flr d y := by
  have r0 := rt_nn (d * y * y)
  have r1 := rt_le (dff_nn hd (f := y))
  have r2 := rt_lt (dff_nn hd (f := y))
  have dn := dff_nn hd (f := y)
  generalize hr : rt (d * y * y) = r at *
  rcases Int.lt_or_le y 0 with hy | hy
  · have ef : flr d y = -r - 1 := by unfold flr; rw [if_pos hy, hr]
    have eb : sgb d x y = x * ab x - d * y * y := by unfold sgb; rw [ab_neg (Int.le_of_lt hy)]; grind
    rw [ef, eb]
    have ne : r * r ≠ d * y * y := fun e => by
      have := irr hd (i := r) (j := y) (by rw [e, dff])
      omega
    have lt : r * r < d * y * y := by omega
    have dp : 0 < d * y * y := by
      have := sq_nonneg r
      omega
    rcases Int.lt_or_le x 0 with hx | hx
    · rw [ab_neg (Int.le_of_lt hx)]
      have := sq_nonneg x
      have e : x * -x = -(x * x) := by grind
      omega
    · rw [ab_pos hx]
      constructor
      · intro h
        have : r < x := lt_of_sq hx (by omega)
        omega
      · intro h
        have : (r + 1) * (r + 1) ≤ x * x := sq_le (by omega) (by omega)
        omega
  · have ef : flr d y = r := by unfold flr; rw [if_neg (by omega), hr]
    have eb : sgb d x y = x * ab x + d * y * y := by unfold sgb; rw [ab_pos hy]
    rw [ef, eb]
    rcases Int.lt_or_le x 0 with hx | hx
    · rw [ab_neg (Int.le_of_lt hx)]
      have e : x * -x = -((-x) * (-x)) := by grind
      constructor
      · intro h
        have : -x < r + 1 := lt_of_sq (by omega) (by omega)
        omega
      · intro h
        have : (-x) * (-x) ≤ r * r := sq_le (by omega) (by omega)
        omega
    · rw [ab_pos hx]
      have := sq_nonneg x
      omega
theorem ab_mul {g i : Int} (hg : 0 ≤ g) : ab (g * i) = g * ab i := by
  rcases Int.lt_or_le i 0 with h | h
  · have : g * i ≤ 0 := Int.mul_nonpos_of_nonneg_of_nonpos hg (by omega)
    rw [ab_neg this, ab_neg (by omega)]
    grind
  · rw [ab_pos (Int.mul_nonneg hg h), ab_pos h]
theorem sgb_mul {d g i j : Int} (hg : 0 ≤ g) : sgb d (g * i) (g * j) = g * g * sgb d i j := by
  unfold sgb
  rw [ab_mul hg, ab_mul hg]
  grind
theorem sgb_neg {d i j : Int} : sgb d (-i) (-j) = -sgb d i j := by
  have h : ∀ i, ab (-i) = ab i := fun i => by unfold ab; split <;> split <;> omega
  unfold sgb
  rw [h, h]
  grind
theorem sg_mul {d g i j : Int} (hg : 0 < g) : sg d (g * i) (g * j) = sg d i j := by
  have hp : 0 < g * g := Int.mul_pos hg hg
  have e := sgb_mul (d := d) (i := i) (j := j) (Int.le_of_lt hg)
  unfold sg
  rw [e]
  rcases Int.lt_trichotomy (sgb d i j) 0 with h | h | h
  · have : g * g * sgb d i j < 0 := Int.mul_neg_of_pos_of_neg hp h
    rw [if_neg (by omega), if_pos this, if_neg (by omega), if_pos h]
  · rw [h]; simp
  · have : 0 < g * g * sgb d i j := Int.mul_pos hp h
    rw [if_pos this, if_pos h]
theorem sg_neg {d i j : Int} : sg d (-i) (-j) = -sg d i j := by
  have e := sgb_neg (d := d) (i := i) (j := j)
  unfold sg
  rw [e]
  rcases Int.lt_trichotomy (sgb d i j) 0 with h | h | h
  · rw [if_pos (by omega), if_neg (by omega), if_pos h]; rfl
  · rw [h]; rfl
  · rw [if_neg (by omega), if_pos (by omega), if_pos h]
/-- the law's own sign -/
theorem sg_pp {d i j : Int} (hd : Root d) (hi : 0 ≤ i) (hj : 0 ≤ j) : sg d i j = if 0 < i ∨ 0 < j then 1 else 0 := by
  have hp := hd.pos
  have e : sgb d i j = i * i + d * (j * j) := by unfold sgb; rw [ab_pos hi, ab_pos hj]; grind
  have a := sq_nonneg i
  have b := sq_nonneg j
  have b' : 0 ≤ d * (j * j) := Int.mul_nonneg (by omega) b
  unfold sg
  rw [e]
  by_cases h : 0 < i ∨ 0 < j
  · rw [if_pos h, if_pos]
    rcases h with h | h
    · have : 0 < i * i := Int.mul_pos h h
      omega
    · have : 0 < d * (j * j) := Int.mul_pos hp (Int.mul_pos h h)
      omega
  · have hi0 : i = 0 := by omega
    have hj0 : j = 0 := by omega
    rw [if_neg h, hi0, hj0]
    simp
theorem sg_nn {d i j : Int} (hd : Root d) (hi : i ≤ 0) (hj : j ≤ 0) (h : ¬ (0 ≤ i ∧ 0 ≤ j)) : sg d i j = -1 := by
  have e : sg d i j = -sg d (-i) (-j) := by rw [sg_neg]; omega
  rw [e, sg_pp hd (by omega) (by omega), if_pos (by omega)]
theorem sg_pn {d i j : Int} (hd : Root d) (hi : 0 < i) (hj : j < 0) : sg d i j = if j * j * d < i * i then 1 else -1 := by
  have e : sgb d i j = i * i - j * j * d := by unfold sgb; rw [ab_pos (by omega), ab_neg (by omega)]; grind
  have ne : i * i ≠ j * j * d := fun q => by
    have := irr hd (i := i) (j := j) (by rw [q]; grind)
    omega
  unfold sg
  rw [e]
  split <;> split <;> first | rfl | omega | skip
theorem sg_np {d i j : Int} (hd : Root d) (hi : i < 0) (hj : 0 < j) : sg d i j = if i * i < j * j * d then 1 else -1 := by
  have e : sgb d i j = j * j * d - i * i := by unfold sgb; rw [ab_pos (i := j) (by omega), ab_neg (i := i) (by omega)]; grind
  have ne : i * i ≠ j * j * d := fun q => by
    have := irr hd (i := i) (j := j) (by rw [q]; grind)
    omega
  unfold sg
  rw [e]
  split <;> split <;> first | rfl | omega | skip
theorem sg_nonneg {d i j : Int} (hd : Root d) : 0 ≤ sg d i j ↔ 0 ≤ i + flr d j := by
  rw [← keyL hd]
  unfold sg
  split
  · omega
  · split <;> omega
theorem flr_ring {d f : Int} : rt (f * f * d) = rt (d * f * f) := by rw [show f * f * d = d * f * f by grind]
end RF

namespace RF
/-! ### lowest terms -/
def gc (i j k : Int) : Int := ((Nat.gcd (Nat.gcd i.natAbs j.natAbs) k.natAbs : Nat) : Int)
def gs (i j k : Int) : Int := if k < 0 then -gc i j k else gc i j k
theorem gc_i (i j k : Int) : gc i j k ∣ i := Int.natAbs_dvd_natAbs.mp (by
  unfold gc
  rw [Int.natAbs_natCast]
  exact Nat.dvd_trans (Nat.gcd_dvd_left _ _) (Nat.gcd_dvd_left _ _))
theorem gc_j (i j k : Int) : gc i j k ∣ j := Int.natAbs_dvd_natAbs.mp (by
  unfold gc
  rw [Int.natAbs_natCast]
  exact Nat.dvd_trans (Nat.gcd_dvd_left _ _) (Nat.gcd_dvd_right _ _))
theorem gc_k (i j k : Int) : gc i j k ∣ k := Int.natAbs_dvd_natAbs.mp (by
  unfold gc
  rw [Int.natAbs_natCast]
  exact Nat.gcd_dvd_right _ _)
theorem gc_pos {i j k : Int} (h : k ≠ 0) : 0 < gc i j k := by
  have : 0 < Nat.gcd (Nat.gcd i.natAbs j.natAbs) k.natAbs := Nat.gcd_pos_of_pos_right _ (by omega)
  unfold gc
  omega
theorem gc_le {i j k : Int} (h : k ≠ 0) : gc i j k ≤ ab k := by
  have : Nat.gcd (Nat.gcd i.natAbs j.natAbs) k.natAbs ≤ k.natAbs := Nat.gcd_le_right _ (by omega)
  unfold gc ab
  split <;> omega
theorem gs_ne {i j k : Int} (h : k ≠ 0) : gs i j k ≠ 0 := by
  have := gc_pos (i := i) (j := j) h
  unfold gs
  split <;> omega
theorem gs_natAbs {i j k : Int} (h : k ≠ 0) : (gs i j k).natAbs ≤ k.natAbs := by
  have := gc_pos (i := i) (j := j) h
  have := gc_le (i := i) (j := j) h
  unfold gs
  unfold ab at this
  split <;> split at this <;> omega
def pI (i j k : Int) : Int := i.fdiv (gs i j k)
def pJ (i j k : Int) : Int := j.fdiv (gs i j k)
def pK (i j k : Int) : Int := k.fdiv (gs i j k)
theorem gs_dvd {i j k x : Int} (h : gc i j k ∣ x) : gs i j k ∣ x := by
  unfold gs
  split
  · exact Int.neg_dvd.mpr h
  · exact h
theorem fdiv_of {g x : Int} (hg : g ≠ 0) (h : g ∣ x) : x = g * x.fdiv g := by
  obtain ⟨t, rfl⟩ := h
  rw [Int.mul_fdiv_cancel_left t hg]
theorem pI_eq {i j k : Int} (h : k ≠ 0) : i = gs i j k * pI i j k := fdiv_of (gs_ne h) (gs_dvd (gc_i i j k))
theorem pJ_eq {i j k : Int} (h : k ≠ 0) : j = gs i j k * pJ i j k := fdiv_of (gs_ne h) (gs_dvd (gc_j i j k))
theorem pK_eq {i j k : Int} (h : k ≠ 0) : k = gs i j k * pK i j k := fdiv_of (gs_ne h) (gs_dvd (gc_k i j k))
theorem pK_pos {i j k : Int} (h : k ≠ 0) : 0 < pK i j k := by
  have e := pK_eq (i := i) (j := j) h
  have g0 := gc_pos (i := i) (j := j) h
  generalize pK i j k = t at *
  unfold gs at e
  split at e
  · rcases Int.lt_or_le 0 t with z | z
    · exact z
    · have : 0 ≤ -gc i j k * t := Int.mul_nonneg_of_nonpos_of_nonpos (by omega) z
      omega
  · rcases Int.lt_or_le 0 t with z | z
    · exact z
    · have : gc i j k * t ≤ 0 := Int.mul_nonpos_of_nonneg_of_nonpos (by omega) z
      omega
theorem nat_le_mul {g t : Int} (hg : g ≠ 0) : t.natAbs ≤ (g * t).natAbs := by
  rw [Int.natAbs_mul]
  exact Nat.le_mul_of_pos_left _ (by omega)
theorem pI_le {i j k : Int} (h : k ≠ 0) : (pI i j k).natAbs ≤ i.natAbs := by
  have e := pI_eq (i := i) (j := j) h
  have := nat_le_mul (g := gs i j k) (t := pI i j k) (gs_ne h)
  rw [← e] at this
  exact this
theorem pJ_le {i j k : Int} (h : k ≠ 0) : (pJ i j k).natAbs ≤ j.natAbs := by
  have e := pJ_eq (i := i) (j := j) h
  have := nat_le_mul (g := gs i j k) (t := pJ i j k) (gs_ne h)
  rw [← e] at this
  exact this
theorem pK_le {i j k : Int} (h : k ≠ 0) : (pK i j k).natAbs ≤ k.natAbs := by
  have e := pK_eq (i := i) (j := j) h
  have := nat_le_mul (g := gs i j k) (t := pK i j k) (gs_ne h)
  rw [← e] at this
  exact this
theorem gc_one {i j k : Int} (h : k ≠ 0) : gc (pI i j k) (pJ i j k) (pK i j k) = 1 := by
  have e1 : i.natAbs = (gs i j k).natAbs * (pI i j k).natAbs := by rw [← Int.natAbs_mul, ← pI_eq h]
  have e2 : j.natAbs = (gs i j k).natAbs * (pJ i j k).natAbs := by rw [← Int.natAbs_mul, ← pJ_eq h]
  have e3 : k.natAbs = (gs i j k).natAbs * (pK i j k).natAbs := by rw [← Int.natAbs_mul, ← pK_eq h]
  have eg : (gs i j k).natAbs = Nat.gcd (Nat.gcd i.natAbs j.natAbs) k.natAbs := by
    unfold gs gc
    split <;> omega
  have key : Nat.gcd (Nat.gcd i.natAbs j.natAbs) k.natAbs = (gs i j k).natAbs * Nat.gcd (Nat.gcd (pI i j k).natAbs (pJ i j k).natAbs) (pK i j k).natAbs := by
    conv => lhs; rw [e1, e2, e3]
    rw [Nat.gcd_mul_left, Nat.gcd_mul_left]
  rw [← eg] at key
  have gp : 0 < (gs i j k).natAbs := by have := gs_ne (i := i) (j := j) h; omega
  have : Nat.gcd (Nat.gcd (pI i j k).natAbs (pJ i j k).natAbs) (pK i j k).natAbs = 1 := by
    have q : (gs i j k).natAbs * 1 = (gs i j k).natAbs * Nat.gcd (Nat.gcd (pI i j k).natAbs (pJ i j k).natAbs) (pK i j k).natAbs := by omega
    exact (Nat.eq_of_mul_eq_mul_left gp q).symm
  unfold gc
  rw [this]
  rfl
theorem dvd_low {a b c a' b' c' : Int} (hg : gc a b c = 1) (h1 : a * c' = a' * c) (h2 : b * c' = b' * c) : c ∣ c' := by
  apply Int.natAbs_dvd_natAbs.mp
  have d1 : c.natAbs ∣ a.natAbs * c'.natAbs := by rw [← Int.natAbs_mul, h1, Int.natAbs_mul]; exact Nat.dvd_mul_left _ _
  have d2 : c.natAbs ∣ b.natAbs * c'.natAbs := by rw [← Int.natAbs_mul, h2, Int.natAbs_mul]; exact Nat.dvd_mul_left _ _
  have d3 : c.natAbs ∣ c.natAbs * c'.natAbs := Nat.dvd_mul_right _ _
  have d : c.natAbs ∣ Nat.gcd (Nat.gcd (a.natAbs * c'.natAbs) (b.natAbs * c'.natAbs)) (c.natAbs * c'.natAbs) := Nat.dvd_gcd (Nat.dvd_gcd d1 d2) d3
  rw [Nat.gcd_mul_right, Nat.gcd_mul_right] at d
  have : Nat.gcd (Nat.gcd a.natAbs b.natAbs) c.natAbs = 1 := by unfold gc at hg; omega
  rw [this, Nat.one_mul] at d
  exact d
theorem low_uniq {a b c a' b' c' : Int} (hc : 0 < c) (hc' : 0 < c') (hg : gc a b c = 1) (hg' : gc a' b' c' = 1) (h1 : a * c' = a' * c) (h2 : b * c' = b' * c) : a = a' ∧ b = b' ∧ c = c' := by
  have e : c = c' := Int.dvd_antisymm (by omega) (by omega) (dvd_low hg h1 h2) (dvd_low hg' h1.symm h2.symm)
  subst e
  exact ⟨Int.eq_of_mul_eq_mul_right (by omega) h1, Int.eq_of_mul_eq_mul_right (by omega) h2, rfl⟩
/-- equal numbers have equal parts -/
theorem parts_eq {i j k i' j' k' : Int} (h : k ≠ 0) (h' : k' ≠ 0) (h1 : i * k' = i' * k) (h2 : j * k' = j' * k) : pI i j k = pI i' j' k' ∧ pJ i j k = pJ i' j' k' ∧ pK i j k = pK i' j' k' := by
  have g := gs_ne (i := i) (j := j) h
  have g' := gs_ne (i := i') (j := j') h'
  have a1 := pI_eq (i := i) (j := j) h
  have a2 := pJ_eq (i := i) (j := j) h
  have a3 := pK_eq (i := i) (j := j) h
  have b1 := pI_eq (i := i') (j := j') h'
  have b2 := pJ_eq (i := i') (j := j') h'
  have b3 := pK_eq (i := i') (j := j') h'
  refine low_uniq (pK_pos h) (pK_pos h') (gc_one h) (gc_one h') ?_ ?_
  · have : gs i j k * gs i' j' k' ≠ 0 := Int.mul_ne_zero g g'
    apply Int.eq_of_mul_eq_mul_left this
    generalize gs i j k = s at *
    generalize gs i' j' k' = s' at *
    generalize pI i j k = x at *
    generalize pI i' j' k' = x' at *
    generalize pK i j k = z at *
    generalize pK i' j' k' = z' at *
    rw [a1, b1, a3, b3] at h1
    grind
  · have : gs i j k * gs i' j' k' ≠ 0 := Int.mul_ne_zero g g'
    apply Int.eq_of_mul_eq_mul_left this
    generalize gs i j k = s at *
    generalize gs i' j' k' = s' at *
    generalize pJ i j k = x at *
    generalize pJ i' j' k' = x' at *
    generalize pK i j k = z at *
    generalize pK i' j' k' = z' at *
    rw [a2, b2, a3, b3] at h2
    grind
/-- the sign of a number does not hang on how it is told -/
theorem sg_parts {d i j k : Int} (h : 0 < k) : sg d (pI i j k) (pJ i j k) = sg d i j := by
  have g := gs_ne (i := i) (j := j) (k := k) (by omega)
  have gp : 0 < gs i j k := by
    have := gc_pos (i := i) (j := j) (k := k) (by omega)
    unfold gs
    rw [if_neg (by omega)]
    exact this
  have e := sg_mul (d := d) (i := pI i j k) (j := pJ i j k) gp
  rw [← pI_eq (by omega), ← pJ_eq (by omega)] at e
  exact e.symm
end RF

namespace RF
open PySem L2 PyProof.Rows
/-! ### what a surd looks like -/
theorem kRP : ¬ (("_root" : Str) = "_parts") := by decide +kernel
def sfl (d : Int) (t : Addr) : List (Str × V) := putF "_parts" (.ref t) (putF "_root" (.int d) [])
theorem sfl_root (d : Int) (t : Addr) : (sfl d t).lookup ("_root" : Str) = some (.int d) := by
  unfold sfl
  rw [lookup_putF, if_neg kRP, lookup_putF, if_pos rfl]
theorem sfl_parts (d : Int) (t : Addr) : (sfl d t).lookup ("_parts" : Str) = some (.ref t) := by
  unfold sfl
  rw [lookup_putF, if_pos rfl]
theorem sfl_no (d : Int) (t : Addr) {m : Str} (h1 : ¬ m = "_parts") (h2 : ¬ m = "_root") : (sfl d t).lookup m = none := by
  unfold sfl
  rw [lookup_putF, if_neg h1, lookup_putF, if_neg h2]
  all_goals rfl
/-- at p: the surd of the root d with the parts i, j, k -/
def SurdAt (H : Hp) (C p : Addr) (d i j k : Int) : Prop := ∃ dx t, H p = some (.ins C dx (sfl d t)) ∧ H t = some (.tup [.int i, .int j, .int k])
theorem SurdAt.same {H H' : Hp} {C p : Addr} {d i j k : Int} (s : Same H H') (h : SurdAt H C p d i j k) : SurdAt H' C p d i j k := by
  obtain ⟨dx, t, h1, h2⟩ := h
  exact ⟨dx, t, s _ _ h1, s _ _ h2⟩
/-- below two to the n -/
def Bd (n : Nat) (i : Int) : Prop := i.natAbs < 2 ^ n
theorem Bd.mono {n m : Nat} {i : Int} (h : Bd n i) (hn : n ≤ m) : Bd m i := Nat.lt_of_lt_of_le h (Nat.pow_le_pow_right (by decide) hn)
theorem Bd.mul {n m : Nat} {i j : Int} (a : Bd n i) (b : Bd m j) : Bd (n + m) (i * j) := wide_lt a b
theorem Bd.add {n : Nat} {i j : Int} (a : Bd n i) (b : Bd n j) : Bd (n + 1) (i + j) := by
  unfold Bd at *
  rw [Nat.pow_succ]
  omega
theorem Bd.neg {n : Nat} {i : Int} (a : Bd n i) : Bd n (-i) := by
  unfold Bd at *
  omega
theorem Bd.le {n : Nat} {i j : Int} (a : Bd n i) (h : j.natAbs ≤ i.natAbs) : Bd n j := Nat.lt_of_le_of_lt h a
theorem Bd.ab {n : Nat} {i : Int} (a : Bd n i) : Bd n (if i < 0 then -i else i) := by
  unfold Bd at *
  split <;> omega
theorem Bd.log {n : Nat} {i : Int} (a : Bd n i) (h : 0 < n) : i.natAbs.log2 < n := PySem.Flt.log2_lt_of h a
theorem mulOk {n m : Nat} {i j : Int} (a : Bd n i) (b : Bd m j) (h0 : 0 < n) (h1 : 0 < m) (h : n + m ≤ 1000000) : CMulW i j := wide_mul a b h0 h1 h
theorem rootBd {d : Int} (h : Root d) : Bd 4 d := by
  unfold Bd
  unfold Root at h
  omega
/-- // by any great divisor but 0 -/
def CDivNW (_ j : Int) : Prop := j ≠ 0 ∧ j.natAbs.log2 < 9000
theorem op_fdivNW {X : Cx} : OpR X (binaryOp .FloorDiv) (rI CDivNW fun i j => .int (i.fdiv j)) := opI fun _ _ _ _ _ _ _ hc q => floordiv_int hc.1 q (.inl (PyProof.noPylong_of_log2 hc.2))

/-! ### a written dict with int keys -/
def okE : List DictEntry → List Int → Bool
  | [], [] => true
  | e :: es, k :: ks => (match e.key with | .int i _ => i == k | _ => false) && e.hash == hashInt k && okE es ks
  | _, _ => false
structure IntKeys (K : PySem.W.Frag) (d : Addr) (ks : List Int) : Prop where
  low : (d == sysModules) = false
  ex : ∃ es n, K.lookup d = some ⟨.type "dict", none, .dict es n, #[]⟩ ∧ okE es.toList ks = true
theorem okE_mem : ∀ {es : List DictEntry} {ks : List Int}, okE es ks = true → ∀ e ∈ es, ∃ k t, k ∈ ks ∧ e.key = .int k t ∧ e.hash = hashInt k
  | [], _, _, e, he => by cases he
  | c :: es, [], h, e, he => by simp [okE] at h
  | c :: es, k :: ks, h, e, he => by
    unfold okE at h
    simp only [Bool.and_eq_true, beq_iff_eq] at h
    obtain ⟨⟨h1, h2⟩, h3⟩ := h
    rcases List.mem_cons.mp he with rfl | he
    · split at h1
      · rename_i i t q
        exact ⟨k, t, List.mem_cons_self, by rw [q, beq_iff_eq.mp h1], h2⟩
      · cases h1
    · obtain ⟨k', t, a, b, c⟩ := okE_mem h3 e he
      exact ⟨k', t, List.mem_cons_of_mem _ a, b, c⟩
theorem okE_find : ∀ {es : List DictEntry} {ks : List Int} (i : Int), okE es ks = true → (es.find? fun e => Value.isInt i e.key).isSome = decide (i ∈ ks)
  | [], [], i, _ => by simp
  | [], k :: ks, i, h => by simp [okE] at h
  | c :: es, [], i, h => by simp [okE] at h
  | c :: es, k :: ks, i, h => by
    unfold okE at h
    simp only [Bool.and_eq_true, beq_iff_eq] at h
    obtain ⟨⟨h1, h2⟩, h3⟩ := h
    have ih := okE_find i h3
    split at h1
    · rename_i j t q
      have e : j = k := beq_iff_eq.mp h1
      rw [List.find?_cons]
      by_cases z : i = k
      · have : Value.isInt i c.key = true := by rw [q, e, z]; simp [Value.isInt]
        rw [this]
        simp [z]
      · have : Value.isInt i c.key = false := by
          rw [q, e]
          simp only [Value.isInt]
          exact beq_eq_false_iff_ne.mpr (fun w => z w.symm) |> fun h => by first | exact h | (rw [beq_eq_false_iff_ne]; exact z) | simpa using z
        rw [this]
        simp [ih, z]
    · cases h1
theorem op_in_intd {X : Cx} : OpR X (compareOp .In) (fun x y H Q => ∃ i d ks, x = .int i ∧ y = .ref d ∧ IntKeys X.K d ks ∧ Q (.bl (decide (i ∈ ks))) H) := by
  intro pins s σ H x y v u Q I rx ry h
  obtain ⟨i, d, ks, rfl, rfl, ⟨low, es, n, hl, he⟩, q⟩ := h
  obtain ⟨t, rfl⟩ := rx
  cases ry
  have hm : s.heap.MapOf (intKind X.prog X.w) d (fun k => findBy Value.isInt es k) := ⟨_, es, n, I.kIn _ _ hl, ⟨rfl, rfl, rfl⟩, rfl, fun e hh => by
    obtain ⟨k, t, _, e1, e2⟩ := okE_mem he e (Array.mem_toList_iff.mpr hh)
    exact ⟨k, by rw [e1]; show Value.isInt k (.int k t) = true; simp [Value.isInt], e2⟩, fun _ => rfl⟩
  refine wpAny_in_of (knd := intKind X.prog X.w) (k := i) (by show Value.isInt i (.int i t) = true; simp [Value.isInt]) low hm ?_
  have e : (findBy Value.isInt es i).isSome = decide (i ∈ ks) := by
    unfold findBy
    rw [Option.isSome_map, ← okE_find i he, ← List.find?_toArray]
  rw [e]
  exact ⟨.bl _, H, I.tok _, rfl, q⟩
end RF

namespace RF
open PySem L2
def isS (x : Str) : D → Bool
  | .str y => decide (y = x)
  | _ => false
/-! ### data that has no part at some addresses -/
def hid (S : List Addr) (H : Hp) : Hp := fun a => if a ∈ S then none else H a
theorem hid_ne {S : List Addr} {a : Addr} {H : Hp} (h : a ∉ S) : hid S H a = H a := if_neg h
theorem hid_same {S : List Addr} {H : Hp} : Same (hid S H) H := fun a o e => by
  unfold hid at e
  split at e
  · cases e
  · exact e
theorem hid_le {S S' : List Addr} {H : Hp} (h : ∀ s ∈ S', s ∈ S) : Same (hid S H) (hid S' H) := fun a o e => by
  unfold hid at *
  split at e
  · cases e
  · rename_i n
    rw [if_neg (fun m => n (h a m))]
    exact e
theorem hid_mono {S : List Addr} {H H' : Hp} (s : Same H H') : Same (hid S H) (hid S H') := fun a o e => by
  unfold hid at *
  split at e
  · cases e
  · rename_i h
    rw [if_neg h]
    exact s a o e
theorem hid_kp {S : List Addr} {b : Addr} {H H' : Hp} (hb : b ∈ S) (k : Kp b H H') : Same (hid S H) (hid S H') := fun a o e => by
  unfold hid at *
  split at e
  · cases e
  · rename_i h
    rw [if_neg h]
    exact k a o (fun z => h (z ▸ hb)) e
theorem hid_upd {S : List Addr} {p : Addr} {H : Hp} {o : HO} (hp : p ∈ S) : hid S (upd H p o) = hid S H := by
  funext a
  unfold hid
  split
  · rfl
  · rename_i h
    exact upd_ne fun z => h (z ▸ hp)
def R (K : PySem.W.Frag) (S : List Addr) (H : Hp) (v : V) (d : D) : Prop := Rp K (hid S H) v d
def Rs (K : PySem.W.Frag) (S : List Addr) (H : Hp) (xs : List V) (ds : List D) : Prop := Rps K (hid S H) xs ds
/-- all of S is there -/
def Alloc (S : List Addr) (H : Hp) : Prop := ∀ s ∈ S, H s ≠ none
theorem Alloc.off {S : List Addr} {H : Hp} {p : Addr} (h : Alloc S H) (e : H p = none) : p ∉ S := fun m => h p m e
theorem Alloc.same {S : List Addr} {H H' : Hp} (h : Alloc S H) (s : Same H H') : Alloc S H' := fun a m z => by
  cases e : H a with
  | none => exact h a m e
  | some o => rw [s a o e] at z; cases z
theorem Alloc.kp {S : List Addr} {b : Addr} {H H' : Hp} (h : Alloc S H) (k : Kp b H H') (hb : H' b ≠ none) : Alloc S H' := fun a m z => by
  by_cases hab : a = b
  · subst hab; exact hb z
  · cases e : H a with
    | none => exact h a m e
    | some o => rw [k a o hab e] at z; cases z
theorem Alloc.cons {S : List Addr} {H : Hp} {p : Addr} (h : Alloc S H) (e : H p ≠ none) : Alloc (p :: S) H := fun a m => by
  rcases List.mem_cons.mp m with rfl | m
  · exact e
  · exact h a m
section
variable {K : PySem.W.Frag} {S S' : List Addr} {b : Addr} {H H' : Hp} {v : V} {d : D} {xs : List V} {ds : List D}
theorem R.rp (h : R K S H v d) : Rp K H v d := Rp.same hid_same d h
theorem R.same (h : R K S H v d) (s : Same H H') : R K S H' v d := Rp.same (hid_mono s) d h
theorem R.kp (h : R K S H v d) (hb : b ∈ S) (k : Kp b H H') : R K S H' v d := Rp.same (hid_kp hb k) d h
theorem R.le (h : R K S H v d) (l : ∀ s ∈ S', s ∈ S) : R K S' H v d := Rp.same (hid_le l) d h
theorem R.upd {p : Addr} {o : HO} (h : R K S H v d) (hp : p ∈ S) : R K S (L2.upd H p o) v d := by unfold R; rw [hid_upd hp]; exact h
theorem Rs.rps (h : Rs K S H xs ds) : Rps K H xs ds := Rps.same hid_same ds h
theorem Rs.same (h : Rs K S H xs ds) (s : Same H H') : Rs K S H' xs ds := Rps.same (hid_mono s) ds h
theorem Rs.kp (h : Rs K S H xs ds) (hb : b ∈ S) (k : Kp b H H') : Rs K S H' xs ds := Rps.same (hid_kp hb k) ds h
theorem Rs.le (h : Rs K S H xs ds) (l : ∀ s ∈ S', s ∈ S) : Rs K S' H xs ds := Rps.same (hid_le l) ds h
theorem Rs.upd {p : Addr} {o : HO} (h : Rs K S H xs ds) (hp : p ∈ S) : Rs K S (L2.upd H p o) xs ds := by unfold Rs; rw [hid_upd hp]; exact h
theorem R.tup {p : Addr} (n : p ∉ S) (e : H p = some (.tup xs)) (l : xs.length ≤ 100000) (h : Rs K S H xs ds) : R K S H (.ref p) (.tup ds) :=
  ⟨p, xs, rfl, SqT.of (by rw [hid_ne n]; exact e), l, h⟩
theorem R.lst {p : Addr} (n : p ∉ S) (e : H p = some (.lst xs)) (l : xs.length ≤ 100000) (h : Rs K S H xs ds) : R K S H (.ref p) (.lst ds) :=
  ⟨p, xs, rfl, SqL.of (by rw [hid_ne n]; exact e), l, h⟩
theorem Rs.nil : Rs K S H [] [] := rfl
theorem Rs.cons {x : V} {e : D} (h1 : R K S H x e) (h2 : Rs K S H xs ds) : Rs K S H (x :: xs) (e :: ds) := ⟨x, xs, rfl, h1, h2⟩
/-- a new tuple of what is there -/
theorem R.newT {p : Addr} (a : Alloc S H) (e : H p = none) (l : xs.length ≤ 100000) (h : Rs K S H xs ds) : R K S (L2.upd H p (.tup xs)) (.ref p) (.tup ds) :=
  R.tup (a.off e) upd_same l (h.same (sNew (Same.refl _) e))
theorem R.newL {p : Addr} (a : Alloc S H) (e : H p = none) (l : xs.length ≤ 100000) (h : Rs K S H xs ds) : R K S (L2.upd H p (.lst xs)) (.ref p) (.lst ds) :=
  R.lst (a.off e) upd_same l (h.same (sNew (Same.refl _) e))
theorem R.int (i : Int) : R K S H (.int i) (.int i) := rfl
theorem R.str (x : Str) : R K S H (.str x) (.str x) := rfl
theorem R.bl (x : Bool) : R K S H (.bl x) (.bl x) := rfl
theorem R.non : R K S H .non .non := rfl
end
theorem Rps.app {K : PySem.W.Frag} {H : Hp} : ∀ {xs ys : List V} {ds es : List D}, Rps K H xs ds → Rps K H ys es → Rps K H (xs ++ ys) (ds ++ es)
  | xs, ys, [], es, h, g => by rw [show xs = [] from h]; exact g
  | xs, ys, d :: ds, es, h, g => by
    obtain ⟨x, r, rfl, h2, h3⟩ := h
    exact ⟨x, r ++ ys, rfl, h2, Rps.app h3 g⟩
theorem Rs.app {K : PySem.W.Frag} {S : List Addr} {H : Hp} {xs ys : List V} {ds es : List D} (h : Rs K S H xs ds) (g : Rs K S H ys es) : Rs K S H (xs ++ ys) (ds ++ es) := Rps.app h g
theorem Rps.take {K : PySem.W.Frag} {H : Hp} : ∀ {xs : List V} {ds : List D} (n : Nat), Rps K H xs ds → Rps K H (xs.take n) (ds.take n)
  | xs, ds, 0, h => by rw [List.take_zero, List.take_zero]; rfl
  | xs, [], n + 1, h => by rw [show xs = [] from h]; rfl
  | xs, d :: ds, n + 1, h => by
    obtain ⟨x, r, rfl, h2, h3⟩ := h
    exact ⟨x, r.take n, rfl, h2, Rps.take n h3⟩
theorem Rps.drop {K : PySem.W.Frag} {H : Hp} : ∀ {xs : List V} {ds : List D} (n : Nat), Rps K H xs ds → Rps K H (xs.drop n) (ds.drop n)
  | xs, ds, 0, h => h
  | xs, [], n + 1, h => by rw [show xs = [] from h]; rfl
  | xs, d :: ds, n + 1, h => by
    obtain ⟨x, r, rfl, h2, h3⟩ := h
    exact Rps.drop n h3
theorem Rps.of {K : PySem.W.Frag} {H : Hp} : ∀ {xs : List V} {ds : List D} {i : Nat} {d : D}, Rps K H xs ds → ds[i]? = some d → ∃ x, xs[i]? = some x ∧ Rp K H x d
  | xs, [], i, d, h, e => by simp at e
  | xs, c :: ds, 0, d, h, e => by
    obtain ⟨x, r, rfl, h2, _⟩ := h
    cases e
    exact ⟨x, rfl, h2⟩
  | xs, c :: ds, i + 1, d, h, e => by
    obtain ⟨x, r, rfl, _, h3⟩ := h
    obtain ⟨y, e1, e2⟩ := Rps.of (i := i) h3 e
    exact ⟨y, e1, e2⟩
/-- the part of a list that a slice tells -/
def cutD (ds : List D) (lo hi : Option Int) : List D := (ds.drop (HT.sIx ds.length 0 lo)).take (HT.sIx ds.length ds.length hi - HT.sIx ds.length 0 lo)
theorem Rps.cut {K : PySem.W.Frag} {H : Hp} {xs : List V} {ds : List D} (h : Rps K H xs ds) (lo hi : Option Int) : Rps K H (cutV xs lo hi) (cutD ds lo hi) := by
  unfold cutV cutD
  rw [h.len]
  exact Rps.take _ (Rps.drop _ h)
theorem Rs.cut {K : PySem.W.Frag} {S : List Addr} {H : Hp} {xs : List V} {ds : List D} (h : Rs K S H xs ds) (lo hi : Option Int) : Rs K S H (cutV xs lo hi) (cutD ds lo hi) := Rps.cut h lo hi
theorem cutD_mem {ds : List D} {lo hi : Option Int} {d : D} (h : d ∈ cutD ds lo hi) : d ∈ ds := List.mem_of_mem_drop (List.mem_of_mem_take h)
theorem cutD_len (ds : List D) (lo hi : Option Int) : (cutD ds lo hi).length ≤ ds.length := by
  unfold cutD
  rw [List.length_take, List.length_drop]
  omega
/-! ### words, terms -/
def letD (c : Nat) : Bool := decide (97 ≤ c) && decide (c ≤ 122)
def noVars : List Str := ["all", "and", "not", "or", "r"]
def wordS (x : Str) (lo hi : Int) : Bool := decide (lo ≤ (x.length : Int)) && (decide ((x.length : Int) ≤ hi) && x.cps.toList.all letD)
def varS (x : Str) : Bool := wordS x 1 3 && !noVars.contains x
def varD : D → Bool
  | .str x => varS x
  | _ => false
theorem sm_up2 {H H1 : Hp} {a : Addr} {o : HO} (s : Same H H1) (h : H a = none) : Same H (upd H1 a o) := fun b u e => by
  have hne : b ≠ a := fun z => by rw [z, h] at e; cases e
  rw [upd_ne hne]
  exact s b u e
end RF

namespace RF
open PySem L2
/-! ### texts: plain facts -/
theorem sx {a b : Str} (h : a.cps = b.cps) : a = b := by cases a; cases b; exact congrArg Str.mk h
theorem cps_app (a b : Str) : (a ++ b).cps = a.cps ++ b.cps := rfl
theorem s_assoc (a b c : Str) : a ++ b ++ c = a ++ (b ++ c) := sx (by rw [cps_app, cps_app, cps_app, cps_app, Array.append_assoc])
theorem e_app (a : Str) : Str.empty ++ a = a := sx (by rw [cps_app]; exact Array.empty_append)
theorem app_e (a : Str) : a ++ Str.empty = a := sx (by rw [cps_app]; exact Array.append_empty)
theorem len_app (a b : Str) : (a ++ b).length = a.length + b.length := Array.size_append
theorem emp_eq : ("" : Str) = Str.empty := by decide +kernel
theorem foldl_cps (g : Str) : ∀ (l : List Str) (a : Array Nat), l.foldl (fun acc p => acc ++ g.cps ++ p.cps) a = a ++ l.foldl (fun acc p => acc ++ g.cps ++ p.cps) #[]
  | [], a => by simp
  | x :: l, a => by
    rw [List.foldl_cons, List.foldl_cons, foldl_cps g l (a ++ g.cps ++ x.cps), foldl_cps g l (#[] ++ g.cps ++ x.cps)]
    simp [Array.append_assoc]
theorem join_nil (a : Str) : Txt.join a [] = Str.empty := rfl
theorem join_one (a x : Str) : Txt.join a [x] = x := rfl
/-- a text behind a joined list of texts -/
theorem join_snoc (x : Str) (l : List Str) : Txt.join Str.empty (l ++ [x]) = Txt.join Str.empty l ++ x := by
  cases l with
  | nil => exact (e_app x).symm
  | cons y l =>
    refine sx ?_
    show List.foldl _ y.cps (l ++ [x]) = List.foldl _ y.cps l ++ x.cps
    rw [List.foldl_append]
    show List.foldl (fun acc p => acc ++ Str.empty.cps ++ p.cps) y.cps l ++ Str.empty.cps ++ x.cps = _
    rw [show Str.empty.cps = (#[] : Array Nat) from rfl, Array.append_empty]
theorem join_len (a : Str) : ∀ l : List Str, (Txt.join a l).length ≤ (l.map (·.length)).sum + l.length * a.length
  | [] => Nat.zero_le _
  | y :: l => by
    have h : ∀ (l : List Str) (z : Array Nat), (l.foldl (fun acc p => acc ++ a.cps ++ p.cps) z).size = z.size + ((l.map (·.length)).sum + l.length * a.length) := by
      intro l
      induction l with
      | nil => intro z; simp
      | cons x l ih =>
        intro z
        rw [List.foldl_cons, ih, Array.size_append, Array.size_append, List.map_cons, List.sum_cons, List.length_cons, Nat.add_mul]
        show z.size + a.length + x.length + _ = _
        omega
    show (List.foldl _ y.cps l).size ≤ _
    rw [h, List.map_cons, List.sum_cons, List.length_cons, Nat.add_mul]
    show y.length + _ ≤ _
    omega
/-! ### the texts of slopes, terms and sayings -/
def aI (i : Int) : Int := if i < 0 then -i else i
def tS (i : Int) : Str := Str.ofString (toString i)
def szS (j : Int) : Str := if aI j = 1 then "" else tS (aI j)
def sm0 (i j : Int) : Str := if j = 0 then tS i else (if j < 0 then ("-" : Str) else "") ++ szS j ++ "r"
def sumS (i j : Int) : Str := if i ≠ 0 ∧ j ≠ 0 then tS i ++ (if j < 0 then ("-" : Str) else "+") ++ szS j ++ "r" else sm0 i j
def stp (i j k : Int) : Str := if k = 1 then sumS i j else if i ≠ 0 ∧ j ≠ 0 then "(" ++ sumS i j ++ ")/" ++ tS k else sumS i j ++ "/" ++ tS k
def mulP (j : Int) : Str := if j = 1 then "r" else if j = -1 then "-r" else Str.empty ++ tS j ++ "r"
def sumP (i j : Int) : Str := if j = 0 then tS i else if i = 0 then mulP j else Str.empty ++ tS i ++ (if j > 0 then ("+" : Str) else "") ++ mulP j
def SlB (i j k : Int) : Prop := (-9 ≤ i ∧ i ≤ 9) ∧ (-3 ≤ j ∧ j ≤ 3) ∧ (1 ≤ k ∧ k ≤ 4)
theorem fin_of {lo hi : Int} {n : Nat} (P : Int → Prop) (hn : hi - lo < n) (h : ∀ a : Fin n, P (lo + a.val)) (i : Int) (h0 : lo ≤ i) (h1 : i ≤ hi) : P i := by
  have := h ⟨(i - lo).toNat, by omega⟩
  have e : lo + ((i - lo).toNat : Int) = i := by omega
  rw [← e]
  exact this
theorem sum_all : ∀ a : Fin 19, ∀ b : Fin 7, sumP (-9 + a.val) (-3 + b.val) = sumS (-9 + a.val) (-3 + b.val) ∧ (sumS (-9 + a.val) (-3 + b.val)).length ≤ 12 := by decide +kernel
theorem sum_ok {i j : Int} (hi : -9 ≤ i ∧ i ≤ 9) (hj : -3 ≤ j ∧ j ≤ 3) : sumP i j = sumS i j ∧ (sumS i j).length ≤ 12 :=
  fin_of (lo := -9) (hi := 9) (n := 19) (fun i => sumP i j = sumS i j ∧ (sumS i j).length ≤ 12) (by decide)
    (fun a => fin_of (lo := -3) (hi := 3) (n := 7) (fun j => sumP (-9 + a.val) j = sumS (-9 + a.val) j ∧ (sumS (-9 + a.val) j).length ≤ 12) (by decide) (fun b => sum_all a b) j hj.1 hj.2) i hi.1 hi.2
theorem tS_all : ∀ a : Fin 1003, (tS a.val).length ≤ 4 ∧ 0 < (tS a.val).length ∧ tS (-(a.val : Int)) = (if a.val = 0 then ("" : Str) else "-") ++ tS a.val := by decide +kernel
theorem tS_ok {i : Int} (h : -1002 ≤ i ∧ i ≤ 1002) : (tS (aI i)).length ≤ 4 ∧ 0 < (tS (aI i)).length ∧ tS i = (if i < 0 then ("-" : Str) else "") ++ tS (aI i) := by
  by_cases hn : i < 0
  · have := tS_all ⟨(-i).toNat, by omega⟩
    simp only [] at this
    rw [show ((-i).toNat : Int) = -i by omega, if_neg (by omega : ¬ (-i).toNat = 0), Int.neg_neg] at this
    rw [aI, if_pos hn, if_pos hn]
    exact this
  · have := tS_all ⟨i.toNat, by omega⟩
    simp only [] at this
    rw [show (i.toNat : Int) = i by omega] at this
    rw [aI, if_neg hn, if_neg hn]
    refine ⟨this.1, this.2.1, ?_⟩
    rw [emp_eq, e_app]
theorem tS_len {i : Int} (h : -1002 ≤ i ∧ i ≤ 1002) : (tS i).length ≤ 5 := by
  have := tS_ok h
  rw [this.2.2, len_app]
  have e : (if i < 0 then ("-" : Str) else "").length ≤ 1 := by split <;> decide +kernel
  omega
theorem stp_len {i j k : Int} (h : SlB i j k) : (stp i j k).length ≤ 30 := by
  have h1 := (sum_ok h.1 h.2.1).2
  have h2 := tS_len (i := k) (by have := h.2.2; omega)
  unfold stp
  split
  · omega
  · split
    · rw [len_app, len_app, len_app]
      have : (("(" : Str)).length = 1 := by decide +kernel
      have : ((")/" : Str)).length = 2 := by decide +kernel
      omega
    · rw [len_app, len_app]
      have : (("/" : Str)).length = 1 := by decide +kernel
      omega
/-! ### terms, as they are drawn -/
def nms : List Str := ["x", "abc", "b", "y", "zz", "u", "v", "w"]
def NmS (x : Str) : Prop := x ∈ nms
theorem NmS.ok {x : Str} (h : NmS x) : 0 < x.length ∧ x.length ≤ 3 ∧ PyData.strOk x = true :=
  (by decide +kernel : ∀ x ∈ nms, 0 < x.length ∧ x.length ≤ 3 ∧ PyData.strOk x = true) x h
def GTh (f : D → Prop) (t : D) : Prop := (∃ x, t = .str x ∧ NmS x) ∨ ∃ i j k u, t = .tup [.str "floor", .tup [.int i, .int j, .int k], u] ∧ SlB i j k ∧ f u
def GIt (f : D → Prop) (it : D) : Prop := ∃ fa t, it = .tup [.int fa, t] ∧ (-9 ≤ fa ∧ fa ≤ 9) ∧ GTh f t
def GTm (f : D → Prop) (d : D) : Prop := ∃ its c, d = .tup [.tup its, .int c] ∧ its.length ≤ 4 ∧ (-1001 ≤ c ∧ c ≤ 1001) ∧ ∀ it ∈ its, GIt f it
def gP : Nat → D → Prop
  | 0 => fun _ => False
  | n + 1 => GTm (gP n)
/-- a term with floors at most n deep -/
abbrev Gt (n : Nat) : D → Prop := GTm (gP n)
theorem GTm.mono {f g : D → Prop} (h : ∀ d, f d → g d) {d : D} (x : GTm f d) : GTm g d := by
  obtain ⟨its, c, e, l, b, y⟩ := x
  refine ⟨its, c, e, l, b, fun it m => ?_⟩
  obtain ⟨fa, t, e1, b1, z⟩ := y it m
  refine ⟨fa, t, e1, b1, ?_⟩
  rcases z with z | ⟨i, j, k, u, e2, b2, z⟩
  · exact .inl z
  · exact .inr ⟨i, j, k, u, e2, b2, h u z⟩
theorem gP_succ : ∀ n d, gP n d → gP (n + 1) d
  | 0, _, h => h.elim
  | n + 1, _, h => GTm.mono (gP_succ n) h
theorem gP_le {n m : Nat} (h : n ≤ m) {d : D} (x : gP n d) : gP m d := by
  induction h with
  | refl => exact x
  | step _ ih => exact gP_succ _ _ ih
def thW (tm : D → Str) : D → Str
  | .str x => x
  | .tup [_, .tup [.int i, .int j, .int k], u] => "floor(" ++ stp i j k ++ ", " ++ tm u ++ ")"
  | _ => ""
def itW (tm : D → Str) (fa : Int) (t : D) : Str := if aI fa = 1 then thW tm t else tS (aI fa) ++ "*" ++ thW tm t
def stepT (acc : Str) (p : Int × Str) : Str := if acc = "" then (if p.1 < 0 then "-" ++ p.2 else p.2) else acc ++ (if p.1 < 0 then (" - " : Str) else " + ") ++ p.2
def prW (tm : D → Str) : D → Int × Str
  | .tup [.int fa, t] => (fa, itW tm fa t)
  | _ => (0, "")
def pcs (tm : D → Str) (its : List D) (c : Int) : List (Int × Str) := its.map (prW tm) ++ (if c ≠ 0 ∨ its.length = 0 then [(c, tS (aI c))] else [])
def tmW (tm : D → Str) : D → Str
  | .tup [.tup its, .int c] => (pcs tm its c).foldl stepT ""
  | _ => ""
def tP : Nat → D → Str
  | 0 => fun _ => ""
  | n + 1 => tmW (tP n)
abbrev tmT (n : Nat) : D → Str := tmW (tP n)
def lP : Nat → Nat
  | 0 => 20
  | n + 1 => 4 * (lP n + 60) + 20
theorem thW_len {f : D → Prop} {tm : D → Str} {n : Nat} (h : ∀ d, f d → (tm d).length ≤ n) {t : D} (g : GTh f t) : (thW tm t).length ≤ n + 45 ∧ 0 < (thW tm t).length := by
  rcases g with ⟨x, rfl, h1⟩ | ⟨i, j, k, u, rfl, b, y⟩
  · show x.length ≤ _ ∧ 0 < x.length
    have := h1.ok
    omega
  · show ("floor(" ++ stp i j k ++ ", " ++ tm u ++ ")" : Str).length ≤ _ ∧ 0 < ("floor(" ++ stp i j k ++ ", " ++ tm u ++ ")" : Str).length
    rw [len_app, len_app, len_app, len_app]
    have e1 : (("floor(" : Str)).length = 6 := by decide +kernel
    have e2 : ((", " : Str)).length = 2 := by decide +kernel
    have e3 : ((")" : Str)).length = 1 := by decide +kernel
    have := stp_len b
    have := h u y
    omega
theorem itW_len {f : D → Prop} {tm : D → Str} {n : Nat} (h : ∀ d, f d → (tm d).length ≤ n) {t : D} {fa : Int} (g : GTh f t) (b : -9 ≤ fa ∧ fa ≤ 9) : (itW tm fa t).length ≤ n + 50 ∧ 0 < (itW tm fa t).length := by
  have h1 := thW_len h g
  have h2 := (tS_ok (i := fa) (by omega)).1
  unfold itW
  split
  · omega
  · rw [len_app, len_app]
    have e1 : (("*" : Str)).length = 1 := by decide +kernel
    omega
theorem stepT_len (acc : Str) (p : Int × Str) : (stepT acc p).length ≤ acc.length + 3 + p.2.length ∧ (0 < p.2.length → 0 < (stepT acc p).length) := by
  have e1 : (("-" : Str)).length = 1 := by decide +kernel
  have e2 : ((" - " : Str)).length = 3 := by decide +kernel
  have e3 : ((" + " : Str)).length = 3 := by decide +kernel
  unfold stepT
  split
  · split
    · rw [len_app]; omega
    · omega
  · rw [len_app, len_app]
    split <;> omega
theorem fold_len {n : Nat} : ∀ (l : List (Int × Str)) (a : Str), (∀ p ∈ l, p.2.length ≤ n) → (l.foldl stepT a).length ≤ a.length + l.length * (n + 3)
  | [], a, _ => by simp
  | p :: l, a, h => by
    have h1 := fold_len l (stepT a p) fun q m => h q (List.mem_cons_of_mem _ m)
    have h2 := (stepT_len a p).1
    have h3 := h p List.mem_cons_self
    rw [List.foldl_cons, List.length_cons, Nat.add_mul]
    omega
theorem fold_pos (l : List (Int × Str)) (h : ∀ p ∈ l, 0 < p.2.length) (hl : l ≠ []) : 0 < (l.foldl stepT "").length := by
  obtain ⟨l', p, rfl⟩ : ∃ l' p, l = l' ++ [p] := ⟨_, _, (List.dropLast_concat_getLast hl).symm⟩
  rw [List.foldl_append]
  exact (stepT_len _ _).2 (h p (List.mem_append_right _ List.mem_cons_self))
theorem ne_emp {a : Str} (h : 0 < a.length) : a ≠ "" := fun z => by
  subst z
  exact absurd h (by decide +kernel)
theorem pcs_ok {f : D → Prop} {tm : D → Str} {n : Nat} (h : ∀ d, f d → (tm d).length ≤ n) {its : List D} {c : Int} (hc : -1001 ≤ c ∧ c ≤ 1001) (g : ∀ it ∈ its, GIt f it) :
    ∀ p ∈ pcs tm its c, p.2.length ≤ n + 50 ∧ 0 < p.2.length ∧ (-1001 ≤ p.1 ∧ p.1 ≤ 1001) := by
  intro p hp
  rcases List.mem_append.mp hp with m | m
  · obtain ⟨it, hi, rfl⟩ := List.mem_map.mp m
    obtain ⟨fa, t, rfl, b, gt⟩ := g it hi
    have := itW_len h gt b
    show (itW tm fa t).length ≤ _ ∧ 0 < (itW tm fa t).length ∧ (-1001 ≤ fa ∧ fa ≤ 1001)
    omega
  · split at m
    · rw [List.mem_singleton.mp m]
      have := tS_ok (i := c) (by omega)
      show (tS (aI c)).length ≤ _ ∧ 0 < (tS (aI c)).length ∧ (-1001 ≤ c ∧ c ≤ 1001)
      omega
    · cases m
theorem pcs_len {tm : D → Str} {its : List D} {c : Int} (h : its.length ≤ 4) : (pcs tm its c).length ≤ 5 := by
  unfold pcs
  rw [List.length_append, List.length_map]
  split <;> simp <;> omega
theorem tP_len : ∀ (n : Nat) (d : D), gP n d → (tP n d).length ≤ lP n
  | 0, _, h => h.elim
  | n + 1, d, h => by
    obtain ⟨its, c, rfl, l, b, y⟩ := h
    have p := pcs_ok (tP_len n) b y
    have q := pcs_len (tm := tP n) (c := c) l
    show ((pcs (tP n) its c).foldl stepT "").length ≤ 4 * (lP n + 60) + 20
    -- at most four things and a constant
    have r : ((its.map (prW (tP n))).foldl stepT "").length ≤ 4 * (lP n + 53) := by
      have := fold_len (n := lP n + 50) (its.map (prW (tP n))) "" fun q m => (p q (List.mem_append_left _ m)).1
      rw [List.length_map] at this
      have e : (("" : Str)).length = 0 := by decide +kernel
      have m := Nat.mul_le_mul_right (lP n + 50 + 3) l
      omega
    unfold pcs
    rw [List.foldl_append]
    split
    · show (stepT _ (c, tS (aI c))).length ≤ _
      have := (stepT_len ((its.map (prW (tP n))).foldl stepT "") (c, tS (aI c))).1
      have t := (tS_ok (i := c) (by omega)).1
      have t' : (tS (aI c)).length = ((c, tS (aI c)) : Int × Str).2.length := rfl
      omega
    · show (((its.map (prW (tP n))).foldl stepT "")).length ≤ _
      omega
theorem tm_len {n : Nat} {d : D} (h : Gt n d) : (tmT n d).length ≤ lP (n + 1) := tP_len (n + 1) d h
end RF

set_option autoImplicit false
set_option linter.all false
/-! Un: reading what is told -/
namespace Q
open PySem L2
theorem un65 {k : Nat} {A : Around} (r : Room k A) : A.units + 65 < cLine := by have := r.un; omega
/-- what the built-in names are: none of the module's -/
structure TN (mg : Str → Option Value) : Prop where
  abs : mg "abs" = none
  divmod : mg "divmod" = none
  str : mg "str" = none
  int : mg "int" = none
  len : mg "len" = none
  list : mg "list" = none
  tuple : mg "tuple" = none
  bool : mg "bool" = none
  isinstance : mg "isinstance" = none
  range : mg "range" = none
  enumerate : mg "enumerate" = none
  zip : mg "zip" = none
  reversed : mg "reversed" = none
  sorted : mg "sorted" = none
  sum : mg "sum" = none
  all : mg "all" = none
  any : mg "any" = none
  max : mg "max" = none
  min : mg "min" = none
theorem eqD_int (a b : Int) : eqD (.int a) (.int b) = decide (a = b) := by
  show (a == b) = _
  exact Bool.beq_eq_decide_eq _ _
theorem eqD_str (a b : Str) : eqD (.str a) (.str b) = decide (a = b) := by
  show (a == b) = _
  exact Bool.beq_eq_decide_eq _ _
theorem scal_ii (a b : Int) : scalD (.int a) (.int b) = true := rfl
theorem scal_ss (a b : Str) : scalD (.str a) (.str b) = true := rfl
theorem get_s {α : Type} (a : α) (l : List α) (n : Nat) : (a :: l)[n + 1]? = l[n]? := List.getElem?_cons_succ
theorem get_z {α : Type} (a : α) (l : List α) : (a :: l)[0]? = some a := List.getElem?_cons_zero
theorem iteBT {A B : Prop} : (if true = true then A else B) = A := if_pos rfl
theorem iteBF {A B : Prop} : (if false = true then A else B) = B := if_neg (by decide)
theorem iteD {p : Prop} [Decidable p] {A B : Prop} : (if decide p = true then A else B) = if p then A else B := by
  by_cases h : p
  · rw [if_pos (decide_eq_true h), if_pos h]
  · rw [if_neg (by rw [decide_eq_false h]; decide), if_neg h]
theorem iteN' {b : Bool} {A B : Prop} : (if (!b) = true then A else B) = if b = true then B else A := by cases b <;> rfl
end Q

set_option autoImplicit false
set_option linter.all false
/-! Q9: turns by what holds before each -/
namespace Q
open PySem L2
theorem loop_ind {g : WG} {body : WS} {E : En} (I : List D → Ev → Prop) (h0 : ∀ ρ, I [] ρ → E.nx ρ)
    (hs : ∀ (d : D) (ds : List D) (ρ : Ev) (N : Ev → Prop), I (d :: ds) ρ → (∀ ρ', I ds ρ' → N ρ') → g (.fz d) ρ fun ρ1 => body { nx := N, rt := E.rt, bk := E.nx, ct := N } ρ1) :
    ∀ (ds : List D) (ρ : Ev), I ds ρ → loopW g body ds E ρ
  | [], ρ, h => h0 ρ h
  | d :: ds, ρ, h => hs d ds ρ (loopW g body ds E) h fun ρ' h' => loop_ind I h0 hs ds ρ' h'
theorem lc_ind {vs : List Nat} {g : WG} {c : WT} {we : WE} {k : List D → Ev → Prop} (I : List D → List D → Ev → Prop) (h0 : ∀ acc ρ, I [] acc ρ → k acc ρ)
    (hs : ∀ (d : D) (ds acc : List D) (ρ : Ev) (N : List D → Ev → Prop), I (d :: ds) acc ρ → (∀ acc' ρ', I ds acc' ρ' → N acc' ρ') →
      g (.fz d) ρ fun ρ1 => c ρ1 fun b ρ2 => if b = true then we ρ2 fun s ρ3 => acc.length < 1000000 ∧ N (acc ++ [s.toD]) (wipeE ρ3 vs) else N acc (wipeE ρ2 vs)) :
    ∀ (ds acc : List D) (ρ : Ev), I ds acc ρ → lcW vs g c we ds acc ρ k
  | [], acc, ρ, h => h0 acc ρ h
  | d :: ds, acc, ρ, h => hs d ds acc ρ (fun acc ρ => lcW vs g c we ds acc ρ k) h fun acc' ρ' h' => lc_ind I h0 hs ds acc' ρ' h'
theorem loop_at {g : WG} {body : WS} {E : En} {ds0 : List D} {ρ0 : Ev} (I : Ev → List D → Ev → Prop) (h : I ρ0 ds0 ρ0) (h0 : ∀ ρ, I ρ0 [] ρ → E.nx ρ)
    (hs : ∀ (d : D) (ds : List D) (ρ : Ev) (N : Ev → Prop), I ρ0 (d :: ds) ρ → (∀ ρ', I ρ0 ds ρ' → N ρ') → g (.fz d) ρ fun ρ1 => body { nx := N, rt := E.rt, bk := E.nx, ct := N } ρ1) : loopW g body ds0 E ρ0 :=
  loop_ind (I ρ0) h0 hs ds0 ρ0 h
/-- what enumerate tells, from a number on -/
def enF : Nat → List D → List D
  | _, [] => []
  | n, d :: ds => .tup [.int n, d] :: enF (n + 1) ds
theorem enF_eq : ∀ (n : Nat) (ds : List D), enF n ds = (List.range' n ds.length).zipWith (fun i d => D.tup [.int (i : Nat), d]) ds
  | _, [] => rfl
  | n, d :: ds => by
    rw [enF, enF_eq (n + 1) ds, List.length_cons, List.range'_succ]
    rfl
theorem enumD_eq (ds : List D) : enumD ds = enF 0 ds := by
  rw [enF_eq]
  unfold enumD
  rw [List.range_eq_range']
theorem wh_ind {c : WT} {body : WS} {E : En} (I : Nat → Ev → Prop)
    (hs : ∀ (n : Nat) (ρ : Ev) (N : Ev → Prop), I n ρ → (∀ m, m < n → ∀ ρ', I m ρ' → N ρ') → c ρ fun b ρ1 => if b = true then body { nx := N, rt := E.rt, bk := E.nx, ct := N } ρ1 else E.nx ρ1) (n : Nat) (ρ : Ev) (h : I n ρ) :
    ∃ m, whW c body m E ρ := by
  have key : ∀ (F n : Nat) (ρ : Ev), n < F → I n ρ → whW c body F E ρ := by
    intro F
    induction F with
    | zero => intro n ρ hn; omega
    | succ F ih =>
      intro n ρ hn h
      exact hs n ρ (whW c body F E) h fun m hm ρ' h' => ih m ρ' (by omega) h'
  exact ⟨n + 1, key (n + 1) n ρ (Nat.lt_succ_self _) h⟩
theorem lc_fix {vs : List Nat} {g : WG} {c : WT} {we : WE} {k : List D → Ev → Prop} {ρ0 : Ev} {ds0 acc0 : List D} (I : List D → List D → Prop) (h : I ds0 acc0) (h0 : ∀ acc, I [] acc → k acc ρ0)
    (hs : ∀ (d : D) (ds acc : List D) (N : List D → Ev → Prop), I (d :: ds) acc → (∀ acc', I ds acc' → N acc' ρ0) →
      g (.fz d) ρ0 fun ρ1 => c ρ1 fun b ρ2 => if b = true then we ρ2 fun s ρ3 => acc.length < 1000000 ∧ N (acc ++ [s.toD]) (wipeE ρ3 vs) else N acc (wipeE ρ2 vs)) : lcW vs g c we ds0 acc0 ρ0 k :=
  lc_ind (fun ds acc ρ => ρ = ρ0 ∧ I ds acc) (fun acc ρ h => h.1 ▸ h0 acc h.2) (fun d ds acc ρ N h hN => by obtain ⟨rfl, h⟩ := h; exact hs d ds acc N h fun acc' h' => hN acc' _ ⟨rfl, h'⟩) ds0 acc0 ρ0 ⟨rfl, h⟩
/-- a list made item by item, each by a rule -/
theorem lc_map {vs : List Nat} {g : WG} {c : WT} {we : WE} {k : List D → Ev → Prop} (f : D → D) (ρ0 : Ev) (total : List D) (hl : total.length ≤ 1000000) (hk : k (total.map f) ρ0)
    (hs : ∀ (d : D) (N : List D → Ev → Prop) (acc : List D), d ∈ total → N (acc ++ [f d]) ρ0 → acc.length < 1000000 →
      g (.fz d) ρ0 fun ρ1 => c ρ1 fun b ρ2 => if b = true then we ρ2 fun s ρ3 => acc.length < 1000000 ∧ N (acc ++ [s.toD]) (wipeE ρ3 vs) else N acc (wipeE ρ2 vs)) : lcW vs g c we total [] ρ0 k := by
  refine lc_ind (fun ds acc ρ => ρ = ρ0 ∧ ∃ pre, total = pre ++ ds ∧ acc = pre.map f) (fun acc ρ h => ?_) (fun d ds acc ρ N h hN => ?_) total [] ρ0 ⟨rfl, [], rfl, rfl⟩
  · obtain ⟨rfl, pre, e, rfl⟩ := h
    rw [List.append_nil] at e
    rw [← e]
    exact hk
  · obtain ⟨rfl, pre, e, rfl⟩ := h
    refine hs d N _ (by rw [e]; simp) (hN _ _ ⟨rfl, pre ++ [d], by rw [e]; simp, by simp⟩) ?_
    rw [List.length_map]
    have : total.length = pre.length + (ds.length + 1) := by rw [e]; simp
    omega
/-! ### seals: what stands behind a call or a test is not read yet -/
structure Tag {α : Sort _} (k : α) : Type where
def CL (Φ : Ph) (ds : List D) (k : Sl → Prop) (_ : Tag k) : Prop := Φ ds k fun _ => False
theorem CL_of (Φ : Ph) (ds : List D) (k : Sl → Prop) : pCall Φ ds k = CL Φ ds k ⟨⟩ := rfl
def IT (p A B : Prop) (_ : Tag A) (_ : Tag B) : Prop := (p → A) ∧ (¬ p → B)
theorem IT_of (p : Prop) [Decidable p] (A B : Prop) : (if p then A else B) = IT p A B ⟨⟩ ⟨⟩ := by
  by_cases h : p
  · rw [if_pos h]; exact propext ⟨fun a => ⟨fun _ => a, fun z => absurd h z⟩, fun z => z.1 h⟩
  · rw [if_neg h]; exact propext ⟨fun a => ⟨fun z => absurd z h, fun _ => a⟩, fun z => z.2 h⟩
theorem IT_t (A B : Prop) {a : Tag A} {b : Tag B} : IT (true = true) A B a b = A := propext ⟨fun z => z.1 rfl, fun a => ⟨fun _ => a, fun z => absurd rfl z⟩⟩
theorem IT_f (A B : Prop) {a : Tag A} {b : Tag B} : IT (false = true) A B a b = B := propext ⟨fun z => z.2 (by decide), fun a => ⟨fun z => absurd z (by decide), fun _ => a⟩⟩
theorem IT_T (A B : Prop) {a : Tag A} {b : Tag B} : IT True A B a b = A := propext ⟨fun z => z.1 trivial, fun a => ⟨fun _ => a, fun z => absurd trivial z⟩⟩
theorem IT_F (A B : Prop) {a : Tag A} {b : Tag B} : IT False A B a b = B := propext ⟨fun z => z.2 id, fun a => ⟨fun z => z.elim, fun _ => a⟩⟩
theorem IT_d (p : Prop) [Decidable p] (A B : Prop) {a : Tag A} {b : Tag B} : IT (decide p = true) A B a b = IT p A B a b := by rw [decide_eq_true_eq]
theorem IT_n (c : Bool) (A B : Prop) {a : Tag A} {b : Tag B} : IT ((!c) = true) A B a b = IT (c = true) B A b a := by
  cases c
  · exact propext ⟨fun z => ⟨fun h => absurd h (by decide), fun _ => z.1 rfl⟩, fun z => ⟨fun _ => z.2 (by decide), fun h => absurd rfl h⟩⟩
  · exact propext ⟨fun z => ⟨fun _ => z.2 (by decide), fun h => absurd rfl h⟩, fun z => ⟨fun h => absurd h (by decide), fun _ => z.1 rfl⟩⟩
theorem IT_not (p A B : Prop) {a : Tag A} {b : Tag B} : IT (¬ p) A B a b = IT p B A b a := propext ⟨fun z => ⟨fun h => z.2 fun n => n h, fun h => z.1 h⟩, fun z => ⟨fun h => z.2 h, fun h => by
  by_cases q : p
  · exact z.1 q
  · exact absurd q h⟩⟩
theorem IT.pos {p A B : Prop} {a : Tag A} {b : Tag B} (h : p) (k : A) : IT p A B a b := ⟨fun _ => k, fun z => absurd h z⟩
theorem IT.neg {p A B : Prop} {a : Tag A} {b : Tag B} (h : ¬ p) (k : B) : IT p A B a b := ⟨fun z => absurd z h, fun _ => k⟩
def LC (vs : List Nat) (g : WG) (c : WT) (we : WE) (ds acc : List D) (ρ : Ev) (k : List D → Ev → Prop) (_ : Tag k) : Prop := lcW vs g c we ds acc ρ k
theorem LC_of (vs : List Nat) (g : WG) (c : WT) (we : WE) (ds acc : List D) (ρ : Ev) (k : List D → Ev → Prop) : lcW vs g c we ds acc ρ k = LC vs g c we ds acc ρ k ⟨⟩ := rfl
def LP (g : WG) (body : WS) (ds : List D) (E : En) (ρ : Ev) (_ : Tag E) : Prop := loopW g body ds E ρ
theorem LP_of (g : WG) (body : WS) (ds : List D) (E : En) (ρ : Ev) : loopW g body ds E ρ = LP g body ds E ρ ⟨⟩ := rfl
def WH (c : WT) (body : WS) (E : En) (ρ : Ev) (_ : Tag E) : Prop := ∃ n, whW c body n E ρ
theorem WH_of (c : WT) (body : WS) (E : En) (ρ : Ev) : wWhile c body E ρ = WH c body E ρ ⟨⟩ := rfl
/-! ### isinstance -/
theorem isi_NoneType_bool : isiB "NoneType" "bool" = false := by decide
theorem isi_NoneType_int : isiB "NoneType" "int" = false := by decide
theorem isi_NoneType_str : isiB "NoneType" "str" = false := by decide
theorem isi_NoneType_list : isiB "NoneType" "list" = false := by decide
theorem isi_NoneType_tuple : isiB "NoneType" "tuple" = false := by decide
theorem isi_bool_bool : isiB "bool" "bool" = true := by decide
theorem isi_bool_int : isiB "bool" "int" = true := by decide
theorem isi_bool_str : isiB "bool" "str" = false := by decide
theorem isi_bool_list : isiB "bool" "list" = false := by decide
theorem isi_bool_tuple : isiB "bool" "tuple" = false := by decide
theorem isi_int_bool : isiB "int" "bool" = false := by decide
theorem isi_int_int : isiB "int" "int" = true := by decide
theorem isi_int_str : isiB "int" "str" = false := by decide
theorem isi_int_list : isiB "int" "list" = false := by decide
theorem isi_int_tuple : isiB "int" "tuple" = false := by decide
theorem isi_str_bool : isiB "str" "bool" = false := by decide
theorem isi_str_int : isiB "str" "int" = false := by decide
theorem isi_str_str : isiB "str" "str" = true := by decide
theorem isi_str_list : isiB "str" "list" = false := by decide
theorem isi_str_tuple : isiB "str" "tuple" = false := by decide
theorem isi_list_bool : isiB "list" "bool" = false := by decide
theorem isi_list_int : isiB "list" "int" = false := by decide
theorem isi_list_str : isiB "list" "str" = false := by decide
theorem isi_list_list : isiB "list" "list" = true := by decide
theorem isi_list_tuple : isiB "list" "tuple" = false := by decide
theorem isi_tuple_bool : isiB "tuple" "bool" = false := by decide
theorem isi_tuple_int : isiB "tuple" "int" = false := by decide
theorem isi_tuple_str : isiB "tuple" "str" = false := by decide
theorem isi_tuple_list : isiB "tuple" "list" = false := by decide
theorem isi_tuple_tuple : isiB "tuple" "tuple" = true := by decide
theorem isi_dict_bool : isiB "dict" "bool" = false := by decide
theorem isi_dict_int : isiB "dict" "int" = false := by decide
theorem isi_dict_str : isiB "dict" "str" = false := by decide
theorem isi_dict_list : isiB "dict" "list" = false := by decide
theorem isi_dict_tuple : isiB "dict" "tuple" = false := by decide
theorem mi_bool : ("bool" ∈ ["bool", "int", "str", "list", "tuple"]) = True := eq_true (by decide)
theorem mi_int : ("int" ∈ ["bool", "int", "str", "list", "tuple"]) = True := eq_true (by decide)
theorem mi_str : ("str" ∈ ["bool", "int", "str", "list", "tuple"]) = True := eq_true (by decide)
theorem mi_list : ("list" ∈ ["bool", "int", "str", "list", "tuple"]) = True := eq_true (by decide)
theorem mi_tuple : ("tuple" ∈ ["bool", "int", "str", "list", "tuple"]) = True := eq_true (by decide)
/-! ### subscripts of displays -/
theorem ati0 {α : Type} (a : α) (l : List α) : atI (a :: l) 0 = some a := atI_nat (j := 0) rfl
theorem ati1 {α : Type} (a b : α) (l : List α) : atI (a :: b :: l) 1 = some b := atI_nat (j := 1) rfl
theorem ati2 {α : Type} (a b c : α) (l : List α) : atI (a :: b :: c :: l) 2 = some c := atI_nat (j := 2) rfl
theorem ati3 {α : Type} (a b c d : α) (l : List α) : atI (a :: b :: c :: d :: l) 3 = some d := atI_nat (j := 3) rfl
theorem ati4 {α : Type} (a b c d e : α) (l : List α) : atI (a :: b :: c :: d :: e :: l) 4 = some e := atI_nat (j := 4) rfl
/-! ### cuts: what holds behind a piece is told by hand -/
section
variable {X : Cx} {C : Cxt} {e a bx : Expr} {t ta tb : TE} {w wa wb : WE} {pos : Pos} {st : Stmt} {sts : List Stmt} {t1 t2 : TS} {w1 w2 : WS} {i : Nat}
def wCut (w1 w2 : WS) : WS := fun E ρ => ∃ R : Ev → Prop, w1 { E with nx := R } ρ ∧ ∀ ρ', R ρ' → w2 E ρ'
theorem ok_cut (h1 : OkS C t1 w1) (h2 : OkS C t2 w2) : OkS C (tSeq t1 t2) (wCut w1 w2) := fun ρ ρx σ σx H S E D hl st h f => by
  obtain ⟨R, g1, g2⟩ := h
  exact h1 ρ ρx σ σx H S _ _ hl st g1 ⟨fun ρ' σ' H' S' hl' st' h' => h2 ρ' ρx σ' σx H' S' E D hl' st' (g2 ρ' h') f, f.rt, f.bk, f.ct⟩
theorem qss_cut (h1 : QS X C st t1 w1) (h2 : QSs X C sts t2 w2) : QSs X C (st :: sts) (tSeq t1 t2) (wCut w1 w2) := ⟨pss_cons h1.ps h2.ps, ok_cut h1.ok h2.ok⟩
/-- a test that can be told without its steps -/
def wIfC (c : WT) (w1 w2 : WS) : WS := fun E ρ => ∃ (p : Prop) (ρ' : Ev), (c ρ fun b ρ1 => ρ1 = ρ' ∧ (b = true ↔ p)) ∧ IT p (w1 E ρ') (w2 E ρ') ⟨⟩ ⟨⟩
theorem qs_ifC {c : Expr} {tc : TT} {wc : WT} {p q : List Stmt} (hc : QT X C c tc wc) (h1 : QSs X C p t1 w1) (h2 : QSs X C q t2 w2) : QS X C (.If c p q pos) (tIfS tc t1 t2) (wIfC wc w1 w2) := ⟨ps_if hc.pt h1.ps h2.ps, by
  intro ρ ρx σ σx H S E D hl st hw f
  obtain ⟨p, ρ', g, hT, hF⟩ := hw
  refine hc.ok ρ ρx σ σx H S _ _ hl st g fun b ρ1 H1 S1 hl1 st1 hk => ?_
  obtain ⟨rfl, hk⟩ := hk
  cases b with
  | true => exact h1.ok ρ1 ρx σ σx H1 S1 E D hl1 st1 (hT (hk.mp rfl)) f
  | false => exact h2.ok ρ1 ρx σ σx H1 S1 E D hl1 st1 (hF fun z => by have := hk.mpr z; cases this) f⟩
/-- a value that can be told without its steps -/
def wSetC (i : Nat) (w : WE) : WS := fun E ρ => ∃ (v : Sl) (ρ' : Ev), (w ρ fun s ρ1 => s = v ∧ ρ1 = ρ') ∧ E.nx (ρ'.set i (some v))
theorem ok_setC (h : OkE C t w) : OkS C (tAsg t (gName i)) (wSetC i w) := fun ρ ρx σ σx H S E D hl st hw f => by
  obtain ⟨v, ρ', g, hk⟩ := hw
  refine h ρ ρx σ σx H S _ _ hl st g fun s ρ1 u H1 S1 hl1 st1 hk' => ?_
  obtain ⟨rfl, rfl⟩ := hk'
  have lx : (ρ1 ++ ρx).length = (σ ++ σx).length := by have := st.len; simp only [List.length_append] at *; omega
  exact ok_nm i ρ1 ρx σ σx H1 S1 s u E.nx _ hl1 st1.popLast (st1.last lx) st1.apt hk fun ρ2 σ2 H2 S2 hl2 _ st2 h2 => f.nx ρ2 σ2 H2 S2 hl2 st2 h2
theorem qs_setC {x : Str} {pos' : Pos} (hN : X.N.Nodup) (hi : X.N[i]? = some x) (hx : Loc X.env.scope x) (he : PD X C e t w) (hs : swapsWith e (some (.Name x pos')) pos.line X.env = pure false := by rfl) (hf : X.fn x = true ∨ X.env.scope.names.lookup x = some .local := by first | exact .inl rfl | exact .inr rfl | assumption) :
    QS X C (.Assign [.Name x pos'] e pos) (tAsg t (gName i)) (wSetC i w) := ⟨ps_set hN hi hx he.pe hs hf, ok_setC he.ok⟩
def CT (w1 w2 : WS) (E : En) (ρ : Ev) (_ : Tag E) : Prop := wCut w1 w2 E ρ
theorem CT_of (w1 w2 : WS) (E : En) (ρ : Ev) : wCut w1 w2 E ρ = CT w1 w2 E ρ ⟨⟩ := rfl
def IC (c : WT) (w1 w2 : WS) (E : En) (ρ : Ev) (_ : Tag E) : Prop := wIfC c w1 w2 E ρ
theorem IC_of (c : WT) (w1 w2 : WS) (E : En) (ρ : Ev) : wIfC c w1 w2 E ρ = IC c w1 w2 E ρ ⟨⟩ := rfl
def SC (i : Nat) (w : WE) (E : En) (ρ : Ev) (_ : Tag E) : Prop := wSetC i w E ρ
theorem SC_of (i : Nat) (w : WE) (E : En) (ρ : Ev) : wSetC i w E ρ = SC i w E ρ ⟨⟩ := rfl
theorem cut {w1 w2 : WS} {E : En} {ρ : Ev} {a : Tag E} (R : Ev → Prop) (h1 : w1 { E with nx := R } ρ) (h2 : ∀ ρ', R ρ' → w2 E ρ') : CT w1 w2 E ρ a := ⟨R, h1, h2⟩
/-- .. where one knows the slots -/
theorem cut1 {w1 w2 : WS} {E : En} {ρ : Ev} {a : Tag E} (ρ' : Ev) (h1 : w1 { E with nx := fun r => r = ρ' } ρ) (h2 : w2 E ρ') : CT w1 w2 E ρ a := ⟨_, h1, fun _ e => e ▸ h2⟩
theorem cutS {w1 w2 : WS} {E : En} {ρ : Ev} {a : Tag E} (i : Nat) (v : Sl) (h1 : w1 { E with nx := fun r => r = ρ.set i (some v) } ρ) (h2 : w2 E (ρ.set i (some v))) : CT w1 w2 E ρ a := cut1 _ h1 h2
theorem ifC {c : WT} {w1 w2 : WS} {E : En} {ρ : Ev} {a : Tag E} (p : Prop) (h : c ρ fun b ρ1 => ρ1 = ρ ∧ (b = true ↔ p)) (h1 : p → w1 E ρ) (h2 : ¬ p → w2 E ρ) : IC c w1 w2 E ρ a := ⟨p, ρ, h, h1, h2⟩
theorem setC {w : WE} {E : En} {ρ : Ev} {a : Tag E} (v : Sl) (h : w ρ fun s ρ1 => s = v ∧ ρ1 = ρ) (h2 : E.nx (ρ.set i (some v))) : SC i w E ρ a := ⟨v, ρ, h, h2⟩
end
/-! ### defs that call themselves -/
def below (Φ : Nat → Ph) (n : Nat) : Ph := fun ds k e => ∃ m, m < n ∧ Φ m ds k e
section
variable {P : Program} {wd : World} {K : PySem.W.Frag} {mg : Str → Option Value} {base : Heap} {f : Addr} {fd : FuncData} {ps : List Str} {ub : Bool}
theorem fn_no {k : Nat} {Φ : Ph} (h : ∀ ds κ e, ¬ Φ ds κ e) : FnOk P wd K mg base CX0 k f fd ps (spD K mg ub Φ) :=
  ⟨fun vs H Q E ⟨B, S, ds, κ, xk, _, _, _, _, _, φ, _⟩ => absurd φ (h _ _ _), fun A outer s H args us vs Q E hr e0 hb rv ⟨B, S, ds, κ, xk, _, _, _, _, _, φ, _⟩ => absurd φ (h _ _ _)⟩
theorem rec_fn {Φ : Nat → Ph} (k c : Nat) (mono : ∀ m n, m ≤ n → ∀ ds κ e, Φ m ds κ e → Φ n ds κ e)
    (step : ∀ n j, k ≤ j → FnOk P wd K mg base CX0 j f fd ps (spD K mg ub (below Φ n)) → FnOk P wd K mg base CX0 (j + c) f fd ps (spD K mg ub (Φ n))) :
    ∀ n : Nat, FnOk P wd K mg base CX0 (k + c * n + c) f fd ps (spD K mg ub (Φ n))
  | 0 => step 0 _ (by omega) (fn_no fun ds κ e ⟨m, hm, _⟩ => absurd hm (Nat.not_lt_zero _))
  | n + 1 => step (n + 1) _ (by omega) (spD_imp (Nat.mul_succ c n ▸ Nat.add_assoc k (c * n) c ▸ rec_fn k c mono step n) fun ds κ e ⟨m, hm, z⟩ => mono m n (by omega) ds κ e z)
end
theorem dmono {P : Program} {wd : World} {K : PySem.W.Frag} {mg : Str → Option Value} {base : Heap} {j k : Nat} {x : Str} {ps : List Str} {sp : Sp} (D : RF.Df P wd K mg base j x ps sp) (h : j ≤ k) : RF.Df P wd K mg base k x ps sp := by
  obtain ⟨f, fd, F, b, m, kp⟩ := D
  exact ⟨f, fd, F.mono h, b, m, kp⟩
/-- .. with a weaker promise -/
theorem dimp {P : Program} {wd : World} {K : PySem.W.Frag} {mg : Str → Option Value} {base : Heap} {k : Nat} {x : Str} {ps : List Str} {ub : Bool} {Φ Ψ : Ph} (D : RF.Df P wd K mg base k x ps (spD K mg ub Φ)) (h : ∀ ds κ e, Ψ ds κ e → Φ ds κ e) : RF.Df P wd K mg base k x ps (spD K mg ub Ψ) := by
  obtain ⟨f, fd, F, b, m, kp⟩ := D
  exact ⟨f, fd, spD_imp F h, b, m, kp⟩
/-! ### words -/
theorem ofS_inj (a b : String) : (Str.ofString a = Str.ofString b) = (a = b) := propext ⟨fun h => by
  have := congrArg TL.tl h
  rw [TL.tl_ofString, TL.tl_ofString] at this
  exact String.toList_inj.mp (List.map_inj_right (fun x y z => Char.toNat_inj.mp z) |>.mp this), fun h => h ▸ rfl⟩
theorem inD_nil (d : D) : inD d [] = false := rfl
theorem inD_cons (d e : D) (ds : List D) : inD d (e :: ds) = (eqD e d || inD d ds) := rfl
theorem cutD1 (d : D) (ds : List D) : cutD (d :: ds) (some 1) none = ds := by
  unfold cutD
  have e1 : HT.sIx (d :: ds).length 0 (some 1) = 1 := by
    unfold HT.sIx
    simp
  have e2 : HT.sIx (d :: ds).length (d :: ds).length none = ds.length + 1 := rfl
  rw [e1, e2, List.drop_succ_cons, List.drop_zero, Nat.add_sub_cancel, List.take_length]
theorem cutD_take (ds : List D) (n : Nat) : cutD ds none (some (n : Int)) = ds.take n := by
  unfold cutD
  rw [HT.sIx_nat, HT.sIx_none, List.drop_zero, Nat.sub_zero]
  by_cases h : n ≤ ds.length
  · rw [Nat.min_eq_left h]
  · rw [Nat.min_eq_right (by omega), List.take_length, List.take_of_length_le (by omega)]
theorem cutD_drop (ds : List D) (n : Nat) : cutD ds (some (n : Int)) none = ds.drop n := by
  unfold cutD
  rw [HT.sIx_nat, HT.sIx_none]
  by_cases h : n ≤ ds.length
  · rw [Nat.min_eq_left h, List.take_of_length_le (by rw [List.length_drop]; omega)]
  · rw [Nat.min_eq_right (by omega), List.drop_length, List.drop_eq_nil_of_le (by omega), List.take_nil]
theorem cutD_all (ds : List D) : cutD ds none none = ds := by
  unfold cutD
  rw [HT.sIx_none, HT.sIx_none, List.drop_zero, Nat.sub_zero, List.take_length]
/-- a product of numbers of the usual sizes -/
theorem mul_ok {i j : Int} (hi : i.natAbs < 2 ^ 1000) (hj : j.natAbs < 2 ^ 1000) : CMulX i j := mulx_ok hi hj (by decide)
theorem lt_2k {i : Int} (h : -1000000000 ≤ i ∧ i ≤ 1000000000) : i.natAbs < 2 ^ 1000 := Nat.lt_of_le_of_lt (m := 1000000000) (by omega) (by decide +kernel)
end Q

set_option autoImplicit false
set_option linter.all false
/-! Qi: isinstance of one of two classes -/
namespace Q
open PySem L2
def pIsi2 (n m : String) : P1 := fun x k => ∃ a, tyN x.toD = some a ∧ k (.fz (.bl (isiB a n || isiB a m)))
theorem ok_isi2 {X : Cx} {C : Cxt} (F : Fit X C) {n m : String} (hn : n ∈ ["bool", "int", "str", "list", "tuple"]) (hm : m ∈ ["bool", "int", "str", "list", "tuple"]) {ta : TE} {wa : WE} (ha : OkE C ta wa) :
    OkE C (tCB (rIsiT X.K) (tCons ta (tCons (tTup (tCons (tC (.ty n)) (tCons (tC (.ty m)) tNil))) tNil))) (wUn (pIsi2 n m) wa) := by
  intro ρ ρx σ σx H S k Q hl st hw q
  refine ha ρ ρx σ σx H S _ _ hl st hw fun x ρ1 vx H1 S1 hl1 st1 hk => ?_
  obtain ⟨a, h1, h2⟩ := hk
  refine ⟨lim_line (by show 2 ≤ 1000000; decide), fun p hp => ?_⟩
  have lx : (ρ1 ++ ρx).length = (σ ++ σx).length := by have := st1.len; simp only [List.length_append, List.length_cons, List.length_nil] at *; omega
  have st2 := st1.new (o := .tup [.ty n, .ty m]) hp
  have r := (st2.last lx).rp
  rw [← F.K]
  refine ⟨vx, p, _, .type a, [.type n, .type m], isiB a n || isiB a m, rfl, upd_same, .cons (.ty n) (.cons (.ty m) .nil), ty_of r h1, ?_, ans_bl (st2.drop lx) (fun s v H' S' st' hk' => q s ρ1 v H' S' hl1 st' hk') h2⟩
  refine kitAny_cons (kit_ty (isi_ok h1 hn)) (fun e => ?_) (fun e => by rw [e]; rfl)
  rw [e, Bool.false_or]
  exact kitAny_cons (kit_ty (isi_ok h1 hm)) (fun e => by rw [e]; rfl) (fun e => e)
theorem eqD_bl (a b : Bool) : eqD (.bl a) (.bl b) = decide (a = b) := by cases a <;> cases b <;> rfl
theorem eqD_tt : eqD (.bl true) (.bl true) = true := rfl
theorem eqD_ff : eqD (.bl false) (.bl false) = true := rfl
theorem eqD_tf : eqD (.bl true) (.bl false) = false := rfl
theorem eqD_ft : eqD (.bl false) (.bl true) = false := rfl
theorem bls_true : ∀ l : List D, blsD (l.map fun _ => D.bl true) = some (l.map fun _ => true)
  | [] => rfl
  | d :: l => by
    show (blsD (l.map fun _ => D.bl true)).map _ = _
    rw [bls_true l]
    rfl
theorem zip_self : ∀ (l : List D) (d : D), d ∈ zipD l l → ∃ x ∈ l, d = .tup [x, x]
  | x :: l, d, h => by
    rcases List.mem_cons.mp h with rfl | h
    · exact ⟨x, List.mem_cons_self, rfl⟩
    · obtain ⟨y, hy, e⟩ := zip_self l d h
      exact ⟨y, List.mem_cons_of_mem _ hy, e⟩
theorem zip_len : ∀ l : List D, (zipD l l).length = l.length
  | [] => rfl
  | x :: l => by show (zipD l l).length + 1 = _; rw [zip_len l]; rfl
theorem pd_isi2 {X : Cx} {C : Cxt} (F : Fit X C) {a : Expr} {ta : TE} {wa : WE} {y z : Str} {n m : String} {p0 p1 p2 p3 pos : Pos} {kk : Nat} (hg : Gl X "isinstance") (hm : X.mg "isinstance" = none) (ha : PD X C a ta wa)
    (gy : Gl X y) (my : X.mg y = none) (vy : bootBuiltins y = some (.type n)) (gz : Gl X z) (mz : X.mg z = none) (vz : bootBuiltins z = some (.type m))
    (hn : n ∈ ["bool", "int", "str", "list", "tuple"] := by decide) (hk : m ∈ ["bool", "int", "str", "list", "tuple"] := by decide)
    (ny : y ≠ "__name__" := by decide) (dy : (y == ("__debug__" : Str)) = false := by decide) (nz : z ≠ "__name__" := by decide) (dz : (z == ("__debug__" : Str)) = false := by decide)
    (he : starEach [a, .Tuple [.Name y p1, .Name z p2] kk p3] X.env = (false, eval a X.env) :: starEach [.Tuple [.Name y p1, .Name z p2] kk p3] X.env := by rfl) :
    PD X C (.Call (.Name "isinstance" p0) [a, .Tuple [.Name y p1, .Name z p2] kk p3] [] pos) (tCB (rIsiT X.K) (tCons ta (tCons (tTup (tCons (tC (.ty n)) (tCons (tC (.ty m)) tNil))) tNil))) (wUn (pIsi2 n m) wa) :=
  ⟨pe_callB call_isiT hg hm (by decide +kernel) (pa_cons ha.pe (pa_cons (pe_tup (pa_cons (pe_bltn gy my vy rfl ny dy) (pa_cons (pe_bltn gz mz vz rfl nz dz) pa_nil))) pa_nil) he) (by decide) (by decide) he rfl, ok_isi2 F hn hk ha.ok⟩
end Q

namespace RF
open PySem L2 PyProof.Rows
/-! ### max of a tuple of whole numbers -/
section
variable {prog : Program} {w : World} {A : Around} {E : Value → Shared → Prop} {s : Shared} {l : Addr} {xs : Array (Int × Tok)}
theorem max_tupI {Q : Value → Shared → Prop} (hh : A.handled = none) (hl : s.heap.IsTuple l (intItems xs)) (hne : 0 < xs.size)
    (h : ∀ v h' tk, (intItems xs)[argBest (fun i j => decide (numAt xs i > numAt xs j)) (xs.size - 1)]? = some v → (∀ b o, s.heap.get? b = some o → h'.get? b = some o) → Q v { s with heap := h', toks := tk }) :
    wpAny (model prog w) A (call (.builtin "max") [.ref l]) Q E s := by
  have hlt : l < s.heap.objs.size := by obtain ⟨_, e, _⟩ := hl; exact Heap.lt_size e
  have hpu : ∀ b ∈ [s.heap.objs.size, l], b < (s.heap.push { cls := .type "tuple_iterator", data := .fields #[.ref l, .int 0 0] }).objs.size := fun b hb => by
    rw [Heap.size_push]
    rcases List.mem_cons.mp hb with e | hb
    · rw [e]; exact Nat.lt_succ_self _
    · rcases List.mem_cons.mp hb with e | hb
      · rw [e]; exact Nat.lt_succ_of_lt hlt
      · cases hb
  refine call_max_walk (wpAny_pyIter_tuple hl ?_)
  refine ⟨_, _, _, _, _, _, _, rfl, Walks.tuple (A := A.in1) hh _ l (Nat.ne_of_lt hlt) (intItems xs), ⟨⟨_, Heap.get?_push_size _ rfl, rfl, rfl⟩, hl.push _⟩, hpu, by simpa [intItems] using hne, CmpOf.ints_gt (numAt xs) (fun _ _ => intItems_at), fun v h' tk hP hk => ?_⟩
  refine h v h' tk (by simpa [intItems] using hP) fun b o e => ?_
  refine hk b o (fun hm => ?_) (Heap.get?_push_of_some _ e)
  rcases List.mem_cons.mp hm with e1 | hm
  · exact absurd (e1 ▸ Heap.lt_size e) (Nat.lt_irrefl _)
  · cases hm
end
section
variable {X : Cx}
def rMaxT (K : PySem.W.Frag) : List V → Hp → VK → Prop := fun vs H Q => ∃ (a : Addr) (ns : List Int), vs = [V.ref a] ∧ SqT K H a (ns.map V.int) ∧ 0 < ns.length ∧ ∀ m, m ∈ ns → (∀ y, y ∈ ns → y ≤ m) → Q (.int m) H
theorem cr_maxT (hc : X.calm = true) : CallR X (.builtin "max") (rMaxT X.K) := by
  intro pins s σ H vs us Q I r h
  obtain ⟨a, ns, rfl, hs, hne, q⟩ := h
  obtain ⟨its, rv, hl, _⟩ := I.tuple hs
  rw [Vals.ref1 r]
  obtain ⟨xs, e⟩ := rv.ints.allInts.items
  have hn : numsOf (intItems xs).toList = ns := by rw [← e]; exact rv.ints.numsOf
  rw [nums_intItems] at hn
  subst hn
  rw [e] at hl
  have hsz : 0 < xs.size := by simpa using hne
  refine max_tupI (I.ok.hd hc) hl hsz fun v h' tk hv hk => ?_
  obtain ⟨t, rfl⟩ := intItems_at hv
  obtain ⟨h1, h2⟩ := argBest_gt (numAt xs) (xs.size - 1)
  refine ⟨.int _, H, I.kept hk, ⟨_, rfl⟩, q _ ?_ fun a ha => ?_⟩
  · rw [numAt_eq]; exact PySem.getD_mem (by rw [List.length_map, Array.length_toList]; omega)
  · obtain ⟨j, hj, rfl⟩ := PySem.mem_getD ha
    rw [List.length_map, Array.length_toList] at hj
    rw [← numAt_eq]; exact h2 j (by omega)

/-! ### a property of a class, by its promise -/
structure Pt (P : Program) (w : World) (K : PySem.W.Frag) (mg : Str → Option Value) (base : Heap) (C : Addr) (k : Nat) (m : Str) (sp : Sp) : Prop where
  ex : ∃ (p g : Addr) (fd : FuncData), PropOf K C m p g ∧ FnOk P w K mg base CX0 k g fd ["self"] sp ∧ Binds K fd ["self"] []
theorem pe_pt {j k : Nat} {C : Addr} {m : Str} {sp : Sp} {o : Expr} {pos : Pos} {ta : TE} (he : PE X o ta) (c : Cls X.K C) (M : Pt X.prog X.w X.K X.mg X.base C k m sp) (hr : Room j X.A) (hk : k + 1 ≤ j)
    (hab : attributeBase o m X.env (eval o X.env) = eval o X.env := by rfl) : PE X (.Attribute o m pos) (tProp C sp [] E0 ta) := by
  obtain ⟨p, g, fd, hp, F, b⟩ := M.ex
  exact pe_prop he c hp F (hr.mono hk) b .nil pass0 hab

/-! ### calls by keywords alone -/
/-- f(k = v, ..) -/
theorem pe_callN0 {CX : CXT} {k : Nat} {f : Addr} {fd : FuncData} {ps ks : List Str} {sp : Sp} {E : XK} {x : Str} {p pos : Pos} {kws : List Keyword} {tk : TA} {g : List Value → List Value → List Value} {gV : List V → List V → List V}
    (F : FnOk X.prog X.w X.K X.mg X.base CX k f fd ps sp) (hr : Room k X.A) (hg : Gl X x) (hm : X.mg x = some (.ref f)) (hk : PySem.W.keepIn X.K (.ref f) = true) (hb : KBn X.K fd ps 0 ks g gV) (hx : Passes CX X E) (hkw : PK X kws tk)
    (hall : (backToKw pos (keywordEach kws X.env)).all (·.1.isSome) = true := by rfl) (hks : (backToKw pos (keywordEach kws X.env)).filterMap (·.1) = ks := by rfl) (hdb : (x == ("__debug__" : Str)) = false := by decide)
    (hpl : ((backTo pos (starEach [] X.env)).any (·.1) || (backToKw pos (keywordEach kws X.env)).any (·.1.isNone)) = false := by rfl) :
    PE X (.Call (.Name x p) [] kws pos) (tCallN 0 ks.length sp gV E tNil tk) := by
  refine ⟨fun pins s σ H Q I h => ?_⟩
  refine wpAny_Call_Name_kw (ld_glob I hg hm ?_ hdb)
  refine PySem.W.callWith_KW0 (h₀ := X.base) I.ok.mod.kin hk hall ?_ hpl
  refine thn (hkw.run pos pins s σ H _ I h) fun ws s2 ⟨zs, H2, I2, rz, l1, l2, q2⟩ => ⟨I2.kIn, ?_⟩
  rw [hks]
  exact run_fnN (us := []) (vs := []) F hr hb hx I2 .nil rz l1 l2 q2
/-- a def that is called by keywords alone, by its promise -/
structure Dk (P : Program) (w : World) (K : PySem.W.Frag) (mg : Str → Option Value) (base : Heap) (k : Nat) (x : Str) (ps ks : List Str) (gV : List V → List V → List V) (sp : Sp) : Prop where
  ex : ∃ (f : Addr) (fd : FuncData) (g : List Value → List Value → List Value), FnOk P w K mg base CX0 k f fd ps sp ∧ KBn K fd ps 0 ks g gV ∧ mg x = some (.ref f) ∧ PySem.W.keepIn K (.ref f) = true
theorem pe_kD {j k : Nat} {ps ks : List Str} {sp : Sp} {x : Str} {p pos : Pos} {kws : List Keyword} {tk : TA} {gV : List V → List V → List V} (D : Dk X.prog X.w X.K X.mg X.base k x ps ks gV sp) (hr : Room j X.A) (hj : k ≤ j) (hkw : PK X kws tk) (hg : Gl X x := by rfl)
    (hall : (backToKw pos (keywordEach kws X.env)).all (·.1.isSome) = true := by rfl) (hks : (backToKw pos (keywordEach kws X.env)).filterMap (·.1) = ks := by rfl) (hdb : (x == ("__debug__" : Str)) = false := by decide)
    (hpl : ((backTo pos (starEach [] X.env)).any (·.1) || (backToKw pos (keywordEach kws X.env)).any (·.1.isNone)) = false := by rfl) :
    PE X (.Call (.Name x p) [] kws pos) (tCallN 0 ks.length sp gV E0 tNil tk) := by
  obtain ⟨f, fd, g, F, hb, hm, hk⟩ := D.ex
  exact pe_callN0 F (hr.mono hj) hg hm hk hb pass0 hkw hall hks hdb hpl
end
theorem Fun.kbn {K : PySem.W.Frag} {x qual : Str} {st : Stmt} {f : Addr} {fd : FuncData} {ps : List Str} (F : Fun K x qual st f fd) (n : Nat) (ks : List Str) (g : {α : Type} → List α → List α → List α)
    (hrel : ∀ {vs zs : List V} {us ws : List Value}, Vals vs us → Vals zs ws → Vals (g vs zs) (g us ws))
    (h : ∀ (kV doc pm : Value) (an : Option Addr) (cdv ct : Value) (us ws : List Value), us.length = n → ws.length = ks.length → bindArgs (PySem.W.fnOf x qual (defArgs st) (defBody st) (defScope st) .none kV doc pm an cdv ct) ⟨us, ks.zip ws⟩ = pure (ps.zip (g us ws))) :
    KBn K fd ps n ks (fun us ws => g us ws) (fun vs zs => g vs zs) := by
  obtain ⟨oc, od, kV, doc, pm, an, cdv, ct, osl, rfl, lk, hcd⟩ := F.ex
  exact ⟨fun s us ws _ l1 l2 => .of_eq (h kV doc pm an cdv ct us ws l1 l2), fun r1 r2 => hrel r1 r2⟩
end RF

set_option autoImplicit false
set_option linter.all false
/-! Qk: calls with keywords -/
namespace Q
open PySem L2
/-- a def that is called with n values and the keywords ks, by its promise -/
structure Dk (P : Program) (w : World) (K : PySem.W.Frag) (mg : Str → Option Value) (base : Heap) (k : Nat) (x : Str) (ps : List Str) (n : Nat) (ks : List Str) (gV : List V → List V → List V) (sp : Sp) : Prop where
  ex : ∃ (f : Addr) (fd : FuncData) (g : List Value → List Value → List Value), FnOk P w K mg base CX0 k f fd ps sp ∧ KBn K fd ps n ks g gV ∧ mg x = some (.ref f) ∧ PySem.W.keepIn K (.ref f) = true
theorem Dk.mono {P : Program} {w : World} {K : PySem.W.Frag} {mg : Str → Option Value} {base : Heap} {j k n : Nat} {x : Str} {ps ks : List Str} {gV : List V → List V → List V} {sp : Sp} (D : Dk P w K mg base j x ps n ks gV sp) (h : j ≤ k) : Dk P w K mg base k x ps n ks gV sp := by
  obtain ⟨f, fd, g, F, b⟩ := D
  exact ⟨f, fd, g, F.mono h, b⟩
section
variable {X : Cx} {C : Cxt} {e : Expr} {es : List Expr} {ta tk : TA} {wa wk : WA} {pos p : Pos} {j k n : Nat} {x : Str} {ps ks : List Str} {ub : Bool} {Φ : Ph} {kws : List Keyword}
def wKw (n m : Nat) (g : List D → List D → List D) (p : PN) (wa wk : WA) : WE := fun ρ k => wa ρ fun ds ρ1 => wk ρ1 fun es ρ2 => ds.length = n ∧ es.length = m ∧ p (g ds es) fun z => k z ρ2
theorem ok_kw {r : List V → Hp → VK → Prop} {p : PN} {m : Nat} {gV : List V → List V → List V} {g : List D → List D → List D} (hg : ∀ (B : Bk) (H : Hp) (vs zs : List V) (ds es : List D), Rps B H vs ds → Rps B H zs es → ds.length = n → es.length = m → Rps B H (gV vs zs) (g ds es)) (h : LiftN C r p) (ha : OkA C ta wa) (hk : OkA C tk wk) :
    OkE C (fun σ H Q => ta σ H fun vs H1 => tk σ H1 fun zs H2 => vs.length = n ∧ zs.length = m ∧ r (gV vs zs) H2 Q) (wKw n m g p wa wk) := by
  intro ρ ρx σ σx H S k Q hl st hw q
  refine ha ρ ρx σ σx H S _ _ hl st hw fun ds ρ1 vs H1 S1 hl1 st1 hw1 => ?_
  have lx : (ρ1 ++ ρx).length = (σ ++ σx).length := by have := st.len; simp only [List.length_append] at *; omega
  refine hk ρ1 (ρx ++ fzs ds) σ (σx ++ vs.map some) H1 S1 _ _ hl1 (by rw [← List.append_assoc, ← List.append_assoc]; exact st1) hw1 fun es ρ2 zs H2 S2 hl2 st2 hp => ?_
  obtain ⟨l1, l2, hp⟩ := hp
  have lx2 : (ρ2 ++ ρx).length = (σ ++ σx).length := by have := st.len; simp only [List.length_append] at *; omega
  have ly : (ρ2 ++ (ρx ++ fzs ds)).length = (σ ++ (σx ++ vs.map some)).length := by
    have := st1.len
    simp only [List.length_append] at *
    omega
  have rz := st2.args ly
  have st3 := st2.drop ly
  rw [← List.append_assoc, ← List.append_assoc] at st3
  have rv := st3.args lx2
  refine ⟨rv.len.trans l1, rz.len.trans l2, h (ρ2 ++ ρx) (σ ++ σx) H2 S2 _ _ _ Q (st3.drop lx2) (hg _ _ _ _ _ _ rv rz l1 l2) hp fun z v H' S' st' hk => q z ρ2 v H' S' hl2 st' hk⟩
theorem pd_callK (Fi : Fit X C) {gV : List V → List V → List V} {g : List D → List D → List D} (hG : ∀ (B : Bk) (H : Hp) (vs zs : List V) (ds es : List D), Rps B H vs ds → Rps B H zs es → ds.length = n → es.length = ks.length → Rps B H (gV vs zs) (g ds es))
    (F : Dk X.prog X.w X.K X.mg X.base k x ps n ks gV (spD X.K X.mg ub Φ)) (hr : Room j X.A) (hk : k ≤ j) (ha : QA X C (e :: es) ta wa) (hkw : QK X C kws tk wk) (hu : ub = true → C.ub = true := by intro h; first | (cases h; done) | assumption)
    (hg : Gl X x := by rfl) (hall : (backToKw pos (keywordEach kws X.env)).all (·.1.isSome) = true := by rfl) (hks : (backToKw pos (keywordEach kws X.env)).filterMap (·.1) = ks := by rfl) (hdb : (x == ("__debug__" : Str)) = false := by decide)
    (he : starEach (e :: es) X.env = (false, eval e X.env) :: starEach es X.env := by rfl) (hpl : ((backTo pos (starEach (e :: es) X.env)).any (·.1) || (backToKw pos (keywordEach kws X.env)).any (·.1.isNone)) = false := by rfl) :
    PD X C (.Call (.Name x p) (e :: es) kws pos) (tCallN n ks.length (spD X.K X.mg ub Φ) gV L2.E0 ta tk) (wKw n ks.length g (pCall Φ) wa wk) := by
  obtain ⟨f, fd, gg, G, hb, hm, hkp⟩ := F.ex
  exact ⟨pe_callN G (hr.mono hk) hg hm hkp hb pass0 ha.pa hkw.pk hall hks hdb he hpl, ok_kw hG (l_call (Φ := Φ) Fi.K Fi.mg hu L2.E0) ha.ok hkw.ok⟩
theorem pd_callK0 (Fi : Fit X C) {gV : List V → List V → List V} {g : List D → List D → List D} (hG : ∀ (B : Bk) (H : Hp) (vs zs : List V) (ds es : List D), Rps B H vs ds → Rps B H zs es → ds.length = 0 → es.length = ks.length → Rps B H (gV vs zs) (g ds es))
    (F : Dk X.prog X.w X.K X.mg X.base k x ps 0 ks gV (spD X.K X.mg ub Φ)) (hr : Room j X.A) (hk : k ≤ j) (hkw : QK X C kws tk wk) (hu : ub = true → C.ub = true := by intro h; first | (cases h; done) | assumption)
    (hg : Gl X x := by rfl) (hall : (backToKw pos (keywordEach kws X.env)).all (·.1.isSome) = true := by rfl) (hks : (backToKw pos (keywordEach kws X.env)).filterMap (·.1) = ks := by rfl) (hdb : (x == ("__debug__" : Str)) = false := by decide)
    (hpl : ((backTo pos (starEach [] X.env)).any (·.1) || (backToKw pos (keywordEach kws X.env)).any (·.1.isNone)) = false := by rfl) :
    PD X C (.Call (.Name x p) [] kws pos) (tCallN 0 ks.length (spD X.K X.mg ub Φ) gV L2.E0 tNil tk) (wKw 0 ks.length g (pCall Φ) (fun ρ k => k [] ρ) wk) := by
  obtain ⟨f, fd, gg, G, hb, hm, hkp⟩ := F.ex
  exact ⟨RF.pe_callN0 G (hr.mono hk) hg hm hkp hb pass0 hkw.pk hall hks hdb hpl, ok_kw hG (l_call (Φ := Φ) Fi.K Fi.mg hu L2.E0) (qa_nil (X := X)).ok hkw.ok⟩
/-- keywords alone, in the def's own order -/
theorem pd_kOwn (Fi : Fit X C) (F : Dk X.prog X.w X.K X.mg X.base k x ps 0 ks (fun _ zs => zs) (spD X.K X.mg ub Φ)) (hr : Room j X.A) (hk : k ≤ j) (hkw : QK X C kws tk wk) (hu : ub = true → C.ub = true := by intro h; first | (cases h; done) | assumption)
    (hg : Gl X x := by rfl) (hall : (backToKw pos (keywordEach kws X.env)).all (·.1.isSome) = true := by rfl) (hks : (backToKw pos (keywordEach kws X.env)).filterMap (·.1) = ks := by rfl) (hdb : (x == ("__debug__" : Str)) = false := by decide)
    (hpl : ((backTo pos (starEach [] X.env)).any (·.1) || (backToKw pos (keywordEach kws X.env)).any (·.1.isNone)) = false := by rfl) :
    PD X C (.Call (.Name x p) [] kws pos) (tCallN 0 ks.length (spD X.K X.mg ub Φ) (fun _ zs => zs) L2.E0 tNil tk) (wKw 0 ks.length (fun _ zs => zs) (pCall Φ) (fun ρ k => k [] ρ) wk) :=
  pd_callK0 Fi (fun _ _ _ _ _ _ _ h _ _ => h) F hr hk hkw hu hg hall hks hdb hpl
/-- all in the def's own order -/
theorem app_rps {B : Bk} {H : Hp} : ∀ {vs zs : List V} {ds es : List D}, Rps B H vs ds → Rps B H zs es → Rps B H (vs ++ zs) (ds ++ es)
  | _, _, [], _, h, h2 => by rw [show _ = ([] : List V) from h]; exact h2
  | _, _, d :: ds, _, h, h2 => by
    obtain ⟨x, r, rfl, h3, h4⟩ := h
    exact ⟨x, r ++ _, rfl, h3, app_rps h4 h2⟩
end
/-- a def that is called with defaults, by its promise -/
structure Dv (P : Program) (w : World) (K : PySem.W.Frag) (mg : Str → Option Value) (base : Heap) (k : Nat) (x : Str) (ps : List Str) (dvs : List V) (sp : Sp) : Prop where
  ex : ∃ (f : Addr) (fd : FuncData) (ds : List Value), FnOk P w K mg base CX0 k f fd ps sp ∧ Binds K fd ps ds ∧ Vals dvs ds ∧ mg x = some (.ref f) ∧ PySem.W.keepIn K (.ref f) = true
theorem Dv.mono {P : Program} {w : World} {K : PySem.W.Frag} {mg : Str → Option Value} {base : Heap} {j k : Nat} {x : Str} {ps : List Str} {dvs : List V} {sp : Sp} (D : Dv P w K mg base j x ps dvs sp) (h : j ≤ k) : Dv P w K mg base k x ps dvs sp := by
  obtain ⟨f, fd, ds, F, b⟩ := D
  exact ⟨f, fd, ds, F.mono h, b⟩
def pCallV (dd : List D) (Φ : Ph) : PN := fun ds k => pCall Φ (ds ++ dd) k
theorem pd_callV {X : Cx} {C : Cxt} {e : Expr} {es : List Expr} {ta : TA} {wa : WA} {pos p : Pos} {j k : Nat} {x : Str} {ps : List Str} {ub : Bool} {Φ : Ph} {dvs : List V} {dd : List D} (Fi : Fit X C) (F : Dv X.prog X.w X.K X.mg X.base k x ps dvs (spD X.K X.mg ub Φ)) (hdd : ∀ B H, Rps B H dvs dd) (hr : Room j X.A) (hk : k ≤ j) (ha : QA X C (e :: es) ta wa)
    (hu : ub = true → C.ub = true := by intro h; first | (cases h; done) | assumption) (hg : Gl X x := by rfl) (hdb : (x == ("__debug__" : Str)) = false := by decide)
    (he : starEach (e :: es) X.env = (false, eval e X.env) :: starEach es X.env := by rfl) (hpl : (backTo pos (starEach es X.env)).any (·.1) = false := by rfl) :
    PD X C (.Call (.Name x p) (e :: es) [] pos) (tCall (spD X.K X.mg ub Φ) dvs L2.E0 ta) (wArg (pCallV dd Φ) wa) := by
  obtain ⟨f, fd, ds, G, hb, hd, hm, hkp⟩ := F.ex
  refine ⟨pe_call G (hr.mono hk) hg hm hkp hb hd pass0 ha.pa hdb he hpl, ?_⟩
  have h : LiftN C (fun vs H Q => spD X.K X.mg ub Φ (vs ++ dvs) H Q L2.E0) (pCallV dd Φ) := fun ρ σ H S ds vs k Q st r φ q =>
    l_call (Φ := Φ) Fi.K Fi.mg hu L2.E0 ρ σ H S (ds ++ dd) (vs ++ dvs) k Q st (app_rps r (hdd _ _)) φ q
  exact ok_arg h ha.ok
theorem kw_app {n m : Nat} (B : Bk) (H : Hp) (vs zs : List V) (ds es : List D) (h1 : Rps B H vs ds) (h2 : Rps B H zs es) (_ : ds.length = n) (_ : es.length = m) : Rps B H ((fun vs zs => vs ++ zs) vs zs) ((fun ds es => ds ++ es) ds es) := app_rps h1 h2
end Q

namespace RF
open PySem L2 PyProof.Rows
theorem vals_rev : ∀ {vs : List V} {us : List Value}, Vals vs us → Vals vs.reverse us.reverse
  | _, _, .nil => .nil
  | _, _, .cons h r => by
    rw [List.reverse_cons, List.reverse_cons]
    exact (vals_rev r).append (.cons h .nil)
end RF

set_option linter.all false
namespace LM
open PySem PySem.Spec PyProof.Rows L2
open LamX (Tabs TabS ExtN TabB CodeO)
/-- the names of a lambda: none of the slots is its own -/
structure LS (N : List Str) (scope : Scope) : Prop where
  kind : scope.kind = .function
  co : scope.isCoroutine = false
  gen : scope.isGenerator = false
  loc : ∀ y ∈ scope.names, y.2 = .local → y.1 ∉ N
  cell : ∀ y ∈ scope.names, y.2 ≠ .cell
def lsB (N : List Str) (scope : Scope) : Bool :=
  decide (scope.kind = .function) && !scope.isCoroutine && !scope.isGenerator && scope.names.all fun y => (!decide (y.2 = .local) || !decide (y.1 ∈ N)) && !decide (y.2 = .cell)
theorem ls_by {N : List Str} {scope : Scope} (h : lsB N scope = true) : LS N scope := by
  unfold lsB at h
  simp only [Bool.and_eq_true, Bool.or_eq_true, Bool.not_eq_true', decide_eq_true_eq, decide_eq_false_iff_not, List.all_eq_true] at h
  obtain ⟨⟨⟨a, b⟩, c⟩, d⟩ := h
  exact ⟨a, b, c, fun y hy e => ((d y hy).1).elim (fun z => absurd e z) id, fun y hy => (d y hy).2⟩
def freeB (sc scope : Scope) : Bool := scope.names.all fun y => !decide (y.2 = .free) || decide (sc.names.lookup y.1 = some .cell) || decide (sc.names.lookup y.1 = some .free)
theorem free_by {sc scope : Scope} (h : freeB sc scope = true) : ∀ y ∈ scope.names, y.2 = .free → sc.names.lookup y.1 = some .cell ∨ sc.names.lookup y.1 = some .free := fun y hy e => by
  have z := List.all_eq_true.mp h y hy
  simp only [Bool.or_eq_true, Bool.not_eq_true', decide_eq_true_eq, decide_eq_false_iff_not] at z
  rcases z with (z | z) | z
  · exact absurd e z
  · exact .inl z
  · exact .inr z
/-- the cells of a lambda hold what the slots tell -/
structure CellsOk (N : List Str) (cl : List (Str × Addr)) (scope : Scope) (σ : L2.St) (H : Hp) (h : Heap) : Prop where
  at_ : ∀ y c, cl.lookup y = some c → H c = none ∧ ∃ v, h.IsCell c v
  inj : ∀ x y c, cl.lookup x = some c → cl.lookup y = some c → x = y
  has : ∀ y, scope.names.lookup y = some .free → ∃ c, cl.lookup y = some c
  val : ∀ (i : Nat) (y : Str) (v : V), N[i]? = some y → σ[i]? = some (some v) → scope.names.lookup y = some .free → ∃ c u, cl.lookup y = some c ∧ RelV v u ∧ h.IsCell c (some u)
theorem cell_un {fs ex : List Addr} {H H' : Hp} {h h' : Heap} (un : Un fs ex H H' h h') {c : Addr} {v : Option Value} (n : H c = none) (nx : c ∉ ex) (z : h.IsCell c v) : h'.IsCell c v ∧ H' c = none := by
  obtain ⟨o, ho, hd⟩ := z
  obtain ⟨sl, q⟩ := un.any ho n nx
  exact ⟨⟨_, q, hd⟩, un.free c o ho n nx⟩
theorem CellsOk.un {N : List Str} {cl : List (Str × Addr)} {scope : Scope} {σ : L2.St} {H H' : Hp} {h h' : Heap} {fs ex : List Addr} (k : CellsOk N cl scope σ H h) (un : Un fs ex H H' h h') (nx : ∀ y c, cl.lookup y = some c → c ∉ ex) : CellsOk N cl scope σ H' h' where
  at_ := fun y c e => by
    obtain ⟨n, v, z⟩ := k.at_ y c e
    obtain ⟨a, b⟩ := cell_un un n (nx y c e) z
    exact ⟨b, v, a⟩
  inj := k.inj
  has := k.has
  val := fun i y v e1 e2 e3 => by
    obtain ⟨c, u, a, r, z⟩ := k.val i y v e1 e2 e3
    exact ⟨c, u, a, r, (cell_un un (k.at_ y c a).1 (nx y c a) z).1⟩
theorem CellsOk.slots {N : List Str} {cl : List (Str × Addr)} {scope : Scope} {σ σ' : L2.St} {H : Hp} {h : Heap} (k : CellsOk N cl scope σ H h) (w : ∀ (i : Nat) (y : Str) (v : V), N[i]? = some y → scope.names.lookup y = some .free → σ'[i]? = some (some v) → σ[i]? = some (some v)) : CellsOk N cl scope σ' H h :=
  ⟨k.at_, k.inj, k.has, fun i y v e1 e2 e3 => k.val i y v e1 (w i y v e1 e3 e2) e3⟩
section
variable {X : Cx} {pins : List (Addr × Obj)} {σ : L2.St} {H : Hp} {s : Shared}
theorem clo_lk (I : X.Ok) {L : LTx} (hfree : ∀ y ∈ L.scope.names, y.2 = .free → X.env.scope.names.lookup y.1 = some .cell ∨ X.env.scope.names.lookup y.1 = some .free) {y : Str} {c : Addr} (e : (clo X L).lookup y = some c) : X.env.cells.lookup y = some c := by
  rcases cloFrom_mem (PySem.mem_of_lookup e) with hm | ⟨h1, h2⟩
  · cases hm
  · obtain ⟨c1, hc⟩ : ∃ c, X.env.cells.lookup y = some c := by
      rcases hfree _ h1 rfl with z | z
      · exact I.has _ (.inl z)
      · exact I.has _ (.inr z)
    have e2 : c = c1 := by rw [h2, hc] <;> rfl
    rw [e2]
    exact hc
theorem cells_of {L : LTx} (I : Inv X pins σ H s) (hfree : ∀ y ∈ L.scope.names, y.2 = .free → X.env.scope.names.lookup y.1 = some .cell ∨ X.env.scope.names.lookup y.1 = some .free) : CellsOk X.N (clo X L) L.scope σ H s.heap where
  at_ := fun y c e => ⟨I.freeC y c (clo_lk I.ok hfree e), I.cell y c (clo_lk I.ok hfree e)⟩
  inj := fun x y c e1 e2 => I.ok.inj x y c (clo_lk I.ok hfree e1) (clo_lk I.ok hfree e2)
  has := fun y e => mem_lookup (cloFrom_has (cells := X.env.cells) (acc := []) (PySem.mem_of_lookup e))
  val := fun i y v e1 e2 e3 => by
    obtain ⟨m, hn, hl⟩ := I.loc
    have fr := hfree _ (PySem.mem_of_lookup e3) rfl
    obtain ⟨u, r, q⟩ := hl i y v e1 e2 (fr.elim (fun z => .inr (.inl z)) (fun z => .inr (.inr z)))
    obtain ⟨c, ec⟩ := mem_lookup (cloFrom_has (cells := X.env.cells) (acc := []) (PySem.mem_of_lookup e3))
    refine ⟨c, u, ec, r, ?_⟩
    have c1 := clo_lk I.ok hfree ec
    rcases q with ⟨z, _⟩ | ⟨_, c3, e', z⟩
    · have z : X.env.scope.names.lookup y = some .local := z
      rcases fr with g | g
      · rw [show X.env.scope.names.lookup y = some .cell from g] at z; cases z
      · rw [show X.env.scope.names.lookup y = some .free from g] at z; cases z
    · rw [c1] at e'
      cases e'
      exact z
end
/-- the context of a lambda's body -/
abbrev lenv (q : Str) (cl : List (Str × Addr)) (scope : Scope) (L f c1 : Addr) : Env := PySem.W.envX q scope L f (.ref c1) cl
def lcx (Z : Cx) (q : Str) (cl : List (Str × Addr)) (A : Around) (outer : List Env) (s : Shared) (H : Hp) (E : XK) (scope : Scope) (f c1 : Addr) : Cx where
  prog := Z.prog
  w := Z.w
  K := Z.K
  mg := Z.mg
  base := Z.base
  N := Z.N
  A := A.deeper (lenv q cl scope s.heap.objs.size f c1)
  s_0 := s
  H_0 := H
  env := lenv q cl scope s.heap.objs.size f c1
  outer := outer
  stack := lenv q cl scope s.heap.objs.size f c1 :: outer
  fn := fun _ => false
  ex := []
  pn := []
  calm := true
  xe := fun e s1 => wpAny (model Z.prog Z.w) (A.deeper (lenv q cl scope s.heap.objs.size f c1)) (leaving (lenv q cl scope s.heap.objs.size f c1) e) (fun _ s2 => L2.CX Z.prog Z.w outer H s E e s2) (fun e2 s2 => L2.CX Z.prog Z.w outer H s E e2 s2) s1
theorem passL {Z : Cx} {q : Str} {cl : List (Str × Addr)} {A : Around} {outer : List Env} {s : Shared} {H : Hp} {E : XK} {scope : Scope} {f c1 : Addr} : Passes (L2.CX Z.prog Z.w) (lcx Z q cl A outer s H E scope f c1) E := fun pins σ H s e s' I c => L2.passes_call (W := fun cls d _ H => E cls d H) (takes_of rfl rfl rfl rfl) (fun _ _ _ _ h => h) pins σ H s e s' I c
theorem start {Z : Cx} {q : Str} {cl : List (Str × Addr)} {A : Around} {outer : List Env} {E : XK} {scope : Scope} {f c1 : Addr} {σ : L2.St} {HZ : Hp} {s1 : Shared} {h1 : Heap} {tk : Nat} {bs : List (Str × Value)} (ck : CellsOk Z.N cl scope σ HZ s1.heap) (L : LS Z.N scope) (hl : σ.length = Z.N.length) (e0 : Env0 Z.prog Z.w Z.K Z.mg Z.base A outer s1 HZ) (hd : A.handled = none)
    (hns : h1.Ns s1.heap.objs.size fun y => bs.reverse.lookup y) (kp : ∀ b o, s1.heap.get? b = some o → h1.get? b = some o) : Inv (lcx Z q cl A outer s1 HZ E scope f c1) [] σ HZ { s1 with heap := h1, toks := tk } := by
  have kc : ∀ {c : Addr} {v : Option Value}, s1.heap.IsCell c v → h1.IsCell c v := fun {c v} ⟨o, ho, hd⟩ => ⟨o, kp _ _ ho, hd⟩
  have nx : ∀ b : Addr, b ∉ (lcx Z q cl A outer s1 HZ E scope f c1).ex := fun b z => absurd (show b ∈ ([] : List Addr) from z) (by simp)
  refine ⟨⟨e0.mod, L.kind, rfl, rfl, Nat.le_refl _, ck.inj, fun y hy => ?_, fun y c z _ => ?_, fun _ => hd, Around.frames_deeper e0.frames, .inr ⟨rfl, rfl⟩, fun b z => absurd z (nx b), e0.bs, e0.bsz, fun b _ _ => nx b, fun b z => absurd z (nx b), e0.funs, e0.frf⟩,
    rfl, e0.bare, Un.kept kp, ⟨_, hns, fun i y v e1 e2 e3 => ?_⟩, fun y c e => ?_, e0.hok.fresh (Nat.le_refl _), fun y c e => (ck.at_ y c e).1, fun p hp => absurd (show p ∈ ([] : List (Addr × Obj)) ++ [] from hp) (by simp), e0.hok.kept kp, hl⟩
  · have hy : scope.names.lookup y = some .cell ∨ scope.names.lookup y = some .free := hy
    rcases hy with z | z
    · exact absurd rfl (L.cell _ (PySem.mem_of_lookup z))
    · exact ck.has y z
  · have z : false = true := z
    cases z
  · have e3 : Vis scope y := e3
    rcases e3 with z | z | z
    · exact absurd (List.mem_of_getElem? e1) (L.loc _ (PySem.mem_of_lookup z) rfl)
    · exact absurd rfl (L.cell _ (PySem.mem_of_lookup z))
    · obtain ⟨c, u, a, r, g⟩ := ck.val i y v e1 e2 z
      exact ⟨u, r, .inr ⟨.inr z, c, a, kc g⟩⟩
  · obtain ⟨_, v, z⟩ := ck.at_ y c e
    exact ⟨v, kc z⟩
end LM

set_option linter.all false
namespace LM
open PySem PySem.Spec PyProof.Rows L2
open LamX (Tabs TabS ExtN TabB CodeO GivesTo)
/-- what a call binds -/
def bnds (κ : LK) (u : Value) : List (Str × Value) := match κ with
  | .plain => []
  | .dflt x _ => [(x, u)]
def LK.loc (κ : LK) (scope : Scope) : Prop := match κ with
  | .plain => True
  | .dflt x _ => scope.names.lookup x = some .local
/-- what is known of a lambda's text, and of its body -/
structure LOk (Z : Cx) (q : Str) (cl : List (Str × Addr)) (L : LTx) (κ : LK) (k : Nat) (t : XK → TE) : Prop where
  ls : LS Z.N L.scope
  has : L.has κ
  loc : κ.loc L.scope
  body : ∀ (A : Around) (outer : List Env) (s : Shared) (H : Hp) (E : XK) (f c1 : Addr), Room k (A.deeper (lenv q cl L.scope s.heap.objs.size f c1)) → PE (lcx Z q cl A outer s H E L.scope f c1) L.body (t E)
/-- x(), in the def that got the lambda -/
theorem act {Z : Cx} {CXg : CXT} {Eg : XK} {Ng : List Str} {qg q : Str} {sg : Scope} {g f : Addr} {cdg : Value} {L : LTx} {κ : LK} {cl : List (Str × Addr)} {k i : Nat} {a : Str} {pn : List (Addr × Obj)} {xe : Value → Shared → Prop} {W : WX} {E : XK} {t : XK → TE} {p1 p2 : Pos} {A : Around} {stk : List Env} {s : Shared} {H : Hp} {σ : L2.St}
    (O : LOk Z q cl L κ k t) (ck : CellsOk Z.N cl L.scope σ H s.heap) (hl : σ.length = Z.N.length)
    (tk : Takes ((cxOf CXg Z.prog Z.w Z.K Z.mg Z.base Ng qg sg g cdg A stk s H Eg).tr pn xe) W) (hW : ∀ cls d σ' H', E cls d H' → W cls d σ' H') (hr : Room (k + 1) (A.deeper (envOfC qg sg s.heap.objs.size g cdg)))
    (hN : Ng[i]? = some a) (hv : Vis sg a) (hd : (a == ("__debug__" : Str)) = false := by decide) (hcd : (a == ("__classdict__" : Str)) = false := by decide) :
    PE ((cxOf CXg Z.prog Z.w Z.K Z.mg Z.base Ng qg sg g cdg A stk s H Eg).tr pn xe) (.Call (.Name a p1) [] [] p2) (fun σZ HZ Q => σZ[i]? = some (some (.ref f)) ∧ LamV L κ q cl HZ f ∧ t E σ HZ Q) := by
  refine ⟨fun pinsZ sZ σZ HZ Q IZ h => ?_⟩
  obtain ⟨hs, hlam, ht⟩ := h
  refine wpAny_Call_Name_kw (thn ((pe_var (pos := p1) (i := i) hN hv hd hcd).run pinsZ sZ σZ HZ (fun v H1 => v = .ref f ∧ H1 = HZ) IZ ⟨.ref f, hs, rfl, rfl⟩) fun u s1 ⟨v, H1, I1, r1, q1⟩ => ?_)
  obtain ⟨ev, eH⟩ := q1
  subst ev
  rw [eH] at I1
  obtain rfl : u = Value.ref f := r1
  obtain ⟨dV, c1, l1, l2, l3⟩ := hlam
  obtain ⟨⟨doc, pm, ct, ob⟩, _, _⟩ := I1.hok f _ l1
  obtain ⟨⟨oc, vs, tt, hoc, hdc, hvc⟩, _, _⟩ := I1.hok c1 _ l2
  refine PySem.W.callWith_F0 ⟨_, _, _, _, ob⟩ ?_
  have un : Un (frs stk) [] H HZ s.heap s1.heap := I1.base
  have ck1 := ck.un un fun _ _ _ z => nomatch z
  -- what the call binds
  obtain ⟨u, hbd⟩ : ∃ u, BindsTo s1 (L.fn q cl dV doc pm (.ref c1) ct) ⟨[], []⟩ (bnds κ u) := by
    have hh := O.has
    cases κ with
    | plain =>
      have l3 : dV = .none := l3
      subst l3
      exact ⟨.none, .of_eq (hh.2.2 _ _ _ _ _ _)⟩
    | dflt x v =>
      obtain ⟨tp, rfl, ht2⟩ := l3
      obtain ⟨_, its, rv, o, ho, hcl, n, hdt⟩ := I1.hok tp _ ht2
      cases rv with
      | cons r rr =>
        cases rr
        obtain ⟨kk, e1, e2⟩ := hh.2.2 q cl tp doc pm (.ref c1) ct
        exact ⟨_, BindsTo.of_defaults rfl ho hdt e1 (e2 _)⟩
  have rc : codeAny (model Z.prog Z.w) (A.deeper (envOfC qg sg s.heap.objs.size g cdg)) (.call (.ref f) ⟨[], []⟩) (CR (L2.CX Z.prog Z.w) (envOfC qg sg s.heap.objs.size g cdg :: stk) Z.prog Z.w HZ s1 Q E) s1 := by
    refine PySem.W.kla_callFunE hr.depth ob rfl O.ls.co O.ls.gen rfl ⟨c1, oc, vs, tt, rfl, hoc, hdc, hvc⟩ (hbd _ _ _ _ ?_)
    refine wpAny_newFunctionEnv (fun y hy => O.ls.cell y hy) (fun y hy => ?_) (fun h1 hns hsb => ⟨I1.nolimit.fresh _ hsb, ?_⟩) O.ls.kind
    · have hh := O.loc
      cases κ with
      | plain => exact absurd hy (by simp [bnds])
      | dflt x v =>
        obtain rfl : y = (x, u) := by simpa [bnds] using hy
        exact hh
    have kp : ∀ b o, s1.heap.get? b = some o → h1.get? b = some o := fun b o e => hsb.extBut b o (Nat.ne_of_lt (Heap.lt_size e)) (Heap.get?_push_of_some _ e)
    have J : Inv (lcx Z q cl (A.deeper (envOfC qg sg s.heap.objs.size g cdg)) (envOfC qg sg s.heap.objs.size g cdg :: stk) s1 HZ E L.scope f c1) [] σ HZ { s1 with heap := h1, toks := s1.toks + (bnds κ u).length } := start ck1 O.ls hl I1.env0 hr.hd hns kp
    show codeAny _ _ (.expr L.body (lenv q cl L.scope s1.heap.objs.size f c1)) _ _
    refine PySem.W.kla_codeExpr (wpAny_mono ((O.body _ _ s1 HZ E f c1 (hr.deeper _)).run [] _ _ HZ Q J ht) (fun v s2 hq => ?_) fun e s2 hq => hq)
    obtain ⟨w1, H2, J2, rv, qq⟩ := hq
    exact ⟨w1, H2, J2.os, J2.bare, J2.base, J2.hok, rv, qq⟩
  have pass : Passes (L2.CX Z.prog Z.w) ((cxOf CXg Z.prog Z.w Z.K Z.mg Z.base Ng qg sg g cdg A stk s H Eg).tr pn xe) E := passes_call tk hW
  refine wpAny_call (codeAny_mono rc fun r s2 hq => ?_)
  cases r with
  | error e => exact pass pinsZ σZ HZ s1 e s2 I1 hq
  | ok fl =>
    cases fl with
    | ret u => exact I1.after hq
    | next => exact hq.elim
    | brk => exact hq.elim
    | cont => exact hq.elim
/-- the def that calls what it got, and all that is known of it -/
structure Asks (Z : Cx) (x : Str) (q : Str) (k : Nat) (TT : (XK → Hp → VK → Prop) → Hp → VK → Prop) : Prop where
  ex : ∃ (g : Addr) (pg : Arguments) (bg : List Stmt) (sg : Scope) (dV kV doc pm cdv ct oc : Value) (an od : Option Addr) (osl : Array (Option Value)) (Ng : List Str) (a : Str),
    Z.mg x = some (.ref g) ∧ PySem.W.keepIn Z.K (.ref g) = true ∧ Z.K.lookup g = some ⟨oc, od, .func (PySem.W.fnOf x x pg bg sg dV kV doc pm an cdv ct), osl⟩ ∧ PySem.W.codeIn Z.K cdv x = true ∧
    L2.Binds Z.K (PySem.W.fnOf x x pg bg sg dV kV doc pm an cdv ct) [a] [] ∧ FnScope Ng [a] sg ∧ Ng[0]? = some a ∧ Vis sg a ∧ (a == ("__debug__" : Str)) = false ∧ (a == ("__classdict__" : Str)) = false ∧ GivesTo Z Ng x sg g cdv bg a q TT
  db : (x == ("__debug__" : Str)) = false
theorem vals_one {v : V} {us : List Value} (r : Vals [v] us) : ∃ u, us = [u] ∧ RelV v u := by
  cases r with
  | cons r rr =>
    cases rr
    exact ⟨_, rfl, r⟩
/-- x(e), e a lambda that was made in this def or around it: what its cells hold is told at this very state -/
theorem call_lam {Z : Cx} {x q : Str} {k : Nat} {TT : (XK → Hp → VK → Prop) → Hp → VK → Prop} {e : Expr} {te : TE} {p pos : Pos} {pins : List (Addr × Obj)} {s : Shared} {σ : L2.St} {H : Hp} {Q : VK} (I : Inv Z pins σ H s) (As : Asks Z x q k TT) (hg : Gl Z x) (hr : Room (k + 2) Z.A) (he : PE Z e te)
    (hte : te σ H fun v H1 => ∃ (f : Addr) (L : LTx) (κ : LK) (cl : List (Str × Addr)) (t : XK → TE), v = .ref f ∧ LOk Z q cl L κ k t ∧ (∀ s1 : Shared, Inv Z pins σ H1 s1 → CellsOk Z.N cl L.scope σ H1 s1.heap) ∧ LamV L κ q cl H1 f ∧ TT (fun E H' Q' => LamV L κ q cl H' f ∧ t E σ H' Q') H1 Q)
    (hse : starEach [e] Z.env = [(false, eval e Z.env)]) : wpAny (model Z.prog Z.w) Z.A (eval (.Call (.Name x p) [e] [] pos) Z.env) (EP Z pins σ Q) Z.xe s := by
  obtain ⟨g, pg, bg, sg, dV, kV, doc, pm, cdv, ct, oc, an, od, osl, Ng, a, hm, hk, lk, hcg, hb, Sg, hNg, hva, hda, hca, hG⟩ := As.ex
  refine wpAny_Call_Name_kw (ld_glob I hg hm ?_ As.db)
  refine PySem.W.callWith_K (h₀ := Z.base) I.ok.mod.kin hk ?_ (by rw [hse]; rfl) (by rfl)
  rw [hse]
  refine Calls.spliced_cons (thn (he.run pins s σ H _ I hte) fun u s1 ⟨v, H1, I1, r1, f, L, κ, cl, t, e1, O, ck, lv, h⟩ => ?_)
  subst e1
  obtain rfl : u = Value.ref f := r1
  refine Calls.spliced_nil ⟨I1.kIn, ?_⟩
  obtain ⟨dL, c1, l1, l2, l3⟩ := id lv
  have rc : codeAny (model Z.prog Z.w) Z.A (.call (.ref g) ⟨[.ref f], []⟩) (CR C8.CX0 Z.stack Z.prog Z.w H1 s1 Q C8.E0) s1 := by
    refine LamX.run_ofS (N := Ng) (ps := [a]) (us := [.ref f]) (vs := [.ref f]) lk hcg Sg hr I1.env0 (hb s1 [.ref f] I1.kIn rfl) (.cons rfl .nil) rfl fun hr1 => ?_
    refine (hG f c1 s1 H1 Q (fun E H' Q' => LamV L κ q cl H' f ∧ t E σ H' Q') (fun W pn xe E p1 p2 tk hW => ?_) l2 h).elim fun t1 z => ⟨t1, z.1.nox, z.2⟩
    have ac := act (p1 := p1) (p2 := p2) O (ck s1 I1) I1.len tk hW hr1 hNg hva hda hca (f := f)
    exact ⟨fun pn2 s2 σ2 H2 Q2 I2 h2 => ac.run pn2 s2 σ2 H2 Q2 I2 ⟨h2.1, h2.2.2⟩⟩
  refine wpAny_call (codeAny_mono rc fun r s2 hq => ?_)
  cases r with
  | error z => exact (show False from hq).elim
  | ok fl =>
    cases fl with
    | ret z => exact I1.after hq
    | next => exact hq.elim
    | brk => exact hq.elim
    | cont => exact hq.elim
end LM

set_option linter.all false
/-! [e for target in iter], where e may look at what the cells of the def around hold -/
namespace LM
open PySem PySem.Spec PyProof.Rows L2
/-- the element's reading may rest on the state in which the block begins -/
def EltOk (X : Cx) (σ : L2.St) (scope : Scope) (vs : List Nat) (elt : Expr) (te : TE) : Prop :=
  ∀ (pins0 : List (Addr × Obj)) (sB : Shared) (HB : Hp) (C : Addr) (cl : List (Str × Addr)) (fp : List Addr), Inv X pins0 σ HB sB → (∀ b ∈ fp, ∀ y c, X.env.cells.lookup y = some c → c ≠ b) →
    ∀ (pins : List (Addr × Obj)) (s : Shared) (σE : L2.St) (H : Hp) (Q : VK), wipe σE vs = wipe σ vs → Inv (X.blk sB HB scope (compEnvC scope cl C X.env) fp) pins σE H s → te σE H Q →
      wpAny (model X.prog X.w) X.A (eval elt (compEnvC scope cl C X.env)) (EP (X.blk sB HB scope (compEnvC scope cl C X.env) fp) pins σE Q) (fun _ _ => False) s
section
variable {X : Cx} {pins : List (Addr × Obj)} {s : Shared} {σ : L2.St} {H : Hp} {Q : VK} {elt tg iter : Expr} {scope : Scope} {own : List (Str × Nat)} {pos : Pos} {wi : TI} {g : TG} {te : TE}
theorem lcx_run (calm : X.calm = true) (nd : X.N.Nodup) (I : Inv X pins σ H s) (hi : PI X tg iter wi) (ok : BlkOk X.N X.env.scope scope own)
    (hg : ∀ (s : Shared) (H : Hp) (C : Addr) (cl : List (Str × Addr)) (fp : List Addr), PG (X.blk s H scope (compEnvC scope cl C X.env) fp) tg g) (he : EltOk X σ scope (own.map (·.2)) elt te) (hs : ∀ x, foldedSetIterable iter X.env x = pure x)
    (h : tLc wi g tYes te (own.map (·.2)) σ H Q) : wpAny (model X.prog X.w) X.A (eval (.ListComp elt [⟨tg, iter, [], 0⟩] scope pos) X.env) (EP X pins σ Q) X.xe s := by
  rw [eval_ListComp]
  have fr : ∀ y ∈ scope.names, y.2 = .free → ∃ c, X.env.cells.lookup y.1 = some c := fun y hy e => (ok.free y hy e).elim (fun z => I.ok.has _ (.inl z)) fun z => I.ok.has _ (.inr z)
  refine wpAny_comprehension_free (use := none) rfl hs (closure_ok fr) ok.kind (fun y hy e => by rw [ok.uniq y hy, e])
    (thn (hi.run pins s σ H _ I h) fun xv sa hx => thn hx fun itv sb hz => ?_)
  obtain ⟨it, fp, tn, J, Hb, rfl, Ib, T, stb, fb, qb⟩ := hz
  refine wpAny_newObj_type (newEnv_comp ?_) (by show 0 ≤ sizeLine; decide)
  obtain ⟨D, hD⟩ : ∃ D, sb.heap.objs.size = D := ⟨_, rfl⟩
  have nD : Hb D = none := Ib.hok.fresh (Nat.le_of_eq hD)
  obtain ⟨W, ⟨m0, w0⟩, turn⟩ := qb D nD
  rw [hD]
  have Ic0 : Inv X pins σ (upd Hb D (.lst [])) { sb with heap := sb.heap.push { cls := .type "list", data := .seq ([] : List Value).toArray } } :=
    Ib.laid (t' := sb.toks) (fun b o e => Heap.get?_push_of_some _ e) (Nat.le_of_eq hD) ⟨Nat.zero_le _, [], 0, .nil, by rw [← hD]; exact Heap.get?_push_size _ rfl⟩
  have fpl : ∀ b ∈ fp, b < sb.heap.objs.size := fun b hb => (T.obj _ _ stb b hb).elim fun o e => Heap.lt_size e.1
  have heq0 : ({ sb with heap := sb.heap.push { cls := .type "list", data := .seq ([] : List Value).toArray } } : Shared).heap = sb.heap.push { cls := .type "list", data := .seq ([] : List Value).toArray } := rfl
  generalize hsc : ({ sb with heap := sb.heap.push { cls := .type "list", data := .seq ([] : List Value).toArray } } : Shared) = sc at Ic0 heq0 ⊢
  obtain ⟨Hc, hHc⟩ : ∃ Hc, upd Hb D (.lst []) = Hc := ⟨_, rfl⟩
  rw [hHc] at Ic0 w0
  have fc : ∀ b ∈ fp, FpOk X pins Hc b ∧ b < sc.heap.objs.size := fun b hb => by
    have lt := fpl b hb
    have ne : b ≠ D := hD ▸ Nat.ne_of_lt lt
    refine ⟨⟨?_, (fb b hb).2⟩, by rw [heq0, Heap.size_push]; exact Nat.lt_succ_of_lt lt⟩
    rw [← hHc, upd_ne ne]
    exact (fb b hb).1
  have stc : tn 0 sc.heap := T.keep _ _ _ stb fun b _ o e => by rw [heq0]; exact Heap.get?_push_of_some _ e
  have Id := block_start Ic0 ok nd fc
  generalize hcl : cellsFrom (sc.heap.objs.size + 1) scope.names (cloFrom X.env.cells scope.names []) = cl at Id
  have goal2 : codeAny (model X.prog X.w) X.A (.compStart (.ListComp elt [⟨tg, iter, [], 0⟩] scope pos) 0 (.ref it) (.ref D) (compEnvC scope cl sc.heap.objs.size X.env)) (compPost (model X.prog X.w) X.A X.xe none (EP X pins σ Q) (.ref D) sc.heap.objs.size) { sc with heap := pushCells (sc.heap.push { cls := .type "dict", data := .dict #[] }) scope.names } := by
    have ee := he pins sc Hc sc.heap.objs.size cl fp Ic0 fun b hb y c e => (fc b hb).1.2.2.2.2.1 y c e
    have gg := hg sc Hc sc.heap.objs.size cl fp
    have nB : ∀ b ∈ fp, Hc b = none := fun b hb => (fc b hb).1.1
    have std : tn 0 (pushCells (sc.heap.push { cls := .type "dict", data := .dict #[] }) scope.names) := T.keep _ _ _ stc fun b _ o e => pushCells_keeps _ _ _ _ (Heap.get?_push_of_some _ e)
    obtain ⟨ce, hce⟩ : ∃ ce, compEnvC scope cl sc.heap.objs.size X.env = ce := ⟨_, rfl⟩
    have lce : ce.locals = sc.heap.objs.size := by rw [← hce]; rfl
    rw [hce] at ee gg Id ⊢
    -- the iterator's objects, in the block
    have fpB : ∀ {σ1 : L2.St} {H1 : Hp} {s1 : Shared}, Inv (X.blk sc Hc scope ce fp) [] σ1 H1 s1 → (∀ b ∈ fp, H1 b = none) → ∀ b ∈ fp, FpOk (X.blk sc Hc scope ce fp) [] H1 b := fun {σ1 H1 s1} J n b hb =>
      ⟨n b hb, (J.ok.exf b hb).1, J.ok.exfs b hb, .inl hb, fun y c e => (J.ok.exf b hb).2 y c e, fun q hq => absurd (show q ∈ ([] : List (Addr × Obj)) ++ [] from hq) (by simp)⟩
    have turns : codeAny (model X.prog X.w) X.A (.compLoop (.ListComp elt [⟨tg, iter, [], 0⟩] scope pos) 0 (.ref it) (.ref D) ce) (compPost (model X.prog X.w) X.A X.xe none (EP X pins σ Q) (.ref D) sc.heap.objs.size) { sc with heap := pushCells (sc.heap.push { cls := .type "dict", data := .dict #[] }) scope.names } := by
      refine compLoop_any (fun n s1 => ∃ j H1, W j n H1 ∧ Inv (X.blk sc Hc scope ce fp) [] (wipe σ (own.map (·.2))) H1 s1 ∧ (∀ b ∈ fp, H1 b = none) ∧ tn j s1.heap) ?_ m0 ⟨0, Hc, w0, Id, nB, std⟩
      rintro n s1 ⟨j, H1, w1, I1, n1, st1⟩
      rcases turn j n H1 w1 with ⟨stop, fin⟩ | ⟨go, Nx, less, step⟩
      · refine thnF (T.done (X.blk sc Hc scope ce fp) rfl rfl rfl calm j [] s1 _ H1 (fun _ _ => False) I1 (fpB I1 n1) st1 stop) fun r s2 ⟨er, I2⟩ => ?_
        subst er
        have back : Inv X pins σ H1 s2 := Ic0.call' (ch := fp) I2.os I2.base I2.hok I2.bare fun b hb =>
          let z := (fc b hb).1
          ⟨z.2.2.2.1, z.2.1, z.2.2.2.2.1, z.2.2.2.2.2⟩
        have nL : H1 sc.heap.objs.size = none := lce ▸ I2.free
        obtain ⟨mm, hn, _⟩ := I2.loc
        refine ⟨mm, lce ▸ hn, fun g2 sb2 => ?_⟩
        obtain ⟨f0, f1, f2, f3, f4, f5⟩ := Ic0.fpOk (Nat.le_refl _) nL
        have fr3 : FpOk X pins H1 sc.heap.objs.size := Ic0.fpOk (Nat.le_refl _) nL
        exact ⟨.ref D, H1, back.turned (t' := s2.toks) (fun b o hb e => (sb2.2 b hb).trans e) f0 f1 f3 f4 f5, rfl, fin⟩
      · refine thnF (T.item (X.blk sc Hc scope ce fp) rfl rfl rfl calm j [] s1 _ H1 (fun _ _ => False) I1 (fpB I1 n1) st1 go) fun r s2 ⟨u, er, h2⟩ => ?_
        subst er
        refine thnF h2 fun _ s3 ⟨x, H3, I3, r3, y3, st3, n3⟩ => ?_
        have J3 := I3.pinned (fpB I3 n3) (T.obj _ _ st3)
        refine thnF (gg.run _ s3 _ H3 x u _ J3 r3 (step x H3 y3)) fun _ s4 ⟨σ4, H4, I4, wp4, q4⟩ => ?_
        refine wpAny_tests_nil ?_
        have q5 : te σ4 H4 fun y H5 => ∃ acc, H5 D = some (.lst acc) ∧ acc.length < sizeLine ∧ Nx (upd H5 D (.lst (acc ++ [y]))) := by
          have z : (if true = true then (te σ4 H4 fun y H5 => ∃ acc, H5 D = some (.lst acc) ∧ acc.length < sizeLine ∧ Nx (upd H5 D (.lst (acc ++ [y])))) else Nx H4) := q4
          rwa [if_pos rfl] at z
        simp only [if_true]
        refine thnF (ee _ s4 σ4 H4 _ wp4 I4 q5) fun z s5 ⟨yv, H5, I5, r5, acc, hD5, lt5, nx⟩ => ?_
        refine app_ok (X := X.blk sc Hc scope ce fp) I5 hD5 lt5 r5 fun s6 I6 => ?_
        obtain ⟨m1, lm, w6⟩ := less _ nx
        have pin6 : ∀ b ∈ fp, ∀ o, s3.heap.get? b = some o → s6.heap.get? b = some o ∧ upd H5 D (.lst (acc ++ [yv])) b = none := fun b hb o e =>
          let z := I6.pin (b, o) (List.mem_append_right _ (List.mem_append_right _ (mem_pinsAt hb e)))
          ⟨z.1, z.2.1⟩
        have ll : (wipe σ (own.map (·.2))).length = σ4.length := by rw [← wp4, wipe_length]
        refine ⟨m1, lm, j + 1, _, w6, (I6.unpinned (pins := [])).weak ll (fun i v e => ?_), fun b hb => ?_, T.keep _ _ _ st3 fun b hb o e => (pin6 b hb o e).1⟩
        · rw [← wp4] at e
          exact (wipe_some e).1
        · obtain ⟨o, e, _⟩ := T.obj _ _ st3 b hb
          exact (pin6 b hb o e).2
    exact codeAny_compStart_list turns (T.self X.A 0 _ _ _ std turns)
  exact goal2
end
end LM

set_option linter.all false
/-! _law_why(lambda ..), _law_why(name), [_law_why(name) for name in list] -/
namespace LM
open PySem PySem.Spec PyProof.Rows L2
open LamX (Tabs TabS ExtN TabB CodeO GivesTo)
/-- a lambda that the def makes: its text, what its call binds, its cells, its body's reading -/
structure LEnt where
  L : LTx
  κ : LK
  cl : List (Str × Addr)
  t : XK → TE
/-- all that is told of it -/
structure LGo (X : Cx) (k : Nat) (m : LEnt) : Prop where
  ok : LOk X (lq X) m.cl m.L m.κ k m.t
  cl : m.cl = clo X m.L
  free : ∀ y ∈ m.L.scope.names, y.2 = .free → X.env.scope.names.lookup y.1 = some .cell ∨ X.env.scope.names.lookup y.1 = some .free
def tAsk (TT : (XK → Hp → VK → Prop) → Hp → VK → Prop) (q : Str) (ls : List LEnt) (te : TE) : TE := fun σ H Q => te σ H fun v H1 => ∃ (f : Addr) (m : LEnt), m ∈ ls ∧ v = .ref f ∧ LamV m.L m.κ q m.cl H1 f ∧ TT (fun E H' Q' => LamV m.L m.κ q m.cl H' f ∧ m.t E σ H' Q') H1 Q
section
variable {X : Cx} {x : Str} {k : Nat} {TT : (XK → Hp → VK → Prop) → Hp → VK → Prop} {ls : List LEnt} {p pos : Pos}
theorem pe_ask {e : Expr} {te : TE} (As : Asks X x (lq X) k TT) (hg : Gl X x) (hr : Room (k + 2) X.A) (hls : ∀ m ∈ ls, LGo X k m) (he : PE X e te) (mono : ∀ σ H (Q1 Q2 : VK), (∀ v H', Q1 v H' → Q2 v H') → te σ H Q1 → te σ H Q2) (hse : starEach [e] X.env = [(false, eval e X.env)] := by rfl) : PE X (.Call (.Name x p) [e] [] pos) (tAsk TT (lq X) ls te) := by
  refine ⟨fun pins s σ H Q I h => call_lam I As hg hr he (mono σ H _ _ (fun v H1 z => ?_) h) hse⟩
  obtain ⟨f, m, hm, rfl, lv, z⟩ := z
  have G := hls m hm
  refine ⟨f, m.L, m.κ, m.cl, m.t, rfl, G.ok, fun s1 I1 => ?_, lv, z⟩
  rw [G.cl]
  exact cells_of I1 G.free
/-- the names of the comprehension are none of the lambda's -/
def OffOwn (own : List (Str × Nat)) (m : LEnt) : Prop := ∀ y ∈ m.L.scope.names, y.2 = .free → y.1 ∉ own.map (·.1)
theorem wipe_off {σ : L2.St} {i : Nat} : ∀ {vs : List Nat}, i ∉ vs → (wipe σ vs)[i]? = σ[i]?
  | [], _ => rfl
  | v :: vs, h => by
    unfold wipe
    rw [List.getElem?_set_ne (fun z => h (by simp [z]))]
    exact wipe_off fun z => h (List.mem_cons_of_mem _ z)
/-- x(v) within the block -/
def tAskV (TT : (XK → Hp → VK → Prop) → Hp → VK → Prop) (q : Str) (ls : List LEnt) (j : Nat) : TE := fun σ H Q => ∃ (f : Addr) (m : LEnt), m ∈ ls ∧ σ[j]? = some (some (.ref f)) ∧ LamV m.L m.κ q m.cl H f ∧ TT (fun E H' Q' => LamV m.L m.κ q m.cl H' f ∧ m.t E σ H' Q') H Q
theorem pe_lcask {j : Nat} {tg iter e : Expr} {scope : Scope} {own : List (Str × Nat)} {wi : TI} {g : TG} {pos2 : Pos} (As : Asks X x (lq X) k TT) (hr : Room (k + 2) X.A) (hls : ∀ m ∈ ls, LGo X k m ∧ OffOwn own m) (calm : X.calm = true) (nd : X.N.Nodup) (hi : PI X tg iter wi) (ok : BlkOk X.N X.env.scope scope own)
    (hg : ∀ (s : Shared) (H : Hp) (C : Addr) (cl : List (Str × Addr)) (fp : List Addr), PG (X.blk s H scope (compEnvC scope cl C X.env) fp) tg g)
    (hgl : ∀ (s : Shared) (H : Hp) (C : Addr) (cl : List (Str × Addr)) (fp : List Addr), Gl (X.blk s H scope (compEnvC scope cl C X.env) fp) x)
    (hv : ∀ (s : Shared) (H : Hp) (C : Addr) (cl : List (Str × Addr)) (fp : List Addr), PE (X.blk s H scope (compEnvC scope cl C X.env) fp) e (tVar j)) (hse : ∀ env : Env, starEach [e] env = [(false, eval e env)] := by intro _; rfl)
    (hs : ∀ x, foldedSetIterable iter X.env x = pure x := by intro _; rfl) : PE X (.ListComp (.Call (.Name x p) [e] [] pos) [⟨tg, iter, [], 0⟩] scope pos2) (tLc wi g tYes (tAskV TT (lq X) ls j) (own.map (·.2))) := by
  refine ⟨fun pins s σ H Q I h => lcx_run calm nd I hi ok hg ?_ hs h⟩
  intro pins0 sB HB C cl fp I0 nfp pn s1 σE H1 Q1 hw J z
  obtain ⟨f, m, hm, hj, lv, z⟩ := z
  obtain ⟨G, off⟩ := hls m hm
  refine call_lam (Z := X.blk sB HB scope (compEnvC scope cl C X.env) fp) (q := lq X) (TT := TT) (k := k) J ⟨As.ex, As.db⟩ (hgl sB HB C cl fp) hr (hv sB HB C cl fp) ⟨.ref f, hj, f, m.L, m.κ, m.cl, m.t, rfl, ⟨G.ok.ls, G.ok.has, G.ok.loc, G.ok.body⟩, fun s2 J2 => ?_, lv, z⟩ (hse _)
  have c0 : CellsOk X.N m.cl m.L.scope σ HB sB.heap := by
    rw [G.cl]
    exact cells_of I0 G.free
  have c1 : CellsOk X.N m.cl m.L.scope σ H1 s2.heap := c0.un J2.base fun y c e hb => by
    rw [G.cl] at e
    exact nfp c hb y c (clo_lk I0.ok G.free e) rfl
  refine c1.slots fun i y u e1 e2 e3 => ?_
  have ni : i ∉ own.map (·.2) := fun hi => by
    rw [List.mem_map] at hi
    obtain ⟨o, ho, rfl⟩ := hi
    have := ok.ix o ho
    rw [e1] at this
    exact off (y, .free) (PySem.mem_of_lookup e2) rfl (List.mem_map.mpr ⟨o, ho, (Option.some.inj this).symm⟩)
  rw [← wipe_off ni, ← hw, wipe_off ni]
  exact e3
/-- one after the other: what is told of a list of lambdas at a, the answers at D -/
def Chain (TT : (XK → Hp → VK → Prop) → Hp → VK → Prop) (q : Str) (ls : List LEnt) (j : Nat) (σ : L2.St) (K : PySem.W.Frag) (a D : Addr) (all : List V) (Qd : Hp → Prop) : List Addr → Hp → Prop
  | [], H => Qd H
  | f :: r, H => ∃ m : LEnt, m ∈ ls ∧ LamV m.L m.κ q m.cl H f ∧ TT (fun E H' Q' => LamV m.L m.κ q m.cl H' f ∧ m.t E (σ.set j (some (.ref f))) H' Q') H fun y H4 =>
      ∃ acc, H4 D = some (.lst acc) ∧ acc.length < sizeLine ∧ SqL K (upd H4 D (.lst (acc ++ [y]))) a all ∧ Chain TT q ls j σ K a D all Qd r (upd H4 D (.lst (acc ++ [y])))
theorem lc_ask {K : PySem.W.Frag} {q : Str} {j : Nat} {σ : L2.St} {H1 : Hp} {D a : Addr} {Qd : Hp → Prop} {vs : List Nat} (fs : List Addr) (hj : j < σ.length) (h0 : SqL K (upd H1 D (.lst [])) a (fs.map V.ref)) (hset : ∀ u, wipe ((wipe σ vs).set j u) vs = wipe σ vs)
    (hc : Chain TT q ls j (wipe σ vs) K a D (fs.map V.ref) Qd fs (upd H1 D (.lst []))) :
    ∃ W : Nat → Nat → Hp → Prop, (∃ m, W 0 m (upd H1 D (.lst []))) ∧ ∀ i m H, W i m H →
      ((Itl K a).stop i H ∧ Qd H) ∨ ((Itl K a).go i H ∧ ∃ Nx : Hp → Prop, (∀ H', Nx H' → ∃ m', m' < m ∧ W (i + 1) m' H') ∧ ∀ x H', (Itl K a).yld i H x H' → gName j x (wipe σ vs) H' fun σ2 H2 => wipe σ2 vs = wipe σ vs ∧ tYes σ2 H2 fun b H3 =>
        if b = true then tAskV TT q ls j σ2 H3 fun y H4 => ∃ acc, H4 D = some (.lst acc) ∧ acc.length < sizeLine ∧ Nx (upd H4 D (.lst (acc ++ [y]))) else Nx H3) := by
  refine ⟨fun i m H => m = fs.length - i ∧ i ≤ fs.length ∧ SqL K H a (fs.map V.ref) ∧ Chain TT q ls j (wipe σ vs) K a D (fs.map V.ref) Qd (fs.drop i) H, ⟨fs.length, by simp, Nat.zero_le _, h0, hc⟩, ?_⟩
  rintro i m H ⟨rfl, hi, hS, ch⟩
  by_cases hlt : i < fs.length
  · have ed : fs.drop i = fs[i] :: fs.drop (i + 1) := List.drop_eq_getElem_cons hlt
    rw [ed] at ch
    obtain ⟨m, hm, lv, z⟩ := ch
    have gx : (fs.map V.ref)[i]? = some (.ref fs[i]) := by simp [hlt]
    refine .inr ⟨⟨_, _, hS, gx⟩, fun H => SqL K H a (fs.map V.ref) ∧ Chain TT q ls j (wipe σ vs) K a D (fs.map V.ref) Qd (fs.drop (i + 1)) H, fun H' p' => ⟨fs.length - (i + 1), by omega, rfl, hlt, p'⟩, fun x H' y => ?_⟩
    obtain ⟨e, y⟩ := y
    subst e
    obtain rfl : V.ref fs[i] = x := Option.some.inj (gx.symm.trans (y _ hS))
    refine ⟨hset _, ?_⟩
    show (if true = true then _ else (SqL K H' a (fs.map V.ref) ∧ Chain TT q ls j (wipe σ vs) K a D (fs.map V.ref) Qd (fs.drop (i + 1)) H'))
    rw [if_pos rfl]
    exact ⟨fs[i], m, hm, List.getElem?_set_self (by rw [wipe_length]; exact hj), lv, z⟩
  · have e : i = fs.length := by omega
    subst e
    rw [List.drop_length] at ch
    exact .inl ⟨⟨_, hS, by simp⟩, ch⟩
theorem mono_var {j : Nat} : ∀ (σ : L2.St) (H : Hp) (Q1 Q2 : VK), (∀ v H', Q1 v H' → Q2 v H') → tVar j σ H Q1 → tVar j σ H Q2 := fun σ H Q1 Q2 h ⟨v, e, q⟩ => ⟨v, e, h _ _ q⟩
theorem mono_lamv {T : List (Addr × Str)} {L : LTx} {κ : LK} {q : Str} {cl : List (Str × Addr)} : ∀ (σ : L2.St) (H : Hp) (Q1 Q2 : VK), (∀ v H', Q1 v H' → Q2 v H') → tLamV T L κ q cl σ H Q1 → tLamV T L κ q cl σ H Q2 := fun σ H Q1 Q2 h ⟨a, b⟩ => ⟨a, fun f H1 x y z n => h _ _ (b f H1 x y z n)⟩
end
end LM

set_option linter.all false
/-! a lambda's text by its place; _law_why out of what is known of it -/
namespace LM
open PySem PySem.Spec PyProof.Rows L2
open LamX (Tabs TabS ExtN TabB CodeO GivesTo)
def lamT : Expr → LTx
  | .Lambda p b s _ => ⟨p, b, s⟩
  | e => ⟨⟨[], [], none, [], [], none, []⟩, e, default⟩
/-- _law_why(lambda ..) at its own def's table -/
def tAskL (TT : (XK → Hp → VK → Prop) → Hp → VK → Prop) (T : List (Addr × Str)) (q : Str) (m : LEnt) : TE := fun σ H Q => Tabs T H ∧ ∀ f H1, ExtN H H1 → Tabs T H1 → LamV m.L m.κ q m.cl H1 f → H f = none → TT (fun E H' Q' => LamV m.L m.κ q m.cl H' f ∧ m.t E σ H' Q') H1 Q
theorem pe_askl {X : Cx} {x : Str} {k : Nat} {TT : (XK → Hp → VK → Prop) → Hp → VK → Prop} {T : List (Addr × Str)} {c P : Addr} {m : LEnt} {e : Expr} {p lpos pos : Pos} (he : e = .Call (.Name x p) [.Lambda m.L.params m.L.body m.L.scope lpos] [] pos) (As : Asks X x (lq X) k TT) (hg : Gl X x) (hr : Room (k + 2) X.A) (G : LGo X k m)
    (TB : TabB X.base X.mg c P) (hcode : X.env.code = .ref c) (hm : (P, lq X) ∈ T) (hu : ∀ p ∈ T, p.1 = P → p.2 = lq X) : PE X e (tAskL TT T (lq X) m) := by
  rw [he]
  have h1 := pe_ask (p := p) (pos := pos) (ls := [m]) As hg hr (fun m1 hm1 => by rw [List.mem_singleton.mp hm1]; exact G) (pe_lamv (pos := lpos) (L := m.L) (κ := m.κ) TB hcode hm hu G.free G.ok.has) mono_lamv rfl
  refine ⟨fun pins s σ H Q I h => h1.run pins s σ H Q I ⟨h.1, fun f H1 a b lv n => ⟨f, m, List.mem_singleton.mpr rfl, rfl, ?_, ?_⟩⟩⟩
  · rw [← G.cl] at lv
    exact lv
  · rw [← G.cl] at lv
    exact h.2 f H1 a b lv n
/-- what is to be shown of a lambda, its text laid open -/
theorem go_of {X : Cx} {e : Expr} {κ : LK} {k : Nat} {t : XK → TE} (h : ∃ p b sc lp, e = .Lambda p b sc lp ∧ lsB X.N sc = true ∧ freeB X.env.scope sc = true ∧ LTx.has ⟨p, b, sc⟩ κ ∧ κ.loc sc ∧
    ∀ (A : Around) (outer : List Env) (s : Shared) (H : Hp) (E : XK) (f c1 : Addr), Room k (A.deeper (lenv (lq X) (clo X (lamT e)) sc s.heap.objs.size f c1)) → PE (lcx X (lq X) (clo X (lamT e)) A outer s H E sc f c1) b (t E)) : LGo X k ⟨lamT e, κ, clo X (lamT e), t⟩ := by
  obtain ⟨p, b, sc, lp, he, h1, h2, h3, h4, h5⟩ := h
  have el : lamT e = ⟨p, b, sc⟩ := by rw [he]; rfl
  rw [el] at h5 ⊢
  exact ⟨⟨ls_by h1, h3, h4, h5⟩, rfl, free_by h2⟩
theorem lamv_of {X : Cx} {T : List (Addr × Str)} {c P : Addr} {e : Expr} {κ : LK} {k : Nat} {t : XK → TE} (h : ∃ lp, e = .Lambda (lamT e).params (lamT e).body (lamT e).scope lp) (G : LGo X k ⟨lamT e, κ, clo X (lamT e), t⟩) (TB : TabB X.base X.mg c P) (hcode : X.env.code = .ref c) (hm : (P, lq X) ∈ T) (hu : ∀ p ∈ T, p.1 = P → p.2 = lq X) :
    PE X e (tLamV T (lamT e) κ (lq X) (clo X (lamT e))) := by
  obtain ⟨lp, he⟩ := h
  have := pe_lamv (pos := lp) (L := lamT e) (κ := κ) TB hcode hm hu G.free G.ok.has
  rw [← he] at this
  exact this
theorem lcask_of {X : Cx} {x : Str} {k : Nat} {TT : (XK → Hp → VK → Prop) → Hp → VK → Prop} {ls : List LEnt} {j : Nat} {lc : Expr} {own : List (Str × Nat)} {wi : TI} {g : TG} (As : Asks X x (lq X) k TT) (hr : Room (k + 2) X.A) (hls : ∀ m ∈ ls, LGo X k m ∧ OffOwn own m) (calm : X.calm = true) (nd : X.N.Nodup)
    (h : ∃ p pos e tg iter scope pos2, lc = .ListComp (.Call (.Name x p) [e] [] pos) [⟨tg, iter, [], 0⟩] scope pos2 ∧ PI X tg iter wi ∧ BlkOk X.N X.env.scope scope own ∧ (∀ (s : Shared) (H : Hp) (C : Addr) (cl : List (Str × Addr)) (fp : List Addr), PG (X.blk s H scope (compEnvC scope cl C X.env) fp) tg g) ∧
      (∀ (s : Shared) (H : Hp) (C : Addr) (cl : List (Str × Addr)) (fp : List Addr), Gl (X.blk s H scope (compEnvC scope cl C X.env) fp) x) ∧ (∀ (s : Shared) (H : Hp) (C : Addr) (cl : List (Str × Addr)) (fp : List Addr), PE (X.blk s H scope (compEnvC scope cl C X.env) fp) e (tVar j)) ∧
      (∀ env : Env, starEach [e] env = [(false, eval e env)]) ∧ ∀ x, foldedSetIterable iter X.env x = pure x) : PE X lc (tLc wi g tYes (tAskV TT (lq X) ls j) (own.map (·.2))) := by
  obtain ⟨p, pos, e, tg, iter, scope, pos2, rfl, h1, h2, h3, h4, h5, h6, h7⟩ := h
  exact pe_lcask As hr hls calm nd h1 h2 h3 h4 h5 h6 h7
def offB (own : List (Str × Nat)) (sc : Scope) : Bool := sc.names.all fun y => !decide (y.2 = .free) || !decide (y.1 ∈ own.map (·.1))
theorem off_by {own : List (Str × Nat)} {m : LEnt} (h : offB own m.L.scope = true) : OffOwn own m := fun y hy e => by
  have z := List.all_eq_true.mp h y hy
  simp only [Bool.or_eq_true, Bool.not_eq_true', decide_eq_false_iff_not] at z
  exact z.elim (fun z => absurd e z) id
end LM

namespace RF
open PySem L2 PyProof.Rows
/-! ### a def that may raise: called by position, by names alone -/
structure DfX (P : Program) (w : World) (K : PySem.W.Frag) (mg : Str → Option Value) (base : Heap) (k : Nat) (x : Str) (ps : List Str) (sp : Sp) : Prop where
  ex : ∃ (f : Addr) (fd : FuncData), FnOk P w K mg base (L2.CX P w) k f fd ps sp ∧ Binds K fd ps [] ∧ mg x = some (.ref f) ∧ PySem.W.keepIn K (.ref f) = true
theorem pe_callX {X : Cx} {j k : Nat} {x : Str} {ps : List Str} {sp : Sp} {E : XK} {p pos : Pos} {e : Expr} {es : List Expr} {t : TA} (F : DfX X.prog X.w X.K X.mg X.base k x ps sp) (hr : Room j X.A) (hk : k ≤ j) (hx : Passes (L2.CX X.prog X.w) X E) (ha : PA X (e :: es) t)
    (hg : Gl X x := by rfl) (hdb : (x == ("__debug__" : Str)) = false := by decide)
    (he : starEach (e :: es) X.env = (false, eval e X.env) :: starEach es X.env := by rfl) (hpl : (backTo pos (starEach es X.env)).any (·.1) = false := by rfl) :
    PE X (.Call (.Name x p) (e :: es) [] pos) (tCall sp [] E t) := by
  obtain ⟨f, fd, G, b, m, kp⟩ := F.ex
  exact pe_call G (hr.mono hk) hg m kp b .nil hx ha hdb he hpl
/-- .. all by names -/
structure DkX (P : Program) (w : World) (K : PySem.W.Frag) (mg : Str → Option Value) (base : Heap) (k : Nat) (x : Str) (ps ks : List Str) (gV : List V → List V → List V) (sp : Sp) : Prop where
  ex : ∃ (f : Addr) (fd : FuncData) (g : List Value → List Value → List Value), FnOk P w K mg base (L2.CX P w) k f fd ps sp ∧ KBn K fd ps 0 ks g gV ∧ mg x = some (.ref f) ∧ PySem.W.keepIn K (.ref f) = true
theorem pe_kX {X : Cx} {j k : Nat} {ps ks : List Str} {sp : Sp} {x : Str} {p pos : Pos} {kws : List Keyword} {tk : TA} {gV : List V → List V → List V} {E : XK} (D : DkX X.prog X.w X.K X.mg X.base k x ps ks gV sp) (hr : Room j X.A) (hj : k ≤ j) (hx : Passes (L2.CX X.prog X.w) X E) (hkw : PK X kws tk) (hg : Gl X x := by rfl)
    (hall : (backToKw pos (keywordEach kws X.env)).all (·.1.isSome) = true := by rfl) (hks : (backToKw pos (keywordEach kws X.env)).filterMap (·.1) = ks := by rfl) (hdb : (x == ("__debug__" : Str)) = false := by decide)
    (hpl : ((backTo pos (starEach [] X.env)).any (·.1) || (backToKw pos (keywordEach kws X.env)).any (·.1.isNone)) = false := by rfl) :
    PE X (.Call (.Name x p) [] kws pos) (tCallN 0 ks.length sp gV E tNil tk) := by
  obtain ⟨f, fd, g, F, hb, hm, hk⟩ := D.ex
  exact pe_callN0 F (hr.mono hj) hg hm hk hb hx hkw hall hks hdb hpl
/-! ### what _law_why makes of an own error -/
open EX in
def EW (K : PySem.W.Frag) (c1 c2 c3 : Addr) (Q : VK) : XK := fun cls d H' => ∃ C dd fs tag u, cls = .ref C ∧ d = some dd ∧ PySem.W.exmAny K (.ref C) [.ref c1, .ref c2, .ref c3] = some true ∧ ECls K C ∧ Tells K H' C dd fs tag u ∧ ∀ H2 t, Same H' H2 → H2 t = none → Q (.ref t) (upd H2 t (.tup [.str tag, u]))
open EX in
theorem why_err {P : Program} {w : World} {K : PySem.W.Frag} {mg : Str → Option Value} {nm fld : Str} {CE c1 c2 c3 : Addr} {v : V} {H : Hp} {Q : VK} (O : OwnE P w K mg nm fld CE) (xx : PySem.W.exmAny K (.ref CE) [.ref c1, .ref c2, .ref c3] = some true) (nf : (fld == ("tag" : Str)) = false) (kd : Kd nm (some fld))
    (k : ∀ t H', Same H H' → H' t = some (.tup [.str nm, v]) → Q (.ref t) H') : Rsd CE nm fld v H (EW K c1 c2 c3 Q) := by
  obtain ⟨fD, oD, _⟩ := O.ex
  intro dd H7 sm7 hdd
  have s8 : Same H (upd H7 dd (.xd [(fld, v), ("tag", .str nm)])) := sNew sm7 hdd
  exact ⟨CE, dd, _, nm, v, rfl, rfl, xx, oD.ecls, tellsF oD.noT O.noF nf kd, fun H9 t sm9 ht => k t _ ((s8.trans sm9).trans (sNew (Same.refl H9) ht)) upd_same⟩
theorem ext_upd {H H1 : Hp} {D : Addr} {o : HO} (e : LamX.ExtN H H1) (h : H D = none) : LamX.ExtN H (upd H1 D o) := fun b u x n => by
  rw [upd_ne (ne_of_none x h)]
  exact e b u x n
theorem ext_put {H H1 : Hp} {D : Addr} {xs : List V} {o : HO} (e : LamX.ExtN H H1) (h : H1 D = some (.lst xs)) : ∀ b u, H b = some u → (∀ ps, u ≠ .tbl ps) → (∀ ys, u ≠ .lst ys) → upd H1 D o b = some u := fun b u x n m => by
  have h1 := e b u x n
  rw [upd_ne (ne_of h1 h (m xs))]
  exact h1
end RF

set_option autoImplicit false
set_option linter.all false
/-! Qx: code that may raise -/
namespace Q
open PySem L2
open RF (DfX DkX pe_callX pe_kX BagAt OwnE OwnT)
open EX (Own Inits Kd Tells ECls mF mT tMk0 tMk1 pmk0 pmk1)
abbrev WX' := Ev → (Sl → Ev → Prop) → (Exc → Ev → Prop) → Prop
/-- a reading that may end by an exception -/
def OkEX (C : Cxt) (t : XK → TE) (w : WX') : Prop := ∀ (ρ ρx : Ev) (σ σx : St) (H : Hp) (S : List Addr) (k : Sl → Ev → Prop) (xk : Exc → Ev → Prop) (Q : VK) (E : XK), ρ.length = σ.length → Sta C (ρ ++ ρx) (σ ++ σx) H S → w ρ k xk →
  (∀ s ρ' v H' S', ρ'.length = σ.length → Sta C ((ρ' ++ ρx) ++ [some s]) ((σ ++ σx) ++ [some v]) H' S' → k s ρ' → Q v H') → (∀ e ρ' cls d H' S', ρ'.length = σ.length → Sta C (ρ' ++ ρx) (σ ++ σx) H' S' → ExcOk C.B S' H' e cls d → xk e ρ' → E cls d H') → t E σ H Q
structure PX (X : Cx) (C : Cxt) (e : Expr) (t : XK → TE) (w : WX') : Prop where
  pe : ∀ E, Passes (L2.CX X.prog X.w) X E → PE X e (t E)
  ok : OkEX C t w
section
variable {X : Cx} {C : Cxt} {e a : Expr} {es : List Expr} {pos p : Pos} {j k : Nat} {x : Str} {ps ks : List Str} {ub : Bool} {Φ : Ph}
theorem ExcOk.le {B : Bk} {S S' : List Addr} {H : Hp} {e : Exc} {cls : Value} {d : Option Addr} (h : ExcOk B S H e cls d) (l : ∀ s ∈ S', s ∈ S) : ExcOk B S' H e cls d := by
  obtain ⟨Cl, dd, fs, h1, h2, h3, h4, h5, h6⟩ := h
  exact ⟨Cl, dd, fs, h1, h2, h3, h4, h5, Rps.same (hid_le l) _ h6⟩
def wCallX (Φ : Ph) (wa : WA) : WX' := fun ρ k xk => wa ρ fun ds ρ1 => Φ ds (fun s => k s ρ1) fun e => xk e ρ1
theorem ok_callX {ta : TA} {wa : WA} (Fi : Fit X C) (ha : OkA C ta wa) (hu : ub = true → C.ub = true) : OkEX C (fun E => tCall (spD X.K X.mg ub Φ) [] E ta) (wCallX Φ wa) := by
  intro ρ ρx σ σx H S k xk Q E hl st hw q qx
  refine ha ρ ρx σ σx H S _ _ hl st hw fun ds ρ1 vs H1 S1 hl1 st1 φ => ?_
  have hlx : (ρ1 ++ ρx).length = (σ ++ σx).length := by
    have := st1.len
    have h2 : ρx.length = σx.length := by
      have := st.len
      simp only [List.length_append] at this
      omega
    simp only [List.length_append]
    omega
  have rr := Sta.args hlx st1
  have s0 := st1.drop hlx
  show spD X.K X.mg ub Φ (vs ++ []) H1 Q E
  rw [List.append_nil]
  refine ⟨C.B, S1, ds, _, _, Fi.K, Fi.mg, s0.al, fun u => ⟨s0.wd.bag (hu u), s0.sub _ (s0.bagO (hu u)).1, s0.sub _ (s0.bagO (hu u)).2⟩, rr, φ, fun s v H' c rt hk => ?_, fun e cls d H' c xo hk => qx e ρ1 cls d H' S1 hl1 (s0.chg hu c) xo hk⟩
  cases s with
  | fz d => exact q (.fz d) ρ1 v H' S1 hl1 ((s0.chg hu c).pushF rt) hk
  | ol es =>
    obtain ⟨a, xs, rfl, h1, h2, h3, h4⟩ := rt
    exact q (.ol es) ρ1 _ H' _ hl1 (s0.pushR hu c h1 h2 h3 h4) hk
  | od ks es =>
    obtain ⟨a, kvs, rfl, h1, h2, h3, h4, h5⟩ := rt
    exact q (.od ks es) ρ1 _ H' _ hl1 (s0.pushRD hu c h1 h2 h3 h4 h5) hk
theorem px_call (Fi : Fit X C) (F : DfX X.prog X.w X.K X.mg X.base k x ps (spD X.K X.mg ub Φ)) (hr : Room j X.A) (hk : k ≤ j) {ta : TA} {wa : WA} (ha : QA X C (e :: es) ta wa) (hu : ub = true → C.ub = true := by intro h; first | (cases h; done) | assumption)
    (hg : Gl X x := by rfl) (hdb : (x == ("__debug__" : Str)) = false := by decide) (he : starEach (e :: es) X.env = (false, eval e X.env) :: starEach es X.env := by rfl) (hpl : (backTo pos (starEach es X.env)).any (·.1) = false := by rfl) :
    PX X C (.Call (.Name x p) (e :: es) [] pos) (fun E => tCall (spD X.K X.mg ub Φ) [] E ta) (wCallX Φ wa) := ⟨fun E hx => pe_callX F hr hk hx ha.pa hg hdb he hpl, ok_callX Fi ha.ok hu⟩
def wKwX (Φ : Ph) (n : Nat) (g : List D → List D) (wk : WA) : WX' := fun ρ k xk => wk ρ fun es ρ1 => es.length = n ∧ Φ (g es) (fun s => k s ρ1) fun e => xk e ρ1
/-- .. all by names -/
theorem px_kw {kws : List Keyword} {tk : TA} {wk : WA} {gV : List V → List V → List V} {g : List D → List D} (Fi : Fit X C) (F : DkX X.prog X.w X.K X.mg X.base k x ps ks gV (spD X.K X.mg ub Φ)) (hG : ∀ (B : Bk) (H : Hp) (zs : List V) (es : List D), Rps B H zs es → es.length = ks.length → Rps B H (gV [] zs) (g es))
    (hr : Room j X.A) (hk : k ≤ j) (hkw : QK X C kws tk wk) (hu : ub = true → C.ub = true := by intro h; first | (cases h; done) | assumption) (hg : Gl X x := by rfl)
    (hall : (backToKw pos (keywordEach kws X.env)).all (·.1.isSome) = true := by rfl) (hks : (backToKw pos (keywordEach kws X.env)).filterMap (·.1) = ks := by rfl) (hdb : (x == ("__debug__" : Str)) = false := by decide)
    (hpl : ((backTo pos (starEach [] X.env)).any (·.1) || (backToKw pos (keywordEach kws X.env)).any (·.1.isNone)) = false := by rfl) :
    PX X C (.Call (.Name x p) [] kws pos) (fun E => tCallN 0 ks.length (spD X.K X.mg ub Φ) gV E tNil tk) (wKwX Φ ks.length g wk) := by
  refine ⟨fun E hx => pe_kX F hr hk hx hkw.pk hg hall hks hdb hpl, fun ρ ρx σ σx H S k xk Q E hl st hw q qx => ?_⟩
  refine hkw.ok ρ ρx σ σx H S _ _ hl st hw fun ds ρ1 vs H1 S1 hl1 st1 hh => ?_
  obtain ⟨hlen, φ⟩ := hh
  have hlx : (ρ1 ++ ρx).length = (σ ++ σx).length := by
    have := st1.len
    have h2 : ρx.length = σx.length := by
      have := st.len
      simp only [List.length_append] at this
      omega
    simp only [List.length_append]
    omega
  have rr := Sta.args hlx st1
  have s0 := st1.drop hlx
  refine ⟨rfl, by rw [rr.len]; exact hlen, C.B, S1, g ds, _, _, Fi.K, Fi.mg, s0.al, fun u => ⟨s0.wd.bag (hu u), s0.sub _ (s0.bagO (hu u)).1, s0.sub _ (s0.bagO (hu u)).2⟩, hG _ _ _ _ rr hlen, φ, fun s v H' c rt hk => ?_, fun e cls d H' c xo hk => qx e ρ1 cls d H' S1 hl1 (s0.chg hu c) xo hk⟩
  cases s with
  | fz d => exact q (.fz d) ρ1 v H' S1 hl1 ((s0.chg hu c).pushF rt) hk
  | ol es =>
    obtain ⟨a, xs, rfl, h1, h2, h3, h4⟩ := rt
    exact q (.ol es) ρ1 _ H' _ hl1 (s0.pushR hu c h1 h2 h3 h4) hk
  | od ks es =>
    obtain ⟨a, kvs, rfl, h1, h2, h3, h4, h5⟩ := rt
    exact q (.od ks es) ρ1 _ H' _ hl1 (s0.pushRD hu c h1 h2 h3 h4 h5) hk
/-- in a def that may raise -/
def Lnk (C : Cxt) (E : XK) : Prop := ∀ e cls d H', Chg C.ub C.B C.H0 H' → ExcOk C.B C.Oc H' e cls d → C.xe e → E cls d H'
def wX (w : WX') : WE := fun ρ k => w ρ k fun _ _ => False
def wXC (C : Cxt) (w : WX') : WE := fun ρ k => w ρ k fun e _ => C.xe e
theorem pd_x {t : XK → TE} {w : WX'} {E : XK} (h : PX X C e t w) (hx : Passes (L2.CX X.prog X.w) X E) (L : Lnk C E) : PD X C e (t E) (wXC C w) := ⟨h.pe E hx, fun ρ ρx σ σx H S k Q hl st hw q =>
  h.ok ρ ρx σ σx H S k _ Q E hl st hw q fun e ρ' cls d H' S' hl' st' xo hk => L e cls d H' st'.wd (xo.le st'.sub) hk⟩
theorem pd_n {t : XK → TE} {w : WX'} (h : PX X C e t w) (hx : Passes (L2.CX X.prog X.w) X RF.EN) : PD X C e (t RF.EN) (wX w) := ⟨h.pe _ hx, fun ρ ρx σ σx H S k Q hl st hw q =>
  h.ok ρ ρx σ σx H S k _ Q _ hl st hw q fun e ρ' cls d H' S' hl' st' xo hk => hk.elim⟩
/-- .. what never raises -/
theorem px_of {t : TE} {w : WE} (h : PD X C e t w) : PX X C e (fun _ => t) (fun ρ k _ => w ρ k) := ⟨fun _ _ => h.pe, fun ρ ρx σ σx H S k xk Q E hl st hw q _ => h.ok ρ ρx σ σx H S k Q hl st hw q⟩
end
/-! ### a def that may raise -/
open PyProof.Rows (envOfC) in
theorem fn_pdX {P : Program} {wd : World} {K : PySem.W.Frag} {mg : Str → Option Value} {base : Heap} {x qual : Str} {st : Stmt} {f : Addr} {fd : FuncData} {N ps : List Str} {j : Nat} {ub : Bool} {Φ : Ph} (F : Fun K x qual st f fd) (Sc : FnScope N ps (defScope st)) (len : ∀ ds k xk, Φ ds k xk → ds.length = ps.length)
    (hbody : ∀ (cdv : Value) (A : Around) (outer : List Env) (s : Shared) (H : Hp) (E : XK) (C : Cxt) (ds : List D) (k : Sl → Prop) (xk : Exc → Prop), Room j (A.deeper (envOfC qual (defScope st) s.heap.objs.size f cdv)) → Fit (cxOf (L2.CX P wd) P wd K mg base N qual (defScope st) f cdv A outer s H E) C → C.ub = ub → C.xe = xk → Lnk C E → Φ ds k xk →
      ∃ t w, QSs (cxOf (L2.CX P wd) P wd K mg base N qual (defScope st) f cdv A outer s H E) C (defBody st) t w ∧ w { nx := fun _ => k (.fz .non), rt := k } (startE N ds)) : FnOk P wd K mg base (L2.CX P wd) (j + 1) f fd ps (spD K mg ub Φ) := by
  refine F.okX Sc (fun vs H Q E h => ?_) (fun cdv A outer s H vs Q E hr h => ?_)
  · obtain ⟨B, S, ds, k, xk, _, _, _, _, r, φ, _⟩ := h
    rw [r.len]
    exact len _ _ _ φ
  · obtain ⟨B, S, ds, k, xk, e1, e2, al, bg, r, φ, q, qx⟩ := h
    obtain ⟨t, w, hb, hw⟩ := hbody cdv A outer s H E ⟨B, ub, S, H, xk, []⟩ ds k xk hr ⟨e1, e2⟩ rfl rfl qx φ
    refine ⟨t, hb.ps, ?_⟩
    have ln := len _ _ _ φ
    have s1 := ((Sta.begin (xk := xk) al bg).pushs r).nones (N.length - ds.length)
    have e3 : ([] ++ fzs ds) ++ List.replicate (N.length - ds.length) none = startE N ds ++ [] := by simp [startE]
    have e4 : ([] ++ vs.map some) ++ List.replicate (N.length - ds.length) none = L2.start N vs ++ [] := by simp [L2.start, r.len]
    rw [e3, e4] at s1
    refine hb.ok (startE N ds) [] (L2.start N vs) [] H S _ _ (by have := s1.len; simpa using this) s1 hw ⟨fun ρ σ H' S' hl st' h' => ?_, fun ρ σ H' S' s v hl st' h' => ?_, fun _ _ _ _ _ _ h => h.elim, fun _ _ _ _ _ _ h => h.elim⟩
    · exact q (.fz .non) .non H' st'.wd rfl h'
    · exact q s v H' st'.wd (st'.popLast.ret (st'.last (by simpa using hl))) h'
theorem passC {P : Program} {wd : World} {K : PySem.W.Frag} {mg : Str → Option Value} {base : Heap} {N : List Str} {qual : Str} {sc : Scope} {f : Addr} {cdv : Value} {A : Around} {outer : List Env} {s : Shared} {H : Hp} {E : XK} : Passes (L2.CX P wd) (cxOf (L2.CX P wd) P wd K mg base N qual sc f cdv A outer s H E) E :=
  fun pins σ H s e s' I c => L2.passes_call (W := fun cls d _ H => E cls d H) (takes_of rfl rfl rfl rfl) (fun _ _ _ _ h => h) pins σ H s e s' I c
/-- an error with one field, with none -/
def exc1 (nm fld : Str) (d : D) : Exc := ⟨nm, [fld, "tag"], [d, .str nm]⟩
def exc0 (nm : Str) : Exc := ⟨nm, ["tag"], [.str nm]⟩
section
variable {X : Cx} {C : Cxt} {e a : Expr} {es : List Expr} {pos p : Pos} {j k : Nat} {nm fld : Str} {E : XK}
def wRaise1 (C : Cxt) (nm fld : Str) (wa : WA) : WS := fun _ ρ => wa ρ fun ds _ => match ds with
  | [d] => C.xe (exc1 nm fld d)
  | _ => False
theorem qs_raise1 {CE : Addr} {pos2 : Pos} {ta : TA} {wa : WA} (Fi : Fit X C) (O : OwnE X.prog X.w X.K X.mg nm fld CE) (tk : Takes X fun cls d _ H => E cls d H) (hc : X.calm = true) (hr : Room k X.A) (L : Lnk C E) (ha : QA X C [a] ta wa) (hg : Gl X nm := by rfl) (hdb : (nm == ("__debug__" : Str)) = false := by decide)
    (he : starEach (a :: []) X.env = (false, eval a X.env) :: starEach [] X.env := by rfl) (hpl : (backTo pos (starEach [] X.env)).any (·.1) = false := by rfl) :
    QS X C (.Raise (some (.Call (.Name nm p) [a] [] pos)) none pos2) (fun _ σ H => tMk1 CE fld nm ta σ H fun cls d H' => E cls d H') (wRaise1 C nm fld wa) := by
  obtain ⟨fI, O1, J⟩ := O.ex
  refine ⟨ps_raise hc tk (pmk1 O1 J hr ha.pa hg hdb he hpl), fun ρ ρx σ σx H S En D hl st hw f => ?_⟩
  refine ha.ok ρ ρx σ σx H S _ _ hl st hw fun ds ρ1 vs H1 S1 hl1 st1 hk => ?_
  have hlx : (ρ1 ++ ρx).length = (σ ++ σx).length := by
    have := st1.len
    have h2 : ρx.length = σx.length := by
      have := st.len
      simp only [List.length_append] at this
      omega
    simp only [List.length_append]
    omega
  have rr := Sta.args hlx st1
  have s0 := st1.drop hlx
  match ds, hk with
  | [d], hk =>
    obtain ⟨v, rfl, rv⟩ := rps1 rr
    refine ⟨v, rfl, fun dd hd => L _ _ _ _ (s0.new hd).wd ⟨CE, dd, _, by rw [Fi.mg]; exact O1.gC, rfl, rfl, upd_same, rfl, ?_⟩ hk⟩
    exact Rps.same (hid_le s0.sub) _ (.cons (Rp.same (hid_new hd) _ rv) (.cons rfl .nil))
def wRaise0 (C : Cxt) (nm : Str) : WS := fun _ _ => C.xe (exc0 nm)
theorem qs_raise0 {CE : Addr} {pos2 : Pos} (Fi : Fit X C) (O : OwnT X.prog X.w X.K X.mg nm CE) (tk : Takes X fun cls d _ H => E cls d H) (hc : X.calm = true) (hr : Room k X.A) (L : Lnk C E) (hg : Gl X nm := by rfl) (hdb : (nm == ("__debug__" : Str)) = false := by decide) :
    QS X C (.Raise (some (.Call (.Name nm p) [] [] pos)) none pos2) (fun _ σ H => tMk0 CE nm σ H fun cls d H' => E cls d H') (wRaise0 C nm) := by
  obtain ⟨fI, O1, J⟩ := O.ex
  refine ⟨ps_raise hc tk (pmk0 O1 J hr hg hdb), fun ρ ρx σ σx H S En D hl st hw f => fun dd hd => ?_⟩
  exact L (exc0 nm) _ _ _ (st.new hd).wd ⟨CE, dd, _, by rw [Fi.mg]; exact O1.gC, rfl, rfl, upd_same, rfl, Rps.cons (d := Q.D.str nm) (ds := []) (show V.str nm = V.str nm from rfl) rfl⟩ hw
end
/-! ### _law_why(lambda: ..) -/
open LamX (ExtN Tabs)
mutual
theorem Rp.ext {B : Bk} {H H' : Hp} (e : ExtN H H') : ∀ {v : V} (d : D), Rp B H v d → Rp B H' v d
  | _, .non, h => h
  | _, .bl _, h => h
  | _, .int _, h => h
  | _, .str _, h => h
  | _, .raw _, h => h
  | _, .bag, h => h
  | _, .lst ds, h => by
    obtain ⟨a, xs, h1, h2, h3, h4⟩ := h
    exact ⟨a, xs, h1, e _ _ h2 (fun _ z => by cases z), h3, Rps.ext e ds h4⟩
  | _, .tup ds, h => by
    obtain ⟨a, xs, h1, h2, h3, h4⟩ := h
    exact ⟨a, xs, h1, RF.stX e h2, h3, Rps.ext e ds h4⟩
  | _, .obj c ns ds, h => by
    obtain ⟨a, C, dx, fs, h1, h2, h3, h4, h5⟩ := h
    exact ⟨a, C, dx, fs, h1, h2, e _ _ h3 (fun _ z => by cases z), h4, Rps.ext e ds h5⟩
  | _, .dic ks ds, h => by
    obtain ⟨a, kvs, h1, h2, h3, h4, h5⟩ := h
    exact ⟨a, kvs, h1, e _ _ h2 (fun _ z => by cases z), h3, h4, Rps.ext e ds h5⟩
  | _, .lam L κ q cl, h => by
    obtain ⟨f, h1, h2⟩ := h
    exact ⟨f, h1, h2.ext e⟩
theorem Rps.ext {B : Bk} {H H' : Hp} (e : ExtN H H') : ∀ {xs : List V} (ds : List D), Rps B H xs ds → Rps B H' xs ds
  | _, [], h => h
  | _, d :: ds, h => by
    obtain ⟨x, r, h1, h2, h3⟩ := h
    exact ⟨x, r, h1, Rp.ext e d h2, Rps.ext e ds h3⟩
end
/-- a lambda is made: the tables may grow -/
theorem Sta.ext {C : Cxt} {ρ : Ev} {σ : St} {H H' : Hp} {S : List Addr} (st : Sta C ρ σ H S) (hT : ∀ a ps, C.H0 a ≠ some (.tbl ps)) (e : ExtN H H') (tb : Tabs C.T H') : ∃ S', Sta C ρ σ H' S' := by
  have bg : C.ub = true → BagAt H' C.B.bag C.B.cel := fun u => (st.wd.bag u).extN e
  have kp : ∀ a o, (C.ub = true → a ≠ C.B.bag) → C.H0 a = some o → H' a = some o := fun a o n h => e a o (st.wd.keep a o n h) fun ps z => hT a ps (z ▸ h)
  have there : ∀ a, C.H0 a ≠ none → (H' a).isSome = true := fun a h => by
    by_cases u : C.ub = true ∧ a = C.B.bag
    · obtain ⟨xs, q⟩ := (bg u.1).atB
      rw [u.2, q]
      rfl
    · cases q : C.H0 a with
      | none => exact absurd q h
      | some o =>
        rw [kp a o (fun hu z => u ⟨hu, z⟩) q]
        rfl
  have xs : ExtN (hid S H) (hid (S.filter fun a => (H' a).isSome) H') := fun a o h n => by
    obtain ⟨h1, h2⟩ := hid_some h
    rw [hid_ne (fun m => h1 (List.mem_filter.mp m).1)]
    exact e a o h2 n
  have own : ∀ a o, a ∈ S → H a = some o → (∀ ps, o ≠ .tbl ps) → a ∈ S.filter (fun a => (H' a).isSome) ∧ H' a = some o := fun a o m h n => by
    have h' := e a o h n
    exact ⟨List.mem_filter.mpr ⟨m, by rw [h']; rfl⟩, h'⟩
  refine ⟨S.filter fun a => (H' a).isSome, ⟨kp, bg⟩, fun a m => List.mem_filter.mpr ⟨st.sub a m, there a (st.al0 a m)⟩, fun a m => st.own a (List.mem_filter.mp m).1, fun a m z => ?_, st.al0, st.bagO, tb, st.len, fun i s q => ?_, st.ap⟩
  · have := (List.mem_filter.mp m).2
    rw [z] at this
    cases this
  · obtain ⟨v, h1, h2⟩ := st.sl i s q
    refine ⟨v, h1, ?_⟩
    cases s with
    | fz d => exact Rp.ext xs d h2
    | ol ds =>
      obtain ⟨a, us, k1, k2, k3, k4, k5, k6⟩ := h2
      obtain ⟨m, h'⟩ := own a _ k2 k4 fun _ z => by cases z
      exact ⟨a, us, k1, m, k3, h', k5, Rps.ext xs ds k6⟩
    | od ks ds =>
      obtain ⟨a, us, k1, k2, k3, k4, k5, k6, k7⟩ := h2
      obtain ⟨m, h'⟩ := own a _ k2 k4 fun _ z => by cases z
      exact ⟨a, us, k1, m, k3, h', k5, k6, Rps.ext xs ds k7⟩
/-- the errors that _law_why may meet -/
def ErrsOk (K : PySem.W.Frag) (mg : Str → Option Value) (c1 c2 c3 : Addr) (Es : List (Str × Option Str)) : Prop := ∀ nm fo, (nm, fo) ∈ Es → ∃ Cl : Addr, mg nm = some (.ref Cl) ∧ PySem.W.exmAny K (.ref Cl) [.ref c1, .ref c2, .ref c3] = some true ∧ ECls K Cl ∧ PySem.W.findIn K (.ref Cl) "tag" = some none ∧ Kd nm fo ∧
  ∀ g, fo = some g → PySem.W.findIn K (.ref Cl) g = some none ∧ (g == ("tag" : Str)) = false
def Exc.told (e : Exc) : D := match e.ds with
  | [d, _] => .tup [.str e.c, d]
  | _ => .tup [.str e.c, .non]
def ErrIn (Es : List (Str × Option Str)) (e : Exc) : Prop := (∃ fld d, (e.c, some fld) ∈ Es ∧ e = exc1 e.c fld d) ∨ ((e.c, none) ∈ Es ∧ e = exc0 e.c)
def wWhy (Es : List (Str × Option Str)) (w : WX') : WE := fun ρ k => w ρ (fun _ ρ1 => k (.fz (.tup [.str "", .non])) ρ1) fun e ρ1 => ErrIn Es e ∧ k (.fz e.told) ρ1
/-- what _law_why makes of what it calls -/
def TWhyQ (K : PySem.W.Frag) (c1 c2 c3 : Addr) : (XK → Hp → VK → Prop) → Hp → VK → Prop := fun tl H Q => tl (RF.EW K c1 c2 c3 Q) H (fun _ H' => ([V.str "", .non]).length ≤ sizeLine ∧ ∀ t, H' t = none → Q (.ref t) (upd H' t (.tup [.str "", .non])))
theorem pd_why {X : Cx} {C : Cxt} {e : Expr} {TT : (XK → Hp → VK → Prop) → Hp → VK → Prop} {q : Str} {m : LM.LEnt} {c1 c2 c3 : Addr} {Es : List (Str × Option Str)} {w : WX'} (Fi : Fit X C) (hp : PE X e (LM.tAskL TT C.T q m)) (hT : ∀ a ps, C.H0 a ≠ some (.tbl ps)) (hTT : ∀ tl H Q, TWhyQ X.K c1 c2 c3 tl H Q → TT tl H Q)
    (hE : ErrsOk X.K X.mg c1 c2 c3 Es) (ok : OkEX C m.t w) : PD X C e (LM.tAskL TT C.T q m) (wWhy Es w) := by
  refine ⟨hp, fun ρ ρx σ σx H S k Q hl st hw qq => ?_⟩
  refine ⟨st.tb, fun f H1 ext tb lv hf => hTT _ _ _ ?_⟩
  obtain ⟨S1, st1⟩ := st.ext hT ext tb
  refine ⟨lv, ok ρ ρx σ σx H1 S1 _ _ _ _ hl st1 hw (fun s ρ' v H' S' hl' st' hk => ⟨by show 2 ≤ sizeLine; decide, fun t ht => ?_⟩) fun e ρ' cls d H' S' hl' st' xo hk => ?_⟩
  · exact ans_tup (k := fun s => k s ρ') (ds := [.str "", .non]) st'.popLast (fun s v H2 S2 st2 h2 => qq s ρ' v H2 S2 hl' st2 h2) (by decide) ⟨_, _, rfl, rfl, _, _, rfl, rfl, rfl⟩ hk t ht
  · obtain ⟨hin, hk⟩ := hk
    obtain ⟨Cl, dd, fs, g1, rfl, rfl, g4, g5, g6⟩ := xo
    rw [Fi.mg] at g1
    rcases hin with ⟨fld, dv, hm, he⟩ | ⟨hm, he⟩
    · rw [he] at g5 g6 hk
      obtain ⟨C2, y1, y2, y3, y4, y5, y6⟩ := hE _ _ hm
      rw [g1] at y1
      cases y1
      obtain ⟨z1, z2⟩ := y6 fld rfl
      match fs, g4, g5, g6 with
      | [(n1, v1), (n2, v2)], g4, g5, g6 =>
        simp only [List.map_cons, List.map_nil, exc1, List.cons.injEq, and_true] at g5
        obtain ⟨rfl, rfl⟩ := g5
        obtain ⟨_, _, e1, r1, _, _, e2, r2, e3⟩ := g6
        cases e1
        cases e2
        cases e3
        obtain rfl : v2 = .str e.c := r2
        refine ⟨Cl, dd, _, e.c, v1, rfl, rfl, y2, y3, ⟨g4, ?_, y4, some n1, y5, (fun z => nomatch z), fun g hg => by cases hg; exact ⟨by simp [List.lookup], z1⟩⟩, fun H2 t sm ht => ?_⟩
        · have : (("tag" : Str) == n1) = false := beq_eq_false_iff_ne.mpr (Ne.symm (beq_eq_false_iff_ne.mp z2))
          simp [List.lookup, this]
        · exact ans_tup (k := fun s => k s ρ') (ds := [.str e.c, dv]) (st'.same sm) (fun s v H3 S3 st3 h3 => qq s ρ' v H3 S3 hl' st3 h3) (by show 2 ≤ 1000000; decide) ⟨_, _, rfl, rfl, _, _, rfl, Rp.same (hid_mono sm) _ r1, rfl⟩ hk t ht
    · rw [he] at g5 g6 hk
      obtain ⟨C2, y1, y2, y3, y4, y5, y6⟩ := hE _ _ hm
      rw [g1] at y1
      cases y1
      match fs, g4, g5, g6 with
      | [(n1, v1)], g4, g5, g6 =>
        simp only [List.map_cons, List.map_nil, exc0, List.cons.injEq, and_true] at g5
        subst g5
        obtain ⟨_, _, e1, r1, e3⟩ := g6
        cases e1
        cases e3
        obtain rfl : v1 = .str e.c := r1
        refine ⟨Cl, dd, _, e.c, .non, rfl, rfl, y2, y3, ⟨g4, by simp [List.lookup], y4, none, y5, (fun _ => rfl), fun g hg => nomatch hg⟩, fun H2 t sm ht => ?_⟩
        exact ans_tup (k := fun s => k s ρ') (ds := [.str e.c, .non]) (st'.same sm) (fun s v H3 S3 st3 h3 => qq s ρ' v H3 S3 hl' st3 h3) (by show 2 ≤ 1000000; decide) ⟨_, _, rfl, rfl, _, _, rfl, rfl, rfl⟩ hk t ht
end Q

set_option linter.all false
/-! sets of any hashed keys whose tables can be walked; sorted(set(texts)) -/
namespace RF
open PySem PySem.Spec PyProof.Rows L2
section
variable {P : Program} {w : World} {κ : Type} [DecidableEq κ] (knd : KeyKind P w κ)
/-- two elements stand for different keys -/
def Apart (e f : Int × Value) : Prop := ∀ k, knd.is k e.2 = true → knd.is k f.2 = false
/-- the set at a: its members, their number, and that it can be walked -/
structure SetW (h : Heap) (a : Addr) (S : κ → Bool) (n : Nat) (o : Obj) (es : Array (Int × Value)) (ep : Nat) (t : SetTable) : Prop where
  ob : h.get? a = some o
  ex : o.ExactSet
  dt : o.data = .set es ep t
  el : ElemsOf knd es.toList
  ap : es.toList.Pairwise (Apart knd)
  mem : ∀ k, S k = true ↔ ∃ e ∈ es.toList, knd.is k e.2 = true
  bd : es.size < scanBound
  ft : t.fits es.size = true
  nm : es.size = n
  ris : Ris t.place.toList
  led : w.params.followText "set-order" = true ∨ t.led = true
def SetG (h : Heap) (a : Addr) (S : κ → Bool) (n : Nat) : Prop := ∃ o es ep t, SetW knd h a S n o es ep t
variable {knd}
theorem Apart.symm {e f : Int × Value} (h : Apart knd e f) : Apart knd f e := fun k hk => by
  cases q : knd.is k e.2 with
  | false => rfl
  | true => rw [h k q] at hk; cases hk
theorem SetG.at_ {h h' : Heap} {a : Addr} {S : κ → Bool} {n : Nat} (R : SetG knd h a S n) (k : ∀ o, h.get? a = some o → h'.get? a = some o) : SetG knd h' a S n := by
  obtain ⟨o, es, ep, t, r⟩ := R
  exact ⟨o, es, ep, t, { r with ob := k o r.ob }⟩
theorem SetG.eq {h : Heap} {a : Addr} {S T : κ → Bool} {n : Nat} (R : SetG knd h a S n) (e : ∀ k, T k = S k) : SetG knd h a T n := by
  rw [show T = S from funext e]; exact R
variable {A : Around} {E : Value → Shared → Prop} {s : Shared} {a : Addr} {S : κ → Bool} {n : Nat}
/-- the new table is stored, and laid anew where it is too full -/
theorem setG_store {g : Bool → Sem Unit} (hg : ∀ (b : Bool) (s1 : Shared) (Q1 : Unit → Shared → Prop), Q1 () s1 → wpAny (model P w) A (g b) Q1 E s1) {o : Obj} {es es' : Array (Int × Value)} {ep : Nat} {t t' : SetTable} {T : κ → Bool} {full : Bool}
    (ho : s.heap.get? a = some o) (hx : o.ExactSet) (hd : o.data = .set es ep t) (el : ElemsOf knd es'.toList) (ap : es'.toList.Pairwise (Apart knd)) (mem : ∀ k, T k = true ↔ ∃ e ∈ es'.toList, knd.is k e.2 = true)
    (bd : es'.size < scanBound) (ft : t'.fits es'.size = true) (rs : Ris t'.place.toList) (ld : w.params.followText "set-order" = true ∨ t'.led = true) {R : Option Bool → Shared → Prop}
    (fin : ∀ h', Heap.SameBut a s.heap h' → SetG knd h' a T es'.size → R (some true) { s with heap := h' }) :
    wpAny (model P w) A (storeSet a es' t' >>= fun _ => if full = true then (g (relayAll t' es' (SetTable.grown es'.size)).2.2 >>= fun _ => storeSet a (relayAll t' es' (SetTable.grown es'.size)).1 (relayAll t' es' (SetTable.grown es'.size)).2.1 >>= fun _ => pure (some true)) else pure (some true)) R E s := by
  have ho1 := store_at (es' := es') (t' := t') ho hd
  have b1 := Heap.SameBut.update s.heap a (Obj.putSet es' t')
  refine wpAny_bind (wpAny_storeSet_of ho hd ?_ (fits_of_scanBound bd))
  cases full with
  | false =>
    rw [if_neg (by decide)]
    exact wpAny_pure (fin _ b1 ⟨_, es', _, t', ⟨ho1, hx, rfl, el, ap, mem, bd, ft, rfl, rs, ld⟩⟩)
  | true =>
    rw [if_pos rfl]
    have q1 := relayAll_perm t' es' (SetTable.grown es'.size)
    have q2 := relayAll_fits t' es' (SetTable.grown es'.size)
    have q3 := relayAll_ris t' es' (SetTable.grown es'.size)
    have q4 := relayAll_led t' es' (SetTable.grown es'.size)
    generalize relayAll t' es' (SetTable.grown es'.size) = Z at q1 q2 q3 q4 ⊢
    obtain ⟨fs, u, gv⟩ := Z
    have sz : fs.size = es'.size := by
      have := q1.length_eq
      simpa using this
    refine wpAny_bind (hg _ _ _ (wpAny_bind (wpAny_storeSet_of ho1 rfl ?_ (fits_of_scanBound (show fs.size < scanBound by omega)))))
    refine wpAny_pure (fin _ (b1.trans (Heap.SameBut.update _ a _)) ⟨_, fs, _, u, ⟨store_at (es' := fs) (t' := u) ho1 rfl, hx, rfl, el.perm q1, ?_, fun k => (mem k).trans ?_, by omega, q2, sz, q3, ?_⟩⟩)
    · exact (q1.pairwise_iff (fun {x y} h => Apart.symm h)).mpr ap
    · exact ⟨fun ⟨e, he, z⟩ => ⟨e, q1.mem_iff.mpr he, z⟩, fun ⟨e, he, z⟩ => ⟨e, q1.mem_iff.mp he, z⟩⟩
    · rw [q4]; exact ld
/-- is the key among the elements -/
theorem SetW.has {o : Obj} {es : Array (Int × Value)} {ep : Nat} {t : SetTable} (r : SetW knd s.heap a S n o es ep t) (k : κ) : (∃ j, es.toList.findIdx? (fun e => knd.is k e.2) = some j ∧ S k = true) ∨ (es.toList.findIdx? (fun e => knd.is k e.2) = none ∧ S k = false ∧ ∀ e ∈ es.toList, knd.is k e.2 = false) := by
  cases q : es.toList.findIdx? (fun e => knd.is k e.2) with
  | some j =>
    obtain ⟨h1, h2, _⟩ := List.findIdx?_eq_some_iff_getElem.mp q
    exact .inl ⟨j, rfl, (r.mem k).mpr ⟨_, List.getElem_mem h1, h2⟩⟩
  | none =>
    have no : ∀ e ∈ es.toList, knd.is k e.2 = false := fun e he => by
      have := List.findIdx?_eq_none_iff.mp q e he
      cases z : knd.is k e.2 with
      | false => rfl
      | true => rw [z] at this; cases this
    refine .inr ⟨rfl, ?_, no⟩
    cases z : S k with
    | false => rfl
    | true =>
      obtain ⟨e, he, y⟩ := (r.mem k).mp z
      rw [no e he] at y
      cases y
theorem setG_add {k : κ} {x : Value} {Q : Bool → Shared → Prop} (R : SetG knd s.heap a S n) (hk : knd.is k x = true) (hsc : x.scannable = true) (room : n + 1 < scanBound)
    (fin : ∀ h', Heap.SameBut a s.heap h' → SetG knd h' a (fun j => S j || decide (j = k)) (if S k = true then n else n + 1) → Q (!S k) { s with heap := h' }) : wpAny (model P w) A (setAddHashed a x (knd.hash k)) Q E s := by
  obtain ⟨o, es, ep, t, r⟩ := R
  unfold setAddHashed
  unfold setAddHashedIn
  refine wpAny_holding (wpAny_bind (wpAny_setState_of r.ob r.dt r.ft ?_))
  dsimp only
  rw [if_pos (byScan_of hsc r.bd r.el)]
  unfold setAddByScan
  refine wpAny_bind (wpAny_bind (wpAny_rule (wpAny_bind (wpAny_setScan_of hk r.ob r.dt r.ft r.el ?_))))
  rcases r.has k with ⟨j, e1, e2⟩ | ⟨e1, e2, no⟩
  · rw [e1]
    dsimp only
    have q := fin s.heap (Heap.SameBut.refl a s.heap) ⟨o, es, ep, t, { r with mem := fun i => ?_, nm := by rw [if_pos e2]; exact r.nm }⟩
    · rw [e2] at q
      exact wpAny_pure (wpAny_pure q)
    · rw [Bool.or_eq_true, decide_eq_true_eq, ← r.mem i]
      exact ⟨fun z => z.elim id fun y => y ▸ e2, .inl⟩
  · rw [e1]
    dsimp only
    have q1 := layNew_perm t es (knd.hash k) x
    have q2 := layNew_fits t es (knd.hash k) x
    have q3 := layNew_ris t es (knd.hash k) x r.ris
    have q4 := layNew_led t es (knd.hash k) x
    generalize layNew t es (knd.hash k) x = Z at q1 q2 q3 q4 ⊢
    obtain ⟨fs, u, wd, gv⟩ := Z
    dsimp only at q1 q2 q3 q4 ⊢
    have pc : fs.toList.Perm ((knd.hash k, x) :: es.toList) := by
      rw [Array.toList_push] at q1
      exact q1.trans (List.perm_append_singleton _ _)
    have sz : fs.size = n + 1 := by
      have := pc.length_eq
      rw [List.length_cons, Array.length_toList, Array.length_toList, r.nm] at this
      exact this
    have el : ElemsOf knd fs.toList := fun e he => by
      rcases List.mem_cons.mp (pc.mem_iff.mp he) with z | z
      · rw [z]; exact ⟨⟨k, hk, rfl⟩, hsc⟩
      · exact r.el e z
    have ap : fs.toList.Pairwise (Apart knd) := (pc.pairwise_iff (fun {x y} h => Apart.symm h)).mpr (List.pairwise_cons.mpr ⟨fun e he j hj => by
      rw [knd.inj x j k hj hk]
      exact no e he, r.ap⟩)
    have mem : ∀ j, (S j || decide (j = k)) = true ↔ ∃ e ∈ fs.toList, knd.is j e.2 = true := fun j => by
      rw [Bool.or_eq_true, decide_eq_true_eq, r.mem j]
      constructor
      · rintro (⟨e, he, z⟩ | rfl)
        · exact ⟨e, pc.mem_iff.mpr (List.mem_cons_of_mem _ he), z⟩
        · exact ⟨_, pc.mem_iff.mpr List.mem_cons_self, hk⟩
      · rintro ⟨e, he, z⟩
        rcases List.mem_cons.mp (pc.mem_iff.mp he) with y | y
        · rw [y] at z
          exact .inr (knd.inj x j k z hk)
        · exact .inl ⟨e, y, z⟩
    have done : ∀ h', Heap.SameBut a s.heap h' → SetG knd h' a (fun j => S j || decide (j = k)) fs.size → Q true { s with heap := h' } := fun h' sb z => by
      have y := fin h' sb
      rw [e2] at y
      rw [sz] at z
      exact y z
    have gw : ∀ (b : Bool) {s1 : Shared} {Q1 : Unit → Shared → Prop}, Q1 () s1 → wpAny (model P w) A (match b with | true => rule "set.scan.the-table-gave-way" | false => pure ()) Q1 E s1 := fun b s1 Q1 z => by
      cases b
      · exact wpAny_pure z
      · exact wpAny_rule z
    have ld : w.params.followText "set-order" = true ∨ u.led = true := by rw [q4]; exact r.led
    have gw2 : ∀ (b : Bool) (s1 : Shared) (Q1 : Unit → Shared → Prop), Q1 () s1 → wpAny (model P w) A (match b with | true => rule "set.scan.the-table-gave-way" | false => pure ()) Q1 E s1 := fun b s1 Q1 z => gw b z
    refine wpAny_bind (gw _ ?_)
    by_cases pl : u.plain = true
    · rw [if_pos pl, hashByValue_scannable 8 hsc]
      refine wpAny_bind (wpAny_pure ?_)
      obtain ⟨v, hv⟩ : ∃ v, (if plainKind x = true then u else { u with plain := false }) = v := ⟨_, rfl⟩
      rw [hv]
      have f2 : v.fits fs.size = true ∧ Ris v.place.toList ∧ (w.params.followText "set-order" = true ∨ v.led = true) := by
        rw [← hv]
        split
        · exact ⟨q2, q3, ld⟩
        · exact ⟨SetTable.fits_plain_off q2, q3, ld⟩
      exact setG_store gw2 r.ob r.ex r.dt el ap mem (by omega) f2.1 f2.2.1 f2.2.2 fun h' sb z => wpAny_pure (done h' sb z)
    · rw [if_neg pl]
      refine wpAny_bind (wpAny_pure ?_)
      rw [if_pos rfl]
      exact setG_store gw2 r.ob r.ex r.dt el ap mem (by omega) q2 q3 ld fun h' sb z => wpAny_pure (done h' sb z)
/-- all that an iterator hands out is put into the set -/
theorem setG_update {I : Addr} {fp wr : List Addr} {G : Array GenState → Array GenState → Prop} {N : Nat} {Pv : Nat → Value → Prop} {St : Nat → Shared → Prop} {R : Result → Shared → Prop} (W : WalksS P w A.in1 I fp wr G N Pv St) {z : Addr} (hz : z ∉ fp) {ks : List κ} (hN : N = ks.length)
    (hb : ks.length + 1 < scanBound) (hv : ∀ i v, Pv i v → ∃ k, ks[i]? = some k ∧ knd.is k v = true ∧ v.scannable = true) : ∀ (m i : Nat) (s : Shared), N - i = m → i ≤ N → St i s → (∃ c, c ≤ i ∧ SetG knd s.heap z (fun j => decide (j ∈ ks.take i)) c) →
      (∀ s' c, Moved (z :: wr) G s s' → c ≤ N → SetG knd s'.heap z (fun j => decide (j ∈ ks)) c → R (.ok (.ret .none)) s') → codeAny (model P w) A (.builtin "set.update.loop" ⟨[.ref z, .ref I], []⟩) R s := by
  have zw : z ∉ wr := fun h => hz (W.sub _ h)
  have up : ∀ b ∈ wr, b ∈ z :: wr := fun b h => List.mem_cons_of_mem _ h
  intro m
  induction m with
  | zero =>
    rintro i s e hi st ⟨c, hc, g⟩ fin
    obtain rfl : i = N := by omega
    refine codeAny_builtin F.entry_set_update_loop ?_
    rw [Around.under_plainId F.plain_set_update_loop _]
    refine (show wpAny (model P w) A.in1 (pyNext (.ref I) >>= _) _ _ s from wpAny_bind (W.done s _ _ st fun s1 mv => ?_))
    rw [show ks.take i = ks from List.take_of_length_le (by omega)] at g
    exact (show wpAny (model P w) A.in1 (ret Value.none) _ _ s1 from wpAny_pure (fin s1 c (mv.mono up) hc (g.at_ fun o y => mv.heap z o zw y)))
  | succ m ih =>
    rintro i s e hi st ⟨c, hc, g⟩ fin
    have lt : i < N := by omega
    refine codeAny_builtin F.entry_set_update_loop ?_
    rw [Around.under_plainId F.plain_set_update_loop _]
    refine (show wpAny (model P w) A.in1 (pyNext (.ref I) >>= _) _ _ s from wpAny_bind (W.item i s _ _ lt st fun v s1 hp st1 mv => ?_))
    obtain ⟨k, hk, y1, y2⟩ := hv i v hp
    have g1 : SetG knd s1.heap z (fun j => decide (j ∈ ks.take i)) c := g.at_ fun o y => mv.heap z o zw y
    refine (show wpAny (model P w) A.in1 (holding [v] (setAdd z v) >>= _) _ _ s1 from wpAny_bind (wpAny_holding ?_))
    unfold setAdd
    refine wpAny_holding (wpAny_bind (knd.pyHash y1 (setG_add (s := { s1 with toks := s1.toks + 1 }) g1 y1 y2 (by omega) fun h' sb g2 => ?_)))
    have g3 : SetG knd h' z (fun j => decide (j ∈ ks.take (i + 1))) (if decide (k ∈ ks.take i) = true then c else c + 1) := g2.eq fun j => by
      rw [List.take_add_one, hk]
      simp [List.mem_append]
    have c3 : (if decide (k ∈ ks.take i) = true then c else c + 1) ≤ i + 1 := by split <;> omega
    have off : ∀ b, b ≠ z → h'.get? b = s1.heap.get? b := fun b y => sb.2 b y
    refine wpAny_pure ⟨plainId_quiet F.plain_set_update_loop _, ih (i + 1) _ (by omega) lt (W.frame _ s1 _ _ st1 (Nat.le_succ _) fun b hb o y => ?_) ⟨_, c3, g3⟩ fun s2 c2 mv2 l2 g4 => ?_⟩
    · rw [off b fun q => hz (q ▸ hb)]; exact y
    · refine fin s2 c2 (Moved.trans W.gtrans ((mv.mono up).then_heap (Nat.le_succ _) fun b o hb y => ?_) mv2) l2 g4
      rw [off b fun q => hb (q ▸ List.mem_cons_self)]; exact y
/-- a new set is empty -/
theorem setG_fresh {h : Heap} {a : Addr} {ks : List κ} (ho : h.get? a = some { cls := .type "set", dict := none, data := .set #[] 0 (.fresh 0 0 (!w.params.followText "set-order")) }) : SetG knd h a (fun j => decide (j ∈ ks.take 0)) 0 :=
  ⟨_, #[], 0, _, ho, ⟨rfl, rfl, rfl⟩, rfl, (fun e he => by simp at he), List.Pairwise.nil, (fun k => by simp), by decide, rfl, rfl, List.Pairwise.nil, by
    cases q : w.params.followText "set-order"
    · exact .inr rfl
    · exact .inl rfl⟩
end
section
variable {P : Program} {w : World} {A : Around} {E : Value → Shared → Prop} {s : Shared}
abbrev newSet (w : World) : Obj := { cls := .type "set", dict := none, data := .set #[] 0 (.fresh 0 0 (!w.params.followText "set-order")) }
/-- set(l), l a list of texts -/
theorem set_of_strs {l : Addr} {its : Array Value} {xs : List Str} {Q : Value → Shared → Prop} (hh : A.handled = none) (hl : s.heap.IsList l its) (hx : StrsAre its.toList xs) (hb : xs.length + 1 < scanBound)
    (q : ∀ (h' : Heap) (tk c : Nat), SetG (strKind P w) h' s.heap.objs.size (fun j => decide (j ∈ xs)) c → c ≤ xs.length → (∀ b o, s.heap.get? b = some o → h'.get? b = some o) → Q (.ref s.heap.objs.size) { s with heap := h', toks := tk }) :
    wpAny (model P w) A (call (.type "set") [.ref l]) Q E s := by
  have len : its.size = xs.length := by
    have := hx.length
    rw [Array.length_toList] at this
    exact this
  obtain ⟨_, _, hmro⟩ := F.called_set.mro
  have k1 := F.called_set.made
  have k2 := F.called_set.sub
  have k3 := F.called_set.notType
  have k4 := F.called_set.canCreate
  have k5 := F.typeCall_set_1 (.ref l)
  refine wpAny_call (codeAny_of_tree (show wpAny _ _ (callAny (.type "set") _) _ _ _ from ?_))
  refine wpAny_pure ⟨Code.quiet_builtin _ (by decide +kernel), codeAny_builtin F.entry_type_call ?_⟩
  rw [Around.under_plain (weight_type_call_type "set" [.ref l] []) rfl]
  repeat (any_goals (first | assumption | wp_step))
  refine codeAny_mono (code_set_led1 (.ref l) (E := E) (Q₁ := fun x s1 => x = .ref s.heap.objs.size ∧ s1 = { s with heap := s.heap.push (newSet w) }) ⟨rfl, rfl⟩) fun r s1 hr => ?_
  match r, hr with
  | .error _, hr => exact hr
  | .ok .next, hr => exact hr.elim
  | .ok .brk, hr => exact hr.elim
  | .ok .cont, hr => exact hr.elim
  | .ok (.ret x), hr =>
    obtain ⟨rfl, rfl⟩ := hr
    have at0 : (s.heap.push (newSet w)).get? s.heap.objs.size = some (newSet w) := Heap.get?_push_size _ rfl
    have ty0 : Shared.TypeIs { s with heap := s.heap.push (newSet w) } (.ref s.heap.objs.size) "set" := ⟨_, at0, rfl⟩
    have k6 := F.called_set.init.lookup
    have k7 := F.called_set.init.bind (.ref s.heap.objs.size)
    repeat (any_goals (first | assumption | wp_step))
    refine codeAny_mono (codeAny_call_builtin (R := wants (fun y s2 => y = .none ∧ ∃ h' tk c, s2 = { s with heap := h', toks := tk } ∧ SetG (strKind P w) h' s.heap.objs.size (fun j => decide (j ∈ xs)) c ∧ c ≤ xs.length ∧ ∀ b o, s.heap.get? b = some o → h'.get? b = some o) E) F.called_set.init.plain F.entry_set_init (check_set_init_1 ty0 ?_)) fun r2 s2 hr2 => ?_
    · obtain ⟨ol, e1, e2, nl, e3⟩ := hl
      obtain ⟨_, od, _, osl⟩ := ol
      simp only at e2 e3
      subst e2 e3
      have at1 : (s.heap.push (newSet w)).get? l = some { cls := .type "list", dict := od, data := .seq its nl, slots := osl } := Heap.get?_push_of_some _ e1
      have j1 := F.sub_list_set
      have j2 := F.sub_list_frozenset
      have j3 : (Value.type "list" == Value.type "dict") = false := by decide
      have il : (s.heap.push (newSet w)).IsList l its := ⟨_, at1, rfl, nl, rfl⟩
      (unfold Builtin.«set.__init__» noKeywords; unfold Builtin.Frozenset.updateFrom)
      generalize hP : pyIter = PI
      wp_walk
      subst hP
      refine wpAny_pyIter_list il (wpAny_bind (wpAny_runValue ?_))
      have ls : l < s.heap.objs.size := Heap.lt_size e1
      have sz1 : (s.heap.push (newSet w)).objs.size = s.heap.objs.size + 1 := Heap.size_push ..
      have n1 : l ≠ (s.heap.push (newSet w)).objs.size := by rw [sz1]; exact Nat.ne_of_lt (Nat.lt_succ_of_lt ls)
      have n2 : s.heap.objs.size ∉ [(s.heap.push (newSet w)).objs.size, l] := by
        rw [sz1]
        intro m
        rcases List.mem_cons.mp m with m | m
        · exact Nat.ne_of_lt (Nat.lt_succ_self _) m
        · exact Nat.ne_of_gt ls (List.mem_singleton.mp m)
      have get : ∀ (i : Nat) (v : Value), its[i]? = some v → ∃ k, xs[i]? = some k ∧ (strKind P w).is k v = true ∧ v.scannable = true := fun i v hv => by
        have hi : i < xs.length := by rw [← len]; exact (Array.getElem?_eq_some_iff.mp hv).1
        obtain ⟨u, rfl⟩ := SS.strs_at hx i v (by rw [Array.getElem?_toList]; exact hv)
        refine ⟨xs[i], List.getElem?_eq_getElem hi, ?_, rfl⟩
        rw [List.getD_eq_getElem?_getD, List.getElem?_eq_getElem hi]
        exact strKind_is P w _ u
      refine setG_update ((Walks.list (A := A.in1.in1.in1) (by simpa using hh) _ l n1 its).toS) n2 len hb get (its.size - 0) 0 _ rfl (Nat.zero_le _) ⟨⟨_, Heap.get?_push_size _ rfl, rfl, rfl⟩, il.push _⟩ ⟨0, Nat.le_refl _, setG_fresh (Heap.get?_push_of_some _ at0)⟩ fun s3 c mv hc g => ?_
      obtain ⟨h3, g3, d3, t3, o3⟩ := s3
      have x1 : g3 = s.gens := mv.gens
      have x2 : d3 = s.drawn := mv.drawn
      have x3 : o3 = s.os := mv.os
      subst x1 x2 x3
      refine wpAny_pure (show wpAny _ _ (ret Value.none) _ _ _ from wpAny_pure ⟨rfl, h3, t3, c, rfl, g, by omega, fun b o e => ?_⟩)
      have lb : b < s.heap.objs.size := Heap.lt_size e
      refine mv.heap b o (fun m => ?_) (Heap.get?_push_of_some _ (Heap.get?_push_of_some _ e))
      rcases List.mem_cons.mp m with m | m
      · exact Nat.ne_of_lt lb m
      · exact Nat.ne_of_lt (Nat.lt_trans lb (by rw [sz1]; exact Nat.lt_succ_self _)) (List.mem_singleton.mp m)
    · match r2, hr2 with
      | .error _, hr => exact hr
      | .ok .next, hr => exact hr.elim
      | .ok .brk, hr => exact hr.elim
      | .ok .cont, hr => exact hr.elim
      | .ok (.ret y), hr =>
        obtain ⟨rfl, h', tk, c, rfl, g, hc, kp⟩ := hr
        repeat (any_goals (first | assumption | wp_step))
        exact q _ _ _ g hc kp
/-- the text of a value -/
def sOf : Value → Str
  | .str x _ => x
  | _ => Str.empty
theorem strs_sOf : ∀ {vs : List Value}, (∀ v ∈ vs, ∃ x u, v = .str x u) → StrsAre vs (vs.map sOf)
  | [], _ => .nil
  | v :: vs, h => by
    obtain ⟨x, u, rfl⟩ := h v List.mem_cons_self
    exact .cons x u (strs_sOf fun y hy => h y (List.mem_cons_of_mem _ hy))
theorem isStr_of {k : Str} {v : Value} (h : (strKind P w).is k v = true) : ∃ u, v = .str k u := by
  obtain ⟨u, e⟩ := Value.isStrOf_shape (show v.isStrOf k = true from h)
  exact ⟨u, e⟩
/-- sorted(set of texts) -/
theorem sorted_setG {a : Addr} {S : Str → Bool} {n : Nat} {Q : Value → Shared → Prop} (R : SetG (strKind P w) s.heap a S n) (hh : A.handled = none)
    (q : ∀ s' p (out : Array Value) (c : Nat) (ys : List Str), (∀ b o, s.heap.get? b = some o → s'.heap.get? b = some o) → s'.gens = s.gens → s'.os = s.os → s.heap.objs.size ≤ p → s'.heap.get? p = some (seqObj "list" out c) → StrsAre out.toList ys → sortedS ys = true → ys.Nodup → (∀ k, k ∈ ys ↔ S k = true) → ys.length = n → ys.length ≤ sizeLine → Q (.ref p) s') :
    wpAny (model P w) A (call (.builtin "sorted") [.ref a]) Q E s := by
  obtain ⟨o, es, ep, t, r⟩ := R
  refine Calls.call_function_entry kind_sorted plain_sorted entry_sorted (args_sorted1 _) ?_
  unfold Builtin.«sorted»
  refine wpAny_bind (m := checkCount "sorted" 1 1 _) (wpAny_pure (wpAny_bind (collect_set (A := A.in1) hh ⟨o, r.ob, r.ex.1, r.dt⟩ r.ft r.bd r.ris r.led fun s1 vs k1 hz g1 o1 pm => ?_)))
  have one : ∀ e ∈ es.toList, ∃ x u, e.2 = .str x u := fun e he => by
    obtain ⟨⟨k, h1, _⟩, _⟩ := r.el e he
    obtain ⟨u, h2⟩ := isStr_of h1
    exact ⟨k, u, h2⟩
  have hv : ∀ v ∈ vs, ∃ x u, v = .str x u := fun v hv => by
    obtain ⟨e, he, rfl⟩ := List.mem_map.mp (pm.mem_iff.mp hv)
    exact one e he
  have hs := strs_sOf hv
  have pk : (vs.map sOf).Perm (es.toList.map fun e => sOf e.2) := by
    have := pm.map sOf
    rw [List.map_map] at this
    exact this
  have nd : (es.toList.map fun e => sOf e.2).Nodup := by
    refine List.pairwise_map.mpr (r.ap.imp_of_mem fun {x y} hx hy h z => ?_)
    obtain ⟨i, u, e1⟩ := one x hx
    obtain ⟨j, v, e2⟩ := one y hy
    rw [e1, e2] at z
    have z : i = j := z
    subst z
    have b1 := strKind_is P w i u
    have b2 := strKind_is P w i v
    rw [← e1] at b1
    rw [← e2, h i b1] at b2
    cases b2
  have mem : ∀ k, k ∈ (es.toList.map fun e => sOf e.2) ↔ S k = true := fun k => by
    rw [r.mem k, List.mem_map]
    constructor
    · rintro ⟨e, he, rfl⟩
      obtain ⟨i, u, e1⟩ := one e he
      refine ⟨e, he, ?_⟩
      rw [e1]
      exact strKind_is P w i u
    · rintro ⟨e, he, z⟩
      obtain ⟨u, e1⟩ := isStr_of z
      exact ⟨e, he, by rw [e1]; rfl⟩
  have lim : vs.length ≤ sizeLine := by
    rw [pm.length_eq, List.length_map, Array.length_toList]
    exact fits_of_scanBound r.bd
  refine wpAny_bind (wpAny_newList ?_ lim)
  have at1 : (s1.heap.push (seqObj "list" vs.toArray 0)).get? s1.heap.objs.size = some (seqObj "list" vs.toArray 0) := Heap.get?_push_size _ rfl
  refine wpAny_bind (wpAny_holding (wpAny_call_entry slot_list_sort ⟨_, at1, rfl⟩ entry_list_sort (list_sort_treeKAny strKind_oneLt at1 hs.keysOf (fun v1 v2 rest e => keyKind_strs (by rw [← e]; exact hs)) lim fun st hp ho => ⟨_, rfl, ?_⟩) (args_list_sort _)))
  obtain ⟨ys, a1, a2, a3⟩ := sorted_out_str hs hp ho
  obtain ⟨c, hc⟩ := sortedHeap_at (vs := vs) (out := (arrOf st).map (·.2)) at1
  have pn := a2.trans pk
  have ln := pn.length_eq
  have ln : ys.length = es.size := by rw [List.length_map] at ln; exact ln
  refine wpAny_pure ⟨_, rfl, q _ s1.heap.objs.size ((arrOf st).map (·.2)) c ys (fun b u e => ?_) g1 o1 hz hc a1 a3 (pn.nodup_iff.mpr nd) (fun k => by rw [pn.mem_iff, mem]) (ln.trans r.nm) (by rw [ln]; exact fits_of_scanBound r.bd)⟩
  have e1 := k1 b u e
  have lt := Heap.lt_size e1
  refine Eq.trans (sortedHeap_old (Nat.ne_of_lt lt) (by rw [size_push']; exact Nat.lt_succ_of_lt lt)) (Heap.get?_push_of_some _ e1)
end
/-! ### in the layer -/
/-- the set of texts at a -/
def SetX (P : Program) (w : World) (a : Addr) (S : Str → Bool) (n : Nat) : HO := .ext fun h => SetG (strKind P w) h a S n
section
variable {X : Cx}
theorem setX_new {w : World} {P : Program} {H : Hp} {h : Heap} {a : Addr} {S : Str → Bool} {n : Nat} (R : SetG (strKind P w) h a S n) : ObjOk P w H h a (SetX P w a S n) := by
  have ⟨o, _, _, _, r⟩ := R
  exact ⟨R, ⟨o, r.ob⟩, fun h1 h2 p k => p.at_ k⟩
def rSetX (K : PySem.W.Frag) (P : Program) (w : World) : List V → Hp → VK → Prop := fun vs H Q => ∃ (l : Addr) (xs : List Str), vs = [V.ref l] ∧ SqL K H l (xs.map V.str) ∧ xs.length ≤ 3000 ∧ ∀ a c, H a = none → Q (.ref a) (upd H a (SetX P w a (fun j => decide (j ∈ xs)) c))
theorem cr_setX (hc : X.calm = true) : CallR X (.type "set") (rSetX X.K X.prog X.w) := by
  intro pins s σ H vs us Q I r h
  obtain ⟨l, xs, rfl, hl, lim, q⟩ := h
  rw [Vals.ref1 r]
  obtain ⟨its, rv, pl, _⟩ := I.list hl
  have fr : H s.heap.objs.size = none := I.hok.fresh (Nat.le_refl _)
  refine set_of_strs (I.ok.hd hc) pl.isList (by simpa using rv.strs) (by unfold scanBound; omega) fun h' tk c g _ k => ?_
  exact ⟨.ref s.heap.objs.size, upd H s.heap.objs.size (SetX X.prog X.w s.heap.objs.size (fun j => decide (j ∈ xs)) c), I.laid (t' := tk) k (Nat.le_refl _) (setX_new g), rfl, q _ c fr⟩
def rSortedX (P : Program) (w : World) : List V → Hp → VK → Prop := fun vs H Q => ∃ (a : Addr) (S : Str → Bool) (n : Nat), vs = [V.ref a] ∧ H a = some (SetX P w a S n) ∧
  ∀ (ys : List Str) (p : Addr), sortedS ys = true → ys.Nodup → (∀ k, k ∈ ys ↔ S k = true) → ys.length ≤ sizeLine → H p = none → Q (.ref p) (upd H p (.lst (ys.map V.str)))
theorem cr_sortedX (hc : X.calm = true) : CallR X (.builtin "sorted") (rSortedX X.prog X.w) := by
  intro pins s σ H vs us Q I r h
  obtain ⟨a, S, n, rfl, ha, q⟩ := h
  rw [Vals.ref1 r]
  have R : SetG (strKind X.prog X.w) s.heap a S n := (I.hok a _ ha).1
  refine sorted_setG R (I.ok.hd hc) fun s' p out c ys k g o hp hg hi hs nd hm hl lim => ?_
  have fr : H p = none := I.hok.fresh hp
  have J : Inv X pins σ (upd H p (.lst (ys.map V.str))) { s with heap := s'.heap, gens := s'.gens, drawn := s'.drawn, toks := s'.toks } :=
    I.call (ch := []) (Un.laid k hp fr) (I.hok.laid k hp ⟨by rw [List.length_map]; exact lim, out.toList, c, vals_of_strs hi, hg⟩) (by rw [g]; exact I.bare) (fun _ z => nomatch z)
  have e : s' = { s with heap := s'.heap, gens := s'.gens, drawn := s'.drawn, toks := s'.toks } := by
    obtain ⟨_, _, _, _, _⟩ := s'
    obtain ⟨_, _, _, _, _⟩ := s
    cases o
    rfl
  rw [e]
  exact ⟨.ref p, _, J, rfl, q ys p hs nd hm lim fr⟩
end
end RF

set_option linter.all false
/-! a, *b = a tuple -/
namespace RF
open PySem PySem.Spec PyProof.Rows L2
section
variable {P : Program} {w : World} {A : Around} {E : Value → Shared → Prop} {s : Shared}
/-- a walk from a place on -/
theorem later {I : Addr} {fp wr : List Addr} {G : Array GenState → Array GenState → Prop} {n k : Nat} {Pv : Nat → Value → Prop} {St : Nat → Shared → Prop} (W : WalksS P w A I fp wr G n Pv St) (hk : k ≤ n) : WalksS P w A I fp wr G (n - k) (fun j v => Pv (j + k) v) (fun j => St (j + k)) where
  sub := W.sub
  grefl := W.grefl
  gtrans := W.gtrans
  frame := fun i s h' tk st h1 h2 => W.frame (i + k) s h' tk st h1 h2
  item := fun i s Q E hi st hQ => W.item (i + k) s Q E (by omega) st fun v s' p st' m => hQ v s' p (by rw [show i + 1 + k = i + k + 1 by omega]; exact st') m
  done := fun s Q E st hQ => W.done s Q E (by rw [show n - k + k = n by omega] at st; exact st) hQ
  self := fun i s Q E st hQ => W.self (i + k) s Q E st hQ
abbrev emL : Obj := { cls := .type "list", data := .seq ([] : List Value).toArray }
/-- what is left of a tuple's iterator, as a list; the heap has not shrunk -/
theorem collect_tup {I : Addr} {fp wr : List Addr} {G : Array GenState → Array GenState → Prop} {n : Nat} {Pv : Nat → Value → Prop} {St : Nat → Shared → Prop} {Q : List Value → Shared → Prop} (W : WalksS P w A.in1 I fp wr G n Pv St) (ty : ∀ i s, St i s → s.TypeIs (.ref I) "tuple_iterator") (st : St 0 s) (hf : ∀ b ∈ fp, b < s.heap.objs.size) (hI : I ∈ fp)
    (lim : n ≤ sizeLine) (q : ∀ s' acc, Moved wr G s s' → s.heap.objs.size ≤ s'.heap.objs.size → ItemsOf Pv acc n → Q acc.toList s') : wpAny (model P w) A (collect (.ref I)) Q E s := by
  have off : s.heap.objs.size ∉ fp := fun m => Nat.lt_irrefl _ (hf _ m)
  have neI : s.heap.objs.size ≠ I := fun e => off (e ▸ hI)
  have same : Builtin.List.listSameRef (.ref s.heap.objs.size) (.ref I) = false := by simp [Builtin.List.listSameRef, neI]
  have at0 : (s.heap.push emL).get? s.heap.objs.size = some emL := Heap.get?_push_size _ rfl
  have st1 := W.frame 0 s (s.heap.push emL) s.toks st (Nat.le_refl _) fun b _ o e => Heap.get?_push_of_some _ e
  have ty1 := ty 0 _ st1
  unfold collect
  refine wpAny_bind (wpAny_runValue (codeAny_builtin F.entry_proto_collect ?_))
  rw [Around.under_plainId F.plain_proto_collect _]
  refine (show wpAny _ A.in1 (newList [] >>= fun l => again (.builtin "list.__iadd__" ⟨[l, .ref I], []⟩)) _ _ s from wpAny_bind (wpAny_newObj_type (wpAny_pure ⟨plainId_quiet F.plain_list_iadd _, codeAny_builtin F.entry_list_iadd ?_⟩)))
  rw [Around.under_plainId F.plain_list_iadd _]
  refine (show wpAny _ A.in1 (Builtin.List.listExtendWith (.ref s.heap.objs.size) (.ref I) (.ref s.heap.objs.size)) _ _ _ from ?_)
  unfold Builtin.List.listExtendWith
  refine wpAny_bind (wpAny_typeOf ty1 ?_)
  rw [if_neg (by rw [same]; decide)]
  refine wpAny_bind (W.self 0 _ _ _ st1 (wpAny_bind (wpAny_holding ?_)))
  unfold Builtin.List.listLengthHint
  refine wpAny_bind (wpAny_specialOf ty1 F.nolen_tu ?_)
  refine (show wpAny _ A.in1 (specialOf (Value.ref I) (Str.ofString "__length_hint__") >>= _) _ _ _ from wpAny_bind (wpAny_specialOf ty1 F.hint_tu ?_))
  (generalize hid : ("tuple_iterator.__length_hint__" : String) = d0; (fail_if_success (clear hid d0)); wp_delta; rw [show splitId d0 = some ("tuple_iterator", "__length_hint__") from by subst hid; decide +kernel]; subst hid)
  refine wpAny_bind (wpAny_isInstance (b := true) ty1 (by rw [isSubtype_type]; kernel_rfl) (wpAny_pure ?_))
  rw [if_neg (by decide)]
  refine wpAny_pure ⟨plainId_quiet F.plain_extend_loop _, codeAny_extend_loopS W lim _ off _ n 0 _ _ _ rfl (Nat.zero_le _) st1 at0 (ItemsOf.nil Pv) fun s2 acc c mv at2 it => ?_⟩
  refine (show wpAny _ A (load s.heap.objs.size >>= _) _ _ s2 from wpAny_bind (wpAny_load at2 (wpAny_pure ?_)))
  exact q s2 acc (Moved.drop_new (o := emL) (tk := s.toks) mv (Nat.le_refl _)) (Nat.le_of_lt (Heap.lt_size at2)) it
theorem unpack_first {t : Addr} {x : Value} {xs : List Value} {Q : List Value → Shared → Prop} (hh : A.handled = none) (ht : s.heap.IsTuple t (x :: xs).toArray) (lim : xs.length ≤ sizeLine)
    (q : ∀ (s' : Shared) (p : Addr) (n : Nat), (∀ b o, s.heap.get? b = some o → s'.heap.get? b = some o) → s'.gens = s.gens → s'.drawn = s.drawn → s'.os = s.os → s.heap.objs.size ≤ p → s'.heap.get? p = some (seqObj "list" xs.toArray n) → Q [x, .ref p] s') :
    wpAny (model P w) A (unpackItems (.ref t) 2 (some 1)) Q E s := by
  have ne : t ≠ s.heap.objs.size := by obtain ⟨o, ho, _⟩ := id ht; exact Nat.ne_of_lt (Heap.lt_size ho)
  have lt : t < s.heap.objs.size := by obtain ⟨o, ho, _⟩ := id ht; exact Heap.lt_size ho
  unfold unpackItems notIterableAtAll
  refine wpAny_bind (wpAny_bind (wpAny_specialOf ht.typeIs F.slot_tuple_iter.lookup (wpAny_pure ?_)))
  rw [if_neg (by simp)]
  refine wpAny_bind (wpAny_holding (wpAny_pyIter_tuple ht ?_))
  refine wpAny_bind (wpAny_holding (wpAny_draw_tuple ne 1 0 _ _ ⟨_, Heap.get?_push_size _ rfl, rfl, rfl⟩ (ht.push _) (by simp) fun h1 i1 b1 => ?_))
  rw [show List.take 1 (List.drop 0 (x :: xs).toArray.toList) = [x] from by simp, if_neg (by simp)]
  have t1 : h1.IsTuple t (x :: xs).toArray := (ht.push _).extBut b1.extBut ne
  have keep1 : ∀ b o, s.heap.get? b = some o → h1.get? b = some o := fun b o e => (b1.2 b (Nat.ne_of_lt (Heap.lt_size e))).trans (Heap.get?_push_of_some _ e)
  have lt1 : s.heap.objs.size < h1.objs.size := by obtain ⟨o, ho, _⟩ := id i1; exact Heap.lt_size ho
  have W := later (k := 1) ((Walks.tuple (prog := P) (w := w) (A := A.in1) hh s.heap.objs.size t ne (x :: xs).toArray).toS) (by simp)
  refine wpAny_bind (wpAny_holding (collect_tup (s := { s with heap := h1 }) W (fun i s0 st => ?_) ⟨i1, t1⟩ (fun b hb => ?_) (by simp) (by simpa using lim) fun s2 acc mv sz it => ?_))
  · obtain ⟨o, ho, hc, _⟩ := st.1
    exact ⟨o, ho, hc⟩
  · rcases List.mem_cons.mp hb with e | hb
    · rw [e]; exact lt1
    · rw [List.mem_singleton.mp hb]; exact Nat.lt_trans lt lt1
  · have ea : acc.toList = xs := by
      have hs : acc.size = xs.length := by simpa using it.1
      refine List.ext_getElem (by simpa using hs) fun j h1 h2 => ?_
      have g : (x :: xs).toArray[j + 1]? = some acc.toList[j] := it.2 j (acc.toList[j]) (by rw [← Array.getElem?_toList]; exact List.getElem?_eq_getElem h1)
      rw [List.getElem?_toArray, List.getElem?_cons_succ, List.getElem?_eq_getElem h2] at g
      exact (Option.some.inj g).symm
    rw [ea]
    rw [if_neg (by simp)]
    refine wpAny_bind (wpAny_newList ?_ (by simpa using lim))
    refine wpAny_pure ?_
    have e1 : xs.take (xs.length - (2 - 1 - 1)) = xs := by simp
    have e2 : xs.drop (xs.length - (2 - 1 - 1)) = [] := by simp
    rw [e1, e2]
    have mg : s2.gens = s.gens := mv.gens
    refine q _ s2.heap.objs.size 0 (fun b o e => Heap.get?_push_of_some _ (mv.heap b o (fun m => ?_) (keep1 b o e))) mg mv.drawn mv.os ?_ (Heap.get?_push_size _ rfl)
    · have := List.mem_singleton.mp m
      exact Nat.ne_of_lt (Heap.lt_size e) this
    · exact Nat.le_trans (Nat.le_of_lt lt1) sz
end
section
variable {X : Cx}
def gFirst (K : PySem.W.Frag) (t1 t2 : TG) : TG := fun v σ H Q => ∃ a x xs, v = .ref a ∧ SqT K H a (x :: xs) ∧ ∀ p, H p = none → t1 x σ (upd H p (.lst xs)) fun σ1 H1 => t2 (.ref p) σ1 H1 Q
theorem pg_first {e1 e2 : Expr} {p pos : Pos} {k : Nat} {t1 t2 : TG} (hc : X.calm = true) (h1 : PG X e1 t1) (h2 : PG X e2 t2) (he1 : assignEach [e1, .Starred e2 p] X.env = [(false, assign e1 X.env), (true, assign e2 X.env)] := by rfl) : PG X (.Tuple [e1, .Starred e2 p] k pos) (gFirst X.K t1 t2) := by
  refine ⟨fun pins s σ H v u Q I r hw => ?_⟩
  obtain ⟨a, x, xs, rfl, hq, hw⟩ := hw
  cases r
  obtain ⟨its, rv, ht, hz⟩ := I.tuple hq
  cases rv with
  | @cons _ y _ ys rx rxs =>
    rw [assign_Tuple]
    refine wpAny_bind (wpAny_standAt ?_)
    unfold unpack
    rw [he1]
    refine wpAny_bind (wpAny_holding (unpack_first (I.ok.hd hc) ht (by have := rxs.length; simp only [List.length_cons] at hz; rw [sizeLine_eq] at *; omega) fun s' p n k g d o hp hg => ?_))
    have fr : H p = none := I.hok.fresh hp
    have lim : xs.length ≤ sizeLine := by
      have := rxs.length
      simp only [List.length_cons] at hz
      rw [sizeLine_eq] at *
      omega
    have J : Inv X pins σ (upd H p (.lst xs)) { s with heap := s'.heap, gens := s'.gens, drawn := s'.drawn, toks := s'.toks } :=
      I.call (ch := []) (Un.laid k hp fr) (I.hok.laid k hp ⟨lim, ys, n, rxs, hg⟩) (by rw [g]; exact I.bare) (fun _ z => nomatch z)
    have e : s' = { s with heap := s'.heap, gens := s'.gens, drawn := s'.drawn, toks := s'.toks } := by
      obtain ⟨_, _, _, _, _⟩ := s'
      obtain ⟨_, _, _, _, _⟩ := s
      cases o
      rfl
    rw [e]
    refine assignInOrder_cons (thn (h1.run pins _ σ _ x y _ J rx (hw p fr)) fun _ s2 q2 => ?_)
    obtain ⟨σ2, H2, I2, q2⟩ := q2
    refine assignInOrder_cons (thn (h2.run pins s2 σ2 H2 (.ref p) (.ref p) _ I2 rfl q2) fun _ s3 q3 => ?_)
    exact assignInOrder_nil q3
end
end RF

set_option autoImplicit false
set_option linter.all false
/-! Qs: lists with stars, sorted(set(texts)) -/
namespace Q
open PySem L2
open PyProof.Rows (sortedS risingS)
/-! ### texts in order -/
def sLt (a b : Str) : Bool := PySem.Spec.ltCps a.cps.toList b.cps.toList
theorem sLt_iff {a b : Str} : sLt a b = true ↔ a.cps.toList < b.cps.toList := by
  unfold sLt
  rw [PyProof.Rows.ltCps_eq]
  exact decide_eq_true_iff
theorem str_ext {a b : Str} (h : a.cps.toList = b.cps.toList) : a = b := by
  obtain ⟨⟨a⟩⟩ := a
  obtain ⟨⟨b⟩⟩ := b
  have h : a = b := h
  subst h
  rfl
/-- put into a strictly ascending list -/
def insS (x : Str) : List Str → List Str
  | [] => [x]
  | y :: r => if x = y then y :: r else if sLt x y then x :: y :: r else y :: insS x r
def sos (ss : List Str) : List Str := ss.foldr insS []
def Asc (l : List Str) : Prop := l.Pairwise fun a b => a.cps.toList < b.cps.toList
theorem mem_insS {x z : Str} : ∀ {l : List Str}, z ∈ insS x l ↔ z = x ∨ z ∈ l
  | [] => by simp [insS]
  | y :: r => by
    unfold insS
    split
    · rename_i e
      subst e
      simp
    · split
      · simp
      · rw [List.mem_cons, mem_insS (l := r), List.mem_cons]
        constructor
        · rintro (h | h | h)
          · exact .inr (.inl h)
          · exact .inl h
          · exact .inr (.inr h)
        · rintro (h | h | h)
          · exact .inr (.inl h)
          · exact .inl h
          · exact .inr (.inr h)
theorem asc_insS {x : Str} : ∀ {l : List Str}, Asc l → Asc (insS x l)
  | [], _ => List.pairwise_singleton _ _
  | y :: r, h => by
    obtain ⟨h1, h2⟩ := List.pairwise_cons.mp h
    unfold insS
    split
    · exact h
    · rename_i ne
      split
      · rename_i lt
        refine List.pairwise_cons.mpr ⟨fun z hz => ?_, h⟩
        rcases List.mem_cons.mp hz with rfl | hz
        · exact sLt_iff.mp lt
        · exact List.lt_trans (sLt_iff.mp lt) (h1 z hz)
      · rename_i nlt
        refine List.pairwise_cons.mpr ⟨fun z hz => ?_, asc_insS h2⟩
        rcases mem_insS.mp hz with rfl | hz
        · have h3 := List.not_lt.mp fun q => nlt (sLt_iff.mpr q)
          exact (List.le_iff_lt_or_eq.mp h3).resolve_right fun q => ne (str_ext q.symm)
        · exact h1 z hz
theorem asc_sos : ∀ ss : List Str, Asc (sos ss)
  | [] => List.Pairwise.nil
  | x :: r => asc_insS (asc_sos r)
theorem mem_sos {z : Str} : ∀ {ss : List Str}, z ∈ sos ss ↔ z ∈ ss
  | [] => by simp [sos]
  | x :: r => by
    show z ∈ insS x (sos r) ↔ _
    rw [mem_insS, mem_sos (ss := r), List.mem_cons]
theorem asc_eq : ∀ {l m : List Str}, Asc l → Asc m → (∀ z, z ∈ l ↔ z ∈ m) → l = m
  | [], [], _, _, _ => rfl
  | [], b :: m, _, _, h => absurd ((h b).mpr List.mem_cons_self) (by simp)
  | a :: l, [], _, _, h => absurd ((h a).mp List.mem_cons_self) (by simp)
  | a :: l, b :: m, hl, hm, h => by
    obtain ⟨l1, l2⟩ := List.pairwise_cons.mp hl
    obtain ⟨m1, m2⟩ := List.pairwise_cons.mp hm
    have e : a = b := by
      rcases List.mem_cons.mp ((h a).mp List.mem_cons_self) with e | e
      · exact e
      · rcases List.mem_cons.mp ((h b).mpr List.mem_cons_self) with q | q
        · exact q.symm
        · exact absurd (List.lt_trans (l1 b q) (m1 a e)) (List.lt_irrefl _)
    subst e
    have : l = m := asc_eq l2 m2 fun z => by
      have hz := h z
      rw [List.mem_cons, List.mem_cons] at hz
      constructor
      · intro k
        rcases hz.mp (.inr k) with q | q
        · subst q; exact absurd (l1 z k) (List.lt_irrefl _)
        · exact q
      · intro k
        rcases hz.mpr (.inr k) with q | q
        · subst q; exact absurd (m1 z k) (List.lt_irrefl _)
        · exact q
    rw [this]
theorem asc_of_rising : ∀ {x : Str} {l : List Str}, risingS x l = true → (x :: l).Nodup → Asc (x :: l)
  | x, [], _, _ => List.pairwise_singleton _ _
  | x, y :: r, h, nd => by
    unfold risingS at h
    rw [Bool.and_eq_true] at h
    obtain ⟨n1, n2⟩ := List.nodup_cons.mp nd
    have ih := asc_of_rising h.2 n2
    have xy : x.cps.toList < y.cps.toList := by
      have h1 : ¬ y.cps.toList < x.cps.toList := fun q => by
        have := sLt_iff.mpr q
        unfold sLt at this
        rw [this] at h
        simp at h
      rcases List.le_iff_lt_or_eq.mp (List.not_lt.mp h1) with q | q
      · exact q
      · exact absurd (List.mem_cons_self (a := y) (l := r)) (str_ext q ▸ n1)
    refine List.pairwise_cons.mpr ⟨fun z hz => ?_, ih⟩
    rcases List.mem_cons.mp hz with rfl | hz
    · exact xy
    · exact List.lt_trans xy ((List.pairwise_cons.mp ih).1 z hz)
theorem asc_of_sorted {l : List Str} (h : sortedS l = true) (nd : l.Nodup) : Asc l := by
  cases l with
  | nil => exact List.Pairwise.nil
  | cons x r => exact asc_of_rising h nd
theorem asc_nodup {l : List Str} (h : Asc l) : l.Nodup := h.imp fun {a b} q e => by subst e; exact List.lt_irrefl _ q
theorem len_sos (ss : List Str) : (sos ss).length ≤ ss.length := by
  induction ss with
  | nil => exact Nat.le_refl _
  | cons x r ih =>
    have : ∀ l : List Str, (insS x l).length ≤ l.length + 1 := fun l => by
      induction l with
      | nil => exact Nat.le_refl _
      | cons y r ih =>
        unfold insS
        split
        · simp
        · split
          · simp
          · simp only [List.length_cons]; omega
    show (insS x (sos r)).length ≤ _
    have h := this (sos r)
    rw [List.length_cons]
    omega
theorem sos_of {ys ss : List Str} (h : sortedS ys = true) (nd : ys.Nodup) (hm : ∀ z, z ∈ ys ↔ z ∈ ss) : ys = sos ss := asc_eq (asc_of_sorted h nd) (asc_sos ss) fun z => (hm z).trans mem_sos.symm
theorem sos_asc {l : List Str} (h : Asc l) : sos l = l := asc_eq (asc_sos l) h fun z => mem_sos
section
variable {X : Cx} {C : Cxt} {e a : Expr} {es : List Expr} {t : TE} {w : WE} {pos p p2 : Pos}
def pSoSet : P1 := fun x k => match x.toD with
  | .lst ds => ∃ ss, strsD ds = some ss ∧ ss.length ≤ 3000 ∧ k (.ol ((sos ss).map .str))
  | _ => False
/-- sorted(set(e)) -/
theorem pd_soset (F : Fit X C) {e0 : Expr} (hp : PE X e0 (tCB (RF.rSortedX X.prog X.w) (tCons (tCB (RF.rSetX X.K X.prog X.w) (tCons t tNil)) tNil))) (h : PB X C e t w) : PD X C e0 (tCB (RF.rSortedX X.prog X.w) (tCons (tCB (RF.rSetX X.K X.prog X.w) (tCons t tNil)) tNil)) (wUn pSoSet w) := by
  refine ⟨hp, fun ρ ρx σ σx H S k Q hl st hw q => ?_⟩
  refine h.ok ρ ρx σ σx H S _ _ hl st hw fun x ρ1 vx H1 S1 hl1 st1 okx hk => ?_
  unfold pSoSet at hk
  split at hk
  · rename_i ds e1
    obtain ⟨ss, h1, h2, h3⟩ := hk
    obtain ⟨a, xs, rfl, g1, g2, g3⟩ := okx.lst e1
    obtain rfl := strs_V g3 h1
    refine ⟨a, ss, rfl, SqL.of g1, h2, fun b c hb => ⟨b, _, _, rfl, upd_same, fun ys p hs nd hm _ hp => ?_⟩⟩
    have ey : ys = sos ss := sos_of hs nd fun z => (hm z).trans decide_eq_true_iff
    have := len_sos ss
    rw [ey]
    exact ans_ol (k := fun s => k s ρ1) (st1.new hb) (fun s v H2 S2 st2 h2 => q s ρ1 v H2 S2 hl1 st2 h2) (by rw [List.length_map]; omega) (Rps.strs _) h3 p hp
  · exact hk.elim
/-! ### [*e, ..] -/
def wStar (wa : WE) (wr : WA) : WA := fun ρ k => wa ρ fun x ρ1 => match x.toD with
  | .lst ds => wr ρ1 fun es ρ2 => k (ds ++ es) ρ2
  | .tup ds => wr ρ1 fun es ρ2 => k (ds ++ es) ρ2
  | _ => False
theorem fzs_app (ds es : List D) : fzs (ds ++ es) = fzs ds ++ fzs es := List.map_append
theorem qa_star {tr : TA} {wr : WA} (F : Fit X C) (ha : PD X C e t w) (hr : QA X C es tr wr) (hs : starEach (.Starred e p :: es) X.env = (true, eval e X.env) :: starEach es X.env := by rfl) : QA X C (.Starred e p :: es) (StX.tStar X.K t tr) (wStar w wr) := by
  refine ⟨StX.pa_star ha.pe hr.pa hs, fun ρ ρx σ σx H S k Q hl st hw q => ?_⟩
  refine ha.ok ρ ρx σ σx H S _ _ hl st hw fun x ρ1 vx H1 S1 hl1 st1 hk => ?_
  obtain ⟨S2, st2⟩ := st1.lastD
  have lx : (ρ1 ++ ρx).length = (σ ++ σx).length := by
    have := st2.len
    simp only [List.length_append, List.length_cons, List.length_nil] at this ⊢
    omega
  have rp := st2.last lx
  have s0 := st2.drop lx
  have fin : ∀ (ds : List D) (xs : List V), Rps C.B (hid S2 H1) xs ds → (wr ρ1 fun es ρ2 => k (ds ++ es) ρ2) → tr σ H1 fun ys H2 => Q (xs ++ ys) H2 := fun ds xs rx hk => by
    have s1 := s0.pushs rx
    rw [List.append_assoc, List.append_assoc] at s1
    refine hr.ok ρ1 (ρx ++ fzs ds) σ (σx ++ xs.map some) H1 S2 _ _ hl1 s1 hk fun es ρ2 vs H2 S3 hl2 st3 hk2 => ?_
    refine q (ds ++ es) ρ2 (xs ++ vs) H2 S3 hl2 ?_ hk2
    rw [fzs_app, List.map_append]
    simpa [List.append_assoc] using st3
  split at hk
  · rename_i ds e1
    rw [e1] at rp
    obtain ⟨a, xs, rfl, g1, g2, g3⟩ := rp
    exact ⟨a, xs, rfl, .inr (SqL.of (hid_some g1).2), fin ds xs g3 hk⟩
  · rename_i ds e1
    rw [e1] at rp
    obtain ⟨a, xs, rfl, g1, g2, g3⟩ := rp
    rw [F.K] at g1
    exact ⟨a, xs, rfl, .inl (sameT hid_same g1), fin ds xs g3 hk⟩
  · exact hk.elim
end
/-! ### a, *b = a tuple, of names -/
def wFirst (i j : Nat) : WG := fun s ρ k => match s.toD with
  | .tup (d :: ds) => k ((ρ.set i (some (.fz d))).set j (some (.ol ds)))
  | _ => False
theorem ok_first {K : PySem.W.Frag} {C : Cxt} (hK : C.B.K = K) (i j : Nat) : OkG C [i, j] (RF.gFirst K (gName i) (gName j)) (wFirst i j) := by
  intro ρ ρx σ σx H S s v k Q hl st ok ap hw q
  unfold wFirst at hw
  split at hw
  · rename_i d ds e
    obtain ⟨a, us, rfl, g1, g2, g3⟩ := ok.tup e
    obtain ⟨x, xs, rfl, rx, rxs⟩ := g3
    rw [hK] at g1
    refine ⟨a, x, xs, rfl, g1, fun p hp => ?_⟩
    have lim : xs.length ≤ 1000000 := by simp only [List.length_cons] at g2; omega
    have st1 := st.pushL hp lim rxs
    rw [List.append_assoc, List.append_assoc] at st1
    have st2 := st1.assign (s := .fz d) (v := x) hl (Rp.same (hid_newS hp) d rx) (fun z => by cases z) i
    have hl2 : (ρ.set i (some (Sl.fz d))).length = (σ.set i (some x)).length := by simp [hl]
    rw [← List.append_assoc, ← List.append_assoc] at st2
    have lx : (ρ.set i (some (Sl.fz d)) ++ ρx).length = (σ.set i (some x) ++ σx).length := by
      have := st.len
      simp only [List.length_append, List.length_set] at *
      omega
    have st3 := st2.popLast.assign hl2 (st2.last lx) st2.apt j
    refine q _ _ _ _ (by simp [hl]) ?_ st3 hw
    exact (At.set σ i (some x)).trans (At.set (σ.set i (some x)) j (some (.ref p)))
  · exact hw.elim
theorem qg_first {X : Cx} {C : Cxt} (F : Fit X C) {e1 e2 : Expr} {p pos : Pos} {k i j : Nat} (hc : X.calm = true) (h1 : PG X e1 (gName i)) (h2 : PG X e2 (gName j)) (he1 : assignEach [e1, .Starred e2 p] X.env = [(false, assign e1 X.env), (true, assign e2 X.env)] := by rfl) :
    QG X C [i, j] (.Tuple [e1, .Starred e2 p] k pos) (RF.gFirst X.K (gName i) (gName j)) (wFirst i j) := ⟨RF.pg_first hc h1 h2 he1, ok_first F.K i j⟩
end Q

set_option autoImplicit false
set_option linter.all false
/-! Ql: comprehensions with two for -/
namespace Q
open PySem L2
section
variable {C : Cxt}
theorem mid_get {α : Type} (l r : List α) (x : α) : ((l ++ [x]) ++ r)[l.length]? = some x := by
  rw [List.append_assoc, List.getElem?_append_right (Nat.le_refl _), Nat.sub_self]
  rfl
theorem mid_set {α : Type} (l r : List α) (x y : α) : ((l ++ [x]) ++ r).set l.length y = (l ++ [y]) ++ r := by
  rw [List.append_assoc, List.set_append_right _ _ (Nat.le_refl _), Nat.sub_self, List.append_assoc]
  rfl
/-- a list of one's own grows, wherever it is held -/
theorem Sta.grow {α β : Ev} {α' β' : St} {H : Hp} {S : List Addr} {acc : List D} {v : V} {d : D} {Da : Addr} (st : Sta C ((α ++ [some (.ol acc)]) ++ β) ((α' ++ [some (.ref Da)]) ++ β') H S) (hl : α.length = α'.length) (hv : Rp C.B (hid S H) v d) (lim : acc.length < 1000000) :
    ∃ ys, H Da = some (.lst ys) ∧ ys.length < sizeLine ∧ Sta C ((α ++ [some (.ol (acc ++ [d]))]) ++ β) ((α' ++ [some (.ref Da)]) ++ β') (upd H Da (.lst (ys ++ [v]))) S := by
  have e6 := mid_get α β (some (Sl.ol acc))
  have q6 := mid_get α' β' (some (V.ref Da))
  rw [← hl] at q6
  obtain ⟨v', h2, b, ys, rfl, m', h0', hy, hlen', hr'⟩ := st.get e6
  rw [q6] at h2
  cases h2
  have ly := hr'.len
  refine ⟨ys, hy, lim_lt (by omega), ?_⟩
  have st7 := st.write (es := acc ++ [d]) (ys := ys ++ [v]) e6 q6 (by rw [List.length_append]; show ys.length + 1 ≤ _; omega) (hr'.snoc hv)
  rw [mid_set] at st7
  exact st7
theorem at_wipe (σ : St) (vs : List Nat) : At vs σ (L2.wipe σ vs) := ⟨wipe_length .., fun j hj => by rw [wipe_get, if_neg fun z => hj z.1]⟩
theorem wipe_wipe (σ : St) {vs vs1 : List Nat} (h : ∀ i ∈ vs1, i ∈ vs) : L2.wipe (L2.wipe σ vs1) vs = L2.wipe σ vs := wipe_at (at_wipe σ vs1) h
def lcW2 (vs vs1 : List Nat) (g : WG) (c : WT) (wi1 : WI) (g1 : WG) (c1 : WT) (we : WE) : List D → List D → Ev → (List D → Ev → Prop) → Prop
  | [], acc, ρ, k => k acc ρ
  | d :: ds, acc, ρ, k => g (.fz d) ρ fun ρ1 => c ρ1 fun b ρ2 => if b = true then wi1 ρ2 fun es ρ3 => lcW vs1 g1 c1 we es acc (wipeE ρ3 vs1) fun acc' ρ4 => lcW2 vs vs1 g c wi1 g1 c1 we ds acc' (wipeE ρ4 vs) k else lcW2 vs vs1 g c wi1 g1 c1 we ds acc (wipeE ρ2 vs) k
def wLc2 (vs vs1 : List Nat) (wi : WI) (g : WG) (c : WT) (wi1 : WI) (g1 : WG) (c1 : WT) (we : WE) : WE := fun ρ k => wi ρ fun ds ρ1 => lcW2 vs vs1 g c wi1 g1 c1 we ds [] (wipeE ρ1 vs) fun acc ρ2 => k (.ol acc) ρ2
theorem ok_lc2 {is vs is1 vs1 : List Nat} {ti ti1 : TI} {wi wi1 : WI} {g g1 : TG} {u u1 : WG} {tt tt1 : TT} {wt wt1 : WT} {t : TE} {w : WE} (hi : OkI C ti wi) (hg : OkG C is g u) (ht : OkT C tt wt) (hi1 : OkI C ti1 wi1) (hg1 : OkG C is1 g1 u1) (ht1 : OkT C tt1 wt1) (he : OkE C t w)
    (hv : ∀ i ∈ is, i ∈ vs) (hv1 : ∀ i ∈ is1, i ∈ vs1) (hvv : ∀ i ∈ vs1, i ∈ vs) : OkE C (tLc2 ti g tt ti1 g1 tt1 t vs vs1) (wLc2 vs vs1 wi u wt wi1 u1 wt1 w) := by
  intro ρ ρx σ σx H S k Qd hl st hw q
  refine hi ρ ρx σ σx H S _ _ hl st hw fun ds ρ1 ρh σh J H1 S1 hl1 hh st1 it hk D hD => ?_
  have lxx : ρx.length = σx.length := by have := st.len; simp only [List.length_append] at this; omega
  have re : ∀ (ρ' : Ev) (a : List Q.D), ((ρ' ++ ρx) ++ ρh) ++ [some (.ol a)] = ρ' ++ (ρx ++ ρh ++ [some (.ol a)]) := fun ρ' a => by simp only [List.append_assoc]
  have rs : ∀ σ' : St, ((σ' ++ σx) ++ σh) ++ [some (.ref D)] = σ' ++ (σx ++ σh ++ [some (.ref D)]) := fun σ' => by simp only [List.append_assoc]
  let K : List Q.D → Ev → Prop := fun acc ρ2 => k (.ol acc) ρ2
  refine ⟨fun i m H' => m = ds.length - i ∧ i ≤ ds.length ∧ ∃ acc ρ' S', ρ'.length = σ.length ∧ (∀ v ∈ vs, ∀ s, ρ'[v]? ≠ some (some s)) ∧ Sta C (ρ' ++ (ρx ++ ρh ++ [some (.ol acc)])) (L2.wipe σ vs ++ (σx ++ σh ++ [some (.ref D)])) H' S' ∧ lcW2 vs vs1 u wt wi1 u1 wt1 w (ds.drop i) acc ρ' K, ⟨ds.length, by simp, Nat.zero_le _, [], wipeE ρ1 vs, D :: S1, by rw [wipeE_len]; exact hl1, fun v m s => wipeE_get ρ1 m s, ?_, hk⟩, ?_⟩
  · have := st1.pushL (ds := []) (xs := []) hD (Nat.zero_le _) Rps.nil
    rw [re, rs] at this
    exact this.wipe hl1 vs
  · rintro i m H' ⟨rfl, him, acc, ρ', S', hl', hn, stw, hk'⟩
    have lx' : (ρ' ++ ρx).length = (L2.wipe σ vs ++ σx).length := by simp only [List.length_append, wipe_length]; omega
    have stl := stw
    rw [← re, ← rs] at stl
    by_cases hlt : i < ds.length
    · obtain ⟨d, hd⟩ := split_at hlt
      rw [List.drop_eq_getElem_cons hlt] at hk'
      have ed : ds[i] = d := by rw [List.getElem?_eq_getElem hlt] at hd; exact Option.some.inj hd
      rw [ed] at hk'
      refine .inr ⟨it.go _ _ H' S' i lx' stl.popLast hlt, fun H2 => ∃ acc ρ2 S2, ρ2.length = σ.length ∧ (∀ v ∈ vs, ∀ s, ρ2[v]? ≠ some (some s)) ∧ Sta C (ρ2 ++ (ρx ++ ρh ++ [some (.ol acc)])) (L2.wipe σ vs ++ (σx ++ σh ++ [some (.ref D)])) H2 S2 ∧ lcW2 vs vs1 u wt wi1 u1 wt1 w (ds.drop (i + 1)) acc ρ2 K, fun H2 h2 => ⟨ds.length - (i + 1), by omega, rfl, hlt, h2⟩, fun x H2 y => ?_⟩
      obtain ⟨st2, r2⟩ := it.yldA (ρ := ρ' ++ ρx) (σ := L2.wipe σ vs ++ σx) lx' hh stl hd y
      rw [re, rs] at st2
      refine hg ρ' (ρx ++ ρh ++ [some (.ol acc)]) (L2.wipe σ vs) (σx ++ σh ++ [some (.ref D)]) H2 S' (.fz d) x _ _ (by rw [wipe_length]; exact hl') st2 r2 (fun z => by cases z) hk' fun ρ3 σ3 H3 S3 hl3 a3 st3 hk3 => ?_
      have ew : L2.wipe σ3 vs = L2.wipe σ vs := by rw [wipe_at a3 hv, wipe_idem]
      have l3 : σ3.length = σ.length := by rw [a3.1, wipe_length]
      refine ⟨ew, ?_⟩
      refine ht ρ3 (ρx ++ ρh ++ [some (.ol acc)]) σ3 (σx ++ σh ++ [some (.ref D)]) H3 S3 _ _ hl3 st3 hk3 fun b ρ4 H4 S4 hl4 st4 hk4 => ?_
      cases b with
      | false =>
        refine ⟨acc, wipeE ρ4 vs, S4, by rw [wipeE_len]; omega, fun v m s => wipeE_get ρ4 m s, ?_, hk4⟩
        have := st4.wipe hl4 vs
        rw [ew] at this
        exact this
      | true =>
        -- the inner one
        refine hi1 ρ4 (ρx ++ ρh ++ [some (.ol acc)]) σ3 (σx ++ σh ++ [some (.ref D)]) H4 S4 _ _ hl4 st4 hk4 fun es ρ5 ρi σi J1 H5 S5 hl5 hhi st5 it1 hk5 => ?_
        have rei : ∀ (ρ' : Ev) (a : List Q.D), (ρ' ++ (ρx ++ ρh ++ [some (.ol a)])) ++ ρi = ρ' ++ (ρx ++ ρh ++ [some (.ol a)] ++ ρi) := fun ρ' a => by simp only [List.append_assoc]
        have rsi : ∀ σ' : St, (σ' ++ (σx ++ σh ++ [some (.ref D)])) ++ σi = σ' ++ (σx ++ σh ++ [some (.ref D)] ++ σi) := fun σ' => by simp only [List.append_assoc]
        have reg : ∀ (ρ' : Ev) (a : List Q.D), ρ' ++ (ρx ++ ρh ++ [some (.ol a)] ++ ρi) = ((ρ' ++ ρx ++ ρh) ++ [some (.ol a)]) ++ ρi := fun ρ' a => by simp only [List.append_assoc]
        have rsg : ∀ σ' : St, σ' ++ (σx ++ σh ++ [some (.ref D)] ++ σi) = ((σ' ++ σx ++ σh) ++ [some (.ref D)]) ++ σi := fun σ' => by simp only [List.append_assoc]
        refine ⟨fun j n H' => n = es.length - j ∧ j ≤ es.length ∧ ∃ acc ρ' S', ρ'.length = σ3.length ∧ (∀ v ∈ vs1, ∀ s, ρ'[v]? ≠ some (some s)) ∧ Sta C (ρ' ++ (ρx ++ ρh ++ [some (.ol acc)] ++ ρi)) (L2.wipe σ3 vs1 ++ (σx ++ σh ++ [some (.ref D)] ++ σi)) H' S' ∧
          lcW vs1 u1 wt1 w (es.drop j) acc ρ' fun acc' ρ4 => lcW2 vs vs1 u wt wi1 u1 wt1 w (ds.drop (i + 1)) acc' (wipeE ρ4 vs) K, ⟨es.length, by simp, Nat.zero_le _, acc, wipeE ρ5 vs1, S5, by rw [wipeE_len]; exact hl5, fun v m s => wipeE_get ρ5 m s, ?_, hk5⟩, ?_⟩
        · rw [rei, rsi] at st5
          exact st5.wipe hl5 vs1
        · rintro j n H6 ⟨rfl, hjm, acc6, ρ6, S6, hl6, hn6, stw6, hk6⟩
          have l6 : (ρ6 ++ (ρx ++ ρh ++ [some (Sl.ol acc6)])).length = (L2.wipe σ3 vs1 ++ (σx ++ σh ++ [some (V.ref D)])).length := by simp only [List.length_append, List.length_cons, List.length_nil, wipe_length]; omega
          have st6 := stw6
          rw [← rei, ← rsi] at st6
          by_cases hjl : j < es.length
          · obtain ⟨d1, hd1⟩ := split_at hjl
            rw [List.drop_eq_getElem_cons hjl] at hk6
            have ed1 : es[j] = d1 := by rw [List.getElem?_eq_getElem hjl] at hd1; exact Option.some.inj hd1
            rw [ed1] at hk6
            refine .inr ⟨it1.go _ _ H6 S6 j l6 st6 hjl, fun H7 => ∃ acc ρ' S', ρ'.length = σ3.length ∧ (∀ v ∈ vs1, ∀ s, ρ'[v]? ≠ some (some s)) ∧ Sta C (ρ' ++ (ρx ++ ρh ++ [some (.ol acc)] ++ ρi)) (L2.wipe σ3 vs1 ++ (σx ++ σh ++ [some (.ref D)] ++ σi)) H7 S' ∧
              lcW vs1 u1 wt1 w (es.drop (j + 1)) acc ρ' fun acc' ρ4 => lcW2 vs vs1 u wt wi1 u1 wt1 w (ds.drop (i + 1)) acc' (wipeE ρ4 vs) K, fun H7 h7 => ⟨es.length - (j + 1), by omega, rfl, hjl, h7⟩, fun x1 H7 y1 => ?_⟩
            obtain ⟨st7, r7⟩ := it1.yld _ _ H6 H7 S6 j x1 d1 l6 st6 hd1 y1
            rw [rei, rsi] at st7
            refine hg1 ρ6 (ρx ++ ρh ++ [some (.ol acc6)] ++ ρi) (L2.wipe σ3 vs1) (σx ++ σh ++ [some (.ref D)] ++ σi) H7 S6 (.fz d1) x1 _ _ (by rw [wipe_length]; exact hl6) st7 r7 (fun z => by cases z) hk6 fun ρ8 σ8 H8 S8 hl8 a8 st8 hk8 => ?_
            have ew1 : L2.wipe σ8 vs1 = L2.wipe σ3 vs1 := by rw [wipe_at a8 hv1, wipe_idem]
            have l8 : σ8.length = σ3.length := by rw [a8.1, wipe_length]
            refine ⟨ew1, ?_⟩
            refine ht1 ρ8 (ρx ++ ρh ++ [some (.ol acc6)] ++ ρi) σ8 (σx ++ σh ++ [some (.ref D)] ++ σi) H8 S8 _ _ hl8 st8 hk8 fun b ρ9 H9 S9 hl9 st9 hk9 => ?_
            cases b with
            | false =>
              refine ⟨acc6, wipeE ρ9 vs1, S9, by rw [wipeE_len]; omega, fun v m s => wipeE_get ρ9 m s, ?_, hk9⟩
              have := st9.wipe hl9 vs1
              rw [ew1] at this
              exact this
            | true =>
              refine he ρ9 (ρx ++ ρh ++ [some (.ol acc6)] ++ ρi) σ8 (σx ++ σh ++ [some (.ref D)] ++ σi) H9 S9 _ _ hl9 st9 hk9 fun s ρa v Ha Sa hla sta hka => ?_
              obtain ⟨Sb, stb⟩ := sta.lastD
              have la : (ρa ++ (ρx ++ ρh ++ [some (Sl.ol acc6)] ++ ρi)).length = (σ8 ++ (σx ++ σh ++ [some (V.ref D)] ++ σi)).length := by simp only [List.length_append, List.length_cons, List.length_nil] at *; omega
              have okv := stb.last la
              have stc := stb.popLast
              rw [reg, rsg] at stc
              obtain ⟨ys, hy, hlim, std⟩ := stc.grow (by simp only [List.length_append]; omega) okv hka.1
              rw [← reg, ← rsg] at std
              refine ⟨ys, hy, hlim, acc6 ++ [s.toD], wipeE ρa vs1, Sb, by rw [wipeE_len]; omega, fun v m s => wipeE_get ρa m s, ?_, hka.2⟩
              have := std.wipe hla vs1
              rw [ew1] at this
              exact this
          · have e : j = es.length := by omega
            subst e
            rw [List.drop_length] at hk6
            refine .inl ⟨it1.stop _ _ H6 S6 l6 st6, acc6, wipeE ρ6 vs, S6, by rw [wipeE_len]; omega, fun v m s => wipeE_get ρ6 m s, ?_, hk6⟩
            have := (st6.drop l6).wipe (by rw [wipe_length]; exact hl6) vs
            rw [wipe_wipe σ3 hvv, ew] at this
            exact this
    · have e : i = ds.length := by omega
      subst e
      rw [List.drop_length] at hk'
      refine .inl ⟨it.stop _ _ H' S' lx' stl.popLast, ?_⟩
      have stf := stw.unwipe hl' hn
      rw [← re, ← rs] at stf
      have lf : (ρ' ++ ρx).length = (σ ++ σx).length := by simp only [List.length_append]; omega
      have lhf : ((ρ' ++ ρx) ++ ρh).length = ((σ ++ σx) ++ σh).length := by simp only [List.length_append] at *; omega
      refine q (.ol acc) ρ' (.ref D) H' S' hl' ((stf.popLast.drop lf).push (stf.last lhf) fun o j t ej to z => ?_) hk'
      exact stf.apt o j t (get_app ej) to (get_app z)
end
section
variable {X : Cx} {C : Cxt} {pos : Pos} {w : WE} {tg tg1 : Expr} {i : Nat}
section
variable {scope : Scope} {own : List (Str × Nat)} {is is1 vs1 : List Nat} {iter iter1 elt : Expr} {ifs ifs1 : List Expr} {ti : TI} {ti1 : Dep TI} {wi wi1 : WI} {g g1 : Dep TG} {u u1 : WG} {tt tt1 : Dep TT} {wt wt1 : WT} {t : Dep TE}
abbrev cst {α : Type} (X : Cx) (d : Dep α) : α := d X.s_0 X.H_0 0 [] []
/-- [e for .. in .. for .. in ..] -/
theorem pd_comp2 (hc : X.calm = true) (hN : X.N.Nodup) (hi : QI X C tg iter ti wi) (ok : BlkOk X.N X.env.scope scope own)
    (hg : ∀ s H Cl cl fp, QG (BX X scope s H Cl cl fp) C is tg (g s H Cl cl fp) u) (ht : ∀ s H Cl cl fp, QTs (BX X scope s H Cl cl fp) C ifs (tt s H Cl cl fp) wt) (hi1 : ∀ s H Cl cl fp, QI (BX X scope s H Cl cl fp) C tg1 iter1 (ti1 s H Cl cl fp) wi1)
    (hg1 : ∀ s H Cl cl fp, QG (BX X scope s H Cl cl fp) C is1 tg1 (g1 s H Cl cl fp) u1) (ht1 : ∀ s H Cl cl fp, QTs (BX X scope s H Cl cl fp) C ifs1 (tt1 s H Cl cl fp) wt1) (he : ∀ s H Cl cl fp, PD (BX X scope s H Cl cl fp) C elt (t s H Cl cl fp) w)
    (hv : ∀ i ∈ is, i ∈ own.map (·.2) := by decide) (hv1 : ∀ i ∈ is1, i ∈ vs1 := by decide) (hvv : ∀ i ∈ vs1, i ∈ own.map (·.2) := by decide)
    (eg : ∀ s H Cl cl fp, g s H Cl cl fp = cst X g := by intros; rfl) (et : ∀ s H Cl cl fp, tt s H Cl cl fp = cst X tt := by intros; rfl) (ei : ∀ s H Cl cl fp, ti1 s H Cl cl fp = cst X ti1 := by intros; rfl)
    (eg1 : ∀ s H Cl cl fp, g1 s H Cl cl fp = cst X g1 := by intros; rfl) (et1 : ∀ s H Cl cl fp, tt1 s H Cl cl fp = cst X tt1 := by intros; rfl) (ee : ∀ s H Cl cl fp, t s H Cl cl fp = cst X t := by intros; rfl)
    (hs : ∀ x, foldedSetIterable iter X.env x = pure x := by intro _; rfl) (hs1 : ∀ env x, foldedSetIterable iter1 env x = pure x := by intro _ _; rfl) :
    PD X C (.ListComp elt [⟨tg, iter, ifs, 0⟩, ⟨tg1, iter1, ifs1, 0⟩] scope pos) (tLc2 ti (cst X g) (cst X tt) (cst X ti1) (cst X g1) (cst X tt1) (cst X t) (own.map (·.2)) vs1) (wLc2 (own.map (·.2)) vs1 wi u wt wi1 u1 wt1 w) :=
  ⟨pe_lc2 hc hN hi.pi ok hvv (fun s H Cl cl fp => eg s H Cl cl fp ▸ (hg s H Cl cl fp).pg) (fun s H Cl cl fp => et s H Cl cl fp ▸ (ht s H Cl cl fp).pts) (fun s H Cl cl fp => ei s H Cl cl fp ▸ (hi1 s H Cl cl fp).pi) (fun s H Cl cl fp => eg1 s H Cl cl fp ▸ (hg1 s H Cl cl fp).pg) (fun s H Cl cl fp => et1 s H Cl cl fp ▸ (ht1 s H Cl cl fp).pts) (fun s H Cl cl fp => ee s H Cl cl fp ▸ (he s H Cl cl fp).pe) hs hs1,
    ok_lc2 hi.ok (hg X.s_0 X.H_0 0 [] []).ok (ht X.s_0 X.H_0 0 [] []).ok (hi1 X.s_0 X.H_0 0 [] []).ok (hg1 X.s_0 X.H_0 0 [] []).ok (ht1 X.s_0 X.H_0 0 [] []).ok (he X.s_0 X.H_0 0 [] []).ok hv hv1 hvv⟩
/-- name = [.. for .. for ..] -/
theorem qs_setLc2 {y : Str} {py spos : Pos} (hc : X.calm = true) (hN : X.N.Nodup) (hy : X.N[i]? = some y) (hyl : X.env.scope.names.lookup y = some .local)
    (hsw : swapsWith (.ListComp elt [⟨tg, iter, ifs, 0⟩, ⟨tg1, iter1, ifs1, 0⟩] scope pos) (some (.Name y py)) spos.line X.env = pure true) (hi : QI X C tg iter ti wi) (ok : BlkOk X.N X.env.scope scope own)
    (hg : ∀ s H Cl cl fp, QG (BX X scope s H Cl cl fp) C is tg (g s H Cl cl fp) u) (ht : ∀ s H Cl cl fp, QTs (BX X scope s H Cl cl fp) C ifs (tt s H Cl cl fp) wt) (hi1 : ∀ s H Cl cl fp, QI (BX X scope s H Cl cl fp) C tg1 iter1 (ti1 s H Cl cl fp) wi1)
    (hg1 : ∀ s H Cl cl fp, QG (BX X scope s H Cl cl fp) C is1 tg1 (g1 s H Cl cl fp) u1) (ht1 : ∀ s H Cl cl fp, QTs (BX X scope s H Cl cl fp) C ifs1 (tt1 s H Cl cl fp) wt1) (he : ∀ s H Cl cl fp, PD (BX X scope s H Cl cl fp) C elt (t s H Cl cl fp) w)
    (hv : ∀ i ∈ is, i ∈ own.map (·.2) := by decide) (hv1 : ∀ i ∈ is1, i ∈ vs1 := by decide) (hvv : ∀ i ∈ vs1, i ∈ own.map (·.2) := by decide)
    (eg : ∀ s H Cl cl fp, g s H Cl cl fp = cst X g := by intros; rfl) (et : ∀ s H Cl cl fp, tt s H Cl cl fp = cst X tt := by intros; rfl) (ei : ∀ s H Cl cl fp, ti1 s H Cl cl fp = cst X ti1 := by intros; rfl)
    (eg1 : ∀ s H Cl cl fp, g1 s H Cl cl fp = cst X g1 := by intros; rfl) (et1 : ∀ s H Cl cl fp, tt1 s H Cl cl fp = cst X tt1 := by intros; rfl) (ee : ∀ s H Cl cl fp, t s H Cl cl fp = cst X t := by intros; rfl)
    (hs : ∀ x, foldedSetIterable iter X.env x = pure x := by intro _; rfl) (hs1 : ∀ env x, foldedSetIterable iter1 env x = pure x := by intro _ _; rfl) :
    QS X C (.Assign [.Name y py] (.ListComp elt [⟨tg, iter, ifs, 0⟩, ⟨tg1, iter1, ifs1, 0⟩] scope pos) spos) (tAsg (tLc2 ti (cst X g) (cst X tt) (cst X ti1) (cst X g1) (cst X tt1) (cst X t) (own.map (·.2)) vs1) (gName i)) (wSet i (wLc2 (own.map (·.2)) vs1 wi u wt wi1 u1 wt1 w)) :=
  ⟨ps_setLc2 hc hN hy hyl hsw hi.pi ok hvv (fun s H Cl cl fp => eg s H Cl cl fp ▸ (hg s H Cl cl fp).pg) (fun s H Cl cl fp => et s H Cl cl fp ▸ (ht s H Cl cl fp).pts) (fun s H Cl cl fp => ei s H Cl cl fp ▸ (hi1 s H Cl cl fp).pi) (fun s H Cl cl fp => eg1 s H Cl cl fp ▸ (hg1 s H Cl cl fp).pg) (fun s H Cl cl fp => et1 s H Cl cl fp ▸ (ht1 s H Cl cl fp).pts) (fun s H Cl cl fp => ee s H Cl cl fp ▸ (he s H Cl cl fp).pe) hs hs1,
    ok_asg (ok_lc2 hi.ok (hg X.s_0 X.H_0 0 [] []).ok (ht X.s_0 X.H_0 0 [] []).ok (hi1 X.s_0 X.H_0 0 [] []).ok (hg1 X.s_0 X.H_0 0 [] []).ok (ht1 X.s_0 X.H_0 0 [] []).ok (he X.s_0 X.H_0 0 [] []).ok hv hv1 hvv) (ok_nm i)⟩
end
end
end Q

set_option autoImplicit false
set_option linter.all false
/-! Tr: a tuple from behind; a list grows by a tuple -/
namespace RF
open PySem PySem.Spec PyProof.Rows L2 HT
theorem back_adj (n : Nat) : Builtin.Slice.sliceAdjust none none (-1) (n : Int) = ((n : Int) - 1, -1) := by
  unfold Builtin.Slice.sliceAdjust
  have h : ((-1 : Int) < 0) := by omega
  simp only [h, if_true]
theorem back_places (n : Nat) : Builtin.Slice.slicePlaces ((n : Int) - 1) (-1) (-1) = n := by
  unfold Builtin.Slice.slicePlaces
  have h1 : ¬ ((-1 : Int) > 0) := by omega
  rw [if_neg h1]
  by_cases h : (n : Int) - 1 > -1
  · rw [if_pos h, show (- -1 : Int) = 1 by decide, Int.ediv_one]
    omega
  · rw [if_neg h]
    omega
theorem fm_congr {α β : Type} {f g : α → Option β} : ∀ {l : List α}, (∀ x ∈ l, f x = g x) → l.filterMap f = l.filterMap g
  | [], _ => rfl
  | x :: r, h => by
    rw [List.filterMap_cons, List.filterMap_cons, h x List.mem_cons_self, fm_congr fun y hy => h y (List.mem_cons_of_mem _ hy)]
theorem back_pick (xs : Array Value) : ((List.range xs.size).filterMap fun (m : Nat) => xs[(((xs.size : Int) - 1) + (m : Int) * (-1)).toNat]?).toArray = xs.toList.reverse.toArray := by
  have e1 : (List.range xs.size).filterMap (fun (m : Nat) => xs[(((xs.size : Int) - 1) + (m : Int) * (-1)).toNat]?) = ((List.range xs.size).map fun k => xs.size - 1 - k).filterMap (xs[·]?) := by
    rw [List.filterMap_map]
    refine fm_congr fun m hm => ?_
    have := List.mem_range.mp hm
    show _ = xs[xs.size - 1 - m]?
    rw [show (((xs.size : Int) - 1) + (m : Int) * (-1)).toNat = xs.size - 1 - m by omega]
  rw [e1, PySem.W.krv_range, List.filterMap_reverse, PySem.W.krv_all]
section
variable {prog : Program} {w : World} {A : Around} {E : Value → Shared → Prop} {s : Shared}
theorem back_applied {sl : Addr} {u : Tok} {n : Nat} {Q : Int × Int × Nat → Shared → Prop} (hs : s.heap.IsSliceOf sl .none .none (.int (-1) u)) (h : Q ((n : Int) - 1, -1, n) s) : wpAny (model prog w) A (Builtin.Slice.sliceApplied (.ref sl) (pure (n : Int))) Q E s := by
  obtain ⟨o, ho, hc, hd⟩ := id hs
  unfold Builtin.Slice.sliceApplied Builtin.Slice.sliceFields
  refine wpAny_bind (wpAny_bind (wpAny_field ho hd (x := .none) rfl (wpAny_bind (wpAny_field ho hd (x := .none) rfl (wpAny_bind (wpAny_field ho hd (x := .int (-1) u) rfl (wpAny_pure ?_)))))))
  refine wpAny_bind (slicePart_int ?_)
  show wpAny _ _ (if ((-1 : Int) == 0) = true then _ else _) _ _ s
  rw [if_neg (by decide)]
  refine wpAny_bind (slicePart_none (wpAny_bind (slicePart_none (wpAny_bind (wpAny_pure ?_)))))
  show wpAny _ _ (match Builtin.Slice.sliceAdjust none none (-1) (n : Int) with | (lo, hi) => pure (lo, (-1 : Int), Builtin.Slice.slicePlaces lo hi (-1))) _ _ s
  rw [back_adj n]
  show wpAny _ _ (pure ((n : Int) - 1, (-1 : Int), Builtin.Slice.slicePlaces ((n : Int) - 1) (-1) (-1))) _ _ s
  rw [back_places]
  exact wpAny_pure h
theorem back_tuple {t sl : Addr} {items : Array Value} {u : Tok} {Q : Value → Shared → Prop} (ht : IsTup s.heap t items) (hs : s.heap.IsSliceOf sl .none .none (.int (-1) u)) (hsz : items.size ≤ sizeLine)
    (h : Q (.ref s.heap.objs.size) { s with heap := s.heap.push { cls := .type "tuple", data := .seq items.toList.reverse.toArray } }) : wpAny (model prog w) A (getItem (.ref t) (.ref sl)) Q E s := by
  have fits : sizeOk (.seq items.toList.reverse.toArray) := by
    show items.toList.reverse.toArray.size ≤ sizeLine
    rw [List.size_toArray, List.length_reverse, Array.length_toList]
    exact hsz
  obtain ⟨o, ho, hc, hd⟩ := id hs
  have T : s.TypeIs (.ref sl) "slice" := ⟨o, ho, hc⟩
  unfold getItem
  try with_reducible refine wpAny_holding ?_
  first | refine wpAny_bind (wpAny_pure ?_) | skip
  refine wpAny_bind (wpAny_sequenceKey ht.typeIs (by decide) ?_)
  refine wpAny_bind (wpAny_callSpecial?_slot (name := Str.ofString "__getitem__") ht.typeIs PyProof.Rows.slot_tuple_getitem (wpAny_call_entry PyProof.Rows.slot_tuple_getitem ht.typeIs entry_tuple_getitem ?_ (args_tuple_getitem _ _)))
  show wpAny _ _ (Builtin.Tuple.tupleItemsOf (.ref t) >>= _) _ _ s
  refine wpAny_bind (tupleItemsOf_ ht (wpAny_bind (wpAny_typeOf T ?_)))
  rw [if_pos (by decide)]
  refine wpAny_bind (back_applied hs ?_)
  have no : ¬ ((((items.size : Int) - 1) == 0 && (-1 : Int) == 1 && items.size == items.size) = true) := by
    intro q
    rw [Bool.and_eq_true, Bool.and_eq_true] at q
    exact absurd q.1.2 (by decide)
  show wpAny _ _ (if (((items.size : Int) - 1) == 0 && (-1 : Int) == 1 && items.size == items.size) = true then _ else _) _ _ s
  rw [if_neg no, back_pick]
  first
    | exact wpAny_bind (m := Builtin.Tuple.tupleExact _) (wpAny_newObj_type (wpAny_pure ⟨_, rfl, wpAny_pure h⟩) fits)
    | exact wpAny_bind (m := Builtin.Tuple.tupleExact _) (wpAny_newObj_type (wpAny_bind (wpAny_pure (wpAny_pure ⟨_, rfl, wpAny_pure h⟩))) fits)
    | exact wpAny_bind (wpAny_bind (m := Builtin.Tuple.tupleExact _) (wpAny_newObj_type (wpAny_pure (wpAny_pure ⟨_, rfl, wpAny_pure h⟩)) fits))
    | exact wpAny_bind (wpAny_bind (m := Builtin.Tuple.tupleExact _) (wpAny_newObj_type (wpAny_pure ⟨_, rfl, wpAny_pure h⟩) fits))
end
/-- x[::-1] of a tuple -/
def tBackT (K : PySem.W.Frag) (te : TE) : TE := fun σ H Q => te σ H fun x H1 => ∃ a xs, x = .ref a ∧ SqT K H1 a xs ∧ ∀ p, H1 p = none → Q (.ref p) (upd H1 p (.tup xs.reverse))
theorem pe_backT {X : Cx} {e : Expr} {te : TE} {k : Nat} {p1 p2 p3 pos : Pos} (he : PE X e te) : PE X (.Subscript e (.Slice none none (some (.UnaryOp .USub (.Constant (.int 1) k p1) p2)) p3) pos) (tBackT X.K te) := by
  refine ⟨fun pins s σ H Q I h => ?_⟩
  refine Subscript_ (thn (he.run pins s σ H _ I h) fun v s1 ⟨x, H1, I1, r1, a, xs, ex, hx, q⟩ => ?_)
  subst ex
  cases r1
  have step : PO X (some (.UnaryOp .USub (.Constant (.int 1) k p1) p2)) (tPart (tUn (rU fun i => .int (-i)) (tC (.int 1)))) := po_some (pe_un un_neg pe_int)
  refine wpAny_Slice (thn (po_none.run pins s1 σ H1 (fun o H2 => o = none ∧ H2 = H1) I1 ⟨rfl, rfl⟩) fun vl s2 ⟨lo, H2, I2, pl, e1, e2⟩ => ?_)
  subst e1 e2
  refine thn (po_none.run pins s2 σ H2 (fun o H3 => o = none ∧ H3 = H2) I2 ⟨rfl, rfl⟩) fun vu s3 ⟨hi, H3, I3, pu, e3, e4⟩ => ?_
  subst e3 e4
  refine thn (step.run pins s3 σ H3 (fun o H4 => o = some (-1) ∧ H4 = H3) I3 ⟨1, rfl, -1, rfl, rfl, rfl⟩) fun vs s4 ⟨st, H4, I4, ps, e5, e6⟩ => ?_
  subst e5 e6
  cases pl
  cases pu
  cases ps with
  | int _ u =>
    have I5 : Inv X pins σ H4 { s4 with heap := s4.heap.push { cls := .type "slice", data := .fields #[.none, .none, .int (-1) u] } } := I4.kept (t' := s4.toks) fun b ob z => Heap.get?_push_of_some _ z
    obtain ⟨its, r, ht, hz⟩ := I5.tuple hx
    have hlen := r.length
    show wpAny (model X.prog X.w) X.A (subscriptTail e (.Slice none none (some (.UnaryOp .USub (.Constant (.int 1) k p1) p2)) p3) (.ref a) (.ref s4.heap.objs.size)) (EP X pins σ Q) X.xe { s4 with heap := s4.heap.push { cls := .type "slice", data := .fields #[.none, .none, .int (-1) u] } }
    refine tail_any (ops := [.ref a, .ref s4.heap.objs.size]) ht.typeIs PyProof.Rows.slot_tuple_getitem.lookup ?_ (by with_unfolding_all rfl)
    refine back_tuple ht (Heap.IsSliceOf.new _ .none .none (.int (-1) u)) (by rw [List.size_toArray]; omega) ?_
    refine ⟨.ref _, _, I5.laid (t' := s4.toks) (o := .tup xs.reverse) (fun b ob z => Heap.get?_push_of_some _ z) (Nat.le_refl _) ?_, rfl, q _ (I5.hok.fresh (Nat.le_refl _))⟩
    exact ⟨by rw [List.length_reverse]; exact hz, _, r.reverse, IsTup.new _ _⟩
/-! ### x.extend(a tuple) -/
theorem grow_tuple (l b : Addr) (xs ys : Array Value) (n m : Nat) (dd : Option Addr) (sl : Array (Option Value)) (h0 : ¬(!xs.isEmpty && Builtin.List.listTooLong (xs.size + ys.size)) = true) (h1 : xs.size ≤ sizeLine) (h2 : xs.size + ys.size ≤ sizeLine + 1) :
    Meets (Builtin.«list.extend» ⟨[.ref l, .ref b], []⟩) (fun _ R s => s.heap.get? l = some { cls := .type "list", dict := none, data := .seq xs n, slots := #[] } ∧ s.heap.get? b = some { cls := .type "tuple", dict := dd, data := .seq ys m, slots := sl } ∧
      R (.ok (.ret Value.none)) { s with heap := s.heap.update l (Obj.mapSeq fun z => z ++ ys), toks := s.toks }) :=
  .of_wp fun prog w A R s h => by
    obtain ⟨hp, g, d, tk, os⟩ := s
    obtain ⟨hl, hb, h⟩ := h
    have f1 := AutoSeq1.idx_int
    have f2 := AutoSeq1.sub_tuple_tuple
    have f3 := AutoSeq1.sub_list_list
    have f4 := AutoSeq1.sub_tuple_list
    have f5 := AutoSeq1.sub_list_tuple
    have z : (xs ++ ys).size ≤ sizeLine + 1 := by rw [Array.size_append]; exact h2
    wp_walk using (wpAny_updateSeq hl rfl (hz := h1) (_hz' := z)), AutoSeq1.wpAny_loadPart' hl, AutoSeq1.wpAny_loadPart' hb
    exact ⟨_, rfl, h⟩
def rExtT (K : PySem.W.Frag) : V → List V → Hp → VK → Prop := fun x vs H Q => ∃ l b xs zs, x = .ref l ∧ vs = [.ref b] ∧ H l = some (.lst xs) ∧ SqT K H b zs ∧ xs.length + zs.length ≤ sizeLine ∧ Q .non (upd H l (.lst (xs ++ zs)))
theorem mt_extT {X : Cx} : MtM X "list.extend" (rExtT X.K) := by
  intro pins s σ H x vs v us Q I rx rv h
  obtain ⟨l, b, xs, zs, rfl, rfl, hH, hB, hz, q⟩ := h
  cases rx
  obtain ⟨u, rfl, ru⟩ := rv.one
  cases ru
  obtain ⟨z, its, n, r, hl, e⟩ := I.lstM hH
  obtain ⟨its2, r2, ⟨o2, ho2, hc2, n2, hd2⟩, hz2⟩ := I.tuple hB
  have hl2 := r2.length
  obtain ⟨c2, dd, da, sl⟩ := o2
  cases hc2
  cases hd2
  have fits : its.toArray.size + its2.toArray.size ≤ sizeLine := by rw [List.size_toArray, List.size_toArray]; omega
  have short : ¬ (!its.toArray.isEmpty && Builtin.List.listTooLong (its.toArray.size + its2.toArray.size)) = true := by
    rw [notLongL fits, Bool.and_false]
    exact Bool.false_ne_true
  refine call_meets F.slot_list_extend ⟨_, e, rfl⟩ F.entry_list_extend (F.args_list_extend_2 _ _) (grow_tuple l b its.toArray its2.toArray n n2 dd sl short (by rw [List.size_toArray]; omega) (by omega)) ⟨e, ho2, ?_⟩
  refine ⟨.non, _, I.lset (its' := its ++ its2) hH e (by simp) (r.append r2) ?_, rfl, q⟩
  rw [List.length_append]
  omega
end RF

set_option autoImplicit false
set_option linter.all false
/-! Qt: tuples from behind, lists that grow by a tuple -/
namespace Q
open PySem L2
section
variable {X : Cx} {C : Cxt} {e o : Expr} {t : TE} {w : WE} {pos apos : Pos} {i : Nat}
def pBackT : P1 := fun x k => match x.toD with
  | .tup ds => k (.fz (.tup ds.reverse))
  | _ => False
theorem pd_backT (F : Fit X C) {n : Nat} {p1 p2 p3 : Pos} (he : PB X C e t w) : PD X C (.Subscript e (.Slice none none (some (.UnaryOp .USub (.Constant (.int 1) n p1) p2)) p3) pos) (RF.tBackT X.K t) (wUn pBackT w) := ⟨RF.pe_backT he.pe, by
  refine ok_un (r := fun x H1 Q => ∃ a xs, x = .ref a ∧ SqT X.K H1 a xs ∧ ∀ p, H1 p = none → Q (.ref p) (upd H1 p (.tup xs.reverse))) ?_ he.ok
  intro ρ σ H S x vx k Q st ox h q
  unfold pBackT at h
  split at h
  · rename_i ds e1
    obtain ⟨a, us, rfl, g1, g2, g3⟩ := ox.tup e1
    rw [F.K] at g1
    exact ⟨a, us, rfl, g1, fun p hp => ans_tup st q (by rw [List.length_reverse]; exact g2) g3.rev h p hp⟩
  · exact h.elim⟩
def wExtT (i : Nat) (w : WE) : WE := fun ρ k => (∃ ds, ρ[i]? = some (some (.ol ds))) ∧ w ρ fun y ρ1 => match ρ1[i]?, y.toD with
  | some (some (.ol ds)), .tup es => ds.length + es.length ≤ 1000000 ∧ k (.fz .non) (ρ1.set i (some (.ol (ds ++ es))))
  | _, _ => False
theorem pd_extT (F : Fit X C) (ho : PE X o (tVar i)) (he : PD X C e t w) (hbase : attributeBase o "extend" X.env (eval o X.env) = eval o X.env := by rfl)
    (hfew : ((backTo pos (starEach [e] X.env)).all (fun x => !x.1) && (backToKw pos (keywordEach [] X.env)).all (fun x => x.1.isSome) && decide ([e].length + ([] : List Keyword).length + (if ([] : List Keyword).isEmpty then 0 else 1) < 30)) = true := by rfl)
    (hline : (apos.endLine == pos.line) = true := by rfl) (hs : starEach [e] X.env = (false, eval e X.env) :: starEach [] X.env := by rfl) (hplain : (backTo pos (starEach [] X.env)).any (·.1) = false := by rfl) :
    PD X C (.Call (.Attribute o "extend" apos) [e] [] pos) (tBM X.K "list" (RF.rExtT X.K) (tVar i) (tCons t tNil)) (wExtT i w) := by
  refine ⟨pe_bm PySem.F.plainAttrs_list PySem.F.slot_list_extend PySem.F.type_list_extend RF.mt_extT ho (pa_cons he.pe pa_nil hs) hbase hfew hline hs hplain, ?_⟩
  intro ρ ρx σ σx H S k Q hl st hw q
  obtain ⟨⟨ds0, e0⟩, hw⟩ := hw
  obtain ⟨v, h1, a, xs, rfl, m, h0, hx, hlen, hr⟩ := st.get (get_app e0)
  refine ⟨.ref a, of_get_app h1 (hl ▸ lt_of_get e0), Or.inl ⟨rfl, xs, SqL.of hx⟩, ?_⟩
  refine he.ok ρ ρx σ σx H S _ _ hl st hw fun y ρ1 u H1 S1 hl1 st1 hk => ?_
  split at hk
  · rename_i ds es e1 e2
    obtain ⟨S2, st2⟩ := st1.lastD
    have lx : (ρ1 ++ ρx).length = (σ ++ σx).length := by have := st1.len; simp only [List.length_append, List.length_cons, List.length_nil] at *; omega
    obtain ⟨c, zs, rfl, z1, z2, z3⟩ := (st2.last lx).tup (show (Sl.fz y.toD).toD = .tup es from e2)
    rw [F.K] at z1
    have st3 := st2.popLast
    obtain ⟨v', h2, b, ys, rfl, m', h0', hy, hlen', hr'⟩ := st3.get (get_app e1)
    rw [h1] at h2
    cases h2
    have ly := hr'.len
    have lz := z3.len
    refine ⟨a, c, ys, zs, rfl, rfl, hy, z1, lim_line (by omega), ?_⟩
    have st4 := st3.write (es := ds ++ es) (ys := ys ++ zs) (get_app e1) h1 (by rw [List.length_append]; omega) (hr'.app z3)
    rw [app_set _ _ _ _ (lt_of_get e1)] at st4
    exact q (.fz .non) _ .non _ S2 (by simp [hl1]) (st4.pushF (d := .non) rfl) hk.2
  · exact hk.elim
end
/-! ### sorted(list(dict(pairs))) of texts -/
def rDicP (K : PySem.W.Frag) : List V → Hp → VK → Prop := fun xs H Q => ∃ (a : Addr) (ps : List Addr) (kvs : List (Key × V)), xs = [.ref a] ∧ SqL K H a (ps.map V.ref) ∧ PySem.Paired (fun p kv => SqT K H p [kV kv.1, kv.2]) ps kvs ∧ ∀ p, H p = none → Q (.ref p) (upd H p (.dK (mergeK [] kvs)))
def rLstD : List V → Hp → VK → Prop := fun xs H Q => ∃ (a : Addr) (kvs : List (Key × V)), xs = [.ref a] ∧ Rd H a (.dK kvs) ∧ ∀ p, H p = none → Q (.ref p) (upd H p (.lst (kvs.map fun kv => kV kv.1)))
theorem cr_dicP {X : Cx} (hc : X.calm = true) : CallR X (.type "dict") (rDicP X.K) := call_dictP hc
theorem cr_lstD {X : Cx} (hc : X.calm = true) : CallR X (.type "list") rLstD := call_listD hc
theorem keys_put {kvs : List (Key × V)} {ts : List Str} (h : kvs.map (·.1) = ts.map Sum.inr) (nd : ts.Nodup) (z : Str) (v : V) : ∃ us : List Str, (putK kvs (Sum.inr z) v).map (·.1) = us.map Sum.inr ∧ us.Nodup ∧ (∀ y, y ∈ us ↔ y ∈ ts ∨ y = z) ∧ us.length ≤ ts.length + 1 := by
  have hm : (∃ kv ∈ kvs, kv.1 = (Sum.inr z : Key)) ↔ z ∈ ts := by
    constructor
    · rintro ⟨kv, h1, h2⟩
      have h3 : (Sum.inr z : Key) ∈ ts.map Sum.inr := by
        rw [← h, ← h2]
        exact List.mem_map_of_mem h1
      obtain ⟨y, h4, h5⟩ := List.mem_map.mp h3
      cases h5
      exact h4
    · intro h1
      have h3 : (Sum.inr z : Key) ∈ kvs.map (·.1) := by
        rw [h]
        exact List.mem_map_of_mem h1
      obtain ⟨kv, h4, h5⟩ := List.mem_map.mp h3
      exact ⟨kv, h4, h5⟩
  unfold putK
  split
  · rename_i g
    obtain ⟨kv, g1, g2⟩ := List.any_eq_true.mp g
    have hz := hm.mp ⟨kv, g1, of_decide_eq_true g2⟩
    refine ⟨ts, ?_, nd, fun y => ⟨.inl, fun q => q.elim id fun e => e ▸ hz⟩, Nat.le_succ _⟩
    rw [← h, List.map_map]
    refine List.map_congr_left fun q _ => ?_
    show (if q.1 = Sum.inr z then (q.1, v) else q).1 = q.1
    split <;> rfl
  · rename_i g
    have hz : z ∉ ts := fun q => by
      obtain ⟨kv, g1, g2⟩ := hm.mpr q
      exact g (List.any_eq_true.mpr ⟨kv, g1, decide_eq_true g2⟩)
    refine ⟨ts ++ [z], by rw [List.map_append, List.map_append, h]; rfl, ?_, fun y => by simp, by simp⟩
    exact List.nodup_append.mpr ⟨nd, (by simp), fun a ha b hb e => by
      rw [List.mem_singleton.mp hb] at e
      exact hz (e ▸ ha)⟩
theorem keys_merge (v : V) : ∀ (ss : List Str) {kvs : List (Key × V)} {ts : List Str}, kvs.map (·.1) = ts.map Sum.inr → ts.Nodup → ∃ us : List Str, (mergeK kvs (ss.map fun z => (Sum.inr z, v))).map (·.1) = us.map Sum.inr ∧ us.Nodup ∧ (∀ y, y ∈ us ↔ y ∈ ts ∨ y ∈ ss) ∧ us.length ≤ ts.length + ss.length
  | [], kvs, ts, h, nd => ⟨ts, h, nd, fun y => by simp, Nat.le_refl _⟩
  | z :: r, kvs, ts, h, nd => by
    obtain ⟨us, h1, h2, h3, h4⟩ := keys_put h nd z v
    obtain ⟨ws, g1, g2, g3, g4⟩ := keys_merge v r h1 h2
    refine ⟨ws, g1, g2, fun y => ?_, by rw [List.length_cons]; omega⟩
    rw [g3, h3, List.mem_cons, or_assoc]
section
variable {X : Cx} {C : Cxt} {e a : Expr} {t : TE} {w : WE}
def prD (z : Str) : D := .tup [.str z, .int 0]
def pSoKey : P1 := fun x k => match x.toD with
  | .lst ds => ∃ ss : List Str, ds = ss.map prD ∧ ss.length < 64 ∧ k (.ol ((sos ss).map .str))
  | _ => False
theorem prs_V {C : Cxt} {H H' : Hp} (e : Same H H') : ∀ {xs : List V} {ss : List Str}, Rps C.B H xs (ss.map prD) → ∃ ps : List Addr, xs = ps.map V.ref ∧ PySem.Paired (fun p kv => SqT C.B.K H' p [kV kv.1, kv.2]) ps (ss.map fun z => (Sum.inr z, V.int 0))
  | xs, [], h => ⟨[], h, .nil⟩
  | xs, z :: r, h => by
    obtain ⟨x, ys, rfl, h2, h3⟩ := h
    obtain ⟨ps, rfl, h4⟩ := prs_V e h3
    obtain ⟨a, us, rfl, g1, g2, g3⟩ := h2
    obtain ⟨v, u, rfl, k1, k2⟩ := rps2 g3
    rw [show v = .str z from k1, show u = .int 0 from k2] at g1
    exact ⟨a :: ps, rfl, .cons (sameT e g1) h4⟩
theorem pd_sokey (F : Fit X C) {e0 : Expr} (hp : PE X e0 (tCB (rSortedS X.K) (tCons (tCB rLstD (tCons (tCB (rDicP X.K) (tCons t tNil)) tNil)) tNil))) (h : PB X C e t w) : PD X C e0 (tCB (rSortedS X.K) (tCons (tCB rLstD (tCons (tCB (rDicP X.K) (tCons t tNil)) tNil)) tNil)) (wUn pSoKey w) := by
  refine ⟨hp, fun ρ ρx σ σx H S k Q hl st hw q => ?_⟩
  refine h.ok ρ ρx σ σx H S _ _ hl st hw fun x ρ1 vx H1 S1 hl1 st1 okx hk => ?_
  unfold pSoKey at hk
  split at hk
  · rename_i ds e1
    obtain ⟨ss, rfl, h2, h3⟩ := hk
    obtain ⟨a, xs, rfl, g1, g2, g3⟩ := okx.lst e1
    obtain ⟨ps, rfl, g5⟩ := prs_V hid_same g3
    rw [F.K] at g5
    obtain ⟨us, k1, k2, k3, k4⟩ := keys_merge (V.int 0) ss (kvs := []) (ts := []) rfl List.nodup_nil
    refine ⟨a, ps, _, rfl, SqL.of g1, g5, fun d hd => ⟨d, _, rfl, .inl upd_same, fun l hl2 => ?_⟩⟩
    have e2 : ((mergeK [] (ss.map fun z => ((Sum.inr z : Key), V.int 0))).map fun kv => kV kv.1) = us.map V.str := by
      have := congrArg (List.map kV) k1
      rw [List.map_map, List.map_map] at this
      exact this
    have hu : us.length < 64 := by rw [List.length_nil] at k4; omega
    refine ⟨l, us, rfl, SqL.of (by rw [upd_same, e2]), hu, fun ys p hy hs hp => ?_⟩
    have ey : ys = sos ss := sos_of hs (hy.nodup_iff.mpr k2) fun z => by rw [hy.mem_iff, k3]; simp
    have := len_sos ss
    rw [ey]
    exact ans_ol (k := fun s => k s ρ1) ((st1.new hd).new hl2) (fun s v H2 S2 st2 h2 => q s ρ1 v H2 S2 hl1 st2 h2) (by rw [List.length_map]; omega) (Rps.strs _) h3 p hp
  · exact hk.elim
/-- sorted(set(e)), sorted(list(dict(e))), as they are written -/
theorem pd_sosetW (F : Fit X C) {p0 p1 pos0 pos1 : Pos} (h : PB X C e t w) (hc : X.calm = true) (g0 : Gl X "sorted") (m0 : X.mg "sorted" = none) (g1 : Gl X "set") (m1 : X.mg "set" = none)
    (s1 : starEach [e] X.env = (false, eval e X.env) :: starEach [] X.env := by rfl) (l1 : (backTo pos1 (starEach [] X.env)).any (·.1) = false := by rfl) (s0 : starEach [.Call (.Name "set" p1) [e] [] pos1] X.env = (false, eval (.Call (.Name "set" p1) [e] [] pos1) X.env) :: starEach [] X.env := by rfl) (l0 : (backTo pos0 (starEach [] X.env)).any (·.1) = false := by rfl) :
    PD X C (.Call (.Name "sorted" p0) [.Call (.Name "set" p1) [e] [] pos1] [] pos0) (tCB (RF.rSortedX X.prog X.w) (tCons (tCB (RF.rSetX X.K X.prog X.w) (tCons t tNil)) tNil)) (wUn pSoSet w) :=
  pd_soset F (pe_callB (RF.cr_sortedX hc) g0 m0 (by decide +kernel) (pa_cons (pe_callTy (RF.cr_setX hc) g1 m1 (by decide +kernel) (pa_cons h.pe pa_nil s1) (by decide) (by decide) s1 l1) pa_nil s0) (by decide) (by decide) s0 l0) h
theorem pd_sokeyW (F : Fit X C) {p0 p1 p2 pos0 pos1 pos2 : Pos} (h : PB X C e t w) (hc : X.calm = true) (g0 : Gl X "sorted") (m0 : X.mg "sorted" = none) (g1 : Gl X "list") (m1 : X.mg "list" = none) (g2 : Gl X "dict") (m2 : X.mg "dict" = none)
    (s2 : starEach [e] X.env = (false, eval e X.env) :: starEach [] X.env := by rfl) (l2 : (backTo pos2 (starEach [] X.env)).any (·.1) = false := by rfl)
    (s1 : starEach [.Call (.Name "dict" p2) [e] [] pos2] X.env = (false, eval (.Call (.Name "dict" p2) [e] [] pos2) X.env) :: starEach [] X.env := by rfl) (l1 : (backTo pos1 (starEach [] X.env)).any (·.1) = false := by rfl)
    (s0 : starEach [.Call (.Name "list" p1) [.Call (.Name "dict" p2) [e] [] pos2] [] pos1] X.env = (false, eval (.Call (.Name "list" p1) [.Call (.Name "dict" p2) [e] [] pos2] [] pos1) X.env) :: starEach [] X.env := by rfl) (l0 : (backTo pos0 (starEach [] X.env)).any (·.1) = false := by rfl) :
    PD X C (.Call (.Name "sorted" p0) [.Call (.Name "list" p1) [.Call (.Name "dict" p2) [e] [] pos2] [] pos1] [] pos0) (tCB (rSortedS X.K) (tCons (tCB rLstD (tCons (tCB (rDicP X.K) (tCons t tNil)) tNil)) tNil)) (wUn pSoKey w) :=
  pd_sokey F (pe_callB cr_sortedS g0 m0 (by decide +kernel) (pa_cons (pe_callTy (cr_lstD hc) g1 m1 (by decide +kernel) (pa_cons (pe_callTy (cr_dicP hc) g2 m2 (by decide +kernel) (pa_cons h.pe pa_nil s2) (by decide) (by decide) s2 l2) pa_nil s1) (by decide) (by decide) s1 l1) pa_nil s0) (by decide) (by decide) s0 l0) h
end
/-! ### a, b, c = e1, e2, e3 of names: the second one stays one's own -/
section
variable {X : Cx} {C : Cxt} {a bx cx : Expr} {ta tb tc : TE} {wa wb wc : WE} {pos : Pos}
def wPar3 (i j l : Nat) (wa wb wc : WE) : WS := fun E ρ => wa ρ fun s ρ1 => wb ρ1 fun u ρ2 => wc ρ2 fun v ρ3 => E.nx (((ρ3.set i (some (.fz s.toD))).set j (some u)).set l (some (.fz v.toD)))
theorem qs_par3 {i j l : Nat} {x y z : Str} {px py pz pt : Pos} {kt k2 : Nat} {pt2 : Pos} (hc : X.calm = true) (hN : X.N.Nodup) (hi : X.N[i]? = some x) (hj : X.N[j]? = some y) (hl : X.N[l]? = some z) (hij : i ≠ j) (hil : i ≠ l) (hjl : j ≠ l) (hx : X.env.scope.names.lookup x = some .local) (hy : X.env.scope.names.lookup y = some .local) (hz : X.env.scope.names.lookup z = some .local)
    (ha : PD X C a ta wa) (hb : PD X C bx tb wb) (hcx : PD X C cx tc wc) (hsw : swappedStores [.Tuple [.Name x px, .Name y py, .Name z pz] kt pt] (.Tuple [a, bx, cx] k2 pt2) X.env = pure (some [x, y, z]))
    (h1 : starEach [a, bx, cx] X.env = (false, eval a X.env) :: starEach [bx, cx] X.env := by rfl) (h2 : starEach [bx, cx] X.env = (false, eval bx X.env) :: starEach [cx] X.env := by rfl) (h3 : starEach [cx] X.env = (false, eval cx X.env) :: starEach [] X.env := by rfl)
    (hs : swapsWithSole [.Tuple [.Name x px, .Name y py, .Name z pz] kt pt] (.Tuple [a, bx, cx] k2 pt2) pos.line X.env = pure false := by rfl) :
    QS X C (.Assign [.Tuple [.Name x px, .Name y py, .Name z pz] kt pt] (.Tuple [a, bx, cx] k2 pt2) pos) (tPar3 i j l (tCons ta (tCons tb (tCons tc tNil)))) (wPar3 i j l wa wb wc) := ⟨ps_par3 hc hN hi hj hl hij hil hjl hx hy hz (pa_cons ha.pe (pa_cons hb.pe (pa_cons hcx.pe pa_nil h3) h2) h1) hsw hs, by
  intro ρ ρx σ σx H S E D hl st hw f
  refine ha.ok ρ ρx σ σx H S _ _ hl st hw fun s ρ1 v H1 S1 hl1 st1 hw1 => ?_
  obtain ⟨S1', st1⟩ := st1.lastD
  rw [List.append_assoc, List.append_assoc] at st1
  refine hb.ok ρ1 (ρx ++ [some (.fz s.toD)]) σ (σx ++ [some v]) H1 S1' _ _ hl1 st1 hw1 fun u ρ2 w' H2 S2 hl2 st2 hw2 => ?_
  rw [List.append_assoc, List.append_assoc] at st2
  refine hcx.ok ρ2 (ρx ++ [some (.fz s.toD)] ++ [some u]) σ (σx ++ [some v] ++ [some w']) H2 S2 _ _ hl2 (by simpa [List.append_assoc] using st2) hw2 fun y ρ3 v3 H3 S3 hl3 st3 hk => ?_
  refine ⟨v, w', v3, rfl, ?_⟩
  obtain ⟨S4, st3⟩ := st3.lastD
  have lx : ρx.length = σx.length := by
    have := st.len
    simp only [List.length_append] at this
    omega
  have la : (ρ3 ++ (ρx ++ [some (Sl.fz s.toD)] ++ [some u])).length = (σ ++ (σx ++ [some v] ++ [some w'])).length := by simp only [List.length_append, List.length_cons, List.length_nil]; omega
  have ok3 := st3.last la
  have st4 := st3.popLast
  rw [← List.append_assoc, ← List.append_assoc, ← List.append_assoc, ← List.append_assoc] at st4
  have lb : ((ρ3 ++ ρx) ++ [some (Sl.fz s.toD)]).length = ((σ ++ σx) ++ [some v]).length := by simp only [List.length_append, List.length_cons, List.length_nil]; omega
  have ok2 := st4.last lb
  have ap2 := st4.apt
  have st5 := st4.popLast
  have ok1 := st5.last (by simp only [List.length_append]; omega)
  have st6 := st5.popLast
  have s1 := st6.assign (s := .fz s.toD) hl3 ok1 (fun z => by cases z) i
  have s2 := s1.assign (by simp [hl3]) ok2 (fun o k t ek to q => by
    by_cases hi' : i < ρ3.length
    · by_cases hk' : k = i
      · subst hk'
        rw [List.getElem?_append_left (by rw [List.length_set]; exact hi'), List.getElem?_set_self hi'] at ek
        cases ek
        cases to
      · rw [← app_set _ _ _ _ hi', List.getElem?_set_ne (Ne.symm hk')] at ek
        rw [← app_set _ _ _ _ (hl3 ▸ hi'), List.getElem?_set_ne (Ne.symm hk')] at q
        exact ap2 o k t (get_app ek) to (get_app q)
    · rw [List.set_eq_of_length_le (by omega)] at ek
      rw [List.set_eq_of_length_le (by omega)] at q
      exact ap2 o k t (get_app ek) to (get_app q)) j
  have s3 := s2.assign (s := .fz y.toD) (v := v3) (by simp [hl3]) ok3 (fun z => by cases z) l
  exact f.nx _ _ _ _ (by simp [hl3]) s3 hk⟩
end
end Q

set_option autoImplicit false
set_option linter.all false
/-! St: methods of texts with more values; texts by their signs -/
namespace Q
open PySem L2
section
variable {X : Cx} {C : Cxt} {e a : Expr} {es : List Expr} {te : TE} {we : WE} {ta : TA} {wa : WA} {pos : Pos}
def wMN (p : PN) (wo : WE) (wa : WA) : WE := fun ρ k => wo ρ fun x ρ1 => (∃ z, x.toD = .str z) ∧ wa ρ1 fun ds ρ2 => p (x.toD :: ds) fun z => k z ρ2
theorem ok_mN {r : V → List V → Hp → VK → Prop} {p : PN} (h : LiftN C (fun vs H Q => match vs with | x :: xs => r x xs H Q | _ => False) p) (ho : OkE C te we) (ha : OkA C ta wa) : OkE C (tBM X.K "str" r te ta) (wMN p we wa) := by
  intro ρ ρx σ σx H S k Q hl st hw q
  refine ho ρ ρx σ σx H S _ _ hl st hw fun x ρ1 vx H1 S1 hl1 st1 hw1 => ?_
  obtain ⟨⟨z, ez⟩, hw1⟩ := hw1
  obtain ⟨S1', st1⟩ := st1.lastD
  have lx1 : (ρ1 ++ ρx).length = (σ ++ σx).length := by have := st1.len; simp only [List.length_append, List.length_cons, List.length_nil] at *; omega
  have ev := (st1.last lx1).str ez
  refine ⟨by subst ev; rfl, ?_⟩
  rw [List.append_assoc, List.append_assoc] at st1
  refine ha ρ1 (ρx ++ [some (Sl.fz x.toD)]) σ (σx ++ [some vx]) H1 S1' _ _ hl1 st1 hw1 fun ds ρ2 vs H2 S2 hl2 st2 hp => ?_
  have ly : (ρ2 ++ (ρx ++ [some (Sl.fz x.toD)])).length = (σ ++ (σx ++ [some vx])).length := by
    simp only [List.length_append, List.length_cons, List.length_nil] at *
    omega
  have rz := st2.args ly
  have st3 := st2.drop ly
  rw [← List.append_assoc, ← List.append_assoc] at st3
  have lx2 : (ρ2 ++ ρx).length = (σ ++ σx).length := by simp only [List.length_append, List.length_cons, List.length_nil] at *; omega
  have ox := (st3.last lx2)
  exact h (ρ2 ++ ρx) (σ ++ σx) H2 S2 (x.toD :: ds) (vx :: vs) _ Q (st3.drop lx2) ⟨vx, vs, rfl, ox, rz⟩ hp fun z v H' S' st' hk => q z ρ2 v H' S' hl2 st' hk
theorem pd_mN {id : String} {name : Str} {apos : Pos} {r : V → List V → Hp → VK → Prop} {p : PN} (slot : PySem.Slot "str" name id) (ty : typeOf (.builtin id) = pure (.type "method_descriptor")) (rule : MtR X id r) (h : LiftN C (fun vs H Q => match vs with | x :: xs => r x xs H Q | _ => False) p) (ho : PD X C e te we) (ha : QA X C (a :: es) ta wa)
    (hbase : attributeBase e name X.env (eval e X.env) = eval e X.env := by rfl)
    (hfew : ((backTo pos (starEach (a :: es) X.env)).all (fun x => !x.1) && (backToKw pos (keywordEach [] X.env)).all (fun x => x.1.isSome)
      && decide ((a :: es).length + ([] : List Keyword).length + (if ([] : List Keyword).isEmpty then 0 else 1) < 30)) = true := by rfl)
    (hline : (apos.endLine == pos.line) = true := by rfl) (hs : starEach (a :: es) X.env = (false, eval a X.env) :: starEach es X.env := by rfl) (hplain : (backTo pos (starEach es X.env)).any (·.1) = false := by rfl) :
    PD X C (.Call (.Attribute e name apos) (a :: es) [] pos) (tBM X.K "str" r te ta) (wMN p we wa) := ⟨pe_bm PySem.F.plainAttrs_str slot ty rule ho.pe ha.pa hbase hfew hline hs hplain, ok_mN h ho.ok ha.ok⟩
/-- a method that tells of two texts (and a place) -/
def pSS (g : Str → Str → D) (c : Str → Str → Prop) : PN := fun ds k => match ds with
  | [.str a, .str b] => c a b ∧ k (.fz (g a b))
  | _ => False
def pSSI (g : Str → Str → Int → D) : PN := fun ds k => match ds with
  | [.str a, .str b, .int i] => k (.fz (g a b i))
  | _ => False
abbrev pStarts : PN := pSS (fun a b => .bl (Txt.startswith a b)) fun _ _ => True
abbrev pEnds : PN := pSS (fun a b => .bl (Txt.endswith a b)) fun _ _ => True
abbrev pRfind : PN := pSS (fun a b => .int (Txt.rfind a b)) fun _ _ => True
abbrev pStripC : PN := pSS (fun a b => .str (Txt.stripChars a b)) fun a _ => a.length ≤ sizeLine
abbrev pParts : PN := pSS (fun a b => .tup [.str (Txt.partition a b).1, .str (Txt.partition a b).2.1, .str (Txt.partition a b).2.2]) fun a b => (b.length == 0) = false ∧ a.length ≤ sizeLine
abbrev pStarts3 : PN := pSSI fun a b i => .bl (Txt.startswith3 a b i)
abbrev pFind3 : PN := pSSI fun a b i => .int (Txt.find3 a b i)
theorem l_starts : LiftN C (fun vs H Q => match vs with | x :: xs => (fun x xs H Q => ∃ a b, x = V.str a ∧ xs = [V.str b] ∧ Q (V.bl (Txt.startswith a b)) H) x xs H Q | _ => False) pStarts := by
  intro ρ σ H S ds vs k Q st rr h q
  unfold pStarts pSS at h
  split at h
  · rename_i a b
    obtain ⟨v, u, rfl, r1, r2⟩ := rps2 rr
    exact ⟨a, b, r1, by rw [show u = _ from r2], ans_bl st q h.2⟩
  · exact h.elim
theorem l_ends : LiftN C (fun vs H Q => match vs with | x :: xs => (fun x xs H Q => ∃ a b, x = V.str a ∧ xs = [V.str b] ∧ Q (V.bl (Txt.endswith a b)) H) x xs H Q | _ => False) pEnds := by
  intro ρ σ H S ds vs k Q st rr h q
  unfold pEnds pSS at h
  split at h
  · rename_i a b
    obtain ⟨v, u, rfl, r1, r2⟩ := rps2 rr
    exact ⟨a, b, r1, by rw [show u = _ from r2], ans_bl st q h.2⟩
  · exact h.elim
theorem l_rfind : LiftN C (fun vs H Q => match vs with | x :: xs => (fun x xs H Q => ∃ a b, x = V.str a ∧ xs = [V.str b] ∧ Q (V.int (Txt.rfind a b)) H) x xs H Q | _ => False) pRfind := by
  intro ρ σ H S ds vs k Q st rr h q
  unfold pRfind pSS at h
  split at h
  · rename_i a b
    obtain ⟨v, u, rfl, r1, r2⟩ := rps2 rr
    exact ⟨a, b, r1, by rw [show u = _ from r2], ans_int st q h.2⟩
  · exact h.elim
theorem l_stripC : LiftN C (fun vs H Q => match vs with | x :: xs => (fun x xs H Q => ∃ a b, x = V.str a ∧ xs = [V.str b] ∧ a.length ≤ sizeLine ∧ Q (V.str (Txt.stripChars a b)) H) x xs H Q | _ => False) pStripC := by
  intro ρ σ H S ds vs k Q st rr h q
  unfold pStripC pSS at h
  split at h
  · rename_i a b
    obtain ⟨v, u, rfl, r1, r2⟩ := rps2 rr
    exact ⟨a, b, r1, by rw [show u = _ from r2], h.1, ans_str st q h.2⟩
  · exact h.elim
theorem l_parts : LiftN C (fun vs H Q => match vs with | x :: xs => (fun x xs H Q => ∃ a b, x = V.str a ∧ xs = [V.str b] ∧ (b.length == 0) = false ∧ a.length ≤ sizeLine ∧
    ∀ p, H p = none → Q (.ref p) (upd H p (.tup [.str (Txt.partition a b).1, .str (Txt.partition a b).2.1, .str (Txt.partition a b).2.2]))) x xs H Q | _ => False) pParts := by
  intro ρ σ H S ds vs k Q st rr h q
  unfold pParts pSS at h
  split at h
  · rename_i a b
    obtain ⟨v, u, rfl, r1, r2⟩ := rps2 rr
    exact ⟨a, b, r1, by rw [show u = _ from r2], h.1.1, h.1.2, fun p hp => ans_tup (xs := [V.str (Txt.partition a b).1, V.str (Txt.partition a b).2.1, V.str (Txt.partition a b).2.2]) st q (by show 3 ≤ 1000000; decide) (show Rps C.B (hid S H) _ [D.str (Txt.partition a b).1, D.str (Txt.partition a b).2.1, D.str (Txt.partition a b).2.2] from ⟨_, _, rfl, rfl, _, _, rfl, rfl, _, _, rfl, rfl, rfl⟩) h.2 p hp⟩
  · exact h.elim
theorem l_starts3 : LiftN C (fun vs H Q => match vs with | x :: xs => (fun x xs H Q => ∃ (a b : Str) (i : Int), x = V.str a ∧ xs = [V.str b, V.int i] ∧ Q (V.bl (Txt.startswith3 a b i)) H) x xs H Q | _ => False) pStarts3 := by
  intro ρ σ H S ds vs k Q st rr h q
  unfold pStarts3 pSSI at h
  split at h
  · rename_i a b i
    obtain ⟨v, u, z, rfl, r1, r2, r3⟩ := rps3 rr
    exact ⟨a, b, i, r1, by rw [show u = _ from r2, show z = _ from r3], ans_bl st q h⟩
  · exact h.elim
theorem l_find3 : LiftN C (fun vs H Q => match vs with | x :: xs => (fun x xs H Q => ∃ (a b : Str) (i : Int), x = V.str a ∧ xs = [V.str b, V.int i] ∧ Q (V.int (Txt.find3 a b i)) H) x xs H Q | _ => False) pFind3 := by
  intro ρ σ H S ds vs k Q st rr h q
  unfold pFind3 pSSI at h
  split at h
  · rename_i a b i
    obtain ⟨v, u, z, rfl, r1, r2, r3⟩ := rps3 rr
    exact ⟨a, b, i, r1, by rw [show u = _ from r2, show z = _ from r3], ans_int st q h⟩
  · exact h.elim
/-- max of three -/
def mx3 (a b c : Int) : Int := if c > (if b > a then b else a) then c else (if b > a then b else a)
def pMax3 : PN := fun ds k => match ds with
  | [.int a, .int b, .int c] => k (.fz (.int (mx3 a b c)))
  | _ => False
theorem l_max3 : LiftN C (rNuC3 nuMax3) pMax3 := by
  intro ρ σ H S ds vs k Q st rr h q
  unfold pMax3 at h
  split at h
  · rename_i a b c
    obtain ⟨v, u, z, rfl, r1, r2, r3⟩ := rps3 rr
    rw [show v = _ from r1, show u = _ from r2, show z = _ from r3]
    refine ⟨_, _, _, .int (mx3 a b c), rfl, ?_, ans_int st q h⟩
    unfold nuMax3 nuMax2 mx3
    have e : ∀ i j : Int, nuLt (V.int i) (V.int j) = some (decide (i < j)) := fun _ _ => rfl
    rw [e]
    by_cases h1 : a < b
    · simp only [decide_eq_true h1, Option.map_some, Option.bind_some, if_true, e]
      by_cases h2 : b < c
      · simp [h1, h2]
      · simp [h1, h2]
    · simp only [decide_eq_false h1, Option.map_some, Option.bind_some, Bool.false_eq_true, if_false, e]
      by_cases h2 : a < c
      · simp [h1, h2]
      · simp [h1, h2]
  · exact h.elim
end
end Q

set_option autoImplicit false
set_option linter.all false
/-! Tx: texts: plain facts; texts of numbers, slopes -/
namespace Q
open PySem L2
open RF (sx cps_app s_assoc e_app app_e len_app emp_eq join_nil join_one join_snoc join_len)
theorem tS_neg {i : Int} (h : i < 0) : tS i = "-" ++ tS (-i) := by
  obtain ⟨n, rfl⟩ : ∃ n : Nat, i = Int.negSucc n := ⟨(-i - 1).toNat, by omega⟩
  show Str.ofString (toString (Int.negSucc n)) = Str.ofString "-" ++ Str.ofString (toString (-(Int.negSucc n)))
  rw [Int.neg_negSucc]
  have e : toString (Int.negSucc n) = "-" ++ toString ((n + 1 : Nat) : Int) := rfl
  rw [e]
  refine TL.ext_tl ?_
  rw [TL.tl_append, TL.tl_ofString, TL.tl_ofString, TL.tl_ofString]
  simp
theorem tS_nat (n : Nat) : (tS n).length = (TL.numL n).length := by rw [TL.len_tl, show tS (n : Int) = Str.ofString (toString ((n : Nat) : Int)) from rfl, TL.tl_num]
theorem tS_len0 {i : Int} {k : Nat} (h0 : 0 ≤ i) (hk : 0 < k) (h : i < 10 ^ k) : (tS i).length ≤ k := by
  obtain ⟨n, rfl⟩ : ∃ n : Nat, i = n := ⟨i.toNat, by omega⟩
  rw [tS_nat]
  exact TL.numL_len hk (by exact_mod_cast h)
theorem tS_len {i : Int} {k : Nat} (hk : 0 < k) (h : i.natAbs < 10 ^ k) : (tS i).length ≤ k + 1 := by
  have h' : ((i.natAbs : Nat) : Int) < 10 ^ k := by exact_mod_cast h
  by_cases hi : i < 0
  · rw [tS_neg hi, len_app]
    have := tS_len0 (i := -i) (k := k) (by omega) hk (by omega)
    have : (Str.ofString "-").length = 1 := by decide +kernel
    omega
  · have := tS_len0 (i := i) (k := k) (by omega) hk (by omega)
    omega
theorem tS_pos (i : Int) : 0 < (tS i).length := by
  have h : ∀ n : Nat, 0 < (tS (n : Int)).length := fun n => by
    rw [tS_nat]
    exact List.length_pos_iff.2 (TL.numL_ne n)
  by_cases hi : i < 0
  · rw [tS_neg hi, len_app]
    have : (Str.ofString "-").length = 1 := by decide +kernel
    omega
  · have := h i.toNat
    rw [Int.toNat_of_nonneg (by omega)] at this
    exact this
theorem log_lt {n k : Nat} (h : n < 2 ^ k) (hk : 0 < k) : n.log2 < k := PySem.Flt.log2_lt_of hk h
/-- a number of at most so many figures -/
abbrev Fig (k : Nat) (i : Int) : Prop := i.natAbs < 10 ^ k
theorem fig_log {i : Int} (h : Fig 60 i) : i.natAbs.log2 < 1920 := Nat.lt_of_lt_of_le (log_lt (k := 200) (Nat.lt_of_lt_of_le h (by decide +kernel)) (by decide)) (by decide)
theorem fig_le {k m : Nat} {i : Int} (h : Fig k i) (hk : k ≤ m) : Fig m i := Nat.lt_of_lt_of_le h (Nat.pow_le_pow_right (by decide) hk)
def aI (i : Int) : Int := if i < 0 then -i else i
theorem aI_fold (i : Int) : (if i < 0 then -i else i) = aI i := rfl
theorem aI_nat (i : Int) : aI i = (i.natAbs : Nat) := by unfold aI; split <;> omega
theorem aI_fig {k : Nat} {i : Int} (h : Fig k i) : Fig k (aI i) := by rw [aI_nat]; exact h
theorem tS_sgn (i : Int) : tS i = (if i < 0 then Str.ofString "-" else Str.empty) ++ tS (aI i) := by
  unfold aI
  split
  · rename_i h; exact tS_neg h
  · rw [e_app]
/-! ### the texts of slopes -/
def szS (j : Int) : Str := if aI j = 1 then Str.empty else tS (aI j)
/-- j r, j not 0 -/
def mulS (j : Int) : Str := (if j < 0 then Str.ofString "-" else Str.empty) ++ szS j ++ Str.ofString "r"
def sumS (i j : Int) : Str := if j = 0 then tS i else if i = 0 then mulS j else tS i ++ (if 0 < j then Str.ofString "+" else Str.empty) ++ mulS j
def stS (i j k : Int) : Str := if k = 1 then sumS i j else if i ≠ 0 ∧ j ≠ 0 then Str.ofString "(" ++ sumS i j ++ Str.ofString ")/" ++ tS k else sumS i j ++ Str.ofString "/" ++ tS k
theorem l_dash : (Str.ofString "-").length = 1 := by decide +kernel
theorem l_plus : (Str.ofString "+").length = 1 := by decide +kernel
theorem l_r : (Str.ofString "r").length = 1 := by decide +kernel
theorem l_emp : Str.empty.length = 0 := rfl
theorem l_lp : (Str.ofString "(").length = 1 := by decide +kernel
theorem l_rpd : (Str.ofString ")/").length = 2 := by decide +kernel
theorem l_slash : (Str.ofString "/").length = 1 := by decide +kernel
theorem mulS_len {k : Nat} (hk : 0 < k) {j : Int} (h : Fig k j) : (mulS j).length ≤ k + 3 := by
  have := tS_len hk (aI_fig h)
  unfold mulS szS
  rw [len_app, len_app, l_r]
  split <;> split <;> simp only [l_dash, l_emp] <;> omega
theorem sumS_len {k : Nat} (hk : 0 < k) {i j : Int} (hi : Fig k i) (hj : Fig k j) : (sumS i j).length ≤ 2 * k + 6 := by
  have := tS_len hk hi
  have := mulS_len hk hj
  unfold sumS
  split
  · omega
  · split
    · omega
    · rw [len_app, len_app]
      split <;> simp only [l_plus, l_emp] <;> omega
theorem stS_len {k : Nat} (hk : 0 < k) {i j m : Int} (hi : Fig k i) (hj : Fig k j) (hm : Fig k m) : (stS i j m).length ≤ 3 * k + 13 := by
  have := sumS_len hk hi hj
  have := tS_len hk hm
  unfold stS
  split
  · omega
  · split <;> simp only [len_app, l_lp, l_rpd, l_slash] <;> omega
theorem mulS_one : mulS 1 = Str.ofString "r" := by decide +kernel
theorem mulS_m1 : mulS (-1) = Str.ofString "-r" := by decide +kernel
theorem aI_one {j : Int} (h1 : j ≠ 1) (h2 : j ≠ -1) : ¬ aI j = 1 := by
  unfold aI
  split <;> omega
theorem mulS_else {j : Int} (h1 : j ≠ 1) (h2 : j ≠ -1) : mulS j = tS j ++ Str.ofString "r" := by
  unfold mulS szS
  rw [if_neg (aI_one h1 h2), tS_sgn j]
theorem tx_app2 (a b : Str) : Str.empty ++ a ++ b = a ++ b := by rw [e_app]
theorem line_of {n : Nat} (h : n ≤ 16000000) : n ≤ sizeLine := by rw [sizeLine_eq]; omega
theorem sumS_neg {i j : Int} (hi : i ≠ 0) (hj : j < 0) : sumS i j = tS i ++ Str.ofString "-" ++ szS j ++ Str.ofString "r" := by
  unfold sumS mulS
  rw [if_neg (by omega), if_neg hi, if_neg (by omega), if_pos hj, app_e]
  simp only [s_assoc]
theorem sumS_pos {i j : Int} (hi : i ≠ 0) (h0 : j ≠ 0) (hj : ¬ j < 0) : sumS i j = tS i ++ Str.ofString "+" ++ szS j ++ Str.ofString "r" := by
  unfold sumS mulS
  rw [if_neg h0, if_neg hi, if_pos (by omega), if_neg hj, e_app]
  simp only [s_assoc]
theorem sumS_else {i j : Int} (h : ¬ (i ≠ 0 ∧ j ≠ 0)) : sumS i j = if j = 0 then tS i else mulS j := by
  unfold sumS
  by_cases hj : j = 0
  · rw [if_pos hj, if_pos hj]
  · rw [if_neg hj, if_neg hj, if_pos (by omega)]
end Q

set_option autoImplicit false
set_option linter.all false
/-! Tm: terms and sayings, their data, their texts -/
namespace Q
open PySem L2
open RF (sx cps_app s_assoc e_app app_e len_app emp_eq join_nil join_one join_snoc join_len)
/-- the items of a term from the first on, its constant at the end -/
inductive Tm where
  | con (c : Int)
  | nm (f : Int) (x : Str) (r : Tm)
  | fl (f i j k : Int) (t r : Tm)
def Tm.c : Tm → Int
  | .con c => c
  | .nm _ _ r => r.c
  | .fl _ _ _ _ _ r => r.c
def Tm.its : Tm → List D
  | .con _ => []
  | .nm f x r => .tup [.int f, .str x] :: r.its
  | .fl f i j k t r => .tup [.int f, .tup [.str "floor", .tup [.int i, .int j, .int k], .tup [.tup t.its, .int t.c]]] :: r.its
def Tm.d (t : Tm) : D := .tup [.tup t.its, .int t.c]
def itS (size : Int) (x : Str) : Str := if size = 1 then x else tS size ++ Str.ofString "*" ++ x
def hdP (f : Int) (x : Str) : Str := if f < 0 then Str.ofString "-" ++ x else x
def tlP (f : Int) (x : Str) : Str := if f < 0 then Str.ofString " - " ++ x else Str.ofString " + " ++ x
def catP : List (Int × Str) → Str
  | [] => Str.empty
  | (f, x) :: r => tlP f x ++ catP r
def jnP : List (Int × Str) → Str
  | [] => Str.empty
  | (f, x) :: r => hdP f x ++ catP r
def endP (c : Int) (ps : List (Int × Str)) : List (Int × Str) := if c ≠ 0 ∨ ps = [] then ps ++ [(c, tS (aI c))] else ps
def flS (s u : Str) : Str := Str.ofString "floor(" ++ s ++ Str.ofString ", " ++ u ++ Str.ofString ")"
def Tm.pcs : Tm → List (Int × Str)
  | .con _ => []
  | .nm f x r => (f, itS (aI f) x) :: r.pcs
  | .fl f i j k t r => (f, itS (aI f) (flS (stS i j k) (jnP (endP t.c t.pcs)))) :: r.pcs
def Tm.tx (t : Tm) : Str := jnP (endP t.c t.pcs)
def Tm.sz : Tm → Nat
  | .con _ => 70
  | .nm _ x r => 70 + x.length + r.sz
  | .fl _ _ _ _ t r => 300 + t.sz + r.sz
/-- floors within one another -/
def Tm.dp : Tm → Nat
  | .con _ => 0
  | .nm _ _ r => r.dp
  | .fl _ _ _ _ t r => max (t.dp + 1) r.dp
def Tm.cnt : Tm → Nat
  | .con _ => 0
  | .nm _ _ r => r.cnt + 1
  | .fl _ _ _ _ _ r => r.cnt + 1
/-- numbers of at most 60 figures, names that are not empty -/
def Tm.ok : Tm → Prop
  | .con c => Fig 60 c
  | .nm f x r => Fig 60 f ∧ (0 < x.length ∧ PyData.strOk x = true) ∧ r.ok
  | .fl f i j k t r => Fig 60 f ∧ Fig 60 i ∧ Fig 60 j ∧ Fig 60 k ∧ t.ok ∧ r.ok
theorem Tm.its_len : ∀ t : Tm, t.its.length = t.cnt
  | .con _ => rfl
  | .nm _ _ r => by show r.its.length + 1 = r.cnt + 1; rw [r.its_len]
  | .fl _ _ _ _ _ r => by show r.its.length + 1 = r.cnt + 1; rw [r.its_len]
theorem Tm.pcs_len : ∀ t : Tm, t.pcs.length = t.cnt
  | .con _ => rfl
  | .nm _ _ r => by show r.pcs.length + 1 = r.cnt + 1; rw [r.pcs_len]
  | .fl _ _ _ _ _ r => by show r.pcs.length + 1 = r.cnt + 1; rw [r.pcs_len]
theorem Tm.cnt_sz : ∀ t : Tm, 70 * t.cnt + 70 ≤ t.sz
  | .con _ => Nat.le_refl _
  | .nm _ _ r => by have := r.cnt_sz; simp only [Tm.cnt, Tm.sz]; omega
  | .fl _ _ _ _ _ r => by have := r.cnt_sz; simp only [Tm.cnt, Tm.sz]; omega
theorem Tm.c_ok : ∀ {t : Tm}, t.ok → Fig 60 t.c
  | .con _, h => h
  | .nm _ _ r, h => Tm.c_ok (t := r) h.2.2
  | .fl _ _ _ _ _ r, h => Tm.c_ok (t := r) h.2.2.2.2.2
theorem l_star : (Str.ofString "*").length = 1 := by decide +kernel
theorem l_sp1 : (Str.ofString " - ").length = 3 := by decide +kernel
theorem l_sp2 : (Str.ofString " + ").length = 3 := by decide +kernel
theorem l_flo : (Str.ofString "floor(").length = 6 := by decide +kernel
theorem l_com : (Str.ofString ", ").length = 2 := by decide +kernel
theorem l_rp : (Str.ofString ")").length = 1 := by decide +kernel
theorem itS_len {f : Int} {x : Str} (h : Fig 60 f) : (itS f x).length ≤ 62 + x.length := by
  have := tS_len (by decide) h
  unfold itS
  split
  · omega
  · rw [len_app, len_app, l_star]; omega
theorem tlP_len (f : Int) (x : Str) : (tlP f x).length = 3 + x.length := by unfold tlP; split <;> simp only [len_app, l_sp1, l_sp2]
theorem hdP_len (f : Int) (x : Str) : (hdP f x).length ≤ 1 + x.length := by
  unfold hdP
  split
  · rw [len_app, l_dash]; omega
  · omega
theorem flS_len (s u : Str) : (flS s u).length = 9 + s.length + u.length := by unfold flS; simp only [len_app, l_flo, l_com, l_rp]; omega
theorem jn_le_cat : ∀ ps : List (Int × Str), (jnP ps).length ≤ (catP ps).length
  | [] => Nat.le_refl _
  | (f, x) :: r => by
    have := hdP_len f x
    have := tlP_len f x
    simp only [jnP, catP, len_app]
    omega
theorem cat_snoc (f : Int) (x : Str) : ∀ ps : List (Int × Str), catP (ps ++ [(f, x)]) = catP ps ++ tlP f x
  | [] => by simp only [catP, List.nil_append, e_app, app_e]
  | (g, y) :: r => by simp only [catP, List.cons_append, cat_snoc f x r, s_assoc]
theorem cat_app : ∀ ps qs : List (Int × Str), catP (ps ++ qs) = catP ps ++ catP qs
  | [], qs => by simp only [catP, List.nil_append, e_app]
  | (g, y) :: r, qs => by simp only [catP, List.cons_append, cat_app r qs, s_assoc]
theorem end_len {c : Int} {ps : List (Int × Str)} (h : Fig 60 c) : (catP (endP c ps)).length ≤ (catP ps).length + 65 := by
  have := tS_len (by decide) (aI_fig h)
  unfold endP
  split
  · rw [cat_snoc, len_app, tlP_len]; omega
  · omega
theorem Tm.cat_len : ∀ {t : Tm}, t.ok → (catP t.pcs).length + 70 ≤ t.sz
  | .con _, _ => by simp only [Tm.pcs, catP, l_emp, Tm.sz]; omega
  | .nm f x r, h => by
    have := Tm.cat_len (t := r) h.2.2
    have := itS_len (x := x) (aI_fig h.1)
    simp only [Tm.pcs, catP, len_app, tlP_len, Tm.sz]
    omega
  | .fl f i j k t r, h => by
    obtain ⟨h1, h2, h3, h4, h5, h6⟩ := h
    have := Tm.cat_len (t := r) h6
    have := Tm.cat_len (t := t) h5
    have := stS_len (by decide) h2 h3 h4
    have := end_len (ps := t.pcs) (Tm.c_ok h5)
    have := jn_le_cat (endP t.c t.pcs)
    have e := flS_len (stS i j k) (jnP (endP t.c t.pcs))
    have := itS_len (x := flS (stS i j k) (jnP (endP t.c t.pcs))) (aI_fig h1)
    simp only [Tm.pcs, catP, len_app, tlP_len, Tm.sz]
    omega
theorem Tm.tx_len {t : Tm} (h : t.ok) : t.tx.length ≤ t.sz := by
  have := Tm.cat_len h
  have := end_len (ps := t.pcs) (Tm.c_ok h)
  have := jn_le_cat (endP t.c t.pcs)
  show (jnP (endP t.c t.pcs)).length ≤ _
  omega
def pdD (ps : List (Int × Str)) : List D := ps.map fun p => .tup [.int p.1, .str p.2]
theorem Tm.plain : ∀ {t : Tm}, t.ok → plains t.its = true
  | .con _, _ => rfl
  | .nm f x r, h => by
    show (((true && (PyData.strOk x && true)) && plains r.its)) = true
    rw [h.2.1.2, Tm.plain (t := r) h.2.2]
    rfl
  | .fl f i j k t r, h => by
    obtain ⟨_, _, _, _, h5, h6⟩ := h
    have e1 := Tm.plain (t := t) h5
    have e2 := Tm.plain (t := r) h6
    have e3 : PyData.strOk ("floor" : Str) = true := by decide +kernel
    show plains (_ :: r.its) = true
    simp only [plains, Q.plain, e1, e2, e3, Bool.and_self]
theorem Tm.deep : ∀ t : Tm, depL t.its ≤ 4 * t.dp + 1
  | .con _ => Nat.zero_le _
  | .nm f x r => by
    have := Tm.deep r
    show max (dep (.tup [.int f, .str x])) (depL r.its) ≤ 4 * r.dp + 1
    simp only [dep, depL]
    omega
  | .fl f i j k t r => by
    have h1 := Tm.deep r
    have h2 := Tm.deep t
    show max (dep _) (depL r.its) ≤ 4 * max (t.dp + 1) r.dp + 1
    simp only [dep, depL]
    omega
theorem Tm.okD {t : Tm} (h : t.ok) (hd : t.dp ≤ 14) : okD (.tup t.its) := ⟨Tm.plain h, by have := t.deep; show depL t.its + 1 ≤ 60; omega⟩
theorem Tm.emp (t : Tm) : eqD (.tup t.its) (.tup []) = decide (t.pcs = []) := by
  cases t <;> rfl
/-- every piece has a text -/
theorem Tm.pcs_ne : ∀ {t : Tm}, t.ok → ∀ p ∈ t.pcs, 0 < p.2.length
  | .con _, _, p, m => by cases m
  | .nm f x r, h, p, m => by
    rcases List.mem_cons.mp m with rfl | m
    · show 0 < (itS (aI f) x).length
      have := h.2.1.1
      unfold itS
      split
      · omega
      · rw [len_app]; omega
    · exact Tm.pcs_ne (t := r) h.2.2 p m
  | .fl f i j k t r, h, p, m => by
    obtain ⟨_, _, _, _, _, h6⟩ := h
    rcases List.mem_cons.mp m with rfl | m
    · show 0 < (itS (aI f) (flS _ _)).length
      have := flS_len (stS i j k) (jnP (endP t.c t.pcs))
      unfold itS
      split
      · omega
      · rw [len_app]; omega
    · exact Tm.pcs_ne (t := r) h6 p m
/-- the pieces as they are put together -/
def jnT : List (Int × Str) → List Str
  | [] => []
  | (f, x) :: r => hdP f x :: r.map fun p => tlP p.1 p.2
theorem jnT_snoc (ps : List (Int × Str)) (f : Int) (x : Str) : jnT (ps ++ [(f, x)]) = jnT ps ++ [if ps = [] then hdP f x else tlP f x] := by
  cases ps with
  | nil => rfl
  | cons p r => simp [jnT]
theorem jnT_len (ps : List (Int × Str)) : (jnT ps).length = ps.length := by cases ps <;> simp [jnT]
theorem jnT_join (ps : List (Int × Str)) : Txt.join Str.empty (jnT ps) = jnP ps := by
  have cat : ∀ (r : List (Int × Str)) (l : List Str), Txt.join Str.empty (l ++ r.map fun p => tlP p.1 p.2) = Txt.join Str.empty l ++ catP r := by
    intro r
    induction r with
    | nil => intro l; simp only [List.map_nil, List.append_nil, catP, app_e]
    | cons p r ih =>
      intro l
      have := ih (l ++ [tlP p.1 p.2])
      rw [List.append_assoc] at this
      rw [List.map_cons]
      rw [show l ++ tlP p.1 p.2 :: List.map (fun p => tlP p.1 p.2) r = l ++ ([tlP p.1 p.2] ++ List.map (fun p => tlP p.1 p.2) r) from rfl, this, join_snoc, s_assoc]
      rfl
  cases ps with
  | nil => exact join_nil _
  | cons p r =>
    have := cat r [hdP p.1 p.2]
    rw [join_one] at this
    exact this
theorem jnT_sum : ∀ ps : List (Int × Str), ((jnT ps).map (·.length)).sum ≤ (catP ps).length
  | [] => Nat.zero_le _
  | p :: r => by
    have cat : ∀ r : List (Int × Str), ((r.map fun p => tlP p.1 p.2).map (·.length)).sum = (catP r).length := by
      intro r
      induction r with
      | nil => rfl
      | cons p r ih => simp only [List.map_cons, List.sum_cons, ih, catP, len_app]
    have h1 := hdP_len p.1 p.2
    have h2 := tlP_len p.1 p.2
    have h3 := cat r
    show ((hdP p.1 p.2 :: r.map fun p => tlP p.1 p.2).map (·.length)).sum ≤ (tlP p.1 p.2 ++ catP r).length
    rw [List.map_cons, List.sum_cons, h3, len_app]
    omega
theorem endP_cnt (c : Int) (ps : List (Int × Str)) : (endP c ps).length ≤ ps.length + 1 := by
  unfold endP
  split
  · simp
  · omega
/-! ### sayings -/
mutual
inductive Sy where
  | eq (l : Bool) (a b : Tm)
  | un (a : Tm) (i j k : Int) (b : Tm)
  | lv (a : Tm) (m r : Int)
  | us (x : Str) (ys : List Str)
  | nt (s : Sy)
  | qf (all : Bool) (x : Str) (s : Sy)
  | gr (o : Bool) (ps : Sys)
inductive Sys where
  | nil
  | cons (s : Sy) (r : Sys)
end
mutual
def Sy.d : Sy → D
  | .eq l a b => .tup [.str (if l then "less" else "equal"), a.d, b.d]
  | .un a i j k b => .tup [.str "under", a.d, .tup [.int i, .int j, .int k], b.d]
  | .lv a m r => .tup [.str "leaves", a.d, .int m, .int r]
  | .us x ys => .tup [.str "use", .str x, .tup (ys.map .str)]
  | .nt s => .tup [.str "not", s.d]
  | .qf a x s => .tup [.str (if a then "all" else "some"), .str x, s.d]
  | .gr o ps => .tup (.str (if o then "or" else "and") :: ps.ds)
def Sys.ds : Sys → List D
  | .nil => []
  | .cons s r => s.d :: r.ds
end
def leS (a b : Tm) (l : Bool) : Str := a.tx ++ (if l then Str.ofString " < " else Str.ofString " = ") ++ b.tx
def unS (a : Tm) (i j k : Int) (b : Tm) : Str := Str.ofString "under(" ++ a.tx ++ Str.ofString ", " ++ stS i j k ++ Str.ofString ", " ++ b.tx ++ Str.ofString ")"
def lvS (a : Tm) (m r : Int) : Str := Str.ofString "leaves(" ++ a.tx ++ Str.ofString ", " ++ tS m ++ Str.ofString ", " ++ tS r ++ Str.ofString ")"
def usS (x : Str) (ys : List Str) : Str := x ++ Str.ofString "(" ++ Txt.join ", " ys ++ Str.ofString ")"
def glS (o : Bool) : Str := if o then Str.ofString " or " else Str.ofString " and "
mutual
def Sy.tx : Sy → Str
  | .eq l a b => leS a b l
  | .un a i j k b => unS a i j k b
  | .lv a m r => lvS a m r
  | .us x ys => usS x ys
  | .nt s => Str.ofString "not " ++ s.tx
  | .qf a x s => (if a then Str.ofString "all" else Str.ofString "some") ++ Str.ofString " " ++ x ++ Str.ofString " " ++ s.tx
  | .gr o ps => Str.ofString "(" ++ Txt.join (glS o) ps.txs ++ Str.ofString ")"
def Sys.txs : Sys → List Str
  | .nil => []
  | .cons s r => s.tx :: r.txs
end
def namesL (ys : List Str) : Nat := (ys.map (·.length)).sum + 2 * ys.length
mutual
def Sy.sz : Sy → Nat
  | .eq _ a b => a.sz + b.sz + 3
  | .un a _ _ _ b => a.sz + b.sz + 300
  | .lv a _ _ => a.sz + 150
  | .us x ys => x.length + namesL ys + 10
  | .nt s => s.sz + 10
  | .qf _ x s => x.length + s.sz + 10
  | .gr _ ps => ps.sz + 10
def Sys.sz : Sys → Nat
  | .nil => 0
  | .cons s r => s.sz + r.sz + 12
end
mutual
def Sy.ok : Sy → Prop
  | .eq _ a b => a.ok ∧ b.ok
  | .un a i j k b => a.ok ∧ Fig 60 i ∧ Fig 60 j ∧ Fig 60 k ∧ b.ok
  | .lv a m r => a.ok ∧ Fig 60 m ∧ Fig 60 r
  | .us _ _ => True
  | .nt s => s.ok
  | .qf _ _ s => s.ok
  | .gr _ ps => ps.ok
def Sys.ok : Sys → Prop
  | .nil => True
  | .cons s r => s.ok ∧ r.ok
end
mutual
/-- the floors of a saying's terms -/
def Sy.tdp : Sy → Nat
  | .eq _ a b => max a.dp b.dp
  | .un a _ _ _ b => max a.dp b.dp
  | .lv a _ _ => a.dp
  | .us _ _ => 0
  | .nt s => s.tdp
  | .qf _ _ s => s.tdp
  | .gr _ ps => ps.tdp
def Sys.tdp : Sys → Nat
  | .nil => 0
  | .cons s r => max s.tdp r.tdp
end
mutual
/-- sayings within one another -/
def Sy.dp : Sy → Nat
  | .nt s => s.dp + 1
  | .qf _ _ s => s.dp + 1
  | .gr _ ps => ps.dp + 1
  | _ => 0
def Sys.dp : Sys → Nat
  | .nil => 0
  | .cons s r => max s.dp r.dp
end
def Sys.len : Sys → Nat
  | .nil => 0
  | .cons _ r => r.len + 1
theorem Sys.ds_len : ∀ ps : Sys, ps.ds.length = ps.len
  | .nil => rfl
  | .cons s r => by show r.ds.length + 1 = r.len + 1; rw [Sys.ds_len r]
theorem Sys.txs_len : ∀ ps : Sys, ps.txs.length = ps.len
  | .nil => rfl
  | .cons s r => by show r.txs.length + 1 = r.len + 1; rw [Sys.txs_len r]
theorem Sys.len_sz : ∀ ps : Sys, 12 * ps.len ≤ ps.sz
  | .nil => Nat.le_refl _
  | .cons s r => by have := Sys.len_sz r; simp only [Sys.len, Sys.sz]; omega
theorem l_le : (Str.ofString " < ").length = 3 := by decide +kernel
theorem l_equ : (Str.ofString " = ").length = 3 := by decide +kernel
theorem l_und : (Str.ofString "under(").length = 6 := by decide +kernel
theorem l_lea : (Str.ofString "leaves(").length = 7 := by decide +kernel
theorem l_not : (Str.ofString "not ").length = 4 := by decide +kernel
theorem l_allS : (Str.ofString "all").length = 3 := by decide +kernel
theorem l_some : (Str.ofString "some").length = 4 := by decide +kernel
theorem l_spc : (Str.ofString " ").length = 1 := by decide +kernel
theorem l_ors : (Str.ofString " or ").length = 4 := by decide +kernel
theorem l_ands : (Str.ofString " and ").length = 5 := by decide +kernel
theorem glS_len (o : Bool) : (glS o).length ≤ 5 := by cases o <;> simp only [glS, l_ands, l_ors, if_true, if_false] <;> decide +kernel
mutual
theorem Sy.tx_len : ∀ {s : Sy}, s.ok → s.tx.length ≤ s.sz
  | .eq l a b, h => by
    have := Tm.tx_len h.1
    have := Tm.tx_len h.2
    simp only [Sy.tx, Sy.sz, leS, len_app]
    split <;> simp only [l_le, l_equ] <;> omega
  | .un a i j k b, h => by
    obtain ⟨h1, h2, h3, h4, h5⟩ := h
    have := Tm.tx_len h1
    have := Tm.tx_len h5
    have := stS_len (by decide) h2 h3 h4
    simp only [Sy.tx, Sy.sz, unS, len_app, l_und, l_com, l_rp]
    omega
  | .lv a m r, h => by
    obtain ⟨h1, h2, h3⟩ := h
    have := Tm.tx_len h1
    have := tS_len (by decide) h2
    have := tS_len (by decide) h3
    simp only [Sy.tx, Sy.sz, lvS, len_app, l_lea, l_com, l_rp]
    omega
  | .us x ys, _ => by
    have := join_len (Str.ofString ", ") ys
    rw [l_com] at this
    simp only [Sy.tx, Sy.sz, usS, len_app, l_lp, l_rp, namesL]
    omega
  | .nt s, h => by
    have := Sy.tx_len (s := s) h
    simp only [Sy.tx, Sy.sz, len_app, l_not]
    omega
  | .qf a x s, h => by
    have := Sy.tx_len (s := s) h
    simp only [Sy.tx, Sy.sz, len_app, l_spc]
    split <;> simp only [l_allS, l_some] <;> omega
  | .gr o ps, h => by
    have h1 := Sys.txs_sum (ps := ps) h
    have h2 := join_len (glS o) ps.txs
    have h3 := glS_len o
    have h4 : ps.txs.length * (glS o).length ≤ ps.txs.length * 5 := Nat.mul_le_mul_left _ h3
    simp only [Sy.tx, Sy.sz, len_app, l_lp, l_rp]
    omega
theorem Sys.txs_sum : ∀ {ps : Sys}, ps.ok → (ps.txs.map (·.length)).sum + ps.txs.length * 5 ≤ ps.sz
  | .nil, _ => Nat.le_refl _
  | .cons s r, h => by
    have := Sy.tx_len (s := s) h.1
    have := Sys.txs_sum (ps := r) h.2
    simp only [Sys.txs, Sys.sz, List.map_cons, List.sum_cons, List.length_cons]
    omega
end
end Q

set_option autoImplicit false
set_option linter.all false
/-! Gn: what the laws draw: terms, sayings -/
namespace Q
open PySem L2
open RF (sx cps_app s_assoc e_app app_e len_app emp_eq join_nil join_one join_snoc join_len)
/-- a slope as it is drawn -/
def SlB (i j m : Int) : Prop := (-9 ≤ i ∧ i ≤ 9) ∧ (-3 ≤ j ∧ j ≤ 3) ∧ 1 ≤ m ∧ m ≤ 4
def lowS (x : Str) : Prop := ∀ c ∈ x.cps.toList, 97 ≤ c ∧ c ≤ 122
theorem low_ok {x : Str} (h : lowS x) : PyData.strOk x = true := by
  unfold PyData.strOk
  rw [Array.all_eq_true']
  intro c hc
  have := h c (by simpa using hc)
  exact decide_eq_true (by omega)
/-- a word as it is drawn -/
def NmB (x : Str) : Prop := (4 ≤ x.length ∧ x.length ≤ 8) ∧ lowS x ∧ x ≠ Str.ofString "some" ∧ x ≠ Str.ofString "floor" ∧ x ≠ Str.ofString "under" ∧ x ≠ Str.ofString "leaves"
/-- names of variables as they are handed about -/
def NsB (ns : List Str) : Prop := ns.length ≤ 1000 ∧ ∀ x ∈ ns, lowS x ∧ 0 < x.length ∧ x.length ≤ 8
theorem NsB.plain {ns : List Str} (h : NsB ns) : okD (.lst (ns.map .str)) := by
  have key : ∀ l : List Str, (∀ x ∈ l, lowS x) → plains (l.map D.str) = true := by
    intro l
    induction l with
    | nil => intro _; rfl
    | cons x l ih =>
      intro hl
      show (PyData.strOk x && plains (l.map D.str)) = true
      rw [low_ok (hl x List.mem_cons_self), ih fun y hy => hl y (List.mem_cons_of_mem _ hy)]
      rfl
  have dp : ∀ l : List Str, depL (l.map D.str) = 0 := by
    intro l
    induction l with
    | nil => rfl
    | cons x l ih => show max 0 (depL (l.map D.str)) = 0; rw [ih]; rfl
  exact ⟨key ns fun x hx => (h.2 x hx).1, by show depL (ns.map D.str) + 1 ≤ 60; rw [dp]; decide⟩
theorem eqL_nil (l : List D) : eqD (.lst l) (.lst []) = l.isEmpty := by cases l <;> rfl
theorem emp_okL : okD (.lst []) := ⟨rfl, by decide⟩
/-- terms with floors at most so deep -/
def GenT (ns : List Str) : Nat → Tm → Prop
  | _, .con c => -1000 ≤ c ∧ c ≤ 1000
  | n, .nm f x r => (f ≠ 0 ∧ -9 ≤ f ∧ f ≤ 9) ∧ x ∈ ns ∧ GenT ns n r
  | n, .fl f i j k t r => (f ≠ 0 ∧ -9 ≤ f ∧ f ≤ 9) ∧ SlB i j k ∧ 0 < n ∧ (GenT ns (n - 1) t ∧ t.cnt ≤ 4) ∧ GenT ns n r
def GenC (ns : List Str) (n : Nat) (t : Tm) : Prop := GenT ns n t ∧ t.cnt ≤ 4
/-- an item -/
inductive It where
  | nm (f : Int) (x : Str)
  | fl (f i j k : Int) (t : Tm)
def It.d : It → D
  | .nm f x => .tup [.int f, .str x]
  | .fl f i j k t => .tup [.int f, .tup [.str "floor", .tup [.int i, .int j, .int k], t.d]]
def It.gen (ns : List Str) (n : Nat) : It → Prop
  | .nm f x => (f ≠ 0 ∧ -9 ≤ f ∧ f ≤ 9) ∧ x ∈ ns
  | .fl f i j k t => (f ≠ 0 ∧ -9 ≤ f ∧ f ≤ 9) ∧ SlB i j k ∧ 0 < n ∧ GenC ns (n - 1) t
def mkT : List It → Int → Tm
  | [], c => .con c
  | .nm f x :: l, c => .nm f x (mkT l c)
  | .fl f i j k t :: l, c => .fl f i j k t (mkT l c)
theorem mkT_its : ∀ (l : List It) (c : Int), (mkT l c).its = l.map It.d
  | [], _ => rfl
  | .nm f x :: l, c => by show _ :: (mkT l c).its = _; rw [mkT_its l c]; rfl
  | .fl f i j k t :: l, c => by show _ :: (mkT l c).its = _; rw [mkT_its l c]; rfl
theorem mkT_c : ∀ (l : List It) (c : Int), (mkT l c).c = c
  | [], _ => rfl
  | .nm f x :: l, c => mkT_c l c
  | .fl f i j k t :: l, c => mkT_c l c
theorem mkT_d (l : List It) (c : Int) : (mkT l c).d = .tup [.tup (l.map It.d), .int c] := by unfold Tm.d; rw [mkT_its, mkT_c]
theorem mkT_cnt : ∀ (l : List It) (c : Int), (mkT l c).cnt = l.length
  | [], _ => rfl
  | .nm f x :: l, c => by show (mkT l c).cnt + 1 = _; rw [mkT_cnt l c]; rfl
  | .fl f i j k t :: l, c => by show (mkT l c).cnt + 1 = _; rw [mkT_cnt l c]; rfl
theorem mkT_gen {ns : List Str} {n : Nat} {c : Int} (hc : -1000 ≤ c ∧ c ≤ 1000) : ∀ {l : List It}, (∀ x ∈ l, x.gen ns n) → GenT ns n (mkT l c)
  | [], _ => hc
  | .nm f x :: l, h => ⟨(h _ List.mem_cons_self).1, (h _ List.mem_cons_self).2, mkT_gen hc fun y hy => h y (List.mem_cons_of_mem _ hy)⟩
  | .fl f i j k t :: l, h => by
    obtain ⟨h1, h2, h3, h4⟩ := h _ List.mem_cons_self
    exact ⟨h1, h2, h3, h4, mkT_gen hc fun y hy => h y (List.mem_cons_of_mem _ hy)⟩
theorem fig_small {i : Int} (h : -100000 ≤ i ∧ i ≤ 100000) : Fig 60 i := Nat.lt_of_le_of_lt (m := 100000) (by omega) (by decide +kernel)
theorem SlB.fig {i j m : Int} (h : SlB i j m) : Fig 60 i ∧ Fig 60 j ∧ Fig 60 m := by
  obtain ⟨⟨h1, h2⟩, ⟨h3, h4⟩, h5, h6⟩ := h
  exact ⟨fig_small (by omega), fig_small (by omega), fig_small (by omega)⟩
theorem GenT.ok {ns : List Str} (hn : NsB ns) : ∀ {n : Nat} {t : Tm}, GenT ns n t → t.ok
  | _, .con c, h => fig_small (by have := h.1; have := h.2; omega)
  | n, .nm f x r, h => by
    obtain ⟨⟨h0, h1, h2⟩, h3, h4⟩ := h
    exact ⟨fig_small (by omega), ⟨(hn.2 x h3).2.1, low_ok (hn.2 x h3).1⟩, GenT.ok hn (t := r) h4⟩
  | n, .fl f i j k t r, h => by
    obtain ⟨⟨h0, h1, h2⟩, h3, _, h4, h5⟩ := h
    exact ⟨fig_small (by omega), h3.fig.1, h3.fig.2.1, h3.fig.2.2, GenT.ok hn (t := t) h4.1, GenT.ok hn (t := r) h5⟩
theorem GenT.dp {ns : List Str} : ∀ {n : Nat} {t : Tm}, GenT ns n t → t.dp ≤ n
  | _, .con c, h => Nat.zero_le _
  | n, .nm f x r, h => GenT.dp (t := r) h.2.2
  | n, .fl f i j k t r, h => by
    obtain ⟨_, _, h0, h4, h5⟩ := h
    have := GenT.dp (t := t) h4.1
    have := GenT.dp (t := r) h5
    simp only [Tm.dp]
    omega
theorem GenT.mono {ns : List Str} : ∀ {m n : Nat} {t : Tm}, GenT ns m t → m ≤ n → GenT ns n t
  | _, _, .con c, h, _ => h
  | m, n, .nm f x r, h, hn => ⟨h.1, h.2.1, GenT.mono (t := r) h.2.2 hn⟩
  | m, n, .fl f i j k t r, h, hn => by
    obtain ⟨h1, h2, h3, h4, h5⟩ := h
    exact ⟨h1, h2, by omega, ⟨GenT.mono (t := t) h4.1 (by omega), h4.2⟩, GenT.mono (t := r) h5 hn⟩
/-- how large a term can be -/
def szB : Nat → Nat
  | 0 => 70 + 4 * 78
  | n + 1 => 70 + 4 * (300 + szB n)
theorem szB_ge (n : Nat) : 382 ≤ szB n := by cases n <;> simp only [szB] <;> omega
theorem GenT.sz {ns : List Str} (hn : NsB ns) : ∀ {n : Nat} {t : Tm}, GenT ns n t → t.cnt ≤ 4 → t.sz ≤ szB n
  | n, t, h, hc => by
    have key : ∀ (t : Tm), GenT ns n t → t.sz ≤ 70 + t.cnt * (match n with | 0 => 78 | m + 1 => 300 + szB m) := by
      intro t
      induction t with
      | con c => intro _; simp only [Tm.sz, Tm.cnt]; omega
      | nm f x r ih =>
        intro h
        have h1 := ih h.2.2
        have h2 := (hn.2 x h.2.1).2.2
        simp only [Tm.sz, Tm.cnt, Nat.succ_mul]
        cases n with
        | zero => simp only [] at h1 ⊢; omega
        | succ m => have := szB_ge m; simp only [] at h1 ⊢; omega
      | fl f i j k t r iht ihr =>
        intro h
        obtain ⟨_, _, h0, h4, h5⟩ := h
        have h1 := ihr h5
        simp only [Tm.sz, Tm.cnt, Nat.succ_mul]
        cases n with
        | zero => omega
        | succ m =>
          have h2 := GenT.sz hn (n := m) h4.1 h4.2
          simp only [] at h1 ⊢
          omega
    have h1 := key t h
    cases n with
    | zero => simp only [] at h1; simp only [szB]; omega
    | succ m =>
      have : t.cnt * (300 + szB m) ≤ 4 * (300 + szB m) := Nat.mul_le_mul_right _ hc
      simp only [] at h1
      simp only [szB]
      omega
theorem szB_mono {m n : Nat} (h : m ≤ n) : szB m ≤ szB n := by
  have step : ∀ n, szB n ≤ szB (n + 1) := by
    intro n
    induction n with
    | zero => simp only [szB]; omega
    | succ n ih => simp only [szB] at ih ⊢; omega
  induction h with
  | refl => exact Nat.le_refl _
  | step _ ih => exact Nat.le_trans ih (step _)
/-! ### sayings -/
mutual
/-- sayings over the free names, the names that may be bound, so deep -/
def GenS : List Str → List Str → Nat → Sy → Prop
  | ns, _, _, .eq _ a b => GenC ns 3 a ∧ GenC ns 1 b
  | ns, _, _, .un a i j k b => GenC ns 3 a ∧ SlB i j k ∧ GenC ns 1 b
  | ns, _, _, .lv a m r => GenC ns 3 a ∧ (2 ≤ m ∧ m ≤ 9) ∧ 0 ≤ r ∧ r < m
  | ns, _, _, .us x ys => NmB x ∧ ys.length ≤ 3 ∧ ∀ y ∈ ys, y ∈ ns
  | ns, bs, n, .nt s => 0 < n ∧ GenS ns bs (n - 1) s
  | ns, bs, n, .qf _ x s => 0 < n ∧ bs ≠ [] ∧ x = bs.headD Str.empty ∧ GenS (ns ++ [x]) bs.tail (n - 1) s
  | ns, bs, n, .gr _ ps => 0 < n ∧ (2 ≤ ps.len ∧ ps.len ≤ 3) ∧ GenSs ns bs (n - 1) ps
def GenSs : List Str → List Str → Nat → Sys → Prop
  | _, _, _, .nil => True
  | ns, bs, n, .cons s r => GenS ns bs n s ∧ GenSs ns bs n r
end
def NbB (ns bs : List Str) : Prop := NsB (ns ++ bs)
theorem NbB.l {ns bs : List Str} (h : NbB ns bs) : NsB ns := ⟨by have := h.1; rw [List.length_append] at this; omega, fun x hx => h.2 x (List.mem_append_left _ hx)⟩
theorem NbB.r {ns bs : List Str} (h : NbB ns bs) : NsB bs := ⟨by have := h.1; rw [List.length_append] at this; omega, fun x hx => h.2 x (List.mem_append_right _ hx)⟩
theorem NbB.step {ns bs : List Str} (h : NbB ns bs) (hb : bs ≠ []) : NbB (ns ++ [bs.headD Str.empty]) bs.tail := by
  cases bs with
  | nil => exact absurd rfl hb
  | cons b bs => show NsB ((ns ++ [b]) ++ bs); rw [List.append_assoc]; exact h
mutual
theorem GenS.ok : ∀ {ns bs : List Str} {n : Nat} {s : Sy}, NbB ns bs → GenS ns bs n s → s.ok
  | ns, bs, n, .eq _ a b, hn, h => ⟨GenT.ok hn.l h.1.1, GenT.ok hn.l h.2.1⟩
  | ns, bs, n, .un a i j k b, hn, h => ⟨GenT.ok hn.l h.1.1, h.2.1.fig.1, h.2.1.fig.2.1, h.2.1.fig.2.2, GenT.ok hn.l h.2.2.1⟩
  | ns, bs, n, .lv a m r, hn, h => by
    obtain ⟨h1, h2, h3, h4⟩ := h
    exact ⟨GenT.ok hn.l h1.1, fig_small (by omega), fig_small (by omega)⟩
  | ns, bs, n, .us x ys, hn, h => trivial
  | ns, bs, n, .nt s, hn, h => GenS.ok (s := s) hn h.2
  | ns, bs, n, .qf _ x s, hn, h => by
    obtain ⟨_, h1, rfl, h3⟩ := h
    exact GenS.ok (s := s) (hn.step h1) h3
  | ns, bs, n, .gr _ ps, hn, h => GenSs.ok (ps := ps) hn h.2.2
theorem GenSs.ok : ∀ {ns bs : List Str} {n : Nat} {ps : Sys}, NbB ns bs → GenSs ns bs n ps → ps.ok
  | _, _, _, .nil, _, _ => trivial
  | ns, bs, n, .cons s r, hn, h => ⟨GenS.ok (s := s) hn h.1, GenSs.ok (ps := r) hn h.2⟩
end
mutual
theorem GenS.dp : ∀ {ns bs : List Str} {n : Nat} {s : Sy}, GenS ns bs n s → s.dp ≤ n ∧ s.tdp ≤ 3
  | ns, bs, n, .eq _ a b, h => ⟨Nat.zero_le _, by have := h.1.1.dp; have := h.2.1.dp; simp only [Sy.tdp]; omega⟩
  | ns, bs, n, .un a i j k b, h => ⟨Nat.zero_le _, by have := h.1.1.dp; have := h.2.2.1.dp; simp only [Sy.tdp]; omega⟩
  | ns, bs, n, .lv a m r, h => ⟨Nat.zero_le _, h.1.1.dp⟩
  | ns, bs, n, .us x ys, h => ⟨Nat.zero_le _, Nat.zero_le _⟩
  | ns, bs, n, .nt s, h => by have := GenS.dp (s := s) h.2; have := h.1; simp only [Sy.dp, Sy.tdp]; omega
  | ns, bs, n, .qf _ x s, h => by
    obtain ⟨h0, h1, rfl, h3⟩ := h
    have := GenS.dp (s := s) h3
    simp only [Sy.dp, Sy.tdp]; omega
  | ns, bs, n, .gr _ ps, h => by have := GenSs.dp (ps := ps) h.2.2; have := h.1; simp only [Sy.dp, Sy.tdp]; omega
theorem GenSs.dp : ∀ {ns bs : List Str} {n : Nat} {ps : Sys}, GenSs ns bs n ps → ps.dp ≤ n ∧ ps.tdp ≤ 3
  | _, _, _, .nil, _ => ⟨Nat.zero_le _, Nat.zero_le _⟩
  | ns, bs, n, .cons s r, h => by
    have := GenS.dp (s := s) h.1
    have := GenSs.dp (ps := r) h.2
    simp only [Sys.dp, Sys.tdp]; omega
end
/-- how large a saying can be -/
def ssB : Nat → Nat
  | 0 => 200000
  | n + 1 => 3 * ssB n + 100
mutual
theorem GenS.sz : ∀ {ns bs : List Str} {n : Nat} {s : Sy}, NbB ns bs → GenS ns bs n s → s.sz ≤ ssB n
  | ns, bs, n, .eq _ a b, hn, h => by
    have h1 := GenT.sz hn.l h.1.1 h.1.2
    have h2 := GenT.sz hn.l h.2.1 h.2.2
    have h3 := ssB_ge n
    have e3 : szB 3 = 51118 := by decide
    have e1 : szB 1 = 2798 := by decide
    simp only [Sy.sz]; omega
  | ns, bs, n, .un a i j k b, hn, h => by
    have h1 := GenT.sz hn.l h.1.1 h.1.2
    have h2 := GenT.sz hn.l h.2.2.1 h.2.2.2
    have h3 := ssB_ge n
    have e3 : szB 3 = 51118 := by decide
    have e1 : szB 1 = 2798 := by decide
    simp only [Sy.sz]; omega
  | ns, bs, n, .lv a m r, hn, h => by
    have h1 := GenT.sz hn.l h.1.1 h.1.2
    have h3 := ssB_ge n
    have e3 : szB 3 = 51118 := by decide
    simp only [Sy.sz]; omega
  | ns, bs, n, .us x ys, hn, h => by
    obtain ⟨h1, h2, h4⟩ := h
    have h3 := ssB_ge n
    have key : ∀ l : List Str, (∀ y ∈ l, y ∈ ns) → (l.map (·.length)).sum ≤ 8 * l.length := by
      intro l
      induction l with
      | nil => intro _; exact Nat.le_refl _
      | cons y l ih =>
        intro hl
        have g1 := ih fun z hz => hl z (List.mem_cons_of_mem _ hz)
        have g2 := (hn.l.2 y (hl y List.mem_cons_self)).2.2
        simp only [List.map_cons, List.sum_cons, List.length_cons]
        omega
    have := key ys h4
    have := h1.1.2
    simp only [Sy.sz, namesL]; omega
  | ns, bs, n, .nt s, hn, h => by
    have h1 := GenS.sz (s := s) hn h.2
    obtain ⟨m, rfl⟩ : ∃ m, n = m + 1 := ⟨n - 1, by have := h.1; omega⟩
    have h3 := ssB_ge m
    simp only [Sy.sz, ssB, Nat.add_sub_cancel] at *; omega
  | ns, bs, n, .qf _ x s, hn, h => by
    obtain ⟨h0, h1, e, h3⟩ := h
    obtain ⟨m, rfl⟩ : ∃ m, n = m + 1 := ⟨n - 1, by omega⟩
    subst e
    have h4 := GenS.sz (s := s) (hn.step h1) h3
    have h5 := ssB_ge m
    have h6 : (bs.headD Str.empty).length ≤ 8 := by
      cases bs with
      | nil => exact absurd rfl h1
      | cons b bs => exact (hn.r.2 b List.mem_cons_self).2.2
    simp only [Sy.sz, ssB, Nat.add_sub_cancel] at *; omega
  | ns, bs, n, .gr _ ps, hn, h => by
    obtain ⟨h0, ⟨_, h1⟩, h2⟩ := h
    obtain ⟨m, rfl⟩ : ∃ m, n = m + 1 := ⟨n - 1, by omega⟩
    have h4 := GenSs.sz (ps := ps) hn h2
    have : ps.len * (ssB m + 12) ≤ 3 * (ssB m + 12) := Nat.mul_le_mul_right _ h1
    simp only [Sy.sz, ssB, Nat.add_sub_cancel] at *; omega
theorem GenSs.sz : ∀ {ns bs : List Str} {n : Nat} {ps : Sys}, NbB ns bs → GenSs ns bs n ps → ps.sz ≤ ps.len * (ssB n + 12)
  | _, _, _, .nil, _, _ => Nat.zero_le _
  | ns, bs, n, .cons s r, hn, h => by
    have h1 := GenS.sz (s := s) hn h.1
    have h2 := GenSs.sz (ps := r) hn h.2
    simp only [Sys.sz, Sys.len, Nat.succ_mul]
    omega
theorem ssB_ge : ∀ n : Nat, 200000 ≤ ssB n
  | 0 => Nat.le_refl _
  | n + 1 => by have := ssB_ge n; simp only [ssB]; omega
end
theorem ssB_3 : ssB 3 = 5401300 := by decide
/-! ### words by their signs -/
def wd (l : List Nat) : Str := ⟨l.toArray⟩
def sgn (c : Nat) : Str := ⟨#[c]⟩
theorem wd_snoc (l : List Nat) (c : Nat) : wd (l ++ [c]) = wd l ++ sgn c := sx (by rw [cps_app]; simp [wd, sgn])
theorem join_chars : ∀ l : List Nat, Txt.join Str.empty (l.map sgn) = wd l := by
  have key : ∀ n, ∀ l : List Nat, l.length = n → Txt.join Str.empty (l.map sgn) = wd l := by
    intro n
    induction n with
    | zero => intro l hl; rw [List.eq_nil_of_length_eq_zero hl]; rfl
    | succ n ih =>
      intro l hl
      obtain ⟨a, c, rfl⟩ : ∃ a c, l = a ++ [c] := by
        cases h : l.reverse with
        | nil => rw [List.reverse_eq_nil_iff] at h; rw [h] at hl; cases hl
        | cons c r => exact ⟨r.reverse, c, by rw [← List.reverse_reverse l, h, List.reverse_cons]⟩
      rw [List.map_append, List.map_singleton, join_snoc, ih a (by simpa using hl), wd_snoc]
  exact fun l => key _ l rfl
theorem wd_len (l : List Nat) : (wd l).length = l.length := by simp [wd, Str.length]
theorem wd_low {l : List Nat} (h : ∀ c ∈ l, 97 ≤ c ∧ c ≤ 122) : lowS (wd l) := fun c hc => h c (by simpa [wd] using hc)
theorem sgn_len (c : Nat) : (sgn c).length = 1 := rfl
theorem sum_sgn (l : List Nat) : ((l.map sgn).map (·.length)).sum = l.length := by
  induction l with
  | nil => rfl
  | cons c l ih => rw [List.map_cons, List.map_cons, List.sum_cons, ih, sgn_len, List.length_cons, Nat.add_comm]
theorem rng_len (lo : Int) (n : Nat) : (rng lo n).length = n := by simp [rng]
end Q

set_option autoImplicit false
set_option linter.all false
/-! Gm: sayings in lists, what stands in them -/
namespace Q
open PySem L2
def mkS : List Sy → Sys
  | [] => .nil
  | s :: l => .cons s (mkS l)
theorem mkS_ds : ∀ l : List Sy, (mkS l).ds = l.map Sy.d
  | [] => rfl
  | s :: l => by show s.d :: (mkS l).ds = _; rw [mkS_ds l]; rfl
theorem mkS_len : ∀ l : List Sy, (mkS l).len = l.length
  | [] => rfl
  | s :: l => by show (mkS l).len + 1 = _; rw [mkS_len l]; rfl
theorem mkS_gen {ns bs : List Str} {n : Nat} : ∀ {l : List Sy}, (∀ x ∈ l, GenS ns bs n x) → GenSs ns bs n (mkS l)
  | [], _ => trivial
  | s :: l, h => ⟨h _ List.mem_cons_self, mkS_gen fun y hy => h y (List.mem_cons_of_mem _ hy)⟩
def Sys.ls : Sys → List Sy
  | .nil => []
  | .cons s r => s :: r.ls
theorem Sys.ds_ls : ∀ ps : Sys, ps.ds = ps.ls.map Sy.d
  | .nil => rfl
  | .cons s r => by show s.d :: r.ds = _; rw [Sys.ds_ls r]; rfl
theorem Sys.ls_len : ∀ ps : Sys, ps.ls.length = ps.len
  | .nil => rfl
  | .cons s r => by show r.ls.length + 1 = r.len + 1; rw [Sys.ls_len r]
/-- the sayings that stand in one -/
def Sy.inn : Sy → List Sy
  | .nt s => [s]
  | .qf _ _ s => [s]
  | .gr _ ps => ps.ls
  | _ => []
mutual
/-- how many sayings -/
def Sy.cnt : Sy → Nat
  | .nt s => s.cnt + 1
  | .qf _ _ s => s.cnt + 1
  | .gr _ ps => ps.cnt + 1
  | _ => 1
def Sys.cnt : Sys → Nat
  | .nil => 0
  | .cons s r => s.cnt + r.cnt
end
theorem Sys.cnt_ls : ∀ ps : Sys, ps.cnt = (ps.ls.map Sy.cnt).sum
  | .nil => rfl
  | .cons s r => by show s.cnt + r.cnt = _; rw [Sys.cnt_ls r]; rfl
theorem Sy.cnt_inn (s : Sy) : s.cnt = (s.inn.map Sy.cnt).sum + 1 := by
  cases s with
  | nt s => simp [Sy.cnt, Sy.inn]
  | qf a x s => simp [Sy.cnt, Sy.inn]
  | gr o ps => simp [Sy.cnt, Sy.inn, Sys.cnt_ls]
  | eq => rfl
  | un => rfl
  | lv => rfl
  | us => rfl
theorem Sy.cnt_pos (s : Sy) : 0 < s.cnt := by rw [Sy.cnt_inn]; omega
theorem cnt_len : ∀ l : List Sy, l.length ≤ (l.map Sy.cnt).sum
  | [] => Nat.le_refl _
  | s :: l => by have := cnt_len l; have := s.cnt_pos; simp only [List.length_cons, List.map_cons, List.sum_cons]; omega
def cntB : Nat → Nat
  | 0 => 1
  | n + 1 => 3 * cntB n + 1
theorem cntB_pos : ∀ n, 1 ≤ cntB n
  | 0 => Nat.le_refl _
  | n + 1 => by simp only [cntB]; omega
mutual
theorem GenS.cnt : ∀ {ns bs : List Str} {n : Nat} {s : Sy}, GenS ns bs n s → s.cnt ≤ cntB n
  | _, _, n, .eq _ _ _, _ => cntB_pos n
  | _, _, n, .un _ _ _ _ _, _ => cntB_pos n
  | _, _, n, .lv _ _ _, _ => cntB_pos n
  | _, _, n, .us _ _, _ => cntB_pos n
  | ns, bs, n, .nt s, h => by
    have h1 := GenS.cnt (s := s) h.2
    obtain ⟨m, rfl⟩ : ∃ m, n = m + 1 := ⟨n - 1, by have := h.1; omega⟩
    simp only [Sy.cnt, cntB, Nat.add_sub_cancel] at *; omega
  | ns, bs, n, .qf _ x s, h => by
    obtain ⟨h0, _, _, h3⟩ := h
    have h1 := GenS.cnt (s := s) h3
    obtain ⟨m, rfl⟩ : ∃ m, n = m + 1 := ⟨n - 1, by omega⟩
    simp only [Sy.cnt, cntB, Nat.add_sub_cancel] at *; omega
  | ns, bs, n, .gr _ ps, h => by
    obtain ⟨h0, ⟨_, h1⟩, h2⟩ := h
    have h4 := GenSs.cnt (ps := ps) h2
    obtain ⟨m, rfl⟩ : ∃ m, n = m + 1 := ⟨n - 1, by omega⟩
    have : ps.len * cntB m ≤ 3 * cntB m := Nat.mul_le_mul_right _ h1
    simp only [Sy.cnt, cntB, Nat.add_sub_cancel] at *; omega
theorem GenSs.cnt : ∀ {ns bs : List Str} {n : Nat} {ps : Sys}, GenSs ns bs n ps → ps.cnt ≤ ps.len * cntB n
  | _, _, _, .nil, _ => Nat.zero_le _
  | ns, bs, n, .cons s r, h => by
    have h1 := GenS.cnt (s := s) h.1
    have h2 := GenSs.cnt (ps := r) h.2
    simp only [Sys.cnt, Sys.len, Nat.succ_mul]; omega
end
mutual
theorem GenS.mono : ∀ {ns bs : List Str} {m n : Nat} {s : Sy}, GenS ns bs m s → m ≤ n → GenS ns bs n s
  | _, _, _, _, .eq _ _ _, h, _ => h
  | _, _, _, _, .un _ _ _ _ _, h, _ => h
  | _, _, _, _, .lv _ _ _, h, _ => h
  | _, _, _, _, .us _ _, h, _ => h
  | ns, bs, m, n, .nt s, h, hm => ⟨Nat.lt_of_lt_of_le h.1 hm, GenS.mono (s := s) h.2 (by omega)⟩
  | ns, bs, m, n, .qf _ x s, h, hm => by
    obtain ⟨h0, h1, h2, h3⟩ := h
    exact ⟨by omega, h1, h2, GenS.mono (s := s) h3 (by omega)⟩
  | ns, bs, m, n, .gr _ ps, h, hm => by
    obtain ⟨h0, h1, h2⟩ := h
    exact ⟨by omega, h1, GenSs.mono (ps := ps) h2 (by omega)⟩
theorem GenSs.mono : ∀ {ns bs : List Str} {m n : Nat} {ps : Sys}, GenSs ns bs m ps → m ≤ n → GenSs ns bs n ps
  | _, _, _, _, .nil, _, _ => trivial
  | ns, bs, m, n, .cons s r, h, hm => ⟨GenS.mono (s := s) h.1 hm, GenSs.mono (ps := r) h.2 hm⟩
end
/-! ### plain -/
def Sy.pln (s : Sy) : Prop := plain s.d = true ∧ dep s.d ≤ 40
theorem ok_eqw (l : Bool) : PyData.strOk (if l then "less" else "equal" : Str) = true := by cases l <;> decide +kernel
theorem ok_qfw (l : Bool) : PyData.strOk (if l then "all" else "some" : Str) = true := by cases l <;> decide +kernel
theorem ok_grw (l : Bool) : PyData.strOk (if l then "or" else "and" : Str) = true := by cases l <;> decide +kernel
theorem Tm.plainD {t : Tm} (h : t.ok) : Q.plain t.d = true := by
  have := Tm.plain h
  simp only [Tm.d, Q.plain, plains, this, Bool.and_self]
theorem Tm.depD (t : Tm) : dep t.d ≤ 4 * t.dp + 3 := by
  have := t.deep
  simp only [Tm.d, dep, depL]; omega
theorem strs_plain : ∀ {l : List Str}, (∀ x ∈ l, PyData.strOk x = true) → plains (l.map D.str) = true
  | [], _ => rfl
  | x :: l, h => by
    show (PyData.strOk x && plains (l.map D.str)) = true
    rw [h x List.mem_cons_self, strs_plain fun y hy => h y (List.mem_cons_of_mem _ hy)]
    rfl
theorem strs_dep : ∀ l : List Str, depL (l.map D.str) = 0
  | [] => rfl
  | x :: l => by show max 0 (depL (l.map D.str)) = 0; rw [strs_dep l]; rfl
mutual
theorem GenS.plain : ∀ {ns bs : List Str} {n : Nat} {s : Sy}, NbB ns bs → GenS ns bs n s → Q.plain s.d = true ∧ dep s.d ≤ 17 + n
  | ns, bs, n, .eq l a b, hn, h => by
    have h1 := Tm.plainD (h.1.1.ok hn.l)
    have h2 := Tm.plainD (h.2.1.ok hn.l)
    have h3 := a.depD
    have h4 := b.depD
    have h5 := h.1.1.dp
    have h6 := h.2.1.dp
    simp only [Sy.d, Q.plain, plains, dep, depL, h1, h2, ok_eqw, Bool.and_self, true_and]; omega
  | ns, bs, n, .un a i j k b, hn, h => by
    obtain ⟨g1, g2, g3⟩ := h
    have h1 := Tm.plainD (g1.1.ok hn.l)
    have h2 := Tm.plainD (g3.1.ok hn.l)
    have h3 := a.depD
    have h4 := b.depD
    have h5 := g1.1.dp
    have h6 := g3.1.dp
    have e3 : PyData.strOk ("under" : Str) = true := by decide +kernel
    simp only [Sy.d, Q.plain, plains, dep, depL, h1, h2, e3, Bool.and_self, true_and]; omega
  | ns, bs, n, .lv a m r, hn, h => by
    obtain ⟨g1, g2, g3⟩ := h
    have h1 := Tm.plainD (g1.1.ok hn.l)
    have h3 := a.depD
    have h5 := g1.1.dp
    have e3 : PyData.strOk ("leaves" : Str) = true := by decide +kernel
    simp only [Sy.d, Q.plain, plains, dep, depL, h1, e3, Bool.and_self, true_and]; omega
  | ns, bs, n, .us x ys, hn, h => by
    obtain ⟨g1, g2, g3⟩ := h
    have e3 : PyData.strOk ("use" : Str) = true := by decide +kernel
    have e4 : PyData.strOk x = true := low_ok g1.2.1
    have e5 : plains (ys.map D.str) = true := strs_plain fun y hy => low_ok (hn.l.2 y (g3 y hy)).1
    have e6 := strs_dep ys
    simp only [Sy.d, Q.plain, plains, dep, depL, e3, e4, e5, e6, Bool.and_self, true_and]; omega
  | ns, bs, n, .nt s, hn, h => by
    have h1 := GenS.plain (s := s) hn h.2
    have h0 := h.1
    have e3 : PyData.strOk ("not" : Str) = true := by decide +kernel
    simp only [Sy.d, Q.plain, plains, dep, depL, e3, h1.1, Bool.and_self, true_and]; omega
  | ns, bs, n, .qf a x s, hn, h => by
    obtain ⟨h0, h1, e, h3⟩ := h
    subst e
    have h4 := GenS.plain (s := s) (hn.step h1) h3
    have h6 : PyData.strOk (bs.headD Str.empty) = true := by
      cases bs with
      | nil => exact absurd rfl h1
      | cons b bs => exact low_ok (hn.r.2 b List.mem_cons_self).1
    simp only [Sy.d, Q.plain, plains, dep, depL, ok_qfw, h6, h4.1, Bool.and_self, true_and]; omega
  | ns, bs, n, .gr o ps, hn, h => by
    obtain ⟨h0, _, h2⟩ := h
    have h4 := GenSs.plain (ps := ps) hn h2
    simp only [Sy.d, Q.plain, plains, dep, depL, ok_grw, h4.1, Bool.and_self, true_and]; omega
theorem GenSs.plain : ∀ {ns bs : List Str} {n : Nat} {ps : Sys}, NbB ns bs → GenSs ns bs n ps → plains ps.ds = true ∧ depL ps.ds ≤ 17 + n
  | _, _, _, .nil, _, _ => ⟨rfl, Nat.zero_le _⟩
  | ns, bs, n, .cons s r, hn, h => by
    have h1 := GenS.plain (s := s) hn h.1
    have h2 := GenSs.plain (ps := r) hn h.2
    simp only [Sys.ds, plains, depL, h1.1, h2.1, Bool.and_self, true_and]; omega
end
theorem plains_mem : ∀ {ds : List D}, plains ds = true → ∀ d ∈ ds, plain d = true
  | [], _, d, h => by cases h
  | e :: ds, hp, d, h => by
    have hp : (plain e && plains ds) = true := hp
    rw [Bool.and_eq_true] at hp
    rcases List.mem_cons.mp h with rfl | h
    · exact hp.1
    · exact plains_mem hp.2 d h
theorem depL_mem : ∀ {ds : List D} {d : D}, d ∈ ds → dep d ≤ depL ds
  | e :: ds, d, h => by
    rcases List.mem_cons.mp h with rfl | h
    · exact Nat.le_max_left _ _
    · exact Nat.le_trans (depL_mem h) (Nat.le_max_right _ _)
theorem plains_of : ∀ {ds : List D}, (∀ d ∈ ds, plain d = true) → plains ds = true
  | [], _ => rfl
  | e :: ds, h => by
    show (plain e && plains ds) = true
    rw [h e List.mem_cons_self, plains_of fun d hd => h d (List.mem_cons_of_mem _ hd)]
    rfl
theorem depL_of {n : Nat} : ∀ {ds : List D}, (∀ d ∈ ds, dep d ≤ n) → depL ds ≤ n
  | [], _ => Nat.zero_le _
  | e :: ds, h => Nat.max_le.mpr ⟨h e List.mem_cons_self, depL_of fun d hd => h d (List.mem_cons_of_mem _ hd)⟩
theorem inn_pln {s : Sy} (h : s.pln) : ∀ t ∈ s.inn, t.pln := by
  intro t ht
  obtain ⟨hp, hd⟩ := h
  cases s with
  | nt s =>
    rw [show t = s from List.mem_singleton.mp ht]
    have hp : (PyData.strOk _ && (plain s.d && true)) = true := hp
    rw [Bool.and_true, Bool.and_eq_true] at hp
    exact ⟨hp.2, by simp only [Sy.d, dep, depL] at hd; omega⟩
  | qf a x s =>
    rw [show t = s from List.mem_singleton.mp ht]
    have hp : (PyData.strOk _ && (PyData.strOk _ && (plain s.d && true))) = true := hp
    rw [Bool.and_true, Bool.and_eq_true, Bool.and_eq_true] at hp
    exact ⟨hp.2.2, by simp only [Sy.d, dep, depL] at hd; omega⟩
  | gr o ps =>
    have ht : t ∈ ps.ls := ht
    have hm : t.d ∈ ps.ds := by rw [Sys.ds_ls]; exact List.mem_map_of_mem ht
    have hp : (PyData.strOk _ && plains ps.ds) = true := hp
    rw [Bool.and_eq_true] at hp
    have hd : depL (_ :: ps.ds) + 1 ≤ 40 := hd
    have := depL_mem hm
    exact ⟨plains_mem hp.2 _ hm, by simp only [depL] at hd; omega⟩
  | eq => cases ht
  | un => cases ht
  | lv => cases ht
  | us => cases ht
theorem pln_list {l : List Sy} (h : ∀ s ∈ l, s.pln) : okD (.lst (l.map Sy.d)) := by
  refine ⟨plains_of fun d hd => ?_, ?_⟩
  · obtain ⟨s, hs, rfl⟩ := List.mem_map.mp hd
    exact (h s hs).1
  · have : depL (l.map Sy.d) ≤ 40 := depL_of fun d hd => by
      obtain ⟨s, hs, rfl⟩ := List.mem_map.mp hd
      exact (h s hs).2
    show depL (l.map Sy.d) + 1 ≤ 60
    omega
end Q

set_option autoImplicit false
set_option linter.all false
/-! Rd: texts that are read from a place on -/
namespace Q
open PySem L2
open RF (sx cps_app s_assoc e_app app_e len_app emp_eq)
abbrev lz (x : Str) : List Nat := x.cps.toList
theorem lz_len (x : Str) : (lz x).length = x.length := Array.length_toList
theorem lz_wd (l : List Nat) : lz (wd l) = l := rfl
theorem wd_lz (x : Str) : wd (lz x) = x := rfl
/-- from n on stands r -/
def Dr (T : Str) (n : Nat) (r : List Nat) : Prop := (lz T).drop n = r ∧ n ≤ T.length
theorem Dr.zero (T : Str) : Dr T 0 (lz T) := ⟨rfl, Nat.zero_le _⟩
theorem Dr.len {T : Str} {n : Nat} {r : List Nat} (h : Dr T n r) : T.length = n + r.length := by
  obtain ⟨h1, h2⟩ := h
  have := congrArg List.length h1
  rw [List.length_drop, lz_len] at this
  omega
theorem Dr.on {T : Str} {n : Nat} {a r : List Nat} (h : Dr T n (a ++ r)) : Dr T (n + a.length) r := by
  have hl := h.len
  rw [List.length_append] at hl
  refine ⟨?_, by omega⟩
  rw [← List.drop_drop, h.1, List.drop_left]
theorem Dr.on1 {T : Str} {n : Nat} {c : Nat} {r : List Nat} (h : Dr T n (c :: r)) : Dr T (n + 1) r := Dr.on (a := [c]) h
theorem Dr.get {T : Str} {n : Nat} {r : List Nat} (h : Dr T n r) (i : Nat) : (lz T)[n + i]? = r[i]? := by rw [← h.1, List.getElem?_drop]
/-- x.startswith(y, n) -/
theorem Dr.starts {T : Str} {n : Nat} {r : List Nat} (h : Dr T n r) (y : Str) : Txt.startswith3 T y (n : Int) = (r.take y.length == lz y) := by
  have hl := h.len
  have e : PySem.fromIndex T.length (n : Int) = n := by unfold PySem.fromIndex; omega
  unfold Txt.startswith3
  rw [e, StrLaws.subAt_eq, show T.cps.toList.drop n = r from h.1]
  by_cases hc : n + y.length ≤ T.length
  · rw [decide_eq_true hc, Bool.true_and]
  · rw [decide_eq_false hc, Bool.false_and]
    symm
    rw [beq_eq_false_iff_ne]
    intro z
    have := congrArg List.length z
    rw [List.length_take, lz_len] at this
    omega
theorem starts0 (T y : Str) : Txt.startswith T y = ((lz T).take y.length == lz y) := by
  unfold Txt.startswith
  rw [StrLaws.subAt_eq, List.drop_zero]
  by_cases hc : 0 + y.length ≤ T.length
  · rw [decide_eq_true hc, Bool.true_and]
  · rw [decide_eq_false hc, Bool.false_and]
    symm
    rw [beq_eq_false_iff_ne]
    intro z
    have := congrArg List.length z
    rw [List.length_take, lz_len, lz_len] at this
    omega
theorem Dr.cut {T : Str} {n m : Nat} {r : List Nat} (h : Dr T n r) : L2.cutS T (some (n : Int)) (some ((n + m : Nat) : Int)) = wd (r.take m) := by
  have hl := h.len
  unfold L2.cutS
  have e1 : HT.sIx T.length 0 (some (n : Int)) = n := by rw [HT.sIx_nat]; omega
  have e2 : HT.sIx T.length T.length (some ((n + m : Nat) : Int)) = min (n + m) T.length := HT.sIx_nat ..
  rw [e1, e2, show T.cps.toList.drop n = r from h.1]
  unfold wd
  congr 2
  by_cases hc : n + m ≤ T.length
  · rw [Nat.min_eq_left hc, Nat.add_sub_cancel_left]
  · rw [Nat.min_eq_right (by omega), List.take_of_length_le (by omega), List.take_of_length_le (by omega)]
/-- T.find(',', n) -/
theorem at1 {T : Str} {c i : Nat} : StrLaws.At T (sgn c) T.length i ↔ (lz T)[i]? = some c := by
  unfold StrLaws.At
  rw [StrLaws.subAt_eq]
  show i + 1 ≤ T.length ∧ ((lz T).drop i).take 1 == [c] ↔ _
  rw [← lz_len]
  constructor
  · rintro ⟨h1, h2⟩
    rw [beq_iff_eq] at h2
    have := congrArg (·[0]?) h2
    simpa using this
  · intro h
    have h1 := (List.getElem?_eq_some_iff.mp h).1
    refine ⟨h1, ?_⟩
    rw [beq_iff_eq, List.drop_eq_getElem_cons h1]
    simp only [List.take_succ_cons, List.take_zero, List.cons.injEq, and_true]
    rw [List.getElem?_eq_getElem h1] at h
    exact Option.some.inj h
theorem Dr.find {T : Str} {n c : Nat} {a r : List Nat} (h : Dr T n (a ++ c :: r)) (ha : c ∉ a) : Txt.find3 T (sgn c) (n : Int) = ((n + a.length : Nat) : Int) := by
  have hl := h.len
  rw [List.length_append, List.length_cons] at hl
  have e : PySem.fromIndex T.length (n : Int) = n := by unfold PySem.fromIndex; omega
  have key : ∃ tl, Builtin.Str.occurrences T (sgn c) n T.length 1 = (n + a.length) :: tl := by
    rw [StrLaws.occ_eq]
    have hat : StrLaws.At T (sgn c) T.length (n + a.length) := at1.mpr (by rw [h.get, List.getElem?_append_right (Nat.le_refl _), Nat.sub_self]; rfl)
    rcases StrLaws.occ_first T (sgn c) T.length 1 (Nat.le_refl _) (List.range' n (T.length + 1 - n)) n (fun i hi => by rw [List.mem_range'] at hi; obtain ⟨_, _, rfl⟩ := hi; omega) with ⟨_, hn⟩ | ⟨pre, x, post, e2, h0, hx, hn⟩
    · exact absurd hat (hn _ (List.mem_range'.mpr ⟨a.length, by omega, by omega⟩))
    · have hx2 : x = n + pre.length := by
        have h1 : (List.range' n (T.length + 1 - n))[pre.length]? = some x := by rw [e2, List.getElem?_append_right (Nat.le_refl _), Nat.sub_self]; rfl
        have hb := (List.getElem?_eq_some_iff.mp h1).1
        rw [List.length_range'] at hb
        rw [List.getElem?_range' hb] at h1
        have := Option.some.inj h1
        omega
      have hpre : ∀ k, k < pre.length → n + k ∈ pre := by
        intro k hk
        have hb : k < T.length + 1 - n := by
          have := congrArg List.length e2
          rw [List.length_range', List.length_append] at this
          omega
        have h1 : (List.range' n (T.length + 1 - n))[k]? = some (n + k) := by rw [List.getElem?_range' hb]; simp
        rw [e2, List.getElem?_append_left hk] at h1
        exact List.mem_of_getElem? h1
      have hxa : x = n + a.length := by
        rcases Nat.lt_trichotomy pre.length a.length with hlt | heq | hgt
        · exfalso
          have := at1.mp hx
          rw [hx2, h.get, List.getElem?_append_left hlt] at this
          exact ha (List.mem_of_getElem? this)
        · omega
        · exact absurd hat (hn _ (hpre _ hgt))
      subst hxa
      generalize (forIn (List.range' n (T.length + 1 - n)) ((#[] : Array Nat), n) (StrLaws.occBody T (sgn c) T.length 1)).run.fst = arr at h0
      have h1 : arr.toList[0]? = some (n + a.length) := by simpa using h0
      cases hL : arr.toList with
      | nil => rw [hL] at h1; cases h1
      | cons b tl =>
        rw [hL] at h1
        exact ⟨tl, by rw [show b = _ from Option.some.inj h1]⟩
  obtain ⟨tl, key⟩ := key
  unfold Txt.find3
  rw [e, key]
end Q

set_option autoImplicit false
set_option linter.all false
/-! Rt: what is read: numbers, slopes, terms -/
namespace Q
open PySem L2
open RF (sx cps_app s_assoc e_app app_e len_app emp_eq)
abbrev dgt (c : Nat) : Bool := decide (48 ≤ c) && decide (c ≤ 57)
abbrev ltr (c : Nat) : Bool := decide (97 ≤ c) && decide (c ≤ 122)
/-- signs that are a whole number's -/
def Num (l : List Nat) (v : Int) : Prop := l.all dgt = true ∧ 1 ≤ l.length ∧ l.length ≤ 4 ∧ PySem.intText? (wd l) = some v
instance (l : List Nat) (v : Int) : Decidable (Num l v) := by unfold Num; infer_instance
theorem num_fin : ∀ n : Fin 1001, Num (lz (tS (n.val : Int))) (n.val : Int) := by decide +kernel
theorem num_ok {n : Int} (h : 0 ≤ n ∧ n ≤ 1000) : Num (lz (tS n)) n := by
  obtain ⟨m, rfl⟩ : ∃ m : Nat, n = m := ⟨n.toNat, by omega⟩
  exact num_fin ⟨m, by omega⟩
/-- a whole number with a sign -/
def Whl (l : List Nat) (v : Int) : Prop := if l.head? = some 45 then Num l.tail (-v) else if l.head? = some 43 then Num l.tail v else Num l v
instance (l : List Nat) (v : Int) : Decidable (Whl l v) := by unfold Whl; infer_instance
def Mul (l : List Nat) (v : Int) : Prop := if l = [] ∨ l = [43] then v = 1 else if l = [45] then v = -1 else Whl l v
instance (l : List Nat) (v : Int) : Decidable (Mul l v) := by unfold Mul; infer_instance
def sPart (s : Str) : Str × Str × Str := Txt.partition s (Str.ofString "/")
def sAbove (s : Str) : Str := Txt.stripChars (sPart s).1 (Str.ofString "()")
def sCut (s : Str) : Int := mx3 (Txt.rfind (sAbove s) (Str.ofString "+")) (Txt.rfind (sAbove s) (Str.ofString "-")) 0
/-- all that is found on the way through a slope's text -/
def SlT (i j k : Int) : Prop :=
  (44 ∉ lz (stS i j k) ∧ (stS i j k).length ≤ 100) ∧ ((sPart (stS i j k)).1.length ≤ 100 ∧ (sPart (stS i j k)).2.1.length ≤ 100 ∧ (sAbove (stS i j k)).length ≤ 100) ∧
  (((sPart (stS i j k)).2.1.length : Int) = 0 → k = 1) ∧ (((sPart (stS i j k)).2.1.length : Int) ≠ 0 → Whl (lz (sPart (stS i j k)).2.2) k) ∧
  (Txt.endswith (sAbove (stS i j k)) (Str.ofString "r") = false → j = 0 ∧ Whl (lz (sAbove (stS i j k))) i) ∧
  (Txt.endswith (sAbove (stS i j k)) (Str.ofString "r") = true → (0 < sCut (stS i j k) → Whl (lz (L2.cutS (sAbove (stS i j k)) none (some (sCut (stS i j k))))) i) ∧ (¬ 0 < sCut (stS i j k) → i = 0) ∧
    Mul (lz (L2.cutS (sAbove (stS i j k)) (some (sCut (stS i j k))) (some (-1)))) j)
instance (i j k : Int) : Decidable (SlT i j k) := by unfold SlT; infer_instance
theorem slt_fin : ∀ a : Fin 19, ∀ b : Fin 7, ∀ c : Fin 4, SlT ((a.val : Int) - 9) ((b.val : Int) - 3) ((c.val : Int) + 1) := by decide +kernel
theorem slt_ok {i j k : Int} (h : SlB i j k) : SlT i j k := by
  obtain ⟨⟨h1, h2⟩, ⟨h3, h4⟩, h5, h6⟩ := h
  have := slt_fin ⟨(i + 9).toNat, by omega⟩ ⟨(j + 3).toNat, by omega⟩ ⟨(k - 1).toNat, by omega⟩
  rw [show (((i + 9).toNat : Nat) : Int) - 9 = i by omega, show (((j + 3).toNat : Nat) : Int) - 3 = j by omega, show (((k - 1).toNat : Nat) : Int) + 1 = k by omega] at this
  exact this
/-! ### terms piece by piece -/
def catT : Tm → Str
  | .con c => if c ≠ 0 then tlP c (tS (aI c)) else Str.empty
  | .nm f x r => tlP f (itS (aI f) x) ++ catT r
  | .fl f i j k t r => tlP f (itS (aI f) (flS (stS i j k) t.tx)) ++ catT r
/-- the first piece, without its sign -/
def pieT : Tm → Str
  | .con c => tS (aI c)
  | .nm f x _ => itS (aI f) x
  | .fl f i j k t _ => itS (aI f) (flS (stS i j k) t.tx)
def fctT : Tm → Int
  | .con c => c
  | .nm f _ _ => f
  | .fl f _ _ _ _ _ => f
/-- what follows -/
def aftT : Tm → Str
  | .con _ => Str.empty
  | .nm _ _ r => catT r
  | .fl _ _ _ _ _ r => catT r
theorem catP_app : ∀ a b : List (Int × Str), catP (a ++ b) = catP a ++ catP b
  | [], b => by rw [List.nil_append]; show _ = Str.empty ++ _; rw [e_app]
  | (f, x) :: a, b => by
    show tlP f x ++ catP (a ++ b) = (tlP f x ++ catP a) ++ catP b
    rw [catP_app a b, s_assoc]
theorem catT_eq : ∀ t : Tm, catT t = catP (t.pcs ++ (if t.c ≠ 0 then [(t.c, tS (aI t.c))] else []))
  | .con c => by
    show catT (.con c) = catP ([] ++ (if c ≠ 0 then [(c, tS (aI c))] else []))
    rw [List.nil_append]
    unfold catT
    by_cases h : c ≠ 0
    · rw [if_pos h, if_pos h]
      show _ = _ ++ Str.empty
      rw [app_e]
    · rw [if_neg h, if_neg h]
      rfl
  | .nm f x r => by
    show tlP f (itS (aI f) x) ++ catT r = tlP f (itS (aI f) x) ++ catP (r.pcs ++ _)
    rw [catT_eq r]
    rfl
  | .fl f i j k t r => by
    show tlP f _ ++ catT r = tlP f _ ++ catP (r.pcs ++ _)
    rw [catT_eq r]
    rfl
theorem tx_eq (t : Tm) : t.tx = hdP (fctT t) (pieT t) ++ aftT t := by
  have key : ∀ (f : Int) (x : Str) (r : Tm) (c : Int) (ps : List (Int × Str)), c = r.c → ps = (f, x) :: r.pcs → jnP (endP c ps) = hdP f x ++ catT r := by
    intro f x r c ps ec ep
    subst ec ep
    rw [catT_eq]
    unfold endP
    by_cases h : r.c ≠ 0
    · simp only [if_pos h]
      split
      · rfl
      · rename_i hh; exact absurd h (by simpa using hh)
    · have h0 : r.c = 0 := by simpa using h
      rw [if_neg h]
      split
      · rename_i hh; simp [h0] at hh
      · rw [List.append_nil]; rfl
  cases t with
  | con c =>
    show jnP (endP c []) = hdP c (tS (aI c)) ++ Str.empty
    unfold endP
    simp [jnP, catP, hdP]
  | nm f x r => exact key f _ r _ _ rfl rfl
  | fl f i j k t r => exact key f _ r _ _ rfl rfl
end Q

set_option autoImplicit false
set_option linter.all false
/-! Ru: where a term ends, what its pieces begin with -/
namespace Q
open PySem L2
open RF (sx cps_app s_assoc e_app app_e len_app emp_eq)
theorem lz_app (a b : Str) : lz (a ++ b) = lz a ++ lz b := by unfold lz; rw [cps_app, Array.toList_append]
theorem lz_emp : lz Str.empty = [] := rfl
theorem l3p : lz (Str.ofString " + ") = [32, 43, 32] := by decide +kernel
theorem l3m : lz (Str.ofString " - ") = [32, 45, 32] := by decide +kernel
theorem l1s : lz (Str.ofString "*") = [42] := by decide +kernel
theorem l1m : lz (Str.ofString "-") = [45] := by decide +kernel
theorem lfl : lz (Str.ofString "floor(") = [102, 108, 111, 111, 114, 40] := by decide +kernel
theorem lfw : lz (Str.ofString "floor") = [102, 108, 111, 111, 114] := by decide +kernel
theorem l2c : lz (Str.ofString ", ") = [44, 32] := by decide +kernel
theorem l1o : lz (Str.ofString "(") = [40] := by decide +kernel
theorem l1c : lz (Str.ofString ")") = [41] := by decide +kernel
theorem l1k : Str.ofString "," = sgn 44 := sx (by decide +kernel)
/-- a term may end here -/
def Stop (r : List Nat) : Prop := (∀ c, r.head? = some c → dgt c = false ∧ ltr c = false ∧ c ≠ 42) ∧ r.take 3 ≠ [32, 43, 32] ∧ r.take 3 ≠ [32, 45, 32]
def markT (f : Int) : Str := if f < 0 then Str.ofString " - " else Str.ofString " + "
theorem mark_len (f : Int) : (lz (markT f)).length = 3 := by unfold markT; split <;> decide +kernel
theorem tlP_mark (f : Int) (x : Str) : tlP f x = markT f ++ x := by unfold tlP markT; split <;> rfl
theorem catT_non {t : Tm} (h : t ≠ .con 0) : catT t = markT (fctT t) ++ (pieT t ++ aftT t) := by
  cases t with
  | con c =>
    have : c ≠ 0 := fun z => h (by rw [z])
    show (if c ≠ 0 then tlP c (tS (aI c)) else Str.empty) = markT c ++ (tS (aI c) ++ Str.empty)
    rw [if_pos this, tlP_mark, app_e]
  | nm f x r =>
    show tlP f _ ++ catT r = markT f ++ (_ ++ catT r)
    rw [tlP_mark, s_assoc]
    rfl
  | fl f i j k t r =>
    show tlP f _ ++ catT r = markT f ++ (_ ++ catT r)
    rw [tlP_mark, s_assoc]
    rfl
theorem starts_mark (f : Int) (r : List Nat) : (((lz (markT f) ++ r).take (Str.ofString " + ").length == lz (Str.ofString " + ")) = decide (¬ f < 0)) ∧ (((lz (markT f) ++ r).take (Str.ofString " - ").length == lz (Str.ofString " - ")) = decide (f < 0)) := by
  have e1 : (Str.ofString " + ").length = 3 := by decide +kernel
  have e2 : (Str.ofString " - ").length = 3 := by decide +kernel
  rw [e1, e2, l3p, l3m]
  unfold markT
  by_cases h : f < 0
  · rw [if_pos h, l3m]; simp [h]
  · rw [if_neg h, l3p]; simp [h]
theorem stop_mark (f : Int) (r : List Nat) : ∀ c, (lz (markT f) ++ r).head? = some c → dgt c = false ∧ ltr c = false ∧ c ≠ 42 := by
  intro c hc
  unfold markT at hc
  split at hc
  · rw [l3m] at hc; cases hc; decide
  · rw [l3p] at hc; cases hc; decide
theorem starts_stop {r : List Nat} (h : Stop r) : ((r.take (Str.ofString " + ").length == lz (Str.ofString " + ")) = false) ∧ ((r.take (Str.ofString " - ").length == lz (Str.ofString " - ")) = false) := by
  have e1 : (Str.ofString " + ").length = 3 := by decide +kernel
  have e2 : (Str.ofString " - ").length = 3 := by decide +kernel
  rw [e1, e2, l3p, l3m, beq_eq_false_iff_ne, beq_eq_false_iff_ne]
  exact h.2
/-- what follows a piece begins with no sign of a piece -/
theorem aft_stop (t : Tm) {r : List Nat} (h : Stop r) : ∀ c, (lz (catT t) ++ r).head? = some c → dgt c = false ∧ ltr c = false ∧ c ≠ 42 := by
  by_cases e : t = .con 0
  · subst e
    exact h.1
  · rw [catT_non e, lz_app, List.append_assoc]
    exact stop_mark _ _
/-- terms that can be read -/
def RdT : Nat → Tm → Prop
  | _, .con c => -1000 ≤ c ∧ c ≤ 1000
  | m, .nm f x r => (f ≠ 0 ∧ -9 ≤ f ∧ f ≤ 9) ∧ (lowS x ∧ 0 < x.length ∧ x.length ≤ 8 ∧ x ≠ Str.ofString "floor") ∧ RdT m r
  | m, .fl f i j k t r => (f ≠ 0 ∧ -9 ≤ f ∧ f ≤ 9) ∧ SlB i j k ∧ 0 < m ∧ (RdT (m - 1) t ∧ t.cnt ≤ 4) ∧ RdT m r
theorem GenT.rd {ns : List Str} (hn : NsB ns) (hf : ∀ x ∈ ns, x ≠ Str.ofString "floor") : ∀ {m : Nat} {t : Tm}, GenT ns m t → RdT m t
  | _, .con c, h => h
  | m, .nm f x r, h => ⟨h.1, ⟨(hn.2 x h.2.1).1, (hn.2 x h.2.1).2.1, (hn.2 x h.2.1).2.2, hf x h.2.1⟩, GenT.rd hn hf (t := r) h.2.2⟩
  | m, .fl f i j k t r, h => by
    obtain ⟨h1, h2, h3, h4, h5⟩ := h
    exact ⟨h1, h2, h3, ⟨GenT.rd hn hf (t := t) h4.1, h4.2⟩, GenT.rd hn hf (t := r) h5⟩
def sgI (f : Int) : Int := if f < 0 then -1 else 1
theorem sg_aI (f : Int) : sgI f * aI f = f := by unfold sgI aI; split <;> omega
/-- the thing of a first piece -/
def thgT : Tm → D
  | .con _ => .non
  | .nm _ x _ => .str x
  | .fl _ i j k t _ => .tup [.str "floor", .tup [.int i, .int j, .int k], t.d]
def nxtT : Tm → Tm
  | .con c => .con 0
  | .nm _ _ r => r
  | .fl _ _ _ _ _ r => r
theorem aft_nxt (t : Tm) : aftT t = catT (nxtT t) := by cases t <;> rfl
theorem its_nxt {t : Tm} (h : thgT t ≠ .non) : t.its = .tup [.int (fctT t), thgT t] :: (nxtT t).its ∧ t.c = (nxtT t).c ∧ t.cnt = (nxtT t).cnt + 1 := by
  cases t with
  | con c => exact absurd rfl h
  | nm f x r => exact ⟨rfl, rfl, rfl⟩
  | fl f i j k t r => exact ⟨rfl, rfl, rfl⟩
theorem rd_nxt {m : Nat} {t : Tm} (h : RdT m t) : RdT m (nxtT t) := by
  cases t with
  | con c => exact ⟨by decide, by decide⟩
  | nm f x r => exact h.2.2
  | fl f i j k t r => exact h.2.2.2.2
theorem low_ltr {x : Str} (h : lowS x) : (lz x).all ltr = true := by
  rw [List.all_eq_true]
  intro c hc
  have := h c hc
  simp [ltr, this.1, this.2]
end Q

set_option autoImplicit false
set_option linter.all false
/-! Vr: names of variables, terms of these -/
namespace Q
open PySem L2
def NOV : List D := [.str "all", .str "and", .str "not", .str "or", .str "r"]
def VrB (x : Str) : Prop := lowS x ∧ 1 ≤ x.length ∧ x.length ≤ 3 ∧ inD (.str x) NOV = false
def VrT : Nat → Tm → Prop
  | _, .con c => -1000 ≤ c ∧ c ≤ 1000
  | m, .nm f x r => (f ≠ 0 ∧ -9 ≤ f ∧ f ≤ 9) ∧ VrB x ∧ VrT m r
  | m, .fl f i j k t r => (f ≠ 0 ∧ -9 ≤ f ∧ f ≤ 9) ∧ SlB i j k ∧ 0 < m ∧ (VrT (m - 1) t ∧ t.cnt ≤ 4) ∧ VrT m r
theorem VrB.rd {x : Str} (h : VrB x) : lowS x ∧ 0 < x.length ∧ x.length ≤ 8 ∧ x ≠ Str.ofString "floor" := by
  obtain ⟨h1, h2, h3, _⟩ := h
  refine ⟨h1, h2, by omega, fun z => ?_⟩
  have : x.length = 5 := by rw [z]; decide +kernel
  omega
theorem VrT.rd : ∀ {m : Nat} {t : Tm}, VrT m t → RdT m t
  | _, .con c, h => h
  | m, .nm f x r, h => ⟨h.1, h.2.1.rd, VrT.rd (t := r) h.2.2⟩
  | m, .fl f i j k t r, h => by
    obtain ⟨h1, h2, h3, h4, h5⟩ := h
    exact ⟨h1, h2, h3, ⟨VrT.rd (t := t) h4.1, h4.2⟩, VrT.rd (t := r) h5⟩
theorem GenT.vr {ns : List Str} (hn : ∀ x ∈ ns, VrB x) : ∀ {m : Nat} {t : Tm}, GenT ns m t → VrT m t
  | _, .con c, h => h
  | m, .nm f x r, h => ⟨h.1, hn x h.2.1, GenT.vr hn (t := r) h.2.2⟩
  | m, .fl f i j k t r, h => by
    obtain ⟨h1, h2, h3, h4, h5⟩ := h
    exact ⟨h1, h2, h3, ⟨GenT.vr hn (t := t) h4.1, h4.2⟩, GenT.vr hn (t := r) h5⟩
theorem VrT.c {m : Nat} : ∀ {t : Tm}, VrT m t → -1000 ≤ t.c ∧ t.c ≤ 1000
  | .con c, h => h
  | .nm f x r, h => VrT.c (t := r) h.2.2
  | .fl f i j k t r, h => VrT.c (t := r) h.2.2.2.2
/-- an item of such a term -/
def VrI (m : Nat) (d : D) : Prop := (∃ f x, d = .tup [.int f, .str x] ∧ (f ≠ 0 ∧ -9 ≤ f ∧ f ≤ 9) ∧ VrB x) ∨ ∃ f i j k, ∃ t : Tm, d = .tup [.int f, .tup [.str "floor", .tup [.int i, .int j, .int k], t.d]] ∧ (f ≠ 0 ∧ -9 ≤ f ∧ f ≤ 9) ∧ SlB i j k ∧ 0 < m ∧ VrT (m - 1) t ∧ t.cnt ≤ 4
theorem VrT.its {m : Nat} : ∀ {t : Tm}, VrT m t → ∀ d ∈ t.its, VrI m d
  | .con c, h, d, hd => by cases hd
  | .nm f x r, h, d, hd => by
    rcases List.mem_cons.mp hd with rfl | hd
    · exact .inl ⟨f, x, rfl, h.1, h.2.1⟩
    · exact VrT.its (t := r) h.2.2 d hd
  | .fl f i j k t r, h, d, hd => by
    rcases List.mem_cons.mp hd with rfl | hd
    · exact .inr ⟨f, i, j, k, t, rfl, h.1, h.2.1, h.2.2.1, h.2.2.2.1.1, h.2.2.2.1.2⟩
    · exact VrT.its (t := r) h.2.2.2.2 d hd
end Q

set_option autoImplicit false
set_option linter.all false
/-! Vs: light sayings, whose terms are sums of variables -/
namespace Q
open PySem L2
structure Lt where
  its : List (Int × Str)
  c : Int
def itD (p : Int × Str) : D := .tup [.int p.1, .str p.2]
def Lt.d (t : Lt) : D := .tup [.tup (t.its.map itD), .int t.c]
def Lt.ok (t : Lt) : Prop := t.its.length ≤ 4 ∧ (∀ p ∈ t.its, (p.1 ≠ 0 ∧ -9 ≤ p.1 ∧ p.1 ≤ 9) ∧ VrB p.2) ∧ -1000 ≤ t.c ∧ t.c ≤ 1000
def Lt.ns (t : Lt) : List Str := t.its.map (·.2)
inductive Sg where
  | cm (l : Bool) (a b : Lt)
  | lv (a : Lt) (m r : Int)
  | no (s : Sg)
  | an (o : Bool) (a b : Sg)
  | a3 (a b c : Sg)
  | qu (f : Bool) (x : Str) (s : Sg)
  | bad (s : Sg)
def Sg.d : Sg → D
  | .cm true a b => .tup [.str "less", a.d, b.d]
  | .cm false a b => .tup [.str "equal", a.d, b.d]
  | .lv a m r => .tup [.str "leaves", a.d, .int m, .int r]
  | .no s => .tup [.str "not", s.d]
  | .an true a b => .tup [.str "and", a.d, b.d]
  | .an false a b => .tup [.str "or", a.d, b.d]
  | .a3 a b c => .tup [.str "and", a.d, b.d, c.d]
  | .qu true x s => .tup [.str "some", .str x, s.d]
  | .qu false x s => .tup [.str "all", .str x, s.d]
  | .bad s => .tup [.str "less", s.d]
def Sg.inn : Sg → List Sg
  | .no s => [s]
  | .an _ a b => [a, b]
  | .a3 a b c => [a, b, c]
  | .qu _ _ s => [s]
  | _ => []
/-- its parts in order -/
def Sg.pre : Sg → List Sg
  | .cm l a b => [.cm l a b]
  | .lv a m r => [.lv a m r]
  | .bad s => [.bad s]
  | .no s => .no s :: s.pre
  | .an o a b => .an o a b :: (a.pre ++ b.pre)
  | .a3 a b c => .a3 a b c :: (a.pre ++ (b.pre ++ c.pre))
  | .qu f x s => .qu f x s :: s.pre
theorem pre_eq (s : Sg) : s.pre = s :: s.inn.flatMap Sg.pre := by
  cases s <;> simp [Sg.pre, Sg.inn]
def Sg.isBad : Sg → Bool
  | .bad _ => true
  | _ => false
/-- its own form, its inner parts aside -/
def Sg.okh : Sg → Prop
  | .cm _ a b => a.ok ∧ b.ok
  | .lv a m r => a.ok ∧ (2 ≤ m ∧ m ≤ 9) ∧ 0 ≤ r ∧ r < m
  | .qu _ x _ => VrB x
  | _ => True
def Sg.ok (s : Sg) : Prop := ∀ x ∈ s.pre, x.okh
def Sg.good (s : Sg) : Prop := ∀ x ∈ s.pre, x.isBad = false
def optD : Option Nat → D
  | none => .non
  | some n => .int n
/-- the first part of a wrong form, counted from n on -/
def mis : List Sg → Nat → Option Nat
  | [], _ => none
  | x :: r, n => if x.isBad = true then some n else mis r (n + 1)
theorem mis_good : ∀ {l : List Sg} {n : Nat}, (∀ x ∈ l, x.isBad = false) → mis l n = none
  | [], _, _ => rfl
  | x :: r, n, h => by
    unfold mis
    rw [h x List.mem_cons_self]
    exact mis_good fun y hy => h y (List.mem_cons_of_mem _ hy)
/-! ### variables that are free -/
def Sg.tms : Sg → List Lt
  | .cm _ a b => [a, b]
  | .lv a _ _ => [a]
  | _ => []
def dropS (x : Str) (l : List Str) : List Str := l.filter fun y => decide (y ≠ x)
def Sg.fr : Sg → List Str
  | .cm _ a b => sos (sos a.ns ++ sos b.ns)
  | .lv a _ _ => sos (sos a.ns)
  | .no s => sos s.fr
  | .an _ a b => sos (a.fr ++ b.fr)
  | .a3 a b c => sos (a.fr ++ (b.fr ++ c.fr))
  | .qu _ x s => sos (dropS x s.fr)
  | .bad _ => []
theorem asc_fr (s : Sg) : Asc s.fr := by
  cases s <;> first | exact asc_sos _ | exact List.Pairwise.nil
theorem len_pre (s : Sg) : 0 < s.pre.length := by rw [pre_eq]; exact Nat.succ_pos _
theorem okh_of {s x : Sg} (h : s.ok) (m : x ∈ s.pre) : x.okh := h x m
theorem ok_head {s : Sg} (h : s.ok) : s.okh := h s (by rw [pre_eq]; exact List.mem_cons_self)
theorem len_ns {t : Lt} (h : t.ok) : t.ns.length ≤ 4 := by unfold Lt.ns; rw [List.length_map]; exact h.1
theorem len_drop (x : Str) (l : List Str) : (dropS x l).length ≤ l.length := List.length_filter_le _ _
theorem mem_inn {s x y : Sg} (h : x ∈ s.inn) (m : y ∈ x.pre) : y ∈ s.pre := by
  rw [pre_eq]
  exact List.mem_cons_of_mem _ (List.mem_flatMap.mpr ⟨x, h, m⟩)
theorem ok_inn {s x : Sg} (h : s.ok) (m : x ∈ s.inn) : x.ok := fun y hy => h y (mem_inn m hy)
theorem good_inn {s x : Sg} (h : s.good) (m : x ∈ s.inn) : x.good := fun y hy => h y (mem_inn m hy)
theorem len_fm_mem {l : List Sg} {x : Sg} (h : x ∈ l) : x.pre.length ≤ (l.flatMap Sg.pre).length := by
  induction l with
  | nil => cases h
  | cons y r ih =>
    rw [List.flatMap_cons, List.length_append]
    rcases List.mem_cons.mp h with rfl | h
    · omega
    · have := ih h; omega
theorem len_inn {s x : Sg} (m : x ∈ s.inn) : x.pre.length < s.pre.length := by
  rw [pre_eq s, List.length_cons]
  have := len_fm_mem m
  omega
/-- how many names stand in it -/
def Sg.cn : Sg → Nat
  | .cm _ a b => a.ns.length + b.ns.length
  | .lv a _ _ => a.ns.length
  | .no s => s.cn
  | .an _ a b => a.cn + b.cn
  | .a3 a b c => a.cn + (b.cn + c.cn)
  | .qu _ _ s => s.cn
  | .bad _ => 0
theorem len_fr : ∀ s : Sg, s.fr.length ≤ s.cn
  | .cm l a b => by
    have := len_sos (sos a.ns ++ sos b.ns)
    have h2 := len_sos a.ns
    have h3 := len_sos b.ns
    rw [List.length_append] at this
    show (sos (sos a.ns ++ sos b.ns)).length ≤ a.ns.length + b.ns.length
    omega
  | .lv a m r => Nat.le_trans (len_sos _) (len_sos _)
  | .no s => Nat.le_trans (len_sos _) (len_fr s)
  | .an o a b => by
    have := len_sos (a.fr ++ b.fr)
    have i1 := len_fr a
    have i2 := len_fr b
    rw [List.length_append] at this
    show (sos (a.fr ++ b.fr)).length ≤ a.cn + b.cn
    omega
  | .a3 a b c => by
    have := len_sos (a.fr ++ (b.fr ++ c.fr))
    have i1 := len_fr a
    have i2 := len_fr b
    have i3 := len_fr c
    rw [List.length_append, List.length_append] at this
    show (sos (a.fr ++ (b.fr ++ c.fr))).length ≤ a.cn + (b.cn + c.cn)
    omega
  | .qu f x s => Nat.le_trans (len_sos _) (Nat.le_trans (len_drop x _) (len_fr s))
  | .bad s => Nat.zero_le _
theorem cn_inn {s x : Sg} (h : x ∈ s.inn) : x.cn ≤ s.cn := by
  cases s <;> simp only [Sg.inn, List.mem_cons, List.not_mem_nil, or_false] at h
  · rw [h]; exact Nat.le_refl _
  · rcases h with rfl | rfl
    · exact Nat.le_add_right _ _
    · exact Nat.le_add_left _ _
  · rcases h with rfl | rfl | rfl
    · exact Nat.le_add_right _ _
    · exact Nat.le_trans (Nat.le_add_right _ _) (Nat.le_add_left _ _)
    · exact Nat.le_trans (Nat.le_add_left _ _) (Nat.le_add_left _ _)
  · rw [h]; exact Nat.le_refl _
theorem len_fms : ∀ (l : List Sg), (l.flatMap Sg.fr).length ≤ (l.map Sg.cn).sum
  | [] => Nat.le_refl _
  | x :: r => by
    rw [List.flatMap_cons, List.length_append, List.map_cons, List.sum_cons]
    have := len_fms r
    have := len_fr x
    omega
theorem cn_sum (s : Sg) : (s.inn.map Sg.cn).sum ≤ s.cn := by
  cases s <;> simp [Sg.inn, Sg.cn]
theorem len_raw {s : Sg} : (s.tms.flatMap Lt.ns ++ s.inn.flatMap Sg.fr).length ≤ s.cn := by
  have h := len_fms s.inn
  cases s with
  | cm l a b => simp [Sg.tms, Sg.inn, Sg.cn]
  | lv a m r => simp [Sg.tms, Sg.inn, Sg.cn]
  | bad a => simp [Sg.tms, Sg.inn, Sg.cn]
  | no a => simpa [Sg.tms, Sg.inn, Sg.cn] using len_fr a
  | an o a b =>
    have i1 := len_fr a
    have i2 := len_fr b
    simp [Sg.tms, Sg.inn, Sg.cn]
    omega
  | a3 a b c =>
    have i1 := len_fr a
    have i2 := len_fr b
    have i3 := len_fr c
    simp [Sg.tms, Sg.inn, Sg.cn]
    omega
  | qu f x a => simpa [Sg.tms, Sg.inn, Sg.cn] using len_fr a
/-- the order of the making does not matter -/
theorem sos_same {l m : List Str} (h : ∀ z, z ∈ l ↔ z ∈ m) : sos l = sos m := asc_eq (asc_sos _) (asc_sos _) fun z => by rw [mem_sos, mem_sos]; exact h z
theorem asc_drop {x : Str} {l : List Str} (h : Asc l) : Asc (dropS x l) := List.Pairwise.filter _ h
/-- .. as the names of its own terms and of its inner parts -/
def Sg.raw (s : Sg) : List Str := s.tms.flatMap Lt.ns ++ s.inn.flatMap Sg.fr
theorem fr_raw {s : Sg} (h : s.isBad = false) (hq : ∀ f x a, s ≠ .qu f x a) : sos s.raw = s.fr := by
  cases s with
  | cm l a b => exact sos_same fun z => by simp [Sg.raw, Sg.tms, Sg.inn, mem_sos]
  | lv a m r => exact sos_same fun z => by simp [Sg.raw, Sg.tms, Sg.inn, mem_sos]
  | no s => exact sos_same fun z => by simp [Sg.raw, Sg.tms, Sg.inn]
  | an o a b => exact sos_same fun z => by simp [Sg.raw, Sg.tms, Sg.inn]
  | a3 a b c => exact sos_same fun z => by simp [Sg.raw, Sg.tms, Sg.inn]
  | qu f x s => exact absurd rfl (hq f x s)
  | bad s => cases h
theorem fr_qu (f : Bool) (x : Str) (s : Sg) : (Sg.qu f x s).fr = dropS x s.fr := sos_asc (asc_drop (asc_fr s))
/-- the names before its own terms are looked at -/
def Sg.nm1 : Sg → List Str
  | .qu _ x s => dropS x s.fr
  | s => s.inn.flatMap Sg.fr
theorem fr_nm {s : Sg} (h : s.isBad = false) : sos (s.nm1 ++ s.tms.flatMap fun t => sos t.ns) = s.fr := by
  cases s with
  | cm l a b => exact sos_same fun z => by simp [Sg.nm1, Sg.tms, Sg.inn, mem_sos]
  | lv a m r => exact sos_same fun z => by simp [Sg.nm1, Sg.tms, Sg.inn, mem_sos]
  | no s => exact sos_same fun z => by simp [Sg.nm1, Sg.tms, Sg.inn]
  | an o a b => exact sos_same fun z => by simp [Sg.nm1, Sg.tms, Sg.inn]
  | a3 a b c => exact sos_same fun z => by simp [Sg.nm1, Sg.tms, Sg.inn]
  | qu f x s => exact sos_same fun z => by simp [Sg.nm1, Sg.tms]
  | bad s => cases h
theorem nm_len (s : Sg) : (s.nm1 ++ s.tms.flatMap fun t => sos t.ns).length ≤ s.cn := by
  have h := len_raw (s := s)
  rw [List.length_append] at h ⊢
  cases s with
  | cm l a b =>
    have h2 := len_sos a.ns
    have h3 := len_sos b.ns
    simp [Sg.nm1, Sg.tms, Sg.inn, Sg.cn]
    omega
  | lv a m r => simpa [Sg.nm1, Sg.tms, Sg.inn, Sg.cn] using len_sos a.ns
  | no s => simpa [Sg.nm1, Sg.tms, Sg.inn] using h
  | an o a b => simpa [Sg.nm1, Sg.tms, Sg.inn] using h
  | a3 a b c => simpa [Sg.nm1, Sg.tms, Sg.inn] using h
  | qu f x s =>
    have := len_drop x s.fr
    have := len_fr s
    simp [Sg.nm1, Sg.tms, Sg.cn]
    omega
  | bad s => simp [Sg.nm1, Sg.tms, Sg.inn]
/-! ### what is bound -/
/-- what stands around its inner parts -/
def Sg.arn (s : Sg) (ar : List Str) : List Str := match s with
  | .qu _ x _ => ar ++ [x]
  | _ => ar
/-- the parts in order, each with what stands around it -/
def Sg.sc : Sg → List Str → List (Sg × List Str)
  | .cm l a b, ar => [(.cm l a b, ar)]
  | .lv a m r, ar => [(.lv a m r, ar)]
  | .bad s, ar => [(.bad s, ar)]
  | .no s, ar => (.no s, ar) :: s.sc ar
  | .an o a b, ar => (.an o a b, ar) :: (a.sc ar ++ b.sc ar)
  | .a3 a b c, ar => (.a3 a b c, ar) :: (a.sc ar ++ (b.sc ar ++ c.sc ar))
  | .qu f x s, ar => (.qu f x s, ar) :: s.sc (ar ++ [x])
theorem sc_eq (s : Sg) (ar : List Str) : s.sc ar = (s, ar) :: s.inn.flatMap fun x => x.sc (s.arn ar) := by
  cases s <;> simp [Sg.sc, Sg.inn, Sg.arn]
theorem sc_pre : ∀ (s : Sg) (ar : List Str), (s.sc ar).map (·.1) = s.pre
  | .cm l a b, ar => rfl
  | .lv a m r, ar => rfl
  | .bad s, ar => rfl
  | .no s, ar => by simp [Sg.sc, Sg.pre, sc_pre s]
  | .an o a b, ar => by simp [Sg.sc, Sg.pre, sc_pre a, sc_pre b]
  | .a3 a b c, ar => by simp [Sg.sc, Sg.pre, sc_pre a, sc_pre b, sc_pre c]
  | .qu f x s, ar => by simp [Sg.sc, Sg.pre, sc_pre s]
def Sg.bnd : Sg → List Str → Bool
  | .qu _ x _, ar => decide (x ∈ ar)
  | _, _ => false
/-- the first part that binds again, or stands too deep, counted from n on -/
def mib : List (Sg × List Str) → Nat → Option Nat
  | [], _ => none
  | p :: r, n => if 3 < p.2.length ∨ p.1.bnd p.2 = true then some n else mib r (n + 1)
def Sg.due (s : Sg) : Option Nat := mib (s.sc s.fr) 0
/-- .. of a saying -/
def Sg.wrong (s : Sg) : Option Nat := (mis s.pre 0).or (mib (s.sc s.fr) 0)
theorem wrong_good {s : Sg} (h : s.good) : s.wrong = s.due := by
  unfold Sg.wrong
  rw [mis_good h]
  rfl
theorem mis_lt : ∀ {l : List Sg} {n : Nat} {i : Nat}, mis l n = some i → i < n + l.length
  | [], n, i, h => by cases h
  | x :: r, n, i, h => by
    unfold mis at h
    split at h
    · cases h; simp
    · have := mis_lt h; simp only [List.length_cons]; omega
theorem mib_lt : ∀ {l : List (Sg × List Str)} {n : Nat} {i : Nat}, mib l n = some i → i < n + l.length
  | [], n, i, h => by cases h
  | x :: r, n, i, h => by
    unfold mib at h
    split at h
    · cases h; simp
    · have := mib_lt h; simp only [List.length_cons]; omega
theorem ns_vr {t : Lt} (h : t.ok) {z : Str} (hz : z ∈ t.ns) : VrB z := by
  obtain ⟨p, hp, rfl⟩ := List.mem_map.mp hz
  exact (h.2.1 p hp).2
theorem fr_vr : ∀ {s : Sg}, s.ok → ∀ z ∈ s.fr, VrB z
  | .cm l a b, h, z, hz => by
    have h1 := ok_head h
    have hz : z ∈ sos (sos a.ns ++ sos b.ns) := hz
    rw [mem_sos, List.mem_append, mem_sos, mem_sos] at hz
    exact hz.elim (ns_vr h1.1) (ns_vr h1.2)
  | .lv a m r, h, z, hz => by
    have h1 := ok_head h
    have hz : z ∈ sos (sos a.ns) := hz
    rw [mem_sos, mem_sos] at hz
    exact ns_vr h1.1 hz
  | .no s, h, z, hz => by
    have hz : z ∈ sos s.fr := hz
    rw [mem_sos] at hz
    exact fr_vr (ok_inn (s := .no s) (x := s) h (by simp [Sg.inn])) z hz
  | .an o a b, h, z, hz => by
    have hz : z ∈ sos (a.fr ++ b.fr) := hz
    rw [mem_sos, List.mem_append] at hz
    rcases hz with hz | hz
    · exact fr_vr (ok_inn (s := .an o a b) (x := a) h (by simp [Sg.inn])) z hz
    · exact fr_vr (ok_inn (s := .an o a b) (x := b) h (by simp [Sg.inn])) z hz
  | .a3 a b c, h, z, hz => by
    have hz : z ∈ sos (a.fr ++ (b.fr ++ c.fr)) := hz
    rw [mem_sos, List.mem_append, List.mem_append] at hz
    rcases hz with hz | hz | hz
    · exact fr_vr (ok_inn (s := .a3 a b c) (x := a) h (by simp [Sg.inn])) z hz
    · exact fr_vr (ok_inn (s := .a3 a b c) (x := b) h (by simp [Sg.inn])) z hz
    · exact fr_vr (ok_inn (s := .a3 a b c) (x := c) h (by simp [Sg.inn])) z hz
  | .qu f x s, h, z, hz => by
    have hz : z ∈ sos (dropS x s.fr) := hz
    rw [mem_sos] at hz
    exact fr_vr (ok_inn (s := .qu f x s) (x := s) h (by simp [Sg.inn])) z (List.mem_filter.mp hz).1
  | .bad s, h, z, hz => by cases hz
theorem sc_vr : ∀ (s : Sg) {ar : List Str}, s.ok → (∀ z ∈ ar, VrB z) → ∀ p ∈ s.sc ar, ∀ z ∈ p.2, VrB z
  | .cm l a b, ar, h, ha, p, hp, z, hz => by
    rw [List.mem_singleton.mp (show p ∈ [_] from hp)] at hz
    exact ha z hz
  | .lv a m r, ar, h, ha, p, hp, z, hz => by
    rw [List.mem_singleton.mp (show p ∈ [_] from hp)] at hz
    exact ha z hz
  | .bad s, ar, h, ha, p, hp, z, hz => by
    rw [List.mem_singleton.mp (show p ∈ [_] from hp)] at hz
    exact ha z hz
  | .no s, ar, h, ha, p, hp, z, hz => by
    rcases List.mem_cons.mp (show p ∈ _ :: s.sc ar from hp) with rfl | hp
    · exact ha z hz
    · exact sc_vr s (ok_inn (s := .no s) (x := s) h (by simp [Sg.inn])) ha p hp z hz
  | .an o a b, ar, h, ha, p, hp, z, hz => by
    rcases List.mem_cons.mp (show p ∈ _ :: (a.sc ar ++ b.sc ar) from hp) with rfl | hp
    · exact ha z hz
    · rcases List.mem_append.mp hp with hp | hp
      · exact sc_vr a (ok_inn (s := .an o a b) (x := a) h (by simp [Sg.inn])) ha p hp z hz
      · exact sc_vr b (ok_inn (s := .an o a b) (x := b) h (by simp [Sg.inn])) ha p hp z hz
  | .a3 a b c, ar, h, ha, p, hp, z, hz => by
    rcases List.mem_cons.mp (show p ∈ _ :: (a.sc ar ++ (b.sc ar ++ c.sc ar)) from hp) with rfl | hp
    · exact ha z hz
    · rcases List.mem_append.mp hp with hp | hp
      · exact sc_vr a (ok_inn (s := .a3 a b c) (x := a) h (by simp [Sg.inn])) ha p hp z hz
      · rcases List.mem_append.mp hp with hp | hp
        · exact sc_vr b (ok_inn (s := .a3 a b c) (x := b) h (by simp [Sg.inn])) ha p hp z hz
        · exact sc_vr c (ok_inn (s := .a3 a b c) (x := c) h (by simp [Sg.inn])) ha p hp z hz
  | .qu f x s, ar, h, ha, p, hp, z, hz => by
    rcases List.mem_cons.mp (show p ∈ _ :: s.sc (ar ++ [x]) from hp) with rfl | hp
    · exact ha z hz
    · refine sc_vr s (ok_inn (s := .qu f x s) (x := s) h (by simp [Sg.inn])) (fun y hy => ?_) p hp z hz
      rcases List.mem_append.mp hy with hy | hy
      · exact ha y hy
      · rw [List.mem_singleton.mp hy]
        exact ok_head h
theorem inD_mem (y : Str) : ∀ l : List Str, inD (.str y) (l.map .str) = decide (y ∈ l)
  | [] => by simp [inD]
  | z :: r => by
    rw [List.map_cons]
    show (eqD (.str z) (.str y) || inD (.str y) (r.map .str)) = _
    rw [inD_mem y r, eqD_str, ← Bool.decide_or]
    refine decide_eq_decide.mpr ?_
    rw [List.mem_cons]
    exact ⟨fun q => q.elim (fun e => .inl e.symm) .inr, fun q => q.elim (fun e => .inl e.symm) .inr⟩
theorem okD_strs : ∀ {l : List Str}, (∀ z ∈ l, VrB z) → okD (.lst (l.map .str)) := fun {l} h => by
  have key : ∀ l : List Str, (∀ z ∈ l, VrB z) → plains (l.map .str) = true ∧ depL (l.map D.str) = 0 := by
    intro l
    induction l with
    | nil => intro _; exact ⟨rfl, rfl⟩
    | cons z r ih =>
      intro h
      obtain ⟨h1, h2⟩ := ih fun y hy => h y (List.mem_cons_of_mem _ hy)
      have h3 : PyData.strOk z = true := low_ok (h z List.mem_cons_self).1
      exact ⟨by show (PyData.strOk z && plains (r.map .str)) = true; rw [h1, h3]; rfl, by show max 0 (depL (r.map D.str)) = 0; omega⟩
  obtain ⟨h1, h2⟩ := key l h
  exact ⟨h1, by show depL (l.map D.str) + 1 ≤ 60; omega⟩
theorem okD_str {x : Str} (h : VrB x) : okD (.str x) := ⟨low_ok h.1, Nat.zero_le _⟩
/-! ### plain data -/
theorem okD_its : ∀ {l : List (Int × Str)}, (∀ p ∈ l, VrB p.2) → plains (l.map itD) = true ∧ depL (l.map itD) ≤ 1
  | [], _ => ⟨rfl, Nat.zero_le _⟩
  | p :: r, h => by
    obtain ⟨h1, h2⟩ := okD_its (l := r) fun q hq => h q (List.mem_cons_of_mem _ hq)
    have h3 : PyData.strOk p.2 = true := low_ok (h p List.mem_cons_self).1
    refine ⟨?_, ?_⟩
    · show ((true && (PyData.strOk p.2 && true)) && plains (r.map itD)) = true
      rw [h1, h3]
      rfl
    · show max 1 (depL (r.map itD)) ≤ 1
      omega
theorem okD_lt {t : Lt} (h : t.ok) : plain t.d = true ∧ dep t.d ≤ 3 := by
  obtain ⟨h1, h2⟩ := okD_its (l := t.its) fun p hp => (h.2.1 p hp).2
  refine ⟨?_, ?_⟩
  · show (plains (t.its.map itD) && (true && true)) = true
    rw [h1]
    rfl
  · show max (depL (t.its.map itD) + 1) (max 0 0) + 1 ≤ 3
    omega
theorem okD_sg : ∀ {s : Sg}, s.ok → s.good → plain s.d = true ∧ dep s.d ≤ s.pre.length + 4
  | .cm l a b, h, g => by
    have h1 := ok_head h
    obtain ⟨p1, q1⟩ := okD_lt h1.1
    obtain ⟨p2, q2⟩ := okD_lt h1.2
    have e1 : PyData.strOk ("less" : Str) = true := by decide +kernel
    have e2 : PyData.strOk ("equal" : Str) = true := by decide +kernel
    cases l with
    | true => exact ⟨by show (PyData.strOk ("less" : Str) && (plain a.d && (plain b.d && true))) = true; rw [e1, p1, p2]; rfl, by show max 0 (max (dep a.d) (max (dep b.d) 0)) + 1 ≤ 1 + 4; omega⟩
    | false => exact ⟨by show (PyData.strOk ("equal" : Str) && (plain a.d && (plain b.d && true))) = true; rw [e2, p1, p2]; rfl, by show max 0 (max (dep a.d) (max (dep b.d) 0)) + 1 ≤ 1 + 4; omega⟩
  | .lv a m r, h, g => by
    have h1 := ok_head h
    obtain ⟨p1, q1⟩ := okD_lt h1.1
    have e1 : PyData.strOk ("leaves" : Str) = true := by decide +kernel
    exact ⟨by show (PyData.strOk ("leaves" : Str) && (plain a.d && (true && (true && true)))) = true; rw [e1, p1]; rfl, by show max 0 (max (dep a.d) (max 0 (max 0 0))) + 1 ≤ 1 + 4; omega⟩
  | .no s, h, g => by
    obtain ⟨p1, q1⟩ := okD_sg (ok_inn (s := .no s) (x := s) h (by simp [Sg.inn])) (good_inn (s := .no s) g (by simp [Sg.inn]))
    have e1 : PyData.strOk ("not" : Str) = true := by decide +kernel
    exact ⟨by show (PyData.strOk ("not" : Str) && (plain s.d && true)) = true; rw [e1, p1]; rfl, by show max 0 (max (dep s.d) 0) + 1 ≤ s.pre.length + 1 + 4; omega⟩
  | .an o a b, h, g => by
    obtain ⟨p1, q1⟩ := okD_sg (ok_inn (s := .an o a b) (x := a) h (by simp [Sg.inn])) (good_inn (s := .an o a b) g (by simp [Sg.inn]))
    obtain ⟨p2, q2⟩ := okD_sg (ok_inn (s := .an o a b) (x := b) h (by simp [Sg.inn])) (good_inn (s := .an o a b) g (by simp [Sg.inn]))
    have e1 : PyData.strOk ("and" : Str) = true := by decide +kernel
    have e2 : PyData.strOk ("or" : Str) = true := by decide +kernel
    have hl : (Sg.an o a b).pre.length = a.pre.length + b.pre.length + 1 := by show (a.pre ++ b.pre).length + 1 = _; rw [List.length_append]
    rw [hl]
    cases o with
    | true => exact ⟨by show (PyData.strOk ("and" : Str) && (plain a.d && (plain b.d && true))) = true; rw [e1, p1, p2]; rfl, by show max 0 (max (dep a.d) (max (dep b.d) 0)) + 1 ≤ _; omega⟩
    | false => exact ⟨by show (PyData.strOk ("or" : Str) && (plain a.d && (plain b.d && true))) = true; rw [e2, p1, p2]; rfl, by show max 0 (max (dep a.d) (max (dep b.d) 0)) + 1 ≤ _; omega⟩
  | .a3 a b c, h, g => by
    obtain ⟨p1, q1⟩ := okD_sg (ok_inn (s := .a3 a b c) (x := a) h (by simp [Sg.inn])) (good_inn (s := .a3 a b c) g (by simp [Sg.inn]))
    obtain ⟨p2, q2⟩ := okD_sg (ok_inn (s := .a3 a b c) (x := b) h (by simp [Sg.inn])) (good_inn (s := .a3 a b c) g (by simp [Sg.inn]))
    obtain ⟨p3, q3⟩ := okD_sg (ok_inn (s := .a3 a b c) (x := c) h (by simp [Sg.inn])) (good_inn (s := .a3 a b c) g (by simp [Sg.inn]))
    have e1 : PyData.strOk ("and" : Str) = true := by decide +kernel
    have hl : (Sg.a3 a b c).pre.length = a.pre.length + (b.pre.length + c.pre.length) + 1 := by show (a.pre ++ (b.pre ++ c.pre)).length + 1 = _; rw [List.length_append, List.length_append]
    rw [hl]
    exact ⟨by show (PyData.strOk ("and" : Str) && (plain a.d && (plain b.d && (plain c.d && true)))) = true; rw [e1, p1, p2, p3]; rfl, by show max 0 (max (dep a.d) (max (dep b.d) (max (dep c.d) 0))) + 1 ≤ _; omega⟩
  | .qu f x s, h, g => by
    have h1 : VrB x := ok_head h
    have h2 : PyData.strOk x = true := low_ok h1.1
    obtain ⟨p1, q1⟩ := okD_sg (ok_inn (s := .qu f x s) (x := s) h (by simp [Sg.inn])) (good_inn (s := .qu f x s) g (by simp [Sg.inn]))
    have e1 : PyData.strOk ("some" : Str) = true := by decide +kernel
    have e2 : PyData.strOk ("all" : Str) = true := by decide +kernel
    cases f with
    | true => exact ⟨by show (PyData.strOk ("some" : Str) && (PyData.strOk x && (plain s.d && true))) = true; rw [e1, h2, p1]; rfl, by show max 0 (max 0 (max (dep s.d) 0)) + 1 ≤ s.pre.length + 1 + 4; omega⟩
    | false => exact ⟨by show (PyData.strOk ("all" : Str) && (PyData.strOk x && (plain s.d && true))) = true; rw [e2, h2, p1]; rfl, by show max 0 (max 0 (max (dep s.d) 0)) + 1 ≤ s.pre.length + 1 + 4; omega⟩
  | .bad s, h, g => by
    have := g (.bad s) List.mem_cons_self
    cases this
end Q

set_option autoImplicit false
set_option linter.all false
/-! VP: which sayings are known, what is free in them -/
namespace Q
open PySem L2
open RF (top Df e_app app_e len_app)
local macro_rules | `(tactic| walk_at "u") => `(tactic| simp (config := { dsimp := false }) only [↓CL_of, ↓IT_of, ↓LC_of, ↓LP_of, ↓WH_of, ↓CT_of, ↓IC_of, ↓SC_of, ↓wSeq, ↓wIfS, ↓wYes, ↓wOpV, ↓wOp, ↓wC, ↓wUn, ↓wRet, ↓wJoin, ↓wJs, ↓wArg, ↓wCons, ↓wVar, ↓wBor, ↓wMv, ↓wSet, ↓wAsg, ↓wNm, ↓wTg, ↓wGCons, ↓wApp, ↓wPop, ↓wExt, ↓wSub, ↓wDrop, ↓wPar, ↓wAug, ↓wAnd, ↓wOr, ↓wNot, ↓wTru, truP, ↓wIf, ↓wAndV, ↓wOrV, ↓wNotV, ↓wChain, ↓wSl, ↓wSlV, ↓wPart, ↓wM1, ↓wMN, pStarts, pEnds, pRfind, pStripC, pParts, pStarts3, pFind3, pSS, pSSI, pMax3, ↓wFor, ↓wLc, ↓wList, ↓wTupI, ↓wRng1, ↓wRng2, ↓wEnum, ↓wZip, ↓wRevI, ↓wStrI, ↓wKw, pCallV, wipeE, pTupN, pLstN, pIx, pSl, pRev, pLen, pAbs, pInt, pBool, pStr, pList, pTuple, pSum, pNums, pBls, pIsi, pIsi2, tyN, aI_fold, cutD1, inD_nil, inD_cons, Bool.or_eq_true, decide_eq_true_eq, Bool.or_false, Bool.false_or, Bool.true_or, Bool.or_true, decide_true, decide_false, or_false, false_or, or_true, true_or, List.all_cons, List.all_nil, Bool.and_self, Bool.not_true, Bool.not_false, iff_self, if_true, if_false, Bool.false_eq_true, ofS_inj, String.reduceEq, ati0, ati1, ati2, ati3, ati4, exists_and_left, isi_NoneType_bool, isi_NoneType_int, isi_NoneType_str, isi_NoneType_list, isi_NoneType_tuple, isi_bool_bool, isi_bool_int, isi_bool_str, isi_bool_list, isi_bool_tuple, isi_int_bool, isi_int_int, isi_int_str, isi_int_list, isi_int_tuple, isi_str_bool, isi_str_int, isi_str_str, isi_str_list, isi_str_tuple, isi_list_bool, isi_list_int, isi_list_str, isi_list_list, isi_list_tuple, isi_tuple_bool, isi_tuple_int, isi_tuple_str, isi_tuple_list, isi_tuple_tuple, isi_dict_bool, isi_dict_int, isi_dict_str, isi_dict_list, isi_dict_tuple, mi_bool, mi_int, mi_str, mi_list, mi_tuple, pI2, pI2N, pAdd, pSub, pMul, pNeg, pEqF, pOrd, pIs, pIn, isNon, D.told, D.flat, pFmt, pDivmod, startE, fzs, List.map_cons, List.map_nil, List.length_cons, List.length_nil, List.cons_append, List.nil_append, List.replicate, get_s, get_z, List.set_cons_zero, List.set_cons_succ, Option.some.injEq, exists_eq', true_and, and_true, exists_eq_left', Sl.toD, Nat.sub_self, Nat.reduceAdd, Nat.reduceLeDiff, Nat.reduceLT, Int.reduceToNat, Nat.reduceSub, scalD, eqD_int, eqD_str, eqD_tt, eqD_ff, eqD_tf, eqD_ft, id_eq, reduceCtorEq, false_implies, implies_true, D.int.injEq, D.str.injEq, D.lst.injEq, D.tup.injEq, Sl.fz.injEq, Sl.ol.injEq, RF.e_app, RF.app_e, RF.emp_eq, IT_t, IT_f, IT_T, IT_F, IT_d, IT_n, IT_not])
local macro_rules | `(tactic| walk_at "l") => `(tactic| first | omega | (simp only [RF.len_app, RF.e_app, RF.app_e, RF.emp_eq, sizeLine_eq, l_dash, l_plus, l_r, l_emp, l_lp, l_rpd, l_slash, l_star, l_sp1, l_sp2, l_flo, l_com, l_rp, l_le, l_equ, l_und, l_lea, l_not, l_allS, l_some, l_spc, l_ors, l_ands, List.map_cons, List.map_nil, List.sum_cons, List.sum_nil, List.length_cons, List.length_nil, List.length_map, List.length_append, List.length_replicate, List.length_range] <;> omega))
local macro_rules | `(tactic| walk_at "f") => `(tactic| ((repeat' apply And.intro) <;> first | assumption | walk_at "l"))
local macro_rules | `(tactic| walk_at "s") => `(tactic| (repeat (refine And.intro (by walk_at "l") ?_)))
def hdS (l : List Nat) : Bool := match l with | [] => false | c :: _ => ltr c
theorem lz_a : lz (Str.ofString "a") = [97] := by decide +kernel
theorem lz_z : lz (Str.ofString "z") = [122] := by decide +kernel
theorem le_1 (a c : Nat) : gLe [a] [c] = decide (a ≤ c) := by
  unfold gLe
  by_cases h : c < a
  · rw [decide_eq_true (show [c] < [a] by simp [List.cons_lt_cons_iff]; exact h), decide_eq_false (by omega)]
    rfl
  · rw [decide_eq_false (show ¬ [c] < [a] by simp [List.cons_lt_cons_iff]; omega), decide_eq_true (by omega)]
    rfl
theorem lt_1 (a c : Nat) : ([c] < [a]) = (c < a) := by simp [List.cons_lt_cons_iff]
def vLetter : Ph := fun ds k _ => ∃ c : Nat, ds = [.str (wd [c])] ∧ ltr c = true ∧ k (.fz (.bl true))
def vWhole : Ph := fun ds k _ => ∃ i : Int, ds = [.int i] ∧ k (.fz (.bl true))
def vBtw : Ph := fun ds k _ => ∃ i a b : Int, ds = [.int i, .int a, .int b] ∧ k (.fz (.bl (decide (a ≤ i) && decide (i ≤ b))))
def vWord : Ph := fun ds k _ => ∃ (x : Str) (a b : Int), ds = [.str x, .int a, .int b] ∧ lowS x ∧ x.length ≤ 1000 ∧ k (.fz (.bl (decide (a ≤ (x.length : Nat)) && decide (((x.length : Nat) : Int) ≤ b))))
def vVar : Ph := fun ds k _ => ∃ x : Str, ds = [.str x] ∧ VrB x ∧ k (.fz (.bl true))
def vNo : Ph := fun _ _ _ => False
def vItem : Ph := fun ds k _ => ∃ (p : Int × Str) (m : Int), ds = [itD p, .int m] ∧ (p.1 ≠ 0 ∧ -9 ≤ p.1 ∧ p.1 ≤ 9) ∧ VrB p.2 ∧ k (.fz (.bl true))
def vTermW : Ph := fun ds k _ => ∃ (t : Lt) (m : Int), ds = [t.d, .int m] ∧ t.ok ∧ k (.fz (.bl true))
def vTerm : Ph := fun ds k _ => ∃ t : Lt, ds = [t.d] ∧ t.ok ∧ k (.fz (.bl true))
section
variable {P : Program} {w : World} {K : PySem.W.Frag} {mg : Str → Option Value} {base : Heap}
abbrev s_is_letter : Stmt := top 13
abbrev n_is_letter : List Str := ["sign"]
theorem sc_is_letter : FnScope n_is_letter ["sign"] (defScope s_is_letter) := ⟨rfl, rfl, rfl, by decide +kernel, rfl, by decide +kernel, by decide +kernel⟩
theorem vk_letter {f : Addr} {fd : FuncData} {j : Nat} (Fu : Fun K "is_letter" "is_letter" s_is_letter f fd) (T : TN mg) : FnOk P w K mg base CX0 (j + 1) f fd ["sign"] (spD K mg false vLetter) := by
  refine fn_pd Fu sc_is_letter (fun ds k xk h => by obtain ⟨l, rfl, _⟩ := h; rfl) fun cdv A outer s H E C ds k xk hr Fi hu φ => ?_
  have nd := sc_is_letter.nd
  refine ⟨_, _, (qss_one (qs_ret (pd_chain op_leA op_leA l_ord l_ord pd_str (pd_var (pv 0)) (PD.b pd_str)))), ?_⟩
  obtain ⟨c, rfl, hl, q⟩ := φ
  walk_at "u"
  have hc : 97 ≤ c ∧ c ≤ 122 := by unfold ltr at hl; simpa using hl
  rw [show (Str.ofString "a").cps.toList = [97] from lz_a, show (wd [c]).cps.toList = [c] from rfl, lt_1]
  refine ⟨fun h => absurd h (by omega), fun h => ?_⟩
  walk_at "u"
  rw [show (wd [c]).cps.toList = [c] from rfl, show (Str.ofString "z").cps.toList = [122] from lz_z, le_1, decide_eq_true hc.2]
  exact q
abbrev s_is_whole : Stmt := top 8
abbrev n_is_whole : List Str := ["value"]
theorem sc_is_whole : FnScope n_is_whole ["value"] (defScope s_is_whole) := ⟨rfl, rfl, rfl, by decide +kernel, rfl, by decide +kernel, by decide +kernel⟩
theorem vk_whole {f : Addr} {fd : FuncData} {j : Nat} (Fu : Fun K "is_whole" "is_whole" s_is_whole f fd) (T : TN mg) : FnOk P w K mg base CX0 (j + 1) f fd ["value"] (spD K mg false vWhole) := by
  refine fn_pd Fu sc_is_whole (fun ds k xk h => by obtain ⟨l, rfl, _⟩ := h; rfl) fun cdv A outer s H E C ds k xk hr Fi hu φ => ?_
  have nd := sc_is_whole.nd
  refine ⟨_, _, (qss_one (qs_ret (pd_and (PD.b (pd_callB call_isi (l_isi Fi) (by rfl) T.isinstance (by decide +kernel) (qa_cons (pd_var (pv 0)) (qa_cons (pd_ty (n := "int") (by rfl) T.int (by decide +kernel)) qa_nil)))) (pd_one (pd_not Fi (PD.b (pd_callB call_isi (l_isi Fi) (by rfl) T.isinstance (by decide +kernel) (qa_cons (pd_var (pv 0)) (qa_cons (pd_ty (n := "bool") (by rfl) T.bool (by decide +kernel)) qa_nil))))))))), ?_⟩
  obtain ⟨i, rfl, q⟩ := φ
  walk_at "u"
  exact q
abbrev s_is_between : Stmt := top 9
abbrev n_is_between : List Str := ["value", "low", "high"]
theorem sc_is_between : FnScope n_is_between ["value", "low", "high"] (defScope s_is_between) := ⟨rfl, rfl, rfl, by decide +kernel, rfl, by decide +kernel, by decide +kernel⟩
theorem vk_btw {f : Addr} {fd : FuncData} {j : Nat} (Fu : Fun K "is_between" "is_between" s_is_between f fd) (T : TN mg) (D_is_whole : Df P w K mg base j "is_whole" ["value"] (spD K mg false vWhole)) : FnOk P w K mg base CX0 (j + 1) f fd ["value", "low", "high"] (spD K mg false vBtw) := by
  refine fn_pd Fu sc_is_between (fun ds k xk h => by obtain ⟨i, a, b, rfl, _⟩ := h; rfl) fun cdv A outer s H E C ds k xk hr Fi hu φ => ?_
  have nd := sc_is_between.nd
  refine ⟨_, _, (qss_one (qs_ret (pd_and (PD.b (pd_call Fi D_is_whole hr (Nat.le_refl _) (qa_cons (pd_var (pv 0)) qa_nil))) (pd_one (pd_chain op_leA op_leA l_ord l_ord (pd_var (pv 1)) (pd_var (pv 0)) (pb_var (pv 2))))))), ?_⟩
  obtain ⟨i, a, b, rfl, q⟩ := φ
  walk_at "u"
  refine ⟨i, rfl, ?_⟩
  walk_at "u"
  refine ⟨fun h => ?_, fun h => ?_⟩
  · walk_at "u"
    rw [decide_eq_true h, Bool.true_and] at q
    exact q
  · walk_at "u"
    rw [decide_eq_false h, Bool.false_and] at q
    exact q
abbrev s_is_word : Stmt := top 12
abbrev n_is_word : List Str := ["value", "low", "high", "sign"]
theorem sc_is_word : FnScope n_is_word ["value", "low", "high"] (defScope s_is_word) := ⟨rfl, rfl, rfl, by decide +kernel, rfl, by decide +kernel, by decide +kernel⟩
theorem vk_word {f : Addr} {fd : FuncData} {j : Nat} (Fu : Fun K "_is_word" "_is_word" s_is_word f fd) (T : TN mg) (D_is_letter : Df P w K mg base j "is_letter" ["sign"] (spD K mg false vLetter)) : FnOk P w K mg base CX0 (j + 1) f fd ["value", "low", "high"] (spD K mg false vWord) := by
  refine fn_pd Fu sc_is_word (fun ds k xk h => by obtain ⟨v, a, b, rfl, _⟩ := h; rfl) fun cdv A outer s H E C ds k xk hr Fi hu φ => ?_
  have nd := sc_is_word.nd
  refine ⟨_, _, (qss_one (qs_ret (pd_and (PD.b (pd_callB call_isi (l_isi Fi) (by rfl) T.isinstance (by decide +kernel) (qa_cons (pd_var (pv 0)) (qa_cons (pd_ty (n := "str") (by rfl) T.str (by decide +kernel)) qa_nil)))) (pd_and (PD.b (pd_chain op_leA op_leA l_ord l_ord (pd_var (pv 1)) (pd_callB1 call_len2 (l_len Fi) (by rfl) T.len (by decide +kernel) (pb_var (pv 0))) (pb_var (pv 2)))) (pd_one (pd_callB1 (cr_all rfl) (l_all Fi) (by rfl) T.all (by decide +kernel) (PD.b (pd_comp (own := [("sign", 3)]) rfl nd (qi_str (pd_var (pv 0))) (blkOk_by (own := [("sign", 3)]) (N := n_is_word) (sc := defScope s_is_word) (by decide +kernel)) (fun _ _ _ _ _ => (qg_name (pg_name (i := 3) nd rfl (Or.inl rfl)))) (fun _ _ _ _ _ => qts_nil) (fun _ _ _ _ _ => (pd_call (Fi.blk) D_is_letter hr (Nat.le_refl _) (qa_cons (pd_var (pv 3)) qa_nil))))))))))), ?_⟩
  obtain ⟨x, a, b, rfl, hx, hl, q⟩ := φ
  walk_at "u"
  refine ⟨by rw [sizeLine_eq]; omega, fun h1 => ?_, fun h1 => ?_⟩
  · walk_at "u"
    refine ⟨fun h2 => ?_, fun h2 => ?_⟩
    · walk_at "u"
      have hsl : (signsD x).length = x.length := by unfold signsD; rw [List.length_map]; exact lz_len x
      refine lc_map (fun _ => .bl true) _ _ (by omega) ?_ (fun d N acc hm hN ha => ?_)
      · walk_at "u"
        refine ⟨_, bls_true _, ?_⟩
        rw [show ((signsD x).map fun _ => true).all id = true from List.all_eq_true.mpr fun y hy => by obtain ⟨_, _, rfl⟩ := List.mem_map.mp hy; rfl]
        rw [decide_eq_true h1, decide_eq_true h2] at q
        exact q
      · unfold signsD at hm
        obtain ⟨c, hc, rfl⟩ := List.mem_map.mp hm
        have hcl := List.all_eq_true.mp (low_ltr hx) c hc
        walk_at "u"
        refine ⟨c, rfl, hcl, ?_⟩
        walk_at "u"
        exact ⟨ha, hN⟩
    · walk_at "u"
      rw [decide_eq_false h2, Bool.and_false] at q
      exact q
  · walk_at "u"
    rw [decide_eq_false h1, Bool.false_and] at q
    exact q
abbrev s_is_variable : Stmt := top 10
abbrev n_is_variable : List Str := ["value"]
theorem sc_is_variable : FnScope n_is_variable ["value"] (defScope s_is_variable) := ⟨rfl, rfl, rfl, by decide +kernel, rfl, by decide +kernel, by decide +kernel⟩
theorem vk_var {f : Addr} {fd : FuncData} {j : Nat} (Fu : Fun K "is_variable" "is_variable" s_is_variable f fd) (T : TN mg) {nv : Addr} (mN : mg "NO_VARIABLES" = some (.ref nv)) (hN : ∀ B H, B.K = K → Rp B H (.ref nv) (.tup NOV)) (D_is_word : Df P w K mg base j "_is_word" ["value", "low", "high"] (spD K mg false vWord)) : FnOk P w K mg base CX0 (j + 1) f fd ["value"] (spD K mg false vVar) := by
  refine fn_pd Fu sc_is_variable (fun ds k xk h => by obtain ⟨v, rfl, _⟩ := h; rfl) fun cdv A outer s H E C ds k xk hr Fi hu φ => ?_
  have nd := sc_is_variable.nd
  refine ⟨_, _, (qss_one (qs_ret (pd_and (PD.b (pd_call Fi D_is_word hr (Nat.le_refl _) (qa_cons (pd_var (pv 0)) (qa_cons pd_int (qa_cons pd_int qa_nil))))) (pd_one (pd_cmpV (op_notInA (un65 hr)) (l_notIn Fi) (pv 0) (PD.b (pd_c (pe_glob (v := .ref nv) (by rfl) mN rfl ) (d := .tup NOV) fun H => hN _ _ Fi.K )) rfl))))), ?_⟩
  obtain ⟨x, rfl, ⟨h1, h2, h3, h4⟩, q⟩ := φ
  walk_at "u"
  refine ⟨x, 1, 3, rfl, h1, by omega, ?_⟩
  rw [decide_eq_true (show (1 : Int) ≤ (x.length : Nat) by omega), decide_eq_true (show ((x.length : Nat) : Int) ≤ 3 by omega)]
  walk_at "u"
  refine ⟨by decide, ?_⟩
  rw [show inD (.str x) NOV = false from h4]
  exact q
theorem vk_no {k : Nat} {f : Addr} {fd : FuncData} {ps : List Str} : FnOk P w K mg base CX0 k f fd ps (spD K mg false vNo) := fn_no fun _ _ _ h => h
abbrev s_is_item : Stmt := top 23
abbrev n_is_item : List Str := ["value", "floors", "factor", "thing"]
theorem sc_is_item : FnScope n_is_item ["value", "floors"] (defScope s_is_item) := ⟨rfl, rfl, rfl, by decide +kernel, rfl, by decide +kernel, by decide +kernel⟩
theorem vk_item {f : Addr} {fd : FuncData} {j : Nat} (Fu : Fun K "_is_item" "_is_item" s_is_item f fd) (T : TN mg) (D_is_between : Df P w K mg base j "is_between" ["value", "low", "high"] (spD K mg false vBtw)) (D_is_variable : Df P w K mg base j "is_variable" ["value"] (spD K mg false vVar)) (D_is_floor : Df P w K mg base j "_is_floor" ["value", "floors"] (spD K mg false vNo)) : FnOk P w K mg base CX0 (j + 1) f fd ["value", "floors"] (spD K mg false vItem) := by
  refine fn_pd Fu sc_is_item (fun ds k xk h => by obtain ⟨d, m, rfl, _⟩ := h; rfl) fun cdv A outer s H E C ds k xk hr Fi hu φ => ?_
  have nd := sc_is_item.nd
  refine ⟨_, _, (qss_cons (qs_ifC (qt_w (qw_or (qt_not (qt_val (PD.b (pd_callB call_isi (l_isi Fi) (by rfl) T.isinstance (by decide +kernel) (qa_cons (pd_var (pv 0)) (qa_cons (pd_ty (n := "tuple") (by rfl) T.tuple (by decide +kernel)) qa_nil)))))) (qw_or1 (qt_cmp (op_neA hr.units) (l_ne Fi) (pd_callB1 call_len2 (l_len Fi) (by rfl) T.len (by decide +kernel) (pb_var (pv 0))) (PD.b pd_int) (nomark _)))))
      (qss_one (qs_ret pd_bl))
      qss_nil)
      (qss_cons (qs_asg (pd_var (pv 0)) (qg_tup (n := 2) Fi rfl (qgs_cons (qg_name (pg_name (i := 2) nd rfl (Or.inl rfl))) (qgs_cons (qg_name (pg_name (i := 3) nd rfl (Or.inl rfl))) qgs_nil))))
      (qss_one (qs_ret (pd_and (PD.b (pd_call Fi D_is_between hr (Nat.le_refl _) (qa_cons (pd_var (pv 2)) (qa_cons (pd_un un_neg l_neg (PD.b pd_int)) (qa_cons pd_int qa_nil))))) (pd_and (PD.b (pd_cmpV (op_neA hr.units) (l_ne Fi) (pv 2) (PD.b pd_int) (nomark _))) (pd_one (pd_or (PD.b (pd_call Fi D_is_variable hr (Nat.le_refl _) (qa_cons (pd_var (pv 3)) qa_nil))) (pd_one (pd_call Fi D_is_floor hr (Nat.le_refl _) (qa_cons (pd_var (pv 3)) (qa_cons (pd_var (pv 1)) qa_nil)))))))))))), ?_⟩
  obtain ⟨p, m, rfl, hf, hx, q⟩ := φ
  unfold itD
  walk_at "u"
  refine ifC False (by walk_at "u"; decide) (fun h => h.elim) (fun h => ?_)
  walk_at "u"
  refine ⟨p.1, -9, 9, rfl, ?_⟩
  rw [decide_eq_true hf.2.1, decide_eq_true hf.2.2]
  walk_at "u"
  refine IT.neg hf.1 ?_
  walk_at "u"
  refine ⟨p.2, rfl, hx, ?_⟩
  walk_at "u"
  exact q
abbrev s_is_term_with : Stmt := top 22
abbrev n_is_term_with : List Str := ["value", "floors", "items", "constant", "item"]
theorem sc_is_term_with : FnScope n_is_term_with ["value", "floors"] (defScope s_is_term_with) := ⟨rfl, rfl, rfl, by decide +kernel, rfl, by decide +kernel, by decide +kernel⟩
theorem vk_termw {f : Addr} {fd : FuncData} {j : Nat} (Fu : Fun K "_is_term_with" "_is_term_with" s_is_term_with f fd) (T : TN mg) {tk : Tok} (mI : mg "MOST_ITEMS" = some (.int 4 tk)) (D_is_between : Df P w K mg base j "is_between" ["value", "low", "high"] (spD K mg false vBtw)) (D_is_item : Df P w K mg base j "_is_item" ["value", "floors"] (spD K mg false vItem)) : FnOk P w K mg base CX0 (j + 1) f fd ["value", "floors"] (spD K mg false vTermW) := by
  refine fn_pd Fu sc_is_term_with (fun ds k xk h => by obtain ⟨d, m, rfl, _⟩ := h; rfl) fun cdv A outer s H E C ds k xk hr Fi hu φ => ?_
  have nd := sc_is_term_with.nd
  refine ⟨_, _, (qss_cons (qs_ifC (qt_w (qw_or (qt_not (qt_val (PD.b (pd_callB call_isi (l_isi Fi) (by rfl) T.isinstance (by decide +kernel) (qa_cons (pd_var (pv 0)) (qa_cons (pd_ty (n := "tuple") (by rfl) T.tuple (by decide +kernel)) qa_nil)))))) (qw_or1 (qt_cmp (op_neA hr.units) (l_ne Fi) (pd_callB1 call_len2 (l_len Fi) (by rfl) T.len (by decide +kernel) (pb_var (pv 0))) (PD.b pd_int) (nomark _)))))
      (qss_one (qs_ret pd_bl))
      qss_nil)
      (qss_cons (qs_asg (pd_var (pv 0)) (qg_tup (n := 2) Fi rfl (qgs_cons (qg_name (pg_name (i := 2) nd rfl (Or.inl rfl))) (qgs_cons (qg_name (pg_name (i := 3) nd rfl (Or.inl rfl))) qgs_nil))))
      (qss_cons (qs_if (qt_w (qw_or (qt_not (qt_val (PD.b (pd_callB call_isi (l_isi Fi) (by rfl) T.isinstance (by decide +kernel) (qa_cons (pd_var (pv 2)) (qa_cons (pd_ty (n := "tuple") (by rfl) T.tuple (by decide +kernel)) qa_nil)))))) (qw_or (qt_cmp op_gtA l_ord (pd_callB1 call_len2 (l_len Fi) (by rfl) T.len (by decide +kernel) (pb_var (pv 2))) (PD.b (pd_c (pe_glob (v := .int 4) (by rfl) mI ⟨_, rfl⟩ ) (d := .int 4) fun _ => rfl)) (nomark _)) (qw_or1 (qt_not (qt_truth Fi (PD.b (pd_call Fi D_is_between hr (Nat.le_refl _) (qa_cons (pd_var (pv 3)) (qa_cons (pd_un un_neg l_neg (PD.b pd_int)) (qa_cons pd_int qa_nil)))))))))))
      (qss_one (qs_ret pd_bl))
      qss_nil)
      (qss_one (qs_ret (pd_callB1 (cr_all rfl) (l_all Fi) (by rfl) T.all (by decide +kernel) (PD.b (pd_comp (own := [("item", 4)]) rfl nd (qi_tup Fi (pd_var (pv 2))) (blkOk_by (own := [("item", 4)]) (N := n_is_term_with) (sc := defScope s_is_term_with) (by decide +kernel)) (fun _ _ _ _ _ => (qg_name (pg_name (i := 4) nd rfl (Or.inl rfl)))) (fun _ _ _ _ _ => qts_nil) (fun _ _ _ _ _ => (pd_call (Fi.blk) D_is_item hr (Nat.le_refl _) (qa_cons (pd_var (pv 4)) (qa_cons (pd_var (pv 1)) qa_nil)))))))))))), ?_⟩
  obtain ⟨t, m, rfl, ⟨hc, hi, h1, h2⟩, q⟩ := φ
  unfold Lt.d
  have hil : (t.its.map itD).length = t.its.length := List.length_map ..
  walk_at "u"
  refine ifC False (by walk_at "u"; decide) (fun h => h.elim) (fun h => ?_)
  walk_at "u"
  refine IT.neg (by omega) ?_
  walk_at "u"
  refine ⟨_, -1000, 1000, rfl, ?_⟩
  rw [decide_eq_true h1, decide_eq_true h2]
  walk_at "u"
  refine lc_map (fun _ => .bl true) _ _ (by omega) ?_ (fun d N acc hmem hN ha => ?_)
  · walk_at "u"
    refine ⟨_, bls_true _, ?_⟩
    rw [show ((t.its.map itD).map fun _ => true).all id = true from List.all_eq_true.mpr fun y hy => by obtain ⟨_, _, rfl⟩ := List.mem_map.mp hy; rfl]
    exact q
  · obtain ⟨p, hp, rfl⟩ := List.mem_map.mp hmem
    walk_at "u"
    refine ⟨p, m, rfl, (hi p hp).1, (hi p hp).2, ?_⟩
    walk_at "u"
    exact ⟨ha, hN⟩
abbrev s_is_term : Stmt := top 21
abbrev n_is_term : List Str := ["value"]
theorem sc_is_term : FnScope n_is_term ["value"] (defScope s_is_term) := ⟨rfl, rfl, rfl, by decide +kernel, rfl, by decide +kernel, by decide +kernel⟩
theorem vk_term {f : Addr} {fd : FuncData} {j : Nat} (Fu : Fun K "is_term" "is_term" s_is_term f fd) (T : TN mg) {tk : Tok} (mF : mg "MOST_FLOORS" = some (.int 3 tk)) (D_is_term_with : Df P w K mg base j "_is_term_with" ["value", "floors"] (spD K mg false vTermW)) : FnOk P w K mg base CX0 (j + 1) f fd ["value"] (spD K mg false vTerm) := by
  refine fn_pd Fu sc_is_term (fun ds k xk h => by obtain ⟨d, rfl, _⟩ := h; rfl) fun cdv A outer s H E C ds k xk hr Fi hu φ => ?_
  have nd := sc_is_term.nd
  refine ⟨_, _, (qss_one (qs_ret (pd_call Fi D_is_term_with hr (Nat.le_refl _) (qa_cons (pd_var (pv 0)) (qa_cons (pd_c (pe_glob (v := .int 3) (by rfl) mF ⟨_, rfl⟩ ) (d := .int 3) fun _ => rfl) qa_nil))))), ?_⟩
  obtain ⟨t, rfl, ht, q⟩ := φ
  walk_at "u"
  refine ⟨t, 3, rfl, ht, ?_⟩
  walk_at "u"
  exact q
end
end Q

set_option autoImplicit false
set_option linter.all false
/-! VQ: forms of sayings, their order -/
namespace Q
open PySem L2
open RF (top Df e_app app_e len_app)
theorem cutD2 (c d : D) (ds : List D) : cutD (c :: d :: ds) (some 2) none = ds := cutD_drop (c :: d :: ds) 2
local macro_rules | `(tactic| walk_at "u") => `(tactic| simp (config := { dsimp := false, maxSteps := 2000000 }) only [↓CL_of, ↓IT_of, ↓LC_of, ↓LP_of, ↓WH_of, ↓CT_of, ↓IC_of, ↓SC_of, ↓wSeq, ↓wFirst, ↓wStar, ↓wExtT, pBackT, pSoSet, pSoKey, cutD2, ↓wPar3, ↓wLc2, lcW2, List.isEmpty_cons, List.isEmpty_nil, Int.cast_ofNat_Int, Int.natCast_one, Int.natCast_zero, Int.reduceEq, Int.reduceLE, Int.reduceLT, ↓wIfS, ↓wYes, ↓wOpV, ↓wOp, ↓wC, ↓wUn, ↓wRet, ↓wJoin, ↓wJs, ↓wArg, ↓wCons, ↓wVar, ↓wBor, ↓wMv, ↓wSet, ↓wAsg, ↓wNm, ↓wTg, ↓wGCons, ↓wApp, ↓wPop, ↓wExt, ↓wSub, ↓wDrop, ↓wPar, ↓wAug, ↓wAnd, ↓wOr, ↓wNot, ↓wTru, truP, ↓wIf, ↓wAndV, ↓wOrV, ↓wNotV, ↓wChain, ↓wSl, ↓wSlV, ↓wPart, ↓wM1, ↓wMN, pStarts, pEnds, pRfind, pStripC, pParts, pStarts3, pFind3, pSS, pSSI, pMax3, ↓wFor, ↓wLc, ↓wList, ↓wTupI, ↓wRng1, ↓wRng2, ↓wEnum, ↓wZip, ↓wRevI, ↓wStrI, ↓wKw, pCallV, wipeE, pTupN, pLstN, pIx, pSl, pRev, pLen, pAbs, pInt, pBool, pStr, pList, pTuple, pSum, pNums, pBls, pIsi, pIsi2, tyN, aI_fold, cutD1, inD_nil, inD_cons, Bool.or_eq_true, decide_eq_true_eq, Bool.or_false, Bool.false_or, Bool.true_or, Bool.or_true, decide_true, decide_false, or_false, false_or, or_true, true_or, List.all_cons, List.all_nil, Bool.and_self, Bool.not_true, Bool.not_false, iff_self, if_true, if_false, Bool.false_eq_true, ofS_inj, String.reduceEq, ati0, ati1, ati2, ati3, ati4, exists_and_left, isi_NoneType_bool, isi_NoneType_int, isi_NoneType_str, isi_NoneType_list, isi_NoneType_tuple, isi_bool_bool, isi_bool_int, isi_bool_str, isi_bool_list, isi_bool_tuple, isi_int_bool, isi_int_int, isi_int_str, isi_int_list, isi_int_tuple, isi_str_bool, isi_str_int, isi_str_str, isi_str_list, isi_str_tuple, isi_list_bool, isi_list_int, isi_list_str, isi_list_list, isi_list_tuple, isi_tuple_bool, isi_tuple_int, isi_tuple_str, isi_tuple_list, isi_tuple_tuple, isi_dict_bool, isi_dict_int, isi_dict_str, isi_dict_list, isi_dict_tuple, mi_bool, mi_int, mi_str, mi_list, mi_tuple, pI2, pI2N, pAdd, pSub, pMul, pNeg, pEqF, pOrd, pIs, pIn, isNon, D.told, D.flat, pFmt, pDivmod, startE, fzs, List.map_cons, List.map_nil, List.length_cons, List.length_nil, List.cons_append, List.nil_append, List.replicate, get_s, get_z, List.set_cons_zero, List.set_cons_succ, Option.some.injEq, exists_eq', true_and, and_true, exists_eq_left', Sl.toD, Nat.sub_self, Nat.reduceAdd, Nat.reduceLeDiff, Nat.reduceLT, Int.reduceToNat, Nat.reduceSub, scalD, eqD_int, eqD_str, eqD_tt, eqD_ff, eqD_tf, eqD_ft, id_eq, reduceCtorEq, false_implies, implies_true, D.int.injEq, D.str.injEq, D.lst.injEq, D.tup.injEq, Sl.fz.injEq, Sl.ol.injEq, RF.e_app, RF.app_e, RF.emp_eq, IT_t, IT_f, IT_T, IT_F, IT_d, IT_n, IT_not])
local macro_rules | `(tactic| walk_at "l") => `(tactic| first | omega | (simp only [RF.len_app, RF.e_app, RF.app_e, RF.emp_eq, sizeLine_eq, l_dash, l_plus, l_r, l_emp, l_lp, l_rpd, l_slash, l_star, l_sp1, l_sp2, l_flo, l_com, l_rp, l_le, l_equ, l_und, l_lea, l_not, l_allS, l_some, l_spc, l_ors, l_ands, List.map_cons, List.map_nil, List.sum_cons, List.sum_nil, List.length_cons, List.length_nil, List.length_map, List.length_append, List.length_replicate, List.length_range] <;> omega))
local macro_rules | `(tactic| walk_at "f") => `(tactic| ((repeat' apply And.intro) <;> first | assumption | walk_at "l"))
local macro_rules | `(tactic| walk_at "s") => `(tactic| (repeat (refine And.intro (by walk_at "l") ?_)))
def Sg.cmp : Sg → Bool
  | .cm _ _ _ => true
  | .lv _ _ _ => true
  | .bad _ => true
  | _ => false
def vCmp : Ph := fun ds k _ => ∃ (s : Sg) (x : D) (r : List D), ds = [x, .lst r] ∧ s.d = .tup (x :: r) ∧ s.okh ∧ s.cmp = true ∧ k (.fz (.bl (!s.isBad)))
def vForm : Ph := fun ds k _ => ∃ s : Sg, ds = [s.d] ∧ s.okh ∧ k (.fz (.bl (!s.isBad)))
def vInner : Ph := fun ds k _ => ∃ s : Sg, ds = [s.d] ∧ s.isBad = false ∧ k (.fz (.tup (s.inn.map Sg.d)))
def vMisf : Ph := fun ds k _ => ∃ s : Sg, ds = [s.d] ∧ s.ok ∧ s.pre.length ≤ 20 ∧ k (.fz (optD (mis s.pre 0)))
theorem len_fm : ∀ l : List Sg, l.length ≤ (l.flatMap Sg.pre).length
  | [] => Nat.le_refl _
  | x :: r => by
    rw [List.flatMap_cons, List.length_append, List.length_cons]
    have := len_pre x
    have := len_fm r
    omega
theorem rev_last {α : Type} (a : α) (l : List α) : (a :: l).reverse.getLast? = some a := by simp
theorem rev_drop {α : Type} (a : α) (l : List α) : (a :: l).reverse.dropLast = l.reverse := by simp
section
variable {P : Program} {w : World} {K : PySem.W.Frag} {mg : Str → Option Value} {base : Heap}
abbrev s_compares : Stmt := top 32
abbrev n_compares : List Str := ["word", "rest"]
theorem sc_compares : FnScope n_compares ["word", "rest"] (defScope s_compares) := ⟨rfl, rfl, rfl, by decide +kernel, rfl, by decide +kernel, by decide +kernel⟩
theorem vk_compares {f : Addr} {fd : FuncData} {j : Nat} (Fu : Fun K "_compares" "_compares" s_compares f fd) (T : TN mg) (D_is_between : Df P w K mg base j "is_between" ["value", "low", "high"] (spD K mg false vBtw)) (D_is_term : Df P w K mg base j "is_term" ["value"] (spD K mg false vTerm))
    (D_is_slope : Df P w K mg base j "is_slope" ["value"] (spD K mg false vNo)) : FnOk P w K mg base CX0 (j + 1) f fd ["word", "rest"] (spD K mg false vCmp) := by
  refine fn_pd Fu sc_compares (fun ds k xk h => by obtain ⟨s, x, r, rfl, _⟩ := h; rfl) fun cdv A outer s H E C ds k xk hr Fi hu φ => ?_
  have nd := sc_compares.nd
  refine ⟨_, _, (qss_cons (qs_if (qt_cmpV (op_inA (un65 hr)) (l_in Fi) (pv 0) (PD.b (pd_tup (qa_cons pd_str (qa_cons pd_str qa_nil)))) rfl)
      (qss_one (qs_ret (pd_and (PD.b (pd_cmp (op_eqA hr.units) (l_eq Fi) (pd_callB1 call_len2 (l_len Fi) (by rfl) T.len (by decide +kernel) (pb_var (pv 1))) (PD.b pd_int) (nomark _))) (pd_and (PD.b (pd_call Fi D_is_term hr (Nat.le_refl _) (qa_cons (pd_ixV ix_seq (l_ix Fi) (pv 1) (PD.b pd_int) (fun _ _ => rfl)) qa_nil))) (pd_one (pd_call Fi D_is_term hr (Nat.le_refl _) (qa_cons (pd_ixV ix_seq (l_ix Fi) (pv 1) (PD.b pd_int) (fun _ _ => rfl)) qa_nil)))))))
      qss_nil)
      (qss_cons (qs_if (qt_cmpV (op_eqA hr.units) (l_eq Fi) (pv 0) (PD.b pd_str) (nomark _))
      (qss_one (qs_ret (pd_and (PD.b (pd_cmp (op_eqA hr.units) (l_eq Fi) (pd_callB1 call_len2 (l_len Fi) (by rfl) T.len (by decide +kernel) (pb_var (pv 1))) (PD.b pd_int) (nomark _))) (pd_and (PD.b (pd_call Fi D_is_term hr (Nat.le_refl _) (qa_cons (pd_ixV ix_seq (l_ix Fi) (pv 1) (PD.b pd_int) (fun _ _ => rfl)) qa_nil))) (pd_and (PD.b (pd_call Fi D_is_slope hr (Nat.le_refl _) (qa_cons (pd_ixV ix_seq (l_ix Fi) (pv 1) (PD.b pd_int) (fun _ _ => rfl)) qa_nil))) (pd_one (pd_call Fi D_is_term hr (Nat.le_refl _) (qa_cons (pd_ixV ix_seq (l_ix Fi) (pv 1) (PD.b pd_int) (fun _ _ => rfl)) qa_nil))))))))
      qss_nil)
      (qss_cons (qs_if (qt_cmpV (op_eqA hr.units) (l_eq Fi) (pv 0) (PD.b pd_str) (nomark _))
      (qss_one (qs_ret (pd_and (PD.b (pd_cmp (op_eqA hr.units) (l_eq Fi) (pd_callB1 call_len2 (l_len Fi) (by rfl) T.len (by decide +kernel) (pb_var (pv 1))) (PD.b pd_int) (nomark _))) (pd_and (PD.b (pd_call Fi D_is_term hr (Nat.le_refl _) (qa_cons (pd_ixV ix_seq (l_ix Fi) (pv 1) (PD.b pd_int) (fun _ _ => rfl)) qa_nil))) (pd_and (PD.b (pd_call Fi D_is_between hr (Nat.le_refl _) (qa_cons (pd_ixV ix_seq (l_ix Fi) (pv 1) (PD.b pd_int) (fun _ _ => rfl)) (qa_cons pd_int (qa_cons pd_int qa_nil))))) (pd_one (pd_call Fi D_is_between hr (Nat.le_refl _) (qa_cons (pd_ixV ix_seq (l_ix Fi) (pv 1) (PD.b pd_int) (fun _ _ => rfl)) (qa_cons pd_int (qa_cons (pd_op op_sub l_sub (pd_ixV ix_seq (l_ix Fi) (pv 1) (PD.b pd_int) (fun _ _ => rfl)) (PD.b pd_int)) qa_nil))))))))))
      qss_nil)
      (qss_one (qs_ret pd_bl))))), ?_⟩
  obtain ⟨s, x, r, rfl, e, ho, hc, q⟩ := φ
  cases s with
  | cm l a b =>
    obtain ⟨h1, h2⟩ := ho
    cases l <;> (cases e; walk_at "u"; refine ⟨a, rfl, h1, ?_⟩; walk_at "u"; refine ⟨b, rfl, h2, ?_⟩; walk_at "u"; exact q)
  | lv a m r0 =>
    obtain ⟨h1, h2, h3, h4⟩ := ho
    cases e
    walk_at "u"
    refine ⟨a, rfl, h1, ?_⟩
    walk_at "u"
    refine ⟨m, 2, 9, rfl, ?_⟩
    rw [decide_eq_true h2.1, decide_eq_true h2.2]
    walk_at "u"
    refine ⟨r0, 0, m - 1, rfl, ?_⟩
    rw [decide_eq_true h3, decide_eq_true (show r0 ≤ m - 1 by omega)]
    walk_at "u"
    exact q
  | bad a =>
    cases e
    walk_at "u"
    exact q
  | no a => cases hc
  | an o a b => cases hc
  | a3 a b c => cases hc
  | qu f x a => cases hc
abbrev s_has_form : Stmt := top 30
abbrev n_has_form : List Str := ["value", "word", "rest"]
theorem sc_has_form : FnScope n_has_form ["value"] (defScope s_has_form) := ⟨rfl, rfl, rfl, by decide +kernel, rfl, by decide +kernel, by decide +kernel⟩
theorem vk_form {f : Addr} {fd : FuncData} {j : Nat} (Fu : Fun K "_has_form" "_has_form" s_has_form f fd) (T : TN mg) (D_is_variable : Df P w K mg base j "is_variable" ["value"] (spD K mg false vVar)) (D_is_name : Df P w K mg base j "is_name" ["value"] (spD K mg false vNo))
    (D_are_variables : Df P w K mg base j "_are_variables" ["value"] (spD K mg false vNo)) (D_compares : Df P w K mg base j "_compares" ["word", "rest"] (spD K mg false vCmp)) : FnOk P w K mg base CX0 (j + 1) f fd ["value"] (spD K mg false vForm) := by
  refine fn_pd Fu sc_has_form (fun ds k xk h => by obtain ⟨s, rfl, _⟩ := h; rfl) fun cdv A outer s H E C ds k xk hr Fi hu φ => ?_
  have nd := sc_has_form.nd
  refine ⟨_, _, (qss_cons (qs_ifC (qt_w (qw_or (qt_not (qt_val (PD.b (pd_callB call_isi (l_isi Fi) (by rfl) T.isinstance (by decide +kernel) (qa_cons (pd_var (pv 0)) (qa_cons (pd_ty (n := "tuple") (by rfl) T.tuple (by decide +kernel)) qa_nil)))))) (qw_or (qt_not (qt_truth Fi (pb_var (pv 0)))) (qw_or1 (qt_not (qt_val (PD.b (pd_callB call_isi (l_isi Fi) (by rfl) T.isinstance (by decide +kernel) (qa_cons (pd_ixV ix_seq (l_ix Fi) (pv 0) (PD.b pd_int) (fun _ _ => rfl)) (qa_cons (pd_ty (n := "str") (by rfl) T.str (by decide +kernel)) qa_nil))))))))))
      (qss_one (qs_ret pd_bl))
      qss_nil)
      (qss_cons (qs_asg (pd_var (pv 0)) (qg_first (i := 1) (j := 2) Fi rfl (pg_name (i := 1) nd rfl (Or.inl rfl)) (pg_name (i := 2) nd rfl (Or.inl rfl))))
      (qss_cons (qs_if (qt_cmpV (op_inA (un65 hr)) (l_in Fi) (pv 1) (PD.b (pd_tup (qa_cons pd_str (qa_cons pd_str qa_nil)))) rfl)
      (qss_one (qs_ret (pd_chain op_leA op_leA l_ord l_ord pd_int (pd_callB1 call_len2 (l_len Fi) (by rfl) T.len (by decide +kernel) (pb_var (pv 2))) (PD.b pd_int))))
      qss_nil)
      (qss_cons (qs_if (qt_cmpV (op_eqA hr.units) (l_eq Fi) (pv 1) (PD.b pd_str) (nomark _))
      (qss_one (qs_ret (pd_cmp (op_eqA hr.units) (l_eq Fi) (pd_callB1 call_len2 (l_len Fi) (by rfl) T.len (by decide +kernel) (pb_var (pv 2))) (PD.b pd_int) (nomark _))))
      qss_nil)
      (qss_cons (qs_if (qt_cmpV (op_inA (un65 hr)) (l_in Fi) (pv 1) (PD.b (pd_tup (qa_cons pd_str (qa_cons pd_str qa_nil)))) rfl)
      (qss_one (qs_ret (pd_and (PD.b (pd_cmp (op_eqA hr.units) (l_eq Fi) (pd_callB1 call_len2 (l_len Fi) (by rfl) T.len (by decide +kernel) (pb_var (pv 2))) (PD.b pd_int) (nomark _))) (pd_one (pd_call Fi D_is_variable hr (Nat.le_refl _) (qa_cons (pd_ixV ix_seq (l_ix Fi) (pv 2) (PD.b pd_int) (fun _ _ => rfl)) qa_nil))))))
      qss_nil)
      (qss_cons (qs_if (qt_cmpV (op_eqA hr.units) (l_eq Fi) (pv 1) (PD.b pd_str) (nomark _))
      (qss_one (qs_ret (pd_and (PD.b (pd_cmp (op_eqA hr.units) (l_eq Fi) (pd_callB1 call_len2 (l_len Fi) (by rfl) T.len (by decide +kernel) (pb_var (pv 2))) (PD.b pd_int) (nomark _))) (pd_and (PD.b (pd_call Fi D_is_name hr (Nat.le_refl _) (qa_cons (pd_ixV ix_seq (l_ix Fi) (pv 2) (PD.b pd_int) (fun _ _ => rfl)) qa_nil))) (pd_one (pd_call Fi D_are_variables hr (Nat.le_refl _) (qa_cons (pd_ixV ix_seq (l_ix Fi) (pv 2) (PD.b pd_int) (fun _ _ => rfl)) qa_nil)))))))
      qss_nil)
      (qss_one (qs_ret (pd_call Fi D_compares hr (Nat.le_refl _) (qa_cons (pd_var (pv 1)) (qa_cons (pd_var (pv 2)) qa_nil))))))))))), ?_⟩
  obtain ⟨s, rfl, ho, q⟩ := φ
  cases s with
  | cm l a b =>
    cases l <;> (
      unfold Sg.d
      walk_at "u"
      refine ifC False (by walk_at "u") (fun h => h.elim) (fun h => ?_)
      walk_at "u"
      refine ⟨_, _, _, rfl, rfl, ho, rfl, ?_⟩
      exact q)
  | lv a m r0 =>
    unfold Sg.d
    walk_at "u"
    refine ifC False (by walk_at "u") (fun h => h.elim) (fun h => ?_)
    walk_at "u"
    exact ⟨_, _, _, rfl, rfl, ho, rfl, q⟩
  | bad a =>
    unfold Sg.d
    walk_at "u"
    refine ifC False (by walk_at "u") (fun h => h.elim) (fun h => ?_)
    walk_at "u"
    exact ⟨_, _, _, rfl, rfl, ho, rfl, q⟩
  | no a =>
    unfold Sg.d
    walk_at "u"
    refine ifC False (by walk_at "u") (fun h => h.elim) (fun h => ?_)
    walk_at "u"
    exact q
  | an o a b =>
    cases o <;> (
      unfold Sg.d
      walk_at "u"
      refine ifC False (by walk_at "u") (fun h => h.elim) (fun h => ?_)
      walk_at "u"
      exact q)
  | a3 a b c =>
    unfold Sg.d
    walk_at "u"
    refine ifC False (by walk_at "u") (fun h => h.elim) (fun h => ?_)
    walk_at "u"
    exact q
  | qu f x a =>
    cases f <;> (
      unfold Sg.d
      walk_at "u"
      refine ifC False (by walk_at "u") (fun h => h.elim) (fun h => ?_)
      walk_at "u"
      refine ⟨x, rfl, ho, ?_⟩
      walk_at "u"
      exact q)
abbrev s_inner : Stmt := top 33
abbrev n_inner : List Str := ["part"]
theorem sc_inner : FnScope n_inner ["part"] (defScope s_inner) := ⟨rfl, rfl, rfl, by decide +kernel, rfl, by decide +kernel, by decide +kernel⟩
theorem vk_inner {f : Addr} {fd : FuncData} {j : Nat} (Fu : Fun K "_inner" "_inner" s_inner f fd) (T : TN mg) : FnOk P w K mg base CX0 (j + 1) f fd ["part"] (spD K mg false vInner) := by
  refine fn_pd Fu sc_inner (fun ds k xk h => by obtain ⟨s, rfl, _⟩ := h; rfl) fun cdv A outer s H E C ds k xk hr Fi hu φ => ?_
  have nd := sc_inner.nd
  refine ⟨_, _, (qss_cons (qs_if (qt_cmp (op_inA (un65 hr)) (l_in Fi) (pd_ixV ix_seq (l_ix Fi) (pv 0) (PD.b pd_int) (fun _ _ => rfl)) (PD.b (pd_tup (qa_cons pd_str (qa_cons pd_str (qa_cons pd_str qa_nil))))) rfl)
      (qss_one (qs_ret (pd_slV Fi (pv 0) (qo_some (PD.b pd_int)) qo_none)))
      qss_nil)
      (qss_cons (qs_if (qt_cmp (op_inA (un65 hr)) (l_in Fi) (pd_ixV ix_seq (l_ix Fi) (pv 0) (PD.b pd_int) (fun _ _ => rfl)) (PD.b (pd_tup (qa_cons pd_str (qa_cons pd_str qa_nil)))) rfl)
      (qss_one (qs_ret (pd_slV Fi (pv 0) (qo_some (PD.b pd_int)) qo_none)))
      qss_nil)
      (qss_one (qs_ret (pd_tup qa_nil))))), ?_⟩
  obtain ⟨s, rfl, ho, q⟩ := φ
  cases s with
  | cm l a b => cases l <;> (unfold Sg.d; walk_at "u"; exact q)
  | lv a m r0 => unfold Sg.d; walk_at "u"; exact q
  | bad a => cases ho
  | no a => unfold Sg.d; walk_at "u"; exact q
  | an o a b => cases o <;> (unfold Sg.d; walk_at "u"; exact q)
  | a3 a b c => unfold Sg.d; walk_at "u"; exact q
  | qu f x a => cases f <;> (unfold Sg.d; walk_at "u"; exact q)
abbrev s_first_misformed : Stmt := top 28
abbrev n_first_misformed : List Str := ["value", "waiting", "number", "part"]
theorem sc_first_misformed : FnScope n_first_misformed ["value"] (defScope s_first_misformed) := ⟨rfl, rfl, rfl, by decide +kernel, rfl, by decide +kernel, by decide +kernel⟩
theorem vk_misf {f : Addr} {fd : FuncData} {j : Nat} (Fu : Fun K "_first_misformed" "_first_misformed" s_first_misformed f fd) (T : TN mg) {tk : Tok} (mP : mg "MOST_PARTS" = some (.int 20 tk)) (D_has_form : Df P w K mg base j "_has_form" ["value"] (spD K mg false vForm)) (D_inner : Df P w K mg base j "_inner" ["part"] (spD K mg false vInner)) : FnOk P w K mg base CX0 (j + 1) f fd ["value"] (spD K mg false vMisf) := by
  refine fn_pd Fu sc_first_misformed (fun ds k xk h => by obtain ⟨s, rfl, _⟩ := h; rfl) fun cdv A outer s H E C ds k xk hr Fi hu φ => ?_
  have nd := sc_first_misformed.nd
  refine ⟨_, _, (qss_cons (qs_set (i := 1) nd rfl (Or.inl rfl) (pd_lst (qa_cons (pd_var (pv 0)) qa_nil)))
      (qss_cons (qs_set (i := 2) nd rfl (Or.inl rfl) pd_int)
      (qss_cons (qs_while PassesOwn.never (qt_truth Fi (pb_var (pv 1)))
      (qss_cons (qs_set (i := 3) nd rfl (Or.inl rfl) (pd_popm (pv 1)))
        (qss_cons (qs_if (qt_w (qw_or (qt_cmpV (op_eqA hr.units) (l_eq Fi) (pv 2) (PD.b (pd_c (pe_glob (v := .int 20) (by rfl) mP ⟨_, rfl⟩ ) (d := .int 20) fun _ => rfl)) (nomark _)) (qw_or1 (qt_not (qt_truth Fi (PD.b (pd_call Fi D_has_form hr (Nat.le_refl _) (qa_cons (pd_var (pv 3)) qa_nil))))))))
        (qss_one (qs_ret (pd_mv (pv 2))))
        qss_nil)
        (qss_cons (qs_expr (pd_extT Fi (pv 1) (pd_backT Fi (PD.b (pd_call Fi D_inner hr (Nat.le_refl _) (qa_cons (pd_var (pv 3)) qa_nil))))))
        (qss_one (qs_aug (i := 2) nd rfl (Or.inl rfl) pd_int ip_add))))))
      (qss_one (qs_ret pd_non))))), ?_⟩
  obtain ⟨s, rfl, ho, hl, q⟩ := φ
  walk_at "u"
  refine wh_ind (fun m ρ => ∃ (st : List Sg) (n : Nat) (v3 : Option Sl), m = (st.flatMap Sg.pre).length ∧ (∀ x ∈ st.flatMap Sg.pre, x.okh) ∧ n + (st.flatMap Sg.pre).length ≤ 20 ∧ mis s.pre 0 = mis (st.flatMap Sg.pre) n ∧
    ρ = [some (.fz s.d), some (.ol (st.map Sg.d).reverse), some (.fz (.int (n : Nat))), v3]) (fun m ρ N h hN => ?_) s.pre.length _ ⟨[s], 0, none, by simp, by simpa [Sg.ok] using ho, by simpa using hl, by simp, rfl⟩
  obtain ⟨st, n, v3, rfl, h1, h2, h3, rfl⟩ := h
  cases st with
  | nil =>
    walk_at "u"
    refine IT.pos rfl ?_
    walk_at "u"
    rw [h3] at q
    exact q
  | cons x r =>
    rw [List.flatMap_cons] at h1 h2 h3 hN
    have hx := pre_eq x
    have hxl := len_pre x
    rw [List.length_append] at h2
    have hok : x.okh := h1 x (by rw [hx]; simp)
    walk_at "u"
    refine IT.neg (by simp) ?_
    walk_at "u"
    refine ⟨x.d, rev_last _ _, IT.neg (by omega) ?_⟩
    walk_at "u"
    refine ⟨x, rfl, hok, ?_⟩
    cases hb : x.isBad with
    | true =>
      walk_at "u"
      rw [h3, hx] at q
      unfold mis at q
      rw [List.cons_append] at q
      simp only [hb, if_true] at q
      exact q
    | false =>
      walk_at "u"
      refine ⟨x, rfl, hb, ?_⟩
      walk_at "u"
      have e : (x.d :: List.map Sg.d r).reverse.dropLast ++ (List.map Sg.d x.inn).reverse = ((x.inn ++ r).map Sg.d).reverse := by rw [rev_drop, ← List.reverse_append, ← List.map_append]
      have l1 := len_fm r
      have l2 := len_fm x.inn
      rw [hx, List.length_cons] at h2
      have e2 : (List.flatMap Sg.pre (x.inn ++ r)) = x.inn.flatMap Sg.pre ++ r.flatMap Sg.pre := List.flatMap_append
      rw [e]
      refine ⟨by rw [rev_drop, List.length_reverse, List.length_map, List.length_reverse, List.length_map]; omega, hN _ ?_ _ ⟨x.inn ++ r, n + 1, _, rfl, fun y hy => ?_, ?_, ?_, rfl⟩⟩
      · rw [e2, hx]
        simp
      · refine h1 y ?_
        rw [e2] at hy
        rw [hx, List.cons_append]
        exact List.mem_cons_of_mem _ hy
      · rw [e2, List.length_append]
        omega
      · rw [h3, e2, hx]
        conv => lhs; unfold mis
        rw [List.cons_append]
        simp only [hb, Bool.false_eq_true, if_false]
end
end Q

set_option autoImplicit false
set_option linter.all false
/-! VR: free variables -/
namespace Q
open PySem L2
open RF (top Df e_app app_e len_app)
local macro_rules | `(tactic| walk_at "u") => `(tactic| simp (config := { dsimp := false, maxSteps := 2000000 }) only [↓CL_of, ↓IT_of, ↓LC_of, ↓LP_of, ↓WH_of, ↓CT_of, ↓IC_of, ↓SC_of, ↓wSeq, ↓wFirst, ↓wStar, ↓wExtT, pBackT, pSoSet, pSoKey, cutD2, ↓wPar3, ↓wLc2, lcW2, List.isEmpty_cons, List.isEmpty_nil, Int.cast_ofNat_Int, Int.natCast_one, Int.natCast_zero, Int.reduceEq, Int.reduceLE, Int.reduceLT, ↓wIfS, ↓wYes, ↓wOpV, ↓wOp, ↓wC, ↓wUn, ↓wRet, ↓wJoin, ↓wJs, ↓wArg, ↓wCons, ↓wVar, ↓wBor, ↓wMv, ↓wSet, ↓wAsg, ↓wNm, ↓wTg, ↓wGCons, ↓wApp, ↓wPop, ↓wExt, ↓wSub, ↓wDrop, ↓wPar, ↓wAug, ↓wAnd, ↓wOr, ↓wNot, ↓wTru, truP, ↓wIf, ↓wAndV, ↓wOrV, ↓wNotV, ↓wChain, ↓wSl, ↓wSlV, ↓wPart, ↓wM1, ↓wMN, pStarts, pEnds, pRfind, pStripC, pParts, pStarts3, pFind3, pSS, pSSI, pMax3, ↓wFor, ↓wLc, ↓wList, ↓wTupI, ↓wRng1, ↓wRng2, ↓wEnum, ↓wZip, ↓wRevI, ↓wStrI, ↓wKw, pCallV, wipeE, pTupN, pLstN, pIx, pSl, pRev, pLen, pAbs, pInt, pBool, pStr, pList, pTuple, pSum, pNums, pBls, pIsi, pIsi2, tyN, aI_fold, cutD1, inD_nil, inD_cons, Bool.or_eq_true, decide_eq_true_eq, Bool.or_false, Bool.false_or, Bool.true_or, Bool.or_true, decide_true, decide_false, or_false, false_or, or_true, true_or, List.all_cons, List.all_nil, Bool.and_self, Bool.not_true, Bool.not_false, iff_self, if_true, if_false, Bool.false_eq_true, ofS_inj, String.reduceEq, ati0, ati1, ati2, ati3, ati4, exists_and_left, isi_NoneType_bool, isi_NoneType_int, isi_NoneType_str, isi_NoneType_list, isi_NoneType_tuple, isi_bool_bool, isi_bool_int, isi_bool_str, isi_bool_list, isi_bool_tuple, isi_int_bool, isi_int_int, isi_int_str, isi_int_list, isi_int_tuple, isi_str_bool, isi_str_int, isi_str_str, isi_str_list, isi_str_tuple, isi_list_bool, isi_list_int, isi_list_str, isi_list_list, isi_list_tuple, isi_tuple_bool, isi_tuple_int, isi_tuple_str, isi_tuple_list, isi_tuple_tuple, isi_dict_bool, isi_dict_int, isi_dict_str, isi_dict_list, isi_dict_tuple, mi_bool, mi_int, mi_str, mi_list, mi_tuple, pI2, pI2N, pAdd, pSub, pMul, pNeg, pEqF, pOrd, pIs, pIn, isNon, D.told, D.flat, pFmt, pDivmod, startE, fzs, List.map_cons, List.map_nil, List.length_cons, List.length_nil, List.cons_append, List.nil_append, List.replicate, get_s, get_z, List.set_cons_zero, List.set_cons_succ, Option.some.injEq, exists_eq', true_and, and_true, exists_eq_left', Sl.toD, Nat.sub_self, Nat.reduceAdd, Nat.reduceLeDiff, Nat.reduceLT, Int.reduceToNat, Nat.reduceSub, scalD, eqD_int, eqD_str, eqD_tt, eqD_ff, eqD_tf, eqD_ft, id_eq, reduceCtorEq, false_implies, implies_true, D.int.injEq, D.str.injEq, D.lst.injEq, D.tup.injEq, Sl.fz.injEq, Sl.ol.injEq, RF.e_app, RF.app_e, RF.emp_eq, IT_t, IT_f, IT_T, IT_F, IT_d, IT_n, IT_not])
local macro_rules | `(tactic| walk_at "l") => `(tactic| first | omega | (simp only [RF.len_app, RF.e_app, RF.app_e, RF.emp_eq, sizeLine_eq, l_dash, l_plus, l_r, l_emp, l_lp, l_rpd, l_slash, l_star, l_sp1, l_sp2, l_flo, l_com, l_rp, l_le, l_equ, l_und, l_lea, l_not, l_allS, l_some, l_spc, l_ors, l_ands, List.map_cons, List.map_nil, List.sum_cons, List.sum_nil, List.length_cons, List.length_nil, List.length_map, List.length_append, List.length_replicate, List.length_range] <;> omega))
local macro_rules | `(tactic| walk_at "f") => `(tactic| ((repeat' apply And.intro) <;> first | assumption | walk_at "l"))
local macro_rules | `(tactic| walk_at "s") => `(tactic| (repeat (refine And.intro (by walk_at "l") ?_)))
def vTermsOf : Ph := fun ds k _ => ∃ s : Sg, ds = [s.d] ∧ s.isBad = false ∧ k (.ol (s.tms.map Lt.d))
def vTVars : Ph := fun ds k _ => ∃ t : Lt, ds = [t.d] ∧ t.its.length ≤ 1000 ∧ k (.ol ((sos t.ns).map .str))
def vFree (n : Nat) : Ph := fun ds k _ => ∃ s : Sg, ds = [s.d] ∧ s.pre.length ≤ n ∧ s.good ∧ s.ok ∧ s.cn < 64 ∧ k (.ol (s.fr.map .str))
theorem lc2_fix {vs vs1 : List Nat} {g g1 : WG} {c c1 : WT} {wi1 : WI} {we : WE} {k : List D → Ev → Prop} {ρ0 : Ev} (I : List D → List D → Prop) (h0 : ∀ acc, I [] acc → k acc ρ0)
    (hs : ∀ (d : D) (ds acc : List D) (N : List D → Ev → Prop), I (d :: ds) acc → (∀ acc', I ds acc' → N acc' ρ0) →
      g (.fz d) ρ0 fun ρ1 => c ρ1 fun b ρ2 => if b = true then wi1 ρ2 fun es ρ3 => lcW vs1 g1 c1 we es acc (wipeE ρ3 vs1) fun acc' ρ4 => N acc' (wipeE ρ4 vs) else N acc (wipeE ρ2 vs)) :
    ∀ (ds acc : List D), I ds acc → lcW2 vs vs1 g c wi1 g1 c1 we ds acc ρ0 k
  | [], acc, h => h0 acc h
  | d :: ds, acc, h => hs d ds acc (fun acc' ρ => lcW2 vs vs1 g c wi1 g1 c1 we ds acc' ρ k) h fun acc' h' => lc2_fix I h0 hs ds acc' h'
theorem vFree_mono (m n : Nat) (h : m ≤ n) (ds : List D) (κ : Sl → Prop) (e : Exc → Prop) : vFree m ds κ e → vFree n ds κ e := fun ⟨s, h1, h2, h3⟩ => ⟨s, h1, Nat.le_trans h2 h, h3⟩
section
variable {P : Program} {w : World} {K : PySem.W.Frag} {mg : Str → Option Value} {base : Heap}
abbrev s_terms_of : Stmt := top 35
abbrev n_terms_of : List Str := ["part"]
theorem sc_terms_of : FnScope n_terms_of ["part"] (defScope s_terms_of) := ⟨rfl, rfl, rfl, by decide +kernel, rfl, by decide +kernel, by decide +kernel⟩
theorem vk_termsof {f : Addr} {fd : FuncData} {j : Nat} (Fu : Fun K "terms_of" "terms_of" s_terms_of f fd) (T : TN mg) : FnOk P w K mg base CX0 (j + 1) f fd ["part"] (spD K mg false vTermsOf) := by
  refine fn_pd Fu sc_terms_of (fun ds k xk h => by obtain ⟨s, rfl, _⟩ := h; rfl) fun cdv A outer s H E C ds k xk hr Fi hu φ => ?_
  have nd := sc_terms_of.nd
  refine ⟨_, _, (qss_cons (qs_if (qt_cmp (op_inA (un65 hr)) (l_in Fi) (pd_ixV ix_seq (l_ix Fi) (pv 0) (PD.b pd_int) (fun _ _ => rfl)) (PD.b (pd_tup (qa_cons pd_str (qa_cons pd_str qa_nil)))) rfl)
      (qss_one (qs_ret (pd_lst (qa_cons (pd_ixV ix_seq (l_ix Fi) (pv 0) (PD.b pd_int) (fun _ _ => rfl)) (qa_cons (pd_ixV ix_seq (l_ix Fi) (pv 0) (PD.b pd_int) (fun _ _ => rfl)) qa_nil)))))
      qss_nil)
      (qss_cons (qs_if (qt_cmp (op_eqA hr.units) (l_eq Fi) (pd_ixV ix_seq (l_ix Fi) (pv 0) (PD.b pd_int) (fun _ _ => rfl)) (PD.b pd_str) (nomark _))
      (qss_one (qs_ret (pd_lst (qa_cons (pd_ixV ix_seq (l_ix Fi) (pv 0) (PD.b pd_int) (fun _ _ => rfl)) (qa_cons (pd_ixV ix_seq (l_ix Fi) (pv 0) (PD.b pd_int) (fun _ _ => rfl)) qa_nil)))))
      qss_nil)
      (qss_cons (qs_if (qt_cmp (op_eqA hr.units) (l_eq Fi) (pd_ixV ix_seq (l_ix Fi) (pv 0) (PD.b pd_int) (fun _ _ => rfl)) (PD.b pd_str) (nomark _))
      (qss_one (qs_ret (pd_lst (qa_cons (pd_ixV ix_seq (l_ix Fi) (pv 0) (PD.b pd_int) (fun _ _ => rfl)) qa_nil))))
      qss_nil)
      (qss_one (qs_ret (pd_lst qa_nil)))))), ?_⟩
  obtain ⟨s, rfl, ho, q⟩ := φ
  cases s with
  | cm l a b => cases l <;> (unfold Sg.d; walk_at "u"; exact q)
  | lv a m r0 => unfold Sg.d; walk_at "u"; exact q
  | bad a => cases ho
  | no a => unfold Sg.d; walk_at "u"; exact q
  | an o a b => cases o <;> (unfold Sg.d; walk_at "u"; exact q)
  | a3 a b c => unfold Sg.d; walk_at "u"; exact q
  | qu f x a => cases f <;> (unfold Sg.d; walk_at "u"; exact q)
abbrev s_term_variables : Stmt := top 36
abbrev n_term_variables : List Str := ["term", "names", "_", "thing"]
theorem sc_term_variables : FnScope n_term_variables ["term"] (defScope s_term_variables) := ⟨rfl, rfl, rfl, by decide +kernel, rfl, by decide +kernel, by decide +kernel⟩
theorem vk_tvars {f : Addr} {fd : FuncData} {j : Nat} (Fu : Fun K "term_variables" "term_variables" s_term_variables f fd) (T : TN mg) (TS : mg "set" = none) (D_term_variables : Df P w K mg base j "term_variables" ["term"] (spD K mg false vNo)) : FnOk P w K mg base CX0 (j + 1) f fd ["term"] (spD K mg false vTVars) := by
  refine fn_pd Fu sc_term_variables (fun ds k xk h => by obtain ⟨s, rfl, _⟩ := h; rfl) fun cdv A outer s H E C ds k xk hr Fi hu φ => ?_
  have nd := sc_term_variables.nd
  refine ⟨_, _, (qss_cons (qs_set (i := 1) nd rfl (Or.inl rfl) (pd_lst qa_nil))
      (qss_cons (qs_for PassesOwn.never rfl (qi_tup Fi (pd_ixV ix_seq (l_ix Fi) (pv 0) (PD.b pd_int) (fun _ _ => rfl))) (qg_tup (n := 2) Fi rfl (qgs_cons (qg_name (pg_name (i := 2) nd rfl (Or.inl rfl))) (qgs_cons (qg_name (pg_name (i := 3) nd rfl (Or.inl rfl))) qgs_nil)))
      (qss_one (qs_set (i := 1) nd rfl (Or.inl rfl) (pd_if (qt_val (PD.b (pd_callB call_isi (l_isi Fi) (by rfl) T.isinstance (by decide +kernel) (qa_cons (pd_var (pv 3)) (qa_cons (pd_ty (n := "str") (by rfl) T.str (by decide +kernel)) qa_nil))))) (pd_lst (qa_star Fi (pd_var (pv 1)) (qa_cons (pd_var (pv 3)) qa_nil))) (pd_lst (qa_star Fi (pd_var (pv 1)) (qa_star Fi (pd_call Fi D_term_variables hr (Nat.le_refl _) (qa_cons (pd_ixV ix_seq (l_ix Fi) (pv 3) (PD.b pd_int) (fun _ _ => rfl)) qa_nil)) qa_nil)))))))
      (qss_one (qs_ret (pd_sosetW Fi (pb_var (pv 1)) rfl (by rfl) T.sorted (by rfl) TS))))), ?_⟩
  obtain ⟨t, rfl, hl, q⟩ := φ
  unfold Lt.d
  walk_at "u"
  refine loop_ind (fun ds ρ => ∃ (pre post : List (Int × Str)) (v2 v3 : Option Sl), t.its = pre ++ post ∧ ds = post.map itD ∧ ρ = [some (.fz (.tup [.tup (t.its.map itD), .int t.c])), some (.ol ((pre.map (·.2)).map .str)), v2, v3]) (fun ρ h => ?_) (fun d ds ρ N h hN => ?_) _ _ ⟨[], t.its, none, none, rfl, rfl, rfl⟩
  · obtain ⟨pre, post, v2, v3, e1, e2, rfl⟩ := h
    obtain rfl : post = [] := List.map_eq_nil_iff.mp e2.symm
    rw [List.append_nil] at e1
    walk_at "u"
    refine ⟨_, strs_map _, by rw [List.length_map, ← e1]; omega, ?_⟩
    rw [← e1]
    exact q
  · obtain ⟨pre, post, v2, v3, e1, e2, rfl⟩ := h
    cases post with
    | nil => cases e2
    | cons p post =>
      cases e2
      have hp : pre.length + (post.length + 1) ≤ 1000 := by rw [e1, List.length_append, List.length_cons] at hl; exact hl
      rw [show itD p = .tup [.int p.1, .str p.2] from rfl]
      walk_at "u"
      refine ⟨by rw [List.length_append, List.length_map, List.length_map, List.length_singleton]; omega, ?_⟩
      exact hN _ ⟨pre ++ [p], post, some (.fz (.int p.1)), some (.fz (.str p.2)), by rw [e1]; simp, rfl, by simp⟩
abbrev s_free_variables : Stmt := top 34
abbrev n_free_variables : List Str := ["saying", "names", "term", "inner", "name"]
theorem sc_free_variables : FnScope n_free_variables ["saying"] (defScope s_free_variables) := ⟨rfl, rfl, rfl, by decide +kernel, rfl, by decide +kernel, by decide +kernel⟩
theorem vk_free {f : Addr} {fd : FuncData} {j n : Nat} (Fu : Fun K "free_variables" "free_variables" s_free_variables f fd) (T : TN mg) (TS : mg "set" = none) (D_inner : Df P w K mg base j "_inner" ["part"] (spD K mg false vInner)) (D_terms_of : Df P w K mg base j "terms_of" ["part"] (spD K mg false vTermsOf))
    (D_term_variables : Df P w K mg base j "term_variables" ["term"] (spD K mg false vTVars)) (D_free_variables : Df P w K mg base j "free_variables" ["saying"] (spD K mg false (below vFree n))) : FnOk P w K mg base CX0 (j + 1) f fd ["saying"] (spD K mg false (vFree n)) := by
  refine fn_pd Fu sc_free_variables (fun ds k xk h => by obtain ⟨s, rfl, _⟩ := h; rfl) fun cdv A outer s H E C ds k xk hr Fi hu φ => ?_
  have nd := sc_free_variables.nd
  refine ⟨_, _, (qss_cons (qs_setLc2 (i := 1) (own := [("inner", 3), ("name", 4)]) (vs1 := [4]) rfl nd rfl rfl (sw_true rfl rfl rfl (by decide +kernel)) (qi_tup Fi (pd_call Fi D_inner hr (Nat.le_refl _) (qa_cons (pd_var (pv 0)) qa_nil))) (blkOk_by (own := [("inner", 3), ("name", 4)]) (N := n_free_variables) (sc := defScope s_free_variables) (by decide +kernel)) (fun _ _ _ _ _ => (qg_name (pg_name (i := 3) nd rfl (Or.inl rfl)))) (fun _ _ _ _ _ => qts_nil) (fun _ _ _ _ _ => qi_list (pd_call (Fi.blk) D_free_variables hr (Nat.le_refl _) (qa_cons (pd_var (pv 3)) qa_nil))) (fun _ _ _ _ _ => (qg_name (pg_name (i := 4) nd rfl (Or.inl rfl)))) (fun _ _ _ _ _ => qts_nil) (fun _ _ _ _ _ => pd_var (pv 4)))
      (qss_cut (qs_if (qt_cmp (op_inA (un65 hr)) (l_in Fi) (pd_ixV ix_seq (l_ix Fi) (pv 0) (PD.b pd_int) (fun _ _ => rfl)) (PD.b (pd_tup (qa_cons pd_str (qa_cons pd_str qa_nil)))) rfl)
      (qss_one (qs_setLc (i := 1) (own := [("name", 4)]) rfl nd rfl rfl (sw_true rfl rfl rfl (by decide +kernel)) (qi_list (pd_var (pv 1))) (blkOk_by (own := [("name", 4)]) (N := n_free_variables) (sc := defScope s_free_variables) (by decide +kernel)) (fun _ _ _ _ _ => (qg_name (pg_name (i := 4) nd rfl (Or.inl rfl)))) (fun _ _ _ _ _ => (qts_one (qt_cmpV (op_neA hr.units) (l_ne (Fi.blk)) (pv 4) (PD.b (pd_ixV ix_seq (l_ix (Fi.blk)) (pv 0) (PD.b pd_int) (fun _ _ => rfl))) (nomark _)))) (fun _ _ _ _ _ => (pd_var (pv 4)))))
      qss_nil)
      (qss_cut (qs_if (qt_cmp (op_eqA hr.units) (l_eq Fi) (pd_ixV ix_seq (l_ix Fi) (pv 0) (PD.b pd_int) (fun _ _ => rfl)) (PD.b pd_str) (nomark _))
      (qss_one (qs_set (i := 1) nd rfl (Or.inl rfl) (pd_callTy1 call_list_of (l_list Fi) (by rfl) T.list (by decide +kernel) (PD.b (pd_ixV ix_seq (l_ix Fi) (pv 0) (PD.b pd_int) (fun _ _ => rfl))))))
      qss_nil)
      (qss_cons (qs_for PassesOwn.never rfl (qi_list (pd_call Fi D_terms_of hr (Nat.le_refl _) (qa_cons (pd_var (pv 0)) qa_nil))) (qg_name (pg_name (i := 2) nd rfl (Or.inl rfl)))
      (qss_one (qs_set (i := 1) nd rfl (Or.inl rfl) (pd_lst (qa_star Fi (pd_var (pv 1)) (qa_star Fi (pd_call Fi D_term_variables hr (Nat.le_refl _) (qa_cons (pd_var (pv 2)) qa_nil)) qa_nil))))))
      (qss_one (qs_ret (pd_sosetW Fi (pb_var (pv 1)) rfl (by rfl) T.sorted (by rfl) TS))))))), ?_⟩
  obtain ⟨s, rfl, hn, hg, ho, hc, q⟩ := φ
  have hb : s.isBad = false := hg s (by rw [pre_eq]; exact List.mem_cons_self)
  have hlen := len_raw (s := s)
  rw [List.length_append] at hlen
  walk_at "u"
  refine ⟨s, rfl, hb, ?_⟩
  walk_at "u"
  refine lc2_fix (fun ds acc => ∃ pre post : List Sg, s.inn = pre ++ post ∧ ds = post.map Sg.d ∧ acc = (pre.flatMap Sg.fr).map .str) (fun acc h => ?_) (fun d ds acc N h hN => ?_) _ _ ⟨[], s.inn, rfl, rfl, rfl⟩
  · obtain ⟨pre, post, e1, e2, rfl⟩ := h
    obtain rfl : post = [] := List.map_eq_nil_iff.mp e2.symm
    rw [List.append_nil] at e1
    rw [← e1]
    walk_at "u"
    refine cut1 [some (.fz s.d), some (.ol (s.nm1.map .str)), none, none, none] ?_ ?_
    · cases s with
      | cm l a b => cases l <;> (unfold Sg.d; walk_at "u"; rfl)
      | lv a m r0 => unfold Sg.d; walk_at "u"; rfl
      | bad a => cases hb
      | no a => unfold Sg.d; walk_at "u"; rfl
      | an o a b => cases o <;> (unfold Sg.d; walk_at "u"; rfl)
      | a3 a b c => unfold Sg.d; walk_at "u"; rfl
      | qu f x a =>
        have e0 : (Sg.qu f x a).inn.flatMap Sg.fr = a.fr := by simp [Sg.inn]
        have hl2 : a.fr.length < 64 := by
          rw [e0] at hlen
          omega
        rw [e0]
        obtain ⟨wd, hwd, hdd⟩ : ∃ wd : Str, (Sg.qu f x a).d = .tup [.str wd, .str x, a.d] ∧ (wd = Str.ofString "some" ∨ wd = Str.ofString "all") := by
          cases f
          · exact ⟨_, rfl, .inr rfl⟩
          · exact ⟨_, rfl, .inl rfl⟩
        rw [hwd]
        rcases hdd with rfl | rfl <;> (
          walk_at "u"
          refine lc_fix (fun ds acc => ∃ pre post : List Str, a.fr = pre ++ post ∧ ds = post.map .str ∧ acc = (dropS x pre).map .str) ⟨[], a.fr, rfl, rfl, rfl⟩ (fun acc h => ?_) (fun d ds acc N h hN => ?_)
          · obtain ⟨pre, post, e1, e2, rfl⟩ := h
            obtain rfl : post = [] := List.map_eq_nil_iff.mp e2.symm
            rw [List.append_nil] at e1
            rw [← e1]
            walk_at "u"
            rfl
          · obtain ⟨pre, post, e1, e2, rfl⟩ := h
            cases post with
            | nil => cases e2
            | cons y post =>
              cases e2
              have h5 := len_drop x pre
              have h6 : pre.length + (post.length + 1) < 64 := by rw [e1, List.length_append, List.length_cons] at hl2; exact hl2
              walk_at "u"
              refine ⟨fun h => ?_, fun h => ?_⟩
              · walk_at "u"
                refine hN _ ⟨pre ++ [y], post, by rw [e1]; simp, rfl, ?_⟩
                unfold dropS
                simp [h]
              · walk_at "u"
                refine ⟨by rw [List.length_map]; omega, hN _ ⟨pre ++ [y], post, by rw [e1]; simp, rfl, ?_⟩⟩
                unfold dropS
                simp [h])
    walk_at "u"
    refine cut1 [some (.fz s.d), some (.ol (s.nm1.map .str)), none, none, none] ?_ ?_
    · cases s with
      | cm l a b => cases l <;> (unfold Sg.d; walk_at "u"; first | done | rfl)
      | lv a m r0 => unfold Sg.d; walk_at "u"; first | done | rfl
      | bad a => cases hb
      | no a => unfold Sg.d; walk_at "u"; first | done | rfl
      | an o a b => cases o <;> (unfold Sg.d; walk_at "u"; first | done | rfl)
      | a3 a b c => unfold Sg.d; walk_at "u"; first | done | rfl
      | qu f x a => cases f <;> (unfold Sg.d; walk_at "u"; first | done | rfl)
    walk_at "u"
    refine ⟨s, rfl, hb, ?_⟩
    walk_at "u"
    have hnm := nm_len s
    refine loop_ind (fun ds ρ => ∃ (pre post : List Lt) (v2 : Option Sl), s.tms = pre ++ post ∧ ds = post.map Lt.d ∧ ρ = [some (.fz s.d), some (.ol ((s.nm1 ++ pre.flatMap fun t => sos t.ns).map .str)), v2, none, none]) (fun ρ h => ?_) (fun d ds ρ N h hN => ?_) _ _ ⟨[], s.tms, none, rfl, rfl, by simp⟩
    · obtain ⟨pre, post, v2, e1, e2, rfl⟩ := h
      obtain rfl : post = [] := List.map_eq_nil_iff.mp e2.symm
      rw [List.append_nil] at e1
      walk_at "u"
      refine ⟨_, strs_map _, by rw [← e1]; omega, ?_⟩
      rw [← e1, fr_nm hb]
      exact q
    · obtain ⟨pre, post, v2, e1, e2, rfl⟩ := h
      cases post with
      | nil => cases e2
      | cons t post =>
        cases e2
        have ht : t.its.length ≤ 4 := by
          have hm : t ∈ s.tms := by rw [e1]; simp
          have hok := ok_head ho
          cases s with
          | cm l a b =>
            simp only [Sg.tms, List.mem_cons, List.not_mem_nil, or_false] at hm
            rcases hm with rfl | rfl
            · exact hok.1.1
            · exact hok.2.1
          | lv a m r0 =>
            simp only [Sg.tms, List.mem_cons, List.not_mem_nil, or_false] at hm
            rw [hm]
            exact hok.1.1
          | _ => cases hm
        have hle : (s.nm1 ++ (pre ++ t :: post).flatMap fun t => sos t.ns).length ≤ s.cn := by rw [← e1]; exact hnm
        walk_at "u"
        refine ⟨t, rfl, by omega, ?_⟩
        walk_at "u"
        refine ⟨?_, hN _ ⟨pre ++ [t], post, some (.fz t.d), by rw [e1]; simp, rfl, by simp⟩⟩
        simp only [List.flatMap_append, List.flatMap_cons, List.length_append, List.length_map, List.length_nil] at hle ⊢
        omega
  · obtain ⟨pre, post, e1, e2, rfl⟩ := h
    cases post with
    | nil => cases e2
    | cons x post =>
      cases e2
      have hx : x ∈ s.inn := by rw [e1]; simp
      have hle : (pre.flatMap Sg.fr).length + x.fr.length ≤ s.cn := by
        rw [e1] at hlen
        simp only [List.flatMap_append, List.flatMap_cons, List.length_append] at hlen
        omega
      walk_at "u"
      refine ⟨x.pre.length, Nat.lt_of_lt_of_le (len_inn hx) hn, x, rfl, Nat.le_refl _, good_inn hg hx, ok_inn ho hx, Nat.lt_of_le_of_lt (cn_inn hx) hc, ?_⟩
      walk_at "u"
      refine lc_fix (fun es acc => ∃ p2 q2 : List Str, x.fr = p2 ++ q2 ∧ es = q2.map .str ∧ acc = (pre.flatMap Sg.fr ++ p2).map .str) ⟨[], x.fr, rfl, rfl, by simp⟩ (fun acc h => ?_) (fun d es acc N2 h hN2 => ?_)
      · obtain ⟨p2, q2, g1, g2, rfl⟩ := h
        obtain rfl : q2 = [] := List.map_eq_nil_iff.mp g2.symm
        rw [List.append_nil] at g1
        walk_at "u"
        exact hN _ ⟨pre ++ [x], post, by rw [e1]; simp, rfl, by rw [← g1]; simp⟩
      · obtain ⟨p2, q2, g1, g2, rfl⟩ := h
        cases q2 with
        | nil => cases g2
        | cons y q2 =>
          cases g2
          walk_at "u"
          refine ⟨?_, hN2 _ ⟨p2 ++ [y], q2, by rw [g1]; simp, rfl, by simp⟩⟩
          rw [g1, List.length_append, List.length_cons] at hle
          rw [List.length_map, List.length_append]
          omega
theorem all_vfree {f : Addr} {fd : FuncData} {k : Nat} (Fu : Fun K "free_variables" "free_variables" s_free_variables f fd) (T : TN mg) (TS : mg "set" = none) (D_inner : Df P w K mg base k "_inner" ["part"] (spD K mg false vInner)) (D_terms_of : Df P w K mg base k "terms_of" ["part"] (spD K mg false vTermsOf))
    (D_term_variables : Df P w K mg base k "term_variables" ["term"] (spD K mg false vTVars)) (b : Binds K fd ["saying"] []) (mt : mg "free_variables" = some (.ref f)) : ∀ n : Nat, FnOk P w K mg base CX0 (k + 1 * n + 1) f fd ["saying"] (spD K mg false (vFree n)) :=
  rec_fn (Φ := vFree) k 1 vFree_mono fun n j hj IH => vk_free Fu T TS (dmono D_inner hj) (dmono D_terms_of hj) (dmono D_term_variables hj) ⟨_, _, IH, b, mt, Fu.kp⟩
end
end Q

set_option autoImplicit false
set_option linter.all false
/-! VS: what is bound; which sayings are known, which are refused -/
namespace Q
open PySem L2
open RF (top Df DfX e_app app_e len_app)
local macro_rules | `(tactic| walk_at "u") => `(tactic| simp (config := { dsimp := false, maxSteps := 2000000 }) only [↓CL_of, ↓IT_of, ↓LC_of, ↓LP_of, ↓WH_of, ↓CT_of, ↓IC_of, ↓SC_of, ↓wSeq, ↓wFirst, ↓wStar, ↓wExtT, pBackT, pSoSet, pSoKey, cutD2, ↓wPar3, ↓wLc2, lcW2, List.isEmpty_cons, List.isEmpty_nil, Int.cast_ofNat_Int, Int.natCast_one, Int.natCast_zero, Int.reduceEq, Int.reduceLE, Int.reduceLT, ↓wIfS, ↓wYes, ↓wOpV, ↓wOp, ↓wC, ↓wUn, ↓wRet, ↓wJoin, ↓wJs, ↓wArg, ↓wCons, ↓wVar, ↓wBor, ↓wMv, ↓wSet, ↓wAsg, ↓wNm, ↓wTg, ↓wGCons, ↓wApp, ↓wPop, ↓wExt, ↓wSub, ↓wDrop, ↓wPar, ↓wAug, ↓wAnd, ↓wOr, ↓wNot, ↓wTru, truP, ↓wIf, ↓wAndV, ↓wOrV, ↓wNotV, ↓wChain, ↓wSl, ↓wSlV, ↓wPart, ↓wM1, ↓wMN, pStarts, pEnds, pRfind, pStripC, pParts, pStarts3, pFind3, pSS, pSSI, pMax3, ↓wFor, ↓wLc, ↓wList, ↓wTupI, ↓wRng1, ↓wRng2, ↓wEnum, ↓wZip, ↓wRevI, ↓wStrI, ↓wKw, pCallV, wipeE, pTupN, pLstN, pIx, pSl, pRev, pLen, pAbs, pInt, pBool, pStr, pList, pTuple, pSum, pNums, pBls, pIsi, pIsi2, tyN, aI_fold, cutD1, inD_nil, inD_cons, Bool.or_eq_true, decide_eq_true_eq, Bool.or_false, Bool.false_or, Bool.true_or, Bool.or_true, decide_true, decide_false, or_false, false_or, or_true, true_or, List.all_cons, List.all_nil, Bool.and_self, Bool.not_true, Bool.not_false, iff_self, if_true, if_false, Bool.false_eq_true, ofS_inj, String.reduceEq, ati0, ati1, ati2, ati3, ati4, exists_and_left, isi_NoneType_bool, isi_NoneType_int, isi_NoneType_str, isi_NoneType_list, isi_NoneType_tuple, isi_bool_bool, isi_bool_int, isi_bool_str, isi_bool_list, isi_bool_tuple, isi_int_bool, isi_int_int, isi_int_str, isi_int_list, isi_int_tuple, isi_str_bool, isi_str_int, isi_str_str, isi_str_list, isi_str_tuple, isi_list_bool, isi_list_int, isi_list_str, isi_list_list, isi_list_tuple, isi_tuple_bool, isi_tuple_int, isi_tuple_str, isi_tuple_list, isi_tuple_tuple, isi_dict_bool, isi_dict_int, isi_dict_str, isi_dict_list, isi_dict_tuple, mi_bool, mi_int, mi_str, mi_list, mi_tuple, pI2, pI2N, pAdd, pSub, pMul, pNeg, pEqF, pOrd, pIs, pIn, isNon, D.told, D.flat, pFmt, pDivmod, startE, fzs, List.map_cons, List.map_nil, List.length_cons, List.length_nil, List.cons_append, List.nil_append, List.replicate, get_s, get_z, List.set_cons_zero, List.set_cons_succ, Option.some.injEq, exists_eq', true_and, and_true, exists_eq_left', Sl.toD, Nat.sub_self, Nat.reduceAdd, Nat.reduceLeDiff, Nat.reduceLT, Int.reduceToNat, Nat.reduceSub, scalD, eqD_int, eqD_str, eqD_tt, eqD_ff, eqD_tf, eqD_ft, id_eq, reduceCtorEq, false_implies, implies_true, D.int.injEq, D.str.injEq, D.lst.injEq, D.tup.injEq, Sl.fz.injEq, Sl.ol.injEq, RF.e_app, RF.app_e, RF.emp_eq, IT_t, IT_f, IT_T, IT_F, IT_d, IT_n, IT_not])
local macro_rules | `(tactic| walk_at "l") => `(tactic| first | omega | (simp only [RF.len_app, RF.e_app, RF.app_e, RF.emp_eq, sizeLine_eq, l_dash, l_plus, l_r, l_emp, l_lp, l_rpd, l_slash, l_star, l_sp1, l_sp2, l_flo, l_com, l_rp, l_le, l_equ, l_und, l_lea, l_not, l_allS, l_some, l_spc, l_ors, l_ands, List.map_cons, List.map_nil, List.sum_cons, List.sum_nil, List.length_cons, List.length_nil, List.length_map, List.length_append, List.length_replicate, List.length_range] <;> omega))
local macro_rules | `(tactic| walk_at "f") => `(tactic| ((repeat' apply And.intro) <;> first | assumption | walk_at "l"))
local macro_rules | `(tactic| walk_at "s") => `(tactic| (repeat (refine And.intro (by walk_at "l") ?_)))
def scP (p : Sg × List Str) : List (Sg × List Str) := p.1.sc p.2
def stD (p : Sg × List Str) : D := .tup [p.1.d, .lst (p.2.map .str)]
def vMib : Ph := fun ds k _ => ∃ s : Sg, ds = [s.d] ∧ s.pre.length ≤ 20 ∧ s.good ∧ s.ok ∧ s.cn < 64 ∧ k (.fz (optD s.due))
def vWrong : Ph := fun ds k _ => ∃ s : Sg, ds = [s.d] ∧ s.pre.length ≤ 20 ∧ s.ok ∧ (mis s.pre 0 = none → s.good) ∧ s.cn < 64 ∧ k (.fz (optD s.wrong))
def vSays : Ph := fun ds k _ => ∃ s : Sg, ds = [s.d] ∧ s.pre.length ≤ 20 ∧ s.ok ∧ (mis s.pre 0 = none → s.good) ∧ s.cn < 64 ∧ k (.fz (.bl s.wrong.isNone))
def vCheck : Ph := fun ds k xk => ∃ s : Sg, ds = [s.d] ∧ s.pre.length ≤ 20 ∧ s.ok ∧ (mis s.pre 0 = none → s.good) ∧ s.cn < 64 ∧ (s.wrong = none → k (.fz .non)) ∧ ∀ n, s.wrong = some n → xk (exc1 "InvalidSaying" "number" (.int (n : Nat)))
theorem len_scP : ∀ l : List (Sg × List Str), l.length ≤ (l.flatMap scP).length
  | [] => Nat.le_refl _
  | p :: r => by
    rw [List.flatMap_cons, List.length_append, List.length_cons]
    have := len_scP r
    have h : (scP p).length = p.1.pre.length := by
      have := congrArg List.length (sc_pre p.1 p.2)
      rw [List.length_map] at this
      exact this
    have := len_pre p.1
    omega
theorem mis_none : ∀ {l : List Sg} {n : Nat}, mis l n = none → ∀ x ∈ l, x.isBad = false
  | [], n, h, x, hx => by cases hx
  | y :: r, n, h, x, hx => by
    unfold mis at h
    cases hy : y.isBad with
    | true => rw [hy] at h; cases h
    | false =>
      rw [hy] at h
      rcases List.mem_cons.mp hx with rfl | hx
      · exact hy
      · exact mis_none h x hx
section
variable {P : Program} {w : World} {K : PySem.W.Frag} {mg : Str → Option Value} {base : Heap}
abbrev s_first_misbound : Stmt := top 29
abbrev n_first_misbound : List Str := ["saying", "free", "waiting", "number", "part", "around", "inner"]
theorem sc_first_misbound : FnScope n_first_misbound ["saying"] (defScope s_first_misbound) := ⟨rfl, rfl, rfl, by decide +kernel, rfl, by decide +kernel, by decide +kernel⟩
theorem vk_mib {f : Addr} {fd : FuncData} {j : Nat} (Fu : Fun K "_first_misbound" "_first_misbound" s_first_misbound f fd) (T : TN mg) {tk : Tok} (mA : mg "MOST_AROUND" = some (.int 3 tk)) (D_free_variables : Df P w K mg base j "free_variables" ["saying"] (spD K mg false (vFree 20))) (D_inner : Df P w K mg base j "_inner" ["part"] (spD K mg false vInner)) : FnOk P w K mg base CX0 (j + 1) f fd ["saying"] (spD K mg false vMib) := by
  refine fn_pd Fu sc_first_misbound (fun ds k xk h => by obtain ⟨s, rfl, _⟩ := h; rfl) fun cdv A outer s H E C ds k xk hr Fi hu φ => ?_
  have nd := sc_first_misbound.nd
  refine ⟨_, _, (qss_cons (qs_set (i := 1) nd rfl (Or.inl rfl) (pd_call Fi D_free_variables hr (Nat.le_refl _) (qa_cons (pd_var (pv 0)) qa_nil)))
      (qss_cons (qs_set (i := 2) nd rfl (Or.inl rfl) (pd_lst (qa_cons (pd_tup (qa_cons (pd_var (pv 0)) (qa_cons (pd_var (pv 1)) qa_nil))) qa_nil)))
      (qss_cons (qs_set (i := 3) nd rfl (Or.inl rfl) pd_int)
      (qss_cons (qs_while PassesOwn.never (qt_truth Fi (pb_var (pv 2)))
      (qss_cons (qs_asg (pd_popm (pv 2)) (qg_tup (n := 2) Fi rfl (qgs_cons (qg_name (pg_name (i := 4) nd rfl (Or.inl rfl))) (qgs_cons (qg_name (pg_name (i := 5) nd rfl (Or.inr rfl))) qgs_nil))))
        (qss_cons (qs_if (qt_cmp op_gtA l_ord (pd_callB1 call_len2 (l_len Fi) (by rfl) T.len (by decide +kernel) (pb_var (pv 5))) (PD.b (pd_c (pe_glob (v := .int 3) (by rfl) mA ⟨_, rfl⟩ ) (d := .int 3) fun _ => rfl)) (nomark _))
        (qss_one (qs_ret (pd_mv (pv 3))))
        qss_nil)
        (qss_cut (qs_if (qt_cmp (op_inA (un65 hr)) (l_in Fi) (pd_ixV ix_seq (l_ix Fi) (pv 4) (PD.b pd_int) (fun _ _ => rfl)) (PD.b (pd_tup (qa_cons pd_str (qa_cons pd_str qa_nil)))) rfl)
        (qss_cons (qs_if (qt_cmp (op_inA (un65 hr)) (l_in Fi) (pd_ixV ix_seq (l_ix Fi) (pv 4) (PD.b pd_int) (fun _ _ => rfl)) (pb_var (pv 5)) rfl)
          (qss_one (qs_ret (pd_mv (pv 3))))
          qss_nil)
          (qss_one (qs_set (i := 5) nd rfl (Or.inr rfl) (pd_lst (qa_star Fi (pd_var (pv 5)) (qa_cons (pd_ixV ix_seq (l_ix Fi) (pv 4) (PD.b pd_int) (fun _ _ => rfl)) qa_nil))))))
        qss_nil)
        (qss_cons (qs_expr (pd_ext (pv 2) (pd_comp (own := [("inner", 6)]) rfl nd (qi_tup Fi (pd_backT Fi (PD.b (pd_call Fi D_inner hr (Nat.le_refl _) (qa_cons (pd_var (pv 4)) qa_nil))))) (blkOk_by (own := [("inner", 6)]) (N := n_first_misbound) (sc := defScope s_first_misbound) (by decide +kernel)) (fun _ _ _ _ _ => (qg_name (pg_name (i := 6) nd rfl (Or.inl rfl)))) (fun _ _ _ _ _ => qts_nil) (fun _ _ _ _ _ => (pd_tup (qa_cons (pd_var (pv 6)) (qa_cons (pd_var (pv 5)) qa_nil)))))))
        (qss_one (qs_aug (i := 3) nd rfl (Or.inl rfl) pd_int ip_add)))))))
      (qss_one (qs_ret pd_non)))))), ?_⟩
  obtain ⟨s, rfl, hl, hg, ho, hc, q⟩ := φ
  walk_at "u"
  refine ⟨s, rfl, hl, hg, ho, hc, ?_⟩
  walk_at "u"
  refine wh_ind (fun m ρ => ∃ (st : List (Sg × List Str)) (n : Nat) (v4 v5 : Option Sl), m = (st.flatMap scP).length ∧ (∀ p ∈ st.flatMap scP, p.1.okh ∧ p.1.isBad = false ∧ ∀ z ∈ p.2, VrB z) ∧ (st.flatMap scP).length ≤ 20 ∧ s.due = mib (st.flatMap scP) n ∧
    ρ = [some (.fz s.d), some (.fz (.lst (s.fr.map .str))), some (.ol (st.map stD).reverse), some (.fz (.int (n : Nat))), v4, v5, none]) (fun m ρ N h hN => ?_) s.pre.length _ ⟨[(s, s.fr)], 0, none, none, ?_, ?_, ?_, ?_, rfl⟩
  · obtain ⟨st, n, v4, v5, rfl, h1, h2, h3, rfl⟩ := h
    cases st with
    | nil =>
      walk_at "u"
      refine IT.pos rfl ?_
      walk_at "u"
      rw [h3] at q
      exact q
    | cons p r =>
      obtain ⟨x, ar⟩ := p
      have hx := sc_eq x ar
      have hok := h1 (x, ar) (by rw [List.flatMap_cons]; unfold scP; rw [hx]; simp)
      walk_at "u"
      refine IT.neg (by simp) ?_
      walk_at "u"
      refine ⟨stD (x, ar), rev_last _ _, ?_⟩
      rw [show stD (x, ar) = .tup [x.d, .lst (ar.map .str)] from rfl]
      have el : (List.map D.str ar).length = ar.length := List.length_map ..
      have e0 : (List.flatMap scP ((x, ar) :: r)) = (x, ar) :: ((x.inn.map fun y => (y, x.arn ar)) ++ r).flatMap scP := by
        rw [List.flatMap_cons, List.flatMap_append, List.flatMap_map]
        show x.sc ar ++ _ = _
        rw [hx]
        rfl
      rw [e0] at h1 h2 h3 hN
      walk_at "u"
      rw [rev_drop, el]
      refine ⟨fun h => ?_, fun h => ?_⟩
      · walk_at "u"
        rw [h3] at q
        unfold mib at q
        rw [if_pos (Or.inl (by show 3 < ar.length; omega))] at q
        exact q
      · walk_at "u"
        refine cut (fun ρ' => x.bnd ar = false ∧ ∃ v5, (v5 = Sl.fz (.lst ((x.arn ar).map .str)) ∨ v5 = Sl.ol ((x.arn ar).map .str)) ∧ ρ' = [some (.fz s.d), some (.fz (.lst (s.fr.map .str))), some (.ol (r.map stD).reverse), some (.fz (.int (n : Nat))), some (.fz x.d), some v5, none]) ?_ ?_
        · cases x with
          | cm l a b => cases l <;> (unfold Sg.d; walk_at "u"; exact ⟨rfl, _, .inl rfl, rfl⟩)
          | lv a m r0 => unfold Sg.d; walk_at "u"; exact ⟨rfl, _, .inl rfl, rfl⟩
          | bad a => cases hok.2.1
          | no a => unfold Sg.d; walk_at "u"; exact ⟨rfl, _, .inl rfl, rfl⟩
          | an o a b => cases o <;> (unfold Sg.d; walk_at "u"; exact ⟨rfl, _, .inl rfl, rfl⟩)
          | a3 a b c => unfold Sg.d; walk_at "u"; exact ⟨rfl, _, .inl rfl, rfl⟩
          | qu f y a =>
            obtain ⟨wd, hwd, hdd⟩ : ∃ wd : Str, (Sg.qu f y a).d = .tup [.str wd, .str y, a.d] ∧ (wd = Str.ofString "some" ∨ wd = Str.ofString "all") := by
              cases f
              · exact ⟨_, rfl, .inr rfl⟩
              · exact ⟨_, rfl, .inl rfl⟩
            rw [hwd]
            rcases hdd with rfl | rfl <;> (
              walk_at "u"
              refine ⟨okD_str hok.1, okD_strs hok.2.2, ?_⟩
              rw [inD_mem]
              refine ⟨fun h => ?_, fun h => ?_⟩
              · walk_at "u"
                rw [h3] at q
                unfold mib at q
                rw [if_pos (Or.inr (show (Sg.qu f y a).bnd ar = true from h))] at q
                exact q
              · walk_at "u"
                refine ⟨by simp; omega, ?_, _, .inr ?_, rfl⟩
                · simpa [Sg.bnd] using h
                · simp [Sg.arn])
        · rintro ρ' ⟨hbn, v5, h5, rfl⟩
          walk_at "u"
          refine ⟨x, rfl, hok.2.1, ?_⟩
          walk_at "u"
          have hq : mib ((x, ar) :: List.flatMap scP (List.map (fun y => (y, x.arn ar)) x.inn ++ r)) n = mib (List.flatMap scP (List.map (fun y => (y, x.arn ar)) x.inn ++ r)) (n + 1) := by
            conv => lhs; unfold mib
            rw [if_neg]
            rintro (g | g)
            · have g : 3 < ar.length := g
              omega
            · have g : x.bnd ar = true := g
              rw [hbn] at g
              cases g
          have lr : r.length ≤ (r.flatMap scP).length := len_scP r
          have li : x.inn.length ≤ ((x.inn.map fun y => (y, x.arn ar)).flatMap scP).length := by
            have := len_scP (x.inn.map fun y => (y, x.arn ar))
            rw [List.length_map] at this
            exact this
          rw [List.length_cons, List.flatMap_append, List.length_append] at h2
          refine lc_ind (fun ds acc ρ => ∃ (pre post : List Sg) (u5 : Sl), x.inn.reverse = pre ++ post ∧ ds = post.map Sg.d ∧ acc = pre.map (fun y => stD (y, x.arn ar)) ∧ (u5 = Sl.fz (.lst ((x.arn ar).map .str)) ∨ u5 = Sl.ol ((x.arn ar).map .str)) ∧
            ρ = [some (.fz s.d), some (.fz (.lst (s.fr.map .str))), some (.ol (r.map stD).reverse), some (.fz (.int (n : Nat))), some (.fz x.d), some u5, none]) (fun acc ρ h => ?_) (fun d ds acc ρ N2 h hN2 => ?_) _ _ _ ⟨[], x.inn.reverse, v5, rfl, by rw [List.map_reverse], rfl, h5, rfl⟩
          · obtain ⟨pre, post, u5, e1, e2, rfl, h6, rfl⟩ := h
            obtain rfl : post = [] := List.map_eq_nil_iff.mp e2.symm
            rw [List.append_nil] at e1
            walk_at "u"
            have e3 : (r.map stD).reverse ++ pre.map (fun y => stD (y, x.arn ar)) = ((x.inn.map (fun y => (y, x.arn ar)) ++ r).map stD).reverse := by
              rw [← e1, List.map_append, List.reverse_append, List.map_map, List.map_reverse]
              rfl
            rw [e3]
            refine ⟨by rw [← e1]; simp; omega, hN _ (Nat.lt_succ_self _) _ ⟨_, n + 1, _, _, rfl, fun p hp => h1 p (List.mem_cons_of_mem _ hp), ?_, h3.trans hq, rfl⟩⟩
            rw [List.flatMap_append, List.length_append]
            omega
          · obtain ⟨pre, post, u5, e1, e2, rfl, h6, rfl⟩ := h
            cases post with
            | nil => cases e2
            | cons y post =>
              cases e2
              have l2 : pre.length + (post.length + 1) = x.inn.length := by
                have := congrArg List.length e1
                rw [List.length_reverse, List.length_append, List.length_cons] at this
                exact this.symm
              rcases h6 with rfl | rfl <;> (
                walk_at "u"
                exact ⟨by rw [List.length_map]; omega, hN2 _ _ ⟨pre ++ [y], post, _, by rw [e1]; simp, rfl, by simp [stD], .inl rfl, rfl⟩⟩)
  · have := congrArg List.length (sc_pre s s.fr)
    rw [List.length_map] at this
    simp [scP]
    omega
  · intro p hp
    have : p.1 ∈ s.pre := by
      rw [← sc_pre s s.fr]
      exact List.mem_map_of_mem (by simpa [scP] using hp)
    exact ⟨ho _ this, hg _ this, sc_vr s ho (fr_vr ho) p (by simpa [scP] using hp)⟩
  · have := congrArg List.length (sc_pre s s.fr)
    rw [List.length_map] at this
    simp [scP]
    omega
  · simp [scP, Sg.due]
abbrev s_first_wrong : Stmt := top 27
abbrev n_first_wrong : List Str := ["value", "number"]
theorem sc_first_wrong : FnScope n_first_wrong ["value"] (defScope s_first_wrong) := ⟨rfl, rfl, rfl, by decide +kernel, rfl, by decide +kernel, by decide +kernel⟩
theorem vk_wrong {f : Addr} {fd : FuncData} {j : Nat} (Fu : Fun K "_first_wrong" "_first_wrong" s_first_wrong f fd) (T : TN mg) (D_first_misformed : Df P w K mg base j "_first_misformed" ["value"] (spD K mg false vMisf)) (D_first_misbound : Df P w K mg base j "_first_misbound" ["saying"] (spD K mg false vMib)) : FnOk P w K mg base CX0 (j + 1) f fd ["value"] (spD K mg false vWrong) := by
  refine fn_pd Fu sc_first_wrong (fun ds k xk h => by obtain ⟨s, rfl, _⟩ := h; rfl) fun cdv A outer s H E C ds k xk hr Fi hu φ => ?_
  have nd := sc_first_wrong.nd
  refine ⟨_, _, (qss_cons (qs_set (i := 1) nd rfl (Or.inl rfl) (pd_call Fi D_first_misformed hr (Nat.le_refl _) (qa_cons (pd_var (pv 0)) qa_nil)))
      (qss_cut (qs_if (qt_cmpV op_isA l_is (pv 1) (PD.b pd_non) (nomark _))
      (qss_one (qs_set (i := 1) nd rfl (Or.inl rfl) (pd_call Fi D_first_misbound hr (Nat.le_refl _) (qa_cons (pd_var (pv 0)) qa_nil))))
      qss_nil)
      (qss_one (qs_ret (pd_mv (pv 1)))))), ?_⟩
  obtain ⟨s, rfl, hl, ho, hg, hc, q⟩ := φ
  walk_at "u"
  refine ⟨s, rfl, ho, hl, ?_⟩
  walk_at "u"
  refine cut1 [some (.fz s.d), some (.fz (optD s.wrong))] ?_ ?_
  · cases hm : mis s.pre 0 with
    | none =>
      have : s.wrong = s.due := by unfold Sg.wrong Sg.due; rw [hm]; rfl
      rw [this]
      unfold optD
      walk_at "u"
      refine ⟨s, rfl, hl, hg hm, ho, hc, ?_⟩
      walk_at "u"
      rfl
    | some n =>
      have : s.wrong = some n := by unfold Sg.wrong; rw [hm]; rfl
      rw [this]
      unfold optD
      walk_at "u"
  · walk_at "u"
    exact q
abbrev s_is_saying : Stmt := top 25
abbrev n_is_saying : List Str := ["value"]
theorem sc_is_saying : FnScope n_is_saying ["value"] (defScope s_is_saying) := ⟨rfl, rfl, rfl, by decide +kernel, rfl, by decide +kernel, by decide +kernel⟩
theorem vk_says {f : Addr} {fd : FuncData} {j : Nat} (Fu : Fun K "is_saying" "is_saying" s_is_saying f fd) (T : TN mg) (D_first_wrong : Df P w K mg base j "_first_wrong" ["value"] (spD K mg false vWrong)) : FnOk P w K mg base CX0 (j + 1) f fd ["value"] (spD K mg false vSays) := by
  refine fn_pd Fu sc_is_saying (fun ds k xk h => by obtain ⟨s, rfl, _⟩ := h; rfl) fun cdv A outer s H E C ds k xk hr Fi hu φ => ?_
  have nd := sc_is_saying.nd
  refine ⟨_, _, (qss_one (qs_ret (pd_cmp op_isA l_is (pd_call Fi D_first_wrong hr (Nat.le_refl _) (qa_cons (pd_var (pv 0)) qa_nil)) (PD.b pd_non) (nomark _)))), ?_⟩
  obtain ⟨s, rfl, hl, ho, hg, hc, q⟩ := φ
  walk_at "u"
  refine ⟨s, rfl, hl, ho, hg, hc, ?_⟩
  cases hw : s.wrong with
  | none =>
    rw [hw] at q
    unfold optD
    walk_at "u"
    exact q
  | some n =>
    rw [hw] at q
    unfold optD
    walk_at "u"
    exact q
abbrev s_check_saying : Stmt := top 26
abbrev n_check_saying : List Str := ["value", "number"]
theorem sc_check_saying : FnScope n_check_saying ["value"] (defScope s_check_saying) := ⟨rfl, rfl, rfl, by decide +kernel, rfl, by decide +kernel, by decide +kernel⟩
theorem vk_check {f CE : Addr} {fd : FuncData} {j : Nat} (Fu : Fun K "check_saying" "check_saying" s_check_saying f fd) (T : TN mg) (O : RF.OwnE P w K mg "InvalidSaying" "number" CE) (D_first_wrong : Df P w K mg base j "_first_wrong" ["value"] (spD K mg false vWrong)) : FnOk P w K mg base (L2.CX P w) (j + 1) f fd ["value"] (spD K mg false vCheck) := by
  refine fn_pdX Fu sc_check_saying (fun ds k xk h => by obtain ⟨s, rfl, _⟩ := h; rfl) fun cdv A outer s H E C ds k xk hr Fi hu hxe L φ => ?_
  have nd := sc_check_saying.nd
  refine ⟨_, _, (qss_cons (qs_set (i := 1) nd rfl (Or.inl rfl) (pd_call Fi D_first_wrong hr (Nat.le_refl _) (qa_cons (pd_var (pv 0)) qa_nil)))
      (qss_one (qs_if (qt_cmpV op_isNotA l_isNot (pv 1) (PD.b pd_non) (nomark _))
      (qss_one (qs_raise1 Fi O (takes_of rfl rfl rfl rfl) rfl hr L (qa_cons (pd_var (pv 1)) qa_nil)))
      qss_nil))), ?_⟩
  obtain ⟨s, rfl, hl, ho, hg, hc, q, qx⟩ := φ
  walk_at "u"
  refine ⟨s, rfl, hl, ho, hg, hc, ?_⟩
  cases hw : s.wrong with
  | none =>
    unfold optD
    walk_at "u"
    exact q hw
  | some n =>
    unfold optD
    walk_at "u"
    show C.xe (exc1 "InvalidSaying" "number" (.int (n : Nat)))
    rw [hxe]
    exact qx n hw
end
end Q

set_option autoImplicit false
set_option linter.all false
/-! B: the draws of the law -/
namespace Q
open PySem L2
open RF (top Df)
local macro_rules | `(tactic| walk_at "u") => `(tactic| simp (config := { dsimp := false }) only [↓CL_of, ↓IT_of, ↓LC_of, ↓LP_of, ↓WH_of, ↓CT_of, ↓IC_of, ↓SC_of, ↓wSeq, ↓wIfS, ↓wYes, ↓wOpV, ↓wOp, ↓wC, ↓wUn, ↓wRet, ↓wJoin, ↓wJs, ↓wArg, ↓wCons, ↓wVar, ↓wBor, ↓wMv, ↓wSet, ↓wAsg, ↓wNm, ↓wTg, ↓wGCons, ↓wApp, ↓wPop, ↓wExt, ↓wSub, ↓wDrop, ↓wPar, ↓wAug, ↓wAnd, ↓wOr, ↓wNot, ↓wTru, truP, ↓wIf, ↓wAndV, ↓wOrV, ↓wNotV, ↓wChain, ↓wSl, ↓wSlV, ↓wPart, ↓wM1, ↓wMN, pStarts, pEnds, pRfind, pStripC, pParts, pStarts3, pFind3, pSS, pSSI, pMax3, ↓wFor, ↓wLc, ↓wList, ↓wTupI, ↓wRng1, ↓wRng2, ↓wEnum, ↓wZip, ↓wRevI, ↓wStrI, ↓wKw, pCallV, wipeE, pTupN, pLstN, pIx, pSl, pRev, pLen, pAbs, pInt, pBool, pStr, pList, pTuple, pSum, pNums, pBls, pIsi, pIsi2, tyN, aI_fold, cutD1, inD_nil, inD_cons, Bool.or_eq_true, decide_eq_true_eq, Bool.or_false, Bool.false_or, Bool.true_or, Bool.or_true, decide_true, decide_false, or_false, false_or, or_true, true_or, List.all_cons, List.all_nil, Bool.and_self, Bool.not_true, Bool.not_false, iff_self, if_true, if_false, Bool.false_eq_true, ofS_inj, String.reduceEq, ati0, ati1, ati2, ati3, ati4, exists_and_left, isi_NoneType_bool, isi_NoneType_int, isi_NoneType_str, isi_NoneType_list, isi_NoneType_tuple, isi_bool_bool, isi_bool_int, isi_bool_str, isi_bool_list, isi_bool_tuple, isi_int_bool, isi_int_int, isi_int_str, isi_int_list, isi_int_tuple, isi_str_bool, isi_str_int, isi_str_str, isi_str_list, isi_str_tuple, isi_list_bool, isi_list_int, isi_list_str, isi_list_list, isi_list_tuple, isi_tuple_bool, isi_tuple_int, isi_tuple_str, isi_tuple_list, isi_tuple_tuple, isi_dict_bool, isi_dict_int, isi_dict_str, isi_dict_list, isi_dict_tuple, mi_bool, mi_int, mi_str, mi_list, mi_tuple, pI2, pI2N, pAdd, pSub, pMul, pNeg, pEqF, pOrd, pIs, pIn, isNon, D.told, D.flat, pFmt, pDivmod, startE, fzs, List.map_cons, List.map_nil, List.length_cons, List.length_nil, List.cons_append, List.nil_append, List.replicate, get_s, get_z, List.set_cons_zero, List.set_cons_succ, Option.some.injEq, exists_eq', true_and, and_true, exists_eq_left', Sl.toD, Nat.sub_self, Nat.reduceAdd, Nat.reduceLeDiff, Nat.reduceLT, Int.reduceToNat, Nat.reduceSub, scalD, eqD_int, eqD_str, eqD_tt, eqD_ff, eqD_tf, eqD_ft, id_eq, reduceCtorEq, false_implies, implies_true, D.int.injEq, D.str.injEq, D.lst.injEq, D.tup.injEq, Sl.fz.injEq, Sl.ol.injEq, RF.e_app, RF.app_e, RF.emp_eq, IT_t, IT_f, IT_T, IT_F, IT_d, IT_n, IT_not])
local macro_rules | `(tactic| walk_at "l") => `(tactic| first | omega | (simp only [RF.len_app, RF.e_app, RF.app_e, RF.emp_eq, sizeLine_eq, l_dash, l_plus, l_r, l_emp, l_lp, l_rpd, l_slash, l_star, l_sp1, l_sp2, l_flo, l_com, l_rp, l_le, l_equ, l_und, l_lea, l_not, l_allS, l_some, l_spc, l_ors, l_ands, List.map_cons, List.map_nil, List.sum_cons, List.sum_nil, List.length_cons, List.length_nil, List.length_map, List.length_append, List.length_replicate, List.length_range] <;> omega))
local macro_rules | `(tactic| walk_at "f") => `(tactic| ((repeat' apply And.intro) <;> first | assumption | walk_at "l"))
local macro_rules | `(tactic| walk_at "s") => `(tactic| (repeat (refine And.intro (by walk_at "l") ?_)))
def fPull : Ph := fun ds k _ => ∃ n : Int, ds = [.bag, .int n] ∧ (0 < n ∧ n < 1073741824) ∧ ∀ d : Int, 0 ≤ d → d < n → k (.fz (.int d))
def fOf : Ph := fun ds k _ => ∃ x : D, ds = [.bag, x] ∧ ((∃ es : List D, x = .lst es ∧ 0 < es.length ∧ es.length ≤ 1000000 ∧ ∀ d ∈ es, k (.fz d)) ∨ ∃ z : Str, x = .str z ∧ 0 < z.length ∧ z.length ≤ 1000000 ∧ ∀ c ∈ z.cps.toList, k (.fz (.str ⟨#[c]⟩)))
section
variable {P : Program} {w : World} {K : PySem.W.Frag} {mg : Str → Option Value} {base : Heap}
theorem ok_pullD {f : Addr} {fd : FuncData} (F : Fun K "_law_pull" "_law_pull" RF.sPull f fd) (T : RF.TB mg) : FnOk P w K mg base CX0 1 f fd ["_law_bag_here", "_law_sides"] (spD K mg true fPull) :=
  (RF.ok_pullC F T).imp fun vs H Q E ⟨B, S, ds, k, xk, e1, e2, al, bg, r, ⟨n, hd, n0, q⟩, fin, _⟩ => by
    subst hd
    obtain ⟨v, u, rfl, h1, h2⟩ := rps2 r
    exact ⟨B.bag, B.cel, n, by rw [show v = _ from h1, show u = _ from h2], (bg rfl).1, n0.1, n0.2, fun d H' d0 d1 Bb kp => fin (.fz (.int d)) _ H' ⟨fun a o na e => kp a o (na rfl) e, fun _ => Bb⟩ rfl (q d d0 d1)⟩
theorem atI_ix {α : Type} {l : List α} {d : Int} (h0 : 0 ≤ d) (h1 : d < (l.length : Nat)) : ∃ x, atI l d = some x ∧ x ∈ l := by
  obtain ⟨n, rfl⟩ : ∃ n : Nat, d = n := ⟨d.toNat, by omega⟩
  obtain ⟨x, hx⟩ := split_at (l := l) (i := n) (by omega)
  exact ⟨x, atI_nat hx, List.mem_of_getElem? hx⟩
abbrev s_law_of : Stmt := top 40
abbrev n_law_of : List Str := ["_law_bag_here", "_law_some"]
theorem sc_law_of : FnScope n_law_of ["_law_bag_here", "_law_some"] (defScope s_law_of) := ⟨rfl, rfl, rfl, by decide +kernel, rfl, by decide +kernel, by decide +kernel⟩
theorem ok_ofD {f : Addr} {fd : FuncData} {j : Nat} (Fu : Fun K "_law_of" "_law_of" s_law_of f fd) (T : TN mg) (D_law_pull : Df P w K mg base j "_law_pull" ["_law_bag_here", "_law_sides"] (spD K mg true fPull)) : FnOk P w K mg base CX0 (j + 1) f fd ["_law_bag_here", "_law_some"] (spD K mg true fOf) := by
  refine fn_pd Fu sc_law_of (fun ds k xk h => by obtain ⟨i, rfl, _⟩ := h; rfl) fun cdv A outer s H E C ds k xk hr Fi hu φ => ?_
  obtain ⟨x, rfl, q⟩ := φ
  have nd := sc_law_of.nd
  refine ⟨_, _, (qss_one (qs_ret (pd_ixV ix_seq (l_ix Fi) (pv 1) (PD.b (pd_call Fi D_law_pull hr (Nat.le_refl _) (qa_cons (pd_var (pv 0)) (qa_cons (pd_callB1 call_len2 (l_len Fi) (by rfl) T.len (by decide +kernel) (pb_var (pv 1))) qa_nil)))) (fun _ _ => rfl)))), ?_⟩
  walk_at "u"
  rcases q with ⟨es, rfl, h0, h1, q⟩ | ⟨z, rfl, h0, h1, q⟩
  · walk_at "u"
    refine ⟨_, rfl, by omega, fun d d0 d1 => ?_⟩
    obtain ⟨y, h2, h3⟩ := atI_ix d0 d1
    exact ⟨y, h2, q y h3⟩
  · walk_at "u"
    refine ⟨by rw [sizeLine_eq]; omega, _, rfl, by omega, fun d d0 d1 => ⟨by rw [sizeLine_eq]; omega, ?_⟩⟩
    obtain ⟨y, h2, h3⟩ := atI_ix (l := z.cps.toList) d0 (by rw [Array.length_toList]; exact d1)
    exact ⟨y, h2, q y h3⟩
end
end Q

set_option autoImplicit false
set_option linter.all false
/-! VT: the law's draws, its own walks -/
namespace Q
open PySem L2
open RF (top Df e_app app_e len_app)
local macro_rules | `(tactic| walk_at "u") => `(tactic| simp (config := { dsimp := false, maxSteps := 2000000 }) only [↓CL_of, ↓IT_of, ↓LC_of, ↓LP_of, ↓WH_of, ↓CT_of, ↓IC_of, ↓SC_of, ↓wSeq, ↓wFirst, ↓wStar, ↓wExtT, pBackT, pSoSet, pSoKey, cutD2, ↓wPar3, ↓wLc2, lcW2, List.isEmpty_cons, List.isEmpty_nil, Int.cast_ofNat_Int, Int.natCast_one, Int.natCast_zero, Int.reduceEq, Int.reduceLE, Int.reduceLT, ↓wIfS, ↓wYes, ↓wOpV, ↓wOp, ↓wC, ↓wUn, ↓wRet, ↓wJoin, ↓wJs, ↓wArg, ↓wCons, ↓wVar, ↓wBor, ↓wMv, ↓wSet, ↓wAsg, ↓wNm, ↓wTg, ↓wGCons, ↓wApp, ↓wPop, ↓wExt, ↓wSub, ↓wDrop, ↓wPar, ↓wAug, ↓wAnd, ↓wOr, ↓wNot, ↓wTru, truP, ↓wIf, ↓wAndV, ↓wOrV, ↓wNotV, ↓wChain, ↓wSl, ↓wSlV, ↓wPart, ↓wM1, ↓wMN, pStarts, pEnds, pRfind, pStripC, pParts, pStarts3, pFind3, pSS, pSSI, pMax3, ↓wFor, ↓wLc, ↓wList, ↓wTupI, ↓wRng1, ↓wRng2, ↓wEnum, ↓wZip, ↓wRevI, ↓wStrI, ↓wKw, pCallV, wipeE, pTupN, pLstN, pIx, pSl, pRev, pLen, pAbs, pInt, pBool, pStr, pList, pTuple, pSum, pNums, pBls, pIsi, pIsi2, tyN, aI_fold, cutD1, inD_nil, inD_cons, Bool.or_eq_true, decide_eq_true_eq, Bool.or_false, Bool.false_or, Bool.true_or, Bool.or_true, decide_true, decide_false, or_false, false_or, or_true, true_or, List.all_cons, List.all_nil, Bool.and_self, Bool.not_true, Bool.not_false, iff_self, if_true, if_false, Bool.false_eq_true, ofS_inj, String.reduceEq, ati0, ati1, ati2, ati3, ati4, exists_and_left, isi_NoneType_bool, isi_NoneType_int, isi_NoneType_str, isi_NoneType_list, isi_NoneType_tuple, isi_bool_bool, isi_bool_int, isi_bool_str, isi_bool_list, isi_bool_tuple, isi_int_bool, isi_int_int, isi_int_str, isi_int_list, isi_int_tuple, isi_str_bool, isi_str_int, isi_str_str, isi_str_list, isi_str_tuple, isi_list_bool, isi_list_int, isi_list_str, isi_list_list, isi_list_tuple, isi_tuple_bool, isi_tuple_int, isi_tuple_str, isi_tuple_list, isi_tuple_tuple, isi_dict_bool, isi_dict_int, isi_dict_str, isi_dict_list, isi_dict_tuple, mi_bool, mi_int, mi_str, mi_list, mi_tuple, pI2, pI2N, pAdd, pSub, pMul, pNeg, pEqF, pOrd, pIs, pIn, isNon, D.told, D.flat, pFmt, pDivmod, startE, fzs, List.map_cons, List.map_nil, List.length_cons, List.length_nil, List.cons_append, List.nil_append, List.replicate, get_s, get_z, List.set_cons_zero, List.set_cons_succ, Option.some.injEq, exists_eq', true_and, and_true, exists_eq_left', Sl.toD, Nat.sub_self, Nat.reduceAdd, Nat.reduceLeDiff, Nat.reduceLT, Int.reduceToNat, Nat.reduceSub, scalD, eqD_int, eqD_str, eqD_tt, eqD_ff, eqD_tf, eqD_ft, id_eq, reduceCtorEq, false_implies, implies_true, D.int.injEq, D.str.injEq, D.lst.injEq, D.tup.injEq, Sl.fz.injEq, Sl.ol.injEq, RF.e_app, RF.app_e, RF.emp_eq, IT_t, IT_f, IT_T, IT_F, IT_d, IT_n, IT_not])
local macro_rules | `(tactic| walk_at "l") => `(tactic| first | omega | (simp only [RF.len_app, RF.e_app, RF.app_e, RF.emp_eq, sizeLine_eq, l_dash, l_plus, l_r, l_emp, l_lp, l_rpd, l_slash, l_star, l_sp1, l_sp2, l_flo, l_com, l_rp, l_le, l_equ, l_und, l_lea, l_not, l_allS, l_some, l_spc, l_ors, l_ands, List.map_cons, List.map_nil, List.sum_cons, List.sum_nil, List.length_cons, List.length_nil, List.length_map, List.length_append, List.length_replicate, List.length_range] <;> omega))
local macro_rules | `(tactic| walk_at "f") => `(tactic| ((repeat' apply And.intro) <;> first | assumption | walk_at "l"))
local macro_rules | `(tactic| walk_at "s") => `(tactic| (repeat (refine And.intro (by walk_at "l") ?_)))
theorem len_sc (s : Sg) (ar : List Str) : (s.sc ar).length = s.pre.length := by
  have := congrArg List.length (sc_pre s ar)
  rw [List.length_map] at this
  exact this
/-- a part with the names bound around it, beside those that are free -/
def scF (fr : List Str) (p : Sg × List Str) : List (Sg × List Str) := scP (p.1, fr ++ p.2)
theorem len_scF (fr : List Str) (p : Sg × List Str) : (scF fr p).length = p.1.pre.length := len_sc _ _
theorem len_mem {α β : Type} {f : α → List β} {l : List α} {x : α} (h : x ∈ l) : (f x).length ≤ (l.flatMap f).length := by
  induction l with
  | nil => cases h
  | cons y r ih =>
    rw [List.flatMap_cons, List.length_append]
    rcases List.mem_cons.mp h with rfl | h
    · exact Nat.le_add_right _ _
    · exact Nat.le_trans (ih h) (Nat.le_add_left _ _)
theorem okD_stack {fr : List Str} {st : List (Sg × List Str)} (h : ∀ p ∈ st, p.1.ok ∧ p.1.good ∧ ∀ z ∈ p.2, VrB z) (hl : (st.flatMap (scF fr)).length ≤ 20) : okD (.lst (st.map stD).reverse) := by
  have key : ∀ d ∈ (st.map stD).reverse, plain d = true ∧ dep d ≤ 25 := fun d hd => by
    obtain ⟨p, hp, rfl⟩ := List.mem_map.mp (List.mem_reverse.mp hd)
    obtain ⟨g1, g2, g3⟩ := h p hp
    obtain ⟨a1, a2⟩ := okD_sg g1 g2
    obtain ⟨b1, b2⟩ := okD_strs g3
    have hlen : p.1.pre.length ≤ 20 := by
      refine Nat.le_trans ?_ hl
      rw [← len_scF fr p]
      exact len_mem hp
    have b3 : dep (.lst (p.2.map .str)) ≤ 1 := by
      show depL (p.2.map D.str) + 1 ≤ 1
      have : depL (p.2.map D.str) ≤ 0 := depL_of fun d hd => by obtain ⟨z, _, rfl⟩ := List.mem_map.mp hd; exact Nat.le_refl _
      omega
    exact ⟨by show (plain p.1.d && (plain (.lst (p.2.map .str)) && true)) = true; rw [a1, b1]; rfl, by show max (dep p.1.d) (max (dep (.lst (p.2.map .str))) 0) + 1 ≤ 25; omega⟩
  exact ⟨plains_of fun d hd => (key d hd).1, by have := depL_of fun d hd => (key d hd).2; show depL (st.map stD).reverse + 1 ≤ 60; omega⟩
def gNames : Ph := fun ds k _ => ∃ m : Nat, ds = [.bag, .int m] ∧ 1 ≤ m ∧ m ≤ 3 ∧ ∀ ns : List Str, ns.length = m → (∀ z ∈ ns, VrB z) → k (.ol (ns.map .str))
def gLone : Ph := fun ds k _ => ∃ x : Str, ds = [.str x] ∧ k (.fz (Lt.d ⟨[(1, x)], 0⟩))
def gTerm : Ph := fun ds k _ => ∃ (ns : List Str) (m : Nat), ds = [.bag, .lst (ns.map .str), .int m] ∧ ns.length ≤ 1000 ∧ (∀ z ∈ ns, VrB z) ∧ ∀ t : Lt, t.ok → t.its.length ≤ m → k (.fz t.d)
def Sg.isAt : Sg → Bool
  | .cm _ _ _ => true
  | .lv _ _ _ => true
  | _ => false
def gAtom : Ph := fun ds k _ => ∃ ns : List Str, ds = [.bag, .lst (ns.map .str)] ∧ ns.length ≤ 1000 ∧ (∀ z ∈ ns, VrB z) ∧ ∀ s : Sg, s.okh → s.isAt = true → s.cn ≤ 3 → k (.fz s.d)
def gInner : Ph := fun ds k _ => ∃ s : Sg, ds = [s.d] ∧ s.isBad = false ∧ k (.ol (s.inn.map Sg.d))
def gTNames : Ph := fun ds k _ => ∃ t : Lt, ds = [t.d] ∧ t.its.length ≤ 1000 ∧ k (.ol (t.ns.map .str))
def gPart : Ph := fun ds k _ => ∃ s : Sg, ds = [s.d] ∧ s.isBad = false ∧ s.okh ∧ k (.ol ((s.tms.flatMap Lt.ns).map .str))
def gDue : Ph := fun ds k _ => ∃ s : Sg, ds = [s.d] ∧ s.pre.length ≤ 20 ∧ s.good ∧ s.ok ∧ s.cn < 64 ∧ k (.fz (optD s.due))
section
variable {P : Program} {w : World} {K : PySem.W.Frag} {mg : Str → Option Value} {base : Heap}
abbrev s_law_names : Stmt := top 45
abbrev n_law_names : List Str := ["_law_bag_here", "_law_many", "_law_pool", "_law_at"]
theorem sc_law_names : FnScope n_law_names ["_law_bag_here", "_law_many"] (defScope s_law_names) := ⟨rfl, rfl, rfl, by decide +kernel, rfl, by decide +kernel, by decide +kernel⟩
theorem gk_names {f : Addr} {fd : FuncData} {j : Nat} (Fu : Fun K "_law_names" "_law_names" s_law_names f fd) (T : TN mg) (D_law_pull : Df P w K mg base j "_law_pull" ["_law_bag_here", "_law_sides"] (spD K mg true fPull)) (D_law_of : Df P w K mg base j "_law_of" ["_law_bag_here", "_law_some"] (spD K mg true fOf)) : FnOk P w K mg base CX0 (j + 1) f fd ["_law_bag_here", "_law_many"] (spD K mg true gNames) := by
  refine fn_pd Fu sc_law_names (fun ds k xk h => by obtain ⟨s, rfl, _⟩ := h; rfl) fun cdv A outer s H E C ds k xk hr Fi hu φ => ?_
  have nd := sc_law_names.nd
  refine ⟨_, _, (qss_cons (qs_set (i := 2) nd rfl (Or.inl rfl) (pd_call Fi D_law_of hr (Nat.le_refl _) (qa_cons (pd_var (pv 0)) (qa_cons (pd_lst (qa_cons (pd_lst (qa_cons pd_str (qa_cons pd_str (qa_cons pd_str qa_nil)))) (qa_cons (pd_lst (qa_cons pd_str (qa_cons pd_str (qa_cons pd_str qa_nil)))) (qa_cons (pd_lst (qa_cons pd_str (qa_cons pd_str (qa_cons pd_str qa_nil)))) (qa_cons (pd_lst (qa_cons pd_str (qa_cons pd_str (qa_cons pd_str qa_nil)))) qa_nil))))) qa_nil))))
      (qss_cons (qs_set (i := 3) nd rfl (Or.inl rfl) (pd_call Fi D_law_pull hr (Nat.le_refl _) (qa_cons (pd_var (pv 0)) (qa_cons pd_int qa_nil))))
      (qss_one (qs_ret (pd_callB1 cr_sortA (l_sorted Fi) (by rfl) T.sorted (by decide +kernel) (PD.b (pd_sl Fi (pd_op op_addA (l_add Fi) (pd_slV Fi (pv 2) (qo_some (pb_var (pv 3))) qo_none) (PD.b (pd_slV Fi (pv 2) qo_none (qo_some (pb_var (pv 3)))))) qo_none (qo_some (pb_var (pv 1)))))))))), ?_⟩
  obtain ⟨m, rfl, h1, h3, q⟩ := φ
  walk_at "u"
  refine ⟨_, rfl, .inl ⟨_, rfl, by decide, by decide, fun d hd => ?_⟩⟩
  obtain ⟨ss, rfl, hss, hv⟩ : ∃ ss : List Str, d = .lst (ss.map .str) ∧ ss.length = 3 ∧ ∀ z ∈ ss, VrB z := by
    have v : ∀ z ∈ (["x", "y", "z", "a", "ab", "b", "low", "mid", "top", "m", "n", "xyz"] : List Str), VrB z := by unfold VrB lowS; decide +kernel
    simp only [List.mem_cons, List.not_mem_nil, or_false] at hd
    rcases hd with rfl | rfl | rfl | rfl
    · exact ⟨["x", "y", "z"], rfl, rfl, fun z hz => v z (by simp only [List.mem_cons, List.not_mem_nil, or_false] at hz ⊢; rcases hz with rfl | rfl | rfl <;> simp)⟩
    · exact ⟨["a", "ab", "b"], rfl, rfl, fun z hz => v z (by simp only [List.mem_cons, List.not_mem_nil, or_false] at hz ⊢; rcases hz with rfl | rfl | rfl <;> simp)⟩
    · exact ⟨["low", "mid", "top"], rfl, rfl, fun z hz => v z (by simp only [List.mem_cons, List.not_mem_nil, or_false] at hz ⊢; rcases hz with rfl | rfl | rfl <;> simp)⟩
    · exact ⟨["m", "n", "xyz"], rfl, rfl, fun z hz => v z (by simp only [List.mem_cons, List.not_mem_nil, or_false] at hz ⊢; rcases hz with rfl | rfl | rfl <;> simp)⟩
  walk_at "u"
  refine ⟨_, rfl, by decide, fun d d0 d1 => ?_⟩
  obtain ⟨a, rfl⟩ : ∃ a : Nat, d = a := ⟨d.toNat, by omega⟩
  walk_at "u"
  rw [cutD_drop, cutD_take]
  have e : ((ss.map D.str).drop a ++ (ss.map D.str).take a).take m = ((ss.drop a ++ ss.take a).take m).map D.str := by rw [← List.map_drop, ← List.map_take, ← List.map_append, ← List.map_take]
  have lm : ((ss.drop a ++ ss.take a).take m).length = m := by
    rw [List.length_take, List.length_append, List.length_drop, List.length_take]
    omega
  rw [cutD_take, e]
  refine ⟨by rw [List.length_drop, List.length_take, List.length_map]; omega, .inr ⟨_, strs_map _, by omega, fun ms hp hs => q ms (hp.length_eq.trans lm) fun z hz => ?_⟩⟩
  have hz := List.mem_of_mem_take (hp.mem_iff.mp hz)
  rcases List.mem_append.mp hz with hz | hz
  · exact hv z (List.mem_of_mem_drop hz)
  · exact hv z (List.mem_of_mem_take hz)
abbrev s_law_lone : Stmt := top 46
abbrev n_law_lone : List Str := ["_law_name"]
theorem sc_law_lone : FnScope n_law_lone ["_law_name"] (defScope s_law_lone) := ⟨rfl, rfl, rfl, by decide +kernel, rfl, by decide +kernel, by decide +kernel⟩
theorem gk_lone {f : Addr} {fd : FuncData} {j : Nat} (Fu : Fun K "_law_lone" "_law_lone" s_law_lone f fd) (T : TN mg) : FnOk P w K mg base CX0 (j + 1) f fd ["_law_name"] (spD K mg false gLone) := by
  refine fn_pd Fu sc_law_lone (fun ds k xk h => by obtain ⟨s, rfl, _⟩ := h; rfl) fun cdv A outer s H E C ds k xk hr Fi hu φ => ?_
  have nd := sc_law_lone.nd
  refine ⟨_, _, (qss_one (qs_ret (pd_tup (qa_cons (pd_tup (qa_cons (pd_tup (qa_cons pd_int (qa_cons (pd_var (pv 0)) qa_nil))) qa_nil)) (qa_cons pd_int qa_nil))))), ?_⟩
  obtain ⟨x, rfl, q⟩ := φ
  walk_at "u"
  exact q
abbrev s_law_light_term : Stmt := top 47
abbrev n_law_light_term : List Str := ["_law_bag_here", "_law_names_here", "_law_most", "_law_items", "_law_k"]
theorem sc_law_light_term : FnScope n_law_light_term ["_law_bag_here", "_law_names_here", "_law_most"] (defScope s_law_light_term) := ⟨rfl, rfl, rfl, by decide +kernel, rfl, by decide +kernel, by decide +kernel⟩
theorem gk_term {f : Addr} {fd : FuncData} {j : Nat} (Fu : Fun K "_law_light_term" "_law_light_term" s_law_light_term f fd) (T : TN mg) (D_law_pull : Df P w K mg base j "_law_pull" ["_law_bag_here", "_law_sides"] (spD K mg true fPull)) (D_law_of : Df P w K mg base j "_law_of" ["_law_bag_here", "_law_some"] (spD K mg true fOf)) : FnOk P w K mg base CX0 (j + 1) f fd ["_law_bag_here", "_law_names_here", "_law_most"] (spD K mg true gTerm) := by
  refine fn_pd Fu sc_law_light_term (fun ds k xk h => by obtain ⟨s, m, rfl, _⟩ := h; rfl) fun cdv A outer s H E C ds k xk hr Fi hu φ => ?_
  have nd := sc_law_light_term.nd
  refine ⟨_, _, (qss_cons (qs_set (i := 3) nd rfl (Or.inl rfl) (pd_lst qa_nil))
      (qss_cons (qs_for PassesOwn.never rfl (qi_range1 (by rfl) T.range (qa_cons (pd_op op_addA (l_add Fi) pd_int (PD.b (pd_call Fi D_law_pull hr (Nat.le_refl _) (qa_cons (pd_var (pv 0)) (qa_cons pd_int qa_nil))))) qa_nil)) (qg_name (pg_name (i := 4) nd rfl (Or.inl rfl)))
      (qss_one (qs_if (qt_cmpV (op_neA hr.units) (l_ne Fi) (pv 1) (PD.b (pd_lst qa_nil)) (nomark _))
        (qss_one (qs_expr (pd_app (pv 3) (pd_tup (qa_cons (pd_call Fi D_law_of hr (Nat.le_refl _) (qa_cons (pd_var (pv 0)) (qa_cons (pd_lst (qa_cons pd_int (qa_cons pd_int (qa_cons pd_int (qa_cons (pd_un un_neg l_neg (PD.b pd_int)) (qa_cons pd_int qa_nil)))))) qa_nil))) (qa_cons (pd_call Fi D_law_of hr (Nat.le_refl _) (qa_cons (pd_var (pv 0)) (qa_cons (pd_var (pv 1)) qa_nil))) qa_nil))))))
        qss_nil)))
      (qss_one (qs_ret (pd_tup (qa_cons (pd_callTy1 call_tuple_of (l_tuple Fi) (by rfl) T.tuple (by decide +kernel) (PD.b (pd_slV Fi (pv 3) qo_none (qo_some (pb_var (pv 2)))))) (qa_cons (pd_call Fi D_law_of hr (Nat.le_refl _) (qa_cons (pd_var (pv 0)) (qa_cons (pd_lst (qa_cons pd_int (qa_cons pd_int (qa_cons pd_int (qa_cons pd_int (qa_cons (pd_un un_neg l_neg (PD.b pd_int)) (qa_cons (pd_un un_neg l_neg (PD.b pd_int)) (qa_cons pd_int (qa_cons pd_int qa_nil))))))))) qa_nil))) qa_nil))))))), ?_⟩
  obtain ⟨ns, m, rfl, hn, hv, q⟩ := φ
  walk_at "u"
  refine ⟨_, rfl, by decide, fun d d0 d1 => ?_⟩
  walk_at "u"
  refine ⟨by omega, ?_⟩
  refine loop_ind (fun ds ρ => ∃ (l : List (Int × Str)) (v4 : Option Sl), (∀ p ∈ l, (p.1 ≠ 0 ∧ -9 ≤ p.1 ∧ p.1 ≤ 9) ∧ VrB p.2) ∧ l.length + ds.length ≤ 2 ∧ ρ = [some (.fz .bag), some (.fz (.lst (ns.map .str))), some (.fz (.int (m : Nat))), some (.ol (l.map itD)), v4]) (fun ρ h => ?_) (fun d ds ρ N h hN => ?_) _ _ ⟨[], none, (fun p hp => by cases hp), by rw [rng_len, List.length_nil]; omega, rfl⟩
  · obtain ⟨l, v4, g1, g2, rfl⟩ := h
    walk_at "u"
    rw [cutD_take]
    refine ⟨_, rfl, .inl ⟨_, rfl, by decide, by decide, fun d hd => ?_⟩⟩
    obtain ⟨c, rfl, hc⟩ : ∃ c : Int, d = .int c ∧ -1000 ≤ c ∧ c ≤ 1000 := by
      simp only [List.mem_cons, List.not_mem_nil, or_false] at hd
      rcases hd with rfl | rfl | rfl | rfl | rfl | rfl | rfl | rfl <;> exact ⟨_, rfl, by decide⟩
    walk_at "u"
    have e : (l.map itD).take m = (l.take m).map itD := List.map_take.symm
    rw [e]
    refine q ⟨l.take m, c⟩ ⟨?_, fun p hp => g1 p (List.mem_of_mem_take hp), hc⟩ (List.length_take_le _ _)
    show (l.take m).length ≤ 4
    have := List.length_take_le m l
    rw [List.length_take]
    omega
  · obtain ⟨l, v4, g1, g2, rfl⟩ := h
    rw [List.length_cons] at g2
    walk_at "u"
    refine ⟨fun _ => ⟨okD_strs hv, emp_okL⟩, ?_⟩
    rw [eqL_nil]
    refine ⟨fun h => ?_, fun h => ?_⟩
    · walk_at "u"
      exact hN _ ⟨l, _, g1, by omega, rfl⟩
    · have hpos : 0 < ns.length := by
        cases ns with
        | nil => exact absurd rfl h
        | cons => exact Nat.succ_pos _
      walk_at "u"
      refine ⟨_, rfl, .inl ⟨_, rfl, by decide, by decide, fun d2 hd => ?_⟩⟩
      obtain ⟨c, rfl, hc⟩ : ∃ c : Int, d2 = .int c ∧ c ≠ 0 ∧ -9 ≤ c ∧ c ≤ 9 := by
        simp only [List.mem_cons, List.not_mem_nil, or_false] at hd
        rcases hd with rfl | rfl | rfl | rfl | rfl <;> exact ⟨_, rfl, by decide⟩
      walk_at "u"
      refine ⟨_, rfl, .inl ⟨_, rfl, by rw [List.length_map]; exact hpos, by rw [List.length_map]; omega, fun x hx => ?_⟩⟩
      obtain ⟨x, hx2, rfl⟩ := List.mem_map.mp hx
      walk_at "u"
      refine ⟨by rw [List.length_map]; omega, hN _ ⟨l ++ [(c, x)], _, fun p hp => ?_, by rw [List.length_append]; show l.length + 1 + _ ≤ 2; omega, by rw [List.map_append]; rfl⟩⟩
      rcases List.mem_append.mp hp with hp | hp
      · exact g1 p hp
      · rw [List.mem_singleton.mp hp]
        exact ⟨hc, hv x hx2⟩
abbrev s_law_light_atom : Stmt := top 48
abbrev n_law_light_atom : List Str := ["_law_bag_here", "_law_names_here", "_law_one", "_law_two", "_law_way", "_law_modulus"]
theorem sc_law_light_atom : FnScope n_law_light_atom ["_law_bag_here", "_law_names_here"] (defScope s_law_light_atom) := ⟨rfl, rfl, rfl, by decide +kernel, rfl, by decide +kernel, by decide +kernel⟩
theorem gk_atom {f : Addr} {fd : FuncData} {j : Nat} (Fu : Fun K "_law_light_atom" "_law_light_atom" s_law_light_atom f fd) (T : TN mg) (D_law_pull : Df P w K mg base j "_law_pull" ["_law_bag_here", "_law_sides"] (spD K mg true fPull)) (D_law_light_term : Df P w K mg base j "_law_light_term" ["_law_bag_here", "_law_names_here", "_law_most"] (spD K mg true gTerm)) : FnOk P w K mg base CX0 (j + 1) f fd ["_law_bag_here", "_law_names_here"] (spD K mg true gAtom) := by
  refine fn_pd Fu sc_law_light_atom (fun ds k xk h => by obtain ⟨s, rfl, _⟩ := h; rfl) fun cdv A outer s H E C ds k xk hr Fi hu φ => ?_
  have nd := sc_law_light_atom.nd
  refine ⟨_, _, (qss_cons (qs_par (i := 2) (j := 3) rfl nd rfl rfl (by decide) rfl rfl (pd_call Fi D_law_light_term hr (Nat.le_refl _) (qa_cons (pd_var (pv 0)) (qa_cons (pd_var (pv 1)) (qa_cons pd_int qa_nil)))) (pd_call Fi D_law_light_term hr (Nat.le_refl _) (qa_cons (pd_var (pv 0)) (qa_cons (pd_var (pv 1)) (qa_cons pd_int qa_nil)))) (by kernel_rfl))
      (qss_cons (qs_set (i := 4) nd rfl (Or.inl rfl) (pd_call Fi D_law_pull hr (Nat.le_refl _) (qa_cons (pd_var (pv 0)) (qa_cons pd_int qa_nil))))
      (qss_cons (qs_if (qt_cmpV (op_eqA hr.units) (l_eq Fi) (pv 4) (PD.b pd_int) (nomark _))
      (qss_cons (qs_set (i := 5) nd rfl (Or.inl rfl) (pd_op op_addA (l_add Fi) pd_int (PD.b (pd_call Fi D_law_pull hr (Nat.le_refl _) (qa_cons (pd_var (pv 0)) (qa_cons pd_int qa_nil))))))
        (qss_one (qs_ret (pd_tup (qa_cons pd_str (qa_cons (pd_var (pv 2)) (qa_cons (pd_var (pv 5)) (qa_cons (pd_call Fi D_law_pull hr (Nat.le_refl _) (qa_cons (pd_var (pv 0)) (qa_cons (pd_var (pv 5)) qa_nil))) qa_nil))))))))
      qss_nil)
      (qss_one (qs_ret (pd_tup (qa_cons (pd_ix ix_seq (l_ix Fi) (pd_lst (qa_cons pd_str (qa_cons pd_str (qa_cons pd_str qa_nil)))) (pb_var (pv 4)) (fun _ _ => rfl)) (qa_cons (pd_var (pv 2)) (qa_cons (pd_var (pv 3)) qa_nil))))))))), ?_⟩
  obtain ⟨ns, rfl, hn, hv, q⟩ := φ
  walk_at "u"
  refine ⟨ns, 2, rfl, hn, hv, fun t1 o1 l1 => ?_⟩
  walk_at "u"
  refine ⟨ns, 1, rfl, hn, hv, fun t2 o2 l2 => ?_⟩
  walk_at "u"
  have c1 : t1.ns.length ≤ 2 := by unfold Lt.ns; rw [List.length_map]; exact l1
  have c2 : t2.ns.length ≤ 1 := by unfold Lt.ns; rw [List.length_map]; exact l2
  refine ⟨_, rfl, by decide, fun d d0 d1 => ?_⟩
  walk_at "u"
  refine ⟨fun h => ?_, fun h => ?_⟩
  · walk_at "u"
    refine ⟨_, rfl, by decide, fun m m0 m1 => ?_⟩
    walk_at "u"
    refine ⟨_, rfl, by omega, fun r r0 r1 => ?_⟩
    walk_at "u"
    exact q (.lv t1 (2 + m) r) ⟨o1, by omega, by omega, by omega⟩ rfl (by show t1.ns.length ≤ 3; omega)
  · walk_at "u"
    have hd : d = 0 ∨ d = 1 ∨ d = 2 := by omega
    rcases hd with rfl | rfl | rfl
    · exact ⟨_, ati0 _ _, q (.cm false t1 t2) ⟨o1, o2⟩ rfl (by show t1.ns.length + t2.ns.length ≤ 3; omega)⟩
    · exact ⟨_, ati1 _ _ _, q (.cm true t1 t2) ⟨o1, o2⟩ rfl (by show t1.ns.length + t2.ns.length ≤ 3; omega)⟩
    · exact ⟨_, ati2 _ _ _ _, q (.cm true t1 t2) ⟨o1, o2⟩ rfl (by show t1.ns.length + t2.ns.length ≤ 3; omega)⟩
abbrev s_law_inner : Stmt := top 49
abbrev n_law_inner : List Str := ["_law_part"]
theorem sc_law_inner : FnScope n_law_inner ["_law_part"] (defScope s_law_inner) := ⟨rfl, rfl, rfl, by decide +kernel, rfl, by decide +kernel, by decide +kernel⟩
theorem gk_inner {f : Addr} {fd : FuncData} {j : Nat} (Fu : Fun K "_law_inner" "_law_inner" s_law_inner f fd) (T : TN mg) : FnOk P w K mg base CX0 (j + 1) f fd ["_law_part"] (spD K mg false gInner) := by
  refine fn_pd Fu sc_law_inner (fun ds k xk h => by obtain ⟨s, rfl, _⟩ := h; rfl) fun cdv A outer s H E C ds k xk hr Fi hu φ => ?_
  have nd := sc_law_inner.nd
  refine ⟨_, _, (qss_cons (qs_if (qt_cmp (op_inA (un65 hr)) (l_in Fi) (pd_ixV ix_seq (l_ix Fi) (pv 0) (PD.b pd_int) (fun _ _ => rfl)) (PD.b (pd_tup (qa_cons pd_str (qa_cons pd_str (qa_cons pd_str qa_nil))))) rfl)
      (qss_one (qs_ret (pd_callTy1 call_list_of (l_list Fi) (by rfl) T.list (by decide +kernel) (PD.b (pd_slV Fi (pv 0) (qo_some (PD.b pd_int)) qo_none)))))
      qss_nil)
      (qss_one (qs_ret (pd_if (qt_cmp (op_inA (un65 hr)) (l_in Fi) (pd_ixV ix_seq (l_ix Fi) (pv 0) (PD.b pd_int) (fun _ _ => rfl)) (PD.b (pd_tup (qa_cons pd_str (qa_cons pd_str qa_nil)))) rfl) (pd_lst (qa_cons (pd_ixV ix_seq (l_ix Fi) (pv 0) (PD.b pd_int) (fun _ _ => rfl)) qa_nil)) (pd_lst qa_nil))))), ?_⟩
  obtain ⟨s, rfl, ho, q⟩ := φ
  cases s with
  | cm l a b => cases l <;> (unfold Sg.d; walk_at "u"; exact q)
  | lv a m r0 => unfold Sg.d; walk_at "u"; exact q
  | bad a => cases ho
  | no a => unfold Sg.d; walk_at "u"; exact q
  | an o a b => cases o <;> (unfold Sg.d; walk_at "u"; exact q)
  | a3 a b c => unfold Sg.d; walk_at "u"; exact q
  | qu f x a => cases f <;> (unfold Sg.d; walk_at "u"; exact q)
abbrev s_law_term_names : Stmt := top 50
abbrev n_law_term_names : List Str := ["_law_term", "_law_found", "_law_factor", "_law_thing"]
theorem sc_law_term_names : FnScope n_law_term_names ["_law_term"] (defScope s_law_term_names) := ⟨rfl, rfl, rfl, by decide +kernel, rfl, by decide +kernel, by decide +kernel⟩
theorem gk_tnames {f : Addr} {fd : FuncData} {j : Nat} (Fu : Fun K "_law_term_names" "_law_term_names" s_law_term_names f fd) (T : TN mg) (D_law_term_names : Df P w K mg base j "_law_term_names" ["_law_term"] (spD K mg false vNo)) : FnOk P w K mg base CX0 (j + 1) f fd ["_law_term"] (spD K mg false gTNames) := by
  refine fn_pd Fu sc_law_term_names (fun ds k xk h => by obtain ⟨s, rfl, _⟩ := h; rfl) fun cdv A outer s H E C ds k xk hr Fi hu φ => ?_
  have nd := sc_law_term_names.nd
  refine ⟨_, _, (qss_cons (qs_set (i := 1) nd rfl (Or.inl rfl) (pd_lst qa_nil))
      (qss_cons (qs_for PassesOwn.never rfl (qi_tup Fi (pd_ixV ix_seq (l_ix Fi) (pv 0) (PD.b pd_int) (fun _ _ => rfl))) (qg_tup (n := 2) Fi rfl (qgs_cons (qg_name (pg_name (i := 2) nd rfl (Or.inl rfl))) (qgs_cons (qg_name (pg_name (i := 3) nd rfl (Or.inl rfl))) qgs_nil)))
      (qss_one (qs_set (i := 1) nd rfl (Or.inl rfl) (pd_opV op_addA (l_add Fi) (pv 1) (PD.b (pd_if (qt_val (PD.b (pd_callB call_isi (l_isi Fi) (by rfl) T.isinstance (by decide +kernel) (qa_cons (pd_var (pv 3)) (qa_cons (pd_ty (n := "str") (by rfl) T.str (by decide +kernel)) qa_nil))))) (pd_lst (qa_cons (pd_var (pv 3)) qa_nil)) (pd_call Fi D_law_term_names hr (Nat.le_refl _) (qa_cons (pd_ixV ix_seq (l_ix Fi) (pv 3) (PD.b pd_int) (fun _ _ => rfl)) qa_nil))))))))
      (qss_one (qs_ret (pd_mv (pv 1)))))), ?_⟩
  obtain ⟨t, rfl, hl, q⟩ := φ
  unfold Lt.d
  walk_at "u"
  refine loop_ind (fun ds ρ => ∃ (pre post : List (Int × Str)) (v2 v3 : Option Sl), t.its = pre ++ post ∧ ds = post.map itD ∧ ρ = [some (.fz (.tup [.tup (t.its.map itD), .int t.c])), some (.ol ((pre.map (·.2)).map .str)), v2, v3]) (fun ρ h => ?_) (fun d ds ρ N h hN => ?_) _ _ ⟨[], t.its, none, none, rfl, rfl, rfl⟩
  · obtain ⟨pre, post, v2, v3, e1, e2, rfl⟩ := h
    obtain rfl : post = [] := List.map_eq_nil_iff.mp e2.symm
    rw [List.append_nil] at e1
    walk_at "u"
    rw [← e1]
    exact q
  · obtain ⟨pre, post, v2, v3, e1, e2, rfl⟩ := h
    cases post with
    | nil => cases e2
    | cons p post =>
      cases e2
      have hp : pre.length + (post.length + 1) ≤ 1000 := by rw [e1, List.length_append, List.length_cons] at hl; exact hl
      rw [show itD p = .tup [.int p.1, .str p.2] from rfl]
      walk_at "u"
      refine ⟨by rw [List.length_map, List.length_map]; omega, ?_⟩
      exact hN _ ⟨pre ++ [p], post, some (.fz (.int p.1)), some (.fz (.str p.2)), by rw [e1]; simp, rfl, by simp⟩
abbrev s_law_part_names : Stmt := top 51
abbrev n_law_part_names : List Str := ["_law_part"]
theorem sc_law_part_names : FnScope n_law_part_names ["_law_part"] (defScope s_law_part_names) := ⟨rfl, rfl, rfl, by decide +kernel, rfl, by decide +kernel, by decide +kernel⟩
theorem gk_part {f : Addr} {fd : FuncData} {j : Nat} (Fu : Fun K "_law_part_names" "_law_part_names" s_law_part_names f fd) (T : TN mg) (D_law_term_names : Df P w K mg base j "_law_term_names" ["_law_term"] (spD K mg false gTNames)) : FnOk P w K mg base CX0 (j + 1) f fd ["_law_part"] (spD K mg false gPart) := by
  refine fn_pd Fu sc_law_part_names (fun ds k xk h => by obtain ⟨s, rfl, _⟩ := h; rfl) fun cdv A outer s H E C ds k xk hr Fi hu φ => ?_
  have nd := sc_law_part_names.nd
  refine ⟨_, _, (qss_cons (qs_if (qt_cmp (op_eqA hr.units) (l_eq Fi) (pd_ixV ix_seq (l_ix Fi) (pv 0) (PD.b pd_int) (fun _ _ => rfl)) (PD.b pd_str) (nomark _))
      (qss_one (qs_ret (pd_callTy1 call_list_of (l_list Fi) (by rfl) T.list (by decide +kernel) (PD.b (pd_ixV ix_seq (l_ix Fi) (pv 0) (PD.b pd_int) (fun _ _ => rfl))))))
      qss_nil)
      (qss_cons (qs_if (qt_cmp (op_inA (un65 hr)) (l_in Fi) (pd_ixV ix_seq (l_ix Fi) (pv 0) (PD.b pd_int) (fun _ _ => rfl)) (PD.b (pd_tup (qa_cons pd_str (qa_cons pd_str qa_nil)))) rfl)
      (qss_one (qs_ret (pd_op op_addA (l_add Fi) (pd_call Fi D_law_term_names hr (Nat.le_refl _) (qa_cons (pd_ixV ix_seq (l_ix Fi) (pv 0) (PD.b pd_int) (fun _ _ => rfl)) qa_nil)) (PD.b (pd_call Fi D_law_term_names hr (Nat.le_refl _) (qa_cons (pd_ixV ix_seq (l_ix Fi) (pv 0) (PD.b pd_int) (fun _ _ => rfl)) qa_nil))))))
      qss_nil)
      (qss_cons (qs_if (qt_cmp (op_eqA hr.units) (l_eq Fi) (pd_ixV ix_seq (l_ix Fi) (pv 0) (PD.b pd_int) (fun _ _ => rfl)) (PD.b pd_str) (nomark _))
      (qss_one (qs_ret (pd_op op_addA (l_add Fi) (pd_call Fi D_law_term_names hr (Nat.le_refl _) (qa_cons (pd_ixV ix_seq (l_ix Fi) (pv 0) (PD.b pd_int) (fun _ _ => rfl)) qa_nil)) (PD.b (pd_call Fi D_law_term_names hr (Nat.le_refl _) (qa_cons (pd_ixV ix_seq (l_ix Fi) (pv 0) (PD.b pd_int) (fun _ _ => rfl)) qa_nil))))))
      qss_nil)
      (qss_one (qs_ret (pd_if (qt_cmp (op_eqA hr.units) (l_eq Fi) (pd_ixV ix_seq (l_ix Fi) (pv 0) (PD.b pd_int) (fun _ _ => rfl)) (PD.b pd_str) (nomark _)) (pd_call Fi D_law_term_names hr (Nat.le_refl _) (qa_cons (pd_ixV ix_seq (l_ix Fi) (pv 0) (PD.b pd_int) (fun _ _ => rfl)) qa_nil)) (pd_lst qa_nil))))))), ?_⟩
  obtain ⟨s, rfl, ho, hk, q⟩ := φ
  cases s with
  | cm l a b =>
    have l1 := len_ns hk.1
    have l2 := len_ns hk.2
    have l3 := hk.1.1
    have l4 := hk.2.1
    cases l <;> (unfold Sg.d; walk_at "u"; refine ⟨a, rfl, by omega, ?_⟩; walk_at "u"; refine ⟨b, rfl, by omega, ?_⟩; walk_at "u"; refine ⟨by rw [List.length_map, List.length_map]; omega, ?_⟩; simpa [Sg.tms] using q)
  | lv a m r0 =>
    have l3 := hk.1.1
    unfold Sg.d
    walk_at "u"
    refine ⟨a, rfl, by omega, ?_⟩
    walk_at "u"
    simpa [Sg.tms] using q
  | bad a => cases ho
  | no a => unfold Sg.d; walk_at "u"; exact q
  | an o a b => cases o <;> (unfold Sg.d; walk_at "u"; exact q)
  | a3 a b c => unfold Sg.d; walk_at "u"; exact q
  | qu f x a => cases f <;> (unfold Sg.d; walk_at "u"; exact q)
abbrev s_law_free : Stmt := top 52
abbrev n_law_free : List Str := ["_law_saying", "_law_found", "_law_one", "_law_name"]
theorem sc_law_free : FnScope n_law_free ["_law_saying"] (defScope s_law_free) := ⟨rfl, rfl, rfl, by decide +kernel, rfl, by decide +kernel, by decide +kernel⟩
theorem gk_free {f : Addr} {fd : FuncData} {j n : Nat} (Fu : Fun K "_law_free" "_law_free" s_law_free f fd) (T : TN mg) (TD : mg "dict" = none) (D_law_inner : Df P w K mg base j "_law_inner" ["_law_part"] (spD K mg false gInner)) (D_law_part_names : Df P w K mg base j "_law_part_names" ["_law_part"] (spD K mg false gPart)) (D_law_free : Df P w K mg base j "_law_free" ["_law_saying"] (spD K mg false (below vFree n))) : FnOk P w K mg base CX0 (j + 1) f fd ["_law_saying"] (spD K mg false (vFree n)) := by
  refine fn_pd Fu sc_law_free (fun ds k xk h => by obtain ⟨s, rfl, _⟩ := h; rfl) fun cdv A outer s H E C ds k xk hr Fi hu φ => ?_
  have nd := sc_law_free.nd
  refine ⟨_, _, (qss_cut (qs_if (qt_cmp (op_inA (un65 hr)) (l_in Fi) (pd_ixV ix_seq (l_ix Fi) (pv 0) (PD.b pd_int) (fun _ _ => rfl)) (PD.b (pd_tup (qa_cons pd_str (qa_cons pd_str qa_nil)))) rfl)
      (qss_one (qs_ret (pd_comp (own := [("_law_name", 3)]) rfl nd (qi_list (pd_call Fi D_law_free hr (Nat.le_refl _) (qa_cons (pd_ixV ix_seq (l_ix Fi) (pv 0) (PD.b pd_int) (fun _ _ => rfl)) qa_nil))) (blkOk_by (own := [("_law_name", 3)]) (N := n_law_free) (sc := defScope s_law_free) (by decide +kernel)) (fun _ _ _ _ _ => (qg_name (pg_name (i := 3) nd rfl (Or.inl rfl)))) (fun _ _ _ _ _ => (qts_one (qt_cmpV (op_neA hr.units) (l_ne (Fi.blk)) (pv 3) (PD.b (pd_ixV ix_seq (l_ix (Fi.blk)) (pv 0) (PD.b pd_int) (fun _ _ => rfl))) (nomark _)))) (fun _ _ _ _ _ => (pd_var (pv 3))))))
      qss_nil)
      (qss_cons (qs_set (i := 1) nd rfl (Or.inl rfl) (pd_call Fi D_law_part_names hr (Nat.le_refl _) (qa_cons (pd_var (pv 0)) qa_nil)))
      (qss_cons (qs_for PassesOwn.never rfl (qi_list (pd_call Fi D_law_inner hr (Nat.le_refl _) (qa_cons (pd_var (pv 0)) qa_nil))) (qg_name (pg_name (i := 2) nd rfl (Or.inl rfl)))
      (qss_one (qs_set (i := 1) nd rfl (Or.inl rfl) (pd_opV op_addA (l_add Fi) (pv 1) (PD.b (pd_call Fi D_law_free hr (Nat.le_refl _) (qa_cons (pd_var (pv 2)) qa_nil)))))))
      (qss_one (qs_ret (pd_sokeyW Fi (PD.b (pd_comp (own := [("_law_name", 3)]) rfl nd (qi_list (pd_var (pv 1))) (blkOk_by (own := [("_law_name", 3)]) (N := n_law_free) (sc := defScope s_law_free) (by decide +kernel)) (fun _ _ _ _ _ => (qg_name (pg_name (i := 3) nd rfl (Or.inl rfl)))) (fun _ _ _ _ _ => qts_nil) (fun _ _ _ _ _ => (pd_tup (qa_cons (pd_var (pv 3)) (qa_cons pd_int qa_nil)))))) rfl (by rfl) T.sorted (by rfl) T.list (by rfl) TD)))))), ?_⟩
  obtain ⟨s, rfl, hn, hg, ho, hc, q⟩ := φ
  have hb : s.isBad = false := hg s (by rw [pre_eq]; exact List.mem_cons_self)
  by_cases hq : ∃ f x a, s = .qu f x a
  · obtain ⟨f, x, a, rfl⟩ := hq
    have ha : a ∈ (Sg.qu f x a).inn := by simp [Sg.inn]
    have hl2 := len_fr a
    have hc2 : a.cn < 64 := hc
    obtain ⟨wd, hwd, hdd⟩ : ∃ wd : Str, (Sg.qu f x a).d = .tup [.str wd, .str x, a.d] ∧ (wd = Str.ofString "some" ∨ wd = Str.ofString "all") := by
      cases f
      · exact ⟨_, rfl, .inr rfl⟩
      · exact ⟨_, rfl, .inl rfl⟩
    rw [hwd]
    rw [fr_qu] at q
    rcases hdd with rfl | rfl <;> (
      walk_at "u"
      refine cut (fun _ => False) ?_ (fun _ h => h.elim)
      walk_at "u"
      refine ⟨a.pre.length, Nat.lt_of_lt_of_le (len_inn ha) hn, a, rfl, Nat.le_refl _, good_inn hg ha, ok_inn ho ha, hc2, ?_⟩
      walk_at "u"
      refine lc_fix (fun ds acc => ∃ pre post : List Str, a.fr = pre ++ post ∧ ds = post.map .str ∧ acc = (dropS x pre).map .str) ⟨[], a.fr, rfl, rfl, rfl⟩ (fun acc h => ?_) (fun d ds acc N h hN => ?_)
      · obtain ⟨pre, post, e1, e2, rfl⟩ := h
        obtain rfl : post = [] := List.map_eq_nil_iff.mp e2.symm
        rw [List.append_nil] at e1
        rw [← e1]
        walk_at "u"
        exact q
      · obtain ⟨pre, post, e1, e2, rfl⟩ := h
        cases post with
        | nil => cases e2
        | cons y post =>
          cases e2
          have h5 := len_drop x pre
          have h6 : pre.length + (post.length + 1) < 64 := by rw [e1, List.length_append, List.length_cons] at hl2; omega
          walk_at "u"
          refine ⟨fun h => ?_, fun h => ?_⟩
          · walk_at "u"
            refine hN _ ⟨pre ++ [y], post, by rw [e1]; simp, rfl, ?_⟩
            unfold dropS
            simp [h]
          · walk_at "u"
            refine ⟨by rw [List.length_map]; omega, hN _ ⟨pre ++ [y], post, by rw [e1]; simp, rfl, ?_⟩⟩
            unfold dropS
            simp [h])
  · have hraw := fr_raw hb (fun f x a e => hq ⟨f, x, a, e⟩)
    have hlen := len_raw (s := s)
    rw [List.length_append] at hlen
    walk_at "u"
    refine cut1 [some (.fz s.d), none, none, none] ?_ ?_
    · cases s with
      | cm l a b => cases l <;> (unfold Sg.d; walk_at "u"; first | done | rfl)
      | lv a m r0 => unfold Sg.d; walk_at "u"; first | done | rfl
      | bad a => cases hb
      | no a => unfold Sg.d; walk_at "u"; first | done | rfl
      | an o a b => cases o <;> (unfold Sg.d; walk_at "u"; first | done | rfl)
      | a3 a b c => unfold Sg.d; walk_at "u"; first | done | rfl
      | qu f x a => exact absurd ⟨f, x, a, rfl⟩ hq
    walk_at "u"
    refine ⟨s, rfl, hb, ok_head ho, ?_⟩
    walk_at "u"
    refine ⟨s, rfl, hb, ?_⟩
    walk_at "u"
    refine loop_ind (fun ds ρ => ∃ (pre post : List Sg) (v2 : Option Sl), s.inn = pre ++ post ∧ ds = post.map Sg.d ∧ ρ = [some (.fz s.d), some (.ol ((s.tms.flatMap Lt.ns ++ pre.flatMap Sg.fr).map .str)), v2, none]) (fun ρ h => ?_) (fun d ds ρ N h hN => ?_) _ _ ⟨[], s.inn, none, rfl, rfl, by simp⟩
    · obtain ⟨pre, post, v2, e1, e2, rfl⟩ := h
      obtain rfl : post = [] := List.map_eq_nil_iff.mp e2.symm
      rw [List.append_nil] at e1
      rw [← e1, show s.tms.flatMap Lt.ns ++ s.inn.flatMap Sg.fr = s.raw from rfl]
      have hl3 : s.raw.length < 64 := by
        unfold Sg.raw
        rw [List.length_append]
        omega
      walk_at "u"
      refine lc_fix (fun ds acc => ∃ pre post : List Str, s.raw = pre ++ post ∧ ds = post.map .str ∧ acc = pre.map prD) ⟨[], s.raw, rfl, rfl, rfl⟩ (fun acc h => ?_) (fun d ds acc N h hN => ?_)
      · obtain ⟨p2, q2, g1, g2, rfl⟩ := h
        obtain rfl : q2 = [] := List.map_eq_nil_iff.mp g2.symm
        rw [List.append_nil] at g1
        rw [← g1]
        walk_at "u"
        refine ⟨_, rfl, hl3, ?_⟩
        rw [hraw]
        exact q
      · obtain ⟨p2, q2, g1, g2, rfl⟩ := h
        cases q2 with
        | nil => cases g2
        | cons y q2 =>
          cases g2
          have h6 : p2.length + (q2.length + 1) < 64 := by rw [g1, List.length_append, List.length_cons] at hl3; exact hl3
          walk_at "u"
          refine ⟨by rw [List.length_map]; omega, hN _ ⟨p2 ++ [y], q2, by rw [g1]; simp, rfl, by simp [prD]⟩⟩
    · obtain ⟨pre, post, v2, e1, e2, rfl⟩ := h
      cases post with
      | nil => cases e2
      | cons x post =>
        cases e2
        have hx : x ∈ s.inn := by rw [e1]; simp
        have hle : (s.tms.flatMap Lt.ns).length + ((pre.flatMap Sg.fr).length + x.fr.length) ≤ s.cn := by
          rw [e1] at hlen
          simp only [List.flatMap_append, List.flatMap_cons, List.length_append] at hlen
          omega
        walk_at "u"
        refine ⟨x.pre.length, Nat.lt_of_lt_of_le (len_inn hx) hn, x, rfl, Nat.le_refl _, good_inn hg hx, ok_inn ho hx, Nat.lt_of_le_of_lt (cn_inn hx) hc, ?_⟩
        walk_at "u"
        refine ⟨by rw [List.length_map, List.length_map, List.length_append]; omega, hN _ ⟨pre ++ [x], post, some (.fz x.d), by rw [e1]; simp, rfl, by simp⟩⟩
abbrev s_law_scope_due : Stmt := top 53
abbrev n_law_scope_due : List Str := ["_law_saying", "_law_free_here", "_law_left", "_law_number", "_law_part", "_law_names_here", "_law_one"]
theorem sc_law_scope_due : FnScope n_law_scope_due ["_law_saying"] (defScope s_law_scope_due) := ⟨rfl, rfl, rfl, by decide +kernel, rfl, by decide +kernel, by decide +kernel⟩
theorem gk_due {f : Addr} {fd : FuncData} {j : Nat} (Fu : Fun K "_law_scope_due" "_law_scope_due" s_law_scope_due f fd) (T : TN mg) (D_law_inner : Df P w K mg base j "_law_inner" ["_law_part"] (spD K mg false gInner)) (D_law_free : Df P w K mg base j "_law_free" ["_law_saying"] (spD K mg false (vFree 20))) : FnOk P w K mg base CX0 (j + 1) f fd ["_law_saying"] (spD K mg false gDue) := by
  refine fn_pd Fu sc_law_scope_due (fun ds k xk h => by obtain ⟨s, rfl, _⟩ := h; rfl) fun cdv A outer s H E C ds k xk hr Fi hu φ => ?_
  have nd := sc_law_scope_due.nd
  refine ⟨_, _, (qss_cons (qs_par3 (i := 1) (j := 2) (l := 3) rfl nd rfl rfl rfl (by decide) (by decide) (by decide) rfl rfl rfl (pd_call Fi D_law_free hr (Nat.le_refl _) (qa_cons (pd_var (pv 0)) qa_nil)) (pd_lst (qa_cons (pd_tup (qa_cons (pd_var (pv 0)) (qa_cons (pd_lst qa_nil) qa_nil))) qa_nil)) pd_int (by kernel_rfl))
      (qss_cons (qs_while PassesOwn.never (qt_cmpV (op_neA hr.units) (l_ne Fi) (pv 2) (PD.b (pd_lst qa_nil)) (nomark _))
      (qss_cons (qs_asg (pd_popm (pv 2)) (qg_tup (n := 2) Fi rfl (qgs_cons (qg_name (pg_name (i := 4) nd rfl (Or.inl rfl))) (qgs_cons (qg_name (pg_name (i := 5) nd rfl (Or.inr rfl))) qgs_nil))))
        (qss_cons (qs_if (qt_cmp op_gtA l_ord (pd_op op_addA (l_add Fi) (pd_callB1 call_len2 (l_len Fi) (by rfl) T.len (by decide +kernel) (pb_var (pv 1))) (PD.b (pd_callB1 call_len2 (l_len Fi) (by rfl) T.len (by decide +kernel) (pb_var (pv 5))))) (PD.b pd_int) (nomark _))
        (qss_one (qs_ret (pd_mv (pv 3))))
        qss_nil)
        (qss_cut (qs_if (qt_cmp (op_inA (un65 hr)) (l_in Fi) (pd_ixV ix_seq (l_ix Fi) (pv 4) (PD.b pd_int) (fun _ _ => rfl)) (PD.b (pd_tup (qa_cons pd_str (qa_cons pd_str qa_nil)))) rfl)
        (qss_cons (qs_ifC (qt_w (qw_or (qt_cmp (op_inA (un65 hr)) (l_in Fi) (pd_ixV ix_seq (l_ix Fi) (pv 4) (PD.b pd_int) (fun _ _ => rfl)) (pb_var (pv 1)) rfl) (qw_or1 (qt_cmp (op_inA (un65 hr)) (l_in Fi) (pd_ixV ix_seq (l_ix Fi) (pv 4) (PD.b pd_int) (fun _ _ => rfl)) (pb_var (pv 5)) rfl))))
          (qss_one (qs_ret (pd_mv (pv 3))))
          qss_nil)
          (qss_one (qs_set (i := 5) nd rfl (Or.inr rfl) (pd_opV op_addA (l_add Fi) (pv 5) (PD.b (pd_lst (qa_cons (pd_ixV ix_seq (l_ix Fi) (pv 4) (PD.b pd_int) (fun _ _ => rfl)) qa_nil)))))))
        qss_nil)
        (qss_cons (qs_set (i := 2) nd rfl (Or.inl rfl) (pd_opV op_addA (l_add Fi) (pv 2) (PD.b (pd_comp (own := [("_law_one", 6)]) rfl nd (qi_list (pd_rev Fi (PD.b (pd_call Fi D_law_inner hr (Nat.le_refl _) (qa_cons (pd_var (pv 4)) qa_nil))))) (blkOk_by (own := [("_law_one", 6)]) (N := n_law_scope_due) (sc := defScope s_law_scope_due) (by decide +kernel)) (fun _ _ _ _ _ => (qg_name (pg_name (i := 6) nd rfl (Or.inl rfl)))) (fun _ _ _ _ _ => qts_nil) (fun _ _ _ _ _ => (pd_tup (qa_cons (pd_var (pv 6)) (qa_cons (pd_var (pv 5)) qa_nil))))))))
        (qss_one (qs_set (i := 3) nd rfl (Or.inl rfl) (pd_opV op_addA (l_add Fi) (pv 3) (PD.b pd_int)))))))))
      (qss_one (qs_ret pd_non)))), ?_⟩
  obtain ⟨s, rfl, hl, hg, ho, hc, q⟩ := φ
  walk_at "u"
  refine ⟨s, rfl, hl, hg, ho, hc, ?_⟩
  walk_at "u"
  refine wh_ind (fun m ρ => ∃ (st : List (Sg × List Str)) (n : Nat) (v4 v5 : Option Sl), m = (st.flatMap (scF s.fr)).length ∧ (∀ p ∈ st, p.1.ok ∧ p.1.good ∧ ∀ z ∈ p.2, VrB z) ∧ (st.flatMap (scF s.fr)).length ≤ 20 ∧ s.due = mib (st.flatMap (scF s.fr)) n ∧
    ρ = [some (.fz s.d), some (.fz (.lst (s.fr.map .str))), some (.ol (st.map stD).reverse), some (.fz (.int (n : Nat))), v4, v5, none]) (fun m ρ N h hN => ?_) s.pre.length _ ⟨[(s, [])], 0, none, none, ?_, ?_, ?_, ?_, ?_⟩
  · obtain ⟨st, n, v4, v5, rfl, h1, h2, h3, rfl⟩ := h
    walk_at "u"
    refine ⟨fun _ => ⟨okD_stack h1 h2, emp_okL⟩, ?_⟩
    rw [eqL_nil]
    cases st with
    | nil =>
      refine IT.pos rfl ?_
      walk_at "u"
      rw [h3] at q
      exact q
    | cons p r =>
      obtain ⟨x, nm⟩ := p
      obtain ⟨ox, gx, vx⟩ := h1 (x, nm) List.mem_cons_self
      have hx := sc_eq x (s.fr ++ nm)
      have hb : x.isBad = false := gx x (by rw [pre_eq]; exact List.mem_cons_self)
      have ea : x.arn (s.fr ++ nm) = s.fr ++ x.arn nm := by cases x <;> simp [Sg.arn]
      have vn : ∀ z ∈ x.arn nm, VrB z := fun z hz => by
        cases x with
        | qu f y a =>
          rcases List.mem_append.mp (show z ∈ nm ++ [y] from hz) with hz | hz
          · exact vx z hz
          · rw [List.mem_singleton.mp hz]; exact ok_head ox
        | _ => exact vx z hz
      have e0 : (List.flatMap (scF s.fr) ((x, nm) :: r)) = (x, s.fr ++ nm) :: ((x.inn.map fun y => (y, x.arn nm)) ++ r).flatMap (scF s.fr) := by
        rw [List.flatMap_cons, List.flatMap_append, List.flatMap_map]
        show x.sc (s.fr ++ nm) ++ _ = _
        rw [hx, ea]
        rfl
      rw [e0] at h2 h3 hN
      have el : (List.map D.str nm).length = nm.length := List.length_map ..
      have ef : (List.map D.str s.fr).length = s.fr.length := List.length_map ..
      refine IT.neg (by simp) ?_
      walk_at "u"
      refine ⟨stD (x, nm), rev_last _ _, ?_⟩
      rw [show stD (x, nm) = .tup [x.d, .lst (nm.map .str)] from rfl]
      walk_at "u"
      rw [rev_drop, el, ef]
      refine ⟨fun h => ?_, fun h => ?_⟩
      · walk_at "u"
        rw [h3] at q
        unfold mib at q
        rw [if_pos (Or.inl (by show 3 < (s.fr ++ nm).length; rw [List.length_append]; omega))] at q
        exact q
      · walk_at "u"
        refine cut (fun ρ' => x.bnd (s.fr ++ nm) = false ∧ ∃ v5, (v5 = Sl.fz (.lst ((x.arn nm).map .str)) ∨ v5 = Sl.ol ((x.arn nm).map .str)) ∧ ρ' = [some (.fz s.d), some (.fz (.lst (s.fr.map .str))), some (.ol (r.map stD).reverse), some (.fz (.int (n : Nat))), some (.fz x.d), some v5, none]) ?_ ?_
        · cases x with
          | cm l a b => cases l <;> (unfold Sg.d; walk_at "u"; exact ⟨rfl, _, .inl rfl, rfl⟩)
          | lv a m r0 => unfold Sg.d; walk_at "u"; exact ⟨rfl, _, .inl rfl, rfl⟩
          | bad a => cases hb
          | no a => unfold Sg.d; walk_at "u"; exact ⟨rfl, _, .inl rfl, rfl⟩
          | an o a b => cases o <;> (unfold Sg.d; walk_at "u"; exact ⟨rfl, _, .inl rfl, rfl⟩)
          | a3 a b c => unfold Sg.d; walk_at "u"; exact ⟨rfl, _, .inl rfl, rfl⟩
          | qu f y a =>
            have hy : VrB y := ok_head ox
            obtain ⟨wd, hwd, hdd⟩ : ∃ wd : Str, (Sg.qu f y a).d = .tup [.str wd, .str y, a.d] ∧ (wd = Str.ofString "some" ∨ wd = Str.ofString "all") := by
              cases f
              · exact ⟨_, rfl, .inr rfl⟩
              · exact ⟨_, rfl, .inl rfl⟩
            rw [hwd]
            rcases hdd with rfl | rfl <;> (
              walk_at "u"
              refine ifC (y ∈ s.fr ++ nm) ?_ (fun h => ?_) (fun h => ?_)
              · walk_at "u"
                refine ⟨okD_str hy, okD_strs (fr_vr ho), ?_⟩
                rw [inD_mem]
                refine ⟨fun g => ?_, fun g => ?_⟩
                · walk_at "u"
                  have g : y ∈ s.fr := of_decide_eq_true g
                  exact ⟨fun _ => List.mem_append.mpr (.inl g), fun _ => trivial⟩
                · walk_at "u"
                  have g : ¬ y ∈ s.fr := fun q => g (decide_eq_true q)
                  refine ⟨okD_str hy, okD_strs vx, ?_⟩
                  rw [inD_mem]
                  exact ⟨fun q => List.mem_append.mpr (.inr (of_decide_eq_true q)), fun q => decide_eq_true ((List.mem_append.mp q).resolve_left g)⟩
              · walk_at "u"
                rw [h3] at q
                unfold mib at q
                rw [if_pos (Or.inr (show (Sg.qu f y a).bnd (s.fr ++ nm) = true from decide_eq_true h))] at q
                exact q
              · walk_at "u"
                refine ⟨by rw [List.length_map]; omega, decide_eq_false h, _, .inr ?_, rfl⟩
                simp [Sg.arn])
        · rintro ρ' ⟨hbn, v5, h5, rfl⟩
          have hq : mib ((x, s.fr ++ nm) :: List.flatMap (scF s.fr) (List.map (fun y => (y, x.arn nm)) x.inn ++ r)) n = mib (List.flatMap (scF s.fr) (List.map (fun y => (y, x.arn nm)) x.inn ++ r)) (n + 1) := by
            conv => lhs; unfold mib
            rw [if_neg]
            rintro (g | g)
            · have g : 3 < (s.fr ++ nm).length := g
              rw [List.length_append] at g
              omega
            · have g : x.bnd (s.fr ++ nm) = true := g
              rw [hbn] at g
              cases g
          have lq : ∀ l : List (Sg × List Str), l.length ≤ (l.flatMap (scF s.fr)).length := fun l => by
            induction l with
            | nil => exact Nat.le_refl _
            | cons p l ih =>
              rw [List.flatMap_cons, List.length_append, List.length_cons, len_scF]
              have := len_pre p.1
              omega
          have lr := lq r
          have li : x.inn.length ≤ ((x.inn.map fun y => (y, x.arn nm)).flatMap (scF s.fr)).length := by
            have := lq (x.inn.map fun y => (y, x.arn nm))
            rw [List.length_map] at this
            exact this
          rw [List.length_cons, List.flatMap_append, List.length_append] at h2
          walk_at "u"
          refine ⟨x, rfl, hb, ?_⟩
          walk_at "u"
          refine lc_ind (fun ds acc ρ => ∃ (pre post : List Sg) (u5 : Sl), x.inn.reverse = pre ++ post ∧ ds = post.map Sg.d ∧ acc = pre.map (fun y => stD (y, x.arn nm)) ∧ (u5 = Sl.fz (.lst ((x.arn nm).map .str)) ∨ u5 = Sl.ol ((x.arn nm).map .str)) ∧
            ρ = [some (.fz s.d), some (.fz (.lst (s.fr.map .str))), some (.ol (r.map stD).reverse), some (.fz (.int (n : Nat))), some (.fz x.d), some u5, none]) (fun acc ρ h => ?_) (fun d ds acc ρ N2 h hN2 => ?_) _ _ _ ⟨[], x.inn.reverse, v5, rfl, by rw [List.map_reverse], rfl, h5, rfl⟩
          · obtain ⟨pre, post, u5, e1, e2, rfl, h6, rfl⟩ := h
            obtain rfl : post = [] := List.map_eq_nil_iff.mp e2.symm
            rw [List.append_nil] at e1
            walk_at "u"
            have e3 : (r.map stD).reverse ++ pre.map (fun y => stD (y, x.arn nm)) = ((x.inn.map (fun y => (y, x.arn nm)) ++ r).map stD).reverse := by
              rw [← e1, List.map_append, List.reverse_append, List.map_map, List.map_reverse]
              rfl
            rw [e3]
            refine ⟨by rw [← e1]; simp; omega, hN _ (Nat.lt_succ_self _) _ ⟨_, n + 1, _, _, rfl, fun p hp => ?_, ?_, h3.trans hq, rfl⟩⟩
            · rcases List.mem_append.mp hp with hp | hp
              · obtain ⟨y, hy, rfl⟩ := List.mem_map.mp hp
                exact ⟨ok_inn ox hy, good_inn gx hy, vn⟩
              · exact h1 p (List.mem_cons_of_mem _ hp)
            · rw [List.flatMap_append, List.length_append]
              omega
          · obtain ⟨pre, post, u5, e1, e2, rfl, h6, rfl⟩ := h
            cases post with
            | nil => cases e2
            | cons y post =>
              cases e2
              have l2 : pre.length + (post.length + 1) = x.inn.length := by
                have := congrArg List.length e1
                rw [List.length_reverse, List.length_append, List.length_cons] at this
                exact this.symm
              rcases h6 with rfl | rfl <;> (
                walk_at "u"
                exact ⟨by rw [List.length_map]; omega, hN2 _ _ ⟨pre ++ [y], post, _, by rw [e1]; simp, rfl, by simp [stD], .inl rfl, rfl⟩⟩)
  · simp [scF, scP, len_sc]
  · intro p hp
    rw [List.mem_singleton.mp hp]
    exact ⟨ho, hg, fun z hz => by cases hz⟩
  · simp [scF, scP, len_sc]
    exact hl
  · simp [scF, scP, Sg.due]
  · rfl
theorem all_gfree {f : Addr} {fd : FuncData} {k : Nat} (Fu : Fun K "_law_free" "_law_free" s_law_free f fd) (T : TN mg) (TD : mg "dict" = none) (D_law_inner : Df P w K mg base k "_law_inner" ["_law_part"] (spD K mg false gInner)) (D_law_part_names : Df P w K mg base k "_law_part_names" ["_law_part"] (spD K mg false gPart))
    (b : Binds K fd ["_law_saying"] []) (mt : mg "_law_free" = some (.ref f)) : ∀ n : Nat, FnOk P w K mg base CX0 (k + 1 * n + 1) f fd ["_law_saying"] (spD K mg false (vFree n)) :=
  rec_fn (Φ := vFree) k 1 vFree_mono fun n j hj IH => gk_free Fu T TD (dmono D_law_inner hj) (dmono D_law_part_names hj) ⟨_, _, IH, b, mt, Fu.kp⟩
end
end Q

set_option autoImplicit false
set_option linter.all false
/-! SM: what was found is what was due -/
namespace Q
open PySem L2
open RF (top Df)
local macro_rules | `(tactic| walk_at "u") => `(tactic| simp (config := { dsimp := false }) only [↓CL_of, ↓IT_of, ↓LC_of, ↓LP_of, ↓WH_of, ↓CT_of, ↓IC_of, ↓SC_of, ↓wSeq, ↓wIfS, ↓wYes, ↓wOpV, ↓wOp, ↓wC, ↓wUn, ↓wRet, ↓wJoin, ↓wJs, ↓wArg, ↓wCons, ↓wVar, ↓wBor, ↓wMv, ↓wSet, ↓wAsg, ↓wNm, ↓wTg, ↓wGCons, ↓wApp, ↓wPop, ↓wExt, ↓wSub, ↓wDrop, ↓wPar, ↓wAug, ↓wAnd, ↓wOr, ↓wNot, ↓wTru, truP, ↓wIf, ↓wAndV, ↓wOrV, ↓wNotV, ↓wChain, ↓wSl, ↓wSlV, ↓wPart, ↓wM1, ↓wMN, pStarts, pEnds, pRfind, pStripC, pParts, pStarts3, pFind3, pSS, pSSI, pMax3, ↓wFor, ↓wLc, ↓wList, ↓wTupI, ↓wRng1, ↓wRng2, ↓wEnum, ↓wZip, ↓wRevI, ↓wStrI, ↓wKw, pCallV, wipeE, pTupN, pLstN, pIx, pSl, pRev, pLen, pAbs, pInt, pBool, pStr, pList, pTuple, pSum, pNums, pBls, pIsi, pIsi2, tyN, aI_fold, cutD1, inD_nil, inD_cons, Bool.or_eq_true, decide_eq_true_eq, Bool.or_false, Bool.false_or, Bool.true_or, Bool.or_true, decide_true, decide_false, or_false, false_or, or_true, true_or, List.all_cons, List.all_nil, Bool.and_self, Bool.not_true, Bool.not_false, iff_self, if_true, if_false, Bool.false_eq_true, ofS_inj, String.reduceEq, ati0, ati1, ati2, ati3, ati4, exists_and_left, isi_NoneType_bool, isi_NoneType_int, isi_NoneType_str, isi_NoneType_list, isi_NoneType_tuple, isi_bool_bool, isi_bool_int, isi_bool_str, isi_bool_list, isi_bool_tuple, isi_int_bool, isi_int_int, isi_int_str, isi_int_list, isi_int_tuple, isi_str_bool, isi_str_int, isi_str_str, isi_str_list, isi_str_tuple, isi_list_bool, isi_list_int, isi_list_str, isi_list_list, isi_list_tuple, isi_tuple_bool, isi_tuple_int, isi_tuple_str, isi_tuple_list, isi_tuple_tuple, isi_dict_bool, isi_dict_int, isi_dict_str, isi_dict_list, isi_dict_tuple, mi_bool, mi_int, mi_str, mi_list, mi_tuple, pI2, pI2N, pAdd, pSub, pMul, pNeg, pEqF, pOrd, pIs, pIn, isNon, D.told, D.flat, pFmt, pDivmod, startE, fzs, List.map_cons, List.map_nil, List.length_cons, List.length_nil, List.cons_append, List.nil_append, List.replicate, get_s, get_z, List.set_cons_zero, List.set_cons_succ, Option.some.injEq, exists_eq', true_and, and_true, exists_eq_left', Sl.toD, Nat.sub_self, Nat.reduceAdd, Nat.reduceLeDiff, Nat.reduceLT, Int.reduceToNat, Nat.reduceSub, scalD, eqD_int, eqD_str, eqD_tt, eqD_ff, eqD_tf, eqD_ft, id_eq, reduceCtorEq, false_implies, implies_true, D.int.injEq, D.str.injEq, D.lst.injEq, D.tup.injEq, Sl.fz.injEq, Sl.ol.injEq, RF.e_app, RF.app_e, RF.emp_eq, IT_t, IT_f, IT_T, IT_F, IT_d, IT_n, IT_not])
local macro_rules | `(tactic| walk_at "l") => `(tactic| first | omega | (simp only [RF.len_app, RF.e_app, RF.app_e, RF.emp_eq, sizeLine_eq, l_dash, l_plus, l_r, l_emp, l_lp, l_rpd, l_slash, l_star, l_sp1, l_sp2, l_flo, l_com, l_rp, l_le, l_equ, l_und, l_lea, l_not, l_allS, l_some, l_spc, l_ors, l_ands, List.map_cons, List.map_nil, List.sum_cons, List.sum_nil, List.length_cons, List.length_nil, List.length_map, List.length_append, List.length_replicate, List.length_range] <;> omega))
local macro_rules | `(tactic| walk_at "f") => `(tactic| ((repeat' apply And.intro) <;> first | assumption | walk_at "l"))
local macro_rules | `(tactic| walk_at "s") => `(tactic| (repeat (refine And.intro (by walk_at "l") ?_)))
mutual
/-- told as it is, lists of at most a million -/
def tame : D → Bool
  | .non => true
  | .bl _ => true
  | .int _ => true
  | .str _ => true
  | .lst ds => decide (ds.length ≤ 1000000) && tames ds
  | .tup ds => decide (ds.length ≤ 1000000) && tames ds
  | _ => false
def tames : List D → Bool
  | [] => true
  | d :: ds => tame d && tames ds
end
theorem tames_mem : ∀ {ds : List D}, tames ds = true → ∀ d ∈ ds, tame d = true
  | e :: ds, hp, d, h => by
    have hp : (tame e && tames ds) = true := hp
    rw [Bool.and_eq_true] at hp
    rcases List.mem_cons.mp h with rfl | h
    · exact hp.1
    · exact tames_mem hp.2 d h
def fSame (n : Nat) : Ph := fun ds k _ => ∃ x : D, ds = [x, x] ∧ tame x = true ∧ dep x ≤ n ∧ k (.fz (.bl true))
theorem fSame_mono (m n : Nat) (h : m ≤ n) (ds : List D) (κ : Sl → Prop) (e : Exc → Prop) : fSame m ds κ e → fSame n ds κ e := fun ⟨x, h1, h2, h3, h4⟩ => ⟨x, h1, h2, Nat.le_trans h3 h, h4⟩
section
variable {P : Program} {w : World} {K : PySem.W.Frag} {mg : Str → Option Value} {base : Heap}
abbrev s_law_same : Stmt := top 41
abbrev n_law_same : List Str := ["_law_found", "_law_due", "_law_a", "_law_b"]
theorem sc_law_same : FnScope n_law_same ["_law_found", "_law_due"] (defScope s_law_same) := ⟨rfl, rfl, rfl, by decide +kernel, rfl, by decide +kernel, by decide +kernel⟩
theorem ok_same {f : Addr} {fd : FuncData} {j n : Nat} (Fu : Fun K "_law_same" "_law_same" s_law_same f fd) (T : TN mg) (D_law_same : Df P w K mg base j "_law_same" ["_law_found", "_law_due"] (spD K mg false (below fSame n))) : FnOk P w K mg base CX0 (j + 1) f fd ["_law_found", "_law_due"] (spD K mg false (fSame n)) := by
  refine fn_pd Fu sc_law_same (fun ds k xk h => by obtain ⟨s, rfl, _⟩ := h; rfl) fun cdv A outer s H E C ds k xk hr Fi hu φ => ?_
  have nd := sc_law_same.nd
  refine ⟨_, _, (qss_cons (qs_ifC (qt_w (qw_or (qt_cmpV op_isA l_is (pv 1) (PD.b pd_non) (nomark _)) (qw_or1 (qt_cmpV op_isA l_is (pv 0) (PD.b pd_non) (nomark _)))))
      (qss_one (qs_ret (pd_and (PD.b (pd_cmpV op_isA l_is (pv 1) (PD.b pd_non) (nomark _))) (pd_one (pd_cmpV op_isA l_is (pv 0) (PD.b pd_non) (nomark _))))))
      qss_nil)
      (qss_cons (qs_ifC (qt_w (qw_or (qt_val (PD.b (pd_callB call_isi (l_isi Fi) (by rfl) T.isinstance (by decide +kernel) (qa_cons (pd_var (pv 1)) (qa_cons (pd_ty (n := "bool") (by rfl) T.bool (by decide +kernel)) qa_nil))))) (qw_or1 (qt_val (PD.b (pd_callB call_isi (l_isi Fi) (by rfl) T.isinstance (by decide +kernel) (qa_cons (pd_var (pv 0)) (qa_cons (pd_ty (n := "bool") (by rfl) T.bool (by decide +kernel)) qa_nil))))))))
      (qss_one (qs_ret (pd_and (PD.b (pd_callB call_isi (l_isi Fi) (by rfl) T.isinstance (by decide +kernel) (qa_cons (pd_var (pv 1)) (qa_cons (pd_ty (n := "bool") (by rfl) T.bool (by decide +kernel)) qa_nil)))) (pd_and (PD.b (pd_callB call_isi (l_isi Fi) (by rfl) T.isinstance (by decide +kernel) (qa_cons (pd_var (pv 0)) (qa_cons (pd_ty (n := "bool") (by rfl) T.bool (by decide +kernel)) qa_nil)))) (pd_one (pd_cmpV (op_eqA hr.units) (l_eq Fi) (pv 0) (pb_var (pv 1)) (nomark _)))))))
      qss_nil)
      (qss_cons (qs_ifC (qt_w (qw_or (qt_val (PD.b (pd_isi2 (n := "list") (m := "tuple") Fi (by rfl) T.isinstance (pd_var (pv 1)) (by rfl) T.list (by decide +kernel) (by rfl) T.tuple (by decide +kernel)))) (qw_or1 (qt_val (PD.b (pd_isi2 (n := "list") (m := "tuple") Fi (by rfl) T.isinstance (pd_var (pv 0)) (by rfl) T.list (by decide +kernel) (by rfl) T.tuple (by decide +kernel)))))))
      (qss_cons (qs_ifC (qt_w (qw_or (qt_cmp (op_neA hr.units) (l_ne Fi) (pd_callB call_isi (l_isi Fi) (by rfl) T.isinstance (by decide +kernel) (qa_cons (pd_var (pv 1)) (qa_cons (pd_ty (n := "list") (by rfl) T.list (by decide +kernel)) qa_nil))) (PD.b (pd_callB call_isi (l_isi Fi) (by rfl) T.isinstance (by decide +kernel) (qa_cons (pd_var (pv 0)) (qa_cons (pd_ty (n := "list") (by rfl) T.list (by decide +kernel)) qa_nil)))) (nomark _)) (qw_or1 (qt_cmp (op_neA hr.units) (l_ne Fi) (pd_callB call_isi (l_isi Fi) (by rfl) T.isinstance (by decide +kernel) (qa_cons (pd_var (pv 1)) (qa_cons (pd_ty (n := "tuple") (by rfl) T.tuple (by decide +kernel)) qa_nil))) (PD.b (pd_callB call_isi (l_isi Fi) (by rfl) T.isinstance (by decide +kernel) (qa_cons (pd_var (pv 0)) (qa_cons (pd_ty (n := "tuple") (by rfl) T.tuple (by decide +kernel)) qa_nil)))) (nomark _)))))
        (qss_one (qs_ret pd_bl))
        qss_nil)
        (qss_one (qs_ret (pd_and (PD.b (pd_cmp (op_eqA hr.units) (l_eq Fi) (pd_callB1 call_len2 (l_len Fi) (by rfl) T.len (by decide +kernel) (pb_var (pv 0))) (PD.b (pd_callB1 call_len2 (l_len Fi) (by rfl) T.len (by decide +kernel) (pb_var (pv 1)))) (nomark _))) (pd_one (pd_callB1 (cr_all rfl) (l_all Fi) (by rfl) T.all (by decide +kernel) (PD.b (pd_comp (own := [("_law_a", 2), ("_law_b", 3)]) rfl nd (qi_zip Fi (by rfl) T.zip (qa_cons (pd_var (pv 0)) (qa_cons (pd_var (pv 1)) qa_nil))) (blkOk_by (own := [("_law_a", 2), ("_law_b", 3)]) (N := n_law_same) (sc := defScope s_law_same) (by decide +kernel)) (fun _ _ _ _ _ => (qg_tup (n := 2) (Fi.blk) rfl (qgs_cons (qg_name (pg_name (i := 2) nd rfl (Or.inl rfl))) (qgs_cons (qg_name (pg_name (i := 3) nd rfl (Or.inl rfl))) qgs_nil)))) (fun _ _ _ _ _ => qts_nil) (fun _ _ _ _ _ => (pd_call (Fi.blk) D_law_same hr (Nat.le_refl _) (qa_cons (pd_var (pv 2)) (qa_cons (pd_var (pv 3)) qa_nil))))))))))))
      qss_nil)
      (qss_cons (qs_ifC (qt_w (qw_or (qt_cmp (op_neA hr.units) (l_ne Fi) (pd_callB call_isi (l_isi Fi) (by rfl) T.isinstance (by decide +kernel) (qa_cons (pd_var (pv 1)) (qa_cons (pd_ty (n := "int") (by rfl) T.int (by decide +kernel)) qa_nil))) (PD.b (pd_callB call_isi (l_isi Fi) (by rfl) T.isinstance (by decide +kernel) (qa_cons (pd_var (pv 0)) (qa_cons (pd_ty (n := "int") (by rfl) T.int (by decide +kernel)) qa_nil)))) (nomark _)) (qw_or1 (qt_cmp (op_neA hr.units) (l_ne Fi) (pd_callB call_isi (l_isi Fi) (by rfl) T.isinstance (by decide +kernel) (qa_cons (pd_var (pv 1)) (qa_cons (pd_ty (n := "str") (by rfl) T.str (by decide +kernel)) qa_nil))) (PD.b (pd_callB call_isi (l_isi Fi) (by rfl) T.isinstance (by decide +kernel) (qa_cons (pd_var (pv 0)) (qa_cons (pd_ty (n := "str") (by rfl) T.str (by decide +kernel)) qa_nil)))) (nomark _)))))
      (qss_one (qs_ret pd_bl))
      qss_nil)
      (qss_one (qs_ret (pd_cmpV (op_eqA hr.units) (l_eq Fi) (pv 0) (pb_var (pv 1)) (nomark _)))))))), ?_⟩
  obtain ⟨x, rfl, ht, hd, q⟩ := φ
  cases x with
  | non =>
    walk_at "u"
    refine ifC True (by walk_at "u") (fun h => ?_) (fun h => absurd trivial h)
    walk_at "u"
    exact q
  | bl b =>
    walk_at "u"
    refine ifC False (by walk_at "u") (fun h => h.elim) (fun h => ?_)
    walk_at "u"
    refine ifC True (by walk_at "u") (fun h => ?_) (fun h => absurd trivial h)
    walk_at "u"
    rw [show eqD (.bl b) (.bl b) = true by cases b <;> rfl]
    exact q
  | int i =>
    walk_at "u"
    refine ifC False (by walk_at "u") (fun h => h.elim) (fun h => ?_)
    walk_at "u"
    refine ifC False (by walk_at "u") (fun h => h.elim) (fun h => ?_)
    walk_at "u"
    refine ifC False (by walk_at "u") (fun h => h.elim) (fun h => ?_)
    walk_at "u"
    refine ifC False (by walk_at "u") (fun h => h.elim) (fun h => ?_)
    walk_at "u"
    exact q
  | str x =>
    walk_at "u"
    refine ifC False (by walk_at "u") (fun h => h.elim) (fun h => ?_)
    walk_at "u"
    refine ifC False (by walk_at "u") (fun h => h.elim) (fun h => ?_)
    walk_at "u"
    refine ifC False (by walk_at "u") (fun h => h.elim) (fun h => ?_)
    walk_at "u"
    refine ifC False (by walk_at "u") (fun h => h.elim) (fun h => ?_)
    walk_at "u"
    exact q
  | lst xs =>
    have ht : (decide (xs.length ≤ 1000000) && tames xs) = true := ht
    rw [Bool.and_eq_true, decide_eq_true_eq] at ht
    have hd : depL xs + 1 ≤ n := hd
    walk_at "u"
    refine ifC False (by walk_at "u") (fun h => h.elim) (fun h => ?_)
    walk_at "u"
    refine ifC False (by walk_at "u") (fun h => h.elim) (fun h => ?_)
    walk_at "u"
    refine ifC True (by walk_at "u") (fun h => ?_) (fun h => absurd trivial h)
    walk_at "u"
    refine ifC False (by walk_at "u") (fun h => h.elim) (fun h => ?_)
    walk_at "u"
    refine lc_map (fun _ => .bl true) _ _ (by rw [zip_len]; exact ht.1) ?_ (fun d N acc hm hN ha => ?_)
    · walk_at "u"
      refine ⟨_, bls_true _, ?_⟩
      rw [List.all_map, show (zipD xs xs).all (id ∘ fun _ => true) = true from List.all_eq_true.mpr fun _ _ => rfl]
      exact q
    · obtain ⟨x, hx, rfl⟩ := zip_self xs d hm
      walk_at "u"
      have hdx := depL_mem hx
      refine ⟨dep x, by omega, x, rfl, tames_mem ht.2 x hx, Nat.le_refl _, ?_⟩
      walk_at "u"
      exact ⟨ha, hN⟩
  | tup xs =>
    have ht : (decide (xs.length ≤ 1000000) && tames xs) = true := ht
    rw [Bool.and_eq_true, decide_eq_true_eq] at ht
    have hd : depL xs + 1 ≤ n := hd
    walk_at "u"
    refine ifC False (by walk_at "u") (fun h => h.elim) (fun h => ?_)
    walk_at "u"
    refine ifC False (by walk_at "u") (fun h => h.elim) (fun h => ?_)
    walk_at "u"
    refine ifC True (by walk_at "u") (fun h => ?_) (fun h => absurd trivial h)
    walk_at "u"
    refine ifC False (by walk_at "u") (fun h => h.elim) (fun h => ?_)
    walk_at "u"
    refine lc_map (fun _ => .bl true) _ _ (by rw [zip_len]; exact ht.1) ?_ (fun d N acc hm hN ha => ?_)
    · walk_at "u"
      refine ⟨_, bls_true _, ?_⟩
      rw [List.all_map, show (zipD xs xs).all (id ∘ fun _ => true) = true from List.all_eq_true.mpr fun _ _ => rfl]
      exact q
    · obtain ⟨x, hx, rfl⟩ := zip_self xs d hm
      walk_at "u"
      have hdx := depL_mem hx
      refine ⟨dep x, by omega, x, rfl, tames_mem ht.2 x hx, Nat.le_refl _, ?_⟩
      walk_at "u"
      exact ⟨ha, hN⟩
  | _ => cases ht
theorem all_same {f : Addr} {fd : FuncData} {k : Nat} (Fu : Fun K "_law_same" "_law_same" s_law_same f fd) (T : TN mg) (b : Binds K fd ["_law_found", "_law_due"] []) (mt : mg "_law_same" = some (.ref f)) : ∀ n : Nat, FnOk P w K mg base CX0 (k + 1 * n + 1) f fd ["_law_found", "_law_due"] (spD K mg false (fSame n)) :=
  rec_fn (Φ := fSame) k 1 fSame_mono fun n j hj IH => ok_same Fu T ⟨_, _, IH, b, mt, Fu.kp⟩
end
end Q

namespace RF
open PySem L2 PyProof.Rows EX
open L2H (RoomH PinOk cxH)
section
variable {P : Program} {w : World} {K : PySem.W.Frag} {mg : Str → Option Value} {base : Heap}
abbrev n_law_place : List Str := ["_law_one"]
theorem sc_law_place : FnScope n_law_place ["_law_one"] (defScope (top 43)) := ⟨rfl, rfl, rfl, by decide +kernel, rfl, by decide +kernel, by decide +kernel⟩
theorem ok_lplace {f : Addr} {fd : FuncData} {k : Nat} (F : Fun K "_law_place" "_law_place" (top 43) f fd) : FnS P w K mg base (k + 1) f fd ["_law_one"] (spPlaceE K) := by
  obtain ⟨oc, od, kV, doc, pm, an, cdv, ct, osl, rfl, lk, hcd⟩ := F.ex
  refine fnS lk hcd sc_law_place (fun p vs H Q h => by obtain ⟨rfl, _⟩ := h; rfl) fun A outer s H vs Q p hr h => ?_
  obtain ⟨rfl, C, d, fs, tag, u, EP, T, ht, q⟩ := h
  have hp : p ∈ [p] := List.mem_singleton.mpr rfl
  obtain ⟨fo, hk, h0, h1⟩ := T.fld
  refine ⟨_, (pss_cons (ps_if (pt_cmpR op_eq (pe_xf (p := p) hp (pv 0)) pe_str (nomark _))
      (pss_one (ps_ret (pe_xf (p := p) hp (pv 0))))
      pss_nil)
      (pss_cons (ps_if (pt_cmpR op_eq (pe_xf (p := p) hp (pv 0)) pe_str (nomark _))
      (pss_one (ps_ret (pe_xf (p := p) hp (pv 0))))
      pss_nil)
      (pss_one (ps_ret (pe_ifExp (pt_cmpR op_eq (pe_xf (p := p) hp (pv 0)) pe_str (nomark _)) (pe_xf (p := p) hp (pv 0)) (pe_xf (p := p) hp (pv 0))))))), ?_⟩
  refine ⟨_, rfl, rfl, C, d, fs, _, EP, T.noT, T.tag_, rfl, _, rfl, ?_⟩
  rcases ht with rfl | rfl
  · obtain ⟨e1, e2⟩ := h1 _ (kd_digits hk)
    exact iteP (by decide) ⟨_, rfl, rfl, C, d, fs, _, EP, e2, e1, q⟩
  · obtain ⟨e1, e2⟩ := h1 _ (kd_saying hk)
    exact iteN (by decide) ⟨_, rfl, rfl, C, d, fs, _, EP, T.noT, T.tag_, rfl, _, rfl, iteP (by decide) ⟨_, rfl, rfl, C, d, fs, _, EP, e2, e1, q⟩⟩
abbrev n_law_field : List Str := ["_law_one", "_law_bare"]
theorem sc_law_field : FnScope n_law_field ["_law_one"] (defScope (top 42)) := ⟨rfl, rfl, rfl, by decide +kernel, rfl, by decide +kernel, by decide +kernel⟩
theorem ok_lfield {f g : Addr} {fd gd : FuncData} {k : Nat} (F : Fun K "_law_field" "_law_field" (top 42) f fd) (G : FnS P w K mg base k g gd ["_law_one"] (spPlaceE K)) (mG : mg "_law_place" = some (.ref g)) (kG : PySem.W.keepIn K (.ref g) = true) (bG : Binds K gd ["_law_one"] []) :
    FnS P w K mg base (k + 1) f fd ["_law_one"] (spErr K) := by
  obtain ⟨oc, od, kV, doc, pm, an, cdv, ct, osl, rfl, lk, hcd⟩ := F.ex
  refine fnS lk hcd sc_law_field (fun p vs H Q h => by obtain ⟨rfl, _⟩ := h; rfl) fun A outer s H vs Q p hr h => ?_
  obtain ⟨rfl, C, d, fs, tag, u, EP, T, q⟩ := h
  have nd := sc_law_field.nd
  have hp : p ∈ [p] := List.mem_singleton.mpr rfl
  obtain ⟨fo, hk, h0, h1⟩ := T.fld
  refine ⟨_, (pss_cons (ps_if (pt_cmpR op_in_seq (pe_xf (p := p) hp (pv 0)) (pe_tup (pa_cons pe_str (pa_cons pe_str (pa_cons pe_str (pa_cons pe_str pa_nil))))) rfl)
      (pss_one (ps_ret (pe_xf (p := p) hp (pv 0))))
      pss_nil)
      (pss_cons (ps_if (pt_cmpR op_in_seq (pe_xf (p := p) hp (pv 0)) (pe_tup (pa_cons pe_str (pa_cons pe_str pa_nil))) rfl)
      (pss_one (ps_ret (pe_xf (p := p) hp (pv 0))))
      pss_nil)
      (pss_cons (ps_if (pt_cmpR op_in_seq (pe_xf (p := p) hp (pv 0)) (pe_tup (pa_cons pe_str (pa_cons pe_str (pa_cons pe_str (pa_cons pe_str pa_nil))))) rfl)
      (pss_one (ps_ret (pe_callS' (p := p) G hr hp (by rfl) mG kG bG (pa_cons (pv 0) pa_nil))))
      pss_nil)
      (pss_cons (ps_set (i := 1) nd rfl (Or.inl rfl) (pe_tup (pa_cons pe_str (pa_cons pe_str (pa_cons pe_str (pa_cons pe_str (pa_cons pe_str (pa_cons pe_str pa_nil))))))))
      (pss_one (ps_ret (pe_ifExp (pt_cmpR op_in_seq (pe_xf (p := p) hp (pv 0)) (pv 1) rfl) pe_non (pe_xf (p := p) hp (pv 0))))))))), ?_⟩
  have go : ∀ (ys : List Str) (t : Addr) (H' : Hp), H' t = some (.tup (ys.map V.str)) → SqT K H' t (ys.map V.str) := fun ys t H' h => SqT.of h
  refine ⟨_, rfl, rfl, C, d, fs, _, EP, T.noT, T.tag_, by show 4 ≤ sizeLine; decide, fun t1 ht1 => ⟨t1, L1.map V.str, rfl, .inr (go L1 t1 _ upd_same), rfl, EX.flat_strs L1, _, rfl, ?_⟩⟩
  have s1 : Same H (upd H t1 (.tup (L1.map V.str))) := sNew (Same.refl _) ht1
  show (if (if false = true then !inV (.str tag) (L1.map V.str) else inV (.str tag) (L1.map V.str)) = true then _ else _)
  rw [inV_str]
  refine ite2 (fun m1 => ?_) (fun m1 => ?_)
  · obtain ⟨e1, e2⟩ := h1 _ (kd1 hk (of_decide_eq_true m1))
    exact ⟨_, rfl, rfl, C, d, fs, _, EP.same s1, e2, e1, q _ s1⟩
  have m1 : ¬ tag ∈ L1 := fun z => m1 (decide_eq_true z)
  refine ⟨_, rfl, rfl, C, d, fs, _, EP.same s1, T.noT, T.tag_, by show 2 ≤ sizeLine; decide, fun t2 ht2 => ⟨t2, L2'.map V.str, rfl, .inr (go L2' t2 _ upd_same), rfl, EX.flat_strs L2', _, rfl, ?_⟩⟩
  have s2 := sNew (o := .tup (L2'.map V.str)) s1 ht2
  show (if (if false = true then !inV (.str tag) (L2'.map V.str) else inV (.str tag) (L2'.map V.str)) = true then _ else _)
  rw [inV_str]
  refine iteN (nd_of (kd2 hk)) ?_
  refine ⟨_, rfl, rfl, C, d, fs, _, EP.same s2, T.noT, T.tag_, by show 4 ≤ sizeLine; decide, fun t3 ht3 => ⟨t3, L3.map V.str, rfl, .inr (go L3 t3 _ upd_same), rfl, EX.flat_strs L3, _, rfl, ?_⟩⟩
  have s3 := sNew (o := .tup (L3.map V.str)) s2 ht3
  show (if (if false = true then !inV (.str tag) (L3.map V.str) else inV (.str tag) (L3.map V.str)) = true then _ else _)
  rw [inV_str]
  refine ite2 (fun m3 => ?_) (fun m3 => ?_)
  · exact ⟨_, rfl, rfl, C, d, fs, tag, u, EP.same s3, T.same s3, kd3 hk (of_decide_eq_true m3), q _ s3⟩
  have m3 : ¬ tag ∈ L3 := fun z => m3 (decide_eq_true z)
  refine ⟨by show 6 ≤ sizeLine; decide, fun t4 ht4 => ?_⟩
  have s4 : Same H (upd _ t4 (.tup (L4.map V.str))) := sNew s3 ht4
  refine ⟨_, rfl, rfl, C, d, fs, _, EP.same s4, T.noT, T.tag_, _, rfl, t4, L4.map V.str, rfl, .inr (go L4 t4 _ upd_same), rfl, EX.flat_strs L4, _, rfl, ?_⟩
  show (if (if false = true then !inV (.str tag) (L4.map V.str) else inV (.str tag) (L4.map V.str)) = true then _ else _)
  rw [inV_str]
  refine ite2 (fun m4 => ?_) (fun m4 => ?_)
  · have := h0 (kd4 hk (of_decide_eq_true m4))
    subst this
    exact q _ s4
  · obtain ⟨e1, e2⟩ := h1 _ (kd5 hk m1 m3 fun z => m4 (decide_eq_true z))
    exact ⟨_, rfl, rfl, C, d, fs, _, EP.same s4, e2, e1, q _ s4⟩
/-- what _law_why makes of what it calls: an error's tag and field, or nothing -/
def TWhy (K : PySem.W.Frag) (c1 c2 c3 : Addr) : (XK → Hp → VK → Prop) → Hp → VK → Prop := fun tl H Q =>
  tl (fun cls d H' => ∃ C dd fs tag u, cls = .ref C ∧ d = some dd ∧ PySem.W.exmAny K (.ref C) [.ref c1, .ref c2, .ref c3] = some true ∧ ECls K C ∧ Tells K H' C dd fs tag u ∧ ∀ H2 t, Same H' H2 → H2 t = none → Q (.ref t) (upd H2 t (.tup [.str tag, u])))
    H (fun _ H' => ([V.str "", .non]).length ≤ sizeLine ∧ ∀ t, H' t = none → Q (.ref t) (upd H' t (.tup [.str "", .non])))
abbrev n_law_why : List Str := ["_law_ask", "e"]
theorem sc_law_why : FnScope n_law_why ["_law_ask"] (defScope (top 44)) := ⟨rfl, rfl, rfl, by decide +kernel, rfl, by decide +kernel, by decide +kernel⟩
/-- a wish that knows the number of slots -/
theorem takes_len {X : Cx} {W : WX} (tk : Takes X W) : Takes X (fun cls d σ H => σ.length = X.N.length → W cls d σ H) := fun u s' ⟨a, B, sI, pins, σ, H, cls, d, e, I, nb, up, sky, na, os, ag, z⟩ => tk u s' ⟨a, B, sI, pins, σ, H, cls, d, e, I, nb, up, sky, na, os, ag, z I.len⟩
theorem why_gives {X : Cx} {k : Nat} {g gf : Addr} {cdg : Value} {fdf : FuncData} {q : Str} {c1 c2 c3 : Addr} (hr : Room (k + 1) X.A) (m1 : X.mg "RootError" = some (.ref c1)) (m2 : X.mg "Missing" = some (.ref c2)) (m3 : X.mg "NothingLeft" = some (.ref c3))
    (G : FnS X.prog X.w X.K X.mg X.base k gf fdf ["_law_one"] (spErr X.K)) (mG : X.mg "_law_field" = some (.ref gf)) (kG : PySem.W.keepIn X.K (.ref gf) = true) (bG : Binds X.K fdf ["_law_one"] []) :
    LamX.GivesTo X n_law_why "_law_why" (defScope (top 44)) g cdg (defBody (top 44)) "_law_ask" q (TWhy X.K c1 c2 c3) := by
  intro f c' s H Q tl act hc h
  have nd := sc_law_why.nd
  have hr2 : L2H.RoomH k (X.A.deeper (envOfC "_law_why" (defScope (top 44)) s.heap.objs.size g cdg)) := L2H.roomH_of (hr.deeper _)
  refine ⟨_, pss_cons (ps_try_tup (X := (cxOf C8.CX0 X.prog X.w X.K X.mg X.base n_law_why "_law_why" (defScope (top 44)) g cdg X.A X.stack s H C8.E0).nox) (c1 := c1) (c2 := c2) (c3 := c3) (i := 1)
      (tb := fun W D σ H => ∃ Ech : XK, (∀ cls d σ' H', Ech cls d H' → σ'.length = 2 → W cls d σ' H') ∧ σ[0]? = some (some (.ref f)) ∧ H c' = some (LamX.CodeO c' q) ∧ tl Ech H (fun _ H' => D.nx σ H'))
      (ts := fun a cls d D σ H => ∃ C dd fs tag u, cls = .ref C ∧ d = some dd ∧ ECls X.K C ∧ Tells X.K H C dd fs tag u ∧ σ[1]? = some (some (.ref a)) ∧ ∀ H2 t, Same H H2 → H2 t = none → D.rt (.ref t) (upd H2 t (.tup [.str tag, u])))
      rfl rfl nd rfl rfl ⟨by rfl, m1, by decide⟩ ⟨by rfl, m2, by decide⟩ ⟨by rfl, m3, by decide⟩ rfl (fun W pn xe tk => ?_) (fun a oe cls d pn hz hf => ?_))
    (pss_one (ps_ret (pe_tup (pa_cons pe_str (pa_cons pe_non pa_nil))))), ?_⟩
  · refine ⟨fun pins s' σ H' D I hh => ?_⟩
    obtain ⟨Ech, hW, h1, h2, h3⟩ := hh
    have hp := act (fun cls d σ H => σ.length = 2 → W cls d σ H) pn xe Ech ?p1 ?p2 (takes_len tk) hW
    have hq := pss_one (ps_expr (pos := ?p3) hp)
    exact hq.run pins s' σ H' D I ⟨h1, h2, h3⟩
  · refine ⟨fun pins s' σ H' D I hh => ?_⟩
    obtain ⟨C, dd, fs, tag, u, rfl, rfl, ec, T, h1, hq⟩ := hh
    have EP : ErrP X.K H' (a, oe) C dd fs := ⟨hz.1, hz.2, hf, ec, T.at_⟩
    have hs := pss_one (X := ((cxOf C8.CX0 X.prog X.w X.K X.mg X.base n_law_why "_law_why" (defScope (top 44)) g cdg X.A X.stack s H C8.E0).nox).suite a ((a, oe) :: pn)) (ps_ret (pos := ?q1) (pe_tup (pos := ?q2) (x1 := 0) (pa_cons (pe_xf (p := (a, oe)) (f := "tag") (pos := ?q3) List.mem_cons_self (pe_var (x := "e") (pos := ?q4) (i := 1) rfl (.inl rfl))) (pa_cons (pe_callS' (x := "_law_field") (q := ?q5) (pos := ?q6) (p := (a, oe)) G ⟨hr2.dp, hr2.un⟩ List.mem_cons_self (by rfl) mG kG bG (pa_cons (pe_var (x := "e") (pos := ?q7) (i := 1) rfl (.inl rfl)) pa_nil)) pa_nil))))
    refine hs.run pins s' σ H' D I ?_
    refine ⟨.ref a, h1, rfl, C, dd, fs, _, EP, T.noT, T.tag_, .ref a, h1, rfl, C, dd, fs, tag, u, EP, T, fun H2 sm => ⟨by show 2 ≤ sizeLine; decide, fun t ht => hq H2 t sm ht⟩⟩
  · refine ⟨_, fun cls d σ' H' hE hlen => ?_, rfl, hc, h⟩
    obtain ⟨C, dd, fs, tag, u, rfl, rfl, ex, ec, T, hq⟩ := hE
    exact ⟨ex, fun a na => ⟨C, dd, fs, tag, u, rfl, rfl, ec, T, List.getElem?_set_self (by omega), hq⟩⟩
end
end RF

set_option autoImplicit false
set_option linter.all false
/-! Lw: a law's body, behind the making of its bag -/
namespace Q
open PySem L2 PyProof.Rows
open RF (Df)
def spLaw (K : PySem.W.Frag) : Sp := fun vs H Q _ => ∃ (a : Addr) (ns : List Int), vs = [.ref a] ∧ SqL K H a (ns.map V.int) ∧ ns.length ≤ 63 ∧ ∀ H', Q (.bl true) H'
/-- statements by whatever reading of them there is -/
def tAny (X : Cx) (sts : List Stmt) : TS := fun D σ H => ∃ t, PSs X sts t ∧ t D σ H
theorem pss_any {X : Cx} {sts : List Stmt} : PSs X sts (tAny X sts) := ⟨fun pins s σ H D I ⟨t, h, q⟩ => h.run pins s σ H D I q⟩
def startLaw (N : List Str) : Ev := none :: some (.fz .bag) :: List.replicate (N.length - 2) none
theorem fn_law {P : Program} {wd : World} {K : PySem.W.Frag} {mg : Str → Option Value} {base : Heap} {st st1 : Stmt} {f : Addr} {fd : FuncData} {N : List Str} {j : Nat} {rest : List Stmt} (F : Fun K "law" "law" st f fd) (Sc : FnScope N ["_law_script"] (defScope st))
    (hb : defBody st = st1 :: rest) (hl : 2 ≤ N.length)
    (hbody : ∀ (cdv : Value) (A : Around) (outer : List Env) (s : Shared) (H : Hp) (E : XK), Room j (A.deeper (envOfC "law" (defScope st) s.heap.objs.size f cdv)) →
      PS (cxOf CX0 P wd K mg base N "law" (defScope st) f cdv A outer s H E).nox st1 (tAsg (tCall (RF.spBag K) [] E0 (tCons (tVar 0) tNil)) (gName 1)) ∧
      ∀ (C : Cxt), Fit (cxOf CX0 P wd K mg base N "law" (defScope st) f cdv A outer s H E).nox C → C.ub = true →
      ∃ t w, QSs (cxOf CX0 P wd K mg base N "law" (defScope st) f cdv A outer s H E).nox C rest t w ∧ w { nx := fun _ => False, rt := fun x => x = .fz (.bl true) } (startLaw N)) : FnOk P wd K mg base CX0 (j + 1) f fd ["_law_script"] (spLaw K) := by
  refine F.ok Sc (fun vs H Q E h => by obtain ⟨a, ns, rfl, _⟩ := h; rfl) (fun cdv A outer s H vs Q E hr h => ?_)
  obtain ⟨a, ns, rfl, hS, h63, q⟩ := h
  obtain ⟨p1, hrest⟩ := hbody cdv A outer s H E hr
  rw [hb]
  refine ⟨_, pss_cons p1 pss_any, ?_⟩
  obtain ⟨m, em⟩ : ∃ m, N.length = m + 2 := ⟨N.length - 2, by omega⟩
  have e0 : L2.start N [V.ref a] = some (.ref a) :: none :: List.replicate m none := by
    unfold L2.start
    rw [em]
    rfl
  have e1 : startLaw N = none :: some (.fz .bag) :: List.replicate m none := by
    unfold startLaw
    rw [em]
    rfl
  rw [e0]
  refine ⟨_, rfl, a, ns, rfl, hS, h63, fun b H' hb0 B sm => ?_⟩
  obtain ⟨c, hB⟩ := B.here
  obtain ⟨t, w, hq, hw⟩ := hrest ⟨⟨K, mg, b, c⟩, true, [b, c], H', fun _ => False, []⟩ ⟨rfl, rfl⟩ rfl
  have st0 : Sta ⟨⟨K, mg, b, c⟩, true, [b, c], H', fun _ => False, []⟩ [] [] H' [b, c] := Sta.begin (fun x hx => by
    rcases List.mem_cons.mp hx with rfl | hx
    · obtain ⟨xs, h⟩ := hB.atB
      rw [h]; exact fun z => nomatch z
    · rw [List.mem_singleton.mp hx]
      obtain ⟨xs, h⟩ := hB.atC
      rw [h]; exact fun z => nomatch z) fun _ => ⟨hB, List.mem_cons_self, List.mem_cons_of_mem _ List.mem_cons_self⟩
  have st1 := ((st0.nones (m + 2)).blind (i := 0) (fun s e => by cases e) (some (.ref a))).blind (i := 1) (fun s e => by cases e) (some (.ref b))
  have st2 := st1.put 1 (some (.fz .bag)) (fun s e => by cases e; exact ⟨.ref b, rfl, rfl⟩) (fun s v e o => by cases e; cases o)
  refine ⟨t, hq.ps, hq.ok (startLaw N) [] _ [] H' [b, c] _ _ ?_ ?_ hw ⟨fun ρ σ H1 S1 hl1 st' h' => h'.elim, fun ρ σ H1 S1 s v hl1 st' h' => ?_, fun _ _ _ _ _ _ h => h.elim, fun _ _ _ _ _ _ h => h.elim⟩⟩
  · rw [e1]; simp
  · rw [e1, List.append_nil, List.append_nil]
    exact st2
  · subst h'
    have ok := st'.last (by simpa using hl1)
    rw [show v = .bl true from ok]
    exact q _
/-! ### a law that holds lambdas -/
open LamX (Tabs TabS TabB)
def qL : Str := (("law" : Str) ++ ".<locals>.") ++ "<lambda>"
def TL (P0 : Addr) : List (Addr × Str) := [(P0, qL)]
def spLawL (K : PySem.W.Frag) (P0 : Addr) : Sp := fun vs H Q _ => ∃ (a : Addr) (ns : List Int), vs = [.ref a] ∧ SqL K H a (ns.map V.int) ∧ ns.length ≤ 63 ∧ H P0 = some (.tbl #[]) ∧ ∀ H', Q (.bl true) H'
/-- the heap without its tables -/
def noTbl (H : Hp) : Hp := fun a => match H a with
  | some (.tbl _) => none
  | o => o
theorem noTbl_sub {H : Hp} {a : Addr} {o : HO} (h : noTbl H a = some o) : H a = some o := by
  unfold noTbl at h
  split at h
  · cases h
  · exact h
theorem noTbl_no (H : Hp) (a : Addr) (ps : Array Value) : noTbl H a ≠ some (.tbl ps) := fun h => by
  have h2 := noTbl_sub h
  unfold noTbl at h
  rw [h2] at h
  cases h
theorem noTbl_lst {H : Hp} {a : Addr} {xs : List V} (h : H a = some (.lst xs)) : noTbl H a = some (.lst xs) := by
  unfold noTbl
  rw [h]
theorem fn_lawL {P : Program} {wd : World} {K : PySem.W.Frag} {mg : Str → Option Value} {base : Heap} {st st1 : Stmt} {f c P0 : Addr} {kV doc pm ct oc : Value} {an od : Option Addr} {osl : Array (Option Value)} {N : List Str} {j : Nat} {rest : List Stmt}
    (lk : K.lookup f = some ⟨oc, od, .func (PySem.W.fnOf "law" "law" (defArgs st) (defBody st) (defScope st) .none kV doc pm an (.ref c) ct), osl⟩) (hcd : PySem.W.codeIn K (.ref c) "law" = true) (Sc : FnScope N ["_law_script"] (defScope st))
    (hb : defBody st = st1 :: rest) (hl : 2 ≤ N.length)
    (hbody : ∀ (A : Around) (outer : List Env) (s : Shared) (H : Hp) (E : XK), Room j (A.deeper (envOfC "law" (defScope st) s.heap.objs.size f (.ref c))) →
      PS (cxOf CX0 P wd K mg base N "law" (defScope st) f (.ref c) A outer s H E).nox st1 (tAsg (tCall (RF.spBag K) [] E0 (tCons (tVar 0) tNil)) (gName 1)) ∧
      ∀ (C : Cxt), Fit (cxOf CX0 P wd K mg base N "law" (defScope st) f (.ref c) A outer s H E).nox C → C.ub = true → C.T = TL P0 → (∀ a ps, C.H0 a ≠ some (.tbl ps)) → C.Oc = [C.B.bag, C.B.cel] →
      ∃ t w, QSs (cxOf CX0 P wd K mg base N "law" (defScope st) f (.ref c) A outer s H E).nox C rest t w ∧ w { nx := fun _ => False, rt := fun x => x = .fz (.bl true) } (startLaw N)) :
    FnOk P wd K mg base CX0 (j + 1) f (PySem.W.fnOf "law" "law" (defArgs st) (defBody st) (defScope st) .none kV doc pm an (.ref c) ct) ["_law_script"] (spLawL K P0) := by
  refine fn_of lk hcd Sc (fun vs H Q E h => by obtain ⟨a, ns, rfl, _⟩ := h; rfl) fun A outer s H vs Q E hr h => ?_
  obtain ⟨a, ns, rfl, hS, h63, hP0, q⟩ := h
  suffices hs : ∃ t, PSs (cxOf CX0 P wd K mg base N "law" (defScope st) f (.ref c) A outer s H E).nox (defBody st) t ∧ t { nx := fun _ H' => Q .non H', rt := Q } (L2.start N [.ref a]) H by
    obtain ⟨t, h1, h2⟩ := hs
    exact ⟨t, h1.nox, h2⟩
  obtain ⟨p1, hrest⟩ := hbody A outer s H E hr
  rw [hb]
  refine ⟨_, pss_cons p1 pss_any, ?_⟩
  obtain ⟨m, em⟩ : ∃ m, N.length = m + 2 := ⟨N.length - 2, by omega⟩
  have e0 : L2.start N [V.ref a] = some (.ref a) :: none :: List.replicate m none := by
    unfold L2.start
    rw [em]
    rfl
  have e1 : startLaw N = none :: some (.fz .bag) :: List.replicate m none := by
    unfold startLaw
    rw [em]
    rfl
  rw [e0]
  refine ⟨_, rfl, a, ns, rfl, hS, h63, fun b H' hb0 B sm => ?_⟩
  obtain ⟨c0, hB⟩ := B.here
  obtain ⟨bs, hbs⟩ := hB.atB
  obtain ⟨cs, hcs⟩ := hB.atC
  obtain ⟨t, w, hq, hw⟩ := hrest ⟨⟨K, mg, b, c0⟩, true, [b, c0], noTbl H', fun _ => False, TL P0⟩ ⟨rfl, rfl⟩ rfl rfl (noTbl_no H') rfl
  have al : ∀ x ∈ [b, c0], H' x ≠ none := fun x hx => by
    rcases List.mem_cons.mp hx with rfl | hx
    · rw [hbs]; exact fun z => nomatch z
    · rw [List.mem_singleton.mp hx, hcs]; exact fun z => nomatch z
  have al0 : ∀ x ∈ [b, c0], noTbl H' x ≠ none := fun x hx => by
    rcases List.mem_cons.mp hx with rfl | hx
    · rw [noTbl_lst hbs]; exact fun z => nomatch z
    · rw [List.mem_singleton.mp hx, noTbl_lst hcs]; exact fun z => nomatch z
  have tb : Tabs (TL P0) H' := fun p hp => by
    rw [List.mem_singleton.mp hp]
    exact TabS.nil (sm _ _ hP0)
  have st0 : Sta ⟨⟨K, mg, b, c0⟩, true, [b, c0], noTbl H', fun _ => False, TL P0⟩ [] [] H' [b, c0] := ⟨⟨fun _ _ _ h => noTbl_sub h, fun _ => hB⟩, fun _ m => m, fun _ m => .inl m, al, al0, fun _ => ⟨List.mem_cons_self, List.mem_cons_of_mem _ List.mem_cons_self⟩, tb, rfl, fun i s e => by simp at e, fun i j s t v e => by simp at e⟩
  have st1 := ((st0.nones (m + 2)).blind (i := 0) (fun s e => by cases e) (some (.ref a))).blind (i := 1) (fun s e => by cases e) (some (.ref b))
  have st2 := st1.put 1 (some (.fz .bag)) (fun s e => by cases e; exact ⟨.ref b, rfl, rfl⟩) (fun s v e o => by cases e; cases o)
  refine ⟨t, hq.ps, hq.ok (startLaw N) [] _ [] H' [b, c0] _ _ ?_ ?_ hw ⟨fun ρ σ H1 S1 hl1 st' h' => h'.elim, fun ρ σ H1 S1 s v hl1 st' h' => ?_, fun _ _ _ _ _ _ h => h.elim, fun _ _ _ _ _ _ h => h.elim⟩⟩
  · rw [e1]; simp
  · rw [e1, List.append_nil, List.append_nil]
    exact st2
  · subst h'
    have ok := st'.last (by simpa using hl1)
    rw [show v = .bl true from ok]
    exact q _
end Q

set_option autoImplicit false
set_option linter.all false
/-! Qm: lambdas as data, lists of them asked one by one -/
namespace Q
open PySem L2
open LamX (Tabs TabS ExtN TabB CodeO)
/-- what is neither a list nor a dict need not be hidden -/
theorem Sta.unhide {C : Cxt} {ρ : Ev} {σ : St} {H : Hp} {S : List Addr} (st : Sta C ρ σ H S) {a : Addr} {o : HO} (h : H a = some o) (n1 : ∀ xs, o ≠ .lst xs) (n2 : ∀ kvs, o ≠ .dK kvs) (hO : a ∉ C.Oc) : ∃ S', Sta C ρ σ H S' ∧ a ∉ S' ∧ ∀ b ∈ S', b ∈ S := by
  have sub : ∀ b ∈ S.filter (fun b => decide (b ≠ a)), b ∈ S := fun b hb => (List.mem_filter.mp hb).1
  refine ⟨S.filter (fun b => decide (b ≠ a)), ?_, fun m => by simpa using (List.mem_filter.mp m).2, sub⟩
  refine st.to st.wd (fun b hb => List.mem_filter.mpr ⟨st.sub b hb, decide_eq_true fun z => hO (z ▸ hb)⟩) (fun b hb => st.own b (sub b hb)) (fun b hb => st.al b (sub b hb)) (hid_le sub) st.tb fun i s b e eo hv m h0 u hu => ⟨List.mem_filter.mpr ⟨m, decide_eq_true fun z => ?_⟩, hu⟩
  subst z
  obtain ⟨v, h1, h2⟩ := st.sl i s e
  rw [hv] at h1
  cases h1
  cases s with
  | fz d => cases eo
  | ol ds =>
    obtain ⟨c, xs, k1, _, _, k4, _⟩ := h2
    cases k1
    rw [h] at k4
    cases k4
    exact n1 _ rfl
  | od ks ds =>
    obtain ⟨c, xs, k1, _, _, k4, _⟩ := h2
    cases k1
    rw [h] at k4
    cases k4
    exact n2 _ rfl
theorem Sta.noOc {C : Cxt} {ρ : Ev} {σ : St} {H : Hp} {S : List Addr} (st : Sta C ρ σ H S) (hu : C.ub = true) (hOc : C.Oc = [C.B.bag, C.B.cel]) {a : Addr} {o : HO} (h : H a = some o) (n1 : ∀ xs, o ≠ .lst xs) : a ∉ C.Oc := fun m => by
  rw [hOc] at m
  have B := st.wd.bag hu
  obtain ⟨xs, hb⟩ := B.atB
  obtain ⟨ys, hc⟩ := B.atC
  rcases List.mem_cons.mp m with rfl | m
  · rw [hb] at h; cases h; exact n1 _ rfl
  · rw [List.mem_singleton.mp m, hc] at h; cases h; exact n1 _ rfl
section
variable {X : Cx} {C : Cxt} {e : Expr} {L : LM.LTx} {κ : LM.LK} {q : Str} {cl : List (Str × Addr)}
theorem lam_hid {ρ : Ev} {σ : St} {H : Hp} {S : List Addr} (st : Sta C ρ σ H S) (hu : C.ub = true) (hOc : C.Oc = [C.B.bag, C.B.cel]) {f : Addr} (lv : LM.LamV L κ q cl H f) : ∃ S', Sta C ρ σ H S' ∧ LM.LamV L κ q cl (hid S' H) f := by
  obtain ⟨dV, c1, h1, h2, h3⟩ := lv
  have a1 : ∀ xs, LM.LamO f L q cl dV c1 ≠ .lst xs := fun xs z => by unfold LM.LamO at z; cases z
  have a2 : ∀ xs, LM.LamO f L q cl dV c1 ≠ .dK xs := fun xs z => by unfold LM.LamO at z; cases z
  have b1 : ∀ xs, CodeO c1 q ≠ .lst xs := fun xs z => by unfold CodeO at z; cases z
  have b2 : ∀ xs, CodeO c1 q ≠ .dK xs := fun xs z => by unfold CodeO at z; cases z
  obtain ⟨S1, s1, m1, _⟩ := st.unhide h1 a1 a2 (st.noOc hu hOc h1 a1)
  obtain ⟨S2, s2, m2, l2⟩ := s1.unhide h2 b1 b2 (st.noOc hu hOc h2 b1)
  cases κ with
  | plain => exact ⟨S2, s2, dV, c1, by rw [hid_ne fun m => m1 (l2 _ m)]; exact h1, by rw [hid_ne m2]; exact h2, h3⟩
  | dflt x v =>
    obtain ⟨t, e1, e2⟩ := h3
    have d1 : ∀ xs, HO.tup [V.int v] ≠ .lst xs := fun xs z => by cases z
    obtain ⟨S3, s3, m3, l3⟩ := s2.unhide e2 d1 (fun xs z => by cases z) (st.noOc hu hOc e2 d1)
    exact ⟨S3, s3, dV, c1, by rw [hid_ne fun m => m1 (l2 _ (l3 _ m))]; exact h1, by rw [hid_ne fun m => m2 (l3 _ m)]; exact h2, t, e1, by rw [hid_ne m3]; exact e2⟩
/-- a lambda, kept -/
theorem pd_lam (hp : PE X e (LM.tLamV C.T L κ q cl)) (hT : ∀ a ps, C.H0 a ≠ some (.tbl ps)) (hu : C.ub = true) (hOc : C.Oc = [C.B.bag, C.B.cel]) : PD X C e (LM.tLamV C.T L κ q cl) (wC (.lam L κ q cl)) := by
  refine ⟨hp, fun ρ ρx σ σx H S k Q hl st hw qq => ?_⟩
  refine ⟨st.tb, fun f H1 ext tb lv hf => ?_⟩
  obtain ⟨S1, st1⟩ := st.ext hT ext tb
  obtain ⟨S2, st2, lv2⟩ := lam_hid st1 hu hOc lv
  exact qq (.fz (.lam L κ q cl)) ρ (.ref f) H1 S2 hl (st2.pushF ⟨f, rfl, lv2⟩) hw
end
theorem why_core {K : PySem.W.Frag} {mg : Str → Option Value} {C : Cxt} {c1 c2 c3 : Addr} {Es : List (Str × Option Str)} {t : XK → TE} {w : WX'} (FiK : C.B.K = K) (Fi : C.B.mg = mg) (hE : ErrsOk K mg c1 c2 c3 Es) (ok : OkEX C t w) {P : Hp → Prop} {ρ ρx : Ev} {σ σx : St} {H1 : Hp} {S1 : List Addr} {k : Sl → Ev → Prop} {Q : VK} (hl : ρ.length = σ.length) (st1 : Sta C (ρ ++ ρx) (σ ++ σx) H1 S1) (lv : P H1) (hw : wWhy Es w ρ k)
    (qq : ∀ (s : Sl) (ρ' : Ev) (v : V) (H' : Hp) (S' : List Addr), ρ'.length = σ.length → Sta C ((ρ' ++ ρx) ++ [some s]) ((σ ++ σx) ++ [some v]) H' S' → k s ρ' → Q v H') : TWhyQ K c1 c2 c3 (fun E H' Q' => P H' ∧ t E σ H' Q') H1 Q := by
  refine ⟨lv, ok ρ ρx σ σx H1 S1 _ _ _ _ hl st1 hw (fun s ρ' v H' S' hl' st' hk => ⟨by show 2 ≤ sizeLine; decide, fun t ht => ?_⟩) fun e ρ' cls d H' S' hl' st' xo hk => ?_⟩
  · exact ans_tup (k := fun s => k s ρ') (ds := [.str "", .non]) st'.popLast (fun s v H2 S2 st2 h2 => qq s ρ' v H2 S2 hl' st2 h2) (by decide) ⟨_, _, rfl, rfl, _, _, rfl, rfl, rfl⟩ hk t ht
  · obtain ⟨hin, hk⟩ := hk
    obtain ⟨Cl, dd, fs, g1, rfl, rfl, g4, g5, g6⟩ := xo
    rw [Fi] at g1
    rcases hin with ⟨fld, dv, hm, he⟩ | ⟨hm, he⟩
    · rw [he] at g5 g6 hk
      obtain ⟨C2, y1, y2, y3, y4, y5, y6⟩ := hE _ _ hm
      rw [g1] at y1
      cases y1
      obtain ⟨z1, z2⟩ := y6 fld rfl
      match fs, g4, g5, g6 with
      | [(n1, v1), (n2, v2)], g4, g5, g6 =>
        simp only [List.map_cons, List.map_nil, exc1, List.cons.injEq, and_true] at g5
        obtain ⟨rfl, rfl⟩ := g5
        obtain ⟨_, _, e1, r1, _, _, e2, r2, e3⟩ := g6
        cases e1
        cases e2
        cases e3
        obtain rfl : v2 = .str e.c := r2
        refine ⟨Cl, dd, _, e.c, v1, rfl, rfl, y2, y3, ⟨g4, ?_, y4, some n1, y5, (fun z => nomatch z), fun g hg => by cases hg; exact ⟨by simp [List.lookup], z1⟩⟩, fun H2 t sm ht => ?_⟩
        · have : (("tag" : Str) == n1) = false := beq_eq_false_iff_ne.mpr (Ne.symm (beq_eq_false_iff_ne.mp z2))
          simp [List.lookup, this]
        · exact ans_tup (k := fun s => k s ρ') (ds := [.str e.c, dv]) (st'.same sm) (fun s v H3 S3 st3 h3 => qq s ρ' v H3 S3 hl' st3 h3) (by show 2 ≤ 1000000; decide) ⟨_, _, rfl, rfl, _, _, rfl, Rp.same (hid_mono sm) _ r1, rfl⟩ hk t ht
    · rw [he] at g5 g6 hk
      obtain ⟨C2, y1, y2, y3, y4, y5, y6⟩ := hE _ _ hm
      rw [g1] at y1
      cases y1
      match fs, g4, g5, g6 with
      | [(n1, v1)], g4, g5, g6 =>
        simp only [List.map_cons, List.map_nil, exc0, List.cons.injEq, and_true] at g5
        subst g5
        obtain ⟨_, _, e1, r1, e3⟩ := g6
        cases e1
        cases e3
        obtain rfl : v1 = .str e.c := r1
        refine ⟨Cl, dd, _, e.c, .non, rfl, rfl, y2, y3, ⟨g4, by simp [List.lookup], y4, none, y5, (fun _ => rfl), fun g hg => nomatch hg⟩, fun H2 t sm ht => ?_⟩
        exact ans_tup (k := fun s => k s ρ') (ds := [.str e.c, .non]) (st'.same sm) (fun s v H3 S3 st3 h3 => qq s ρ' v H3 S3 hl' st3 h3) (by show 2 ≤ 1000000; decide) ⟨_, _, rfl, rfl, _, _, rfl, rfl, rfl⟩ hk t ht

def wAskV (q : Str) (ls : List (LM.LEnt × WX')) (Es : List (Str × Option Str)) (j : Nat) : WE := fun ρ k => ∃ m w, (m, w) ∈ ls ∧ ρ[j]? = some (some (.fz (.lam m.L m.κ q m.cl))) ∧ wWhy Es w ρ k
theorem ok_askv {K : PySem.W.Frag} {mg : Str → Option Value} {C : Cxt} {TT : (XK → Hp → VK → Prop) → Hp → VK → Prop} {q : Str} {ls : List (LM.LEnt × WX')} {j : Nat} {c1 c2 c3 : Addr} {Es : List (Str × Option Str)} (FiK : C.B.K = K) (Fi : C.B.mg = mg) (hTT : ∀ tl H Q, TWhyQ K c1 c2 c3 tl H Q → TT tl H Q) (hE : ErrsOk K mg c1 c2 c3 Es) (ok : ∀ p ∈ ls, OkEX C p.1.t p.2) : OkE C (LM.tAskV TT q (ls.map (·.1)) j) (wAskV q ls Es j) := by
  intro ρ ρx σ σx H S k Q hl st hw qq
  obtain ⟨m, w, hm, ej, hk⟩ := hw
  obtain ⟨v, h1, f, rfl, lv⟩ := st.get (get_app ej)
  refine ⟨f, m, List.mem_map.mpr ⟨(m, w), hm, rfl⟩, of_get_app h1 (hl ▸ lt_of_get ej), lv.same hid_same, hTT _ _ _ ?_⟩
  exact why_core FiK Fi hE (ok _ hm) hl st (lv.same hid_same) hk qq
/-- [x(name) for name in a list of lambdas] -/
theorem pd_lcask {X : Cx} {C : Cxt} {e : Expr} {TT : (XK → Hp → VK → Prop) → Hp → VK → Prop} {q : Str} {ls : List (LM.LEnt × WX')} {i j : Nat} {c1 c2 c3 : Addr} {Es : List (Str × Option Str)} (Fi : Fit X C) (hp : PE X e (tLc (iList X.K (tVar i)) (gName j) tYes (LM.tAskV TT q (ls.map (·.1)) j) [j])) (hTT : ∀ tl H Q, TWhyQ X.K c1 c2 c3 tl H Q → TT tl H Q) (hE : ErrsOk X.K X.mg c1 c2 c3 Es) (ok : ∀ p ∈ ls, OkEX C p.1.t p.2)
    {tg iter : Expr} (hi : QI X C tg iter (iList X.K (tVar i)) (wList (wVar i))) : PD X C e (tLc (iList X.K (tVar i)) (gName j) tYes (LM.tAskV TT q (ls.map (·.1)) j) [j]) (wLc [j] (wList (wVar i)) (wNm j) (fun ρ k => k true ρ) (wAskV q ls Es j)) :=
  ⟨hp, ok_lc hi.ok (ok_nm j) (qts_nil (X := X) (C := C)).ok (ok_askv Fi.K Fi.mg hTT hE ok) (fun i hi => hi)⟩
end Q

set_option autoImplicit false
set_option linter.all false
/-! VL: the law's lambdas -/
namespace Q
open PySem L2
open RF (top Df DfX WhyE e_app app_e len_app stA forB ifT notA argA eltA valOf cmpA pe_callX)
open LamX (Tabs TabS ExtN TabB CodeO)
local macro_rules | `(tactic| walk_at "u") => `(tactic| simp (config := { dsimp := false, maxSteps := 2000000 }) only [↓CL_of, ↓IT_of, ↓LC_of, ↓LP_of, ↓WH_of, ↓CT_of, ↓IC_of, ↓SC_of, ↓wSeq, ↓wFirst, ↓wStar, ↓wExtT, pBackT, pSoSet, pSoKey, cutD2, ↓wPar3, ↓wLc2, lcW2, List.isEmpty_cons, List.isEmpty_nil, Int.cast_ofNat_Int, Int.natCast_one, Int.natCast_zero, Int.reduceEq, Int.reduceLE, Int.reduceLT, ↓wIfS, ↓wYes, ↓wOpV, ↓wOp, ↓wC, ↓wUn, ↓wRet, ↓wJoin, ↓wJs, ↓wArg, ↓wCons, ↓wVar, ↓wBor, ↓wMv, ↓wSet, ↓wAsg, ↓wNm, ↓wTg, ↓wGCons, ↓wApp, ↓wPop, ↓wExt, ↓wSub, ↓wDrop, ↓wPar, ↓wAug, ↓wAnd, ↓wOr, ↓wNot, ↓wTru, truP, ↓wIf, ↓wAndV, ↓wOrV, ↓wNotV, ↓wChain, ↓wSl, ↓wSlV, ↓wPart, ↓wM1, ↓wMN, pStarts, pEnds, pRfind, pStripC, pParts, pStarts3, pFind3, pSS, pSSI, pMax3, ↓wFor, ↓wLc, ↓wList, ↓wTupI, ↓wRng1, ↓wRng2, ↓wEnum, ↓wZip, ↓wRevI, ↓wStrI, ↓wKw, pCallV, wipeE, pTupN, pLstN, pIx, pSl, pRev, pLen, pAbs, pInt, pBool, pStr, pList, pTuple, pSum, pNums, pBls, pIsi, pIsi2, tyN, aI_fold, cutD1, inD_nil, inD_cons, Bool.or_eq_true, decide_eq_true_eq, Bool.or_false, Bool.false_or, Bool.true_or, Bool.or_true, decide_true, decide_false, or_false, false_or, or_true, true_or, List.all_cons, List.all_nil, Bool.and_self, Bool.not_true, Bool.not_false, iff_self, if_true, if_false, Bool.false_eq_true, ofS_inj, String.reduceEq, ati0, ati1, ati2, ati3, ati4, exists_and_left, isi_NoneType_bool, isi_NoneType_int, isi_NoneType_str, isi_NoneType_list, isi_NoneType_tuple, isi_bool_bool, isi_bool_int, isi_bool_str, isi_bool_list, isi_bool_tuple, isi_int_bool, isi_int_int, isi_int_str, isi_int_list, isi_int_tuple, isi_str_bool, isi_str_int, isi_str_str, isi_str_list, isi_str_tuple, isi_list_bool, isi_list_int, isi_list_str, isi_list_list, isi_list_tuple, isi_tuple_bool, isi_tuple_int, isi_tuple_str, isi_tuple_list, isi_tuple_tuple, isi_dict_bool, isi_dict_int, isi_dict_str, isi_dict_list, isi_dict_tuple, mi_bool, mi_int, mi_str, mi_list, mi_tuple, pI2, pI2N, pAdd, pSub, pMul, pNeg, pEqF, pOrd, pIs, pIn, isNon, D.told, D.flat, pFmt, pDivmod, startE, fzs, List.map_cons, List.map_nil, List.length_cons, List.length_nil, List.cons_append, List.nil_append, List.replicate, get_s, get_z, List.set_cons_zero, List.set_cons_succ, Option.some.injEq, exists_eq', true_and, and_true, exists_eq_left', Sl.toD, Nat.sub_self, Nat.reduceAdd, Nat.reduceLeDiff, Nat.reduceLT, Int.reduceToNat, Nat.reduceSub, scalD, eqD_int, eqD_str, eqD_tt, eqD_ff, eqD_tf, eqD_ft, id_eq, reduceCtorEq, false_implies, implies_true, D.int.injEq, D.str.injEq, D.lst.injEq, D.tup.injEq, Sl.fz.injEq, Sl.ol.injEq, RF.e_app, RF.app_e, RF.emp_eq, IT_t, IT_f, IT_T, IT_F, IT_d, IT_n, IT_not])
local macro_rules | `(tactic| walk_at "l") => `(tactic| first | omega | (simp only [RF.len_app, RF.e_app, RF.app_e, RF.emp_eq, sizeLine_eq, l_dash, l_plus, l_r, l_emp, l_lp, l_rpd, l_slash, l_star, l_sp1, l_sp2, l_flo, l_com, l_rp, l_le, l_equ, l_und, l_lea, l_not, l_allS, l_some, l_spc, l_ors, l_ands, List.map_cons, List.map_nil, List.sum_cons, List.sum_nil, List.length_cons, List.length_nil, List.length_map, List.length_append, List.length_replicate, List.length_range] <;> omega))
local macro_rules | `(tactic| walk_at "f") => `(tactic| ((repeat' apply And.intro) <;> first | assumption | walk_at "l"))
local macro_rules | `(tactic| walk_at "s") => `(tactic| (repeat (refine And.intro (by walk_at "l") ?_)))
abbrev s_law : Stmt := top 54
abbrev n_law : List Str := ["_law_script", "_law_bag_here", "_law_turn", "_law_names_here", "_law_k", "_law_way", "_law_name", "_law_other", "_law_number", "_law_due", "_law_many", "_law_asks", "_law_told", "_law_four", "_law_plain", "_law_saying", "_law_wide", "_law_x", "_law_ask"]
theorem sc_law : FnScope n_law ["_law_script"] (defScope s_law) := ⟨rfl, rfl, rfl, by decide +kernel, rfl, by decide +kernel, by decide +kernel⟩
structure EnvL (P : Program) (w : World) (K : PySem.W.Frag) (mg : Str → Option Value) (base : Heap) (j : Nat) (CE c1 c2 c3 : Addr) : Prop where
  bag : Df P w K mg base j "_law_bag" ["_law_script"] (RF.spBag K)
  pull : Df P w K mg base j "_law_pull" ["_law_bag_here", "_law_sides"] (spD K mg true fPull)
  of_ : Df P w K mg base j "_law_of" ["_law_bag_here", "_law_some"] (spD K mg true fOf)
  names : Df P w K mg base j "_law_names" ["_law_bag_here", "_law_many"] (spD K mg true gNames)
  lone : Df P w K mg base j "_law_lone" ["_law_name"] (spD K mg false gLone)
  atom : Df P w K mg base j "_law_light_atom" ["_law_bag_here", "_law_names_here"] (spD K mg true gAtom)
  due : Df P w K mg base j "_law_scope_due" ["_law_saying"] (spD K mg false gDue)
  same : Df P w K mg base j "_law_same" ["_law_found", "_law_due"] (spD K mg false (fSame 3))
  says : Df P w K mg base j "is_saying" ["value"] (spD K mg false vSays)
  chk : DfX P w K mg base j "check_saying" ["value"] (spD K mg false vCheck)
  why : WhyE P w K mg base (top 44) j c1 c2 c3
  eo : RF.OwnE P w K mg "InvalidSaying" "number" CE
  xo : PySem.W.exmAny K (.ref CE) [.ref c1, .ref c2, .ref c3] = some true
section
variable {P : Program} {w : World} {K : PySem.W.Frag} {mg : Str → Option Value} {base : Heap} {j : Nat} {CE c1 c2 c3 : Addr}
abbrev XL (P : Program) (w : World) (K : PySem.W.Frag) (mg : Str → Option Value) (base : Heap) (f c : Addr) (A : Around) (outer : List Env) (s : Shared) (H : Hp) (E : XK) : Cx := (cxOf CX0 P w K mg base n_law "law" (defScope s_law) f (.ref c) A outer s H E).nox
abbrev body (i : Nat) : Stmt := stA i (defBody s_law)
abbrev turn (i : Nat) : Stmt := stA i (forB (body 1))
section
variable {f c P0 : Addr} {A : Around} {outer : List Env} {s : Shared} {H : Hp} {E : XK}
theorem asks (e : EnvL P w K mg base j CE c1 c2 c3) (hr : Room (j + 2) (XL P w K mg base f c A outer s H E).A) : LM.Asks (XL P w K mg base f c A outer s H E) "_law_why" qL j (RF.TWhy K c1 c2 c3) := by
  obtain ⟨gw, ocw, odw, anw, kVw, docw, pmw, cdvw, ctw, oslw, mW, kW, lW, cW, bW⟩ := e.why.ex
  obtain ⟨gf, fdf, GF, mF, kF, bF⟩ := e.why.fld
  have hG := RF.why_gives (X := XL P w K mg base f c A outer s H E) (g := gw) (cdg := cdvw) (q := qL) (k := j) (hr.mono (by omega)) e.why.m1 e.why.m2 e.why.m3 GF mF kF bF
  exact ⟨⟨gw, _, _, _, .none, kVw, docw, pmw, cdvw, ctw, ocw, anw, odw, oslw, RF.n_law_why, "_law_ask", mW, kW, lW, cW, bW, RF.sc_law_why, rfl, .inl rfl, by decide, by decide, hG⟩, by decide⟩
abbrev tChk (K : PySem.W.Frag) (mg : Str → Option Value) (t : TE) : XK → TE := fun E => tCall (spD K mg false vCheck) [] E (tCons t tNil)
abbrev tWd (x : Str) : TE := tC (.str x)
abbrev tLx : TE := tTup (tCons (tWd "less") (tCons (tVar 17) (tCons (tVar 17) tNil)))
/-- what is asked: the saying drawn; wide, plain; four -/
abbrev t0 : TE := tVar 15
abbrev t1 : TE := tTup (tCons (tWd "and") (tCons (tVar 16) (tCons (tVar 14) tNil)))
abbrev t2 : TE := tTup (tCons (tWd "and") (tCons (tVar 16) (tCons (tVar 14) (tCons (tTup (tCons (tWd "less") (tCons (tVar 14) tNil))) tNil))))
abbrev t3 : TE := tVar 13
abbrev t4 : TE := tTup (tCons (tWd "some") (tCons (tWd "a") (tCons (tVar 13) tNil)))
abbrev t5 : TE := tTup (tCons (tWd "and") (tCons tLx (tCons (tTup (tCons (tWd "some") (tCons (tWd "x") (tCons tLx tNil)))) tNil)))
abbrev e0 : Expr := argA 0 (eltA 0 (argA 0 (notA (ifT (turn 5)))))
abbrev e1 : Expr := eltA 0 (valOf (body 5))
abbrev e2 : Expr := eltA 1 (valOf (body 5))
abbrev e3 : Expr := argA 0 (eltA 0 (valOf (body 8)))
abbrev e4 : Expr := argA 0 (eltA 1 (valOf (body 8)))
def exprOf : Stmt → Expr
  | .Expr e _ => e
  | _ => .Constant .none 0 ⟨0, 0, 0, 0⟩
abbrev e5 : Expr := argA 0 (argA 0 (exprOf (body 9)))
abbrev mE (K : PySem.W.Frag) (mg : Str → Option Value) (X : Cx) (e : Expr) (κ : LM.LK) (t : TE) : LM.LEnt := ⟨LM.lamT e, κ, LM.clo X (LM.lamT e), tChk K mg t⟩
abbrev wWd (x : Str) : WE := wC (.str x)
abbrev wT (wa : WA) : WE := wArg pTupN wa
abbrev wLx : WE := wT (wCons (wWd "less") (wCons (wVar 17) (wCons (wVar 17) (fun (ρ : Ev) (k : List D → Ev → Prop) => k [] ρ))))
abbrev w0 : WE := wVar 15
abbrev w1 : WE := wT (wCons (wWd "and") (wCons (wVar 16) (wCons (wVar 14) (fun (ρ : Ev) (k : List D → Ev → Prop) => k [] ρ))))
abbrev w2 : WE := wT (wCons (wWd "and") (wCons (wVar 16) (wCons (wVar 14) (wCons (wT (wCons (wWd "less") (wCons (wVar 14) (fun (ρ : Ev) (k : List D → Ev → Prop) => k [] ρ)))) (fun (ρ : Ev) (k : List D → Ev → Prop) => k [] ρ)))))
abbrev w3 : WE := wVar 13
abbrev w4 : WE := wT (wCons (wWd "some") (wCons (wWd "a") (wCons (wVar 13) (fun (ρ : Ev) (k : List D → Ev → Prop) => k [] ρ))))
abbrev w5 : WE := wT (wCons (wWd "and") (wCons wLx (wCons (wT (wCons (wWd "some") (wCons (wWd "x") (wCons wLx (fun (ρ : Ev) (k : List D → Ev → Prop) => k [] ρ))))) (fun (ρ : Ev) (k : List D → Ev → Prop) => k [] ρ))))
abbrev wQ (w : WE) : WX' := wCallX vCheck (wCons w (fun (ρ : Ev) (k : List D → Ev → Prop) => k [] ρ))
section
variable {C : Cxt}
theorem okn : OkA C tNil (fun (ρ : Ev) (k : List D → Ev → Prop) => k [] ρ) := fun ρ ρx σ σx H S k Q hl st hw q => q [] ρ [] H S hl (by simpa [fzs] using st) hw
theorem oks (x : Str) : OkE C (tWd x) (wWd x) := ok_c fun _ => rfl
theorem okt {ta : TA} {wa : WA} (h : OkA C ta wa) : OkE C (tTup ta) (wT wa) := ok_arg l_tupN h
theorem okq {X : Cx} {t : TE} {w : WE} (Fi : Fit X C) (h : OkE C t w) : OkEX C (tChk X.K X.mg t) (wQ w) := ok_callX Fi (ok_cons h okn) (fun z => by cases z)
theorem okx : OkE C tLx wLx := okt (ok_cons (oks _) (ok_cons (ok_var 17) (ok_cons (ok_var 17) okn)))
theorem ok0 : OkE C t0 w0 := ok_var 15
theorem ok1 : OkE C t1 w1 := okt (ok_cons (oks _) (ok_cons (ok_var 16) (ok_cons (ok_var 14) okn)))
theorem ok2 : OkE C t2 w2 := okt (ok_cons (oks _) (ok_cons (ok_var 16) (ok_cons (ok_var 14) (ok_cons (okt (ok_cons (oks _) (ok_cons (ok_var 14) okn))) okn))))
theorem ok3 : OkE C t3 w3 := ok_var 13
theorem ok4 : OkE C t4 w4 := okt (ok_cons (oks _) (ok_cons (oks _) (ok_cons (ok_var 13) okn)))
theorem ok5 : OkE C t5 w5 := okt (ok_cons (oks _) (ok_cons okx (ok_cons (okt (ok_cons (oks _) (ok_cons (oks _) (ok_cons okx okn)))) okn)))
end
theorem go0 (e : EnvL P w K mg base j CE c1 c2 c3) : LM.LGo (XL P w K mg base f c A outer s H E) j (mE K mg (XL P w K mg base f c A outer s H E) e0 .plain t0) := by
  refine LM.go_of ⟨_, _, _, _, rfl, by show LM.lsB n_law _ = true; decide +kernel, by show LM.freeB (defScope s_law) _ = true; decide +kernel, ⟨rfl, rfl, fun _ _ _ _ _ _ => rfl⟩, trivial, fun A' outer' s' H' E' f' c' hr2 => ?_⟩
  exact pe_callX (X := LM.lcx (XL P w K mg base f c A outer s H E) _ _ A' outer' s' H' E' _ f' c') e.chk hr2 (Nat.le_refl _) LM.passL (pa_cons (pv 15) pa_nil)
theorem go1 (e : EnvL P w K mg base j CE c1 c2 c3) : LM.LGo (XL P w K mg base f c A outer s H E) j (mE K mg (XL P w K mg base f c A outer s H E) e1 .plain t1) := by
  refine LM.go_of ⟨_, _, _, _, rfl, by show LM.lsB n_law _ = true; decide +kernel, by show LM.freeB (defScope s_law) _ = true; decide +kernel, ⟨rfl, rfl, fun _ _ _ _ _ _ => rfl⟩, trivial, fun A' outer' s' H' E' f' c' hr2 => ?_⟩
  exact pe_callX (X := LM.lcx (XL P w K mg base f c A outer s H E) _ _ A' outer' s' H' E' _ f' c') e.chk hr2 (Nat.le_refl _) LM.passL (pa_cons (pe_tup (pa_cons pe_str (pa_cons (pv 16) (pa_cons (pv 14) pa_nil)))) pa_nil)
theorem go2 (e : EnvL P w K mg base j CE c1 c2 c3) : LM.LGo (XL P w K mg base f c A outer s H E) j (mE K mg (XL P w K mg base f c A outer s H E) e2 (.dflt "_law_a" 0) t2) := by
  refine LM.go_of ⟨_, _, _, _, rfl, by show LM.lsB n_law _ = true; decide +kernel, by show LM.freeB (defScope s_law) _ = true; decide +kernel, ⟨⟨_, _, rfl⟩, rfl, fun _ _ _ _ _ _ _ => ⟨_, rfl, fun _ => rfl⟩⟩, rfl, fun A' outer' s' H' E' f' c' hr2 => ?_⟩
  exact pe_callX (X := LM.lcx (XL P w K mg base f c A outer s H E) _ _ A' outer' s' H' E' _ f' c') e.chk hr2 (Nat.le_refl _) LM.passL (pa_cons (pe_tup (pa_cons pe_str (pa_cons (pv 16) (pa_cons (pv 14) (pa_cons (pe_tup (pa_cons pe_str (pa_cons (pv 14) pa_nil))) pa_nil))))) pa_nil)
theorem go3 (e : EnvL P w K mg base j CE c1 c2 c3) : LM.LGo (XL P w K mg base f c A outer s H E) j (mE K mg (XL P w K mg base f c A outer s H E) e3 .plain t3) := by
  refine LM.go_of ⟨_, _, _, _, rfl, by show LM.lsB n_law _ = true; decide +kernel, by show LM.freeB (defScope s_law) _ = true; decide +kernel, ⟨rfl, rfl, fun _ _ _ _ _ _ => rfl⟩, trivial, fun A' outer' s' H' E' f' c' hr2 => ?_⟩
  exact pe_callX (X := LM.lcx (XL P w K mg base f c A outer s H E) _ _ A' outer' s' H' E' _ f' c') e.chk hr2 (Nat.le_refl _) LM.passL (pa_cons (pv 13) pa_nil)
theorem go4 (e : EnvL P w K mg base j CE c1 c2 c3) : LM.LGo (XL P w K mg base f c A outer s H E) j (mE K mg (XL P w K mg base f c A outer s H E) e4 (.dflt "_law_a" 0) t4) := by
  refine LM.go_of ⟨_, _, _, _, rfl, by show LM.lsB n_law _ = true; decide +kernel, by show LM.freeB (defScope s_law) _ = true; decide +kernel, ⟨⟨_, _, rfl⟩, rfl, fun _ _ _ _ _ _ _ => ⟨_, rfl, fun _ => rfl⟩⟩, rfl, fun A' outer' s' H' E' f' c' hr2 => ?_⟩
  exact pe_callX (X := LM.lcx (XL P w K mg base f c A outer s H E) _ _ A' outer' s' H' E' _ f' c') e.chk hr2 (Nat.le_refl _) LM.passL (pa_cons (pe_tup (pa_cons pe_str (pa_cons pe_str (pa_cons (pv 13) pa_nil)))) pa_nil)
theorem go5 (e : EnvL P w K mg base j CE c1 c2 c3) : LM.LGo (XL P w K mg base f c A outer s H E) j (mE K mg (XL P w K mg base f c A outer s H E) e5 (.dflt "_law_b" 0) t5) := by
  refine LM.go_of ⟨_, _, _, _, rfl, by show LM.lsB n_law _ = true; decide +kernel, by show LM.freeB (defScope s_law) _ = true; decide +kernel, ⟨⟨_, _, rfl⟩, rfl, fun _ _ _ _ _ _ _ => ⟨_, rfl, fun _ => rfl⟩⟩, rfl, fun A' outer' s' H' E' f' c' hr2 => ?_⟩
  exact pe_callX (X := LM.lcx (XL P w K mg base f c A outer s H E) _ _ A' outer' s' H' E' _ f' c') e.chk hr2 (Nat.le_refl _) LM.passL (pa_cons (pe_tup (pa_cons pe_str (pa_cons (pe_tup (pa_cons pe_str (pa_cons (pv 17) (pa_cons (pv 17) pa_nil)))) (pa_cons (pe_tup (pa_cons pe_str (pa_cons pe_str (pa_cons (pe_tup (pa_cons pe_str (pa_cons (pv 17) (pa_cons (pv 17) pa_nil)))) pa_nil)))) pa_nil)))) pa_nil)
theorem hT1 : ∀ p ∈ TL P0, p.1 = P0 → p.2 = qL := fun p hp _ => by rw [List.mem_singleton.mp hp]
abbrev Ers : List (Str × Option Str) := [("InvalidSaying", some "number")]
theorem why_tt {tl : XK → Hp → VK → Prop} {H1 : Hp} {Q1 : VK} (h : TWhyQ K c1 c2 c3 tl H1 Q1) : RF.TWhy K c1 c2 c3 tl H1 Q1 := h
end
end
end Q

set_option autoImplicit false
set_option linter.all false
/-! VM: the law's body -/
namespace Q
open PySem L2
open RF (top Df DfX e_app app_e len_app stA forB ifT notA argA eltA valOf cmpA)
open LamX (Tabs TabS ExtN TabB CodeO)
local macro_rules | `(tactic| walk_at "u") => `(tactic| simp (config := { dsimp := false, maxSteps := 2000000 }) only [↓CL_of, ↓IT_of, ↓LC_of, ↓LP_of, ↓WH_of, ↓CT_of, ↓IC_of, ↓SC_of, ↓wSeq, ↓wFirst, ↓wStar, ↓wExtT, pBackT, pSoSet, pSoKey, cutD2, ↓wPar3, ↓wLc2, lcW2, List.isEmpty_cons, List.isEmpty_nil, Int.cast_ofNat_Int, Int.natCast_one, Int.natCast_zero, Int.reduceEq, Int.reduceLE, Int.reduceLT, ↓wIfS, ↓wYes, ↓wOpV, ↓wOp, ↓wC, ↓wUn, ↓wRet, ↓wJoin, ↓wJs, ↓wArg, ↓wCons, ↓wVar, ↓wBor, ↓wMv, ↓wSet, ↓wAsg, ↓wNm, ↓wTg, ↓wGCons, ↓wApp, ↓wPop, ↓wExt, ↓wSub, ↓wDrop, ↓wPar, ↓wAug, ↓wAnd, ↓wOr, ↓wNot, ↓wTru, truP, ↓wIf, ↓wAndV, ↓wOrV, ↓wNotV, ↓wChain, ↓wSl, ↓wSlV, ↓wPart, ↓wM1, ↓wMN, pStarts, pEnds, pRfind, pStripC, pParts, pStarts3, pFind3, pSS, pSSI, pMax3, ↓wFor, ↓wLc, ↓wList, ↓wTupI, ↓wRng1, ↓wRng2, ↓wEnum, ↓wZip, ↓wRevI, ↓wStrI, ↓wKw, pCallV, wipeE, pTupN, pLstN, pIx, pSl, pRev, pLen, pAbs, pInt, pBool, pStr, pList, pTuple, pSum, pNums, pBls, pIsi, pIsi2, tyN, aI_fold, cutD1, inD_nil, inD_cons, Bool.or_eq_true, decide_eq_true_eq, Bool.or_false, Bool.false_or, Bool.true_or, Bool.or_true, decide_true, decide_false, or_false, false_or, or_true, true_or, List.all_cons, List.all_nil, Bool.and_self, Bool.not_true, Bool.not_false, iff_self, if_true, if_false, Bool.false_eq_true, ofS_inj, String.reduceEq, ati0, ati1, ati2, ati3, ati4, exists_and_left, isi_NoneType_bool, isi_NoneType_int, isi_NoneType_str, isi_NoneType_list, isi_NoneType_tuple, isi_bool_bool, isi_bool_int, isi_bool_str, isi_bool_list, isi_bool_tuple, isi_int_bool, isi_int_int, isi_int_str, isi_int_list, isi_int_tuple, isi_str_bool, isi_str_int, isi_str_str, isi_str_list, isi_str_tuple, isi_list_bool, isi_list_int, isi_list_str, isi_list_list, isi_list_tuple, isi_tuple_bool, isi_tuple_int, isi_tuple_str, isi_tuple_list, isi_tuple_tuple, isi_dict_bool, isi_dict_int, isi_dict_str, isi_dict_list, isi_dict_tuple, mi_bool, mi_int, mi_str, mi_list, mi_tuple, pI2, pI2N, pAdd, pSub, pMul, pNeg, pEqF, pOrd, pIs, pIn, isNon, D.told, D.flat, pFmt, pDivmod, startE, fzs, List.map_cons, List.map_nil, List.length_cons, List.length_nil, List.cons_append, List.nil_append, List.replicate, get_s, get_z, List.set_cons_zero, List.set_cons_succ, Option.some.injEq, exists_eq', true_and, and_true, exists_eq_left', Sl.toD, Nat.sub_self, Nat.reduceAdd, Nat.reduceLeDiff, Nat.reduceLT, Int.reduceToNat, Nat.reduceSub, scalD, eqD_int, eqD_str, eqD_tt, eqD_ff, eqD_tf, eqD_ft, id_eq, reduceCtorEq, false_implies, implies_true, D.int.injEq, D.str.injEq, D.lst.injEq, D.tup.injEq, Sl.fz.injEq, Sl.ol.injEq, RF.e_app, RF.app_e, RF.emp_eq, IT_t, IT_f, IT_T, IT_F, IT_d, IT_n, IT_not])
local macro_rules | `(tactic| walk_at "l") => `(tactic| first | omega | (simp only [RF.len_app, RF.e_app, RF.app_e, RF.emp_eq, sizeLine_eq, l_dash, l_plus, l_r, l_emp, l_lp, l_rpd, l_slash, l_star, l_sp1, l_sp2, l_flo, l_com, l_rp, l_le, l_equ, l_und, l_lea, l_not, l_allS, l_some, l_spc, l_ors, l_ands, List.map_cons, List.map_nil, List.sum_cons, List.sum_nil, List.length_cons, List.length_nil, List.length_map, List.length_append, List.length_replicate, List.length_range] <;> omega))
local macro_rules | `(tactic| walk_at "f") => `(tactic| ((repeat' apply And.intro) <;> first | assumption | walk_at "l"))
local macro_rules | `(tactic| walk_at "s") => `(tactic| (repeat (refine And.intro (by walk_at "l") ?_)))
section
variable {P : Program} {w : World} {K : PySem.W.Frag} {mg : Str → Option Value} {base : Heap} {j : Nat} {CE c1 c2 c3 : Addr}
section
variable {f c P0 : Addr} {A : Around} {outer : List Env} {s : Shared} {H : Hp} {E : XK} {C : Cxt}
theorem ers (e : EnvL P w K mg base j CE c1 c2 c3) : ErrsOk K mg c1 c2 c3 Ers := fun nm fo h => by
  cases List.mem_singleton.mp h
  obtain ⟨fI, O1, J⟩ := e.eo.ex
  refine ⟨CE, O1.gC, e.xo, O1.ecls, O1.noT, .inr (.inr (.inl ⟨rfl, rfl⟩)), fun g hg => ?_⟩
  cases hg
  exact ⟨e.eo.noF, by decide⟩
theorem pw {e0 : Expr} {κ : LM.LK} {t : TE} {w' : WE} {p lpos pos : Pos} (Fi : Fit (XL P w K mg base f c A outer s H E) C) (hCT : C.T = TL P0) (hT : ∀ a ps, C.H0 a ≠ some (.tbl ps)) (tb : TabB base mg c P0) (e : EnvL P w K mg base j CE c1 c2 c3) (hr : Room (j + 2) (XL P w K mg base f c A outer s H E).A)
    (G : LM.LGo (XL P w K mg base f c A outer s H E) j (mE K mg (XL P w K mg base f c A outer s H E) e0 κ t)) (ok : OkE C t w') {ex : Expr} (he : ex = .Call (.Name "_law_why" p) [.Lambda (LM.lamT e0).params (LM.lamT e0).body (LM.lamT e0).scope lpos] [] pos) :
    PD (XL P w K mg base f c A outer s H E) C ex (LM.tAskL (RF.TWhy K c1 c2 c3) C.T qL (mE K mg (XL P w K mg base f c A outer s H E) e0 κ t)) (wWhy Ers (wQ w')) := by
  refine pd_why (c1 := c1) (c2 := c2) (c3 := c3) Fi ?_ hT (fun _ _ _ h => h) (ers e) (okq Fi ok)
  rw [hCT]
  exact LM.pe_askl he (asks e hr) rfl hr G tb rfl (List.mem_singleton.mpr rfl) hT1
theorem pl {e0 : Expr} {κ : LM.LK} {t : TE} (hCT : C.T = TL P0) (hT : ∀ a ps, C.H0 a ≠ some (.tbl ps)) (hu : C.ub = true) (hOc : C.Oc = [C.B.bag, C.B.cel]) (tb : TabB base mg c P0) (e : EnvL P w K mg base j CE c1 c2 c3)
    (G : LM.LGo (XL P w K mg base f c A outer s H E) j (mE K mg (XL P w K mg base f c A outer s H E) e0 κ t)) (he : ∃ lp, e0 = .Lambda (LM.lamT e0).params (LM.lamT e0).body (LM.lamT e0).scope lp) :
    PD (XL P w K mg base f c A outer s H E) C e0 (LM.tLamV C.T (LM.lamT e0) κ qL (LM.clo (XL P w K mg base f c A outer s H E) (LM.lamT e0))) (wC (.lam (LM.lamT e0) κ qL (LM.clo (XL P w K mg base f c A outer s H E) (LM.lamT e0)))) := by
  refine pd_lam ?_ hT hu hOc
  rw [hCT]
  exact LM.lamv_of he G tb rfl (List.mem_singleton.mpr rfl) hT1
abbrev ls (K : PySem.W.Frag) (mg : Str → Option Value) (X : Cx) : List (LM.LEnt × WX') := [(mE K mg X e1 .plain t1, wQ w1), (mE K mg X e2 (.dflt "_law_a" 0) t2, wQ w2)]
abbrev lcE : Expr := cmpA 0 (ifT (body 6))
theorem plc (Fi : Fit (XL P w K mg base f c A outer s H E) C) (e : EnvL P w K mg base j CE c1 c2 c3) (hr : Room (j + 2) (XL P w K mg base f c A outer s H E).A) : PD (XL P w K mg base f c A outer s H E) C lcE (tLc (iList K (tVar 11)) (gName 18) tYes (LM.tAskV (RF.TWhy K c1 c2 c3) qL ((ls K mg (XL P w K mg base f c A outer s H E)).map (·.1)) 18) [18]) (wLc [18] (wList (wVar 11)) (wNm 18) (fun ρ k => k true ρ) (wAskV qL (ls K mg (XL P w K mg base f c A outer s H E)) Ers 18)) := by
  have nd := sc_law.nd
  refine pd_lcask (c1 := c1) (c2 := c2) (c3 := c3) (tg := .Name "_law_ask" ⟨0, 0, 0, 0⟩) Fi ?_ (fun _ _ _ h => h) (ers e) (fun p hp => ?_) (qi_list (pd_var (pv (x := "_law_asks") (pos := ⟨0, 0, 0, 0⟩) 11)))
  · refine LM.lcask_of (own := [("_law_ask", 18)]) (asks e hr) hr (fun m hm => ?_) rfl nd ⟨_, _, _, _, _, _, _, rfl, pi_list (pv 11), blkOk_by (own := [("_law_ask", 18)]) (N := n_law) (sc := defScope s_law) (by decide +kernel), fun _ _ _ _ _ => pg_name (i := 18) nd rfl (Or.inl rfl), fun _ _ _ _ _ => rfl, fun _ _ _ _ _ => pv 18, fun _ => rfl, fun _ => rfl⟩
    simp only [ls, List.map_cons, List.map_nil, List.mem_cons, List.not_mem_nil, or_false] at hm
    rcases hm with rfl | rfl
    · exact ⟨go1 e, LM.off_by (by show LM.offB _ (LM.lamT e1).scope = true; decide +kernel)⟩
    · exact ⟨go2 e, LM.off_by (by show LM.offB _ (LM.lamT e2).scope = true; decide +kernel)⟩
  · simp only [ls, List.mem_cons, List.not_mem_nil, or_false] at hp
    rcases hp with rfl | rfl
    · exact okq Fi ok1
    · exact okq Fi ok2
end
def dueD : Option Nat → D
  | none => .tup [.str "", .non]
  | some n => .tup [.str "InvalidSaying", .int n]
def xT (x : Str) : Lt := ⟨[(1, x)], 0⟩
def plainS : Sg := .cm true (xT "x") (xT "x")
def nots : Nat → Sg → Sg
  | 0, s => s
  | n + 1, s => .no (nots n s)
def fourS : Sg := .cm true ⟨[(1, "a"), (1, "b")], 0⟩ ⟨[(1, "c"), (1, "d")], 0⟩
def Drawn (p c : Nat) (s : Sg) : Prop := s.ok ∧ s.good ∧ s.pre.length ≤ p ∧ s.cn ≤ c
theorem drawn_at {s : Sg} (h : s.okh) (a : s.isAt = true) (c : s.cn ≤ 3) : Drawn 1 3 s := by
  cases s with
  | cm l t u => exact ⟨fun x hx => by rw [List.mem_singleton.mp hx]; exact h, fun x hx => by rw [List.mem_singleton.mp hx]; rfl, Nat.le_refl _, c⟩
  | lv t m r => exact ⟨fun x hx => by rw [List.mem_singleton.mp hx]; exact h, fun x hx => by rw [List.mem_singleton.mp hx]; rfl, Nat.le_refl _, c⟩
  | _ => cases a
theorem drawn_le {p q c d : Nat} {s : Sg} (h : Drawn p c s) (hp : p ≤ q) (hc : c ≤ d) : Drawn q d s := ⟨h.1, h.2.1, Nat.le_trans h.2.2.1 hp, Nat.le_trans h.2.2.2 hc⟩
theorem drawn_no {p c : Nat} {s : Sg} (h : Drawn p c s) : Drawn (p + 1) c (.no s) := by
  refine ⟨fun x hx => ?_, fun x hx => ?_, Nat.succ_le_succ h.2.2.1, h.2.2.2⟩
  · rcases List.mem_cons.mp (show x ∈ Sg.no s :: s.pre from hx) with rfl | hx
    · trivial
    · exact h.1 x hx
  · rcases List.mem_cons.mp (show x ∈ Sg.no s :: s.pre from hx) with rfl | hx
    · rfl
    · exact h.2.1 x hx
theorem drawn_qu {p c : Nat} {f : Bool} {y : Str} {s : Sg} (h : Drawn p c s) (hy : VrB y) : Drawn (p + 1) c (.qu f y s) := by
  refine ⟨fun x hx => ?_, fun x hx => ?_, Nat.succ_le_succ h.2.2.1, h.2.2.2⟩
  · rcases List.mem_cons.mp (show x ∈ Sg.qu f y s :: s.pre from hx) with rfl | hx
    · exact hy
    · exact h.1 x hx
  · rcases List.mem_cons.mp (show x ∈ Sg.qu f y s :: s.pre from hx) with rfl | hx
    · rfl
    · exact h.2.1 x hx
theorem drawn_an {p q c d : Nat} {o : Bool} {s t : Sg} (h : Drawn p c s) (g : Drawn q d t) : Drawn (p + q + 1) (c + d) (.an o s t) := by
  refine ⟨fun x hx => ?_, fun x hx => ?_, ?_, Nat.add_le_add h.2.2.2 g.2.2.2⟩
  · rcases List.mem_cons.mp (show x ∈ Sg.an o s t :: (s.pre ++ t.pre) from hx) with rfl | hx
    · trivial
    · rcases List.mem_append.mp hx with hx | hx
      · exact h.1 x hx
      · exact g.1 x hx
  · rcases List.mem_cons.mp (show x ∈ Sg.an o s t :: (s.pre ++ t.pre) from hx) with rfl | hx
    · rfl
    · rcases List.mem_append.mp hx with hx | hx
      · exact h.2.1 x hx
      · exact g.2.1 x hx
  · show (s.pre ++ t.pre).length + 1 ≤ p + q + 1
    rw [List.length_append]
    have := h.2.2.1
    have := g.2.2.1
    omega
theorem vr_some : ∀ z ∈ (["u", "v", "w", "x", "q", "a", "b", "c", "d"] : List Str), VrB z := by unfold VrB lowS; decide +kernel
theorem eqD_self {d : D} (h : plain d = true) : eqD d d = true := PySem.SeqAt.eqv_refl _ (lay_of _ h)
def tells (i : Int) : D := .tup [.str "InvalidSaying", .int i]
theorem ok_tells (i : Int) : plain (tells i) = true := by
  have h : PyData.strOk ("InvalidSaying" : Str) = true := by decide +kernel
  show (PyData.strOk ("InvalidSaying" : Str) && (true && true)) = true
  rw [h]
  rfl
theorem ok_two (i j : Int) : okD (.lst [tells i, tells j]) := ⟨by show (plain (tells i) && (plain (tells j) && true)) = true; rw [ok_tells, ok_tells]; rfl, (show 2 ≤ 60 by decide)⟩
theorem ok_three (i j k : Int) : okD (.lst [tells i, tells j, tells k]) := ⟨by show (plain (tells i) && (plain (tells j) && (plain (tells k) && true))) = true; rw [ok_tells, ok_tells, ok_tells]; rfl, (show 2 ≤ 60 by decide)⟩
def wideS (m : Nat) : Sg := nots m (.qu true "x" plainS)
theorem ok_xT {x : Str} (h : VrB x) : (xT x).ok := ⟨(show 1 ≤ 4 by decide), fun p hp => by rw [List.mem_singleton.mp hp]; exact ⟨(show (1 : Int) ≠ 0 ∧ -9 ≤ (1 : Int) ∧ (1 : Int) ≤ 9 by decide), h⟩, (show -1000 ≤ (0 : Int) by decide), (show (0 : Int) ≤ 1000 by decide)⟩
theorem drawn_plain : Drawn 1 3 plainS := drawn_at ⟨ok_xT (vr_some "x" (by simp)), ok_xT (vr_some "x" (by simp))⟩ rfl (by decide)
theorem drawn_nots {p c : Nat} {s : Sg} (h : Drawn p c s) : ∀ m : Nat, Drawn (p + m) c (nots m s)
  | 0 => h
  | m + 1 => drawn_no (drawn_nots h m)
theorem drawn_wide {m : Nat} (h : m < 3) : Drawn 4 3 (wideS m) := drawn_le (drawn_nots (drawn_qu (f := true) (y := "x") drawn_plain (vr_some "x" (by simp))) m) (by omega) (Nat.le_refl _)
theorem wrong1 {m : Nat} (h : m < 3) : (Sg.an true (wideS m) plainS).wrong = some (1 + m) := by
  obtain rfl | rfl | rfl : m = 0 ∨ m = 1 ∨ m = 2 := by omega
  all_goals decide +kernel
abbrev sg2 (m : Nat) : Sg := .a3 (wideS m) plainS (.bad plainS)
theorem wrong2 {m : Nat} (h : m < 3) : (sg2 m).wrong = some (4 + m) := by
  obtain rfl | rfl | rfl : m = 0 ∨ m = 1 ∨ m = 2 := by omega
  all_goals decide +kernel
theorem known2 {m : Nat} (h : m < 3) : (sg2 m).pre.length ≤ 20 ∧ (sg2 m).ok ∧ (mis (sg2 m).pre 0 = none → (sg2 m).good) ∧ (sg2 m).cn < 64 := by
  have hw := drawn_wide h
  have hp := drawn_plain
  refine ⟨?_, fun x hx => ?_, fun hm => ?_, ?_⟩
  · show ((wideS m).pre ++ (plainS.pre ++ [Sg.bad plainS])).length + 1 ≤ 20
    have := hw.2.2.1
    have := hp.2.2.1
    simp only [List.length_append, List.length_cons, List.length_nil]
    omega
  · rcases List.mem_cons.mp (show x ∈ sg2 m :: ((wideS m).pre ++ (plainS.pre ++ [Sg.bad plainS])) from hx) with rfl | hx
    · trivial
    · rcases List.mem_append.mp hx with hx | hx
      · exact hw.1 x hx
      · rcases List.mem_append.mp hx with hx | hx
        · exact hp.1 x hx
        · rw [List.mem_singleton.mp hx]; trivial
  · have hm := mis_none hm (.bad plainS) (by simp [Sg.pre])
    cases hm
  · show (wideS m).cn + (plainS.cn + 0) < 64
    have := hw.2.2.2
    have := hp.2.2.2
    omega
theorem ok_ab : ∀ x y : Str, x ∈ (["a", "b", "c", "d"] : List Str) → y ∈ (["a", "b", "c", "d"] : List Str) → Lt.ok ⟨[(1, x), (1, y)], 0⟩ := fun x y hx hy => by
  have key : ∀ z ∈ (["a", "b", "c", "d"] : List Str), VrB z := by unfold VrB lowS; decide +kernel
  have one : (1 : Int) ≠ 0 ∧ -9 ≤ (1 : Int) ∧ (1 : Int) ≤ 9 := by decide
  refine ⟨(show 2 ≤ 4 by decide), fun p hp => ?_, (show -1000 ≤ (0 : Int) by decide), (show (0 : Int) ≤ 1000 by decide)⟩
  rcases List.mem_cons.mp hp with rfl | hp
  · exact ⟨one, key x hx⟩
  · rw [List.mem_singleton.mp hp]
    exact ⟨one, key y hy⟩
theorem drawn_four : Drawn 1 4 fourS := ⟨fun x hx => by rw [List.mem_singleton.mp (show x ∈ [_] from hx)]; exact ⟨ok_ab "a" "b" (by simp) (by simp), ok_ab "c" "d" (by simp) (by simp)⟩, fun x hx => by rw [List.mem_singleton.mp (show x ∈ [_] from hx)]; rfl, Nat.le_refl _, Nat.le_refl _⟩
abbrev sg4 : Sg := .qu true "a" fourS
abbrev sg5 : Sg := .an true plainS (.qu true "x" plainS)
theorem wrong3 : fourS.wrong = some 0 := by decide +kernel
theorem wrong4 : sg4.wrong = some 1 := by decide +kernel
theorem wrong5 : sg5.wrong = some 2 := by decide +kernel
theorem drawn4 : Drawn 2 4 sg4 := drawn_qu drawn_four (vr_some "a" (by simp))
theorem drawn5 : Drawn 4 6 sg5 := drawn_le (drawn_an drawn_plain (drawn_qu (f := true) (y := "x") drawn_plain (vr_some "x" (by simp)))) (by omega) (by omega)
/-- what the question tells of a saying -/
theorem why_any {w' : WE} {s : Sg} {d : D} {ρ : Ev} {k : Sl → Ev → Prop} (hw : ∀ K : Sl → Ev → Prop, K (.fz s.d) ρ → w' ρ K) (h1 : s.pre.length ≤ 20) (h2 : s.ok) (h3 : mis s.pre 0 = none → s.good) (h4 : s.cn < 64) (e : dueD s.wrong = d) (hk : k (.fz d) ρ) : wWhy Ers (wQ w') ρ k := by
  subst e
  refine hw _ ⟨s, rfl, h1, h2, h3, h4, fun hw => ?_, fun n hw => ?_⟩
  · rw [hw] at hk
    exact hk
  · rw [hw] at hk
    exact ⟨.inl ⟨"number", .int (n : Nat), List.mem_singleton.mpr rfl, rfl⟩, hk⟩
theorem why_d {w' : WE} {s : Sg} {p c n : Nat} {ρ : Ev} {k : Sl → Ev → Prop} (dr : Drawn p c s) (hp : p ≤ 20) (hc : c < 64) (hn : s.wrong = some n) (hw : ∀ K : Sl → Ev → Prop, K (.fz s.d) ρ → w' ρ K) (hk : k (.fz (tells n)) ρ) : wWhy Ers (wQ w') ρ k :=
  why_any hw (Nat.le_trans dr.2.2.1 hp) dr.1 (fun _ => dr.2.1) (Nat.lt_of_le_of_lt dr.2.2.2 hc) (by rw [hn]; rfl) hk
theorem ok_law {f c P0 : Addr} {kV doc pm ct oc : Value} {an od : Option Addr} {osl : Array (Option Value)} (lk : K.lookup f = some ⟨oc, od, .func (PySem.W.fnOf "law" "law" (defArgs s_law) (defBody s_law) (defScope s_law) .none kV doc pm an (.ref c) ct), osl⟩) (hcd : PySem.W.codeIn K (.ref c) "law" = true) (tb : TabB base mg c P0) (T : TN mg) (e : EnvL P w K mg base j CE c1 c2 c3) :
    FnOk P w K mg base CX0 (j + 3) f (PySem.W.fnOf "law" "law" (defArgs s_law) (defBody s_law) (defScope s_law) .none kV doc pm an (.ref c) ct) ["_law_script"] (spLawL K P0) := by
  refine fn_lawL lk hcd sc_law rfl (by decide) fun A outer s H E hr => ?_
  have nd := sc_law.nd
  have D_law_pull := e.pull
  have D_law_of := e.of_
  have D_law_names := e.names
  have D_law_lone := e.lone
  have D_law_light_atom := e.atom
  have D_law_scope_due := e.due
  have D_law_same := e.same
  have D_is_saying := e.says
  refine ⟨ps_set (i := 1) nd rfl (Or.inl rfl) (RF.pe_callD e.bag hr (Nat.le_add_right _ _) (pa_cons (pv 0) pa_nil)), fun C Fi hu hCT hT hOc => ?_⟩
  refine ⟨_, _, (qss_cons (qs_for PassesOwn.never rfl (qi_range1 (by rfl) T.range (qa_cons pd_int qa_nil)) (qg_name (pg_name (i := 2) nd rfl (Or.inl rfl)))
      (qss_cons (qs_set (i := 3) nd rfl (Or.inl rfl) (pd_call Fi D_law_names hr (Nat.le_add_right _ _) (qa_cons (pd_var (pv 1)) (qa_cons (pd_op op_addA (l_add Fi) pd_int (PD.b (pd_call Fi D_law_pull hr (Nat.le_add_right _ _) (qa_cons (pd_var (pv 1)) (qa_cons pd_int qa_nil))))) qa_nil))))
        (qss_cons (qs_set (i := 15) nd rfl (Or.inr rfl) (pd_call Fi D_law_light_atom hr (Nat.le_add_right _ _) (qa_cons (pd_var (pv 1)) (qa_cons (pd_var (pv 3)) qa_nil))))
        (qss_cons (qs_for PassesOwn.never rfl (qi_range1 (by rfl) T.range (qa_cons (pd_call Fi D_law_pull hr (Nat.le_add_right _ _) (qa_cons (pd_var (pv 1)) (qa_cons pd_int qa_nil))) qa_nil)) (qg_name (pg_name (i := 4) nd rfl (Or.inl rfl)))
        (qss_cons (qs_par (i := 5) (j := 6) rfl nd rfl rfl (by decide) rfl rfl (pd_call Fi D_law_pull hr (Nat.le_add_right _ _) (qa_cons (pd_var (pv 1)) (qa_cons pd_int qa_nil))) (pd_call Fi D_law_of hr (Nat.le_add_right _ _) (qa_cons (pd_var (pv 1)) (qa_cons (pd_opV op_addA (l_add Fi) (pv 3) (PD.b (pd_lst (qa_cons pd_str (qa_cons pd_str (qa_cons pd_str qa_nil)))))) qa_nil))) (by kernel_rfl))
          (qss_one (qs_if (qt_cmpV op_ltA l_ord (pv 5) (PD.b pd_int) (nomark _))
          (qss_one (qs_set (i := 15) nd rfl (Or.inr rfl) (pd_tup (qa_cons (pd_ix ix_seq (l_ix Fi) (pd_lst (qa_cons pd_str (qa_cons pd_str qa_nil))) (pb_var (pv 5)) (fun _ _ => rfl)) (qa_cons (pd_var (pv 6)) (qa_cons (pd_var (pv 15)) qa_nil))))))
          (qss_one (qs_if (qt_cmpV (op_eqA hr.units) (l_eq Fi) (pv 5) (PD.b pd_int) (nomark _))
            (qss_one (qs_set (i := 15) nd rfl (Or.inr rfl) (pd_tup (qa_cons pd_str (qa_cons (pd_var (pv 15)) qa_nil)))))
            (qss_cons (qs_set (i := 7) nd rfl (Or.inl rfl) (pd_call Fi D_law_light_atom hr (Nat.le_add_right _ _) (qa_cons (pd_var (pv 1)) (qa_cons (pd_lst (qa_cons (pd_call Fi D_law_of hr (Nat.le_add_right _ _) (qa_cons (pd_var (pv 1)) (qa_cons (pd_lst (qa_cons pd_str (qa_cons pd_str (qa_cons pd_str qa_nil)))) qa_nil))) qa_nil)) qa_nil))))
              (qss_one (qs_set (i := 15) nd rfl (Or.inr rfl) (pd_call Fi D_law_of hr (Nat.le_add_right _ _) (qa_cons (pd_var (pv 1)) (qa_cons (pd_lst (qa_cons (pd_tup (qa_cons pd_str (qa_cons (pd_var (pv 15)) (qa_cons (pd_var (pv 7)) qa_nil)))) (qa_cons (pd_tup (qa_cons pd_str (qa_cons (pd_var (pv 7)) (qa_cons (pd_var (pv 15)) qa_nil)))) qa_nil))) qa_nil))))))))))))
        (qss_cons (qs_set (i := 8) nd rfl (Or.inl rfl) (pd_call Fi D_law_scope_due hr (Nat.le_add_right _ _) (qa_cons (pd_var (pv 15)) qa_nil)))
        (qss_cons (qs_setC (i := 9) nd rfl (Or.inl rfl) (pd_if (qt_cmpV op_isA l_is (pv 8) (PD.b pd_non) (nomark _)) (pd_tup (qa_cons pd_str (qa_cons pd_non qa_nil))) (pd_tup (qa_cons pd_str (qa_cons (pd_var (pv 8)) qa_nil)))))
        (qss_one (qs_if (qt_not (qt_truth Fi (PD.b (pd_call Fi D_law_same hr (Nat.le_add_right _ _) (qa_cons (pd_lst (qa_cons (pw Fi hCT hT tb e hr (go0 e) ok0 rfl) (qa_cons (pd_call Fi D_is_saying hr (Nat.le_add_right _ _) (qa_cons (pd_var (pv 15)) qa_nil)) qa_nil))) (qa_cons (pd_lst (qa_cons (pd_var (pv 9)) (qa_cons (pd_cmpV op_isA l_is (pv 8) (PD.b pd_non) (nomark _)) qa_nil))) qa_nil))))))
        (qss_one (qs_ret pd_bl))
        qss_nil))))))))
      (qss_cons (qs_asg (pd_tup (qa_cons (pd_tup (qa_cons pd_str (qa_cons (pd_call Fi D_law_lone hr (Nat.le_add_right _ _) (qa_cons pd_str qa_nil)) (qa_cons (pd_call Fi D_law_lone hr (Nat.le_add_right _ _) (qa_cons pd_str qa_nil)) qa_nil)))) (qa_cons (pd_call Fi D_law_pull hr (Nat.le_add_right _ _) (qa_cons (pd_var (pv 1)) (qa_cons pd_int qa_nil))) qa_nil))) (qg_tup (n := 2) Fi rfl (qgs_cons (qg_name (pg_name (i := 14) nd rfl (Or.inr rfl))) (qgs_cons (qg_name (pg_name (i := 10) nd rfl (Or.inl rfl))) qgs_nil))))
      (qss_cons (qs_set (i := 16) nd rfl (Or.inr rfl) (pd_tup (qa_cons pd_str (qa_cons pd_str (qa_cons (pd_var (pv 14)) qa_nil)))))
      (qss_cons (qs_for PassesOwn.never rfl (qi_range1 (by rfl) T.range (qa_cons (pd_var (pv 10)) qa_nil)) (qg_name (pg_name (i := 4) nd rfl (Or.inl rfl)))
      (qss_one (qs_set (i := 16) nd rfl (Or.inr rfl) (pd_tup (qa_cons pd_str (qa_cons (pd_var (pv 16)) qa_nil))))))
      (qss_cons (qs_set (i := 11) nd rfl (Or.inl rfl) (pd_lst (qa_cons (pl hCT hT hu hOc tb e (go1 e) ⟨_, rfl⟩) (qa_cons (pl hCT hT hu hOc tb e (go2 e) ⟨_, rfl⟩) qa_nil))))
      (qss_cut (qs_if (qt_cmp (op_neA hr.units) (l_ne Fi) (plc Fi e hr) (PD.b (pd_lst (qa_cons (pd_tup (qa_cons pd_str (qa_cons (pd_op op_addA (l_add Fi) pd_int (pb_var (pv 10))) qa_nil))) (qa_cons (pd_tup (qa_cons pd_str (qa_cons (pd_op op_addA (l_add Fi) pd_int (pb_var (pv 10))) qa_nil))) qa_nil)))) (nomark _))
      (qss_one (qs_ret pd_bl))
      qss_nil)
      (qss_cons (qs_asg (pd_tup (qa_cons (pd_tup (qa_cons (pd_tup (qa_cons (pd_tup (qa_cons pd_int (qa_cons pd_str qa_nil))) qa_nil)) (qa_cons pd_int qa_nil))) (qa_cons (pd_tup (qa_cons pd_str (qa_cons (pd_tup (qa_cons (pd_tup (qa_cons (pd_tup (qa_cons pd_int (qa_cons pd_str qa_nil))) (qa_cons (pd_tup (qa_cons pd_int (qa_cons pd_str qa_nil))) qa_nil))) (qa_cons pd_int qa_nil))) (qa_cons (pd_tup (qa_cons (pd_tup (qa_cons (pd_tup (qa_cons pd_int (qa_cons pd_str qa_nil))) (qa_cons (pd_tup (qa_cons pd_int (qa_cons pd_str qa_nil))) qa_nil))) (qa_cons pd_int qa_nil))) qa_nil)))) qa_nil))) (qg_tup (n := 2) Fi rfl (qgs_cons (qg_name (pg_name (i := 17) nd rfl (Or.inr rfl))) (qgs_cons (qg_name (pg_name (i := 13) nd rfl (Or.inr rfl))) qgs_nil))))
      (qss_cons (qs_set (i := 12) nd rfl (Or.inl rfl) (pd_lst (qa_cons (pw Fi hCT hT tb e hr (go3 e) ok3 rfl) (qa_cons (pw Fi hCT hT tb e hr (go4 e) ok4 rfl) qa_nil))))
      (qss_cons (qs_expr (pd_app (pv 12) (pw Fi hCT hT tb e hr (go5 e) ok5 rfl)))
      (qss_one (qs_ret (pd_cmpV (op_eqA hr.units) (l_eq Fi) (pv 12) (PD.b (pd_lst (qa_cons (pd_tup (qa_cons pd_str (qa_cons pd_int qa_nil))) (qa_cons (pd_tup (qa_cons pd_str (qa_cons pd_int qa_nil))) (qa_cons (pd_tup (qa_cons pd_str (qa_cons pd_int qa_nil))) qa_nil))))) (nomark _))))))))))))), ?_⟩
  walk_at "u"
  refine ⟨by decide, ?_⟩
  refine loop_ind (fun ds ρ => ∃ v2 v3 v4 v5 v6 v7 v8 v9 v15 : Option Sl, ρ = [none, some (.fz .bag), v2, v3, v4, v5, v6, v7, v8, v9, none, none, none, none, none, v15, none, none, none]) (fun ρ h => ?_) (fun d ds ρ N h hN => ?_) _ _ ⟨none, none, none, none, none, none, none, none, none, rfl⟩
  · obtain ⟨v2, v3, v4, v5, v6, v7, v8, v9, v15, rfl⟩ := h
    walk_at "u"
    refine ⟨"x", rfl, ?_⟩
    walk_at "u"
    refine ⟨"x", rfl, ?_⟩
    walk_at "u"
    refine ⟨_, rfl, by decide, fun m m0 m1 => ?_⟩
    obtain ⟨m, rfl⟩ : ∃ n : Nat, m = n := ⟨m.toNat, by omega⟩
    walk_at "u"
    refine ⟨by omega, ?_⟩
    refine loop_ind (fun es ρ => ∃ (i : Nat) (v4 : Option Sl), i + es.length = m ∧ ρ = [none, some (.fz .bag), v2, v3, v4, v5, v6, v7, v8, v9, some (.fz (.int (m : Nat))), none, none, none, some (.fz plainS.d), v15, some (.fz (wideS i).d), none, none]) (fun ρ h => ?_) (fun d es ρ N h hN => ?_) _ _ ⟨0, v4, by rw [rng_len]; omega, rfl⟩
    · obtain ⟨i, v4, hi, rfl⟩ := h
      obtain rfl : i = m := by simpa using hi
      walk_at "u"
      refine cut (fun ρ' => ∃ u2 u3 u4 u5 u6 u7 u8 u9 u10 u11 u14 u15 u16 : Option Sl, ρ' = [none, some (.fz .bag), u2, u3, u4, u5, u6, u7, u8, u9, u10, u11, none, none, u14, u15, u16, none, none]) ?_ ?_
      rotate_left
      · rintro ρ' ⟨u2, u3, u4, u5, u6, u7, u8, u9, u10, u11, u14, u15, u16, rfl⟩
        walk_at "u"
        refine why_d drawn_four (by decide) (by decide) wrong3 (fun K h => h) ?_
        walk_at "u"
        refine why_d drawn4 (by decide) (by decide) wrong4 (fun K h => ⟨by simp, h⟩) ?_
        walk_at "u"
        refine why_d drawn5 (by decide) (by decide) wrong5 (fun K h => ⟨by simp, by simp, by simp, by simp, h⟩) ?_
        walk_at "u"
        exact ⟨fun _ => ⟨ok_three 0 1 2, ok_three 0 1 2⟩, congrArg D.bl (eqD_self (ok_three 0 1 2).1)⟩
      walk_at "u"
      unfold LC
      simp only [lcW]
      walk_at "u"
      have him : i < 3 := by omega
      unfold wAskV
      refine ⟨_, _, List.mem_cons_self, rfl, ?_⟩
      have dr1 : Drawn 6 6 (.an true (wideS i) plainS) := drawn_an (drawn_wide him) drawn_plain
      refine why_d dr1 (by decide) (by decide) (wrong1 him) (fun K h => ⟨by simp, h⟩) ?_
      walk_at "u"
      refine ⟨_, _, List.mem_cons_of_mem _ List.mem_cons_self, rfl, ?_⟩
      have kn := known2 him
      refine why_any (s := sg2 i) (d := tells ((4 + i : Nat) : Int)) (fun K h => ⟨by simp, by simp, h⟩) kn.1 kn.2.1 kn.2.2.1 kn.2.2.2 (by rw [wrong2 him]; rfl) ?_
      have e1 : ((1 + i : Nat) : Int) = 1 + (i : Int) := Int.natCast_add ..
      have e2 : ((4 + i : Nat) : Int) = 4 + (i : Int) := Int.natCast_add ..
      rw [e1, e2]
      walk_at "u"
      refine ⟨fun _ => ⟨ok_two _ _, ok_two _ _⟩, IT.pos (eqD_self (ok_two _ _).1) ?_⟩
      exact ⟨_, _, _, _, _, _, _, _, _, _, _, _, _, rfl⟩
    · obtain ⟨i, v4, hi, rfl⟩ := h
      rw [List.length_cons] at hi
      walk_at "u"
      exact hN _ ⟨i + 1, _, by omega, rfl⟩
  · obtain ⟨v2, v3, v4, v5, v6, v7, v8, v9, v15, rfl⟩ := h
    walk_at "u"
    refine ⟨_, rfl, by decide, fun a a0 a1 => ?_⟩
    obtain ⟨a, rfl⟩ : ∃ n : Nat, a = n := ⟨a.toNat, by omega⟩
    walk_at "u"
    refine ⟨1 + a, by rw [Int.natCast_add]; rfl, by omega, by omega, fun ns hn hv => ?_⟩
    walk_at "u"
    refine ⟨ns, rfl, by omega, hv, fun s o1 i1 c1 => ?_⟩
    have ds1 := drawn_at o1 i1 c1
    walk_at "u"
    refine ⟨_, rfl, by decide, fun b b0 b1 => ?_⟩
    walk_at "u"
    refine ⟨by omega, ?_⟩
    refine loop_ind (fun es ρ => ∃ (s : Sg) (v4 v5 v6 v7 : Option Sl) (p : Nat), Drawn (1 + 2 * p) (3 + 3 * p) s ∧ p + es.length ≤ 5 ∧ ρ = [none, some (.fz .bag), some (.fz d), some (.fz (.lst (ns.map .str))), v4, v5, v6, v7, v8, v9, none, none, none, none, none, some (.fz s.d), none, none, none]) (fun ρ h => ?_) (fun d2 es ρ N2 h hN2 => ?_) _ _ ⟨s, v4, v5, v6, v7, 0, ds1, by rw [rng_len]; omega, rfl⟩
    · obtain ⟨s, v4, v5, v6, v7, p, hd, hp, rfl⟩ := h
      rw [List.length_nil] at hp
      obtain ⟨h1, h2, h3, h4⟩ := drawn_le hd (show 1 + 2 * p ≤ 11 by omega) (show 3 + 3 * p ≤ 18 by omega)
      walk_at "u"
      refine ⟨s, rfl, by omega, h2, h1, by omega, ?_⟩
      walk_at "u"
      refine setC (.fz (dueD s.due)) ?_ ?_
      · cases s.due with
        | none => unfold optD dueD; walk_at "u"; first | done | rfl
        | some n => unfold optD dueD; walk_at "u"; first | done | rfl
      walk_at "u"
      have hwr := wrong_good h2
      refine why_any (s := s) (fun K h => h) (by omega) h1 (fun _ => h2) (by omega) (by rw [hwr]) ?_
      walk_at "u"
      refine ⟨s, rfl, by omega, h1, fun _ => h2, by omega, ?_⟩
      rw [hwr]
      cases s.due with
      | none =>
        unfold optD dueD
        walk_at "u"
        refine ⟨.lst [.tup [.str "", .non], .bl true], rfl, rfl, by decide, ?_⟩
        walk_at "u"
        exact hN _ ⟨_, _, _, _, _, _, _, _, _, rfl⟩
      | some n =>
        unfold optD dueD
        walk_at "u"
        refine ⟨.lst [.tup [.str "InvalidSaying", .int (n : Nat)], .bl false], rfl, rfl, (show 2 ≤ 3 by decide), ?_⟩
        walk_at "u"
        exact hN _ ⟨_, _, _, _, _, _, _, _, _, rfl⟩
    · obtain ⟨s, v4, v5, v6, v7, p, hd, hp, rfl⟩ := h
      rw [List.length_cons] at hp
      walk_at "u"
      refine ⟨_, rfl, by decide, fun way w0 w1 => ?_⟩
      walk_at "u"
      refine ⟨by rw [List.length_map]; omega, _, rfl, .inl ⟨_, rfl, by simp, by simp; omega, fun x hx => ?_⟩⟩
      obtain ⟨y, rfl, hy⟩ : ∃ y : Str, x = .str y ∧ VrB y := by
        rcases List.mem_append.mp hx with hx | hx
        · obtain ⟨y, hy, rfl⟩ := List.mem_map.mp hx
          exact ⟨y, rfl, hv y hy⟩
        · simp only [List.mem_cons, List.not_mem_nil, or_false] at hx
          rcases hx with rfl | rfl | rfl
          · exact ⟨_, rfl, vr_some "u" (by simp)⟩
          · exact ⟨_, rfl, vr_some "v" (by simp)⟩
          · exact ⟨_, rfl, vr_some "w" (by simp)⟩
      walk_at "u"
      refine ⟨fun h => ?_, fun h => ?_⟩
      · walk_at "u"
        have hw : way = 0 ∨ way = 1 := by omega
        rcases hw with rfl | rfl
        · exact ⟨_, ati0 _ _, hN2 _ ⟨.qu true y s, _, _, _, _, p + 1, drawn_le (drawn_qu hd hy) (by omega) (by omega), by omega, rfl⟩⟩
        · exact ⟨_, ati1 _ _ _, hN2 _ ⟨.qu false y s, _, _, _, _, p + 1, drawn_le (drawn_qu hd hy) (by omega) (by omega), by omega, rfl⟩⟩
      · walk_at "u"
        refine ⟨fun h => ?_, fun h => ?_⟩
        · walk_at "u"
          exact hN2 _ ⟨.no s, _, _, _, _, p + 1, drawn_le (drawn_no hd) (by omega) (by omega), by omega, rfl⟩
        · walk_at "u"
          refine ⟨_, rfl, .inl ⟨_, rfl, by decide, by decide, fun x hx => ?_⟩⟩
          obtain ⟨z, rfl, hz⟩ : ∃ z : Str, x = .str z ∧ VrB z := by
            simp only [List.mem_cons, List.not_mem_nil, or_false] at hx
            rcases hx with rfl | rfl | rfl
            · exact ⟨_, rfl, vr_some "x" (by simp)⟩
            · exact ⟨_, rfl, vr_some "u" (by simp)⟩
            · exact ⟨_, rfl, vr_some "q" (by simp)⟩
          walk_at "u"
          refine ⟨[z], rfl, by simp, fun q hq => by rw [List.mem_singleton.mp hq]; exact hz, fun s2 o2 i2 c2 => ?_⟩
          have ds2 := drawn_at o2 i2 c2
          walk_at "u"
          refine ⟨_, rfl, .inl ⟨_, rfl, by simp, by simp, fun x hx => ?_⟩⟩
          simp only [List.mem_cons, List.not_mem_nil, or_false] at hx
          rcases hx with rfl | rfl
          · walk_at "u"
            exact hN2 _ ⟨.an true s s2, _, _, _, _, p + 1, drawn_le (drawn_an hd ds2) (by omega) (by omega), by omega, rfl⟩
          · walk_at "u"
            exact hN2 _ ⟨.an false s2 s, _, _, _, _, p + 1, drawn_le (drawn_an ds2 hd) (by omega) (by omega), by omega, rfl⟩
end
end Q

namespace RF
open PySem L2 PyProof.Rows EX
open PySem.HandSPX
def fI : List DictEntry → Int → Option Value
  | [], _ => none
  | c :: r, i => if Value.isInt i c.key = true then some c.val else fI r i
theorem find_fI : ∀ (l : List DictEntry) (i : Int), (l.find? fun c => Value.isInt i c.key).map (·.val) = fI l i
  | [], _ => rfl
  | c :: r, i => by
    rw [List.find?_cons]
    unfold fI
    cases h : Value.isInt i c.key
    · rw [if_neg (by decide)]
      exact find_fI r i
    · rw [if_pos rfl]; rfl
theorem findBy_fI (es : Array DictEntry) (i : Int) : findBy Value.isInt es i = fI es.toList i := by
  unfold findBy
  rw [← find_fI, ← List.find?_toArray]
theorem Df.mono {P : Program} {w : World} {K : PySem.W.Frag} {mg : Str → Option Value} {base : Heap} {j k : Nat} {x : Str} {ps : List Str} {sp : Sp} (D : Df P w K mg base j x ps sp) (h : j ≤ k) : Df P w K mg base k x ps sp := by
  obtain ⟨f, fd, G, b, m, kp⟩ := D.ex
  exact ⟨f, fd, G.mono h, b, m, kp⟩
theorem txtY : TxtE "InvalidSaying" "number" "InvalidSaying.__init__" (inClass (top 2) 0) where
  body := ⟨_, _, _, _, _, _, _, _, _, _, _, _, _, _, _, rfl, fun fI cda cc => ⟨rfl, rfl, rfl, rfl, rfl, rfl, by decide +kernel, fun _ => rfl, fun _ => rfl, fun _ => ⟨_, rfl⟩, fun _ => rfl, fun _ => rfl⟩, fun _ _ _ _ => rfl⟩
  hd := ⟨_, rfl, rfl⟩
  fs := by decide
  fd := by decide
  loc := rfl
  bind := fun _ _ _ _ _ _ _ _ _ => .of_eq rfl
theorem all_mk {l : PySem.W.OpenLaw} {w : World} {K : PySem.W.Frag} {h : Heap} {mg : Str → Option Value} {fa : Addr} (X : K.In h) (G : h.Ns mainGlobals mg) (hfa : mg "law" = some (.ref fa)) (OT0 : LamX.OwnTab K fa h)
    {f1 : Addr} {od1 an1 : Option Addr} {sl1 : Array (Option Value)} {oc1 kV1 dc1 pm1 cd1 ct1 : Value}
    {f2 : Addr} {od2 an2 : Option Addr} {sl2 : Array (Option Value)} {oc2 kV2 dc2 pm2 cd2 ct2 : Value}
    {f3 : Addr} {od3 an3 : Option Addr} {sl3 : Array (Option Value)} {oc3 kV3 dc3 pm3 cd3 ct3 : Value}
    {f4 : Addr} {od4 an4 : Option Addr} {sl4 : Array (Option Value)} {oc4 kV4 dc4 pm4 cd4 ct4 : Value}
    {f5 : Addr} {od5 an5 : Option Addr} {sl5 : Array (Option Value)} {oc5 kV5 dc5 pm5 cd5 ct5 : Value}
    {f6 : Addr} {od6 an6 : Option Addr} {sl6 : Array (Option Value)} {oc6 kV6 dc6 pm6 cd6 ct6 : Value}
    {f7 : Addr} {od7 an7 : Option Addr} {sl7 : Array (Option Value)} {oc7 kV7 dc7 pm7 cd7 ct7 : Value}
    {f8 : Addr} {od8 an8 : Option Addr} {sl8 : Array (Option Value)} {oc8 kV8 dc8 pm8 cd8 ct8 : Value}
    {f9 : Addr} {od9 an9 : Option Addr} {sl9 : Array (Option Value)} {oc9 kV9 dc9 pm9 cd9 ct9 : Value}
    {f10 : Addr} {od10 an10 : Option Addr} {sl10 : Array (Option Value)} {oc10 kV10 dc10 pm10 cd10 ct10 : Value}
    {f11 : Addr} {od11 an11 : Option Addr} {sl11 : Array (Option Value)} {oc11 kV11 dc11 pm11 cd11 ct11 : Value}
    {f12 : Addr} {od12 an12 : Option Addr} {sl12 : Array (Option Value)} {oc12 kV12 dc12 pm12 cd12 ct12 : Value}
    {f13 : Addr} {od13 an13 : Option Addr} {sl13 : Array (Option Value)} {oc13 kV13 dc13 pm13 cd13 ct13 : Value}
    {f14 : Addr} {od14 an14 : Option Addr} {sl14 : Array (Option Value)} {oc14 kV14 dc14 pm14 cd14 ct14 : Value}
    {f15 : Addr} {od15 an15 : Option Addr} {sl15 : Array (Option Value)} {oc15 kV15 dc15 pm15 cd15 ct15 : Value}
    {f16 : Addr} {od16 an16 : Option Addr} {sl16 : Array (Option Value)} {oc16 kV16 dc16 pm16 cd16 ct16 : Value}
    {f17 : Addr} {od17 an17 : Option Addr} {sl17 : Array (Option Value)} {oc17 kV17 dc17 pm17 cd17 ct17 : Value}
    {f18 : Addr} {od18 an18 : Option Addr} {sl18 : Array (Option Value)} {oc18 kV18 dc18 pm18 cd18 ct18 : Value}
    {f19 : Addr} {od19 an19 : Option Addr} {sl19 : Array (Option Value)} {oc19 kV19 dc19 pm19 cd19 ct19 : Value}
    {f20 : Addr} {od20 an20 : Option Addr} {sl20 : Array (Option Value)} {oc20 kV20 dc20 pm20 cd20 ct20 : Value}
    {f21 : Addr} {od21 an21 : Option Addr} {sl21 : Array (Option Value)} {oc21 kV21 dc21 pm21 cd21 ct21 : Value}
    {f22 : Addr} {od22 an22 : Option Addr} {sl22 : Array (Option Value)} {oc22 kV22 dc22 pm22 cd22 ct22 : Value}
    {f23 : Addr} {od23 an23 : Option Addr} {sl23 : Array (Option Value)} {oc23 kV23 dc23 pm23 cd23 ct23 : Value}
    {f24 : Addr} {od24 an24 : Option Addr} {sl24 : Array (Option Value)} {oc24 kV24 dc24 pm24 cd24 ct24 : Value}
    {f25 : Addr} {od25 an25 : Option Addr} {sl25 : Array (Option Value)} {oc25 kV25 dc25 pm25 cd25 ct25 : Value}
    {f26 : Addr} {od26 an26 : Option Addr} {sl26 : Array (Option Value)} {oc26 kV26 dc26 pm26 cd26 ct26 : Value}
    {f27 : Addr} {od27 an27 : Option Addr} {sl27 : Array (Option Value)} {oc27 kV27 dc27 pm27 cd27 ct27 : Value}
    {f28 : Addr} {od28 an28 : Option Addr} {sl28 : Array (Option Value)} {oc28 kV28 dc28 pm28 cd28 ct28 : Value}
    {f29 : Addr} {od29 an29 : Option Addr} {sl29 : Array (Option Value)} {oc29 kV29 dc29 pm29 cd29 ct29 : Value}
    {f30 : Addr} {od30 an30 : Option Addr} {sl30 : Array (Option Value)} {oc30 kV30 dc30 pm30 cd30 ct30 : Value}
    {f31 : Addr} {od31 an31 : Option Addr} {sl31 : Array (Option Value)} {oc31 kV31 dc31 pm31 cd31 ct31 : Value}
    {f32 : Addr} {od32 an32 : Option Addr} {sl32 : Array (Option Value)} {oc32 kV32 dc32 pm32 cd32 ct32 : Value}
    {f33 : Addr} {od33 an33 : Option Addr} {sl33 : Array (Option Value)} {oc33 kV33 dc33 pm33 cd33 ct33 : Value}
    {f34 : Addr} {od34 an34 : Option Addr} {sl34 : Array (Option Value)} {oc34 kV34 dc34 pm34 cd34 ct34 : Value}
    {f35 : Addr} {od35 an35 : Option Addr} {sl35 : Array (Option Value)} {oc35 kV35 dc35 pm35 cd35 ct35 : Value}
    {f36 : Addr} {od36 an36 : Option Addr} {sl36 : Array (Option Value)} {oc36 kV36 dc36 pm36 cd36 ct36 : Value}
    {f37 : Addr} {od37 an37 : Option Addr} {sl37 : Array (Option Value)} {oc37 kV37 dc37 pm37 cd37 ct37 : Value}
    {f38 : Addr} {od38 an38 : Option Addr} {sl38 : Array (Option Value)} {oc38 kV38 dc38 pm38 cd38 ct38 : Value}
    {f39 : Addr} {od39 an39 : Option Addr} {sl39 : Array (Option Value)} {oc39 kV39 dc39 pm39 cd39 ct39 : Value}
    {ti40 : Tok}
    {ti41 : Tok}
    {ti42 : Tok}
    {ti43 : Tok}
    {nvN : Addr} {oNN : Obj} {nNN : Nat} {wN0 wN1 wN2 wN3 wN4 : Tok}
    {R NR : Addr} {nR qR : Str} {bsR bmR : List Value} {snR : List Str} {subR : List Value} {abR : Bool} {colR : Option Bool} {ddR : Option Addr} {r0 r1 r2 r3 r5 : Option Value}
    {cM cQ : Addr}
    {EY NY fEY cdaY ccY : Addr} {nmY qY : Str} {bsY : List Value} {snY : List Str} {subY : List Value} {abY : Bool} {colY : Option Bool} {ddY : Option Addr} {kY0 kY1 kY2 kY3 kY5 : Option Value} {ocEY docEY pmEY ctEY : Value} {odEY anEY : Option Addr} {slEY : Array (Option Value)} {cclY : Value} {cddY : Option Addr} {vsY : Array Value} {ccsY : Array (Option Value)} {fileY : Str} {tfY : Tok} {clY : Value} {cldY : Option Addr} {cslY : Array (Option Value)}
    {f44 : Addr} {od44 an44 : Option Addr} {sl44 : Array (Option Value)} {oc44 kV44 dc44 pm44 cd44 ct44 : Value}
    {cL P0 : Addr} {dL : Option Addr} {vL : Array Value} {sL : Array (Option Value)} {fileL : Str} {tfL tgL ttL : Tok} {flL txL : Int} {inL : Bool}
    (a1 : PySem.W.nsIn K mainGlobals "is_letter" = some (some (.ref f1)))
    (l1 : K.lookup f1 = some ⟨oc1, od1, .func (PySem.W.fnOf "is_letter" "is_letter" (defArgs (top 13)) (defBody (top 13)) (defScope (top 13)) .none kV1 dc1 pm1 an1 cd1 ct1), sl1⟩)
    (c1 : PySem.W.codeIn K cd1 "is_letter" = true)
    (k1 : PySem.W.keepIn K (.ref f1) = true)
    (a2 : PySem.W.nsIn K mainGlobals "is_whole" = some (some (.ref f2)))
    (l2 : K.lookup f2 = some ⟨oc2, od2, .func (PySem.W.fnOf "is_whole" "is_whole" (defArgs (top 8)) (defBody (top 8)) (defScope (top 8)) .none kV2 dc2 pm2 an2 cd2 ct2), sl2⟩)
    (c2 : PySem.W.codeIn K cd2 "is_whole" = true)
    (k2 : PySem.W.keepIn K (.ref f2) = true)
    (a3 : PySem.W.nsIn K mainGlobals "is_between" = some (some (.ref f3)))
    (l3 : K.lookup f3 = some ⟨oc3, od3, .func (PySem.W.fnOf "is_between" "is_between" (defArgs (top 9)) (defBody (top 9)) (defScope (top 9)) .none kV3 dc3 pm3 an3 cd3 ct3), sl3⟩)
    (c3 : PySem.W.codeIn K cd3 "is_between" = true)
    (k3 : PySem.W.keepIn K (.ref f3) = true)
    (a4 : PySem.W.nsIn K mainGlobals "_is_word" = some (some (.ref f4)))
    (l4 : K.lookup f4 = some ⟨oc4, od4, .func (PySem.W.fnOf "_is_word" "_is_word" (defArgs (top 12)) (defBody (top 12)) (defScope (top 12)) .none kV4 dc4 pm4 an4 cd4 ct4), sl4⟩)
    (c4 : PySem.W.codeIn K cd4 "_is_word" = true)
    (k4 : PySem.W.keepIn K (.ref f4) = true)
    (a5 : PySem.W.nsIn K mainGlobals "is_variable" = some (some (.ref f5)))
    (l5 : K.lookup f5 = some ⟨oc5, od5, .func (PySem.W.fnOf "is_variable" "is_variable" (defArgs (top 10)) (defBody (top 10)) (defScope (top 10)) .none kV5 dc5 pm5 an5 cd5 ct5), sl5⟩)
    (c5 : PySem.W.codeIn K cd5 "is_variable" = true)
    (k5 : PySem.W.keepIn K (.ref f5) = true)
    (a6 : PySem.W.nsIn K mainGlobals "is_name" = some (some (.ref f6)))
    (l6 : K.lookup f6 = some ⟨oc6, od6, .func (PySem.W.fnOf "is_name" "is_name" (defArgs (top 11)) (defBody (top 11)) (defScope (top 11)) .none kV6 dc6 pm6 an6 cd6 ct6), sl6⟩)
    (c6 : PySem.W.codeIn K cd6 "is_name" = true)
    (k6 : PySem.W.keepIn K (.ref f6) = true)
    (a7 : PySem.W.nsIn K mainGlobals "is_slope" = some (some (.ref f7)))
    (l7 : K.lookup f7 = some ⟨oc7, od7, .func (PySem.W.fnOf "is_slope" "is_slope" (defArgs (top 15)) (defBody (top 15)) (defScope (top 15)) .none kV7 dc7 pm7 an7 cd7 ct7), sl7⟩)
    (c7 : PySem.W.codeIn K cd7 "is_slope" = true)
    (k7 : PySem.W.keepIn K (.ref f7) = true)
    (a8 : PySem.W.nsIn K mainGlobals "_is_floor" = some (some (.ref f8)))
    (l8 : K.lookup f8 = some ⟨oc8, od8, .func (PySem.W.fnOf "_is_floor" "_is_floor" (defArgs (top 24)) (defBody (top 24)) (defScope (top 24)) .none kV8 dc8 pm8 an8 cd8 ct8), sl8⟩)
    (c8 : PySem.W.codeIn K cd8 "_is_floor" = true)
    (k8 : PySem.W.keepIn K (.ref f8) = true)
    (a9 : PySem.W.nsIn K mainGlobals "_is_item" = some (some (.ref f9)))
    (l9 : K.lookup f9 = some ⟨oc9, od9, .func (PySem.W.fnOf "_is_item" "_is_item" (defArgs (top 23)) (defBody (top 23)) (defScope (top 23)) .none kV9 dc9 pm9 an9 cd9 ct9), sl9⟩)
    (c9 : PySem.W.codeIn K cd9 "_is_item" = true)
    (k9 : PySem.W.keepIn K (.ref f9) = true)
    (a10 : PySem.W.nsIn K mainGlobals "_is_term_with" = some (some (.ref f10)))
    (l10 : K.lookup f10 = some ⟨oc10, od10, .func (PySem.W.fnOf "_is_term_with" "_is_term_with" (defArgs (top 22)) (defBody (top 22)) (defScope (top 22)) .none kV10 dc10 pm10 an10 cd10 ct10), sl10⟩)
    (c10 : PySem.W.codeIn K cd10 "_is_term_with" = true)
    (k10 : PySem.W.keepIn K (.ref f10) = true)
    (a11 : PySem.W.nsIn K mainGlobals "is_term" = some (some (.ref f11)))
    (l11 : K.lookup f11 = some ⟨oc11, od11, .func (PySem.W.fnOf "is_term" "is_term" (defArgs (top 21)) (defBody (top 21)) (defScope (top 21)) .none kV11 dc11 pm11 an11 cd11 ct11), sl11⟩)
    (c11 : PySem.W.codeIn K cd11 "is_term" = true)
    (k11 : PySem.W.keepIn K (.ref f11) = true)
    (a12 : PySem.W.nsIn K mainGlobals "_are_variables" = some (some (.ref f12)))
    (l12 : K.lookup f12 = some ⟨oc12, od12, .func (PySem.W.fnOf "_are_variables" "_are_variables" (defArgs (top 31)) (defBody (top 31)) (defScope (top 31)) .none kV12 dc12 pm12 an12 cd12 ct12), sl12⟩)
    (c12 : PySem.W.codeIn K cd12 "_are_variables" = true)
    (k12 : PySem.W.keepIn K (.ref f12) = true)
    (a13 : PySem.W.nsIn K mainGlobals "_compares" = some (some (.ref f13)))
    (l13 : K.lookup f13 = some ⟨oc13, od13, .func (PySem.W.fnOf "_compares" "_compares" (defArgs (top 32)) (defBody (top 32)) (defScope (top 32)) .none kV13 dc13 pm13 an13 cd13 ct13), sl13⟩)
    (c13 : PySem.W.codeIn K cd13 "_compares" = true)
    (k13 : PySem.W.keepIn K (.ref f13) = true)
    (a14 : PySem.W.nsIn K mainGlobals "_has_form" = some (some (.ref f14)))
    (l14 : K.lookup f14 = some ⟨oc14, od14, .func (PySem.W.fnOf "_has_form" "_has_form" (defArgs (top 30)) (defBody (top 30)) (defScope (top 30)) .none kV14 dc14 pm14 an14 cd14 ct14), sl14⟩)
    (c14 : PySem.W.codeIn K cd14 "_has_form" = true)
    (k14 : PySem.W.keepIn K (.ref f14) = true)
    (a15 : PySem.W.nsIn K mainGlobals "_inner" = some (some (.ref f15)))
    (l15 : K.lookup f15 = some ⟨oc15, od15, .func (PySem.W.fnOf "_inner" "_inner" (defArgs (top 33)) (defBody (top 33)) (defScope (top 33)) .none kV15 dc15 pm15 an15 cd15 ct15), sl15⟩)
    (c15 : PySem.W.codeIn K cd15 "_inner" = true)
    (k15 : PySem.W.keepIn K (.ref f15) = true)
    (a16 : PySem.W.nsIn K mainGlobals "_first_misformed" = some (some (.ref f16)))
    (l16 : K.lookup f16 = some ⟨oc16, od16, .func (PySem.W.fnOf "_first_misformed" "_first_misformed" (defArgs (top 28)) (defBody (top 28)) (defScope (top 28)) .none kV16 dc16 pm16 an16 cd16 ct16), sl16⟩)
    (c16 : PySem.W.codeIn K cd16 "_first_misformed" = true)
    (k16 : PySem.W.keepIn K (.ref f16) = true)
    (a17 : PySem.W.nsIn K mainGlobals "terms_of" = some (some (.ref f17)))
    (l17 : K.lookup f17 = some ⟨oc17, od17, .func (PySem.W.fnOf "terms_of" "terms_of" (defArgs (top 35)) (defBody (top 35)) (defScope (top 35)) .none kV17 dc17 pm17 an17 cd17 ct17), sl17⟩)
    (c17 : PySem.W.codeIn K cd17 "terms_of" = true)
    (k17 : PySem.W.keepIn K (.ref f17) = true)
    (a18 : PySem.W.nsIn K mainGlobals "term_variables" = some (some (.ref f18)))
    (l18 : K.lookup f18 = some ⟨oc18, od18, .func (PySem.W.fnOf "term_variables" "term_variables" (defArgs (top 36)) (defBody (top 36)) (defScope (top 36)) .none kV18 dc18 pm18 an18 cd18 ct18), sl18⟩)
    (c18 : PySem.W.codeIn K cd18 "term_variables" = true)
    (k18 : PySem.W.keepIn K (.ref f18) = true)
    (a19 : PySem.W.nsIn K mainGlobals "free_variables" = some (some (.ref f19)))
    (l19 : K.lookup f19 = some ⟨oc19, od19, .func (PySem.W.fnOf "free_variables" "free_variables" (defArgs (top 34)) (defBody (top 34)) (defScope (top 34)) .none kV19 dc19 pm19 an19 cd19 ct19), sl19⟩)
    (c19 : PySem.W.codeIn K cd19 "free_variables" = true)
    (k19 : PySem.W.keepIn K (.ref f19) = true)
    (a20 : PySem.W.nsIn K mainGlobals "_first_misbound" = some (some (.ref f20)))
    (l20 : K.lookup f20 = some ⟨oc20, od20, .func (PySem.W.fnOf "_first_misbound" "_first_misbound" (defArgs (top 29)) (defBody (top 29)) (defScope (top 29)) .none kV20 dc20 pm20 an20 cd20 ct20), sl20⟩)
    (c20 : PySem.W.codeIn K cd20 "_first_misbound" = true)
    (k20 : PySem.W.keepIn K (.ref f20) = true)
    (a21 : PySem.W.nsIn K mainGlobals "_first_wrong" = some (some (.ref f21)))
    (l21 : K.lookup f21 = some ⟨oc21, od21, .func (PySem.W.fnOf "_first_wrong" "_first_wrong" (defArgs (top 27)) (defBody (top 27)) (defScope (top 27)) .none kV21 dc21 pm21 an21 cd21 ct21), sl21⟩)
    (c21 : PySem.W.codeIn K cd21 "_first_wrong" = true)
    (k21 : PySem.W.keepIn K (.ref f21) = true)
    (a22 : PySem.W.nsIn K mainGlobals "is_saying" = some (some (.ref f22)))
    (l22 : K.lookup f22 = some ⟨oc22, od22, .func (PySem.W.fnOf "is_saying" "is_saying" (defArgs (top 25)) (defBody (top 25)) (defScope (top 25)) .none kV22 dc22 pm22 an22 cd22 ct22), sl22⟩)
    (c22 : PySem.W.codeIn K cd22 "is_saying" = true)
    (k22 : PySem.W.keepIn K (.ref f22) = true)
    (a23 : PySem.W.nsIn K mainGlobals "check_saying" = some (some (.ref f23)))
    (l23 : K.lookup f23 = some ⟨oc23, od23, .func (PySem.W.fnOf "check_saying" "check_saying" (defArgs (top 26)) (defBody (top 26)) (defScope (top 26)) .none kV23 dc23 pm23 an23 cd23 ct23), sl23⟩)
    (c23 : PySem.W.codeIn K cd23 "check_saying" = true)
    (k23 : PySem.W.keepIn K (.ref f23) = true)
    (a24 : PySem.W.nsIn K mainGlobals "_law_bag" = some (some (.ref f24)))
    (l24 : K.lookup f24 = some ⟨oc24, od24, .func (PySem.W.fnOf "_law_bag" "_law_bag" (defArgs (top 38)) (defBody (top 38)) (defScope (top 38)) .none kV24 dc24 pm24 an24 cd24 ct24), sl24⟩)
    (c24 : PySem.W.codeIn K cd24 "_law_bag" = true)
    (k24 : PySem.W.keepIn K (.ref f24) = true)
    (a25 : PySem.W.nsIn K mainGlobals "_law_pull" = some (some (.ref f25)))
    (l25 : K.lookup f25 = some ⟨oc25, od25, .func (PySem.W.fnOf "_law_pull" "_law_pull" (defArgs (top 39)) (defBody (top 39)) (defScope (top 39)) .none kV25 dc25 pm25 an25 cd25 ct25), sl25⟩)
    (c25 : PySem.W.codeIn K cd25 "_law_pull" = true)
    (k25 : PySem.W.keepIn K (.ref f25) = true)
    (a26 : PySem.W.nsIn K mainGlobals "_law_of" = some (some (.ref f26)))
    (l26 : K.lookup f26 = some ⟨oc26, od26, .func (PySem.W.fnOf "_law_of" "_law_of" (defArgs (top 40)) (defBody (top 40)) (defScope (top 40)) .none kV26 dc26 pm26 an26 cd26 ct26), sl26⟩)
    (c26 : PySem.W.codeIn K cd26 "_law_of" = true)
    (k26 : PySem.W.keepIn K (.ref f26) = true)
    (a27 : PySem.W.nsIn K mainGlobals "_law_same" = some (some (.ref f27)))
    (l27 : K.lookup f27 = some ⟨oc27, od27, .func (PySem.W.fnOf "_law_same" "_law_same" (defArgs (top 41)) (defBody (top 41)) (defScope (top 41)) .none kV27 dc27 pm27 an27 cd27 ct27), sl27⟩)
    (c27 : PySem.W.codeIn K cd27 "_law_same" = true)
    (k27 : PySem.W.keepIn K (.ref f27) = true)
    (a28 : PySem.W.nsIn K mainGlobals "_law_names" = some (some (.ref f28)))
    (l28 : K.lookup f28 = some ⟨oc28, od28, .func (PySem.W.fnOf "_law_names" "_law_names" (defArgs (top 45)) (defBody (top 45)) (defScope (top 45)) .none kV28 dc28 pm28 an28 cd28 ct28), sl28⟩)
    (c28 : PySem.W.codeIn K cd28 "_law_names" = true)
    (k28 : PySem.W.keepIn K (.ref f28) = true)
    (a29 : PySem.W.nsIn K mainGlobals "_law_lone" = some (some (.ref f29)))
    (l29 : K.lookup f29 = some ⟨oc29, od29, .func (PySem.W.fnOf "_law_lone" "_law_lone" (defArgs (top 46)) (defBody (top 46)) (defScope (top 46)) .none kV29 dc29 pm29 an29 cd29 ct29), sl29⟩)
    (c29 : PySem.W.codeIn K cd29 "_law_lone" = true)
    (k29 : PySem.W.keepIn K (.ref f29) = true)
    (a30 : PySem.W.nsIn K mainGlobals "_law_light_term" = some (some (.ref f30)))
    (l30 : K.lookup f30 = some ⟨oc30, od30, .func (PySem.W.fnOf "_law_light_term" "_law_light_term" (defArgs (top 47)) (defBody (top 47)) (defScope (top 47)) .none kV30 dc30 pm30 an30 cd30 ct30), sl30⟩)
    (c30 : PySem.W.codeIn K cd30 "_law_light_term" = true)
    (k30 : PySem.W.keepIn K (.ref f30) = true)
    (a31 : PySem.W.nsIn K mainGlobals "_law_light_atom" = some (some (.ref f31)))
    (l31 : K.lookup f31 = some ⟨oc31, od31, .func (PySem.W.fnOf "_law_light_atom" "_law_light_atom" (defArgs (top 48)) (defBody (top 48)) (defScope (top 48)) .none kV31 dc31 pm31 an31 cd31 ct31), sl31⟩)
    (c31 : PySem.W.codeIn K cd31 "_law_light_atom" = true)
    (k31 : PySem.W.keepIn K (.ref f31) = true)
    (a32 : PySem.W.nsIn K mainGlobals "_law_inner" = some (some (.ref f32)))
    (l32 : K.lookup f32 = some ⟨oc32, od32, .func (PySem.W.fnOf "_law_inner" "_law_inner" (defArgs (top 49)) (defBody (top 49)) (defScope (top 49)) .none kV32 dc32 pm32 an32 cd32 ct32), sl32⟩)
    (c32 : PySem.W.codeIn K cd32 "_law_inner" = true)
    (k32 : PySem.W.keepIn K (.ref f32) = true)
    (a33 : PySem.W.nsIn K mainGlobals "_law_term_names" = some (some (.ref f33)))
    (l33 : K.lookup f33 = some ⟨oc33, od33, .func (PySem.W.fnOf "_law_term_names" "_law_term_names" (defArgs (top 50)) (defBody (top 50)) (defScope (top 50)) .none kV33 dc33 pm33 an33 cd33 ct33), sl33⟩)
    (c33 : PySem.W.codeIn K cd33 "_law_term_names" = true)
    (k33 : PySem.W.keepIn K (.ref f33) = true)
    (a34 : PySem.W.nsIn K mainGlobals "_law_part_names" = some (some (.ref f34)))
    (l34 : K.lookup f34 = some ⟨oc34, od34, .func (PySem.W.fnOf "_law_part_names" "_law_part_names" (defArgs (top 51)) (defBody (top 51)) (defScope (top 51)) .none kV34 dc34 pm34 an34 cd34 ct34), sl34⟩)
    (c34 : PySem.W.codeIn K cd34 "_law_part_names" = true)
    (k34 : PySem.W.keepIn K (.ref f34) = true)
    (a35 : PySem.W.nsIn K mainGlobals "_law_free" = some (some (.ref f35)))
    (l35 : K.lookup f35 = some ⟨oc35, od35, .func (PySem.W.fnOf "_law_free" "_law_free" (defArgs (top 52)) (defBody (top 52)) (defScope (top 52)) .none kV35 dc35 pm35 an35 cd35 ct35), sl35⟩)
    (c35 : PySem.W.codeIn K cd35 "_law_free" = true)
    (k35 : PySem.W.keepIn K (.ref f35) = true)
    (a36 : PySem.W.nsIn K mainGlobals "_law_scope_due" = some (some (.ref f36)))
    (l36 : K.lookup f36 = some ⟨oc36, od36, .func (PySem.W.fnOf "_law_scope_due" "_law_scope_due" (defArgs (top 53)) (defBody (top 53)) (defScope (top 53)) .none kV36 dc36 pm36 an36 cd36 ct36), sl36⟩)
    (c36 : PySem.W.codeIn K cd36 "_law_scope_due" = true)
    (k36 : PySem.W.keepIn K (.ref f36) = true)
    (a37 : PySem.W.nsIn K mainGlobals "_law_field" = some (some (.ref f37)))
    (l37 : K.lookup f37 = some ⟨oc37, od37, .func (PySem.W.fnOf "_law_field" "_law_field" (defArgs (top 42)) (defBody (top 42)) (defScope (top 42)) .none kV37 dc37 pm37 an37 cd37 ct37), sl37⟩)
    (c37 : PySem.W.codeIn K cd37 "_law_field" = true)
    (k37 : PySem.W.keepIn K (.ref f37) = true)
    (a38 : PySem.W.nsIn K mainGlobals "_law_place" = some (some (.ref f38)))
    (l38 : K.lookup f38 = some ⟨oc38, od38, .func (PySem.W.fnOf "_law_place" "_law_place" (defArgs (top 43)) (defBody (top 43)) (defScope (top 43)) .none kV38 dc38 pm38 an38 cd38 ct38), sl38⟩)
    (c38 : PySem.W.codeIn K cd38 "_law_place" = true)
    (k38 : PySem.W.keepIn K (.ref f38) = true)
    (a39 : PySem.W.nsIn K mainGlobals "_law_why" = some (some (.ref f39)))
    (l39 : K.lookup f39 = some ⟨oc39, od39, .func (PySem.W.fnOf "_law_why" "_law_why" (defArgs (top 44)) (defBody (top 44)) (defScope (top 44)) .none kV39 dc39 pm39 an39 cd39 ct39), sl39⟩)
    (c39 : PySem.W.codeIn K cd39 "_law_why" = true)
    (k39 : PySem.W.keepIn K (.ref f39) = true)
    (z_abs : PySem.W.nsIn K mainGlobals "abs" = some none)
    (z_divmod : PySem.W.nsIn K mainGlobals "divmod" = some none)
    (z_str : PySem.W.nsIn K mainGlobals "str" = some none)
    (z_int : PySem.W.nsIn K mainGlobals "int" = some none)
    (z_len : PySem.W.nsIn K mainGlobals "len" = some none)
    (z_list : PySem.W.nsIn K mainGlobals "list" = some none)
    (z_tuple : PySem.W.nsIn K mainGlobals "tuple" = some none)
    (z_bool : PySem.W.nsIn K mainGlobals "bool" = some none)
    (z_isinstance : PySem.W.nsIn K mainGlobals "isinstance" = some none)
    (z_range : PySem.W.nsIn K mainGlobals "range" = some none)
    (z_enumerate : PySem.W.nsIn K mainGlobals "enumerate" = some none)
    (z_zip : PySem.W.nsIn K mainGlobals "zip" = some none)
    (z_reversed : PySem.W.nsIn K mainGlobals "reversed" = some none)
    (z_sorted : PySem.W.nsIn K mainGlobals "sorted" = some none)
    (z_sum : PySem.W.nsIn K mainGlobals "sum" = some none)
    (z_all : PySem.W.nsIn K mainGlobals "all" = some none)
    (z_any : PySem.W.nsIn K mainGlobals "any" = some none)
    (z_max : PySem.W.nsIn K mainGlobals "max" = some none)
    (z_min : PySem.W.nsIn K mainGlobals "min" = some none)
    (z_set : PySem.W.nsIn K mainGlobals "set" = some none)
    (z_dict : PySem.W.nsIn K mainGlobals "dict" = some none)
    (z_super : PySem.W.nsIn K mainGlobals "super" = some none)
    (ci40 : PySem.W.nsIn K mainGlobals "MOST_ITEMS" = some (some (.int 4 ti40)))
    (ci41 : PySem.W.nsIn K mainGlobals "MOST_FLOORS" = some (some (.int 3 ti41)))
    (ci42 : PySem.W.nsIn K mainGlobals "MOST_PARTS" = some (some (.int 20 ti42)))
    (ci43 : PySem.W.nsIn K mainGlobals "MOST_AROUND" = some (some (.int 3 ti43)))
    (aNN : PySem.W.nsIn K mainGlobals "NO_VARIABLES" = some (some (.ref nvN)))
    (lNN : K.lookup nvN = some oNN)
    (cNN : oNN.cls = .type "tuple")
    (dNN : oNN.data = .seq #[.str "all" wN0, .str "and" wN1, .str "not" wN2, .str "or" wN3, .str "r" wN4] nNN)
    (aR : PySem.W.nsIn K mainGlobals "RootError" = some (some (.ref R)))
    (lR : K.lookup R = some (excClassObj nR qR R NR bsR bmR true snR subR abR colR ddR r0 r1 r2 r3 r5 "ValueError.__new__"))
    (vR : refsVE bmR = true)
    (fR : PySem.W.findIn K (.ref R) "__init__" = some (some (.builtin "ValueError.__init__")))
    (oq : PySem.W.nsIn K cStatics "thirdparty.any" = some none)
    (tp : (l.prog.main.scope.names.lookup ("super" : Str)).isSome = false)
    (aC2 : PySem.W.nsIn K mainGlobals "Missing" = some (some (.ref cM)))
    (aC3 : PySem.W.nsIn K mainGlobals "NothingLeft" = some (some (.ref cQ)))
    (xb1 : PySem.W.subIn K (.ref R) (.type "BaseException") = some true)
    (xi1 : PySem.W.isClsIn K R = true)
    (xt1 : PySem.W.typeIn K (.ref R) = some (.type "type"))
    (xb2 : PySem.W.subIn K (.ref cM) (.type "BaseException") = some true)
    (xi2 : PySem.W.isClsIn K cM = true)
    (xt2 : PySem.W.typeIn K (.ref cM) = some (.type "type"))
    (xb3 : PySem.W.subIn K (.ref cQ) (.type "BaseException") = some true)
    (xi3 : PySem.W.isClsIn K cQ = true)
    (xt3 : PySem.W.typeIn K (.ref cQ) = some (.type "type"))
    (aEY : PySem.W.nsIn K mainGlobals "InvalidSaying" = some (some (.ref EY)))
    (lEY : K.lookup EY = some (excClassObj nmY qY EY NY bsY (.ref R :: bmR) true snY subY abY colY ddY kY0 kY1 kY2 kY3 kY5 "ValueError.__new__"))
    (saEY : PySem.W.findIn K (.ref EY) "__setattr__" = some (some (.builtin "object.__setattr__")))
    (gaEY : PySem.W.findIn K (.ref EY) "__getattribute__" = some (some (.builtin "BaseException.__getattribute__")))
    (ggEY : PySem.W.findIn K (.ref EY) "__getattr__" = some none)
    (ntEY : PySem.W.findIn K (.ref EY) "tag" = some none)
    (ngEY : PySem.W.findIn K (.ref EY) "number" = some none)
    (iEY : PySem.W.findIn K (.ref EY) "__init__" = some (some (.ref fEY)))
    (tEY : PySem.W.typeIn K (.ref fEY) = some (.type "function"))
    (kEY : PySem.W.keepIn K (.ref EY) = true)
    (xEY : PySem.W.subIn K (.ref EY) (.type "BaseException") = some true)
    (yEY : PySem.W.typeIn K (.ref EY) = some (.type "type"))
    (hEY : PySem.W.hasDictIn K EY = true)
    (mEY : PySem.W.mroIn K EY (.ref EY) = some true)
    (jEY : K.lookup fEY = some ⟨ocEY, odEY, .func (PySem.W.ksFn "__init__" "InvalidSaying.__init__" (defArgs (inClass (top 2) 0)) (defBody (inClass (top 2) 0)) (defScope (inClass (top 2) 0)) .none .none docEY pmEY anEY (.ref cdaY) ctEY ccY), slEY⟩)
    (cEY : PySem.W.codeIn K (.ref cdaY) "InvalidSaying.__init__" = true)
    (dEY : K.lookup cdaY = some ⟨cclY, cddY, .fields vsY, ccsY⟩)
    (vvEY : vsY[2]? = some (.str fileY tfY))
    (pEY : ((l.prog.main.file : Str) == fileY) = true)
    (uEY : K.lookup ccY = some ⟨clY, cldY, .cell (some (.ref EY)), cslY⟩)
    (s1EY : PySem.W.subIn K (.ref EY) (.ref R) = some true)
    (s2EY : PySem.W.subIn K (.ref EY) (.ref cM) = some false)
    (s3EY : PySem.W.subIn K (.ref EY) (.ref cQ) = some false)
    (a44 : PySem.W.nsIn K mainGlobals "law" = some (some (.ref f44)))
    (l44 : K.lookup f44 = some ⟨oc44, od44, .func (PySem.W.fnOf "law" "law" (defArgs (top 54)) (defBody (top 54)) (defScope (top 54)) .none kV44 dc44 pm44 an44 cd44 ct44), sl44⟩)
    (c44 : PySem.W.codeIn K cd44 "law" = true)
    (k44 : PySem.W.keepIn K (.ref f44) = true)
    (eqL : cd44 = .ref cL)
    (lL : K.lookup cL = some ⟨.type "code", dL, .fields vL, sL⟩)
    (eL1 : vL[11]? = some (.ref P0))
    (eL2 : vL.getD 11 .none = .ref P0)
    (eL3 : vL.getD 18 .none = .str fileL tfL)
    (eL4 : vL.getD 7 .none = .int flL tgL)
    (eL5 : vL.getD 9 .none = .bool inL)
    (eL6 : vL.getD 10 .none = .int txL ttL)
    (eL7 : (cL == P0) = false)
    (eL8 : (K.lookup P0).isNone = true) :
    LamX.LawAtS l w K CX0 29 63 "_law_script" mg fa h := by
  have e := hfa.symm.trans (PySem.W.mg_of X G a44)
  cases e
  have F_is_letter := fun_mk (st := top 13) l1 c1 k1
  have b_is_letter := F_is_letter.binds (ps := ["sign"]) fun _ _ _ _ _ _ us hl => match us, hl with | [_], _ => rfl
  have m_is_letter := PySem.W.mg_of X G a1
  have F_is_whole := fun_mk (st := top 8) l2 c2 k2
  have b_is_whole := F_is_whole.binds (ps := ["value"]) fun _ _ _ _ _ _ us hl => match us, hl with | [_], _ => rfl
  have m_is_whole := PySem.W.mg_of X G a2
  have F_is_between := fun_mk (st := top 9) l3 c3 k3
  have b_is_between := F_is_between.binds (ps := ["value", "low", "high"]) fun _ _ _ _ _ _ us hl => match us, hl with | [_, _, _], _ => rfl
  have m_is_between := PySem.W.mg_of X G a3
  have F_is_word := fun_mk (st := top 12) l4 c4 k4
  have b_is_word := F_is_word.binds (ps := ["value", "low", "high"]) fun _ _ _ _ _ _ us hl => match us, hl with | [_, _, _], _ => rfl
  have m_is_word := PySem.W.mg_of X G a4
  have F_is_variable := fun_mk (st := top 10) l5 c5 k5
  have b_is_variable := F_is_variable.binds (ps := ["value"]) fun _ _ _ _ _ _ us hl => match us, hl with | [_], _ => rfl
  have m_is_variable := PySem.W.mg_of X G a5
  have F_is_name := fun_mk (st := top 11) l6 c6 k6
  have b_is_name := F_is_name.binds (ps := ["value"]) fun _ _ _ _ _ _ us hl => match us, hl with | [_], _ => rfl
  have m_is_name := PySem.W.mg_of X G a6
  have F_is_slope := fun_mk (st := top 15) l7 c7 k7
  have b_is_slope := F_is_slope.binds (ps := ["value"]) fun _ _ _ _ _ _ us hl => match us, hl with | [_], _ => rfl
  have m_is_slope := PySem.W.mg_of X G a7
  have F_is_floor := fun_mk (st := top 24) l8 c8 k8
  have b_is_floor := F_is_floor.binds (ps := ["value", "floors"]) fun _ _ _ _ _ _ us hl => match us, hl with | [_, _], _ => rfl
  have m_is_floor := PySem.W.mg_of X G a8
  have F_is_item := fun_mk (st := top 23) l9 c9 k9
  have b_is_item := F_is_item.binds (ps := ["value", "floors"]) fun _ _ _ _ _ _ us hl => match us, hl with | [_, _], _ => rfl
  have m_is_item := PySem.W.mg_of X G a9
  have F_is_term_with := fun_mk (st := top 22) l10 c10 k10
  have b_is_term_with := F_is_term_with.binds (ps := ["value", "floors"]) fun _ _ _ _ _ _ us hl => match us, hl with | [_, _], _ => rfl
  have m_is_term_with := PySem.W.mg_of X G a10
  have F_is_term := fun_mk (st := top 21) l11 c11 k11
  have b_is_term := F_is_term.binds (ps := ["value"]) fun _ _ _ _ _ _ us hl => match us, hl with | [_], _ => rfl
  have m_is_term := PySem.W.mg_of X G a11
  have F_are_variables := fun_mk (st := top 31) l12 c12 k12
  have b_are_variables := F_are_variables.binds (ps := ["value"]) fun _ _ _ _ _ _ us hl => match us, hl with | [_], _ => rfl
  have m_are_variables := PySem.W.mg_of X G a12
  have F_compares := fun_mk (st := top 32) l13 c13 k13
  have b_compares := F_compares.binds (ps := ["word", "rest"]) fun _ _ _ _ _ _ us hl => match us, hl with | [_, _], _ => rfl
  have m_compares := PySem.W.mg_of X G a13
  have F_has_form := fun_mk (st := top 30) l14 c14 k14
  have b_has_form := F_has_form.binds (ps := ["value"]) fun _ _ _ _ _ _ us hl => match us, hl with | [_], _ => rfl
  have m_has_form := PySem.W.mg_of X G a14
  have F_inner := fun_mk (st := top 33) l15 c15 k15
  have b_inner := F_inner.binds (ps := ["part"]) fun _ _ _ _ _ _ us hl => match us, hl with | [_], _ => rfl
  have m_inner := PySem.W.mg_of X G a15
  have F_first_misformed := fun_mk (st := top 28) l16 c16 k16
  have b_first_misformed := F_first_misformed.binds (ps := ["value"]) fun _ _ _ _ _ _ us hl => match us, hl with | [_], _ => rfl
  have m_first_misformed := PySem.W.mg_of X G a16
  have F_terms_of := fun_mk (st := top 35) l17 c17 k17
  have b_terms_of := F_terms_of.binds (ps := ["part"]) fun _ _ _ _ _ _ us hl => match us, hl with | [_], _ => rfl
  have m_terms_of := PySem.W.mg_of X G a17
  have F_term_variables := fun_mk (st := top 36) l18 c18 k18
  have b_term_variables := F_term_variables.binds (ps := ["term"]) fun _ _ _ _ _ _ us hl => match us, hl with | [_], _ => rfl
  have m_term_variables := PySem.W.mg_of X G a18
  have F_free_variables := fun_mk (st := top 34) l19 c19 k19
  have b_free_variables := F_free_variables.binds (ps := ["saying"]) fun _ _ _ _ _ _ us hl => match us, hl with | [_], _ => rfl
  have m_free_variables := PySem.W.mg_of X G a19
  have F_first_misbound := fun_mk (st := top 29) l20 c20 k20
  have b_first_misbound := F_first_misbound.binds (ps := ["saying"]) fun _ _ _ _ _ _ us hl => match us, hl with | [_], _ => rfl
  have m_first_misbound := PySem.W.mg_of X G a20
  have F_first_wrong := fun_mk (st := top 27) l21 c21 k21
  have b_first_wrong := F_first_wrong.binds (ps := ["value"]) fun _ _ _ _ _ _ us hl => match us, hl with | [_], _ => rfl
  have m_first_wrong := PySem.W.mg_of X G a21
  have F_is_saying := fun_mk (st := top 25) l22 c22 k22
  have b_is_saying := F_is_saying.binds (ps := ["value"]) fun _ _ _ _ _ _ us hl => match us, hl with | [_], _ => rfl
  have m_is_saying := PySem.W.mg_of X G a22
  have F_check_saying := fun_mk (st := top 26) l23 c23 k23
  have b_check_saying := F_check_saying.binds (ps := ["value"]) fun _ _ _ _ _ _ us hl => match us, hl with | [_], _ => rfl
  have m_check_saying := PySem.W.mg_of X G a23
  have F_law_bag := fun_mk (st := top 38) l24 c24 k24
  have b_law_bag := F_law_bag.binds (ps := ["_law_script"]) fun _ _ _ _ _ _ us hl => match us, hl with | [_], _ => rfl
  have m_law_bag := PySem.W.mg_of X G a24
  have F_law_pull := fun_mk (st := top 39) l25 c25 k25
  have b_law_pull := F_law_pull.binds (ps := ["_law_bag_here", "_law_sides"]) fun _ _ _ _ _ _ us hl => match us, hl with | [_, _], _ => rfl
  have m_law_pull := PySem.W.mg_of X G a25
  have F_law_of := fun_mk (st := top 40) l26 c26 k26
  have b_law_of := F_law_of.binds (ps := ["_law_bag_here", "_law_some"]) fun _ _ _ _ _ _ us hl => match us, hl with | [_, _], _ => rfl
  have m_law_of := PySem.W.mg_of X G a26
  have F_law_same := fun_mk (st := top 41) l27 c27 k27
  have b_law_same := F_law_same.binds (ps := ["_law_found", "_law_due"]) fun _ _ _ _ _ _ us hl => match us, hl with | [_, _], _ => rfl
  have m_law_same := PySem.W.mg_of X G a27
  have F_law_names := fun_mk (st := top 45) l28 c28 k28
  have b_law_names := F_law_names.binds (ps := ["_law_bag_here", "_law_many"]) fun _ _ _ _ _ _ us hl => match us, hl with | [_, _], _ => rfl
  have m_law_names := PySem.W.mg_of X G a28
  have F_law_lone := fun_mk (st := top 46) l29 c29 k29
  have b_law_lone := F_law_lone.binds (ps := ["_law_name"]) fun _ _ _ _ _ _ us hl => match us, hl with | [_], _ => rfl
  have m_law_lone := PySem.W.mg_of X G a29
  have F_law_light_term := fun_mk (st := top 47) l30 c30 k30
  have b_law_light_term := F_law_light_term.binds (ps := ["_law_bag_here", "_law_names_here", "_law_most"]) fun _ _ _ _ _ _ us hl => match us, hl with | [_, _, _], _ => rfl
  have m_law_light_term := PySem.W.mg_of X G a30
  have F_law_light_atom := fun_mk (st := top 48) l31 c31 k31
  have b_law_light_atom := F_law_light_atom.binds (ps := ["_law_bag_here", "_law_names_here"]) fun _ _ _ _ _ _ us hl => match us, hl with | [_, _], _ => rfl
  have m_law_light_atom := PySem.W.mg_of X G a31
  have F_law_inner := fun_mk (st := top 49) l32 c32 k32
  have b_law_inner := F_law_inner.binds (ps := ["_law_part"]) fun _ _ _ _ _ _ us hl => match us, hl with | [_], _ => rfl
  have m_law_inner := PySem.W.mg_of X G a32
  have F_law_term_names := fun_mk (st := top 50) l33 c33 k33
  have b_law_term_names := F_law_term_names.binds (ps := ["_law_term"]) fun _ _ _ _ _ _ us hl => match us, hl with | [_], _ => rfl
  have m_law_term_names := PySem.W.mg_of X G a33
  have F_law_part_names := fun_mk (st := top 51) l34 c34 k34
  have b_law_part_names := F_law_part_names.binds (ps := ["_law_part"]) fun _ _ _ _ _ _ us hl => match us, hl with | [_], _ => rfl
  have m_law_part_names := PySem.W.mg_of X G a34
  have F_law_free := fun_mk (st := top 52) l35 c35 k35
  have b_law_free := F_law_free.binds (ps := ["_law_saying"]) fun _ _ _ _ _ _ us hl => match us, hl with | [_], _ => rfl
  have m_law_free := PySem.W.mg_of X G a35
  have F_law_scope_due := fun_mk (st := top 53) l36 c36 k36
  have b_law_scope_due := F_law_scope_due.binds (ps := ["_law_saying"]) fun _ _ _ _ _ _ us hl => match us, hl with | [_], _ => rfl
  have m_law_scope_due := PySem.W.mg_of X G a36
  have F_law_field := fun_mk (st := top 42) l37 c37 k37
  have b_law_field := F_law_field.binds (ps := ["_law_one"]) fun _ _ _ _ _ _ us hl => match us, hl with | [_], _ => rfl
  have m_law_field := PySem.W.mg_of X G a37
  have F_law_place := fun_mk (st := top 43) l38 c38 k38
  have b_law_place := F_law_place.binds (ps := ["_law_one"]) fun _ _ _ _ _ _ us hl => match us, hl with | [_], _ => rfl
  have m_law_place := PySem.W.mg_of X G a38
  have F_law_why := fun_mk (st := top 44) l39 c39 k39
  have b_law_why := F_law_why.binds (ps := ["_law_ask"]) fun _ _ _ _ _ _ us hl => match us, hl with | [_], _ => rfl
  have m_law_why := PySem.W.mg_of X G a39
  have n_abs := PySem.W.mg_none_of X G z_abs
  have n_divmod := PySem.W.mg_none_of X G z_divmod
  have n_str := PySem.W.mg_none_of X G z_str
  have n_int := PySem.W.mg_none_of X G z_int
  have n_len := PySem.W.mg_none_of X G z_len
  have n_list := PySem.W.mg_none_of X G z_list
  have n_tuple := PySem.W.mg_none_of X G z_tuple
  have n_bool := PySem.W.mg_none_of X G z_bool
  have n_isinstance := PySem.W.mg_none_of X G z_isinstance
  have n_range := PySem.W.mg_none_of X G z_range
  have n_enumerate := PySem.W.mg_none_of X G z_enumerate
  have n_zip := PySem.W.mg_none_of X G z_zip
  have n_reversed := PySem.W.mg_none_of X G z_reversed
  have n_sorted := PySem.W.mg_none_of X G z_sorted
  have n_sum := PySem.W.mg_none_of X G z_sum
  have n_all := PySem.W.mg_none_of X G z_all
  have n_any := PySem.W.mg_none_of X G z_any
  have n_max := PySem.W.mg_none_of X G z_max
  have n_min := PySem.W.mg_none_of X G z_min
  have n_set := PySem.W.mg_none_of X G z_set
  have n_dict := PySem.W.mg_none_of X G z_dict
  have n_super := PySem.W.mg_none_of X G z_super
  have m_MOST_ITEMS := PySem.W.mg_of X G ci40
  have m_MOST_FLOORS := PySem.W.mg_of X G ci41
  have m_MOST_PARTS := PySem.W.mg_of X G ci42
  have m_MOST_AROUND := PySem.W.mg_of X G ci43
  have F_law := fun_mk (st := top 54) l44 c44 k44
  have b_law := F_law.binds (ps := ["_law_script"]) fun _ _ _ _ _ _ us hl => match us, hl with | [_], _ => rfl
  have m_law := PySem.W.mg_of X G a44

  subst eqL
  have hT0 : h.get? P0 = some { cls := .none, data := .fields #[] } := OT0 cL P0 _ _ _ _ _ _ l44 rfl rfl lL eL1
  have hC0 : PySem.W.CodeHd h cL P0 := ⟨_, _, _, _, _, _, _, _, _, X _ _ lL, rfl, rfl, eL1, eL2, eL3, eL4, eL5, eL6, by simpa using eL7⟩
  have mp : ∀ p : Addr × Addr, p ∈ [(cL, P0)] → p = (cL, P0) := fun p hp => by simpa using hp
  refine ⟨PySem.W.fnOf "law" "law" (defArgs (top 54)) (defBody (top 54)) (defScope (top 54)) .none kV44 dc44 pm44 an44 (.ref cL) ct44, [(cL, P0)], Q.spLawL K P0, fun p hp => ?_, fun p hp => ?_, fun p hp => ?_, fun s v => .of_eq rfl, fun H a ns hl _ hT hS => ⟨a, ns, rfl, hS, hl, hT (cL, P0) (by simp), fun _ => rfl⟩, fun base _ _ TBs => ?_⟩
  · rcases mp p hp with hp
    · subst hp
      exact hT0
  · rcases mp p hp with hp
    · subst hp
      exact Option.isNone_iff_eq_none.mp eL8
  · rcases mp p hp with hp
    · subst hp
      exact hC0
  have tb := TBs (cL, P0) (by simp)
  have OY : OwnE l.prog w K mg "InvalidSaying" "number" EY := ownE (own_of (PySem.W.mg_of X G aEY) lEY lR vR fR saEY gaEY ggEY ntEY iEY tEY kEY xEY yEY hEY mEY n_super oq tp) ngEY jEY cEY ⟨_, _, _, _, _, _, dEY, vvEY, pEY⟩ ⟨_, _, _, uEY⟩ txtY
  have xY := exm3 (exm_of xb1 xi1 xt1 s1EY) (exm_of xb2 xi2 xt2 s2EY) (exm_of xb3 xi3 xt3 s3EY)
  have mY := PySem.W.mg_of X G aEY
  have m_NV := PySem.W.mg_of X G aNN
  have h_NV : ∀ (B : Q.Bk) (H : Hp), B.K = K → Q.Rp B H (.ref nvN) (.tup Q.NOV) := fun B H e => ⟨nvN, [.str "all", .str "and", .str "not", .str "or", .str "r"], rfl, e ▸ .inr ⟨oNN, _, nNN, lNN, cNN, dNN, by show 5 ≤ sizeLine; decide, .cons ⟨_, rfl⟩ (.cons ⟨_, rfl⟩ (.cons ⟨_, rfl⟩ (.cons ⟨_, rfl⟩ (.cons ⟨_, rfl⟩ (.nil)))))⟩, by decide, ⟨_, _, rfl, rfl, ⟨_, _, rfl, rfl, ⟨_, _, rfl, rfl, ⟨_, _, rfl, rfl, ⟨_, _, rfl, rfl, rfl⟩⟩⟩⟩⟩⟩
  have TQ : Q.TN mg := ⟨n_abs, n_divmod, n_str, n_int, n_len, n_list, n_tuple, n_bool, n_isinstance, n_range, n_enumerate, n_zip, n_reversed, n_sorted, n_sum, n_all, n_any, n_max, n_min⟩
  have TBm : TB mg := ⟨n_list, n_len, n_abs, n_int⟩
  have D_is_letter : Df l.prog w K mg base 1 "is_letter" ["sign"] (Q.spD K mg false (Q.vLetter)) := ⟨_, _, Q.vk_letter (P := l.prog) (w := w) (base := base) (j := 0) F_is_letter TQ  , b_is_letter, m_is_letter, F_is_letter.kp⟩
  have D_is_whole : Df l.prog w K mg base 1 "is_whole" ["value"] (Q.spD K mg false (Q.vWhole)) := ⟨_, _, Q.vk_whole (P := l.prog) (w := w) (base := base) (j := 0) F_is_whole TQ  , b_is_whole, m_is_whole, F_is_whole.kp⟩
  have D_is_between : Df l.prog w K mg base 2 "is_between" ["value", "low", "high"] (Q.spD K mg false (Q.vBtw)) := ⟨_, _, Q.vk_btw (P := l.prog) (w := w) (base := base) (j := 1) F_is_between TQ  (Q.dmono D_is_whole (by decide)), b_is_between, m_is_between, F_is_between.kp⟩
  have D_is_word : Df l.prog w K mg base 2 "_is_word" ["value", "low", "high"] (Q.spD K mg false (Q.vWord)) := ⟨_, _, Q.vk_word (P := l.prog) (w := w) (base := base) (j := 1) F_is_word TQ  (Q.dmono D_is_letter (by decide)), b_is_word, m_is_word, F_is_word.kp⟩
  have D_is_variable : Df l.prog w K mg base 3 "is_variable" ["value"] (Q.spD K mg false (Q.vVar)) := ⟨_, _, Q.vk_var (P := l.prog) (w := w) (base := base) (j := 2) F_is_variable TQ m_NV h_NV (Q.dmono D_is_word (by decide)), b_is_variable, m_is_variable, F_is_variable.kp⟩
  have D_is_floor : Df l.prog w K mg base 0 "_is_floor" ["value", "floors"] (Q.spD K mg false Q.vNo) := ⟨_, _, Q.vk_no (P := l.prog) (w := w) (base := base), b_is_floor, m_is_floor, F_is_floor.kp⟩
  have D_is_slope : Df l.prog w K mg base 0 "is_slope" ["value"] (Q.spD K mg false Q.vNo) := ⟨_, _, Q.vk_no (P := l.prog) (w := w) (base := base), b_is_slope, m_is_slope, F_is_slope.kp⟩
  have D_is_name : Df l.prog w K mg base 0 "is_name" ["value"] (Q.spD K mg false Q.vNo) := ⟨_, _, Q.vk_no (P := l.prog) (w := w) (base := base), b_is_name, m_is_name, F_is_name.kp⟩
  have D_are_variables : Df l.prog w K mg base 0 "_are_variables" ["value"] (Q.spD K mg false Q.vNo) := ⟨_, _, Q.vk_no (P := l.prog) (w := w) (base := base), b_are_variables, m_are_variables, F_are_variables.kp⟩
  have N_term_variables : Df l.prog w K mg base 0 "term_variables" ["term"] (Q.spD K mg false Q.vNo) := ⟨_, _, Q.vk_no (P := l.prog) (w := w) (base := base), b_term_variables, m_term_variables, F_term_variables.kp⟩
  have N_law_term_names : Df l.prog w K mg base 0 "_law_term_names" ["_law_term"] (Q.spD K mg false Q.vNo) := ⟨_, _, Q.vk_no (P := l.prog) (w := w) (base := base), b_law_term_names, m_law_term_names, F_law_term_names.kp⟩
  have D_is_item : Df l.prog w K mg base 4 "_is_item" ["value", "floors"] (Q.spD K mg false (Q.vItem)) := ⟨_, _, Q.vk_item (P := l.prog) (w := w) (base := base) (j := 3) F_is_item TQ  (Q.dmono D_is_between (by decide)) (Q.dmono D_is_variable (by decide)) (Q.dmono D_is_floor (by decide)), b_is_item, m_is_item, F_is_item.kp⟩
  have D_is_term_with : Df l.prog w K mg base 5 "_is_term_with" ["value", "floors"] (Q.spD K mg false (Q.vTermW)) := ⟨_, _, Q.vk_termw (P := l.prog) (w := w) (base := base) (j := 4) F_is_term_with TQ m_MOST_ITEMS (Q.dmono D_is_between (by decide)) (Q.dmono D_is_item (by decide)), b_is_term_with, m_is_term_with, F_is_term_with.kp⟩
  have D_is_term : Df l.prog w K mg base 6 "is_term" ["value"] (Q.spD K mg false (Q.vTerm)) := ⟨_, _, Q.vk_term (P := l.prog) (w := w) (base := base) (j := 5) F_is_term TQ m_MOST_FLOORS (Q.dmono D_is_term_with (by decide)), b_is_term, m_is_term, F_is_term.kp⟩
  have D_compares : Df l.prog w K mg base 7 "_compares" ["word", "rest"] (Q.spD K mg false (Q.vCmp)) := ⟨_, _, Q.vk_compares (P := l.prog) (w := w) (base := base) (j := 6) F_compares TQ  (Q.dmono D_is_between (by decide)) (Q.dmono D_is_term (by decide)) (Q.dmono D_is_slope (by decide)), b_compares, m_compares, F_compares.kp⟩
  have D_has_form : Df l.prog w K mg base 8 "_has_form" ["value"] (Q.spD K mg false (Q.vForm)) := ⟨_, _, Q.vk_form (P := l.prog) (w := w) (base := base) (j := 7) F_has_form TQ  (Q.dmono D_is_variable (by decide)) (Q.dmono D_is_name (by decide)) (Q.dmono D_are_variables (by decide)) (Q.dmono D_compares (by decide)), b_has_form, m_has_form, F_has_form.kp⟩
  have D_inner : Df l.prog w K mg base 1 "_inner" ["part"] (Q.spD K mg false (Q.vInner)) := ⟨_, _, Q.vk_inner (P := l.prog) (w := w) (base := base) (j := 0) F_inner TQ  , b_inner, m_inner, F_inner.kp⟩
  have D_first_misformed : Df l.prog w K mg base 9 "_first_misformed" ["value"] (Q.spD K mg false (Q.vMisf)) := ⟨_, _, Q.vk_misf (P := l.prog) (w := w) (base := base) (j := 8) F_first_misformed TQ m_MOST_PARTS (Q.dmono D_has_form (by decide)) (Q.dmono D_inner (by decide)), b_first_misformed, m_first_misformed, F_first_misformed.kp⟩
  have D_terms_of : Df l.prog w K mg base 1 "terms_of" ["part"] (Q.spD K mg false (Q.vTermsOf)) := ⟨_, _, Q.vk_termsof (P := l.prog) (w := w) (base := base) (j := 0) F_terms_of TQ  , b_terms_of, m_terms_of, F_terms_of.kp⟩
  have D_term_variables : Df l.prog w K mg base 1 "term_variables" ["term"] (Q.spD K mg false (Q.vTVars)) := ⟨_, _, Q.vk_tvars (P := l.prog) (w := w) (base := base) (j := 0) F_term_variables TQ n_set N_term_variables , b_term_variables, m_term_variables, F_term_variables.kp⟩
  have D_free_variables : Df l.prog w K mg base 22 "free_variables" ["saying"] (Q.spD K mg false (Q.vFree 20)) := ⟨_, _, Q.all_vfree (P := l.prog) (w := w) (base := base) (k := 1) F_free_variables TQ n_set (Q.dmono D_inner (by decide)) (Q.dmono D_terms_of (by decide)) (Q.dmono D_term_variables (by decide)) b_free_variables m_free_variables 20, b_free_variables, m_free_variables, F_free_variables.kp⟩
  have D_first_misbound : Df l.prog w K mg base 23 "_first_misbound" ["saying"] (Q.spD K mg false (Q.vMib)) := ⟨_, _, Q.vk_mib (P := l.prog) (w := w) (base := base) (j := 22) F_first_misbound TQ m_MOST_AROUND (Q.dmono D_free_variables (by decide)) (Q.dmono D_inner (by decide)), b_first_misbound, m_first_misbound, F_first_misbound.kp⟩
  have D_first_wrong : Df l.prog w K mg base 24 "_first_wrong" ["value"] (Q.spD K mg false (Q.vWrong)) := ⟨_, _, Q.vk_wrong (P := l.prog) (w := w) (base := base) (j := 23) F_first_wrong TQ  (Q.dmono D_first_misformed (by decide)) (Q.dmono D_first_misbound (by decide)), b_first_wrong, m_first_wrong, F_first_wrong.kp⟩
  have D_is_saying : Df l.prog w K mg base 25 "is_saying" ["value"] (Q.spD K mg false (Q.vSays)) := ⟨_, _, Q.vk_says (P := l.prog) (w := w) (base := base) (j := 24) F_is_saying TQ  (Q.dmono D_first_wrong (by decide)), b_is_saying, m_is_saying, F_is_saying.kp⟩
  have D_law_bag : Df l.prog w K mg base 1 "_law_bag" ["_law_script"] (spBag K) := ⟨_, _, ok_bag (P := l.prog) (w := w) (base := base) F_law_bag TBm  , b_law_bag, m_law_bag, F_law_bag.kp⟩
  have D_law_pull : Df l.prog w K mg base 1 "_law_pull" ["_law_bag_here", "_law_sides"] (Q.spD K mg true Q.fPull) := ⟨_, _, Q.ok_pullD (P := l.prog) (w := w) (base := base) F_law_pull TBm  , b_law_pull, m_law_pull, F_law_pull.kp⟩
  have D_law_of : Df l.prog w K mg base 2 "_law_of" ["_law_bag_here", "_law_some"] (Q.spD K mg true (Q.fOf)) := ⟨_, _, Q.ok_ofD (P := l.prog) (w := w) (base := base) (j := 1) F_law_of TQ  (Q.dmono D_law_pull (by decide)), b_law_of, m_law_of, F_law_of.kp⟩
  have D_law_same : Df l.prog w K mg base 4 "_law_same" ["_law_found", "_law_due"] (Q.spD K mg false (Q.fSame 3)) := ⟨_, _, Q.all_same (P := l.prog) (w := w) (base := base) (k := 0) F_law_same TQ   b_law_same m_law_same 3, b_law_same, m_law_same, F_law_same.kp⟩
  have D_law_names : Df l.prog w K mg base 3 "_law_names" ["_law_bag_here", "_law_many"] (Q.spD K mg true (Q.gNames)) := ⟨_, _, Q.gk_names (P := l.prog) (w := w) (base := base) (j := 2) F_law_names TQ  (Q.dmono D_law_pull (by decide)) (Q.dmono D_law_of (by decide)), b_law_names, m_law_names, F_law_names.kp⟩
  have D_law_lone : Df l.prog w K mg base 1 "_law_lone" ["_law_name"] (Q.spD K mg false (Q.gLone)) := ⟨_, _, Q.gk_lone (P := l.prog) (w := w) (base := base) (j := 0) F_law_lone TQ  , b_law_lone, m_law_lone, F_law_lone.kp⟩
  have D_law_light_term : Df l.prog w K mg base 3 "_law_light_term" ["_law_bag_here", "_law_names_here", "_law_most"] (Q.spD K mg true (Q.gTerm)) := ⟨_, _, Q.gk_term (P := l.prog) (w := w) (base := base) (j := 2) F_law_light_term TQ  (Q.dmono D_law_pull (by decide)) (Q.dmono D_law_of (by decide)), b_law_light_term, m_law_light_term, F_law_light_term.kp⟩
  have D_law_light_atom : Df l.prog w K mg base 4 "_law_light_atom" ["_law_bag_here", "_law_names_here"] (Q.spD K mg true (Q.gAtom)) := ⟨_, _, Q.gk_atom (P := l.prog) (w := w) (base := base) (j := 3) F_law_light_atom TQ  (Q.dmono D_law_pull (by decide)) (Q.dmono D_law_light_term (by decide)), b_law_light_atom, m_law_light_atom, F_law_light_atom.kp⟩
  have D_law_inner : Df l.prog w K mg base 1 "_law_inner" ["_law_part"] (Q.spD K mg false (Q.gInner)) := ⟨_, _, Q.gk_inner (P := l.prog) (w := w) (base := base) (j := 0) F_law_inner TQ  , b_law_inner, m_law_inner, F_law_inner.kp⟩
  have D_law_term_names : Df l.prog w K mg base 1 "_law_term_names" ["_law_term"] (Q.spD K mg false (Q.gTNames)) := ⟨_, _, Q.gk_tnames (P := l.prog) (w := w) (base := base) (j := 0) F_law_term_names TQ N_law_term_names , b_law_term_names, m_law_term_names, F_law_term_names.kp⟩
  have D_law_part_names : Df l.prog w K mg base 2 "_law_part_names" ["_law_part"] (Q.spD K mg false (Q.gPart)) := ⟨_, _, Q.gk_part (P := l.prog) (w := w) (base := base) (j := 1) F_law_part_names TQ  (Q.dmono D_law_term_names (by decide)), b_law_part_names, m_law_part_names, F_law_part_names.kp⟩
  have D_law_free : Df l.prog w K mg base 23 "_law_free" ["_law_saying"] (Q.spD K mg false (Q.vFree 20)) := ⟨_, _, Q.all_gfree (P := l.prog) (w := w) (base := base) (k := 2) F_law_free TQ n_dict (Q.dmono D_law_inner (by decide)) (Q.dmono D_law_part_names (by decide)) b_law_free m_law_free 20, b_law_free, m_law_free, F_law_free.kp⟩
  have D_law_scope_due : Df l.prog w K mg base 24 "_law_scope_due" ["_law_saying"] (Q.spD K mg false (Q.gDue)) := ⟨_, _, Q.gk_due (P := l.prog) (w := w) (base := base) (j := 23) F_law_scope_due TQ  (Q.dmono D_law_inner (by decide)) (Q.dmono D_law_free (by decide)), b_law_scope_due, m_law_scope_due, F_law_scope_due.kp⟩
  have D_chk : DfX l.prog w K mg base 26 "check_saying" ["value"] (Q.spD K mg false Q.vCheck) := ⟨_, _, Q.vk_check (P := l.prog) (w := w) (base := base) (j := 25) F_check_saying TQ OY (Q.dmono D_first_wrong (by decide)), b_check_saying, m_check_saying, F_check_saying.kp⟩
  have GP := ok_lplace (P := l.prog) (w := w) (base := base) (mg := mg) (k := 24) F_law_place
  have GLF := ok_lfield (P := l.prog) (w := w) (base := base) (mg := mg) (k := 25) F_law_field GP m_law_place F_law_place.kp b_law_place
  exact Q.ok_law l44 c44 tb TQ ⟨Q.dmono D_law_bag (by decide), Q.dmono D_law_pull (by decide), Q.dmono D_law_of (by decide), Q.dmono D_law_names (by decide), Q.dmono D_law_lone (by decide), Q.dmono D_law_light_atom (by decide), Q.dmono D_law_scope_due (by decide), Q.dmono D_law_same (by decide), Q.dmono D_is_saying (by decide), D_chk, ⟨⟨_, _, _, _, _, _, _, _, _, _, m_law_why, F_law_why.kp, l39, c39, b_law_why⟩, PySem.W.mg_of X G aR, PySem.W.mg_of X G aC2, PySem.W.mg_of X G aC3, ⟨_, _, GLF, m_law_field, F_law_field.kp, b_law_field⟩⟩, OY, xY⟩
end RF

open PySem PySem.W PyProof.Rows
set_option maxRecDepth 100000 in
set_option maxHeartbeats 0 in
theorem PySem.Challenge.cw_rootfloor_k27_variables_in_scope_holds : PySem.Challenge.rw_rootfloor_k27_variables_in_scope.Holds := by
  w_on; o_law; k_head; (case hw => w_witness2)
  k_fill
  refine LamX.walk_ofOwn (l := PySem.Challenge.rw_rootfloor_k27_variables_in_scope) (n := 63) (k := 29) (x := "_law_script") (CX := fun _ => L2.CX0) rfl (by decide) rfl ⟨rfl, by decide, by decide⟩ (by decide +kernel) (fun w h Y => PySem.W.km_in_of Y) ?F (fun _ _ _ _ _ z => z)
  case F =>
    intro w mg fa h Y KX G hmg OT
    refine' RF.all_mk KX G hmg OT ?a1 ?l1 ?c1 ?k1 ?a2 ?l2 ?c2 ?k2 ?a3 ?l3 ?c3 ?k3 ?a4 ?l4 ?c4 ?k4 ?a5 ?l5 ?c5 ?k5 ?a6 ?l6 ?c6 ?k6 ?a7 ?l7 ?c7 ?k7 ?a8 ?l8 ?c8 ?k8 ?a9 ?l9 ?c9 ?k9 ?a10 ?l10 ?c10 ?k10 ?a11 ?l11 ?c11 ?k11 ?a12 ?l12 ?c12 ?k12 ?a13 ?l13 ?c13 ?k13 ?a14 ?l14 ?c14 ?k14 ?a15 ?l15 ?c15 ?k15 ?a16 ?l16 ?c16 ?k16 ?a17 ?l17 ?c17 ?k17 ?a18 ?l18 ?c18 ?k18 ?a19 ?l19 ?c19 ?k19 ?a20 ?l20 ?c20 ?k20 ?a21 ?l21 ?c21 ?k21 ?a22 ?l22 ?c22 ?k22 ?a23 ?l23 ?c23 ?k23 ?a24 ?l24 ?c24 ?k24 ?a25 ?l25 ?c25 ?k25 ?a26 ?l26 ?c26 ?k26 ?a27 ?l27 ?c27 ?k27 ?a28 ?l28 ?c28 ?k28 ?a29 ?l29 ?c29 ?k29 ?a30 ?l30 ?c30 ?k30 ?a31 ?l31 ?c31 ?k31 ?a32 ?l32 ?c32 ?k32 ?a33 ?l33 ?c33 ?k33 ?a34 ?l34 ?c34 ?k34 ?a35 ?l35 ?c35 ?k35 ?a36 ?l36 ?c36 ?k36 ?a37 ?l37 ?c37 ?k37 ?a38 ?l38 ?c38 ?k38 ?a39 ?l39 ?c39 ?k39 ?z_abs ?z_divmod ?z_str ?z_int ?z_len ?z_list ?z_tuple ?z_bool ?z_isinstance ?z_range ?z_enumerate ?z_zip ?z_reversed ?z_sorted ?z_sum ?z_all ?z_any ?z_max ?z_min ?z_set ?z_dict ?z_super ?ci40 ?ci41 ?ci42 ?ci43 ?aNN ?lNN ?cNN ?dNN ?aR ?lR ?vR ?fR ?oq ?tp ?aC2 ?aC3 ?xb1 ?xi1 ?xt1 ?xb2 ?xi2 ?xt2 ?xb3 ?xi3 ?xt3 ?aEY ?lEY ?saEY ?gaEY ?ggEY ?ntEY ?ngEY ?iEY ?tEY ?kEY ?xEY ?yEY ?hEY ?mEY ?jEY ?cEY ?dEY ?vvEY ?pEY ?uEY ?s1EY ?s2EY ?s3EY ?a44 ?l44 ?c44 ?k44 ?eqL ?lL ?eL1 ?eL2 ?eL3 ?eL4 ?eL5 ?eL6 ?eL7 ?eL8
    (case a1 => k_is)
    (case l1 => k_is)
    (case c1 => k_is)
    (case k1 => k_is)
    (case a2 => k_is)
    (case l2 => k_is)
    (case c2 => k_is)
    (case k2 => k_is)
    (case a3 => k_is)
    (case l3 => k_is)
    (case c3 => k_is)
    (case k3 => k_is)
    (case a4 => k_is)
    (case l4 => k_is)
    (case c4 => k_is)
    (case k4 => k_is)
    (case a5 => k_is)
    (case l5 => k_is)
    (case c5 => k_is)
    (case k5 => k_is)
    (case a6 => k_is)
    (case l6 => k_is)
    (case c6 => k_is)
    (case k6 => k_is)
    (case a7 => k_is)
    (case l7 => k_is)
    (case c7 => k_is)
    (case k7 => k_is)
    (case a8 => k_is)
    (case l8 => k_is)
    (case c8 => k_is)
    (case k8 => k_is)
    (case a9 => k_is)
    (case l9 => k_is)
    (case c9 => k_is)
    (case k9 => k_is)
    (case a10 => k_is)
    (case l10 => k_is)
    (case c10 => k_is)
    (case k10 => k_is)
    (case a11 => k_is)
    (case l11 => k_is)
    (case c11 => k_is)
    (case k11 => k_is)
    (case a12 => k_is)
    (case l12 => k_is)
    (case c12 => k_is)
    (case k12 => k_is)
    (case a13 => k_is)
    (case l13 => k_is)
    (case c13 => k_is)
    (case k13 => k_is)
    (case a14 => k_is)
    (case l14 => k_is)
    (case c14 => k_is)
    (case k14 => k_is)
    (case a15 => k_is)
    (case l15 => k_is)
    (case c15 => k_is)
    (case k15 => k_is)
    (case a16 => k_is)
    (case l16 => k_is)
    (case c16 => k_is)
    (case k16 => k_is)
    (case a17 => k_is)
    (case l17 => k_is)
    (case c17 => k_is)
    (case k17 => k_is)
    (case a18 => k_is)
    (case l18 => k_is)
    (case c18 => k_is)
    (case k18 => k_is)
    (case a19 => k_is)
    (case l19 => k_is)
    (case c19 => k_is)
    (case k19 => k_is)
    (case a20 => k_is)
    (case l20 => k_is)
    (case c20 => k_is)
    (case k20 => k_is)
    (case a21 => k_is)
    (case l21 => k_is)
    (case c21 => k_is)
    (case k21 => k_is)
    (case a22 => k_is)
    (case l22 => k_is)
    (case c22 => k_is)
    (case k22 => k_is)
    (case a23 => k_is)
    (case l23 => k_is)
    (case c23 => k_is)
    (case k23 => k_is)
    (case a24 => k_is)
    (case l24 => k_is)
    (case c24 => k_is)
    (case k24 => k_is)
    (case a25 => k_is)
    (case l25 => k_is)
    (case c25 => k_is)
    (case k25 => k_is)
    (case a26 => k_is)
    (case l26 => k_is)
    (case c26 => k_is)
    (case k26 => k_is)
    (case a27 => k_is)
    (case l27 => k_is)
    (case c27 => k_is)
    (case k27 => k_is)
    (case a28 => k_is)
    (case l28 => k_is)
    (case c28 => k_is)
    (case k28 => k_is)
    (case a29 => k_is)
    (case l29 => k_is)
    (case c29 => k_is)
    (case k29 => k_is)
    (case a30 => k_is)
    (case l30 => k_is)
    (case c30 => k_is)
    (case k30 => k_is)
    (case a31 => k_is)
    (case l31 => k_is)
    (case c31 => k_is)
    (case k31 => k_is)
    (case a32 => k_is)
    (case l32 => k_is)
    (case c32 => k_is)
    (case k32 => k_is)
    (case a33 => k_is)
    (case l33 => k_is)
    (case c33 => k_is)
    (case k33 => k_is)
    (case a34 => k_is)
    (case l34 => k_is)
    (case c34 => k_is)
    (case k34 => k_is)
    (case a35 => k_is)
    (case l35 => k_is)
    (case c35 => k_is)
    (case k35 => k_is)
    (case a36 => k_is)
    (case l36 => k_is)
    (case c36 => k_is)
    (case k36 => k_is)
    (case a37 => k_is)
    (case l37 => k_is)
    (case c37 => k_is)
    (case k37 => k_is)
    (case a38 => k_is)
    (case l38 => k_is)
    (case c38 => k_is)
    (case k38 => k_is)
    (case a39 => k_is)
    (case l39 => k_is)
    (case c39 => k_is)
    (case k39 => k_is)
    (case z_abs => k_is)
    (case z_divmod => k_is)
    (case z_str => k_is)
    (case z_int => k_is)
    (case z_len => k_is)
    (case z_list => k_is)
    (case z_tuple => k_is)
    (case z_bool => k_is)
    (case z_isinstance => k_is)
    (case z_range => k_is)
    (case z_enumerate => k_is)
    (case z_zip => k_is)
    (case z_reversed => k_is)
    (case z_sorted => k_is)
    (case z_sum => k_is)
    (case z_all => k_is)
    (case z_any => k_is)
    (case z_max => k_is)
    (case z_min => k_is)
    (case z_set => k_is)
    (case z_dict => k_is)
    (case z_super => k_is)
    (case ci40 => k_is)
    (case ci41 => k_is)
    (case ci42 => k_is)
    (case ci43 => k_is)
    (case aNN => k_is)
    (case lNN => k_is)
    (case cNN => first | exact rfl | decide +kernel)
    (case dNN => first | exact rfl | decide +kernel)
    (case aR => k_is)
    (case lR => k_is)
    (case vR => first | exact rfl | decide +kernel)
    (case fR => k_is)
    (case oq => k_is)
    (case tp => first | exact rfl | decide +kernel)
    (case aC2 => k_is)
    (case aC3 => k_is)
    (case xb1 => k_is)
    (case xi1 => k_is)
    (case xt1 => k_is)
    (case xb2 => k_is)
    (case xi2 => k_is)
    (case xt2 => k_is)
    (case xb3 => k_is)
    (case xi3 => k_is)
    (case xt3 => k_is)
    (case aEY => k_is)
    (case lEY => k_is)
    (case saEY => k_is)
    (case gaEY => k_is)
    (case ggEY => k_is)
    (case ntEY => k_is)
    (case ngEY => k_is)
    (case iEY => k_is)
    (case tEY => k_is)
    (case kEY => k_is)
    (case xEY => k_is)
    (case yEY => k_is)
    (case hEY => k_is)
    (case mEY => k_is)
    (case jEY => k_is)
    (case cEY => k_is)
    (case dEY => k_is)
    (case vvEY => first | exact rfl | decide +kernel)
    (case pEY => first | exact rfl | decide +kernel)
    (case uEY => k_is)
    (case s1EY => k_is)
    (case s2EY => k_is)
    (case s3EY => k_is)
    (case a44 => k_is)
    (case l44 => k_is)
    (case c44 => k_is)
    (case k44 => k_is)
    (case eqL => first | exact rfl | decide +kernel)
    (case lL => k_is)
    (case eL1 => first | exact rfl | decide +kernel)
    (case eL2 => first | exact rfl | decide +kernel)
    (case eL3 => first | exact rfl | decide +kernel)
    (case eL4 => first | exact rfl | decide +kernel)
    (case eL5 => first | exact rfl | decide +kernel)
    (case eL6 => first | exact rfl | decide +kernel)
    (case eL7 => first | exact rfl | decide +kernel)
    (case eL8 => first | exact rfl | decide +kernel)

