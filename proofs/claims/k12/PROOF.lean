import PyProof.Rows.All
import Wide.All
import OpenK.AllK
import Wide.FinOn
import HandS.ForMost
import HandS.Gcd
import HandS.Wide
import HandS.Codes
import HandS.IsInst
import HandS.Zip
import HandS.Walk
import HandS.MakeKwOnly
import HandS.Property
import HandS.Defaults
import HandS.List
import HandS.WideBits
import HandS.Style
import Flt.RightSqrt
import KE.KOpsOwn
import KE.KMathG
import HandS.OwnEq
import HandS.ClsMeth
import HandS.Comp
import KE.GoesMore
import KE.GoesEnum
import HandS.Exc
import HandS.Lambda
import KE.KExcSuper
import KE.KSuper
import KE.KExcPX
import HandS.ExcSuper
import KE.KTryMore
import HandS.HotCalls
import KE.KIsAll
import HandS.WordsExc
import KE.KDflt
import HandS.SortRule
import KE.SortCalls
import PyProof.EqAt
import HandS.TupMul
import HandS.TupAny
import HandS.Base
import HandS.Deep
import HandS.EndOwn
import PySem.Challenge.RW_rootfloor_k12_whole_equations_hold_by_tw
set_option Elab.async false
set_option maxRecDepth 100000
set_option maxHeartbeats 8000000
namespace RF
open PySem L2

/-- all that is tracked stays, but what stands at b -/
def Kp (b : Addr) (H H' : Hp) : Prop := ∀ a o, a ≠ b → H a = some o → H' a = some o
theorem Kp.refl (b : Addr) (H : Hp) : Kp b H H := fun _ _ _ e => e
theorem Kp.trans {b : Addr} {H H1 H2 : Hp} (x : Kp b H H1) (y : Kp b H1 H2) : Kp b H H2 := fun a o n e => y a o n (x a o n e)
theorem Kp.upd {b : Addr} {H : Hp} {o : HO} : Kp b H (upd H b o) := fun a u n e => by rw [upd_ne n]; exact e
theorem Kp.of {b : Addr} {H H' : Hp} (s : Same H H') : Kp b H H' := fun a o _ e => s a o e

/-- the bag of a script: its cells, how many are taken, what is left of a great one, the state of the draws -/
structure BagC (H : Hp) (b c : Addr) (ns : List Int) (i : Nat) (z r : Int) : Prop where
  ne : b ≠ c
  at_ : H b = some (.lst [.ref c, .int i, .int z, .int r])
  cs : H c = some (.lst (ns.map V.int))
  le : i ≤ ns.length
  z0 : 0 ≤ z
  r0 : 0 ≤ r
  r1 : r < 2147483647
def Bag (H : Hp) (b : Addr) : Prop := ∃ (c : Addr) (ns : List Int) (i : Nat) (z r : Int), BagC H b c ns i z r
theorem BagC.put {H : Hp} {b c : Addr} {ns : List Int} {i i' : Nat} {z r z' r' : Int} {o : HO} (B : BagC H b c ns i z r) (ho : o = .lst [.ref c, .int i', .int z', .int r']) (hi : i' ≤ ns.length) (hz : 0 ≤ z') (h0 : 0 ≤ r') (h1 : r' < 2147483647) :
    BagC (upd H b o) b c ns i' z' r' := ⟨B.ne, by rw [upd_same, ho], by rw [upd_ne (Ne.symm B.ne)]; exact B.cs, hi, hz, h0, h1⟩
theorem Bag.some {H : Hp} {b : Addr} (B : Bag H b) : ∃ xs, H b = some (.lst xs) := let ⟨_, _, _, _, _, e⟩ := B; ⟨_, e.at_⟩
theorem Bag.same {H H' : Hp} {b : Addr} (B : Bag H b) (s : Same H H') : Bag H' b := by
  obtain ⟨c, ns, i, z, r, h⟩ := B
  exact ⟨c, ns, i, z, r, h.ne, s _ _ h.at_, s _ _ h.cs, h.le, h.z0, h.r0, h.r1⟩
theorem emod_lo (a : Int) {b : Int} (h : 0 < b) : 0 ≤ a % b := Int.emod_nonneg _ (by omega)
theorem emod_hi (a : Int) {b : Int} (h : 0 < b) : a % b < b := Int.emod_lt_of_pos _ h

/-- a draw: some number below the sides; the bag stays one, nothing else changes -/
def spPull : Sp := fun vs H Q _ => ∃ (b : Addr) (k : Int), vs = [.ref b, .int k] ∧ Bag H b ∧ 0 < k ∧ k < 1073741824 ∧
  ∀ (d : Int) (H' : Hp), 0 ≤ d → d < k → Bag H' b → Kp b H H' → Q (.int d) H'
def spBag (K : PySem.W.Frag) : Sp := fun vs H Q _ => ∃ (a : Addr) (ns : List Int), vs = [.ref a] ∧ SqL K H a (ns.map V.int) ∧ ns.length ≤ 63 ∧
  ∀ (b : Addr) (H' : Hp), H b = none → Bag H' b → Same H H' → Q (.ref b) H'
/-- a new object -/
theorem sNew {H H1 : Hp} {p : Addr} {o : HO} (s : Same H H1) (h : H1 p = none) : Same H (upd H1 p o) := fun a u e => by
  rw [upd_ne (ne_of_none (s a u e) h)]
  exact s a u e
theorem ne_new {H : Hp} {p q : Addr} {o : HO} (h : upd H p o q = none) : q ≠ p := fun z => by
  rw [z, upd_same] at h
  cases h
theorem of_new {H : Hp} {p q : Addr} {o : HO} (h : upd H p o q = none) : H q = none := by
  rw [upd_ne (ne_new h)] at h
  exact h

/-! ### data: what a value tells, with the lists and tuples in it -/
inductive D where
  | non | bl (b : Bool) | int (i : Int) | str (x : Str) | lst (ds : List D) | tup (ds : List D)
mutual
def Rp (K : PySem.W.Frag) (H : Hp) : V → D → Prop
  | v, .non => v = .non
  | v, .bl b => v = .bl b
  | v, .int i => v = .int i
  | v, .str x => v = .str x
  | v, .lst ds => ∃ a xs, v = .ref a ∧ SqL K H a xs ∧ xs.length ≤ 100000 ∧ Rps K H xs ds
  | v, .tup ds => ∃ a xs, v = .ref a ∧ SqT K H a xs ∧ xs.length ≤ 100000 ∧ Rps K H xs ds
def Rps (K : PySem.W.Frag) (H : Hp) : List V → List D → Prop
  | xs, [] => xs = []
  | xs, d :: ds => ∃ x r, xs = x :: r ∧ Rp K H x d ∧ Rps K H r ds
end
mutual
def dep : D → Nat
  | .lst ds => depL ds + 1
  | .tup ds => depL ds + 1
  | _ => 0
def depL : List D → Nat
  | [] => 0
  | d :: ds => max (dep d) (depL ds)
end
theorem sameT {K : PySem.W.Frag} {H H' : Hp} {a : Addr} {xs : List V} (e : Same H H') (h : SqT K H a xs) : SqT K H' a xs := by
  rcases h with (h | ⟨o, h⟩) | h
  · exact .inl (.inl (e _ _ h))
  · exact .inl (.inr ⟨o, e _ _ h⟩)
  · exact .inr h
mutual
theorem Rp.same {K : PySem.W.Frag} {H H' : Hp} (e : Same H H') : ∀ {v : V} (d : D), Rp K H v d → Rp K H' v d
  | _, .non, h => h
  | _, .bl _, h => h
  | _, .int _, h => h
  | _, .str _, h => h
  | _, .lst ds, h => by
    obtain ⟨a, xs, h1, h2, h3, h4⟩ := h
    exact ⟨a, xs, h1, e.seq h2, h3, Rps.same e ds h4⟩
  | _, .tup ds, h => by
    obtain ⟨a, xs, h1, h2, h3, h4⟩ := h
    exact ⟨a, xs, h1, sameT e h2, h3, Rps.same e ds h4⟩
theorem Rps.same {K : PySem.W.Frag} {H H' : Hp} (e : Same H H') : ∀ {xs : List V} (ds : List D), Rps K H xs ds → Rps K H' xs ds
  | _, [], h => h
  | _, d :: ds, h => by
    obtain ⟨x, r, h1, h2, h3⟩ := h
    exact ⟨x, r, h1, Rp.same e d h2, Rps.same e ds h3⟩
end
theorem Rps.len {K : PySem.W.Frag} {H : Hp} : ∀ {xs : List V} {ds : List D}, Rps K H xs ds → xs.length = ds.length
  | _, [], h => by rw [show _ = [] from h]; rfl
  | _, d :: ds, h => by
    obtain ⟨x, r, rfl, _, h3⟩ := h
    rw [List.length_cons, List.length_cons, Rps.len h3]
theorem Rps.at_ {K : PySem.W.Frag} {H : Hp} : ∀ {xs : List V} {ds : List D} {i : Nat} {x : V}, Rps K H xs ds → xs[i]? = some x → ∃ d, ds[i]? = some d ∧ Rp K H x d
  | _, [], i, x, h, e => by rw [show _ = [] from h] at e; simp at e
  | _, d :: ds, 0, x, h, e => by
    obtain ⟨y, r, rfl, h2, _⟩ := h
    cases e
    exact ⟨d, rfl, h2⟩
  | _, d :: ds, i + 1, x, h, e => by
    obtain ⟨y, r, rfl, _, h3⟩ := h
    obtain ⟨d', e1, e2⟩ := Rps.at_ (i := i) h3 e
    exact ⟨d', e1, e2⟩
theorem dep_mem : ∀ {ds : List D} {i : Nat} {d : D}, ds[i]? = some d → dep d ≤ depL ds
  | [], _, _, e => by simp at e
  | c :: ds, 0, d, e => by cases e; exact Nat.le_max_left ..
  | c :: ds, i + 1, d, e => Nat.le_trans (dep_mem (i := i) e) (Nat.le_max_right ..)

/-- the class of a datum's value -/
def tyD : D → String
  | .non => "NoneType" | .bl _ => "bool" | .int _ => "int" | .str _ => "str" | .lst _ => "list" | .tup _ => "tuple"
theorem tyL {K : PySem.W.Frag} {H : Hp} {a : Addr} {xs : List V} (h : SqL K H a xs) : TyX K H (.ref a) (.type "list") := by
  rcases h with (h | ⟨o, h⟩) | ⟨o, its, n, h, c, _⟩
  · exact .base (.lst h)
  · exact .base (.frz h)
  · exact .kList h c
theorem tyT {K : PySem.W.Frag} {H : Hp} {a : Addr} {xs : List V} (h : SqT K H a xs) : TyX K H (.ref a) (.type "tuple") := by
  rcases h with (h | ⟨o, h⟩) | ⟨o, its, n, h, c, _⟩
  · exact .base (.tup h)
  · exact .fTuple h
  · exact .kTuple h c
theorem tyX {K : PySem.W.Frag} {H : Hp} : ∀ {v : V} (d : D), Rp K H v d → TyX K H v (.type (tyD d))
  | _, .non, h => by rw [show _ = V.non from h]; exact .base .non
  | _, .bl _, h => by rw [show _ = V.bl _ from h]; exact .base (.bl _)
  | _, .int _, h => by rw [show _ = V.int _ from h]; exact .base (.int _)
  | _, .str _, h => by rw [show _ = V.str _ from h]; exact .base (.str _)
  | _, .lst ds, h => by obtain ⟨a, xs, rfl, h2, _⟩ := h; exact tyL h2
  | _, .tup ds, h => by obtain ⟨a, xs, rfl, h2, _⟩ := h; exact tyT h2

/-! ### a def that others call -/
structure Df (P : Program) (w : World) (K : PySem.W.Frag) (mg : Str → Option Value) (base : Heap) (k : Nat) (x : Str) (ps : List Str) (sp : Sp) : Prop where
  ex : ∃ (f : Addr) (fd : FuncData), FnOk P w K mg base CX0 k f fd ps sp ∧ Binds K fd ps [] ∧ mg x = some (.ref f) ∧ PySem.W.keepIn K (.ref f) = true
theorem fn_false {P : Program} {w : World} {K : PySem.W.Frag} {mg : Str → Option Value} {base : Heap} {CX : CXT} {k : Nat} {f : Addr} {fd : FuncData} {ps : List Str} : FnOk P w K mg base CX k f fd ps (fun _ _ _ _ => False) :=
  ⟨fun _ _ _ _ h => h.elim, fun _ _ _ _ _ _ _ _ _ _ _ _ _ h => h.elim⟩
theorem pe_callD {X : Cx} {j k : Nat} {x : Str} {ps : List Str} {sp : Sp} {p pos : Pos} {e : Expr} {es : List Expr} {t : TA} (F : Df X.prog X.w X.K X.mg X.base k x ps sp) (hr : Room j X.A) (hk : k ≤ j) (ha : PA X (e :: es) t)
    (hg : Gl X x := by rfl) (hdb : (x == ("__debug__" : Str)) = false := by decide)
    (he : starEach (e :: es) X.env = (false, eval e X.env) :: starEach es X.env := by rfl) (hpl : (backTo pos (starEach es X.env)).any (·.1) = false := by rfl) :
    PE X (.Call (.Name x p) (e :: es) [] pos) (tCall sp [] E0 t) := by
  obtain ⟨f, fd, G, b, m, kp⟩ := F.ex
  exact pe_call G (hr.mono hk) hg m kp b .nil pass0 ha hdb he hpl
/-- zip of two tuples -/
theorem walk_zipT {K : PySem.W.Frag} {a b : Addr} {xs ys : List V} {n : Nat} (hn : n = min xs.length ys.length) : Walk (RZ.ItzT K a b) n (fun H => SqT K H a xs ∧ SqT K H b ys) (YPair (fun i => xs[i]?) (fun i => ys[i]?)) := by
  subst hn
  refine ⟨fun i _ hi q => ?_, fun _ q => ⟨xs, ys, q.1, q.2, by omega⟩, fun i H v H' _ q y => ?_⟩
  · have h1 : i < xs.length := by omega
    have h2 : i < ys.length := by omega
    exact ⟨xs, ys, xs[i], ys[i], q.1, q.2, by simp [h1], by simp [h2]⟩
  · obtain ⟨T, x, z, h1, h2, h3, h4, h5⟩ := y
    exact ⟨T, x, z, h1, h2, h3, h4 xs q.1, h5 ys q.2⟩

/-- one datum, told twice: the law's own comparison gives True -/
def spSame (K : PySem.W.Frag) (n : Nat) : Sp := fun vs H Q _ => ∃ (v u : V) (d : D), vs = [v, u] ∧ Rp K H v d ∧ Rp K H u d ∧ dep d ≤ n ∧ ∀ H', Same H H' → Q (.bl true) H'
def spSameL (K : PySem.W.Frag) : Nat → Sp
  | 0 => fun _ _ _ _ => False
  | n + 1 => spSame K n
def spOf (K : PySem.W.Frag) : Sp := fun vs H Q _ => ∃ (b a : Addr) (xs : List V), vs = [.ref b, .ref a] ∧ Bag H b ∧ SqL K H a xs ∧ a ≠ b ∧ 0 < xs.length ∧ xs.length < 1000000 ∧
  ∀ (v : V) (H' : Hp), v ∈ xs → Bag H' b → Kp b H H' → Q v H'
def spRoot : Sp := fun vs H Q _ => ∃ (b : Addr), vs = [.ref b] ∧ Bag H b ∧ ∀ (d : Int) (H' : Hp), d = 2 ∨ d = 3 ∨ d = 5 ∨ d = 6 ∨ d = 13 → Bag H' b → Kp b H H' → Q (.int d) H'
def spFar : Sp := fun vs H Q _ => ∃ (b : Addr) (k : Int), vs = [.ref b, .int k] ∧ Bag H b ∧ 0 < k ∧ k ≤ 1000 ∧ ∀ (n : Int) (H' : Hp), 0 ≤ n → n < 10 ^ k.toNat → Bag H' b → Kp b H H' → Q (.int n) H'
theorem Kp.seq {K : PySem.W.Frag} {b a : Addr} {H H' : Hp} {xs : List V} (k : Kp b H H') (n : a ≠ b) (h : SqL K H a xs) : SqL K H' a xs := by
  rcases h with (h | ⟨o, h⟩) | h
  · exact .inl (.inl (k _ _ n h))
  · exact .inl (.inr ⟨o, k _ _ n h⟩)
  · exact .inr h

theorem iteP {c A B : Prop} [Decidable c] (hc : c) (h : A) : if c then A else B := by
  rw [if_pos hc]
  exact h
theorem iteN {c A B : Prop} [Decidable c] (hc : ¬ c) (h : B) : if c then A else B := by
  rw [if_neg hc]
  exact h
theorem nd_of {p : Prop} [Decidable p] (h : ¬ p) : ¬ decide p = true := fun z => h (of_decide_eq_true z)
theorem eqT {x : V} {Q : VK} {H : Hp} (h : Q (.bl true) H) : Q (.bl (decide (x = x))) H := by
  rw [decide_eq_true rfl]
  exact h
def isBool : D → Bool
  | .bl _ => true
  | _ => false
theorem kb_NoneType_bool : kitB "NoneType" "bool" = some false := by decide +kernel
theorem kb_bool_bool : kitB "bool" "bool" = some true := by decide +kernel
theorem kb_int_bool : kitB "int" "bool" = some false := by decide +kernel
theorem kb_str_bool : kitB "str" "bool" = some false := by decide +kernel
theorem kb_list_bool : kitB "list" "bool" = some false := by decide +kernel
theorem kb_tuple_bool : kitB "tuple" "bool" = some false := by decide +kernel
theorem kit_bool : ∀ d : D, kitB (tyD d) "bool" = some (isBool d)
  | .non => kb_NoneType_bool
  | .bl _ => kb_bool_bool
  | .int _ => kb_int_bool
  | .str _ => kb_str_bool
  | .lst _ => kb_list_bool
  | .tup _ => kb_tuple_bool
def isInt : D → Bool
  | .bl _ => true
  | .int _ => true
  | _ => false
theorem kb_NoneType_int : kitB "NoneType" "int" = some false := by decide +kernel
theorem kb_bool_int : kitB "bool" "int" = some true := by decide +kernel
theorem kb_int_int : kitB "int" "int" = some true := by decide +kernel
theorem kb_str_int : kitB "str" "int" = some false := by decide +kernel
theorem kb_list_int : kitB "list" "int" = some false := by decide +kernel
theorem kb_tuple_int : kitB "tuple" "int" = some false := by decide +kernel
theorem kit_int : ∀ d : D, kitB (tyD d) "int" = some (isInt d)
  | .non => kb_NoneType_int
  | .bl _ => kb_bool_int
  | .int _ => kb_int_int
  | .str _ => kb_str_int
  | .lst _ => kb_list_int
  | .tup _ => kb_tuple_int
def isStr : D → Bool
  | .str _ => true
  | _ => false
theorem kb_NoneType_str : kitB "NoneType" "str" = some false := by decide +kernel
theorem kb_bool_str : kitB "bool" "str" = some false := by decide +kernel
theorem kb_int_str : kitB "int" "str" = some false := by decide +kernel
theorem kb_str_str : kitB "str" "str" = some true := by decide +kernel
theorem kb_list_str : kitB "list" "str" = some false := by decide +kernel
theorem kb_tuple_str : kitB "tuple" "str" = some false := by decide +kernel
theorem kit_str : ∀ d : D, kitB (tyD d) "str" = some (isStr d)
  | .non => kb_NoneType_str
  | .bl _ => kb_bool_str
  | .int _ => kb_int_str
  | .str _ => kb_str_str
  | .lst _ => kb_list_str
  | .tup _ => kb_tuple_str
def isLst : D → Bool
  | .lst _ => true
  | _ => false
theorem kb_NoneType_list : kitB "NoneType" "list" = some false := by decide +kernel
theorem kb_bool_list : kitB "bool" "list" = some false := by decide +kernel
theorem kb_int_list : kitB "int" "list" = some false := by decide +kernel
theorem kb_str_list : kitB "str" "list" = some false := by decide +kernel
theorem kb_list_list : kitB "list" "list" = some true := by decide +kernel
theorem kb_tuple_list : kitB "tuple" "list" = some false := by decide +kernel
theorem kit_list : ∀ d : D, kitB (tyD d) "list" = some (isLst d)
  | .non => kb_NoneType_list
  | .bl _ => kb_bool_list
  | .int _ => kb_int_list
  | .str _ => kb_str_list
  | .lst _ => kb_list_list
  | .tup _ => kb_tuple_list
def isTup : D → Bool
  | .tup _ => true
  | _ => false
theorem kb_NoneType_tuple : kitB "NoneType" "tuple" = some false := by decide +kernel
theorem kb_bool_tuple : kitB "bool" "tuple" = some false := by decide +kernel
theorem kb_int_tuple : kitB "int" "tuple" = some false := by decide +kernel
theorem kb_str_tuple : kitB "str" "tuple" = some false := by decide +kernel
theorem kb_list_tuple : kitB "list" "tuple" = some false := by decide +kernel
theorem kb_tuple_tuple : kitB "tuple" "tuple" = some true := by decide +kernel
theorem kit_tuple : ∀ d : D, kitB (tyD d) "tuple" = some (isTup d)
  | .non => kb_NoneType_tuple
  | .bl _ => kb_bool_tuple
  | .int _ => kb_int_tuple
  | .str _ => kb_str_tuple
  | .lst _ => kb_list_tuple
  | .tup _ => kb_tuple_tuple
theorem kit_lt {K : PySem.W.Frag} (d : D) : PySem.W.kitAny K (.type (tyD d)) [.type "list", .type "tuple"] = some (isLst d || isTup d) := by
  refine kitAny_cons (kit_ty (kit_list d)) (fun e => ?_) (fun e => by rw [e]; rfl)
  rw [e, Bool.false_or]
  exact kitAny_cons (kit_ty (kit_tuple d)) (fun e => by rw [e]; rfl) (fun e => e)
structure TSm (mg : Str → Option Value) : Prop where
  isinstance : mg "isinstance" = none
  bool : mg "bool" = none
  int : mg "int" = none
  str : mg "str" = none
  list : mg "list" = none
  tuple : mg "tuple" = none
  len : mg "len" = none
  all : mg "all" = none
  zip : mg "zip" = none
theorem yes_if {σ : St} {H : Hp} {A B : Hp → Prop} (h : A H) : tYes σ H (fun b H3 => if b = true then A H3 else B H3) := by
  show (if true = true then A H else B H)
  rw [if_pos rfl]
  exact h
end RF

namespace RF
open PySem L2
/-! ### the bag at b with its cells at c, which stay there -/
def BagAt (H : Hp) (b c : Addr) : Prop := ∃ (ns : List Int) (i : Nat) (z r : Int), BagC H b c ns i z r
theorem Bag.here {H : Hp} {b : Addr} (B : Bag H b) : ∃ c, BagAt H b c := let ⟨c, ns, i, z, r, h⟩ := B; ⟨c, ns, i, z, r, h⟩
theorem BagAt.bag {H : Hp} {b c : Addr} (B : BagAt H b c) : Bag H b := let ⟨ns, i, z, r, h⟩ := B; ⟨c, ns, i, z, r, h⟩
theorem BagAt.atB {H : Hp} {b c : Addr} (B : BagAt H b c) : ∃ xs, H b = some (.lst xs) := B.bag.some
theorem BagAt.atC {H : Hp} {b c : Addr} (B : BagAt H b c) : ∃ xs, H c = some (.lst xs) := let ⟨_, _, _, _, h⟩ := B; ⟨_, h.cs⟩
theorem BagAt.same {H H' : Hp} {b c : Addr} (B : BagAt H b c) (s : Same H H') : BagAt H' b c := by
  obtain ⟨ns, i, z, r, h⟩ := B
  exact ⟨ns, i, z, r, h.ne, s _ _ h.at_, s _ _ h.cs, h.le, h.z0, h.r0, h.r1⟩
theorem BagAt.off {H : Hp} {b c p : Addr} (B : BagAt H b c) (h : H p = none) : p ≠ b ∧ p ≠ c := by
  obtain ⟨xs, hb⟩ := B.atB
  obtain ⟨ys, hc⟩ := B.atC
  exact ⟨(ne_of_none hb h).symm, (ne_of_none hc h).symm⟩
theorem BagAt.put {H : Hp} {b c p : Addr} {o : HO} (B : BagAt H b c) (h : p ≠ b ∧ p ≠ c) : BagAt (upd H p o) b c := by
  obtain ⟨ns, i, z, r, B⟩ := B
  exact ⟨ns, i, z, r, B.ne, by rw [upd_ne h.1.symm]; exact B.at_, by rw [upd_ne h.2.symm]; exact B.cs, B.le, B.z0, B.r0, B.r1⟩
theorem Kp.up {b p : Addr} {H H' : Hp} {o : HO} (k : Kp b H H') (h : H p = none) : Kp b H (L2.upd H' p o) := fun a u n e => by
  rw [upd_ne (ne_of_none e h)]
  exact k a u n e
theorem Kp.new {b p : Addr} {H H' : Hp} {o : HO} (k : Kp b H H') (h : H' p = none) : Kp b H (L2.upd H' p o) := k.trans (Kp.of (sNew (Same.refl _) h))
def spPullC : Sp := fun vs H Q _ => ∃ (b c : Addr) (k : Int), vs = [.ref b, .int k] ∧ BagAt H b c ∧ 0 < k ∧ k < 1073741824 ∧
  ∀ (d : Int) (H' : Hp), 0 ≤ d → d < k → BagAt H' b c → Kp b H H' → Q (.int d) H'
def spOfC (K : PySem.W.Frag) : Sp := fun vs H Q _ => ∃ (b c a : Addr) (xs : List V), vs = [.ref b, .ref a] ∧ BagAt H b c ∧ SqL K H a xs ∧ a ≠ b ∧ 0 < xs.length ∧ xs.length < 1000000 ∧
  ∀ (v : V) (H' : Hp), v ∈ xs → BagAt H' b c → Kp b H H' → Q v H'
def spRootC : Sp := fun vs H Q _ => ∃ (b c : Addr), vs = [.ref b] ∧ BagAt H b c ∧ ∀ (d : Int) (H' : Hp), d = 2 ∨ d = 3 ∨ d = 5 ∨ d = 6 ∨ d = 13 → BagAt H' b c → Kp b H H' → Q (.int d) H'
def spFarC : Sp := fun vs H Q _ => ∃ (b c : Addr) (k : Int), vs = [.ref b, .int k] ∧ BagAt H b c ∧ 0 < k ∧ k ≤ 1000 ∧ ∀ (n : Int) (H' : Hp), 0 ≤ n → n < 10 ^ k.toNat → BagAt H' b c → Kp b H H' → Q (.int n) H'
end RF

namespace RF
open PySem L2 PyProof.Rows
/-! ### max of a tuple of whole numbers -/
section
variable {prog : Program} {w : World} {A : Around} {E : Value → Shared → Prop} {s : Shared} {l : Addr} {xs : Array (Int × Tok)}
theorem max_tupI {Q : Value → Shared → Prop} (hh : A.handled = none) (hl : s.heap.IsTuple l (intItems xs)) (hne : 0 < xs.size)
    (h : ∀ v h' tk, (intItems xs)[argBest (fun i j => decide (numAt xs i > numAt xs j)) (xs.size - 1)]? = some v → (∀ b o, s.heap.get? b = some o → h'.get? b = some o) → Q v { s with heap := h', toks := tk }) :
    wpAny (model prog w) A (call (.builtin "max") [.ref l]) Q E s := by
  have hlt : l < s.heap.objs.size := by obtain ⟨_, e, _⟩ := hl; exact Heap.lt_size e
  have hpu : ∀ b ∈ [s.heap.objs.size, l], b < (s.heap.push { cls := .type "tuple_iterator", data := .fields #[.ref l, .int 0 0] }).objs.size := fun b hb => by
    rw [Heap.size_push]
    rcases List.mem_cons.mp hb with e | hb
    · rw [e]; exact Nat.lt_succ_self _
    · rcases List.mem_cons.mp hb with e | hb
      · rw [e]; exact Nat.lt_succ_of_lt hlt
      · cases hb
  refine call_max_walk (wpAny_pyIter_tuple hl ?_)
  refine ⟨_, _, _, _, _, _, _, rfl, Walks.tuple (A := A.in1) hh _ l (Nat.ne_of_lt hlt) (intItems xs), ⟨⟨_, Heap.get?_push_size _ rfl, rfl, rfl⟩, hl.push _⟩, hpu, by simpa [intItems] using hne, CmpOf.ints_gt (numAt xs) (fun _ _ => intItems_at), fun v h' tk hP hk => ?_⟩
  refine h v h' tk (by simpa [intItems] using hP) fun b o e => ?_
  refine hk b o (fun hm => ?_) (Heap.get?_push_of_some _ e)
  rcases List.mem_cons.mp hm with e1 | hm
  · exact absurd (e1 ▸ Heap.lt_size e) (Nat.lt_irrefl _)
  · cases hm
end
section
variable {X : Cx}
def rMaxT (K : PySem.W.Frag) : List V → Hp → VK → Prop := fun vs H Q => ∃ (a : Addr) (ns : List Int), vs = [V.ref a] ∧ SqT K H a (ns.map V.int) ∧ 0 < ns.length ∧ ∀ m, m ∈ ns → (∀ y, y ∈ ns → y ≤ m) → Q (.int m) H
theorem cr_maxT (hc : X.calm = true) : CallR X (.builtin "max") (rMaxT X.K) := by
  intro pins s σ H vs us Q I r h
  obtain ⟨a, ns, rfl, hs, hne, q⟩ := h
  obtain ⟨its, rv, hl, _⟩ := I.tuple hs
  rw [Vals.ref1 r]
  obtain ⟨xs, e⟩ := rv.ints.allInts.items
  have hn : numsOf (intItems xs).toList = ns := by rw [← e]; exact rv.ints.numsOf
  rw [nums_intItems] at hn
  subst hn
  rw [e] at hl
  have hsz : 0 < xs.size := by simpa using hne
  refine max_tupI (I.ok.hd hc) hl hsz fun v h' tk hv hk => ?_
  obtain ⟨t, rfl⟩ := intItems_at hv
  obtain ⟨h1, h2⟩ := argBest_gt (numAt xs) (xs.size - 1)
  refine ⟨.int _, H, I.kept hk, ⟨_, rfl⟩, q _ ?_ fun a ha => ?_⟩
  · rw [numAt_eq]; exact PySem.getD_mem (by rw [List.length_map, Array.length_toList]; omega)
  · obtain ⟨j, hj, rfl⟩ := PySem.mem_getD ha
    rw [List.length_map, Array.length_toList] at hj
    rw [← numAt_eq]; exact h2 j (by omega)

/-! ### a property of a class, by its promise -/
structure Pt (P : Program) (w : World) (K : PySem.W.Frag) (mg : Str → Option Value) (base : Heap) (C : Addr) (k : Nat) (m : Str) (sp : Sp) : Prop where
  ex : ∃ (p g : Addr) (fd : FuncData), PropOf K C m p g ∧ FnOk P w K mg base CX0 k g fd ["self"] sp ∧ Binds K fd ["self"] []
theorem pe_pt {j k : Nat} {C : Addr} {m : Str} {sp : Sp} {o : Expr} {pos : Pos} {ta : TE} (he : PE X o ta) (c : Cls X.K C) (M : Pt X.prog X.w X.K X.mg X.base C k m sp) (hr : Room j X.A) (hk : k + 1 ≤ j)
    (hab : attributeBase o m X.env (eval o X.env) = eval o X.env := by rfl) : PE X (.Attribute o m pos) (tProp C sp [] E0 ta) := by
  obtain ⟨p, g, fd, hp, F, b⟩ := M.ex
  exact pe_prop he c hp F (hr.mono hk) b .nil pass0 hab

/-! ### calls by keywords alone -/
/-- f(k = v, ..) -/
theorem pe_callN0 {CX : CXT} {k : Nat} {f : Addr} {fd : FuncData} {ps ks : List Str} {sp : Sp} {E : XK} {x : Str} {p pos : Pos} {kws : List Keyword} {tk : TA} {g : List Value → List Value → List Value} {gV : List V → List V → List V}
    (F : FnOk X.prog X.w X.K X.mg X.base CX k f fd ps sp) (hr : Room k X.A) (hg : Gl X x) (hm : X.mg x = some (.ref f)) (hk : PySem.W.keepIn X.K (.ref f) = true) (hb : KBn X.K fd ps 0 ks g gV) (hx : Passes CX X E) (hkw : PK X kws tk)
    (hall : (backToKw pos (keywordEach kws X.env)).all (·.1.isSome) = true := by rfl) (hks : (backToKw pos (keywordEach kws X.env)).filterMap (·.1) = ks := by rfl) (hdb : (x == ("__debug__" : Str)) = false := by decide)
    (hpl : ((backTo pos (starEach [] X.env)).any (·.1) || (backToKw pos (keywordEach kws X.env)).any (·.1.isNone)) = false := by rfl) :
    PE X (.Call (.Name x p) [] kws pos) (tCallN 0 ks.length sp gV E tNil tk) := by
  refine ⟨fun pins s σ H Q I h => ?_⟩
  refine wpAny_Call_Name_kw (ld_glob I hg hm ?_ hdb)
  refine PySem.W.callWith_KW0 (h₀ := X.base) I.ok.mod.kin hk hall ?_ hpl
  refine thn (hkw.run pos pins s σ H _ I h) fun ws s2 ⟨zs, H2, I2, rz, l1, l2, q2⟩ => ⟨I2.kIn, ?_⟩
  rw [hks]
  exact run_fnN (us := []) (vs := []) F hr hb hx I2 .nil rz l1 l2 q2
/-- a def that is called by keywords alone, by its promise -/
structure Dk (P : Program) (w : World) (K : PySem.W.Frag) (mg : Str → Option Value) (base : Heap) (k : Nat) (x : Str) (ps ks : List Str) (gV : List V → List V → List V) (sp : Sp) : Prop where
  ex : ∃ (f : Addr) (fd : FuncData) (g : List Value → List Value → List Value), FnOk P w K mg base CX0 k f fd ps sp ∧ KBn K fd ps 0 ks g gV ∧ mg x = some (.ref f) ∧ PySem.W.keepIn K (.ref f) = true
theorem pe_kD {j k : Nat} {ps ks : List Str} {sp : Sp} {x : Str} {p pos : Pos} {kws : List Keyword} {tk : TA} {gV : List V → List V → List V} (D : Dk X.prog X.w X.K X.mg X.base k x ps ks gV sp) (hr : Room j X.A) (hj : k ≤ j) (hkw : PK X kws tk) (hg : Gl X x := by rfl)
    (hall : (backToKw pos (keywordEach kws X.env)).all (·.1.isSome) = true := by rfl) (hks : (backToKw pos (keywordEach kws X.env)).filterMap (·.1) = ks := by rfl) (hdb : (x == ("__debug__" : Str)) = false := by decide)
    (hpl : ((backTo pos (starEach [] X.env)).any (·.1) || (backToKw pos (keywordEach kws X.env)).any (·.1.isNone)) = false := by rfl) :
    PE X (.Call (.Name x p) [] kws pos) (tCallN 0 ks.length sp gV E0 tNil tk) := by
  obtain ⟨f, fd, g, F, hb, hm, hk⟩ := D.ex
  exact pe_callN0 F (hr.mono hj) hg hm hk hb pass0 hkw hall hks hdb hpl
end
theorem Fun.kbn {K : PySem.W.Frag} {x qual : Str} {st : Stmt} {f : Addr} {fd : FuncData} {ps : List Str} (F : Fun K x qual st f fd) (n : Nat) (ks : List Str) (g : {α : Type} → List α → List α → List α)
    (hrel : ∀ {vs zs : List V} {us ws : List Value}, Vals vs us → Vals zs ws → Vals (g vs zs) (g us ws))
    (h : ∀ (kV doc pm : Value) (an : Option Addr) (cdv ct : Value) (us ws : List Value), us.length = n → ws.length = ks.length → bindArgs (PySem.W.fnOf x qual (defArgs st) (defBody st) (defScope st) .none kV doc pm an cdv ct) ⟨us, ks.zip ws⟩ = pure (ps.zip (g us ws))) :
    KBn K fd ps n ks (fun us ws => g us ws) (fun vs zs => g vs zs) := by
  obtain ⟨oc, od, kV, doc, pm, an, cdv, ct, osl, rfl, lk, hcd⟩ := F.ex
  exact ⟨fun s us ws _ l1 l2 => .of_eq (h kV doc pm an cdv ct us ws l1 l2), fun r1 r2 => hrel r1 r2⟩
end RF

namespace RF
theorem sq_nonneg (a : Int) : 0 ≤ a * a := by
  rcases Int.le_total 0 a with h | h
  · exact Int.mul_nonneg h h
  · exact Int.mul_nonneg_of_nonpos_of_nonpos h h
theorem sq_le {a b : Int} (ha : 0 ≤ a) (h : a ≤ b) : a * a ≤ b * b := Int.mul_le_mul h h ha (by omega)
theorem sq_lt {a b : Int} (ha : 0 ≤ a) (h : a < b) : a * a < b * b := by
  have h1 : a * a ≤ a * b := Int.mul_le_mul_of_nonneg_left (by omega) ha
  have h2 : a * b < b * b := Int.mul_lt_mul_of_pos_right h (by omega)
  omega
theorem le_of_sq {a b : Int} (hb : 0 ≤ b) (h : a * a ≤ b * b) : a ≤ b := by
  rcases Int.lt_or_le b a with z | z
  · have := sq_lt hb z
    omega
  · exact z
theorem lt_of_sq {a b : Int} (hb : 0 ≤ b) (h : a * a < b * b) : a < b := by
  rcases Int.lt_or_le a b with z | z
  · exact z
  · have := sq_le hb z
    omega
/-! ### square roots of integers -/
def rt (n : Int) : Int := ((PySem.Float64.isqrt n.toNat : Nat) : Int)
theorem rt_nn (n : Int) : 0 ≤ rt n := Int.natCast_nonneg _
theorem rt_le {n : Int} (h : 0 ≤ n) : rt n * rt n ≤ n := by
  have := (PySem.Float64.isqrt_spec n.toNat).1
  have e : ((PySem.Float64.isqrt n.toNat * PySem.Float64.isqrt n.toNat : Nat) : Int) ≤ ((n.toNat : Nat) : Int) := Int.ofNat_le.mpr this
  rw [Int.natCast_mul] at e
  unfold rt
  omega
theorem rt_lt {n : Int} (h : 0 ≤ n) : n < (rt n + 1) * (rt n + 1) := by
  have := (PySem.Float64.isqrt_spec n.toNat).2
  have e : ((n.toNat : Nat) : Int) < (((PySem.Float64.isqrt n.toNat + 1) * (PySem.Float64.isqrt n.toNat + 1) : Nat) : Int) := Int.ofNat_lt.mpr this
  rw [Int.natCast_mul, Int.natCast_add] at e
  unfold rt
  have e2 : ((n.toNat : Nat) : Int) = n := by omega
  rw [e2] at e
  exact e
theorem rt_uniq {n r : Int} (h : 0 ≤ n) (r0 : 0 ≤ r) (r1 : r * r ≤ n) (r2 : n < (r + 1) * (r + 1)) : r = rt n := by
  have a := rt_le h
  have b := rt_lt h
  have c := rt_nn n
  have h1 : r < rt n + 1 := lt_of_sq (by omega) (by omega)
  have h2 : rt n < r + 1 := lt_of_sq (by omega) (by omega)
  omega
/-! ### the roots -/
def Root (d : Int) : Prop := d = 2 ∨ d = 3 ∨ d = 5 ∨ d = 6 ∨ d = 13
theorem Root.pos {d : Int} (h : Root d) : 0 < d := by unfold Root at h; omega
theorem Root.le {d : Int} (h : Root d) : d ≤ 13 := by unfold Root at h; omega
theorem ex_mul (i : Int) {p : Int} (h : i % p = 0) : ∃ t, i = p * t := ⟨i / p, by
  have := Int.mul_ediv_add_emod i p
  rw [h] at this
  omega⟩
theorem dvd2 {i c : Int} (h : i * i = 2 * c) : ∃ t, i = 2 * t := ex_mul i (by
  have e : (i * i) % 2 = 0 := by omega
  rw [Int.mul_emod] at e
  have : i % 2 = 0 ∨ i % 2 = 1 := by omega
  rcases this with z | z
  · exact z
  · rw [z] at e; simp at e)
theorem dvd3 {i c : Int} (h : i * i = 3 * c) : ∃ t, i = 3 * t := ex_mul i (by
  have e : (i * i) % 3 = 0 := by omega
  rw [Int.mul_emod] at e
  have : i % 3 = 0 ∨ i % 3 = 1 ∨ i % 3 = 2 := by omega
  rcases this with z | z | z
  · exact z
  · rw [z] at e; simp at e
  · rw [z] at e; simp at e)
theorem dvd5 {i c : Int} (h : i * i = 5 * c) : ∃ t, i = 5 * t := ex_mul i (by
  have e : (i * i) % 5 = 0 := by omega
  rw [Int.mul_emod] at e
  have : i % 5 = 0 ∨ i % 5 = 1 ∨ i % 5 = 2 ∨ i % 5 = 3 ∨ i % 5 = 4 := by omega
  rcases this with z | z | z | z | z
  · exact z
  all_goals (rw [z] at e; simp at e))
theorem dvd13 {i c : Int} (h : i * i = 13 * c) : ∃ t, i = 13 * t := ex_mul i (by
  have e : (i * i) % 13 = 0 := by omega
  rw [Int.mul_emod] at e
  have : i % 13 = 0 ∨ i % 13 = 1 ∨ i % 13 = 2 ∨ i % 13 = 3 ∨ i % 13 = 4 ∨ i % 13 = 5 ∨ i % 13 = 6 ∨ i % 13 = 7 ∨ i % 13 = 8 ∨ i % 13 = 9 ∨ i % 13 = 10 ∨ i % 13 = 11 ∨ i % 13 = 12 := by omega
  rcases this with z | z | z | z | z | z | z | z | z | z | z | z | z
  · exact z
  all_goals (rw [z] at e; simp at e))
/-- one step down -/
theorem down {d i j : Int} (hd : Root d) (h : i * i = d * (j * j)) : ∃ p i' j' : Int, 2 ≤ p ∧ j = p * j' ∧ i' * i' = d * (j' * j') := by
  rcases hd with rfl | rfl | rfl | rfl | rfl
  · obtain ⟨t, rfl⟩ := dvd2 h
    obtain ⟨u, rfl⟩ := dvd2 (i := j) (c := t * t) (by grind)
    exact ⟨2, t, u, by omega, rfl, by grind⟩
  · obtain ⟨t, rfl⟩ := dvd3 h
    obtain ⟨u, rfl⟩ := dvd3 (i := j) (c := t * t) (by grind)
    exact ⟨3, t, u, by omega, rfl, by grind⟩
  · obtain ⟨t, rfl⟩ := dvd5 h
    obtain ⟨u, rfl⟩ := dvd5 (i := j) (c := t * t) (by grind)
    exact ⟨5, t, u, by omega, rfl, by grind⟩
  · obtain ⟨t, rfl⟩ := dvd3 (i := i) (c := 2 * (j * j)) (by grind)
    obtain ⟨u, rfl⟩ := dvd3 (i := j) (c := 2 * (t * t) - (j * j)) (by grind)
    exact ⟨3, t, u, by omega, rfl, by grind⟩
  · obtain ⟨t, rfl⟩ := dvd13 h
    obtain ⟨u, rfl⟩ := dvd13 (i := j) (c := t * t) (by grind)
    exact ⟨13, t, u, by omega, rfl, by grind⟩
theorem nonsq {d : Int} (hd : Root d) : ∀ (n : Nat) (i j : Int), j.natAbs ≤ n → i * i = d * (j * j) → j = 0
  | 0, i, j, hn, _ => by omega
  | n + 1, i, j, hn, h => by
    obtain ⟨p, i', j', hp, e, h'⟩ := down hd h
    rcases Int.lt_trichotomy j' 0 with z | z | z
    · have : j'.natAbs ≤ n := by
        have h1 : p * j' ≤ 2 * j' := by
          have := Int.mul_le_mul_of_nonpos_right hp (by omega : j' ≤ 0)
          omega
        omega
      have := nonsq hd n i' j' this h'
      omega
    · rw [e, z]; simp
    · have : j'.natAbs ≤ n := by
        have h1 : 2 * j' ≤ p * j' := Int.mul_le_mul_of_nonneg_right hp (by omega)
        omega
      have := nonsq hd n i' j' this h'
      omega
theorem irr {d i j : Int} (hd : Root d) (h : i * i = d * (j * j)) : j = 0 := nonsq hd j.natAbs i j (Nat.le_refl _) h
end RF

namespace RF
theorem ring1 (x s : Int) : (x + s) * (x + s) = (x - s) * (x - s) + 4 * (x * s) := by grind
theorem amgm (x q y n : Int) (hx : 0 < x) (hq : 0 ≤ q) (hn : n < x * (q + 1)) (hy : x + q ≤ 2 * y + 1) : n < (y + 1) * (y + 1) := by
  have h1 := ring1 x (q + 1)
  have h0 : 0 ≤ (x - (q + 1)) * (x - (q + 1)) := by
    rcases Int.le_total 0 (x - (q + 1)) with h | h
    · exact Int.mul_nonneg h h
    · exact Int.mul_nonneg_of_nonpos_of_nonpos h h
  have h2 : (x + (q + 1)) * (x + (q + 1)) ≤ (2 * (y + 1)) * (2 * (y + 1)) := Int.mul_le_mul (by omega) (by omega) (by omega) (by omega)
  have h3 : (2 * (y + 1)) * (2 * (y + 1)) = 4 * ((y + 1) * (y + 1)) := by grind
  omega
end RF

namespace RF
/-- the size of an integer, as abs gives it -/
def ab (i : Int) : Int := if i < 0 then -i else i
theorem ab_nn (i : Int) : 0 ≤ ab i := by unfold ab; split <;> omega
theorem ab_pos {i : Int} (h : 0 ≤ i) : ab i = i := by unfold ab; rw [if_neg (by omega)]
theorem ab_neg {i : Int} (h : i ≤ 0) : ab i = -i := by
  unfold ab
  split <;> omega
/-- i|i| + d j|j|: it has the sign of i + j r -/
def sgb (d i j : Int) : Int := i * ab i + d * j * ab j
def sg (d i j : Int) : Int := if 0 < sgb d i j then 1 else if sgb d i j < 0 then -1 else 0
/-- the floor of f times the root -/
def flr (d f : Int) : Int := if f < 0 then -rt (d * f * f) - 1 else rt (d * f * f)
theorem dff (d f : Int) : d * f * f = d * (f * f) := Int.mul_assoc d f f
theorem dff_nn {d f : Int} (hd : Root d) : 0 ≤ d * f * f := by
  rw [dff]
  exact Int.mul_nonneg (Int.le_of_lt hd.pos) (sq_nonneg f)
theorem keyL {d x y : Int} (hd : Root d) : 0 ≤ sgb d x y ↔ 0 ≤ x + flr d y := by
  have r0 := rt_nn (d * y * y)
  have r1 := rt_le (dff_nn hd (f := y))
  have r2 := rt_lt (dff_nn hd (f := y))
  have dn := dff_nn hd (f := y)
  generalize hr : rt (d * y * y) = r at *
  rcases Int.lt_or_le y 0 with hy | hy
  · have ef : flr d y = -r - 1 := by unfold flr; rw [if_pos hy, hr]
    have eb : sgb d x y = x * ab x - d * y * y := by unfold sgb; rw [ab_neg (Int.le_of_lt hy)]; grind
    rw [ef, eb]
    have ne : r * r ≠ d * y * y := fun e => by
      have := irr hd (i := r) (j := y) (by rw [e, dff])
      omega
    have lt : r * r < d * y * y := by omega
    have dp : 0 < d * y * y := by
      have := sq_nonneg r
      omega
    rcases Int.lt_or_le x 0 with hx | hx
    · rw [ab_neg (Int.le_of_lt hx)]
      have := sq_nonneg x
      have e : x * -x = -(x * x) := by grind
      omega
    · rw [ab_pos hx]
      constructor
      · intro h
        have : r < x := lt_of_sq hx (by omega)
        omega
      · intro h
        have : (r + 1) * (r + 1) ≤ x * x := sq_le (by omega) (by omega)
        omega
  · have ef : flr d y = r := by unfold flr; rw [if_neg (by omega), hr]
    have eb : sgb d x y = x * ab x + d * y * y := by unfold sgb; rw [ab_pos hy]
    rw [ef, eb]
    rcases Int.lt_or_le x 0 with hx | hx
    · rw [ab_neg (Int.le_of_lt hx)]
      have e : x * -x = -((-x) * (-x)) := by grind
      constructor
      · intro h
        have : -x < r + 1 := lt_of_sq (by omega) (by omega)
        omega
      · intro h
        have : (-x) * (-x) ≤ r * r := sq_le (by omega) (by omega)
        omega
    · rw [ab_pos hx]
      have := sq_nonneg x
      omega
theorem ab_mul {g i : Int} (hg : 0 ≤ g) : ab (g * i) = g * ab i := by
  rcases Int.lt_or_le i 0 with h | h
  · have : g * i ≤ 0 := Int.mul_nonpos_of_nonneg_of_nonpos hg (by omega)
    rw [ab_neg this, ab_neg (by omega)]
    grind
  · rw [ab_pos (Int.mul_nonneg hg h), ab_pos h]
theorem sgb_mul {d g i j : Int} (hg : 0 ≤ g) : sgb d (g * i) (g * j) = g * g * sgb d i j := by
  unfold sgb
  rw [ab_mul hg, ab_mul hg]
  grind
theorem sgb_neg {d i j : Int} : sgb d (-i) (-j) = -sgb d i j := by
  have h : ∀ i, ab (-i) = ab i := fun i => by unfold ab; split <;> split <;> omega
  unfold sgb
  rw [h, h]
  grind
theorem sg_mul {d g i j : Int} (hg : 0 < g) : sg d (g * i) (g * j) = sg d i j := by
  have hp : 0 < g * g := Int.mul_pos hg hg
  have e := sgb_mul (d := d) (i := i) (j := j) (Int.le_of_lt hg)
  unfold sg
  rw [e]
  rcases Int.lt_trichotomy (sgb d i j) 0 with h | h | h
  · have : g * g * sgb d i j < 0 := Int.mul_neg_of_pos_of_neg hp h
    rw [if_neg (by omega), if_pos this, if_neg (by omega), if_pos h]
  · rw [h]; simp
  · have : 0 < g * g * sgb d i j := Int.mul_pos hp h
    rw [if_pos this, if_pos h]
theorem sg_neg {d i j : Int} : sg d (-i) (-j) = -sg d i j := by
  have e := sgb_neg (d := d) (i := i) (j := j)
  unfold sg
  rw [e]
  rcases Int.lt_trichotomy (sgb d i j) 0 with h | h | h
  · rw [if_pos (by omega), if_neg (by omega), if_pos h]; rfl
  · rw [h]; rfl
  · rw [if_neg (by omega), if_pos (by omega), if_pos h]
/-- the law's own sign -/
theorem sg_pp {d i j : Int} (hd : Root d) (hi : 0 ≤ i) (hj : 0 ≤ j) : sg d i j = if 0 < i ∨ 0 < j then 1 else 0 := by
  have hp := hd.pos
  have e : sgb d i j = i * i + d * (j * j) := by unfold sgb; rw [ab_pos hi, ab_pos hj]; grind
  have a := sq_nonneg i
  have b := sq_nonneg j
  have b' : 0 ≤ d * (j * j) := Int.mul_nonneg (by omega) b
  unfold sg
  rw [e]
  by_cases h : 0 < i ∨ 0 < j
  · rw [if_pos h, if_pos]
    rcases h with h | h
    · have : 0 < i * i := Int.mul_pos h h
      omega
    · have : 0 < d * (j * j) := Int.mul_pos hp (Int.mul_pos h h)
      omega
  · have hi0 : i = 0 := by omega
    have hj0 : j = 0 := by omega
    rw [if_neg h, hi0, hj0]
    simp
theorem sg_nn {d i j : Int} (hd : Root d) (hi : i ≤ 0) (hj : j ≤ 0) (h : ¬ (0 ≤ i ∧ 0 ≤ j)) : sg d i j = -1 := by
  have e : sg d i j = -sg d (-i) (-j) := by rw [sg_neg]; omega
  rw [e, sg_pp hd (by omega) (by omega), if_pos (by omega)]
theorem sg_pn {d i j : Int} (hd : Root d) (hi : 0 < i) (hj : j < 0) : sg d i j = if j * j * d < i * i then 1 else -1 := by
  have e : sgb d i j = i * i - j * j * d := by unfold sgb; rw [ab_pos (by omega), ab_neg (by omega)]; grind
  have ne : i * i ≠ j * j * d := fun q => by
    have := irr hd (i := i) (j := j) (by rw [q]; grind)
    omega
  unfold sg
  rw [e]
  split <;> split <;> first | rfl | omega | skip
theorem sg_np {d i j : Int} (hd : Root d) (hi : i < 0) (hj : 0 < j) : sg d i j = if i * i < j * j * d then 1 else -1 := by
  have e : sgb d i j = j * j * d - i * i := by unfold sgb; rw [ab_pos (i := j) (by omega), ab_neg (i := i) (by omega)]; grind
  have ne : i * i ≠ j * j * d := fun q => by
    have := irr hd (i := i) (j := j) (by rw [q]; grind)
    omega
  unfold sg
  rw [e]
  split <;> split <;> first | rfl | omega | skip
theorem sg_nonneg {d i j : Int} (hd : Root d) : 0 ≤ sg d i j ↔ 0 ≤ i + flr d j := by
  rw [← keyL hd]
  unfold sg
  split
  · omega
  · split <;> omega
theorem flr_ring {d f : Int} : rt (f * f * d) = rt (d * f * f) := by rw [show f * f * d = d * f * f by grind]
end RF

namespace RF
/-! ### whether a + j r is below or above 0, by floors -/
theorem flr_zero (d : Int) : flr d 0 = 0 := by
  unfold flr
  rw [if_neg (by decide), show d * 0 * 0 = 0 by simp]
  have h := rt_le (n := 0) (by decide)
  have := rt_nn 0
  by_cases z : rt 0 = 0
  · exact z
  · have : 1 ≤ rt 0 := by omega
    have := Int.mul_le_mul this this (by decide) (by omega)
    omega
theorem flr_opp {d j : Int} (h : j ≠ 0) : flr d (-j) = -flr d j - 1 := by
  have e : d * -j * -j = d * j * j := by grind
  unfold flr
  rw [e]
  by_cases z : j < 0
  · rw [if_neg (by omega), if_pos z]; omega
  · rw [if_pos (by omega), if_neg z]
/-- 1 if j is 0 -/
def z01 (j : Int) : Int := if j = 0 then 1 else 0
theorem z01_neg (j : Int) : z01 (-j) = z01 j := by
  unfold z01
  by_cases h : j = 0
  · rw [if_pos h, if_pos (by omega)]
  · rw [if_neg h, if_neg (by omega)]
theorem kept_ge {d a j : Int} (hd : Root d) : (0 ≤ sg d a j) ↔ (flr d (-j) < a + z01 j) := by
  rw [sg_nonneg hd]
  unfold z01
  by_cases h : j = 0
  · subst h
    rw [if_pos rfl, show (-0 : Int) = 0 from rfl, flr_zero]
    omega
  · rw [if_neg h, flr_opp h]
    omega
theorem kept_le {d a j : Int} (hd : Root d) : (sg d a j ≤ 0) ↔ (flr d j < -a + z01 j) := by
  have h := kept_ge (d := d) (a := -a) (j := -j) hd
  rw [sg_neg, Int.neg_neg, z01_neg] at h
  rw [← h]
  omega
/-- the continued fractions: (i + r) / k -/
def tlI (d : Int) (n : Nat) : Int := if d = 13 then 3 else if d = 6 then 2 else 1
def tlK (d : Int) (n : Nat) : Int := if d = 2 then 1 else if (d = 3 ∨ d = 6) ∧ n % 2 = 1 then 1 else 2
theorem tlK_or (d : Int) (n : Nat) : tlK d n = 1 ∨ tlK d n = 2 := by
  unfold tlK
  split
  · exact .inl rfl
  · split
    · exact .inl rfl
    · exact .inr rfl
theorem tlI_bd (d : Int) (n : Nat) : 1 ≤ tlI d n ∧ tlI d n ≤ 3 := by
  unfold tlI
  split
  · omega
  · split <;> omega
/-- whether the pair is kept, by the sizes of sums -/
def kpt (d B u v : Int) (n : Nat) : Bool :=
  decide (0 ≤ sg d (tlK d n * u - tlI d n * v + tlK d n * B) (-1 * v)) && decide (sg d (tlK d n * u - tlI d n * v - tlK d n * B) (-1 * v) ≤ 0)
/-- the same, by floors -/
theorem kpt_fl {d B u v : Int} {n : Nat} (hd : Root d) :
    kpt d B u v n = (decide (flr d (-1 * v) < B * tlK d n - (tlK d n * u - tlI d n * v) + z01 (-1 * v)) && decide (flr d (-(-1 * v)) < B * tlK d n + (tlK d n * u - tlI d n * v) + z01 (-1 * v))) := by
  have e1 : B * tlK d n = tlK d n * B := Int.mul_comm _ _
  unfold kpt
  have h1 := kept_ge (a := tlK d n * u - tlI d n * v + tlK d n * B) (j := -1 * v) hd
  have h2 := kept_le (a := tlK d n * u - tlI d n * v - tlK d n * B) (j := -1 * v) hd
  rw [show -(tlK d n * u - tlI d n * v - tlK d n * B) = tlK d n * B - (tlK d n * u - tlI d n * v) by omega] at h2
  rw [show tlK d n * u - tlI d n * v + tlK d n * B = tlK d n * B + (tlK d n * u - tlI d n * v) by omega] at h1 ⊢
  rw [e1, decide_eq_decide.mpr h1, decide_eq_decide.mpr h2, Bool.and_comm]
/-- the number C -/
def tp (d : Int) : Int := if d = 13 then 3 else if d = 6 then 4 else if d = 5 then 1 else 2
def absum (fs : List Int) : Int := (fs.map ab).sum
def bnd (d : Int) (fs : List Int) : Int := 3 * tp d * absum fs
theorem absum_nn : ∀ fs : List Int, 0 ≤ absum fs
  | [] => by decide
  | f :: r => by
    have := absum_nn r
    have := ab_nn f
    show 0 ≤ ab f + absum r
    omega
theorem absum_le : ∀ fs : List Int, (∀ f ∈ fs, -5 ≤ f ∧ f ≤ 5) → absum fs ≤ 5 * fs.length
  | [], _ => by decide
  | f :: r, h => by
    have h1 := absum_le r fun x hx => h x (List.mem_cons_of_mem _ hx)
    have h2 := h f List.mem_cons_self
    have : ab f ≤ 5 := by unfold ab; split <;> omega
    show ab f + absum r ≤ 5 * ((r.length + 1 : Nat) : Int)
    omega
theorem tp_bd (d : Int) : 1 ≤ tp d ∧ tp d ≤ 4 := by
  unfold tp
  split
  · omega
  · split
    · omega
    · split <;> omega
theorem sg_zero (d : Int) : sg d 0 0 = 0 := by
  have : sgb d 0 0 = 0 := by unfold sgb; simp
  unfold sg
  rw [this, if_neg (by decide), if_neg (by decide)]
theorem kpt_at {d B : Int} {n : Nat} (hd : Root d) (hB : 0 ≤ B) : kpt d B B 0 n = true := by
  have k := tlK_or d n
  have kB : 0 ≤ tlK d n * B := Int.mul_nonneg (by omega) hB
  unfold kpt
  rw [show -1 * (0 : Int) = 0 from rfl, show tlI d n * 0 = 0 from Int.mul_zero _, show tlK d n * B - 0 - tlK d n * B = 0 by omega, sg_zero, Int.sub_zero]
  rw [decide_eq_true ((sg_nonneg hd).mpr (by rw [flr_zero]; omega)), decide_eq_true (Int.le_refl 0)]
  rfl
theorem kpt_off {d B : Int} {n : Nat} (hd : Root d) (hB : 0 ≤ B) : kpt d B (B + 1) 0 n = false := by
  have k := tlK_or d n
  unfold kpt
  have e : tlK d n * (B + 1) - tlI d n * 0 - tlK d n * B = tlK d n := by rw [Int.mul_add, Int.mul_zero]; omega
  have s1 : sg d (tlK d n) 0 = 1 := by rw [sg_pp hd (by omega) (by decide), if_pos (Or.inl (by omega))]
  rw [show -1 * (0 : Int) = 0 from rfl, e, s1, Bool.and_eq_false_iff]
  exact .inr (by decide)
end RF

namespace RF
open PySem L2
/-! ### built-in functions of math -/
theorem args_gcd3 (a b c : Value) : argsOk "math.gcd" ⟨[a, b, c], []⟩ := by
  unfold argsOk
  kernel_rfl
theorem run_gcd3 (a : Int) (t : Tok) (b : Int) (u : Tok) (c : Int) (v : Tok) :
    Gives (Builtin.«math.gcd» ⟨[.int a t, .int b u, .int c v], []⟩) (.int (((((Nat.gcd 0 a.natAbs).gcd b.natAbs).gcd c.natAbs : Nat) : Int))) :=
  .of_wp fun M A E s Q h => by
    obtain ⟨hp, g, d, tk, os⟩ := s
    wp_walk
    exact ⟨_, rfl, h⟩

section
variable {X : Cx}
theorem vals3 {x y z : V} {us : List Value} (r : Vals [x, y, z] us) : ∃ u v w, us = [u, v, w] ∧ RelV x u ∧ RelV y v ∧ RelV z w := by
  cases r with
  | cons a r => cases r with
    | cons b r => cases r with
      | cons c r => cases r; exact ⟨_, _, _, rfl, a, b, c⟩
def rGcd3 : List V → Hp → VK → Prop := fun vs H Q => ∃ a b c : Int, vs = [.int a, .int b, .int c] ∧ Q (.int ((Nat.gcd (Nat.gcd a.natAbs b.natAbs) c.natAbs : Nat) : Int)) H
theorem cr_gcd3 : CallR X (.builtin "math.gcd") rGcd3 := by
  intro pins s σ H vs us Q I r h
  obtain ⟨a, b, c, rfl, q⟩ := h
  obtain ⟨u1, u2, u3, rfl, ⟨t1, rfl⟩, ⟨t2, rfl⟩, ⟨t3, rfl⟩⟩ := vals3 r
  have g := run_gcd3 a t1 b t2 c t3
  rw [Nat.gcd_zero_left] at g
  exact call_function_meets PySem.W.MGF.kind_gcd PySem.W.MGF.plain_gcd PySem.W.MGF.entry_gcd (args_gcd3 _ _ _) g.meets (show EP X pins σ Q _ _ from ⟨.int _, H, I.tok _, ⟨_, rfl⟩, q⟩)
def rIsqrt : List V → Hp → VK → Prop := fun vs H Q => ∃ a : Int, vs = [.int a] ∧ 0 ≤ a ∧ a.toNat.log2 < 13000 ∧ Q (.int ((Float64.isqrt a.toNat : Nat) : Int)) H
theorem cr_isqrt : CallR X (.builtin "math.isqrt") rIsqrt := by
  intro pins s σ H vs us Q I r h
  obtain ⟨a, rfl, h0, h1, q⟩ := h
  obtain ⟨u, rfl, t, rfl⟩ := vals1 r
  exact call_function_meets PySem.W.MGF.kind_isqrt PySem.W.MGF.plain_isqrt PySem.W.MGF.entry_isqrt (PySem.W.MGF.args_isqrt _) (PySem.W.mg_run_isqrt a t (by omega) (by omega) (by omega)).meets
    (show EP X pins σ Q _ _ from ⟨.int _, H, I.tok _, ⟨_, rfl⟩, q⟩)

/-! ### operators of an own class -/
/-- C has the operator as the def at f -/
structure OwnOp (K : PySem.W.Frag) (C f : Addr) (m : Str) : Prop where
  first : PySem.W.selfFirst K C = true
  at_ : PySem.W.findIn K (.ref C) m = some (some (.ref f))
  fn : PySem.W.isFn K (.ref f) = true
def rOwn2 (C : Addr) (sp : Sp) (E : XK) : R2 := fun x y H Q => ∃ a b dx dy fs gs, x = .ref a ∧ y = .ref b ∧ H a = some (.ins C dx fs) ∧ H b = some (.ins C dy gs) ∧ sp [.ref a, .ref b] H Q E
theorem notImpl {v : V} {u : Value} {P : Value → Shared → Prop} {s : Shared} (r : RelV v u) (h : P u s) : PySem.W.CmpBack P u s := by
  cases v with
  | non => cases r; exact h
  | bl _ => cases r; exact h
  | int _ => obtain ⟨t, rfl⟩ := r; exact h
  | str _ => obtain ⟨t, rfl⟩ := r; exact h
  | byt _ => obtain ⟨t, rfl⟩ := r; exact h
  | flt _ => obtain ⟨t, rfl⟩ := r; exact h
  | ref _ => cases r; exact h
  | ty _ => cases r; exact h
theorem op_own {CX : CXT} {op : Operator} {n : Nat} {C f : Addr} {sp : Sp} {E : XK} (F : FnR X.prog X.w X.K X.mg X.base CX n f sp) (hr : Room n X.A) (O : OwnOp X.K C f (PySem.dunder op.info.2)) (hx : Passes CX X E) : OpR X (binaryOp op) (rOwn2 C sp E) := by
  intro pins s σ H x y v u Q I rx ry h
  obtain ⟨a, b, dx, dy, fs, gs, rfl, rfl, ha, hb, q⟩ := h
  cases rx
  cases ry
  obtain ⟨mA, J, _⟩ := ins_get I.hok ha
  obtain ⟨mB, J', _⟩ := ins_get I.hok hb
  obtain ⟨od, J, _⟩ := J.look
  obtain ⟨od', J', _⟩ := J'.look
  obtain ⟨m, hF⟩ := I.fr
  refine PySem.W.binop_K hF I.ok.mod.kin J J'.type O.first O.at_ O.fn (wpAny_mono (wpAny_call (run_fnR (us := [.ref a, .ref b]) (vs := [.ref a, .ref b]) F hr hx I (.cons rfl (.cons rfl .nil)) q)) (fun r s' z => ?_) fun _ _ z => z)
  obtain ⟨v, H', I', rv, q'⟩ := id z
  exact notImpl rv z
def rOwn1 (C : Addr) (sp : Sp) (E : XK) : V → Hp → VK → Prop := fun x H Q => ∃ a dx fs, x = .ref a ∧ H a = some (.ins C dx fs) ∧ sp [.ref a] H Q E
theorem un_own_neg {CX : CXT} {n : Nat} {C f : Addr} {sp : Sp} {E : XK} (F : FnR X.prog X.w X.K X.mg X.base CX n f sp) (hr : Room n X.A) (O : OwnOp X.K C f "__neg__") (hx : Passes CX X E) : UnR X (unaryOp .USub) (rOwn1 C sp E) := by
  intro pins s σ H x v Q I rx h
  obtain ⟨a, dx, fs, rfl, ha, q⟩ := h
  cases rx
  obtain ⟨mA, J, _⟩ := ins_get I.hok ha
  obtain ⟨od, J, _⟩ := J.look
  obtain ⟨m, hF⟩ := I.fr
  exact PySem.W.ksp_neg hF I.ok.mod.kin J O.at_ O.fn (wpAny_call (run_fnR (us := [.ref a]) (vs := [.ref a]) F hr hx I (.cons rfl .nil) q))
/-- bool(x) of an instance with its own truth -/
def rOwnB (C : Addr) (sp : Sp) (E : XK) : List V → Hp → VK → Prop := fun vs H Q => ∃ a dx fs, vs = [.ref a] ∧ H a = some (.ins C dx fs) ∧ sp [.ref a] H (fun v H' => ∃ b, v = .bl b ∧ Q (.bl b) H') E
theorem tru_of {M : Model} {A : Around} {x : Value} {s : Shared} {Q0 Q : Bool → Shared → Prop} {E : Value → Shared → Prop} (hs : wpAny M A (truthy x) Q0 E s) (h : ∀ b s', Q0 b s' → Q b s') : wpAny M A (truthy x) Q E s := wpAny_mono hs h fun _ _ z => z
theorem new_bool_own (prog : Program) (w : World) (a : Addr) : MeetsIn prog w (Builtin.«bool.__new__» ⟨[.type "bool", .ref a], []⟩)
    (fun A R s => wpAny (model prog w) A.in1 (truthy (.ref a)) (fun b s' => R (.ok (.ret (.bool b))) s') (fun e s' => R (.error e) s') s) :=
  .of_wp fun A R s hs => by
    have f1 := F.conv_sub_bool
    obtain ⟨hp, g, d, tk, os⟩ := s
    repeat (any_goals (first | assumption | (with_reducible refine tru_of hs (fun b s' hq => ?_)) | wp_step))
    all_goals exact ⟨_, rfl, hq⟩
theorem call_bool_own {CX : CXT} {n : Nat} {C f : Addr} {sp : Sp} {E : XK} (G : FnR X.prog X.w X.K X.mg X.base CX n f sp) (hr : Room (n + 2) X.A) (hat : PySem.W.findIn X.K (.ref C) "__bool__" = some (some (.ref f))) (hfn : PySem.W.isFn X.K (.ref f) = true)
    (hx : Passes CX X E) : CallR X (.type "bool") (rOwnB C sp E) := by
  intro pins s σ H xs us Q I r h
  obtain ⟨a, dx, fs, rfl, ha, q⟩ := h
  obtain ⟨u, rfl, r1⟩ := vals1 r
  cases r1
  obtain ⟨mA, J, _⟩ := ins_get I.hok ha
  obtain ⟨od, J, _⟩ := J.look
  obtain ⟨m, hF⟩ := I.fr
  refine PySem.callType_newIn PySem.F.called_bool PySem.F.newNe_bool (PySem.F.typeCall_bool_1 _) (PySem.F.newCall_bool_1 _) (fun obj => PySem.F.args_object_init_2 obj _) PySem.F.entry_bool_new (new_bool_own X.prog X.w a) ?_
  refine PySem.W.truthy_K hF I.ok.mod.kin J hat hfn ?_
  refine wpAny_call (codeAny_mono (G _ X.stack s H [.ref a] [.ref a] _ E hr.in1.in1 I.env0.in1.in1 (.cons rfl .nil) q) fun r s' hq => ?_)
  cases r with
  | error e => exact hx pins σ H s e s' I hq
  | ok fl =>
    cases fl with
    | ret u =>
      obtain ⟨v, H', I', rv, b, rfl, q'⟩ := I.after hq
      cases rv
      exact ⟨rfl, .bl b, H', I', rfl, q'⟩
    | next => exact False.elim hq
    | brk => exact False.elim hq
    | cont => exact False.elim hq
/-- C.m is a staticmethod: its record at p, its def at g -/
structure SMet (K : PySem.W.Frag) (C : Addr) (mc : Value) (m : Str) (p g : Addr) : Prop where
  at_ : PySem.W.findCls K (.ref C) mc m = some (.get (.builtin "staticmethod.__get__") (.ref p) .none (.ref C))
  rc : ∃ rest, PySem.W.recIn K p "staticmethod" = some (.ref g :: rest)
  kp : PySem.W.keepIn K (.ref g) = true
def tSMeth (C : Addr) (sp : Sp) (E : XK) (ta : TE) (t : TA) : TE := fun σ H Q => ta σ H fun x H1 => x = .ref C ∧ t σ H1 fun vs H2 => sp vs H2 Q E
theorem pe_smeth {CX : CXT} {k : Nat} {C p g : Addr} {mc : Value} {sp : Sp} {E : XK} {o e : Expr} {es : List Expr} {m : Str} {pos apos : Pos} {ta : TE} {t : TA} {pl : Sem Bool} (he : PE X o ta) (r : ClX.CRead X.K C mc) (c : SMet X.K C mc m p g)
    (F : FnR X.prog X.w X.K X.mg X.base CX k g sp) (hr : Room k X.A) (hx : Passes CX X E) (ha : PA X (e :: es) t)
    (hst : starEach (e :: es) X.env = (false, eval e X.env) :: starEach es X.env := by rfl) (hpl : (backTo pos (starEach es X.env)).any (·.1) = false := by rfl)
    (ht : eval (.Call (.Attribute o m apos) (e :: es) [] pos) X.env = (do
      let ov ← eval o X.env
      standAt apos.atName
      let (f, first) ← holding [ov] (getMethod ov m pl)
      callWith pos f first (backTo pos (starEach (e :: es) X.env)) (backToKw pos (keywordEach [] X.env))) := by rfl) :
    PE X (.Call (.Attribute o m apos) (e :: es) [] pos) (tSMeth C sp E ta t) := by
  refine ⟨fun pins s σ H Q I h => ?_⟩
  refine PySem.W.methodCall_KW (pl := pl) (thn (he.run pins s σ H _ I h) fun u s1 ⟨x, H1, I1, rx, ex, q⟩ => ?_) ht
  subst ex
  obtain rfl : u = Value.ref C := rx
  obtain ⟨rest, hp⟩ := c.rc
  refine PySem.W.method_cls I1.kIn r.ga (PySem.W.cls_bind I1.kIn r.rd c.at_ (wpAny_call (PySem.W.sm_get (s := { s1 with toks := s1.toks + 1 }) I1.kIn hp (PySem.W.handed_on rfl ?_))))
  have I2 := I1.tok (s1.toks + 1)
  refine PySem.W.callWith_K (h₀ := X.base) I.ok.mod.kin c.kp (thn (ha.run pos pins _ σ H1 _ I2 q) fun us s3 ⟨vs, H2, I3, rv, q2⟩ => ⟨I3.kIn, ?_⟩) hst hpl
  exact wpAny_call (run_fnR F hr hx I3 rv q2)
end
end RF

namespace RF
/-! ### lowest terms -/
def gc (i j k : Int) : Int := ((Nat.gcd (Nat.gcd i.natAbs j.natAbs) k.natAbs : Nat) : Int)
def gs (i j k : Int) : Int := if k < 0 then -gc i j k else gc i j k
theorem gc_i (i j k : Int) : gc i j k ∣ i := Int.natAbs_dvd_natAbs.mp (by
  unfold gc
  rw [Int.natAbs_natCast]
  exact Nat.dvd_trans (Nat.gcd_dvd_left _ _) (Nat.gcd_dvd_left _ _))
theorem gc_j (i j k : Int) : gc i j k ∣ j := Int.natAbs_dvd_natAbs.mp (by
  unfold gc
  rw [Int.natAbs_natCast]
  exact Nat.dvd_trans (Nat.gcd_dvd_left _ _) (Nat.gcd_dvd_right _ _))
theorem gc_k (i j k : Int) : gc i j k ∣ k := Int.natAbs_dvd_natAbs.mp (by
  unfold gc
  rw [Int.natAbs_natCast]
  exact Nat.gcd_dvd_right _ _)
theorem gc_pos {i j k : Int} (h : k ≠ 0) : 0 < gc i j k := by
  have : 0 < Nat.gcd (Nat.gcd i.natAbs j.natAbs) k.natAbs := Nat.gcd_pos_of_pos_right _ (by omega)
  unfold gc
  omega
theorem gc_le {i j k : Int} (h : k ≠ 0) : gc i j k ≤ ab k := by
  have : Nat.gcd (Nat.gcd i.natAbs j.natAbs) k.natAbs ≤ k.natAbs := Nat.gcd_le_right _ (by omega)
  unfold gc ab
  split <;> omega
theorem gs_ne {i j k : Int} (h : k ≠ 0) : gs i j k ≠ 0 := by
  have := gc_pos (i := i) (j := j) h
  unfold gs
  split <;> omega
theorem gs_natAbs {i j k : Int} (h : k ≠ 0) : (gs i j k).natAbs ≤ k.natAbs := by
  have := gc_pos (i := i) (j := j) h
  have := gc_le (i := i) (j := j) h
  unfold gs
  unfold ab at this
  split <;> split at this <;> omega
def pI (i j k : Int) : Int := i.fdiv (gs i j k)
def pJ (i j k : Int) : Int := j.fdiv (gs i j k)
def pK (i j k : Int) : Int := k.fdiv (gs i j k)
theorem gs_dvd {i j k x : Int} (h : gc i j k ∣ x) : gs i j k ∣ x := by
  unfold gs
  split
  · exact Int.neg_dvd.mpr h
  · exact h
theorem fdiv_of {g x : Int} (hg : g ≠ 0) (h : g ∣ x) : x = g * x.fdiv g := by
  obtain ⟨t, rfl⟩ := h
  rw [Int.mul_fdiv_cancel_left t hg]
theorem pI_eq {i j k : Int} (h : k ≠ 0) : i = gs i j k * pI i j k := fdiv_of (gs_ne h) (gs_dvd (gc_i i j k))
theorem pJ_eq {i j k : Int} (h : k ≠ 0) : j = gs i j k * pJ i j k := fdiv_of (gs_ne h) (gs_dvd (gc_j i j k))
theorem pK_eq {i j k : Int} (h : k ≠ 0) : k = gs i j k * pK i j k := fdiv_of (gs_ne h) (gs_dvd (gc_k i j k))
theorem pK_pos {i j k : Int} (h : k ≠ 0) : 0 < pK i j k := by
  have e := pK_eq (i := i) (j := j) h
  have g0 := gc_pos (i := i) (j := j) h
  generalize pK i j k = t at *
  unfold gs at e
  split at e
  · rcases Int.lt_or_le 0 t with z | z
    · exact z
    · have : 0 ≤ -gc i j k * t := Int.mul_nonneg_of_nonpos_of_nonpos (by omega) z
      omega
  · rcases Int.lt_or_le 0 t with z | z
    · exact z
    · have : gc i j k * t ≤ 0 := Int.mul_nonpos_of_nonneg_of_nonpos (by omega) z
      omega
theorem nat_le_mul {g t : Int} (hg : g ≠ 0) : t.natAbs ≤ (g * t).natAbs := by
  rw [Int.natAbs_mul]
  exact Nat.le_mul_of_pos_left _ (by omega)
theorem pI_le {i j k : Int} (h : k ≠ 0) : (pI i j k).natAbs ≤ i.natAbs := by
  have e := pI_eq (i := i) (j := j) h
  have := nat_le_mul (g := gs i j k) (t := pI i j k) (gs_ne h)
  rw [← e] at this
  exact this
theorem pJ_le {i j k : Int} (h : k ≠ 0) : (pJ i j k).natAbs ≤ j.natAbs := by
  have e := pJ_eq (i := i) (j := j) h
  have := nat_le_mul (g := gs i j k) (t := pJ i j k) (gs_ne h)
  rw [← e] at this
  exact this
theorem pK_le {i j k : Int} (h : k ≠ 0) : (pK i j k).natAbs ≤ k.natAbs := by
  have e := pK_eq (i := i) (j := j) h
  have := nat_le_mul (g := gs i j k) (t := pK i j k) (gs_ne h)
  rw [← e] at this
  exact this
theorem gc_one {i j k : Int} (h : k ≠ 0) : gc (pI i j k) (pJ i j k) (pK i j k) = 1 := by
  have e1 : i.natAbs = (gs i j k).natAbs * (pI i j k).natAbs := by rw [← Int.natAbs_mul, ← pI_eq h]
  have e2 : j.natAbs = (gs i j k).natAbs * (pJ i j k).natAbs := by rw [← Int.natAbs_mul, ← pJ_eq h]
  have e3 : k.natAbs = (gs i j k).natAbs * (pK i j k).natAbs := by rw [← Int.natAbs_mul, ← pK_eq h]
  have eg : (gs i j k).natAbs = Nat.gcd (Nat.gcd i.natAbs j.natAbs) k.natAbs := by
    unfold gs gc
    split <;> omega
  have key : Nat.gcd (Nat.gcd i.natAbs j.natAbs) k.natAbs = (gs i j k).natAbs * Nat.gcd (Nat.gcd (pI i j k).natAbs (pJ i j k).natAbs) (pK i j k).natAbs := by
    conv => lhs; rw [e1, e2, e3]
    rw [Nat.gcd_mul_left, Nat.gcd_mul_left]
  rw [← eg] at key
  have gp : 0 < (gs i j k).natAbs := by have := gs_ne (i := i) (j := j) h; omega
  have : Nat.gcd (Nat.gcd (pI i j k).natAbs (pJ i j k).natAbs) (pK i j k).natAbs = 1 := by
    have q : (gs i j k).natAbs * 1 = (gs i j k).natAbs * Nat.gcd (Nat.gcd (pI i j k).natAbs (pJ i j k).natAbs) (pK i j k).natAbs := by omega
    exact (Nat.eq_of_mul_eq_mul_left gp q).symm
  unfold gc
  rw [this]
  rfl
theorem dvd_low {a b c a' b' c' : Int} (hg : gc a b c = 1) (h1 : a * c' = a' * c) (h2 : b * c' = b' * c) : c ∣ c' := by
  apply Int.natAbs_dvd_natAbs.mp
  have d1 : c.natAbs ∣ a.natAbs * c'.natAbs := by rw [← Int.natAbs_mul, h1, Int.natAbs_mul]; exact Nat.dvd_mul_left _ _
  have d2 : c.natAbs ∣ b.natAbs * c'.natAbs := by rw [← Int.natAbs_mul, h2, Int.natAbs_mul]; exact Nat.dvd_mul_left _ _
  have d3 : c.natAbs ∣ c.natAbs * c'.natAbs := Nat.dvd_mul_right _ _
  have d : c.natAbs ∣ Nat.gcd (Nat.gcd (a.natAbs * c'.natAbs) (b.natAbs * c'.natAbs)) (c.natAbs * c'.natAbs) := Nat.dvd_gcd (Nat.dvd_gcd d1 d2) d3
  rw [Nat.gcd_mul_right, Nat.gcd_mul_right] at d
  have : Nat.gcd (Nat.gcd a.natAbs b.natAbs) c.natAbs = 1 := by unfold gc at hg; omega
  rw [this, Nat.one_mul] at d
  exact d
theorem low_uniq {a b c a' b' c' : Int} (hc : 0 < c) (hc' : 0 < c') (hg : gc a b c = 1) (hg' : gc a' b' c' = 1) (h1 : a * c' = a' * c) (h2 : b * c' = b' * c) : a = a' ∧ b = b' ∧ c = c' := by
  have e : c = c' := Int.dvd_antisymm (by omega) (by omega) (dvd_low hg h1 h2) (dvd_low hg' h1.symm h2.symm)
  subst e
  exact ⟨Int.eq_of_mul_eq_mul_right (by omega) h1, Int.eq_of_mul_eq_mul_right (by omega) h2, rfl⟩
/-- equal numbers have equal parts -/
theorem parts_eq {i j k i' j' k' : Int} (h : k ≠ 0) (h' : k' ≠ 0) (h1 : i * k' = i' * k) (h2 : j * k' = j' * k) : pI i j k = pI i' j' k' ∧ pJ i j k = pJ i' j' k' ∧ pK i j k = pK i' j' k' := by
  have g := gs_ne (i := i) (j := j) h
  have g' := gs_ne (i := i') (j := j') h'
  have a1 := pI_eq (i := i) (j := j) h
  have a2 := pJ_eq (i := i) (j := j) h
  have a3 := pK_eq (i := i) (j := j) h
  have b1 := pI_eq (i := i') (j := j') h'
  have b2 := pJ_eq (i := i') (j := j') h'
  have b3 := pK_eq (i := i') (j := j') h'
  refine low_uniq (pK_pos h) (pK_pos h') (gc_one h) (gc_one h') ?_ ?_
  · have : gs i j k * gs i' j' k' ≠ 0 := Int.mul_ne_zero g g'
    apply Int.eq_of_mul_eq_mul_left this
    generalize gs i j k = s at *
    generalize gs i' j' k' = s' at *
    generalize pI i j k = x at *
    generalize pI i' j' k' = x' at *
    generalize pK i j k = z at *
    generalize pK i' j' k' = z' at *
    rw [a1, b1, a3, b3] at h1
    grind
  · have : gs i j k * gs i' j' k' ≠ 0 := Int.mul_ne_zero g g'
    apply Int.eq_of_mul_eq_mul_left this
    generalize gs i j k = s at *
    generalize gs i' j' k' = s' at *
    generalize pJ i j k = x at *
    generalize pJ i' j' k' = x' at *
    generalize pK i j k = z at *
    generalize pK i' j' k' = z' at *
    rw [a2, b2, a3, b3] at h2
    grind
/-- the sign of a number does not hang on how it is told -/
theorem sg_parts {d i j k : Int} (h : 0 < k) : sg d (pI i j k) (pJ i j k) = sg d i j := by
  have g := gs_ne (i := i) (j := j) (k := k) (by omega)
  have gp : 0 < gs i j k := by
    have := gc_pos (i := i) (j := j) (k := k) (by omega)
    unfold gs
    rw [if_neg (by omega)]
    exact this
  have e := sg_mul (d := d) (i := pI i j k) (j := pJ i j k) gp
  rw [← pI_eq (by omega), ← pJ_eq (by omega)] at e
  exact e.symm
end RF

namespace RF
open PySem L2 PyProof.Rows
/-! ### what a surd looks like -/
theorem kRP : ¬ (("_root" : Str) = "_parts") := by decide +kernel
def sfl (d : Int) (t : Addr) : List (Str × V) := putF "_parts" (.ref t) (putF "_root" (.int d) [])
theorem sfl_root (d : Int) (t : Addr) : (sfl d t).lookup ("_root" : Str) = some (.int d) := by
  unfold sfl
  rw [lookup_putF, if_neg kRP, lookup_putF, if_pos rfl]
theorem sfl_parts (d : Int) (t : Addr) : (sfl d t).lookup ("_parts" : Str) = some (.ref t) := by
  unfold sfl
  rw [lookup_putF, if_pos rfl]
theorem sfl_no (d : Int) (t : Addr) {m : Str} (h1 : ¬ m = "_parts") (h2 : ¬ m = "_root") : (sfl d t).lookup m = none := by
  unfold sfl
  rw [lookup_putF, if_neg h1, lookup_putF, if_neg h2]
  all_goals rfl
/-- at p: the surd of the root d with the parts i, j, k -/
def SurdAt (H : Hp) (C p : Addr) (d i j k : Int) : Prop := ∃ dx t, H p = some (.ins C dx (sfl d t)) ∧ H t = some (.tup [.int i, .int j, .int k])
theorem SurdAt.same {H H' : Hp} {C p : Addr} {d i j k : Int} (s : Same H H') (h : SurdAt H C p d i j k) : SurdAt H' C p d i j k := by
  obtain ⟨dx, t, h1, h2⟩ := h
  exact ⟨dx, t, s _ _ h1, s _ _ h2⟩
/-- below two to the n -/
def Bd (n : Nat) (i : Int) : Prop := i.natAbs < 2 ^ n
theorem Bd.mono {n m : Nat} {i : Int} (h : Bd n i) (hn : n ≤ m) : Bd m i := Nat.lt_of_lt_of_le h (Nat.pow_le_pow_right (by decide) hn)
theorem Bd.mul {n m : Nat} {i j : Int} (a : Bd n i) (b : Bd m j) : Bd (n + m) (i * j) := wide_lt a b
theorem Bd.add {n : Nat} {i j : Int} (a : Bd n i) (b : Bd n j) : Bd (n + 1) (i + j) := by
  unfold Bd at *
  rw [Nat.pow_succ]
  omega
theorem Bd.neg {n : Nat} {i : Int} (a : Bd n i) : Bd n (-i) := by
  unfold Bd at *
  omega
theorem Bd.le {n : Nat} {i j : Int} (a : Bd n i) (h : j.natAbs ≤ i.natAbs) : Bd n j := Nat.lt_of_le_of_lt h a
theorem Bd.ab {n : Nat} {i : Int} (a : Bd n i) : Bd n (if i < 0 then -i else i) := by
  unfold Bd at *
  split <;> omega
theorem Bd.log {n : Nat} {i : Int} (a : Bd n i) (h : 0 < n) : i.natAbs.log2 < n := PySem.Flt.log2_lt_of h a
theorem mulOk {n m : Nat} {i j : Int} (a : Bd n i) (b : Bd m j) (h0 : 0 < n) (h1 : 0 < m) (h : n + m ≤ 1000000) : CMulW i j := wide_mul a b h0 h1 h
theorem rootBd {d : Int} (h : Root d) : Bd 4 d := by
  unfold Bd
  unfold Root at h
  omega
/-- // by any great divisor but 0 -/
def CDivNW (_ j : Int) : Prop := j ≠ 0 ∧ j.natAbs.log2 < 9000
theorem op_fdivNW {X : Cx} : OpR X (binaryOp .FloorDiv) (rI CDivNW fun i j => .int (i.fdiv j)) := opI fun _ _ _ _ _ _ _ hc q => floordiv_int hc.1 q (.inl (PyProof.noPylong_of_log2 hc.2))

/-! ### a written dict with int keys -/
def okE : List DictEntry → List Int → Bool
  | [], [] => true
  | e :: es, k :: ks => (match e.key with | .int i _ => i == k | _ => false) && e.hash == hashInt k && okE es ks
  | _, _ => false
structure IntKeys (K : PySem.W.Frag) (d : Addr) (ks : List Int) : Prop where
  low : (d == sysModules) = false
  ex : ∃ es n, K.lookup d = some ⟨.type "dict", none, .dict es n, #[]⟩ ∧ okE es.toList ks = true
theorem okE_mem : ∀ {es : List DictEntry} {ks : List Int}, okE es ks = true → ∀ e ∈ es, ∃ k t, k ∈ ks ∧ e.key = .int k t ∧ e.hash = hashInt k
  | [], _, _, e, he => by cases he
  | c :: es, [], h, e, he => by simp [okE] at h
  | c :: es, k :: ks, h, e, he => by
    unfold okE at h
    simp only [Bool.and_eq_true, beq_iff_eq] at h
    obtain ⟨⟨h1, h2⟩, h3⟩ := h
    rcases List.mem_cons.mp he with rfl | he
    · split at h1
      · rename_i i t q
        exact ⟨k, t, List.mem_cons_self, by rw [q, beq_iff_eq.mp h1], h2⟩
      · cases h1
    · obtain ⟨k', t, a, b, c⟩ := okE_mem h3 e he
      exact ⟨k', t, List.mem_cons_of_mem _ a, b, c⟩
theorem okE_find : ∀ {es : List DictEntry} {ks : List Int} (i : Int), okE es ks = true → (es.find? fun e => Value.isInt i e.key).isSome = decide (i ∈ ks)
  | [], [], i, _ => by simp
  | [], k :: ks, i, h => by simp [okE] at h
  | c :: es, [], i, h => by simp [okE] at h
  | c :: es, k :: ks, i, h => by
    unfold okE at h
    simp only [Bool.and_eq_true, beq_iff_eq] at h
    obtain ⟨⟨h1, h2⟩, h3⟩ := h
    have ih := okE_find i h3
    split at h1
    · rename_i j t q
      have e : j = k := beq_iff_eq.mp h1
      rw [List.find?_cons]
      by_cases z : i = k
      · have : Value.isInt i c.key = true := by rw [q, e, z]; simp [Value.isInt]
        rw [this]
        simp [z]
      · have : Value.isInt i c.key = false := by
          rw [q, e]
          simp only [Value.isInt]
          exact beq_eq_false_iff_ne.mpr (fun w => z w.symm) |> fun h => by first | exact h | (rw [beq_eq_false_iff_ne]; exact z) | simpa using z
        rw [this]
        simp [ih, z]
    · cases h1
theorem op_in_intd {X : Cx} : OpR X (compareOp .In) (fun x y H Q => ∃ i d ks, x = .int i ∧ y = .ref d ∧ IntKeys X.K d ks ∧ Q (.bl (decide (i ∈ ks))) H) := by
  intro pins s σ H x y v u Q I rx ry h
  obtain ⟨i, d, ks, rfl, rfl, ⟨low, es, n, hl, he⟩, q⟩ := h
  obtain ⟨t, rfl⟩ := rx
  cases ry
  have hm : s.heap.MapOf (intKind X.prog X.w) d (fun k => findBy Value.isInt es k) := ⟨_, es, n, I.kIn _ _ hl, ⟨rfl, rfl, rfl⟩, rfl, fun e hh => by
    obtain ⟨k, t, _, e1, e2⟩ := okE_mem he e (Array.mem_toList_iff.mpr hh)
    exact ⟨k, by rw [e1]; show Value.isInt k (.int k t) = true; simp [Value.isInt], e2⟩, fun _ => rfl⟩
  refine wpAny_in_of (knd := intKind X.prog X.w) (k := i) (by show Value.isInt i (.int i t) = true; simp [Value.isInt]) low hm ?_
  have e : (findBy Value.isInt es i).isSome = decide (i ∈ ks) := by
    unfold findBy
    rw [Option.isSome_map, ← okE_find i he, ← List.find?_toArray]
  rw [e]
  exact ⟨.bl _, H, I.tok _, rfl, q⟩
end RF

namespace RF
open PySem L2
def top (i : Nat) : Stmt := PySem.Challenge.pw_rootfloor_k12_whole_equations_hold_by_tw.main.body.getD i (.Pass ⟨0, 0, 0, 0⟩)
abbrev sBag : Stmt := top 41
abbrev sPull : Stmt := top 42
structure TB (mg : Str → Option Value) : Prop where
  list : mg "list" = none
  len : mg "len" = none
  abs : mg "abs" = none
  int : mg "int" = none
section
variable {P : Program} {w : World} {K : PySem.W.Frag} {mg : Str → Option Value} {base : Heap}
theorem scBag : FnScope ["_law_script"] ["_law_script"] (defScope sBag) := ⟨rfl, rfl, rfl, by decide +kernel, rfl, by decide +kernel, by decide +kernel⟩
theorem ok_bag {f : Addr} {fd : FuncData} (F : Fun K "_law_bag" "_law_bag" sBag f fd) (T : TB mg) : FnOk P w K mg base CX0 1 f fd ["_law_script"] (spBag K) := by
  refine F.ok scBag (fun vs H Q E h => ?_) (fun cdv A outer s H vs Q E hr h => ?_)
  · obtain ⟨a, ns, rfl, _⟩ := h
    rfl
  · obtain ⟨a, ns, rfl, hS, hl, k⟩ := h
    refine ⟨_, pss_one (ps_ret (pe_lst (pa_cons (pe_callTy call_list_of (by rfl) T.list (by decide +kernel) (pa_cons (pe_slice sl_list (pv 0) po_none (po_some pe_int)) pa_nil)) (pa_cons pe_int (pa_cons pe_int (pa_cons pe_int pa_nil)))))), ?_⟩
    refine ⟨_, rfl, _, rfl, a, _, rfl, hS, fun p hp => ⟨p, _, rfl, .inl (SqL.of upd_same), fun l hl2 => ⟨by show 4 ≤ sizeLine; decide, fun q hq => ?_⟩⟩⟩
    obtain ⟨ms, e⟩ : ∃ ms : List Int, cutV (ns.map V.int) none (some 63) = ms.map V.int := ⟨_, by unfold cutV; rw [← List.map_drop, ← List.map_take]⟩
    have sm := sNew (o := .lst [.ref l, .int 0, .int 0, .int 3842]) (sNew (o := .lst (cutV (ns.map V.int) none (some 63))) (sNew (o := .lst (cutV (ns.map V.int) none (some 63))) (Same.refl H) hp) hl2) hq
    refine k q _ (of_new (of_new hq)) ⟨l, ms, 0, 0, 3842, ne_new hq, upd_same, ?_, Nat.zero_le _, Int.le_refl _, by decide, by decide⟩ sm
    rw [upd_ne (Ne.symm (ne_new hq)), upd_same, e]
abbrev nPull : List Str := ["_law_bag_here", "_law_sides", "_law_cell", "_law_digit", "_law_twice"]
theorem scPull : FnScope nPull ["_law_bag_here", "_law_sides"] (defScope sPull) := ⟨rfl, rfl, rfl, by decide +kernel, rfl, by decide +kernel, by decide +kernel⟩
theorem ok_pull {f : Addr} {fd : FuncData} (F : Fun K "_law_pull" "_law_pull" sPull f fd) (T : TB mg) : FnOk P w K mg base CX0 1 f fd ["_law_bag_here", "_law_sides"] spPull := by
  refine F.ok scPull (fun vs H Q E h => ?_) (fun cdv A outer s H vs Q E hr h => ?_)
  · obtain ⟨b, k, rfl, _⟩ := h
    rfl
  · obtain ⟨b, m, rfl, ⟨c, ns, i, z, r, B⟩, m0, m1, k⟩ := h
    have nd := scPull.nd
    -- the second half, from any bag
    refine ⟨_, C8.pss_cut (ps_if (pw_and (pt_cmpR op_eq (pe_ix ix_list (pv 0) pe_int (fun _ _ => rfl)) pe_int (nomark _)) (pw_and1 (pt_cmpR op_lt (pe_ix ix_list (pv 0) pe_int (fun _ _ => rfl)) (pe_callB call_len_seq (by rfl) T.len PySem.boot_len (pa_cons (pe_ix ix_list (pv 0) pe_int (fun _ _ => rfl)) pa_nil)) (nomark _)))).pt
        (pss_cons (ps_set (i := 2) nd rfl (Or.inl rfl) (pe_ix ix_list (pe_ix ix_list (pv 0) pe_int (fun _ _ => rfl)) (pe_ix ix_list (pv 0) pe_int (fun _ _ => rfl)) (fun _ _ => rfl)))
        (pss_cons (ps_asg (pe_op op_add (pe_ix ix_list (pv 0) pe_int (fun _ _ => rfl)) pe_int) (pg_sub (pv 0) pe_int set_list))
        (pss_one (ps_if (pt_cmpR op_ge (pe_callB call_abs (by rfl) T.abs (by decide +kernel) (pa_cons (pv 2) pa_nil)) (pe_op op_pow pe_int pe_int) (nomark _))
          (pss_one (ps_asg (pe_callB call_abs (by rfl) T.abs (by decide +kernel) (pa_cons (pv 2) pa_nil)) (pg_sub (pv 0) pe_int set_list)))
          (pss_one (ps_asg (pe_op op_mod (pe_callTy call_int1 (by rfl) T.int (by decide +kernel) (pa_cons (pe_op op_add (pe_op op_add (pe_op op_mul (pe_ix ix_list (pv 0) pe_int (fun _ _ => rfl)) pe_int) (pe_op op_mul (pe_op op_mod (pe_callTy call_int1 (by rfl) T.int (by decide +kernel) (pa_cons (pv 2) pa_nil)) pe_int) pe_int)) pe_int) pa_nil)) pe_int) (pg_sub (pv 0) pe_int set_list)))))))
        pss_nil)
      (C8.pss_cut (ps_if (pt_cmpR op_gt (pe_ix ix_list (pv 0) pe_int (fun _ _ => rfl)) pe_int (nomark _))
        (pss_cons (ps_set (i := 3) nd rfl (Or.inl rfl) (pe_op op_mod (pe_callTy call_int1 (by rfl) T.int (by decide +kernel) (pa_cons (pe_ix ix_list (pv 0) pe_int (fun _ _ => rfl)) pa_nil)) (pv 1)))
        (pss_cons (ps_asg (pe_op op_fdiv (pe_ix ix_list (pv 0) pe_int (fun _ _ => rfl)) (pv 1)) (pg_sub (pv 0) pe_int set_list))
        (pss_one (ps_ret (pv 3)))))
        pss_nil)
      (pss_cons (ps_set (i := 4) nd rfl (Or.inl rfl) (pe_op op_mod (pe_callTy call_int1 (by rfl) T.int (by decide +kernel) (pa_cons (pe_op op_mul (pe_ix ix_list (pv 0) pe_int (fun _ _ => rfl)) (pe_ix ix_list (pv 0) pe_int (fun _ _ => rfl))) pa_nil)) pe_int))
      (pss_cons (ps_asg (pe_op op_mod (pe_callTy call_int1 (by rfl) T.int (by decide +kernel) (pa_cons (pe_op op_add (pe_op op_add (pe_op op_mul (pv 4) pe_int) (pe_op op_mul (pe_ix ix_list (pv 0) pe_int (fun _ _ => rfl)) pe_int)) pe_int) pa_nil)) pe_int) (pg_sub (pv 0) pe_int set_list))
      (pss_one (ps_ret (pe_op op_mod (pe_callTy call_int1 (by rfl) T.int (by decide +kernel) (pa_cons (pe_op op_fdiv (pe_ix ix_list (pv 0) pe_int (fun _ _ => rfl)) pe_int) pa_nil)) (pv 1))))))), ?_⟩
    have hc : ∀ {H' : Hp} {i : Nat} {z r : Int}, BagC H' b c ns i z r → H' c = some (.lst (ns.map V.int)) := fun B => B.cs
    -- what follows the first if, from any bag
    refine ⟨fun σ' H' => ∃ v i z r, σ' = [some (.ref b), some (.int m), v, none, none] ∧ BagC H' b c ns i z r ∧ Kp b H H', ?_, ?_⟩
    · refine ⟨_, rfl, b, _, _, _, rfl, rfl, SqL.of B.at_, rfl, rfl, _, rfl, ?_⟩
      refine ite2 (fun ez => ?_) (fun _ => ?_)
      · refine ⟨_, rfl, b, _, _, _, rfl, rfl, SqL.of B.at_, rfl, _, rfl, b, _, _, _, rfl, rfl, SqL.of B.at_, rfl, c, _, rfl, .inl (SqL.of B.cs), _, _, rfl, rfl, _, rfl, ?_⟩
        refine ite2 (fun hl => ?_) (fun _ => ⟨_, _, _, _, rfl, B, Kp.refl _ _⟩)
        have hl' : i < ns.length := by
          have := of_decide_eq_true hl
          rw [List.length_map] at this
          omega
        obtain ⟨n, hn⟩ : ∃ n, ns[i]? = some n := ⟨_, List.getElem?_eq_getElem hl'⟩
        have hat : atI (ns.map V.int) (i : Int) = some (V.int n) := atI_nat (by rw [List.getElem?_map, hn]; rfl)
        refine ⟨_, rfl, b, _, _, _, rfl, rfl, SqL.of B.at_, rfl, _, rfl, b, _, _, _, rfl, rfl, SqL.of B.at_, rfl, c, _, _, _, rfl, rfl, SqL.of B.cs, hat, ?_⟩
        refine ⟨_, rfl, b, _, _, _, rfl, rfl, SqL.of B.at_, rfl, _, _, rfl, rfl, _, rfl, b, _, _, _, rfl, rfl, B.at_, rfl, ?_⟩
        have B1 := B.put (i' := i + 1) (z' := z) (r' := r) (o := .lst [.ref c, .int ((i : Int) + 1), .int z, .int r]) (by rw [Int.natCast_add]; rfl) hl' B.z0 B.r0 B.r1
        have k1 : Kp b H (upd H b (.lst [.ref c, .int ((i : Int) + 1), .int z, .int r])) := Kp.upd
        refine ⟨_, rfl, _, rfl, _, _, rfl, rfl, ⟨by decide, by decide, by decide⟩, _, _, rfl, rfl, _, rfl, ?_⟩
        refine ite2 (fun _ => ?_) (fun _ => ?_)
        · refine ⟨_, rfl, _, rfl, _, rfl, b, _, _, _, rfl, rfl, upd_same, rfl, ?_⟩
          exact ⟨_, _, _, _, rfl, B1.put rfl B1.le (by split <;> omega) B1.r0 B1.r1, k1.trans Kp.upd⟩
        · refine ⟨_, rfl, b, _, _, _, rfl, rfl, SqL.of B1.at_, rfl, _, _, rfl, rfl, .inr (by decide), _, rfl, .inl ⟨_, rfl, _, _, rfl, rfl, (by show (0 : Int) < 1000003; decide), _, _, rfl, rfl, .inr (by decide), _, _, rfl, rfl, _, _, rfl, rfl, .inl ⟨_, rfl, _, _, rfl, rfl, (by show (0 : Int) < 2147483647; decide), _, rfl, b, _, _, _, rfl, rfl, upd_same, rfl, ?_⟩⟩⟩
          exact ⟨_, _, _, _, rfl, B1.put rfl B1.le B1.z0 (emod_lo _ (by decide)) (emod_hi _ (by decide)), k1.trans Kp.upd⟩
      · exact ⟨_, _, _, _, rfl, B, Kp.refl _ _⟩
    · rintro σ' H1 ⟨v, i, z, r, rfl, B, kp⟩
      -- if bag[2] > 0
      refine ⟨fun σ' H' => σ' = [some (.ref b), some (.int m), v, none, none] ∧ H' = H1, ?_, ?_⟩
      · refine ⟨_, rfl, b, _, _, _, rfl, rfl, SqL.of B.at_, rfl, _, _, rfl, rfl, _, rfl, ?_⟩
        refine ite2 (fun hz => ?_) (fun _ => ⟨rfl, rfl⟩)
        refine ⟨_, rfl, b, _, _, _, rfl, rfl, SqL.of B.at_, rfl, .inl ⟨_, rfl, _, rfl, _, _, rfl, rfl, m0, ?_⟩⟩
        refine ⟨_, rfl, b, _, _, _, rfl, rfl, SqL.of B.at_, rfl, _, rfl, _, _, rfl, rfl, ⟨m0, m1⟩, _, rfl, b, _, _, _, rfl, rfl, B.at_, rfl, ?_⟩
        refine ⟨_, rfl, ?_⟩
        exact k _ _ (emod_lo _ m0) (emod_hi _ m0) ⟨c, ns, _, _, _, B.put rfl B.le (Int.ediv_nonneg B.z0 (Int.le_of_lt m0)) B.r0 B.r1⟩ (kp.trans Kp.upd)
      · rintro σ' H2 ⟨rfl, rfl⟩
        refine ⟨_, rfl, b, _, _, _, rfl, rfl, SqL.of B.at_, rfl, _, rfl, b, _, _, _, rfl, rfl, SqL.of B.at_, rfl, _, _, rfl, rfl, .inl ⟨by have := B.r0; omega, by have := B.r1; omega⟩, .inl ⟨_, rfl, _, _, rfl, rfl, (by show (0 : Int) < 2147483629; decide), ?_⟩⟩
        refine ⟨_, rfl, _, _, rfl, rfl, .inr (by decide), _, rfl, b, _, _, _, rfl, rfl, SqL.of B.at_, rfl, _, _, rfl, rfl, .inr (by decide), _, _, rfl, rfl, _, _, rfl, rfl, .inl ⟨_, rfl, _, _, rfl, rfl, (by show (0 : Int) < 2147483647; decide), _, rfl, b, _, _, _, rfl, rfl, B.at_, rfl, ?_⟩⟩
        refine ⟨_, rfl, b, _, _, _, rfl, rfl, SqL.of upd_same, rfl, _, _, rfl, rfl, ⟨by decide, by decide⟩, .inl ⟨_, rfl, _, rfl, _, _, rfl, rfl, m0, ?_⟩⟩
        exact k _ _ (emod_lo _ m0) (emod_hi _ m0) ⟨c, ns, _, _, _, B.put rfl B.le B.z0 (emod_lo _ (by decide)) (emod_hi _ (by decide))⟩ (kp.trans Kp.upd)
end
end RF

namespace RF
open PySem L2 PyProof.Rows
def whole : D → Bool
  | .int _ => true
  | _ => false
def btw (d : D) (lo hi : Int) : Bool := match d with
  | .int i => decide (lo ≤ i) && decide (i ≤ hi)
  | _ => false
def rootD : D → Bool
  | .int i => decide (i ∈ [2, 3, 5, 6, 13])
  | _ => false
def spWhole (K : PySem.W.Frag) : Sp := fun vs H Q _ => ∃ (v : V) (d : D), vs = [v] ∧ Rp K H v d ∧ Q (.bl (whole d)) H
def spBtw (K : PySem.W.Frag) : Sp := fun vs H Q _ => ∃ (v : V) (d : D) (lo hi : Int), vs = [v, .int lo, .int hi] ∧ Rp K H v d ∧ Q (.bl (btw d lo hi)) H
def spIsRoot (K : PySem.W.Frag) : Sp := fun vs H Q _ => ∃ (v : V) (d : D), vs = [v] ∧ Rp K H v d ∧ Q (.bl (rootD d)) H
section
variable {P : Program} {w : World} {K : PySem.W.Frag} {mg : Str → Option Value} {base : Heap}
abbrev s_is_whole : Stmt := top 11
abbrev n_is_whole : List Str := ["value"]
theorem sc_is_whole : FnScope n_is_whole ["value"] (defScope s_is_whole) := ⟨rfl, rfl, rfl, by decide +kernel, rfl, by decide +kernel, by decide +kernel⟩
theorem ok_whole {f : Addr} {fd : FuncData} {k : Nat} (F : Fun K "is_whole" "is_whole" s_is_whole f fd) (T1 : mg "isinstance" = none) (T2 : mg "int" = none) (T3 : mg "bool" = none) : FnOk P w K mg base CX0 (k + 1) f fd ["value"] (spWhole K) := by
  refine F.ok sc_is_whole (fun vs H Q E h => ?_) (fun cdv A outer s H vs Q E hr h => ?_)
  · obtain ⟨v, d, rfl, _⟩ := h
    rfl
  · obtain ⟨v, d, rfl, hv, q⟩ := h
    refine ⟨_, (pss_one (ps_ret (pe_and (pe_callB call_isi (by rfl) T1 (by decide +kernel) (pa_cons (pv 0) (pa_cons (pe_bltn (v := .ty "int") (by rfl) T2 (by decide +kernel) rfl) pa_nil))) (pe_one (pe_not (pe_callB call_isi (by rfl) T1 (by decide +kernel) (pa_cons (pv 0) (pa_cons (pe_bltn (v := .ty "bool") (by rfl) T3 (by decide +kernel) rfl) pa_nil)))))))), ?_⟩
    refine ⟨_, rfl, _, _, _, _, _, rfl, .ty _, tyX _ hv, kit_ty (kit_int _), _, rfl, ?_⟩
    by_cases hi : isInt d = true
    · refine iteP hi ⟨_, rfl, _, _, _, _, _, rfl, .ty _, tyX _ hv, kit_ty (kit_bool _), _, rfl, ?_⟩
      have e : (!isBool d) = whole d := by cases d <;> first | rfl | cases hi
      rw [e]
      exact q
    · refine iteN hi ?_
      have e : whole d = false := by cases d <;> first | rfl | exact absurd rfl hi
      rw [e] at q
      exact q
abbrev s_is_between : Stmt := top 12
abbrev n_is_between : List Str := ["value", "low", "high"]
theorem sc_is_between : FnScope n_is_between ["value", "low", "high"] (defScope s_is_between) := ⟨rfl, rfl, rfl, by decide +kernel, rfl, by decide +kernel, by decide +kernel⟩
theorem ok_btw {f : Addr} {fd : FuncData} {k : Nat} (F : Fun K "is_between" "is_between" s_is_between f fd) (D1 : Df P w K mg base k "is_whole" ["value"] (spWhole K)) : FnOk P w K mg base CX0 (k + 1) f fd ["value", "low", "high"] (spBtw K) := by
  refine F.ok sc_is_between (fun vs H Q E h => ?_) (fun cdv A outer s H vs Q E hr h => ?_)
  · obtain ⟨v, d, lo, hi, rfl, _⟩ := h
    rfl
  · obtain ⟨v, d, lo, hi, rfl, hv, q⟩ := h
    refine ⟨_, (pss_one (ps_ret (pe_and (pe_callD D1 hr (Nat.le_refl _) (pa_cons (pv 0) pa_nil)) (pe_one (pe_chain op_le op_le (pv 1) (pv 0) (pv 2)))))), ?_⟩
    refine ⟨_, rfl, v, d, rfl, hv, _, rfl, ?_⟩
    by_cases hi' : whole d = true
    · refine iteP hi' ?_
      cases d with
      | int i =>
        obtain rfl : v = .int i := hv
        refine ⟨_, rfl, _, rfl, _, _, rfl, rfl, _, rfl, ?_⟩
        by_cases h1 : lo ≤ i
        · refine iteP (decide_eq_true h1) ⟨_, rfl, _, _, rfl, rfl, ?_⟩
          have e : btw (.int i) lo hi = decide (i ≤ hi) := by show (decide (lo ≤ i) && decide (i ≤ hi)) = _; rw [decide_eq_true h1]; rfl
          rw [e] at q
          exact q
        · refine iteN (nd_of h1) ?_
          have e : btw (.int i) lo hi = false := by show (decide (lo ≤ i) && decide (i ≤ hi)) = _; rw [decide_eq_false h1]; rfl
          rw [e] at q
          exact q
      | _ => cases hi'
    · refine iteN hi' ?_
      have e : btw d lo hi = false := by cases d <;> first | rfl | exact absurd rfl hi'
      rw [e] at q
      exact q
abbrev s_is_root : Stmt := top 14
abbrev n_is_root : List Str := ["value"]
theorem sc_is_root : FnScope n_is_root ["value"] (defScope s_is_root) := ⟨rfl, rfl, rfl, by decide +kernel, rfl, by decide +kernel, by decide +kernel⟩
theorem ok_isroot {f : Addr} {fd : FuncData} {k : Nat} {pd : Addr} (F : Fun K "is_root" "is_root" s_is_root f fd) (D1 : Df P w K mg base k "is_whole" ["value"] (spWhole K)) (mP : mg "PERIODS" = some (.ref pd)) (kP : IntKeys K pd [2, 3, 5, 6, 13]) :
    FnOk P w K mg base CX0 (k + 1) f fd ["value"] (spIsRoot K) := by
  refine F.ok sc_is_root (fun vs H Q E h => ?_) (fun cdv A outer s H vs Q E hr h => ?_)
  · obtain ⟨v, d, rfl, _⟩ := h
    rfl
  · obtain ⟨v, d, rfl, hv, q⟩ := h
    refine ⟨_, (pss_one (ps_ret (pe_and (pe_callD D1 hr (Nat.le_refl _) (pa_cons (pv 0) pa_nil)) (pe_one (pe_cmpR op_in_intd (pv 0) (pe_glob (v := .ref pd) (by rfl) mP rfl) rfl))))), ?_⟩
    refine ⟨_, rfl, v, d, rfl, hv, _, rfl, ?_⟩
    by_cases hi' : whole d = true
    · refine iteP hi' ?_
      cases d with
      | int i =>
        obtain rfl : v = .int i := hv
        exact ⟨_, rfl, _, _, _, rfl, rfl, kP, q⟩
      | _ => cases hi'
    · refine iteN hi' ?_
      have e : rootD d = false := by cases d <;> first | rfl | exact absurd rfl hi'
      rw [e] at q
      exact q
end
end RF

namespace RF
open PySem L2 PyProof.Rows
/-- what is known of the class -/
structure TxS (K : PySem.W.Frag) (mg : Str → Option Value) (C : Addr) : Prop where
  cl : Cls K C
  nR : NoAttr K C "_root"
  nP : NoAttr K C "_parts"
  mg : mg "Surd" = some (.ref C)
def spSInit (C : Addr) : Sp := fun vs H Q _ => ∃ (p dx : Addr) (d i j k : Int), vs = [.ref p, .int d, .int i, .int j, .int k] ∧ H p = some (.ins C dx []) ∧ Root d ∧ k ≠ 0 ∧ Bd 1000 i ∧ Bd 1000 j ∧ Bd 1000 k ∧
  ∀ H', SurdAt H' C p d (pI i j k) (pJ i j k) (pK i j k) → (∀ b o, H b = some o → b ≠ p → H' b = some o) → Q .non H'
section
variable {P : Program} {w : World} {K : PySem.W.Frag} {mg : Str → Option Value} {base : Heap}
abbrev sS (i : Nat) : Stmt := inClass (top 21) i
abbrev n_SInit : List Str := ["self", "root", "i", "j", "k", "divisor"]
theorem sc_SInit : FnScope n_SInit ["self", "root", "i", "j", "k"] (defScope (sS 0)) := ⟨rfl, rfl, rfl, by decide +kernel, rfl, by decide +kernel, by decide +kernel⟩
theorem ok_SInit {f C : Addr} {fd : FuncData} {k : Nat} {dvs : List V} {kws : List (Str × V)} (F : FunD K "__init__" "Surd.__init__" (defArgs (sS 0)) (defBody (sS 0)) (defScope (sS 0)) dvs kws f fd) (T : TxS K mg C) (mG : mg "gcd" = some (.builtin "math.gcd"))
    (D1 : Df P w K mg base k "is_root" ["value"] (spIsRoot K)) : FnOk P w K mg base CX0 (k + 1) f fd ["self", "root", "i", "j", "k"] (spSInit C) := by
  refine F.ok sc_SInit (fun vs H Q E h => ?_) (fun cdv A outer s H vs Q E hr h => ?_)
  · obtain ⟨p, dx, d, i, j, k, rfl, _⟩ := h
    rfl
  · obtain ⟨p, dx, d, i, j, m, rfl, hp, hd, m0, bi, bj, bm, q⟩ := h
    have nd := sc_SInit.nd
    refine ⟨_, PSs.nox (pss_cons (ps_if (pt_not (pt_val (pe_callD D1 hr (Nat.le_refl _) (pa_cons (pv 1) pa_nil))))
      (pss_one ps_never)
      pss_nil)
      (pss_cons (ps_if (pt_cmpR op_eq (pv 4) pe_int (nomark _))
      (pss_one ps_never)
      pss_nil)
      (pss_cons (ps_set (i := 5) nd rfl (Or.inl rfl) (pe_callBfun cr_gcd3 (by rfl) mG (pa_cons (pv 2) (pa_cons (pv 3) (pa_cons (pv 4) pa_nil)))))
      (C8.pss_cut (ps_if (pt_cmpR op_lt (pv 4) pe_int (nomark _))
      (pss_one (ps_set (i := 5) nd rfl (Or.inl rfl) (pe_un un_neg (pv 5))))
      pss_nil)
      (pss_cons (ps_fld (pv 0) (pv 1) rfl)
      (pss_one (ps_fld (pv 0) (pe_tup (pa_cons (pe_op op_fdivNW (pv 2) (pv 5)) (pa_cons (pe_op op_fdivNW (pv 3) (pv 5)) (pa_cons (pe_op op_fdivNW (pv 4) (pv 5)) pa_nil)))) rfl))))))), ?_⟩
    have er : rootD (.int d) = true := decide_eq_true (by unfold Root at hd; simp; omega)
    refine ⟨_, rfl, _, .int d, rfl, rfl, _, rfl, ?_⟩
    rw [er]
    refine iteF ?_
    refine ⟨_, rfl, rfl, _, rfl, iteN (nd_of (fun z => m0 (by cases z; rfl))) ?_⟩
    refine ⟨_, rfl, _, rfl, _, rfl, _, _, _, rfl, ?_⟩
    refine ⟨fun σ' H' => σ' = [some (.ref p), some (.int d), some (.int i), some (.int j), some (.int m), some (.int (gs i j m))] ∧ H' = H, ?_, ?_⟩
    · refine ⟨_, rfl, _, _, rfl, rfl, _, rfl, ite2 (fun h => ?_) (fun h => ?_)⟩
      · refine ⟨_, rfl, _, rfl, ?_⟩
        have hm : m < 0 := of_decide_eq_true h
        refine ⟨?_, rfl⟩
        unfold gs
        rw [if_pos hm]
        rfl
      · have hm : ¬ m < 0 := fun z => h (decide_eq_true z)
        refine ⟨?_, rfl⟩
        unfold gs
        rw [if_neg hm]
        rfl
    · rintro σ' H1 ⟨rfl, rfl⟩
      have gn := gs_ne (i := i) (j := j) m0
      have gb : (gs i j m).natAbs.log2 < 9000 := Nat.lt_of_lt_of_le ((bm.le (gs_natAbs (i := i) (j := j) m0)).log (by decide)) (by decide)
      refine ⟨_, rfl, _, rfl, p, C, dx, [], rfl, hp, T.cl, T.nR, (by show 0 < 1000; decide), ?_⟩
      refine ⟨_, rfl, _, rfl, _, _, rfl, rfl, ⟨gn, gb⟩, _, rfl, _, rfl, _, _, rfl, rfl, ⟨gn, gb⟩, _, rfl, _, rfl, _, _, rfl, rfl, ⟨gn, gb⟩, (by show 3 ≤ sizeLine; decide), fun t ht => ?_⟩
      have npt : p ≠ t := (ne_new ht).symm
      refine ⟨_, rfl, p, C, dx, _, rfl, by rw [upd_ne npt, upd_same], T.cl, T.nP, (Nat.lt_of_le_of_lt (length_putF _ _ _) (by decide)), ?_⟩
      refine q _ ⟨dx, t, upd_same, ?_⟩ fun b o e nb => ?_
      · rw [upd_ne npt.symm, upd_same]; rfl
      · have e1 : upd H1 p (.ins C dx (putF "_root" (.int d) [])) b = some o := by rw [upd_ne nb]; exact e
        rw [upd_ne nb, upd_ne (ne_of_none e1 ht), upd_ne nb]
        exact e
end
end RF

namespace RF
open PySem L2 PyProof.Rows
/-- at p: the surd (i + j r) / k of the root d, in lowest terms -/
def SV (H : Hp) (C p : Addr) (d i j k : Int) : Prop := k ≠ 0 ∧ SurdAt H C p d (pI i j k) (pJ i j k) (pK i j k)
theorem SV.same {H H' : Hp} {C p : Addr} {d i j k : Int} (s : Same H H') (h : SV H C p d i j k) : SV H' C p d i j k := ⟨h.1, h.2.same s⟩
theorem SV.cong {H : Hp} {C p : Addr} {d i j k i' j' k' : Int} (h : SV H C p d i j k) (hk : k' ≠ 0) (h1 : i * k' = i' * k) (h2 : j * k' = j' * k) : SV H C p d i' j' k' := by
  obtain ⟨e1, e2, e3⟩ := parts_eq h.1 hk h1 h2
  exact ⟨hk, by rw [← e1, ← e2, ← e3]; exact h.2⟩
structure MkS (P : Program) (w : World) (K : PySem.W.Frag) (mg : Str → Option Value) (base : Heap) (C : Addr) (k : Nat) : Prop where
  ex : ∃ (f : Addr) (fd : FuncData), Mk K C f ∧ FnOk P w K mg base CX0 k f fd ["self", "root", "i", "j", "k"] (spSInit C) ∧ KBn K fd ["self", "root", "i", "j", "k"] 4 ["k"] (fun us ws => us ++ ws) (fun vs zs => vs ++ zs) ∧
    (∃ ds, Vals [.int 1] ds ∧ Binds K fd ["self", "root", "i", "j", "k"] ds) ∧ ∃ ds, Vals [.int 0, .int 1] ds ∧ Binds K fd ["self", "root", "i", "j", "k"] ds
def spSign (C : Addr) : Sp := fun vs H Q _ => ∃ (p : Addr) (d i j k : Int), vs = [.ref p] ∧ SV H C p d i j k ∧ 0 < k ∧ Root d ∧ Bd 900 i ∧ Bd 900 j ∧ Q (.int (sg d i j)) H
def flS (d i j k : Int) : Int := (pI i j k + flr d (pJ i j k)) / pK i j k
def spFlS (C : Addr) : Sp := fun vs H Q _ => ∃ (p : Addr) (d i j k : Int), vs = [.ref p] ∧ SV H C p d i j k ∧ Root d ∧ Bd 900 i ∧ Bd 900 j ∧ Bd 900 k ∧ Q (.int (flS d i j k)) H
def spNegS (C : Addr) : Sp := fun vs H Q _ => ∃ (p : Addr) (d i j k : Int), vs = [.ref p] ∧ SV H C p d i j k ∧ Root d ∧ Bd 900 i ∧ Bd 900 j ∧ Bd 900 k ∧
  ∀ (x : Addr) (H' : Hp), H x = none → SV H' C x d (-i) (-j) k → Same H H' → Q (.ref x) H'
def spAddS (C : Addr) : Sp := fun vs H Q _ => ∃ (p q : Addr) (d i j k i2 j2 k2 : Int), vs = [.ref p, .ref q] ∧ SV H C p d i j k ∧ SV H C q d i2 j2 k2 ∧ Root d ∧ Bd 400 i ∧ Bd 400 j ∧ Bd 400 k ∧ Bd 400 i2 ∧ Bd 400 j2 ∧ Bd 400 k2 ∧
  ∀ (x : Addr) (H' : Hp), H x = none → SV H' C x d (i * k2 + i2 * k) (j * k2 + j2 * k) (k * k2) → Same H H' → Q (.ref x) H'
def spSubS (C : Addr) : Sp := fun vs H Q _ => ∃ (p q : Addr) (d i j k i2 j2 k2 : Int), vs = [.ref p, .ref q] ∧ SV H C p d i j k ∧ SV H C q d i2 j2 k2 ∧ Root d ∧ Bd 400 i ∧ Bd 400 j ∧ Bd 400 k ∧ Bd 400 i2 ∧ Bd 400 j2 ∧ Bd 400 k2 ∧
  ∀ (x : Addr) (H' : Hp), H x = none → SV H' C x d (i * k2 - i2 * k) (j * k2 - j2 * k) (k * k2) → Same H H' → Q (.ref x) H'
def spCmpS (C : Addr) : Sp := fun vs H Q _ => ∃ (p q : Addr) (d i j k i2 j2 k2 : Int), vs = [.ref p, .ref q] ∧ SV H C p d i j k ∧ SV H C q d i2 j2 k2 ∧ 0 < k ∧ 0 < k2 ∧ Root d ∧ Bd 400 i ∧ Bd 400 j ∧ Bd 400 k ∧ Bd 400 i2 ∧ Bd 400 j2 ∧ Bd 400 k2 ∧
  ∀ (H' : Hp), Same H H' → Q (.int (sg d (i * k2 - i2 * k) (j * k2 - j2 * k))) H'
section
variable {P : Program} {w : World} {K : PySem.W.Frag} {mg : Str → Option Value} {base : Heap}
abbrev n_SSign : List Str := ["self", "i", "j", "_", "balance"]
theorem sc_SSign : FnScope n_SSign ["self"] (defScope (sS 4)) := ⟨rfl, rfl, rfl, by decide +kernel, rfl, by decide +kernel, by decide +kernel⟩
theorem ok_SSign {f C : Addr} {fd : FuncData} {k : Nat} (F : Fun K "sign" "Surd.sign" (sS 4) f fd) (T : TxS K mg C) (mA : mg "abs" = none) : FnOk P w K mg base CX0 (k + 1) f fd ["self"] (spSign C) := by
  refine F.ok sc_SSign (fun vs H Q E h => ?_) (fun cdv A outer s H vs Q E hr h => ?_)
  · obtain ⟨p, d, i, j, k, rfl, _⟩ := h
    rfl
  · obtain ⟨p, d, i, j, k, rfl, ⟨k0, dx, t, hp, ht⟩, kp, hd, bi, bj, q⟩ := h
    have nd := sc_SSign.nd
    refine ⟨_, (pss_cons (ps_asg (pe_fld (pv 0) rfl) (pg_tup rfl (pgs_cons (pg_name (i := 1) nd rfl (Or.inl rfl)) (pgs_cons (pg_name (i := 2) nd rfl (Or.inl rfl)) (pgs_cons (pg_name (i := 3) nd rfl (Or.inl rfl)) pgs_nil)))))
      (pss_cons (ps_set (i := 4) nd rfl (Or.inl rfl) (pe_op op_add (pe_op op_mulW (pv 1) (pe_callB call_abs (by rfl) mA (by decide +kernel) (pa_cons (pv 1) pa_nil))) (pe_op op_mulW (pe_op op_mulW (pe_fld (pv 0) rfl) (pv 2)) (pe_callB call_abs (by rfl) mA (by decide +kernel) (pa_cons (pv 2) pa_nil)))))
      (pss_cons (ps_if (pt_cmpR op_gt (pv 4) pe_int (nomark _))
      (pss_one (ps_ret pe_int))
      pss_nil)
      (pss_cons (ps_if (pt_cmpR op_lt (pv 4) pe_int (nomark _))
      (pss_one (ps_ret (pe_un un_neg pe_int)))
      pss_nil)
      (pss_one (ps_ret pe_int)))))), ?_⟩
    have ei : Bd 900 (pI i j k) := bi.le (pI_le k0)
    have ej : Bd 900 (pJ i j k) := bj.le (pJ_le k0)
    rw [← sg_parts (i := i) (j := j) kp] at q
    generalize pI i j k = x at *
    generalize pJ i j k = y at *
    refine ⟨_, rfl, p, C, dx, _, _, rfl, hp, T.cl, T.nP, sfl_parts _ _, t, _, rfl, SqT.of ht, rfl, _, _, rfl, _, _, rfl, _, _, rfl, rfl, ?_⟩
    refine ⟨_, rfl, _, rfl, _, rfl, _, _, rfl, rfl, mulOk ei ei.ab (by decide) (by decide) (by decide), ?_⟩
    refine ⟨_, rfl, p, C, dx, _, _, rfl, hp, T.cl, T.nR, sfl_root _ _, _, rfl, _, _, rfl, rfl, mulOk (rootBd hd) ej (by decide) (by decide) (by decide), _, rfl, _, rfl, _, _, rfl, rfl, mulOk ((rootBd hd).mul ej) ej.ab (by decide) (by decide) (by decide), _, _, rfl, rfl, ?_⟩
    refine ⟨_, rfl, _, _, rfl, rfl, _, rfl, ite2 (fun h => ?_) (fun h => ?_)⟩
    · have : 0 < sgb d x y := of_decide_eq_true h
      unfold sg at q
      rw [if_pos this] at q
      exact q
    · have n1 : ¬ 0 < sgb d x y := fun z => h (decide_eq_true z)
      refine ⟨_, rfl, _, _, rfl, rfl, _, rfl, ite2 (fun h => ?_) (fun h => ?_)⟩
      · have : sgb d x y < 0 := of_decide_eq_true h
        unfold sg at q
        rw [if_neg n1, if_pos this] at q
        exact ⟨_, rfl, q⟩
      · have n2 : ¬ sgb d x y < 0 := fun z => h (decide_eq_true z)
        unfold sg at q
        rw [if_neg n1, if_neg n2] at q
        exact q
abbrev n_SFlo : List Str := ["self", "i", "j", "k", "multiple"]
theorem sc_SFlo : FnScope n_SFlo ["self"] (defScope (sS 5)) := ⟨rfl, rfl, rfl, by decide +kernel, rfl, by decide +kernel, by decide +kernel⟩
theorem ok_SFlo {f C : Addr} {fd : FuncData} {k : Nat} (F : Fun K "floor" "Surd.floor" (sS 5) f fd) (T : TxS K mg C) (mI : mg "isqrt" = some (.builtin "math.isqrt")) : FnOk P w K mg base CX0 (k + 1) f fd ["self"] (spFlS C) := by
  refine F.ok sc_SFlo (fun vs H Q E h => ?_) (fun cdv A outer s H vs Q E hr h => ?_)
  · obtain ⟨p, d, i, j, k, rfl, _⟩ := h
    rfl
  · obtain ⟨p, d, i, j, k, rfl, ⟨k0, dx, t, hp, ht⟩, hd, bi, bj, bk, q⟩ := h
    have nd := sc_SFlo.nd
    refine ⟨_, (pss_cons (ps_asg (pe_fld (pv 0) rfl) (pg_tup rfl (pgs_cons (pg_name (i := 1) nd rfl (Or.inl rfl)) (pgs_cons (pg_name (i := 2) nd rfl (Or.inl rfl)) (pgs_cons (pg_name (i := 3) nd rfl (Or.inl rfl)) pgs_nil)))))
      (pss_cons (ps_set (i := 4) nd rfl (Or.inl rfl) (pe_callBfun cr_isqrt (by rfl) mI (pa_cons (pe_op op_mulW (pe_op op_mulW (pe_fld (pv 0) rfl) (pv 2)) (pv 2)) pa_nil)))
      (C8.pss_cut (ps_if (pt_cmpR op_lt (pv 2) pe_int (nomark _))
      (pss_one (ps_set (i := 4) nd rfl (Or.inl rfl) (pe_op op_sub (pe_un un_neg (pv 4)) pe_int)))
      pss_nil)
      (pss_one (ps_ret (pe_op op_fdivW (pe_op op_add (pv 1) (pv 4)) (pv 3))))))), ?_⟩
    have ei : Bd 900 (pI i j k) := bi.le (pI_le k0)
    have ej : Bd 900 (pJ i j k) := bj.le (pJ_le k0)
    have ek : Bd 900 (pK i j k) := bk.le (pK_le k0)
    have kp := pK_pos (i := i) (j := j) k0
    unfold flS at q
    generalize pI i j k = x at *
    generalize pJ i j k = y at *
    generalize pK i j k = z at *
    have b2 : Bd 1804 (d * y * y) := ((rootBd hd).mul ej).mul ej
    have n2 := dff_nn hd (f := y)
    refine ⟨_, rfl, p, C, dx, _, _, rfl, hp, T.cl, T.nP, sfl_parts _ _, t, _, rfl, SqT.of ht, rfl, _, _, rfl, _, _, rfl, _, _, rfl, rfl, ?_⟩
    refine ⟨_, rfl, p, C, dx, _, _, rfl, hp, T.cl, T.nR, sfl_root _ _, _, rfl, _, _, rfl, rfl, mulOk (rootBd hd) ej (by decide) (by decide) (by decide), _, rfl, _, _, rfl, rfl, mulOk ((rootBd hd).mul ej) ej (by decide) (by decide) (by decide), _, rfl, n2, ?_, ?_⟩
    · have := b2.log (by decide)
      have e : (d * y * y).toNat = (d * y * y).natAbs := by omega
      rw [e]
      omega
    · refine ⟨fun σ' H' => σ' = [some (.ref p), some (.int x), some (.int y), some (.int z), some (.int (flr d y))] ∧ H' = H, ?_, ?_⟩
      · refine ⟨_, rfl, _, _, rfl, rfl, _, rfl, ite2 (fun h => ?_) (fun h => ?_)⟩
        · have hy : y < 0 := of_decide_eq_true h
          refine ⟨_, rfl, _, rfl, _, _, rfl, rfl, ?_, rfl⟩
          unfold flr
          rw [if_pos hy]
          rfl
        · have hy : ¬ y < 0 := fun z => h (decide_eq_true z)
          refine ⟨?_, rfl⟩
          unfold flr
          rw [if_neg hy]
          rfl
      · rintro σ' H1 ⟨rfl, rfl⟩
        exact ⟨_, rfl, _, rfl, _, _, rfl, rfl, _, rfl, _, _, rfl, rfl, ⟨kp, Nat.lt_of_lt_of_le (ek.log (by decide)) (by decide)⟩, q⟩
abbrev n_SNeg : List Str := ["self", "i", "j", "k"]
theorem sc_SNeg : FnScope n_SNeg ["self"] (defScope (sS 11)) := ⟨rfl, rfl, rfl, by decide +kernel, rfl, by decide +kernel, by decide +kernel⟩
theorem ok_SNeg {f C : Addr} {fd : FuncData} {k : Nat} (F : Fun K "__neg__" "Surd.__neg__" (sS 11) f fd) (T : TxS K mg C) (M : MkS P w K mg base C k) : FnOk P w K mg base CX0 (k + 2) f fd ["self"] (spNegS C) := by
  refine F.ok sc_SNeg (fun vs H Q E h => ?_) (fun cdv A outer s H vs Q E hr h => ?_)
  · obtain ⟨p, d, i, j, k, rfl, _⟩ := h
    rfl
  · obtain ⟨p, d, i, j, k, rfl, ⟨k0, dx, t, hp, ht⟩, hd, bi, bj, bk, q⟩ := h
    have nd := sc_SNeg.nd
    obtain ⟨fi, fdi, M1, G, kb, _, _⟩ := M.ex
    refine ⟨_, (pss_cons (ps_asg (pe_fld (pv 0) rfl) (pg_tup rfl (pgs_cons (pg_name (i := 1) nd rfl (Or.inl rfl)) (pgs_cons (pg_name (i := 2) nd rfl (Or.inl rfl)) (pgs_cons (pg_name (i := 3) nd rfl (Or.inl rfl)) pgs_nil)))))
      (pss_one (ps_ret (pe_makeK M1 G hr rfl T.mg kb pass0 (pa_cons (pe_fld (pv 0) rfl) (pa_cons (pe_un un_neg (pv 1)) (pa_cons (pe_un un_neg (pv 2)) pa_nil))) (pk_cons (pv 3) pk_nil))))), ?_⟩
    have ei : Bd 900 (pI i j k) := bi.le (pI_le k0)
    have ej : Bd 900 (pJ i j k) := bj.le (pJ_le k0)
    have ek : Bd 900 (pK i j k) := bk.le (pK_le k0)
    have kp := pK_pos (i := i) (j := j) k0
    refine ⟨_, rfl, p, C, dx, _, _, rfl, hp, T.cl, T.nP, sfl_parts _ _, t, _, rfl, SqT.of ht, rfl, _, _, rfl, _, _, rfl, _, _, rfl, rfl, ?_⟩
    refine ⟨_, rfl, p, C, dx, _, _, rfl, hp, T.cl, T.nR, sfl_root _ _, _, rfl, _, rfl, _, rfl, _, rfl, _, rfl, rfl, rfl, fun x dx2 nx ndx nex => ?_⟩
    refine ⟨x, dx2, d, _, _, _, rfl, upd_same, hd, by omega, (ei.mono (by decide)).neg, (ej.mono (by decide)).neg, ek.mono (by decide), fun H' S kp' => ⟨rfl, ?_⟩⟩
    have sm := Same.made nx ndx kp'
    refine q x H' nx (SV.cong ⟨by omega, S⟩ k0 ?_ ?_) sm
    · have a1 := pI_eq (i := i) (j := j) k0
      have a3 := pK_eq (i := i) (j := j) k0
      generalize gs i j k = g at *
      generalize pI i j k = X at *
      generalize pK i j k = Z at *
      rw [a1, a3]; grind
    · have a2 := pJ_eq (i := i) (j := j) k0
      have a3 := pK_eq (i := i) (j := j) k0
      generalize gs i j k = g at *
      generalize pJ i j k = Y at *
      generalize pK i j k = Z at *
      rw [a2, a3]; grind
end
end RF

namespace RF
open PySem L2 PyProof.Rows
theorem Kp.at_ {b a : Addr} {H H' : Hp} {o : HO} (k : Kp b H H') (B : Bag H b) (h : H a = some o) (n : ∀ xs, o ≠ .lst xs) : H' a = some o := by
  obtain ⟨xs, hb⟩ := B.some
  exact k a o (ne_of h hb (n xs)) h
theorem SV.kp {H H' : Hp} {C p b : Addr} {d i j k : Int} (B : Bag H b) (kp : Kp b H H') (h : SV H C p d i j k) : SV H' C p d i j k := by
  obtain ⟨k0, dx, t, h1, h2⟩ := h
  exact ⟨k0, dx, t, kp.at_ B h1 (fun _ z => by cases z), kp.at_ B h2 (fun _ z => by cases z)⟩
theorem SV.ins {H : Hp} {C p : Addr} {d i j k : Int} (h : SV H C p d i j k) : ∃ dx fs, H p = some (.ins C dx fs) ∧ ∀ m : Str, ¬ m = "_parts" → ¬ m = "_root" → fs.lookup m = none := by
  obtain ⟨_, dx, t, h1, _⟩ := h
  exact ⟨dx, _, h1, fun m a b => sfl_no _ _ a b⟩
theorem flr_bd {n : Nat} {d f : Int} (hd : Root d) (h : Bd n f) : Bd (n + 3) (flr d f) := by
  have r0 := rt_nn (d * f * f)
  have r1 := rt_le (dff_nn hd (f := f))
  have h4 : rt (d * f * f) ≤ 4 * ab f := by
    apply le_of_sq (by have := ab_nn f; omega)
    have e : (4 * ab f) * (4 * ab f) = 16 * (f * f) := by unfold ab; split <;> grind
    have : d * f * f ≤ 16 * (f * f) := by
      rw [dff]
      exact Int.mul_le_mul_of_nonneg_right (by have := hd.le; omega) (sq_nonneg f)
    omega
  have ha : ab f = (f.natAbs : Int) := by unfold ab; split <;> omega
  unfold Bd at *
  have hp : 2 ^ (n + 3) = 8 * 2 ^ n := by rw [Nat.pow_add]; omega
  unfold flr
  split <;> omega
/-- a method of the class at C, by its promise -/
structure Mt (P : Program) (w : World) (K : PySem.W.Frag) (mg : Str → Option Value) (base : Heap) (C : Addr) (k : Nat) (m : Str) (ps : List Str) (sp : Sp) : Prop where
  ex : ∃ (f : Addr) (fd : FuncData), FnOk P w K mg base CX0 k f fd ps sp ∧ Meth K C m f ∧ Binds K fd ps []
theorem pe_mt0 {X : Cx} {j k : Nat} {C : Addr} {m : Str} {ps : List Str} {sp : Sp} {o : Expr} {pos apos : Pos} {ta : TE} {pl : Sem Bool} (he : PE X o ta) (c : Cls X.K C) (M : Mt X.prog X.w X.K X.mg X.base C k m ps sp) (hr : Room j X.A) (hk : k ≤ j)
    (ht : eval (.Call (.Attribute o m apos) [] [] pos) X.env = (do
      let ov ← eval o X.env
      standAt apos.atName
      let (f, first) ← holding [ov] (getMethod ov m pl)
      callWith pos f first (backTo pos (starEach [] X.env)) (backToKw pos (keywordEach [] X.env))) := by rfl) : PE X (.Call (.Attribute o m apos) [] [] pos) (tMeth C m sp [] E0 ta tNil) := by
  obtain ⟨f, fd, G, hm, b⟩ := M.ex
  exact pe_meth0 he c hm G (hr.mono hk) b .nil pass0 ht
theorem pe_mt {X : Cx} {j k : Nat} {C : Addr} {m : Str} {ps : List Str} {sp : Sp} {o e : Expr} {es : List Expr} {pos apos : Pos} {ta : TE} {t : TA} {pl : Sem Bool} (he : PE X o ta) (c : Cls X.K C) (M : Mt X.prog X.w X.K X.mg X.base C k m ps sp) (hr : Room j X.A) (hk : k ≤ j) (ha : PA X (e :: es) t)
    (h1 : starEach (e :: es) X.env = (false, eval e X.env) :: starEach es X.env := by rfl) (h2 : (backTo pos (starEach es X.env)).any (·.1) = false := by rfl)
    (ht : eval (.Call (.Attribute o m apos) (e :: es) [] pos) X.env = (do
      let ov ← eval o X.env
      standAt apos.atName
      let (f, first) ← holding [ov] (getMethod ov m pl)
      callWith pos f first (backTo pos (starEach (e :: es) X.env)) (backToKw pos (keywordEach [] X.env))) := by rfl) : PE X (.Call (.Attribute o m apos) (e :: es) [] pos) (tMeth C m sp [] E0 ta t) := by
  obtain ⟨f, fd, G, hm, b⟩ := M.ex
  exact pe_meth he c hm G (hr.mono hk) b .nil pass0 ha h1 h2 ht
end RF

namespace RF
def per (d : Int) : List Int := if d = 2 then [2] else if d = 3 then [1, 2] else if d = 5 then [1] else if d = 6 then [2, 4] else [3]
def ai (p : List Int) (i : Nat) : Int := p.getD (i % p.length) 0
theorem ai_add (p : List Int) (i : Nat) : ai p (i + p.length) = ai p i := by unfold ai; rw [Nat.add_mod_right]
theorem ai_pos {d : Int} (h : Root d) (i : Nat) : 1 ≤ ai (per d) i ∧ ai (per d) i ≤ 4 := by
  have h2 : i % 2 = 0 ∨ i % 2 = 1 := by omega
  rcases h with rfl | rfl | rfl | rfl | rfl <;> rcases h2 with e | e <;> simp [per, ai, e, Nat.mod_one]
def stp (p : List Int) : Nat → Int × Int
  | 0 => (0, 1)
  | n + 1 => ((stp p n).2, ai p n * (stp p n).2 + (stp p n).1)
def ptp (p : List Int) : Nat → Int × Int
  | 0 => (1, 0)
  | n + 1 => ((ptp p n).2, ai p n * (ptp p n).2 + (ptp p n).1)
def qn (p : List Int) (i : Nat) : Int := (stp p i).2
def pn (p : List Int) (i : Nat) : Int := (ptp p i).2
theorem stp_pos {p : List Int} (h : ∀ i, 1 ≤ ai p i) : ∀ i, 0 ≤ (stp p i).1 ∧ 1 ≤ (stp p i).2 ∧ (stp p i).1 ≤ (stp p i).2
  | 0 => by simp [stp]
  | n + 1 => by
    have ⟨a, b, c⟩ := stp_pos h n
    have h1 : 1 * (stp p n).2 ≤ ai p n * (stp p n).2 := Int.mul_le_mul_of_nonneg_right (h n) (by omega)
    refine ⟨?_, ?_, ?_⟩ <;> simp only [stp] <;> omega
theorem qn_pos {p : List Int} (h : ∀ i, 1 ≤ ai p i) (i : Nat) : 1 ≤ qn p i := (stp_pos h i).2.1
theorem qn_lt {p : List Int} (h : ∀ i, 1 ≤ ai p i) (i : Nat) : (i : Int) ≤ qn p i := by
  have : ∀ i : Nat, (i : Int) ≤ (stp p i).2 ∧ (1 ≤ i → 1 ≤ (stp p i).1) := by
    intro i
    induction i with
    | zero => simp [stp]
    | succ n ih =>
      have ⟨a, b, c⟩ := stp_pos h n
      have h1 : 1 * (stp p n).2 ≤ ai p n * (stp p n).2 := Int.mul_le_mul_of_nonneg_right (h n) (by omega)
      refine ⟨?_, fun _ => by simp only [stp]; omega⟩
      simp only [stp]
      rcases Nat.eq_zero_or_pos n with rfl | hp
      · simp; omega
      · have := ih.2 hp
        omega
  exact (this i).1
def bk (p : List Int) : Nat → Nat → Int × Int
  | _, 0 => (1, 0)
  | i, m + 1 => (ai p i * (bk p (i + 1) m).1 + (bk p (i + 1) m).2, (bk p (i + 1) m).1)
theorem bk_pos {p : List Int} (h : ∀ i, 1 ≤ ai p i) : ∀ m i, 1 ≤ (bk p i m).1 ∧ 0 ≤ (bk p i m).2 ∧ (1 ≤ m → 1 ≤ (bk p i m).2)
  | 0, i => by simp [bk]
  | m + 1, i => by
    have ⟨a, b, c⟩ := bk_pos h m (i + 1)
    have h1 : 1 * (bk p (i + 1) m).1 ≤ ai p i * (bk p (i + 1) m).1 := Int.mul_le_mul_of_nonneg_right (h i) (by omega)
    refine ⟨?_, ?_, fun _ => ?_⟩ <;> simp only [bk] <;> omega
theorem bk_le {p : List Int} (h : ∀ i, 1 ≤ ai p i) (m i : Nat) : (bk p i m).2 ≤ (bk p i m).1 := by
  cases m with
  | zero => simp [bk]
  | succ m =>
    have ⟨a, b, c⟩ := bk_pos h m (i + 1)
    have h1 : 1 * (bk p (i + 1) m).1 ≤ ai p i * (bk p (i + 1) m).1 := Int.mul_le_mul_of_nonneg_right (h i) (by omega)
    simp only [bk]; omega
/-- The form of a root at the even places and at the odd ones. -/
def frm (d : Int) (o : Nat) (x y : Int) : Int :=
  if d = 2 then (y + x) * (y + x) - 2 * (x * x)
  else if d = 5 then (2 * y + x) * (2 * y + x) - 5 * (x * x)
  else if d = 13 then (2 * y + 3 * x) * (2 * y + 3 * x) - 13 * (x * x)
  else if d = 3 then (if o = 0 then (y + x) * (y + x) - 3 * (x * x) else 2 * (y * y) + 2 * (x * y) - x * x)
  else (if o = 0 then (y + 2 * x) * (y + 2 * x) - 6 * (x * x) else 2 * (y * y) + 4 * (x * y) - x * x)
theorem frm_bk {d : Int} (hd : Root d) : ∀ m i, frm d (i % 2) (bk (per d) i m).1 (bk (per d) i m).2 * (if m % 2 = 0 then 1 else -1) < 0
  | 0, i => by
    have h2 : i % 2 = 0 ∨ i % 2 = 1 := by omega
    rcases hd with rfl | rfl | rfl | rfl | rfl <;> rcases h2 with e | e <;> simp [bk, frm, e]
  | m + 1, i => by
    have ih := frm_bk hd m (i + 1)
    have h2 : i % 2 = 0 ∨ i % 2 = 1 := by omega
    have h3 : m % 2 = 0 ∨ m % 2 = 1 := by omega
    generalize hx : (bk (per d) (i + 1) m).1 = x at ih
    generalize hy : (bk (per d) (i + 1) m).2 = y at ih
    simp only [bk, hx, hy]
    have e1 : frm d (i % 2) (ai (per d) i * x + y) x = - frm d ((i + 1) % 2) x y := by
      rcases hd with rfl | rfl | rfl | rfl | rfl
      · simp only [frm, ai, per, if_pos, List.length_cons, List.length_nil, Nat.zero_add, Nat.mod_one, List.getD_cons_zero]; grind
      · rcases h2 with e | e
        · have e' : (i + 1) % 2 = 1 := by omega
          simp [frm, ai, per, e, e']; grind
        · have e' : (i + 1) % 2 = 0 := by omega
          simp [frm, ai, per, e, e']; grind
      · simp [frm, ai, per, Nat.mod_one]; grind
      · rcases h2 with e | e
        · have e' : (i + 1) % 2 = 1 := by omega
          simp [frm, ai, per, e, e']; grind
        · have e' : (i + 1) % 2 = 0 := by omega
          simp [frm, ai, per, e, e']; grind
      · simp [frm, ai, per, Nat.mod_one]; grind
    rw [e1]
    rcases h3 with e | e
    · rw [if_pos e] at ih
      rw [if_neg (by omega)]; omega
    · rw [if_neg (by omega)] at ih
      rw [if_pos (by omega)]; omega
def sw (w : Nat → Int) : Nat → List Int → Int
  | _, [] => 0
  | i, d :: ds => d * w i + sw w (i + 1) ds
def Vs (p : List Int) : Int → Int → Nat → List Int → Int
  | _, _, _, [] => 0
  | x, y, i, d :: ds => d * y - Vs p y (x - ai p i * y) (i + 1) ds
def Bnd (p : List Int) : Nat → List Int → Prop
  | _, [] => True
  | i, d :: ds => (0 ≤ d ∧ d ≤ ai p i) ∧ Bnd p (i + 1) ds
theorem vs_bd {p : List Int} (h : ∀ i, 1 ≤ ai p i) : ∀ ds m i, Bnd p i ds → ds.length + 1 ≤ m → -(bk p i m).2 < Vs p (bk p i m).1 (bk p i m).2 i ds ∧ Vs p (bk p i m).1 (bk p i m).2 i ds < (bk p i m).1
  | [], m, i, _, hm => by
    have ⟨a, b, c⟩ := bk_pos h m i
    have := c (by simpa using hm)
    simp only [Vs]; omega
  | d :: ds, 0, i, _, hm => by simp at hm
  | d :: ds, m + 1, i, hB, hm => by
    have ⟨⟨d0, d1⟩, hB'⟩ := hB
    have ih := vs_bd h ds m (i + 1) hB' (by simpa using hm)
    have e : (bk p i (m + 1)).1 - ai p i * (bk p i (m + 1)).2 = (bk p (i + 1) m).2 := by simp only [bk]; omega
    have e2 : (bk p i (m + 1)).2 = (bk p (i + 1) m).1 := rfl
    simp only [Vs]
    rw [e, e2]
    have ⟨a, b, c⟩ := bk_pos h m (i + 1)
    have e3 : (bk p i (m + 1)).1 = ai p i * (bk p (i + 1) m).1 + (bk p (i + 1) m).2 := rfl
    rw [e3]
    have h1 : d * (bk p (i + 1) m).1 ≤ ai p i * (bk p (i + 1) m).1 := Int.mul_le_mul_of_nonneg_right d1 (by omega)
    have h2 : 0 ≤ d * (bk p (i + 1) m).1 := Int.mul_nonneg d0 (by omega)
    omega
/-- 0: all are zero; 1: the first place above 0 is even; -1: it is odd. -/
def lead : List Int → Int
  | [] => 0
  | d :: ds => if 0 < d then 1 else - lead ds
theorem vs_sg {p : List Int} (h : ∀ i, 1 ≤ ai p i) : ∀ ds m i, Bnd p i ds → ds.length + 1 ≤ m → (lead ds = 0 ∧ Vs p (bk p i m).1 (bk p i m).2 i ds = 0) ∨ (lead ds = 1 ∧ 0 < Vs p (bk p i m).1 (bk p i m).2 i ds) ∨ (lead ds = -1 ∧ Vs p (bk p i m).1 (bk p i m).2 i ds < 0)
  | [], m, i, _, hm => .inl ⟨rfl, rfl⟩
  | d :: ds, 0, i, _, hm => by simp at hm
  | d :: ds, m + 1, i, hB, hm => by
    have ⟨⟨d0, d1⟩, hB'⟩ := hB
    have ih := vs_sg h ds m (i + 1) hB' (by simpa using hm)
    have bd := vs_bd h ds m (i + 1) hB' (by simpa using hm)
    have e : (bk p i (m + 1)).1 - ai p i * (bk p i (m + 1)).2 = (bk p (i + 1) m).2 := by simp only [bk]; omega
    have e2 : (bk p i (m + 1)).2 = (bk p (i + 1) m).1 := rfl
    simp only [Vs, lead]
    rw [e, e2]
    have ⟨a, b, c⟩ := bk_pos h m (i + 1)
    by_cases hd : 0 < d
    · rw [if_pos hd]
      have h1 : 1 * (bk p (i + 1) m).1 ≤ d * (bk p (i + 1) m).1 := Int.mul_le_mul_of_nonneg_right (by omega) (by omega)
      refine .inr (.inl ⟨rfl, by omega⟩)
    · rw [if_neg hd]
      have : d = 0 := by omega
      subst this
      rw [Int.zero_mul]
      omega
theorem vs_lin {p : List Int} : ∀ ds (i : Nat) (e P Q : Int), Vs p (-e * ((stp p i).1 * P - (ptp p i).1 * Q)) (e * ((stp p i).2 * P - (ptp p i).2 * Q)) i ds = e * (sw (qn p) i ds * P - sw (pn p) i ds * Q)
  | [], i, e, P, Q => by simp [Vs, sw]
  | d :: ds, i, e, P, Q => by
    have ih := vs_lin (p := p) ds (i + 1) (-e) P Q
    simp only [Vs, sw]
    have e1 : -e * ((stp p i).1 * P - (ptp p i).1 * Q) - ai p i * (e * ((stp p i).2 * P - (ptp p i).2 * Q)) = -e * ((stp p (i + 1)).2 * P - (ptp p (i + 1)).2 * Q) := by
      simp only [stp, ptp]; grind
    have e2 : e * ((stp p i).2 * P - (ptp p i).2 * Q) = - -e * ((stp p (i + 1)).1 * P - (ptp p (i + 1)).1 * Q) := by
      simp only [stp, ptp]; grind
    rw [e1]
    have e3 : Vs p (e * ((stp p i).2 * P - (ptp p i).2 * Q)) (-e * ((stp p (i + 1)).2 * P - (ptp p (i + 1)).2 * Q)) (i + 1) ds = -e * (sw (qn p) (i + 1) ds * P - sw (pn p) (i + 1) ds * Q) := by
      rw [← ih, e2]
    rw [e3]
    simp only [qn, pn]; grind
theorem vs_tot {p : List Int} (ds : List Int) (P Q : Int) : Vs p Q P 0 ds = sw (qn p) 0 ds * P - sw (pn p) 0 ds * Q := by
  have := vs_lin (p := p) ds 0 1 P Q
  simp only [stp, ptp] at this
  have e1 : (-1 : Int) * (0 * P - 1 * Q) = Q := by omega
  have e2 : (1 : Int) * (1 * P - 0 * Q) = P := by omega
  rw [e1, e2, Int.one_mul] at this
  exact this
theorem sw_add (p : List Int) (ds : List Int) : ∀ i, sw (fun j => qn p (j + p.length)) i ds = (stp p p.length).2 * sw (qn p) i ds + (stp p p.length).1 * sw (pn p) i ds := by
  have h : ∀ j, stp p (j + p.length) = ((stp p p.length).2 * (stp p j).1 + (stp p p.length).1 * (ptp p j).1, (stp p p.length).2 * (stp p j).2 + (stp p p.length).1 * (ptp p j).2) := by
    intro j
    induction j with
    | zero => simp [stp, ptp]
    | succ n ih =>
      have e : n + 1 + p.length = (n + p.length) + 1 := by omega
      rw [e]
      simp only [stp, ptp, ih, ai_add]
      refine Prod.ext rfl ?_
      simp only []
      grind
  induction ds with
  | nil => intro i; simp [sw]
  | cons d ds ih =>
    intro i
    simp only [sw, ih (i + 1)]
    have : qn p (i + p.length) = (stp p p.length).2 * (stp p i).2 + (stp p p.length).1 * (ptp p i).2 := by unfold qn; rw [h]
    rw [this]; simp only [qn, pn]; grind
end RF

namespace RF
def bI (d : Int) : Int := if d = 6 then -2 else if d = 13 then -3 else -1
def bK (d : Int) : Int := if d = 5 then 2 else if d = 13 then 2 else 1
theorem frm0 {d : Int} (hd : Root d) (x y : Int) : frm d 0 x y = (bK d * y - bI d * x) * (bK d * y - bI d * x) - d * (x * x) := by
  rcases hd with rfl | rfl | rfl | rfl | rfl <;> simp [frm, bK, bI] <;> grind
theorem bK_pos {d : Int} (hd : Root d) : 1 ≤ bK d := by rcases hd with rfl | rfl | rfl | rfl | rfl <;> decide
theorem bI_neg {d : Int} (hd : Root d) : bI d ≤ -1 := by rcases hd with rfl | rfl | rfl | rfl | rfl <;> decide
theorem lead_zero {p : List Int} {w : Nat → Int} : ∀ ds i, Bnd p i ds → lead ds = 0 → sw w i ds = 0
  | [], _, _, _ => rfl
  | d :: ds, i, hB, h => by
    unfold lead at h
    by_cases hd : 0 < d
    · rw [if_pos hd] at h; omega
    · rw [if_neg hd] at h
      have : d = 0 := by have := hB.1.1; omega
      subst this
      simp only [sw, Int.zero_mul, Int.zero_add]
      exact lead_zero ds (i + 1) hB.2 (by omega)
theorem sw_nn {p : List Int} {w : Nat → Int} (hw : ∀ i, 0 ≤ w i) : ∀ ds i, Bnd p i ds → 0 ≤ sw w i ds
  | [], _, _ => by simp [sw]
  | d :: ds, i, hB => by
    have := Int.mul_nonneg hB.1.1 (hw i)
    have := sw_nn hw ds (i + 1) hB.2
    simp only [sw]; omega
theorem mul_sq (a b : Int) : (a * b) * (a * b) = (a * a) * (b * b) := by grind
theorem flb {d : Int} (hd : Root d) (ds : List Int) (hB : Bnd (per d) 0 ds) :
    sw (pn (per d)) 0 ds - (if lead ds = -1 then 1 else 0) = (bI d * sw (qn (per d)) 0 ds + rt (sw (qn (per d)) 0 ds * sw (qn (per d)) 0 ds * d)) / bK d := by
  have ha : ∀ i, 1 ≤ ai (per d) i := fun i => (ai_pos hd i).1
  have hk := bK_pos hd
  have hi := bI_neg hd
  have hdp := hd.pos
  by_cases h0 : lead ds = 0
  · rw [lead_zero ds 0 hB h0, lead_zero ds 0 hB h0, if_neg (by omega)]
    have : rt (0 * 0 * d) = 0 := by
      rw [show (0 * 0 * d : Int) = 0 by simp]
      exact (rt_uniq (by decide) (by decide) (by decide) (by decide)).symm
    rw [this]; simp
  · have n0 : 0 ≤ sw (qn (per d)) 0 ds := sw_nn (fun i => by have := qn_pos ha i; omega) ds 0 hB
    have key : ∀ m, ds.length + 1 ≤ m → (sw (pn (per d)) 0 ds - (if lead ds = -1 then 1 else 0)) * (bk (per d) 0 m).1 < sw (qn (per d)) 0 ds * (bk (per d) 0 m).2 ∧ sw (qn (per d)) 0 ds * (bk (per d) 0 m).2 < (sw (pn (per d)) 0 ds - (if lead ds = -1 then 1 else 0) + 1) * (bk (per d) 0 m).1 := by
      intro m hm
      have b1 := vs_bd ha ds m 0 hB hm
      have b2 := vs_sg ha ds m 0 hB hm
      rw [vs_tot] at b1 b2
      have le := bk_le ha m 0
      generalize (bk (per d) 0 m).1 = Q at *
      generalize (bk (per d) 0 m).2 = P at *
      generalize sw (pn (per d)) 0 ds = s at *
      generalize sw (qn (per d)) 0 ds = n at *
      rcases b2 with ⟨e, _⟩ | ⟨e, h⟩ | ⟨e, h⟩
      · exact absurd e h0
      · rw [e, if_neg (by decide)]
        rw [Int.sub_zero, Int.add_mul]
        omega
      · rw [e, if_pos rfl, Int.sub_mul, Int.sub_add_cancel]
        omega
    generalize sw (pn (per d)) 0 ds - (if lead ds = -1 then 1 else 0) = F at *
    generalize sw (qn (per d)) 0 ds = n at *
    have nn : 0 ≤ n * n * d := Int.mul_nonneg (Int.mul_nonneg n0 n0) (by omega)
    have t0 := rt_nn (n * n * d)
    have t1 := rt_le nn
    have t2 := rt_lt nn
    generalize rt (n * n * d) = t at *
    have h1 : bK d * F - bI d * n ≤ t := by
      refine Int.not_lt.mp fun hlt => ?_
      have ⟨k1, _⟩ := key (2 * (ds.length + 1)) (by omega)
      have f1 := frm_bk hd (2 * (ds.length + 1)) 0
      rw [if_pos (by omega), Nat.zero_mod, frm0 hd] at f1
      have ⟨q1, p0, _⟩ := bk_pos ha (2 * (ds.length + 1)) 0
      generalize (bk (per d) 0 (2 * (ds.length + 1))).1 = Q at *
      generalize (bk (per d) 0 (2 * (ds.length + 1))).2 = P at *
      generalize bK d = k at *
      generalize bI d = i at *
      have e1 : (k * F - i * n) * Q < n * (k * P - i * Q) := by
        have := Int.mul_lt_mul_of_pos_left k1 (show 0 < k by omega)
        have e : n * (k * P - i * Q) = k * (n * P) - i * n * Q := by grind
        have e' : (k * F - i * n) * Q = k * (F * Q) - i * n * Q := by grind
        omega
      have e2 : ((k * F - i * n) * Q) * ((k * F - i * n) * Q) < (n * (k * P - i * Q)) * (n * (k * P - i * Q)) := sq_lt (Int.mul_nonneg (by omega) (by omega)) e1
      rw [mul_sq, mul_sq] at e2
      have e3 : (n * n) * ((k * P - i * Q) * (k * P - i * Q)) ≤ (n * n) * (d * (Q * Q)) := Int.mul_le_mul_of_nonneg_left (by omega) (Int.mul_nonneg n0 n0)
      have e4 : (n * n) * (d * (Q * Q)) = (n * n * d) * (Q * Q) := by grind
      have e5 : (k * F - i * n) * (k * F - i * n) < n * n * d := Int.lt_of_mul_lt_mul_right (by omega) (sq_nonneg Q)
      have e6 : (t + 1) * (t + 1) ≤ (k * F - i * n) * (k * F - i * n) := sq_le (by omega) (by omega)
      omega
    have h2 : t < bK d * (F + 1) - bI d * n := by
      have ⟨_, k1⟩ := key (2 * (ds.length + 1) + 1) (by omega)
      have f1 := frm_bk hd (2 * (ds.length + 1) + 1) 0
      rw [if_neg (by omega), Nat.zero_mod, frm0 hd] at f1
      have ⟨q1, p0, _⟩ := bk_pos ha (2 * (ds.length + 1) + 1) 0
      generalize (bk (per d) 0 (2 * (ds.length + 1) + 1)).1 = Q at *
      generalize (bk (per d) 0 (2 * (ds.length + 1) + 1)).2 = P at *
      generalize bK d = k at *
      generalize bI d = i at *
      have e1 : n * (k * P - i * Q) < (k * (F + 1) - i * n) * Q := by
        have := Int.mul_lt_mul_of_pos_left k1 (show 0 < k by omega)
        have e : n * (k * P - i * Q) = k * (n * P) - i * n * Q := by grind
        have e' : (k * (F + 1) - i * n) * Q = k * ((F + 1) * Q) - i * n * Q := by grind
        omega
      have g0 : 0 ≤ k * P - i * Q := by
        have := Int.mul_nonneg (show 0 ≤ k by omega) p0
        have := Int.mul_nonneg (show 0 ≤ -i by omega) (show 0 ≤ Q by omega)
        rw [Int.neg_mul] at this
        omega
      have g1 := Int.mul_nonneg n0 g0
      have gp : 0 < k * (F + 1) - i * n := Int.not_le.mp fun hle => by
        have := Int.mul_nonneg (show 0 ≤ -(k * (F + 1) - i * n) by omega) (show 0 ≤ Q by omega)
        rw [Int.neg_mul] at this
        omega
      have e2 := sq_lt g1 e1
      rw [mul_sq, mul_sq] at e2
      have e3 : (n * n) * (d * (Q * Q)) ≤ (n * n) * ((k * P - i * Q) * (k * P - i * Q)) := Int.mul_le_mul_of_nonneg_left (by omega) (Int.mul_nonneg n0 n0)
      have e4 : (n * n) * (d * (Q * Q)) = (n * n * d) * (Q * Q) := by grind
      have e5 : n * n * d < (k * (F + 1) - i * n) * (k * (F + 1) - i * n) := Int.lt_of_mul_lt_mul_right (by omega) (sq_nonneg Q)
      exact lt_of_sq (by omega) (by omega)
    symm
    refine (Int.ediv_emod_unique (a := bI d * n + t) (b := bK d) (r := bI d * n + t - bK d * F) (q := F) (by omega)).mpr ⟨by omega, by omega, ?_⟩ |>.1
    rw [Int.mul_add] at h2; omega
/-- The digits of a number below q(m), the least place first. -/
def dg (p : List Int) : Nat → Int → List Int
  | 0, _ => []
  | m + 1, r => dg p m (r % qn p m) ++ [r / qn p m]
def Can (p : List Int) : Nat → Int → List Int → Prop
  | _, _, [] => True
  | i, lo, d :: ds => (0 ≤ d ∧ d ≤ ai p i ∧ (i = 0 ∨ lo ≠ 0 → d ≤ ai p i - 1)) ∧ Can p (i + 1) d ds
theorem can_bnd {p : List Int} : ∀ ds i lo, Can p i lo ds → Bnd p i ds
  | [], _, _, _ => trivial
  | _ :: ds, i, _, h => ⟨⟨h.1.1, h.1.2.1⟩, can_bnd ds (i + 1) _ h.2⟩
theorem can_snoc {p : List Int} {d : Int} : ∀ l i lo, Can p i lo l → (0 ≤ d ∧ d ≤ ai p (i + l.length) ∧ (i + l.length = 0 ∨ l.getLastD lo ≠ 0 → d ≤ ai p (i + l.length) - 1)) → Can p i lo (l ++ [d])
  | [], i, lo, _, h => ⟨by simpa using h, trivial⟩
  | c :: l, i, lo, hc, h => by
    refine ⟨hc.1, can_snoc l (i + 1) c hc.2 ?_⟩
    have e : i + (c :: l).length = i + 1 + l.length := by simp; omega
    rw [e] at h
    have e2 : (c :: l).getLastD lo = l.getLastD c := by cases l <;> rfl
    rw [e2] at h
    exact h
theorem sw_snoc {w : Nat → Int} {d : Int} : ∀ l i, sw w i (l ++ [d]) = sw w i l + d * w (i + l.length)
  | [], i => by simp [sw]
  | c :: l, i => by
    have e : i + (c :: l).length = i + 1 + l.length := by simp; omega
    rw [e]
    simp only [List.cons_append, sw, sw_snoc l (i + 1)]
    omega
theorem dg_len {p : List Int} : ∀ m r, (dg p m r).length = m
  | 0, _ => rfl
  | m + 1, r => by simp [dg, dg_len m]
theorem dg_ok {p : List Int} (h : ∀ i, 1 ≤ ai p i) : ∀ m r, 0 ≤ r → r < qn p m → Can p 0 0 (dg p m r) ∧ sw (qn p) 0 (dg p m r) = r
  | 0, r, r0, r1 => ⟨trivial, by
      have : qn p 0 = 1 := rfl
      simp only [dg, sw]; omega⟩
  | m + 1, r, r0, r1 => by
    have q1 := qn_pos h m
    have m0 := Int.emod_nonneg r (show qn p m ≠ 0 by omega)
    have m1 := Int.emod_lt_of_pos r (show 0 < qn p m by omega)
    have ⟨c, s⟩ := dg_ok h m (r % qn p m) m0 m1
    have de := Int.emod_add_mul_ediv r (qn p m)
    have d0 : 0 ≤ r / qn p m := Int.ediv_nonneg r0 (by omega)
    have ex : qn p (m + 1) = ai p m * qn p m + (stp p m).1 := rfl
    have st := stp_pos h m
    have st3 : (stp p m).1 ≤ qn p m := st.2.2
    have d1 : r / qn p m ≤ ai p m := by
      refine Int.not_lt.mp fun hl => ?_
      have := Int.mul_le_mul_of_nonneg_left (show ai p m + 1 ≤ r / qn p m by omega) (show 0 ≤ qn p m by omega)
      rw [Int.mul_add] at this
      have e : qn p m * ai p m = ai p m * qn p m := Int.mul_comm _ _
      omega
    refine ⟨can_snoc _ 0 0 c ?_, ?_⟩
    · rw [dg_len, Nat.zero_add]
      refine ⟨d0, d1, fun hh => ?_⟩
      refine Int.not_lt.mp fun hl => ?_
      have e : r / qn p m = ai p m := by omega
      rw [e] at de
      have e : qn p m * ai p m = ai p m * qn p m := Int.mul_comm _ _
      have lt : r % qn p m < (stp p m).1 := by omega
      cases m with
      | zero => simp only [stp] at lt; omega
      | succ k =>
        have e1 : (stp p (k + 1)).1 = qn p k := rfl
        rw [e1] at lt
        rcases hh with hh | hh
        · omega
        · refine hh ?_
          simp only [dg]
          rw [List.getLastD_concat]
          exact Int.ediv_eq_zero_of_lt m0 lt
    · simp only [dg]
      rw [sw_snoc, s, dg_len, Nat.zero_add]
      have e : qn p m * (r / qn p m) = r / qn p m * qn p m := Int.mul_comm _ _
      omega
end RF

namespace RF
theorem qn_mono1 {p : List Int} (h : ∀ i, 1 ≤ ai p i) (i : Nat) : qn p i ≤ qn p (i + 1) := (stp_pos h (i + 1)).2.2
theorem qn_mono {p : List Int} (h : ∀ i, 1 ≤ ai p i) {i j : Nat} (hij : i ≤ j) : qn p i ≤ qn p j := by
  induction j with
  | zero => have : i = 0 := by omega
            subst this; omega
  | succ j ih =>
    rcases Nat.lt_or_ge i (j + 1) with hl | hg
    · have := ih (by omega)
      have := qn_mono1 h j
      omega
    · have : i = j + 1 := by omega
      subst this; omega
theorem qn_dbl {p : List Int} (h : ∀ i, 1 ≤ ai p i) (i : Nat) : 2 * qn p i ≤ qn p (i + 2) := by
  have h1 : 1 * (stp p (i + 1)).2 ≤ ai p (i + 1) * (stp p (i + 1)).2 := Int.mul_le_mul_of_nonneg_right (h (i + 1)) (by have := (stp_pos h (i + 1)).2.1; omega)
  have e : qn p (i + 2) = ai p (i + 1) * (stp p (i + 1)).2 + (stp p i).2 := rfl
  have := qn_mono1 h i
  rw [e]
  unfold qn at *
  omega
theorem qn_pow {p : List Int} (h : ∀ i, 1 ≤ ai p i) : ∀ i : Nat, (2 : Int) ^ i ≤ qn p (2 * i)
  | 0 => by simp [qn, stp]
  | i + 1 => by
    have := qn_pow h i
    have := qn_dbl h (2 * i)
    rw [Int.pow_succ]
    have e : 2 * (i + 1) = 2 * i + 2 := by omega
    rw [e]; omega
theorem steps_le {p : List Int} (h : ∀ i, 1 ≤ ai p i) {n : Int} (hn : n < 2 ^ 133) {m : Nat} (hm : qn p m ≤ n) : m < 266 := by
  refine Nat.not_le.mp fun hl => ?_
  have h1 := qn_pow h 133
  have h2 := qn_mono h (show 2 * 133 ≤ m by omega)
  omega
theorem qn_bd {p : List Int} (h : ∀ i, 1 ≤ ai p i ∧ ai p i ≤ 4) (i : Nat) : qn p i ≤ 8 ^ i ∧ (stp p i).1 ≤ 8 ^ i := by
  induction i with
  | zero => simp [qn, stp]
  | succ i ih =>
    obtain ⟨a, b⟩ := ih
    have ⟨s1, s2, s3⟩ := stp_pos (fun i => (h i).1) i
    have h1 : ai p i * (stp p i).2 ≤ 4 * (stp p i).2 := Int.mul_le_mul_of_nonneg_right (h i).2 (by omega)
    have e : qn p (i + 1) = ai p i * (stp p i).2 + (stp p i).1 := rfl
    have e2 : (stp p (i + 1)).1 = (stp p i).2 := rfl
    rw [Int.pow_succ, e, e2]
    unfold qn at a
    omega
theorem qn_bd' {p : List Int} (h : ∀ i, 1 ≤ ai p i ∧ ai p i ≤ 4) {i : Nat} (hi : i ≤ 280) : Bd 841 (qn p i) := by
  have h1 := (qn_bd h i).1
  have h2 := qn_pos (fun i => (h i).1) i
  have h3 : (8 : Int) ^ i ≤ 8 ^ 280 := by exact_mod_cast Nat.pow_le_pow_right (by decide : 0 < 8) hi
  unfold Bd
  have h4 : ((qn p i).natAbs : Int) < 2 ^ 841 := by
    have : (8 : Int) ^ 280 < 2 ^ 841 := by decide +kernel
    omega
  exact_mod_cast h4
end RF

namespace RF
open PySem L2 PyProof.Rows
/-! ### a written dict with int keys: its values; tuples of the module -/
def IDct (K : PySem.W.Frag) (d : Addr) (i : Int) (v : V) : Prop :=
  ∃ es n ks u, K.lookup d = some ⟨.type "dict", none, .dict es n, #[]⟩ ∧ okE es.toList ks = true ∧ findBy Value.isInt es i = some u ∧ RelV v u
def rIxI (K : PySem.W.Frag) : R2 := fun x y H Q => ∃ p i v, x = .ref p ∧ y = .int i ∧ IDct K p i v ∧ Q v H
theorem ix_intd {X : Cx} : IxR X (rIxI X.K) := by
  intro value slice pins s σ H x y v u Q I rx ry h hs
  obtain ⟨p, i, r, rfl, rfl, ⟨es, n, ks, u0, hl, he, e, ru⟩, q⟩ := h
  obtain rfl : v = Value.ref p := rx
  obtain ⟨t, rfl⟩ := ry
  have hm : s.heap.MapOf (intKind X.prog X.w) p (fun k => findBy Value.isInt es k) := ⟨_, es, n, I.kIn _ _ hl, ⟨rfl, rfl, rfl⟩, rfl, fun e hh => by
    obtain ⟨k, t, _, e1, e2⟩ := okE_mem he e (Array.mem_toList_iff.mpr hh)
    exact ⟨k, by rw [e1]; show Value.isInt k (.int k t) = true; simp [Value.isInt], e2⟩, fun _ => rfl⟩
  exact tail_any hm.typeIs slot_dict_getitem.lookup (wpAny_getItem_of (k := i) (by show Value.isInt i (.int i t) = true; simp [Value.isInt]) hm e ⟨r, H, I.tok _, ru, q⟩) hs
def TupI (K : PySem.W.Frag) (t : Addr) (p : List Int) : Prop :=
  ∃ (o : Obj) (its : Array Value) (n : Nat), K.lookup t = some o ∧ o.cls = .type "tuple" ∧ o.data = .seq its n ∧ its.size ≤ sizeLine ∧ Vals (p.map V.int) its.toList
theorem TupI.sq {K : PySem.W.Frag} {H : Hp} {t : Addr} {p : List Int} (h : TupI K t p) : SqT K H t (p.map V.int) := .inr h
/-- a period: one to three parts, from 1 to 4 -/
structure Per (p : List Int) : Prop where
  len : 0 < p.length ∧ p.length ≤ 3
  bd : ∀ i, 1 ≤ ai p i ∧ ai p i ≤ 4
theorem Per.one {p : List Int} (h : Per p) (i : Nat) : 1 ≤ ai p i := (h.bd i).1
theorem ai_at {p : List Int} (h : Per p) (i : Nat) : (p.map V.int)[i % p.length]? = some (.int (ai p i)) := by
  have hl : i % p.length < p.length := Nat.mod_lt _ h.len.1
  rw [List.getElem?_map, List.getElem?_eq_getElem hl]
  unfold ai
  rw [List.getD_eq_getElem?_getD, List.getElem?_eq_getElem hl]
  rfl
theorem ai_atI {p : List Int} (h : Per p) (i : Nat) : atI (p.map V.int) ((i : Int) % (((p.map V.int).length : Nat) : Int)) = some (.int (ai p i)) := by
  rw [List.length_map, ← Int.natCast_emod]
  exact atI_nat (ai_at h i)
theorem sm_upd {H H1 : Hp} {a : Addr} {o : HO} (s : Same H H1) (h : H a = none) : Same H (upd H1 a o) := fun b u e => by
  have hne : b ≠ a := fun z => by rw [z, h] at e; cases e
  rw [upd_ne hne]
  exact s b u e
def spPart (K : PySem.W.Frag) : Sp := fun vs H Q _ => ∃ (t : Addr) (p : List Int) (i : Nat), vs = [.ref t, .int (i : Int)] ∧ TupI K t p ∧ Per p ∧ Q (.int (ai p i)) H
def qs (p : List Int) (m : Nat) : List V := (List.range m).map fun i => V.int (qn p i)
def spSteps (K : PySem.W.Frag) : Sp := fun vs H Q _ => ∃ (t : Addr) (p : List Int) (n : Int), vs = [.ref t, .int n] ∧ TupI K t p ∧ Per p ∧ 0 ≤ n ∧ n < 2 ^ 133 ∧
  ∀ m a H', m ≤ 266 → n < qn p m → H a = none → H' a = some (.lst (qs p m)) → Same H H' → Q (.ref a) H'
def spCan (K : PySem.W.Frag) : Sp := fun vs H Q _ => ∃ (t : Addr) (p : List Int) (i : Nat) (d lo : Int), vs = [.ref t, .int (i : Int), .int d, .int lo] ∧ TupI K t p ∧ Per p ∧
  Q (.bl (btw (.int d) 0 (if i = 0 ∨ lo ≠ 0 then ai p i - 1 else ai p i))) H
section
variable {P : Program} {w : World} {K : PySem.W.Frag} {mg : Str → Option Value} {base : Heap}
abbrev s_part_above : Stmt := top 28
abbrev n_part_above : List Str := ["period", "place"]
theorem sc_part_above : FnScope n_part_above ["period", "place"] (defScope s_part_above) := ⟨rfl, rfl, rfl, by decide +kernel, rfl, by decide +kernel, by decide +kernel⟩
theorem ok_part {f : Addr} {fd : FuncData} {k : Nat} (F : Fun K "_part_above" "_part_above" s_part_above f fd) (T : mg "len" = none) : FnOk P w K mg base CX0 (k + 1) f fd ["period", "place"] (spPart K) := by
  refine F.ok sc_part_above (fun vs H Q E h => ?_) (fun cdv A outer s H vs Q E hr h => ?_)
  · obtain ⟨t, p, i, rfl, _⟩ := h
    rfl
  · obtain ⟨t, p, i, rfl, hT, hp, q⟩ := h
    refine ⟨_, (pss_one (ps_ret (pe_ix ix_tup (pv 0) (pe_op op_mod (pv 1) (pe_callB call_len_seq (by rfl) T PySem.boot_len (pa_cons (pv 0) pa_nil))) (fun _ _ => rfl)))), ?_⟩
    have hl := hp.len
    exact ⟨_, rfl, _, rfl, _, rfl, t, _, rfl, .inr hT.sq, _, _, rfl, rfl, (by show (0 : Int) < (((p.map V.int).length : Nat) : Int); rw [List.length_map]; omega), t, _, _, _, rfl, rfl, hT.sq, ai_atI hp i, q⟩
abbrev s_steps_within : Stmt := top 30
abbrev n_steps_within : List Str := ["period", "number", "steps", "before", "here", "part"]
theorem sc_steps_within : FnScope n_steps_within ["period", "number"] (defScope s_steps_within) := ⟨rfl, rfl, rfl, by decide +kernel, rfl, by decide +kernel, by decide +kernel⟩
theorem qs_len (p : List Int) (m : Nat) : (qs p m).length = m := by simp [qs]
theorem qs_snoc (p : List Int) (m : Nat) : qs p m ++ [.int (qn p m)] = qs p (m + 1) := by simp [qs, List.range_succ]
theorem ok_steps {f : Addr} {fd : FuncData} {k : Nat} (F : Fun K "_steps_within" "_steps_within" s_steps_within f fd) (T : mg "len" = none) (D1 : Df P w K mg base k "_part_above" ["period", "place"] (spPart K)) : FnOk P w K mg base CX0 (k + 1) f fd ["period", "number"] (spSteps K) := by
  refine F.ok sc_steps_within (fun vs H Q E h => ?_) (fun cdv A outer s H vs Q E hr h => ?_)
  · obtain ⟨t, p, n, rfl, _⟩ := h
    rfl
  · obtain ⟨t, p, n, rfl, hT, hp, n0, n1, q⟩ := h
    have nd := sc_steps_within.nd
    refine ⟨_, (pss_cons (ps_set (i := 2) nd rfl (Or.inl rfl) (pe_lst pa_nil))
      (pss_cons (ps_asg (pe_tup (pa_cons pe_int (pa_cons pe_int pa_nil))) (pg_tup rfl (pgs_cons (pg_name (i := 3) nd rfl (Or.inl rfl)) (pgs_cons (pg_name (i := 4) nd rfl (Or.inl rfl)) pgs_nil))))
      (pss_cons (ps_while PassesOwn.never (pt_cmpR op_le (pv 4) (pv 1) (nomark _))
      (pss_cons (ps_set (i := 5) nd rfl (Or.inl rfl) (pe_callD D1 hr (Nat.le_refl _) (pa_cons (pv 0) (pa_cons (pe_callB call_len_seq (by rfl) T PySem.boot_len (pa_cons (pv 2) pa_nil)) pa_nil))))
        (pss_cons (ps_expr (pe_bm PySem.F.plainAttrs_list PySem.F.slot_list_append PySem.F.type_list_append mt_append (pv 2) (pa_cons (pv 4) pa_nil)))
        (pss_one (ps_par (i := 3) (j := 4) rfl nd rfl rfl (by decide) rfl rfl (pa_cons (pv 4) (pa_cons (pe_op op_add (pe_op op_mulW (pv 5) (pv 4)) (pv 3)) pa_nil)) (by kernel_rfl))))))
      (pss_one (ps_ret (pv 2)))))), ?_⟩
    refine ⟨by show 0 ≤ sizeLine; decide, fun a ha => ?_⟩
    refine ⟨by show 2 ≤ sizeLine; decide, fun b hb => ⟨b, _, rfl, SqT.of upd_same, rfl, _, _, rfl, _, _, rfl, rfl, ?_⟩⟩
    refine while_by (fun σ H' => ∃ (m : Nat) (v : Option V), σ = [some (.ref t), some (.int n), some (.ref a), some (.int (stp p m).1), some (.int (qn p m)), v] ∧ m ≤ 266 ∧ H' a = some (.lst (qs p m)) ∧ Same H H')
      (fun σ _ => match σ with | [_, _, _, some (.int x), some (.int y), _] => (2 * n + 2 - x - y).toNat | _ => 0)
      ⟨0, none, rfl, by decide, by rw [upd_ne (ne_new hb).symm, upd_same]; rfl, sNew (sNew (Same.refl _) ha) hb⟩ ?_ ?_
    · rintro σ H1 ⟨m, v, rfl, hm, h1, sm⟩
      have sp := stp_pos hp.one m
      refine ⟨_, rfl, _, rfl, _, _, rfl, rfl, _, rfl, ite2 (fun h => ?_) (fun h => ?_)⟩
      · have hle : qn p m ≤ n := of_decide_eq_true h
        have hm1 := steps_le hp.one n1 hle
        refine ⟨_, rfl, _, rfl, a, _, rfl, .inl (SqL.of h1), t, p, (qs p m).length, rfl, hT, hp, ?_⟩
        rw [qs_len]
        refine ⟨_, rfl, .inl ⟨rfl, _, SqL.of h1⟩, _, rfl, a, _, _, rfl, rfl, h1, by rw [qs_len, sizeLine_eq]; omega, ?_⟩
        rw [qs_snoc]
        refine ⟨_, rfl, _, rfl, _, rfl, _, _, rfl, rfl, mulOk (n := 3) (m := 841) (Nat.lt_of_le_of_lt (show (ai p m).natAbs ≤ 4 by have := hp.bd m; omega) (by decide)) (qn_bd' hp.bd (by omega)) (by decide) (by decide) (by decide), _, rfl, _, _, rfl, rfl, _, _, rfl, ?_⟩
        refine ⟨⟨m + 1, _, rfl, by omega, upd_same, ?_⟩, ?_⟩
        · exact sm_upd sm ha
        · show (2 * n + 2 - qn p m - (ai p m * qn p m + (stp p m).1)).toNat < (2 * n + 2 - (stp p m).1 - qn p m).toNat
          have : 1 * qn p m ≤ ai p m * qn p m := Int.mul_le_mul_of_nonneg_right (hp.one m) (by have := qn_pos hp.one m; omega)
          have := qn_pos hp.one m
          have e : (stp p m).2 = qn p m := rfl
          rw [e] at sp
          omega
      · have hgt : n < qn p m := by
          have : ¬ qn p m ≤ n := fun z => h (decide_eq_true z)
          omega
        exact ⟨_, rfl, q m a H1 hm hgt ha h1 sm⟩
    · rintro σ H1 Q1 Q2 hq ⟨v, e1, v2, e2, i, j, e3, e4, b, e5, q⟩
      exact ⟨v, e1, v2, e2, i, j, e3, e4, b, e5, hq _ _ q⟩
abbrev s_can_stand : Stmt := top 31
abbrev n_can_stand : List Str := ["period", "place", "digit", "lower", "most"]
theorem sc_can_stand : FnScope n_can_stand ["period", "place", "digit", "lower"] (defScope s_can_stand) := ⟨rfl, rfl, rfl, by decide +kernel, rfl, by decide +kernel, by decide +kernel⟩
theorem ok_can {f : Addr} {fd : FuncData} {k : Nat} (F : Fun K "can_stand" "can_stand" s_can_stand f fd) (D1 : Df P w K mg base k "_part_above" ["period", "place"] (spPart K)) (D2 : Df P w K mg base k "is_between" ["value", "low", "high"] (spBtw K)) :
    FnOk P w K mg base CX0 (k + 1) f fd ["period", "place", "digit", "lower"] (spCan K) := by
  refine F.ok sc_can_stand (fun vs H Q E h => ?_) (fun cdv A outer s H vs Q E hr h => ?_)
  · obtain ⟨t, p, i, d, lo, rfl, _⟩ := h
    rfl
  · obtain ⟨t, p, i, d, lo, rfl, hT, hp, q⟩ := h
    have nd := sc_can_stand.nd
    refine ⟨_, (pss_cons (ps_set (i := 4) nd rfl (Or.inl rfl) (pe_callD D1 hr (Nat.le_refl _) (pa_cons (pv 0) (pa_cons (pv 1) pa_nil))))
      (C8.pss_cut (ps_if (pw_or (pt_cmpR op_eq (pv 1) pe_int (nomark _)) (pw_or1 (pt_cmpR op_ne (pv 3) pe_int (nomark _)))).pt
      (pss_one (ps_set (i := 4) nd rfl (Or.inl rfl) (pe_op op_sub (pv 4) pe_int)))
      pss_nil)
      (pss_one (ps_ret (pe_callD D2 hr (Nat.le_refl _) (pa_cons (pv 2) (pa_cons pe_int (pa_cons (pv 4) pa_nil)))))))), ?_⟩
    refine ⟨_, rfl, _, rfl, t, p, i, rfl, hT, hp, ?_⟩
    refine ⟨fun σ' H' => σ' = [some (.ref t), some (.int (i : Int)), some (.int d), some (.int lo), some (.int (if i = 0 ∨ lo ≠ 0 then ai p i - 1 else ai p i))] ∧ H' = H, ?_, ?_⟩
    · refine ⟨_, rfl, rfl, _, rfl, ?_⟩
      by_cases h0 : i = 0
      · refine iteP (by subst h0; rfl) ?_
        refine ⟨_, rfl, _, _, rfl, rfl, ?_, rfl⟩
        rw [if_pos (Or.inl h0)]
        rfl
      · refine iteN (nd_of (fun z => h0 (by cases z; rfl))) ?_
        refine ⟨_, rfl, rfl, _, rfl, ?_⟩
        by_cases h1 : lo = 0
        · refine iteN (by subst h1; simp) ?_
          refine ⟨?_, rfl⟩
          rw [if_neg (by rintro (z | z); exact h0 z; exact z h1)]
          rfl
        · refine iteP (by simpa using h1) ?_
          refine ⟨_, rfl, _, _, rfl, rfl, ?_, rfl⟩
          rw [if_pos (Or.inr h1)]
          rfl
    · rintro σ' H1 ⟨rfl, rfl⟩
      exact ⟨_, rfl, _, rfl, _, .int d, _, _, rfl, rfl, q⟩
end
end RF

namespace RF
open PySem L2 PyProof.Rows
theorem kRQ : ¬ (("_root" : Str) = "_period") := by decide +kernel
def ffl (d : Int) (t : Addr) : List (Str × V) := putF "_period" (.ref t) (putF "_root" (.int d) [])
theorem ffl_root (d : Int) (t : Addr) : (ffl d t).lookup ("_root" : Str) = some (.int d) := by
  unfold ffl
  rw [lookup_putF, if_neg kRQ, lookup_putF, if_pos rfl]
theorem ffl_per (d : Int) (t : Addr) : (ffl d t).lookup ("_period" : Str) = some (.ref t) := by
  unfold ffl
  rw [lookup_putF, if_pos rfl]
theorem ffl_no (d : Int) (t : Addr) {m : Str} (h1 : ¬ m = "_period") (h2 : ¬ m = "_root") : (ffl d t).lookup m = none := by
  unfold ffl
  rw [lookup_putF, if_neg h1, lookup_putF, if_neg h2]
  all_goals rfl
/-- at p: the field of the root d -/
def FldAt (K : PySem.W.Frag) (H : Hp) (C p : Addr) (d : Int) : Prop := ∃ dx t, H p = some (.ins C dx (ffl d t)) ∧ TupI K t (per d)
theorem FldAt.same {K : PySem.W.Frag} {H H' : Hp} {C p : Addr} {d : Int} (s : Same H H') (h : FldAt K H C p d) : FldAt K H' C p d := by
  obtain ⟨dx, t, h1, h2⟩ := h
  exact ⟨dx, t, s _ _ h1, h2⟩
theorem FldAt.kp {K : PySem.W.Frag} {H H' : Hp} {C p b : Addr} {d : Int} (B : Bag H b) (kp : Kp b H H') (h : FldAt K H C p d) : FldAt K H' C p d := by
  obtain ⟨dx, t, h1, h2⟩ := h
  exact ⟨dx, t, kp.at_ B h1 (fun _ z => by cases z), h2⟩
theorem FldAt.ins {K : PySem.W.Frag} {H : Hp} {C p : Addr} {d : Int} (h : FldAt K H C p d) : ∃ dx fs, H p = some (.ins C dx fs) ∧ ∀ m : Str, ¬ m = "_period" → ¬ m = "_root" → fs.lookup m = none := by
  obtain ⟨dx, t, h1, _⟩ := h
  exact ⟨dx, _, h1, fun m a b => ffl_no _ _ a b⟩
theorem perOk {d : Int} (h : Root d) : Per (per d) := ⟨by rcases h with rfl | rfl | rfl | rfl | rfl <;> decide, ai_pos h⟩
structure TxF (K : PySem.W.Frag) (mg : Str → Option Value) (C : Addr) : Prop where
  cl : Cls K C
  nR : NoAttr K C "_root"
  nP : NoAttr K C "_period"
  mg : mg "Field" = some (.ref C)
def PerK (K : PySem.W.Frag) (pd : Addr) : Prop := ∀ d, Root d → ∃ t, IDct K pd d (.ref t) ∧ TupI K t (per d)
def BasK (K : PySem.W.Frag) (pd : Addr) : Prop := ∀ d, Root d → ∃ t, IDct K pd d (.ref t) ∧ TupI K t [bI d, 1, bK d]
def spFInit (K : PySem.W.Frag) (C : Addr) : Sp := fun vs H Q _ => ∃ (p dx : Addr) (d : Int), vs = [.ref p, .int d] ∧ H p = some (.ins C dx []) ∧ Root d ∧
  ∀ H', FldAt K H' C p d → (∀ b o, H b = some o → b ≠ p → H' b = some o) → Q .non H'
def spNum (K : PySem.W.Frag) : Sp := fun vs H Q _ => ∃ (v : V) (d : D), vs = [v] ∧ Rp K H v d ∧ Q (.bl (btw d 0 (10 ^ 40 - 1))) H
def spDigits (K : PySem.W.Frag) (C : Addr) : Sp := fun vs H Q _ => ∃ (p : Addr) (d n : Int), vs = [.ref p, .int n] ∧ FldAt K H C p d ∧ Root d ∧ 0 ≤ n ∧ n < 10 ^ 40 ∧
  ∀ m a H', m ≤ 266 → n < qn (per d) m → H a = none → H' a = some (.lst ((dg (per d) m n).map V.int)) → Same H H' → Q (.ref a) H'
def spValue (K : PySem.W.Frag) (C : Addr) : Sp := fun vs H Q _ => ∃ (p l : Addr) (d : Int) (ds : List Int), vs = [.ref p, .ref l] ∧ FldAt K H C p d ∧ Root d ∧ SqL K H l (ds.map V.int) ∧ Can (per d) 0 0 ds ∧ ds.length ≤ 280 ∧
  ∀ H', Same H H' → Q (.int (sw (qn (per d)) 0 ds)) H'
def spBase (K : PySem.W.Frag) (C CS : Addr) : Sp := fun vs H Q _ => ∃ (p : Addr) (d : Int), vs = [.ref p] ∧ FldAt K H C p d ∧ Root d ∧
  ∀ q H', H q = none → SV H' CS q d (bI d) 1 (bK d) → Same H H' → Q (.ref q) H'
section
variable {P : Program} {w : World} {K : PySem.W.Frag} {mg : Str → Option Value} {base : Heap}
abbrev s_is_number : Stmt := top 13
abbrev n_is_number : List Str := ["value"]
theorem sc_is_number : FnScope n_is_number ["value"] (defScope s_is_number) := ⟨rfl, rfl, rfl, by decide +kernel, rfl, by decide +kernel, by decide +kernel⟩
theorem ok_num {f : Addr} {fd : FuncData} {k : Nat} (F : Fun K "is_number" "is_number" s_is_number f fd) (D1 : Df P w K mg base k "is_between" ["value", "low", "high"] (spBtw K)) : FnOk P w K mg base CX0 (k + 1) f fd ["value"] (spNum K) := by
  refine F.ok sc_is_number (fun vs H Q E h => ?_) (fun cdv A outer s H vs Q E hr h => ?_)
  · obtain ⟨v, d, rfl, _⟩ := h
    rfl
  · obtain ⟨v, d, rfl, hv, q⟩ := h
    refine ⟨_, (pss_one (ps_ret (pe_callD D1 hr (Nat.le_refl _) (pa_cons (pv 0) (pa_cons pe_int (pa_cons (pe_op op_sub (pe_op op_pow pe_int pe_int) pe_int) pa_nil)))))), ?_⟩
    exact ⟨_, rfl, _, _, rfl, rfl, ⟨by decide, by decide, by decide⟩, _, _, rfl, rfl, v, d, _, _, rfl, hv, q⟩
abbrev sF (i : Nat) : Stmt := inClass (top 27) i
abbrev n_FInit : List Str := ["self", "root"]
theorem sc_FInit : FnScope n_FInit ["self", "root"] (defScope (sF 1)) := ⟨rfl, rfl, rfl, by decide +kernel, rfl, by decide +kernel, by decide +kernel⟩
theorem ok_FInit {f C pd : Addr} {fd : FuncData} {k : Nat} (F : Fun K "__init__" "Field.__init__" (sF 1) f fd) (T : TxF K mg C) (mP : mg "PERIODS" = some (.ref pd)) (hP : PerK K pd)
    (D1 : Df P w K mg base k "is_root" ["value"] (spIsRoot K)) : FnOk P w K mg base CX0 (k + 1) f fd ["self", "root"] (spFInit K C) := by
  refine F.ok sc_FInit (fun vs H Q E h => ?_) (fun cdv A outer s H vs Q E hr h => ?_)
  · obtain ⟨p, dx, d, rfl, _⟩ := h
    rfl
  · obtain ⟨p, dx, d, rfl, hp, hd, q⟩ := h
    have nd := sc_FInit.nd
    refine ⟨_, PSs.nox (pss_cons (ps_if (pt_not (pt_val (pe_callD D1 hr (Nat.le_refl _) (pa_cons (pv 1) pa_nil))))
      (pss_one ps_never)
      pss_nil)
      (pss_cons (ps_fld (pv 0) (pv 1) rfl)
      (pss_one (ps_fld (pv 0) (pe_ix ix_intd (pe_glob (v := .ref pd) (by rfl) mP rfl) (pv 1) (fun _ _ => rfl)) rfl)))), ?_⟩
    have er : rootD (.int d) = true := decide_eq_true (by unfold Root at hd; simp; omega)
    obtain ⟨t, it, tt⟩ := hP d hd
    refine ⟨_, rfl, _, .int d, rfl, rfl, _, rfl, ?_⟩
    rw [er]
    refine iteF ?_
    refine ⟨_, rfl, _, rfl, p, C, dx, [], rfl, hp, T.cl, T.nR, (by show 0 < 1000; decide), ?_⟩
    refine ⟨_, rfl, _, _, _, rfl, rfl, it, _, rfl, p, C, dx, _, rfl, upd_same, T.cl, T.nP, (Nat.lt_of_le_of_lt (length_putF _ _ _) (by decide)), ?_⟩
    refine q _ ⟨dx, t, upd_same, tt⟩ fun b o e nb => ?_
    rw [upd_ne nb, upd_ne nb]
    exact e
abbrev n_FBase : List Str := ["self"]
theorem sc_FBase : FnScope n_FBase ["self"] (defScope (sF 8)) := ⟨rfl, rfl, rfl, by decide +kernel, rfl, by decide +kernel, by decide +kernel⟩
theorem qs_get {p : List Int} {m i : Nat} (h : i < m) : (qs p m)[i]? = some (.int (qn p i)) := by
  unfold qs
  rw [List.getElem?_map, List.getElem?_range h]
  rfl
abbrev s_digin : Stmt := top 29
abbrev n_digin : List Str := ["period", "number", "found", "rest", "step", "digit"]
theorem sc_digin : FnScope n_digin ["period", "number"] (defScope s_digin) := ⟨rfl, rfl, rfl, by decide +kernel, rfl, by decide +kernel, by decide +kernel⟩
def spDigin (K : PySem.W.Frag) : Sp := fun vs H Q _ => ∃ (t : Addr) (ls : List Int) (n : Int), vs = [.ref t, .int n] ∧ TupI K t ls ∧ Per ls ∧ 0 ≤ n ∧ n < 10 ^ 40 ∧
  ∀ m a H', m ≤ 266 → n < qn ls m → H a = none → H' a = some (.lst ((dg ls m n).map V.int)) → Same H H' → Q (.ref a) H'
theorem ok_digin {f : Addr} {fd : FuncData} {k : Nat} (F : Fun K "digits_in" "digits_in" s_digin f fd) (T1 : mg "reversed" = none) (T2 : mg "divmod" = none)
    (D2 : Df P w K mg base k "_steps_within" ["period", "number"] (spSteps K)) : FnOk P w K mg base CX0 (k + 1) f fd ["period", "number"] (spDigin K) := by
  refine F.ok sc_digin (fun vs H Q E h => ?_) (fun cdv A outer s H vs Q E hr h => ?_)
  · obtain ⟨t, ls, n, rfl, _⟩ := h
    rfl
  · obtain ⟨t, ls, n, rfl, hT, hpr, n0, n1, q⟩ := h
    have nd := sc_digin.nd
    refine ⟨_, PSs.nox (pss_cons (ps_set (i := 2) nd rfl (Or.inl rfl) (pe_lst pa_nil))
      (pss_cons (ps_set (i := 3) nd rfl (Or.inl rfl) (pv 1))
      (pss_cons (ps_for PassesOwn.never rfl (pi_reversed (by rfl) T1 (pa_cons (pe_callD D2 hr (Nat.le_refl _) (pa_cons (pv 0) (pa_cons (pv 1) pa_nil))) pa_nil)) (pg_name (i := 4) nd rfl (Or.inl rfl))
      (pss_cons (ps_asg (pe_callB call_divmodW (by rfl) T2 (by decide +kernel) (pa_cons (pv 3) (pa_cons (pv 4) pa_nil))) (pg_tup rfl (pgs_cons (pg_name (i := 5) nd rfl (Or.inl rfl)) (pgs_cons (pg_name (i := 3) nd rfl (Or.inl rfl)) pgs_nil))))
        (pss_one (ps_expr (pe_bm PySem.F.plainAttrs_list PySem.F.slot_list_append PySem.F.type_list_append mt_append (pv 2) (pa_cons (pv 5) pa_nil))))))
      (pss_one (ps_ret (pe_revL (pv 2))))))), ?_⟩
    refine ⟨by show 0 ≤ sizeLine; decide, fun a ha => ⟨_, rfl, ?_⟩⟩
    refine ⟨_, rfl, _, rfl, t, ls, n, rfl, hT, hpr, n0, by omega, fun m b H1 hm hlt nb hb sm => ?_⟩
    have n133 : n < 2 ^ 133 := by omega
    have hba : b ≠ a := ne_new nb
    have ha1 : H1 a = some (.lst []) := sm _ _ upd_same
    have sm0 : Same H H1 := (sNew (Same.refl _) ha).trans sm
    refine ⟨b, _, rfl, SqL.of hb, ?_⟩
    refine for_it (walk_rev (xs := qs (ls) m)) (fun i σ H' => ∃ (r : Int) (fs : List Int) (v4 v5 : Option V), σ = [some (.ref t), some (.int n), some (.ref a), some (.int r), v4, v5] ∧ H' a = some (.lst (fs.map V.int)) ∧ H' b = some (.lst (qs (ls) m)) ∧ Same H H' ∧ fs.length = i ∧ i ≤ m ∧ 0 ≤ r ∧ r < qn (ls) (m - i) ∧ r ≤ n ∧ dg (ls) m n = dg (ls) (m - i) r ++ fs.reverse)
      ⟨n, [], none, none, rfl, ha1, hb, sm0, rfl, Nat.zero_le _, n0, hlt, Int.le_refl _, by simp⟩ (fun i σ H' _ h => by obtain ⟨_, _, _, _, _, _, h, _⟩ := h; exact SqL.of h) ?_ ?_
    · rintro i x σ H2 H3 hi ⟨r, fs, v4, v5, rfl, h1, h2, sm2, hl, him, r0, r1, rn, e⟩ ⟨rfl, hx⟩
      rw [qs_len] at hi hx
      rw [qs_get (by omega)] at hx
      obtain rfl := Option.some.inj hx
      obtain ⟨j, rfl⟩ : ∃ j, m = i + 1 + j := ⟨m - (i + 1), by omega⟩
      have ej : i + 1 + j - 1 - i = j := by omega
      have ej2 : i + 1 + j - i = j + 1 := by omega
      have ej3 : i + 1 + j - (i + 1) = j := by omega
      rw [ej]
      rw [ej2] at r1 e
      have qp := qn_pos hpr.one j
      have b1 : r.natAbs < 2 ^ 133 := by
        have : ((r.natAbs : Nat) : Int) < 2 ^ 133 := by omega
        exact_mod_cast this
      refine ⟨_, rfl, _, rfl, _, _, rfl, divp_ok (by omega) (Nat.le_trans (PyProof.Rows.intBits_le b1) (by omega)), fun u hu => ?_⟩
      refine ⟨u, _, rfl, SqT.of upd_same, rfl, _, _, rfl, _, _, rfl, rfl, ?_⟩
      have nua : a ≠ u := fun z => by rw [← z, h1] at hu; cases hu
      have nub : b ≠ u := fun z => by rw [← z, h2] at hu; cases hu
      have h1' : upd H3 u (.tup [.int (r / qn (ls) j), .int (r % qn (ls) j)]) a = some (.lst (fs.map V.int)) := by rw [upd_ne nua]; exact h1
      refine ⟨_, rfl, .inl ⟨rfl, _, SqL.of h1'⟩, _, rfl, a, _, _, rfl, rfl, h1', by rw [List.length_map, sizeLine_eq]; omega, ?_⟩
      refine ⟨r % qn (ls) j, fs ++ [r / qn (ls) j], _, _, rfl, ?_, ?_, sm_upd (sNew sm2 hu) ha, by simp [hl], by omega, emod_lo _ (by omega), ?_, ?_, ?_⟩
      · rw [upd_same, List.map_append]; rfl
      · rw [upd_ne hba, upd_ne nub]; exact h2
      · rw [ej3]; exact emod_hi _ (by omega)
      · have := Int.emod_add_mul_ediv r (qn (ls) j)
        have := Int.mul_nonneg (show 0 ≤ qn (ls) j by omega) (Int.ediv_nonneg r0 (show 0 ≤ qn (ls) j by omega))
        omega
      · rw [e, ej3]; simp [dg]
    · rintro σ H2 ⟨r, fs, v4, v5, rfl, h1, h2, sm2, hl, him, r0, r1, rn, e⟩
      rw [qs_len, Nat.sub_self] at e
      refine ⟨_, rfl, a, _, rfl, SqL.of h1, fun z hz => ?_⟩
      have e2 : (fs.map V.int).reverse = (dg (ls) m n).map V.int := by rw [e]; simp [dg]
      rw [e2]
      exact q m z _ hm hlt (sm2.free hz) upd_same (sNew sm2 hz)
abbrev n_FDig : List Str := ["self", "number"]
theorem sc_FDig : FnScope n_FDig ["self", "number"] (defScope (sF 9)) := ⟨rfl, rfl, rfl, by decide +kernel, rfl, by decide +kernel, by decide +kernel⟩
theorem ok_FDig {f C : Addr} {fd : FuncData} {k : Nat} (F : Fun K "digits" "Field.digits" (sF 9) f fd) (T : TxF K mg C)
    (D1 : Df P w K mg base k "is_number" ["value"] (spNum K)) (D2 : Df P w K mg base k "digits_in" ["period", "number"] (spDigin K)) : FnOk P w K mg base CX0 (k + 1) f fd ["self", "number"] (spDigits K C) := by
  refine F.ok sc_FDig (fun vs H Q E h => ?_) (fun cdv A outer s H vs Q E hr h => ?_)
  · obtain ⟨p, d, n, rfl, _⟩ := h
    rfl
  · obtain ⟨p, d, n, rfl, hF, hd, n0, n1, q⟩ := h
    have nd := sc_FDig.nd
    obtain ⟨dx, t, hp, hT⟩ := hF
    have hpr := perOk hd
    refine ⟨_, PSs.nox (pss_cons (ps_if (pt_not (pt_val (pe_callD D1 hr (Nat.le_refl _) (pa_cons (pv 1) pa_nil))))
      (pss_one ps_never)
      pss_nil)
      (pss_one (ps_ret (pe_callD D2 hr (Nat.le_refl _) (pa_cons (pe_fld (pv 0) rfl) (pa_cons (pv 1) pa_nil)))))), ?_⟩
    have eb : btw (.int n) 0 (10 ^ 40 - 1) = true := by
      show (decide (0 ≤ n) && decide (n ≤ 10 ^ 40 - 1)) = true
      simp only [Bool.and_eq_true, decide_eq_true_eq]
      omega
    refine ⟨_, rfl, _, .int n, rfl, rfl, _, rfl, ?_⟩
    rw [eb]
    refine iteF ?_
    exact ⟨_, rfl, p, C, dx, _, _, rfl, hp, T.cl, T.nP, ffl_per d t, _, rfl, t, per d, n, rfl, hT, hpr, n0, n1, q⟩
end
end RF

namespace RF
open PySem L2 PyProof.Rows
section
variable {P : Program} {w : World} {K : PySem.W.Frag} {mg : Str → Option Value} {base : Heap}
abbrev n_FVal : List Str := ["self", "digits", "total", "before", "here", "lower", "place", "digit"]
theorem sc_FVal : FnScope n_FVal ["self", "digits"] (defScope (sF 10)) := ⟨rfl, rfl, rfl, by decide +kernel, rfl, by decide +kernel, by decide +kernel⟩
theorem drop_get {ds : List Int} {i : Nat} {x : V} (h : (ds.map V.int)[i]? = some x) : ∃ d, x = .int d ∧ ds.drop i = d :: ds.drop (i + 1) := by
  rw [List.getElem?_map] at h
  have hi : i < ds.length := by
    refine Nat.not_le.mp fun z => ?_
    rw [List.getElem?_eq_none z] at h
    cases h
  rw [List.getElem?_eq_getElem hi] at h
  exact ⟨ds[i], (Option.some.inj h).symm, List.drop_eq_getElem_cons hi⟩
theorem ok_FVal {f C : Addr} {fd : FuncData} {k : Nat} (F : Fun K "value" "Field.value" (sF 10) f fd) (T : TxF K mg C) (T1 : mg "enumerate" = none)
    (D1 : Df P w K mg base k "can_stand" ["period", "place", "digit", "lower"] (spCan K)) (D2 : Df P w K mg base k "_part_above" ["period", "place"] (spPart K)) : FnOk P w K mg base CX0 (k + 1) f fd ["self", "digits"] (spValue K C) := by
  refine F.ok sc_FVal (fun vs H Q E h => ?_) (fun cdv A outer s H vs Q E hr h => ?_)
  · obtain ⟨p, l, d, ds, rfl, _⟩ := h
    rfl
  · obtain ⟨p, l, d, ds, rfl, hF, hd, hl, hc, hlen, q⟩ := h
    have nd := sc_FVal.nd
    obtain ⟨dx, t, hp, hT⟩ := hF
    have hpr := perOk hd
    refine ⟨_, PSs.nox (pss_cons (ps_set (i := 2) nd rfl (Or.inl rfl) pe_int)
      (pss_cons (ps_asg (pe_tup (pa_cons pe_int (pa_cons pe_int pa_nil))) (pg_tup rfl (pgs_cons (pg_name (i := 3) nd rfl (Or.inl rfl)) (pgs_cons (pg_name (i := 4) nd rfl (Or.inl rfl)) pgs_nil))))
      (pss_cons (ps_set (i := 5) nd rfl (Or.inl rfl) pe_int)
      (pss_cons (ps_for PassesOwn.never rfl (pi_enum (by rfl) T1 (pa_cons (pv 1) pa_nil)) (pg_tup rfl (pgs_cons (pg_name (i := 6) nd rfl (Or.inl rfl)) (pgs_cons (pg_name (i := 7) nd rfl (Or.inl rfl)) pgs_nil)))
      (pss_cons (ps_if (pt_not (pt_val (pe_callD D1 hr (Nat.le_refl _) (pa_cons (pe_fld (pv 0) rfl) (pa_cons (pv 6) (pa_cons (pv 7) (pa_cons (pv 5) pa_nil)))))))
        (pss_one ps_never)
        pss_nil)
        (pss_cons (ps_set (i := 2) nd rfl (Or.inl rfl) (pe_op op_add (pv 2) (pe_op op_mulW (pv 7) (pv 4))))
        (pss_cons (ps_par (i := 3) (j := 4) rfl nd rfl rfl (by decide) rfl rfl (pa_cons (pv 4) (pa_cons (pe_op op_add (pe_op op_mulW (pe_callD D2 hr (Nat.le_refl _) (pa_cons (pe_fld (pv 0) rfl) (pa_cons (pv 6) pa_nil))) (pv 4)) (pv 3)) pa_nil)) (by kernel_rfl))
        (pss_one (ps_set (i := 5) nd rfl (Or.inl rfl) (pv 7)))))))
      (pss_one (ps_ret (pv 2))))))), ?_⟩
    refine ⟨by show 2 ≤ sizeLine; decide, fun b hb => ⟨b, _, rfl, SqT.of upd_same, rfl, _, _, rfl, _, _, rfl, rfl, ?_⟩⟩
    have sm0 := sNew (o := .tup [.int 0, .int 1]) (Same.refl H) hb
    refine ⟨_, rfl, l, _, rfl, sm0.seq hl, ?_⟩
    refine for_it (walk_enum (xs := ds.map V.int)) (fun i σ H' => ∃ (tot lo : Int) (v6 v7 : Option V), σ = [some (.ref p), some (.ref l), some (.int tot), some (.int (stp (per d) i).1), some (.int (qn (per d) i)), some (.int lo), v6, v7] ∧ tot + sw (qn (per d)) i (ds.drop i) = sw (qn (per d)) 0 ds ∧ Can (per d) i lo (ds.drop i) ∧ Same H H')
      ⟨0, 0, none, none, rfl, by simp, hc, sm0⟩ (fun i σ H' _ h => by obtain ⟨_, _, _, _, _, _, _, h⟩ := h; exact h.seq hl) ?_ ?_
    · rintro i x σ H2 H3 hi ⟨tot, lo, v6, v7, rfl, es, hcn, sm⟩ ⟨u, x1, x2, rfl, hu, rfl, e1, e2⟩
      rw [List.length_map] at hi
      obtain rfl := Option.some.inj e1
      obtain ⟨dg, rfl, ed⟩ := drop_get e2
      rw [ed] at hcn es
      have sm3 : Same H (upd H2 u (.tup [.int (i : Nat), .int dg])) := sNew sm hu
      have hp3 := sm3 _ _ hp
      obtain ⟨⟨d0, d1, d2⟩, hcn'⟩ := hcn
      refine ⟨u, _, rfl, SqT.of upd_same, rfl, _, _, rfl, _, _, rfl, rfl, ?_⟩
      refine ⟨_, rfl, p, C, dx, _, _, rfl, hp3, T.cl, T.nP, ffl_per d t, _, rfl, _, rfl, _, rfl, t, per d, i, dg, lo, rfl, hT, hpr, _, rfl, ?_⟩
      have eb : btw (.int dg) 0 (if i = 0 ∨ lo ≠ 0 then ai (per d) i - 1 else ai (per d) i) = true := by
        show (decide (0 ≤ dg) && decide (dg ≤ _)) = true
        simp only [Bool.and_eq_true, decide_eq_true_eq]
        refine ⟨d0, ?_⟩
        split
        · exact d2 (by assumption)
        · exact d1
      rw [eb]
      refine iteF ?_
      have bq := qn_bd' hpr.bd (show i ≤ 280 by omega)
      have b4 := hpr.bd i
      refine ⟨_, rfl, _, rfl, _, rfl, _, _, rfl, rfl, mulOk (n := 3) (m := 841) (Nat.lt_of_le_of_lt (show dg.natAbs ≤ 4 by omega) (by decide)) bq (by decide) (by decide) (by decide), _, _, rfl, rfl, ?_⟩
      refine ⟨_, rfl, _, rfl, p, C, dx, _, _, rfl, hp3, T.cl, T.nP, ffl_per d t, _, rfl, t, per d, i, rfl, hT, hpr, _, rfl, _, _, rfl, rfl, mulOk (n := 3) (m := 841) (Nat.lt_of_le_of_lt (show (ai (per d) i).natAbs ≤ 4 by omega) (by decide)) bq (by decide) (by decide) (by decide), _, rfl, _, _, rfl, rfl, _, _, rfl, ?_⟩
      refine ⟨_, rfl, _, _, _, _, rfl, ?_, hcn', sm3⟩
      rw [← es]
      simp only [sw]
      omega
    · rintro σ H2 ⟨tot, lo, v6, v7, rfl, es, hcn, sm⟩
      rw [List.length_map, List.drop_length] at es
      refine ⟨_, rfl, ?_⟩
      have : tot = sw (qn (per d)) 0 ds := by rw [← es]; simp [sw]
      rw [this]
      exact q _ sm
end
end RF

namespace RF
open PySem L2 PyProof.Rows
theorem atI_back {α : Type} {xs : List α} {j : Nat} {v : α} (h1 : 1 ≤ j) (h2 : j ≤ xs.length) (h : xs[xs.length - j]? = some v) : atI xs (-(j : Int)) = some v := by
  have e : ixN xs.length (-(j : Int)) = some (xs.length - j) := by
    unfold ixN
    rw [if_neg (by omega), if_pos (by omega)]
    congr 1
    omega
  unfold atI
  rw [e]
  exact h
def spPeriod : Sp := fun vs H Q _ => ∃ (d : Int), vs = [.int d] ∧ Root d ∧ ∀ a H', H a = none → H' a = some (.lst ((per d).map V.int)) → Same H H' → Q (.ref a) H'
def spLSteps : Sp := fun vs H Q _ => ∃ (d : Int) (m : Nat), vs = [.int d, .int (m : Int)] ∧ Root d ∧ m ≤ 279 ∧ ∀ a H', H a = none → H' a = some (.lst (qs (per d) (m + 1))) → Same H H' → Q (.ref a) H'
section
variable {P : Program} {w : World} {K : PySem.W.Frag} {mg : Str → Option Value} {base : Heap}
abbrev s_law_period : Stmt := top 46
abbrev n_law_period : List Str := ["_law_root_here"]
theorem sc_law_period : FnScope n_law_period ["_law_root_here"] (defScope s_law_period) := ⟨rfl, rfl, rfl, by decide +kernel, rfl, by decide +kernel, by decide +kernel⟩
theorem ok_lper {f : Addr} {fd : FuncData} {k : Nat} (F : Fun K "_law_period" "_law_period" s_law_period f fd) : FnOk P w K mg base CX0 (k + 1) f fd ["_law_root_here"] spPeriod := by
  refine F.ok sc_law_period (fun vs H Q E h => ?_) (fun cdv A outer s H vs Q E hr h => ?_)
  · obtain ⟨d, rfl, _⟩ := h
    rfl
  · obtain ⟨d, rfl, hd, q⟩ := h
    refine ⟨_, (pss_one (ps_ret (pe_dget (hu_of hr) (pe_disp (pps_cons pe_int (pe_lst (pa_cons pe_int pa_nil)) (pps_cons pe_int (pe_lst (pa_cons pe_int (pa_cons pe_int pa_nil))) (pps_cons pe_int (pe_lst (pa_cons pe_int pa_nil)) (pps_cons pe_int (pe_lst (pa_cons pe_int (pa_cons pe_int pa_nil))) (pps_cons pe_int (pe_lst (pa_cons pe_int pa_nil)) pps_nil))))) (by rfl) (by rfl) (fun z => by cases z) (by decide)) (pv 0) (fun _ _ => rfl)))), ?_⟩
    refine fun b hb => ?_
    refine ⟨by show 1 ≤ sizeLine; decide, fun a1 h1 => ⟨by show 2 ≤ sizeLine; decide, fun a2 h2 => ⟨by show 1 ≤ sizeLine; decide, fun a3 h3 => ⟨by show 2 ≤ sizeLine; decide, fun a4 h4 => ⟨by show 1 ≤ sizeLine; decide, fun a5 h5 => ?_⟩⟩⟩⟩⟩
    have b1 : a1 ≠ b := ne_new h1
    have b2 : a2 ≠ b := ne_new (of_new h2)
    have b3 : a3 ≠ b := ne_new (of_new (of_new h3))
    have b4 : a4 ≠ b := ne_new (of_new (of_new (of_new h4)))
    have b5 : a5 ≠ b := ne_new (of_new (of_new (of_new (of_new h5))))
    refine ⟨by rw [upd_ne b5.symm, upd_ne b4.symm, upd_ne b3.symm, upd_ne b2.symm, upd_ne b1.symm, upd_same], [(Sum.inl 2, .ref a1), (Sum.inl 3, .ref a2), (Sum.inl 5, .ref a3), (Sum.inl 6, .ref a4), (Sum.inl 13, .ref a5)], rfl, by show 5 ≤ 15; decide, _, rfl, b, ?_⟩
    have sm5 : Same H (upd (upd (upd (upd (upd (upd H b (.dK [])) a1 (.lst [.int 2])) a2 (.lst [.int 1, .int 2])) a3 (.lst [.int 1])) a4 (.lst [.int 2, .int 4])) a5 (.lst [.int 3])) := sNew (sNew (sNew (sNew (sNew (sNew (Same.refl _) hb) h1) h2) h3) h4) h5
    have smp := sm_upd (o := .dK (mergeK [] [(Sum.inl 2, .ref a1), (Sum.inl 3, .ref a2), (Sum.inl 5, .ref a3), (Sum.inl 6, .ref a4), (Sum.inl 13, .ref a5)])) sm5 hb
    have n12 : a2 ≠ a1 := ne_new h2
    have n23 : a3 ≠ a2 := ne_new h3
    have n13 : a3 ≠ a1 := ne_new (of_new h3)
    have n34 : a4 ≠ a3 := ne_new h4
    have n24 : a4 ≠ a2 := ne_new (of_new h4)
    have n14 : a4 ≠ a1 := ne_new (of_new (of_new h4))
    have n45 : a5 ≠ a4 := ne_new h5
    have n35 : a5 ≠ a3 := ne_new (of_new h5)
    have n25 : a5 ≠ a2 := ne_new (of_new (of_new h5))
    have n15 : a5 ≠ a1 := ne_new (of_new (of_new (of_new h5)))
    rcases hd with rfl | rfl | rfl | rfl | rfl
    · exact ⟨.ref a1, rfl, .inl ⟨_, Sum.inl 2, .inl upd_same, rfl, rfl⟩, q a1 _ (of_new h1) (by rw [upd_ne b1, upd_ne n15.symm, upd_ne n14.symm, upd_ne n13.symm, upd_ne n12.symm, upd_same]; rfl) smp⟩
    · exact ⟨.ref a2, rfl, .inl ⟨_, Sum.inl 3, .inl upd_same, rfl, rfl⟩, q a2 _ (of_new (of_new h2)) (by rw [upd_ne b2, upd_ne n25.symm, upd_ne n24.symm, upd_ne n23.symm, upd_same]; rfl) smp⟩
    · exact ⟨.ref a3, rfl, .inl ⟨_, Sum.inl 5, .inl upd_same, rfl, rfl⟩, q a3 _ (of_new (of_new (of_new h3))) (by rw [upd_ne b3, upd_ne n35.symm, upd_ne n34.symm, upd_same]; rfl) smp⟩
    · exact ⟨.ref a4, rfl, .inl ⟨_, Sum.inl 6, .inl upd_same, rfl, rfl⟩, q a4 _ (of_new (of_new (of_new (of_new h4)))) (by rw [upd_ne b4, upd_ne n45.symm, upd_same]; rfl) smp⟩
    · exact ⟨.ref a5, rfl, .inl ⟨_, Sum.inl 13, .inl upd_same, rfl, rfl⟩, q a5 _ (of_new (of_new (of_new (of_new (of_new h5))))) (by rw [upd_ne b5, upd_same]; rfl) smp⟩
abbrev s_law_steps : Stmt := top 47
abbrev n_law_steps : List Str := ["_law_root_here", "_law_many", "_law_found", "_law_last", "_law_period_here", "_law_k"]
theorem sc_law_steps : FnScope n_law_steps ["_law_root_here", "_law_many"] (defScope s_law_steps) := ⟨rfl, rfl, rfl, by decide +kernel, rfl, by decide +kernel, by decide +kernel⟩
theorem ok_lst {f : Addr} {fd : FuncData} {k : Nat} (F : Fun K "_law_steps" "_law_steps" s_law_steps f fd) (T : TB mg) (T1 : mg "range" = none) (D1 : Df P w K mg base k "_law_period" ["_law_root_here"] spPeriod) : FnOk P w K mg base CX0 (k + 1) f fd ["_law_root_here", "_law_many"] spLSteps := by
  refine F.ok sc_law_steps (fun vs H Q E h => ?_) (fun cdv A outer s H vs Q E hr h => ?_)
  · obtain ⟨d, m, rfl, _⟩ := h
    rfl
  · obtain ⟨d, m, rfl, hd, hm, q⟩ := h
    have nd := sc_law_steps.nd
    have hpr := perOk hd
    refine ⟨_, (pss_cons (ps_par (i := 2) (j := 3) rfl nd rfl rfl (by decide) rfl rfl (pa_cons (pe_lst (pa_cons pe_int pa_nil)) (pa_cons pe_int pa_nil)) (by kernel_rfl))
      (pss_cons (ps_set (i := 4) nd rfl (Or.inl rfl) (pe_callD D1 hr (Nat.le_refl _) (pa_cons (pv 0) pa_nil)))
      (pss_cons (ps_for PassesOwn.never rfl (pi_range1 rfl T1 (pa_cons (pv 1) pa_nil)) (pg_name (i := 5) nd rfl (Or.inl rfl))
      (pss_cons (ps_expr (pe_bm PySem.F.plainAttrs_list PySem.F.slot_list_append PySem.F.type_list_append mt_append (pv 2) (pa_cons (pe_op op_add (pe_op op_mulW (pe_ix ix_list (pv 4) (pe_op op_mod (pe_callTy call_int1 (by rfl) T.int (by decide +kernel) (pa_cons (pv 5) pa_nil)) (pe_callB call_len_seq (by rfl) T.len (by decide +kernel) (pa_cons (pv 4) pa_nil))) (fun _ _ => rfl)) (pe_ix ix_list (pv 2) (pe_un un_neg pe_int) (fun _ _ => rfl))) (pv 3)) pa_nil)))
        (pss_one (ps_set (i := 3) nd rfl (Or.inl rfl) (pe_ix ix_list (pv 2) (pe_un un_neg pe_int) (fun _ _ => rfl))))))
      (pss_one (ps_ret (pv 2)))))), ?_⟩
    refine ⟨by show 1 ≤ sizeLine; decide, fun a ha => ⟨_, _, rfl, ?_⟩⟩
    refine ⟨_, rfl, d, rfl, hd, fun t H1 nt ht sm => ?_⟩
    have sm0 : Same H H1 := (sNew (Same.refl _) ha).trans sm
    have hta : t ≠ a := ne_new nt
    refine ⟨_, rfl, _, rfl, by omega, by omega, for_range (n := m) (fun i σ H' => ∃ v : Option V, σ = [some (.int d), some (.int (m : Int)), some (.ref a), some (.int (stp (per d) i).1), some (.ref t), v] ∧ H' a = some (.lst (qs (per d) (i + 1))) ∧ H' t = some (.lst ((per d).map V.int)) ∧ Same H H')
      ⟨none, rfl, by rw [sm a _ upd_same]; rfl, ht, sm0⟩ ?_ ?_⟩
    · rintro i σ H2 hi ⟨v, rfl, h1, h2, sm2⟩
      have hx1 : atI (qs (per d) (i + 1)) (-1) = some (.int (qn (per d) i)) := by
        rw [← qs_snoc]; exact atI_last _ _
      have hx2 : atI (qs (per d) (i + 1 + 1)) (-2) = some (.int (qn (per d) i)) := atI_back (j := 2) (by decide) (by rw [qs_len]; omega) (by rw [qs_len]; exact qs_get (by omega))
      have ei : (0 : Int) + ((i : Nat) : Int) = ((i : Nat) : Int) := by omega
      rw [ei]
      refine ⟨_, rfl, .inl ⟨rfl, _, SqL.of h1⟩, _, rfl, _, rfl, .inl ⟨_, rfl, _, rfl, t, _, rfl, .inl (SqL.of h2), _, _, rfl, rfl, (by show (0 : Int) < ((((per d).map V.int).length : Nat) : Int); rw [List.length_map]; have := hpr.len; omega), t, _, _, _, rfl, rfl, SqL.of h2, ai_atI hpr i, ?_⟩⟩
      refine ⟨_, rfl, _, rfl, a, _, _, _, rfl, rfl, SqL.of h1, hx1, _, _, rfl, rfl, mulOk (n := 3) (m := 841) (Nat.lt_of_le_of_lt (show (ai (per d) i).natAbs ≤ 4 by have := hpr.bd i; omega) (by decide)) (qn_bd' hpr.bd (by omega)) (by decide) (by decide) (by decide), _, rfl, _, _, rfl, rfl, a, _, _, rfl, rfl, h1, by rw [qs_len, sizeLine_eq]; omega, ?_⟩
      have e1 : ai (per d) i * qn (per d) i + (stp (per d) i).1 = qn (per d) (i + 1) := rfl
      dsimp only
      rw [e1, qs_snoc]
      refine ⟨_, rfl, _, rfl, a, _, _, _, rfl, rfl, SqL.of upd_same, hx2, ⟨_, rfl, upd_same, by rw [upd_ne hta]; exact h2, sm_upd sm2 ha⟩⟩
    · rintro σ H2 ⟨v, rfl, h1, h2, sm2⟩
      exact ⟨_, rfl, q a _ ha h1 sm2⟩
end
end RF

namespace RF
open PySem L2 PyProof.Rows
def spFRoot (K : PySem.W.Frag) (C : Addr) : Sp := fun vs H Q _ => ∃ (p : Addr) (d : Int), vs = [.ref p] ∧ FldAt K H C p d ∧ Q (.int d) H
def spFPer (K : PySem.W.Frag) (C : Addr) : Sp := fun vs H Q _ => ∃ (p : Addr) (d : Int), vs = [.ref p] ∧ FldAt K H C p d ∧ ∀ t, TupI K t (per d) → Q (.ref t) H
def spFTop (K : PySem.W.Frag) (C : Addr) : Sp := fun vs H Q _ => ∃ (p : Addr) (d : Int), vs = [.ref p] ∧ FldAt K H C p d ∧ Root d ∧ Q (.int (tp d)) H
/-- a list or a tuple of whole numbers -/
def Ints (K : PySem.W.Frag) (H : Hp) (a : Addr) (fs : List Int) : Prop := SqL K H a (fs.map V.int) ∨ SqT K H a (fs.map V.int)
theorem Ints.same {K : PySem.W.Frag} {H H' : Hp} {a : Addr} {fs : List Int} (s : Same H H') (h : Ints K H a fs) : Ints K H' a fs := h.elim (fun z => .inl (s.seq z)) fun z => .inr (sameT s z)
def Fac (fs : List Int) : Prop := fs.length ≤ 100 ∧ ∀ f ∈ fs, -5 ≤ f ∧ f ≤ 5
def spBnd (K : PySem.W.Frag) (C : Addr) : Sp := fun vs H Q _ => ∃ (p l : Addr) (d : Int) (fs : List Int), vs = [.ref p, .ref l] ∧ FldAt K H C p d ∧ Root d ∧ Ints K H l fs ∧ Fac fs ∧ ∀ H', Same H H' → Q (.int (bnd d fs)) H'
/-- the tails of the module -/
def TlsK (K : PySem.W.Frag) (td : Addr) : Prop := ∀ d, Root d → ∃ (t : Addr) (xs : List V), IDct K td d (.ref t) ∧ (∀ H, SqT K H t xs) ∧ xs.length = (per d).length ∧ ∀ n : Nat, ∃ ti, xs[n % (per d).length]? = some (.ref ti) ∧ ∀ H, SqT K H ti [.int (tlI d n), .int 1, .int (tlK d n)]
def spGap (K : PySem.W.Frag) (C : Addr) : Sp := fun vs H Q _ => ∃ (p t : Addr) (d u v : Int) (n : Nat), vs = [.ref p, .ref t, .int (n : Int)] ∧ FldAt K H C p d ∧ Root d ∧ SqT K H t [.int u, .int v] ∧ Bd 250 u ∧ Bd 250 v ∧
  ∀ x H', H x = none → H' x = some (.tup [.int (tlK d n * u - tlI d n * v), .int (-1 * v), .int (tlK d n)]) → Same H H' → Q (.ref x) H'
section
variable {P : Program} {w : World} {K : PySem.W.Frag} {mg : Str → Option Value} {base : Heap}
theorem sc_FRoot : FnScope ["self"] ["self"] (defScope (sF 2)) := ⟨rfl, rfl, rfl, by decide +kernel, rfl, by decide +kernel, by decide +kernel⟩
theorem ok_FRoot {f C : Addr} {fd : FuncData} {k : Nat} (F : Fun K "root" "Field.root" (sF 2) f fd) (T : TxF K mg C) : FnOk P w K mg base CX0 (k + 1) f fd ["self"] (spFRoot K C) := by
  refine F.ok sc_FRoot (fun vs H Q E h => ?_) (fun cdv A outer s H vs Q E hr h => ?_)
  · obtain ⟨p, d, rfl, _⟩ := h
    rfl
  · obtain ⟨p, d, rfl, ⟨dx, t, hp, hT⟩, q⟩ := h
    exact ⟨_, (pss_one (ps_ret (pe_fld (pv 0) rfl))), _, rfl, p, C, dx, _, _, rfl, hp, T.cl, T.nR, ffl_root d t, q⟩
theorem sc_FPer : FnScope ["self"] ["self"] (defScope (sF 3)) := ⟨rfl, rfl, rfl, by decide +kernel, rfl, by decide +kernel, by decide +kernel⟩
theorem ok_FPer {f C : Addr} {fd : FuncData} {k : Nat} (F : Fun K "period" "Field.period" (sF 3) f fd) (T : TxF K mg C) : FnOk P w K mg base CX0 (k + 1) f fd ["self"] (spFPer K C) := by
  refine F.ok sc_FPer (fun vs H Q E h => ?_) (fun cdv A outer s H vs Q E hr h => ?_)
  · obtain ⟨p, d, rfl, _⟩ := h
    rfl
  · obtain ⟨p, d, rfl, ⟨dx, t, hp, hT⟩, q⟩ := h
    exact ⟨_, (pss_one (ps_ret (pe_fld (pv 0) rfl))), _, rfl, p, C, dx, _, _, rfl, hp, T.cl, T.nP, ffl_per d t, q t hT⟩
theorem sc_FTop : FnScope ["self"] ["self"] (defScope (sF 4)) := ⟨rfl, rfl, rfl, by decide +kernel, rfl, by decide +kernel, by decide +kernel⟩
theorem tp_max {d m : Int} (hd : Root d) (hm : m ∈ per d) (h : ∀ y, y ∈ per d → y ≤ m) : m = tp d := by
  rcases hd with rfl | rfl | rfl | rfl | rfl
  · have : m ∈ [(2 : Int)] := hm
    simp only [List.mem_cons, List.not_mem_nil, or_false] at this
    exact this
  · have e : m ∈ [(1 : Int), 2] := hm
    have := h 2 (show (2 : Int) ∈ [(1 : Int), 2] by simp)
    simp only [List.mem_cons, List.not_mem_nil, or_false] at e
    show m = 2
    omega
  · have : m ∈ [(1 : Int)] := hm
    simp only [List.mem_cons, List.not_mem_nil, or_false] at this
    exact this
  · have e : m ∈ [(2 : Int), 4] := hm
    have := h 4 (show (4 : Int) ∈ [(2 : Int), 4] by simp)
    simp only [List.mem_cons, List.not_mem_nil, or_false] at e
    show m = 4
    omega
  · have : m ∈ [(3 : Int)] := hm
    simp only [List.mem_cons, List.not_mem_nil, or_false] at this
    exact this
theorem ok_FTop {f C : Addr} {fd : FuncData} {k : Nat} (F : Fun K "top" "Field.top" (sF 4) f fd) (T : TxF K mg C) (T1 : mg "max" = none) : FnOk P w K mg base CX0 (k + 1) f fd ["self"] (spFTop K C) := by
  refine F.ok sc_FTop (fun vs H Q E h => ?_) (fun cdv A outer s H vs Q E hr h => ?_)
  · obtain ⟨p, d, rfl, _⟩ := h
    rfl
  · obtain ⟨p, d, rfl, ⟨dx, t, hp, hT⟩, hd, q⟩ := h
    refine ⟨_, (pss_one (ps_ret (pe_callB (cr_maxT rfl) (by rfl) T1 (by decide +kernel) (pa_cons (pe_fld (pv 0) rfl) pa_nil)))), ?_⟩
    refine ⟨_, rfl, p, C, dx, _, _, rfl, hp, T.cl, T.nP, ffl_per d t, t, per d, rfl, hT.sq, (perOk hd).len.1, fun m hm hle => ?_⟩
    rw [tp_max hd hm hle]
    exact q
abbrev s_bound : Stmt := top 35
abbrev n_bound : List Str := ["field", "factors", "factor"]
theorem sc_bound : FnScope n_bound ["field", "factors"] (defScope s_bound) := ⟨rfl, rfl, rfl, by decide +kernel, rfl, by decide +kernel, by decide +kernel⟩
theorem ab_get {fs : List Int} {i : Nat} {x : V} (h : (fs.map V.int)[i]? = some x) : ∃ f, x = .int f ∧ f ∈ fs ∧ (fs.take (i + 1)).map ab = (fs.take i).map ab ++ [ab f] := by
  rw [List.getElem?_map] at h
  have hi : i < fs.length := by
    refine Nat.not_le.mp fun z => ?_
    rw [List.getElem?_eq_none z] at h
    cases h
  rw [List.getElem?_eq_getElem hi] at h
  refine ⟨fs[i], (Option.some.inj h).symm, List.getElem_mem hi, ?_⟩
  rw [List.take_add_one, List.getElem?_eq_getElem hi, List.map_append]
  rfl
theorem ok_bound {f C : Addr} {fd : FuncData} {k : Nat} (F : Fun K "_bound" "_bound" s_bound f fd) (T : TxF K mg C) (T1 : mg "sum" = none) (T2 : mg "abs" = none) (M : Pt P w K mg base C k "top" (spFTop K C)) : FnOk P w K mg base CX0 (k + 2) f fd ["field", "factors"] (spBnd K C) := by
  refine F.ok sc_bound (fun vs H Q E h => ?_) (fun cdv A outer s H vs Q E hr h => ?_)
  · obtain ⟨p, l, d, fs, rfl, _⟩ := h
    rfl
  · obtain ⟨p, l, d, fs, rfl, hF, hd, hl, hfs, q⟩ := h
    have nd := sc_bound.nd
    obtain ⟨dx, t, hp, hT⟩ := id hF
    rcases hl with hl | hl
    · refine ⟨_, (pss_one (ps_ret (pe_op op_mulW (pe_op op_mulW pe_int (pe_pt (pv 0) T.cl M hr (Nat.le_refl _))) (pe_callB (cr_sum rfl) (by rfl) T1 (by decide +kernel) (pa_cons (pe_lc (own := [("factor", 2)]) (g := gName 2) (tt := tYes) (by rfl) nd (pi_list (pv 1)) (blkOk_by (own := [("factor", 2)]) (N := n_bound) (sc := defScope s_bound) (by decide +kernel)) (fun _ _ _ _ _ => (pg_name (i := 2) nd rfl (Or.inl rfl))) (fun _ _ _ _ _ => pts_nil) (fun _ _ _ _ _ => (pe_callB call_abs (by rfl) T2 (by decide +kernel) (pa_cons (pv 2) pa_nil)))) pa_nil))))), ?_⟩
      refine ⟨_, rfl, p, dx, _, rfl, hp, p, d, rfl, hF, hd, ?_⟩
      refine ⟨_, _, rfl, rfl, mulOk (n := 3) (m := 4) (by unfold Bd; decide) (by have := tp_bd d; unfold Bd; omega) (by decide) (by decide) (by decide), _, rfl, l, rfl, ⟨_, hl⟩, fun D nD => ?_⟩
      refine lc_list (K := K) (a := l) (xs := fs.map V.int) (fun i H' => H' D = some (.lst (((fs.take i).map ab).map V.int)) ∧ Same H H') ⟨upd_same, sNew (Same.refl _) nD⟩ (fun i H' _ h => h.2.seq hl) ?_ ?_
      · rintro i x H1 hx ⟨h1, sm⟩
        obtain ⟨f0, rfl, hf, et⟩ := ab_get hx
        refine ⟨rfl, yes_if ⟨_, rfl, _, rfl, _, h1, ?_, ?_, sm_upd sm nD⟩⟩
        · have : ((fs.take i).map ab).length ≤ fs.length := by rw [List.length_map, List.length_take]; omega
          rw [List.length_map, sizeLine_eq]
          have := hfs.1
          omega
        · rw [upd_same, et, List.map_append]
          rfl
      · rintro H1 ⟨h1, sm⟩
        rw [List.length_map, List.take_length] at h1
        refine ⟨D, _, rfl, SqL.of h1, ?_⟩
        have e1 := absum_le fs hfs.2
        have e2 := absum_nn fs
        have e3 := hfs.1
        have e4 := tp_bd d
        exact ⟨_, _, rfl, rfl, mulOk (n := 5) (m := 20) (by show Bd 5 (3 * tp d); unfold Bd; omega) (by show Bd 20 (absum fs); unfold Bd; omega) (by decide) (by decide) (by decide), q _ sm⟩
    · refine ⟨_, (pss_one (ps_ret (pe_op op_mulW (pe_op op_mulW pe_int (pe_pt (pv 0) T.cl M hr (Nat.le_refl _))) (pe_callB (cr_sum rfl) (by rfl) T1 (by decide +kernel) (pa_cons (pe_lc (own := [("factor", 2)]) (g := gName 2) (tt := tYes) (by rfl) nd (pi_tup (pv 1)) (blkOk_by (own := [("factor", 2)]) (N := n_bound) (sc := defScope s_bound) (by decide +kernel)) (fun _ _ _ _ _ => (pg_name (i := 2) nd rfl (Or.inl rfl))) (fun _ _ _ _ _ => pts_nil) (fun _ _ _ _ _ => (pe_callB call_abs (by rfl) T2 (by decide +kernel) (pa_cons (pv 2) pa_nil)))) pa_nil))))), ?_⟩
      refine ⟨_, rfl, p, dx, _, rfl, hp, p, d, rfl, hF, hd, ?_⟩
      refine ⟨_, _, rfl, rfl, mulOk (n := 3) (m := 4) (by unfold Bd; decide) (by have := tp_bd d; unfold Bd; omega) (by decide) (by decide) (by decide), _, rfl, l, rfl, ⟨_, hl⟩, fun D nD => ?_⟩
      refine lc_tup (K := K) (a := l) (xs := fs.map V.int) (fun i H' => H' D = some (.lst (((fs.take i).map ab).map V.int)) ∧ Same H H') ⟨upd_same, sNew (Same.refl _) nD⟩ (fun i H' _ h => sameT h.2 hl) ?_ ?_
      · rintro i x H1 hx ⟨h1, sm⟩
        obtain ⟨f0, rfl, hf, et⟩ := ab_get hx
        refine ⟨rfl, yes_if ⟨_, rfl, _, rfl, _, h1, ?_, ?_, sm_upd sm nD⟩⟩
        · have : ((fs.take i).map ab).length ≤ fs.length := by rw [List.length_map, List.length_take]; omega
          rw [List.length_map, sizeLine_eq]
          have := hfs.1
          omega
        · rw [upd_same, et, List.map_append]
          rfl
      · rintro H1 ⟨h1, sm⟩
        rw [List.length_map, List.take_length] at h1
        refine ⟨D, _, rfl, SqL.of h1, ?_⟩
        have e1 := absum_le fs hfs.2
        have e2 := absum_nn fs
        have e3 := hfs.1
        have e4 := tp_bd d
        exact ⟨_, _, rfl, rfl, mulOk (n := 5) (m := 20) (by show Bd 5 (3 * tp d); unfold Bd; omega) (by show Bd 20 (absum fs); unfold Bd; omega) (by decide) (by decide) (by decide), q _ sm⟩
abbrev s_gap : Stmt := top 37
abbrev n_gap : List Str := ["field", "pair", "place", "u", "v", "i", "j", "k"]
theorem sc_gap : FnScope n_gap ["field", "pair", "place"] (defScope s_gap) := ⟨rfl, rfl, rfl, by decide +kernel, rfl, by decide +kernel, by decide +kernel⟩
theorem ok_gap {f C td : Addr} {fd : FuncData} {k : Nat} (F : Fun K "_gap" "_gap" s_gap f fd) (T : TxF K mg C) (T1 : mg "len" = none) (mT : mg "TAILS" = some (.ref td)) (hT : TlsK K td) (M1 : Pt P w K mg base C k "root" (spFRoot K C)) (M2 : Pt P w K mg base C k "period" (spFPer K C)) :
    FnOk P w K mg base CX0 (k + 2) f fd ["field", "pair", "place"] (spGap K C) := by
  refine F.ok sc_gap (fun vs H Q E h => ?_) (fun cdv A outer s H vs Q E hr h => ?_)
  · obtain ⟨p, t, d, u, v, n, rfl, _⟩ := h
    rfl
  · obtain ⟨p, t, d, u, v, n, rfl, hF, hd, ht, bu, bv, q⟩ := h
    have nd := sc_gap.nd
    obtain ⟨dx, tt, hp, hTT⟩ := id hF
    obtain ⟨ta, xs, ia, sxs, lx, hx⟩ := hT d hd
    obtain ⟨ti, e1, sti⟩ := hx n
    refine ⟨_, (pss_cons (ps_asg (pv 1) (pg_tup rfl (pgs_cons (pg_name (i := 3) nd rfl (Or.inl rfl)) (pgs_cons (pg_name (i := 4) nd rfl (Or.inl rfl)) pgs_nil))))
      (pss_cons (ps_asg (pe_ix ix_tup (pe_ix ix_intd (pe_glob (v := .ref td) (by rfl) mT rfl) (pe_pt (pv 0) T.cl M1 hr (Nat.le_refl _)) (fun _ _ => rfl)) (pe_op op_mod (pv 2) (pe_callB call_len_seq (by rfl) T1 (by decide +kernel) (pa_cons (pe_pt (pv 0) T.cl M2 hr (Nat.le_refl _)) pa_nil))) (fun _ _ => rfl)) (pg_tup rfl (pgs_cons (pg_name (i := 5) nd rfl (Or.inl rfl)) (pgs_cons (pg_name (i := 6) nd rfl (Or.inl rfl)) (pgs_cons (pg_name (i := 7) nd rfl (Or.inl rfl)) pgs_nil)))))
      (pss_one (ps_ret (pe_tup (pa_cons (pe_op op_sub (pe_op op_mulW (pv 7) (pv 3)) (pe_op op_mulW (pv 5) (pv 4))) (pa_cons (pe_op op_mulW (pe_un un_neg (pv 6)) (pv 4)) (pa_cons (pv 7) pa_nil)))))))), ?_⟩
    refine ⟨_, rfl, t, _, rfl, ht, rfl, _, _, rfl, _, _, rfl, rfl, ?_⟩
    refine ⟨_, rfl, p, dx, _, rfl, hp, p, d, rfl, hF, ?_⟩
    have hper := (perOk hd).len
    have hat : atI xs ((n : Int) % (((per d).map V.int).length : Nat)) = some (.ref ti) := by
      rw [List.length_map, ← Int.natCast_emod]
      exact atI_nat e1
    have k0 := tlK_or d n
    have i0 := tlI_bd d n
    have bk : Bd 4 (tlK d n) := by unfold Bd; omega
    have bi : Bd 4 (tlI d n) := by unfold Bd; omega
    refine ⟨_, _, _, rfl, rfl, ia, _, rfl, _, rfl, p, dx, _, rfl, hp, p, d, rfl, hF, fun t2 hT2 => ⟨t2, _, rfl, .inr hT2.sq, _, _, rfl, rfl, (by rw [List.length_map]; omega), ta, _, _, _, rfl, rfl, sxs _, hat, ?_⟩⟩
    refine ⟨ti, _, rfl, sti _, rfl, _, _, rfl, _, _, rfl, _, _, rfl, rfl, ?_⟩
    refine ⟨_, rfl, _, rfl, _, _, rfl, rfl, mulOk bk bu (by decide) (by decide) (by decide), _, rfl, _, rfl, _, _, rfl, rfl, mulOk bi bv (by decide) (by decide) (by decide), _, _, rfl, rfl, ?_⟩
    refine ⟨_, rfl, _, rfl, _, rfl, _, _, rfl, rfl, mulOk (n := 1) (by unfold Bd; decide) bv (by decide) (by decide) (by decide), _, rfl, by show 3 ≤ sizeLine; decide, fun x nx => ?_⟩
    exact q x _ nx upd_same (sNew (Same.refl _) nx)
end
end RF

/-! quotients of surds, and how many steps are kept -/
namespace RF
theorem sg_eq0 {d i j : Int} (hd : Root d) : sg d i j = 0 ↔ i = 0 ∧ j = 0 := by
  by_cases hi : 0 ≤ i
  · by_cases hj : 0 ≤ j
    · rw [sg_pp hd hi hj]; split <;> omega
    · by_cases h0 : 0 < i
      · rw [sg_pn hd h0 (by omega)]; split <;> omega
      · rw [sg_nn hd (by omega) (by omega) (by omega)]; omega
  · by_cases hj : 0 < j
    · rw [sg_np hd (by omega) hj]; split <;> omega
    · rw [sg_nn hd (by omega) (by omega) (by omega)]; omega
theorem sg_tri (d i j : Int) : sg d i j = 1 ∨ sg d i j = -1 ∨ sg d i j = 0 := by
  unfold sg
  split
  · exact .inl rfl
  · split
    · exact .inr (.inl rfl)
    · exact .inr (.inr rfl)
/-- the norm -/
def nm (d a b : Int) : Int := a * a - d * (b * b)
theorem nm_zero {d a b : Int} (hd : Root d) (h : nm d a b = 0) : a = 0 ∧ b = 0 := by
  unfold nm at h
  have hb := irr hd (i := a) (j := b) (by omega)
  subst hb
  have : a * a = 0 := by omega
  rcases Int.mul_eq_zero.mp this with h | h <;> exact ⟨h, rfl⟩
theorem nm_mul (d a b m n : Int) : nm d (a * m + d * b * n) (a * n + b * m) = nm d a b * nm d m n := by
  unfold nm; grind
theorem pos_crit {d a b : Int} (hd : Root d) : sg d a b = 1 ↔ (0 < nm d a b ∧ 0 < a) ∨ (nm d a b < 0 ∧ 0 < b) := by
  have dp := hd.pos
  have hz : nm d a b = 0 → a = 0 ∧ b = 0 := nm_zero hd
  have e1 : b * b * d = d * (b * b) := by grind
  by_cases ha : 0 ≤ a
  · by_cases hb : 0 ≤ b
    · rw [sg_pp hd ha hb]
      by_cases h : 0 < a ∨ 0 < b
      · rw [if_pos h]
        refine ⟨fun _ => ?_, fun _ => rfl⟩
        rcases Int.lt_trichotomy (nm d a b) 0 with h1 | h1 | h1
        · refine .inr ⟨h1, Int.not_le.mp fun z0 => ?_⟩
          obtain rfl : b = 0 := by omega
          unfold nm at h1
          have := sq_nonneg a
          omega
        · have := hz h1; omega
        · refine .inl ⟨h1, Int.not_le.mp fun z0 => ?_⟩
          obtain rfl : a = 0 := by omega
          unfold nm at h1
          have : 0 ≤ d * (b * b) := Int.mul_nonneg (by omega) (sq_nonneg b)
          omega
      · rw [if_neg h]
        constructor
        · intro z; omega
        · rintro (z | z) <;> omega
    · by_cases h0 : 0 < a
      · rw [sg_pn hd h0 (by omega), e1]
        by_cases h : d * (b * b) < a * a
        · rw [if_pos h]
          exact ⟨fun _ => .inl ⟨by unfold nm; omega, h0⟩, fun _ => rfl⟩
        · rw [if_neg h]
          constructor
          · intro z; omega
          · rintro (⟨z, _⟩ | z)
            · unfold nm at z; omega
            · omega
      · rw [sg_nn hd (by omega) (by omega) (by omega)]
        constructor
        · intro z; omega
        · rintro (z | z) <;> omega
  · by_cases hb : 0 < b
    · rw [sg_np hd (by omega) hb, e1]
      by_cases h : a * a < d * (b * b)
      · rw [if_pos h]
        exact ⟨fun _ => .inr ⟨by unfold nm; omega, hb⟩, fun _ => rfl⟩
      · rw [if_neg h]
        constructor
        · intro z; omega
        · rintro (z | ⟨z, _⟩)
          · omega
          · unfold nm at z; omega
    · rw [sg_nn hd (by omega) (by omega) (by omega)]
      constructor
      · intro z; omega
      · rintro (z | z) <;> omega
theorem sum_pos {x y : Int} (hx : 0 < x) (h : y * y < x * x) : 0 < x + y := by
  refine Int.not_le.mp fun z => ?_
  have : x * x ≤ (-y) * (-y) := sq_le (by omega) (by omega)
  rw [Int.neg_mul_neg] at this
  omega
theorem mul_lt4 {a b c e : Int} (ha : 0 ≤ a) (hab : a < b) (hc : 0 ≤ c) (hce : c < e) : a * c < b * e :=
  Int.lt_of_le_of_lt (Int.mul_le_mul_of_nonneg_left (by omega) ha) (Int.mul_lt_mul_of_pos_right hab (by omega))
theorem pos_mul {d a b m n : Int} (hd : Root d) (h1 : sg d a b = 1) (h2 : sg d m n = 1) : sg d (a * m + d * b * n) (a * n + b * m) = 1 := by
  have dp := hd.pos
  have q := fun x : Int => sq_nonneg x
  have dq := fun x : Int => Int.mul_nonneg (show 0 ≤ d by omega) (q x)
  refine (pos_crit hd).mpr ?_
  rw [nm_mul]
  rcases (pos_crit hd).mp h1 with ⟨n1, a1⟩ | ⟨n1, a1⟩ <;> rcases (pos_crit hd).mp h2 with ⟨n2, a2⟩ | ⟨n2, a2⟩
  · refine .inl ⟨Int.mul_pos n1 n2, sum_pos (Int.mul_pos a1 a2) ?_⟩
    unfold nm at n1 n2
    have := mul_lt4 (dq b) (show d * (b * b) < a * a by omega) (dq n) (show d * (n * n) < m * m by omega)
    have e1 : d * b * n * (d * b * n) = d * (b * b) * (d * (n * n)) := by grind
    have e2 : a * m * (a * m) = a * a * (m * m) := by grind
    omega
  · refine .inr ⟨Int.mul_neg_of_pos_of_neg n1 n2, sum_pos (Int.mul_pos a1 a2) ?_⟩
    unfold nm at n1 n2
    have := mul_lt4 (dq b) (show d * (b * b) < a * a by omega) (q m) (show m * m < d * (n * n) by omega)
    have e1 : d * (b * b) * (m * m) = d * (b * m * (b * m)) := by grind
    have e2 : a * a * (d * (n * n)) = d * (a * n * (a * n)) := by grind
    rw [e1, e2] at this
    exact Int.lt_of_mul_lt_mul_left this (by omega)
  · refine .inr ⟨Int.mul_neg_of_neg_of_pos n1 n2, ?_⟩
    rw [Int.add_comm]
    refine sum_pos (Int.mul_pos a1 a2) ?_
    unfold nm at n1 n2
    have := mul_lt4 (q a) (show a * a < d * (b * b) by omega) (dq n) (show d * (n * n) < m * m by omega)
    have e1 : a * a * (d * (n * n)) = d * (a * n * (a * n)) := by grind
    have e2 : d * (b * b) * (m * m) = d * (b * m * (b * m)) := by grind
    rw [e1, e2] at this
    exact Int.lt_of_mul_lt_mul_left this (by omega)
  · refine .inl ⟨Int.mul_pos_of_neg_of_neg n1 n2, ?_⟩
    rw [Int.add_comm]
    refine sum_pos (Int.mul_pos (Int.mul_pos dp a1) a2) ?_
    unfold nm at n1 n2
    have := mul_lt4 (q a) (show a * a < d * (b * b) by omega) (q m) (show m * m < d * (n * n) by omega)
    have e1 : d * b * n * (d * b * n) = d * (b * b) * (d * (n * n)) := by grind
    have e2 : a * m * (a * m) = a * a * (m * m) := by grind
    omega
theorem sg_mulS {d a b m n : Int} (hd : Root d) : sg d (a * m + d * b * n) (a * n + b * m) = sg d a b * sg d m n := by
  have neg1 : ∀ a b m n, sg d (-a * m + d * -b * n) (-a * n + -b * m) = -sg d (a * m + d * b * n) (a * n + b * m) := fun a b m n => by
    rw [← sg_neg]
    congr 1 <;> grind
  have neg2 : ∀ a b m n, sg d (a * -m + d * b * -n) (a * -n + b * -m) = -sg d (a * m + d * b * n) (a * n + b * m) := fun a b m n => by
    rw [← sg_neg]
    congr 1 <;> grind
  rcases sg_tri d a b with h1 | h1 | h1
  · rcases sg_tri d m n with h2 | h2 | h2
    · rw [h1, h2]; exact pos_mul hd h1 h2
    · have h3 : sg d (-m) (-n) = 1 := by rw [sg_neg, h2]; rfl
      have := pos_mul hd h1 h3
      rw [neg2] at this
      rw [h1, h2]; omega
    · obtain ⟨rfl, rfl⟩ := (sg_eq0 hd).mp h2
      rw [h2, show sg d a b * 0 = 0 from Int.mul_zero _]
      exact (sg_eq0 hd).mpr ⟨by simp, by simp⟩
  · have h1' : sg d (-a) (-b) = 1 := by rw [sg_neg, h1]; rfl
    rcases sg_tri d m n with h2 | h2 | h2
    · have := pos_mul hd h1' h2
      rw [neg1] at this
      rw [h1, h2]; omega
    · have h3 : sg d (-m) (-n) = 1 := by rw [sg_neg, h2]; rfl
      have := pos_mul hd h1' h3
      rw [neg1, neg2] at this
      rw [h1, h2]; omega
    · obtain ⟨rfl, rfl⟩ := (sg_eq0 hd).mp h2
      rw [h2, show sg d a b * 0 = 0 from Int.mul_zero _]
      exact (sg_eq0 hd).mpr ⟨by simp, by simp⟩
  · obtain ⟨rfl, rfl⟩ := (sg_eq0 hd).mp h1
    rw [h1, show 0 * sg d m n = 0 from Int.zero_mul _]
    exact (sg_eq0 hd).mpr ⟨by simp, by simp⟩
/-- the floor of (i + j r) / k -/
def flQ (d i j k : Int) : Int := (pI i j k + flr d (pJ i j k)) / pK i j k
/-- the floor of (i + j r) / (m + n r) -/
def dvd_ (d i j m n : Int) : Int := flQ d (i * m - d * j * n) (j * m - i * n) (m * m - d * n * n)
theorem dv_ne {d m n : Int} (hd : Root d) (h : sg d m n ≠ 0) : m * m - d * n * n ≠ 0 := fun z => h ((sg_eq0 hd).mpr (nm_zero hd (by unfold nm; rw [← Int.mul_assoc]; exact z)))
theorem sg_int {d x : Int} (hd : Root d) : sg d x 0 = if 0 < x then 1 else if x < 0 then -1 else 0 := by
  by_cases h : 0 ≤ x
  · rw [sg_pp hd h (Int.le_refl _)]
    by_cases h0 : 0 < x
    · rw [if_pos (.inl h0), if_pos h0]
    · rw [if_neg (by omega), if_neg h0, if_neg (by omega)]
  · rw [sg_nn hd (by omega) (Int.le_refl _) (by omega), if_neg (by omega), if_pos (by omega)]
theorem dv_le {d i j m n t : Int} (hd : Root d) (hg : sg d m n = 1) : t ≤ dvd_ d i j m n ↔ 0 ≤ sg d (i - t * m) (j - t * n) := by
  have N0 := dv_ne (m := m) (n := n) hd (by omega)
  have hN : sg d m (-n) = sg d (m * m - d * n * n) 0 := by
    have := sg_mulS (d := d) (a := m) (b := n) (m := m) (n := -n) hd
    rw [hg, Int.one_mul] at this
    rw [← this]
    congr 1 <;> grind
  have hX := sg_mulS (d := d) (a := i - t * m) (b := j - t * n) (m := m) (n := -n) hd
  unfold dvd_
  generalize hI : i * m - d * j * n = I
  generalize hJ : j * m - i * n = J
  generalize hNN : m * m - d * n * n = N at *
  have e1 : (i - t * m) * m + d * (j - t * n) * -n = I - t * N := by rw [← hI, ← hNN]; grind
  have e2 : (i - t * m) * -n + (j - t * n) * m = J := by rw [← hJ]; grind
  rw [e1, e2, hN] at hX
  have kp := pK_pos (i := I) (j := J) N0
  have a1 := pI_eq (i := I) (j := J) N0
  have a2 := pJ_eq (i := I) (j := J) N0
  have a3 := pK_eq (i := I) (j := J) N0
  have g0 := gs_ne (i := I) (j := J) N0
  unfold flQ
  rw [Int.le_ediv_iff_mul_le kp]
  have s1 := sg_nonneg (d := d) (i := pI I J N - t * pK I J N) (j := pJ I J N) hd
  have hS : sg d (I - t * N) J = sg d (gs I J N) 0 * sg d (pI I J N - t * pK I J N) (pJ I J N) := by
    have := sg_mulS (d := d) (a := gs I J N) (b := 0) (m := pI I J N - t * pK I J N) (n := pJ I J N) hd
    rw [← this]
    congr 1
    · conv => lhs; rw [a1, a3]
      grind
    · conv => lhs; rw [a2]
      grind
  have hgN : sg d (gs I J N) 0 = sg d N 0 := by
    rw [sg_int hd, sg_int hd]
    by_cases h : 0 < gs I J N
    · have : 0 < N := by rw [a3]; exact Int.mul_pos h kp
      rw [if_pos h, if_pos this]
    · have : N < 0 := by rw [a3]; exact Int.mul_neg_of_neg_of_pos (by omega) kp
      rw [if_neg h, if_pos (by omega), if_neg (by omega), if_pos this]
  rw [hgN] at hS
  rw [hX] at hS
  have hs0 : sg d N 0 = 1 ∨ sg d N 0 = -1 := by
    rw [sg_int hd]
    by_cases h : 0 < N
    · rw [if_pos h]; exact .inl rfl
    · rw [if_neg h, if_pos (by omega)]; exact .inr rfl
  have hE : sg d (i - t * m) (j - t * n) = sg d (pI I J N - t * pK I J N) (pJ I J N) := by
    rcases hs0 with h | h <;> rw [h] at hS <;> omega
  rw [hE, s1]
  constructor <;> intro h <;> omega
end RF

/-! the steps of a stride that are kept -/
namespace RF
def gI (d u v : Int) (p : Nat) : Int := tlK d p * u - tlI d p * v
/-- the first and the last that is kept -/
def kr (d B u v s t : Int) (p : Nat) : Int × Int :=
  if sg d (gI d s t p) (-1 * t) < 0 then (-dvd_ d (tlK d p * B + -gI d u v p) (-(-1 * v)) (-gI d s t p) (-(-1 * t)), dvd_ d (tlK d p * B - -gI d u v p) (-(-(-1 * v))) (-gI d s t p) (-(-1 * t)))
  else (-dvd_ d (tlK d p * B + gI d u v p) (-1 * v) (gI d s t p) (-1 * t), dvd_ d (tlK d p * B - gI d u v p) (-(-1 * v)) (gI d s t p) (-1 * t))
theorem gI_ne {d s t : Int} {p : Nat} (hd : Root d) (h : s ≠ 0 ∨ t ≠ 0) : sg d (gI d s t p) (-1 * t) ≠ 0 := fun z => by
  obtain ⟨h1, h2⟩ := (sg_eq0 hd).mp z
  have t0 : t = 0 := by omega
  subst t0
  unfold gI at h1
  rw [Int.mul_zero, Int.sub_zero] at h1
  rcases Int.mul_eq_zero.mp h1 with k | k
  · have := tlK_or d p; omega
  · rcases h with h | h
    · exact h k
    · exact h rfl
theorem kr_iff {d B u v s t n : Int} {p : Nat} (hd : Root d) (h : s ≠ 0 ∨ t ≠ 0) : ((kr d B u v s t p).1 ≤ n ∧ n ≤ (kr d B u v s t p).2) ↔ kpt d B (u + n * s) (v + n * t) p = true := by
  have e0 := gI_ne (p := p) hd h
  have eI : tlK d p * (u + n * s) - tlI d p * (v + n * t) = gI d u v p + n * gI d s t p := by unfold gI; grind
  have eJ : -1 * (v + n * t) = -1 * v + n * (-1 * t) := by grind
  unfold kpt
  rw [eI, eJ, Bool.and_eq_true, decide_eq_true_eq, decide_eq_true_eq]
  unfold kr
  generalize gI d u v p = I at *
  generalize gI d s t p = m at *
  generalize -1 * v = J at *
  generalize -1 * t = w at *
  generalize tlK d p * B = X
  have flip : ∀ a b, (0 ≤ sg d (-a) (-b)) ↔ sg d a b ≤ 0 := fun a b => by rw [sg_neg]; omega
  by_cases hs : sg d m w < 0
  · rw [if_pos hs]
    have hg : sg d (-m) (-w) = 1 := by
      rw [sg_neg]
      rcases sg_tri d m w with h | h | h <;> omega
    show -dvd_ d (X + -I) (-J) (-m) (-w) ≤ n ∧ n ≤ dvd_ d (X - -I) (-(-J)) (-m) (-w) ↔ _
    rw [show (-dvd_ d (X + -I) (-J) (-m) (-w) ≤ n) ↔ (-n ≤ dvd_ d (X + -I) (-J) (-m) (-w)) by omega, dv_le hd hg, dv_le hd hg]
    rw [show X + -I - -n * -m = -(I + n * m - X) by grind, show -J - -n * -w = -(J + n * w) by grind, flip, show X - -I - n * -m = I + n * m + X by grind, show - -J - n * -w = J + n * w by grind]
    exact And.comm
  · rw [if_neg hs]
    have hg : sg d m w = 1 := by rcases sg_tri d m w with h | h | h <;> omega
    show -dvd_ d (X + I) J m w ≤ n ∧ n ≤ dvd_ d (X - I) (-J) m w ↔ _
    rw [show (-dvd_ d (X + I) J m w ≤ n) ↔ (-n ≤ dvd_ d (X + I) J m w) by omega, dv_le hd hg, dv_le hd hg]
    rw [show X + I - -n * m = I + n * m + X by grind, show J - -n * w = J + n * w by grind, show X - I - n * m = -(I + n * m - X) by grind, show -J - n * w = -(J + n * w) by grind, flip]
/-- one step of the carrying -/
def cst (part total : Int) (q : Int × Int) : Int × Int := (q.2, q.1 - part * q.2 - total)
theorem cst_ne {part : Int} {q : Int × Int} (h : q.1 ≠ 0 ∨ q.2 ≠ 0) : (cst part 0 q).1 ≠ 0 ∨ (cst part 0 q).2 ≠ 0 := by
  show q.2 ≠ 0 ∨ q.1 - part * q.2 - 0 ≠ 0
  by_cases z : q.2 = 0
  · refine .inr fun y => ?_
    rw [z, Int.mul_zero] at y
    omega
  · exact .inl z
end RF

namespace RF
open PySem L2 PyProof.Rows
def spCarry (K : PySem.W.Frag) : Sp := fun vs H Q _ => ∃ (b : Addr) (u v part total : Int), vs = [.ref b, .int part, .int total] ∧ SqT K H b [.int u, .int v] ∧ Bd 250 v ∧ Bd 4 part ∧
  ∀ x H', H x = none → H' x = some (.tup [.int (cst part total (u, v)).1, .int (cst part total (u, v)).2]) → Same H H' → Q (.ref x) H'
def spDvd (K : PySem.W.Frag) : Sp := fun vs H Q _ => ∃ (a b : Addr) (d i j m n k : Int), vs = [.int d, .ref a, .ref b] ∧ SqT K H a [.int i, .int j] ∧ SqT K H b [.int m, .int n, .int k] ∧ Root d ∧ sg d m n ≠ 0 ∧ Bd 300 i ∧ Bd 300 j ∧ Bd 300 m ∧ Bd 300 n ∧ ∀ H', Same H H' → Q (.int (dvd_ d i j m n)) H'
def spKR (K : PySem.W.Frag) (C : Addr) : Sp := fun vs H Q _ => ∃ (p b s : Addr) (d B u v s1 t1 : Int) (n : Nat), vs = [.ref p, .int B, .ref b, .ref s, .int (n : Int)] ∧ FldAt K H C p d ∧ Root d ∧ Bd 60 B ∧ SqT K H b [.int u, .int v] ∧ SqT K H s [.int s1, .int t1] ∧ Bd 250 u ∧ Bd 250 v ∧ Bd 250 s1 ∧ Bd 250 t1 ∧ (s1 ≠ 0 ∨ t1 ≠ 0) ∧
  ∀ x H', H x = none → H' x = some (.tup [.int (kr d B u v s1 t1 n).1, .int (kr d B u v s1 t1 n).2]) → Same H H' → Q (.ref x) H'
section
variable {P : Program} {w : World} {K : PySem.W.Frag} {mg : Str → Option Value} {base : Heap}
abbrev s_carry : Stmt := top 36
abbrev n_carry : List Str := ["pair", "part", "total", "u", "v"]
theorem sc_carry : FnScope n_carry ["pair", "part", "total"] (defScope s_carry) := ⟨rfl, rfl, rfl, by decide +kernel, rfl, by decide +kernel, by decide +kernel⟩
theorem ok_carry {f : Addr} {fd : FuncData} {k : Nat} (F : Fun K "_carry" "_carry" s_carry f fd) : FnOk P w K mg base CX0 (k + 1) f fd ["pair", "part", "total"] (spCarry K) := by
  refine F.ok sc_carry (fun vs H Q E h => ?_) (fun cdv A outer s H vs Q E hr h => ?_)
  · obtain ⟨b, u, v, part, total, rfl, _⟩ := h
    rfl
  · obtain ⟨b, u, v, part, total, rfl, hb, bv, bp, q⟩ := h
    have nd := sc_carry.nd
    refine ⟨_, (pss_cons (ps_asg (pv 0) (pg_tup rfl (pgs_cons (pg_name (i := 3) nd rfl (Or.inl rfl)) (pgs_cons (pg_name (i := 4) nd rfl (Or.inl rfl)) pgs_nil))))
      (pss_one (ps_ret (pe_tup (pa_cons (pv 4) (pa_cons (pe_op op_sub (pe_op op_sub (pv 3) (pe_op op_mulW (pv 1) (pv 4))) (pv 2)) pa_nil)))))), ?_⟩
    refine ⟨_, rfl, b, _, rfl, hb, rfl, _, _, rfl, _, _, rfl, rfl, ?_⟩
    refine ⟨_, rfl, _, rfl, _, rfl, _, rfl, _, _, rfl, rfl, mulOk bp bv (by decide) (by decide) (by decide), _, _, rfl, rfl, _, rfl, _, _, rfl, rfl, by show 2 ≤ sizeLine; decide, fun x nx => ?_⟩
    exact q x _ nx upd_same (sNew (Same.refl _) nx)
abbrev s_divided : Stmt := top 39
abbrev n_divided : List Str := ["root", "above", "below", "i", "j", "m", "n", "_"]
theorem sc_divided : FnScope n_divided ["root", "above", "below"] (defScope s_divided) := ⟨rfl, rfl, rfl, by decide +kernel, rfl, by decide +kernel, by decide +kernel⟩
theorem Bd.sub {n : Nat} {i j : Int} (a : Bd n i) (b : Bd n j) : Bd (n + 1) (i - j) := by
  rw [Int.sub_eq_add_neg]
  exact a.add b.neg
theorem ok_divided {f CS : Addr} {fd : FuncData} {k : Nat} (F : Fun K "_divided" "_divided" s_divided f fd) (TS : TxS K mg CS) (M : MkS P w K mg base CS (k + 1)) (MF : Mt P w K mg base CS (k + 2) "floor" ["self"] (spFlS CS)) : FnOk P w K mg base CX0 (k + 3) f fd ["root", "above", "below"] (spDvd K) := by
  refine F.ok sc_divided (fun vs H Q E h => ?_) (fun cdv A outer s H vs Q E hr h => ?_)
  · obtain ⟨a, b, d, i, j, m, n, k, rfl, _⟩ := h
    rfl
  · obtain ⟨a, b, d, i, j, m, n, k2, rfl, ha, hb, hd, hg, bi, bj, bm, bn, q⟩ := h
    have nd := sc_divided.nd
    obtain ⟨fi, fdi, M0, G, kb, _, _⟩ := M.ex
    refine ⟨_, (pss_cons (ps_asg (pv 1) (pg_tup rfl (pgs_cons (pg_name (i := 3) nd rfl (Or.inl rfl)) (pgs_cons (pg_name (i := 4) nd rfl (Or.inl rfl)) pgs_nil))))
      (pss_cons (ps_asg (pv 2) (pg_tup rfl (pgs_cons (pg_name (i := 5) nd rfl (Or.inl rfl)) (pgs_cons (pg_name (i := 6) nd rfl (Or.inl rfl)) (pgs_cons (pg_name (i := 7) nd rfl (Or.inl rfl)) pgs_nil)))))
      (pss_one (ps_ret (pe_mt0 (pe_makeK M0 G hr (by rfl) TS.mg kb pass0 (pa_cons (pv 0) (pa_cons (pe_op op_sub (pe_op op_mulW (pv 3) (pv 5)) (pe_op op_mulW (pe_op op_mulW (pv 0) (pv 4)) (pv 6))) (pa_cons (pe_op op_sub (pe_op op_mulW (pv 4) (pv 5)) (pe_op op_mulW (pv 3) (pv 6))) pa_nil))) (pk_cons (pe_op op_sub (pe_op op_mulW (pv 5) (pv 5)) (pe_op op_mulW (pe_op op_mulW (pv 0) (pv 6)) (pv 6))) pk_nil)) TS.cl MF hr (Nat.le_refl _)))))), ?_⟩
    have bd := rootBd hd
    have N0 := dv_ne (m := m) (n := n) hd hg
    have B1 : Bd 605 (i * m - d * j * n) := ((bi.mul bm).mono (by decide : 600 ≤ 604)).sub ((bd.mul bj).mul bn)
    have B2 : Bd 601 (j * m - i * n) := (bj.mul bm).sub (bi.mul bn)
    have B3 : Bd 605 (m * m - d * n * n) := ((bm.mul bm).mono (by decide : 600 ≤ 604)).sub ((bd.mul bn).mul bn)
    refine ⟨_, rfl, a, _, rfl, ha, rfl, _, _, rfl, _, _, rfl, rfl, _, rfl, b, _, rfl, hb, rfl, _, _, rfl, _, _, rfl, _, _, rfl, rfl, ?_⟩
    refine ⟨_, rfl, _, rfl, _, rfl, _, _, rfl, rfl, mulOk bi bm (by decide) (by decide) (by decide), _, rfl, _, rfl, _, _, rfl, rfl, mulOk bd bj (by decide) (by decide) (by decide), _, rfl, _, _, rfl, rfl, mulOk (bd.mul bj) bn (by decide) (by decide) (by decide), _, _, rfl, rfl, ?_⟩
    refine ⟨_, rfl, _, rfl, _, _, rfl, rfl, mulOk bj bm (by decide) (by decide) (by decide), _, rfl, _, rfl, _, _, rfl, rfl, mulOk bi bn (by decide) (by decide) (by decide), _, _, rfl, rfl, ?_⟩
    refine ⟨_, rfl, _, rfl, _, _, rfl, rfl, mulOk bm bm (by decide) (by decide) (by decide), _, rfl, _, rfl, _, _, rfl, rfl, mulOk bd bn (by decide) (by decide) (by decide), _, rfl, _, _, rfl, rfl, mulOk (bd.mul bn) bn (by decide) (by decide) (by decide), _, _, rfl, rfl, rfl, rfl, fun x dx nx ndx nex => ?_⟩
    refine ⟨x, dx, d, _, _, _, rfl, upd_same, hd, N0, B1.mono (by decide), B2.mono (by decide), B3.mono (by decide), fun H' S kq => ⟨rfl, ?_⟩⟩
    have sm := Same.made nx ndx kq
    have sv : SV H' CS x d (i * m - d * j * n) (j * m - i * n) (m * m - d * n * n) := ⟨N0, S⟩
    obtain ⟨dxx, fsx, inx, nox⟩ := sv.ins
    exact ⟨x, dxx, fsx, rfl, inx, nox _ (by decide) (by decide), x, d, _, _, _, rfl, sv, hd, B1.mono (by decide), B2.mono (by decide), B3.mono (by decide), q _ sm⟩
abbrev s_krange : Stmt := top 38
abbrev n_krange : List Str := ["field", "bound", "base", "stride", "place", "i", "j", "k", "growth", "low"]
theorem sc_krange : FnScope n_krange ["field", "bound", "base", "stride", "place"] (defScope s_krange) := ⟨rfl, rfl, rfl, by decide +kernel, rfl, by decide +kernel, by decide +kernel⟩
theorem ok_krange {f C CS : Addr} {fd : FuncData} {k : Nat} (F : Fun K "_kept_range" "_kept_range" s_krange f fd) (T : TxF K mg C) (TS : TxS K mg CS) (M1 : Pt P w K mg base C (k + 2) "root" (spFRoot K C)) (M : MkS P w K mg base CS (k + 2)) (MS : Mt P w K mg base CS (k + 3) "sign" ["self"] (spSign CS))
    (D1 : Df P w K mg base (k + 3) "_gap" ["field", "pair", "place"] (spGap K C)) (D2 : Df P w K mg base (k + 3) "_divided" ["root", "above", "below"] (spDvd K)) : FnOk P w K mg base CX0 (k + 4) f fd ["field", "bound", "base", "stride", "place"] (spKR K C) := by
  refine F.ok sc_krange (fun vs H Q E h => ?_) (fun cdv A outer s H vs Q E hr h => ?_)
  · obtain ⟨p, b, s, d, B, u, v, s1, t1, n, rfl, _⟩ := h
    rfl
  · obtain ⟨p, b, st, d, B, u, v, s1, t1, n, rfl, hF, hd, bB, hb, hs, bu, bv, bs, bt, hne, q⟩ := h
    have nd := sc_krange.nd
    obtain ⟨fi, fdi, M0, G, kb, ⟨_, r1, b1⟩, _⟩ := M.ex
    refine ⟨_, (pss_cons (ps_asg (pe_callD D1 hr (Nat.le_refl _) (pa_cons (pv 0) (pa_cons (pv 2) (pa_cons (pv 4) pa_nil)))) (pg_tup rfl (pgs_cons (pg_name (i := 5) nd rfl (Or.inl rfl)) (pgs_cons (pg_name (i := 6) nd rfl (Or.inl rfl)) (pgs_cons (pg_name (i := 7) nd rfl (Or.inl rfl)) pgs_nil)))))
      (pss_cons (ps_set (i := 8) nd rfl (Or.inl rfl) (pe_callD D1 hr (Nat.le_refl _) (pa_cons (pv 0) (pa_cons (pv 3) (pa_cons (pv 4) pa_nil)))))
      (C8.pss_cut (ps_if (pt_cmpR op_lt (pe_mt0 (pe_make M0 G hr (by rfl) TS.mg b1 r1 pass0 (pa_cons (pe_pt (pv 0) T.cl M1 hr (Nat.le_refl _)) (pa_cons (pe_ix ix_tup (pv 8) pe_int (fun _ _ => rfl)) (pa_cons (pe_ix ix_tup (pv 8) pe_int (fun _ _ => rfl)) pa_nil)))) TS.cl MS hr (Nat.le_refl _)) pe_int (nomark _))
      (pss_one (ps_par3 (i := 5) (j := 6) (l := 8) rfl nd rfl rfl rfl (by decide) (by decide) (by decide) rfl rfl rfl (pa_cons (pe_un un_neg (pv 5)) (pa_cons (pe_un un_neg (pv 6)) (pa_cons (pe_tup (pa_cons (pe_un un_neg (pe_ix ix_tup (pv 8) pe_int (fun _ _ => rfl))) (pa_cons (pe_un un_neg (pe_ix ix_tup (pv 8) pe_int (fun _ _ => rfl))) (pa_cons (pv 7) pa_nil)))) pa_nil))) (by kernel_rfl)))
      pss_nil)
      (pss_cons (ps_set (i := 9) nd rfl (Or.inl rfl) (pe_un un_neg (pe_callD D2 hr (Nat.le_refl _) (pa_cons (pe_pt (pv 0) T.cl M1 hr (Nat.le_refl _)) (pa_cons (pe_tup (pa_cons (pe_op op_add (pe_op op_mulW (pv 7) (pv 1)) (pv 5)) (pa_cons (pv 6) pa_nil))) (pa_cons (pv 8) pa_nil))))))
      (pss_one (ps_ret (pe_tup (pa_cons (pv 9) (pa_cons (pe_callD D2 hr (Nat.le_refl _) (pa_cons (pe_pt (pv 0) T.cl M1 hr (Nat.le_refl _)) (pa_cons (pe_tup (pa_cons (pe_op op_sub (pe_op op_mulW (pv 7) (pv 1)) (pv 5)) (pa_cons (pe_un un_neg (pv 6)) pa_nil))) (pa_cons (pv 8) pa_nil)))) pa_nil))))))))), ?_⟩
    have k0 := tlK_or d n
    have i0 := tlI_bd d n
    have bk : Bd 4 (tlK d n) := by unfold Bd; omega
    have bi : Bd 4 (tlI d n) := by unfold Bd; omega
    have gb : ∀ {x y : Int}, Bd 250 x → Bd 250 y → Bd 255 (gI d x y n) := fun hx hy => (bk.mul hx).sub (bi.mul hy)
    have nb : ∀ {y : Int}, Bd 250 y → Bd 251 (-1 * y) := fun hy => (Bd.mul (n := 1) (by unfold Bd; decide) hy)
    have cb : Bd 255 (tlK d n * B) := (bk.mul bB).mono (by decide)
    have e0 := gI_ne (p := n) hd hne
    refine ⟨_, rfl, _, rfl, _, rfl, p, b, d, u, v, n, rfl, hF, hd, hb, bu, bv, fun g1 H1 ng1 hg1 m1 => ⟨g1, _, rfl, SqT.of hg1, rfl, _, _, rfl, _, _, rfl, _, _, rfl, rfl, ?_⟩⟩
    refine ⟨_, rfl, _, rfl, _, rfl, p, st, d, s1, t1, n, rfl, hF.same m1, hd, sameT m1 hs, bs, bt, fun g2 H2 ng2 hg2 m2 => ?_⟩
    have m12 := m1.trans m2
    obtain ⟨dxf, fsf, insF, noF⟩ := (hF.same m12).ins
    have g2' : H2 g2 = some (.tup [.int (gI d s1 t1 n), .int (-1 * t1), .int (tlK d n)]) := hg2
    have bm := gb bs bt
    have bw := nb bt
    have bI := gb bu bv
    have bJ := nb bv
    refine ⟨fun σ' H' => ∃ (I J m w : Int) (g : Addr), σ' = [some (.ref p), some (.int B), some (.ref b), some (.ref st), some (.int (n : Int)), some (.int I), some (.int J), some (.int (tlK d n)), some (.ref g), none] ∧ H' g = some (.tup [.int m, .int w, .int (tlK d n)]) ∧ Same H2 H' ∧ Bd 255 I ∧ Bd 251 J ∧ Bd 255 m ∧ Bd 251 w ∧ sg d m w ≠ 0 ∧
      kr d B u v s1 t1 n = (-dvd_ d (tlK d n * B + I) J m w, dvd_ d (tlK d n * B - I) (-J) m w), ?_, ?_⟩
    · refine ⟨_, rfl, p, dxf, fsf, rfl, insF, p, d, rfl, hF.same m12, ?_⟩
      refine ⟨_, rfl, g2, _, _, _, rfl, rfl, SqT.of g2', rfl, _, rfl, g2, _, _, _, rfl, rfl, SqT.of g2', rfl, fun x dx nx ndx nex => ⟨x, dx, d, gI d s1 t1 n, -1 * t1, 1, rfl, upd_same, hd, by decide, bm.mono (by decide), bw.mono (by decide), by unfold Bd; decide, fun H3 S3 kq3 => ⟨rfl, ?_⟩⟩⟩
      have m3 := Same.made nx ndx kq3
      have sv : SV H3 CS x d (gI d s1 t1 n) (-1 * t1) 1 := ⟨by decide, S3⟩
      obtain ⟨dxx, fsx, inx, nox⟩ := sv.ins
      refine ⟨x, dxx, fsx, rfl, inx, nox _ (by decide) (by decide), x, d, _, _, _, rfl, sv, by decide, hd, bm.mono (by decide), bw.mono (by decide), ?_⟩
      have g3' := m3 _ _ g2'
      refine ⟨_, _, rfl, rfl, _, rfl, ite2 (fun h => ?_) (fun h => ?_)⟩
      · have h : sg d (gI d s1 t1 n) (-1 * t1) < 0 := of_decide_eq_true h
        refine ⟨_, rfl, _, rfl, _, rfl, _, rfl, _, rfl, g2, _, _, _, rfl, rfl, SqT.of g3', rfl, _, rfl, _, rfl, g2, _, _, _, rfl, rfl, SqT.of g3', rfl, _, rfl, _, rfl, by show 3 ≤ sizeLine; decide, fun g4 ng4 => ⟨_, _, _, rfl, ?_⟩⟩
        refine ⟨-gI d u v n, -(-1 * v), -gI d s1 t1 n, -(-1 * t1), g4, rfl, upd_same, m3.trans (sNew (Same.refl _) ng4), bI.neg, bJ.neg, bm.neg, bw.neg, by rw [sg_neg]; omega, ?_⟩
        unfold kr
        rw [if_pos h]
      · have h : ¬ sg d (gI d s1 t1 n) (-1 * t1) < 0 := fun z => h (decide_eq_true z)
        refine ⟨gI d u v n, -1 * v, gI d s1 t1 n, -1 * t1, g2, rfl, g3', m3, bI, bJ, bm, bw, e0, ?_⟩
        unfold kr
        rw [if_neg h]
    · rintro σ' H3 ⟨I, J, m, w', g, rfl, hg, m3, bI, bJ, bm, bw, hne, hkr⟩
      rw [hkr] at q
      have mm := m12.trans m3
      obtain ⟨dxf, fsf, insF, noF⟩ := (hF.same mm).ins
      have c1 : Bd 300 (tlK d n * B + I) := (cb.add bI).mono (by decide)
      have c2 : Bd 300 (tlK d n * B - I) := (cb.sub bI).mono (by decide)
      refine ⟨_, rfl, p, dxf, fsf, rfl, insF, p, d, rfl, hF.same mm, ?_⟩
      refine ⟨_, rfl, _, rfl, _, _, rfl, rfl, mulOk bk bB (by decide) (by decide) (by decide), _, rfl, _, _, rfl, rfl, _, rfl, by show 2 ≤ sizeLine; decide, fun a1 na1 => ?_⟩
      have m4 := sNew (o := .tup [.int (tlK d n * B + I), .int J]) (Same.refl H3) na1
      refine ⟨_, rfl, a1, g, d, _, _, _, _, _, rfl, SqT.of upd_same, SqT.of (m4 _ _ hg), hd, hne, c1, bJ.mono (by decide), bm.mono (by decide), bw.mono (by decide), fun H5 m5 => ⟨_, rfl, ?_⟩⟩
      have m45 := m4.trans m5
      obtain ⟨dxf, fsf, insF, noF⟩ := (hF.same (mm.trans m45)).ins
      refine ⟨_, rfl, _, rfl, p, dxf, fsf, rfl, insF, p, d, rfl, hF.same (mm.trans m45), ?_⟩
      refine ⟨_, rfl, _, rfl, _, _, rfl, rfl, mulOk bk bB (by decide) (by decide) (by decide), _, rfl, _, _, rfl, rfl, _, rfl, _, rfl, by show 2 ≤ sizeLine; decide, fun a2 na2 => ?_⟩
      have m6 := sNew (o := .tup [.int (tlK d n * B - I), .int (-J)]) (Same.refl H5) na2
      refine ⟨_, rfl, a2, g, d, _, _, _, _, _, rfl, SqT.of upd_same, SqT.of (m6 _ _ (m45 _ _ hg)), hd, hne, c2, (bJ.mono (by decide)).neg, bm.mono (by decide), bw.mono (by decide), fun H7 m7 => ⟨by show 2 ≤ sizeLine; decide, fun y ny => ?_⟩⟩
      have all := (mm.trans m45).trans (m6.trans m7)
      exact q y _ (all.free ny) upd_same (sNew all ny)
end
end RF

set_option linter.all false
/-! zip of two sequences, each a list or a tuple -/
namespace RF
open PySem PySem.Spec PyProof.Rows L2
def SqK (K : PySem.W.Frag) : Bool → Hp → Addr → List V → Prop
  | true => SqT K
  | false => SqL K
def IsK : Bool → Heap → Addr → Array Value → Prop
  | true => fun h l us => h.IsTuple l us
  | false => fun h l us => h.IsList l us
def ItK : Bool → Heap → Addr → Addr → Nat → Prop
  | true => fun h j l i => h.IsTupleIter j l i
  | false => fun h j l i => h.IsListIter j l i
def itO : Bool → Addr → Obj
  | true, l => { cls := .type "tuple_iterator", data := .fields #[.ref l, .int 0 0] }
  | false, l => { cls := .type "list_iterator", data := .fields #[.ref l, .int 0 0] }
theorem itK_o {t : Bool} {h : Heap} {j l : Addr} (e : h.get? j = some (itO t l)) : ItK t h j l 0 := by
  cases t <;> exact ⟨_, e, rfl, rfl⟩
theorem itK_obj {t : Bool} {h : Heap} {j l : Addr} {i : Nat} (x : ItK t h j l i) : ∃ o, h.get? j = some o ∧ ∀ v, o.data ≠ .cell v := by
  cases t <;> (obtain ⟨o, e, _, ed⟩ := x; exact ⟨o, e, fun v z => by rw [ed] at z; cases z⟩)
theorem itK_at {t : Bool} {h g : Heap} {j l : Addr} {i : Nat} (x : ItK t h j l i) (k : ∀ o, h.get? j = some o → g.get? j = some o) : ItK t g j l i := by
  cases t
  · exact Heap.IsListIter.at x fun o e => k o e
  · exact Heap.IsTupleIter.at x fun o e => k o e
theorem drawsK {prog : Program} {w : World} {A : Around} (t : Bool) (hh : A.handled = none) (j l : Addr) (ne : l ≠ j) (us : Array Value) : Draws prog w A j [j, l] us.size (fun i v => us[i]? = some v) (fun i h => ItK t h j l i ∧ IsK t h l us) := by
  cases t
  · exact Draws.list hh j l ne us
  · exact Draws.tuple hh j l ne us
theorem begK (t : Bool) (l : Addr) (us : Array Value) : Begins (.ref l) (itO t l) (fun h => IsK t h l us) := by
  cases t
  · exact begins_list l us
  · exact begins_tuple l us
theorem invK {X : Cx} {pins : List (Addr × Obj)} {σ : L2.St} {H : Hp} {s : Shared} {t : Bool} {l : Addr} {xs : List V} (I : Inv X pins σ H s) (h : SqK X.K t H l xs) : ∃ us : List Value, Vals xs us ∧ IsK t s.heap l us.toArray ∧ l < s.heap.objs.size := by
  cases t
  · obtain ⟨us, r, p, _⟩ := I.list h
    exact ⟨us, r, p.isList, p.lt⟩
  · obtain ⟨us, r, p, _⟩ := I.tuple h
    obtain ⟨o, e, _⟩ := id p
    exact ⟨us, r, p, Heap.lt_size e⟩
theorem injK {X : Cx} {pins : List (Addr × Obj)} {σ : L2.St} {H : Hp} {s : Shared} {t : Bool} {l : Addr} {xs ys : List V} (I : Inv X pins σ H s) (h : SqK X.K t H l xs) (g : SqK X.K t H l ys) : xs = ys := by
  cases t
  · exact I.list_inj h g
  · exact I.tuple_inj h g
/-- the two sequences as they stand at each turn -/
def Itm (K : PySem.W.Frag) (t u : Bool) (a b : Addr) : It :=
  ⟨fun i H => ∃ (xs ys : List V) (x y : V), SqK K t H a xs ∧ SqK K u H b ys ∧ xs[i]? = some x ∧ ys[i]? = some y,
    fun i H v H' => ∃ q x y, v = .ref q ∧ H q = none ∧ H' = upd H q (.tup [x, y]) ∧ (∀ xs, SqK K t H a xs → xs[i]? = some x) ∧ ∀ ys, SqK K u H b ys → ys[i]? = some y,
    fun i H => ∃ xs ys : List V, SqK K t H a xs ∧ SqK K u H b ys ∧ i ≤ xs.length ∧ i ≤ ys.length ∧ (i = xs.length ∨ i = ys.length)⟩
theorem five {c z q r j k : Addr} (h : c ∈ [z, q, r, j, k]) : c = z ∨ c = q ∨ c = r ∨ c = j ∨ c = k := by simpa using h
theorem turn_m {P : Program} {w : World} {K : PySem.W.Frag} {elts : List Expr} {kk : Nat} {tpos : Pos} {t u : Bool} {a b z q r j k : Addr} (S : ZipSep2 z q r j k [j, a] [k, b]) (na : a ≠ j) (nb : b ≠ k) :
    Turn P w K (.Tuple elts kk tpos) (Itm K t u a b) [z, q, r, j, k] z (fun i h => IsZip h z q r .none ∧ IsTupOf2 h q (.ref j) (.ref k) ∧ (∃ x y, IsTupOf2 h r x y) ∧ ItK t h j a i ∧ ItK u h k b i) where
  mem := by simp
  obj := fun i h st c hc => by
    obtain ⟨g1, g2, ⟨_, _, g3⟩, g4, g5⟩ := st
    rcases five hc with rfl | rfl | rfl | rfl | rfl
    · refine ⟨_, g1, fun _ z => nomatch z⟩
    · refine ⟨_, g2, fun _ z => nomatch z⟩
    · refine ⟨_, g3, fun _ z => nomatch z⟩
    · exact itK_obj g4
    · exact itK_obj g5
  keep := fun i h g st ke => by
    obtain ⟨g1, g2, ⟨x, y, g3⟩, g4, g5⟩ := st
    refine ⟨ke z ?_ _ g1, ke q ?_ _ g2, ⟨x, y, ke r ?_ _ g3⟩, itK_at g4 fun o e => ke j ?_ o e, itK_at g5 fun o e => ke k ?_ o e⟩ <;> simp
  item := by
    intro X hP hw hK hc i pins s σ H E I hf st hg
    subst hP hw hK
    obtain ⟨g1, g2, ⟨x0, y0, g3⟩, g4, g5⟩ := st
    obtain ⟨xs, ys, x, y, sa, sb, hx, hy⟩ := hg
    obtain ⟨us, ru, pa, _⟩ := invK I sa
    obtain ⟨vs, rv, pb, _⟩ := invK I sb
    obtain ⟨m, hm, rm⟩ := ru.get hx
    obtain ⟨n, hn, rn⟩ := rv.get hy
    have mi : i < us.toArray.size := by
      have := (List.getElem?_eq_some_iff.mp hm).1
      simpa using this
    have ni : i < vs.toArray.size := by
      have := (List.getElem?_eq_some_iff.mp hn).1
      simpa using this
    have em0 : us.toArray[i]? = some m := by simpa using hm
    have en0 : vs.toArray[i]? = some n := by simpa using hn
    have zl : z < s.heap.objs.size := Heap.lt_size g1
    have hd : X.A.in1.handled = none := I.ok.hd hc
    refine wpAny_pyNext_zipD2_item S (drawsK (A := X.A.in1) t hd j a na us.toArray) (drawsK (A := X.A.in1) u hd k b nb vs.toArray) g1 g2 g3 ⟨g4, pa⟩ ⟨g5, pb⟩ mi ni fun m' n' g tk em en w1 w2 c1 c2 w3 sz kp => ?_
    obtain rfl : m = m' := Option.some.inj (em0.symm.trans em)
    obtain rfl : n = n' := Option.some.inj (en0.symm.trans en)
    refine ⟨_, rfl, wpAny_letOwnedTupleGo_zip (s := { s with heap := g, toks := tk }) w1 fun g' w4 sb2 => ?_⟩
    have nT : g'.get? s.heap.objs.size = some { cls := .type "tuple", data := .seq #[m, n] } := by rw [sb2.2 _ (Nat.ne_of_gt zl)]; exact w3
    have nO : ObjOk X.prog X.w (upd H s.heap.objs.size (.tup [x, y])) g' s.heap.objs.size (.tup [x, y]) := ⟨by show 2 ≤ sizeLine; decide, [m, n], .cons rm (.cons rn .nil), _, nT, rfl, _, rfl⟩
    have kp2 : ∀ e o, e ∉ [z, q, r, j, k] → s.heap.get? e = some o → g'.get? e = some o := fun e o hb x => by
      have n1 : e ≠ z := fun y => hb (by simp [y])
      have n2 : e ≠ r := fun y => hb (by simp [y])
      have n3 : e ≠ j := fun y => hb (by simp [y])
      have n4 : e ≠ k := fun y => hb (by simp [y])
      rw [sb2.2 e n1]
      exact kp e o n1 n2 n3 n4 x
    have I1 : Inv X pins σ (upd H s.heap.objs.size (.tup [x, y])) { s with heap := g', toks := tk } := I.turnedNew (t' := tk) (ch := [z, q, r, j, k]) kp2 hf (Nat.le_refl _) nO
    refine ⟨.ref s.heap.objs.size, _, I1, rfl, ⟨_, x, y, rfl, I.hok.fresh (Nat.le_refl _), rfl, fun l hl => by rw [injK I hl sa]; exact hx, fun l hl => by rw [injK I hl sb]; exact hy⟩, ⟨w4, ?_, ⟨m, n, ?_⟩, ?_, ?_⟩, fun e he => ?_⟩
    · show g'.get? q = _
      rw [sb2.2 q S.TIz]
      exact kp q _ S.TIz S.TITO S.TIi1 S.TIi2 g2
    · show g'.get? r = _
      rw [sb2.2 r S.TOz]
      exact w2
    · exact itK_at c1.1 fun o eo => by rw [sb2.2 j (fun y => S.zf1 (by simp [y]))]; exact eo
    · exact itK_at c2.1 fun o eo => by rw [sb2.2 k (fun y => S.zf2 (by simp [y]))]; exact eo
    · have lt : e < s.heap.objs.size := by
        rcases five he with rfl | rfl | rfl | rfl | rfl
        · exact zl
        · exact Heap.lt_size g2
        · exact Heap.lt_size g3
        · obtain ⟨_, eo, _⟩ := itK_obj g4; exact Heap.lt_size eo
        · obtain ⟨_, eo, _⟩ := itK_obj g5; exact Heap.lt_size eo
      rw [upd_ne (Nat.ne_of_lt lt)]
      exact (hf e he).1
  done := by
    intro X hP hw hK hc i pins s σ H E I hf st hg
    subst hP hw hK
    obtain ⟨g1, g2, ⟨x0, y0, g3⟩, g4, g5⟩ := st
    obtain ⟨xs, ys, sa, sb, lx, ly, le⟩ := hg
    obtain ⟨us, ru, pa, _⟩ := invK I sa
    obtain ⟨vs, rv, pb, _⟩ := invK I sb
    have e1 : us.toArray.size = xs.length := by rw [List.size_toArray, ru.length]
    have e2 : vs.toArray.size = ys.length := by rw [List.size_toArray, rv.length]
    have hd : X.A.in1.handled = none := I.ok.hd hc
    refine wpAny_pyNext_zipD2_end S (drawsK (A := X.A.in1) t hd j a na us.toArray) (drawsK (A := X.A.in1) u hd k b nb vs.toArray) g1 g2 g3 ⟨g4, pa⟩ ⟨g5, pb⟩ (by rw [e1]; exact lx) (by rw [e2]; exact ly) (by rw [e1, e2]; exact le) fun g tk kp => ⟨rfl, ?_⟩
    refine I.turnedL (t' := tk) (ch := [z, q, r, j, k]) (fun e o hb x => ?_) hf
    exact kp e o (fun y => hb (by simp [y])) (fun y => hb (by simp [y])) (fun y => hb (by simp [y])) (fun y => hb (by simp [y])) x
  self := fun A i s R E st h => wpAny_pyIter_zip st.1 h
def iZipM (K : PySem.W.Frag) (ta : TA) : TI := fun σ H R => ta σ H fun vs H1 => ∃ t u a b xs ys, vs = [.ref a, .ref b] ∧ SqK K t H1 a xs ∧ SqK K u H1 b ys ∧ R (Itm K t u a b) H1
theorem pi_zipM {X : Cx} {e e2 : Expr} {ta : TA} {p pos tpos : Pos} {elts : List Expr} {kk : Nat} (hg : Gl X "zip") (hm : X.mg "zip" = none) (ha : PA X [e, e2] ta)
    (hs : starEach [e, e2] X.env = (false, eval e X.env) :: starEach [e2] X.env := by rfl) (hpl : (backTo pos (starEach [e2] X.env)).any (·.1) = false := by rfl) : PI X (.Tuple elts kk tpos) (.Call (.Name "zip" p) [e, e2] [] pos) (iZipM X.K ta) := by
  refine ⟨fun pins s σ H R I h => Call_ (ld_blt I hg hm PyProof.Rows.boot_zip (PyProof.Rows.callWith_type1 (thn (ha.run pos pins s σ H _ I h) fun us s1 ⟨vs, H1, I1, r1, q1⟩ => ?_) hs hpl))⟩
  obtain ⟨t, u, a, b, xs, ys, rfl, sa, sb, q⟩ := q1
  cases r1 with
  | cons ra rr =>
    cases rr with
    | cons rb rr =>
      cases rr; cases ra; cases rb
      obtain ⟨ms, _, pa, la⟩ := invK I1 sa
      obtain ⟨ns, _, pb, lb⟩ := invK I1 sb
      refine zip_begins2 (begK t a ms.toArray) (begK u b ns.toArray) pa pb fun g w1 w2 w3 c1 c2 sz kp => wpAny_pyIter_zip w1 ?_
      have I2 : Inv X pins σ H1 { s1 with heap := g } := I1.kept (t' := s1.toks) kp
      refine ⟨_, [s1.heap.objs.size + 4, s1.heap.objs.size + 2, s1.heap.objs.size + 3, s1.heap.objs.size, s1.heap.objs.size + 1], _, _, H1, rfl, I2, turn_m (t := t) (u := u) (zip_sep2 (fp1 := [a]) (fp2 := [b]) (by simpa using la) (by simpa using lb)) (Nat.ne_of_lt la) (Nat.ne_of_lt (Nat.lt_succ_of_lt lb)), ⟨w1, w2, ⟨_, _, w3⟩, itK_o c1, itK_o c2⟩, fun e he => ?_, q⟩
      have le : s1.heap.objs.size ≤ e := by
        rcases five he with rfl | rfl | rfl | rfl | rfl <;> omega
      exact I1.fpOk le (I1.hok.fresh le)
theorem walk_m {K : PySem.W.Frag} {t u : Bool} {a b : Addr} {xs ys : List V} {n : Nat} (h1 : xs.length = n) (h2 : ys.length = n) : Walk (Itm K t u a b) n (fun H => SqK K t H a xs ∧ SqK K u H b ys) (YPair (fun i => xs[i]?) (fun i => ys[i]?)) := by
  refine ⟨fun i H hi q => ⟨xs, ys, _, _, q.1, q.2, List.getElem?_eq_getElem (by omega), List.getElem?_eq_getElem (by omega)⟩, fun H q => ⟨xs, ys, q.1, q.2, by omega, by omega, .inl h1.symm⟩, fun i H v H' hi q y => ?_⟩
  obtain ⟨c, x, z, e1, e2, e3, f1, f2⟩ := y
  exact ⟨c, x, z, e1, e2, e3, f1 xs q.1, f2 ys q.2⟩
theorem SqK.same {K : PySem.W.Frag} {t : Bool} {H H' : Hp} {a : Addr} {xs : List V} (h : SqK K t H a xs) (e : ∀ b o, H b = some o → H' b = some o) : SqK K t H' a xs := by
  cases t
  · exact h.elim (fun z => .inl (z.elim (fun z => .inl (e _ _ z)) fun ⟨o, z⟩ => .inr ⟨o, e _ _ z⟩)) .inr
  · exact h.elim (fun z => .inl (z.elim (fun z => .inl (e _ _ z)) fun ⟨o, z⟩ => .inr ⟨o, e _ _ z⟩)) .inr
end RF

set_option linter.all false
/-! enumerate of a list or a tuple -/
namespace RF
open PySem PySem.Spec PyProof.Rows L2
def enO (h : Heap) : Obj := { cls := .type "enumerate", data := .fields #[.none, .bool false, .ref h.objs.size, rawInt 0, .none, .none] }
theorem new_enum {v : Value} {o : Obj} {H : Heap → Prop} (B : Begins v o H) :
    Meets (Builtin.«enumerate.__new__» ⟨[.type "enumerate", v], []⟩) (fun _ R s => H s.heap ∧ R (.ok (.ret (.ref (s.heap.push o).objs.size))) { s with heap := (s.heap.push o).push (enO s.heap) }) :=
  .of_wp fun prog w A R s h => by
    obtain ⟨hp, g, d, tk, os⟩ := s
    obtain ⟨h1, h⟩ := h
    have hsub := sub_enumerate
    have q1 : ∀ {A' : Around} {E : Value → Shared → Prop} {Q : Value → Shared → Prop}, Q (.ref hp.objs.size) ⟨hp.push o, g, d, tk, os⟩ → wpAny (model prog w) A' (pyIter v) Q E ⟨hp, g, d, tk, os⟩ :=
      fun q => B.iter prog w _ _ ⟨hp, g, d, tk, os⟩ _ h1 q
    wp_walk using q1
    refine wpAny_stack_any fun st => wpAny_pure ?_
    split
    · rename_i c _ _ _ _ _
      cases (c == Value.type "enumerate") <;> (wp_walk using q1; exact ⟨_, rfl, h⟩)
    · wp_walk using q1
      exact ⟨_, rfl, h⟩
theorem call_enum {prog : Program} {w : World} {A : Around} {E : Value → Shared → Prop} {s : Shared} {v : Value} {o : Obj} {H : Heap → Prop} {Q : Value → Shared → Prop} (B : Begins v o H) (h1 : H s.heap)
    (h : ∀ h', IsEnum h' (s.heap.objs.size + 1) s.heap.objs.size 0 .none → h'.get? s.heap.objs.size = some o → (∀ b o, s.heap.get? b = some o → h'.get? b = some o) → Q (.ref (s.heap.objs.size + 1)) { s with heap := h' }) :
    wpAny (model prog w) A (call (.type "enumerate") [v]) Q E s := by
  refine callType_new F.called_enumerate (by decide) (F.typeCall_enumerate_1 _) (F.newCall_enumerate_1 _) (fun obj => F.args_object_init_2 obj _) F.entry_enumerate_new (new_enum B) ⟨h1, ?_⟩
  have hz : (s.heap.push o).objs.size = s.heap.objs.size + 1 := Heap.size_push ..
  show _ ∧ _
  rw [hz]
  have he : IsEnum ((s.heap.push o).push (enO s.heap)) (s.heap.objs.size + 1) s.heap.objs.size 0 .none := by
    have := Heap.get?_push_size (s.heap.push o) (o := enO s.heap) rfl
    rw [hz] at this
    exact this
  exact ⟨⟨_, he, rfl⟩, h _ he (Heap.get?_push_of_some _ (Heap.get?_push_size _ B.free)) fun b o x => Heap.get?_push_of_some _ (Heap.get?_push_of_some _ x)⟩
/-- the sequence at a as it stands at each turn, each item in a new pair -/
def IteM (K : PySem.W.Frag) (t : Bool) (a : Addr) : It :=
  ⟨fun i H => ∃ (xs : List V) (x : V), SqK K t H a xs ∧ xs[i]? = some x, fun i H v H' => ∃ q x, v = .ref q ∧ H q = none ∧ H' = upd H q (.tup [.int (i : Nat), x]) ∧ ∀ xs, SqK K t H a xs → xs[i]? = some x, fun i H => ∃ xs : List V, SqK K t H a xs ∧ xs.length = i⟩
theorem turn_em {P : Program} {w : World} {K : PySem.W.Frag} {elts : List Expr} {kk : Nat} {tpos : Pos} {t : Bool} {a e j : Addr} (na : a ≠ j) (ne : e ≠ j) (nea : e ≠ a) :
    Turn P w K (.Tuple elts kk tpos) (IteM K t a) [e, j] e (fun i h => (∃ old, IsEnum h e j ((i : Nat) : Int) old) ∧ ItK t h j a i) where
  mem := by simp
  obj := fun i h st c hc => by
    obtain ⟨⟨old, g1⟩, g2⟩ := st
    have e' : c = e ∨ c = j := by simpa using hc
    rcases e' with rfl | rfl
    · exact ⟨_, g1, fun v z => nomatch z⟩
    · exact itK_obj g2
  keep := fun i h g st ke => by
    obtain ⟨⟨old, g1⟩, g2⟩ := st
    exact ⟨⟨old, ke e (by simp) _ g1⟩, itK_at g2 fun o eo => ke j (by simp) o eo⟩
  item := by
    intro X hP hw hK hc i pins s σ H E I hf st hg
    subst hP hw hK
    obtain ⟨⟨old, g1⟩, g2⟩ := st
    obtain ⟨xs, x, sa, hx⟩ := hg
    obtain ⟨us, ru, pa, _⟩ := invK I sa
    obtain ⟨m, hm, rm⟩ := ru.get hx
    have mi : i < us.toArray.size := by
      have := (List.getElem?_eq_some_iff.mp hm).1
      simpa using this
    have em0 : us.toArray[i]? = some m := by simpa using hm
    have el : e < s.heap.objs.size := Heap.lt_size g1
    have hd : X.A.in1.handled = none := I.ok.hd hc
    refine wpAny_pyNext_enum_itemD (drawsK (A := X.A.in1) t hd j a na us.toArray) g1 ⟨g2, pa⟩ mi ne (by simp [ne, nea]) fun m' g tk em w1 c1 w3 sz kp => ?_
    obtain rfl : m = m' := Option.some.inj (em0.symm.trans em)
    refine ⟨_, rfl, wpAny_letOwnedTupleGo_enum (s := { s with heap := g, toks := tk + 1 }) w1 fun g' he' sb => ?_⟩
    have nT : g'.get? s.heap.objs.size = some { cls := .type "tuple", data := .seq #[.int i tk, m] } := (sb.2 _ (Nat.ne_of_gt el)).trans w3
    have nO : ObjOk X.prog X.w (upd H s.heap.objs.size (.tup [.int (i : Nat), x])) g' s.heap.objs.size (.tup [.int (i : Nat), x]) := ⟨by show 2 ≤ sizeLine; decide, [.int i tk, m], .cons ⟨_, rfl⟩ (.cons rm .nil), _, nT, rfl, _, rfl⟩
    have I1 : Inv X pins σ (upd H s.heap.objs.size (.tup [.int (i : Nat), x])) { s with heap := g', toks := tk + 1 } :=
      I.turnedNew (t' := tk + 1) (ch := [e, j]) (fun c o hb y => (sb.2 c fun z => hb (by simp [z])).trans (kp c o (fun z => hb (by simp [z])) (fun z => hb (by simp [z])) y)) hf (Nat.le_refl _) nO
    refine ⟨.ref s.heap.objs.size, _, I1, rfl, ⟨_, x, rfl, I.hok.fresh (Nat.le_refl _), rfl, fun l hl => by rw [injK I hl sa]; exact hx⟩, ⟨⟨m, ?_⟩, itK_at c1.1 fun o eo => (sb.2 j (Ne.symm ne)).trans eo⟩, fun c hb => ?_⟩
    · have e1 : ((i + 1 : Nat) : Int) = (i : Int) + 1 := by omega
      rw [e1]; exact he'
    · have lt : c < s.heap.objs.size := by
        have e' : c = e ∨ c = j := by simpa using hb
        rcases e' with rfl | rfl
        · exact el
        · obtain ⟨_, eo, _⟩ := itK_obj g2; exact Heap.lt_size eo
      rw [upd_ne (Nat.ne_of_lt lt)]
      exact (hf c hb).1
  done := by
    intro X hP hw hK hc i pins s σ H E I hf st hg
    subst hP hw hK
    obtain ⟨⟨old, g1⟩, g2⟩ := st
    obtain ⟨xs, sa, lx⟩ := hg
    obtain ⟨us, ru, pa, _⟩ := invK I sa
    have e1 : us.toArray.size = i := by rw [List.size_toArray, ← ru.length, lx]
    have hd : X.A.in1.handled = none := I.ok.hd hc
    obtain ⟨f0, f1, f2, f3, f4, f5⟩ := hf j (by simp)
    exact wpAny_pyNext_enum_endD (drawsK (A := X.A.in1) t hd j a na us.toArray) g1 (by rw [e1]; exact ⟨g2, pa⟩) fun h' eb => ⟨rfl, I.turned (t' := s.toks) (fun c o hb q => eb c o hb q) f0 f1 f3 f4 f5⟩
  self := fun A i s R E st h => let ⟨⟨_, he⟩, _⟩ := st; wpAny_pyIter_enum he h
def iEnumM (K : PySem.W.Frag) (ta : TA) : TI := fun σ H R => ta σ H fun vs H1 => ∃ t a xs, vs = [.ref a] ∧ SqK K t H1 a xs ∧ R (IteM K t a) H1
theorem pi_enumM {X : Cx} {e : Expr} {ta : TA} {p pos tpos : Pos} {elts : List Expr} {kk : Nat} (hg : Gl X "enumerate") (hm : X.mg "enumerate" = none) (ha : PA X [e] ta) (hs : starEach [e] X.env = [(false, eval e X.env)] := by rfl) :
    PI X (.Tuple elts kk tpos) (.Call (.Name "enumerate" p) [e] [] pos) (iEnumM X.K ta) := by
  refine ⟨fun pins s σ H R I h => Call_ (ld_blt I hg hm boot_enumerate (PyProof.Rows.callWith_type1 (thn (ha.run pos pins s σ H _ I h) fun us s1 ⟨vs, H1, I1, r1, q1⟩ => ?_) hs rfl))⟩
  obtain ⟨t, a, xs, rfl, sa, q⟩ := q1
  cases r1 with
  | cons ra rr =>
    cases rr; cases ra
    obtain ⟨ms, _, pa, la⟩ := invK I1 sa
    refine call_enum (begK t a ms.toArray) pa fun g he c1 kp => wpAny_pyIter_enum he ?_
    have I2 : Inv X pins σ H1 { s1 with heap := g } := I1.kept (t' := s1.toks) kp
    refine ⟨s1.heap.objs.size + 1, [s1.heap.objs.size + 1, s1.heap.objs.size], _, _, H1, rfl, I2, turn_em (t := t) (a := a) (Nat.ne_of_lt la) (Nat.succ_ne_self _) (Nat.ne_of_gt (Nat.lt_succ_of_lt la)), ⟨⟨.none, he⟩, itK_o c1⟩, fun c hc => ?_, q⟩
    have le : s1.heap.objs.size ≤ c := by
      have e' : c = s1.heap.objs.size + 1 ∨ c = s1.heap.objs.size := by simpa using hc
      rcases e' with rfl | rfl <;> omega
    exact I1.fpOk le (I1.hok.fresh le)
theorem walk_em {K : PySem.W.Frag} {t : Bool} {a : Addr} {xs : List V} : Walk (IteM K t a) xs.length (fun H => SqK K t H a xs) (YPair (fun i => some (.int (i : Nat))) (fun i => xs[i]?)) := by
  refine ⟨fun i H hi q => ⟨xs, _, q, List.getElem?_eq_getElem hi⟩, fun H q => ⟨xs, q, rfl⟩, fun i H v H' hi q y => ?_⟩
  obtain ⟨c, x, e1, e2, e3, f1⟩ := y
  exact ⟨c, .int (i : Nat), x, e1, e2, e3, rfl, f1 xs q⟩
end RF

namespace RF
open PySem L2 PyProof.Rows
/-! ### methods that may raise; calls by name -/
def tMethKw (C : Addr) (m : Str) (sp : Sp) (gV : List V → List V → List V) (E : XK) (ta : TE) (tk : TA) : TE := fun σ H Q => ta σ H fun x H1 => ∃ a dx fs, x = .ref a ∧ H1 a = some (.ins C dx fs) ∧ fs.lookup m = none ∧ tk σ H1 fun zs H2 => sp (gV [x] zs) H2 Q E
theorem pe_methKw {X : Cx} {CX : CXT} {k : Nat} {f C : Addr} {fd : FuncData} {ps ks : List Str} {sp : Sp} {E : XK} {m : Str} {apos pos : Pos} {o : Expr} {kws : List Keyword} {ta : TE} {tk : TA} {pl : Sem Bool} {g : List Value → List Value → List Value} {gV : List V → List V → List V} (he : PE X o ta) (c : Cls X.K C) (hm : Meth X.K C m f) (F : FnOk X.prog X.w X.K X.mg X.base CX k f fd ps sp) (hr : Room k X.A)
    (hb : KBn X.K fd ps 1 ks g gV) (hx : Passes CX X E) (hkw : PK X kws tk) (hlen : ∀ (x : V) (zs : List V), (gV [x] zs).length = ps.length → zs.length = ks.length) (hall : (backToKw pos (keywordEach kws X.env)).all (·.1.isSome) = true := by rfl) (hks : (backToKw pos (keywordEach kws X.env)).filterMap (·.1) = ks := by rfl)
    (hpl : ((backTo pos (starEach [] X.env)).any (·.1) || (backToKw pos (keywordEach kws X.env)).any (·.1.isNone)) = false := by rfl)
    (ht : eval (.Call (.Attribute o m apos) [] kws pos) X.env = (do
      let ov ← eval o X.env
      standAt apos.atName
      let (f, first) ← holding [ov] (getMethod ov m pl)
      callWith pos f first (backTo pos (starEach [] X.env)) (backToKw pos (keywordEach kws X.env))) := by rfl) : PE X (.Call (.Attribute o m apos) [] kws pos) (tMethKw C m sp gV E ta tk) := by
  refine ⟨fun pins s σ H Q I h => PySem.W.methodCall_KW (pl := pl) (thn (he.run pins s σ H _ I h) fun u s1 ⟨x, H1, I1, rx, a, dx, fs, ex, ea, l, q⟩ => ?_) ht⟩
  subst ex
  obtain rfl : u = Value.ref a := rx
  refine getmeth_ok I1 ea c hm l (PySem.W.callWith_KW0 (h₀ := X.base) (first := [.ref a]) I1.ok.mod.kin hm.kp hall (thn (hkw.run pos pins s1 σ H1 _ I1 q) fun ws s2 ⟨zs, H2, I2, rz, q2⟩ => ⟨I2.kIn, ?_⟩) hpl)
  rw [hks]
  have r2 := hb.rel (vs := [V.ref a]) (us := [Value.ref a]) (.cons rfl .nil) rz
  have lz : ws.length = ks.length := by rw [← rz.length]; exact hlen (.ref a) zs (F.len _ _ _ _ q2)
  refine wpAny_call (codeAny_mono (F.run X.A X.stack s2 H2 ⟨[.ref a] ++ [], ks.zip ws⟩ (g [.ref a] ws) (gV [.ref a] zs) Q E hr I2.env0 (hb.to s2 [.ref a] ws I2.kIn rfl lz) r2 q2) fun rr s3 hq => ?_)
  cases rr with
  | error z => exact hx pins σ H2 s2 z s3 I2 hq
  | ok fl =>
    cases fl with
    | ret u => exact I2.after hq
    | next => exact False.elim hq
    | brk => exact False.elim hq
    | cont => exact False.elim hq
structure MtX (P : Program) (w : World) (K : PySem.W.Frag) (mg : Str → Option Value) (base : Heap) (C : Addr) (k : Nat) (m : Str) (ps : List Str) (sp : Sp) : Prop where
  ex : ∃ (f : Addr) (fd : FuncData), FnOk P w K mg base (L2.CX P w) k f fd ps sp ∧ Meth K C m f ∧ Binds K fd ps [] ∧ KBn K fd ps 1 (ps.drop 1).reverse (fun us ws => us ++ ws.reverse) (fun vs zs => vs ++ zs.reverse)
/-- what never raises, in such a class of methods -/
def EN : XK := fun _ _ _ => False
theorem passN {X : Cx} : Passes (L2.CX X.prog X.w) X EN := fun pins σ H s e s' I c => L2.passes_call (W := fun _ _ _ _ => False) LamX.takes0 (fun _ _ _ _ z => z) pins σ H s e s' I c
theorem pe_mtX {X : Cx} {j k : Nat} {C : Addr} {m : Str} {ps : List Str} {sp : Sp} {o e : Expr} {es : List Expr} {pos apos : Pos} {ta : TE} {t : TA} {E : XK} {pl : Sem Bool} (he : PE X o ta) (c : Cls X.K C) (M : MtX X.prog X.w X.K X.mg X.base C k m ps sp) (hr : Room j X.A) (hk : k ≤ j) (hx : Passes (L2.CX X.prog X.w) X E) (ha : PA X (e :: es) t)
    (h1 : starEach (e :: es) X.env = (false, eval e X.env) :: starEach es X.env := by rfl) (h2 : (backTo pos (starEach es X.env)).any (·.1) = false := by rfl)
    (ht : eval (.Call (.Attribute o m apos) (e :: es) [] pos) X.env = (do
      let ov ← eval o X.env
      standAt apos.atName
      let (f, first) ← holding [ov] (getMethod ov m pl)
      callWith pos f first (backTo pos (starEach (e :: es) X.env)) (backToKw pos (keywordEach [] X.env))) := by rfl) : PE X (.Call (.Attribute o m apos) (e :: es) [] pos) (tMeth C m sp [] E ta t) := by
  obtain ⟨f, fd, G, hm, b, _⟩ := M.ex
  exact pe_meth he c hm G (hr.mono hk) b .nil hx ha h1 h2 ht
/-- by name, in the other order -/
theorem pe_mtXr {X : Cx} {j k : Nat} {C : Addr} {m : Str} {ps : List Str} {sp : Sp} {o : Expr} {kws : List Keyword} {pos apos : Pos} {ta : TE} {tk : TA} {E : XK} {pl : Sem Bool} (he : PE X o ta) (c : Cls X.K C) (M : MtX X.prog X.w X.K X.mg X.base C k m ps sp) (hr : Room j X.A) (hk : k ≤ j) (hx : Passes (L2.CX X.prog X.w) X E) (hkw : PK X kws tk) (hps : ps ≠ [])
    (hall : (backToKw pos (keywordEach kws X.env)).all (·.1.isSome) = true := by rfl) (hks : (backToKw pos (keywordEach kws X.env)).filterMap (·.1) = (ps.drop 1).reverse := by rfl)
    (hpl : ((backTo pos (starEach [] X.env)).any (·.1) || (backToKw pos (keywordEach kws X.env)).any (·.1.isNone)) = false := by rfl)
    (ht : eval (.Call (.Attribute o m apos) [] kws pos) X.env = (do
      let ov ← eval o X.env
      standAt apos.atName
      let (f, first) ← holding [ov] (getMethod ov m pl)
      callWith pos f first (backTo pos (starEach [] X.env)) (backToKw pos (keywordEach kws X.env))) := by rfl) : PE X (.Call (.Attribute o m apos) [] kws pos) (tMethKw C m sp (fun vs zs => vs ++ zs.reverse) E ta tk) := by
  obtain ⟨f, fd, G, hm, _, b⟩ := M.ex
  refine pe_methKw he c hm G (hr.mono hk) b hx hkw (fun x zs h => ?_) hall hks hpl ht
  simp only [List.length_append, List.length_reverse, List.length_drop, List.length_cons, List.length_nil] at h ⊢
  omega
end RF

namespace RF
open PySem L2 PyProof.Rows
theorem vals_rev : ∀ {vs : List V} {us : List Value}, Vals vs us → Vals vs.reverse us.reverse
  | _, _, .nil => .nil
  | _, _, .cons h r => by
    rw [List.reverse_cons, List.reverse_cons]
    exact (vals_rev r).append (.cons h .nil)
end RF

namespace EX
open PySem PySem.Calls PyProof.Rows PySem.HandSPX
open PySem.W (Frag findIn typeIn keepIn subIn hasDictIn nsIn mroIn clsIn codeIn fnX envX Looks KxsFacts kxs_mw ksEnv ksFn looks_mroIn looks_findIn looks_clsIn)
/-! ### the text of an own error's __init__ -/
/-- what the written part says of a class of errors over ValueError: at C; its __init__ at fI, with the class's cell cc -/
structure Own (P : Program) (K : Frag) (mg : Str → Option Value) (nm : Str) (C fI : Addr) : Prop where
  gC : mg nm = some (.ref C)
  cls : ∃ nm' q N bs bm sn sub ab col dd k0 k1 k2 k3 k5, K.lookup C = some (excClassObj nm' q C N bs bm true sn sub ab col dd k0 k1 k2 k3 k5 "ValueError.__new__") ∧ refsVE bm = true ∧ PySem.W.alongIn K "__init__" bm = some (some (.builtin "ValueError.__init__"))
  sa : findIn K (.ref C) "__setattr__" = some (some (.builtin "object.__setattr__"))
  ga : findIn K (.ref C) "__getattribute__" = some (some (.builtin "BaseException.__getattribute__"))
  gg : findIn K (.ref C) "__getattr__" = some none
  noT : findIn K (.ref C) "tag" = some none
  iC : findIn K (.ref C) "__init__" = some (some (.ref fI))
  tC : typeIn K (.ref fI) = some (.type "function")
  kC : keepIn K (.ref C) = true
  exC : subIn K (.ref C) (.type "BaseException") = some true
  tyC : typeIn K (.ref C) = some (.type "type")
  hdC : hasDictIn K C = true
  self : mroIn K C (.ref C) = some true
  noS : mg "super" = none
  opq : nsIn K cStatics "thirdparty.any" = some none
  top : (P.main.scope.names.lookup ("super" : Str)).isSome = false
section
variable {prog : Program} {w : World} {A : Around} {E : Value → Shared → Prop} {h : Heap} {g : Array GenState} {d : Drawn} {t : Nat} {os : OsState} {K : Frag}
variable {nm q : Str} {C N : Addr} {bs bm : List Value} {hdct : Bool} {sn : List Str} {sub : List Value} {ab : Bool} {col : Option Bool} {dd : Option Addr} {k0 k1 k2 k3 k5 : Option Value}
/-- the bound __init__ of ValueError is called -/
theorem call_mw {u e t0 : Addr} {rest : List Value} {Q : Value → Shared → Prop} (hC : h.get? C = some (excClassObj nm q C N bs bm hdct sn sub ab col dd k0 k1 k2 k3 k5 "ValueError.__new__")) (he : h.get? e = some (excO C t0)) (hu : h.get? u = some (kxs_mw "ValueError.__init__" e)) (hrest : rest.length ≤ sizeLine)
    (hq : ∀ h' t1, (∀ b o, b ≠ e → h.get? b = some o → h'.get? b = some o) → h'.get? e = some (excO C t1) → Q .none ⟨h', g, d, t, os⟩) : wpAny (model prog w) A (call (.ref u) rest) Q E ⟨h, g, d, t, os⟩ := by
  refine wpAny_call (codeAny_of_tree ?_)
  show wpAny _ A.in1 (callAny (.ref u) ⟨rest, []⟩) _ _ _
  unfold callAny
  refine wpAny_bind (wpAny_load hu ?_)
  simp only []
  refine PySem.W.KFB.if_so (by decide) ?_
  refine wpAny_bind (PySem.W.check_bound_init F.excBase_ValueError.toExcCallFacts hC he rfl ?_)
  refine wpAny_bind (wpAny_pure (wpAny_pure ?_))
  refine ⟨Code.quiet_builtin _ (by decide +kernel), codeAny_builtin F.excBase_ValueError.initEntry ?_⟩
  rw [Around.under_plainId F.excBase_ValueError.init.plain _]
  wp_walk
  refine hq _ h.objs.size (fun b o hb ho => (Heap.get?_update_other _ _ (Ne.symm hb)).trans (Heap.get?_push_of_some _ ho)) ((Heap.get?_update_self _ (Heap.get?_push_of_some _ he) rfl).trans rfl)
end
/-- the __init__'s own record: its code and its cell -/
structure IFn (P : Program) (K : Frag) (C fI cda cc : Addr) (fd : FuncData) : Prop where
  lk : ∃ oc od osl, K.lookup fI = some ⟨oc, od, .func fd, osl⟩
  code : ∃ ccl cdd vs ccs file tf, K.lookup cda = some ⟨ccl, cdd, .fields vs, ccs⟩ ∧ vs[2]? = some (.str file tf) ∧ ((P.main.file : Str) == file) = true
  cell : ∃ cl cld csl, K.lookup cc = some ⟨cl, cld, .cell (some (.ref C)), csl⟩
section
variable {prog : Program} {w : World} {A : Around} {E : Value → Shared → Prop} {s : Shared} {K : Frag} {mg mb : Str → Option Value} {nm : Str} {C fI cda cc : Addr} {fd : FuncData}
/-- super().__init__('..') -/
theorem super_stmt (O : Own prog K mg nm C fI) (I : IFn prog K C fI cda cc fd) {ar : Arg} (hp : (fd.params.posonlyargs ++ fd.params.args).head? = some ar) {q : Str} {scope : Scope} {L x t0 : Addr} {m : Str → Option Value} {body : List Stmt} {msg : Str} {a1 a2 a3 a4 a5 a6 : Pos} {j : Nat} {Q : Flow → Shared → Prop}
    (X : K.In s.heap) (hg : s.heap.Ns mainGlobals mg) (hb : s.heap.Ns builtinsNs mb) (hmb : mb "super" = bootBuiltins "super") (hn : s.heap.Ns L m) (hm : m ar.arg = some (.ref x)) (hx : s.heap.get? x = some (excO C t0)) (hxC : x ≠ C)
    (hk : scope.kind = .function) (h1 : scope.names.lookup ("super" : Str) = some .globalImplicit) (h2 : scope.names.lookup ("__class__" : Str) = some .free) (h3 : scope.names.lookup ar.arg = some .local)
    (hs : swapsWith (.Call (.Attribute (.Call (.Name "super" a1) [] [] a2) "__init__" a3) [.Constant (.str msg) j a4] [] a5) none a6.line (ksEnv q scope L fI (.ref cda) cc) = pure false)
    (hi : interactive (ksEnv q scope L fI (.ref cda) cc) = false)
    (hev : ∃ pl : Sem Bool, eval (.Call (.Attribute (.Call (.Name "super" a1) [] [] a2) "__init__" a3) [.Constant (.str msg) j a4] [] a5) (ksEnv q scope L fI (.ref cda) cc) = (do
      let ov ← attributeBase (.Call (.Name "super" a1) [] [] a2) "__init__" (ksEnv q scope L fI (.ref cda) cc) (eval (.Call (.Name "super" a1) [] [] a2) (ksEnv q scope L fI (.ref cda) cc))
      standAt a3.atName
      let fb ← holding [ov] (getMethod ov "__init__" pl)
      callWith a5 fb.1 fb.2 (backTo a5 (starEach [.Constant (.str msg) j a4] (ksEnv q scope L fI (.ref cda) cc))) []))
    (hst : starEach [.Constant (.str msg) j a4] (ksEnv q scope L fI (.ref cda) cc) = [(false, eval (.Constant (.str msg) j a4) (ksEnv q scope L fI (.ref cda) cc))])
    (k : ∀ h' tk t1, (∀ b o, b ≠ x → s.heap.get? b = some o → h'.get? b = some o) → h'.get? x = some (excO C t1) → Q .next { s with heap := h', toks := tk }) :
    _root_.PySem.wpAt (model prog w) A (.func body (ksEnv q scope L fI (.ref cda) cc)) (exec (.Expr (.Call (.Attribute (.Call (.Name "super" a1) [] [] a2) "__init__" a3) [.Constant (.str msg) j a4] [] a5) a6) (ksEnv q scope L fI (.ref cda) cc)) Q E s := by
  obtain ⟨nm', q', N, bs, bm, sn, sub, ab, col, dd, k0, k1, k2, k3, k5, hC, hbm, hal⟩ := O.cls
  obtain ⟨oc, od, osl, hf⟩ := I.lk
  obtain ⟨ccl, cdd, vs, ccs, file, tf, hcode, hvs, hfile⟩ := I.code
  obtain ⟨cl, cld, csl, hcell⟩ := I.cell
  have hcl : clsIn K C = some { name := nm', bases := bs, mro := .ref C :: bm, ns := N, qualname := q', hasDict := true, slotNames := sn, subclasses := sub, abstract := ab, collection := col, hasDel := false } := by unfold clsIn; rw [hC] <;> rfl
  obtain ⟨hh, g, d, t, os⟩ := s
  refine ks_wpAt_Expr_any ?_ hi hs
  obtain ⟨pl, hev⟩ := hev
  refine ks_wpAt_MethodCall ?_ hev
  refine ks_wpAt_super_base (env := ksEnv q scope L fI (.ref cda) cc) h1 h2 (by decide) rfl (X _ _ hf) rfl hp rfl (X _ _ hcode) rfl hvs hfile O.top ?_
  refine PySem.W.ks_loadName_global hk h1 (loadGlobal_builtin (env := ksEnv q scope L fI (.ref cda) cc) hg O.noS hb (hmb.trans (by rfl)) ⟨rfl, ?_⟩)
  refine wpAny_loadName_free hk h2 rfl ⟨_, X _ _ hcell, rfl⟩ ?_
  refine wpAny_loadName_local hk h3 hn hm ?_
  refine ks_wpAny_isType_cls (X _ _ hC) rfl ⟨rfl, ?_⟩
  refine ks_wpAny_call_super (X _ _ hC) rfl hx rfl (fun c e => by cases e) (looks_mroIn X O.self) (fun h' e kk => ?_)
  have X' : K.In h' := X.keeps kk
  have hx' := kk _ _ hx
  have IX : PySem.W.InstAt h' x (excO C t0) C none := ⟨hx', rfl, rfl, trivial⟩
  have hI : Looks (model prog w) h' (isInstance (.ref x) (.type "ValueError")) true := IX.type.andThen (looks_mroIn X' (by
    unfold mroIn
    rw [hcl, Option.bind_some, if_neg (by simp), List.contains_cons, refsVE_contains "ValueError" bm hbm, show veTail.contains (.type "ValueError") = true by decide +kernel, Bool.or_true]))
  refine PySem.W.kxs_getMethod PySem.W.kxs_ValueError e (PySem.W.looks_opaque X' O.opq) (l₀ := .ref C :: bm) ?_ rfl X' ?_ hI hxC (by decide) ?_
  · exact fun A Q E s k q => wpAny_bind ((looks_clsIn X' hcl) A _ E s k (wpAny_pure q))
  · have e2 : ((Value.ref C :: bm).dropWhile (· != .ref C)).drop 1 = bm := ESX.drop_own C bm
    rw [e2]
    exact hal
  · have up : ∀ b o, h'.get? b = some o → (h'.push (kxs_mw "ValueError.__init__" x)).get? b = some o := fun b o q => Heap.get?_push_of_some _ q
    have hu : (h'.push (kxs_mw "ValueError.__init__" x)).get? h'.objs.size = some (kxs_mw "ValueError.__init__" x) := Heap.get?_push_at rfl rfl
    show wpAny _ _ (callWith a5 (.ref h'.objs.size) [] (backTo a5 (starEach [.Constant (.str msg) j a4] (ksEnv q scope L fI (.ref cda) cc))) []) _ _ _
    rw [hst]
    refine PySem.W.kxs_callWith (i := "ValueError.__init__") (u := h'.objs.size) (x := x) rfl ?_
    refine evalArgs_plain ?_
    refine Calls.spliced_cons (wpAny_Constant_str (k := j) (pos := a4) (Calls.spliced_nil ⟨hu, ?_⟩))
    have hC1 : (h'.push (kxs_mw "ValueError.__init__" x)).get? C = some _ := up _ _ (X' _ _ hC)
    refine call_mw hC1 (up _ _ hx') hu (by show 1 ≤ sizeLine; decide) fun h2 t1 k1 k2 => ?_
    exact k h2 _ t1 (fun b o hb e => k1 b o hb (up _ _ (kk b o e))) k2
/-- what __init__ leaves of a fresh error at x: its own dict at dx -/
structure IEnd (h h' : Heap) (x C dx L : Addr) (m : Str → Option Value) : Prop where
  keep : ∀ b o, b ≠ x → h.get? b = some o → h'.get? b = some o
  obj : ∃ t1, h'.get? x = some { cls := .ref C, dict := some dx, data := .fields #[.ref t1, .none, .none, .none, .bool false, .none] }
  dbig : L < dx
  dne : dx ≠ x
  ns : h'.Ns1 dx m
/-- the text of __init__(self, fld): the base's, the tag, the field (l: without a field) -/
def sSup (msg : Str) (a1 a2 a3 a4 a5 a6 : Pos) : Stmt := .Expr (.Call (.Attribute (.Call (.Name "super" a1) [] [] a2) "__init__" a3) [.Constant (.str msg) 0 a4] [] a5) a6
def sTag (tag : Str) (b1 b2 b3 b4 : Pos) : Stmt := .Assign [.Attribute (.Name "self" b1) "tag" b2] (.Constant (.str tag) 0 b3) b4
def sFld (fld : Str) (c1 c2 c3 c4 : Pos) : Stmt := .Assign [.Attribute (.Name "self" c1) fld c2] (.Name fld c3) c4
/-- what a look at the text tells, at every frame -/
structure Txt (q : Str) (scope : Scope) (fI cda cc : Addr) (msg tag : Str) (a1 a2 a3 a4 a5 a6 b1 b2 b3 b4 : Pos) : Prop where
  kind : scope.kind = .function
  sup : scope.names.lookup ("super" : Str) = some .globalImplicit
  cls : scope.names.lookup ("__class__" : Str) = some .free
  self : scope.names.lookup ("self" : Str) = some .local
  co : scope.isCoroutine = false
  gen : scope.isGenerator = false
  nocell : ∀ y ∈ scope.names, y.2 ≠ .cell
  sw : ∀ L, swapsWith (.Call (.Attribute (.Call (.Name "super" a1) [] [] a2) "__init__" a3) [.Constant (.str msg) 0 a4] [] a5) none a6.line (ksEnv q scope L fI (.ref cda) cc) = pure false
  int : ∀ L, interactive (ksEnv q scope L fI (.ref cda) cc) = false
  ev : ∀ L, ∃ pl : Sem Bool, eval (.Call (.Attribute (.Call (.Name "super" a1) [] [] a2) "__init__" a3) [.Constant (.str msg) 0 a4] [] a5) (ksEnv q scope L fI (.ref cda) cc) = (do
      let ov ← attributeBase (.Call (.Name "super" a1) [] [] a2) "__init__" (ksEnv q scope L fI (.ref cda) cc) (eval (.Call (.Name "super" a1) [] [] a2) (ksEnv q scope L fI (.ref cda) cc))
      standAt a3.atName
      let fb ← holding [ov] (getMethod ov "__init__" pl)
      callWith a5 fb.1 fb.2 (backTo a5 (starEach [.Constant (.str msg) 0 a4] (ksEnv q scope L fI (.ref cda) cc))) [])
  st : ∀ L, starEach [.Constant (.str msg) 0 a4] (ksEnv q scope L fI (.ref cda) cc) = [(false, eval (.Constant (.str msg) 0 a4) (ksEnv q scope L fI (.ref cda) cc))]
  sw2 : ∀ L, swapsWith (.Constant (.str tag) 0 b3) (some (.Attribute (.Name "self" b1) "tag" b2)) b4.line (ksEnv q scope L fI (.ref cda) cc) = pure false
section
variable {prog : Program} {w : World} {A : Around} {E : Value → Shared → Prop} {s : Shared} {K : Frag} {mg mb : Str → Option Value} {nm : Str} {C fI cda cc : Addr} {fd : FuncData}
/-- super().__init__('..'); self.tag = '..' -/
theorem two_stmts (O : Own prog K mg nm C fI) (I : IFn prog K C fI cda cc fd) {ar : Arg} (hp : (fd.params.posonlyargs ++ fd.params.args).head? = some ar) (har : ar.arg = "self") {q : Str} {scope : Scope} {L x t0 : Addr} {m : Str → Option Value} {body rest : List Stmt} {msg tag : Str} {a1 a2 a3 a4 a5 a6 b1 b2 b3 b4 : Pos} {Q : Flow → Shared → Prop}
    (T : Txt q scope fI cda cc msg tag a1 a2 a3 a4 a5 a6 b1 b2 b3 b4)
    (X : K.In s.heap) (hnx : K.lookup x = none) (hg : s.heap.Ns mainGlobals mg) (hb : s.heap.Ns builtinsNs mb) (hmb : mb "super" = bootBuiltins "super") (hn : s.heap.Ns L m) (hm : m "self" = some (.ref x)) (hx : s.heap.get? x = some (excO C t0)) (hxC : x ≠ C) (hxL : x ≠ L)
    (k : ∀ h' tk dx u, IEnd s.heap h' x C dx L (fun y => if y = "tag" then some (.str tag u) else none) → wpAny (model prog w) A (execs rest (ksEnv q scope L fI (.ref cda) cc)) Q E { s with heap := h', toks := tk }) :
    _root_.PySem.wpAt (model prog w) A (.func body (ksEnv q scope L fI (.ref cda) cc)) (execs (sSup msg a1 a2 a3 a4 a5 a6 :: sTag tag b1 b2 b3 b4 :: rest) (ksEnv q scope L fI (.ref cda) cc)) Q E s := by
  obtain ⟨nm', q', N, bs, bm, sn, sub, ab, col, dd, k0, k1, k2, k3, k5, hC, hbm, hal⟩ := id O.cls
  have hcl : clsIn K C = some { name := nm', bases := bs, mro := .ref C :: bm, ns := N, qualname := q', hasDict := true, slotNames := sn, subclasses := sub, abstract := ab, collection := col, hasDel := false } := by unfold clsIn; rw [hC] <;> rfl
  refine ks_wpAt_execs_cons (super_stmt O I hp X hg hb hmb hn (by rw [har]; exact hm) hx hxC T.kind T.sup T.cls (by rw [har]; exact T.self) (T.sw L) (T.int L) (T.ev L) (T.st L) fun h1 tk t1 k1 e1 => ?_)
  have X1 : K.In h1 := fun a o e => k1 a o (fun z => by rw [z, hnx] at e; cases e) (X a o e)
  have hn1 : h1.Ns L m := by
    obtain ⟨ob, es, ep, ho, r⟩ := hn
    exact ⟨ob, es, ep, k1 _ _ (Ne.symm hxL) ho, r⟩
  refine wpAt_of_wpAny (wpAny_execs_cons (plainObj_wpAny_Assign_Attribute (wpAny_Constant_str (k := 0) (pos := b3) ?_) (T.sw2 L)))
  refine wpAny_Name (wpAny_loadName_local T.kind T.self hn1 hm ?_) (by decide)
  refine PySem.W.set_plain X1 (ox := excO C t1) (od := none) ⟨e1, rfl, rfl, trivial⟩ O.sa ?_
  refine exc_osa X1 e1 hcl (show refsVE (.ref C :: bm) = true from hbm) rfl O.noT (fun h3 tk3 dx k3 dn dne hx3 hn3 => ?_)
  refine k h3 tk3 dx tk ⟨fun b o hb e => k3 b o hb (k1 b o hb e), ⟨t1, hx3⟩, Nat.lt_of_lt_of_le hn1.lt dn, dne, hn3⟩
end
end
end EX

namespace EX
open PySem PySem.Calls PyProof.Rows PySem.HandSPX
open PySem.W (Frag findIn typeIn keepIn subIn hasDictIn nsIn mroIn clsIn codeIn fnX envX Looks KxsFacts kxs_mw ksEnv ksFn looks_mroIn looks_findIn looks_clsIn)
def mT (tag : Str) (u : Tok) : Str → Option Value := fun y => if y = "tag" then some (.str tag u) else none
def mF (fld tag : Str) (u : Tok) (v : Value) : Str → Option Value := fun y => if y = fld then some v else mT tag u y
theorem refs_px (l : List Value) : refsVE l = true → PX.refsVE l = true := by
  induction l with
  | nil =>
    intro h
    exact absurd h (by decide +kernel)
  | cons a r ih =>
    intro h
    rcases refsVE_cases _ h with ⟨c, r', e, h'⟩ | e
    · cases e
      exact ih h'
    · rw [e]
      decide +kernel
theorem within_tag (tag : Str) (u : Tok) : Within (mT tag u) ["tag"] := Within.cons "tag" (.str tag u) Within.nil
section
variable {prog : Program} {w : World} {A : Around} {E : Value → Shared → Prop} {R : Result → Shared → Prop} {s : Shared} {K : Frag} {mg mb : Str → Option Value} {nm : Str} {C fI cda cc : Addr}
variable {n0 q msg tag fld : Str} {params : Arguments} {scope : Scope} {doc pm ct oc : Value} {an od : Option Addr} {osl : Array (Option Value)} {a1 a2 a3 a4 a5 a6 b1 b2 b3 b4 c1 c2 c3 c4 : Pos} {x t0 : Addr} {v : Value}
/-- __init__(self) -/
theorem init0 (O : Own prog K mg nm C fI) (I : IFn prog K C fI cda cc (ksFn n0 q params [sSup msg a1 a2 a3 a4 a5 a6, sTag tag b1 b2 b3 b4] scope .none .none doc pm an (.ref cda) ct cc)) (T : Txt q scope fI cda cc msg tag a1 a2 a3 a4 a5 a6 b1 b2 b3 b4)
    (hcd : codeIn K (.ref cda) q = true) {ar : Arg} (hp : (params.posonlyargs ++ params.args).head? = some ar) (har : ar.arg = "self")
    (hbind : BindsTo s (ksFn n0 q params [sSup msg a1 a2 a3 a4 a5 a6, sTag tag b1 b2 b3 b4] scope .none .none doc pm an (.ref cda) ct cc) ⟨[.ref x], []⟩ [("self", .ref x)])
    (X : K.In s.heap) (hlim : s.heap.NoLimit) (hnx : K.lookup x = none) (hg : s.heap.Ns mainGlobals mg) (hb : s.heap.Ns builtinsNs mb) (hmb : mb "super" = bootBuiltins "super") (hx : s.heap.get? x = some (excO C t0)) (hxC : x ≠ C) (hroom : A.depth < recursionLimit)
    (k : ∀ h' tk dx u, IEnd s.heap h' x C dx s.heap.objs.size (mT tag u) → R (.ok (.ret .none)) { s with heap := h', toks := tk }) :
    codeAny (model prog w) A (.call (.ref fI) ⟨[.ref x], []⟩) R s := by
  obtain ⟨oc', od', osl', lk⟩ := id I.lk
  refine ks_codeAny_call_defAt hroom (X _ _ lk) rfl hlim (PySem.W.codeRec_of X hcd) rfl hbind T.nocell (fun y hy => ?_) (fun h₀ hn kk => ?_) T.co T.gen T.kind
  · rw [List.mem_singleton] at hy
    subst hy
    exact T.self
  · have hxL : x ≠ s.heap.objs.size := Nat.ne_of_lt (Heap.lt_size hx)
    refine two_stmts (s := { s with heap := h₀, toks := _ }) (rest := []) O I hp har T (X.keeps kk) hnx (hg.keeps kk) (hb.keeps kk) hmb hn (by first | rfl | simp) (kk _ _ hx) hxC hxL fun h' tk dx u e => ?_
    refine wpAny_execs_nil ?_
    exact k h' tk dx u ⟨fun b o hb' ho => e.keep b o hb' (kk b o ho), e.obj, e.dbig, e.dne, e.ns⟩
/-- __init__(self, fld) -/
theorem init1 (O : Own prog K mg nm C fI) (hfn : findIn K (.ref C) fld = some none) (I : IFn prog K C fI cda cc (ksFn n0 q params [sSup msg a1 a2 a3 a4 a5 a6, sTag tag b1 b2 b3 b4, sFld fld c1 c2 c3 c4] scope .none .none doc pm an (.ref cda) ct cc)) (T : Txt q scope fI cda cc msg tag a1 a2 a3 a4 a5 a6 b1 b2 b3 b4)
    (hcd : codeIn K (.ref cda) q = true) {ar : Arg} (hp : (params.posonlyargs ++ params.args).head? = some ar) (har : ar.arg = "self")
    (hbind : BindsTo s (ksFn n0 q params [sSup msg a1 a2 a3 a4 a5 a6, sTag tag b1 b2 b3 b4, sFld fld c1 c2 c3 c4] scope .none .none doc pm an (.ref cda) ct cc) ⟨[.ref x, v], []⟩ [("self", .ref x), (fld, v)])
    (hfl : scope.names.lookup fld = some .local) (hfs : (fld == ("self" : Str)) = false) (hfd : (fld == ("__debug__" : Str)) = false) (sw3 : ∀ L, swapsWith (.Name fld c3) (some (.Attribute (.Name "self" c1) fld c2)) c4.line (ksEnv q scope L fI (.ref cda) cc) = pure false)
    (X : K.In s.heap) (hlim : s.heap.NoLimit) (hnx : K.lookup x = none) (hg : s.heap.Ns mainGlobals mg) (hb : s.heap.Ns builtinsNs mb) (hmb : mb "super" = bootBuiltins "super") (hx : s.heap.get? x = some (excO C t0)) (hxC : x ≠ C) (hroom : A.depth < recursionLimit)
    (k : ∀ h' tk dx u, IEnd s.heap h' x C dx s.heap.objs.size (mF fld tag u v) → R (.ok (.ret .none)) { s with heap := h', toks := tk }) :
    codeAny (model prog w) A (.call (.ref fI) ⟨[.ref x, v], []⟩) R s := by
  obtain ⟨oc', od', osl', lk⟩ := id I.lk
  obtain ⟨nm', q', N, bs, bm, sn, sub, ab, col, dd, k0, k1, k2, k3, k5, hC, hbm, hal⟩ := id O.cls
  have hcl : clsIn K C = some { name := nm', bases := bs, mro := .ref C :: bm, ns := N, qualname := q', hasDict := true, slotNames := sn, subclasses := sub, abstract := ab, collection := col, hasDel := false } := by unfold clsIn; rw [hC] <;> rfl
  have hself : (("self" : Str) == fld) = false := by
    rw [beq_eq_false_iff_ne] at hfs ⊢
    exact Ne.symm hfs
  refine ks_codeAny_call_defAt hroom (X _ _ lk) rfl hlim (PySem.W.codeRec_of X hcd) rfl hbind T.nocell (fun y hy => ?_) (fun h₀ hn kk => ?_) T.co T.gen T.kind
  · rcases List.mem_cons.mp hy with e | hy
    · subst e
      exact T.self
    · rw [List.mem_singleton] at hy
      subst hy
      exact hfl
  · have hxL : x ≠ s.heap.objs.size := Nat.ne_of_lt (Heap.lt_size hx)
    have m1 : ([("self", .ref x), (fld, v)] : List (Str × Value)).reverse.lookup ("self" : Str) = some (Value.ref x) := by simp [List.lookup, hself]
    have m2 : ([("self", .ref x), (fld, v)] : List (Str × Value)).reverse.lookup fld = some v := by simp [List.lookup]
    refine two_stmts (s := { s with heap := h₀, toks := _ }) (rest := [sFld fld c1 c2 c3 c4]) O I hp har T (X.keeps kk) hnx (hg.keeps kk) (hb.keeps kk) hmb hn m1 (kk _ _ hx) hxC hxL fun h2 tk dx u e => ?_
    have X2 : K.In h2 := fun a o q => e.keep a o (fun z => by rw [z, hnx] at q; cases q) (X.keeps kk a o q)
    have hn2 : h2.Ns s.heap.objs.size (fun y => ([("self", .ref x), (fld, v)] : List (Str × Value)).reverse.lookup y) := by
      obtain ⟨ob, es, ep, ho, r⟩ := hn
      exact ⟨ob, es, ep, e.keep _ _ (Ne.symm hxL) ho, r⟩
    obtain ⟨t1, hx2⟩ := e.obj
    obtain ⟨oD, esD, epD, hoD, hdD, _⟩ := e.ns.count (within_tag tag u)
    refine wpAny_execs_cons (plainObj_wpAny_Assign_Attribute ?_ (sw3 _))
    refine wpAny_Name (wpAny_loadName_local T.kind hfl hn2 m2 ?_) hfd
    refine wpAny_Name (wpAny_loadName_local T.kind T.self hn2 m1 ?_) (by decide)
    refine PySem.W.set_plain X2 (od := some oD) ⟨hx2, rfl, rfl, hoD⟩ O.sa ?_
    refine PX.osa_old X2 hx2 e.ns (within_tag tag u) (by decide) hcl (refs_px _ (show refsVE (.ref C :: bm) = true from hbm)) rfl hfn (fun h3 tk3 k3 hn3 => ?_)
    refine wpAny_execs_nil ?_
    exact k h3 tk3 dx u ⟨fun b o hb' ho => k3 b o (Nat.ne_of_lt (Nat.lt_trans (Heap.lt_size ho) e.dbig)) (e.keep b o hb' (kk b o ho)), ⟨t1, k3 _ _ (Ne.symm e.dne) hx2⟩, e.dbig, e.dne, hn3⟩
end
end EX

namespace EX
open PySem PySem.Calls PyProof.Rows PySem.HandSPX
open PySem.W (Frag findIn typeIn keepIn subIn hasDictIn nsIn mroIn clsIn codeIn fnX envX Looks KxsFacts kxs_mw ksEnv ksFn looks_mroIn looks_findIn looks_clsIn)
/-- __init__ with the arguments us leaves an own dict that holds mm -/
def Inits (prog : Program) (w : World) (K : Frag) (mg : Str → Option Value) (C fI : Addr) (us : List Value) (mm : Tok → Str → Option Value) : Prop :=
  ∀ (A : Around) (R : Result → Shared → Prop) (s : Shared) (x t0 : Addr) (mb : Str → Option Value), K.In s.heap → s.heap.NoLimit → K.lookup x = none → s.heap.Ns mainGlobals mg → s.heap.Ns builtinsNs mb → mb "super" = bootBuiltins "super" →
    s.heap.get? x = some (excO C t0) → x ≠ C → A.depth < recursionLimit → (∀ h' tk dx u, IEnd s.heap h' x C dx s.heap.objs.size (mm u) → R (.ok (.ret .none)) { s with heap := h', toks := tk }) →
    codeAny (model prog w) A (.call (.ref fI) ⟨.ref x :: us, []⟩) R s
/-- a made error: at e, its own dict at d -/
structure Made (h h' : Heap) (e C d : Addr) (m : Str → Option Value) : Prop where
  keep : ∀ b o, h.get? b = some o → h'.get? b = some o
  new : h.objs.size ≤ e
  obj : ∃ t, h'.get? e = some { cls := .ref C, dict := some d, data := .fields #[.ref t, .none, .none, .none, .bool false, .none] }
  dbig : h.objs.size ≤ d
  dne : d ≠ e
  ns : h'.Ns1 d m
section
variable {prog : Program} {w : World} {A : Around} {E : Value → Shared → Prop} {R : Result → Shared → Prop} {s : Shared} {K : Frag} {mg mb : Str → Option Value} {nm : Str} {C fI : Addr} {us : List Value} {mm : Tok → Str → Option Value}
theorem made (O : Own prog K mg nm C fI) (J : Inits prog w K mg C fI us mm) (hz : us.length ≤ sizeLine) (X : K.In s.heap) (hlim : s.heap.NoLimit) (hg : s.heap.Ns mainGlobals mg) (hb : s.heap.Ns builtinsNs mb) (hmb : mb "super" = bootBuiltins "super") (hroom : A.depth + 1 < recursionLimit)
    (hq : ∀ h' tk e d u, Made s.heap h' e C d (mm u) → R (.ok (.ret (.ref e))) { s with heap := h', toks := tk }) : codeAny (model prog w) A (.call (.ref C) ⟨us, []⟩) R s := by
  obtain ⟨nm', q', N, bs, bm, sn, sub, ab, col, dd, k0, k1, k2, k3, k5, hC, hbm, hal⟩ := id O.cls
  obtain ⟨hp, g, dr, tk, os⟩ := s
  have hold : ∀ b o, hp.get? b = some o → ((hp.push (PySem.W.kdv_tup us)).push (excO C hp.objs.size)).get? b = some o := fun b o e => Heap.get?_push_of_some _ (Heap.get?_push_of_some _ e)
  have hget : ((hp.push (PySem.W.kdv_tup us)).push (excO C hp.objs.size)).get? (hp.objs.size + 1) = some (excO C hp.objs.size) := by heap_get
  have out : ∀ a o, hp.get? a = some o → a ≠ hp.objs.size + 1 := fun a o e => Nat.ne_of_lt (Nat.lt_succ_of_lt (Heap.lt_size e))
  have hnx : K.lookup (hp.objs.size + 1) = none := by
    cases e : K.lookup (hp.objs.size + 1) with
    | none => rfl
    | some o => exact absurd rfl (out _ _ (X _ _ e))
  refine call_own F.excBase_ValueError (fun Y => refsVE_contains Y bm hbm) (X _ _ hC) (looks_findIn X O.iC) (fun self => PySem.W.bind_fn X self O.tC) hz ?_
  refine J _ _ ⟨(hp.push (PySem.W.kdv_tup us)).push (excO C hp.objs.size), g, dr, tk, os⟩ (hp.objs.size + 1) hp.objs.size mb (X.keeps hold) (hlim.keeps hold) hnx (hg.keeps hold) (hb.keeps hold) hmb hget (Ne.symm (out _ _ (X _ _ hC))) hroom fun h' tk' dx u Z => ?_
  obtain ⟨t1, ho⟩ := Z.obj
  have hd : hp.objs.size + 1 + 1 < dx := by
    have := Z.dbig
    rw [Heap.size_push, Heap.size_push] at this
    exact this
  exact ⟨rfl, hq h' tk' (hp.objs.size + 1) dx u ⟨fun b o e => Z.keep b o (out b o e) (hold b o e), Nat.le_succ _, ⟨t1, ho⟩, by show hp.objs.size ≤ dx; omega, Z.dne, Z.ns⟩⟩
end
end EX

namespace EX
open PySem PySem.Spec PyProof.Rows L2
section
variable {X : Cx} {pins : List (Addr × Obj)} {σ : L2.St} {H : Hp} {s : Shared} {nm tag fld : Str} {C fI : Addr}
theorem mkp_of (O : Own X.prog X.K X.mg nm C fI) (I : Inv X pins σ H s) {h' : Heap} {tk' : Nat} {e d : Addr} {m : Str → Option Value} {fs : List (Str × V)} {Q : XK} (M : Made s.heap h' e C d m) (hr : ∀ f, RelO (fs.lookup f) (m f))
    (q : ∀ d, H d = none → Q (.ref C) (some d) (upd H d (.xd fs))) : MkP X pins σ Q (.ref e) { s with heap := h', toks := tk' } := by
  obtain ⟨hp, g, dr, tk, os⟩ := s
  obtain ⟨t, ho⟩ := M.obj
  obtain ⟨G, g1, g2⟩ := restrict h' fun b => decide (b ≠ e)
  have gk : ∀ b, b ≠ e → G.get? b = h'.get? b := fun b hb => g1 b (decide_eq_true hb)
  have ge : G.get? e = none := g2 e (by simp)
  have old : ∀ b o, hp.get? b = some o → G.get? b = some o := fun b o z => (gk b (fun y => absurd (Heap.lt_size z) (by rw [y]; exact Nat.not_lt.mpr M.new))).trans (M.keep b o z)
  have ob : ObjOk X.prog X.w (upd H d (.xd fs)) G d (.xd fs) := ⟨m, M.ns.at (fun o z => (gk d M.dne).trans z), hr⟩
  have J : Inv X pins σ (upd H d (.xd fs)) ⟨G, g, dr, tk', os⟩ := I.laid (t' := tk') old M.dbig ob
  refine ⟨e, _, _, ⟨G, g, dr, tk', os⟩, upd H d (.xd fs), .ref C, some d, rfl, J, fun b o z => ?_, ge, ho, ⟨rfl, rfl⟩, rfl, rfl, ?_, rfl, I.bare, raises_own O.exC O.tyC, q d (I.hok.fresh M.dbig)⟩
  · have z : G.get? b = some o := z
    have hb : b ≠ e := fun y => by rw [y, ge] at z; cases z
    exact (gk b hb).symm.trans z
  · rw [upd_ne (Ne.symm M.dne)]
    exact I.hok.fresh M.new
theorem rel0 (tag : Str) (u : Tok) (f : Str) : RelO (List.lookup f [(("tag" : Str), V.str tag)]) (mT tag u f) := by
  unfold mT
  by_cases h : f = "tag"
  · subst h
    rw [if_pos rfl, show List.lookup ("tag" : Str) [(("tag" : Str), V.str tag)] = some (V.str tag) by simp [List.lookup]]
    exact ⟨u, rfl⟩
  · have h2 : (f == ("tag" : Str)) = false := by simpa using h
    rw [if_neg h, show List.lookup f [(("tag" : Str), V.str tag)] = none by simp [List.lookup, h2]]
    trivial
theorem rel1 {v : V} {v' : Value} (r : RelV v v') (fld tag : Str) (u : Tok) (f : Str) : RelO (List.lookup f [(fld, v), (("tag" : Str), V.str tag)]) (mF fld tag u v' f) := by
  unfold mF
  by_cases h : f = fld
  · subst h
    rw [if_pos rfl, show List.lookup f [(f, v), (("tag" : Str), V.str tag)] = some v by simp [List.lookup]]
    exact r
  · have h2 : (f == fld) = false := by simpa using h
    have e : List.lookup f [(fld, v), (("tag" : Str), V.str tag)] = List.lookup f [(("tag" : Str), V.str tag)] := by simp [List.lookup, h2]
    rw [if_neg h, e]
    exact rel0 tag u f
/-- C() -/
def tMk0 (C : Addr) (tag : Str) : L2.St → Hp → XK → Prop := fun _ H Q => ∀ d, H d = none → Q (.ref C) (some d) (upd H d (.xd [("tag", .str tag)]))
/-- C(e) -/
def tMk1 (C : Addr) (fld tag : Str) (ta : TA) : L2.St → Hp → XK → Prop := fun σ H Q => ta σ H fun vs H1 => ∃ v, vs = [v] ∧ ∀ d, H1 d = none → Q (.ref C) (some d) (upd H1 d (.xd [(fld, v), ("tag", .str tag)]))
theorem pmk0 {p pos : Pos} {k : Nat} (O : Own X.prog X.K X.mg nm C fI) (J : Inits X.prog X.w X.K X.mg C fI [] (mT tag)) (hr : Room k X.A) (hg : Gl X nm := by rfl) (hdb : (nm == ("__debug__" : Str)) = false := by decide) : PMk X (.Call (.Name nm p) [] [] pos) (tMk0 C tag) := by
  intro pins s σ H Q I h
  obtain ⟨mb, hb1, hb2⟩ := I.mod.blt
  refine wpAny_Call_Name_kw (ld_glob I hg O.gC ?_ hdb)
  refine PySem.W.callWith_K0 I.kIn O.kC ?_
  refine wpAny_call (made O J (Nat.zero_le _) I.kIn I.nolimit (I.mod.glob.keeps I.bk) (hb1.keeps I.bk) (hb2 _ (by decide)) (by have := hr.dp; omega) fun h' tk' e d u M => ?_)
  exact mkp_of O I M (rel0 tag u) h
theorem pmk1 {a : Expr} {ta : TA} {p pos : Pos} {k : Nat} (O : Own X.prog X.K X.mg nm C fI) (J : ∀ v, Inits X.prog X.w X.K X.mg C fI [v] (fun u => mF fld tag u v)) (hr : Room k X.A) (ha : PA X [a] ta) (hg : Gl X nm := by rfl) (hdb : (nm == ("__debug__" : Str)) = false := by decide)
    (he : starEach (a :: []) X.env = (false, eval a X.env) :: starEach [] X.env := by rfl) (hpl : (backTo pos (starEach [] X.env)).any (·.1) = false := by rfl) : PMk X (.Call (.Name nm p) [a] [] pos) (tMk1 C fld tag ta) := by
  intro pins s σ H Q I h
  refine wpAny_Call_Name_kw (ld_glob I hg O.gC ?_ hdb)
  refine PySem.W.callWith_K (h₀ := X.base) I.ok.mod.kin O.kC (thn (ha.run pos pins s σ H _ I h) fun us s1 hh => ?_) he hpl
  obtain ⟨vs, H1, I1, r1, v, ev, q1⟩ := hh
  subst ev
  refine ⟨I1.kIn, ?_⟩
  cases r1 with
  | cons rv rn =>
    rename_i v' us'
    cases rn
    obtain ⟨mb, hb1, hb2⟩ := I1.mod.blt
    refine wpAny_call (made O (J v') (by show 1 ≤ sizeLine; decide) I1.kIn I1.nolimit (I1.mod.glob.keeps I1.bk) (hb1.keeps I1.bk) (hb2 _ (by decide)) (by have := hr.dp; omega) fun h' tk' e d u M => ?_)
    exact mkp_of O I1 M (rel1 rv fld tag u) q1
end
end EX

namespace EX
open PySem PySem.Spec PyProof.Rows L2
/-! ### try .. except (x1, x2, x3) as n -/
theorem fly_push {B h : Heap} {l : List Env} {a : Addr} {Z : Obj → Prop} (o : Obj) (f : HandSPX.FlyingZ B l a Z h) : HandSPX.FlyingZ B l a Z (h.push o) := by
  obtain ⟨f1, f2, f3, oe, vs, T, oT, ts, g1, g2, g3, g4, g5, g6, g7, g8, g9⟩ := f
  have up : ∀ b u, h.get? b = some u → (h.push o).get? b = some u := fun b u e => Heap.get?_push_of_some _ e
  exact ⟨fun b u e => up b u (f1 b u e), f2, f3.of_keeps fun b u e _ => ⟨u, up b u e, rfl⟩, oe, vs, T, oT, ts, up _ _ g1, g2, g3, g4, g5, g6, up _ _ g7, g8, g9⟩
theorem upTo_push {h h' : Heap} (o : Obj) (u : h.UpToSlots h') : h.UpToSlots (h'.push o) := fun b z e n => by
  obtain ⟨sl, q⟩ := u b z e n
  exact ⟨sl, Heap.get?_push_of_some _ q⟩
/-- what the clause wishes: the class is one of the three, then the suite -/
def wTup (K : PySem.W.Frag) (cs : List Value) (i : Nat) (ts : Addr → Value → Option Addr → TS) (D : Ends) : WX := fun cls d σ H => PySem.W.exmAny K cls cs = some true ∧
  ∀ a, H a = none → ts a cls d { nx := fun σ1 H1 => D.nx (σ1.set i none) H1, rt := D.rt, bk := fun σ1 H1 => D.bk (σ1.set i none) H1, ct := fun σ1 H1 => D.ct (σ1.set i none) H1 } (σ.set i (some (.ref a))) H
section
variable {X : Cx} {x1 x2 x3 n : Str} {c1 c2 c3 : Addr} {i j : Nat} {body suite : List Stmt} {b₀ : Stmt} {p1 p2 p3 p4 pos pos' : Pos} {tb : WX → TS} {ts : Addr → Value → Option Addr → TS}
/-- the three classes, in a suite's context -/
theorem eval_three {a : Addr} {pn pins : List (Addr × Obj)} {σ : L2.St} {H : Hp} {s : Shared} {Q : Value → Shared → Prop} {E : Value → Shared → Prop} (I : Inv (X.suite a pn) pins σ H s)
    (g1 : Gl X x1 ∧ X.mg x1 = some (.ref c1) ∧ (x1 == ("__debug__" : Str)) = false) (g2 : Gl X x2 ∧ X.mg x2 = some (.ref c2) ∧ (x2 == ("__debug__" : Str)) = false) (g3 : Gl X x3 ∧ X.mg x3 = some (.ref c3) ∧ (x3 == ("__debug__" : Str)) = false)
    (q : Q (.ref s.heap.objs.size) { s with heap := s.heap.push { cls := .type "tuple", data := .seq [Value.ref c1, .ref c2, .ref c3].toArray } })
    (hst : starEach [.Name x1 p1, .Name x2 p2, .Name x3 p3] X.env = [(false, eval (.Name x1 p1) X.env), (false, eval (.Name x2 p2) X.env), (false, eval (.Name x3 p3) X.env)]) :
    wpAny (model X.prog X.w) (X.A.mark (some (.ref a))) (eval (.Tuple [.Name x1 p1, .Name x2 p2, .Name x3 p3] j p4) X.env) Q E s := by
  refine wpAny_Tuple_spliced ?_
  rw [hst]
  refine Calls.spliced_cons (ld_glob (X := X.suite a pn) I g1.1 g1.2.1 ?_ g1.2.2)
  refine Calls.spliced_cons (ld_glob (X := X.suite a pn) I g2.1 g2.2.1 ?_ g2.2.2)
  refine Calls.spliced_cons (ld_glob (X := X.suite a pn) I g3.1 g3.2.1 ?_ g3.2.2)
  exact Calls.spliced_nil ⟨by show 3 ≤ sizeLine; decide, q⟩
theorem ps_try_tup (hs : X.stack = X.env :: X.outer) (hf : X.env.frame = some X.env.locals) (hN : X.N.Nodup) (hi : X.N[i]? = some n) (hln : X.env.kindOf n = some .local)
    (g1 : Gl X x1 ∧ X.mg x1 = some (.ref c1) ∧ (x1 == ("__debug__" : Str)) = false) (g2 : Gl X x2 ∧ X.mg x2 = some (.ref c2) ∧ (x2 == ("__debug__" : Str)) = false) (g3 : Gl X x3 ∧ X.mg x3 = some (.ref c3) ∧ (x3 == ("__debug__" : Str)) = false)
    (hst : starEach [.Name x1 p1, .Name x2 p2, .Name x3 p3] X.env = [(false, eval (.Name x1 p1) X.env), (false, eval (.Name x2 p2) X.env), (false, eval (.Name x3 p3) X.env)])
    (hb : ∀ (W : WX) (pn : List (Addr × Obj)) (xe : Value → Shared → Prop), Takes (X.tr pn xe) W → PSs (X.tr pn xe) body (tb W))
    (hsu : ∀ (a : Addr) (oe : Obj) (cls : Value) (d : Option Addr) (pn : List (Addr × Obj)), Zc cls d oe → (∃ vs, oe.data = .fields vs) → PSs (X.suite a ((a, oe) :: pn)) (b₀ :: suite) (ts a cls d)) :
    PS X (.Try body [.ExceptHandler (some (.Tuple [.Name x1 p1, .Name x2 p2, .Name x3 p3] j p4)) (some n) (b₀ :: suite) pos'] [] [] pos) (fun D σ H => tb (wTup X.K [.ref c1, .ref c2, .ref c3] i ts D) D σ H) := by
  refine ⟨fun pins s σ H D I hw => ?_⟩
  have ok := I.ok
  have frs_ : X.A.frames = some (X.env :: X.outer) := by rw [ok.frames, hs]
  have here : Loc X.env.scope n := .inl hln
  refine wpAny_Try_except (wpAny_mono ((hb (wTup X.K [.ref c1, .ref c2, .ref c3] i ts D) (X.pn ++ pins) (fun e sa => wpAny (model X.prog X.w) X.A (noteFrame e X.env) (fun _ sb => wpAny (model X.prog X.w) X.A (setFlight e none) (fun _ sc =>
    wpAny (model X.prog X.w) X.A (handleBy e X.env [.ExceptHandler (some (.Tuple [.Name x1 p1, .Name x2 p2, .Name x3 p3] j p4)) (some n) (b₀ :: suite) pos']) (SP X pins D) X.xe sc) X.xe sb) X.xe sa) (fun u s2 air => ?_)).run [] s σ H D (I.toTry _) hw) (fun fl s2 done => ?_) (fun _ _ z => z))
  · -- an exception comes
    obtain ⟨a, B, sI, pins2, σ2, H2, cls, d, rfl, Jt, nb, up, sky, na, os, ag, hm, hy⟩ := air
    have J : Inv X pins σ2 H2 sI := Jt.ofTry ok
    rw [show (X.tr (X.pn ++ pins) _).stack = X.env :: X.outer from hs] at sky
    show wpAny (model X.prog X.w) X.A (noteFrame (.ref a) X.env) _ _ _
    refine Sky.land Zc.steady frs_ hf sky fun h3 fl3 up3 => ?_
    obtain ⟨oe3, vs3, ge3, hz3, gd3⟩ := fl3.there
    have nfr : a ∉ frs (X.env :: X.outer) := fun mem => by
      obtain ⟨_, o2, e2, nf⟩ := fl3.2.2.1.mem mem
      rw [ge3] at e2
      cases e2
      exact nf _ gd3
    have nL : a ≠ X.env.locals := fun z => nfr (List.mem_filterMap.mpr ⟨X.env, List.mem_cons_self, hf.trans (by rw [z])⟩)
    have nF : a ∉ X.fs := fun mem => by
      obtain ⟨e2, m2, q2⟩ := List.mem_filterMap.mp mem
      exact nfr (List.mem_filterMap.mpr ⟨e2, List.mem_cons_of_mem _ m2, q2⟩)
    have J3 : Inv X pins σ2 H2 { s2 with heap := h3 } := J.landed nb fl3.1 (up.trans up3) os ag
    refine wpAny_handleBy_cons (codeAny_handlers_test ?_) (fun q => by cases q)
    refine eval_three (pn := (a, oe3) :: (X.pn ++ pins)) (J3.suite ge3 gd3 na nL nF) g1 g2 g3 ?_ hst
    -- the classes' tuple is laid
    have fl4 := fly_push { cls := .type "tuple", data := .seq [Value.ref c1, .ref c2, .ref c3].toArray } fl3
    have up4 := upTo_push { cls := .type "tuple", data := .seq [Value.ref c1, .ref c2, .ref c3].toArray } (up.trans up3)
    have ht : (h3.push { cls := .type "tuple", data := .seq [Value.ref c1, .ref c2, .ref c3].toArray }).get? h3.objs.size = some { cls := .type "tuple", data := .seq [Value.ref c1, .ref c2, .ref c3].toArray } := Heap.get?_push_size _ rfl
    generalize h3.push { cls := .type "tuple", data := .seq [Value.ref c1, .ref c2, .ref c3].toArray } = h4 at fl4 up4 ht
    have J4 : Inv X pins σ2 H2 { s2 with heap := h4 } := J.landed nb fl4.1 up4 os ag
    obtain ⟨oe4, vs4, ge4, hz4, gd4⟩ := fl4.there
    have LT : PySem.W.Looks (model X.prog X.w) h4 (typeOf (.ref a)) cls := fun _ _ _ _ kk q => wpAny_typeOf_ref (kk _ _ ge4) (by rw [hz4.1]; exact q)
    refine (PySem.W.exm_tup3 (M := model X.prog X.w) J4.kIn LT ht hm).here ?_
    refine codeAny_handlers_suite_as (HandSPX.lands_againZ fl4 fun h5 fl5 up5 => ?_)
    have J5 : Inv X pins σ2 H2 { s2 with heap := h5 } := J.landed nb fl5.1 (up4.trans up5) os ag
    obtain ⟨oe5, vs5, ge5, hz5, gd5⟩ := fl5.there
    refine store_ok (X := X.suite a ((a, oe5) :: (X.pn ++ pins))) (v := .ref a) (J5.suite ge5 gd5 na nL nF) hN hi here rfl (fun s6 S6 => ?_) (.inr hln)
    refine wpAny_mono ((hsu a oe5 cls d (X.pn ++ pins) hz5 ⟨_, gd5⟩).run [] s6 _ H2 _ S6 (hy a na)) (fun fl s7 e7 => ?_) (fun _ _ z => False.elim z)
    have fin : ∀ {σ7 : L2.St} {H7 : Hp} {Q : Shared → Prop}, Inv (X.suite a ((a, oe5) :: (X.pn ++ pins))) [] σ7 H7 s7 → (∀ s8, Inv X pins (σ7.set i none) H7 s8 → Q s8) → wpAny (model X.prog X.w) X.A (do bindName X.env n .none; unbindBehindTheSuite X.env n pos') (fun _ s8 => Q s8) X.xe s7 :=
      fun {σ7 H7 Q} S7 hq => gone_ok (S7.unsuite ok) hN hi hln hq
    cases fl with
    | next =>
      obtain ⟨σ7, H7, S7, q7⟩ := e7
      exact fin S7 fun _ J8 => ⟨_, _, J8, q7⟩
    | brk =>
      obtain ⟨σ7, H7, S7, q7⟩ := e7
      exact fin S7 fun _ J8 => ⟨_, _, J8, q7⟩
    | cont =>
      obtain ⟨σ7, H7, S7, q7⟩ := e7
      exact fin S7 fun _ J8 => ⟨_, _, J8, q7⟩
    | ret u7 =>
      obtain ⟨v7, σ7, H7, S7, r7, q7⟩ := e7
      exact fin S7 fun _ J8 => ⟨_, _, _, J8, r7, q7⟩
  · cases fl with
    | next =>
      obtain ⟨σ2, H2, J2, q2⟩ := done
      exact wpAny_execs_nil ⟨σ2, H2, J2.ofTry ok, q2⟩
    | brk =>
      obtain ⟨σ2, H2, J2, q2⟩ := done
      exact ⟨σ2, H2, J2.ofTry ok, q2⟩
    | cont =>
      obtain ⟨σ2, H2, J2, q2⟩ := done
      exact ⟨σ2, H2, J2.ofTry ok, q2⟩
    | ret u2 =>
      obtain ⟨v2, σ2, H2, J2, r2, q2⟩ := done
      exact ⟨v2, σ2, H2, J2.ofTry ok, r2, q2⟩
end
end EX

namespace EX
open PySem PySem.Spec PyProof.Rows L2
open L2H (RoomH PinOk cxH inv_startH)
/-! ### the fields of a pinned error -/
structure ECls (K : PySem.W.Frag) (C : Addr) : Prop where
  ga : PySem.W.findIn K (.ref C) "__getattribute__" = some (some (.builtin "BaseException.__getattribute__"))
  gg : PySem.W.findIn K (.ref C) "__getattr__" = some none
  exC : PySem.W.subIn K (.ref C) (.type "BaseException") = some true
  hd : PySem.W.hasDictIn K C = true
theorem Own.ecls {P : Program} {K : PySem.W.Frag} {mg : Str → Option Value} {nm : Str} {C fI : Addr} (O : Own P K mg nm C fI) : ECls K C := ⟨O.ga, O.gg, O.exC, O.hdC⟩
/-- p is an error of the class C with the fields fs at d -/
structure ErrP (K : PySem.W.Frag) (H : Hp) (p : Addr × Obj) (C d : Addr) (fs : List (Str × V)) : Prop where
  cls : p.2.cls = .ref C
  dict : p.2.dict = some d
  data : ∃ vs, p.2.data = .fields vs
  ec : ECls K C
  at_ : H d = some (.xd fs)
def tXf (K : PySem.W.Frag) (p : Addr × Obj) (f : Str) (te : TE) : TE := fun σ H Q => te σ H fun x H1 => x = .ref p.1 ∧ ∃ C d fs v, ErrP K H1 p C d fs ∧ PySem.W.findIn K (.ref C) f = some none ∧ fs.lookup f = some v ∧ Q v H1
theorem pe_xf {X : Cx} {p : Addr × Obj} {e : Expr} {te : TE} {f : Str} {pos : Pos} (hp : p ∈ X.pn) (he : PE X e te) (hb : attributeBase e f X.env (eval e X.env) = eval e X.env := by rfl) : PE X (.Attribute e f pos) (tXf X.K p f te) := by
  refine ⟨fun pins s σ H Q I h => ?_⟩
  refine attr_of hb (thn (he.run pins s σ H _ I h) fun u s1 hh => ?_)
  obtain ⟨x, H1, I1, rx, ex, C, d, fs, v, EP, hn, hl, q⟩ := hh
  subst ex
  obtain rfl : u = Value.ref p.1 := rx
  obtain ⟨hcl, hdi, ⟨vs, hda⟩, ec, hat⟩ := EP
  have P1 := (I1.pin p (List.mem_append_left _ hp)).1
  obtain ⟨mA, hns, hr⟩ := (show ObjOk X.prog X.w H1 s1.heap d (.xd fs) from I1.hok d _ hat)
  obtain ⟨od, ho, hlk⟩ := lookIn_ns hns
  obtain ⟨u2, hu, ru⟩ := RelO.some_of (v := v) (o := mA f) (by rw [← hl]; exact hr f)
  have J : PySem.W.InstAt s1.heap p.1 p.2 C (some od) := ⟨P1, hcl, by unfold PySem.W.notCls; rw [hda] <;> rfl, by rw [hdi]; exact ho⟩
  exact HandSPX.exc_get I1.kIn J ec.ga ec.gg ec.exC (PySem.W.findObj_own ec.hd hn rfl (by rw [hlk, hu])) (handed_of ru) ⟨v, H1, I1.tok _, ru, q⟩
/-! ### defs called in a suite, with the pinned error -/
structure FnS (P : Program) (w : World) (K : PySem.W.Frag) (mg : Str → Option Value) (base : Heap) (k : Nat) (f : Addr) (fd : FuncData) (ps : List Str) (sp : Addr × Obj → List V → Hp → VK → Prop) : Prop where
  len : ∀ p vs H Q, sp p vs H Q → vs.length = ps.length
  run : ∀ (A : Around) (outer : List Env) (s : Shared) (H : Hp) (args : Args) (us : List Value) (vs : List V) (Q : VK) (p : Addr × Obj), RoomH k A → PinOk outer H s p → Env0 P w K mg base A outer s H → BindsTo s fd args (ps.zip us) → Vals vs us → sp p vs H Q →
    codeAny (model P w) A (.call (.ref f) args) (CR C8.CX0 outer P w H s Q C8.E0) s
theorem fnS {P : Program} {w : World} {K : PySem.W.Frag} {mg : Str → Option Value} {base : Heap} {k : Nat} {f : Addr} {name qual : Str} {params : Arguments} {body : List Stmt} {scope : Scope} {dV kV doc pm cdv ct oc : Value} {an od : Option Addr} {osl : Array (Option Value)} {N ps : List Str}
    {sp : Addr × Obj → List V → Hp → VK → Prop} (lk : K.lookup f = some ⟨oc, od, .func (PySem.W.fnOf name qual params body scope dV kV doc pm an cdv ct), osl⟩) (hcd : PySem.W.codeIn K cdv qual = true) (S : FnScope N ps scope) (len : ∀ p vs H Q, sp p vs H Q → vs.length = ps.length)
    (hbody : ∀ (A : Around) (outer : List Env) (s : Shared) (H : Hp) (vs : List V) (Q : VK) (p : Addr × Obj), RoomH k (A.deeper (envOfC qual scope s.heap.objs.size f cdv)) → sp p vs H Q →
      ∃ t, PSs (cxH C8.CX0 P w K mg base N qual scope f cdv A outer s H C8.E0 p) body t ∧ t { nx := fun _ H1 => Q .non H1, rt := Q } (L2.start N vs) H) :
    FnS P w K mg base (k + 1) f (PySem.W.fnOf name qual params body scope dV kV doc pm an cdv ct) ps sp := by
  refine ⟨len, fun A outer s H args us vs Q p hr pin e0 hb r hq => ?_⟩
  have kin : K.In s.heap := e0.mod.kin.keeps fun b o e => (e0.bs b o e).1
  have lim : s.heap.NoLimit := e0.mod.nolimit.keeps fun b o e => (e0.bs b o e).1
  have kinds : ∀ y ∈ ps.zip us, scope.names.lookup y.1 = some .local ∨ (scope.names.lookup y.1 = some .cell ∧ ((cellsFrom (s.heap.objs.size + 1) scope.names []).lookup y.1).isSome = true) := fun y hy =>
    (S.par y.1 (List.of_mem_zip hy).1).elim .inl fun q => .inr ⟨q, PySem.W.cellsFrom_some _ _ _ (.inl q)⟩
  refine codeAny_call_function hr.depth (kin _ _ lk) rfl S.co S.gen rfl (PySem.W.codeRec_of kin hcd) (hb _ _ _ _ (wpAny_newFunctionEnv_cells S.kind kinds fun env he s1 xx => ?_))
  subst he
  obtain ⟨t, ht, hw⟩ := hbody A outer s H vs Q p (hr.deeper _) hq
  have I := inv_startH (CX := C8.CX0) (E := C8.E0) S pin e0 (len _ _ _ _ hq) r xx
  refine ⟨lim.keeps xx.toInCall.keep, codeAny_func (wpAny_mono (ht.run [] s1 (L2.start N vs) H _ I hw) (fun fl s2 e2 => ?_) fun _ _ z => z)⟩
  cases fl with
  | ret u =>
    obtain ⟨v, σ2, H2, J, rv, q⟩ := e2
    exact ⟨v, H2, J.os, J.bare, J.base, J.hok, rv, q⟩
  | next =>
    obtain ⟨σ2, H2, J, q⟩ := e2
    exact ⟨.non, H2, J.os, J.bare, J.base, J.hok, rfl, q⟩
  | brk => exact e2.elim fun _ z => z.elim fun _ z => z.2.elim
  | cont => exact e2.elim fun _ z => z.elim fun _ z => z.2.elim
/-- f(e, ..) in a suite that holds p -/
def tCallS' (sp : Addr × Obj → List V → Hp → VK → Prop) (p : Addr × Obj) (t : TA) : TE := fun σ H Q => t σ H fun vs H1 => sp p vs H1 Q
theorem pe_callS' {X : Cx} {k : Nat} {f : Addr} {fd : FuncData} {ps : List Str} {sp : Addr × Obj → List V → Hp → VK → Prop} {x : Str} {q pos : Pos} {e : Expr} {es : List Expr} {t : TA} {p : Addr × Obj} (F : FnS X.prog X.w X.K X.mg X.base k f fd ps sp) (hr : RoomH k X.A) (hp : p ∈ X.pn) (hg : Gl X x) (hm : X.mg x = some (.ref f))
    (hk : PySem.W.keepIn X.K (.ref f) = true) (hb : L2.Binds X.K fd ps []) (ha : PA X (e :: es) t) (hdb : (x == ("__debug__" : Str)) = false := by decide) (he : starEach (e :: es) X.env = (false, eval e X.env) :: starEach es X.env := by rfl) (hpl : (backTo pos (starEach es X.env)).any (·.1) = false := by rfl) :
    PE X (.Call (.Name x q) (e :: es) [] pos) (tCallS' sp p t) := by
  refine ⟨fun pins s σ H Q I h => wpAny_Call_Name_kw (ld_glob I hg hm ?_ hdb)⟩
  refine PySem.W.callWith_K (h₀ := X.base) I.ok.mod.kin hk (thn (ha.run pos pins s σ H _ I h) fun us s1 ⟨vs, H1, I1, r, q⟩ => ⟨I1.kIn, ?_⟩) he hpl
  have bb := hb s1 us I1.kIn (by rw [List.append_nil, ← r.length]; exact F.len _ _ _ _ q)
  rw [List.append_nil] at bb
  have P1 := I1.pin p (List.mem_append_left _ hp)
  have pin : PinOk X.stack H1 s1 p := ⟨P1.1, P1.2.1, fun mem => (List.mem_cons.mp (I1.stkSub p.1 mem)).elim P1.2.2.1 P1.2.2.2.1, P1.2.2.2.2⟩
  refine wpAny_call (codeAny_mono (F.run X.A X.stack s1 H1 ⟨us, []⟩ us vs Q p hr pin I1.env0 bb r q) fun rr s2 hq => ?_)
  cases rr with
  | error z => exact (show False from hq).elim
  | ok fl =>
    cases fl with
    | ret u => exact I1.after hq
    | next => exact False.elim hq
    | brk => exact False.elim hq
    | cont => exact False.elim hq
end EX

namespace EX
open PySem PySem.Spec PyProof.Rows L2
/-! ### what an error tells -/
def Kd (tag : Str) (f : Option Str) : Prop := ((tag = "InvalidRoot" ∨ tag = "InvalidNumber" ∨ tag = "InvalidSlope") ∧ f = some "given") ∨ (tag = "InvalidDigits" ∧ f = some "index") ∨ (tag = "InvalidSaying" ∧ f = some "number") ∨ ((tag = "FieldsDiffer" ∨ tag = "InvalidText") ∧ f = none) ∨ (tag = "InvalidRow" ∧ f = some "name")
/-- what is known of an error of the class C with the own dict at d: its tag, and the value u of its field -/
structure Tells (K : PySem.W.Frag) (H : Hp) (C d : Addr) (fs : List (Str × V)) (tag : Str) (u : V) : Prop where
  at_ : H d = some (.xd fs)
  tag_ : fs.lookup ("tag" : Str) = some (V.str tag)
  noT : PySem.W.findIn K (.ref C) "tag" = some none
  fld : ∃ f, Kd tag f ∧ (f = none → u = .non) ∧ ∀ g, f = some g → fs.lookup g = some u ∧ PySem.W.findIn K (.ref C) g = some none
def spErr (K : PySem.W.Frag) : Addr × Obj → List V → Hp → VK → Prop := fun p vs H Q => vs = [V.ref p.1] ∧ ∃ C d fs tag u, ErrP K H p C d fs ∧ Tells K H C d fs tag u ∧ ∀ H', (∀ b o, H b = some o → H' b = some o) → Q u H'
def spPlaceE (K : PySem.W.Frag) : Addr × Obj → List V → Hp → VK → Prop := fun p vs H Q => vs = [V.ref p.1] ∧ ∃ C d fs tag u, ErrP K H p C d fs ∧ Tells K H C d fs tag u ∧ (tag = "InvalidDigits" ∨ tag = "InvalidSaying") ∧ Q u H
theorem kd_digits {f : Option Str} (h : Kd "InvalidDigits" f) : f = some "index" := by
  rcases h with ⟨h | h | h, _⟩ | ⟨_, h⟩ | ⟨h, _⟩ | ⟨h | h, _⟩ | ⟨h, _⟩
  all_goals first | exact h | exact absurd h (by decide)
theorem kd_saying {f : Option Str} (h : Kd "InvalidSaying" f) : f = some "number" := by
  rcases h with ⟨h | h | h, _⟩ | ⟨h, _⟩ | ⟨_, h⟩ | ⟨h | h, _⟩ | ⟨h, _⟩
  all_goals first | exact h | exact absurd h (by decide)
theorem Tells.same {K : PySem.W.Frag} {H H' : Hp} {C d : Addr} {fs : List (Str × V)} {tag : Str} {u : V} (T : Tells K H C d fs tag u) (s : ∀ b o, H b = some o → H' b = some o) : Tells K H' C d fs tag u := ⟨s _ _ T.at_, T.tag_, T.noT, T.fld⟩
theorem ErrP.same {K : PySem.W.Frag} {H H' : Hp} {p : Addr × Obj} {C d : Addr} {fs : List (Str × V)} (e : ErrP K H p C d fs) (s : ∀ b o, H b = some o → H' b = some o) : ErrP K H' p C d fs := ⟨e.cls, e.dict, e.data, e.ec, s _ _ e.at_⟩
theorem inV_str (x : Str) (ys : List Str) : inV (.str x) (ys.map V.str) = decide (x ∈ ys) := by
  unfold inV
  rw [List.any_map]
  induction ys with
  | nil => simp
  | cons y ys ih =>
    rw [List.any_cons, ih]
    by_cases h : y = x
    · subst h
      simp [eqV]
    · simp [eqV, h, Ne.symm h]
theorem flat_strs (ys : List Str) : (ys.map V.str).all flatV = true := by
  induction ys with
  | nil => rfl
  | cons y ys ih => simpa [flatV] using ih
def L1 : List Str := ["InvalidRoot", "InvalidNumber", "InvalidSlope", "InvalidLimit"]
def L2' : List Str := ["TooMany", "CapacityExceeded"]
def L3 : List Str := ["InvalidDigits", "InvalidSaying", "InvalidCommand", "ParseError"]
def L4 : List Str := ["InvalidText", "FieldsDiffer", "NotSingle", "Endless", "NoTurn", "NothingLeft"]
theorem kd1 {tag : Str} {f : Option Str} (h : Kd tag f) (m : tag ∈ L1) : f = some "given" := by
  rcases h with ⟨_, h⟩ | ⟨rfl, _⟩ | ⟨rfl, _⟩ | ⟨rfl | rfl, _⟩ | ⟨rfl, _⟩
  all_goals first | exact h | exact absurd m (by decide +kernel)
theorem kd2 {tag : Str} {f : Option Str} (h : Kd tag f) : ¬ tag ∈ L2' := by
  rcases h with ⟨rfl | rfl | rfl, _⟩ | ⟨rfl, _⟩ | ⟨rfl, _⟩ | ⟨rfl | rfl, _⟩ | ⟨rfl, _⟩
  all_goals decide +kernel
theorem kd3 {tag : Str} {f : Option Str} (h : Kd tag f) (m : tag ∈ L3) : tag = "InvalidDigits" ∨ tag = "InvalidSaying" := by
  rcases h with ⟨rfl | rfl | rfl, _⟩ | ⟨rfl, _⟩ | ⟨rfl, _⟩ | ⟨rfl | rfl, _⟩ | ⟨rfl, _⟩
  all_goals first | exact .inl rfl | exact .inr rfl | exact absurd m (by decide +kernel)
theorem kd4 {tag : Str} {f : Option Str} (h : Kd tag f) (m : tag ∈ L4) : f = none := by
  rcases h with ⟨rfl | rfl | rfl, _⟩ | ⟨rfl, _⟩ | ⟨rfl, _⟩ | ⟨_, h⟩ | ⟨rfl, _⟩
  all_goals first | exact h | exact absurd m (by decide +kernel)
theorem kd5 {tag : Str} {f : Option Str} (h : Kd tag f) (m1 : ¬ tag ∈ L1) (m3 : ¬ tag ∈ L3) (m4 : ¬ tag ∈ L4) : f = some "name" := by
  rcases h with ⟨rfl | rfl | rfl, _⟩ | ⟨rfl, _⟩ | ⟨rfl, _⟩ | ⟨rfl | rfl, _⟩ | ⟨_, h⟩
  all_goals first | exact h | exact absurd (by decide +kernel) m1 | exact absurd (by decide +kernel) m3 | exact absurd (by decide +kernel) m4
end EX

namespace RF
open PySem PySem.Spec L2 PyProof.Rows EX
open PySem.Calls PySem.HandSPX
open PySem.W (Frag findIn typeIn keepIn subIn hasDictIn nsIn mroIn clsIn codeIn fnX ksEnv ksFn alongIn)
/-! The facts of own errors' classes at the end of a law, for every law (the row's own text comes as s). -/
/-- what a raise of the class CE with one field leaves -/
def Rsd (CE : Addr) (nm fld : Str) (v : V) (H : Hp) (E : XK) : Prop := ∀ d H', (∀ b o, H b = some o → H' b = some o) → H' d = none → E (.ref CE) (some d) (upd H' d (.xd [(fld, v), ("tag", .str nm)]))
structure OwnE (P : Program) (w : World) (K : Frag) (mg : Str → Option Value) (nm fld : Str) (C : Addr) : Prop where
  ex : ∃ fI, Own P K mg nm C fI ∧ ∀ v, Inits P w K mg C fI [v] (fun u => mF fld nm u v)
  noF : findIn K (.ref C) fld = some none
structure TxtE (nm fld q : Str) (s : Stmt) : Prop where
  body : ∃ msg a1 a2 a3 a4 a5 a6 b1 b2 b3 b4 c1 c2 c3 c4, defBody s = [sSup msg a1 a2 a3 a4 a5 a6, sTag nm b1 b2 b3 b4, sFld fld c1 c2 c3 c4] ∧
    (∀ fI cda cc, Txt q (defScope s) fI cda cc msg nm a1 a2 a3 a4 a5 a6 b1 b2 b3 b4) ∧
    (∀ fI cda cc L, swapsWith (.Name fld c3) (some (.Attribute (.Name "self" c1) fld c2)) c4.line (ksEnv q (defScope s) L fI (.ref cda) cc) = pure false)
  hd : ∃ ar, ((defArgs s).posonlyargs ++ (defArgs s).args).head? = some ar ∧ ar.arg = "self"
  fs : (fld == ("self" : Str)) = false
  fd : (fld == ("__debug__" : Str)) = false
  loc : (defScope s).names.lookup fld = some .local
  bind : ∀ (doc pm ct : Value) (an : Option Addr) (cda cc : Addr) (st : Shared) (x : Addr) (v : Value), BindsTo st (ksFn "__init__" q (defArgs s) (defBody s) (defScope s) .none .none doc pm an (.ref cda) ct cc) ⟨[.ref x, v], []⟩ [("self", .ref x), (fld, v)]
theorem ownE {P : Program} {w : World} {K : Frag} {mg : Str → Option Value} {nm fld q : Str} {C fI cda cc : Addr} {s : Stmt} {oc doc pm ct : Value} {od an : Option Addr} {osl : Array (Option Value)} (O : Own P K mg nm C fI) (nF : findIn K (.ref C) fld = some none)
    (lI : K.lookup fI = some ⟨oc, od, .func (ksFn "__init__" q (defArgs s) (defBody s) (defScope s) .none .none doc pm an (.ref cda) ct cc), osl⟩) (hcd : codeIn K (.ref cda) q = true)
    (code : ∃ ccl cdd vs ccs file tf, K.lookup cda = some ⟨ccl, cdd, .fields vs, ccs⟩ ∧ vs[2]? = some (.str file tf) ∧ ((P.main.file : Str) == file) = true) (cell : ∃ cl cld csl, K.lookup cc = some ⟨cl, cld, .cell (some (.ref C)), csl⟩) (T : TxtE nm fld q s) : OwnE P w K mg nm fld C := by
  obtain ⟨msg, a1, a2, a3, a4, a5, a6, b1, b2, b3, b4, c1, c2, c3, c4, e, hT, sw⟩ := T.body
  obtain ⟨ar, hp, har⟩ := T.hd
  have I : IFn P K C fI cda cc (ksFn "__init__" q (defArgs s) (defBody s) (defScope s) .none .none doc pm an (.ref cda) ct cc) := ⟨⟨oc, od, osl, lI⟩, code, cell⟩
  have hb := T.bind doc pm ct an cda cc
  rw [e] at I hb
  exact ⟨⟨fI, O, fun v A R s x t0 mb X hlim hnx hg hb1 hmb hx hxC hroom k => init1 O nF I (hT fI cda cc) hcd hp har (hb s x v) T.loc T.fs T.fd (sw fI cda cc) X hlim hnx hg hb1 hmb hx hxC hroom k⟩, nF⟩
/-- the same of a class whose __init__ takes nothing but self -/
structure OwnT (P : Program) (w : World) (K : Frag) (mg : Str → Option Value) (nm : Str) (C : Addr) : Prop where
  ex : ∃ fI, Own P K mg nm C fI ∧ Inits P w K mg C fI [] (mT nm)
structure TxtT (nm q : Str) (s : Stmt) : Prop where
  body : ∃ msg a1 a2 a3 a4 a5 a6 b1 b2 b3 b4, defBody s = [sSup msg a1 a2 a3 a4 a5 a6, sTag nm b1 b2 b3 b4] ∧ (∀ fI cda cc, Txt q (defScope s) fI cda cc msg nm a1 a2 a3 a4 a5 a6 b1 b2 b3 b4)
  hd : ∃ ar, ((defArgs s).posonlyargs ++ (defArgs s).args).head? = some ar ∧ ar.arg = "self"
  bind : ∀ (doc pm ct : Value) (an : Option Addr) (cda cc : Addr) (st : Shared) (x : Addr), BindsTo st (ksFn "__init__" q (defArgs s) (defBody s) (defScope s) .none .none doc pm an (.ref cda) ct cc) ⟨[.ref x], []⟩ [("self", .ref x)]
theorem ownT {P : Program} {w : World} {K : Frag} {mg : Str → Option Value} {nm q : Str} {C fI cda cc : Addr} {s : Stmt} {oc doc pm ct : Value} {od an : Option Addr} {osl : Array (Option Value)} (O : Own P K mg nm C fI)
    (lI : K.lookup fI = some ⟨oc, od, .func (ksFn "__init__" q (defArgs s) (defBody s) (defScope s) .none .none doc pm an (.ref cda) ct cc), osl⟩) (hcd : codeIn K (.ref cda) q = true)
    (code : ∃ ccl cdd vs ccs file tf, K.lookup cda = some ⟨ccl, cdd, .fields vs, ccs⟩ ∧ vs[2]? = some (.str file tf) ∧ ((P.main.file : Str) == file) = true) (cell : ∃ cl cld csl, K.lookup cc = some ⟨cl, cld, .cell (some (.ref C)), csl⟩) (T : TxtT nm q s) : OwnT P w K mg nm C := by
  obtain ⟨msg, a1, a2, a3, a4, a5, a6, b1, b2, b3, b4, e, hT⟩ := T.body
  obtain ⟨ar, hp, har⟩ := T.hd
  have I : IFn P K C fI cda cc (ksFn "__init__" q (defArgs s) (defBody s) (defScope s) .none .none doc pm an (.ref cda) ct cc) := ⟨⟨oc, od, osl, lI⟩, code, cell⟩
  have hb := T.bind doc pm ct an cda cc
  rw [e] at I hb
  exact ⟨fI, O, fun A R s x t0 mb X hlim hnx hg hb1 hmb hx hxC hroom k => init0 O I (hT fI cda cc) hcd hp har (hb s x) X hlim hnx hg hb1 hmb hx hxC hroom k⟩
/-- the facts of an own error's class over RootError -/
theorem own_of {P : Program} {K : Frag} {mg : Str → Option Value} {nm nm' q nR qR : Str} {C R N NR fI : Addr} {bs bm bsR : List Value} {sn snR : List Str} {sub subR : List Value} {ab abR : Bool} {col colR : Option Bool} {dd ddR : Option Addr} {k0 k1 k2 k3 k5 r0 r1 r2 r3 r5 : Option Value}
    (gC : mg nm = some (.ref C)) (lC : K.lookup C = some (excClassObj nm' q C N bs (.ref R :: bm) true sn sub ab col dd k0 k1 k2 k3 k5 "ValueError.__new__")) (lR : K.lookup R = some (excClassObj nR qR R NR bsR bm true snR subR abR colR ddR r0 r1 r2 r3 r5 "ValueError.__new__")) (vb : refsVE bm = true) (fR : findIn K (.ref R) "__init__" = some (some (.builtin "ValueError.__init__")))
    (sa : findIn K (.ref C) "__setattr__" = some (some (.builtin "object.__setattr__"))) (ga : findIn K (.ref C) "__getattribute__" = some (some (.builtin "BaseException.__getattribute__"))) (gg : findIn K (.ref C) "__getattr__" = some none) (noT : findIn K (.ref C) "tag" = some none)
    (iC : findIn K (.ref C) "__init__" = some (some (.ref fI))) (tC : typeIn K (.ref fI) = some (.type "function")) (kC : keepIn K (.ref C) = true) (exC : subIn K (.ref C) (.type "BaseException") = some true) (tyC : typeIn K (.ref C) = some (.type "type")) (hdC : hasDictIn K C = true) (sf : mroIn K C (.ref C) = some true)
    (noS : mg "super" = none) (opq : nsIn K cStatics "thirdparty.any" = some none) (tp : (P.main.scope.names.lookup ("super" : Str)).isSome = false) : Own P K mg nm C fI := by
  refine ⟨gC, ⟨nm', q, N, bs, _, sn, sub, ab, col, dd, k0, k1, k2, k3, k5, lC, vb, ?_⟩, sa, ga, gg, noT, iC, tC, kC, exC, tyC, hdC, sf, noS, opq, tp⟩
  have e : findIn K (.ref R) "__init__" = alongIn K "__init__" (.ref R :: bm) := by
    show (match K.lookup R with
      | some ⟨_, _, .cls cd, _⟩ => alongIn K "__init__" cd.mro
      | _ => none) = _
    rw [lR] <;> rfl
  rw [← e]
  exact fR
/-- an own error's class against the three of _law_why -/
theorem exm_of {K : Frag} {S C : Addr} {b : Bool} (h1 : subIn K (.ref C) (.type "BaseException") = some true) (h2 : PySem.W.isClsIn K C = true) (h3 : typeIn K (.ref C) = some (.type "type")) (h4 : subIn K (.ref S) (.ref C) = some b) : PySem.W.exmOne K (.ref S) (.ref C) = some b := by
  have e1 : (subIn K (.ref C) (.type "BaseException") == some true) = true := by rw [h1] <;> rfl
  have e2 : ((clsIn K C).isSome && typeIn K (.ref C) == some (.type "type")) = true := by
    have h2' : (clsIn K C).isSome = true := h2
    rw [h2', h3] <;> rfl
  show (if (subIn K (.ref C) (.type "BaseException") == some true) = true then (if ((clsIn K C).isSome && typeIn K (.ref C) == some (.type "type")) = true then subIn K (.ref S) (.ref C) else none) else none) = some b
  rw [if_pos e1, if_pos e2]
  exact h4
theorem exm3 {K : Frag} {S a b c : Value} (h1 : PySem.W.exmOne K S a = some true) (h2 : PySem.W.exmOne K S b = some false) (h3 : PySem.W.exmOne K S c = some false) : PySem.W.exmAny K S [a, b, c] = some true := by
  simp only [PySem.W.exmAny, h1, h2, h3, Bool.or_false, Bool.or_true]
end RF

namespace RF
open PySem L2 PyProof.Rows EX
open LamX (Tabs TabS ExtN TabB CodeO)
/-! what stays behind the making of a lambda; parts of a text; what _law_why needs (for every law) -/
theorem sqX {K : PySem.W.Frag} {H H' : Hp} {a : Addr} {xs : List V} (e : ExtN H H') (h : SqL K H a xs) : SqL K H' a xs := by
  rcases h with (h | ⟨o, h⟩) | h
  · exact .inl (.inl (e _ _ h (fun _ z => by cases z)))
  · exact .inl (.inr ⟨o, e _ _ h (fun _ z => by cases z)⟩)
  · exact .inr h
theorem stX {K : PySem.W.Frag} {H H' : Hp} {a : Addr} {xs : List V} (e : ExtN H H') (h : SqT K H a xs) : SqT K H' a xs := by
  rcases h with (h | ⟨o, h⟩) | h
  · exact .inl (.inl (e _ _ h (fun _ z => by cases z)))
  · exact .inl (.inr ⟨o, e _ _ h (fun _ z => by cases z)⟩)
  · exact .inr h
mutual
theorem Rp.extN {K : PySem.W.Frag} {H H' : Hp} (e : ExtN H H') : ∀ {v : V} (d : D), Rp K H v d → Rp K H' v d
  | _, .non, h => h
  | _, .bl _, h => h
  | _, .int _, h => h
  | _, .str _, h => h
  | _, .lst ds, h => by
    obtain ⟨a, xs, h1, h2, h3, h4⟩ := h
    exact ⟨a, xs, h1, sqX e h2, h3, Rps.extN e ds h4⟩
  | _, .tup ds, h => by
    obtain ⟨a, xs, h1, h2, h3, h4⟩ := h
    exact ⟨a, xs, h1, stX e h2, h3, Rps.extN e ds h4⟩
theorem Rps.extN {K : PySem.W.Frag} {H H' : Hp} (e : ExtN H H') : ∀ {xs : List V} (ds : List D), Rps K H xs ds → Rps K H' xs ds
  | _, [], h => h
  | _, d :: ds, h => by
    obtain ⟨x, r, h1, h2, h3⟩ := h
    exact ⟨x, r, h1, Rp.extN e d h2, Rps.extN e ds h3⟩
end
theorem Bag.extN {H H' : Hp} {b : Addr} (e : ExtN H H') (B : Bag H b) : Bag H' b := by
  obtain ⟨c, ns, i, z, r, h⟩ := B
  exact ⟨c, ns, i, z, r, h.ne, e _ _ h.at_ (fun _ z => by cases z), e _ _ h.cs (fun _ z => by cases z), h.le, h.z0, h.r0, h.r1⟩
theorem BagAt.extN {H H' : Hp} {b c : Addr} (e : ExtN H H') (B : BagAt H b c) : BagAt H' b c := by
  obtain ⟨ns, i, z, r, h⟩ := B
  exact ⟨ns, i, z, r, h.ne, e _ _ h.at_ (fun _ z => by cases z), e _ _ h.cs (fun _ z => by cases z), h.le, h.z0, h.r0, h.r1⟩
theorem Tabs.kpB {T : List (Addr × Str)} {b : Addr} {xs : List V} {H H' : Hp} (t : Tabs T H) (hb : H b = some (.lst xs)) (k : Kp b H H') : Tabs T H' := fun p hp => by
  obtain ⟨ps, h1, h2, h3⟩ := t p hp
  refine ⟨ps, k _ _ (ne_of h1 hb (by intro z; cases z)) h1, h2, fun pos cv hc => ?_⟩
  obtain ⟨c, e1, e2⟩ := h3 pos cv hc
  exact ⟨c, e1, k _ _ (ne_of e2 hb (by intro z; unfold CodeO at z; cases z)) e2⟩
theorem Tabs.kp {T : List (Addr × Str)} {b : Addr} {H H' : Hp} (t : Tabs T H) (B : Bag H b) (k : Kp b H H') : Tabs T H' := let ⟨_, hb⟩ := B.some; Tabs.kpB t hb k
theorem Tabs.kpC {T : List (Addr × Str)} {b c : Addr} {H H' : Hp} (t : Tabs T H) (B : BagAt H b c) (k : Kp b H H') : Tabs T H' := let ⟨_, hb⟩ := B.atB; Tabs.kpB t hb k
/-- a list of one's own is written: the tables stay -/
theorem Tabs.put {T : List (Addr × Str)} {a : Addr} {H : Hp} {xs : List V} {o : HO} (t : Tabs T H) (h : H a = some (.lst xs)) : Tabs T (upd H a o) := Tabs.kpB t h Kp.upd
theorem Tabs.sm {T : List (Addr × Str)} {H H' : Hp} (t : Tabs T H) (e : Same H H') : Tabs T H' := LamX.Tabs.ext t e
/-! ### parts of a text -/
def valOf : Stmt → Expr
  | .Assign _ v _ => v
  | .Expr v _ => v
  | .Return (some v) _ => v
  | _ => .Constant .none 0 ⟨0, 0, 0, 0⟩
def forB : Stmt → List Stmt
  | .For _ _ b _ _ => b
  | _ => []
def ifT : Stmt → Expr
  | .If t _ _ _ => t
  | _ => .Constant .none 0 ⟨0, 0, 0, 0⟩
def boolA (i : Nat) : Expr → Expr
  | .BoolOp _ l _ => l.getD i (.Constant .none 0 ⟨0, 0, 0, 0⟩)
  | e => e
def notA : Expr → Expr
  | .UnaryOp _ e _ => e
  | e => e
def argA (i : Nat) : Expr → Expr
  | .Call _ l _ _ => l.getD i (.Constant .none 0 ⟨0, 0, 0, 0⟩)
  | e => e
def cmpA (i : Nat) : Expr → Expr
  | .Compare a _ l _ => (a :: l).getD i (.Constant .none 0 ⟨0, 0, 0, 0⟩)
  | e => e
def eltA (i : Nat) : Expr → Expr
  | .List l _ => l.getD i (.Constant .none 0 ⟨0, 0, 0, 0⟩)
  | .Tuple l _ _ => l.getD i (.Constant .none 0 ⟨0, 0, 0, 0⟩)
  | e => e
def stA (i : Nat) (l : List Stmt) : Stmt := l.getD i (.Pass ⟨0, 0, 0, 0⟩)
/-! ### what _law_why needs; the table of the def's lambdas -/
structure WhyE (P : Program) (w : World) (K : PySem.W.Frag) (mg : Str → Option Value) (base : Heap) (sW : Stmt) (kf : Nat) (c1 c2 c3 : Addr) : Prop where
  ex : ∃ (g : Addr) (oc : Value) (od an : Option Addr) (kV doc pm cdv ct : Value) (osl : Array (Option Value)), mg "_law_why" = some (.ref g) ∧ PySem.W.keepIn K (.ref g) = true ∧
    K.lookup g = some ⟨oc, od, .func (PySem.W.fnOf "_law_why" "_law_why" (defArgs sW) (defBody sW) (defScope sW) .none kV doc pm an cdv ct), osl⟩ ∧ PySem.W.codeIn K cdv "_law_why" = true ∧
    Binds K (PySem.W.fnOf "_law_why" "_law_why" (defArgs sW) (defBody sW) (defScope sW) .none kV doc pm an cdv ct) ["_law_ask"] []
  m1 : mg "RootError" = some (.ref c1)
  m2 : mg "Missing" = some (.ref c2)
  m3 : mg "NothingLeft" = some (.ref c3)
  fld : ∃ (gf : Addr) (fdf : FuncData), FnS P w K mg base kf gf fdf ["_law_one"] (spErr K) ∧ mg "_law_field" = some (.ref gf) ∧ PySem.W.keepIn K (.ref gf) = true ∧ Binds K fdf ["_law_one"] []
theorem passL {X : Cx} {A : Around} {outer : List Env} {s : Shared} {H : Hp} {E : XK} {scope : Scope} {f c' : Addr} : Passes (L2.CX X.prog X.w) (LamX.lamCx X A outer s H E scope f c') E := fun pins σ H s e s' I c => L2.passes_call (W := fun cls d _ H => E cls d H) (takes_of rfl rfl rfl rfl) (fun _ _ _ _ h => h) pins σ H s e s' I c
theorem rp2 {K : PySem.W.Frag} {H : Hp} {a : Addr} {v1 v2 : V} {d1 d2 : D} (h : H a = some (.tup [v1, v2])) (r1 : Rp K H v1 d1) (r2 : Rp K H v2 d2) : Rp K H (.ref a) (.tup [d1, d2]) := ⟨a, _, rfl, SqT.of h, by show 2 ≤ 100000; decide, _, _, rfl, r1, _, _, rfl, r2, rfl⟩
/-- an error with one field, for _law_why -/
theorem tellsF {K : PySem.W.Frag} {H : Hp} {C d : Addr} {v : V} {nm fld : Str} (noT : PySem.W.findIn K (.ref C) "tag" = some none) (noF : PySem.W.findIn K (.ref C) fld = some none) (nf : (fld == ("tag" : Str)) = false) (kd : Kd nm (some fld)) : Tells K (upd H d (.xd [(fld, v), ("tag", .str nm)])) C d [(fld, v), ("tag", .str nm)] nm v :=
  ⟨upd_same, by
    show (match ("tag" : Str) == fld with | true => some v | false => some (V.str nm)) = some (V.str nm)
    rw [show (("tag" : Str) == fld) = false from by
      have := beq_eq_false_iff_ne.mp nf
      exact beq_eq_false_iff_ne.mpr (Ne.symm this)], noT, some fld, kd, fun z => (by cases z), fun g hg => by
    cases hg
    exact ⟨by rw [List.lookup_cons, beq_self_eq_true], noF⟩⟩
end RF

set_option linter.all false
/-! lambdas as values: made, kept in the heap, called later (own layer; LamX is the library's) -/
namespace LM
open PySem PySem.Spec PyProof.Rows L2
open LamX (Tabs TabS ExtN TabB CodeO)
/-- the text of a lambda -/
structure LTx where
  params : Arguments
  body : Expr
  scope : Scope
abbrev LTx.fn (L : LTx) (q : Str) (cl : List (Str × Addr)) (dV doc pm cdv ct : Value) : FuncData := PySem.W.kdv_fn "<lambda>" q L.params (.expr L.body) L.scope cl dV doc pm cdv ct
abbrev LTx.ob (L : LTx) (q : Str) (cl : List (Str × Addr)) (dV doc pm : Value) (c1 : Addr) (ct : Value) : Obj := PySem.W.kdv_obj "<lambda>" q L.params (.expr L.body) L.scope cl dV doc pm c1 ct
/-- at f: this lambda, its cells, its default, its code -/
def LamO (f : Addr) (L : LTx) (q : Str) (cl : List (Str × Addr)) (dV : Value) (c1 : Addr) : HO := .ext fun h => ∃ doc pm ct, h.get? f = some (L.ob q cl dV doc pm c1 ct)
abbrev lq (X : Cx) : Str := X.env.qual ++ "<lambda>"
abbrev clo (X : Cx) (L : LTx) : List (Str × Addr) := cloFrom X.env.cells L.scope.names []
section
variable {X : Cx} {pins : List (Addr × Obj)} {σ : L2.St} {H : Hp} {s : Shared}
theorem lamO_tbl {f : Addr} {L : LTx} {q : Str} {cl : List (Str × Addr)} {dV : Value} {c1 : Addr} (ps : Array Value) : LamO f L q cl dV c1 ≠ .tbl ps := fun z => by
  unfold LamO at z
  cases z
theorem lam_ok {P : Program} {w : World} {h1 : Heap} {H1 : Hp} {f : Addr} {L : LTx} {q : Str} {cl : List (Str × Addr)} {dV doc pm ct : Value} {c1 : Addr} (e : h1.get? f = some (L.ob q cl dV doc pm c1 ct)) : ObjOk P w H1 h1 f (LamO f L q cl dV c1) :=
  ⟨⟨doc, pm, ct, e⟩, ⟨_, e⟩, fun g1 g2 ⟨x, y, z, u⟩ st => ⟨x, y, z, st _ u⟩⟩
theorem tabs_new {T : List (Addr × Str)} {H1 : Hp} {f : Addr} {o : HO} (t : Tabs T H1) (hf : H1 f = none) : Tabs T (upd H1 f o) := RF.Tabs.sm t fun b u e => by
  rw [upd_ne (ne_of_none e hf)]
  exact e
theorem ext_new {H1 : Hp} {f : Addr} {o : HO} (e : ExtN H H1) (hf : H1 f = none) : ExtN H (upd H1 f o) := fun b u h n => by
  have h1 := e b u h n
  rw [upd_ne (ne_of_none h1 hf)]
  exact h1
/-- the making, behind the defaults -/
theorem tail_new {T : List (Addr × Str)} {c P : Addr} {L : LTx} {pos : Pos} {dV : Value} {E : Value → Shared → Prop} {Q : Value → Shared → Prop} (I : Inv X pins σ H s) (TB : TabB X.base X.mg c P) (hcode : X.env.code = .ref c)
    (hm : (P, lq X) ∈ T) (hu : ∀ p ∈ T, p.1 = P → p.2 = lq X) (hT : Tabs T H) (hfree : ∀ y ∈ L.scope.names, y.2 = .free → ∃ c, X.env.cells.lookup y.1 = some c)
    (k : ∀ (f c1 : Addr) (H1 : Hp) (s1 : Shared), Inv X pins σ H1 s1 → ExtN H H1 → Tabs T H1 → H1 f = some (LamO f L (lq X) (clo X L) dV c1) → H1 c1 = some (CodeO c1 (lq X)) → H f = none → Q (.ref f) s1) :
    wpAny (model X.prog X.w) X.A (makeTail "<lambda>" (lq X) L.params (.expr L.body) L.scope X.env dV .none none pos pos.line) Q E s := by
  obtain ⟨ps, tP, t3, among⟩ := hT _ hm
  have bA : s.heap.BuiltinsAt X.mg P := TB.bm.keeps I.bk
  have gP : s.heap.get? P = some { cls := .none, data := .fields ps } := I.hok P _ tP
  cases ea : codeAmong pos ps.toList with
  | none =>
    refine PySem.W.kdv_makeTail (P := P) (ps := ps) (mg := X.mg) (c := c) (closure_ok hfree) I.ok.glob (I.mod.glob.keeps I.bk) hcode (TB.code.keeps I.bk) gP t3 ea TB.gP bA fun c1 ct doc g tk kx c_ge c_lt hrec tb' => ?_
    obtain ⟨_, oc, vs, tt, e2, oc1, oc2, oc3⟩ := hrec
    cases e2
    have I1 := LamX.inv_table (t' := tk) (more := #[rawInt pos.line, rawInt pos.col, .ref c1]) (h' := g) I tP (fun b o nb e => kx b o nb e) tb' c_ge ⟨oc, vs, tt, oc1, oc2, oc3⟩
    have nc : H c1 = none := I.hok.fresh c_ge
    have x1 : ExtN H (upd (upd H P (.tbl (ps ++ #[rawInt pos.line, rawInt pos.col, .ref c1]))) c1 (CodeO c1 (lq X))) := fun b o e n => by
      have nb : b ≠ P := fun z => n ps (Option.some.inj (e.symm.trans (z ▸ tP)))
      rw [upd_ne (ne_of_none e nc), upd_ne nb]
      exact e
    have x2 : Tabs T (upd (upd H P (.tbl (ps ++ #[rawInt pos.line, rawInt pos.col, .ref c1]))) c1 (CodeO c1 (lq X))) := fun p hp => by
      have el : (ps ++ #[rawInt pos.line, rawInt pos.col, .ref c1]).toList = ps.toList ++ [rawInt pos.line, rawInt pos.col, .ref c1] := by simp
      by_cases hb : p.1 = P
      · rw [hu p hp hb, hb]
        refine ⟨_, by rw [upd_ne (ne_of_none tP nc), upd_same], by rw [el]; exact PySem.TriplesOk_snoc _ _ _ _ t3, fun p1 cv hcv => ?_⟩
        rw [el] at hcv
        rcases LamX.among_app _ t3 hcv with z | z
        · obtain ⟨c0, z1, z2⟩ := among p1 cv z
          exact ⟨c0, z1, x1 _ _ z2 LamX.codeO_ne⟩
        · exact ⟨c1, z, upd_same⟩
      · obtain ⟨ps1, a1, a2, a3⟩ := hT p hp
        refine ⟨ps1, by rw [upd_ne (ne_of_none a1 nc), upd_ne hb]; exact a1, a2, fun p1 cv hcv => ?_⟩
        obtain ⟨c0, z1, z2⟩ := a3 p1 cv hcv
        exact ⟨c0, z1, x1 _ _ z2 LamX.codeO_ne⟩
    have nf : upd (upd H P (.tbl (ps ++ #[rawInt pos.line, rawInt pos.col, .ref c1]))) c1 (CodeO c1 (lq X)) g.objs.size = none := I1.hok.fresh (Nat.le_refl _)
    have le0 : s.heap.objs.size ≤ g.objs.size := Nat.le_trans c_ge (Nat.le_of_lt c_lt)
    refine k g.objs.size c1 _ _ (I1.laid (t' := tk) (h' := g.push (L.ob (lq X) (clo X L) dV doc ((X.mg "__name__").getD .none) c1 ct)) (fun b u e => Heap.get?_push_of_some _ e) (Nat.le_refl _) (lam_ok (Heap.get?_push_size _ rfl))) (ext_new x1 nf) (tabs_new x2 nf) upd_same ?_ (I.hok.fresh le0)
    rw [upd_ne (Nat.ne_of_lt c_lt)]
    exact upd_same
  | some cv =>
    obtain ⟨c1, rfl, hco⟩ := among pos cv ea
    refine PySem.W.kdv_makeTailHit (P := P) (ps := ps) (mg := X.mg) (c := c) (closure_ok hfree) I.ok.glob (I.mod.glob.keeps I.bk) hcode (TB.code.keeps I.bk) gP t3 ea bA fun ct doc g tk kx sz => ?_
    have I1 : Inv X pins σ H { s with heap := g, toks := tk } := I.kept kx
    have nf : H g.objs.size = none := I1.hok.fresh (Nat.le_refl _)
    refine k g.objs.size c1 _ _ (I1.laid (t' := tk) (h' := g.push (L.ob (lq X) (clo X L) dV doc ((X.mg "__name__").getD .none) c1 ct)) (fun b u e => Heap.get?_push_of_some _ e) (Nat.le_refl _) (lam_ok (Heap.get?_push_size _ rfl))) (ext_new (ExtN.refl H) nf) (tabs_new hT nf) upd_same ?_ nf
    rw [upd_ne (ne_of_none hco nf)]
    exact hco
end
end LM

set_option linter.all false
namespace LM
open PySem PySem.Spec PyProof.Rows L2
open LamX (Tabs TabS ExtN TabB CodeO)
/-- what a call without arguments binds: nothing, or one name by its default -/
inductive LK where
  | plain
  | dflt (x : Str) (v : Int)
def LTx.has (L : LTx) : LK → Prop
  | .plain => L.params.defaults = [] ∧ L.params.kw_defaults = [] ∧ ∀ (q : Str) (cl : List (Str × Addr)) (doc pm cv ct : Value), bindArgs (L.fn q cl .none doc pm cv ct) ⟨[], []⟩ = pure []
  | .dflt x v => (∃ j p, L.params.defaults = [.Constant (.int v) j p]) ∧ L.params.kw_defaults = [] ∧ ∀ (q : Str) (cl : List (Str × Addr)) (t : Addr) (doc pm cv ct : Value), ∃ k, bindArgs (L.fn q cl (.ref t) doc pm cv ct) ⟨[], []⟩ = seqItems? (.ref t) >>= k ∧ ∀ u, k (some #[u]) = pure [(x, u)]
def BndOk (κ : LK) (H : Hp) (dV : Value) : Prop := match κ with
  | .plain => dV = .none
  | .dflt _ v => ∃ t, dV = .ref t ∧ H t = some (.tup [V.int v])
/-- at f: the lambda, ready to be called -/
def LamV (L : LTx) (κ : LK) (q : Str) (cl : List (Str × Addr)) (H : Hp) (f : Addr) : Prop := ∃ dV c1, H f = some (LamO f L q cl dV c1) ∧ H c1 = some (CodeO c1 q) ∧ BndOk κ H dV
theorem LamV.ext {L : LTx} {κ : LK} {q : Str} {cl : List (Str × Addr)} {H H' : Hp} {f : Addr} (h : LamV L κ q cl H f) (e : ExtN H H') : LamV L κ q cl H' f := by
  obtain ⟨dV, c1, h1, h2, h3⟩ := h
  refine ⟨dV, c1, e _ _ h1 lamO_tbl, e _ _ h2 LamX.codeO_ne, ?_⟩
  cases κ with
  | plain => exact h3
  | dflt x v =>
    obtain ⟨t, e1, e2⟩ := h3
    exact ⟨t, e1, e _ _ e2 (fun _ z => by cases z)⟩
theorem LamV.same {L : LTx} {κ : LK} {q : Str} {cl : List (Str × Addr)} {H H' : Hp} {f : Addr} (h : LamV L κ q cl H f) (e : Same H H') : LamV L κ q cl H' f := h.ext (ExtN.of e)
/-- a list changes (the bag, a list of one's own): the lambda stays -/
theorem LamV.kp {L : LTx} {κ : LK} {q : Str} {cl : List (Str × Addr)} {H H' : Hp} {f b : Addr} {xs : List V} (h : LamV L κ q cl H f) (hb : H b = some (.lst xs)) (k : RF.Kp b H H') : LamV L κ q cl H' f := by
  obtain ⟨dV, c1, h1, h2, h3⟩ := h
  refine ⟨dV, c1, k _ _ (ne_of h1 hb (fun z => by unfold LamO at z; cases z)) h1, k _ _ (ne_of h2 hb (fun z => by unfold CodeO at z; cases z)) h2, ?_⟩
  cases κ with
  | plain => exact h3
  | dflt x v =>
    obtain ⟨t, e1, e2⟩ := h3
    exact ⟨t, e1, k _ _ (ne_of e2 hb (fun z => by cases z)) e2⟩
def tLamV (T : List (Addr × Str)) (L : LTx) (κ : LK) (q : Str) (cl : List (Str × Addr)) : TE := fun _ H Q => Tabs T H ∧ ∀ f H1, ExtN H H1 → Tabs T H1 → LamV L κ q cl H1 f → H f = none → Q (.ref f) H1
theorem pe_lamv {X : Cx} {T : List (Addr × Str)} {c P : Addr} {L : LTx} {κ : LK} {pos : Pos} (TB : TabB X.base X.mg c P) (hcode : X.env.code = .ref c) (hm : (P, lq X) ∈ T) (hu : ∀ p ∈ T, p.1 = P → p.2 = lq X)
    (hfree : ∀ y ∈ L.scope.names, y.2 = .free → X.env.scope.names.lookup y.1 = some .cell ∨ X.env.scope.names.lookup y.1 = some .free) (hk : L.has κ) : PE X (.Lambda L.params L.body L.scope pos) (tLamV T L κ (lq X) (clo X L)) := by
  refine ⟨fun pins s σ H Q I h => ?_⟩
  obtain ⟨hT, h⟩ := h
  have hf : ∀ y ∈ L.scope.names, y.2 = .free → ∃ c, X.env.cells.lookup y.1 = some c := fun y hy e => by
    rcases hfree y hy e with z | z
    · exact I.ok.has _ (.inl z)
    · exact I.ok.has _ (.inr z)
  cases κ with
  | plain =>
    obtain ⟨d1, d2, hb⟩ := hk
    refine PySem.W.kla_eval (by rw [defaultsOf_eq, d1, d2]; rfl) ?_
    rw [makeFunction_eq]
    simp only [List.zip_nil_right, List.filterMap_nil, List.isEmpty_nil, if_true, pure_bind]
    exact tail_new I TB hcode hm hu hT hf fun f c1 H1 s1 I1 e1 t1 a1 a2 nf => ⟨.ref f, H1, I1, rfl, h f H1 e1 t1 ⟨_, c1, a1, a2, rfl⟩ nf⟩
  | dflt x v =>
    obtain ⟨⟨j, p, d1⟩, d2, hb⟩ := hk
    refine PySem.W.kdv_lam (by rw [d1]; rfl) d2 ?_
    rw [d1]
    refine PySem.W.kdv_all1 (thn ((pe_int (X := X) (i := v) (j := j) (pos := p)).run pins s σ H (fun u H1 => u = .int v ∧ H1 = H) I ⟨rfl, rfl⟩) fun u s1 ⟨w1, H1, I1, r1, e1, e2⟩ => PySem.W.kdv_all0 ?_)
    subst e1 e2
    rw [makeFunction_eq]
    simp only [List.zip_nil_right, List.filterMap_nil, List.isEmpty_nil, List.isEmpty_cons, Bool.false_eq_true, if_false, if_true, pure_bind]
    refine wpAny_bind (wpAny_newTextTuple ?_)
    have nt : H1 s1.heap.objs.size = none := I1.hok.fresh (Nat.le_refl _)
    have I2 := I1.laid (t' := s1.toks) (a := s1.heap.objs.size) (o := .tup [V.int v]) (h' := s1.heap.push { cls := .type "tuple", data := .seq ([u] : List Value).toArray }) (fun b u e => Heap.get?_push_of_some _ e) (Nat.le_refl _)
      ⟨by show 1 ≤ sizeLine; decide, [u], .cons r1 .nil, ⟨_, Heap.get?_push_size _ rfl, rfl, _, rfl⟩⟩
    refine tail_new I2 TB hcode hm hu (tabs_new hT nt) hf fun f c1 H3 s3 I3 e3 t3 a1 a2 nf => ?_
    have nf1 : H1 f = none := by
      by_cases z : f = s1.heap.objs.size
      · rw [z]; exact nt
      · rw [upd_ne z] at nf; exact nf
    refine ⟨.ref f, H3, I3, rfl, h f H3 ((ext_new (ExtN.refl _) nt).trans e3) t3 ⟨_, c1, a1, a2, _, rfl, e3 _ _ upd_same (fun _ z => by cases z)⟩ nf1⟩
end LM

set_option linter.all false
namespace LM
open PySem PySem.Spec PyProof.Rows L2
open LamX (Tabs TabS ExtN TabB CodeO)
/-- the names of a lambda: none of the slots is its own -/
structure LS (N : List Str) (scope : Scope) : Prop where
  kind : scope.kind = .function
  co : scope.isCoroutine = false
  gen : scope.isGenerator = false
  loc : ∀ y ∈ scope.names, y.2 = .local → y.1 ∉ N
  cell : ∀ y ∈ scope.names, y.2 ≠ .cell
def lsB (N : List Str) (scope : Scope) : Bool :=
  decide (scope.kind = .function) && !scope.isCoroutine && !scope.isGenerator && scope.names.all fun y => (!decide (y.2 = .local) || !decide (y.1 ∈ N)) && !decide (y.2 = .cell)
theorem ls_by {N : List Str} {scope : Scope} (h : lsB N scope = true) : LS N scope := by
  unfold lsB at h
  simp only [Bool.and_eq_true, Bool.or_eq_true, Bool.not_eq_true', decide_eq_true_eq, decide_eq_false_iff_not, List.all_eq_true] at h
  obtain ⟨⟨⟨a, b⟩, c⟩, d⟩ := h
  exact ⟨a, b, c, fun y hy e => ((d y hy).1).elim (fun z => absurd e z) id, fun y hy => (d y hy).2⟩
def freeB (sc scope : Scope) : Bool := scope.names.all fun y => !decide (y.2 = .free) || decide (sc.names.lookup y.1 = some .cell) || decide (sc.names.lookup y.1 = some .free)
theorem free_by {sc scope : Scope} (h : freeB sc scope = true) : ∀ y ∈ scope.names, y.2 = .free → sc.names.lookup y.1 = some .cell ∨ sc.names.lookup y.1 = some .free := fun y hy e => by
  have z := List.all_eq_true.mp h y hy
  simp only [Bool.or_eq_true, Bool.not_eq_true', decide_eq_true_eq, decide_eq_false_iff_not] at z
  rcases z with (z | z) | z
  · exact absurd e z
  · exact .inl z
  · exact .inr z
/-- the cells of a lambda hold what the slots tell -/
structure CellsOk (N : List Str) (cl : List (Str × Addr)) (scope : Scope) (σ : L2.St) (H : Hp) (h : Heap) : Prop where
  at_ : ∀ y c, cl.lookup y = some c → H c = none ∧ ∃ v, h.IsCell c v
  inj : ∀ x y c, cl.lookup x = some c → cl.lookup y = some c → x = y
  has : ∀ y, scope.names.lookup y = some .free → ∃ c, cl.lookup y = some c
  val : ∀ (i : Nat) (y : Str) (v : V), N[i]? = some y → σ[i]? = some (some v) → scope.names.lookup y = some .free → ∃ c u, cl.lookup y = some c ∧ RelV v u ∧ h.IsCell c (some u)
theorem cell_un {fs ex : List Addr} {H H' : Hp} {h h' : Heap} (un : Un fs ex H H' h h') {c : Addr} {v : Option Value} (n : H c = none) (nx : c ∉ ex) (z : h.IsCell c v) : h'.IsCell c v ∧ H' c = none := by
  obtain ⟨o, ho, hd⟩ := z
  obtain ⟨sl, q⟩ := un.any ho n nx
  exact ⟨⟨_, q, hd⟩, un.free c o ho n nx⟩
theorem CellsOk.un {N : List Str} {cl : List (Str × Addr)} {scope : Scope} {σ : L2.St} {H H' : Hp} {h h' : Heap} {fs ex : List Addr} (k : CellsOk N cl scope σ H h) (un : Un fs ex H H' h h') (nx : ∀ y c, cl.lookup y = some c → c ∉ ex) : CellsOk N cl scope σ H' h' where
  at_ := fun y c e => by
    obtain ⟨n, v, z⟩ := k.at_ y c e
    obtain ⟨a, b⟩ := cell_un un n (nx y c e) z
    exact ⟨b, v, a⟩
  inj := k.inj
  has := k.has
  val := fun i y v e1 e2 e3 => by
    obtain ⟨c, u, a, r, z⟩ := k.val i y v e1 e2 e3
    exact ⟨c, u, a, r, (cell_un un (k.at_ y c a).1 (nx y c a) z).1⟩
theorem CellsOk.slots {N : List Str} {cl : List (Str × Addr)} {scope : Scope} {σ σ' : L2.St} {H : Hp} {h : Heap} (k : CellsOk N cl scope σ H h) (w : ∀ (i : Nat) (y : Str) (v : V), N[i]? = some y → scope.names.lookup y = some .free → σ'[i]? = some (some v) → σ[i]? = some (some v)) : CellsOk N cl scope σ' H h :=
  ⟨k.at_, k.inj, k.has, fun i y v e1 e2 e3 => k.val i y v e1 (w i y v e1 e3 e2) e3⟩
section
variable {X : Cx} {pins : List (Addr × Obj)} {σ : L2.St} {H : Hp} {s : Shared}
theorem clo_lk (I : X.Ok) {L : LTx} (hfree : ∀ y ∈ L.scope.names, y.2 = .free → X.env.scope.names.lookup y.1 = some .cell ∨ X.env.scope.names.lookup y.1 = some .free) {y : Str} {c : Addr} (e : (clo X L).lookup y = some c) : X.env.cells.lookup y = some c := by
  rcases cloFrom_mem (PySem.mem_of_lookup e) with hm | ⟨h1, h2⟩
  · cases hm
  · obtain ⟨c1, hc⟩ : ∃ c, X.env.cells.lookup y = some c := by
      rcases hfree _ h1 rfl with z | z
      · exact I.has _ (.inl z)
      · exact I.has _ (.inr z)
    have e2 : c = c1 := by rw [h2, hc] <;> rfl
    rw [e2]
    exact hc
theorem cells_of {L : LTx} (I : Inv X pins σ H s) (hfree : ∀ y ∈ L.scope.names, y.2 = .free → X.env.scope.names.lookup y.1 = some .cell ∨ X.env.scope.names.lookup y.1 = some .free) : CellsOk X.N (clo X L) L.scope σ H s.heap where
  at_ := fun y c e => ⟨I.freeC y c (clo_lk I.ok hfree e), I.cell y c (clo_lk I.ok hfree e)⟩
  inj := fun x y c e1 e2 => I.ok.inj x y c (clo_lk I.ok hfree e1) (clo_lk I.ok hfree e2)
  has := fun y e => mem_lookup (cloFrom_has (cells := X.env.cells) (acc := []) (PySem.mem_of_lookup e))
  val := fun i y v e1 e2 e3 => by
    obtain ⟨m, hn, hl⟩ := I.loc
    have fr := hfree _ (PySem.mem_of_lookup e3) rfl
    obtain ⟨u, r, q⟩ := hl i y v e1 e2 (fr.elim (fun z => .inr (.inl z)) (fun z => .inr (.inr z)))
    obtain ⟨c, ec⟩ := mem_lookup (cloFrom_has (cells := X.env.cells) (acc := []) (PySem.mem_of_lookup e3))
    refine ⟨c, u, ec, r, ?_⟩
    have c1 := clo_lk I.ok hfree ec
    rcases q with ⟨z, _⟩ | ⟨_, c3, e', z⟩
    · have z : X.env.scope.names.lookup y = some .local := z
      rcases fr with g | g
      · rw [show X.env.scope.names.lookup y = some .cell from g] at z; cases z
      · rw [show X.env.scope.names.lookup y = some .free from g] at z; cases z
    · rw [c1] at e'
      cases e'
      exact z
end
/-- the context of a lambda's body -/
abbrev lenv (q : Str) (cl : List (Str × Addr)) (scope : Scope) (L f c1 : Addr) : Env := PySem.W.envX q scope L f (.ref c1) cl
def lcx (Z : Cx) (q : Str) (cl : List (Str × Addr)) (A : Around) (outer : List Env) (s : Shared) (H : Hp) (E : XK) (scope : Scope) (f c1 : Addr) : Cx where
  prog := Z.prog
  w := Z.w
  K := Z.K
  mg := Z.mg
  base := Z.base
  N := Z.N
  A := A.deeper (lenv q cl scope s.heap.objs.size f c1)
  s_0 := s
  H_0 := H
  env := lenv q cl scope s.heap.objs.size f c1
  outer := outer
  stack := lenv q cl scope s.heap.objs.size f c1 :: outer
  fn := fun _ => false
  ex := []
  pn := []
  calm := true
  xe := fun e s1 => wpAny (model Z.prog Z.w) (A.deeper (lenv q cl scope s.heap.objs.size f c1)) (leaving (lenv q cl scope s.heap.objs.size f c1) e) (fun _ s2 => L2.CX Z.prog Z.w outer H s E e s2) (fun e2 s2 => L2.CX Z.prog Z.w outer H s E e2 s2) s1
theorem passL {Z : Cx} {q : Str} {cl : List (Str × Addr)} {A : Around} {outer : List Env} {s : Shared} {H : Hp} {E : XK} {scope : Scope} {f c1 : Addr} : Passes (L2.CX Z.prog Z.w) (lcx Z q cl A outer s H E scope f c1) E := fun pins σ H s e s' I c => L2.passes_call (W := fun cls d _ H => E cls d H) (takes_of rfl rfl rfl rfl) (fun _ _ _ _ h => h) pins σ H s e s' I c
theorem start {Z : Cx} {q : Str} {cl : List (Str × Addr)} {A : Around} {outer : List Env} {E : XK} {scope : Scope} {f c1 : Addr} {σ : L2.St} {HZ : Hp} {s1 : Shared} {h1 : Heap} {tk : Nat} {bs : List (Str × Value)} (ck : CellsOk Z.N cl scope σ HZ s1.heap) (L : LS Z.N scope) (hl : σ.length = Z.N.length) (e0 : Env0 Z.prog Z.w Z.K Z.mg Z.base A outer s1 HZ) (hd : A.handled = none)
    (hns : h1.Ns s1.heap.objs.size fun y => bs.reverse.lookup y) (kp : ∀ b o, s1.heap.get? b = some o → h1.get? b = some o) : Inv (lcx Z q cl A outer s1 HZ E scope f c1) [] σ HZ { s1 with heap := h1, toks := tk } := by
  have kc : ∀ {c : Addr} {v : Option Value}, s1.heap.IsCell c v → h1.IsCell c v := fun {c v} ⟨o, ho, hd⟩ => ⟨o, kp _ _ ho, hd⟩
  have nx : ∀ b : Addr, b ∉ (lcx Z q cl A outer s1 HZ E scope f c1).ex := fun b z => absurd (show b ∈ ([] : List Addr) from z) (by simp)
  refine ⟨⟨e0.mod, L.kind, rfl, rfl, Nat.le_refl _, ck.inj, fun y hy => ?_, fun y c z _ => ?_, fun _ => hd, Around.frames_deeper e0.frames, .inr ⟨rfl, rfl⟩, fun b z => absurd z (nx b), e0.bs, e0.bsz, fun b _ _ => nx b, fun b z => absurd z (nx b), e0.funs, e0.frf⟩,
    rfl, e0.bare, Un.kept kp, ⟨_, hns, fun i y v e1 e2 e3 => ?_⟩, fun y c e => ?_, e0.hok.fresh (Nat.le_refl _), fun y c e => (ck.at_ y c e).1, fun p hp => absurd (show p ∈ ([] : List (Addr × Obj)) ++ [] from hp) (by simp), e0.hok.kept kp, hl⟩
  · have hy : scope.names.lookup y = some .cell ∨ scope.names.lookup y = some .free := hy
    rcases hy with z | z
    · exact absurd rfl (L.cell _ (PySem.mem_of_lookup z))
    · exact ck.has y z
  · have z : false = true := z
    cases z
  · have e3 : Vis scope y := e3
    rcases e3 with z | z | z
    · exact absurd (List.mem_of_getElem? e1) (L.loc _ (PySem.mem_of_lookup z) rfl)
    · exact absurd rfl (L.cell _ (PySem.mem_of_lookup z))
    · obtain ⟨c, u, a, r, g⟩ := ck.val i y v e1 e2 z
      exact ⟨u, r, .inr ⟨.inr z, c, a, kc g⟩⟩
  · obtain ⟨_, v, z⟩ := ck.at_ y c e
    exact ⟨v, kc z⟩
end LM

set_option linter.all false
namespace LM
open PySem PySem.Spec PyProof.Rows L2
open LamX (Tabs TabS ExtN TabB CodeO GivesTo)
/-- what a call binds -/
def bnds (κ : LK) (u : Value) : List (Str × Value) := match κ with
  | .plain => []
  | .dflt x _ => [(x, u)]
def LK.loc (κ : LK) (scope : Scope) : Prop := match κ with
  | .plain => True
  | .dflt x _ => scope.names.lookup x = some .local
/-- what is known of a lambda's text, and of its body -/
structure LOk (Z : Cx) (q : Str) (cl : List (Str × Addr)) (L : LTx) (κ : LK) (k : Nat) (t : XK → TE) : Prop where
  ls : LS Z.N L.scope
  has : L.has κ
  loc : κ.loc L.scope
  body : ∀ (A : Around) (outer : List Env) (s : Shared) (H : Hp) (E : XK) (f c1 : Addr), Room k (A.deeper (lenv q cl L.scope s.heap.objs.size f c1)) → PE (lcx Z q cl A outer s H E L.scope f c1) L.body (t E)
/-- x(), in the def that got the lambda -/
theorem act {Z : Cx} {CXg : CXT} {Eg : XK} {Ng : List Str} {qg q : Str} {sg : Scope} {g f : Addr} {cdg : Value} {L : LTx} {κ : LK} {cl : List (Str × Addr)} {k i : Nat} {a : Str} {pn : List (Addr × Obj)} {xe : Value → Shared → Prop} {W : WX} {E : XK} {t : XK → TE} {p1 p2 : Pos} {A : Around} {stk : List Env} {s : Shared} {H : Hp} {σ : L2.St}
    (O : LOk Z q cl L κ k t) (ck : CellsOk Z.N cl L.scope σ H s.heap) (hl : σ.length = Z.N.length)
    (tk : Takes ((cxOf CXg Z.prog Z.w Z.K Z.mg Z.base Ng qg sg g cdg A stk s H Eg).tr pn xe) W) (hW : ∀ cls d σ' H', E cls d H' → W cls d σ' H') (hr : Room (k + 1) (A.deeper (envOfC qg sg s.heap.objs.size g cdg)))
    (hN : Ng[i]? = some a) (hv : Vis sg a) (hd : (a == ("__debug__" : Str)) = false := by decide) (hcd : (a == ("__classdict__" : Str)) = false := by decide) :
    PE ((cxOf CXg Z.prog Z.w Z.K Z.mg Z.base Ng qg sg g cdg A stk s H Eg).tr pn xe) (.Call (.Name a p1) [] [] p2) (fun σZ HZ Q => σZ[i]? = some (some (.ref f)) ∧ LamV L κ q cl HZ f ∧ t E σ HZ Q) := by
  refine ⟨fun pinsZ sZ σZ HZ Q IZ h => ?_⟩
  obtain ⟨hs, hlam, ht⟩ := h
  refine wpAny_Call_Name_kw (thn ((pe_var (pos := p1) (i := i) hN hv hd hcd).run pinsZ sZ σZ HZ (fun v H1 => v = .ref f ∧ H1 = HZ) IZ ⟨.ref f, hs, rfl, rfl⟩) fun u s1 ⟨v, H1, I1, r1, q1⟩ => ?_)
  obtain ⟨ev, eH⟩ := q1
  subst ev
  rw [eH] at I1
  obtain rfl : u = Value.ref f := r1
  obtain ⟨dV, c1, l1, l2, l3⟩ := hlam
  obtain ⟨⟨doc, pm, ct, ob⟩, _, _⟩ := I1.hok f _ l1
  obtain ⟨⟨oc, vs, tt, hoc, hdc, hvc⟩, _, _⟩ := I1.hok c1 _ l2
  refine PySem.W.callWith_F0 ⟨_, _, _, _, ob⟩ ?_
  have un : Un (frs stk) [] H HZ s.heap s1.heap := I1.base
  have ck1 := ck.un un fun _ _ _ z => nomatch z
  -- what the call binds
  obtain ⟨u, hbd⟩ : ∃ u, BindsTo s1 (L.fn q cl dV doc pm (.ref c1) ct) ⟨[], []⟩ (bnds κ u) := by
    have hh := O.has
    cases κ with
    | plain =>
      have l3 : dV = .none := l3
      subst l3
      exact ⟨.none, .of_eq (hh.2.2 _ _ _ _ _ _)⟩
    | dflt x v =>
      obtain ⟨tp, rfl, ht2⟩ := l3
      obtain ⟨_, its, rv, o, ho, hcl, n, hdt⟩ := I1.hok tp _ ht2
      cases rv with
      | cons r rr =>
        cases rr
        obtain ⟨kk, e1, e2⟩ := hh.2.2 q cl tp doc pm (.ref c1) ct
        exact ⟨_, BindsTo.of_defaults rfl ho hdt e1 (e2 _)⟩
  have rc : codeAny (model Z.prog Z.w) (A.deeper (envOfC qg sg s.heap.objs.size g cdg)) (.call (.ref f) ⟨[], []⟩) (CR (L2.CX Z.prog Z.w) (envOfC qg sg s.heap.objs.size g cdg :: stk) Z.prog Z.w HZ s1 Q E) s1 := by
    refine PySem.W.kla_callFunE hr.depth ob rfl O.ls.co O.ls.gen rfl ⟨c1, oc, vs, tt, rfl, hoc, hdc, hvc⟩ (hbd _ _ _ _ ?_)
    refine wpAny_newFunctionEnv (fun y hy => O.ls.cell y hy) (fun y hy => ?_) (fun h1 hns hsb => ⟨I1.nolimit.fresh _ hsb, ?_⟩) O.ls.kind
    · have hh := O.loc
      cases κ with
      | plain => exact absurd hy (by simp [bnds])
      | dflt x v =>
        obtain rfl : y = (x, u) := by simpa [bnds] using hy
        exact hh
    have kp : ∀ b o, s1.heap.get? b = some o → h1.get? b = some o := fun b o e => hsb.extBut b o (Nat.ne_of_lt (Heap.lt_size e)) (Heap.get?_push_of_some _ e)
    have J : Inv (lcx Z q cl (A.deeper (envOfC qg sg s.heap.objs.size g cdg)) (envOfC qg sg s.heap.objs.size g cdg :: stk) s1 HZ E L.scope f c1) [] σ HZ { s1 with heap := h1, toks := s1.toks + (bnds κ u).length } := start ck1 O.ls hl I1.env0 hr.hd hns kp
    show codeAny _ _ (.expr L.body (lenv q cl L.scope s1.heap.objs.size f c1)) _ _
    refine PySem.W.kla_codeExpr (wpAny_mono ((O.body _ _ s1 HZ E f c1 (hr.deeper _)).run [] _ _ HZ Q J ht) (fun v s2 hq => ?_) fun e s2 hq => hq)
    obtain ⟨w1, H2, J2, rv, qq⟩ := hq
    exact ⟨w1, H2, J2.os, J2.bare, J2.base, J2.hok, rv, qq⟩
  have pass : Passes (L2.CX Z.prog Z.w) ((cxOf CXg Z.prog Z.w Z.K Z.mg Z.base Ng qg sg g cdg A stk s H Eg).tr pn xe) E := passes_call tk hW
  refine wpAny_call (codeAny_mono rc fun r s2 hq => ?_)
  cases r with
  | error e => exact pass pinsZ σZ HZ s1 e s2 I1 hq
  | ok fl =>
    cases fl with
    | ret u => exact I1.after hq
    | next => exact hq.elim
    | brk => exact hq.elim
    | cont => exact hq.elim
/-- the def that calls what it got, and all that is known of it -/
structure Asks (Z : Cx) (x : Str) (q : Str) (k : Nat) (TT : (XK → Hp → VK → Prop) → Hp → VK → Prop) : Prop where
  ex : ∃ (g : Addr) (pg : Arguments) (bg : List Stmt) (sg : Scope) (dV kV doc pm cdv ct oc : Value) (an od : Option Addr) (osl : Array (Option Value)) (Ng : List Str) (a : Str),
    Z.mg x = some (.ref g) ∧ PySem.W.keepIn Z.K (.ref g) = true ∧ Z.K.lookup g = some ⟨oc, od, .func (PySem.W.fnOf x x pg bg sg dV kV doc pm an cdv ct), osl⟩ ∧ PySem.W.codeIn Z.K cdv x = true ∧
    L2.Binds Z.K (PySem.W.fnOf x x pg bg sg dV kV doc pm an cdv ct) [a] [] ∧ FnScope Ng [a] sg ∧ Ng[0]? = some a ∧ Vis sg a ∧ (a == ("__debug__" : Str)) = false ∧ (a == ("__classdict__" : Str)) = false ∧ GivesTo Z Ng x sg g cdv bg a q TT
  db : (x == ("__debug__" : Str)) = false
theorem vals_one {v : V} {us : List Value} (r : Vals [v] us) : ∃ u, us = [u] ∧ RelV v u := by
  cases r with
  | cons r rr =>
    cases rr
    exact ⟨_, rfl, r⟩
/-- x(e), e a lambda that was made in this def or around it: what its cells hold is told at this very state -/
theorem call_lam {Z : Cx} {x q : Str} {k : Nat} {TT : (XK → Hp → VK → Prop) → Hp → VK → Prop} {e : Expr} {te : TE} {p pos : Pos} {pins : List (Addr × Obj)} {s : Shared} {σ : L2.St} {H : Hp} {Q : VK} (I : Inv Z pins σ H s) (As : Asks Z x q k TT) (hg : Gl Z x) (hr : Room (k + 2) Z.A) (he : PE Z e te)
    (hte : te σ H fun v H1 => ∃ (f : Addr) (L : LTx) (κ : LK) (cl : List (Str × Addr)) (t : XK → TE), v = .ref f ∧ LOk Z q cl L κ k t ∧ (∀ s1 : Shared, Inv Z pins σ H1 s1 → CellsOk Z.N cl L.scope σ H1 s1.heap) ∧ LamV L κ q cl H1 f ∧ TT (fun E H' Q' => LamV L κ q cl H' f ∧ t E σ H' Q') H1 Q)
    (hse : starEach [e] Z.env = [(false, eval e Z.env)]) : wpAny (model Z.prog Z.w) Z.A (eval (.Call (.Name x p) [e] [] pos) Z.env) (EP Z pins σ Q) Z.xe s := by
  obtain ⟨g, pg, bg, sg, dV, kV, doc, pm, cdv, ct, oc, an, od, osl, Ng, a, hm, hk, lk, hcg, hb, Sg, hNg, hva, hda, hca, hG⟩ := As.ex
  refine wpAny_Call_Name_kw (ld_glob I hg hm ?_ As.db)
  refine PySem.W.callWith_K (h₀ := Z.base) I.ok.mod.kin hk ?_ (by rw [hse]; rfl) (by rfl)
  rw [hse]
  refine Calls.spliced_cons (thn (he.run pins s σ H _ I hte) fun u s1 ⟨v, H1, I1, r1, f, L, κ, cl, t, e1, O, ck, lv, h⟩ => ?_)
  subst e1
  obtain rfl : u = Value.ref f := r1
  refine Calls.spliced_nil ⟨I1.kIn, ?_⟩
  obtain ⟨dL, c1, l1, l2, l3⟩ := id lv
  have rc : codeAny (model Z.prog Z.w) Z.A (.call (.ref g) ⟨[.ref f], []⟩) (CR C8.CX0 Z.stack Z.prog Z.w H1 s1 Q C8.E0) s1 := by
    refine LamX.run_ofS (N := Ng) (ps := [a]) (us := [.ref f]) (vs := [.ref f]) lk hcg Sg hr I1.env0 (hb s1 [.ref f] I1.kIn rfl) (.cons rfl .nil) rfl fun hr1 => ?_
    refine (hG f c1 s1 H1 Q (fun E H' Q' => LamV L κ q cl H' f ∧ t E σ H' Q') (fun W pn xe E p1 p2 tk hW => ?_) l2 h).elim fun t1 z => ⟨t1, z.1.nox, z.2⟩
    have ac := act (p1 := p1) (p2 := p2) O (ck s1 I1) I1.len tk hW hr1 hNg hva hda hca (f := f)
    exact ⟨fun pn2 s2 σ2 H2 Q2 I2 h2 => ac.run pn2 s2 σ2 H2 Q2 I2 ⟨h2.1, h2.2.2⟩⟩
  refine wpAny_call (codeAny_mono rc fun r s2 hq => ?_)
  cases r with
  | error z => exact (show False from hq).elim
  | ok fl =>
    cases fl with
    | ret z => exact I1.after hq
    | next => exact hq.elim
    | brk => exact hq.elim
    | cont => exact hq.elim
end LM

set_option linter.all false
/-! [e for target in iter], where e may look at what the cells of the def around hold -/
namespace LM
open PySem PySem.Spec PyProof.Rows L2
/-- the element's reading may rest on the state in which the block begins -/
def EltOk (X : Cx) (σ : L2.St) (scope : Scope) (vs : List Nat) (elt : Expr) (te : TE) : Prop :=
  ∀ (pins0 : List (Addr × Obj)) (sB : Shared) (HB : Hp) (C : Addr) (cl : List (Str × Addr)) (fp : List Addr), Inv X pins0 σ HB sB → (∀ b ∈ fp, ∀ y c, X.env.cells.lookup y = some c → c ≠ b) →
    ∀ (pins : List (Addr × Obj)) (s : Shared) (σE : L2.St) (H : Hp) (Q : VK), wipe σE vs = wipe σ vs → Inv (X.blk sB HB scope (compEnvC scope cl C X.env) fp) pins σE H s → te σE H Q →
      wpAny (model X.prog X.w) X.A (eval elt (compEnvC scope cl C X.env)) (EP (X.blk sB HB scope (compEnvC scope cl C X.env) fp) pins σE Q) (fun _ _ => False) s
section
variable {X : Cx} {pins : List (Addr × Obj)} {s : Shared} {σ : L2.St} {H : Hp} {Q : VK} {elt tg iter : Expr} {scope : Scope} {own : List (Str × Nat)} {pos : Pos} {wi : TI} {g : TG} {te : TE}
theorem lcx_run (calm : X.calm = true) (nd : X.N.Nodup) (I : Inv X pins σ H s) (hi : PI X tg iter wi) (ok : BlkOk X.N X.env.scope scope own)
    (hg : ∀ (s : Shared) (H : Hp) (C : Addr) (cl : List (Str × Addr)) (fp : List Addr), PG (X.blk s H scope (compEnvC scope cl C X.env) fp) tg g) (he : EltOk X σ scope (own.map (·.2)) elt te) (hs : ∀ x, foldedSetIterable iter X.env x = pure x)
    (h : tLc wi g tYes te (own.map (·.2)) σ H Q) : wpAny (model X.prog X.w) X.A (eval (.ListComp elt [⟨tg, iter, [], 0⟩] scope pos) X.env) (EP X pins σ Q) X.xe s := by
  rw [eval_ListComp]
  have fr : ∀ y ∈ scope.names, y.2 = .free → ∃ c, X.env.cells.lookup y.1 = some c := fun y hy e => (ok.free y hy e).elim (fun z => I.ok.has _ (.inl z)) fun z => I.ok.has _ (.inr z)
  refine wpAny_comprehension_free (use := none) rfl hs (closure_ok fr) ok.kind (fun y hy e => by rw [ok.uniq y hy, e])
    (thn (hi.run pins s σ H _ I h) fun xv sa hx => thn hx fun itv sb hz => ?_)
  obtain ⟨it, fp, tn, J, Hb, rfl, Ib, T, stb, fb, qb⟩ := hz
  refine wpAny_newObj_type (newEnv_comp ?_) (by show 0 ≤ sizeLine; decide)
  obtain ⟨D, hD⟩ : ∃ D, sb.heap.objs.size = D := ⟨_, rfl⟩
  have nD : Hb D = none := Ib.hok.fresh (Nat.le_of_eq hD)
  obtain ⟨W, ⟨m0, w0⟩, turn⟩ := qb D nD
  rw [hD]
  have Ic0 : Inv X pins σ (upd Hb D (.lst [])) { sb with heap := sb.heap.push { cls := .type "list", data := .seq ([] : List Value).toArray } } :=
    Ib.laid (t' := sb.toks) (fun b o e => Heap.get?_push_of_some _ e) (Nat.le_of_eq hD) ⟨Nat.zero_le _, [], 0, .nil, by rw [← hD]; exact Heap.get?_push_size _ rfl⟩
  have fpl : ∀ b ∈ fp, b < sb.heap.objs.size := fun b hb => (T.obj _ _ stb b hb).elim fun o e => Heap.lt_size e.1
  have heq0 : ({ sb with heap := sb.heap.push { cls := .type "list", data := .seq ([] : List Value).toArray } } : Shared).heap = sb.heap.push { cls := .type "list", data := .seq ([] : List Value).toArray } := rfl
  generalize hsc : ({ sb with heap := sb.heap.push { cls := .type "list", data := .seq ([] : List Value).toArray } } : Shared) = sc at Ic0 heq0 ⊢
  obtain ⟨Hc, hHc⟩ : ∃ Hc, upd Hb D (.lst []) = Hc := ⟨_, rfl⟩
  rw [hHc] at Ic0 w0
  have fc : ∀ b ∈ fp, FpOk X pins Hc b ∧ b < sc.heap.objs.size := fun b hb => by
    have lt := fpl b hb
    have ne : b ≠ D := hD ▸ Nat.ne_of_lt lt
    refine ⟨⟨?_, (fb b hb).2⟩, by rw [heq0, Heap.size_push]; exact Nat.lt_succ_of_lt lt⟩
    rw [← hHc, upd_ne ne]
    exact (fb b hb).1
  have stc : tn 0 sc.heap := T.keep _ _ _ stb fun b _ o e => by rw [heq0]; exact Heap.get?_push_of_some _ e
  have Id := block_start Ic0 ok nd fc
  generalize hcl : cellsFrom (sc.heap.objs.size + 1) scope.names (cloFrom X.env.cells scope.names []) = cl at Id
  have goal2 : codeAny (model X.prog X.w) X.A (.compStart (.ListComp elt [⟨tg, iter, [], 0⟩] scope pos) 0 (.ref it) (.ref D) (compEnvC scope cl sc.heap.objs.size X.env)) (compPost (model X.prog X.w) X.A X.xe none (EP X pins σ Q) (.ref D) sc.heap.objs.size) { sc with heap := pushCells (sc.heap.push { cls := .type "dict", data := .dict #[] }) scope.names } := by
    have ee := he pins sc Hc sc.heap.objs.size cl fp Ic0 fun b hb y c e => (fc b hb).1.2.2.2.2.1 y c e
    have gg := hg sc Hc sc.heap.objs.size cl fp
    have nB : ∀ b ∈ fp, Hc b = none := fun b hb => (fc b hb).1.1
    have std : tn 0 (pushCells (sc.heap.push { cls := .type "dict", data := .dict #[] }) scope.names) := T.keep _ _ _ stc fun b _ o e => pushCells_keeps _ _ _ _ (Heap.get?_push_of_some _ e)
    obtain ⟨ce, hce⟩ : ∃ ce, compEnvC scope cl sc.heap.objs.size X.env = ce := ⟨_, rfl⟩
    have lce : ce.locals = sc.heap.objs.size := by rw [← hce]; rfl
    rw [hce] at ee gg Id ⊢
    -- the iterator's objects, in the block
    have fpB : ∀ {σ1 : L2.St} {H1 : Hp} {s1 : Shared}, Inv (X.blk sc Hc scope ce fp) [] σ1 H1 s1 → (∀ b ∈ fp, H1 b = none) → ∀ b ∈ fp, FpOk (X.blk sc Hc scope ce fp) [] H1 b := fun {σ1 H1 s1} J n b hb =>
      ⟨n b hb, (J.ok.exf b hb).1, J.ok.exfs b hb, .inl hb, fun y c e => (J.ok.exf b hb).2 y c e, fun q hq => absurd (show q ∈ ([] : List (Addr × Obj)) ++ [] from hq) (by simp)⟩
    have turns : codeAny (model X.prog X.w) X.A (.compLoop (.ListComp elt [⟨tg, iter, [], 0⟩] scope pos) 0 (.ref it) (.ref D) ce) (compPost (model X.prog X.w) X.A X.xe none (EP X pins σ Q) (.ref D) sc.heap.objs.size) { sc with heap := pushCells (sc.heap.push { cls := .type "dict", data := .dict #[] }) scope.names } := by
      refine compLoop_any (fun n s1 => ∃ j H1, W j n H1 ∧ Inv (X.blk sc Hc scope ce fp) [] (wipe σ (own.map (·.2))) H1 s1 ∧ (∀ b ∈ fp, H1 b = none) ∧ tn j s1.heap) ?_ m0 ⟨0, Hc, w0, Id, nB, std⟩
      rintro n s1 ⟨j, H1, w1, I1, n1, st1⟩
      rcases turn j n H1 w1 with ⟨stop, fin⟩ | ⟨go, Nx, less, step⟩
      · refine thnF (T.done (X.blk sc Hc scope ce fp) rfl rfl rfl calm j [] s1 _ H1 (fun _ _ => False) I1 (fpB I1 n1) st1 stop) fun r s2 ⟨er, I2⟩ => ?_
        subst er
        have back : Inv X pins σ H1 s2 := Ic0.call' (ch := fp) I2.os I2.base I2.hok I2.bare fun b hb =>
          let z := (fc b hb).1
          ⟨z.2.2.2.1, z.2.1, z.2.2.2.2.1, z.2.2.2.2.2⟩
        have nL : H1 sc.heap.objs.size = none := lce ▸ I2.free
        obtain ⟨mm, hn, _⟩ := I2.loc
        refine ⟨mm, lce ▸ hn, fun g2 sb2 => ?_⟩
        obtain ⟨f0, f1, f2, f3, f4, f5⟩ := Ic0.fpOk (Nat.le_refl _) nL
        have fr3 : FpOk X pins H1 sc.heap.objs.size := Ic0.fpOk (Nat.le_refl _) nL
        exact ⟨.ref D, H1, back.turned (t' := s2.toks) (fun b o hb e => (sb2.2 b hb).trans e) f0 f1 f3 f4 f5, rfl, fin⟩
      · refine thnF (T.item (X.blk sc Hc scope ce fp) rfl rfl rfl calm j [] s1 _ H1 (fun _ _ => False) I1 (fpB I1 n1) st1 go) fun r s2 ⟨u, er, h2⟩ => ?_
        subst er
        refine thnF h2 fun _ s3 ⟨x, H3, I3, r3, y3, st3, n3⟩ => ?_
        have J3 := I3.pinned (fpB I3 n3) (T.obj _ _ st3)
        refine thnF (gg.run _ s3 _ H3 x u _ J3 r3 (step x H3 y3)) fun _ s4 ⟨σ4, H4, I4, wp4, q4⟩ => ?_
        refine wpAny_tests_nil ?_
        have q5 : te σ4 H4 fun y H5 => ∃ acc, H5 D = some (.lst acc) ∧ acc.length < sizeLine ∧ Nx (upd H5 D (.lst (acc ++ [y]))) := by
          have z : (if true = true then (te σ4 H4 fun y H5 => ∃ acc, H5 D = some (.lst acc) ∧ acc.length < sizeLine ∧ Nx (upd H5 D (.lst (acc ++ [y])))) else Nx H4) := q4
          rwa [if_pos rfl] at z
        simp only [if_true]
        refine thnF (ee _ s4 σ4 H4 _ wp4 I4 q5) fun z s5 ⟨yv, H5, I5, r5, acc, hD5, lt5, nx⟩ => ?_
        refine app_ok (X := X.blk sc Hc scope ce fp) I5 hD5 lt5 r5 fun s6 I6 => ?_
        obtain ⟨m1, lm, w6⟩ := less _ nx
        have pin6 : ∀ b ∈ fp, ∀ o, s3.heap.get? b = some o → s6.heap.get? b = some o ∧ upd H5 D (.lst (acc ++ [yv])) b = none := fun b hb o e =>
          let z := I6.pin (b, o) (List.mem_append_right _ (List.mem_append_right _ (mem_pinsAt hb e)))
          ⟨z.1, z.2.1⟩
        have ll : (wipe σ (own.map (·.2))).length = σ4.length := by rw [← wp4, wipe_length]
        refine ⟨m1, lm, j + 1, _, w6, (I6.unpinned (pins := [])).weak ll (fun i v e => ?_), fun b hb => ?_, T.keep _ _ _ st3 fun b hb o e => (pin6 b hb o e).1⟩
        · rw [← wp4] at e
          exact (wipe_some e).1
        · obtain ⟨o, e, _⟩ := T.obj _ _ st3 b hb
          exact (pin6 b hb o e).2
    exact codeAny_compStart_list turns (T.self X.A 0 _ _ _ std turns)
  exact goal2
end
end LM

set_option linter.all false
/-! _law_why(lambda ..), _law_why(name), [_law_why(name) for name in list] -/
namespace LM
open PySem PySem.Spec PyProof.Rows L2
open LamX (Tabs TabS ExtN TabB CodeO GivesTo)
/-- a lambda that the def makes: its text, what its call binds, its cells, its body's reading -/
structure LEnt where
  L : LTx
  κ : LK
  cl : List (Str × Addr)
  t : XK → TE
/-- all that is told of it -/
structure LGo (X : Cx) (k : Nat) (m : LEnt) : Prop where
  ok : LOk X (lq X) m.cl m.L m.κ k m.t
  cl : m.cl = clo X m.L
  free : ∀ y ∈ m.L.scope.names, y.2 = .free → X.env.scope.names.lookup y.1 = some .cell ∨ X.env.scope.names.lookup y.1 = some .free
def tAsk (TT : (XK → Hp → VK → Prop) → Hp → VK → Prop) (q : Str) (ls : List LEnt) (te : TE) : TE := fun σ H Q => te σ H fun v H1 => ∃ (f : Addr) (m : LEnt), m ∈ ls ∧ v = .ref f ∧ LamV m.L m.κ q m.cl H1 f ∧ TT (fun E H' Q' => LamV m.L m.κ q m.cl H' f ∧ m.t E σ H' Q') H1 Q
section
variable {X : Cx} {x : Str} {k : Nat} {TT : (XK → Hp → VK → Prop) → Hp → VK → Prop} {ls : List LEnt} {p pos : Pos}
theorem pe_ask {e : Expr} {te : TE} (As : Asks X x (lq X) k TT) (hg : Gl X x) (hr : Room (k + 2) X.A) (hls : ∀ m ∈ ls, LGo X k m) (he : PE X e te) (mono : ∀ σ H (Q1 Q2 : VK), (∀ v H', Q1 v H' → Q2 v H') → te σ H Q1 → te σ H Q2) (hse : starEach [e] X.env = [(false, eval e X.env)] := by rfl) : PE X (.Call (.Name x p) [e] [] pos) (tAsk TT (lq X) ls te) := by
  refine ⟨fun pins s σ H Q I h => call_lam I As hg hr he (mono σ H _ _ (fun v H1 z => ?_) h) hse⟩
  obtain ⟨f, m, hm, rfl, lv, z⟩ := z
  have G := hls m hm
  refine ⟨f, m.L, m.κ, m.cl, m.t, rfl, G.ok, fun s1 I1 => ?_, lv, z⟩
  rw [G.cl]
  exact cells_of I1 G.free
/-- the names of the comprehension are none of the lambda's -/
def OffOwn (own : List (Str × Nat)) (m : LEnt) : Prop := ∀ y ∈ m.L.scope.names, y.2 = .free → y.1 ∉ own.map (·.1)
theorem wipe_off {σ : L2.St} {i : Nat} : ∀ {vs : List Nat}, i ∉ vs → (wipe σ vs)[i]? = σ[i]?
  | [], _ => rfl
  | v :: vs, h => by
    unfold wipe
    rw [List.getElem?_set_ne (fun z => h (by simp [z]))]
    exact wipe_off fun z => h (List.mem_cons_of_mem _ z)
/-- x(v) within the block -/
def tAskV (TT : (XK → Hp → VK → Prop) → Hp → VK → Prop) (q : Str) (ls : List LEnt) (j : Nat) : TE := fun σ H Q => ∃ (f : Addr) (m : LEnt), m ∈ ls ∧ σ[j]? = some (some (.ref f)) ∧ LamV m.L m.κ q m.cl H f ∧ TT (fun E H' Q' => LamV m.L m.κ q m.cl H' f ∧ m.t E σ H' Q') H Q
theorem pe_lcask {j : Nat} {tg iter e : Expr} {scope : Scope} {own : List (Str × Nat)} {wi : TI} {g : TG} {pos2 : Pos} (As : Asks X x (lq X) k TT) (hr : Room (k + 2) X.A) (hls : ∀ m ∈ ls, LGo X k m ∧ OffOwn own m) (calm : X.calm = true) (nd : X.N.Nodup) (hi : PI X tg iter wi) (ok : BlkOk X.N X.env.scope scope own)
    (hg : ∀ (s : Shared) (H : Hp) (C : Addr) (cl : List (Str × Addr)) (fp : List Addr), PG (X.blk s H scope (compEnvC scope cl C X.env) fp) tg g)
    (hgl : ∀ (s : Shared) (H : Hp) (C : Addr) (cl : List (Str × Addr)) (fp : List Addr), Gl (X.blk s H scope (compEnvC scope cl C X.env) fp) x)
    (hv : ∀ (s : Shared) (H : Hp) (C : Addr) (cl : List (Str × Addr)) (fp : List Addr), PE (X.blk s H scope (compEnvC scope cl C X.env) fp) e (tVar j)) (hse : ∀ env : Env, starEach [e] env = [(false, eval e env)] := by intro _; rfl)
    (hs : ∀ x, foldedSetIterable iter X.env x = pure x := by intro _; rfl) : PE X (.ListComp (.Call (.Name x p) [e] [] pos) [⟨tg, iter, [], 0⟩] scope pos2) (tLc wi g tYes (tAskV TT (lq X) ls j) (own.map (·.2))) := by
  refine ⟨fun pins s σ H Q I h => lcx_run calm nd I hi ok hg ?_ hs h⟩
  intro pins0 sB HB C cl fp I0 nfp pn s1 σE H1 Q1 hw J z
  obtain ⟨f, m, hm, hj, lv, z⟩ := z
  obtain ⟨G, off⟩ := hls m hm
  refine call_lam (Z := X.blk sB HB scope (compEnvC scope cl C X.env) fp) (q := lq X) (TT := TT) (k := k) J ⟨As.ex, As.db⟩ (hgl sB HB C cl fp) hr (hv sB HB C cl fp) ⟨.ref f, hj, f, m.L, m.κ, m.cl, m.t, rfl, ⟨G.ok.ls, G.ok.has, G.ok.loc, G.ok.body⟩, fun s2 J2 => ?_, lv, z⟩ (hse _)
  have c0 : CellsOk X.N m.cl m.L.scope σ HB sB.heap := by
    rw [G.cl]
    exact cells_of I0 G.free
  have c1 : CellsOk X.N m.cl m.L.scope σ H1 s2.heap := c0.un J2.base fun y c e hb => by
    rw [G.cl] at e
    exact nfp c hb y c (clo_lk I0.ok G.free e) rfl
  refine c1.slots fun i y u e1 e2 e3 => ?_
  have ni : i ∉ own.map (·.2) := fun hi => by
    rw [List.mem_map] at hi
    obtain ⟨o, ho, rfl⟩ := hi
    have := ok.ix o ho
    rw [e1] at this
    exact off (y, .free) (PySem.mem_of_lookup e2) rfl (List.mem_map.mpr ⟨o, ho, (Option.some.inj this).symm⟩)
  rw [← wipe_off ni, ← hw, wipe_off ni]
  exact e3
/-- one after the other: what is told of a list of lambdas at a, the answers at D -/
def Chain (TT : (XK → Hp → VK → Prop) → Hp → VK → Prop) (q : Str) (ls : List LEnt) (j : Nat) (σ : L2.St) (K : PySem.W.Frag) (a D : Addr) (all : List V) (Qd : Hp → Prop) : List Addr → Hp → Prop
  | [], H => Qd H
  | f :: r, H => ∃ m : LEnt, m ∈ ls ∧ LamV m.L m.κ q m.cl H f ∧ TT (fun E H' Q' => LamV m.L m.κ q m.cl H' f ∧ m.t E (σ.set j (some (.ref f))) H' Q') H fun y H4 =>
      ∃ acc, H4 D = some (.lst acc) ∧ acc.length < sizeLine ∧ SqL K (upd H4 D (.lst (acc ++ [y]))) a all ∧ Chain TT q ls j σ K a D all Qd r (upd H4 D (.lst (acc ++ [y])))
theorem lc_ask {K : PySem.W.Frag} {q : Str} {j : Nat} {σ : L2.St} {H1 : Hp} {D a : Addr} {Qd : Hp → Prop} {vs : List Nat} (fs : List Addr) (hj : j < σ.length) (h0 : SqL K (upd H1 D (.lst [])) a (fs.map V.ref)) (hset : ∀ u, wipe ((wipe σ vs).set j u) vs = wipe σ vs)
    (hc : Chain TT q ls j (wipe σ vs) K a D (fs.map V.ref) Qd fs (upd H1 D (.lst []))) :
    ∃ W : Nat → Nat → Hp → Prop, (∃ m, W 0 m (upd H1 D (.lst []))) ∧ ∀ i m H, W i m H →
      ((Itl K a).stop i H ∧ Qd H) ∨ ((Itl K a).go i H ∧ ∃ Nx : Hp → Prop, (∀ H', Nx H' → ∃ m', m' < m ∧ W (i + 1) m' H') ∧ ∀ x H', (Itl K a).yld i H x H' → gName j x (wipe σ vs) H' fun σ2 H2 => wipe σ2 vs = wipe σ vs ∧ tYes σ2 H2 fun b H3 =>
        if b = true then tAskV TT q ls j σ2 H3 fun y H4 => ∃ acc, H4 D = some (.lst acc) ∧ acc.length < sizeLine ∧ Nx (upd H4 D (.lst (acc ++ [y]))) else Nx H3) := by
  refine ⟨fun i m H => m = fs.length - i ∧ i ≤ fs.length ∧ SqL K H a (fs.map V.ref) ∧ Chain TT q ls j (wipe σ vs) K a D (fs.map V.ref) Qd (fs.drop i) H, ⟨fs.length, by simp, Nat.zero_le _, h0, hc⟩, ?_⟩
  rintro i m H ⟨rfl, hi, hS, ch⟩
  by_cases hlt : i < fs.length
  · have ed : fs.drop i = fs[i] :: fs.drop (i + 1) := List.drop_eq_getElem_cons hlt
    rw [ed] at ch
    obtain ⟨m, hm, lv, z⟩ := ch
    have gx : (fs.map V.ref)[i]? = some (.ref fs[i]) := by simp [hlt]
    refine .inr ⟨⟨_, _, hS, gx⟩, fun H => SqL K H a (fs.map V.ref) ∧ Chain TT q ls j (wipe σ vs) K a D (fs.map V.ref) Qd (fs.drop (i + 1)) H, fun H' p' => ⟨fs.length - (i + 1), by omega, rfl, hlt, p'⟩, fun x H' y => ?_⟩
    obtain ⟨e, y⟩ := y
    subst e
    obtain rfl : V.ref fs[i] = x := Option.some.inj (gx.symm.trans (y _ hS))
    refine ⟨hset _, ?_⟩
    show (if true = true then _ else (SqL K H' a (fs.map V.ref) ∧ Chain TT q ls j (wipe σ vs) K a D (fs.map V.ref) Qd (fs.drop (i + 1)) H'))
    rw [if_pos rfl]
    exact ⟨fs[i], m, hm, List.getElem?_set_self (by rw [wipe_length]; exact hj), lv, z⟩
  · have e : i = fs.length := by omega
    subst e
    rw [List.drop_length] at ch
    exact .inl ⟨⟨_, hS, by simp⟩, ch⟩
theorem mono_var {j : Nat} : ∀ (σ : L2.St) (H : Hp) (Q1 Q2 : VK), (∀ v H', Q1 v H' → Q2 v H') → tVar j σ H Q1 → tVar j σ H Q2 := fun σ H Q1 Q2 h ⟨v, e, q⟩ => ⟨v, e, h _ _ q⟩
theorem mono_lamv {T : List (Addr × Str)} {L : LTx} {κ : LK} {q : Str} {cl : List (Str × Addr)} : ∀ (σ : L2.St) (H : Hp) (Q1 Q2 : VK), (∀ v H', Q1 v H' → Q2 v H') → tLamV T L κ q cl σ H Q1 → tLamV T L κ q cl σ H Q2 := fun σ H Q1 Q2 h ⟨a, b⟩ => ⟨a, fun f H1 x y z n => h _ _ (b f H1 x y z n)⟩
end
end LM

set_option linter.all false
/-! a lambda's text by its place; _law_why out of what is known of it -/
namespace LM
open PySem PySem.Spec PyProof.Rows L2
open LamX (Tabs TabS ExtN TabB CodeO GivesTo)
def lamT : Expr → LTx
  | .Lambda p b s _ => ⟨p, b, s⟩
  | e => ⟨⟨[], [], none, [], [], none, []⟩, e, default⟩
/-- _law_why(lambda ..) at its own def's table -/
def tAskL (TT : (XK → Hp → VK → Prop) → Hp → VK → Prop) (T : List (Addr × Str)) (q : Str) (m : LEnt) : TE := fun σ H Q => Tabs T H ∧ ∀ f H1, ExtN H H1 → Tabs T H1 → LamV m.L m.κ q m.cl H1 f → H f = none → TT (fun E H' Q' => LamV m.L m.κ q m.cl H' f ∧ m.t E σ H' Q') H1 Q
theorem pe_askl {X : Cx} {x : Str} {k : Nat} {TT : (XK → Hp → VK → Prop) → Hp → VK → Prop} {T : List (Addr × Str)} {c P : Addr} {m : LEnt} {e : Expr} {p lpos pos : Pos} (he : e = .Call (.Name x p) [.Lambda m.L.params m.L.body m.L.scope lpos] [] pos) (As : Asks X x (lq X) k TT) (hg : Gl X x) (hr : Room (k + 2) X.A) (G : LGo X k m)
    (TB : TabB X.base X.mg c P) (hcode : X.env.code = .ref c) (hm : (P, lq X) ∈ T) (hu : ∀ p ∈ T, p.1 = P → p.2 = lq X) : PE X e (tAskL TT T (lq X) m) := by
  rw [he]
  have h1 := pe_ask (p := p) (pos := pos) (ls := [m]) As hg hr (fun m1 hm1 => by rw [List.mem_singleton.mp hm1]; exact G) (pe_lamv (pos := lpos) (L := m.L) (κ := m.κ) TB hcode hm hu G.free G.ok.has) mono_lamv rfl
  refine ⟨fun pins s σ H Q I h => h1.run pins s σ H Q I ⟨h.1, fun f H1 a b lv n => ⟨f, m, List.mem_singleton.mpr rfl, rfl, ?_, ?_⟩⟩⟩
  · rw [← G.cl] at lv
    exact lv
  · rw [← G.cl] at lv
    exact h.2 f H1 a b lv n
/-- what is to be shown of a lambda, its text laid open -/
theorem go_of {X : Cx} {e : Expr} {κ : LK} {k : Nat} {t : XK → TE} (h : ∃ p b sc lp, e = .Lambda p b sc lp ∧ lsB X.N sc = true ∧ freeB X.env.scope sc = true ∧ LTx.has ⟨p, b, sc⟩ κ ∧ κ.loc sc ∧
    ∀ (A : Around) (outer : List Env) (s : Shared) (H : Hp) (E : XK) (f c1 : Addr), Room k (A.deeper (lenv (lq X) (clo X (lamT e)) sc s.heap.objs.size f c1)) → PE (lcx X (lq X) (clo X (lamT e)) A outer s H E sc f c1) b (t E)) : LGo X k ⟨lamT e, κ, clo X (lamT e), t⟩ := by
  obtain ⟨p, b, sc, lp, he, h1, h2, h3, h4, h5⟩ := h
  have el : lamT e = ⟨p, b, sc⟩ := by rw [he]; rfl
  rw [el] at h5 ⊢
  exact ⟨⟨ls_by h1, h3, h4, h5⟩, rfl, free_by h2⟩
theorem lamv_of {X : Cx} {T : List (Addr × Str)} {c P : Addr} {e : Expr} {κ : LK} {k : Nat} {t : XK → TE} (h : ∃ lp, e = .Lambda (lamT e).params (lamT e).body (lamT e).scope lp) (G : LGo X k ⟨lamT e, κ, clo X (lamT e), t⟩) (TB : TabB X.base X.mg c P) (hcode : X.env.code = .ref c) (hm : (P, lq X) ∈ T) (hu : ∀ p ∈ T, p.1 = P → p.2 = lq X) :
    PE X e (tLamV T (lamT e) κ (lq X) (clo X (lamT e))) := by
  obtain ⟨lp, he⟩ := h
  have := pe_lamv (pos := lp) (L := lamT e) (κ := κ) TB hcode hm hu G.free G.ok.has
  rw [← he] at this
  exact this
theorem lcask_of {X : Cx} {x : Str} {k : Nat} {TT : (XK → Hp → VK → Prop) → Hp → VK → Prop} {ls : List LEnt} {j : Nat} {lc : Expr} {own : List (Str × Nat)} {wi : TI} {g : TG} (As : Asks X x (lq X) k TT) (hr : Room (k + 2) X.A) (hls : ∀ m ∈ ls, LGo X k m ∧ OffOwn own m) (calm : X.calm = true) (nd : X.N.Nodup)
    (h : ∃ p pos e tg iter scope pos2, lc = .ListComp (.Call (.Name x p) [e] [] pos) [⟨tg, iter, [], 0⟩] scope pos2 ∧ PI X tg iter wi ∧ BlkOk X.N X.env.scope scope own ∧ (∀ (s : Shared) (H : Hp) (C : Addr) (cl : List (Str × Addr)) (fp : List Addr), PG (X.blk s H scope (compEnvC scope cl C X.env) fp) tg g) ∧
      (∀ (s : Shared) (H : Hp) (C : Addr) (cl : List (Str × Addr)) (fp : List Addr), Gl (X.blk s H scope (compEnvC scope cl C X.env) fp) x) ∧ (∀ (s : Shared) (H : Hp) (C : Addr) (cl : List (Str × Addr)) (fp : List Addr), PE (X.blk s H scope (compEnvC scope cl C X.env) fp) e (tVar j)) ∧
      (∀ env : Env, starEach [e] env = [(false, eval e env)]) ∧ ∀ x, foldedSetIterable iter X.env x = pure x) : PE X lc (tLc wi g tYes (tAskV TT (lq X) ls j) (own.map (·.2))) := by
  obtain ⟨p, pos, e, tg, iter, scope, pos2, rfl, h1, h2, h3, h4, h5, h6, h7⟩ := h
  exact pe_lcask As hr hls calm nd h1 h2 h3 h4 h5 h6 h7
def offB (own : List (Str × Nat)) (sc : Scope) : Bool := sc.names.all fun y => !decide (y.2 = .free) || !decide (y.1 ∈ own.map (·.1))
theorem off_by {own : List (Str × Nat)} {m : LEnt} (h : offB own m.L.scope = true) : OffOwn own m := fun y hy e => by
  have z := List.all_eq_true.mp h y hy
  simp only [Bool.or_eq_true, Bool.not_eq_true', decide_eq_false_iff_not] at z
  exact z.elim (fun z => absurd e z) id
end LM

namespace RF
open PySem L2 PyProof.Rows
/-! ### a def that may raise: called by position, by names alone -/
structure DfX (P : Program) (w : World) (K : PySem.W.Frag) (mg : Str → Option Value) (base : Heap) (k : Nat) (x : Str) (ps : List Str) (sp : Sp) : Prop where
  ex : ∃ (f : Addr) (fd : FuncData), FnOk P w K mg base (L2.CX P w) k f fd ps sp ∧ Binds K fd ps [] ∧ mg x = some (.ref f) ∧ PySem.W.keepIn K (.ref f) = true
theorem pe_callX {X : Cx} {j k : Nat} {x : Str} {ps : List Str} {sp : Sp} {E : XK} {p pos : Pos} {e : Expr} {es : List Expr} {t : TA} (F : DfX X.prog X.w X.K X.mg X.base k x ps sp) (hr : Room j X.A) (hk : k ≤ j) (hx : Passes (L2.CX X.prog X.w) X E) (ha : PA X (e :: es) t)
    (hg : Gl X x := by rfl) (hdb : (x == ("__debug__" : Str)) = false := by decide)
    (he : starEach (e :: es) X.env = (false, eval e X.env) :: starEach es X.env := by rfl) (hpl : (backTo pos (starEach es X.env)).any (·.1) = false := by rfl) :
    PE X (.Call (.Name x p) (e :: es) [] pos) (tCall sp [] E t) := by
  obtain ⟨f, fd, G, b, m, kp⟩ := F.ex
  exact pe_call G (hr.mono hk) hg m kp b .nil hx ha hdb he hpl
/-- .. all by names -/
structure DkX (P : Program) (w : World) (K : PySem.W.Frag) (mg : Str → Option Value) (base : Heap) (k : Nat) (x : Str) (ps ks : List Str) (gV : List V → List V → List V) (sp : Sp) : Prop where
  ex : ∃ (f : Addr) (fd : FuncData) (g : List Value → List Value → List Value), FnOk P w K mg base (L2.CX P w) k f fd ps sp ∧ KBn K fd ps 0 ks g gV ∧ mg x = some (.ref f) ∧ PySem.W.keepIn K (.ref f) = true
theorem pe_kX {X : Cx} {j k : Nat} {ps ks : List Str} {sp : Sp} {x : Str} {p pos : Pos} {kws : List Keyword} {tk : TA} {gV : List V → List V → List V} {E : XK} (D : DkX X.prog X.w X.K X.mg X.base k x ps ks gV sp) (hr : Room j X.A) (hj : k ≤ j) (hx : Passes (L2.CX X.prog X.w) X E) (hkw : PK X kws tk) (hg : Gl X x := by rfl)
    (hall : (backToKw pos (keywordEach kws X.env)).all (·.1.isSome) = true := by rfl) (hks : (backToKw pos (keywordEach kws X.env)).filterMap (·.1) = ks := by rfl) (hdb : (x == ("__debug__" : Str)) = false := by decide)
    (hpl : ((backTo pos (starEach [] X.env)).any (·.1) || (backToKw pos (keywordEach kws X.env)).any (·.1.isNone)) = false := by rfl) :
    PE X (.Call (.Name x p) [] kws pos) (tCallN 0 ks.length sp gV E tNil tk) := by
  obtain ⟨f, fd, g, F, hb, hm, hk⟩ := D.ex
  exact pe_callN0 F (hr.mono hj) hg hm hk hb hx hkw hall hks hdb hpl
/-! ### what _law_why makes of an own error -/
open EX in
def EW (K : PySem.W.Frag) (c1 c2 c3 : Addr) (Q : VK) : XK := fun cls d H' => ∃ C dd fs tag u, cls = .ref C ∧ d = some dd ∧ PySem.W.exmAny K (.ref C) [.ref c1, .ref c2, .ref c3] = some true ∧ ECls K C ∧ Tells K H' C dd fs tag u ∧ ∀ H2 t, Same H' H2 → H2 t = none → Q (.ref t) (upd H2 t (.tup [.str tag, u]))
open EX in
theorem why_err {P : Program} {w : World} {K : PySem.W.Frag} {mg : Str → Option Value} {nm fld : Str} {CE c1 c2 c3 : Addr} {v : V} {H : Hp} {Q : VK} (O : OwnE P w K mg nm fld CE) (xx : PySem.W.exmAny K (.ref CE) [.ref c1, .ref c2, .ref c3] = some true) (nf : (fld == ("tag" : Str)) = false) (kd : Kd nm (some fld))
    (k : ∀ t H', Same H H' → H' t = some (.tup [.str nm, v]) → Q (.ref t) H') : Rsd CE nm fld v H (EW K c1 c2 c3 Q) := by
  obtain ⟨fD, oD, _⟩ := O.ex
  intro dd H7 sm7 hdd
  have s8 : Same H (upd H7 dd (.xd [(fld, v), ("tag", .str nm)])) := sNew sm7 hdd
  exact ⟨CE, dd, _, nm, v, rfl, rfl, xx, oD.ecls, tellsF oD.noT O.noF nf kd, fun H9 t sm9 ht => k t _ ((s8.trans sm9).trans (sNew (Same.refl H9) ht)) upd_same⟩
theorem ext_upd {H H1 : Hp} {D : Addr} {o : HO} (e : LamX.ExtN H H1) (h : H D = none) : LamX.ExtN H (upd H1 D o) := fun b u x n => by
  rw [upd_ne (ne_of_none x h)]
  exact e b u x n
theorem ext_put {H H1 : Hp} {D : Addr} {xs : List V} {o : HO} (e : LamX.ExtN H H1) (h : H1 D = some (.lst xs)) : ∀ b u, H b = some u → (∀ ps, u ≠ .tbl ps) → (∀ ys, u ≠ .lst ys) → upd H1 D o b = some u := fun b u x n m => by
  have h1 := e b u x n
  rw [upd_ne (ne_of h1 h (m xs))]
  exact h1
end RF

namespace RF
open PySem L2
section
variable {P : Program} {w : World} {K : PySem.W.Frag} {mg : Str → Option Value} {base : Heap}
abbrev s_law_same : Stmt := top 44
abbrev n_law_same : List Str := ["_law_found", "_law_due", "_law_a", "_law_b"]
theorem sc_law_same : FnScope n_law_same ["_law_found", "_law_due"] (defScope s_law_same) := ⟨rfl, rfl, rfl, by decide +kernel, rfl, by decide +kernel, by decide +kernel⟩
theorem ok_same1 {f : Addr} {fd : FuncData} {k : Nat} {n : Nat} (F : Fun K "_law_same" "_law_same" s_law_same f fd) (T : TSm mg) (D1 : Df P w K mg base k "_law_same" ["_law_found", "_law_due"] (spSameL K n)) : FnOk P w K mg base CX0 (k + 1) f fd ["_law_found", "_law_due"] (spSame K n) := by
  refine F.ok sc_law_same (fun vs H Q E h => ?_) (fun cdv A outer s H vs Q E hr h => ?_)
  · obtain ⟨v, u, d, rfl, _⟩ := h
    rfl
  · obtain ⟨v, u, d, rfl, h1, h2, hd, k⟩ := h
    have nd := sc_law_same.nd
    refine ⟨_, (pss_cons (ps_if (pw_or (pt_cmpR op_isN (pv 1) pe_non (nomark _)) (pw_or1 (pt_cmpR op_isN (pv 0) pe_non (nomark _)))).pt
      (pss_one (ps_ret (pe_and (pe_cmpR op_isN (pv 1) pe_non (nomark _)) (pe_one (pe_cmpR op_isN (pv 0) pe_non (nomark _))))))
      pss_nil)
      (pss_cons (ps_if (pw_or (pt_val (pe_callB call_isi (by rfl) T.isinstance (by decide +kernel) (pa_cons (pv 1) (pa_cons (pe_bltn (v := .ty "bool") (by rfl) T.bool (by decide +kernel) rfl) pa_nil)))) (pw_or1 (pt_val (pe_callB call_isi (by rfl) T.isinstance (by decide +kernel) (pa_cons (pv 0) (pa_cons (pe_bltn (v := .ty "bool") (by rfl) T.bool (by decide +kernel) rfl) pa_nil)))))).pt
      (pss_one (ps_ret (pe_and (pe_callB call_isi (by rfl) T.isinstance (by decide +kernel) (pa_cons (pv 1) (pa_cons (pe_bltn (v := .ty "bool") (by rfl) T.bool (by decide +kernel) rfl) pa_nil))) (pe_and (pe_callB call_isi (by rfl) T.isinstance (by decide +kernel) (pa_cons (pv 0) (pa_cons (pe_bltn (v := .ty "bool") (by rfl) T.bool (by decide +kernel) rfl) pa_nil))) (pe_one (pe_cmpR op_eq (pv 0) (pv 1) (nomark _)))))))
      pss_nil)
      (pss_cons (ps_if (pw_or (pt_val (pe_callB call_isiT (by rfl) T.isinstance (by decide +kernel) (pa_cons (pv 1) (pa_cons (pe_tup (pa_cons (pe_bltn (v := .ty "list") (by rfl) T.list (by decide +kernel) rfl) (pa_cons (pe_bltn (v := .ty "tuple") (by rfl) T.tuple (by decide +kernel) rfl) pa_nil))) pa_nil)))) (pw_or1 (pt_val (pe_callB call_isiT (by rfl) T.isinstance (by decide +kernel) (pa_cons (pv 0) (pa_cons (pe_tup (pa_cons (pe_bltn (v := .ty "list") (by rfl) T.list (by decide +kernel) rfl) (pa_cons (pe_bltn (v := .ty "tuple") (by rfl) T.tuple (by decide +kernel) rfl) pa_nil))) pa_nil)))))).pt
      (pss_cons (ps_if (pw_or (pt_cmpR op_ne (pe_callB call_isi (by rfl) T.isinstance (by decide +kernel) (pa_cons (pv 1) (pa_cons (pe_bltn (v := .ty "list") (by rfl) T.list (by decide +kernel) rfl) pa_nil))) (pe_callB call_isi (by rfl) T.isinstance (by decide +kernel) (pa_cons (pv 0) (pa_cons (pe_bltn (v := .ty "list") (by rfl) T.list (by decide +kernel) rfl) pa_nil))) (nomark _)) (pw_or1 (pt_cmpR op_ne (pe_callB call_isi (by rfl) T.isinstance (by decide +kernel) (pa_cons (pv 1) (pa_cons (pe_bltn (v := .ty "tuple") (by rfl) T.tuple (by decide +kernel) rfl) pa_nil))) (pe_callB call_isi (by rfl) T.isinstance (by decide +kernel) (pa_cons (pv 0) (pa_cons (pe_bltn (v := .ty "tuple") (by rfl) T.tuple (by decide +kernel) rfl) pa_nil))) (nomark _)))).pt
        (pss_one (ps_ret pe_bl))
        pss_nil)
        (pss_one (ps_ret (pe_and (pe_cmpR op_eq (pe_callB call_len_seq (by rfl) T.len PySem.boot_len (pa_cons (pv 0) pa_nil)) (pe_callB call_len_seq (by rfl) T.len PySem.boot_len (pa_cons (pv 1) pa_nil)) (nomark _)) (pe_one (pe_callB (cr_all rfl) (by rfl) T.all (by decide +kernel) (pa_cons (pe_lc (own := [("_law_a", 2), ("_law_b", 3)]) (g := gTup K 2 (gCons (gName 2) (gCons (gName 3) gNil))) (tt := tYes) (by rfl) nd (RZ.pi_zipA (by rfl) T.zip (pa_cons (pv 0) (pa_cons (pv 1) pa_nil))) (blkOk_by (own := [("_law_a", 2), ("_law_b", 3)]) (N := n_law_same) (sc := defScope s_law_same) (by decide +kernel)) (fun _ _ _ _ _ => (pg_tup rfl (pgs_cons (pg_name (i := 2) nd rfl (Or.inl rfl)) (pgs_cons (pg_name (i := 3) nd rfl (Or.inl rfl)) pgs_nil)))) (fun _ _ _ _ _ => pts_nil) (fun _ _ _ _ _ => (pe_callD D1 hr (Nat.le_refl _) (pa_cons (pv 2) (pa_cons (pv 3) pa_nil))))) pa_nil)))))))
      pss_nil)
      (pss_cons (ps_if (pw_or (pt_cmpR op_ne (pe_callB call_isi (by rfl) T.isinstance (by decide +kernel) (pa_cons (pv 1) (pa_cons (pe_bltn (v := .ty "int") (by rfl) T.int (by decide +kernel) rfl) pa_nil))) (pe_callB call_isi (by rfl) T.isinstance (by decide +kernel) (pa_cons (pv 0) (pa_cons (pe_bltn (v := .ty "int") (by rfl) T.int (by decide +kernel) rfl) pa_nil))) (nomark _)) (pw_or1 (pt_cmpR op_ne (pe_callB call_isi (by rfl) T.isinstance (by decide +kernel) (pa_cons (pv 1) (pa_cons (pe_bltn (v := .ty "str") (by rfl) T.str (by decide +kernel) rfl) pa_nil))) (pe_callB call_isi (by rfl) T.isinstance (by decide +kernel) (pa_cons (pv 0) (pa_cons (pe_bltn (v := .ty "str") (by rfl) T.str (by decide +kernel) rfl) pa_nil))) (nomark _)))).pt
      (pss_one (ps_ret pe_bl))
      pss_nil)
      (pss_one (ps_ret (pe_cmpR op_eq (pv 0) (pv 1) (nomark _)))))))), ?_⟩
    by_cases en : d = .non
    · subst en
      obtain rfl : v = .non := h1
      obtain rfl : u = .non := h2
      refine ⟨_, rfl, rfl, _, rfl, iteP rfl (iteP rfl ?_)⟩
      exact ⟨_, rfl, rfl, _, rfl, iteP rfl ⟨_, rfl, rfl, k _ (Same.refl _)⟩⟩
    · have nv : ∀ x, Rp K H x d → ¬ x = V.non := fun x h z => by
        subst z
        cases d with
        | non => exact en rfl
        | bl _ => cases (show V.non = V.bl _ from h)
        | int _ => cases (show V.non = V.int _ from h)
        | str _ => cases (show V.non = V.str _ from h)
        | lst _ => obtain ⟨_, _, q, _⟩ := h; cases q
        | tup _ => obtain ⟨_, _, q, _⟩ := h; cases q
      refine ⟨_, rfl, rfl, _, rfl, iteN (nd_of (nv _ h2)) ⟨_, rfl, rfl, _, rfl, iteN (nd_of (nv _ h1)) ?_⟩⟩
      -- bool
      by_cases eb : isBool d = true
      · cases d with
        | bl b =>
          have g1 := h1
          have g2 := h2
          obtain rfl : v = .bl b := h1
          obtain rfl : u = .bl b := h2
          refine ⟨_, rfl, _, _, _, _, _, rfl, .ty _, tyX _ g2, kit_ty (kit_bool _), _, rfl, iteP rfl (iteP rfl ?_)⟩
          exact ⟨_, rfl, _, _, _, _, _, rfl, .ty _, tyX _ g2, kit_ty (kit_bool _), _, rfl, iteP rfl ⟨_, rfl, _, _, _, _, _, rfl, .ty _, tyX _ g1, kit_ty (kit_bool _), _, rfl, iteP rfl ⟨_, rfl, _, rfl, rfl, eqT (k _ (Same.refl _))⟩⟩⟩
        | non => cases eb
        | int _ => cases eb
        | str _ => cases eb
        | lst _ => cases eb
        | tup _ => cases eb
      · refine ⟨_, rfl, _, _, _, _, _, rfl, .ty _, tyX _ h2, kit_ty (kit_bool _), _, rfl, iteN eb ⟨_, rfl, _, _, _, _, _, rfl, .ty _, tyX _ h1, kit_ty (kit_bool _), _, rfl, iteN eb ?_⟩⟩
        -- lists and tuples
        refine ⟨_, rfl, (by show 2 ≤ sizeLine; decide), fun p hp => ?_⟩
        have s2 : Same H (upd H p (.tup [.ty "list", .ty "tuple"])) := sNew (Same.refl _) hp
        have j1 := Rp.same s2 _ h1
        have j2 := Rp.same s2 _ h2
        refine ⟨_, _, _, _, _, _, rfl, upd_same, .cons (.ty _) (.cons (.ty _) .nil), tyX _ j2, kit_lt _, _, rfl, ?_⟩
        by_cases et : (isLst d || isTup d) = true
        · refine iteP et (iteP rfl ?_)
          refine ⟨_, rfl, _, _, _, _, _, rfl, .ty _, tyX _ j2, kit_ty (kit_list _), _, rfl, _, _, _, _, _, rfl, .ty _, tyX _ j1, kit_ty (kit_list _), rfl, _, rfl, iteNS rfl ?_⟩
          refine ⟨_, rfl, _, _, _, _, _, rfl, .ty _, tyX _ j2, kit_ty (kit_tuple _), _, rfl, _, _, _, _, _, rfl, .ty _, tyX _ j1, kit_ty (kit_tuple _), rfl, _, rfl, iteNS rfl ?_⟩
          cases d with
          | lst ds =>
            obtain ⟨a, xs, rfl, S1, l1, r1⟩ := id h1
            obtain ⟨b, ys, rfl, S2, l2, r2⟩ := id h2
            have T1 := s2.seq S1
            have T2 := s2.seq S2
            have el : xs.length = ys.length := by rw [r1.len, r2.len]
            refine ⟨_, rfl, _, _, rfl, .inl T1, _, rfl, _, _, rfl, .inl T2, rfl, _, rfl, iteP (decide_eq_true (by rw [el])) ?_⟩
            refine ⟨_, rfl, _, rfl, a, b, xs, ys, rfl, .inl ⟨T1, T2, fun Dd hD => ?_⟩⟩
            cases n with
            | zero => exact absurd hd (by show ¬ (depL ds + 1 ≤ 0); omega)
            | succ n =>
              have nz : ∀ H', Same H H' → H' Dd = none → True := fun _ _ _ => trivial
              refine lc_it (walk_zip (n := xs.length) (by rw [el, Nat.min_self])) (fun i H' => (∃ acc : List Bool, H' Dd = some (.lst (acc.map V.bl)) ∧ acc.length = i ∧ acc.all id = true) ∧ Same (upd H p (.tup [.ty "list", .ty "tuple"])) H' ∧ i ≤ xs.length)
                ⟨⟨[], upd_same, rfl, rfl⟩, sNew (Same.refl _) hD, Nat.zero_le _⟩ (fun i H' _ z => ⟨(z.2.1).seq T1, (z.2.1).seq T2⟩) ?_ ?_
              · rintro i x H3 H4 hi ⟨⟨acc, e1, e2, e3⟩, sm, _⟩ ⟨Tt, x1, x2, rfl, nT, rfl, g1, g2⟩
                obtain ⟨d1, q1, p1⟩ := r1.at_ g1
                obtain ⟨d2, q2, p2⟩ := r2.at_ g2
                have ed : d1 = d2 := Option.some.inj (q1.symm.trans q2)
                subst ed
                have sm4 : Same H (upd H3 Tt (.tup [x1, x2])) := (s2.trans sm).trans (sNew (Same.refl _) nT)
                refine ⟨Tt, [x1, x2], rfl, SqT.of upd_same, rfl, _, _, rfl, _, _, rfl, rfl, rfl, ?_⟩
                refine yes_if ?_
                refine ⟨_, rfl, _, rfl, x1, x2, d1, rfl, Rp.same sm4 _ p1, Rp.same sm4 _ p2, ?_, fun H5 s5 => ?_⟩
                · have := dep_mem q1
                  have hd' : depL ds + 1 ≤ n + 1 := hd
                  omega
                · have eD : H5 Dd = some (.lst (acc.map V.bl)) := s5 _ _ (by rw [upd_ne (ne_of_none e1 nT)]; exact e1)
                  refine ⟨_, eD, by rw [List.length_map]; exact Nat.lt_of_lt_of_le (show acc.length < 100001 by omega) (by decide), ⟨⟨acc ++ [true], ?_, by rw [List.length_append, e2]; rfl, by rw [List.all_append, e3]; rfl⟩, fun c o e => ?_, hi⟩⟩
                  · rw [upd_same, List.map_append]; rfl
                  · have nc : c ≠ Dd := fun z => by rw [z, hD] at e; cases e
                    rw [upd_ne nc]
                    exact s5 _ _ (by rw [upd_ne (ne_of_none (sm _ _ e) nT)]; exact sm _ _ e)
              · rintro H3 ⟨⟨acc, e1, e2, e3⟩, sm, _⟩
                exact ⟨Dd, acc, rfl, SqL.of e1, by rw [e3]; exact k _ (s2.trans sm)⟩
          | tup ds =>
            obtain ⟨a, xs, rfl, S1, l1, r1⟩ := id h1
            obtain ⟨b, ys, rfl, S2, l2, r2⟩ := id h2
            have T1 := sameT s2 S1
            have T2 := sameT s2 S2
            have el : xs.length = ys.length := by rw [r1.len, r2.len]
            refine ⟨_, rfl, _, _, rfl, .inr T1, _, rfl, _, _, rfl, .inr T2, rfl, _, rfl, iteP (decide_eq_true (by rw [el])) ?_⟩
            refine ⟨_, rfl, _, rfl, a, b, xs, ys, rfl, .inr ⟨T1, T2, fun Dd hD => ?_⟩⟩
            cases n with
            | zero => exact absurd hd (by show ¬ (depL ds + 1 ≤ 0); omega)
            | succ n =>
              have nz : ∀ H', Same H H' → H' Dd = none → True := fun _ _ _ => trivial
              refine lc_it (walk_zipT (n := xs.length) (by rw [el, Nat.min_self])) (fun i H' => (∃ acc : List Bool, H' Dd = some (.lst (acc.map V.bl)) ∧ acc.length = i ∧ acc.all id = true) ∧ Same (upd H p (.tup [.ty "list", .ty "tuple"])) H' ∧ i ≤ xs.length)
                ⟨⟨[], upd_same, rfl, rfl⟩, sNew (Same.refl _) hD, Nat.zero_le _⟩ (fun i H' _ z => ⟨sameT (z.2.1) T1, sameT (z.2.1) T2⟩) ?_ ?_
              · rintro i x H3 H4 hi ⟨⟨acc, e1, e2, e3⟩, sm, _⟩ ⟨Tt, x1, x2, rfl, nT, rfl, g1, g2⟩
                obtain ⟨d1, q1, p1⟩ := r1.at_ g1
                obtain ⟨d2, q2, p2⟩ := r2.at_ g2
                have ed : d1 = d2 := Option.some.inj (q1.symm.trans q2)
                subst ed
                have sm4 : Same H (upd H3 Tt (.tup [x1, x2])) := (s2.trans sm).trans (sNew (Same.refl _) nT)
                refine ⟨Tt, [x1, x2], rfl, SqT.of upd_same, rfl, _, _, rfl, _, _, rfl, rfl, rfl, ?_⟩
                refine yes_if ?_
                refine ⟨_, rfl, _, rfl, x1, x2, d1, rfl, Rp.same sm4 _ p1, Rp.same sm4 _ p2, ?_, fun H5 s5 => ?_⟩
                · have := dep_mem q1
                  have hd' : depL ds + 1 ≤ n + 1 := hd
                  omega
                · have eD : H5 Dd = some (.lst (acc.map V.bl)) := s5 _ _ (by rw [upd_ne (ne_of_none e1 nT)]; exact e1)
                  refine ⟨_, eD, by rw [List.length_map]; exact Nat.lt_of_lt_of_le (show acc.length < 100001 by omega) (by decide), ⟨⟨acc ++ [true], ?_, by rw [List.length_append, e2]; rfl, by rw [List.all_append, e3]; rfl⟩, fun c o e => ?_, hi⟩⟩
                  · rw [upd_same, List.map_append]; rfl
                  · have nc : c ≠ Dd := fun z => by rw [z, hD] at e; cases e
                    rw [upd_ne nc]
                    exact s5 _ _ (by rw [upd_ne (ne_of_none (sm _ _ e) nT)]; exact sm _ _ e)
              · rintro H3 ⟨⟨acc, e1, e2, e3⟩, sm, _⟩
                exact ⟨Dd, acc, rfl, SqL.of e1, by rw [e3]; exact k _ (s2.trans sm)⟩
          | non => cases et
          | bl _ => cases et
          | int _ => cases et
          | str _ => cases et
        · refine iteN et ?_
          refine ⟨_, rfl, (by show 2 ≤ sizeLine; decide), fun q hq => ?_⟩
          have s3 := sNew (o := .tup [.ty "list", .ty "tuple"]) s2 hq
          have i1 := Rp.same s3 _ h1
          have i2 := Rp.same s3 _ h2
          refine ⟨_, _, _, _, _, _, rfl, upd_same, .cons (.ty _) (.cons (.ty _) .nil), tyX _ i1, kit_lt _, _, rfl, iteN et ?_⟩
          refine ⟨_, rfl, _, _, _, _, _, rfl, .ty _, tyX _ i2, kit_ty (kit_int _), _, rfl, _, _, _, _, _, rfl, .ty _, tyX _ i1, kit_ty (kit_int _), rfl, _, rfl, iteNS rfl ?_⟩
          refine ⟨_, rfl, _, _, _, _, _, rfl, .ty _, tyX _ i2, kit_ty (kit_str _), _, rfl, _, _, _, _, _, rfl, .ty _, tyX _ i1, kit_ty (kit_str _), rfl, _, rfl, iteNS rfl ?_⟩
          cases d with
          | int z =>
            obtain rfl : v = .int z := h1
            obtain rfl : u = .int z := h2
            exact ⟨_, rfl, _, rfl, rfl, eqT (k _ s3)⟩
          | str z =>
            obtain rfl : v = .str z := h1
            obtain rfl : u = .str z := h2
            exact ⟨_, rfl, _, rfl, rfl, eqT (k _ s3)⟩
          | non => exact absurd rfl en
          | bl _ => exact absurd rfl eb
          | lst _ => exact absurd rfl et
          | tup _ => exact absurd rfl et
theorem ok_same {f : Addr} {fd : FuncData} (F : Fun K "_law_same" "_law_same" s_law_same f fd) (T : TSm mg) (hb : Binds K fd ["_law_found", "_law_due"] []) (hm : mg "_law_same" = some (.ref f)) : ∀ n : Nat, FnOk P w K mg base CX0 (n + 1) f fd ["_law_found", "_law_due"] (spSame K n)
  | 0 => ok_same1 (k := 0) F T ⟨_, _, fn_false, hb, hm, F.kp⟩
  | n + 1 => ok_same1 (k := n + 1) F T ⟨_, _, ok_same F T hb hm n, hb, hm, F.kp⟩
end
end RF

namespace RF
open PySem L2 PyProof.Rows EX
/-! ### letters -/
def canD (p : List Int) (i : Nat) (x : D) (lo : Int) : Bool := btw x 0 (if i = 0 ∨ lo ≠ 0 then ai p i - 1 else ai p i)
def goodD (p : List Int) (m i : Nat) (lo : List Int) : D → Bool
  | .tup ds => decide (ds.length = m) && (ds.zip lo).all fun q => canD p i q.1 q.2
  | _ => false
def intD : D → Int
  | .int i => i
  | _ => 0
def intsD : D → List Int
  | .tup ds => ds.map intD
  | _ => []
def firstBad (p : List Int) (m : Nat) : Nat → List Int → List D → Option Nat
  | _, _, [] => none
  | i, lo, d :: ds => if goodD p m i lo d = true then firstBad p m (i + 1) (intsD d) ds else some i
theorem canD_int {p : List Int} {i : Nat} {x : D} {lo : Int} (h : canD p i x lo = true) : x = .int (intD x) ∧ 0 ≤ intD x ∧ intD x ≤ ai p i := by
  cases x with
  | int n =>
    have h : (decide (0 ≤ n) && decide (n ≤ _)) = true := h
    simp only [Bool.and_eq_true, decide_eq_true_eq] at h
    refine ⟨rfl, h.1, ?_⟩
    have := h.2
    show n ≤ _
    split at this <;> omega
  | _ => cases h
theorem zip_all {p : List Int} {i : Nat} : ∀ (ds : List D) (lo : List Int), ds.length = lo.length → (ds.zip lo).all (fun q => canD p i q.1 q.2) = true → ds = (ds.map intD).map D.int ∧ ∀ x ∈ ds.map intD, 0 ≤ x ∧ x ≤ ai p i
  | [], _, _, _ => ⟨rfl, fun x hx => by cases hx⟩
  | d :: ds, [], h, _ => by cases h
  | d :: ds, l :: lo, h, ha => by
    rw [List.zip_cons_cons, List.all_cons, Bool.and_eq_true] at ha
    obtain ⟨e1, e2, e3⟩ := canD_int ha.1
    obtain ⟨f1, f2⟩ := zip_all ds lo (by simpa using h) ha.2
    refine ⟨?_, fun x hx => ?_⟩
    · rw [List.map_cons, List.map_cons, ← e1, ← f1]
    · rcases List.mem_cons.mp hx with rfl | hx
      · exact ⟨e2, e3⟩
      · exact f2 x hx
theorem good_ints {p : List Int} {m i : Nat} {lo : List Int} {d : D} (hl : lo.length = m) (h : goodD p m i lo d = true) : d = .tup ((intsD d).map D.int) ∧ (intsD d).length = m ∧ ∀ x ∈ intsD d, 0 ≤ x ∧ x ≤ ai p i := by
  cases d with
  | tup ds =>
    have h : (decide (ds.length = m) && _) = true := h
    rw [Bool.and_eq_true, decide_eq_true_eq] at h
    obtain ⟨e1, e2⟩ := zip_all ds lo (by omega) h.2
    exact ⟨congrArg D.tup e1, by show (ds.map intD).length = m; rw [List.length_map]; exact h.1, e2⟩
  | _ => cases h
theorem rps_back {K : PySem.W.Frag} {H : Hp} : ∀ {ns : List Int} {xs : List V}, Rps K H xs (ns.map D.int) → xs = ns.map V.int
  | [], _, h => h
  | n :: ns, _, h => by
    obtain ⟨x, r, rfl, h1, h2⟩ := h
    obtain rfl : x = V.int n := h1
    rw [rps_back h2]
    rfl
def spCanV (K : PySem.W.Frag) : Sp := fun vs H Q _ => ∃ (t : Addr) (p : List Int) (i : Nat) (v : V) (x : D) (lo : Int), vs = [.ref t, .int (i : Int), v, .int lo] ∧ Rp K H v x ∧ TupI K t p ∧ Per p ∧ Q (.bl (canD p i x lo)) H
def spChk (K : PySem.W.Frag) (C CE : Addr) : Sp := fun vs H Q E => ∃ (tk : Bool) (p l : Addr) (d : Int) (m : Nat) (ws : List V) (ds : List D), vs = [.ref p, .int (m : Int), .ref l] ∧ FldAt K H C p d ∧ Root d ∧ m ≤ 100 ∧ SqK K tk H l ws ∧ Rps K H ws ds ∧ ws.length ≤ 100000 ∧
  ((∃ i : Nat, firstBad (per d) m 0 (List.replicate m 0) ds = some i ∧ Rsd CE "InvalidDigits" "index" (.int (i : Int)) H E) ∨ (firstBad (per d) m 0 (List.replicate m 0) ds = none ∧ ∀ H', Same H H' → Q .non H'))
section
variable {P : Program} {w : World} {K : PySem.W.Frag} {mg : Str → Option Value} {base : Heap}
theorem ok_canV {f : Addr} {fd : FuncData} {k : Nat} (F : Fun K "can_stand" "can_stand" s_can_stand f fd) (D1 : Df P w K mg base k "_part_above" ["period", "place"] (spPart K)) (D2 : Df P w K mg base k "is_between" ["value", "low", "high"] (spBtw K)) :
    FnOk P w K mg base CX0 (k + 1) f fd ["period", "place", "digit", "lower"] (spCanV K) := by
  refine F.ok sc_can_stand (fun vs H Q E h => ?_) (fun cdv A outer s H vs Q E hr h => ?_)
  · obtain ⟨t, p, i, v, d, lo, rfl, _⟩ := h
    rfl
  · obtain ⟨t, p, i, v, d, lo, rfl, hv, hT, hp, q⟩ := h
    have nd := sc_can_stand.nd
    refine ⟨_, (pss_cons (ps_set (i := 4) nd rfl (Or.inl rfl) (pe_callD D1 hr (Nat.le_refl _) (pa_cons (pv 0) (pa_cons (pv 1) pa_nil))))
      (C8.pss_cut (ps_if (pw_or (pt_cmpR op_eq (pv 1) pe_int (nomark _)) (pw_or1 (pt_cmpR op_ne (pv 3) pe_int (nomark _)))).pt
      (pss_one (ps_set (i := 4) nd rfl (Or.inl rfl) (pe_op op_sub (pv 4) pe_int)))
      pss_nil)
      (pss_one (ps_ret (pe_callD D2 hr (Nat.le_refl _) (pa_cons (pv 2) (pa_cons pe_int (pa_cons (pv 4) pa_nil)))))))), ?_⟩
    refine ⟨_, rfl, _, rfl, t, p, i, rfl, hT, hp, ?_⟩
    refine ⟨fun σ' H' => σ' = [some (.ref t), some (.int (i : Int)), some v, some (.int lo), some (.int (if i = 0 ∨ lo ≠ 0 then ai p i - 1 else ai p i))] ∧ H' = H, ?_, ?_⟩
    · refine ⟨_, rfl, rfl, _, rfl, ?_⟩
      by_cases h0 : i = 0
      · refine iteP (by subst h0; rfl) ?_
        refine ⟨_, rfl, _, _, rfl, rfl, ?_, rfl⟩
        rw [if_pos (Or.inl h0)]
        rfl
      · refine iteN (nd_of (fun z => h0 (by cases z; rfl))) ?_
        refine ⟨_, rfl, rfl, _, rfl, ?_⟩
        by_cases h1 : lo = 0
        · refine iteN (by subst h1; simp) ?_
          refine ⟨?_, rfl⟩
          rw [if_neg (by rintro (z | z); exact h0 z; exact z h1)]
          rfl
        · refine iteP (by simpa using h1) ?_
          refine ⟨_, rfl, _, _, rfl, rfl, ?_, rfl⟩
          rw [if_pos (Or.inr h1)]
          rfl
    · rintro σ' H1 ⟨rfl, rfl⟩
      exact ⟨_, rfl, _, rfl, v, d, _, _, rfl, hv, q⟩
abbrev s_chk : Stmt := top 34
abbrev n_chk : List Str := ["field", "many", "letters", "lower", "place", "letter", "_", "digit", "below"]
theorem sc_chk : FnScope n_chk ["field", "many", "letters"] (defScope s_chk) := ⟨rfl, rfl, rfl, by decide +kernel, rfl, by decide +kernel, by decide +kernel⟩
theorem ok_chk {f C CE : Addr} {fd : FuncData} {k : Nat} (F : Fun K "_check_letters" "_check_letters" s_chk f fd) (T : TxF K mg C) (TS : TSm mg) (T1 : mg "range" = none) (T2 : mg "enumerate" = none) (OE : OwnE P w K mg "InvalidDigits" "index" CE) (M2 : Pt P w K mg base C (k + 1) "period" (spFPer K C))
    (D1 : Df P w K mg base (k + 2) "can_stand" ["period", "place", "digit", "lower"] (spCanV K)) : FnOk P w K mg base (L2.CX P w) (k + 3) f fd ["field", "many", "letters"] (spChk K C CE) := by
  refine F.okX sc_chk (fun vs H Q E h => ?_) (fun cdv A outer s H vs Q E hr h => ?_)
  · obtain ⟨tk, p, l, d, m, ws, ds, rfl, _⟩ := h
    rfl
  · obtain ⟨tk, p, l, d, m, ws, ds, rfl, hF, hd, hm, hl, hw, hlen, hc⟩ := h
    have nd := sc_chk.nd
    obtain ⟨fE, oE, iE⟩ := OE.ex
    have hpr := perOk hd
    refine ⟨_, (pss_cons (ps_setLc (i := 3) (own := [("_", 6)]) (g := gName 6) (tt := tYes) (te := tC (.int 0)) (by rfl) nd rfl rfl (sw_true rfl rfl rfl (by decide +kernel)) (pi_range1 rfl T1 (pa_cons (pv 1) pa_nil)) (blkOk_by (own := [("_", 6)]) (N := n_chk) (sc := defScope s_chk) (by decide +kernel)) (fun _ _ _ _ _ => (pg_name (i := 6) nd rfl (Or.inl rfl))) (fun _ _ _ _ _ => pts_nil) (fun _ _ _ _ _ => pe_int))
      (pss_one (ps_for (passes_of rfl) rfl (pi_enumM (by rfl) T2 (pa_cons (pv 2) pa_nil)) (pg_tup rfl (pgs_cons (pg_name (i := 4) nd rfl (Or.inr rfl)) (pgs_cons (pg_name (i := 5) nd rfl (Or.inl rfl)) pgs_nil)))
      (pss_cons (ps_if (pw_or (pt_not (pt_val (pe_callB call_isi (by rfl) TS.isinstance (by decide +kernel) (pa_cons (pv 5) (pa_cons (pe_bltn (v := .ty "tuple") (by rfl) TS.tuple (by decide +kernel) rfl) pa_nil))))) (pw_or1 (pt_cmpR op_ne (pe_callB call_len_seq (by rfl) TS.len PySem.boot_len (pa_cons (pv 5) pa_nil)) (pv 1) (nomark _)))).pt
        (pss_one (ps_raise rfl (takes_of rfl rfl rfl rfl) (pmk1 oE iE hr (pa_cons (pv 4) pa_nil))))
        pss_nil)
        (pss_cons (ps_if (pt_not (pt_val (pe_callB (cr_all rfl) (by rfl) TS.all (by decide +kernel) (pa_cons (pe_lc (own := [("digit", 7), ("below", 8)]) (g := gTup K 2 (gCons (gName 7) (gCons (gName 8) gNil))) (tt := tYes) (te := tCall (spCanV K) [] E0 (tCons (tProp C (spFPer K C) [] E0 (tVar 0)) (tCons (tVar 4) (tCons (tVar 7) (tCons (tVar 8) tNil))))) (by rfl) nd (pi_zipM (by rfl) TS.zip (pa_cons (pv 5) (pa_cons (pv 3) pa_nil))) (blkOk_by (own := [("digit", 7), ("below", 8)]) (N := n_chk) (sc := defScope s_chk) (by decide +kernel)) (fun _ _ _ _ _ => (pg_tup rfl (pgs_cons (pg_name (i := 7) nd rfl (Or.inl rfl)) (pgs_cons (pg_name (i := 8) nd rfl (Or.inl rfl)) pgs_nil)))) (fun _ _ _ _ _ => pts_nil) (fun _ _ _ _ _ => (pe_callD D1 hr (Nat.le_refl _) (pa_cons (pe_pt (pv 0) T.cl M2 hr (Nat.le_refl _)) (pa_cons (pv 4) (pa_cons (pv 7) (pa_cons (pv 8) pa_nil))))))) pa_nil))))
        (pss_one (ps_raise rfl (takes_of rfl rfl rfl rfl) (pmk1 oE iE hr (pa_cons (pv 4) pa_nil))))
        pss_nil)
        (pss_one (ps_set (i := 3) nd rfl (Or.inl rfl) (pv 5)))))))), ?_⟩
    -- lower
    refine ⟨_, rfl, _, rfl, by omega, by omega, fun D0 hD0 => ?_⟩
    refine lc_range (n := m) (fun u H' => H' D0 = some (.lst ((List.replicate u (0 : Int)).map V.int)) ∧ Same H H' ∧ u ≤ m) ⟨upd_same, sNew (Same.refl _) hD0, Nat.zero_le _⟩ ?_ ?_
    · rintro u H1 hu ⟨h1, sm, _⟩
      refine ⟨rfl, yes_if ⟨_, h1, by rw [List.length_map, List.length_replicate, sizeLine_eq]; omega, ?_, sm_upd sm hD0, by omega⟩⟩
      rw [upd_same, List.replicate_succ', List.map_append]
      rfl
    rintro H1 ⟨h1, sm1, _⟩
    refine ⟨_, rfl, tk, l, ws, rfl, SqK.same hl sm1, ?_⟩
    refine for_it (walk_em (t := tk) (xs := ws)) (fun i σ H' => ∃ (t : Bool) (lw : Addr) (lo : List Int) (v4 v5 : Option V), σ = [some (.ref p), some (.int (m : Int)), some (.ref l), some (.ref lw), v4, v5, none, none, none] ∧ SqK K t H' lw (lo.map V.int) ∧ lo.length = m ∧ firstBad (per d) m 0 (List.replicate m 0) ds = firstBad (per d) m i lo (ds.drop i) ∧ Same H H')
      ⟨false, D0, List.replicate m 0, none, none, rfl, SqL.of h1, by simp, by simp, sm1⟩ (fun i σ H' _ h => by obtain ⟨_, _, _, _, _, _, _, _, _, h⟩ := h; exact SqK.same hl h) ?_ ?_
    · rintro i x σ H2 H3 hi ⟨t, lw, lo, v4, v5, rfl, hlw, hlo, hfb, sm⟩ ⟨u, x1, x2, rfl, hu, rfl, e1, e2⟩
      obtain rfl := Option.some.inj e1
      obtain ⟨dv, hdv, hrv⟩ := hw.at_ e2
      have hid : i < ds.length := (List.getElem?_eq_some_iff.mp hdv).1
      have ed : ds.drop i = dv :: ds.drop (i + 1) := by
        rw [List.drop_eq_getElem_cons hid]
        rw [List.getElem?_eq_getElem hid] at hdv
        rw [Option.some.inj hdv]
      rw [ed] at hfb
      have efb : firstBad (per d) m i lo (dv :: ds.drop (i + 1)) = if goodD (per d) m i lo dv = true then firstBad (per d) m (i + 1) (intsD dv) (ds.drop (i + 1)) else some i := rfl
      rw [efb] at hfb
      have hbad : goodD (per d) m i lo dv = false → Rsd CE "InvalidDigits" "index" (.int (i : Int)) H E := fun hb => by
        rw [hb, if_neg Bool.false_ne_true] at hfb
        rcases hc with ⟨j, hj, hR⟩ | ⟨hj, _⟩
        · rw [hfb] at hj
          obtain rfl := Option.some.inj hj
          exact hR
        · rw [hfb] at hj; cases hj
      have sm3 : Same H (upd H2 u (.tup [.int (i : Nat), x2])) := sNew sm hu
      have su : Same H2 (upd H2 u (.tup [.int (i : Nat), x2])) := sNew (Same.refl _) hu
      have hrv3 := Rp.same sm3 _ hrv
      refine ⟨u, _, rfl, SqT.of upd_same, rfl, _, _, rfl, _, _, rfl, rfl, ?_⟩
      refine ⟨_, rfl, _, _, _, _, _, rfl, .ty _, tyX _ hrv3, kit_ty (kit_tuple _), _, rfl, ?_⟩
      cases dv with
      | tup dsx =>
        obtain ⟨a, xs, rfl, S, hlx, rr⟩ := id hrv3
        have el := rr.len
        refine iteF ⟨_, rfl, a, _, rfl, .inr S, _, rfl, rfl, _, rfl, ?_⟩
        by_cases h3 : dsx.length = m
        · have e3 : V.int (xs.length : Int) = V.int (m : Int) := by rw [el, h3]
          rw [e3]
          refine iteNS rfl ?_
          have hlw3 : SqK K t (upd H2 u (.tup [.int (i : Nat), V.ref a])) lw (lo.map V.int) := SqK.same hlw su
          have hzl : (dsx.zip lo).length = m := by rw [List.length_zip]; omega
          refine ⟨_, rfl, _, rfl, true, t, a, lw, xs, lo.map V.int, rfl, S, hlw3, fun Dl hDl => ?_⟩
          refine lc_it (walk_m (n := m) (by omega) (by rw [List.length_map]; exact hlo)) (fun j H' => H' Dl = some (.lst ((((dsx.zip lo).take j).map fun q => canD (per d) i q.1 q.2).map V.bl)) ∧ Same (upd H2 u (.tup [.int (i : Nat), V.ref a])) H')
            ⟨upd_same, sNew (Same.refl _) hDl⟩ (fun j H' _ z => ⟨SqK.same (t := true) S z.2, SqK.same hlw3 z.2⟩) ?_ ?_
          · rintro j y H4 H5 hj ⟨h4, sm4⟩ ⟨q, y1, y2, rfl, nq, rfl, f1, f2⟩
            obtain ⟨dx1, gx, px⟩ := rr.at_ f1
            obtain ⟨lj, gl, rfl⟩ : ∃ lj : Int, lo[j]? = some lj ∧ V.int lj = y2 := by
              have f2 : (lo.map V.int)[j]? = some y2 := f2
              rw [List.getElem?_map] at f2
              exact Option.map_eq_some_iff.mp f2
            have gz : (dsx.zip lo)[j]? = some (dx1, lj) := by
              rw [List.getElem?_zip_eq_some]
              exact ⟨gx, gl⟩
            have sm5 : Same (upd H2 u (.tup [.int (i : Nat), V.ref a])) (upd H4 q (.tup [y1, .int lj])) := sNew sm4 nq
            have smH := sm3.trans sm5
            obtain ⟨dxf, fsf, insF, noF⟩ := (hF.same smH).ins
            refine ⟨q, [y1, .int lj], rfl, SqT.of upd_same, rfl, _, _, rfl, _, _, rfl, rfl, rfl, ?_⟩
            refine yes_if ?_
            refine ⟨_, rfl, p, dxf, fsf, rfl, insF, p, d, rfl, hF.same smH, fun tt hTt => ⟨_, rfl, _, rfl, _, rfl, tt, per d, i, y1, dx1, lj, rfl, Rp.same sm5 _ px, hTt, hpr, ?_⟩⟩
            have h5 : (upd H4 q (.tup [y1, .int lj])) Dl = some (.lst ((((dsx.zip lo).take j).map fun q => canD (per d) i q.1 q.2).map V.bl)) := by rw [upd_ne (ne_of_none h4 nq)]; exact h4
            refine ⟨_, h5, ?_, ?_, sm_upd sm5 hDl⟩
            · rw [List.length_map, List.length_map, List.length_take, sizeLine_eq]; omega
            · rw [upd_same, List.take_add_one, gz, Option.toList_some, List.map_append, List.map_append]
              rfl
          rintro H4 ⟨h4, sm4⟩
          rw [List.take_of_length_le (by omega)] at h4
          refine ⟨Dl, _, rfl, SqL.of h4, _, rfl, ?_⟩
          have eg : goodD (per d) m i lo (.tup dsx) = (((dsx.zip lo).map fun q => canD (per d) i q.1 q.2).all id) := by
            show (decide (dsx.length = m) && _) = _
            rw [decide_eq_true h3, Bool.true_and, List.all_map]
            rfl
          rw [← eg]
          by_cases hg : goodD (per d) m i lo (.tup dsx) = true
          · rw [hg] at hfb ⊢
            rw [if_pos rfl] at hfb
            obtain ⟨w1, w2, w3⟩ := good_ints hlo hg
            refine iteF ⟨_, rfl, true, a, intsD (.tup dsx), _, _, rfl, ?_, w2, hfb, sm3.trans sm4⟩
            have ex : xs = (intsD (.tup dsx)).map V.int := by
              have ed2 : dsx = (intsD (.tup dsx)).map D.int := D.tup.inj w1
              rw [ed2] at rr
              exact rps_back rr
            rw [← ex]
            exact SqK.same (t := true) S sm4
          · have hb := Bool.eq_false_iff.mpr hg
            rw [hb]
            exact iteT ⟨_, rfl, _, rfl, fun dd hdd => hbad hb dd _ (sm3.trans sm4) hdd⟩
        · have hb : goodD (per d) m i lo (.tup dsx) = false := by
            show (decide (dsx.length = m) && _) = false
            rw [decide_eq_false h3]; rfl
          refine iteP ?_ ⟨_, rfl, _, rfl, fun dd hdd => hbad hb dd _ sm3 hdd⟩
          have : ¬ V.int (xs.length : Int) = V.int (m : Int) := fun z => h3 (by
            have := V.int.inj z
            omega)
          rw [decide_eq_false this]; rfl
      | non => exact iteT ⟨_, rfl, _, rfl, fun dd hdd => hbad rfl dd _ sm3 hdd⟩
      | bl _ => exact iteT ⟨_, rfl, _, rfl, fun dd hdd => hbad rfl dd _ sm3 hdd⟩
      | int _ => exact iteT ⟨_, rfl, _, rfl, fun dd hdd => hbad rfl dd _ sm3 hdd⟩
      | str _ => exact iteT ⟨_, rfl, _, rfl, fun dd hdd => hbad rfl dd _ sm3 hdd⟩
      | lst _ => exact iteT ⟨_, rfl, _, rfl, fun dd hdd => hbad rfl dd _ sm3 hdd⟩
    · rintro σ H2 ⟨t, lw, lo, v4, v5, rfl, hlw, hlo, hfb, sm⟩
      have e0 : ds.drop ws.length = [] := by rw [hw.len, List.drop_length]
      rw [e0] at hfb
      rcases hc with ⟨j, hj, hR⟩ | ⟨hj, hq⟩
      · rw [hfb] at hj; cases hj
      · exact hq _ sm
end
end RF

namespace RF
open PySem L2 PyProof.Rows EX
/-! ### the mathematics of the carrying -/
theorem flQ_bd {n : Nat} {d i j k : Int} (hd : Root d) (hk : k ≠ 0) (bi : Bd n i) (bj : Bd n j) : Bd (n + 4) (flQ d i j k) := by
  have ei : Bd n (pI i j k) := bi.le (pI_le hk)
  have ej : Bd n (pJ i j k) := bj.le (pJ_le hk)
  have b : Bd (n + 3 + 1) (pI i j k + flr d (pJ i j k)) := (ei.mono (by omega)).add (flr_bd hd ej)
  exact b.le (Int.natAbs_ediv_le_natAbs _ _)
theorem flr_mono {d f g : Int} (hd : Root d) (h : f ≤ g) : flr d f ≤ flr d g := by
  have h1 : 0 ≤ sgb d (-flr d f) f := (keyL hd).mpr (by omega)
  have h2 : f * ab f ≤ g * ab g := by
    by_cases hf : 0 ≤ f
    · rw [ab_pos hf, ab_pos (by omega)]
      exact sq_le hf h
    · by_cases hg : 0 ≤ g
      · have : f * ab f ≤ 0 := Int.mul_nonpos_of_nonpos_of_nonneg (by omega) (ab_nn f)
        have : 0 ≤ g * ab g := Int.mul_nonneg hg (ab_nn g)
        omega
      · rw [ab_neg (i := f) (by omega), ab_neg (i := g) (by omega)]
        have := sq_le (a := -g) (b := -f) (by omega) (by omega)
        rw [Int.neg_mul_neg, Int.neg_mul_neg] at this
        rw [Int.mul_neg, Int.mul_neg]
        omega
  have h3 : 0 ≤ sgb d (-flr d f) g := by
    unfold sgb at *
    have e1 : d * f * ab f = d * (f * ab f) := Int.mul_assoc ..
    have e2 : d * g * ab g = d * (g * ab g) := Int.mul_assoc ..
    have := Int.mul_le_mul_of_nonneg_left h2 (show 0 ≤ d by have := hd.pos; omega)
    omega
  have := (keyL hd).mp h3
  omega
theorem sg_down {d a b e f : Int} (hd : Root d) (h : sg d a b ≤ 0) (he : e ≤ 0) (hf : f ≤ 0) (hn : ¬ (e = 0 ∧ f = 0)) : sg d (a + e) (b + f) < 0 := by
  refine Int.not_le.mp fun z => ?_
  have h1 := (sg_nonneg hd).mp z
  have h2 := flr_mono hd (show b + f ≤ b by omega)
  have h3 : 0 ≤ sg d a b := (sg_nonneg hd).mpr (by omega)
  obtain ⟨rfl, rfl⟩ := (sg_eq0 hd).mp (show sg d a b = 0 by omega)
  rw [Int.zero_add, Int.zero_add] at z
  have := sg_nn (d := d) (i := e) (j := f) hd he hf (by omega)
  omega
/-- the first range is short -/
theorem kr_len {d B u v : Int} (hd : Root d) (hB : 0 ≤ B) : (kr d B u v 0 1 0).2 - (kr d B u v 0 1 0).1 ≤ 4 * B := by
  refine Int.not_lt.mp fun z => ?_
  have hne : (0 : Int) ≠ 0 ∨ (1 : Int) ≠ 0 := .inr (by decide)
  have k1 := (kr_iff (d := d) (B := B) (u := u) (v := v) (s := 0) (t := 1) (n := (kr d B u v 0 1 0).2) (p := 0) hd hne).mp ⟨by omega, Int.le_refl _⟩
  have k2 := (kr_iff (d := d) (B := B) (u := u) (v := v) (s := 0) (t := 1) (n := (kr d B u v 0 1 0).1) (p := 0) hd hne).mp ⟨Int.le_refl _, by omega⟩
  generalize (kr d B u v 0 1 0).2 = hi at *
  generalize (kr d B u v 0 1 0).1 = lo at *
  unfold kpt at k1 k2
  rw [Bool.and_eq_true, decide_eq_true_eq, decide_eq_true_eq] at k1 k2
  have i0 := tlI_bd d 0
  have k0 := tlK_or d 0
  have hX : tlK d 0 * B ≤ 2 * B := Int.mul_le_mul_of_nonneg_right (by omega) hB
  have hX0 : 0 ≤ tlK d 0 * B := Int.mul_nonneg (by omega) hB
  have hI : (hi - lo) * 1 ≤ (hi - lo) * tlI d 0 := Int.mul_le_mul_of_nonneg_left i0.1 (by omega)
  have := sg_down hd k2.2 (e := 2 * (tlK d 0 * B) - (hi - lo) * tlI d 0) (f := -(hi - lo)) (by omega) (by omega) (by omega)
  have e1 : tlK d 0 * (u + lo * 0) - tlI d 0 * (v + lo * 1) - tlK d 0 * B + (2 * (tlK d 0 * B) - (hi - lo) * tlI d 0) = tlK d 0 * (u + hi * 0) - tlI d 0 * (v + hi * 1) + tlK d 0 * B := by grind
  have e2 : -1 * (v + lo * 1) + -(hi - lo) = -1 * (v + hi * 1) := by grind
  rw [e1, e2] at this
  have := k1.1
  omega
theorem kr_bd {d B u v : Int} (hd : Root d) (bB : Bd 20 B) (bu : Bd 30 u) (bv : Bd 30 v) : Bd 50 (kr d B u v 0 1 0).1 ∧ Bd 50 (kr d B u v 0 1 0).2 := by
  have i0 := tlI_bd d 0
  have k0 := tlK_or d 0
  have bk : Bd 2 (tlK d 0) := by unfold Bd; omega
  have bi : Bd 2 (tlI d 0) := by unfold Bd; omega
  have bI : Bd 33 (gI d u v 0) := (bk.mul bu).sub (bi.mul bv)
  have bm : Bd 3 (gI d 0 1 0) := (Bd.mul bk (m := 0) (j := 0) (by unfold Bd; decide) |>.mono (by decide : 2 ≤ 2)).sub (show Bd 2 (tlI d 0 * 1) by rw [Int.mul_one]; exact bi)
  have bw : Bd 1 (-1 * (1 : Int)) := by unfold Bd; decide
  have bJ : Bd 31 (-1 * v) := Bd.mul (n := 1) (by unfold Bd; decide) bv
  have bX : Bd 33 (tlK d 0 * B) := (bk.mul bB).mono (by decide)
  have e0 := gI_ne (s := 0) (t := 1) (p := 0) hd (.inr (by decide))
  have dv : ∀ {i j m w : Int}, Bd 34 i → Bd 34 j → Bd 3 m → Bd 1 w → sg d m w ≠ 0 → Bd 50 (dvd_ d i j m w) := fun hi hj hm hw hne =>
    (flQ_bd hd (dv_ne hd hne) ((((hi.mul hm).mono (by decide : 37 ≤ 39)).sub (((rootBd hd).mul hj).mul hw)).mono (by decide : 40 ≤ 46)) (((hj.mul hm).sub ((hi.mul hw).mono (by decide : 35 ≤ 37))).mono (by decide : 38 ≤ 46)))
  unfold kr
  split
  · exact ⟨(dv (bX.add bI.neg) (bJ.neg.mono (by decide)) bm.neg bw.neg (by rw [sg_neg]; omega)).neg, dv (bX.sub bI.neg) (bJ.neg.neg.mono (by decide)) bm.neg bw.neg (by rw [sg_neg]; omega)⟩
  · exact ⟨(dv (bX.add bI) (bJ.mono (by decide)) bm bw e0).neg, dv (bX.sub bI) (bJ.neg.mono (by decide)) bm bw e0⟩
def tot (fs L : List Int) : Int := ((fs.zip L).map fun q => q.1 * q.2).sum
theorem tot_bd : ∀ (fs L : List Int), (∀ f ∈ fs, -5 ≤ f ∧ f ≤ 5) → (∀ x ∈ L, 0 ≤ x ∧ x ≤ 4) → (tot fs L).natAbs ≤ 20 * fs.length
  | [], _, _, _ => by simp [tot]
  | f :: fs, [], _, _ => by simp [tot]
  | f :: fs, x :: L, h1, h2 => by
    have ih := tot_bd fs L (fun g hg => h1 g (List.mem_cons_of_mem _ hg)) (fun g hg => h2 g (List.mem_cons_of_mem _ hg))
    have a := h1 f (List.mem_cons_self ..)
    have b := h2 x (List.mem_cons_self ..)
    have e : tot (f :: fs) (x :: L) = f * x + tot fs L := by simp [tot]
    have c : (f * x).natAbs ≤ 20 := by
      rw [Int.natAbs_mul]
      exact Nat.mul_le_mul (show f.natAbs ≤ 5 by omega) (show x.natAbs ≤ 4 by omega)
    rw [e, List.length_cons]
    omega
def mx (a b : Int) : Int := if b > a then b else a
def mn (a b : Int) : Int := if b < a then b else a
/-- what is carried: from the state at a place on -/
def crun (d B : Int) (fs : List Int) : List (List Int) → Nat → Int × Int → Int × Int → Int → Int → List (Int × Int)
  | [], _, b, s, lo, hi => (List.range (hi + 1 - lo).toNat).map fun j => (b.1 + (lo + (j : Nat)) * s.1, b.2 + (lo + (j : Nat)) * s.2)
  | L :: Ls, p, b, s, lo, hi => if mx lo (kr d B (cst (ai (per d) p) (tot fs L) b).1 (cst (ai (per d) p) (tot fs L) b).2 (cst (ai (per d) p) 0 s).1 (cst (ai (per d) p) 0 s).2 (p + 1)).1 > mn hi (kr d B (cst (ai (per d) p) (tot fs L) b).1 (cst (ai (per d) p) (tot fs L) b).2 (cst (ai (per d) p) 0 s).1 (cst (ai (per d) p) 0 s).2 (p + 1)).2 then []
    else crun d B fs Ls (p + 1) (cst (ai (per d) p) (tot fs L) b) (cst (ai (per d) p) 0 s) (mx lo (kr d B (cst (ai (per d) p) (tot fs L) b).1 (cst (ai (per d) p) (tot fs L) b).2 (cst (ai (per d) p) 0 s).1 (cst (ai (per d) p) 0 s).2 (p + 1)).1) (mn hi (kr d B (cst (ai (per d) p) (tot fs L) b).1 (cst (ai (per d) p) (tot fs L) b).2 (cst (ai (per d) p) 0 s).1 (cst (ai (per d) p) 0 s).2 (p + 1)).2)
theorem cst_bd {n : Nat} {part total : Int} {q : Int × Int} (hn : 12 ≤ n) (hp : 1 ≤ part ∧ part ≤ 4) (ht : total.natAbs ≤ 2000) (h1 : Bd n q.1) (h2 : Bd n q.2) : Bd (n + 3) (cst part total q).1 ∧ Bd (n + 3) (cst part total q).2 := by
  refine ⟨h2.mono (by omega), ?_⟩
  show Bd (n + 3) (q.1 - part * q.2 - total)
  unfold Bd at *
  have hp2 : 2 ^ (n + 3) = 8 * 2 ^ n := by rw [Nat.pow_add]; omega
  have h3 : (part * q.2).natAbs ≤ 4 * q.2.natAbs := by
    rw [Int.natAbs_mul]
    exact Nat.mul_le_mul_right _ (by omega)
  have h4 : 2 ^ 12 ≤ 2 ^ n := Nat.pow_le_pow_right (by decide) hn
  have h5 : (2 : Nat) ^ 12 = 4096 := by decide
  omega
/-- letters that are no wrong ones -/
theorem letters_ok {p : List Int} {m : Nat} : ∀ (ds : List D) (i : Nat) (lo : List Int), lo.length = m → firstBad p m i lo ds = none → ∀ j d, ds[j]? = some d → d = .tup ((intsD d).map D.int) ∧ (intsD d).length = m ∧ ∀ x ∈ intsD d, 0 ≤ x ∧ x ≤ ai p (i + j)
  | [], _, _, _, _, j, d, h => by simp at h
  | e :: ds, i, lo, hl, hb, j, d, h => by
    have efb : firstBad p m i lo (e :: ds) = if goodD p m i lo e = true then firstBad p m (i + 1) (intsD e) ds else some i := rfl
    rw [efb] at hb
    by_cases hg : goodD p m i lo e = true
    · rw [if_pos hg] at hb
      have g := good_ints hl hg
      cases j with
      | zero =>
        obtain rfl : e = d := by simpa using h
        exact g
      | succ j =>
        have h : ds[j]? = some d := by simpa using h
        have := letters_ok ds (i + 1) (intsD e) g.2.1 hb j d h
        rw [show i + 1 + j = i + (j + 1) by omega] at this
        exact this
    · rw [if_neg hg] at hb; cases hb
end RF

/-! how far the carried pairs can grow: as the steps do -/
namespace RF
def wI (i : Nat) : Int := 1100000 + 2000 * i
def rV (p : List Int) : Nat → Int
  | 0 => 1
  | i + 1 => 2 * qn p (i + 1)
def rU (p : List Int) : Nat → Int
  | 0 => 1
  | i + 1 => rV p i
theorem qn_rec (p : List Int) (i : Nat) : qn p (i + 2) = ai p (i + 1) * qn p (i + 1) + qn p i := rfl
theorem rv_pos {p : List Int} (h : ∀ i, 1 ≤ ai p i) : ∀ i, 1 ≤ rV p i
  | 0 => Int.le_refl _
  | i + 1 => by
    have := (stp_pos h (i + 1)).2.1
    show 1 ≤ 2 * (stp p (i + 1)).2
    omega
theorem ru_pos {p : List Int} (h : ∀ i, 1 ≤ ai p i) : ∀ i, 1 ≤ rU p i
  | 0 => Int.le_refl _
  | i + 1 => rv_pos h i
theorem rv_step {p : List Int} (h : ∀ i, 1 ≤ ai p i) : ∀ i, rU p i + ai p i * rV p i ≤ rV p (i + 1)
  | 0 => by
    have h0 := h 0
    have e : qn p 1 = ai p 0 * 1 + 0 := rfl
    show 1 + ai p 0 * 1 ≤ 2 * qn p 1
    omega
  | 1 => by
    have e : qn p 2 = ai p 1 * qn p 1 + qn p 0 := rfl
    have e0 : qn p 0 = 1 := rfl
    show 1 + ai p 1 * (2 * qn p 1) ≤ 2 * qn p 2
    rw [e, e0, show ai p 1 * (2 * qn p 1) = 2 * (ai p 1 * qn p 1) by rw [Int.mul_left_comm]]
    omega
  | i + 2 => by
    have e : qn p (i + 3) = ai p (i + 2) * qn p (i + 2) + qn p (i + 1) := rfl
    show 2 * qn p (i + 1) + ai p (i + 2) * (2 * qn p (i + 2)) ≤ 2 * qn p (i + 3)
    rw [e, show ai p (i + 2) * (2 * qn p (i + 2)) = 2 * (ai p (i + 2) * qn p (i + 2)) by rw [Int.mul_left_comm]]
    omega
def Gr (p : List Int) (i : Nat) (q : Int × Int) : Prop := (q.1.natAbs : Int) ≤ wI i * rU p i ∧ (q.2.natAbs : Int) ≤ wI i * rV p i
theorem gr_cst {p : List Int} {i : Nat} {q : Int × Int} {total : Int} (h : ∀ i, 1 ≤ ai p i) (ht : total.natAbs ≤ 2000) (g : Gr p i q) : Gr p (i + 1) (cst (ai p i) total q) := by
  obtain ⟨g1, g2⟩ := g
  have v1 := rv_pos h i
  have v2 := rv_pos h (i + 1)
  have hw : wI (i + 1) = wI i + 2000 := by unfold wI; omega
  have w0 : 0 ≤ wI i := by unfold wI; omega
  constructor
  · show (q.2.natAbs : Int) ≤ wI (i + 1) * rV p i
    rw [hw, Int.add_mul]
    omega
  · show ((q.1 - ai p i * q.2 - total).natAbs : Int) ≤ wI (i + 1) * rV p (i + 1)
    have h1 := Int.mul_le_mul_of_nonneg_left (rv_step h i) w0
    have h2 := Int.mul_le_mul_of_nonneg_left g2 (show 0 ≤ ai p i by have := h i; omega)
    have e1 : ((ai p i * q.2).natAbs : Int) = ai p i * (q.2.natAbs : Int) := by
      rw [Int.natAbs_mul, Int.natCast_mul, Int.natAbs_of_nonneg (by have := h i; omega)]
    have e2 : wI i * (rU p i + ai p i * rV p i) = wI i * rU p i + ai p i * (wI i * rV p i) := by grind
    rw [hw, Int.add_mul]
    have h3 : 2000 * 1 ≤ 2000 * rV p (i + 1) := Int.mul_le_mul_of_nonneg_left v2 (by decide)
    omega
theorem gr_bd {p : List Int} {i n : Nat} {q : Int × Int} (h : ∀ i, 1 ≤ ai p i) (hi : i ≤ n) (hn : n ≤ 200) (hq : qn p n < 2 ^ 120) (g : Gr p i q) : Bd 145 q.1 ∧ Bd 145 q.2 := by
  obtain ⟨g1, g2⟩ := g
  have w1 : wI i ≤ 2 ^ 21 := by unfold wI; omega
  have w0 : 0 ≤ wI i := by unfold wI; omega
  have up : ∀ j, j ≤ n → rV p j ≤ 2 ^ 121 := fun j hj => by
    cases j with
    | zero => show (1 : Int) ≤ _; decide
    | succ j =>
      have := qn_mono h hj
      show 2 * qn p (j + 1) ≤ _
      omega
  have uu : rU p i ≤ 2 ^ 121 := by
    cases i with
    | zero => show (1 : Int) ≤ _; decide
    | succ j => exact up j (by omega)
  have uv := up i hi
  have p1 := Int.mul_le_mul w1 uu (by have := ru_pos h i; omega) (by decide)
  have p2 := Int.mul_le_mul w1 uv (by have := rv_pos h i; omega) (by decide)
  have e : (2 : Int) ^ 21 * 2 ^ 121 < 2 ^ 145 := by decide +kernel
  unfold Bd
  constructor
  · have : (q.1.natAbs : Int) < 2 ^ 145 := by omega
    exact_mod_cast this
  · have : (q.2.natAbs : Int) < 2 ^ 145 := by omega
    exact_mod_cast this
end RF

namespace RF
open PySem L2 PyProof.Rows EX
def IntsL (ds : List D) : List (List Int) := ds.map intsD
def spCar (K : PySem.W.Frag) (C CE : Addr) : Sp := fun vs H Q E => ∃ (tk : Bool) (p lf ll : Addr) (d c : Int) (fs : List Int) (ws : List V) (ds : List D), vs = [.ref p, .ref lf, .int c, .ref ll] ∧ FldAt K H C p d ∧ Root d ∧ Ints K H lf fs ∧ Fac fs ∧ c.natAbs ≤ 1000000 ∧ SqK K tk H ll ws ∧ Rps K H ws ds ∧ ws.length ≤ 160 ∧ qn (per d) (ws.length + 1) < 2 ^ 120 ∧
  ((∃ i : Nat, firstBad (per d) fs.length 0 (List.replicate fs.length 0) ds = some i ∧ Rsd CE "InvalidDigits" "index" (.int (i : Int)) H E) ∨
   (firstBad (per d) fs.length 0 (List.replicate fs.length 0) ds = none ∧ ∀ x H' (ys : List V) (k : V → Int × Int), H' x = some (.lst ys) → (∀ y ∈ ys, ∃ t, y = .ref t ∧ H' t = some (.tup [.int (k y).1, .int (k y).2])) →
     (ys.map k).Perm (crun d (bnd d fs) fs (IntsL ds) 0 (-c, 0) (0, 1) (kr d (bnd d fs) (-c) 0 0 1 0).1 (kr d (bnd d fs) (-c) 0 0 1 0).2) → SrtO.Srtd (ltP k) ys → Same H H' → H x = none → Q (.ref x) H'))
/-- one more of the objects of a list that is being made -/
theorem stepg {H : Hp} {D t : Addr} {i : Nat} {g : Nat → Addr} {q : Nat → HO} (hg : H D = some (.lst ((List.range i).map fun j => V.ref (g j)))) (hr : ∀ j, j < i → H (g j) = some (q j)) (ht : H t = some (q i)) (nl : ∀ j xs, q j ≠ .lst xs) :
    ∃ g' : Nat → Addr, upd H D (.lst (((List.range i).map fun j => V.ref (g j)) ++ [.ref t])) D = some (.lst ((List.range (i + 1)).map fun j => V.ref (g' j))) ∧ ∀ j, j < i + 1 → upd H D (.lst (((List.range i).map fun j => V.ref (g j)) ++ [.ref t])) (g' j) = some (q j) := by
  have off : ∀ (p : Addr) j, H p = some (q j) → p ≠ D := fun p j h z => by
    rw [z, hg] at h
    exact nl j _ (Option.some.inj h).symm
  refine ⟨fun j => if j = i then t else g j, ?_, fun j hj => ?_⟩
  · have e1 : ((List.range i).map fun j => V.ref (if j = i then t else g j)) = (List.range i).map fun j => V.ref (g j) := List.map_congr_left fun j hj => by
      rw [if_neg (by have := List.mem_range.mp hj; omega)]
    rw [upd_same, List.range_succ, List.map_append, e1, List.map_singleton]
    show some (HO.lst (_ ++ [V.ref t])) = some (HO.lst (_ ++ [V.ref (if i = i then t else g i)]))
    rw [if_pos rfl]
  · by_cases hji : j = i
    · subst hji
      show upd H D _ (if j = j then t else g j) = _
      rw [if_pos rfl, upd_ne (off _ _ ht)]
      exact ht
    · show upd H D _ (if j = i then t else g j) = _
      rw [if_neg hji]
      have h1 := hr j (by omega)
      rw [upd_ne (off _ _ h1)]
      exact h1
/-- the pair at an address -/
def kOf (H : Hp) : V → Int × Int
  | .ref t => match H t with
    | some (.tup [.int a, .int b]) => (a, b)
    | _ => (0, 0)
  | _ => (0, 0)
theorem kOf_at {H : Hp} {t : Addr} {a b : Int} (h : H t = some (.tup [.int a, .int b])) : kOf H (.ref t) = (a, b) := by
  show (match H t with | some (.tup [.int a, .int b]) => (a, b) | _ => (0, 0)) = _
  rw [h]
theorem bnd_bd {d : Int} {fs : List Int} (h : Fac fs) : 0 ≤ bnd d fs ∧ bnd d fs ≤ 6000 := by
  have e1 := absum_le fs h.2
  have e2 := absum_nn fs
  have e3 := h.1
  have e4 := tp_bd d
  have e5 : (3 * tp d) * absum fs ≤ 12 * absum fs := Int.mul_le_mul_of_nonneg_right (by omega) e2
  have e6 : 0 ≤ (3 * tp d) * absum fs := Int.mul_nonneg (by omega) e2
  unfold bnd
  omega
theorem ints_k {K : PySem.W.Frag} {H : Hp} {a : Addr} {fs : List Int} (h : Ints K H a fs) : ∃ t, SqK K t H a (fs.map V.int) := h.elim (fun z => ⟨false, z⟩) fun z => ⟨true, z⟩
section
variable {P : Program} {w : World} {K : PySem.W.Frag} {mg : Str → Option Value} {base : Heap}
abbrev s_car : Stmt := top 33
abbrev n_car : List Str := ["field", "factors", "constant", "letters", "bound", "base", "stride", "low", "high", "place", "letter", "part", "total", "least", "greatest", "n", "factor", "digit"]
theorem sc_car : FnScope n_car ["field", "factors", "constant", "letters"] (defScope s_car) := ⟨rfl, rfl, rfl, by decide +kernel, rfl, by decide +kernel, by decide +kernel⟩
theorem ok_car {f C CE : Addr} {fd : FuncData} {k : Nat} (F : Fun K "carried" "carried" s_car f fd) (T : TxF K mg C) (N1 : mg "len" = none) (N2 : mg "enumerate" = none) (N3 : mg "zip" = none) (N4 : mg "sum" = none) (N5 : mg "max" = none) (N6 : mg "min" = none) (N7 : mg "sorted" = none) (N8 : mg "range" = none)
    (M2 : Pt P w K mg base C (k + 1) "period" (spFPer K C)) (DC : DfX P w K mg base (k + 2) "_check_letters" ["field", "many", "letters"] (spChk K C CE)) (DB : Df P w K mg base (k + 2) "_bound" ["field", "factors"] (spBnd K C))
    (DY : Df P w K mg base (k + 2) "_carry" ["pair", "part", "total"] (spCarry K)) (DK : Df P w K mg base (k + 2) "_kept_range" ["field", "bound", "base", "stride", "place"] (spKR K C)) : FnOk P w K mg base (L2.CX P w) (k + 3) f fd ["field", "factors", "constant", "letters"] (spCar K C CE) := by
  refine F.okX sc_car (fun vs H R E h => ?_) (fun cdv A outer s H vs R E hr h => ?_)
  · obtain ⟨tk, p, lf, ll, d, c, fs, ws, ds, rfl, _⟩ := h
    rfl
  · obtain ⟨tk, p, lf, ll, d, c, fs, ws, ds, rfl, hF, hd, hfs, hfac, hc, hl, hw, hlen, hq115, hout⟩ := h
    have nd := sc_car.nd
    have hpr := perOk hd
    obtain ⟨tf, hfk⟩ := ints_k hfs
    refine ⟨_, (pss_cons (ps_expr (pe_callX DC hr (Nat.le_refl _) (fun pins σ H s e s' I c => L2.passes_call (W := fun cls d _ H => E cls d H) (takes_of rfl rfl rfl rfl) (fun _ _ _ _ h => h) pins σ H s e s' I c) (pa_cons (pv 0) (pa_cons (pe_callB call_len_seq (by rfl) N1 PySem.boot_len (pa_cons (pv 1) pa_nil)) (pa_cons (pv 3) pa_nil)))))
      (pss_cons (ps_set (i := 4) nd rfl (Or.inl rfl) (pe_callD DB hr (Nat.le_refl _) (pa_cons (pv 0) (pa_cons (pv 1) pa_nil))))
      (pss_cons (ps_asg (pe_tup (pa_cons (pe_tup (pa_cons (pe_un un_neg (pv 2)) (pa_cons pe_int pa_nil))) (pa_cons (pe_tup (pa_cons pe_int (pa_cons pe_int pa_nil))) pa_nil))) (pg_tup rfl (pgs_cons (pg_name (i := 5) nd rfl (Or.inr rfl)) (pgs_cons (pg_name (i := 6) nd rfl (Or.inr rfl)) pgs_nil))))
      (pss_cons (ps_asg (pe_callD DK hr (Nat.le_refl _) (pa_cons (pv 0) (pa_cons (pv 4) (pa_cons (pv 5) (pa_cons (pv 6) (pa_cons pe_int pa_nil)))))) (pg_tup rfl (pgs_cons (pg_name (i := 7) nd rfl (Or.inl rfl)) (pgs_cons (pg_name (i := 8) nd rfl (Or.inl rfl)) pgs_nil))))
      (pss_cons (ps_for (passes_of rfl) rfl (pi_enumM (by rfl) N2 (pa_cons (pv 3) pa_nil)) (pg_tup rfl (pgs_cons (pg_name (i := 9) nd rfl (Or.inl rfl)) (pgs_cons (pg_name (i := 10) nd rfl (Or.inl rfl)) pgs_nil)))
      (pss_cons (ps_set (i := 11) nd rfl (Or.inl rfl) (pe_ix ix_tup (pe_pt (pv 0) T.cl M2 hr (Nat.le_refl _)) (pe_op op_mod (pv 9) (pe_callB call_len_seq (by rfl) N1 PySem.boot_len (pa_cons (pe_pt (pv 0) T.cl M2 hr (Nat.le_refl _)) pa_nil))) (fun _ _ => rfl)))
        (pss_cons (ps_set (i := 12) nd rfl (Or.inl rfl) (pe_callB (cr_sum rfl) (by rfl) N4 (by decide +kernel) (pa_cons (pe_lc (own := [("factor", 16), ("digit", 17)]) (g := gTup K 2 (gCons (gName 16) (gCons (gName 17) gNil))) (tt := tYes) (te := tOp (rI CMulW fun i j => .int (i * j)) (tVar 16) (tVar 17)) (by rfl) nd (pi_zipM (by rfl) N3 (pa_cons (pv 1) (pa_cons (pv 10) pa_nil))) (blkOk_by (own := [("factor", 16), ("digit", 17)]) (N := n_car) (sc := defScope s_car) (by decide +kernel)) (fun _ _ _ _ _ => (pg_tup rfl (pgs_cons (pg_name (i := 16) nd rfl (Or.inl rfl)) (pgs_cons (pg_name (i := 17) nd rfl (Or.inl rfl)) pgs_nil)))) (fun _ _ _ _ _ => pts_nil) (fun _ _ _ _ _ => (pe_op op_mulW (pv 16) (pv 17)))) pa_nil)))
        (pss_cons (ps_asg (pe_tup (pa_cons (pe_callD DY hr (Nat.le_refl _) (pa_cons (pv 5) (pa_cons (pv 11) (pa_cons (pv 12) pa_nil)))) (pa_cons (pe_callD DY hr (Nat.le_refl _) (pa_cons (pv 6) (pa_cons (pv 11) (pa_cons pe_int pa_nil)))) pa_nil))) (pg_tup rfl (pgs_cons (pg_name (i := 5) nd rfl (Or.inr rfl)) (pgs_cons (pg_name (i := 6) nd rfl (Or.inr rfl)) pgs_nil))))
        (pss_cons (ps_asg (pe_callD DK hr (Nat.le_refl _) (pa_cons (pv 0) (pa_cons (pv 4) (pa_cons (pv 5) (pa_cons (pv 6) (pa_cons (pe_op op_add (pv 9) pe_int) pa_nil)))))) (pg_tup rfl (pgs_cons (pg_name (i := 13) nd rfl (Or.inl rfl)) (pgs_cons (pg_name (i := 14) nd rfl (Or.inl rfl)) pgs_nil))))
        (pss_cons (ps_par (i := 7) (j := 8) rfl nd rfl rfl (by decide) rfl rfl (pa_cons (pe_callB (call_max2 rfl) (by rfl) N5 (by decide +kernel) (pa_cons (pv 7) (pa_cons (pv 13) pa_nil))) (pa_cons (pe_callB (call_min2 rfl) (by rfl) N6 (by decide +kernel) (pa_cons (pv 8) (pa_cons (pv 14) pa_nil))) pa_nil)) (by kernel_rfl))
        (pss_one (ps_if (pt_cmpR op_gt (pv 7) (pv 8) (nomark _))
        (pss_one (ps_ret (pe_lst pa_nil)))
        pss_nil))))))))
      (pss_one (ps_ret (pe_callB cr_sortedPO (by rfl) N7 (by decide +kernel) (pa_cons (pe_lc (own := [("n", 15)]) (g := gName 15) (tt := tYes) (te := tTup (tCons (tOp (rI0 fun i j => .int (i + j)) (tOp (rIxT K) (tVar 5) (tC (.int 0))) (tOp (rI CMulW fun i j => .int (i * j)) (tVar 15) (tOp (rIxT K) (tVar 6) (tC (.int 0))))) (tCons (tOp (rI0 fun i j => .int (i + j)) (tOp (rIxT K) (tVar 5) (tC (.int 1))) (tOp (rI CMulW fun i j => .int (i * j)) (tVar 15) (tOp (rIxT K) (tVar 6) (tC (.int 1))))) tNil))) (by rfl) nd (pi_range2 rfl N8 (pa_cons (pv 7) (pa_cons (pe_op op_add (pv 8) pe_int) pa_nil))) (blkOk_by (own := [("n", 15)]) (N := n_car) (sc := defScope s_car) (by decide +kernel)) (fun _ _ _ _ _ => (pg_name (i := 15) nd rfl (Or.inl rfl))) (fun _ _ _ _ _ => pts_nil) (fun _ _ _ _ _ => (pe_tup (pa_cons (pe_op op_add (pe_ix ix_tup (pv 5) pe_int (fun _ _ => rfl)) (pe_op op_mulW (pv 15) (pe_ix ix_tup (pv 6) pe_int (fun _ _ => rfl)))) (pa_cons (pe_op op_add (pe_ix ix_tup (pv 5) pe_int (fun _ _ => rfl)) (pe_op op_mulW (pv 15) (pe_ix ix_tup (pv 6) pe_int (fun _ _ => rfl)))) pa_nil))))) pa_nil))))))))), ?_⟩
    have hBB := bnd_bd (d := d) hfac
    have bB : Bd 13 (bnd d fs) := by unfold Bd; omega
    rcases hout with ⟨i, hb, hR⟩ | ⟨hn, q⟩
    · exact ⟨_, rfl, _, rfl, lf, _, rfl, hfs, _, rfl, tk, p, ll, d, _, ws, ds, rfl, hF, hd, by rw [List.length_map]; exact hfac.1, hl, hw, by omega, .inl ⟨i, by rw [List.length_map]; exact hb, hR⟩⟩
    refine ⟨_, rfl, _, rfl, lf, _, rfl, hfs, _, rfl, tk, p, ll, d, _, ws, ds, rfl, hF, hd, by rw [List.length_map]; exact hfac.1, hl, hw, by omega, .inr ⟨by rw [List.length_map]; exact hn, fun H1 s1 => ?_⟩⟩
    refine ⟨_, rfl, _, rfl, p, lf, d, fs, rfl, hF.same s1, hd, Ints.same s1 hfs, hfac, fun H2 s2 => ?_⟩
    have s12 := s1.trans s2
    -- base, stride
    refine ⟨_, rfl, _, rfl, by show 2 ≤ sizeLine; decide, fun b nb => ⟨by show 2 ≤ sizeLine; decide, fun st nst => ⟨by show 2 ≤ sizeLine; decide, fun tt ntt => ⟨tt, _, rfl, SqT.of upd_same, rfl, _, _, rfl, _, _, rfl, rfl, ?_⟩⟩⟩⟩
    have m1 := sNew (o := .tup [.int (-c), .int 0]) (Same.refl H2) nb
    have m2 := sNew (o := .tup [.int 0, .int 1]) (Same.refl _) nst
    have m3 := sNew (o := .tup [.ref b, .ref st]) (Same.refl _) ntt
    have hb3 := m3 _ _ (m2 _ _ (upd_same (H := H2) (a := b) (o := .tup [.int (-c), .int 0])))
    have hst3 := m3 _ _ (upd_same (H := upd H2 b (.tup [.int (-c), .int 0])) (a := st) (o := .tup [.int 0, .int 1]))
    have s13 := s12.trans ((m1.trans m2).trans m3)
    have hA := fun i => (ai_pos hd i).1
    have gb0 : Gr (per d) 0 (-c, 0) := ⟨by show (((-c).natAbs : Nat) : Int) ≤ wI 0 * 1; unfold wI; omega, by show ((0 : Nat) : Int) ≤ wI 0 * 1; unfold wI; omega⟩
    have gs0 : Gr (per d) 0 (0, 1) := ⟨by show ((0 : Nat) : Int) ≤ wI 0 * 1; unfold wI; omega, by show ((1 : Nat) : Int) ≤ wI 0 * 1; unfold wI; omega⟩
    have bc : Bd 20 (-c) := by unfold Bd; omega
    have bz : Bd 20 (0 : Int) := by unfold Bd; decide
    have bo : Bd 20 (1 : Int) := by unfold Bd; decide
    refine ⟨_, rfl, _, rfl, _, rfl, _, rfl, p, b, st, d, bnd d fs, -c, 0, 0, 1, 0, rfl, hF.same s13, hd, bB.mono (by decide), SqT.of hb3, SqT.of hst3, bc.mono (by decide), bz.mono (by decide), bz.mono (by decide), bo.mono (by decide), .inr (by decide), fun r0 H3 nr0 hr0 s3 => ⟨r0, _, rfl, SqT.of hr0, rfl, _, _, rfl, _, _, rfl, rfl, ?_⟩⟩
    have s03 := s13.trans s3
    have kb := kr_bd (d := d) (B := bnd d fs) (u := -c) (v := 0) hd (bB.mono (by decide)) (bc.mono (by decide)) (bz.mono (by decide))
    have kl := kr_len (d := d) (B := bnd d fs) (u := -c) (v := 0) hd hBB.1
    generalize hlo0 : (kr d (bnd d fs) (-c) 0 0 1 0).1 = lo0 at *
    generalize hhi0 : (kr d (bnd d fs) (-c) 0 0 1 0).2 = hi0 at *
    obtain ⟨bb1, bb2⟩ := kb
    dsimp only [List.set_cons_succ, List.set_cons_zero]
    refine ⟨_, rfl, tk, ll, ws, rfl, SqK.same hl s03, ?_⟩
    refine for_it (walk_em (t := tk) (xs := ws)) (fun i σ H' => ∃ (bq sq : Int × Int) (lo hi : Int) (ab as : Addr) (v9 v10 v11 v12 v13 v14 : Option V), σ = [some (.ref p), some (.ref lf), some (.int c), some (.ref ll), some (.int (bnd d fs)), some (.ref ab), some (.ref as), some (.int lo), some (.int hi), v9, v10, v11, v12, v13, v14, none, none, none] ∧
        H' ab = some (.tup [.int bq.1, .int bq.2]) ∧ H' as = some (.tup [.int sq.1, .int sq.2]) ∧ Gr (per d) i bq ∧ Gr (per d) i sq ∧ (sq.1 ≠ 0 ∨ sq.2 ≠ 0) ∧ lo0 ≤ lo ∧ hi ≤ hi0 ∧ ((lo = lo0 ∧ hi = hi0) ∨ lo ≤ hi) ∧
        crun d (bnd d fs) fs (IntsL ds) 0 (-c, 0) (0, 1) lo0 hi0 = crun d (bnd d fs) fs ((IntsL ds).drop i) i bq sq lo hi ∧ Same H H')
      ⟨(-c, 0), (0, 1), lo0, hi0, b, st, none, none, none, none, none, none, rfl, s3 _ _ hb3, s3 _ _ hst3, gb0, gs0, .inr (by decide), Int.le_refl _, Int.le_refl _, .inl ⟨rfl, rfl⟩, rfl, s03⟩
      (fun i σ H' _ h => by obtain ⟨_, _, _, _, _, _, _, _, _, _, _, _, _, _, _, _, _, _, _, _, _, _, h⟩ := h; exact SqK.same hl h) ?_ ?_
    · rintro i x σ H4 H5 hi ⟨bq, sq, lo, hi', ab, as, v9, v10, v11, v12, v13, v14, rfl, hab, has, gb, gs, hne, hlo, hhi, hor, hcr, sm⟩ ⟨u, x1, x2, rfl, hu, rfl, e1, e2⟩
      obtain rfl := Option.some.inj e1
      obtain ⟨dv, hdv, hrv⟩ := hw.at_ e2
      obtain ⟨w1, w2, w3⟩ := letters_ok ds 0 _ (by simp) hn i dv hdv
      rw [Nat.zero_add] at w3
      have hid : i < ds.length := (List.getElem?_eq_some_iff.mp hdv).1
      have eLs : (IntsL ds).drop i = intsD dv :: (IntsL ds).drop (i + 1) := by
        have hl2 : i < (IntsL ds).length := by show i < (ds.map intsD).length; rw [List.length_map]; exact hid
        rw [List.drop_eq_getElem_cons hl2]
        congr 1
        rw [List.getElem?_eq_getElem hid] at hdv
        have e3 : (ds.map intsD)[i]'(by rw [List.length_map]; exact hid) = intsD ds[i] := List.getElem_map ..
        exact e3.trans (by rw [Option.some.inj hdv])
      rw [eLs] at hcr
      generalize intsD dv = L at *
      rw [w1] at hrv
      have hP := ai_pos hd i
      have su : Same H4 (upd H4 u (.tup [.int (i : Nat), x2])) := sNew (Same.refl _) hu
      have sm5 := sm.trans su
      obtain ⟨a, xs, rfl, S, hlx, rr⟩ := Rp.same sm5 _ hrv
      obtain rfl := rps_back rr
      have hF5 := hF.same sm5
      obtain ⟨dxf, fsf, insF, noF⟩ := hF5.ins
      refine ⟨u, _, rfl, SqT.of upd_same, rfl, _, _, rfl, _, _, rfl, rfl, ?_⟩
      -- part
      refine ⟨_, rfl, p, dxf, fsf, rfl, insF, p, d, rfl, hF5, fun t2 hT2 => ⟨_, rfl, _, rfl, p, dxf, fsf, rfl, insF, p, d, rfl, hF5, fun t3 hT3 => ⟨t3, _, rfl, .inr hT3.sq, _, _, rfl, rfl, (by have := hpr.len; rw [List.length_map]; omega), t2, _, _, _, rfl, rfl, hT2.sq, ai_atI hpr i, ?_⟩⟩⟩
      -- total
      refine ⟨_, rfl, _, rfl, tf, true, lf, a, _, _, rfl, SqK.same hfk sm5, S, fun Dl hDl => ?_⟩
      have hzl : (fs.zip L).length = fs.length := by rw [List.length_zip]; omega
      refine lc_it (walk_m (n := fs.length) (by rw [List.length_map]) (by rw [List.length_map]; exact w2)) (fun j H' => H' Dl = some (.lst ((((fs.zip L).take j).map fun q => q.1 * q.2).map V.int)) ∧ Same (upd H4 u (.tup [.int (i : Nat), .ref a])) H')
        ⟨upd_same, sNew (Same.refl _) hDl⟩ (fun j H' _ z => ⟨SqK.same (SqK.same hfk sm5) z.2, SqK.same (t := true) S z.2⟩) ?_ ?_
      · rintro j y H6 H7 hj ⟨h6, sm6⟩ ⟨q', y1, y2, rfl, nq, rfl, f1, f2⟩
        obtain ⟨fj, gf, rfl⟩ : ∃ fj : Int, fs[j]? = some fj ∧ V.int fj = y1 := by
          have f1 : (fs.map V.int)[j]? = some y1 := f1
          rw [List.getElem?_map] at f1
          exact Option.map_eq_some_iff.mp f1
        obtain ⟨lj, gl, rfl⟩ : ∃ lj : Int, L[j]? = some lj ∧ V.int lj = y2 := by
          have f2 : (L.map V.int)[j]? = some y2 := f2
          rw [List.getElem?_map] at f2
          exact Option.map_eq_some_iff.mp f2
        have gz : (fs.zip L)[j]? = some (fj, lj) := by
          rw [List.getElem?_zip_eq_some]
          exact ⟨gf, gl⟩
        have c1 := hfac.2 fj (List.mem_of_getElem? gf)
        have c2 := w3 lj (List.mem_of_getElem? gl)
        have sm7 : Same (upd H4 u (.tup [.int (i : Nat), .ref a])) (upd H6 q' (.tup [.int fj, .int lj])) := sNew sm6 nq
        refine ⟨q', [.int fj, .int lj], rfl, SqT.of upd_same, rfl, _, _, rfl, _, _, rfl, rfl, rfl, ?_⟩
        refine yes_if ⟨_, rfl, _, rfl, _, _, rfl, rfl, mulOk (n := 3) (m := 3) (by unfold Bd; omega) (by unfold Bd; omega) (by decide) (by decide) (by decide), ?_⟩
        have h7 : (upd H6 q' (.tup [.int fj, .int lj])) Dl = some (.lst ((((fs.zip L).take j).map fun q => q.1 * q.2).map V.int)) := by rw [upd_ne (ne_of_none h6 nq)]; exact h6
        refine ⟨_, h7, ?_, ?_, sm_upd sm7 hDl⟩
        · have := hfac.1
          rw [List.length_map, List.length_map, List.length_take, sizeLine_eq]; omega
        · rw [upd_same, List.take_add_one, gz, Option.toList_some, List.map_append, List.map_append]
          rfl
      rintro H6 ⟨h6, sm6⟩
      rw [List.take_of_length_le (by omega)] at h6
      refine ⟨Dl, _, rfl, SqL.of h6, ?_⟩
      have etot : (((fs.zip L).map fun q => q.1 * q.2).sum) = tot fs L := rfl
      rw [etot]
      have htb : (tot fs L).natAbs ≤ 2000 := by
        have := tot_bd fs L hfac.2 (fun x hx => by have := w3 x hx; omega)
        have := hfac.1
        omega
      have s46 := su.trans sm6
      have sm66 := sm.trans s46
      obtain ⟨b1, b2⟩ := gr_bd hA (show i ≤ ws.length + 1 by omega) (by omega) hq115 gb
      obtain ⟨b3, b4⟩ := gr_bd hA (show i ≤ ws.length + 1 by omega) (by omega) hq115 gs
      -- the next
      dsimp only [List.set_cons_succ, List.set_cons_zero]
      refine ⟨_, rfl, _, rfl, _, rfl, ab, bq.1, bq.2, _, _, rfl, SqT.of (s46 _ _ hab), b2.mono (by omega), by unfold Bd; omega, fun ab' H7 n7 h7 s7 => ?_⟩
      refine ⟨_, rfl, _, rfl, as, sq.1, sq.2, _, _, rfl, SqT.of (s7 _ _ (s46 _ _ has)), b4.mono (by omega), by unfold Bd; omega, fun as' H8 n8 h8 s8 => ⟨by show 2 ≤ sizeLine; decide, fun tt ntt => ⟨tt, _, rfl, SqT.of upd_same, rfl, _, _, rfl, _, _, rfl, rfl, ?_⟩⟩⟩
      have m9 := sNew (o := .tup [.ref ab', .ref as']) (Same.refl H8) ntt
      have h79 := m9 _ _ (s8 _ _ h7)
      have h89 := m9 _ _ h8
      have sm9 := sm66.trans ((s7.trans s8).trans m9)
      have gb' := gr_cst hA htb gb
      have gs' := gr_cst (total := 0) hA (by decide) gs
      obtain ⟨d1, d2⟩ := gr_bd hA (show i + 1 ≤ ws.length + 1 by omega) (by omega) hq115 gb'
      obtain ⟨d3, d4⟩ := gr_bd hA (show i + 1 ≤ ws.length + 1 by omega) (by omega) hq115 gs'
      have hne' := cst_ne (part := ai (per d) i) (q := (sq.1, sq.2)) hne
      refine ⟨_, rfl, _, rfl, _, rfl, _, rfl, _, rfl, _, _, rfl, rfl, p, ab', as', d, bnd d fs, _, _, _, _, i + 1, rfl, hF.same sm9, hd, bB.mono (by decide), SqT.of h79, SqT.of h89, d1.mono (by omega), d2.mono (by omega), d3.mono (by omega), d4.mono (by omega), hne', fun r0 Ha na ha sa => ⟨r0, _, rfl, SqT.of ha, rfl, _, _, rfl, _, _, rfl, rfl, ?_⟩⟩
      refine ⟨_, rfl, _, rfl, _, _, rfl, _, rfl, _, rfl, _, _, rfl, _, _, rfl, ?_⟩
      have h7a := sa _ _ h79
      have h8a := sa _ _ h89
      have sma := sm9.trans sa
      rw [show crun d (bnd d fs) fs (L :: (IntsL ds).drop (i + 1)) i bq sq lo hi' = if mx lo (kr d (bnd d fs) (cst (ai (per d) i) (tot fs L) bq).1 (cst (ai (per d) i) (tot fs L) bq).2 (cst (ai (per d) i) 0 sq).1 (cst (ai (per d) i) 0 sq).2 (i + 1)).1 > mn hi' (kr d (bnd d fs) (cst (ai (per d) i) (tot fs L) bq).1 (cst (ai (per d) i) (tot fs L) bq).2 (cst (ai (per d) i) 0 sq).1 (cst (ai (per d) i) 0 sq).2 (i + 1)).2 then [] else crun d (bnd d fs) fs ((IntsL ds).drop (i + 1)) (i + 1) (cst (ai (per d) i) (tot fs L) bq) (cst (ai (per d) i) 0 sq) (mx lo (kr d (bnd d fs) (cst (ai (per d) i) (tot fs L) bq).1 (cst (ai (per d) i) (tot fs L) bq).2 (cst (ai (per d) i) 0 sq).1 (cst (ai (per d) i) 0 sq).2 (i + 1)).1) (mn hi' (kr d (bnd d fs) (cst (ai (per d) i) (tot fs L) bq).1 (cst (ai (per d) i) (tot fs L) bq).2 (cst (ai (per d) i) 0 sq).1 (cst (ai (per d) i) 0 sq).2 (i + 1)).2) from rfl] at hcr
      dsimp only [List.set_cons_succ, List.set_cons_zero]
      generalize hR1 : (kr d (bnd d fs) (cst (ai (per d) i) (tot fs L) bq).1 (cst (ai (per d) i) (tot fs L) bq).2 (cst (ai (per d) i) 0 sq).1 (cst (ai (per d) i) 0 sq).2 (i + 1)).1 = R1 at *
      generalize hR2 : (kr d (bnd d fs) (cst (ai (per d) i) (tot fs L) bq).1 (cst (ai (per d) i) (tot fs L) bq).2 (cst (ai (per d) i) 0 sq).1 (cst (ai (per d) i) 0 sq).2 (i + 1)).2 = R2 at *
      have x1 : lo ≤ mx lo R1 := by unfold mx; split <;> omega
      have x2 : mn hi' R2 ≤ hi' := by unfold mn; split <;> omega
      refine ⟨_, rfl, _, rfl, _, _, rfl, rfl, _, rfl, ite2 (fun h => ?_) (fun h => ?_)⟩
      · have h : mn hi' R2 < mx lo R1 := of_decide_eq_true h
        rw [if_pos h] at hcr
        refine ⟨by show 0 ≤ sizeLine; decide, fun z nz => ?_⟩
        refine q z _ [] (fun _ => (0, 0)) upd_same (fun y hy => by cases hy) ?_ List.Pairwise.nil (sNew sma nz) (sma.free nz)
        rw [hcr]
        exact List.Perm.nil
      · have h : ¬ mn hi' R2 < mx lo R1 := fun z => h (decide_eq_true z)
        rw [if_neg h] at hcr
        exact ⟨cst (ai (per d) i) (tot fs L) bq, cst (ai (per d) i) 0 sq, _, _, ab', as', _, _, _, _, _, _, rfl, h7a, h8a, gb', gs', hne', by omega, by omega, .inr (Int.not_lt.mp h), hcr, sma⟩
    · rintro σ H4 ⟨bq, sq, lo, hi', ab, as, v9, v10, v11, v12, v13, v14, rfl, hab, has, gb, gs, hne, hlo, hhi, hor, hcr, sm⟩
      rw [show ws.length = (IntsL ds).length by rw [hw.len]; show ds.length = (ds.map intsD).length; rw [List.length_map], List.drop_length] at hcr
      have lb : -(2 ^ 50) < lo0 ∧ lo0 < 2 ^ 50 := by unfold Bd at bb1; omega
      have hb : -(2 ^ 50) < hi0 ∧ hi0 < 2 ^ 50 := by unfold Bd at bb2; omega
      have nn : (hi' + 1 - lo).toNat ≤ 30000 := by omega
      have lr : -(2 ^ 62) ≤ lo ∧ lo < 2 ^ 62 := by omega
      have hr2 : -(2 ^ 62) ≤ hi' + 1 ∧ hi' + 1 < 2 ^ 62 := by omega
      refine ⟨_, rfl, _, rfl, _, _, rfl, rfl, lo, hi' + 1, rfl, ⟨lr.1, lr.2, hr2.1, hr2.2⟩, fun Dl hDl => ?_⟩
      obtain ⟨b3, b4⟩ := gr_bd hA (show ws.length ≤ ws.length + 1 by omega) (by omega) hq115 gs
      refine lc_range (lo := lo) (n := (hi' + 1 - lo).toNat) (fun j H' => ∃ g : Nat → Addr, H' Dl = some (.lst ((List.range j).map fun j => V.ref (g j))) ∧ (∀ j', j' < j → H' (g j') = some (.tup [.int (bq.1 + (lo + (j' : Nat)) * sq.1), .int (bq.2 + (lo + (j' : Nat)) * sq.2)])) ∧ Same H4 H')
        ⟨fun _ => ll, upd_same, fun j' h => absurd h (by omega), sNew (Same.refl _) hDl⟩ ?_ ?_
      · rintro j H5 hj ⟨g, hg, hgr, sm5⟩
        refine ⟨rfl, yes_if ?_⟩
        have hab5 := sm5 _ _ hab
        have has5 := sm5 _ _ has
        have bj : Bd 60 (lo + (j : Nat)) := by unfold Bd; omega
        refine ⟨_, rfl, ab, _, _, _, rfl, rfl, SqT.of hab5, rfl, _, rfl, _, rfl, as, _, _, _, rfl, rfl, SqT.of has5, rfl, _, _, rfl, rfl, mulOk bj b3 (by decide) (by omega) (by omega), _, _, rfl, rfl, ?_⟩
        refine ⟨_, rfl, ab, _, _, _, rfl, rfl, SqT.of hab5, rfl, _, rfl, _, rfl, as, _, _, _, rfl, rfl, SqT.of has5, rfl, _, _, rfl, rfl, mulOk bj b4 (by decide) (by omega) (by omega), _, _, rfl, rfl, by show 2 ≤ sizeLine; decide, fun y ny => ?_⟩
        have s6 := sNew (o := .tup [.int (bq.1 + (lo + (j : Nat)) * sq.1), .int (bq.2 + (lo + (j : Nat)) * sq.2)]) (Same.refl H5) ny
        obtain ⟨g', h1, h2⟩ := stepg (q := fun j => .tup [.int (bq.1 + (lo + (j : Nat)) * sq.1), .int (bq.2 + (lo + (j : Nat)) * sq.2)]) (s6 _ _ hg) (fun j' hj' => s6 _ _ (hgr j' hj')) upd_same (fun _ _ z => by cases z)
        exact ⟨_, s6 _ _ hg, by rw [List.length_map, List.length_range, sizeLine_eq]; omega, g', h1, h2, sm_upd (sm5.trans s6) hDl⟩
      rintro H5 ⟨g, hg, hgr, sm5⟩
      refine ⟨Dl, _, kOf H5, rfl, SqL.of hg, ?_, fun ys x hsrt hstb hx => ?_⟩
      · intro x hx
        obtain ⟨j, hj, rfl⟩ := List.mem_map.mp hx
        have h := hgr j (List.mem_range.mp hj)
        exact ⟨g j, rfl, by rw [kOf_at h]; exact h⟩
      · have all := sm.trans sm5
        refine q x _ ys (kOf H5) upd_same (fun y hy => ?_) ?_ hsrt (sNew all hx) (all.free hx)
        · obtain ⟨j, hj, rfl⟩ := List.mem_map.mp (hstb.perm.mem_iff.mp hy)
          have h := hgr j (List.mem_range.mp hj)
          refine ⟨g j, rfl, ?_⟩
          rw [kOf_at h, upd_ne (ne_of_none h hx)]
          exact h
        · refine (hstb.perm.map (kOf H5)).trans ?_
          rw [hcr, List.map_map]
          refine List.Perm.of_eq (List.map_congr_left fun j hj => ?_)
          exact kOf_at (hgr j (List.mem_range.mp hj))
end
end RF

namespace RF
/-! ### the same, a place after another -/
def lin (b s : Int × Int) (lo hi : Int) : List (Int × Int) := (List.range (hi + 1 - lo).toNat).map fun j => (b.1 + (lo + (j : Nat)) * s.1, b.2 + (lo + (j : Nat)) * s.2)
def keptP (d B : Int) (p : Nat) : Int × Int → Bool := fun q => kpt d B q.1 q.2 p
def lrun (d B : Int) (fs : List Int) : List (List Int) → Nat → List (Int × Int) → List (Int × Int)
  | [], _, F => F
  | L :: Ls, p, F => lrun d B fs Ls (p + 1) ((F.map (cst (ai (per d) p) (tot fs L))).filter (keptP d B (p + 1)))
theorem lrun_nil {d B : Int} {fs : List Int} : ∀ (Ls : List (List Int)) (p : Nat), lrun d B fs Ls p [] = []
  | [], _ => rfl
  | _ :: Ls, p => lrun_nil Ls (p + 1)
theorem lrun_perm {d B : Int} {fs : List Int} : ∀ (Ls : List (List Int)) (p : Nat) {F G : List (Int × Int)}, F.Perm G → (lrun d B fs Ls p F).Perm (lrun d B fs Ls p G)
  | [], _, _, _, h => h
  | _ :: Ls, p, _, _, h => lrun_perm Ls (p + 1) ((h.map _).filter _)
def ivl (lo : Int) : Nat → List Int
  | 0 => []
  | n + 1 => lo :: ivl (lo + 1) n
theorem ivl_range : ∀ (n : Nat) (lo : Int), (List.range n).map (fun j => lo + ((j : Nat) : Int)) = ivl lo n
  | 0, _ => rfl
  | n + 1, lo => by
    rw [List.range_succ_eq_map, List.map_cons, List.map_map]
    show _ :: _ = lo :: ivl (lo + 1) n
    rw [← ivl_range n (lo + 1)]
    refine congr (congrArg _ ?_) (List.map_congr_left fun j _ => ?_)
    · omega
    · show lo + ((j + 1 : Nat) : Int) = lo + 1 + (j : Int)
      omega
theorem lin_ivl {b s : Int × Int} {lo hi : Int} : lin b s lo hi = (ivl lo (hi + 1 - lo).toNat).map fun n => (b.1 + n * s.1, b.2 + n * s.2) := by
  rw [← ivl_range, List.map_map]
  rfl
theorem ivl_filter {R1 R2 : Int} : ∀ (n : Nat) (lo : Int), (ivl lo n).filter (fun m => decide (R1 ≤ m ∧ m ≤ R2)) = ivl (mx lo R1) (mn (lo + n - 1) R2 + 1 - mx lo R1).toNat
  | 0, lo => by
    have e : (mn (lo + (0 : Nat) - 1) R2 + 1 - mx lo R1).toNat = 0 := by unfold mx mn; split <;> split <;> omega
    rw [e]; rfl
  | n + 1, lo => by
    have ih := ivl_filter (R1 := R1) (R2 := R2) n (lo + 1)
    rw [show lo + 1 + (n : Int) - 1 = lo + ((n + 1 : Nat) : Int) - 1 by omega] at ih
    show (lo :: ivl (lo + 1) n).filter _ = _
    by_cases h : R1 ≤ lo ∧ lo ≤ R2
    · rw [List.filter_cons_of_pos (by exact decide_eq_true h), ih]
      have e1 : mx lo R1 = lo := by unfold mx; split <;> omega
      have e2 : mx (lo + 1) R1 = lo + 1 := by unfold mx; split <;> omega
      obtain ⟨k, hk⟩ : ∃ k, (mn (lo + ((n + 1 : Nat) : Int) - 1) R2 + 1 - lo).toNat = k + 1 := ⟨(mn (lo + ((n + 1 : Nat) : Int) - 1) R2 - lo).toNat, by unfold mn; split <;> omega⟩
      have hk2 : (mn (lo + ((n + 1 : Nat) : Int) - 1) R2 + 1 - (lo + 1)).toNat = k := by omega
      rw [e1, e2, hk, hk2]
      rfl
    · rw [List.filter_cons_of_neg (by simpa using h), ih]
      by_cases h1 : R1 ≤ lo
      · have e1 : (mn (lo + ((n + 1 : Nat) : Int) - 1) R2 + 1 - mx (lo + 1) R1).toNat = 0 := by unfold mx mn; split <;> split <;> omega
        have e2 : (mn (lo + ((n + 1 : Nat) : Int) - 1) R2 + 1 - mx lo R1).toNat = 0 := by unfold mx mn; split <;> split <;> omega
        rw [e1, e2]; rfl
      · have e1 : mx (lo + 1) R1 = mx lo R1 := by unfold mx; split <;> split <;> omega
        rw [e1]
theorem lin_filter {d B : Int} {b s : Int × Int} {lo hi : Int} {p : Nat} (hd : Root d) (hs : s.1 ≠ 0 ∨ s.2 ≠ 0) : (lin b s lo hi).filter (keptP d B p) = lin b s (mx lo (kr d B b.1 b.2 s.1 s.2 p).1) (mn hi (kr d B b.1 b.2 s.1 s.2 p).2) := by
  rw [lin_ivl, lin_ivl, List.filter_map]
  congr 1
  have e : (keptP d B p ∘ fun n => (b.1 + n * s.1, b.2 + n * s.2)) = fun m => decide ((kr d B b.1 b.2 s.1 s.2 p).1 ≤ m ∧ m ≤ (kr d B b.1 b.2 s.1 s.2 p).2) := by
    funext m
    have k := kr_iff (d := d) (B := B) (u := b.1) (v := b.2) (n := m) (p := p) hd hs
    show kpt d B (b.1 + m * s.1) (b.2 + m * s.2) p = _
    cases e1 : kpt d B (b.1 + m * s.1) (b.2 + m * s.2) p with
    | true => exact (decide_eq_true (k.mpr e1)).symm
    | false => exact (decide_eq_false fun z => by rw [k.mp z] at e1; cases e1).symm
  rw [e, ivl_filter]
  by_cases h : lo ≤ hi
  · rw [show lo + ((hi + 1 - lo).toNat : Int) - 1 = hi by omega]
  · have e0 : (hi + 1 - lo).toNat = 0 := by omega
    rw [e0]
    have e1 : (mn (lo + ((0 : Nat) : Int) - 1) (kr d B b.1 b.2 s.1 s.2 p).2 + 1 - mx lo (kr d B b.1 b.2 s.1 s.2 p).1).toNat = 0 := by unfold mx mn; split <;> split <;> omega
    have e2 : (mn hi (kr d B b.1 b.2 s.1 s.2 p).2 + 1 - mx lo (kr d B b.1 b.2 s.1 s.2 p).1).toNat = 0 := by unfold mx mn; split <;> split <;> omega
    rw [e1, e2]
theorem lin_cst {b s : Int × Int} {lo hi part total : Int} : (lin b s lo hi).map (cst part total) = lin (cst part total b) (cst part 0 s) lo hi := by
  unfold lin
  rw [List.map_map]
  refine List.map_congr_left fun j _ => ?_
  show (_, _) = (_, _)
  refine Prod.ext rfl ?_
  show b.1 + (lo + (j : Int)) * s.1 - part * (b.2 + (lo + (j : Int)) * s.2) - total = b.1 - part * b.2 - total + (lo + (j : Int)) * (s.1 - part * s.2 - 0)
  generalize lo + (j : Int) = n
  grind
theorem crun_lrun {d B : Int} {fs : List Int} (hd : Root d) : ∀ (Ls : List (List Int)) (p : Nat) (b s : Int × Int) (lo hi : Int), (s.1 ≠ 0 ∨ s.2 ≠ 0) → crun d B fs Ls p b s lo hi = lrun d B fs Ls p (lin b s lo hi)
  | [], _, _, _, _, _, _ => rfl
  | L :: Ls, p, b, s, lo, hi, hs => by
    have hs' := cst_ne (part := ai (per d) p) (q := s) hs
    show _ = lrun d B fs Ls (p + 1) (((lin b s lo hi).map (cst (ai (per d) p) (tot fs L))).filter (keptP d B (p + 1)))
    rw [lin_cst, lin_filter hd hs', ← crun_lrun hd Ls (p + 1) _ _ _ _ hs']
    have ec : crun d B fs (L :: Ls) p b s lo hi = if mx lo (kr d B (cst (ai (per d) p) (tot fs L) b).1 (cst (ai (per d) p) (tot fs L) b).2 (cst (ai (per d) p) 0 s).1 (cst (ai (per d) p) 0 s).2 (p + 1)).1 > mn hi (kr d B (cst (ai (per d) p) (tot fs L) b).1 (cst (ai (per d) p) (tot fs L) b).2 (cst (ai (per d) p) 0 s).1 (cst (ai (per d) p) 0 s).2 (p + 1)).2 then []
      else crun d B fs Ls (p + 1) (cst (ai (per d) p) (tot fs L) b) (cst (ai (per d) p) 0 s) (mx lo (kr d B (cst (ai (per d) p) (tot fs L) b).1 (cst (ai (per d) p) (tot fs L) b).2 (cst (ai (per d) p) 0 s).1 (cst (ai (per d) p) 0 s).2 (p + 1)).1) (mn hi (kr d B (cst (ai (per d) p) (tot fs L) b).1 (cst (ai (per d) p) (tot fs L) b).2 (cst (ai (per d) p) 0 s).1 (cst (ai (per d) p) 0 s).2 (p + 1)).2) := rfl
    rw [ec]
    generalize mx lo _ = a
    generalize mn hi _ = c
    by_cases h : a > c
    · rw [if_pos h, crun_lrun hd Ls (p + 1) _ _ _ _ hs']
      have e0 : lin (cst (ai (per d) p) (tot fs L) b) (cst (ai (per d) p) 0 s) a c = [] := by
        unfold lin
        rw [show (c + 1 - a).toNat = 0 by omega]; rfl
      rw [e0, lrun_nil]
    · rw [if_neg h]
/-- what is kept at the start is not far off -/
theorem kpt_near {d B u v : Int} (hd : Root d) (hB : 0 ≤ B) (h : kpt d B u v 0 = true) : v.natAbs ≤ B.natAbs + u.natAbs := by
  unfold kpt at h
  rw [Bool.and_eq_true, decide_eq_true_eq, decide_eq_true_eq] at h
  have i0 := tlI_bd d 0
  have k0 := tlK_or d 0
  have hd2 : 2 ≤ d := by have := hd; unfold Root at this; omega
  have key : ∀ i j : Int, 0 < j → i < j → 0 ≤ sg d i (-j) → False := fun i j hj hi z => by
    have z2 : 0 ≤ sgb d i (-j) := Int.not_lt.mp fun y => by
      unfold sg at z
      rw [if_neg (by omega), if_pos y] at z
      exact absurd z (by decide)
    unfold sgb at z2
    rw [ab_neg (i := -j) (by omega)] at z2
    have h1 : i * ab i ≤ j * j := by
      by_cases h0 : 0 ≤ i
      · rw [ab_pos h0]
        exact sq_le h0 (by omega)
      · have := Int.mul_nonpos_of_nonpos_of_nonneg (show i ≤ 0 by omega) (ab_nn i)
        have := Int.mul_nonneg (show 0 ≤ j by omega) (show 0 ≤ j by omega)
        omega
    have h2 : 0 < j * j := Int.mul_pos hj hj
    have h3 : 2 * (j * j) ≤ d * (j * j) := Int.mul_le_mul_of_nonneg_right hd2 (by omega)
    have e1 : d * -j * - -j = -(d * (j * j)) := by grind
    rw [e1] at z2
    omega
  have m2 : 0 ≤ sg d (-(tlK d 0 * u - tlI d 0 * v - tlK d 0 * B)) (-(-1 * v)) := by rw [sg_neg]; have := h.2; omega
  refine Nat.not_lt.mp fun hv => ?_
  have eK : ∀ x : Int, tlK d 0 * x = x ∨ tlK d 0 * x = 2 * x := fun x => by
    rcases k0 with k | k
    · rw [k]; exact .inl (Int.one_mul x)
    · rw [k]; exact .inr rfl
  by_cases h0 : 0 < v
  · have hI : 1 * v ≤ tlI d 0 * v := Int.mul_le_mul_of_nonneg_right i0.1 (by omega)
    refine key _ v h0 ?_ (by rw [show -v = -1 * v by omega]; exact h.1)
    rw [show tlK d 0 * u - tlI d 0 * v + tlK d 0 * B = tlK d 0 * (u + B) - tlI d 0 * v by grind]
    rcases eK (u + B) with k | k <;> rw [k] <;> omega
  · have hI : 1 * (-v) ≤ tlI d 0 * (-v) := Int.mul_le_mul_of_nonneg_right i0.1 (by omega)
    refine key _ (-v) (by omega) ?_ (by rw [show - -v = -(-1 * v) by omega]; exact m2)
    rw [show -(tlK d 0 * u - tlI d 0 * v - tlK d 0 * B) = tlK d 0 * (B - u) - tlI d 0 * (-v) by grind]
    rcases eK (B - u) with k | k <;> rw [k] <;> omega
end RF

namespace RF
/-! ### what every carried pair satisfies -/
def qm (p : List Int) (i : Nat) : Int := (stp p i).1
def sfar (p fs : List Int) : List (List Int) → Nat → Int → Int
  | [], _, S => S
  | L :: Ls, i, S => sfar p fs Ls (i + 1) (S + qn p i * tot fs L)
theorem id_step {part total u v S a b : Int} (h : u * a + v * b + S = 0) : v * (part * a + b) + (u - part * v - total) * a + (S + a * total) = 0 := by grind
theorem lrun_id {d B : Int} {fs : List Int} : ∀ (Ls : List (List Int)) (i : Nat) (F : List (Int × Int)) (S : Int), (∀ q ∈ F, q.1 * qn (per d) i + q.2 * qm (per d) i + S = 0) →
    ∀ q ∈ lrun d B fs Ls i F, q.1 * qn (per d) (i + Ls.length) + q.2 * qm (per d) (i + Ls.length) + sfar (per d) fs Ls i S = 0
  | [], i, F, S, h => fun q hq => h q hq
  | L :: Ls, i, F, S, h => fun q hq => by
    have ih := lrun_id (d := d) (B := B) (fs := fs) Ls (i + 1) ((F.map (cst (ai (per d) i) (tot fs L))).filter (keptP d B (i + 1))) (S + qn (per d) i * tot fs L) (fun q' hq' => by
      obtain ⟨q0, h0, rfl⟩ := List.mem_map.mp (List.mem_filter.mp hq').1
      exact id_step (h q0 h0)) q hq
    rw [List.length_cons, show i + (Ls.length + 1) = i + 1 + Ls.length by omega]
    exact ih
/-- (0, 0) is carried only when the sum is 0 -/
theorem lrun_zero {d B c : Int} {fs : List Int} {Ls : List (List Int)} {lo hi : Int} (h : ((0, 0) : Int × Int) ∈ lrun d B fs Ls 0 (lin (-c, 0) (0, 1) lo hi)) : sfar (per d) fs Ls 0 c = 0 := by
  have := lrun_id (d := d) (B := B) (fs := fs) Ls 0 (lin (-c, 0) (0, 1) lo hi) c (fun q hq => by
    obtain ⟨j, _, rfl⟩ := List.mem_map.mp hq
    have e1 : qn (per d) 0 = 1 := rfl
    have e2 : qm (per d) 0 = 0 := rfl
    rw [e1, e2]
    simp
    omega) (0, 0) h
  simpa using this
end RF

/-! sums of numbers that are not below 0 -/
namespace RF
theorem mul_up {d x y x' y' : Int} (hd : 0 ≤ d) (hx : 0 ≤ x) (hx' : 0 ≤ x') (hy : 0 ≤ y) (hy' : 0 ≤ y') (h : x * x ≤ d * (y * y)) (h' : x' * x' ≤ d * (y' * y')) : x * x' ≤ d * (y * y') := by
  refine Int.not_lt.mp fun z => ?_
  have n0 : 0 ≤ d * (y * y') := Int.mul_nonneg hd (Int.mul_nonneg hy hy')
  have h1 : (d * (y * y')) * (d * (y * y')) < (x * x') * (x * x') := by
    have a1 : (d * (y * y')) * (d * (y * y')) ≤ (d * (y * y')) * (x * x') := Int.mul_le_mul_of_nonneg_left (by omega) n0
    have a2 : (d * (y * y')) * (x * x') < (x * x') * (x * x') := Int.mul_lt_mul_of_pos_right z (by omega)
    omega
  have h2 : (x * x) * (x' * x') ≤ (d * (y * y)) * (d * (y' * y')) := Int.mul_le_mul h h' (Int.mul_nonneg hx' hx') (Int.mul_nonneg hd (Int.mul_nonneg hy hy))
  have e1 : (x * x) * (x' * x') = (x * x') * (x * x') := by grind
  have e2 : (d * (y * y)) * (d * (y' * y')) = (d * (y * y')) * (d * (y * y')) := by grind
  omega
theorem mul_dn {d x y x' y' : Int} (hd : 0 ≤ d) (hx : 0 ≤ x) (hx' : 0 ≤ x') (hy : 0 ≤ y) (hy' : 0 ≤ y') (h : d * (y * y) ≤ x * x) (h' : d * (y' * y') ≤ x' * x') : d * (y * y') ≤ x * x' := by
  refine Int.not_lt.mp fun z => ?_
  have n0 : 0 ≤ x * x' := Int.mul_nonneg hx hx'
  have h1 : (x * x') * (x * x') < (d * (y * y')) * (d * (y * y')) := by
    have a1 : (x * x') * (x * x') ≤ (x * x') * (d * (y * y')) := Int.mul_le_mul_of_nonneg_left (by omega) n0
    have a2 : (x * x') * (d * (y * y')) < (d * (y * y')) * (d * (y * y')) := Int.mul_lt_mul_of_pos_right z (by omega)
    omega
  have h2 : (d * (y * y)) * (d * (y' * y')) ≤ (x * x) * (x' * x') := Int.mul_le_mul h h' (Int.mul_nonneg hd (Int.mul_nonneg hy' hy')) (Int.mul_nonneg hx hx)
  have e1 : (x * x) * (x' * x') = (x * x') * (x * x') := by grind
  have e2 : (d * (y * y)) * (d * (y' * y')) = (d * (y * y')) * (d * (y * y')) := by grind
  omega
theorem ex2 (x y : Int) : (x + y) * (x + y) = x * x + 2 * (x * y) + y * y := by grind
theorem ex2d (d x y : Int) : d * ((x + y) * (x + y)) = d * (x * x) + 2 * (d * (x * y)) + d * (y * y) := by grind
/-- the meaning of sgb, by the sizes -/
theorem sgb_case (d a b : Int) (hd : 0 < d) : (0 ≤ sgb d a b) ↔ ((0 ≤ a ∧ 0 ≤ b) ∨ (0 ≤ a ∧ b < 0 ∧ d * (b * b) ≤ a * a) ∨ (a < 0 ∧ 0 ≤ b ∧ a * a ≤ d * (b * b))) := by
  unfold sgb
  have pa := Int.mul_nonneg_of_nonpos_of_nonpos (a := a) (b := a)
  by_cases ha : 0 ≤ a <;> by_cases hb : 0 ≤ b
  · rw [ab_pos ha, ab_pos hb]
    have := Int.mul_nonneg ha ha
    have := Int.mul_nonneg (Int.le_of_lt hd) (Int.mul_nonneg hb hb)
    rw [Int.mul_assoc]
    exact ⟨fun _ => .inl ⟨ha, hb⟩, fun _ => by omega⟩
  · rw [ab_pos ha, ab_neg (by omega)]
    have e : d * b * -b = -(d * (b * b)) := by grind
    rw [e]
    constructor
    · intro h; exact .inr (.inl ⟨ha, by omega, by omega⟩)
    · rintro (h | h | h) <;> omega
  · rw [ab_neg (by omega), ab_pos hb]
    have e : a * -a = -(a * a) := by grind
    rw [e, Int.mul_assoc]
    constructor
    · intro h; exact .inr (.inr ⟨by omega, hb, by omega⟩)
    · rintro (h | h | h) <;> omega
  · rw [ab_neg (by omega), ab_neg (by omega)]
    have e : a * -a = -(a * a) := by grind
    have e2 : d * b * -b = -(d * (b * b)) := by grind
    have h1 : 0 < a * a := Int.mul_pos_of_neg_of_neg (by omega) (by omega)
    have h2 : 0 < d * (b * b) := Int.mul_pos hd (Int.mul_pos_of_neg_of_neg (by omega) (by omega))
    rw [e, e2]
    constructor
    · intro h; omega
    · rintro (h | h | h) <;> omega
theorem nn (x : Int) : -x * -x = x * x := Int.neg_mul_neg x x
theorem add_pn {d a b c e : Int} (hd : 0 < d) (ha : 0 ≤ a) (hb : 0 ≤ b) (h : 0 ≤ sgb d c e) : 0 ≤ sgb d (a + c) (b + e) := by
  rcases (sgb_case d c e hd).mp h with h | ⟨h1, h2, h3⟩ | ⟨h1, h2, h3⟩
  · exact (sgb_case d _ _ hd).mpr (.inl ⟨by omega, by omega⟩)
  · by_cases hs : 0 ≤ b + e
    · exact (sgb_case d _ _ hd).mpr (.inl ⟨by omega, hs⟩)
    · refine (sgb_case d _ _ hd).mpr (.inr (.inl ⟨by omega, by omega, ?_⟩))
      have k1 := sq_le (a := -(b + e)) (b := -e) (by omega) (by omega)
      rw [nn, nn] at k1
      have k2 := Int.mul_le_mul_of_nonneg_left k1 (Int.le_of_lt hd)
      have k3 := sq_le (a := c) (b := a + c) h1 (by omega)
      omega
  · by_cases hs : 0 ≤ a + c
    · exact (sgb_case d _ _ hd).mpr (.inl ⟨hs, by omega⟩)
    · refine (sgb_case d _ _ hd).mpr (.inr (.inr ⟨by omega, by omega, ?_⟩))
      have k1 := sq_le (a := -(a + c)) (b := -c) (by omega) (by omega)
      rw [nn, nn] at k1
      have k3 := sq_le (a := e) (b := b + e) h2 (by omega)
      have k2 := Int.mul_le_mul_of_nonneg_left k3 (Int.le_of_lt hd)
      omega
theorem add_mix {d a b c e : Int} (hd : 0 < d) (a0 : 0 ≤ a) (b0 : b < 0) (h : d * (b * b) ≤ a * a) (c0 : c < 0) (e0 : 0 ≤ e) (g : c * c ≤ d * (e * e)) : 0 ≤ sgb d (a + c) (b + e) := by
  have d0 := Int.le_of_lt hd
  rw [← nn b] at h
  rw [← nn c] at g
  refine (sgb_case d _ _ hd).mpr ?_
  by_cases s1 : 0 ≤ a + c <;> by_cases s2 : 0 ≤ b + e
  · exact .inl ⟨s1, s2⟩
  · refine .inr (.inl ⟨s1, by omega, Int.not_lt.mp fun z => ?_⟩)
    rw [← nn (b + e)] at z
    have k := mul_up d0 s1 (show 0 ≤ -c by omega) (show 0 ≤ -(b + e) by omega) e0 (Int.le_of_lt z) g
    have x1 := ex2 (a + c) (-c)
    have x2 := ex2d d (-(b + e)) e
    rw [show a + c + -c = a by omega] at x1
    rw [show -(b + e) + e = -b by omega] at x2
    omega
  · refine .inr (.inr ⟨by omega, s2, Int.not_lt.mp fun z => ?_⟩)
    rw [← nn (a + c)] at z
    have k := mul_dn d0 a0 (show 0 ≤ -(a + c) by omega) (show 0 ≤ -b by omega) s2 h (Int.le_of_lt z)
    have x1 := ex2 a (-(a + c))
    have x2 := ex2d d (-b) (b + e)
    rw [show a + -(a + c) = -c by omega] at x1
    rw [show -b + (b + e) = e by omega] at x2
    omega
  · exfalso
    have k1 := sq_le (a := a) (b := -c - 1) a0 (by omega)
    have k2 : (-c - 1) * (-c - 1) = -c * -c - 2 * (-c) + 1 := by grind
    have k3 := sq_le (a := e) (b := -b) e0 (by omega)
    have k4 := Int.mul_le_mul_of_nonneg_left k3 d0
    omega
theorem sgb_add {d a b c e : Int} (hd : 0 < d) (h : 0 ≤ sgb d a b) (g : 0 ≤ sgb d c e) : 0 ≤ sgb d (a + c) (b + e) := by
  rcases (sgb_case d a b hd).mp h with ⟨h1, h2⟩ | ⟨h1, h2, h3⟩ | ⟨h1, h2, h3⟩
  · exact add_pn hd h1 h2 g
  · rcases (sgb_case d c e hd).mp g with ⟨g1, g2⟩ | ⟨g1, g2, g3⟩ | ⟨g1, g2, g3⟩
    · rw [Int.add_comm a, Int.add_comm b]; exact add_pn hd g1 g2 h
    · refine (sgb_case d _ _ hd).mpr (.inr (.inl ⟨by omega, by omega, ?_⟩))
      rw [← nn b] at h3
      rw [← nn e] at g3
      have k := mul_dn (Int.le_of_lt hd) h1 g1 (show 0 ≤ -b by omega) (show 0 ≤ -e by omega) h3 g3
      have x1 := ex2 a c
      have x2 := ex2d d (-b) (-e)
      rw [show -b + -e = -(b + e) by omega, nn (b + e)] at x2
      omega
    · exact add_mix hd h1 h2 h3 g1 g2 g3
  · rcases (sgb_case d c e hd).mp g with ⟨g1, g2⟩ | ⟨g1, g2, g3⟩ | ⟨g1, g2, g3⟩
    · rw [Int.add_comm a, Int.add_comm b]; exact add_pn hd g1 g2 h
    · rw [Int.add_comm a, Int.add_comm b]; exact add_mix hd g1 g2 g3 h1 h2 h3
    · refine (sgb_case d _ _ hd).mpr (.inr (.inr ⟨by omega, by omega, ?_⟩))
      rw [← nn a] at h3
      rw [← nn c] at g3
      have k := mul_up (Int.le_of_lt hd) (show 0 ≤ -a by omega) (show 0 ≤ -c by omega) h2 g2 h3 g3
      have x1 := ex2 (-a) (-c)
      have x2 := ex2d d b e
      rw [show -a + -c = -(a + c) by omega, nn (a + c)] at x1
      omega
theorem sg_ge {d a b : Int} : 0 ≤ sg d a b ↔ 0 ≤ sgb d a b := by
  unfold sg
  constructor
  · intro h
    refine Int.not_lt.mp fun z => ?_
    rw [if_neg (by omega), if_pos z] at h
    exact absurd h (by decide)
  · intro h
    split
    · decide
    · rw [if_neg (by omega)]; decide
theorem sg_add {d a b c e : Int} (hd : 0 < d) (h : 0 ≤ sg d a b) (g : 0 ≤ sg d c e) : 0 ≤ sg d (a + c) (b + e) := sg_ge.mpr (sgb_add hd (sg_ge.mp h) (sg_ge.mp g))
end RF

/-! what is kept a place before, when it is kept after -/
namespace RF
theorem par2 (n : Nat) : n % 2 = 0 ∨ n % 2 = 1 := by omega
theorem ai_2 (n : Nat) : ai (per 2) n = 2 := by
  show (([2] : List Int).getD (n % 1) 0) = 2
  rw [Nat.mod_one]; rfl
theorem ai_5 (n : Nat) : ai (per 5) n = 1 := by
  show (([1] : List Int).getD (n % 1) 0) = 1
  rw [Nat.mod_one]; rfl
theorem ai_13 (n : Nat) : ai (per 13) n = 3 := by
  show (([3] : List Int).getD (n % 1) 0) = 3
  rw [Nat.mod_one]; rfl
theorem ai_3 (n : Nat) : ai (per 3) n = if n % 2 = 1 then 2 else 1 := by
  show (([1, 2] : List Int).getD (n % 2) 0) = _
  rcases par2 n with h | h <;> rw [h] <;> rfl
theorem ai_6 (n : Nat) : ai (per 6) n = if n % 2 = 1 then 4 else 2 := by
  show (([2, 4] : List Int).getD (n % 2) 0) = _
  rcases par2 n with h | h <;> rw [h] <;> rfl
theorem tl_rec {d : Int} (hd : Root d) (n : Nat) : (tlI d n - ai (per d) n * tlK d n) * tlI d (n + 1) + d = tlK d n * tlK d (n + 1) ∧ (tlI d n - ai (per d) n * tlK d n) + tlI d (n + 1) = 0 := by
  rcases hd with rfl | rfl | rfl | rfl | rfl
  · rw [ai_2]; simp [tlI, tlK]
  · rw [ai_3]; rcases par2 n with h | h
    · have h2 : (n + 1) % 2 = 1 := by omega
      simp [tlI, tlK, h, h2]
    · have h2 : (n + 1) % 2 = 0 := by omega
      simp [tlI, tlK, h, h2]
  · rw [ai_5]; simp [tlI, tlK]
  · rw [ai_6]; rcases par2 n with h | h
    · have h2 : (n + 1) % 2 = 1 := by omega
      simp [tlI, tlK, h, h2]
    · have h2 : (n + 1) % 2 = 0 := by omega
      simp [tlI, tlK, h, h2]
  · rw [ai_13]; simp [tlI, tlK]
def xm (d : Int) (i : Nat) : Int := if d = 3 ∧ i % 2 = 0 then 4 else 3 * tp d
theorem xm_num {d : Int} (hd : Root d) (i : Nat) : 0 ≤ sg d ((xm d i - ai (per d) i) * tlI d (i + 1) - tlK d (i + 1) * xm d (i + 1)) (xm d i - ai (per d) i) := by
  rcases hd with rfl | rfl | rfl | rfl | rfl
  · rw [ai_2]; simp [tlI, tlK, xm, tp]; decide +kernel
  · rw [ai_3]; rcases par2 i with h | h
    · have h2 : (i + 1) % 2 = 1 := by omega
      simp [tlI, tlK, xm, tp, h, h2]; decide +kernel
    · have h2 : (i + 1) % 2 = 0 := by omega
      simp [tlI, tlK, xm, tp, h, h2]; decide +kernel
  · rw [ai_5]; simp [tlI, tlK, xm, tp]; decide +kernel
  · rw [ai_6]; rcases par2 i with h | h
    · have h2 : (i + 1) % 2 = 1 := by omega
      simp [tlI, tlK, xm, tp, h, h2]; decide +kernel
    · have h2 : (i + 1) % 2 = 0 := by omega
      simp [tlI, tlK, xm, tp, h, h2]; decide +kernel
  · rw [ai_13]; simp [tlI, tlK, xm, tp]; decide +kernel
theorem sg_pos2 {d a b : Int} (hd : 0 < d) (ha : 0 ≤ a) (hb : 0 ≤ b) : 0 ≤ sg d a b := sg_ge.mpr ((sgb_case d a b hd).mpr (.inl ⟨ha, hb⟩))
theorem sg_scale {d g a b : Int} (hg : 0 ≤ g) (h : 0 ≤ sg d a b) : 0 ≤ sg d (g * a) (g * b) := by
  by_cases z : g = 0
  · subst z
    rw [Int.zero_mul, Int.zero_mul]
    unfold sg sgb
    simp
  · rw [sg_mul (by omega)]; exact h
/-- one half of the step -/
theorem half {d : Int} (hd : Root d) (i : Nat) {u' v' T W : Int} (hW : 0 ≤ W) (hT : 0 ≤ T + ai (per d) i * W)
    (h : 0 ≤ sg d (-(tlK d (i + 1) * u' - tlI d (i + 1) * v' - tlK d (i + 1) * (xm d (i + 1) * W))) v') :
    0 ≤ sg d (tlK d i * (v' + ai (per d) i * u' + T) - tlI d i * u' + tlK d i * (xm d i * W)) (-1 * u') := by
  have d0 : 0 < d := by have := hd.pos; omega
  obtain ⟨r1, r2⟩ := tl_rec hd i
  have k0 := tlK_or d i
  have i1 := (tlI_bd d (i + 1)).1
  have hs : sg d (tlI d (i + 1)) 1 = 1 := by
    have : 0 < sgb d (tlI d (i + 1)) 1 := by
      unfold sgb
      rw [ab_pos (by omega), ab_pos (by decide)]
      have := Int.mul_pos (show 0 < tlI d (i + 1) by omega) (show 0 < tlI d (i + 1) by omega)
      omega
    unfold sg
    rw [if_pos this]
  have hx := xm_num hd i
  generalize tlK d i = k at *
  generalize tlI d i = I at *
  generalize tlK d (i + 1) = k' at *
  generalize tlI d (i + 1) = I' at *
  generalize ai (per d) i = a at *
  generalize xm d i = x at *
  generalize xm d (i + 1) = x' at *
  have eI : I = a * k - I' := by omega
  subst eI
  have ed : d - I' * I' = k * k' := by grind
  have m1 := sg_mulS (d := d) (a := k * (v' + a * u' + T) - (a * k - I') * u' + k * (x * W)) (b := -1 * u') (m := I') (n := 1) hd
  rw [hs] at m1
  have m1 := m1.trans (Int.mul_one _)
  rw [← m1]
  have e1 : (k * (v' + a * u' + T) - (a * k - I') * u' + k * (x * W)) * I' + d * (-1 * u') * 1 = k * ((T + x * W) * I' - (k' * u' - I' * v')) := by
    have : d = k * k' + I' * I' := by omega
    rw [this]; grind
  have e2 : (k * (v' + a * u' + T) - (a * k - I') * u' + k * (x * W)) * 1 + -1 * u' * I' = k * (v' + T + x * W) := by grind
  rw [e1, e2]
  refine sg_scale (by omega) ?_
  have p1 := sg_pos2 (d := d) (a := (T + a * W) * I') (b := T + a * W) d0 (Int.mul_nonneg hT (by omega)) hT
  have p2 := sg_scale hW hx
  have p3 := sg_add d0 (sg_add d0 p1 p2) h
  have f1 : (T + a * W) * I' + W * ((x - a) * I' - k' * x') + -(k' * u' - I' * v' - k' * (x' * W)) = (T + x * W) * I' - (k' * u' - I' * v') := by grind
  have f2 : T + a * W + W * (x - a) + v' = v' + T + x * W := by grind
  rw [f1, f2] at p3
  exact p3
end RF

namespace RF
/-! ### (0, 0) is carried when the sum is 0 -/
theorem kpt_both {d X u v : Int} {i : Nat} : kpt d X u v i = true ↔ 0 ≤ sg d (tlK d i * u - tlI d i * v + tlK d i * X) (-1 * v) ∧ 0 ≤ sg d (-(tlK d i * u - tlI d i * v - tlK d i * X)) v := by
  unfold kpt
  rw [Bool.and_eq_true, decide_eq_true_eq, decide_eq_true_eq]
  have e : sg d (-(tlK d i * u - tlI d i * v - tlK d i * X)) v = -sg d (tlK d i * u - tlI d i * v - tlK d i * X) (-1 * v) := by
    rw [← sg_neg, show -(-1 * v) = v by omega]
  rw [e]
  exact ⟨fun h => ⟨h.1, by omega⟩, fun h => ⟨h.1, by omega⟩⟩
theorem kept_back {d u' v' T W : Int} {i : Nat} (hd : Root d) (hW : 0 ≤ W) (hT : T.natAbs ≤ (ai (per d) i * W).natAbs) (h : kpt d (xm d (i + 1) * W) u' v' (i + 1) = true) : kpt d (xm d i * W) (v' + ai (per d) i * u' + T) u' i = true := by
  have hA := (ai_pos hd i).1
  have n0 := Int.mul_nonneg (show 0 ≤ ai (per d) i by omega) hW
  obtain ⟨h1, h2⟩ := kpt_both.mp h
  refine kpt_both.mpr ⟨half hd i hW (by omega) h2, ?_⟩
  have := half (u' := -u') (v' := -v') (T := -T) hd i hW (by omega) (by
    rw [show -(tlK d (i + 1) * -u' - tlI d (i + 1) * -v' - tlK d (i + 1) * (xm d (i + 1) * W)) = tlK d (i + 1) * u' - tlI d (i + 1) * v' + tlK d (i + 1) * (xm d (i + 1) * W) by grind, show -v' = -1 * v' by omega]
    exact h1)
  rw [show tlK d i * (-v' + ai (per d) i * -u' + -T) - tlI d i * -u' + tlK d i * (xm d i * W) = -(tlK d i * (v' + ai (per d) i * u' + T) - tlI d i * u' - tlK d i * (xm d i * W)) by grind, show -1 * -u' = u' by omega] at this
  exact this
theorem kpt_up {d X B u v : Int} {i : Nat} (hd : Root d) (hX : X ≤ B) (h : kpt d X u v i = true) : kpt d B u v i = true := by
  have d0 : 0 < d := by have := hd.pos; omega
  have k0 := tlK_or d i
  have n0 := Int.mul_nonneg (show 0 ≤ tlK d i by omega) (show 0 ≤ B - X by omega)
  obtain ⟨h1, h2⟩ := kpt_both.mp h
  have p := sg_pos2 (d := d) (a := tlK d i * (B - X)) (b := 0) d0 n0 (Int.le_refl _)
  refine kpt_both.mpr ⟨?_, ?_⟩
  · have := sg_add d0 h1 p
    rwa [Int.add_zero, show tlK d i * u - tlI d i * v + tlK d i * X + tlK d i * (B - X) = tlK d i * u - tlI d i * v + tlK d i * B by grind] at this
  · have := sg_add d0 h2 p
    rwa [Int.add_zero, show -(tlK d i * u - tlI d i * v - tlK d i * X) + tlK d i * (B - X) = -(tlK d i * u - tlI d i * v - tlK d i * B) by grind] at this
theorem xm_le (d : Int) (i : Nat) : 0 ≤ xm d i ∧ xm d i ≤ 3 * tp d := by
  have := tp_bd d
  unfold xm
  split
  · rename_i h
    rw [h.1]
    decide
  · omega
/-- the pairs that lead to (0, 0) -/
def bkP (d : Int) (fs : List Int) : List (List Int) → Nat → Int × Int
  | [], _ => (0, 0)
  | L :: Ls, i => ((bkP d fs Ls (i + 1)).2 + ai (per d) i * (bkP d fs Ls (i + 1)).1 + tot fs L, (bkP d fs Ls (i + 1)).1)
theorem bk_cst (d : Int) (fs L : List Int) (Ls : List (List Int)) (i : Nat) : cst (ai (per d) i) (tot fs L) (bkP d fs (L :: Ls) i) = bkP d fs Ls (i + 1) := by
  refine Prod.ext rfl ?_
  show (bkP d fs Ls (i + 1)).2 + ai (per d) i * (bkP d fs Ls (i + 1)).1 + tot fs L - ai (per d) i * (bkP d fs Ls (i + 1)).1 - tot fs L = (bkP d fs Ls (i + 1)).2
  omega
theorem bk_kept {d W : Int} {fs : List Int} (hd : Root d) (hW : 0 ≤ W) : ∀ (Ls : List (List Int)) (i : Nat), (∀ j L, Ls[j]? = some L → (tot fs L).natAbs ≤ (ai (per d) (i + j) * W).natAbs) → kpt d (xm d i * W) (bkP d fs Ls i).1 (bkP d fs Ls i).2 i = true
  | [], i, _ => by
    have d0 : 0 < d := by have := hd.pos; omega
    have k0 := tlK_or d i
    have n0 := Int.mul_nonneg (show 0 ≤ tlK d i by omega) (Int.mul_nonneg (xm_le d i).1 hW)
    refine kpt_both.mpr ⟨?_, ?_⟩
    · show 0 ≤ sg d (tlK d i * 0 - tlI d i * 0 + tlK d i * (xm d i * W)) (-1 * 0)
      rw [Int.mul_zero, Int.mul_zero, Int.mul_zero]
      exact sg_pos2 d0 (by omega) (Int.le_refl _)
    · show 0 ≤ sg d (-(tlK d i * 0 - tlI d i * 0 - tlK d i * (xm d i * W))) 0
      rw [Int.mul_zero, Int.mul_zero]
      exact sg_pos2 d0 (by omega) (Int.le_refl _)
  | L :: Ls, i, h => kept_back hd hW (by have := h 0 L rfl; rwa [Nat.add_zero] at this) (bk_kept hd hW Ls (i + 1) fun j L' hj => by
      have := h (j + 1) L' hj
      rwa [show i + (j + 1) = i + 1 + j by omega] at this)
theorem bk_lrun {d B W : Int} {fs : List Int} (hd : Root d) (hW : 0 ≤ W) (hB : 3 * tp d * W ≤ B) : ∀ (Ls : List (List Int)) (i : Nat) (F : List (Int × Int)), (∀ j L, Ls[j]? = some L → (tot fs L).natAbs ≤ (ai (per d) (i + j) * W).natAbs) → bkP d fs Ls i ∈ F → ((0, 0) : Int × Int) ∈ lrun d B fs Ls i F
  | [], _, _, _, h => h
  | L :: Ls, i, F, hT, h => by
    have hT' : ∀ j L', Ls[j]? = some L' → (tot fs L').natAbs ≤ (ai (per d) (i + 1 + j) * W).natAbs := fun j L' hj => by
      have := hT (j + 1) L' hj
      rwa [show i + (j + 1) = i + 1 + j by omega] at this
    refine bk_lrun hd hW hB Ls (i + 1) _ hT' (List.mem_filter.mpr ⟨List.mem_map.mpr ⟨_, h, bk_cst d fs L Ls i⟩, ?_⟩)
    have := Int.mul_le_mul_of_nonneg_right (xm_le d (i + 1)).2 hW
    exact kpt_up hd (by omega) (bk_kept hd hW Ls (i + 1) hT')
theorem sfar_add {p fs : List Int} : ∀ (Ls : List (List Int)) (i : Nat) (S R : Int), sfar p fs Ls i (S + R) = sfar p fs Ls i S + R
  | [], _, _, _ => rfl
  | L :: Ls, i, S, R => by
    show sfar p fs Ls (i + 1) (S + R + _) = sfar p fs Ls (i + 1) (S + _) + R
    rw [← sfar_add Ls (i + 1), Int.add_right_comm]
theorem bk_sum {d : Int} {fs : List Int} : ∀ (Ls : List (List Int)) (i : Nat), (bkP d fs Ls i).1 * qn (per d) i + (bkP d fs Ls i).2 * qm (per d) i = sfar (per d) fs Ls i 0
  | [], i => by show 0 * _ + 0 * _ = 0; simp
  | L :: Ls, i => by
    have ih := bk_sum (d := d) (fs := fs) Ls (i + 1)
    have e1 : qn (per d) (i + 1) = ai (per d) i * qn (per d) i + qm (per d) i := rfl
    have e2 : qm (per d) (i + 1) = qn (per d) i := rfl
    rw [e1, e2] at ih
    show ((bkP d fs Ls (i + 1)).2 + ai (per d) i * (bkP d fs Ls (i + 1)).1 + tot fs L) * qn (per d) i + (bkP d fs Ls (i + 1)).1 * qm (per d) i = sfar (per d) fs Ls (i + 1) (0 + qn (per d) i * tot fs L)
    rw [sfar_add, ← ih]
    grind
theorem zero_in {d c : Int} {fs : List Int} {Ls : List (List Int)} (hd : Root d) (hW : 0 ≤ absum fs) (hT : ∀ j L, Ls[j]? = some L → (tot fs L).natAbs ≤ (ai (per d) j * absum fs).natAbs) (hs : sfar (per d) fs Ls 0 c = 0) :
    ((0, 0) : Int × Int) ∈ lrun d (bnd d fs) fs Ls 0 (lin (-c, 0) (0, 1) (kr d (bnd d fs) (-c) 0 0 1 0).1 (kr d (bnd d fs) (-c) 0 0 1 0).2) := by
  have hT' : ∀ j L, Ls[j]? = some L → (tot fs L).natAbs ≤ (ai (per d) (0 + j) * absum fs).natAbs := fun j L h => by rw [Nat.zero_add]; exact hT j L h
  refine bk_lrun hd hW (Int.le_refl _) Ls 0 _ hT' ?_
  have hk := kpt_up hd (Int.mul_le_mul_of_nonneg_right (xm_le d 0).2 hW) (bk_kept hd hW Ls 0 hT')
  have hb := bk_sum (d := d) (fs := fs) Ls 0
  have q0 : qn (per d) 0 = 1 := rfl
  have q1 : qm (per d) 0 = 0 := rfl
  rw [q0, q1, Int.mul_one, Int.mul_zero, Int.add_zero] at hb
  have hc := sfar_add (p := per d) (fs := fs) Ls 0 0 c
  rw [Int.zero_add, hs, ← hb] at hc
  have hu : (bkP d fs Ls 0).1 = -c := by omega
  have k := (kr_iff (d := d) (B := bnd d fs) (u := -c) (v := 0) (s := 0) (t := 1) (n := (bkP d fs Ls 0).2) (p := 0) hd (.inr (by decide))).mpr (by
    rw [Int.mul_zero, Int.add_zero, Int.mul_one, Int.zero_add, ← hu]
    exact hk)
  rw [lin_ivl]
  refine List.mem_map.mpr ⟨(bkP d fs Ls 0).2, ?_, ?_⟩
  · rw [← ivl_range]
    refine List.mem_map.mpr ⟨((bkP d fs Ls 0).2 - (kr d (bnd d fs) (-c) 0 0 1 0).1).toNat, List.mem_range.mpr ?_, ?_⟩ <;> omega
  · refine Prod.ext ?_ ?_
    · show -c + (bkP d fs Ls 0).2 * 0 = (bkP d fs Ls 0).1
      rw [hu]; omega
    · show 0 + (bkP d fs Ls 0).2 * 1 = (bkP d fs Ls 0).2
      omega
end RF

namespace RF
/-! ### the lists that can stand, all of one length -/
/-- the digit d behind a list whose last digit is lo, at place i, as the law asks it -/
def lcan (p : List Int) (i : Nat) (d lo : Int) : Bool := decide (0 ≤ d ∧ (d < ai p i ∨ (i ≠ 0 ∧ d = ai p i ∧ lo = 0)))
def dgs (p : List Int) (i : Nat) (s : List Int) : List Int := ([0, 1, 2, 3, 4] : List Int).filter fun d => lcan p i d (s.getLastD 0)
def nxt (p : List Int) (i : Nat) (s : List Int) : List (List Int) := (dgs p i s).map fun d => s ++ [d]
def LL (p : List Int) : Nat → List (List Int)
  | 0 => [[]]
  | i + 1 => (LL p i).flatMap (nxt p i)
def vl (p : List Int) (s : List Int) : Int := sw (qn p) 0 s
theorem can_unsnoc {p : List Int} {d : Int} : ∀ l i lo, Can p i lo (l ++ [d]) → Can p i lo l ∧ 0 ≤ d ∧ d ≤ ai p (i + l.length) ∧ (i + l.length = 0 ∨ l.getLastD lo ≠ 0 → d ≤ ai p (i + l.length) - 1)
  | [], i, lo, h => ⟨trivial, by simpa using h.1⟩
  | c :: l, i, lo, h => by
    obtain ⟨h1, h2⟩ := h
    obtain ⟨a, b⟩ := can_unsnoc l (i + 1) c h2
    have e : i + (c :: l).length = i + 1 + l.length := by simp; omega
    have e2 : (c :: l).getLastD lo = l.getLastD c := by cases l <;> rfl
    rw [e, e2]
    exact ⟨⟨h1, a⟩, b⟩
theorem LL_can {p : List Int} : ∀ i s, s ∈ LL p i → s.length = i ∧ Can p 0 0 s
  | 0, s, h => by
    simp only [LL, List.mem_singleton] at h
    subst h
    exact ⟨rfl, trivial⟩
  | i + 1, s, h => by
    simp only [LL, List.mem_flatMap, nxt, dgs, List.mem_map, List.mem_filter] at h
    obtain ⟨t, ht, d, ⟨_, hd⟩, rfl⟩ := h
    obtain ⟨l1, l2⟩ := LL_can i t ht
    have hd := of_decide_eq_true hd
    refine ⟨by simp [l1], can_snoc t 0 0 l2 ?_⟩
    rw [Nat.zero_add, l1]
    refine ⟨hd.1, by omega, fun hh => ?_⟩
    rcases hh with hh | hh <;> omega
theorem LL_all {p : List Int} (h4 : ∀ i, ai p i ≤ 4) : ∀ i s, s.length = i → Can p 0 0 s → s ∈ LL p i
  | 0, s, hl, _ => by
    cases s with
    | nil => simp [LL]
    | cons _ _ => simp at hl
  | i + 1, s, hl, hc => by
    obtain ⟨t, d, rfl⟩ : ∃ t d, s = t ++ [d] := ⟨s.dropLast, s.getLast (by intro z; rw [z] at hl; simp at hl), (List.dropLast_concat_getLast _).symm⟩
    have l1 : t.length = i := by simpa using hl
    obtain ⟨c1, d0, d1, d2⟩ := can_unsnoc t 0 0 hc
    rw [Nat.zero_add, l1] at d1 d2
    have := h4 i
    simp only [LL, List.mem_flatMap, nxt, dgs, List.mem_map, List.mem_filter]
    refine ⟨t, LL_all h4 i t l1 c1, d, ⟨?_, ?_⟩, rfl⟩
    · simp only [List.mem_cons, List.not_mem_nil, or_false]
      omega
    · unfold lcan
      refine decide_eq_true ⟨d0, ?_⟩
      by_cases hh : i = 0 ∨ t.getLastD 0 ≠ 0
      · exact .inl (by have := d2 hh; omega)
      · by_cases he : d = ai p i
        · refine .inr ⟨by omega, he, ?_⟩
          exact Classical.not_not.mp fun z => hh (.inr z)
        · exact .inl (by omega)
theorem LL_nodup {p : List Int} : ∀ i, (LL p i).Nodup
  | 0 => by simp [LL]
  | i + 1 => by
    unfold LL List.Nodup
    rw [List.pairwise_flatMap]
    refine ⟨fun s _ => ?_, ?_⟩
    · unfold nxt
      rw [List.pairwise_map]
      have hd : (dgs p i s).Pairwise fun a b => a ≠ b := List.Pairwise.filter _ (show ([0, 1, 2, 3, 4] : List Int).Pairwise (fun a b => a ≠ b) by decide)
      refine hd.imp ?_
      intro a b h z
      have := List.append_cancel_left z
      exact h (by simpa using this)
    · refine List.Pairwise.imp (R := (· ≠ ·)) (fun {a b} h x hx y hy z => h ?_) (LL_nodup i)
      unfold nxt at hx hy
      rw [List.mem_map] at hx hy
      obtain ⟨d, _, rfl⟩ := hx
      obtain ⟨e, _, rfl⟩ := hy
      exact (List.append_inj' z rfl).1
theorem vl_nn {p : List Int} (h : ∀ i, 1 ≤ ai p i) {s : List Int} (hc : Can p 0 0 s) : 0 ≤ vl p s := sw_nn (fun i => by have := qn_pos h i; omega) _ _ (can_bnd _ _ _ hc)
theorem vl_snoc {p : List Int} {d : Int} (l : List Int) : vl p (l ++ [d]) = vl p l + d * qn p l.length := by
  unfold vl
  rw [sw_snoc, Nat.zero_add]
theorem vl_lt {p : List Int} (h : ∀ i, 1 ≤ ai p i) : ∀ n s, s.length = n → Can p 0 0 s → vl p s < qn p n ∧ (∀ t, s = t ++ [0] → vl p s < (stp p n).1)
  | 0, s, hl, _ => by
    cases s with
    | nil => exact ⟨by have := qn_pos h 0; simp [vl, sw]; omega, fun t z => by simp at z⟩
    | cons _ _ => simp at hl
  | n + 1, s, hl, hc => by
    obtain ⟨t, d, rfl⟩ : ∃ t d, s = t ++ [d] := ⟨s.dropLast, s.getLast (by intro z; rw [z] at hl; simp at hl), (List.dropLast_concat_getLast _).symm⟩
    have l1 : t.length = n := by simpa using hl
    obtain ⟨c1, d0, d1, d2⟩ := can_unsnoc t 0 0 hc
    rw [Nat.zero_add, l1] at d1 d2
    obtain ⟨v1, v2⟩ := vl_lt h n t l1 c1
    have ex : qn p (n + 1) = ai p n * qn p n + (stp p n).1 := rfl
    have ex2 : (stp p (n + 1)).1 = qn p n := rfl
    have q1 := qn_pos h n
    have s1 := stp_pos h n
    rw [vl_snoc, l1, ex, ex2]
    refine ⟨?_, fun u z => ?_⟩
    · by_cases hh : d ≤ ai p n - 1
      · have := Int.mul_le_mul_of_nonneg_right hh (show 0 ≤ qn p n by omega)
        rw [Int.sub_mul] at this
        omega
      · have e : d = ai p n := by omega
        have z : ¬ (n = 0 ∨ t.getLastD 0 ≠ 0) := fun z => hh (d2 z)
        have n0 : n ≠ 0 := fun q => z (.inl q)
        have t0 : t.getLastD 0 = 0 := Classical.not_not.mp fun q => z (.inr q)
        obtain ⟨u, c, rfl⟩ : ∃ u c, t = u ++ [c] := ⟨t.dropLast, t.getLast (by intro z; rw [z] at l1; simp at l1; omega), (List.dropLast_concat_getLast _).symm⟩
        rw [List.getLastD_concat] at t0
        subst t0
        have := v2 u rfl
        rw [e]
        omega
    · obtain ⟨_, e⟩ := List.append_inj' z rfl
      have e : d = 0 := by simpa using e
      rw [e]
      omega
/-! ### by the greatest place -/
def lexI : List Int → List Int → Bool
  | [], [] => false
  | [], _ :: _ => true
  | _ :: _, [] => false
  | a :: r, b :: t => if a = b then lexI r t else decide (a < b)
theorem lexI_tri : ∀ u v, lexI u v = false → lexI v u = false → u = v
  | [], [], _, _ => rfl
  | [], _ :: _, h, _ => by simp [lexI] at h
  | _ :: _, [], _, h => by simp [lexI] at h
  | a :: r, b :: t, h1, h2 => by
    unfold lexI at h1 h2
    by_cases e : a = b
    · subst e
      rw [if_pos rfl] at h1 h2
      rw [lexI_tri r t h1 h2]
    · rw [if_neg e] at h1
      rw [if_neg (Ne.symm e)] at h2
      simp only [decide_eq_false_iff_not] at h1 h2
      omega
theorem lex_vl {p : List Int} (h : ∀ i, 1 ≤ ai p i) : ∀ n u v, u.length = n → v.length = n → Can p 0 0 u.reverse → Can p 0 0 v.reverse → (lexI u v = true ↔ vl p u.reverse < vl p v.reverse)
  | 0, u, v, hu, hv, _, _ => by
    cases u with
    | nil =>
      cases v with
      | nil => simp [lexI]
      | cons _ _ => simp at hv
    | cons _ _ => simp at hu
  | n + 1, u, v, hu, hv, cu, cv => by
    cases u with
    | nil => simp at hu
    | cons a r =>
      cases v with
      | nil => simp at hv
      | cons b t =>
        have lr : r.length = n := by simpa using hu
        have lt : t.length = n := by simpa using hv
        rw [List.reverse_cons] at cu cv
        obtain ⟨c1, a0, _⟩ := can_unsnoc _ 0 0 cu
        obtain ⟨c2, b0, _⟩ := can_unsnoc _ 0 0 cv
        rw [List.reverse_cons, List.reverse_cons, vl_snoc, vl_snoc, List.length_reverse, List.length_reverse, lr, lt]
        have v1 := (vl_lt h n r.reverse (by simp [lr]) c1).1
        have v2 := (vl_lt h n t.reverse (by simp [lt]) c2).1
        have n1 := vl_nn h c1
        have n2 := vl_nn h c2
        have q1 := qn_pos h n
        unfold lexI
        by_cases e : a = b
        · subst e
          rw [if_pos rfl, lex_vl h n r t lr lt c1 c2]
          omega
        · rw [if_neg e, decide_eq_true_eq]
          rcases Int.lt_or_gt_of_ne e with g | g
          · have := Int.mul_le_mul_of_nonneg_right (show a + 1 ≤ b by omega) (show 0 ≤ qn p n by omega)
            rw [Int.add_mul] at this
            omega
          · have := Int.mul_le_mul_of_nonneg_right (show b + 1 ≤ a by omega) (show 0 ≤ qn p n by omega)
            rw [Int.add_mul] at this
            omega
theorem vl_inj {p : List Int} (h : ∀ i, 1 ≤ ai p i) {n : Nat} {u v : List Int} (hu : u.length = n) (hv : v.length = n) (cu : Can p 0 0 u) (cv : Can p 0 0 v) (e : vl p u = vl p v) : u = v := by
  have k1 := lex_vl h n u.reverse v.reverse (by simp [hu]) (by simp [hv]) (by simpa using cu) (by simpa using cv)
  have k2 := lex_vl h n v.reverse u.reverse (by simp [hv]) (by simp [hu]) (by simpa using cv) (by simpa using cu)
  rw [List.reverse_reverse, List.reverse_reverse] at k1 k2
  have := lexI_tri u.reverse v.reverse (by
    cases hh : lexI u.reverse v.reverse
    · rfl
    · have := k1.mp hh; omega) (by
    cases hh : lexI v.reverse u.reverse
    · rfl
    · have := k2.mp hh; omega)
  have := congrArg List.reverse this
  simpa using this
theorem rng_of : ∀ (N : Nat) (lo : Int) (W : List Int), W.Pairwise (· < ·) → (∀ n, n ∈ W ↔ lo ≤ n ∧ n < lo + N) → W = (List.range N).map fun (i : Nat) => lo + (i : Int)
  | 0, lo, W, _, h => by
    cases W with
    | nil => rfl
    | cons x r => have := (h x).mp (by simp); omega
  | N + 1, lo, W, hp, h => by
    cases W with
    | nil => have := (h lo).mpr (by omega); simp at this
    | cons x r =>
      have hx := (h x).mp (by simp)
      rw [List.pairwise_cons] at hp
      have e : x = lo := by
        have := (h lo).mpr (by omega)
        rcases List.mem_cons.mp this with z | z
        · exact z.symm
        · have := hp.1 _ z; omega
      subst e
      have := rng_of N (x + 1) r hp.2 fun n => by
        refine ⟨fun hn => ?_, fun hn => ?_⟩
        · have := (h n).mp (by simp [hn])
          have := hp.1 _ hn
          omega
        · have := (h n).mpr (by omega)
          rcases List.mem_cons.mp this with z | z
          · omega
          · exact z
      rw [this, List.range_succ_eq_map, List.map_cons, List.map_map]
      congr 1
      · simp
      · refine List.map_congr_left fun i _ => ?_
        show x + 1 + (i : Int) = x + ((i + 1 : Nat) : Int)
        omega
theorem dg_vl {p : List Int} (h : ∀ i, 1 ≤ ai p i) {m : Nat} {s : List Int} (hl : s.length = m) (hc : Can p 0 0 s) : dg p m (vl p s) = s := by
  have v1 := (vl_lt h m s hl hc).1
  have v0 := vl_nn h hc
  have ⟨c, e⟩ := dg_ok h m (vl p s) v0 v1
  exact vl_inj h (dg_len _ _) hl c hc e
/-- sorted by the greatest place: the digits of 0, 1, 2 and so on -/
theorem sorted_dg {p : List Int} (h : ∀ i, 1 ≤ ai p i ∧ ai p i ≤ 4) {m : Nat} {Y : List (List Int)} (hY : Y.Perm ((LL p m).map List.reverse)) (hs : Y.Pairwise fun x y => lexI y x = false) :
    Y.map List.reverse = (List.range (qn p m).toNat).map fun (n : Nat) => dg p m (n : Int) := by
  have h1 := fun i => (h i).1
  have hm : ∀ y, y ∈ Y ↔ y.reverse ∈ LL p m := fun y => by
    rw [hY.mem_iff, List.mem_map]
    exact ⟨fun ⟨z, hz, e⟩ => by rw [← e, List.reverse_reverse]; exact hz, fun hz => ⟨_, hz, List.reverse_reverse _⟩⟩
  have nd : Y.Nodup := hY.nodup_iff.mpr (by
    unfold List.Nodup
    rw [List.pairwise_map]
    exact List.Pairwise.imp (fun hh z => hh (List.reverse_inj.mp z)) (LL_nodup m))
  have both : Y.Pairwise fun x y => lexI y x = false ∧ x ≠ y := hs.and nd
  have hW : (Y.map fun y => vl p y.reverse).Pairwise (· < ·) := by
    rw [List.pairwise_map]
    refine List.Pairwise.imp_of_mem (fun {x y} hx hy hh => ?_) both
    obtain ⟨l1, c1⟩ := LL_can m _ ((hm x).mp hx)
    obtain ⟨l2, c2⟩ := LL_can m _ ((hm y).mp hy)
    have k := lex_vl h1 m y x (by simpa using l2) (by simpa using l1) c2 c1
    rw [hh.1] at k
    have k : ¬ vl p y.reverse < vl p x.reverse := fun z => absurd (k.mpr z) (by decide)
    have ne : vl p x.reverse ≠ vl p y.reverse := fun z => hh.2 (List.reverse_inj.mp (vl_inj h1 l1 l2 c1 c2 z))
    omega
  have q1 := qn_pos h1 m
  have hr := rng_of (qn p m).toNat 0 _ hW fun n => by
    rw [List.mem_map]
    refine ⟨fun ⟨y, hy, e⟩ => ?_, fun hn => ?_⟩
    · obtain ⟨l1, c1⟩ := LL_can m _ ((hm y).mp hy)
      have := (vl_lt h1 m _ l1 c1).1
      have := vl_nn h1 c1
      omega
    · have ⟨c, e⟩ := dg_ok h1 m n (by omega) (by omega)
      refine ⟨(dg p m n).reverse, (hm _).mpr ?_, ?_⟩
      · rw [List.reverse_reverse]
        exact LL_all (fun i => (h i).2) m _ (dg_len _ _) c
      · rw [List.reverse_reverse]; exact e
  have e : Y.map List.reverse = (Y.map fun y => vl p y.reverse).map (dg p m) := by
    rw [List.map_map]
    refine List.map_congr_left fun y hy => ?_
    obtain ⟨l1, c1⟩ := LL_can m _ ((hm y).mp hy)
    exact (dg_vl h1 l1 c1).symm
  rw [e, hr, List.map_map]
  refine List.map_congr_left fun n _ => ?_
  simp
/-! ### zeros at the end -/
theorem dg_more {p : List Int} (h : ∀ i, 1 ≤ ai p i) {n : Int} {m : Nat} (h0 : 0 ≤ n) (hn : n < qn p m) : ∀ k, dg p (m + k) n = dg p m n ++ List.replicate k 0
  | 0 => by simp
  | k + 1 => by
    have q : qn p m ≤ qn p (m + k) := qn_mono h (by omega)
    have e1 : n % qn p (m + k) = n := Int.emod_eq_of_lt h0 (by omega)
    have e2 : n / qn p (m + k) = 0 := Int.ediv_eq_zero_of_lt h0 (by omega)
    show dg p (m + k + 1) n = _
    simp only [dg]
    rw [e1, e2, dg_more h h0 hn k, List.append_assoc, List.replicate_succ']
theorem dg_top {p : List Int} (h : ∀ i, 1 ≤ ai p i) {n : Int} {m : Nat} (hm : qn p m ≤ n) : (dg p (m + 1) n).getLastD 0 ≠ 0 := by
  simp only [dg]
  rw [List.getLastD_concat]
  have q := qn_pos h m
  have := (Int.le_ediv_iff_mul_le (show 0 < qn p m by omega)).mpr (show 1 * qn p m ≤ n by omega)
  omega
theorem drop_zero : ∀ (t : List Int) (k a : Nat), a < t.length → t.getLastD 0 ≠ 0 → (t ++ List.replicate k 0).drop a ≠ List.replicate (t.length + k - a) 0
  | t, k, a, ha, ht, e => by
    obtain ⟨u, c, rfl⟩ : ∃ u c, t = u ++ [c] := ⟨t.dropLast, t.getLast (by intro z; rw [z] at ha; simp at ha), (List.dropLast_concat_getLast _).symm⟩
    rw [List.getLastD_concat] at ht
    have hm : c ∈ (u ++ [c] ++ List.replicate k 0).drop a := by
      rw [List.append_assoc, List.drop_append_of_le_length (by simp at ha; omega)]
      simp
    rw [e, List.mem_replicate] at hm
    exact ht hm.2
theorem trail {t : List Int} {k : Nat} (ht : t = [] ∨ t.getLastD 0 ≠ 0) : ((List.range (t ++ List.replicate k 0).length).filter fun a => decide ((t ++ List.replicate k 0).drop a = List.replicate ((t ++ List.replicate k 0).length - a) 0)).length = k := by
  have hl : (t ++ List.replicate k (0 : Int)).length = t.length + k := by simp
  rw [hl, List.range_add, List.filter_append, List.length_append]
  have e1 : (List.range t.length).filter (fun a => decide ((t ++ List.replicate k 0).drop a = List.replicate (t.length + k - a) 0)) = [] := by
    rw [List.filter_eq_nil_iff]
    intro a ha z
    rw [List.mem_range] at ha
    rcases ht with e | e
    · rw [e] at ha; simp at ha
    · exact drop_zero t k a ha e (of_decide_eq_true z)
  have e2 : ((List.range k).map (t.length + ·)).filter (fun a => decide ((t ++ List.replicate k 0).drop a = List.replicate (t.length + k - a) 0)) = (List.range k).map (t.length + ·) := by
    rw [List.filter_eq_self]
    intro a ha
    rw [List.mem_map] at ha
    obtain ⟨j, _, rfl⟩ := ha
    refine decide_eq_true ?_
    rw [List.drop_append, List.drop_eq_nil_of_le (by omega), List.drop_replicate, List.nil_append]
    congr 1
    omega
  rw [e1, e2]
  simp
end RF

namespace RF
/-! ### the digits of a number, the zeros at the end taken off one by one (k05) -/
theorem dg_len5 (p : List Int) : ∀ m n, (dg p m n).length = m
  | 0, _ => rfl
  | m + 1, n => by simp [dg, dg_len5 p m]
theorem dg_last5 {p : List Int} {m : Nat} {n : Int} : (dg p (m + 1) n)[m]? = some (n / qn p m) := by
  unfold dg
  rw [List.getElem?_append_right (by rw [dg_len5]; exact Nat.le_refl _), dg_len5, Nat.sub_self]
  rfl
theorem dg_off {p : List Int} {m : Nat} {n : Int} (hq : 0 < qn p m) (h0 : 0 ≤ n) (e : n / qn p m = 0) : n < qn p m ∧ dg p (m + 1) n = dg p m n ++ [0] := by
  have a := Int.emod_add_mul_ediv n (qn p m)
  have b := Int.emod_lt_of_pos n hq
  rw [e, Int.mul_zero, Int.add_zero] at a
  refine ⟨by omega, ?_⟩
  show dg p m (n % qn p m) ++ [n / qn p m] = _
  rw [e, a]
theorem dg_off_take {p : List Int} {m : Nat} {n : Int} (hq : 0 < qn p m) (h0 : 0 ≤ n) (e : n / qn p m = 0) : (dg p (m + 1) n).take m = dg p m n := by
  rw [(dg_off hq h0 e).2, List.take_append_of_le_length (by rw [dg_len5]; exact Nat.le_refl _), List.take_of_length_le (by rw [dg_len5]; exact Nat.le_refl _)]
theorem dg_on {p : List Int} {m : Nat} {n : Int} (hq : 0 < qn p m) (h0 : 0 ≤ n) (e : n / qn p m ≠ 0) : qn p m ≤ n := by
  refine Int.not_lt.mp fun h => e ?_
  exact Int.ediv_eq_zero_of_lt h0 h
/-- the steps grow at least as Fibonacci's numbers -/
def fbn : Nat → Int × Int
  | 0 => (0, 1)
  | n + 1 => ((fbn n).2, (fbn n).1 + (fbn n).2)
theorem fbn_nn : ∀ n, 0 ≤ (fbn n).1 ∧ 0 ≤ (fbn n).2
  | 0 => by decide
  | n + 1 => by
    have ⟨a, b⟩ := fbn_nn n
    exact ⟨b, by show 0 ≤ (fbn n).1 + (fbn n).2; omega⟩
theorem stp_fbn {p : List Int} (h : ∀ i, 1 ≤ ai p i) : ∀ n, (fbn n).1 ≤ (stp p n).1 ∧ (fbn n).2 ≤ (stp p n).2
  | 0 => by simp [stp, fbn]
  | n + 1 => by
    have ⟨a, b⟩ := stp_fbn h n
    have c := (fbn_nn n).2
    refine ⟨b, ?_⟩
    show (fbn n).1 + (fbn n).2 ≤ ai p n * (stp p n).2 + (stp p n).1
    have : 1 * (stp p n).2 ≤ ai p n * (stp p n).2 := Int.mul_le_mul_of_nonneg_right (h n) (by omega)
    omega
theorem qn_256 {p : List Int} (h : ∀ i, 1 ≤ ai p i) : (10 : Int) ^ 40 ≤ qn p 256 := by
  have := (stp_fbn h 256).2
  have e : (10 : Int) ^ 40 ≤ (fbn 256).2 := by decide +kernel
  show (10 : Int) ^ 40 ≤ (stp p 256).2
  omega
end RF

namespace RF
open PySem L2 PyProof.Rows
open PySem.W (dataLt alike alikeAll toks_all_cons keyToks keyToksAll)
/-! ### lists of ints as keys -/
def pI' (ns : List Int) : List PyData := ns.map PyData.int
theorem alike_ints : ∀ ns ms : List Int, alikeAll (pI' ns) (pI' ms) = true
  | [], _ => by simp [pI', alikeAll]
  | _ :: _, [] => by simp [pI', alikeAll]
  | a :: r, b :: t => by
    have := alike_ints r t
    simp [pI', alikeAll, alike] at this ⊢
    exact this
theorem lex_ints : ∀ ns ms : List Int, lexLt itemOrd (keyToksAll (pI' ns)) (keyToksAll (pI' ms)) = lexI ns ms
  | [], [] => by simp [pI', lexI, keyToksAll, lex_irrefl]
  | [], b :: t => by
    show PyProof.Rows.lexLt itemOrd (keyToksAll []) (keyToksAll (PyData.int b :: pI' t)) = true
    rw [toks_all_cons]; simp only [keyToksAll]; rw [lex_diff (by simp)]
    simp [itemLt]
  | a :: r, [] => by
    show PyProof.Rows.lexLt itemOrd (keyToksAll (PyData.int a :: pI' r)) (keyToksAll []) = false
    rw [toks_all_cons]; simp only [keyToksAll]; rw [lex_diff (by simp)]
    simp [itemLt]
  | a :: r, b :: t => by
    show PyProof.Rows.lexLt itemOrd (keyToksAll (PyData.int a :: pI' r)) (keyToksAll (PyData.int b :: pI' t)) = _
    unfold lexI
    by_cases e : a = b
    · rw [if_pos e, PySem.W.dataLt_all_yes (by simp [alike]) (by rw [e]; simp [PyData.eqv])]
      exact lex_ints r t
    · rw [if_neg e, PySem.W.dataLt_all_no (by simp [alike]) (by simp [PyData.eqv, e])]
      exact PySem.W.dataLt_int a b
theorem dataLt_ints (ns ms : List Int) : dataLt (.list (pI' ns)) (.list (pI' ms)) = lexI ns ms := (PySem.W.dataLt_list _ _).trans (lex_ints ns ms)
theorem lexI_asym : ∀ u v, lexI u v = true → lexI v u = false
  | [], [], h => by simp [lexI] at h
  | [], _ :: _, _ => by simp [lexI]
  | _ :: _, [], h => by simp [lexI] at h
  | a :: r, b :: t, h => by
    unfold lexI at h ⊢
    by_cases e : a = b
    · rw [if_pos e] at h
      rw [if_pos e.symm]
      exact lexI_asym r t h
    · rw [if_neg e] at h
      rw [if_neg (Ne.symm e)]
      simp only [decide_eq_true_eq, decide_eq_false_iff_not] at h ⊢
      omega
theorem lexI_tr : ∀ x y z, lexI y x = false → lexI z y = false → lexI z x = false
  | [], [], [], _, _ => by simp [lexI]
  | [], [], _ :: _, _, _ => by simp [lexI]
  | [], _ :: _, [], _, h => by simp [lexI] at h
  | [], _ :: _, _ :: _, _, _ => by simp [lexI]
  | _ :: _, [], _, h, _ => by simp [lexI] at h
  | _ :: _, _ :: _, [], _, h => by simp [lexI] at h
  | a :: r, b :: t, c :: q, h1, h2 => by
    unfold lexI at h1 h2 ⊢
    by_cases e1 : b = a
    · rw [if_pos e1] at h1
      by_cases e2 : c = b
      · rw [if_pos e2] at h2
        rw [if_pos (e2.trans e1)]
        exact lexI_tr r t q h1 h2
      · rw [if_neg e2] at h2
        rw [if_neg (by omega)]
        simp only [decide_eq_false_iff_not] at h2 ⊢
        omega
    · rw [if_neg e1] at h1
      by_cases e2 : c = b
      · rw [if_pos e2] at h2
        rw [if_neg (by omega)]
        simp only [decide_eq_false_iff_not] at h1 ⊢
        omega
      · rw [if_neg e2] at h2
        simp only [decide_eq_false_iff_not] at h1 h2
        rw [if_neg (by omega)]
        simp only [decide_eq_false_iff_not]
        omega
/-- v is a list of the ints ns -/
def IsLi (h : Heap) (v : Value) (ns : List Int) : Prop := ∃ (l : Addr) (o : Obj) (its : Array Value) (n : Nat), v = .ref l ∧ h.get? l = some o ∧ o.cls = .type "list" ∧ o.data = .seq its n ∧ Vals (ns.map V.int) its.toList
theorem reads_ints {h : Heap} : ∀ (ns : List Int) (us : List Value), Vals (ns.map V.int) us → ∃ as, ReadsAll h us (pI' ns) as
  | [], _, .nil => ⟨_, .nil⟩
  | n :: ns, _, .cons ⟨t, e⟩ r => by
    obtain ⟨as, q⟩ := reads_ints ns _ r
    subst e
    exact ⟨_, .cons (.int n t) q⟩
theorem IsLi.reads {h : Heap} {v : Value} {ns : List Int} (i : IsLi h v ns) : ∃ as, Reads h v (.list (pI' ns)) as := by
  obtain ⟨l, o, its, n, rfl, h1, h2, h3, h4⟩ := i
  obtain ⟨as, q⟩ := reads_ints (h := h) ns _ h4
  exact ⟨_, .list h1 h2 h3 q⟩
theorem vals_inj : ∀ (ns ms : List Int) (us : List Value), Vals (ns.map V.int) us → Vals (ms.map V.int) us → ns = ms
  | [], [], _, _, _ => rfl
  | [], _ :: _, _, .nil, h => by cases h
  | _ :: _, [], _, .cons _ _, h => by cases h
  | n :: ns, m :: ms, _, .cons ⟨t, e⟩ r, .cons ⟨t', e'⟩ r' => by
    rw [e] at e'
    cases e'
    rw [vals_inj ns ms _ r r']
theorem IsLi.inj {h : Heap} {v : Value} {ns ms : List Int} (i : IsLi h v ns) (j : IsLi h v ms) : ns = ms := by
  obtain ⟨l, o, its, n, rfl, h1, h2, h3, h4⟩ := i
  obtain ⟨l', o', its', n', e, g1, g2, g3, g4⟩ := j
  cases e
  rw [h1] at g1
  cases g1
  rw [h3] at g3
  cases g3
  exact vals_inj _ _ _ h4 g4
theorem depth_ints (ns : List Int) : (PyData.list (pI' ns)).depth ≤ 1 := by
  have : PyData.depthAll (pI' ns) = 0 := by
    induction ns with
    | nil => rfl
    | cons a r ih => simp [pI', PyData.depthAll, PyData.depth] at ih ⊢; exact ih
  simp [PyData.depth, this]
section
variable {prog : Program} {w : World} {A : Around} {s : Shared}
theorem lists_sortable {a : Addr} {vs : List Value} {k : Value → List Int} (hl : 2 ≤ vs.length) (hu : A.units + 1 < cLine) (hp : ∀ v ∈ vs, IsLi s.heap v (k v) ∧ v ≠ .ref a) : SrtO.SortableO prog w A s a vs fun v u => lexI (k v) (k u) := by
  intro h' keep
  have hp' : ∀ v ∈ vs, IsLi h' v (k v) := fun v hm => by
    obtain ⟨⟨l, o, its, n, rfl, h1, h2, h3, h4⟩, ne⟩ := hp v hm
    exact ⟨l, o, its, n, rfl, keep l o (fun z => ne (by rw [z])) h1, h2, h3, h4⟩
  refine ⟨oneType', fun Q E hq => ?_, ?_⟩
  · refine PySem.W.kas_kind (T := .type "list") hl (fun v hv => ?_) (by decide) (by decide) hq
    obtain ⟨l, o, its, n, rfl, h1, h2, h3, h4⟩ := hp' v hv
    rw [← h2]
    exact (PySem.W.Looks.ld h1).andThen .now
  · intro p q hm hn
    obtain ⟨as, r1⟩ := (hp' p.1 hm).reads
    obtain ⟨bs, r2⟩ := (hp' q.1 hn).reads
    show wpAny (model prog w) A (oneLt' true p.1 q.1) _ _ _
    have d1 := depth_ints (k p.1)
    refine PySem.W.oneLt_alike (fun _ xs z => by cases z) r1 r2 (by simp only [alike]; exact alike_ints _ _) (by intro z; cases z) (by omega) ?_
    exact ⟨rfl, dataLt_ints _ _⟩
end
/-- sorted(xs), xs a list of lists of ints: a new list of the same lists, in order -/
def rSortLI (K : PySem.W.Frag) : List V → Hp → VK → Prop := fun vs H Q => ∃ (a : Addr) (ps : List (V × List Int)), vs = [.ref a] ∧ SqL K H a (ps.map (·.1)) ∧ (∀ p ∈ ps, ∃ t, p.1 = .ref t ∧ SqL K H t (p.2.map V.int)) ∧
  ∀ (qs : List (V × List Int)) d, qs.Perm ps → qs.Pairwise (fun x y => lexI y.2 x.2 = false) → H d = none → Q (.ref d) (upd H d (.lst (qs.map (·.1))))
theorem swo_lexI (k : Value → List Int) : SrtO.Swo fun v u => lexI (k v) (k u) := ⟨fun x y => lexI_asym _ _, fun x y z => lexI_tr _ _ _⟩
theorem cr_sortedLI {X : Cx} (hu : X.A.units + 64 < cLine) : CallR X (.builtin "sorted") (rSortLI X.K) := by
  intro pins s σ H vs us Q I r h
  obtain ⟨a, ps, rfl, hs, hx, q⟩ := h
  obtain ⟨its, rv, hl, hz⟩ := I.list hs
  obtain ⟨u, rfl, ru⟩ := vals1 r
  obtain rfl : u = Value.ref a := ru
  obtain ⟨e1, e2⟩ := refs_back rv fun x m => by
    obtain ⟨p, hp, rfl⟩ := List.mem_map.mp m
    obtain ⟨t, e, _⟩ := hx p hp
    exact ⟨t, e⟩
  -- what each item holds
  have hit : ∀ v ∈ its, ∃ ns, (backV v, ns) ∈ ps ∧ IsLi s.heap v ns := fun v hv => by
    have : backV v ∈ ps.map (·.1) := by rw [e1]; exact List.mem_map.mpr ⟨v, hv, rfl⟩
    obtain ⟨p, hp, ep⟩ := List.mem_map.mp this
    obtain ⟨t, et, hq⟩ := hx p hp
    obtain ⟨b, rfl⟩ := e2 v hv
    have et2 : V.ref b = V.ref t := ep.symm.trans et
    obtain rfl : b = t := V.ref.inj et2
    obtain ⟨ws, r2, hpl, _⟩ := I.list hq
    obtain ⟨o, n, g1, g2, g3, g4⟩ := hpl
    exact ⟨p.2, by rw [← ep]; exact hp, b, o, ws.toArray, n, rfl, g1, g2, by first | exact g4 | exact g3, by simpa using r2⟩
  let k : Value → List Int := fun v => open Classical in if z : ∃ ns, IsLi s.heap v ns then z.choose else []
  have hk : ∀ v ns, IsLi s.heap v ns → k v = ns := fun v ns i => by
    have z : ∃ ns, IsLi s.heap v ns := ⟨ns, i⟩
    have e : k v = z.choose := dif_pos z
    rw [e]
    exact z.choose_spec.inj i
  have hz' : its.length ≤ sizeLine := by rw [← rv.length]; exact hz
  have eps : ps = its.map fun v => (backV v, k v) := by
    have key : ∀ (us : List Value) (qs : List (V × List Int)), qs.map (·.1) = us.map backV → (∀ p ∈ qs, ∀ t, p.1 = .ref t → IsLi s.heap (.ref t) p.2) → (∀ u ∈ us, ∃ b, u = .ref b) → qs = us.map fun v => (backV v, k v) := by
      intro us
      induction us with
      | nil =>
        intro qs h1 _ _
        simpa using h1
      | cons u us ih =>
        intro qs h1 h2 h3
        cases qs with
        | nil => simp at h1
        | cons p qs =>
          rw [List.map_cons, List.map_cons] at h1
          obtain ⟨f1, f2⟩ := List.cons.inj h1
          obtain ⟨b, rfl⟩ := h3 u (by simp)
          have hb : p.1 = .ref b := f1
          have := hk _ _ (h2 p (by simp) b hb)
          rw [List.map_cons, ← ih qs f2 (fun p hp => h2 p (by simp [hp])) (fun u hu => h3 u (by simp [hu])), this, ← f1]
    refine key its ps e1 (fun p hp t et => ?_) e2
    obtain ⟨t', et', hq⟩ := hx p hp
    rw [et] at et'
    cases et'
    obtain ⟨ws, r2, hpl, _⟩ := I.list hq
    obtain ⟨o, n, g1, g2, g3, g4⟩ := hpl
    exact ⟨t, o, ws.toArray, n, rfl, g1, g2, by first | exact g4 | exact g3, by simpa using r2⟩
  refine SrtO.sorted_ord (swo_lexI k) hl.isList hz' (fun h2 h₁ b hb kk => ?_) fun out ho hst => ?_
  · refine lists_sortable (s := { s with heap := h₁ }) h2 (by show X.A.units + 2 + 1 < cLine; omega) fun v hv => ?_
    obtain ⟨ns, _, i⟩ := hit v hv
    rw [hk v ns i]
    obtain ⟨l, o, ws, n, rfl, h1, h2, h3, h4⟩ := i
    exact ⟨⟨l, o, ws, n, rfl, (kk l o h1).2, h2, h3, h4⟩, fun z => (kk l o h1).1 (Value.ref.inj z)⟩
  · obtain ⟨n, hn⟩ := sortedAll_at s.heap its out.toArray
    have hs1 : (out.map fun v => (backV v, k v)).Perm ps := by
      rw [eps]
      exact hst.perm.map _
    have h3 : ∀ u ∈ out, ∃ a, u = Value.ref a := fun u hu => e2 u (hst.perm.mem_iff.mp hu)
    have e4 : (out.map fun v => (backV v, k v)).map (·.1) = out.map backV := by rw [List.map_map]; rfl
    have hlen : (out.map backV).length ≤ sizeLine := by rw [List.length_map, hst.perm.length_eq]; exact hz'
    have hd : s.heap.objs.size ≤ s.heap.objs.size + 1 := Nat.le_succ _
    refine ⟨.ref (s.heap.objs.size + 1), upd H (s.heap.objs.size + 1) (.lst (out.map backV)), I.laid (t' := s.toks) (fun b o e => sortedAll_old e) hd ⟨hlen, out, n, vals_back h3, hn⟩, rfl, ?_⟩
    rw [← e4]
    exact q _ _ hs1 (List.pairwise_map.mpr ho) (I.hok.fresh hd)
end RF

namespace RF
open PySem L2 PyProof.Rows
theorem shaped_ints (ns : List Int) : SeqAt.shaped (.list (ns.map PyData.int)) = true := by
  unfold SeqAt.shaped
  have h1 : PyData.canLayAll0 (ns.map PyData.int) = true := by
    induction ns with
    | nil => rfl
    | cons a r ih => simp only [List.map_cons, PyData.canLayAll0, ih, PyData.canLay0, Bool.and_self]
  have h2 := depth_ints ns
  unfold pI' at h2
  simp only [PyData.canLay0, h1, Bool.true_and]
  exact decide_eq_true (by omega)
theorem dp_ints {K : PySem.W.Frag} {H : Hp} : ∀ ns : List Int, DpAll K H (ns.map V.int) (ns.map PyData.int)
  | [] => .nil
  | a :: r => .cons (.int a) (dp_ints r)
theorem eqv_ints : ∀ ns ms : List Int, PyData.eqv (.list (ns.map PyData.int)) (.list (ms.map PyData.int)) = decide (ns = ms)
  | [], [] => rfl
  | [], _ :: _ => by simp [PyData.eqv, PyData.eqvAll]
  | _ :: _, [] => by simp [PyData.eqv, PyData.eqvAll]
  | a :: r, b :: t => by
    have ih := eqv_ints r t
    simp only [PyData.eqv] at ih
    simp only [List.map_cons, PyData.eqv, PyData.eqvAll, ih]
    by_cases e : a = b <;> by_cases f : r = t <;> simp [e, f]
theorem rps_ints {K : PySem.W.Frag} {H : Hp} : ∀ ns : List Int, Rps K H (ns.map V.int) (ns.map D.int)
  | [] => rfl
  | a :: r => ⟨_, _, rfl, rfl, rps_ints r⟩
theorem dep_ints : ∀ ns : List Int, depL (ns.map D.int) = 0
  | [] => rfl
  | a :: r => by simp [depL, dep, dep_ints r]
theorem lastD_at {s : List Int} (h : s ≠ []) : atI (s.map V.int) (-1) = some (.int (s.getLastD 0)) := by
  obtain ⟨t, c, rfl⟩ : ∃ t c, s = t ++ [c] := ⟨s.dropLast, s.getLast h, (List.dropLast_concat_getLast _).symm⟩
  rw [List.getLastD_concat, List.map_append]
  exact atI_last _ _
end RF

namespace RF
open PySem L2 PyProof.Rows
section
variable {P : Program} {w : World} {K : PySem.W.Frag} {mg : Str → Option Value} {base : Heap}
abbrev s_law_digits : Stmt := top 48
abbrev n_law_digits : List Str := ["_law_root_here", "_law_number", "_law_many", "_law_found", "_law_rest", "_law_step"]
theorem sc_law_digits : FnScope n_law_digits ["_law_root_here", "_law_number"] (defScope s_law_digits) := ⟨rfl, rfl, rfl, by decide +kernel, rfl, by decide +kernel, by decide +kernel⟩
def spLDig : Sp := fun vs H Q _ => ∃ (d n : Int), vs = [.int d, .int n] ∧ Root d ∧ 0 ≤ n ∧ n < 10 ^ 40 ∧
  ∀ m a H', m ≤ 266 → n < qn (per d) m → (∀ j, m = j + 1 → qn (per d) j ≤ n) → H a = none → H' a = some (.lst ((dg (per d) m n).map V.int)) → Same H H' → Q (.ref a) H'
theorem cut_off {ds : List Int} : cutV (ds.map V.int) none (some (-(1 : Int))) = (ds.take (ds.length - 1)).map V.int := by
  unfold cutV
  rw [HT.sIx_none, List.length_map]
  have e : HT.sIx ds.length ds.length (some (-1)) = ds.length - 1 := by
    unfold HT.sIx
    simp
    omega
  rw [e, List.drop_zero, Nat.sub_zero, ← List.map_take]
theorem ok_ldig {f : Addr} {fd : FuncData} {k : Nat} (F : Fun K "_law_digits" "_law_digits" s_law_digits f fd) (T : TB mg) (D1 : Df P w K mg base k "_law_steps" ["_law_root_here", "_law_many"] spLSteps) : FnOk P w K mg base CX0 (k + 1) f fd ["_law_root_here", "_law_number"] spLDig := by
  refine F.ok sc_law_digits (fun vs H Q E h => ?_) (fun cdv A outer s H vs Q E hr h => ?_)
  · obtain ⟨d, n, rfl, _⟩ := h
    rfl
  · obtain ⟨d, n, rfl, hd, n0, n1, q⟩ := h
    have nd := sc_law_digits.nd
    have hpr := perOk hd
    refine ⟨_, PSs.nox (pss_cons (ps_set (i := 2) nd rfl (Or.inl rfl) pe_int)
      (pss_cons (ps_while PassesOwn.never (pt_cmpR op_le (pe_ix ix_list (pe_callD D1 hr (Nat.le_refl _) (pa_cons (pv 0) (pa_cons (pv 2) pa_nil))) (pe_un un_neg pe_int) (fun _ _ => rfl)) (pv 1) (nomark _))
      (pss_one (ps_set (i := 2) nd rfl (Or.inl rfl) (pe_op op_mulW (pv 2) pe_int))))
      (pss_cons (ps_par (i := 3) (j := 4) rfl nd rfl rfl (by decide) rfl rfl (pa_cons (pe_lst pa_nil) (pa_cons (pv 1) pa_nil)) (by kernel_rfl))
      (pss_cons (ps_for PassesOwn.never rfl (pi_list (pe_revL (pe_callD D1 hr (Nat.le_refl _) (pa_cons (pv 0) (pa_cons (pv 2) pa_nil))))) (pg_name (i := 5) nd rfl (Or.inl rfl))
      (pss_cons (ps_expr (pe_bm PySem.F.plainAttrs_list PySem.F.slot_list_append PySem.F.type_list_append mt_append (pv 3) (pa_cons (pe_op op_fdivW (pv 4) (pv 5)) pa_nil)))
        (pss_one (ps_set (i := 4) nd rfl (Or.inl rfl) (pe_op op_mod (pe_callTy call_int1 (by rfl) T.int (by decide +kernel) (pa_cons (pv 4) pa_nil)) (pv 5))))))
      (pss_cons (ps_set (i := 3) nd rfl (Or.inl rfl) (pe_revL (pv 3)))
      (pss_cons (ps_while PassesOwn.never (pw_and (pt_cmpR (op_neD hr.units) (pv 3) (pe_lst pa_nil) (nomark _)) (pw_and1 (pt_cmpR op_eq (pe_ix ix_list (pv 3) (pe_un un_neg pe_int) (fun _ _ => rfl)) pe_int (nomark _)))).pt
      (pss_one (ps_set (i := 3) nd rfl (Or.inl rfl) (pe_slice sl_list (pv 3) po_none (po_some (pe_un un_neg pe_int))))))
      (pss_one (ps_ret (pv 3))))))))), ?_⟩
    refine while_by (fun σ H' => ∃ e : Nat, e ≤ 8 ∧ σ = [some (.int d), some (.int n), some (.int ((2 ^ e : Nat) : Int)), none, none, none] ∧ Same H H')
      (fun σ _ => match σ with | [_, _, some (.int x), _, _, _] => (300 - x).toNat | _ => 0)
      ⟨0, by decide, rfl, Same.refl _⟩ ?_ ?_
    · rintro σ H1 ⟨e, he, rfl, sm⟩
      have p8 : 2 ^ e ≤ 2 ^ 8 := Nat.pow_le_pow_right (by decide) he
      refine ⟨_, rfl, _, rfl, d, 2 ^ e, rfl, hd, by omega, fun a2 H2 na h2 s2 => ?_⟩
      have hx1 : atI (qs (per d) (2 ^ e + 1)) (-1) = some (.int (qn (per d) (2 ^ e))) := by
        rw [← qs_snoc]; exact atI_last _ _
      refine ⟨_, rfl, a2, _, _, _, rfl, rfl, SqL.of h2, hx1, _, rfl, _, _, rfl, rfl, _, rfl, ite2 (fun h => ?_) (fun h => ?_)⟩
      · have hle : qn (per d) (2 ^ e) ≤ n := of_decide_eq_true h
        have he7 : e ≤ 7 := by
          rcases Nat.lt_or_ge e 8 with z | z
          · omega
          · have e8 : e = 8 := by omega
            subst e8
            have := qn_256 hpr.one
            have e256 : (2 : Nat) ^ 8 = 256 := by decide
            rw [e256] at hle
            omega
        have p7 : 2 ^ e ≤ 2 ^ 7 := Nat.pow_le_pow_right (by decide) he7
        refine ⟨_, rfl, _, _, rfl, rfl, mulOk (n := 9) (m := 3) (by unfold Bd; rw [Int.natAbs_natCast]; omega) (by unfold Bd; decide) (by decide) (by decide) (by decide), ⟨e + 1, by omega, ?_, sm.trans s2⟩, ?_⟩
        · have e1 : ((2 ^ e : Nat) : Int) * 2 = ((2 ^ (e + 1) : Nat) : Int) := by rw [Nat.pow_succ]; omega
          show [some (V.int d), some (V.int n), some (V.int (((2 ^ e : Nat) : Int) * 2)), none, none, none] = _
          rw [e1]
        · have := Nat.pos_of_ne_zero (show 2 ^ e ≠ 0 from Nat.pos_iff_ne_zero.mp (Nat.pow_pos (by decide)))
          show (300 - ((2 ^ e : Nat) : Int) * 2).toNat < (300 - ((2 ^ e : Nat) : Int)).toNat
          omega
      · have hgt : n < qn (per d) (2 ^ e) := by
          have : ¬ qn (per d) (2 ^ e) ≤ n := fun z => h (decide_eq_true z)
          omega
        refine ⟨by show 0 ≤ sizeLine; decide, fun a ha => ⟨_, rfl, _, _, rfl, ?_⟩⟩
        refine ⟨_, rfl, _, rfl, d, 2 ^ e, rfl, hd, by omega, fun a3 H3 na3 h3 s3 => ⟨a3, _, rfl, SqL.of h3, fun z hz => ⟨z, rfl, ⟨_, SqL.of upd_same⟩, ?_⟩⟩⟩
        have ha1 : H3 a = some (.lst []) := s3 _ _ upd_same
        have sm0 : Same H H3 := ((sm.trans s2).trans (sNew (Same.refl _) ha)).trans s3
        have nza : z ≠ a := fun x => by rw [x, ha1] at hz; cases hz
        have haH : H a = none := (sm.trans s2).free ha
        refine for_list (xs := (qs (per d) (2 ^ e + 1)).reverse) (fun i σ H' => ∃ (r : Int) (fs : List Int) (v5 : Option V), σ = [some (.int d), some (.int n), some (.int ((2 ^ e : Nat) : Int)), some (.ref a), some (.int r), v5] ∧ H' a = some (.lst (fs.map V.int)) ∧ H' z = some (.lst (qs (per d) (2 ^ e + 1)).reverse) ∧ Same H H' ∧ fs.length = i ∧ i ≤ 2 ^ e + 1 ∧ 0 ≤ r ∧ r ≤ n ∧ dg (per d) (2 ^ e + 1) n = dg (per d) (2 ^ e + 1 - i) r ++ fs.reverse)
          ⟨n, [], none, rfl, by rw [upd_ne (Ne.symm nza)]; exact ha1, upd_same, sNew sm0 hz, rfl, Nat.zero_le _, n0, Int.le_refl _, by simp⟩ (fun i σ H' _ h => by obtain ⟨_, _, _, _, _, h, _⟩ := h; exact SqL.of h) ?_ ?_
        · rintro i x σ H4 hx ⟨r, fs, v5, rfl, h4, h5, sm4, hl, him, r0, rn, ee⟩
          have hi : i < 2 ^ e + 1 := by
            have := (List.getElem?_eq_some_iff.mp hx).1
            rw [List.length_reverse, qs_len] at this
            exact this
          rw [List.getElem?_reverse (by rw [qs_len]; exact hi), qs_len, qs_get (by omega)] at hx
          obtain rfl := Option.some.inj hx
          obtain ⟨j, hj⟩ : ∃ j, 2 ^ e + 1 = i + 1 + j := ⟨2 ^ e + 1 - (i + 1), by omega⟩
          have ej : 2 ^ e + 1 - 1 - i = j := by omega
          have ej2 : 2 ^ e + 1 - i = j + 1 := by omega
          have ej3 : 2 ^ e + 1 - (i + 1) = j := by omega
          rw [ej]
          rw [ej2] at ee
          have qp := qn_pos hpr.one j
          refine ⟨_, rfl, .inl ⟨rfl, _, SqL.of h4⟩, _, rfl, _, rfl, _, _, rfl, rfl, ⟨by omega, Nat.lt_of_lt_of_le ((qn_bd' hpr.bd (by omega)).log (by decide)) (by decide)⟩, a, _, _, rfl, rfl, h4, by rw [List.length_map, sizeLine_eq]; omega, ?_⟩
          refine ⟨_, rfl, .inl ⟨_, rfl, _, rfl, _, _, rfl, rfl, by omega, ?_⟩⟩
          refine ⟨r % qn (per d) j, fs ++ [r / qn (per d) j], _, rfl, ?_, ?_, sm_upd sm4 haH, by simp [hl], by omega, emod_lo _ (by omega), ?_, ?_⟩
          · rw [upd_same, List.map_append]; rfl
          · rw [upd_ne nza]; exact h5
          · have := Int.emod_add_mul_ediv r (qn (per d) j)
            have := Int.mul_nonneg (show 0 ≤ qn (per d) j by omega) (Int.ediv_nonneg r0 (show 0 ≤ qn (per d) j by omega))
            omega
          · rw [ee, ej3]; simp [dg]
        · rintro σ H4 ⟨r, fs, v5, rfl, h4, h5, sm4, hl, him, r0, rn, ee⟩
          rw [List.length_reverse, qs_len] at ee hl
          rw [Nat.sub_self] at ee
          have e9 : fs.reverse = dg (per d) (2 ^ e + 1) n := by rw [ee]; simp [dg]
          have hgt' : n < qn (per d) (2 ^ e + 1) := by
            have := (stp_pos hpr.one (2 ^ e + 1)).2.2
            have e1 : (stp (per d) (2 ^ e + 1)).1 = qn (per d) (2 ^ e) := rfl
            have e2 : (stp (per d) (2 ^ e + 1)).2 = qn (per d) (2 ^ e + 1) := rfl
            rw [e1, e2] at this
            omega
          refine ⟨_, rfl, a, _, rfl, SqL.of h4, fun y hy => ?_⟩
          have e10 : (fs.map V.int).reverse = (dg (per d) (2 ^ e + 1) n).map V.int := by rw [← e9, List.map_reverse]
          rw [e10]
          have hyH : H y = none := sm4.free hy
          refine while_by (fun σ H' => ∃ (m : Nat) (b : Addr), m ≤ 2 ^ e + 1 ∧ σ = [some (.int d), some (.int n), some (.int ((2 ^ e : Nat) : Int)), some (.ref b), some (.int r), v5] ∧ H b = none ∧ H' b = some (.lst ((dg (per d) m n).map V.int)) ∧ n < qn (per d) m ∧ Same H H')
            (fun σ H' => match σ with | [_, _, _, some (.ref b), _, _] => (match H' b with | some (.lst xs) => xs.length | _ => 0) | _ => 0)
            ⟨_, y, Nat.le_refl _, rfl, hyH, upd_same, hgt', sNew sm4 hy⟩ ?_ ?_
          · rintro σ H5 ⟨m, b, hm, rfl, hbH, h6, hnm, sm5⟩
            refine ⟨_, rfl, by show 0 ≤ sizeLine; decide, fun l hl0 => ?_⟩
            have smL := sNew (o := .lst []) (Same.refl H5) hl0
            refine ⟨.list ((dg (per d) m n).map PyData.int), .list [], .lst (SqL.of (smL _ _ h6)) (dp_ints _), .lst (SqL.of upd_same) .nil, shaped_ints _, shaped_ints [], ?_⟩
            rw [show PyData.eqv (.list ((dg (per d) m n).map PyData.int)) (.list []) = decide (dg (per d) m n = []) from eqv_ints _ []]
            refine ⟨_, rfl, ite2 (fun hh => ?_) (fun hh => ?_)⟩
            · have hne : dg (per d) m n ≠ [] := fun z => by
                rw [z] at hh
                exact absurd hh (by decide)
              obtain ⟨j, rfl⟩ : ∃ j, m = j + 1 := by
                cases m with
                | zero => exact absurd rfl hne
                | succ j => exact ⟨j, rfl⟩
              have qp := qn_pos hpr.one j
              have eL : (dg (per d) (j + 1) n).getLastD 0 = n / qn (per d) j := by
                show (dg (per d) j (n % qn (per d) j) ++ [n / qn (per d) j]).getLastD 0 = _
                rw [List.getLastD_concat]
              refine ⟨_, rfl, _, rfl, b, _, _, _, rfl, rfl, SqL.of (smL _ _ h6), lastD_at hne, rfl, ?_⟩
              rw [eL]
              refine ⟨_, rfl, ite2 (fun h2 => ?_) (fun h2 => ?_)⟩
              · have e0 : n / qn (per d) j = 0 := V.int.inj (of_decide_eq_true h2)
                refine ⟨_, rfl, _, rfl, _, rfl, b, _, rfl, SqL.of (smL _ _ h6), fun y2 hy2 => ?_⟩
                rw [cut_off]
                have eT := dg_off_take (p := per d) (m := j) (by omega) n0 e0
                have e11 : ((dg (per d) (j + 1) n).take ((dg (per d) (j + 1) n).length - 1)) = dg (per d) j n := by rw [dg_len5, Nat.add_sub_cancel, eT]
                rw [e11]
                have s5 := (sm5.trans smL)
                refine ⟨⟨j, y2, by omega, rfl, s5.free hy2, upd_same, (dg_off (by omega) n0 e0).1, sNew s5 hy2⟩, ?_⟩
                show (match upd _ y2 (.lst ((dg (per d) j n).map V.int)) y2 with | some (.lst xs) => xs.length | _ => 0) < (match H5 b with | some (.lst xs) => xs.length | _ => 0)
                rw [upd_same, h6]
                show ((dg (per d) j n).map V.int).length < ((dg (per d) (j + 1) n).map V.int).length
                rw [List.length_map, List.length_map, dg_len5, dg_len5]
                omega
              · have e0 : n / qn (per d) j ≠ 0 := fun z => h2 (by rw [z]; exact decide_eq_true rfl)
                refine ⟨_, rfl, q (j + 1) b _ (by omega) hnm (fun i hi => ?_) hbH (smL _ _ h6) (sm5.trans smL)⟩
                obtain rfl : j = i := by omega
                exact dg_on (by omega) n0 e0
            · have he0 : dg (per d) m n = [] := by
                by_cases z : dg (per d) m n = []
                · exact z
                · exact absurd (by rw [decide_eq_false z]; rfl) hh
              have hm0 : m = 0 := by
                have := dg_len5 (per d) m n
                rw [he0] at this
                exact this.symm
              exact ⟨_, rfl, q m b _ (by omega) hnm (fun i hi => by omega) hbH (smL _ _ h6) (sm5.trans smL)⟩
          · rintro σ H5 Q1 Q2 hq ⟨v, x1, sz, hL⟩
            refine ⟨v, x1, sz, fun l hl0 => ?_⟩
            obtain ⟨dd, de, g1, g2, g3, g4, c, hc, h⟩ := hL l hl0
            refine ⟨dd, de, g1, g2, g3, g4, c, hc, ?_⟩
            cases c with
            | false => exact hq _ _ h
            | true =>
              obtain ⟨z1, y1, z2, y2, z3, z4, z5, z6, y3, y4, y5, y6, y7, z7, y8, h⟩ := h
              exact ⟨z1, y1, z2, y2, z3, z4, z5, z6, y3, y4, y5, y6, y7, z7, y8, hq _ _ h⟩
    · rintro σ H1 Q1 Q2 hq ⟨v1, x1, v2, x2, dd, m, x3, y1, y2, f⟩
      refine ⟨v1, x1, v2, x2, dd, m, x3, y1, y2, fun a' H' t1 t2 t3 => ?_⟩
      obtain ⟨z1, y1, z2, y2, z3, z4, y3, y4, y5, y6, z5, y7, z6, z7, y8, y9, z8, y10, q'⟩ := f a' H' t1 t2 t3
      exact ⟨z1, y1, z2, y2, z3, z4, y3, y4, y5, y6, z5, y7, z6, z7, y8, y9, z8, y10, hq _ _ q'⟩
end
end RF

namespace RF
open PySem L2
section
variable {P : Program} {w : World} {K : PySem.W.Frag} {mg : Str → Option Value} {base : Heap}
abbrev s_law_of : Stmt := top 43
abbrev n_law_of : List Str := ["_law_bag_here", "_law_some"]
theorem sc_law_of : FnScope n_law_of ["_law_bag_here", "_law_some"] (defScope s_law_of) := ⟨rfl, rfl, rfl, by decide +kernel, rfl, by decide +kernel, by decide +kernel⟩
theorem ok_of {f : Addr} {fd : FuncData} {k : Nat} (F : Fun K "_law_of" "_law_of" s_law_of f fd) (T : TB mg) (D1 : Df P w K mg base k "_law_pull" ["_law_bag_here", "_law_sides"] spPull) : FnOk P w K mg base CX0 (k + 1) f fd ["_law_bag_here", "_law_some"] (spOf K) := by
  refine F.ok sc_law_of (fun vs H Q E h => ?_) (fun cdv A outer s H vs Q E hr h => ?_)
  · obtain ⟨b, a, xs, rfl, _⟩ := h
    rfl
  · obtain ⟨b, a, xs, rfl, B, hS, nab, h0, h1, k⟩ := h
    refine ⟨_, (pss_one (ps_ret (pe_ix ix_list (pv 1) (pe_callD D1 hr (Nat.le_refl _) (pa_cons (pv 0) (pa_cons (pe_callB call_len_seq (by rfl) T.len PySem.boot_len (pa_cons (pv 1) pa_nil)) pa_nil))) (fun _ _ => rfl)))), ?_⟩
    refine ⟨_, rfl, _, rfl, _, rfl, a, _, rfl, .inl hS, b, _, rfl, B, by omega, by omega, fun d H' d0 d1 B' kp => ?_⟩
    obtain ⟨j, rfl⟩ : ∃ j : Nat, d = (j : Int) := ⟨d.toNat, by omega⟩
    have hj : j < xs.length := by omega
    exact ⟨a, xs, _, _, rfl, rfl, kp.seq nab hS, atI_nat (List.getElem?_eq_getElem hj), k _ _ (List.getElem_mem hj) B' kp⟩
abbrev s_law_root : Stmt := top 49
abbrev n_law_root : List Str := ["_law_bag_here"]
theorem sc_law_root : FnScope n_law_root ["_law_bag_here"] (defScope s_law_root) := ⟨rfl, rfl, rfl, by decide +kernel, rfl, by decide +kernel, by decide +kernel⟩
theorem ok_root {f : Addr} {fd : FuncData} {k : Nat} (F : Fun K "_law_root" "_law_root" s_law_root f fd) (D1 : Df P w K mg base k "_law_of" ["_law_bag_here", "_law_some"] (spOf K)) : FnOk P w K mg base CX0 (k + 1) f fd ["_law_bag_here"] spRoot := by
  refine F.ok sc_law_root (fun vs H Q E h => ?_) (fun cdv A outer s H vs Q E hr h => ?_)
  · obtain ⟨b, rfl, _⟩ := h
    rfl
  · obtain ⟨b, rfl, B, k⟩ := h
    refine ⟨_, (pss_one (ps_ret (pe_callD D1 hr (Nat.le_refl _) (pa_cons (pv 0) (pa_cons (pe_lst (pa_cons pe_int (pa_cons pe_int (pa_cons pe_int (pa_cons pe_int (pa_cons pe_int pa_nil)))))) pa_nil))))), ?_⟩
    refine ⟨_, rfl, by show 5 ≤ sizeLine; decide, fun p hp => ?_⟩
    obtain ⟨xs, hb⟩ := B.some
    refine ⟨b, p, _, rfl, B.same (sNew (Same.refl _) hp), SqL.of upd_same, (ne_of_none hb hp).symm, by decide, by decide, fun v H' hv B' kp => ?_⟩
    have kp' : Kp b H H' := (Kp.of (sNew (Same.refl _) hp)).trans kp
    rcases List.mem_cons.mp hv with rfl | hv
    · exact k _ _ (by decide) B' kp'
    rcases List.mem_cons.mp hv with rfl | hv
    · exact k _ _ (by decide) B' kp'
    rcases List.mem_cons.mp hv with rfl | hv
    · exact k _ _ (by decide) B' kp'
    rcases List.mem_cons.mp hv with rfl | hv
    · exact k _ _ (by decide) B' kp'
    rcases List.mem_cons.mp hv with rfl | hv
    · exact k _ _ (by decide) B' kp'
    cases hv
abbrev s_law_far : Stmt := top 45
abbrev n_law_far : List Str := ["_law_bag_here", "_law_figures", "_law_many", "_law_found", "_law_k"]
theorem sc_law_far : FnScope n_law_far ["_law_bag_here", "_law_figures"] (defScope s_law_far) := ⟨rfl, rfl, rfl, by decide +kernel, rfl, by decide +kernel, by decide +kernel⟩
theorem ok_far {f : Addr} {fd : FuncData} {k : Nat} (F : Fun K "_law_far" "_law_far" s_law_far f fd) (T : mg "range" = none) (D1 : Df P w K mg base k "_law_pull" ["_law_bag_here", "_law_sides"] spPull) : FnOk P w K mg base CX0 (k + 1) f fd ["_law_bag_here", "_law_figures"] spFar := by
  refine F.ok sc_law_far (fun vs H Q E h => ?_) (fun cdv A outer s H vs Q E hr h => ?_)
  · obtain ⟨b, m, rfl, _⟩ := h
    rfl
  · obtain ⟨b, m, rfl, B, m0, m1, k⟩ := h
    have nd := sc_law_far.nd
    refine ⟨_, (pss_cons (ps_set (i := 2) nd rfl (Or.inl rfl) (pe_op op_add pe_int (pe_callD D1 hr (Nat.le_refl _) (pa_cons (pv 0) (pa_cons (pv 1) pa_nil)))))
      (pss_cons (ps_set (i := 3) nd rfl (Or.inl rfl) pe_int)
      (pss_cons (ps_for PassesOwn.never rfl (pi_range1 rfl T (pa_cons (pv 2) pa_nil)) (pg_name (i := 4) nd rfl (Or.inl rfl))
      (pss_one (ps_set (i := 3) nd rfl (Or.inl rfl) (pe_op op_add (pe_op op_mul (pv 3) pe_int) (pe_callD D1 hr (Nat.le_refl _) (pa_cons (pv 0) (pa_cons pe_int pa_nil)))))))
      (pss_one (ps_ret (pv 3)))))), ?_⟩
    refine ⟨_, rfl, _, rfl, b, _, rfl, B, m0, by omega, fun d H1 d0 d1 B1 kp1 => ⟨_, _, rfl, rfl, ?_⟩⟩
    refine ⟨_, rfl, _, rfl, by omega, by omega, for_range (n := (1 + d).toNat) (fun i σ H' => ∃ (n : Int) (v : Option V), σ = [some (.ref b), some (.int m), some (.int (1 + d)), some (.int n), v] ∧ 0 ≤ n ∧ n < 10 ^ i ∧ Bag H' b ∧ Kp b H H')
      ⟨0, none, rfl, by decide, by decide, B1, kp1⟩ ?_ ?_⟩
    · rintro i σ H2 hi ⟨n, v, rfl, n0, n1, B2, kp2⟩
      refine ⟨_, rfl, _, _, rfl, rfl, .inr (by decide), _, rfl, b, _, rfl, B2, by decide, by decide, fun e H3 e0 e1 B3 kp3 => ⟨_, _, rfl, rfl, ?_⟩⟩
      refine ⟨_, _, rfl, by omega, ?_, B3, kp2.trans kp3⟩
      rw [Int.pow_succ]
      omega
    · rintro σ H2 ⟨n, v, rfl, n0, n1, B2, kp2⟩
      refine ⟨_, rfl, k _ _ n0 (Int.lt_of_lt_of_le n1 ?_) B2 kp2⟩
      exact_mod_cast Nat.pow_le_pow_right (by decide : 0 < 10) (by omega : (1 + d).toNat ≤ m.toNat)
end
end RF

namespace RF
open PySem L2
section
variable {P : Program} {w : World} {K : PySem.W.Frag} {mg : Str → Option Value} {base : Heap}
theorem ok_pullC {f : Addr} {fd : FuncData} (F : Fun K "_law_pull" "_law_pull" sPull f fd) (T : TB mg) : FnOk P w K mg base CX0 1 f fd ["_law_bag_here", "_law_sides"] spPullC := by
  refine F.ok scPull (fun vs H Q E h => ?_) (fun cdv A outer s H vs Q E hr h => ?_)
  · obtain ⟨b, c, k, rfl, _⟩ := h
    rfl
  · obtain ⟨b, c, m, rfl, ⟨ns, i, z, r, B⟩, m0, m1, k⟩ := h
    have nd := scPull.nd
    -- the second half, from any bag
    refine ⟨_, C8.pss_cut (ps_if (pw_and (pt_cmpR op_eq (pe_ix ix_list (pv 0) pe_int (fun _ _ => rfl)) pe_int (nomark _)) (pw_and1 (pt_cmpR op_lt (pe_ix ix_list (pv 0) pe_int (fun _ _ => rfl)) (pe_callB call_len_seq (by rfl) T.len PySem.boot_len (pa_cons (pe_ix ix_list (pv 0) pe_int (fun _ _ => rfl)) pa_nil)) (nomark _)))).pt
        (pss_cons (ps_set (i := 2) nd rfl (Or.inl rfl) (pe_ix ix_list (pe_ix ix_list (pv 0) pe_int (fun _ _ => rfl)) (pe_ix ix_list (pv 0) pe_int (fun _ _ => rfl)) (fun _ _ => rfl)))
        (pss_cons (ps_asg (pe_op op_add (pe_ix ix_list (pv 0) pe_int (fun _ _ => rfl)) pe_int) (pg_sub (pv 0) pe_int set_list))
        (pss_one (ps_if (pt_cmpR op_ge (pe_callB call_abs (by rfl) T.abs (by decide +kernel) (pa_cons (pv 2) pa_nil)) (pe_op op_pow pe_int pe_int) (nomark _))
          (pss_one (ps_asg (pe_callB call_abs (by rfl) T.abs (by decide +kernel) (pa_cons (pv 2) pa_nil)) (pg_sub (pv 0) pe_int set_list)))
          (pss_one (ps_asg (pe_op op_mod (pe_callTy call_int1 (by rfl) T.int (by decide +kernel) (pa_cons (pe_op op_add (pe_op op_add (pe_op op_mul (pe_ix ix_list (pv 0) pe_int (fun _ _ => rfl)) pe_int) (pe_op op_mul (pe_op op_mod (pe_callTy call_int1 (by rfl) T.int (by decide +kernel) (pa_cons (pv 2) pa_nil)) pe_int) pe_int)) pe_int) pa_nil)) pe_int) (pg_sub (pv 0) pe_int set_list)))))))
        pss_nil)
      (C8.pss_cut (ps_if (pt_cmpR op_gt (pe_ix ix_list (pv 0) pe_int (fun _ _ => rfl)) pe_int (nomark _))
        (pss_cons (ps_set (i := 3) nd rfl (Or.inl rfl) (pe_op op_mod (pe_callTy call_int1 (by rfl) T.int (by decide +kernel) (pa_cons (pe_ix ix_list (pv 0) pe_int (fun _ _ => rfl)) pa_nil)) (pv 1)))
        (pss_cons (ps_asg (pe_op op_fdiv (pe_ix ix_list (pv 0) pe_int (fun _ _ => rfl)) (pv 1)) (pg_sub (pv 0) pe_int set_list))
        (pss_one (ps_ret (pv 3)))))
        pss_nil)
      (pss_cons (ps_set (i := 4) nd rfl (Or.inl rfl) (pe_op op_mod (pe_callTy call_int1 (by rfl) T.int (by decide +kernel) (pa_cons (pe_op op_mul (pe_ix ix_list (pv 0) pe_int (fun _ _ => rfl)) (pe_ix ix_list (pv 0) pe_int (fun _ _ => rfl))) pa_nil)) pe_int))
      (pss_cons (ps_asg (pe_op op_mod (pe_callTy call_int1 (by rfl) T.int (by decide +kernel) (pa_cons (pe_op op_add (pe_op op_add (pe_op op_mul (pv 4) pe_int) (pe_op op_mul (pe_ix ix_list (pv 0) pe_int (fun _ _ => rfl)) pe_int)) pe_int) pa_nil)) pe_int) (pg_sub (pv 0) pe_int set_list))
      (pss_one (ps_ret (pe_op op_mod (pe_callTy call_int1 (by rfl) T.int (by decide +kernel) (pa_cons (pe_op op_fdiv (pe_ix ix_list (pv 0) pe_int (fun _ _ => rfl)) pe_int) pa_nil)) (pv 1))))))), ?_⟩
    have hc : ∀ {H' : Hp} {i : Nat} {z r : Int}, BagC H' b c ns i z r → H' c = some (.lst (ns.map V.int)) := fun B => B.cs
    -- what follows the first if, from any bag
    refine ⟨fun σ' H' => ∃ v i z r, σ' = [some (.ref b), some (.int m), v, none, none] ∧ BagC H' b c ns i z r ∧ Kp b H H', ?_, ?_⟩
    · refine ⟨_, rfl, b, _, _, _, rfl, rfl, SqL.of B.at_, rfl, rfl, _, rfl, ?_⟩
      refine ite2 (fun ez => ?_) (fun _ => ?_)
      · refine ⟨_, rfl, b, _, _, _, rfl, rfl, SqL.of B.at_, rfl, _, rfl, b, _, _, _, rfl, rfl, SqL.of B.at_, rfl, c, _, rfl, .inl (SqL.of B.cs), _, _, rfl, rfl, _, rfl, ?_⟩
        refine ite2 (fun hl => ?_) (fun _ => ⟨_, _, _, _, rfl, B, Kp.refl _ _⟩)
        have hl' : i < ns.length := by
          have := of_decide_eq_true hl
          rw [List.length_map] at this
          omega
        obtain ⟨n, hn⟩ : ∃ n, ns[i]? = some n := ⟨_, List.getElem?_eq_getElem hl'⟩
        have hat : atI (ns.map V.int) (i : Int) = some (V.int n) := atI_nat (by rw [List.getElem?_map, hn]; rfl)
        refine ⟨_, rfl, b, _, _, _, rfl, rfl, SqL.of B.at_, rfl, _, rfl, b, _, _, _, rfl, rfl, SqL.of B.at_, rfl, c, _, _, _, rfl, rfl, SqL.of B.cs, hat, ?_⟩
        refine ⟨_, rfl, b, _, _, _, rfl, rfl, SqL.of B.at_, rfl, _, _, rfl, rfl, _, rfl, b, _, _, _, rfl, rfl, B.at_, rfl, ?_⟩
        have B1 := B.put (i' := i + 1) (z' := z) (r' := r) (o := .lst [.ref c, .int ((i : Int) + 1), .int z, .int r]) (by rw [Int.natCast_add]; rfl) hl' B.z0 B.r0 B.r1
        have k1 : Kp b H (upd H b (.lst [.ref c, .int ((i : Int) + 1), .int z, .int r])) := Kp.upd
        refine ⟨_, rfl, _, rfl, _, _, rfl, rfl, ⟨by decide, by decide, by decide⟩, _, _, rfl, rfl, _, rfl, ?_⟩
        refine ite2 (fun _ => ?_) (fun _ => ?_)
        · refine ⟨_, rfl, _, rfl, _, rfl, b, _, _, _, rfl, rfl, upd_same, rfl, ?_⟩
          exact ⟨_, _, _, _, rfl, B1.put rfl B1.le (by split <;> omega) B1.r0 B1.r1, k1.trans Kp.upd⟩
        · refine ⟨_, rfl, b, _, _, _, rfl, rfl, SqL.of B1.at_, rfl, _, _, rfl, rfl, .inr (by decide), _, rfl, .inl ⟨_, rfl, _, _, rfl, rfl, (by show (0 : Int) < 1000003; decide), _, _, rfl, rfl, .inr (by decide), _, _, rfl, rfl, _, _, rfl, rfl, .inl ⟨_, rfl, _, _, rfl, rfl, (by show (0 : Int) < 2147483647; decide), _, rfl, b, _, _, _, rfl, rfl, upd_same, rfl, ?_⟩⟩⟩
          exact ⟨_, _, _, _, rfl, B1.put rfl B1.le B1.z0 (emod_lo _ (by decide)) (emod_hi _ (by decide)), k1.trans Kp.upd⟩
      · exact ⟨_, _, _, _, rfl, B, Kp.refl _ _⟩
    · rintro σ' H1 ⟨v, i, z, r, rfl, B, kp⟩
      -- if bag[2] > 0
      refine ⟨fun σ' H' => σ' = [some (.ref b), some (.int m), v, none, none] ∧ H' = H1, ?_, ?_⟩
      · refine ⟨_, rfl, b, _, _, _, rfl, rfl, SqL.of B.at_, rfl, _, _, rfl, rfl, _, rfl, ?_⟩
        refine ite2 (fun hz => ?_) (fun _ => ⟨rfl, rfl⟩)
        refine ⟨_, rfl, b, _, _, _, rfl, rfl, SqL.of B.at_, rfl, .inl ⟨_, rfl, _, rfl, _, _, rfl, rfl, m0, ?_⟩⟩
        refine ⟨_, rfl, b, _, _, _, rfl, rfl, SqL.of B.at_, rfl, _, rfl, _, _, rfl, rfl, ⟨m0, m1⟩, _, rfl, b, _, _, _, rfl, rfl, B.at_, rfl, ?_⟩
        refine ⟨_, rfl, ?_⟩
        exact k _ _ (emod_lo _ m0) (emod_hi _ m0) ⟨ns, _, _, _, B.put rfl B.le (Int.ediv_nonneg B.z0 (Int.le_of_lt m0)) B.r0 B.r1⟩ (kp.trans Kp.upd)
      · rintro σ' H2 ⟨rfl, rfl⟩
        refine ⟨_, rfl, b, _, _, _, rfl, rfl, SqL.of B.at_, rfl, _, rfl, b, _, _, _, rfl, rfl, SqL.of B.at_, rfl, _, _, rfl, rfl, .inl ⟨by have := B.r0; omega, by have := B.r1; omega⟩, .inl ⟨_, rfl, _, _, rfl, rfl, (by show (0 : Int) < 2147483629; decide), ?_⟩⟩
        refine ⟨_, rfl, _, _, rfl, rfl, .inr (by decide), _, rfl, b, _, _, _, rfl, rfl, SqL.of B.at_, rfl, _, _, rfl, rfl, .inr (by decide), _, _, rfl, rfl, _, _, rfl, rfl, .inl ⟨_, rfl, _, _, rfl, rfl, (by show (0 : Int) < 2147483647; decide), _, rfl, b, _, _, _, rfl, rfl, B.at_, rfl, ?_⟩⟩
        refine ⟨_, rfl, b, _, _, _, rfl, rfl, SqL.of upd_same, rfl, _, _, rfl, rfl, ⟨by decide, by decide⟩, .inl ⟨_, rfl, _, rfl, _, _, rfl, rfl, m0, ?_⟩⟩
        exact k _ _ (emod_lo _ m0) (emod_hi _ m0) ⟨ns, _, _, _, B.put rfl B.le B.z0 (emod_lo _ (by decide)) (emod_hi _ (by decide))⟩ (kp.trans Kp.upd)
end
end RF

namespace RF
open PySem L2
section
variable {P : Program} {w : World} {K : PySem.W.Frag} {mg : Str → Option Value} {base : Heap}
theorem ok_ofC {f : Addr} {fd : FuncData} {k : Nat} (F : Fun K "_law_of" "_law_of" s_law_of f fd) (T : TB mg) (D1 : Df P w K mg base k "_law_pull" ["_law_bag_here", "_law_sides"] spPullC) : FnOk P w K mg base CX0 (k + 1) f fd ["_law_bag_here", "_law_some"] (spOfC K) := by
  refine F.ok sc_law_of (fun vs H Q E h => ?_) (fun cdv A outer s H vs Q E hr h => ?_)
  · obtain ⟨b, c, a, xs, rfl, _⟩ := h
    rfl
  · obtain ⟨b, c, a, xs, rfl, B, hS, nab, h0, h1, k⟩ := h
    refine ⟨_, (pss_one (ps_ret (pe_ix ix_list (pv 1) (pe_callD D1 hr (Nat.le_refl _) (pa_cons (pv 0) (pa_cons (pe_callB call_len_seq (by rfl) T.len PySem.boot_len (pa_cons (pv 1) pa_nil)) pa_nil))) (fun _ _ => rfl)))), ?_⟩
    refine ⟨_, rfl, _, rfl, _, rfl, a, _, rfl, .inl hS, b, c, _, rfl, B, by omega, by omega, fun d H' d0 d1 B' kp => ?_⟩
    obtain ⟨j, rfl⟩ : ∃ j : Nat, d = (j : Int) := ⟨d.toNat, by omega⟩
    have hj : j < xs.length := by omega
    exact ⟨a, xs, _, _, rfl, rfl, kp.seq nab hS, atI_nat (List.getElem?_eq_getElem hj), k _ _ (List.getElem_mem hj) B' kp⟩
theorem ok_rootC {f : Addr} {fd : FuncData} {k : Nat} (F : Fun K "_law_root" "_law_root" s_law_root f fd) (D1 : Df P w K mg base k "_law_of" ["_law_bag_here", "_law_some"] (spOfC K)) : FnOk P w K mg base CX0 (k + 1) f fd ["_law_bag_here"] spRootC := by
  refine F.ok sc_law_root (fun vs H Q E h => ?_) (fun cdv A outer s H vs Q E hr h => ?_)
  · obtain ⟨b, c, rfl, _⟩ := h
    rfl
  · obtain ⟨b, c, rfl, B, k⟩ := h
    refine ⟨_, (pss_one (ps_ret (pe_callD D1 hr (Nat.le_refl _) (pa_cons (pv 0) (pa_cons (pe_lst (pa_cons pe_int (pa_cons pe_int (pa_cons pe_int (pa_cons pe_int (pa_cons pe_int pa_nil)))))) pa_nil))))), ?_⟩
    refine ⟨_, rfl, by show 5 ≤ sizeLine; decide, fun p hp => ?_⟩
    obtain ⟨xs, hb⟩ := B.atB
    refine ⟨b, c, p, _, rfl, B.same (sNew (Same.refl _) hp), SqL.of upd_same, (ne_of_none hb hp).symm, by decide, by decide, fun v H' hv B' kp => ?_⟩
    have kp' : Kp b H H' := (Kp.of (sNew (Same.refl _) hp)).trans kp
    rcases List.mem_cons.mp hv with rfl | hv
    · exact k _ _ (by decide) B' kp'
    rcases List.mem_cons.mp hv with rfl | hv
    · exact k _ _ (by decide) B' kp'
    rcases List.mem_cons.mp hv with rfl | hv
    · exact k _ _ (by decide) B' kp'
    rcases List.mem_cons.mp hv with rfl | hv
    · exact k _ _ (by decide) B' kp'
    rcases List.mem_cons.mp hv with rfl | hv
    · exact k _ _ (by decide) B' kp'
    cases hv
theorem ok_farC {f : Addr} {fd : FuncData} {k : Nat} (F : Fun K "_law_far" "_law_far" s_law_far f fd) (T : mg "range" = none) (D1 : Df P w K mg base k "_law_pull" ["_law_bag_here", "_law_sides"] spPullC) : FnOk P w K mg base CX0 (k + 1) f fd ["_law_bag_here", "_law_figures"] spFarC := by
  refine F.ok sc_law_far (fun vs H Q E h => ?_) (fun cdv A outer s H vs Q E hr h => ?_)
  · obtain ⟨b, c, m, rfl, _⟩ := h
    rfl
  · obtain ⟨b, c, m, rfl, B, m0, m1, k⟩ := h
    have nd := sc_law_far.nd
    refine ⟨_, (pss_cons (ps_set (i := 2) nd rfl (Or.inl rfl) (pe_op op_add pe_int (pe_callD D1 hr (Nat.le_refl _) (pa_cons (pv 0) (pa_cons (pv 1) pa_nil)))))
      (pss_cons (ps_set (i := 3) nd rfl (Or.inl rfl) pe_int)
      (pss_cons (ps_for PassesOwn.never rfl (pi_range1 rfl T (pa_cons (pv 2) pa_nil)) (pg_name (i := 4) nd rfl (Or.inl rfl))
      (pss_one (ps_set (i := 3) nd rfl (Or.inl rfl) (pe_op op_add (pe_op op_mul (pv 3) pe_int) (pe_callD D1 hr (Nat.le_refl _) (pa_cons (pv 0) (pa_cons pe_int pa_nil)))))))
      (pss_one (ps_ret (pv 3)))))), ?_⟩
    refine ⟨_, rfl, _, rfl, b, c, _, rfl, B, m0, by omega, fun d H1 d0 d1 B1 kp1 => ⟨_, _, rfl, rfl, ?_⟩⟩
    refine ⟨_, rfl, _, rfl, by omega, by omega, for_range (n := (1 + d).toNat) (fun i σ H' => ∃ (n : Int) (v : Option V), σ = [some (.ref b), some (.int m), some (.int (1 + d)), some (.int n), v] ∧ 0 ≤ n ∧ n < 10 ^ i ∧ BagAt H' b c ∧ Kp b H H')
      ⟨0, none, rfl, by decide, by decide, B1, kp1⟩ ?_ ?_⟩
    · rintro i σ H2 hi ⟨n, v, rfl, n0, n1, B2, kp2⟩
      refine ⟨_, rfl, _, _, rfl, rfl, .inr (by decide), _, rfl, b, c, _, rfl, B2, by decide, by decide, fun e H3 e0 e1 B3 kp3 => ⟨_, _, rfl, rfl, ?_⟩⟩
      refine ⟨_, _, rfl, by omega, ?_, B3, kp2.trans kp3⟩
      rw [Int.pow_succ]
      omega
    · rintro σ H2 ⟨n, v, rfl, n0, n1, B2, kp2⟩
      refine ⟨_, rfl, k _ _ n0 (Int.lt_of_lt_of_le n1 ?_) B2 kp2⟩
      exact_mod_cast Nat.pow_le_pow_right (by decide : 0 < 10) (by omega : (1 + d).toNat ≤ m.toNat)
end
end RF

namespace RF
open PySem L2 PyProof.Rows
def spFactors : Sp := fun vs H Q _ => ∃ (b c : Addr) (m : Nat), vs = [.ref b, .int (m : Int)] ∧ BagAt H b c ∧ m ≤ 100 ∧ ∀ a fs H', H a = none → H' a = some (.lst (fs.map V.int)) → Fac fs → fs.length = m → BagAt H' b c → a ≠ b → a ≠ c → Kp b H H' → Q (.ref a) H'
section
variable {P : Program} {w : World} {K : PySem.W.Frag} {mg : Str → Option Value} {base : Heap}
abbrev s_law_factors : Stmt := top 51
abbrev n_law_factors : List Str := ["_law_bag_here", "_law_many", "_law_k"]
theorem sc_law_factors : FnScope n_law_factors ["_law_bag_here", "_law_many"] (defScope s_law_factors) := ⟨rfl, rfl, rfl, by decide +kernel, rfl, by decide +kernel, by decide +kernel⟩
theorem ok_lfac {f : Addr} {fd : FuncData} {k : Nat} (F : Fun K "_law_factors" "_law_factors" s_law_factors f fd) (T : mg "range" = none) (D1 : Df P w K mg base k "_law_of" ["_law_bag_here", "_law_some"] (spOfC K)) :
    FnOk P w K mg base CX0 (k + 1) f fd ["_law_bag_here", "_law_many"] spFactors := by
  refine F.ok sc_law_factors (fun vs H Q E h => ?_) (fun cdv A outer s H vs Q E hr h => ?_)
  · obtain ⟨b, c, m, rfl, _⟩ := h
    rfl
  · obtain ⟨b, c, m, rfl, B, hm, q⟩ := h
    have nd := sc_law_factors.nd
    refine ⟨_, (pss_one (ps_ret (pe_lc (own := [("_law_k", 2)]) (g := gName 2) (tt := tYes) (by rfl) nd (pi_range1 rfl T (pa_cons (pv 1) pa_nil)) (blkOk_by (own := [("_law_k", 2)]) (N := n_law_factors) (sc := defScope s_law_factors) (by decide +kernel)) (fun _ _ _ _ _ => (pg_name (i := 2) nd rfl (Or.inl rfl))) (fun _ _ _ _ _ => pts_nil) (fun _ _ _ _ _ => (pe_callD D1 hr (Nat.le_refl _) (pa_cons (pv 0) (pa_cons (pe_lst (pa_cons pe_int (pa_cons (pe_un un_neg pe_int) (pa_cons pe_int (pa_cons (pe_un un_neg pe_int) (pa_cons pe_int (pa_cons pe_int (pa_cons (pe_un un_neg pe_int) (pa_cons pe_int (pa_cons pe_int pa_nil)))))))))) pa_nil))))))), ?_⟩
    refine ⟨_, rfl, _, rfl, by omega, by omega, fun D nD => ?_⟩
    refine lc_range (n := m) (fun i H' => ∃ fs : List Int, H' D = some (.lst (fs.map V.int)) ∧ fs.length = i ∧ (∀ f ∈ fs, -5 ≤ f ∧ f ≤ 5) ∧ BagAt H' b c ∧ Kp b H H') ⟨[], upd_same, rfl, (fun f hf => by cases hf), B.put (B.off nD), (Kp.refl b H).up nD⟩ ?_ ?_
    · rintro i H1 hi ⟨fs, h1, hlen, hfs, B1, kp1⟩
      refine ⟨rfl, yes_if ?_⟩
      refine ⟨_, rfl, _, rfl, _, rfl, _, rfl, by show 9 ≤ sizeLine; decide, fun p hp => ?_⟩
      obtain ⟨xs, hb⟩ := B1.atB
      refine ⟨b, c, p, _, rfl, B1.same (sNew (Same.refl _) hp), SqL.of upd_same, (ne_of_none hb hp).symm, by show 0 < 9; decide, by show 9 < 1000000; decide, fun v H2 hv B2 kp2 => ?_⟩
      obtain ⟨f, rfl, hf⟩ : ∃ f : Int, v = .int f ∧ -5 ≤ f ∧ f ≤ 5 := by
        simp only [List.mem_cons, List.not_mem_nil, or_false] at hv
        rcases hv with rfl | rfl | rfl | rfl | rfl | rfl | rfl | rfl | rfl <;> exact ⟨_, rfl, by decide, by decide⟩
      have hD := B.off nD
      have h2 : H2 D = some (.lst (fs.map V.int)) := kp2 _ _ hD.1 (sNew (Same.refl _) hp _ _ h1)
      refine ⟨_, h2, by rw [List.length_map, sizeLine_eq]; omega, fs ++ [f], by rw [upd_same, List.map_append]; rfl, by rw [List.length_append, hlen]; rfl, fun g hg => ?_, B2.put hD, (kp1.trans ((Kp.of (sNew (Same.refl _) hp)).trans kp2)).up nD⟩
      rcases List.mem_append.mp hg with hg | hg
      · exact hfs g hg
      · rw [List.mem_singleton.mp hg]; exact hf
    · rintro H1 ⟨fs, h1, hlen, hfs, B1, kp1⟩
      have hD := B.off nD
      exact q D fs H1 nD h1 ⟨by omega, hfs⟩ hlen B1 hD.1 hD.2 kp1
end
end RF

set_option linter.all false
/-! tuple * k, k from 1 on; a comprehension in a comprehension -/
namespace RF
open PySem PySem.Spec PyProof.Rows L2
theorem tuple_mul_one (l : Addr) (items : Array Value) (n : Nat) (dd : Option Addr) (sl : Array (Option Value)) (u : Tok) :
    Meets (Builtin.«tuple.__mul__» ⟨[.ref l, .int 1 u], []⟩) (fun _ R s => s.heap.get? l = some { cls := .type "tuple", dict := dd, data := .seq items n, slots := sl } ∧ R (.ok (.ret (Value.ref l))) s) :=
  .of_wp fun prog w A R s h => by
    obtain ⟨hp, g, d, tk, os⟩ := s
    obtain ⟨hl, h⟩ := h
    have f1 := AutoSeq1.idx_int
    have c1 : (items.isEmpty || (1 : Int) == 1) = true := by simp
    wp_walk using wpAny_loadPart' hl
    exact ⟨_, rfl, h⟩
section
variable {X : Cx}
/-- tuple * k of a tuple that is not empty: by 1 it is itself -/
def rRepA (K : PySem.W.Frag) : R2 := fun x y H Q => ∃ l k xs, x = .ref l ∧ y = .int k ∧ SqT K H l xs ∧ xs ≠ [] ∧ 1 ≤ k ∧ k ≤ 1000 ∧ xs.length ≤ 1000 ∧ (k = 1 → Q (.ref l) H) ∧ (2 ≤ k → ∀ p, H p = none → Q (.ref p) (upd H p (.tup (List.replicate k.toNat xs).flatten)))
theorem op_repA : OpR X (binaryOp .Mult) (rRepA X.K) := by
  intro pins s σ H x y v u Q I rx ry h
  obtain ⟨l, k, xs, rfl, rfl, hT, hne, h1, h2, hz, q1, q2⟩ := h
  by_cases hk : k = 1
  · subst hk
    cases rx
    obtain ⟨t, rfl⟩ := ry
    obtain ⟨its, r, ⟨⟨c, dd, dt, sl⟩, ho, hc, n, hd⟩, hs⟩ := I.tuple hT
    simp only at hc hd
    subst hc hd
    refine wpAny_binaryOp_repeat_ref (T := "tuple") (U := "int") (by decide) ⟨_, ho, rfl⟩ (fun s' => typeIs_int s' 1 t) noFill_tuple_mul F.fills_int_mul F.slot_int_rmul repeat_tuple F.slot_int_index.lookup
      (call_meets F.slot_int_rmul (typeIs_int s 1 t) F.entry_int_rmul (F.args_int_rmul_2 _ _) (int_rmul_tuple 1 t l its.toArray n dd sl) ⟨ho, rfl, ⟨_, ho, rfl⟩, call_meets F.slot_tuple_mul ⟨_, ho, rfl⟩ F.entry_tuple_mul (F.args_tuple_mul_2 _ _) (tuple_mul_one l its.toArray n dd sl t) ⟨ho, ?_⟩⟩)
    exact ⟨.ref l, H, I, rfl, q1 rfl⟩
  · exact op_repT pins s σ H _ _ v u Q I rx ry ⟨l, k, xs, rfl, rfl, hT, hne, by omega, h2, hz, q2 (by omega)⟩
end
/-- a block in a block -/
theorem lookup_re {f : Str → NameKind → Bool} {x : Str} {k0 : NameKind} : ∀ {ns : List (Str × NameKind)}, ns.lookup x = some k0 → (ns.map fun (n, k) => if f n k = true then (n, NameKind.cell) else (n, k)).lookup x = some .cell ∨ (ns.map fun (n, k) => if f n k = true then (n, NameKind.cell) else (n, k)).lookup x = some k0
  | [], h => by simp at h
  | (n, k) :: r, h => by
    by_cases e : x == n
    · rw [List.lookup_cons, e] at h
      obtain rfl : k = k0 := Option.some.inj h
      rw [List.map_cons]
      dsimp only
      by_cases c : f n k = true
      · rw [if_pos c, List.lookup_cons, e]; exact .inl rfl
      · rw [if_neg c, List.lookup_cons, e]; exact .inr rfl
    · have e := Bool.eq_false_iff.mpr e
      rw [List.lookup_cons, e] at h
      have ih := lookup_re (f := f) (ns := r) h
      rw [List.map_cons]
      dsimp only
      by_cases c : f n k = true
      · rw [if_pos c, List.lookup_cons, e]; exact ih
      · rw [if_neg c, List.lookup_cons, e]; exact ih
theorem blkOk_re {N : List Str} {sc scope : Scope} {own : List (Str × Nat)} {env : Env} (h : blkC N sc scope own = true) : BlkOk N (relabel sc env) scope own := by
  obtain ⟨k, u, ix, fr, ow⟩ := blkOk_by h
  refine ⟨k, u, ix, fun y hy e => ?_, ow⟩
  have z : ∀ k0, sc.names.lookup y.1 = some k0 → (relabel sc env).names.lookup y.1 = some .cell ∨ (relabel sc env).names.lookup y.1 = some k0 := fun k0 h0 => lookup_re (f := fun n k => k == NameKind.free && env.scope.kind == .function && env.kindOf n == some .cell) h0
  rcases fr y hy e with h0 | h0
  · exact (z _ h0).elim .inl .inl
  · exact z _ h0
end RF

namespace RF
open PySem L2 PyProof.Rows
abbrev rOfC {X : Cx} {v : Value} {r : List V → Hp → VK → Prop} (_ : CallR X v r) : List V → Hp → VK → Prop := r
def scOf : Expr → Scope
  | .ListComp _ _ sc _ => sc
  | _ => { kind := .function, names := [], isGenerator := false, isCoroutine := false }
def retE : Stmt → Expr
  | .Return (some v) _ => v
  | _ => .Constant .none 0 ⟨0, 0, 0, 0⟩
/-! ### rows of digits, padded, are letters -/
theorem can_row {p : List Int} (h : ∀ i, 1 ≤ ai p i) : ∀ (ds : List Int) (i j : Nat) (lo : Int), Can p i lo ds → 0 ≤ ds.getD j 0 ∧ ds.getD j 0 ≤ ai p (i + j) ∧ (i + j = 0 ∨ (if j = 0 then lo else ds.getD (j - 1) 0) ≠ 0 → ds.getD j 0 ≤ ai p (i + j) - 1)
  | [], i, j, lo, _ => by
    have := h (i + j)
    rw [show (([] : List Int).getD j 0) = 0 from rfl]
    exact ⟨by decide, by omega, fun _ => by omega⟩
  | d :: ds, i, 0, lo, hc => ⟨hc.1.1, hc.1.2.1, hc.1.2.2⟩
  | d :: ds, i, j + 1, lo, hc => by
    have ih := can_row h ds (i + 1) j d hc.2
    rw [show i + 1 + j = i + (j + 1) by omega] at ih
    refine ⟨ih.1, ih.2.1, fun z => ih.2.2 ?_⟩
    rcases z with z | z
    · omega
    · refine .inr ?_
      rw [if_neg (by omega)] at z
      cases j with
      | zero => exact z
      | succ j => exact z
def colL (R : Nat → List Int) (n i : Nat) : List Int := (List.range n).map fun r => (R r).getD i 0
def colB (R : Nat → List Int) (n i : Nat) : List Int := if i = 0 then List.replicate n 0 else colL R n (i - 1)
theorem col_good {p : List Int} {R : Nat → List Int} {n i : Nat} (h : ∀ i, 1 ≤ ai p i) (hR : ∀ r, r < n → Can p 0 0 (R r)) : goodD p n i (colB R n i) (.tup ((colL R n i).map D.int)) = true := by
  have hl : (colL R n i).length = n := by unfold colL; rw [List.length_map, List.length_range]
  have hb : (colB R n i).length = n := by
    unfold colB
    split
    · rw [List.length_replicate]
    · unfold colL; rw [List.length_map, List.length_range]
  show (decide (((colL R n i).map D.int).length = n) && _) = true
  rw [decide_eq_true (by rw [List.length_map]; exact hl), Bool.true_and, List.all_eq_true]
  intro q hq
  obtain ⟨k, hk, e⟩ := List.mem_iff_getElem.mp hq
  rw [List.length_zip, List.length_map] at hk
  have hkn : k < n := by omega
  rw [List.getElem_zip] at e
  rw [← e]
  have e1 : ((colL R n i).map D.int)[k]'(by rw [List.length_map]; omega) = .int ((R k).getD i 0) := by
    rw [List.getElem_map]
    unfold colL
    rw [List.getElem_map, List.getElem_range]
  have e2 : (colB R n i)[k]'(by omega) = if i = 0 then 0 else (R k).getD (i - 1) 0 := by
    by_cases h0 : i = 0
    · subst h0
      simp [colB]
    · simp [colB, colL, h0]
  dsimp only
  rw [e1, e2]
  obtain ⟨c1, c2, c3⟩ := can_row h (R k) 0 i 0 (hR k hkn)
  rw [Nat.zero_add] at c2 c3
  show (decide (0 ≤ (R k).getD i 0) && decide ((R k).getD i 0 ≤ _)) = true
  rw [decide_eq_true c1, Bool.true_and]
  refine decide_eq_true ?_
  by_cases h2 : i = 0 ∨ (if i = 0 then (0 : Int) else (R k).getD (i - 1) 0) ≠ 0
  · rw [if_pos h2]; exact c3 h2
  · rw [if_neg h2]; exact c2
theorem cols_ok {p : List Int} {R : Nat → List Int} {n : Nat} (h : ∀ i, 1 ≤ ai p i) (hR : ∀ r, r < n → Can p 0 0 (R r)) : ∀ (k i : Nat), firstBad p n i (colB R n i) ((List.range' i k).map fun j => D.tup ((colL R n j).map D.int)) = none
  | 0, _ => rfl
  | k + 1, i => by
    rw [List.range'_succ, List.map_cons]
    show (if goodD p n i (colB R n i) (.tup ((colL R n i).map D.int)) = true then firstBad p n (i + 1) (intsD (.tup ((colL R n i).map D.int))) _ else some i) = none
    rw [if_pos (col_good h hR)]
    have e : intsD (.tup ((colL R n i).map D.int)) = colB R n (i + 1) := by
      show ((colL R n i).map D.int).map intD = _
      rw [List.map_map]
      have : (intD ∘ D.int) = id := by funext x; rfl
      rw [this, List.map_id]
      unfold colB
      rw [if_neg (by omega)]
      rfl
    rw [e]
    exact cols_ok h hR k (i + 1)
/-- the letters of numbers: their digits place by place -/
def spLet (K : PySem.W.Frag) : Sp := fun vs H Q _ => ∃ (l : Addr) (d : Int) (ns : List Int), vs = [.int d, .ref l] ∧ Root d ∧ SqL K H l (ns.map V.int) ∧ ns.length ≤ 10 ∧ (∀ n ∈ ns, 0 ≤ n ∧ n < 10 ^ 32) ∧
  ∀ a H' (m : Nat) (g : Nat → Addr) (R : Nat → List Int), H a = none → H' a = some (.lst ((List.range m).map fun j => V.ref (g j))) → m ≤ 154 → qn (per d) m ≤ 5 * 10 ^ 32 → (∀ j, j < m → H' (g j) = some (.tup ((colL R ns.length j).map V.int))) →
    (∀ r, r < ns.length → (R r).length ≤ m ∧ Can (per d) 0 0 (R r) ∧ sw (qn (per d)) 0 (R r) = ns.getD r 0) → Same H H' → Q (.ref a) H'
theorem stepR {H : Hp} {D t : Addr} {i : Nat} {g : Nat → Addr} {R : Nat → List Int} {r : List Int} {φ : Nat → List Int → Prop} (hg : H D = some (.lst ((List.range i).map fun j => V.ref (g j)))) (hr : ∀ j, j < i → H (g j) = some (.lst ((R j).map V.int)) ∧ g j ≠ D ∧ φ j (R j)) (ht : H t = some (.lst (r.map V.int))) (nt : t ≠ D) (r1 : φ i r) :
    ∃ (g' : Nat → Addr) (R' : Nat → List Int), upd H D (.lst (((List.range i).map fun j => V.ref (g j)) ++ [.ref t])) D = some (.lst ((List.range (i + 1)).map fun j => V.ref (g' j))) ∧ ∀ j, j < i + 1 → upd H D (.lst (((List.range i).map fun j => V.ref (g j)) ++ [.ref t])) (g' j) = some (.lst ((R' j).map V.int)) ∧ g' j ≠ D ∧ φ j (R' j) := by
  refine ⟨fun j => if j = i then t else g j, fun j => if j = i then r else R j, ?_, fun j hj => ?_⟩
  · have e1 : ((List.range i).map fun j => V.ref (if j = i then t else g j)) = (List.range i).map fun j => V.ref (g j) := List.map_congr_left fun j hj => by
      rw [if_neg (by have := List.mem_range.mp hj; omega)]
    rw [upd_same, List.range_succ, List.map_append, e1, List.map_singleton]
    show some (HO.lst (_ ++ [V.ref t])) = some (HO.lst (_ ++ [V.ref (if i = i then t else g i)]))
    rw [if_pos rfl]
  · dsimp only
    by_cases hji : j = i
    · rw [if_pos hji, if_pos hji, upd_ne nt]
      exact ⟨ht, nt, by rw [hji]; exact r1⟩
    · rw [if_neg hji, if_neg hji]
      obtain ⟨h1, h2, h3⟩ := hr j (by omega)
      rw [upd_ne h2]
      exact ⟨h1, h2, h3⟩
theorem qn_five {d : Int} (hd : Root d) : ∀ i, qn (per d) (i + 1) ≤ 5 * qn (per d) i
  | 0 => by
    have h := (ai_pos hd 0).2
    have e : qn (per d) 1 = ai (per d) 0 * 1 + 0 := rfl
    have e0 : qn (per d) 0 = 1 := rfl
    show qn (per d) 1 ≤ 5 * qn (per d) 0
    omega
  | i + 1 => by
    have h := (ai_pos hd (i + 1)).2
    have hA := fun i => (ai_pos hd i).1
    have e : qn (per d) (i + 2) = ai (per d) (i + 1) * qn (per d) (i + 1) + qn (per d) i := rfl
    have h1 := qn_mono hA (show i ≤ i + 1 by omega)
    have h2 := qn_pos hA (i + 1)
    have h3 : ai (per d) (i + 1) * qn (per d) (i + 1) ≤ 4 * qn (per d) (i + 1) := Int.mul_le_mul_of_nonneg_right h (by omega)
    show qn (per d) (i + 2) ≤ 5 * qn (per d) (i + 1)
    omega
theorem dg_many {d n : Int} {m : Nat} (hd : Root d) (h2 : n < 10 ^ 32) (hj : ∀ j, m = j + 1 → qn (per d) j ≤ n) : m ≤ 154 := by
  have p1 := fun i => (ai_pos hd i).1
  refine Nat.not_lt.mp fun z => ?_
  have h3 := hj (m - 1) (by omega)
  have h4 := qn_mono p1 (show 154 ≤ m - 1 by omega)
  have h5 : (10 : Int) ^ 32 ≤ qn (per d) 154 := by
    rcases hd with rfl | rfl | rfl | rfl | rfl <;> decide +kernel
  omega
theorem colI {xs : List Int} {i : Nat} (h : i < xs.length) : atI (xs.map V.int) (0 + (i : Int)) = some (V.int (xs.getD i 0)) := by
  rw [Int.zero_add]
  refine atI_nat ?_
  rw [List.getElem?_map, List.getD_eq_getElem?_getD, List.getElem?_eq_getElem h]
  rfl
theorem accL {H4 H5 : Hp} {D4 : Addr} {R : Nat → List Int} {i r : Nat} (h5 : H5 D4 = some (.lst (((List.range r).map fun r => (R r).getD i 0).map V.int))) (sm5 : Same H4 H5) (hD : H4 D4 = none) (hr : r ≤ 160) :
    ∃ acc, H5 D4 = some (.lst acc) ∧ acc.length < sizeLine ∧ upd H5 D4 (.lst (acc ++ [.int ((R r).getD i 0)])) D4 = some (.lst (((List.range (r + 1)).map fun r => (R r).getD i 0).map V.int)) ∧ Same H4 (upd H5 D4 (.lst (acc ++ [.int ((R r).getD i 0)]))) := by
  refine ⟨_, h5, by rw [List.length_map, List.length_map, List.length_range, sizeLine_eq]; omega, ?_, sm_upd sm5 hD⟩
  rw [upd_same, List.range_succ, List.map_append, List.map_append]
  rfl
section
variable {P : Program} {w : World} {K : PySem.W.Frag} {mg : Str → Option Value} {base : Heap}
abbrev s_law_letters : Stmt := top 50
abbrev n_law_letters : List Str := ["_law_root_here", "_law_some_numbers", "_law_told", "_law_many", "_law_number", "_law_at", "_law_row"]
theorem sc_law_letters : FnScope n_law_letters ["_law_root_here", "_law_some_numbers"] (defScope s_law_letters) := ⟨rfl, rfl, rfl, by decide +kernel, rfl, by decide +kernel, by decide +kernel⟩
abbrev scO : Scope := scOf (retE ((defBody s_law_letters).getD 2 (.Pass ⟨0, 0, 0, 0⟩)))
theorem ok_llet {f : Addr} {fd : FuncData} {k : Nat} (F : Fun K "_law_letters" "_law_letters" s_law_letters f fd) (T1 : mg "len" = none) (T2 : mg "max" = none) (T3 : mg "range" = none) (T4 : mg "tuple" = none) (D1 : Df P w K mg base k "_law_digits" ["_law_root_here", "_law_number"] spLDig) :
    FnOk P w K mg base CX0 (k + 1) f fd ["_law_root_here", "_law_some_numbers"] (spLet K) := by
  refine F.ok sc_law_letters (fun vs H Q E h => ?_) (fun cdv A outer s H vs Q E hr h => ?_)
  · obtain ⟨l, d, ns, rfl, _⟩ := h
    rfl
  · obtain ⟨l, d, ns, rfl, hd, hl, hn10, hns, q⟩ := h
    have hA := fun i => (ai_pos hd i).1
    have nd := sc_law_letters.nd
    refine ⟨_, (pss_cons (ps_set (i := 2) nd rfl (Or.inr rfl) (pe_lc (own := [("_law_number", 4)]) (g := gName 4) (tt := tYes) (te := tCall spLDig [] E0 (tCons (tVar 0) (tCons (tVar 4) tNil))) (by rfl) nd (pi_list (pv 1)) (blkOk_by (own := [("_law_number", 4)]) (N := n_law_letters) (sc := defScope s_law_letters) (by decide +kernel)) (fun _ _ _ _ _ => (pg_name (i := 4) nd rfl (Or.inl rfl))) (fun _ _ _ _ _ => pts_nil) (fun _ _ _ _ _ => (pe_callD D1 hr (Nat.le_refl _) (pa_cons (pv 0) (pa_cons (pv 4) pa_nil))))))
      (pss_cons (ps_set (i := 3) nd rfl (Or.inl rfl) (pe_callB (cr_max rfl) (by rfl) T2 (by decide +kernel) (pa_cons (pe_op op_cat (pe_lc (own := [("_law_row", 6)]) (g := gName 6) (tt := tYes) (te := tCB (rOfC (call_len_seq (X := (cxOf CX0 P w K mg base n_law_letters "_law_letters" (defScope s_law_letters) f cdv A outer s H E).nox))) (tCons (tVar 6) tNil)) (by rfl) nd (pi_list (pv 2)) (blkOk_by (own := [("_law_row", 6)]) (N := n_law_letters) (sc := defScope s_law_letters) (by decide +kernel)) (fun _ _ _ _ _ => (pg_name (i := 6) nd rfl (Or.inl rfl))) (fun _ _ _ _ _ => pts_nil) (fun _ _ _ _ _ => (pe_callB call_len_seq (by rfl) T1 PySem.boot_len (pa_cons (pv 6) pa_nil)))) (pe_lst (pa_cons pe_int pa_nil))) pa_nil)))
      (pss_one (ps_ret (pe_lc (own := [("_law_at", 5)]) (g := gName 5) (tt := tYes) (te := tCB (rOfC (call_tuple_of (X := (cxOf CX0 P w K mg base n_law_letters "_law_letters" (defScope s_law_letters) f cdv A outer s H E).nox))) (tCons (tLc (iList K (tVar 2)) (gName 6) tYes (tIf (tTest (tOp (rI0 fun i j => .bl (decide (i < j))) (tVar 5) (tCB (rOfC (call_len_seq (X := (cxOf CX0 P w K mg base n_law_letters "_law_letters" (defScope s_law_letters) f cdv A outer s H E).nox))) (tCons (tVar 6) tNil)))) (tOp (rIxL K) (tVar 6) (tVar 5)) (tC (.int 0))) [6]) tNil)) (by rfl) nd (pi_range1 rfl T3 (pa_cons (pv 3) pa_nil)) (blkOk_by (own := [("_law_at", 5)]) (N := n_law_letters) (sc := defScope s_law_letters) (by decide +kernel)) (fun _ _ _ _ _ => (pg_name (i := 5) nd rfl (Or.inr rfl))) (fun _ _ _ _ _ => pts_nil)
        (fun _ _ _ _ _ => (pe_callTy call_tuple_of (by rfl) T4 (by decide +kernel) (pa_cons (pe_lc (own := [("_law_row", 6)]) (g := gName 6) (tt := tYes) (by rfl) nd (pi_list (pv 2)) (blkOk_re (own := [("_law_row", 6)]) (N := n_law_letters) (sc := scO) (by decide +kernel)) (fun _ _ _ _ _ => (pg_name (i := 6) nd rfl (Or.inl rfl))) (fun _ _ _ _ _ => pts_nil) (fun _ _ _ _ _ => (pe_ifExp (pt_cmpR op_lt (pv 5) (pe_callB call_len_seq (by rfl) T1 PySem.boot_len (pa_cons (pv 6) pa_nil)) (nomark _)) (pe_ix ix_list (pv 6) (pv 5) (fun _ _ => rfl)) pe_int))) pa_nil)))))))), ?_⟩
    -- told
    refine ⟨_, rfl, l, rfl, ⟨_, hl⟩, fun D hD => ?_⟩
    refine lc_list (K := K) (a := l) (xs := ns.map V.int) (fun u H' => ∃ (g : Nat → Addr) (R : Nat → List Int), H' D = some (.lst ((List.range u).map fun j => V.ref (g j))) ∧ (∀ j, j < u → H' (g j) = some (.lst ((R j).map V.int)) ∧ g j ≠ D ∧ ((R j).length ≤ 154 ∧ Can (per d) 0 0 (R j) ∧ sw (qn (per d)) 0 (R j) = ns.getD j 0 ∧ qn (per d) (R j).length ≤ 5 * 10 ^ 32)) ∧ Same H H')
      ⟨fun _ => l, fun _ => [], upd_same, fun j h => absurd h (by omega), sNew (Same.refl _) hD⟩ (fun i H' _ h => by obtain ⟨_, _, _, _, h⟩ := h; exact h.seq hl) ?_ ?_
    · rintro i x H1 hx ⟨g, R, hg, hR, sm⟩
      obtain ⟨n, hn, hnx, rfl⟩ : ∃ n : Int, n ∈ ns ∧ ns.getD i 0 = n ∧ V.int n = x := by
        rw [List.getElem?_map] at hx
        obtain ⟨n, h1, h2⟩ := Option.map_eq_some_iff.mp hx
        exact ⟨n, List.mem_of_getElem? h1, by rw [List.getD_eq_getElem?_getD, h1]; rfl, h2⟩
      have hi : i < ns.length := by
        refine Nat.not_le.mp fun z => ?_
        rw [List.getElem?_eq_none (by rw [List.length_map]; exact z)] at hx
        cases hx
      have n1 := hns n hn
      refine ⟨rfl, yes_if ?_⟩
      have e40 : (10 : Int) ^ 32 < 10 ^ 40 := by decide
      refine ⟨_, rfl, _, rfl, d, n, rfl, hd, by omega, by omega, fun m a H2 hm1 hm2 hm3 na ha s2 => ?_⟩
      have hm := dg_many hd n1.2 hm3
      obtain ⟨hcan, hsw⟩ := dg_ok hA m n n1.1 hm2
      have hnx : ns.getD i 0 = n := hnx
      have hq5 : qn (per d) m ≤ 5 * 10 ^ 32 := by
        cases m with
        | zero => show (1 : Int) ≤ _; decide
        | succ j =>
          have := hm3 j rfl
          have := qn_five hd j
          omega
      have nt : a ≠ D := fun z => by rw [z, hg] at na; cases na
      have el := dg_len (p := per d) m n
      obtain ⟨g', R', h1, h2⟩ := stepR (r := dg (per d) m n) (φ := fun j r => r.length ≤ 154 ∧ Can (per d) 0 0 r ∧ sw (qn (per d)) 0 r = ns.getD j 0 ∧ qn (per d) r.length ≤ 5 * 10 ^ 32) (s2 _ _ hg) (fun j hj => by
        obtain ⟨a1, a2⟩ := hR j hj
        exact ⟨s2 _ _ a1, a2⟩) ha nt ⟨by omega, hcan, by rw [hnx]; exact hsw, by rw [el]; exact hq5⟩
      exact ⟨_, s2 _ _ hg, by rw [List.length_map, List.length_range, sizeLine_eq]; omega, g', R', h1, h2, sm_upd (sm.trans s2) hD⟩
    rintro H1 ⟨g, R, hg, hR, sm1⟩
    rw [List.length_map] at hg hR
    -- many
    refine ⟨_, rfl, D, rfl, ⟨_, SqL.of hg⟩, fun D2 hD2 => ?_⟩
    refine lc_list (K := K) (a := D) (xs := (List.range ns.length).map fun j => V.ref (g j)) (fun u H' => H' D2 = some (.lst (((List.range u).map fun j => ((R j).length : Int)).map V.int)) ∧ Same H1 H')
      ⟨upd_same, sNew (Same.refl _) hD2⟩ (fun i H' _ h => SqL.of (h.2 _ _ hg)) ?_ ?_
    · rintro i x H2 hx ⟨h2, sm⟩
      obtain ⟨hi, rfl⟩ : i < ns.length ∧ V.ref (g i) = x := by
        obtain ⟨h0, h1⟩ := List.getElem?_eq_some_iff.mp hx
        rw [List.getElem_map, List.getElem_range] at h1
        rw [List.length_map, List.length_range] at h0
        exact ⟨h0, h1⟩
      have hi2 := sm _ _ (hR i hi).1
      refine ⟨rfl, yes_if ⟨_, rfl, g i, _, rfl, .inl (SqL.of hi2), ?_⟩⟩
      refine ⟨_, h2, by rw [List.length_map, List.length_map, List.length_range, sizeLine_eq]; omega, ?_, sm_upd sm hD2⟩
      rw [upd_same, List.range_succ, List.map_append, List.map_append, List.length_map]
      rfl
    rintro H2 ⟨h2, sm2⟩
    rw [List.length_map, List.length_range] at h2
    refine ⟨by show 1 ≤ sizeLine; decide, fun Z hZ => ⟨D2, Z, _, _, rfl, rfl, sNew (Same.refl _) hZ _ _ h2, upd_same, ?_, fun Y hY => ⟨Y, ((List.range ns.length).map fun j => ((R j).length : Int)) ++ [0], rfl, SqL.of (by rw [upd_same, List.map_append]; rfl), by rw [List.length_append, List.length_singleton]; omega, fun mm hm1 hm2 => ?_⟩⟩⟩
    · rw [List.length_map, List.length_map, List.length_range, sizeLine_eq]
      show ns.length + 1 ≤ _
      omega
    have z1 := sNew (o := .lst [.int 0]) (Same.refl H2) hZ
    have z2 := sNew (o := .lst ((((List.range ns.length).map fun j => ((R j).length : Int)).map V.int) ++ [.int 0])) (Same.refl _) hY
    have s3 := (sm1.trans sm2).trans (z1.trans z2)
    have mlo : 0 ≤ mm := hm2 0 (List.mem_append_right _ (List.mem_singleton.mpr rfl))
    have mle : ∀ r, r < ns.length → ((R r).length : Int) ≤ mm := fun r hr => hm2 _ (List.mem_append_left _ (List.mem_map.mpr ⟨r, List.mem_range.mpr hr, rfl⟩))
    have mq : qn (per d) mm.toNat ≤ 5 * 10 ^ 32 := by
      rcases List.mem_append.mp hm1 with h | h
      · obtain ⟨j, hj, e⟩ := List.mem_map.mp h
        rw [← e, Int.toNat_natCast]
        exact (hR j (List.mem_range.mp hj)).2.2.2.2.2
      · rw [List.mem_singleton.mp h]
        show (1 : Int) ≤ _
        decide
    have mhi : mm ≤ 154 := by
      rcases List.mem_append.mp hm1 with h | h
      · obtain ⟨j, hj, e⟩ := List.mem_map.mp h
        have := (hR j (List.mem_range.mp hj)).2.2.1
        omega
      · rw [List.mem_singleton.mp h]
        decide
    have sYY : Same H1 (upd (upd H2 Z (.lst [.int 0])) Y (.lst ((((List.range ns.length).map fun j => ((R j).length : Int)).map V.int) ++ [.int 0]))) := sm2.trans (z1.trans z2)
    generalize upd (upd H2 Z (.lst [.int 0])) Y (.lst ((((List.range ns.length).map fun j => ((R j).length : Int)).map V.int) ++ [.int 0])) = H3 at *
    obtain ⟨m, rfl⟩ : ∃ m : Nat, mm = (m : Int) := ⟨mm.toNat, by omega⟩
    dsimp only [List.set_cons_succ, List.set_cons_zero]
    refine ⟨_, rfl, _, rfl, by omega, by omega, fun D3 hD3 => ?_⟩
    refine lc_range (lo := 0) (n := ((m : Nat) : Int).toNat) (fun i H' => ∃ g' : Nat → Addr, H' D3 = some (.lst ((List.range i).map fun j => V.ref (g' j))) ∧ (∀ j, j < i → H' (g' j) = some (.tup ((colL R ns.length j).map V.int))) ∧ Same H3 H')
      ⟨fun _ => l, upd_same, fun j' h => absurd h (by omega), sNew (Same.refl _) hD3⟩ ?_ ?_
    · rintro i H4 hi ⟨g', hg', hgr', sm4⟩
      have hg4 := sm4 _ _ (sYY _ _ hg)
      refine ⟨rfl, yes_if ⟨_, rfl, D, rfl, ⟨_, SqL.of hg4⟩, fun D4 hD4 => ?_⟩⟩
      refine lc_list (K := K) (a := D) (xs := (List.range ns.length).map fun j => V.ref (g j)) (fun u H' => H' D4 = some (.lst (((List.range u).map fun r => (R r).getD i 0).map V.int)) ∧ Same H4 H')
        ⟨upd_same, sNew (Same.refl _) hD4⟩ (fun i H' _ h => SqL.of (h.2 _ _ hg4)) ?_ ?_
      · rintro r x H5 hx ⟨h5, sm5⟩
        obtain ⟨hr5, rfl⟩ : r < ns.length ∧ V.ref (g r) = x := by
          obtain ⟨h0, h1⟩ := List.getElem?_eq_some_iff.mp hx
          rw [List.getElem_map, List.getElem_range] at h1
          rw [List.length_map, List.length_range] at h0
          exact ⟨h0, h1⟩
        have hr6 := sm5 _ _ (sm4 _ _ (sYY _ _ (hR r hr5).1))
        refine ⟨rfl, yes_if ?_⟩
        refine ⟨_, rfl, _, rfl, g r, _, rfl, .inl (SqL.of hr6), ?_⟩
        refine ⟨_, _, rfl, rfl, _, rfl, ite2 (fun h => ?_) (fun h => ?_)⟩
        · have h : (0 : Int) + (i : Int) < ((R r).map V.int).length := of_decide_eq_true h
          rw [List.length_map] at h
          refine ⟨_, rfl, _, rfl, g r, _, _, _, rfl, rfl, SqL.of hr6, colI (i := i) (by omega), ?_⟩
          exact accL h5 sm5 hD4 (by omega)
        · have h : ¬ (0 : Int) + (i : Int) < ((R r).map V.int).length := fun z => h (decide_eq_true z)
          rw [List.length_map] at h
          have e0 : (R r).getD i 0 = 0 := by
            rw [List.getD_eq_getElem?_getD, List.getElem?_eq_none (by omega)]
            rfl
          have := accL h5 sm5 hD4 (i := i) (R := R) (r := r) (by omega)
          rw [e0] at this
          exact this
      rintro H5 ⟨h5, sm5⟩
      rw [List.length_map, List.length_range] at h5
      refine ⟨D4, _, rfl, .inl ⟨SqL.of h5, fun y ny => ?_⟩⟩
      have s6 := sNew (o := .tup ((colL R ns.length i).map V.int)) (Same.refl H5) ny
      have s56 := sm5.trans s6
      obtain ⟨g2, k1, k2⟩ := stepg (q := fun j => .tup ((colL R ns.length j).map V.int)) (s56 _ _ hg') (fun j' hj' => s56 _ _ (hgr' j' hj')) (upd_same (H := H5) (a := y)) (fun _ _ z => by cases z)
      exact ⟨_, s56 _ _ hg', by rw [List.length_map, List.length_range, sizeLine_eq]; omega, g2, k1, k2, sm_upd (sm4.trans s56) hD3⟩
    rintro H5 ⟨g', hg', hgr', sm5⟩
    rw [Int.toNat_natCast] at hg' hgr'
    rw [Int.toNat_natCast] at mq
    exact q D3 H5 m g' R (s3.free hD3) hg' (by omega) mq (fun j hj => hgr' j hj) (fun r hr => ⟨by have := mle r hr; omega, (hR r hr).2.2.2.1, (hR r hr).2.2.2.2.1⟩) (s3.trans sm5)
end
end RF

namespace RF
/-! ### the sum over the places is the sum over the numbers -/
def sumK (g : Nat → Int) : Nat → Nat → Int
  | _, 0 => 0
  | i, k + 1 => g i + sumK g (i + 1) k
theorem sumK_congr {g h : Nat → Int} : ∀ (k i : Nat), (∀ j, i ≤ j → g j = h j) → sumK g i k = sumK h i k
  | 0, _, _ => rfl
  | k + 1, i, e => by
    show g i + _ = h i + _
    rw [e i (Nat.le_refl _), sumK_congr k (i + 1) fun j hj => e j (by omega)]
theorem sumK_lin {g h : Nat → Int} {f : Int} : ∀ (k i : Nat), sumK (fun j => f * g j + h j) i k = f * sumK g i k + sumK h i k
  | 0, _ => by show (0 : Int) = f * 0 + 0; omega
  | k + 1, i => by
    show f * g i + h i + sumK _ (i + 1) k = f * (g i + sumK g (i + 1) k) + (h i + sumK h (i + 1) k)
    rw [sumK_lin k (i + 1), Int.mul_add]
    omega
theorem sumK_zero : ∀ (k i : Nat), sumK (fun _ => 0) i k = 0
  | 0, _ => rfl
  | k + 1, i => by
    show 0 + sumK _ (i + 1) k = 0
    rw [sumK_zero k (i + 1)]; rfl
theorem sumK_sw {f : Nat → Int} : ∀ (ds : List Int) (i k : Nat), ds.length ≤ k → sumK (fun j => f j * ds.getD (j - i) 0) i k = sw f i ds
  | [], i, k, _ => by
    rw [sumK_congr (h := fun _ => 0) k i fun j _ => by simp]
    exact sumK_zero k i
  | d :: ds, i, 0, h => absurd h (by simp)
  | d :: ds, i, k + 1, h => by
    have ih := sumK_sw (f := f) ds (i + 1) k (by simpa using h)
    show f i * (d :: ds).getD (i - i) 0 + sumK _ (i + 1) k = _
    rw [Nat.sub_self, sumK_congr (h := fun j => f j * ds.getD (j - (i + 1)) 0) k (i + 1) fun j hj => by
      rw [show j - i = (j - (i + 1)) + 1 by omega]
      rfl, ih]
    show f i * d + sw f (i + 1) ds = sw f i (d :: ds)
    simp [sw, Int.mul_comm]
theorem sfar_sum {p fs : List Int} {C : Nat → List Int} : ∀ (k i : Nat) (S : Int), sfar p fs ((List.range' i k).map C) i S = S + sumK (fun j => qn p j * tot fs (C j)) i k
  | 0, _, S => by show S = S + 0; omega
  | k + 1, i, S => by
    rw [List.range'_succ, List.map_cons]
    show sfar p fs _ (i + 1) (S + qn p i * tot fs (C i)) = _
    rw [sfar_sum k (i + 1)]
    show _ = S + (qn p i * tot fs (C i) + sumK _ (i + 1) k)
    omega
theorem colL_succ (R : Nat → List Int) (n j : Nat) : colL R (n + 1) j = (R 0).getD j 0 :: colL (fun r => R (r + 1)) n j := by
  unfold colL
  rw [List.range_succ_eq_map, List.map_cons, List.map_map]
  rfl
def dots : List Int → (Nat → Int) → Int
  | [], _ => 0
  | f :: fs, N => f * N 0 + dots fs fun r => N (r + 1)
theorem sum_cols {p : List Int} : ∀ (fs : List Int) (R : Nat → List Int) (k : Nat), (∀ r, r < fs.length → (R r).length ≤ k) → sumK (fun j => qn p j * tot fs (colL R fs.length j)) 0 k = dots fs fun r => sw (qn p) 0 (R r)
  | [], R, k, _ => by
    rw [sumK_congr (h := fun _ => 0) k 0 fun j _ => by show qn p j * tot [] _ = 0; simp [tot]]
    exact sumK_zero k 0
  | f :: fs, R, k, h => by
    have ih := sum_cols (p := p) fs (fun r => R (r + 1)) k fun r hr => h (r + 1) (by simpa using hr)
    have h0 := sumK_sw (f := qn p) (R 0) 0 k (h 0 (by simp))
    rw [sumK_congr (h := fun j => f * (qn p j * (R 0).getD (j - 0) 0) + qn p j * tot fs (colL (fun r => R (r + 1)) fs.length j)) k 0 fun j _ => by
      rw [List.length_cons, colL_succ]
      show qn p j * tot (f :: fs) ((R 0).getD j 0 :: colL (fun r => R (r + 1)) fs.length j) = _
      have e : tot (f :: fs) ((R 0).getD j 0 :: colL (fun r => R (r + 1)) fs.length j) = f * (R 0).getD j 0 + tot fs (colL (fun r => R (r + 1)) fs.length j) := by simp [tot]
      rw [e, Nat.sub_zero]
      grind, sumK_lin, h0, ih]
    rfl
theorem tot_le {a : Int} (ha : 0 ≤ a) : ∀ (fs L : List Int), (∀ x ∈ L, 0 ≤ x ∧ x ≤ a) → -(a * absum fs) ≤ tot fs L ∧ tot fs L ≤ a * absum fs
  | [], L, _ => by simp [tot, absum]
  | f :: fs, [], _ => by
    have := Int.mul_nonneg ha (absum_nn (f :: fs))
    have e : tot (f :: fs) [] = 0 := by simp [tot]
    omega
  | f :: fs, x :: L, h => by
    have ih := tot_le ha fs L fun y hy => h y (List.mem_cons_of_mem _ hy)
    have hx := h x (List.mem_cons_self ..)
    have e : tot (f :: fs) (x :: L) = f * x + tot fs L := by simp [tot]
    have e2 : absum (f :: fs) = ab f + absum fs := by simp [absum]
    have hm : -(a * ab f) ≤ f * x ∧ f * x ≤ a * ab f := by
      by_cases hf : 0 ≤ f
      · rw [ab_pos hf]
        have h1 := Int.mul_le_mul_of_nonneg_left hx.2 hf
        have h2 := Int.mul_nonneg hf hx.1
        rw [Int.mul_comm a f]
        omega
      · rw [ab_neg (by omega)]
        have h1 := Int.mul_le_mul_of_nonneg_left hx.2 (show 0 ≤ -f by omega)
        have h2 := Int.mul_nonneg (show 0 ≤ -f by omega) hx.1
        rw [Int.neg_mul] at h1 h2
        rw [Int.mul_comm a (-f)]
        omega
    rw [e, e2, Int.mul_add]
    omega
theorem tot_ab {a : Int} {fs L : List Int} (ha : 0 ≤ a) (h : ∀ x ∈ L, 0 ≤ x ∧ x ≤ a) : (tot fs L).natAbs ≤ (a * absum fs).natAbs := by
  have := tot_le ha fs L h
  omega
/-- so far, over all the places -/
theorem sfar_cols {p fs : List Int} {R : Nat → List Int} {k : Nat} {S : Int} (h : ∀ r, r < fs.length → (R r).length ≤ k) : sfar p fs ((List.range k).map (colL R fs.length)) 0 S = S + dots fs fun r => sw (qn p) 0 (R r) := by
  rw [List.range_eq_range', sfar_sum, sum_cols fs R k h]
end RF

/-! the numbers of the law -/
namespace RF
open PySem L2 PyProof.Rows
theorem sfar_snoc {p fs : List Int} (L : List Int) : ∀ (Ls : List (List Int)) (i : Nat) (S : Int), sfar p fs (Ls ++ [L]) i S = sfar p fs Ls i S + qn p (i + Ls.length) * tot fs L
  | [], i, S => rfl
  | M :: Ls, i, S => by
    show sfar p fs (Ls ++ [L]) (i + 1) _ = sfar p fs Ls (i + 1) _ + _
    rw [sfar_snoc L Ls (i + 1), List.length_cons, show i + 1 + Ls.length = i + (Ls.length + 1) by omega]
theorem crun_len {d B : Int} {fs : List Int} : ∀ (Ls : List (List Int)) (p : Nat) (b s : Int × Int) (lo hi : Int), (crun d B fs Ls p b s lo hi).length ≤ (hi + 1 - lo).toNat
  | [], _, b, s, lo, hi => by
    unfold crun
    rw [List.length_map, List.length_range]
    exact Nat.le_refl _
  | L :: Ls, p, b, s, lo, hi => by
    unfold crun
    split
    · exact Nat.zero_le _
    · refine Nat.le_trans (crun_len Ls _ _ _ _ _) ?_
      unfold mx mn
      split <;> split <;> omega
theorem crun_bd {d B : Int} {fs : List Int} {n : Nat} (hA : ∀ i, 1 ≤ ai (per d) i) (hn : n ≤ 200) (hq : qn (per d) n < 2 ^ 120) {lo0 hi0 : Int} (b1 : Bd 50 lo0) (b2 : Bd 50 hi0) : ∀ (Ls : List (List Int)) (p : Nat) (b s : Int × Int) (lo hi : Int), p + Ls.length ≤ n → (∀ L ∈ Ls, (tot fs L).natAbs ≤ 2000) → Gr (per d) p b → Gr (per d) p s → lo0 ≤ lo → hi ≤ hi0 →
    ∀ q ∈ crun d B fs Ls p b s lo hi, Bd 300 q.1 ∧ Bd 300 q.2
  | [], p, b, s, lo, hi, hp, _, gb, gs, hl, hh => fun q hq' => by
    unfold crun at hq'
    obtain ⟨j, hj, rfl⟩ := List.mem_map.mp hq'
    have hj := List.mem_range.mp hj
    obtain ⟨x1, x2⟩ := gr_bd hA (show p ≤ n by simpa using hp) hn hq gb
    obtain ⟨x3, x4⟩ := gr_bd hA (show p ≤ n by simpa using hp) hn hq gs
    have bj : Bd 60 (lo + (j : Nat)) := by unfold Bd at *; omega
    exact ⟨((x1.mono (by decide : 145 ≤ 205)).add (bj.mul x3)).mono (by decide), ((x2.mono (by decide : 145 ≤ 205)).add (bj.mul x4)).mono (by decide)⟩
  | L :: Ls, p, b, s, lo, hi, hp, hT, gb, gs, hl, hh => fun q hq' => by
    unfold crun at hq'
    split at hq'
    · cases hq'
    · rw [List.length_cons] at hp
      refine crun_bd hA hn hq b1 b2 Ls (p + 1) _ _ _ _ (by omega) (fun M hM => hT M (List.mem_cons_of_mem _ hM)) (gr_cst hA (hT L (List.mem_cons_self ..)) gb) (gr_cst hA (by decide) gs) ?_ ?_ q hq'
      · unfold mx; split <;> omega
      · unfold mn; split <;> omega
theorem colL_zero {R : Nat → List Int} {n j : Nat} (h : ∀ r, r < n → (R r).length ≤ j) : colL R n j = List.replicate n 0 := by
  unfold colL
  refine List.ext_getElem (by simp) fun r h1 h2 => ?_
  rw [List.length_map, List.length_range] at h1
  rw [List.getElem_map, List.getElem_range, List.getElem_replicate, List.getD_eq_getElem?_getD, List.getElem?_eq_none (h r h1)]
  rfl
theorem dots_tot : ∀ (fs ws : List Int) (N : Nat → Int), ws.length = fs.length → (∀ r, r < fs.length → N r = ws.getD r 0) → dots fs N = tot fs ws
  | [], ws, N, _, _ => by simp [dots, tot]
  | f :: fs, [], N, h, _ => by simp at h
  | f :: fs, x :: ws, N, h, hN => by
    have ih := dots_tot fs ws (fun r => N (r + 1)) (by simpa using h) fun r hr => by
      have := hN (r + 1) (by rw [List.length_cons]; omega)
      rw [this]
      rfl
    have h0 : N 0 = x := (hN 0 (by rw [List.length_cons]; omega)).trans rfl
    show f * N 0 + dots fs (fun r => N (r + 1)) = _
    rw [ih, h0]
    simp [tot]
theorem cols_none {d : Int} {R : Nat → List Int} {n : Nat} (hd : Root d) (hR : ∀ r, r < n → Can (per d) 0 0 (R r)) (k : Nat) : firstBad (per d) n 0 (List.replicate n 0) ((List.range k).map fun j => D.tup ((colL R n j).map D.int)) = none := by
  have := cols_ok (p := per d) (fun i => (ai_pos hd i).1) hR k 0
  rw [List.range_eq_range']
  exact this
theorem col_dig {d : Int} {R : Nat → List Int} {n j : Nat} (hd : Root d) (hR : ∀ r, r < n → Can (per d) 0 0 (R r)) : ∀ x ∈ colL R n j, 0 ≤ x ∧ x ≤ ai (per d) j := fun x hx => by
  obtain ⟨r, hr, rfl⟩ := List.mem_map.mp hx
  have h := can_row (fun i => (ai_pos hd i).1) (R r) 0 j 0 (hR r (List.mem_range.mp hr))
  rw [Nat.zero_add] at h
  exact ⟨h.1, h.2.1⟩
theorem tot_big {fs ws : List Int} {M : Int} (hM : 0 ≤ M) (hf : ∀ f ∈ fs, -5 ≤ f ∧ f ≤ 5) (hw : ∀ x ∈ ws, 0 ≤ x ∧ x ≤ M) (hl : fs.length ≤ 4) : (tot fs ws).natAbs ≤ (M * 20).natAbs := by
  have h1 := tot_le hM fs ws hw
  have h2 := absum_le fs hf
  have h3 := Int.mul_le_mul_of_nonneg_left (show absum fs ≤ 20 by omega) hM
  omega
theorem qn_end {d : Int} (hd : Root d) {m k : Nat} (h : qn (per d) m ≤ 5 * 10 ^ 32) (hk : k ≤ 3) : qn (per d) (m + k + 1) < 2 ^ 120 := by
  have hA := fun i => (ai_pos hd i).1
  have h1 := qn_five hd m
  have h2 := qn_five hd (m + 1)
  have h3 := qn_five hd (m + 2)
  have h4 := qn_five hd (m + 3)
  have h5 := qn_mono hA (show m + k + 1 ≤ m + 4 by omega)
  have e1 : qn (per d) (m + 1 + 1) = qn (per d) (m + 2) := rfl
  have e2 : qn (per d) (m + 2 + 1) = qn (per d) (m + 3) := rfl
  have e3 : qn (per d) (m + 3 + 1) = qn (per d) (m + 4) := rfl
  omega
/-- (0, 0) is carried exactly when the sum is 0 -/
theorem zero_iff {d c : Int} {fs ws : List Int} {R : Nat → List Int} {k : Nat} (hd : Root d) (hw : ws.length = fs.length) (hR : ∀ r, r < fs.length → (R r).length ≤ k ∧ Can (per d) 0 0 (R r) ∧ sw (qn (per d)) 0 (R r) = ws.getD r 0) :
    ((0, 0) : Int × Int) ∈ crun d (bnd d fs) fs ((List.range k).map (colL R fs.length)) 0 (-c, 0) (0, 1) (kr d (bnd d fs) (-c) 0 0 1 0).1 (kr d (bnd d fs) (-c) 0 0 1 0).2 ↔ tot fs ws + c = 0 := by
  have hs : sfar (per d) fs ((List.range k).map (colL R fs.length)) 0 c = tot fs ws + c := by
    rw [sfar_cols fun r hr => (hR r hr).1, dots_tot fs ws _ hw fun r hr => (hR r hr).2.2]
    omega
  rw [crun_lrun hd _ _ _ _ _ _ (.inr (by decide)), ← hs]
  constructor
  · exact lrun_zero
  · refine zero_in hd (absum_nn fs) fun j L hj => ?_
    obtain ⟨h1, h2⟩ := List.getElem?_eq_some_iff.mp hj
    rw [List.getElem_map, List.getElem_range] at h2
    rw [← h2]
    exact tot_ab (by have := (ai_pos hd j).1; omega) (col_dig hd fun r hr => (hR r hr).2.1)
/-- what each carried pair satisfies -/
theorem pairs_id {d c : Int} {fs : List Int} {Ls : List (List Int)} {lo hi : Int} (hd : Root d) : ∀ q ∈ crun d (bnd d fs) fs Ls 0 (-c, 0) (0, 1) lo hi, q.1 * qn (per d) Ls.length + q.2 * qm (per d) Ls.length + sfar (per d) fs Ls 0 c = 0 := fun q hq => by
  rw [crun_lrun hd _ _ _ _ _ _ (.inr (by decide))] at hq
  have := lrun_id (d := d) (B := bnd d fs) (fs := fs) Ls 0 (lin (-c, 0) (0, 1) lo hi) c (fun q hq => by
    obtain ⟨j, _, rfl⟩ := List.mem_map.mp hq
    have e1 : qn (per d) 0 = 1 := rfl
    have e2 : qm (per d) 0 = 0 := rfl
    rw [e1, e2]
    simp
    omega) q hq
  simpa using this
theorem pairs_bd {d c : Int} {fs : List Int} {Ls : List (List Int)} {n : Nat} (hd : Root d) (hfac : Fac fs) (hc : c.natAbs ≤ 1000000) (hn : n ≤ 200) (hq : qn (per d) n < 2 ^ 120) (hl : Ls.length ≤ n) (hT : ∀ L ∈ Ls, (tot fs L).natAbs ≤ 2000) :
    (∀ q ∈ crun d (bnd d fs) fs Ls 0 (-c, 0) (0, 1) (kr d (bnd d fs) (-c) 0 0 1 0).1 (kr d (bnd d fs) (-c) 0 0 1 0).2, Bd 300 q.1 ∧ Bd 300 q.2) ∧ (crun d (bnd d fs) fs Ls 0 (-c, 0) (0, 1) (kr d (bnd d fs) (-c) 0 0 1 0).1 (kr d (bnd d fs) (-c) 0 0 1 0).2).length ≤ 30000 := by
  have hA := fun i => (ai_pos hd i).1
  have hBB := bnd_bd (d := d) hfac
  have bB : Bd 13 (bnd d fs) := by unfold Bd; omega
  have bc : Bd 20 (-c) := by unfold Bd; omega
  have bz : Bd 20 (0 : Int) := by unfold Bd; decide
  obtain ⟨b1, b2⟩ := kr_bd (d := d) (B := bnd d fs) (u := -c) (v := 0) hd (bB.mono (by decide)) (bc.mono (by decide)) (bz.mono (by decide))
  have kl := kr_len (d := d) (B := bnd d fs) (u := -c) (v := 0) hd hBB.1
  refine ⟨crun_bd hA hn hq b1 b2 Ls 0 _ _ _ _ (by omega) hT ⟨by show (((-c).natAbs : Nat) : Int) ≤ wI 0 * 1; unfold wI; omega, by show ((0 : Nat) : Int) ≤ wI 0 * 1; unfold wI; omega⟩ ⟨by show ((0 : Nat) : Int) ≤ wI 0 * 1; unfold wI; omega, by show ((1 : Nat) : Int) ≤ wI 0 * 1; unfold wI; omega⟩ (Int.le_refl _) (Int.le_refl _), ?_⟩
  have := crun_len (d := d) (B := bnd d fs) (fs := fs) Ls 0 (-c, 0) (0, 1) (kr d (bnd d fs) (-c) 0 0 1 0).1 (kr d (bnd d fs) (-c) 0 0 1 0).2
  omega
end RF

namespace RF
open PySem L2
theorem rep_zero {k : Int} {n : Nat} (h : k.toNat = n) : (List.replicate k.toNat [V.int 0]).flatten = (List.replicate n (0 : Int)).map V.int := by
  rw [h]
  induction n generalizing k with
  | zero => rfl
  | succ n ih =>
    have := @ih (n : Int) (by omega)
    rw [List.replicate_succ, List.flatten_cons, this, List.replicate_succ, List.map_cons]
    rfl
theorem rp_ints {K : PySem.W.Frag} {H : Hp} {a : Addr} {ns : List Int} (h : H a = some (.lst (ns.map V.int))) (hl : ns.length ≤ 100000) : Rp K H (.ref a) (.lst (ns.map D.int)) := ⟨a, _, rfl, SqL.of h, by rw [List.length_map]; exact hl, rps_ints _⟩
theorem dep_lint (ns : List Int) : dep (.lst (ns.map D.int)) ≤ 5 := by
  show depL _ + 1 ≤ 5
  rw [dep_ints]
  decide
theorem rpl2 {K : PySem.W.Frag} {H : Hp} {a : Addr} {v1 v2 : V} {d1 d2 : D} (h : H a = some (.lst [v1, v2])) (r1 : Rp K H v1 d1) (r2 : Rp K H v2 d2) : Rp K H (.ref a) (.lst [d1, d2]) := ⟨a, _, rfl, SqL.of h, by show 2 ≤ 100000; decide, _, _, rfl, r1, _, _, rfl, r2, rfl⟩
theorem sw_rep0 (w : Nat → Int) : ∀ (k i : Nat), sw w i (List.replicate k 0) = 0
  | 0, _ => rfl
  | k + 1, i => by
    rw [List.replicate_succ]
    show 0 * w i + sw w (i + 1) (List.replicate k 0) = 0
    rw [sw_rep0 w k]
    omega
theorem sw_app (w : Nat → Int) : ∀ (l r : List Int) (i : Nat), sw w i (l ++ r) = sw w i l + sw w (i + l.length) r
  | [], r, i => by simp [sw]
  | a :: l, r, i => by
    show a * w i + sw w (i + 1) (l ++ r) = a * w i + sw w (i + 1) l + sw w (i + (a :: l).length) r
    rw [sw_app w l r (i + 1), List.length_cons, show i + 1 + l.length = i + (l.length + 1) by omega]
    omega
theorem can_left {p : List Int} : ∀ (l r : List Int) (i : Nat) (lo : Int), Can p i lo (l ++ r) → Can p i lo l
  | [], _, _, _, _ => trivial
  | a :: l, r, i, lo, h => ⟨h.1, can_left l r (i + 1) a h.2⟩
/-- a list that can stand and does not end with zero: the digits of its value -/
theorem dg_cut {p : List Int} (h : ∀ i, 1 ≤ ai p i) {t : List Int} {k m : Nat} {S : Int} (hc : Can p 0 0 (t ++ List.replicate k 0)) (ht : t = [] ∨ t.getLastD 0 ≠ 0) (hS : sw (qn p) 0 (t ++ List.replicate k 0) = S) (h1 : S < qn p m) (h2 : ∀ j, m = j + 1 → qn p j ≤ S) : dg p m S = t := by
  have hc1 := can_left t _ 0 0 hc
  rw [sw_app, sw_rep0, Int.add_zero] at hS
  have hv : vl p t = S := hS
  have v1 := (vl_lt h t.length t rfl hc1).1
  rw [hv] at v1
  have v2 : ∀ j, t.length = j + 1 → qn p j ≤ S := fun j ej => by
    rcases ht with e | e
    · rw [e] at ej; simp at ej
    · obtain ⟨u, c, rfl⟩ : ∃ u c, t = u ++ [c] := ⟨t.dropLast, t.getLast (by intro z; rw [z] at ej; simp at ej), (List.dropLast_concat_getLast _).symm⟩
      rw [List.getLastD_concat] at e
      have lj : u.length = j := by simpa using ej
      obtain ⟨c1, c0, _⟩ := can_unsnoc u 0 0 hc1
      have := vl_nn h c1
      rw [vl_snoc, lj] at hv
      have := Int.mul_le_mul_of_nonneg_right (show 1 ≤ c by omega) (show 0 ≤ qn p j by have := qn_pos h j; omega)
      omega
  have em : m = t.length := by
    rcases Nat.lt_trichotomy m t.length with z | z | z
    · obtain ⟨j, ej⟩ : ∃ j, t.length = j + 1 := ⟨t.length - 1, by omega⟩
      have := v2 j ej
      have := qn_mono h (show m ≤ j by omega)
      omega
    · exact z
    · obtain ⟨j, rfl⟩ : ∃ j, m = j + 1 := ⟨m - 1, by omega⟩
      have := h2 j rfl
      have := qn_mono h (show t.length ≤ j by omega)
      omega
  rw [em, ← hv]
  exact dg_vl h rfl hc1
theorem can_get {p : List Int} : ∀ {ds : List Int} {i j : Nat} {lo d : Int}, Can p i lo ds → ds[j]? = some d → 0 ≤ d ∧ d ≤ ai p (i + j)
  | [], _, j, _, _, _, e => by simp at e
  | c :: ds, i, 0, _, d, h, e => by
    cases e
    exact ⟨h.1.1, h.1.2.1⟩
  | c :: ds, i, j + 1, _, d, h, e => by
    have := can_get (j := j) h.2 e
    rw [show i + 1 + j = i + (j + 1) by omega] at this
    exact this
theorem sum_sw (w : Nat → Int) : ∀ (l : List Int) (i : Nat), ((List.range l.length).map fun j => l.getD j 0 * w (i + j)).sum = sw w i l
  | [], _ => rfl
  | a :: l, i => by
    rw [List.length_cons, List.range_succ_eq_map, List.map_cons, List.map_map, List.sum_cons]
    have e : ((fun j => (a :: l).getD j 0 * w (i + j)) ∘ Nat.succ) = fun j => l.getD j 0 * w (i + 1 + j) := by
      funext j
      show (a :: l).getD (j + 1) 0 * w (i + (j + 1)) = _
      rw [show i + (j + 1) = i + 1 + j by omega]
      rfl
    rw [e, sum_sw w l (i + 1)]
    rfl
theorem getD_of {ds : List Int} {i : Nat} {d : Int} (h : ds[i]? = some d) : ds.getD i 0 = d := by
  rw [List.getD_eq_getElem?_getD, h]
  rfl
theorem cut_off1 {ds : List Int} : cutV (ds.map V.int) none (some (-(1 : Int))) = (ds.take (ds.length - 1)).map V.int := by
  unfold cutV
  rw [HT.sIx_none, List.length_map]
  have e : HT.sIx ds.length ds.length (some (-1)) = ds.length - 1 := by
    unfold HT.sIx
    simp
    omega
  rw [e, List.drop_zero, Nat.sub_zero, ← List.map_take]
end RF

/-! lists of pairs of whole numbers -/
namespace RF
open PySem L2 PyProof.Rows
def pairP (p : Int × Int) : PyData := .tuple [.int p.1, .int p.2]
theorem dp_pairs {K : PySem.W.Frag} {H : Hp} {a : Addr} {ys : List V} {k : V → Int × Int} (h : H a = some (.lst ys)) (hy : ∀ y ∈ ys, ∃ t, y = .ref t ∧ H t = some (.tup [.int (k y).1, .int (k y).2])) : Dp K H (.ref a) (.list ((ys.map k).map pairP)) := by
  refine .lst (SqL.of h) ?_
  clear h
  induction ys with
  | nil => exact .nil
  | cons y ys ih =>
    obtain ⟨t, e, ht⟩ := hy y (List.mem_cons_self ..)
    rw [List.map_cons, List.map_cons]
    refine .cons ?_ (ih fun z hz => hy z (List.mem_cons_of_mem _ hz))
    rw [e] at ht ⊢
    exact .tup (SqT.of ht) (.cons (.int _) (.cons (.int _) .nil))
theorem shaped_pairs (ps : List (Int × Int)) : SeqAt.shaped (.list (ps.map pairP)) = true := by
  unfold SeqAt.shaped
  have h1 : PyData.canLayAll0 (ps.map pairP) = true := by
    induction ps with
    | nil => rfl
    | cons a r ih => simp [PyData.canLayAll0, ih, PyData.canLay0, pairP]
  have h2 : PyData.depthAll (ps.map pairP) ≤ 1 := by
    clear h1
    induction ps with
    | nil => simp [PyData.depthAll]
    | cons a r ih =>
      simp only [List.map_cons, PyData.depthAll, pairP, PyData.depth] at ih ⊢
      omega
  simp only [PyData.canLay0, h1, Bool.true_and]
  refine decide_eq_true ?_
  simp only [PyData.depth]
  omega
theorem any_pair : ∀ (ps : List (Int × Int)) (p : Int × Int), ((ps.map pairP).any fun z => PyData.eqv z (pairP p)) = decide (p ∈ ps)
  | [], p => by simp
  | q :: ps, p => by
    have ih := any_pair ps p
    rw [List.map_cons, List.any_cons, ih]
    have e : PyData.eqv (pairP q) (pairP p) = decide (p = q) := by
      obtain ⟨a, b⟩ := q
      obtain ⟨c, e⟩ := p
      simp only [pairP, PyData.eqv, PyData.eqvAll, Bool.and_true, Prod.mk.injEq]
      by_cases h1 : a = c
      · subst h1
        by_cases h2 : b = e
        · subst h2; simp
        · have h3 : ¬ e = b := fun z => h2 z.symm
          simp [h2, h3]
      · have h3 : ¬ c = a := fun z => h1 z.symm
        simp [h1, h3]
    rw [e, ← Bool.decide_or]
    exact decide_eq_decide.mpr List.mem_cons.symm
theorem shaped_pair (p : Int × Int) : SeqAt.shaped (pairP p) = true := by
  unfold SeqAt.shaped
  simp [PyData.canLay0, PyData.canLayAll0, pairP, PyData.depth, PyData.depthAll]
end RF

set_option linter.all false
/-! a statement, with what is known behind it -/
namespace RF
open PySem PySem.Spec PyProof.Rows L2
def tCutS (t : TS) : TS := fun D σ H => ∃ J : L2.St → Hp → Prop, t { D with nx := J } σ H ∧ ∀ σ' H', J σ' H' → D.nx σ' H'
theorem ps_cut {X : Cx} {st : Stmt} {t : TS} (h : PS X st t) : PS X st (tCutS t) := by
  refine ⟨fun pins s σ H D I z => ?_⟩
  obtain ⟨J, h1, h2⟩ := z
  refine thn (h.run pins s σ H { D with nx := J } I h1) fun f s1 q => ?_
  cases f with
  | next =>
    obtain ⟨σ', H', I', q⟩ := q
    exact ⟨σ', H', I', h2 _ _ q⟩
  | ret v => exact q
  | brk => exact q
  | cont => exact q
end RF

namespace RF
open PySem L2 PyProof.Rows
abbrev sLaw : Stmt := top 52
abbrev n_law : List Str := ["_law_script", "_law_bag_here", "_law_turn", "_law_root_here", "_law_factors_here", "_law_some", "_law_rest", "_law_way", "_law_constant", "_law_summed", "_law_letters_here", "_law_found", "_law_at", "_law_steps_here", "_law_so_far", "_law_place", "_law_pairs", "_law_factor", "_law_number", "_law_u", "_law_v", "_law_f", "_law_digit"]
theorem sc_law : FnScope n_law ["_law_script"] (defScope sLaw) := ⟨rfl, rfl, rfl, by decide +kernel, rfl, by decide +kernel, by decide +kernel⟩
def spLaw (K : PySem.W.Frag) : Sp := fun vs H Q _ => ∃ (a : Addr) (ns : List Int), vs = [.ref a] ∧ SqL K H a (ns.map V.int) ∧ ns.length ≤ 63 ∧ ∀ H', Q (.bl true) H'
theorem cut_to {xs : List V} {n : Nat} : cutV xs none (some (n : Int)) = xs.take n := by
  unfold cutV
  rw [HT.sIx_none, HT.sIx_nat, Nat.sub_zero, List.drop_zero]
  by_cases h : n ≤ xs.length
  · rw [Nat.min_eq_left h]
  · rw [Nat.min_eq_right (by omega), List.take_length, List.take_of_length_le (by omega)]
theorem rps_tups {K : PySem.W.Frag} {H : Hp} {g : Nat → Addr} {L : Nat → List Int} : ∀ js : List Nat, (∀ j ∈ js, H (g j) = some (.tup ((L j).map V.int)) ∧ (L j).length ≤ 1000) → Rps K H (js.map fun j => V.ref (g j)) (js.map fun j => D.tup ((L j).map D.int))
  | [], _ => rfl
  | j :: js, h => ⟨.ref (g j), _, rfl, ⟨g j, _, rfl, SqT.of (h j (List.mem_cons_self ..)).1, by rw [List.length_map]; have := (h j (List.mem_cons_self ..)).2; omega, rps_ints _⟩, rps_tups js fun k hk => h k (List.mem_cons_of_mem _ hk)⟩
theorem int_get {xs : List Int} {j : Nat} {y : V} (h : (xs.map V.int)[j]? = some y) : ∃ f : Int, xs[j]? = some f ∧ V.int f = y := by
  rw [List.getElem?_map] at h
  exact Option.map_eq_some_iff.mp h
theorem dot_acc {H0 H6 : Hp} {Dl q' : Addr} {fs L : List Int} {j : Nat} {fj lj : Int} (hz : (fs.zip L).length ≤ 1000) (hDl : H0 Dl = none) (sm6 : Same H0 H6) (h6 : H6 Dl = some (.lst ((((fs.zip L).take j).map fun q => q.1 * q.2).map V.int))) (nq : H6 q' = none) (gf : fs[j]? = some fj) (gl : L[j]? = some lj) :
    ∃ acc, (upd H6 q' (.tup [.int fj, .int lj])) Dl = some (.lst acc) ∧ acc.length < sizeLine ∧ upd (upd H6 q' (.tup [.int fj, .int lj])) Dl (.lst (acc ++ [.int (fj * lj)])) Dl = some (.lst ((((fs.zip L).take (j + 1)).map fun q => q.1 * q.2).map V.int)) ∧ Same H0 (upd (upd H6 q' (.tup [.int fj, .int lj])) Dl (.lst (acc ++ [.int (fj * lj)]))) := by
  have gz : (fs.zip L)[j]? = some (fj, lj) := List.getElem?_zip_eq_some.mpr ⟨gf, gl⟩
  refine ⟨_, (by rw [upd_ne (ne_of_none h6 nq)]; exact h6), ?_, ?_, sm_upd (sNew sm6 nq) hDl⟩
  · rw [List.length_map, List.length_map, List.length_take, sizeLine_eq]; omega
  · rw [upd_same, List.take_add_one, gz, Option.toList_some, List.map_append, List.map_append]
    rfl
theorem fac_bd {fs : List Int} (h : Fac fs) {j : Nat} {f : Int} (e : fs[j]? = some f) : Bd 3 f := by
  have := h.2 f (List.mem_of_getElem? e)
  unfold Bd
  omega
theorem num_bd {ws : List Int} (h : ∀ n ∈ ws, 0 ≤ n ∧ n < 10 ^ 32) {j : Nat} {f : Int} (e : ws[j]? = some f) : Bd 107 f := by
  have := h f (List.mem_of_getElem? e)
  unfold Bd
  omega
theorem pad_list {m : Nat} {g : Nat → Addr} {t : Addr} : ∀ k : Nat, ((List.range m).map fun j => V.ref (g j)) ++ (List.replicate k [V.ref t]).flatten = (List.range (m + k)).map fun j => V.ref (if j < m then g j else t)
  | 0 => by
    rw [List.replicate_zero, List.flatten_nil, List.append_nil, Nat.add_zero]
    exact List.map_congr_left fun j hj => by rw [if_pos (List.mem_range.mp hj)]
  | k + 1 => by
    have ih := pad_list (m := m) (g := g) (t := t) k
    rw [List.replicate_succ', List.flatten_append, List.flatten_cons, List.flatten_nil, List.append_nil, ← List.append_assoc, ih, show m + (k + 1) = m + k + 1 by omega, List.range_succ, List.map_append, List.map_singleton, if_neg (by omega)]
structure EnvK (P : Program) (w : World) (K : PySem.W.Frag) (mg : Str → Option Value) (base : Heap) (CF CE : Addr) : Prop where
  bag : Df P w K mg base 9 "_law_bag" ["_law_script"] (spBag K)
  pull : Df P w K mg base 9 "_law_pull" ["_law_bag_here", "_law_sides"] spPullC
  of_ : Df P w K mg base 9 "_law_of" ["_law_bag_here", "_law_some"] (spOfC K)
  root : Df P w K mg base 9 "_law_root" ["_law_bag_here"] spRootC
  far : Df P w K mg base 9 "_law_far" ["_law_bag_here", "_law_figures"] spFarC
  fac : Df P w K mg base 9 "_law_factors" ["_law_bag_here", "_law_many"] spFactors
  let_ : Df P w K mg base 9 "_law_letters" ["_law_root_here", "_law_some_numbers"] (spLet K)
  lst : Df P w K mg base 9 "_law_steps" ["_law_root_here", "_law_many"] spLSteps
  same : Df P w K mg base 9 "_law_same" ["_law_found", "_law_due"] (spSame K 5)
  car : DfX P w K mg base 10 "carried" ["field", "factors", "constant", "letters"] (spCar K CF CE)
  TF : TxF K mg CF
  mkF : ∃ (f : Addr) (fd : FuncData), Mk K CF f ∧ FnOk P w K mg base CX0 8 f fd ["self", "root"] (spFInit K CF) ∧ Binds K fd ["self", "root"] []
  TB_ : TB mg
  range : mg "range" = none
  tuple : mg "tuple" = none
  sum : mg "sum" = none
  zip : mg "zip" = none
  abs : mg "abs" = none
  all_ : mg "all" = none
section
variable {P : Program} {w : World} {K : PySem.W.Frag} {mg : Str → Option Value} {base : Heap}
theorem ok_law {f CF CE : Addr} {fd : FuncData} (F : Fun K "law" "law" sLaw f fd) (e : EnvK P w K mg base CF CE) : FnOk P w K mg base CX0 13 f fd ["_law_script"] (spLaw K) := by
  refine F.ok sc_law (fun vs H Q E h => ?_) (fun cdv A outer s H vs R E hr h => ?_)
  · obtain ⟨a, ns, rfl, _⟩ := h
    rfl
  obtain ⟨a, ns, rfl, hS, hl, kk⟩ := h
  have nd := sc_law.nd
  have T := e.TF
  have T1 := e.TB_
  obtain ⟨fi, fdi, M1, G, b1⟩ := e.mkF
  have hr9 : Room 9 (A.deeper (envOfC "law" (defScope sLaw) s.heap.objs.size f cdv)) := hr.mono (by decide)
  have hu65 : (A.deeper (envOfC "law" (defScope sLaw) s.heap.objs.size f cdv)).units + 65 < cLine := by
    have := hr.un
    omega
  refine ⟨_, (pss_cons (ps_set (i := 1) nd rfl (Or.inr rfl) (pe_callD e.bag hr (by decide) (pa_cons (pv 0) pa_nil)))
      (pss_cons (ps_for PassesOwn.never rfl (pi_range1 rfl e.range (pa_cons pe_int pa_nil)) (pg_name (i := 2) nd rfl (Or.inl rfl))
      (pss_cons (ps_set (i := 3) nd rfl (Or.inl rfl) (pe_callD e.root hr (by decide) (pa_cons (pv 1) pa_nil)))
        (pss_cons (ps_set (i := 4) nd rfl (Or.inl rfl) (pe_op op_cat (pe_callD e.fac hr (by decide) (pa_cons (pv 1) (pa_cons (pe_op op_add pe_int (pe_callD e.pull hr (by decide) (pa_cons (pv 1) (pa_cons pe_int pa_nil)))) pa_nil))) (pe_lst (pa_cons (pe_callD e.of_ hr (by decide) (pa_cons (pv 1) (pa_cons (pe_lst (pa_cons pe_int (pa_cons (pe_un un_neg pe_int) pa_nil))) pa_nil))) pa_nil))))
        (pss_cons (ps_setLc (i := 5) (own := [("_law_factor", 17)]) (g := gName 17) (tt := tYes) (te := tCall spFarC [] E0 (tCons (tVar 1) (tCons (tCall (spOfC K) [] E0 (tCons (tVar 1) (tCons (tLst (tCons (tC (.int 1)) (tCons (tC (.int 3)) (tCons (tC (.int 30)) tNil)))) tNil))) tNil))) (by rfl) nd rfl rfl (sw_true rfl rfl rfl (by decide +kernel)) (pi_list (pv 4)) (blkOk_by (own := [("_law_factor", 17)]) (N := n_law) (sc := defScope sLaw) (by decide +kernel)) (fun _ _ _ _ _ => (pg_name (i := 17) nd rfl (Or.inl rfl))) (fun _ _ _ _ _ => pts_nil) (fun _ _ _ _ _ => (pe_callD e.far hr (by decide) (pa_cons (pv 1) (pa_cons (pe_callD e.of_ hr (by decide) (pa_cons (pv 1) (pa_cons (pe_lst (pa_cons pe_int (pa_cons pe_int (pa_cons pe_int pa_nil)))) pa_nil))) pa_nil)))))
        (pss_cons (ps_set (i := 6) nd rfl (Or.inl rfl) (pe_callB (cr_sum rfl) (by rfl) e.sum (by decide +kernel) (pa_cons (pe_lc (own := [("_law_factor", 17), ("_law_number", 18)]) (g := gTup K 2 (gCons (gName 17) (gCons (gName 18) gNil))) (tt := tYes) (te := tOp (rI CMulW fun i j => .int (i * j)) (tVar 17) (tVar 18)) (by rfl) nd (pi_zipM (by rfl) e.zip (pa_cons (pe_slice sl_list (pv 4) po_none (po_some (pe_un un_neg pe_int))) (pa_cons (pe_slice sl_list (pv 5) po_none (po_some (pe_un un_neg pe_int))) pa_nil))) (blkOk_by (own := [("_law_factor", 17), ("_law_number", 18)]) (N := n_law) (sc := defScope sLaw) (by decide +kernel)) (fun _ _ _ _ _ => (pg_tup rfl (pgs_cons (pg_name (i := 17) nd rfl (Or.inl rfl)) (pgs_cons (pg_name (i := 18) nd rfl (Or.inl rfl)) pgs_nil)))) (fun _ _ _ _ _ => pts_nil) (fun _ _ _ _ _ => (pe_op op_mulW (pv 17) (pv 18)))) pa_nil)))
        (pss_cons (ps_set (i := 7) nd rfl (Or.inl rfl) (pe_callD e.pull hr (by decide) (pa_cons (pv 1) (pa_cons pe_int pa_nil))))
        (pss_cons (ps_set (i := 8) nd rfl (Or.inl rfl) (pe_callD e.of_ hr (by decide) (pa_cons (pv 1) (pa_cons (pe_op op_cat (pe_op op_rep (pe_lst (pa_cons (pe_op op_sub (pe_callD e.pull hr (by decide) (pa_cons (pv 1) (pa_cons pe_int pa_nil))) pe_int) pa_nil)) pe_int) (pe_lst (pa_cons (pe_un un_neg pe_int) (pa_cons pe_int pa_nil)))) pa_nil))))
        (pss_cons (ps_cut (ps_if (pw_and (pt_cmpR op_lt (pv 7) pe_int (nomark _)) (pw_and1 (pt_cmpR op_le (pe_op op_mulW (pe_op op_add (pv 6) (pv 8)) (pe_ix ix_list (pv 4) (pe_un un_neg pe_int) (fun _ _ => rfl))) pe_int (nomark _)))).pt
        (pss_one (ps_set (i := 5) nd rfl (Or.inl rfl) (pe_op op_cat (pe_slice sl_list (pv 5) po_none (po_some (pe_un un_neg pe_int))) (pe_lst (pa_cons (pe_op op_add (pe_callB call_abs (by rfl) e.abs (by decide +kernel) (pa_cons (pe_op op_add (pv 6) (pv 8)) pa_nil)) (pe_op op_mulW (pe_callTy call_int1 (by rfl) T1.int (by decide +kernel) (pa_cons (pe_cmpR op_eq (pv 7) pe_int (nomark _)) pa_nil)) (pe_callD e.pull hr (by decide) (pa_cons (pv 1) (pa_cons pe_int pa_nil))))) pa_nil)))))
        pss_nil))
        (pss_cons (ps_set (i := 9) nd rfl (Or.inl rfl) (pe_op op_add (pe_callB (cr_sum rfl) (by rfl) e.sum (by decide +kernel) (pa_cons (pe_lc (own := [("_law_factor", 17), ("_law_number", 18)]) (g := gTup K 2 (gCons (gName 17) (gCons (gName 18) gNil))) (tt := tYes) (te := tOp (rI CMulW fun i j => .int (i * j)) (tVar 17) (tVar 18)) (by rfl) nd (pi_zipM (by rfl) e.zip (pa_cons (pv 4) (pa_cons (pv 5) pa_nil))) (blkOk_by (own := [("_law_factor", 17), ("_law_number", 18)]) (N := n_law) (sc := defScope sLaw) (by decide +kernel)) (fun _ _ _ _ _ => (pg_tup rfl (pgs_cons (pg_name (i := 17) nd rfl (Or.inl rfl)) (pgs_cons (pg_name (i := 18) nd rfl (Or.inl rfl)) pgs_nil)))) (fun _ _ _ _ _ => pts_nil) (fun _ _ _ _ _ => (pe_op op_mulW (pv 17) (pv 18)))) pa_nil)) (pv 8)))
        (pss_cons (ps_set (i := 10) nd rfl (Or.inl rfl) (pe_callD e.let_ hr (by decide) (pa_cons (pv 3) (pa_cons (pv 5) pa_nil))))
        (pss_cons (ps_set (i := 10) nd rfl (Or.inl rfl) (pe_op op_cat (pv 10) (pe_op op_rep (pe_lst (pa_cons (pe_callTy call_tuple_of (by rfl) e.tuple (by decide +kernel) (pa_cons (pe_lc (own := [("_law_factor", 17)]) (g := gName 17) (tt := tYes) (te := tC (.int 0)) (by rfl) nd (pi_list (pv 4)) (blkOk_by (own := [("_law_factor", 17)]) (N := n_law) (sc := defScope sLaw) (by decide +kernel)) (fun _ _ _ _ _ => (pg_name (i := 17) nd rfl (Or.inl rfl))) (fun _ _ _ _ _ => pts_nil) (fun _ _ _ _ _ => pe_int)) pa_nil)) pa_nil)) (pe_callD e.pull hr (by decide) (pa_cons (pv 1) (pa_cons pe_int pa_nil))))))
        (pss_cons (ps_set (i := 11) nd rfl (Or.inl rfl) (pe_callX e.car hr (by decide) passN (pa_cons (pe_make M1 G hr9 (by rfl) T.mg b1 .nil pass0 (pa_cons (pv 3) pa_nil)) (pa_cons (pv 4) (pa_cons (pv 8) (pa_cons (pv 10) pa_nil))))))
        (pss_cons (ps_if (pt_not (pt_val (pe_callD e.same hr (by decide) (pa_cons (pe_cmpR (op_inD hu65) (pe_tup (pa_cons pe_int (pa_cons pe_int pa_nil))) (pv 11) rfl) (pa_cons (pe_cmpR op_eq (pv 9) pe_int (nomark _)) pa_nil)))))
        (pss_one (ps_ret pe_bl))
        pss_nil)
        (pss_cons (ps_asg (pe_tup (pa_cons (pe_callD e.pull hr (by decide) (pa_cons (pv 1) (pa_cons (pe_op op_add (pe_callB call_len_seq (by rfl) T1.len (by decide +kernel) (pa_cons (pv 10) pa_nil)) pe_int) pa_nil))) (pa_cons (pe_op op_cat (pe_lst (pa_cons pe_int pa_nil)) (pe_callD e.lst hr (by decide) (pa_cons (pv 3) (pa_cons (pe_op op_add (pe_callB call_len_seq (by rfl) T1.len (by decide +kernel) (pa_cons (pv 10) pa_nil)) pe_int) pa_nil)))) pa_nil))) (pg_tup rfl (pgs_cons (pg_name (i := 12) nd rfl (Or.inr rfl)) (pgs_cons (pg_name (i := 13) nd rfl (Or.inr rfl)) pgs_nil))))
        (pss_cons (ps_set (i := 14) nd rfl (Or.inr rfl) (pv 8))
        (pss_cons (ps_for PassesOwn.never rfl (pi_range1 rfl e.range (pa_cons (pv 12) pa_nil)) (pg_name (i := 15) nd rfl (Or.inl rfl))
        (pss_one (ps_set (i := 14) nd rfl (Or.inr rfl) (pe_op op_add (pv 14) (pe_op op_mulW (pe_ix ix_list (pv 13) (pe_op op_add (pv 15) pe_int) (fun _ _ => rfl)) (pe_callB (cr_sum rfl) (by rfl) e.sum (by decide +kernel) (pa_cons (pe_lc (own := [("_law_f", 21), ("_law_digit", 22)]) (g := gTup K 2 (gCons (gName 21) (gCons (gName 22) gNil))) (tt := tYes) (te := tOp (rI CMulW fun i j => .int (i * j)) (tVar 21) (tVar 22)) (by rfl) nd (pi_zipM (by rfl) e.zip (pa_cons (pv 4) (pa_cons (pe_ix ix_list (pv 10) (pv 15) (fun _ _ => rfl)) pa_nil))) (blkOk_by (own := [("_law_f", 21), ("_law_digit", 22)]) (N := n_law) (sc := defScope sLaw) (by decide +kernel)) (fun _ _ _ _ _ => (pg_tup rfl (pgs_cons (pg_name (i := 21) nd rfl (Or.inl rfl)) (pgs_cons (pg_name (i := 22) nd rfl (Or.inl rfl)) pgs_nil)))) (fun _ _ _ _ _ => pts_nil) (fun _ _ _ _ _ => (pe_op op_mulW (pv 21) (pv 22)))) pa_nil)))))))
        (pss_cons (ps_set (i := 16) nd rfl (Or.inl rfl) (pe_callX e.car hr (by decide) passN (pa_cons (pe_make M1 G hr9 (by rfl) T.mg b1 .nil pass0 (pa_cons (pv 3) pa_nil)) (pa_cons (pv 4) (pa_cons (pv 8) (pa_cons (pe_slice sl_list (pv 10) po_none (po_some (pv 12))) pa_nil))))))
        (pss_one (ps_if (pt_not (pt_val (pe_callB (cr_all rfl) (by rfl) e.all_ (by decide +kernel) (pa_cons (pe_lc (own := [("_law_u", 19), ("_law_v", 20)]) (g := gTup K 2 (gCons (gName 19) (gCons (gName 20) gNil))) (tt := tYes) (te := tOp rEq (tOp (rI0 fun i j => .int (i + j)) (tOp (rI0 fun i j => .int (i + j)) (tOp (rI CMulW fun i j => .int (i * j)) (tVar 19) (tOp (rIxL K) (tVar 13) (tOp (rI0 fun i j => .int (i + j)) (tVar 12) (tC (.int 1))))) (tOp (rI CMulW fun i j => .int (i * j)) (tVar 20) (tOp (rIxL K) (tVar 13) (tVar 12)))) (tVar 14)) (tC (.int 0))) (by rfl) nd (pi_list (pv 16)) (blkOk_by (own := [("_law_u", 19), ("_law_v", 20)]) (N := n_law) (sc := defScope sLaw) (by decide +kernel)) (fun _ _ _ _ _ => (pg_tup rfl (pgs_cons (pg_name (i := 19) nd rfl (Or.inl rfl)) (pgs_cons (pg_name (i := 20) nd rfl (Or.inl rfl)) pgs_nil)))) (fun _ _ _ _ _ => pts_nil) (fun _ _ _ _ _ => (pe_cmpR op_eq (pe_op op_add (pe_op op_add (pe_op op_mulW (pv 19) (pe_ix ix_list (pv 13) (pe_op op_add (pv 12) pe_int) (fun _ _ => rfl))) (pe_op op_mulW (pv 20) (pe_ix ix_list (pv 13) (pv 12) (fun _ _ => rfl)))) (pv 14)) pe_int (nomark _)))) pa_nil))))
        (pss_one (ps_ret pe_bl))
        pss_nil)))))))))))))))))))
      (pss_one (ps_ret pe_bl)))), ?_⟩
  refine ⟨_, rfl, a, ns, rfl, hS, hl, fun b H1 nb B1 sm1 => ?_⟩
  obtain ⟨c0, B1⟩ := B1.here
  dsimp only [List.set_cons_succ, List.set_cons_zero]
  refine ⟨4, rfl, by decide, by decide, for_range (n := 4) (fun _ σ H' => ∃ v2 v3 v4 v5 v6 v7 v8 v9 v10 v11 v12 v13 v14 v15 v16 : Option V,
      σ = [some (.ref a), some (.ref b), v2, v3, v4, v5, v6, v7, v8, v9, v10, v11, v12, v13, v14, v15, v16, none, none, none, none, none, none] ∧ BagAt H' b c0)
    ⟨none, none, none, none, none, none, none, none, none, none, none, none, none, none, none, rfl, B1⟩ ?_ ?_⟩
  · rintro i0 σ H2 hi0 ⟨v2, v3, v4, v5, v6, v7, v8, v9, v10, v11, v12, v13, v14, v15, v16, rfl, B2⟩
    -- mark root
    refine ⟨_, rfl, b, c0, rfl, B2, fun d H3 hd0 B3 kp3 => ?_⟩
    have hd : Root d := by unfold Root; omega
    have hpr := perOk hd
    dsimp only [List.set_cons_succ, List.set_cons_zero]
    -- mark factors
    refine ⟨_, rfl, _, rfl, b, c0, 3, rfl, B3, by decide, by decide, fun m0 H4 m00 m01 B4 kp4 => ⟨_, _, rfl, rfl, ?_⟩⟩
    obtain ⟨m, hm⟩ : ∃ m : Nat, 1 + m0 = (m : Int) := ⟨(1 + m0).toNat, by omega⟩
    refine ⟨b, c0, m, by show [V.ref b, V.int (1 + m0)] = _; rw [hm], B4, by omega, fun af0 fs0 H5 naf haf0 hfac0 hfl0 B5 kaf1 kaf2 kp5 => ?_⟩
    refine ⟨_, rfl, _, rfl, by show 2 ≤ sizeLine; decide, fun p1 hp1 => ?_⟩
    have s5 := sNew (o := .lst [.int 1, .int (-1)]) (Same.refl H5) hp1
    refine ⟨b, c0, p1, _, rfl, B5.same s5, SqL.of upd_same, (B5.off hp1).1, by show 0 < 2; decide, by show 2 < 1000000; decide, fun v H6 hv B6 kp6 => ?_⟩
    obtain ⟨g1, rfl, hg1⟩ : ∃ g : Int, v = .int g ∧ -5 ≤ g ∧ g ≤ 5 := by
      simp only [List.mem_cons, List.not_mem_nil, or_false] at hv
      rcases hv with rfl | rfl
      · exact ⟨_, rfl, by decide, by decide⟩
      · exact ⟨_, rfl, by decide, by decide⟩
    refine ⟨by show 1 ≤ sizeLine; decide, fun p2 hp2 => ?_⟩
    have s6 := sNew (o := .lst [.int g1]) (Same.refl H6) hp2
    have haf6 := s6 _ _ (kp6 _ _ kaf1 (s5 _ _ haf0))
    refine ⟨af0, p2, _, _, rfl, rfl, haf6, upd_same, by rw [List.length_map, sizeLine_eq]; show _ + 1 ≤ _; omega, fun af haf => ?_⟩
    have s7 := sNew (o := .lst (fs0.map V.int ++ [.int g1])) s6 haf
    have B7 := B6.same s7
    have naf7 : af ≠ b ∧ af ≠ c0 := (B6.same s6).off haf
    have haf7 : (upd (upd H6 p2 (.lst [.int g1])) af (.lst (fs0.map V.int ++ [.int g1]))) af = some (.lst ((fs0 ++ [g1]).map V.int)) := by rw [upd_same, List.map_append]; rfl
    obtain ⟨H7, hH7⟩ : ∃ H7, upd (upd H6 p2 (.lst [.int g1])) af (.lst (fs0.map V.int ++ [.int g1])) = H7 := ⟨_, rfl⟩
    rw [hH7] at B7 haf7 ⊢
    have hfl : (fs0 ++ [g1]).length ≤ 4 := by rw [List.length_append, hfl0]; show m + 1 ≤ 4; omega
    have hfac : Fac (fs0 ++ [g1]) := ⟨by omega, fun x hx => by
      rcases List.mem_append.mp hx with hx | hx
      · exact hfac0.2 x hx
      · rw [List.mem_singleton.mp hx]; exact hg1⟩
    have hlast : atI ((fs0 ++ [g1]).map V.int) (-1) = some (.int g1) := by
      have := lastD_at (s := fs0 ++ [g1]) (by simp)
      rw [List.getLastD_concat] at this
      exact this
    have hone : 1 ≤ (fs0 ++ [g1]).length := by rw [List.length_append]; show 1 ≤ _ + 1; omega
    generalize fs0 ++ [g1] = fs at hfl hfac hlast hone haf7
    dsimp only [List.set_cons_succ, List.set_cons_zero]
    clear hH7 s7 haf6 s6 kp6 s5 kp5 kp4 kp3 hv haf0 hfac0 hfl0 B6 B5 B4 B3 B2
    -- mark some
    refine ⟨_, rfl, af, rfl, ⟨_, SqL.of haf7⟩, fun Dl hDl => ?_⟩
    have nD := B7.off hDl
    refine lc_list (K := K) (a := af) (xs := fs.map V.int) (fun u H' => ∃ ws : List Int, ws.length = u ∧ (∀ n ∈ ws, 0 ≤ n ∧ n < 10 ^ 30) ∧ H' Dl = some (.lst (ws.map V.int)) ∧ BagAt H' b c0 ∧ Kp b H7 H') ⟨[], rfl, (fun n hn => by cases hn), upd_same, B7.put nD, Kp.of (sNew (Same.refl _) hDl)⟩ (fun i H' _ h => by obtain ⟨_, _, _, _, _, k⟩ := h; exact SqL.of (k _ _ naf7.1 haf7)) ?_ ?_
    · rintro u x H9 hx ⟨ws, hw, bw, hD9, B9, kp9⟩
      have hu := (List.getElem?_eq_some_iff.mp hx).1
      rw [List.length_map] at hu
      refine ⟨rfl, yes_if ?_⟩
      refine ⟨_, rfl, _, rfl, by show 3 ≤ sizeLine; decide, fun p2 hp2 => ?_⟩
      have s9 := sNew (o := .lst [.int 1, .int 3, .int 30]) (Same.refl H9) hp2
      refine ⟨b, c0, p2, _, rfl, B9.same s9, SqL.of upd_same, (B9.off hp2).1, by show 0 < 3; decide, by show 3 < 1000000; decide, fun v Ha hv Ba kpa => ?_⟩
      obtain ⟨kk', rfl, hk1, hk2, hk3⟩ : ∃ q : Int, v = .int q ∧ 0 < q ∧ q ≤ 1000 ∧ (10 : Int) ^ q.toNat ≤ 10 ^ 30 := by
        simp only [List.mem_cons, List.not_mem_nil, or_false] at hv
        rcases hv with rfl | rfl | rfl
        · exact ⟨_, rfl, by decide, by decide, by decide⟩
        · exact ⟨_, rfl, by decide, by decide, by decide⟩
        · exact ⟨_, rfl, by decide, by decide, by decide⟩
      refine ⟨b, c0, kk', rfl, Ba, hk1, hk2, fun n Hb n0 n1 Bb kpb => ?_⟩
      have kk9 := ((Kp.of (b := b) s9).trans kpa).trans kpb
      refine ⟨_, kk9 _ _ nD.1 hD9, by rw [List.length_map, sizeLine_eq]; have := hfac.1; omega, ws ++ [n], by rw [List.length_append, hw]; rfl, fun q hq => ?_, by rw [upd_same, List.map_append]; rfl, Bb.put nD, (kp9.trans kk9).up hDl⟩
      rcases List.mem_append.mp hq with hq | hq
      · exact bw q hq
      · rw [List.mem_singleton.mp hq]; exact ⟨n0, by omega⟩
    rintro H9 ⟨ws, hw, bw, hD9, B9, kp9⟩
    rw [List.length_map] at hw
    have haf9 := kp9 _ _ naf7.1 haf7
    dsimp only [List.set_cons_succ, List.set_cons_zero]
    clear kp9 B7 haf7
    -- mark rest
    refine ⟨_, rfl, _, rfl, _, rfl, af, _, rfl, SqL.of haf9, fun q1 hq1 => ⟨_, rfl, _, rfl, _, rfl, Dl, _, rfl, SqL.of (sNew (Same.refl _) hq1 _ _ hD9), fun q2 hq2 => ?_⟩⟩
    rw [cut_off1] at hq2 ⊢
    rw [cut_off1]
    have z1 := sNew (o := .lst ((fs.take (fs.length - 1)).map V.int)) (Same.refl H9) hq1
    have z2 := sNew (o := .lst ((ws.take (ws.length - 1)).map V.int)) z1 hq2
    have h2a := upd_same (H := upd H9 q1 (.lst ((fs.take (fs.length - 1)).map V.int))) (a := q2) (o := .lst ((ws.take (ws.length - 1)).map V.int))
    have h1a := sNew (o := .lst ((ws.take (ws.length - 1)).map V.int)) (Same.refl _) hq2 _ _ (upd_same (H := H9) (a := q1) (o := .lst ((fs.take (fs.length - 1)).map V.int)))
    obtain ⟨Ha, hHa⟩ : ∃ Ha, upd (upd H9 q1 (.lst ((fs.take (fs.length - 1)).map V.int))) q2 (.lst ((ws.take (ws.length - 1)).map V.int)) = Ha := ⟨_, rfl⟩
    rw [hHa] at z2 h2a h1a ⊢
    have bw32 : ∀ n ∈ ws, 0 ≤ n ∧ n < 10 ^ 32 := fun n hn => by have := bw n hn; omega
    have f1 : Fac (fs.take (fs.length - 1)) := ⟨by rw [List.length_take]; omega, fun x hx => hfac.2 x (List.mem_of_mem_take hx)⟩
    have w1 : ∀ n ∈ ws.take (ws.length - 1), 0 ≤ n ∧ n < 10 ^ 30 := fun n hn => bw n (List.mem_of_mem_take hn)
    have l1 : (ws.take (ws.length - 1)).length = (fs.take (fs.length - 1)).length := by rw [List.length_take, List.length_take, hw]
    have l2 : (fs.take (fs.length - 1)).length ≤ 4 := by rw [List.length_take]; omega
    generalize fs.take (fs.length - 1) = F1 at f1 l1 l2 h1a
    have ewt : (ws.take (ws.length - 1)) = ws.take (fs.length - 1) := by rw [hw]
    obtain ⟨W1, hW1⟩ : ∃ W1, ws.take (ws.length - 1) = W1 := ⟨_, rfl⟩
    rw [hW1] at w1 l1 h2a
    refine ⟨false, false, q1, q2, _, _, rfl, SqL.of h1a, SqL.of h2a, fun D2 hD2 => ?_⟩
    refine lc_it (walk_m (n := F1.length) (by rw [List.length_map]) (by rw [List.length_map]; exact l1)) (fun j H' => H' D2 = some (.lst ((((F1.zip W1).take j).map fun q => q.1 * q.2).map V.int)) ∧ Same Ha H')
      ⟨upd_same, sNew (Same.refl _) hD2⟩ (fun j H' _ z => ⟨SqL.of (z.2 _ _ h1a), SqL.of (z.2 _ _ h2a)⟩) ?_ ?_
    · rintro j y H6 H7 hj ⟨h6, sm6⟩ ⟨q', y1, y2, rfl, nq, rfl, f1', f2'⟩
      obtain ⟨fj, gf, rfl⟩ := int_get (xs := F1) f1'
      obtain ⟨lj, gl, rfl⟩ := int_get (xs := W1) f2'
      refine ⟨q', [.int fj, .int lj], rfl, SqT.of upd_same, rfl, _, _, rfl, _, _, rfl, rfl, rfl, ?_⟩
      refine yes_if ⟨_, rfl, _, rfl, _, _, rfl, rfl, mulOk (fac_bd f1 gf) (num_bd (fun n hn => by have := w1 n hn; omega) gl) (by decide) (by decide) (by decide), ?_⟩
      exact dot_acc (by rw [List.length_zip]; omega) hD2 sm6 h6 nq gf gl
    rintro Hb ⟨hb6, smb⟩
    rw [List.take_of_length_le (by rw [List.length_zip]; omega)] at hb6
    refine ⟨D2, _, rfl, SqL.of hb6, ?_⟩
    rw [show (((F1.zip W1).map fun q => q.1 * q.2).sum) = tot F1 W1 from rfl]
    have hrest := tot_big (M := 10 ^ 30) (by decide) f1.2 (fun x hx => by have := w1 x hx; omega) l2
    generalize tot F1 W1 = rest at hrest ⊢
    have s9b := z2.trans smb
    have Bb := B9.same s9b
    have hafb := s9b _ _ haf9
    have hDb := s9b _ _ hD9
    dsimp only [List.set_cons_succ, List.set_cons_zero]
    clear hb6 smb hD2 h1a h2a hW1 ewt hHa z2 z1 hq2 hq1 s9b B9 haf9 hD9 f1 w1 l1
    -- mark way
    refine ⟨_, rfl, b, c0, 4, rfl, Bb, by decide, by decide, fun wy Hc wy0 wy1 Bc kpc => ?_⟩
    dsimp only [List.set_cons_succ, List.set_cons_zero]
    -- mark constant
    refine ⟨_, rfl, _, rfl, b, c0, 2000, rfl, Bc, by decide, by decide, fun x Hd x0 x1 Bd_ kpd => ⟨_, _, rfl, rfl, by show 1 ≤ sizeLine; decide, fun l1 hl1 => ⟨l1, 4, _, rfl, rfl, upd_same, by decide, by decide, by show 1 * 4 ≤ sizeLine; decide, fun l2 hl2 => ⟨_, rfl, by show 2 ≤ sizeLine; decide, fun l3 hl3 => ?_⟩⟩⟩⟩
    have y1 := sNew (o := .lst [.int (x - 1000)]) (Same.refl Hd) hl1
    have y2 := sNew (o := .lst (List.replicate (4 : Int).toNat [V.int (x - 1000)]).flatten) (Same.refl _) hl2
    have y3 := sNew (o := .lst [.int (-999999), .int 999999]) (Same.refl _) hl3
    have yy := (y1.trans y2).trans y3
    refine ⟨l2, l3, _, _, rfl, rfl, y3 _ _ upd_same, upd_same, by show 4 + 2 ≤ sizeLine; decide, fun l4 hl4 => ?_⟩
    have y4 := sNew (o := .lst ((List.replicate (4 : Int).toNat [V.int (x - 1000)]).flatten ++ [.int (-999999), .int 999999])) yy hl4
    refine ⟨b, c0, l4, _, rfl, Bd_.same y4, SqL.of upd_same, ((Bd_.same yy).off hl4).1, by show 0 < 6; decide, by show 6 < 1000000; decide, fun v He hv Be kpe => ?_⟩
    obtain ⟨c, rfl, hc⟩ : ∃ c : Int, v = .int c ∧ c.natAbs ≤ 1000000 := by
      have hv : v ∈ [V.int (x - 1000), V.int (x - 1000), V.int (x - 1000), V.int (x - 1000), V.int (-999999), V.int 999999] := hv
      simp only [List.mem_cons, List.not_mem_nil, or_false] at hv
      rcases hv with rfl | rfl | rfl | rfl | rfl | rfl <;> exact ⟨_, rfl, by omega⟩
    have kbe := (kpc.trans kpd).trans ((Kp.of y4).trans kpe)
    have hafe := kbe _ _ naf7.1 hafb
    have hDe := kbe _ _ nD.1 hDb
    dsimp only [List.set_cons_succ, List.set_cons_zero]
    clear kbe kpe hv y4 yy y3 y2 y1 kpd kpc Bd_ Bc hDb hafb Bb
    -- mark if
    refine ⟨fun σ' H' => ∃ (p5 : Addr) (us : List Int), σ' = [some (.ref a), some (.ref b), some (.int (0 + (i0 : Nat))), some (.int d), some (.ref af), some (.ref p5), some (.int rest), some (.int wy), some (.int c), v9, v10, v11, v12, v13, v14, v15, v16, none, none, none, none, none, none] ∧ us.length = fs.length ∧ (∀ n ∈ us, 0 ≤ n ∧ n < 10 ^ 32) ∧ H' p5 = some (.lst (us.map V.int)) ∧ H' af = some (.lst (fs.map V.int)) ∧ BagAt H' b c0, ?_, ?_⟩
    · have go : ∃ (p5 : Addr) (us : List Int), [some (V.ref a), some (V.ref b), some (V.int (0 + (i0 : Nat))), some (V.int d), some (V.ref af), some (V.ref Dl), some (V.int rest), some (V.int wy), some (V.int c), v9, v10, v11, v12, v13, v14, v15, v16, none, none, none, none, none, none] = [some (V.ref a), some (V.ref b), some (V.int (0 + (i0 : Nat))), some (V.int d), some (V.ref af), some (V.ref p5), some (V.int rest), some (V.int wy), some (V.int c), v9, v10, v11, v12, v13, v14, v15, v16, none, none, none, none, none, none] ∧ us.length = fs.length ∧ (∀ n ∈ us, 0 ≤ n ∧ n < 10 ^ 32) ∧ He p5 = some (.lst (us.map V.int)) ∧ He af = some (.lst (fs.map V.int)) ∧ BagAt He b c0 := ⟨Dl, ws, rfl, hw, bw32, hDe, hafe, Be⟩
      refine ⟨_, rfl, _, _, rfl, rfl, _, rfl, ite2 (fun h1 => ?_) (fun h1 => iteF go)⟩
      have brc : Bd 110 (rest + c) := by unfold Bd; omega
      have bg1 : Bd 3 g1 := by unfold Bd; omega
      refine ⟨_, rfl, _, rfl, _, _, rfl, rfl, _, rfl, _, rfl, af, _, _, _, rfl, rfl, SqL.of hafe, hlast, _, _, rfl, rfl, mulOk brc bg1 (by decide) (by decide) (by decide), _, _, rfl, rfl, _, rfl, ite2 (fun h2 => ?_) (fun h2 => go)⟩
      refine ⟨_, rfl, _, rfl, _, rfl, Dl, _, rfl, SqL.of hDe, fun q3 hq3 => ?_⟩
      rw [cut_off1]
      have u1 := sNew (o := .lst ((ws.take (ws.length - 1)).map V.int)) (Same.refl He) hq3
      have Bf := Be.same u1
      have h3f := upd_same (H := He) (a := q3) (o := .lst ((ws.take (ws.length - 1)).map V.int))
      have haff := u1 _ _ hafe
      have nq3 := Be.off hq3
      generalize upd He q3 (.lst ((ws.take (ws.length - 1)).map V.int)) = Hf at u1 Bf h3f haff ⊢
      refine ⟨_, rfl, _, rfl, _, _, rfl, rfl, _, rfl, _, rfl, rfl, .inr ⟨_, rfl, _, rfl, b, c0, 2, rfl, Bf, by decide, by decide, fun y Hg y0 y1 Bg kpg => ⟨_, _, rfl, rfl, ?_⟩⟩⟩
      have h3g := kpg _ _ nq3.1 h3f
      have hafg := kpg _ _ naf7.1 haff
      obtain ⟨av, hav⟩ : ∃ av, (if rest + c < 0 then -(rest + c) else rest + c) = av := ⟨_, rfl⟩
      obtain ⟨bv, hbv⟩ : ∃ bv : Int, (if decide (V.int wy = V.int 1) = true then (1 : Int) else 0) = bv := ⟨_, rfl⟩
      have hav2 : 0 ≤ av ∧ av ≤ 21 * 10 ^ 30 := by rw [← hav]; split <;> omega
      have hbv2 : bv = 0 ∨ bv = 1 := by rw [← hbv]; split <;> simp
      rw [hav, hbv]
      refine ⟨mulOk (n := 2) (m := 2) (by unfold Bd; omega) (by unfold Bd; omega) (by decide) (by decide) (by decide), _, _, rfl, rfl, by show 1 ≤ sizeLine; decide, fun l5 hl5 => ?_⟩
      have u2 := sNew (o := .lst [.int (av + bv * y)]) (Same.refl Hg) hl5
      refine ⟨q3, l5, _, _, rfl, rfl, u2 _ _ h3g, upd_same, by rw [List.length_map, List.length_take, sizeLine_eq]; show _ + 1 ≤ _; omega, fun p5 hp5 => ?_⟩
      have u3 := sNew (o := .lst ((ws.take (ws.length - 1)).map V.int ++ [.int (av + bv * y)])) u2 hp5
      refine ⟨p5, ws.take (ws.length - 1) ++ [av + bv * y], rfl, by rw [List.length_append, List.length_take]; show _ + 1 = _; omega, fun n hn => ?_, by rw [List.map_append]; exact upd_same, u3 _ _ hafg, Bg.same u3⟩
      rcases List.mem_append.mp hn with hn | hn
      · exact bw32 n (List.mem_of_mem_take hn)
      · rw [List.mem_singleton.mp hn]
        rcases hbv2 with rfl | rfl
        · rw [Int.zero_mul]; omega
        · rw [Int.one_mul]; omega
    rintro σ H0 ⟨p5, us, rfl, hus, bus, h5, haf0', B0⟩
    clear hlast hDe hafe Be bw bw32 hrest hw
    dsimp only [List.set_cons_succ, List.set_cons_zero]
    -- mark summed
    refine ⟨_, rfl, _, rfl, false, false, af, p5, _, _, rfl, SqL.of haf0', SqL.of h5, fun D2 hD2 => ?_⟩
    refine lc_it (walk_m (n := fs.length) (by rw [List.length_map]) (by rw [List.length_map]; exact hus)) (fun j H' => H' D2 = some (.lst ((((fs.zip us).take j).map fun q => q.1 * q.2).map V.int)) ∧ Same H0 H')
      ⟨upd_same, sNew (Same.refl _) hD2⟩ (fun j H' _ z => ⟨SqL.of (z.2 _ _ haf0'), SqL.of (z.2 _ _ h5)⟩) ?_ ?_
    · rintro j y H6 H7 hj ⟨h6, sm6⟩ ⟨q', y1, y2, rfl, nq, rfl, f1', f2'⟩
      obtain ⟨fj, gf, rfl⟩ := int_get (xs := fs) f1'
      obtain ⟨lj, gl, rfl⟩ := int_get (xs := us) f2'
      refine ⟨q', [.int fj, .int lj], rfl, SqT.of upd_same, rfl, _, _, rfl, _, _, rfl, rfl, rfl, ?_⟩
      refine yes_if ⟨_, rfl, _, rfl, _, _, rfl, rfl, mulOk (fac_bd hfac gf) (num_bd bus gl) (by decide) (by decide) (by decide), ?_⟩
      exact dot_acc (by rw [List.length_zip]; omega) hD2 sm6 h6 nq gf gl
    rintro H1' ⟨hb6, smb⟩
    rw [List.take_of_length_le (by rw [List.length_zip]; omega)] at hb6
    refine ⟨D2, _, rfl, SqL.of hb6, ?_⟩
    rw [show (((fs.zip us).map fun q => q.1 * q.2).sum) = tot fs us from rfl]
    have haf1 := smb _ _ haf0'
    have h51 := smb _ _ h5
    have B1' := B0.same smb
    refine ⟨_, rfl, _, _, rfl, rfl, ?_⟩
    dsimp only [List.set_cons_succ, List.set_cons_zero]
    clear hb6 smb hD2 B0 haf0' h5
    -- mark letters
    refine ⟨_, rfl, _, rfl, p5, d, us, rfl, hd, SqL.of h51, by omega, bus, fun al HA m7 g R nal hal m154 hq5 hg hR sA => ?_⟩
    have BA := B1'.same sA
    have hafA := sA _ _ haf1
    have nl := B1'.off nal
    rw [hus] at hg hR
    dsimp only [List.set_cons_succ, List.set_cons_zero]
    clear B1' haf1 h51
    -- mark zeros
    refine ⟨_, rfl, _, rfl, af, rfl, ⟨_, SqL.of hafA⟩, fun Dz hDz => ?_⟩
    refine lc_list (K := K) (a := af) (xs := fs.map V.int) (fun u H' => H' Dz = some (.lst ((List.replicate u (0 : Int)).map V.int)) ∧ Same HA H') ⟨upd_same, sNew (Same.refl _) hDz⟩ (fun i H' _ h => SqL.of (h.2 _ _ hafA)) ?_ ?_
    · rintro u x H9 hx ⟨h9, s9⟩
      have hu := (List.getElem?_eq_some_iff.mp hx).1
      rw [List.length_map] at hu
      refine ⟨rfl, yes_if ⟨_, h9, by rw [List.length_map, List.length_replicate, sizeLine_eq]; omega, ?_, sm_upd s9 hDz⟩⟩
      rw [upd_same, List.replicate_succ', List.map_append]
      rfl
    rintro HB ⟨hB, sB⟩
    rw [List.length_map] at hB
    refine ⟨Dz, _, rfl, .inl ⟨SqL.of hB, fun tz htz => ⟨by show 1 ≤ sizeLine; decide, fun lz hlz => ?_⟩⟩⟩
    have t1 := sNew (o := .tup ((List.replicate fs.length (0 : Int)).map V.int)) sB htz
    have htz1 := upd_same (H := HB) (a := tz) (o := .tup ((List.replicate fs.length (0 : Int)).map V.int))
    obtain ⟨HC, hHC⟩ : ∃ HC, upd HB tz (.tup ((List.replicate fs.length (0 : Int)).map V.int)) = HC := ⟨_, rfl⟩
    rw [hHC] at t1 htz1 hlz ⊢
    have t2 := sNew (o := .lst [.ref tz]) (Same.refl HC) hlz
    have hlz2 := upd_same (H := HC) (a := lz) (o := .lst [.ref tz])
    have htz2 := t2 _ _ htz1
    have B2' := BA.same (t1.trans t2)
    have nlz := (BA.same t1).off hlz
    have hal2 := (t1.trans t2) _ _ hal
    have haf2 := (t1.trans t2) _ _ hafA
    have hg2 : ∀ j, j < m7 → upd HC lz (.lst [.ref tz]) (g j) = some (.tup ((colL R fs.length j).map V.int)) := fun j hj => (t1.trans t2) _ _ (hg j hj)
    refine ⟨_, rfl, b, c0, 4, rfl, B2', by decide, by decide, fun z HD z0 z1 BD kpD => ?_⟩
    have hlzD := kpD _ _ nlz.1 hlz2
    have halD := kpD _ _ nl.1 hal2
    have hafD := kpD _ _ naf7.1 haf2
    have htzD : HD tz = some (.tup ((List.replicate fs.length (0 : Int)).map V.int)) := kpD.at_ B2'.bag htz2 (fun _ z => by cases z)
    have hgD : ∀ j, j < m7 → HD (g j) = some (.tup ((colL R fs.length j).map V.int)) := fun j hj => kpD.at_ B2'.bag (hg2 j hj) (fun _ z => by cases z)
    obtain ⟨zk, rfl⟩ : ∃ zk : Nat, z = (zk : Int) := ⟨z.toNat, by omega⟩
    refine ⟨lz, zk, _, rfl, rfl, hlzD, by omega, by omega, by rw [sizeLine_eq]; show 1 * (zk : Int).toNat ≤ _; omega, fun pz hpz => ?_⟩
    rw [Int.toNat_natCast]
    have t3 := sNew (o := .lst (List.replicate zk [V.ref tz]).flatten) (Same.refl HD) hpz
    have hfl2 : (List.replicate zk [V.ref tz]).flatten.length = zk := by simp
    refine ⟨al, pz, _, _, rfl, rfl, t3 _ _ halD, upd_same, by rw [List.length_map, List.length_range, hfl2, sizeLine_eq]; omega, fun q hq => ?_⟩
    have t4 := sNew (o := .lst (((List.range m7).map fun j => V.ref (g j)) ++ (List.replicate zk [V.ref tz]).flatten)) t3 hq
    have hqE := upd_same (H := upd HD pz (.lst (List.replicate zk [V.ref tz]).flatten)) (a := q) (o := .lst (((List.range m7).map fun j => V.ref (g j)) ++ (List.replicate zk [V.ref tz]).flatten))
    obtain ⟨HE, hHE⟩ : ∃ HE, upd (upd HD pz (.lst (List.replicate zk [V.ref tz]).flatten)) q (.lst (((List.range m7).map fun j => V.ref (g j)) ++ (List.replicate zk [V.ref tz]).flatten)) = HE := ⟨_, rfl⟩
    rw [hHE] at t4 hqE ⊢
    have nq := (BD.same t3).off hq
    rw [pad_list] at hqE
    have BE := BD.same t4
    have hafE := t4 _ _ hafD
    have hgE : ∀ j, j < m7 + zk → HE (if j < m7 then g j else tz) = some (.tup ((colL R fs.length j).map V.int)) := fun j hj => by
      by_cases h : j < m7
      · rw [if_pos h]; exact t4 _ _ (hgD j h)
      · rw [if_neg h, colL_zero fun r hr => by have := (hR r hr).1; omega]; exact t4 _ _ htzD
    obtain ⟨g2, hg2d⟩ : ∃ g2 : Nat → Addr, ∀ j, (if j < m7 then g j else tz) = g2 j := ⟨_, fun _ => rfl⟩
    simp only [hg2d] at hqE hgE
    have hqend := qn_end hd (k := zk) hq5 (by omega)
    have hM : m7 + zk ≤ 157 := by omega
    have hR2 : ∀ r, r < fs.length → (R r).length ≤ m7 + zk ∧ Can (per d) 0 0 (R r) ∧ sw (qn (per d)) 0 (R r) = us.getD r 0 := fun r hr => ⟨by have := (hR r hr).1; omega, (hR r hr).2⟩
    generalize m7 + zk = M at hqE hgE hqend hM hR2
    dsimp only [List.set_cons_succ, List.set_cons_zero]
    clear hR hg hgD htzD hafD halD hlzD t4 t3 BD kpD hg2 haf2 hal2 nlz B2' htz2 hlz2 t2 t1 htz1 hHE hHC hq hpz hfl2
    -- mark carried
    have RE : ∀ H', Same HE H' → ∀ k, k ≤ M → Rps K H' ((List.range k).map fun j => V.ref (g2 j)) ((List.range k).map fun j => D.tup ((colL R fs.length j).map D.int)) := fun H' sm k hk => rps_tups _ fun j hj => by
      have hj := List.mem_range.mp hj
      exact ⟨sm _ _ (hgE j (by omega)), by unfold colL; rw [List.length_map, List.length_range]; omega⟩
    have eLs : ∀ k, IntsL ((List.range k).map fun j => D.tup ((colL R fs.length j).map D.int)) = (List.range k).map (colL R fs.length) := fun k => by
      show (((List.range k).map fun j => D.tup ((colL R fs.length j).map D.int)).map intsD) = _
      rw [List.map_map]
      refine List.map_congr_left fun j _ => ?_
      show ((colL R fs.length j).map D.int).map intD = _
      rw [List.map_map]
      exact List.map_id _
    have hcan : ∀ r, r < fs.length → Can (per d) 0 0 (R r) := fun r hr => (hR2 r hr).2.1
    have hTt : ∀ k, ∀ L ∈ (List.range k).map (colL R fs.length), (tot fs L).natAbs ≤ 2000 := fun k L hL => by
      obtain ⟨j, _, rfl⟩ := List.mem_map.mp hL
      have := tot_bd fs (colL R fs.length j) hfac.2 fun x hx => by
        have := col_dig (j := j) hd hcan x hx
        have := ai_pos hd j
        omega
      omega
    have hpb : ∀ k, k ≤ M → _ := fun k hk => pairs_bd (d := d) (c := c) (fs := fs) (Ls := (List.range k).map (colL R fs.length)) (n := M + 1) hd hfac hc (by omega) hqend (by rw [List.length_map, List.length_range]; omega) (hTt k)
    refine ⟨_, rfl, fun x dx nx ndx nex => ⟨x, dx, d, rfl, upd_same, hd, fun HF FF kqF => ⟨rfl, ?_⟩⟩⟩
    have sF := Same.made nx ndx kqF
    refine ⟨_, rfl, _, rfl, _, rfl, false, x, af, q, d, c, fs, _, _, rfl, FF, hd, .inl (SqL.of (sF _ _ hafE)), hfac, hc, SqL.of (sF _ _ hqE), RE _ sF M (Nat.le_refl _), by rw [List.length_map, List.length_range]; omega, by rw [List.length_map, List.length_range]; exact hqend, .inr ⟨cols_none hd hcan M, fun y HG ys k1 hy hys hpm hst sG ny => ?_⟩⟩
    rw [eLs] at hpm
    have hlen := (hpb M (Nat.le_refl _)).2
    have hyl : ys.length ≤ 30000 := by
      have := hpm.length_eq
      rw [List.length_map] at this
      omega
    have hz : decide (((0, 0) : Int × Int) ∈ ys.map k1) = decide (tot fs us + c = 0) := decide_eq_decide.mpr (hpm.mem_iff.trans (zero_iff hd hus hR2))
    have sEG := sF.trans sG
    dsimp only [List.set_cons_succ, List.set_cons_zero]
    clear hst hpm ny FF
    -- mark in
    refine ⟨by show 2 ≤ sizeLine; decide, fun tp htp => ⟨_, rfl, pairP (0, 0), (ys.map k1).map pairP, .tup (SqT.of upd_same) (.cons (.int _) (.cons (.int _) .nil)), dp_pairs (sNew (Same.refl _) htp _ _ hy) (fun y hy => by
      obtain ⟨t, q1, q2⟩ := hys y hy
      exact ⟨t, q1, sNew (Same.refl _) htp _ _ q2⟩), shaped_pair _, shaped_pairs _, ?_⟩⟩
    have sH := sNew (o := .tup [.int 0, .int 0]) sEG htp
    rw [any_pair, hz]
    refine ⟨_, rfl, rfl, .bl (decide (tot fs us + c = 0)), .bl (decide (tot fs us + c = 0)), .bl (decide (tot fs us + c = 0)), ?_, rfl, rfl, by simp [dep], fun HI sI => ⟨_, rfl, iteF ?_⟩⟩
    · rw [show decide (V.int (tot fs us + c) = V.int 0) = decide (tot fs us + c = 0) from decide_eq_decide.mpr (by simp)]
      rfl
    have sEI := sH.trans sI
    have BI := BE.same sEI
    have hafI := sEI _ _ hafE
    have hqI := sEI _ _ hqE
    clear hy hys sH sEG sF sG sI hz
    -- mark at
    have lenr : ∀ k, ((List.range k).map fun j => V.ref (g2 j)).length = k := fun k => by rw [List.length_map, List.length_range]
    refine ⟨_, rfl, _, rfl, q, _, rfl, .inl (SqL.of hqI), _, _, rfl, rfl, b, c0, _, rfl, BI, by rw [lenr]; omega, by rw [lenr]; omega, fun at0 HJ at00 at01 BJ kpJ => ⟨by show 1 ≤ sizeLine; decide, fun lj hlj => ?_⟩⟩
    rw [lenr] at at01
    obtain ⟨r, rfl⟩ : ∃ r : Nat, at0 = (r : Int) := ⟨at0.toNat, by omega⟩
    have nq2 := nq
    have hqJ := kpJ _ _ nq.1 hqI
    have hafJ := kpJ _ _ naf7.1 hafI
    have kEJ : ∀ j, j < M → HJ (g2 j) = some (.tup ((colL R fs.length j).map V.int)) := fun j hj => kpJ.at_ BI.bag (sEI _ _ (hgE j hj)) (fun _ z => by cases z)
    have v1 := sNew (o := .lst [.int 0]) (Same.refl HJ) hlj
    have hlj1 := upd_same (H := HJ) (a := lj) (o := .lst [.int 0])
    refine ⟨_, rfl, _, rfl, q, _, rfl, .inl (SqL.of (v1 _ _ hqJ)), _, _, rfl, rfl, d, M + 1, by rw [lenr]; rfl, hd, by omega, fun sl HK nsl hsl sK => ?_⟩
    have hlj2 := sK _ _ hlj1
    refine ⟨lj, sl, _, _, rfl, rfl, hlj2, hsl, by rw [qs_len, sizeLine_eq]; show 1 + _ ≤ _; omega, fun st hst => ⟨by show 2 ≤ sizeLine; decide, fun tt htt => ⟨tt, _, rfl, SqT.of upd_same, rfl, _, _, rfl, _, _, rfl, rfl, ?_⟩⟩⟩
    have v2 := sNew (o := .lst ([V.int 0] ++ qs (per d) (M + 1 + 1))) (v1.trans sK) hst
    have hst2 := upd_same (H := HK) (a := st) (o := .lst ([V.int 0] ++ qs (per d) (M + 1 + 1)))
    have v3 := sNew (o := .tup [.int (r : Nat), .ref st]) v2 htt
    have hst3 := sNew (o := .tup [.int (r : Nat), .ref st]) (Same.refl _) htt _ _ hst2
    obtain ⟨HL, hHL⟩ : ∃ HL, upd (upd HK st (.lst ([V.int 0] ++ qs (per d) (M + 1 + 1)))) tt (.tup [.int (r : Nat), .ref st]) = HL := ⟨_, rfl⟩
    rw [hHL] at v3 hst3 ⊢
    have BL := BJ.same v3
    have hqL := v3 _ _ hqJ
    have hafL := v3 _ _ hafJ
    have hgL : ∀ j, j < M → HL (g2 j) = some (.tup ((colL R fs.length j).map V.int)) := fun j hj => v3 _ _ (kEJ j hj)
    have hrM : r ≤ M := by omega
    clear hHL v3 v2 hst2 hlj2 v1 hlj1 kEJ hqJ hafJ kpJ BJ BI hqI hafI hqE hafE sEI BE
    dsimp only [List.set_cons_succ, List.set_cons_zero]
    have hst_q : ∀ j, j < M + 2 → atI ([V.int 0] ++ qs (per d) (M + 1 + 1)) (((j : Nat) : Int) + 1) = some (.int (qn (per d) j)) := fun j hj => by
      rw [show ((j : Nat) : Int) + 1 = ((j + 1 : Nat) : Int) by omega]
      refine atI_nat ?_
      show (qs (per d) (M + 1 + 1))[j]? = _
      exact qs_get (by omega)
    have hst_m : atI ([V.int 0] ++ qs (per d) (M + 1 + 1)) (r : Nat) = some (.int (qm (per d) r)) := by
      refine atI_nat ?_
      cases r with
      | zero => rfl
      | succ r =>
        show (qs (per d) (M + 1 + 1))[r]? = _
        rw [qs_get (by omega)]
        rfl
    -- mark so far
    refine ⟨_, rfl, ?_⟩
    dsimp only [List.set_cons_succ, List.set_cons_zero]
    have hA := fun i => (ai_pos hd i).1
    have hwl : ∀ j, (colL R fs.length j).length = fs.length := fun j => by unfold colL; rw [List.length_map, List.length_range]
    refine ⟨_, rfl, r, rfl, by omega, by omega, for_range (n := r) (fun i σ H' => ∃ v15 : Option V, σ = [some (.ref a), some (.ref b), some (.int (0 + (i0 : Nat))), some (.int d), some (.ref af), some (.ref p5), some (.int rest), some (.int wy), some (.int c), some (.int (tot fs us + c)), some (.ref q), some (.ref y), some (.int (r : Nat)), some (.ref st), some (.int (sfar (per d) fs ((List.range i).map (colL R fs.length)) 0 c)), v15, v16, none, none, none, none, none, none] ∧ Same HL H')
      ⟨v15, rfl, Same.refl _⟩ ?_ ?_⟩
    · rintro i σ HM hi ⟨v15, rfl, sm⟩
      have hiM : i < M := by omega
      have hix : atI ([V.int 0] ++ qs (per d) (M + 1 + 1)) (0 + (i : Int) + 1) = some (.int (qn (per d) i)) := by rw [Int.zero_add]; exact hst_q i (by omega)
      have hiq : atI ((List.range M).map fun j => V.ref (g2 j)) (0 + (i : Int)) = some (V.ref (g2 i)) := by
        rw [Int.zero_add]
        refine atI_nat ?_
        rw [List.getElem?_map, List.getElem?_range hiM]
        rfl
      have hgi := sm _ _ (hgL i hiM)
      have hafM := sm _ _ hafL
      refine ⟨_, rfl, _, rfl, _, rfl, _, _, rfl, rfl, st, _, _, _, rfl, rfl, SqL.of (sm _ _ hst3), hix, _, rfl, _, rfl, _, rfl, q, _, _, _, rfl, rfl, SqL.of (sm _ _ hqL), hiq, false, true, af, g2 i, _, _, rfl, SqL.of hafM, SqT.of hgi, fun D2 hD2 => ?_⟩
      have hcol : ∀ x ∈ colL R fs.length i, 0 ≤ x ∧ x ≤ 4 := fun x hx => by
        have := col_dig (j := i) hd hcan x hx
        have := ai_pos hd i
        omega
      have htb := hTt (i + 1) (colL R fs.length i) (List.mem_map.mpr ⟨i, List.mem_range.mpr (by omega), rfl⟩)
      have hsn : sfar (per d) fs ((List.range (i + 1)).map (colL R fs.length)) 0 c = sfar (per d) fs ((List.range i).map (colL R fs.length)) 0 c + qn (per d) i * tot fs (colL R fs.length i) := by
        rw [List.range_succ, List.map_append, List.map_singleton, sfar_snoc, List.length_map, List.length_range, Nat.zero_add]
      have hwi := hwl i
      generalize colL R fs.length i = L at hgi hcol htb hsn hwi ⊢
      refine lc_it (walk_m (n := fs.length) (by rw [List.length_map]) (by rw [List.length_map]; exact hwi)) (fun j H' => H' D2 = some (.lst ((((fs.zip L).take j).map fun q => q.1 * q.2).map V.int)) ∧ Same HM H')
        ⟨upd_same, sNew (Same.refl _) hD2⟩ (fun j H' _ z => ⟨SqL.of (z.2 _ _ hafM), SqT.of (z.2 _ _ hgi)⟩) ?_ ?_
      · rintro j y H6 H7 hj ⟨h6, sm6⟩ ⟨q', y1, y2, rfl, nq, rfl, f1', f2'⟩
        obtain ⟨fj, gf, rfl⟩ := int_get (xs := fs) f1'
        obtain ⟨lj, gl, rfl⟩ := int_get (xs := L) f2'
        have blj : Bd 3 lj := by have := hcol lj (List.mem_of_getElem? gl); unfold Bd; omega
        refine ⟨q', [.int fj, .int lj], rfl, SqT.of upd_same, rfl, _, _, rfl, _, _, rfl, rfl, rfl, ?_⟩
        refine yes_if ⟨_, rfl, _, rfl, _, _, rfl, rfl, mulOk (fac_bd hfac gf) blj (by decide) (by decide) (by decide), ?_⟩
        exact dot_acc (by rw [List.length_zip]; omega) hD2 sm6 h6 nq gf gl
      rintro HN ⟨hb6, smb⟩
      rw [List.take_of_length_le (by rw [List.length_zip]; omega)] at hb6
      refine ⟨D2, _, rfl, SqL.of hb6, ?_⟩
      rw [show (((fs.zip L).map fun q => q.1 * q.2).sum) = tot fs L from rfl]
      have bq : Bd 120 (qn (per d) i) := by
        have := qn_pos hA i
        have := qn_mono hA (show i ≤ M + 1 by omega)
        unfold Bd
        omega
      refine ⟨_, _, rfl, rfl, mulOk bq (show Bd 11 (tot fs L) by unfold Bd; omega) (by decide) (by decide) (by decide), _, _, rfl, rfl, some (.int (0 + (i : Nat))), ?_, sm.trans smb⟩
      rw [hsn]
      rfl
    rintro σ HM ⟨v15, rfl, smL⟩
    dsimp only [List.set_cons_succ, List.set_cons_zero]
    have BM := BL.same smL
    have hqM := smL _ _ hqL
    have hafM := smL _ _ hafL
    have hstM := smL _ _ hst3
    have hgM : ∀ j, j < M → HM (g2 j) = some (.tup ((colL R fs.length j).map V.int)) := fun j hj => smL _ _ (hgL j hj)
    clear smL BL hqL hafL hst3 hgL hgE
    -- mark pairs
    clear RE
    refine ⟨_, rfl, fun x' dx' nx' ndx' nex' => ⟨x', dx', d, rfl, upd_same, hd, fun HN FN kqN => ⟨rfl, ?_⟩⟩⟩
    have sN := Same.made nx' ndx' kqN
    refine ⟨_, rfl, _, rfl, _, rfl, _, rfl, _, rfl, q, _, rfl, SqL.of (sN _ _ hqM), fun q6 hq6 => ?_⟩
    rw [cut_to, ← List.map_take, List.take_range, Nat.min_eq_left hrM]
    have s6 := sNew (o := .lst ((List.range r).map fun j => V.ref (g2 j))) (Same.refl HN) hq6
    have h6 := upd_same (H := HN) (a := q6) (o := .lst ((List.range r).map fun j => V.ref (g2 j)))
    have sNO := sN.trans s6
    have FO := FN.same s6
    generalize upd HN q6 (.lst ((List.range r).map fun j => V.ref (g2 j))) = HO at s6 h6 sNO FO ⊢
    have RO : Rps K HO ((List.range r).map fun j => V.ref (g2 j)) ((List.range r).map fun j => D.tup ((colL R fs.length j).map D.int)) := rps_tups _ fun j hj => by
      have hj := List.mem_range.mp hj
      exact ⟨sNO _ _ (hgM j (by omega)), by rw [hwl]; omega⟩
    have hqr : qn (per d) (r + 1) < 2 ^ 120 := by
      have := qn_mono hA (show r + 1 ≤ M + 1 by omega)
      omega
    refine ⟨false, x', af, q6, d, c, fs, _, _, rfl, FO, hd, .inl (SqL.of (sNO _ _ hafM)), hfac, hc, SqL.of h6, RO, by rw [lenr]; omega, by rw [lenr]; exact hqr, .inr ⟨cols_none hd hcan r, fun y2 HP zs k2 hy2 hzs hpm2 hst2 sP ny2 => ?_⟩⟩
    rw [eLs] at hpm2
    obtain ⟨hb2, hlen2⟩ := hpb r hrM
    have hzl : zs.length ≤ 30000 := by
      have := hpm2.length_eq
      rw [List.length_map] at this
      omega
    have hid : ∀ z ∈ zs, Bd 300 (k2 z).1 ∧ Bd 300 (k2 z).2 ∧ (k2 z).1 * qn (per d) r + (k2 z).2 * qm (per d) r + sfar (per d) fs ((List.range r).map (colL R fs.length)) 0 c = 0 := fun z hz => by
      have hm := hpm2.mem_iff.mp (List.mem_map.mpr ⟨z, hz, rfl⟩)
      have h1 := hb2 _ hm
      have h2 := pairs_id hd _ hm
      rw [List.length_map, List.length_range] at h2
      exact ⟨h1.1, h1.2, h2⟩
    have bq : Bd 120 (qn (per d) r) := by
      have := qn_pos hA r
      have := qn_mono hA (show r ≤ M + 1 by omega)
      unfold Bd
      omega
    have bm : Bd 120 (qm (per d) r) := by
      cases r with
      | zero => show (0 : Int).natAbs < _; decide
      | succ r =>
        have h1 : qm (per d) (r + 1) = qn (per d) r := rfl
        have := qn_pos hA r
        have := qn_mono hA (show r ≤ M + 1 by omega)
        rw [h1]
        unfold Bd
        omega
    have sMP := sNO.trans sP
    have BP := BM.same sMP
    have hstP := sMP _ _ hstM
    generalize sfar (per d) fs ((List.range r).map (colL R fs.length)) 0 c = S at *
    dsimp only [List.set_cons_succ, List.set_cons_zero]
    clear hpm2 hst2 hb2 RO FO FN sN s6 sNO sP hpb hTt eLs
    -- mark all
    refine ⟨_, rfl, y2, rfl, ⟨_, SqL.of hy2⟩, fun D3 hD3 => ?_⟩
    refine lc_list (K := K) (a := y2) (xs := zs) (fun u H' => H' D3 = some (.lst ((List.replicate u true).map V.bl)) ∧ Same HP H') ⟨upd_same, sNew (Same.refl _) hD3⟩ (fun i H' _ h => SqL.of (h.2 _ _ hy2)) ?_ ?_
    · rintro u z HQ hz ⟨hQ, sQ⟩
      have hzm := List.mem_of_getElem? hz
      have hul := (List.getElem?_eq_some_iff.mp hz).1
      obtain ⟨t, rfl, ht⟩ := hzs z hzm
      obtain ⟨b1', b2', hid'⟩ := hid _ hzm
      have hstQ := sQ _ _ hstP
      refine ⟨t, _, rfl, SqT.of (sQ _ _ ht), rfl, _, _, rfl, _, _, rfl, rfl, rfl, ?_⟩
      refine yes_if ⟨_, rfl, _, rfl, _, rfl, _, _, rfl, rfl, st, _, _, _, rfl, rfl, SqL.of hstQ, hst_q r (by omega), _, _, rfl, rfl, mulOk b1' bq (by decide) (by decide) (by decide), _, rfl, _, rfl, _, rfl, st, _, _, _, rfl, rfl, SqL.of hstQ, hst_m, _, _, rfl, rfl, mulOk b2' bm (by decide) (by decide) (by decide), _, _, rfl, rfl, _, rfl, _, _, rfl, rfl, rfl, ?_⟩
      refine ⟨_, hQ, by rw [List.length_map, List.length_replicate, sizeLine_eq]; omega, ?_, sm_upd sQ hD3⟩
      have hdec : decide (V.int ((k2 (V.ref t)).1 * qn (per d) r + (k2 (V.ref t)).2 * qm (per d) r + S) = V.int 0) = true := decide_eq_true (congrArg V.int hid')
      rw [upd_same, List.replicate_succ', List.map_append]
      exact congrArg (fun b => some (L2.HO.lst (((List.replicate u true).map V.bl) ++ [V.bl b]))) hdec
    rintro HQ ⟨hQ, sQ⟩
    refine ⟨D3, _, rfl, SqL.of hQ, ?_⟩
    rw [show (List.replicate zs.length true).all id = true from List.all_eq_true.mpr fun x hx => (List.mem_replicate.mp hx).2]
    exact ⟨_, rfl, iteF ⟨_, _, _, _, _, _, _, _, _, _, _, _, _, _, _, rfl, BP.same sQ⟩⟩
  · rintro σ H2 ⟨v2, v3, v4, v5, v6, v7, v8, v9, v10, v11, v12, v13, v14, v15, v16, rfl, B2⟩
    exact kk _
end
end RF

namespace RF
open PySem L2 PyProof.Rows EX
open PySem.HandSPX
def fI : List DictEntry → Int → Option Value
  | [], _ => none
  | c :: r, i => if Value.isInt i c.key = true then some c.val else fI r i
theorem find_fI : ∀ (l : List DictEntry) (i : Int), (l.find? fun c => Value.isInt i c.key).map (·.val) = fI l i
  | [], _ => rfl
  | c :: r, i => by
    rw [List.find?_cons]
    unfold fI
    cases h : Value.isInt i c.key
    · rw [if_neg (by decide)]
      exact find_fI r i
    · rw [if_pos rfl]; rfl
theorem findBy_fI (es : Array DictEntry) (i : Int) : findBy Value.isInt es i = fI es.toList i := by
  unfold findBy
  rw [← find_fI, ← List.find?_toArray]
theorem Df.mono {P : Program} {w : World} {K : PySem.W.Frag} {mg : Str → Option Value} {base : Heap} {j k : Nat} {x : Str} {ps : List Str} {sp : Sp} (D : Df P w K mg base j x ps sp) (h : j ≤ k) : Df P w K mg base k x ps sp := by
  obtain ⟨f, fd, G, b, m, kp⟩ := D.ex
  exact ⟨f, fd, G.mono h, b, m, kp⟩
theorem txtD : TxtE "InvalidDigits" "index" "InvalidDigits.__init__" (inClass (top 7) 0) where
  body := ⟨_, _, _, _, _, _, _, _, _, _, _, _, _, _, _, rfl, fun fI cda cc => ⟨rfl, rfl, rfl, rfl, rfl, rfl, by decide +kernel, fun _ => rfl, fun _ => rfl, fun _ => ⟨_, rfl⟩, fun _ => rfl, fun _ => rfl⟩, fun _ _ _ _ => rfl⟩
  hd := ⟨_, rfl, rfl⟩
  fs := by decide
  fd := by decide
  loc := rfl
  bind := fun _ _ _ _ _ _ _ _ _ => .of_eq rfl
theorem all_mk {l : PySem.W.OpenLaw} {w : World} {K : PySem.W.Frag} {h : Heap} {mg : Str → Option Value} {fa : Addr} (X : K.In h) (G : h.Ns mainGlobals mg) (hfa : mg "law" = some (.ref fa)) 
    {f1 : Addr} {od1 an1 : Option Addr} {sl1 : Array (Option Value)} {oc1 kV1 dc1 pm1 cd1 ct1 : Value}
    {f2 : Addr} {od2 an2 : Option Addr} {sl2 : Array (Option Value)} {oc2 kV2 dc2 pm2 cd2 ct2 : Value}
    {f3 : Addr} {od3 an3 : Option Addr} {sl3 : Array (Option Value)} {oc3 kV3 dc3 pm3 cd3 ct3 : Value}
    {f4 : Addr} {od4 an4 : Option Addr} {sl4 : Array (Option Value)} {oc4 kV4 dc4 pm4 cd4 ct4 : Value}
    {f5 : Addr} {od5 an5 : Option Addr} {sl5 : Array (Option Value)} {oc5 kV5 dc5 pm5 cd5 ct5 : Value}
    {f6 : Addr} {od6 an6 : Option Addr} {sl6 : Array (Option Value)} {oc6 kV6 dc6 pm6 cd6 ct6 : Value}
    {f7 : Addr} {od7 an7 : Option Addr} {sl7 : Array (Option Value)} {oc7 kV7 dc7 pm7 cd7 ct7 : Value}
    {f8 : Addr} {od8 an8 : Option Addr} {sl8 : Array (Option Value)} {oc8 kV8 dc8 pm8 cd8 ct8 : Value}
    {f9 : Addr} {od9 an9 : Option Addr} {sl9 : Array (Option Value)} {oc9 kV9 dc9 pm9 cd9 ct9 : Value}
    {f10 : Addr} {od10 an10 : Option Addr} {sl10 : Array (Option Value)} {oc10 kV10 dc10 pm10 cd10 ct10 : Value}
    {f11 : Addr} {od11 an11 : Option Addr} {sl11 : Array (Option Value)} {oc11 kV11 dc11 pm11 cd11 ct11 : Value}
    {f12 : Addr} {od12 an12 : Option Addr} {sl12 : Array (Option Value)} {oc12 kV12 dc12 pm12 cd12 ct12 : Value}
    {f13 : Addr} {od13 an13 : Option Addr} {sl13 : Array (Option Value)} {oc13 kV13 dc13 pm13 cd13 ct13 : Value}
    {f14 : Addr} {od14 an14 : Option Addr} {sl14 : Array (Option Value)} {oc14 kV14 dc14 pm14 cd14 ct14 : Value}
    {f15 : Addr} {od15 an15 : Option Addr} {sl15 : Array (Option Value)} {oc15 kV15 dc15 pm15 cd15 ct15 : Value}
    {f16 : Addr} {od16 an16 : Option Addr} {sl16 : Array (Option Value)} {oc16 kV16 dc16 pm16 cd16 ct16 : Value}
    {f17 : Addr} {od17 an17 : Option Addr} {sl17 : Array (Option Value)} {oc17 kV17 dc17 pm17 cd17 ct17 : Value}
    {f18 : Addr} {od18 an18 : Option Addr} {sl18 : Array (Option Value)} {oc18 kV18 dc18 pm18 cd18 ct18 : Value}
    {f19 : Addr} {od19 an19 : Option Addr} {sl19 : Array (Option Value)} {oc19 kV19 dc19 pm19 cd19 ct19 : Value}
    {f20 : Addr} {od20 an20 : Option Addr} {sl20 : Array (Option Value)} {oc20 kV20 dc20 pm20 cd20 ct20 : Value}
    {f21 : Addr} {od21 an21 : Option Addr} {sl21 : Array (Option Value)} {oc21 kV21 dc21 pm21 cd21 ct21 : Value}
    {f22 : Addr} {od22 an22 : Option Addr} {sl22 : Array (Option Value)} {oc22 kV22 dc22 pm22 cd22 ct22 : Value}
    {f23 : Addr} {od23 an23 : Option Addr} {sl23 : Array (Option Value)} {oc23 kV23 dc23 pm23 cd23 ct23 : Value}
    {C : Addr}
    {f24 T0 D0 : Addr} {oT : Obj} {tT : Tok} {nT : Nat} {t1 : Tok} {od24 an24 : Option Addr} {sl24 : Array (Option Value)} {oc24 dc24 pm24 cd24 ct24 : Value}
    {f25 : Addr} {od25 an25 : Option Addr} {sl25 : Array (Option Value)} {oc25 kV25 dc25 pm25 cd25 ct25 : Value}
    {f26 : Addr} {od26 an26 : Option Addr} {sl26 : Array (Option Value)} {oc26 kV26 dc26 pm26 cd26 ct26 : Value}
    {CF : Addr}
    {f27 : Addr} {od27 an27 : Option Addr} {sl27 : Array (Option Value)} {oc27 kV27 dc27 pm27 cd27 ct27 : Value}
    {pfrt : Addr} {rsfrt : List Value}
    {f28 : Addr} {od28 an28 : Option Addr} {sl28 : Array (Option Value)} {oc28 kV28 dc28 pm28 cd28 ct28 : Value}
    {pfpe : Addr} {rsfpe : List Value}
    {f29 : Addr} {od29 an29 : Option Addr} {sl29 : Array (Option Value)} {oc29 kV29 dc29 pm29 cd29 ct29 : Value}
    {pftp : Addr} {rsftp : List Value}
    {f30 : Addr} {od30 an30 : Option Addr} {sl30 : Array (Option Value)} {oc30 kV30 dc30 pm30 cd30 ct30 : Value}
    {pd : Addr} {es : Array DictEntry} {npp : Nat}
    {td : Addr} {et : Array DictEntry} {ntd : Nat}
    {R NR : Addr} {nR qR : Str} {bsR bmR : List Value} {snR : List Str} {subR : List Value} {abR : Bool} {colR : Option Bool} {ddR : Option Addr} {r0 r1 r2 r3 r5 : Option Value}
    {ED ND fED cdaD ccD : Addr} {nmD qD : Str} {bsD : List Value} {snD : List Str} {subD : List Value} {abD : Bool} {colD : Option Bool} {ddD : Option Addr} {kD0 kD1 kD2 kD3 kD5 : Option Value} {ocED docED pmED ctED : Value} {odED anED : Option Addr} {slED : Array (Option Value)} {cclD : Value} {cddD : Option Addr} {vsD : Array Value} {ccsD : Array (Option Value)} {fileD : Str} {tfD : Tok} {clD : Value} {cldD : Option Addr} {cslD : Array (Option Value)}
    {f31 : Addr} {od31 an31 : Option Addr} {sl31 : Array (Option Value)} {oc31 kV31 dc31 pm31 cd31 ct31 : Value}
    {qp2 : Addr} {op2 : Obj} {np2 : Nat} {kp2_0 : Tok}
    {qp3 : Addr} {op3 : Obj} {np3 : Nat} {kp3_0 kp3_1 : Tok}
    {qp5 : Addr} {op5 : Obj} {np5 : Nat} {kp5_0 : Tok}
    {qp6 : Addr} {op6 : Obj} {np6 : Nat} {kp6_0 kp6_1 : Tok}
    {qp13 : Addr} {op13 : Obj} {np13 : Nat} {kp13_0 : Tok}
    {qt2 qt2_0 : Addr} {ot2 : Obj} {nt2 : Nat}
    {ot2_0 : Obj} {nt2_0 : Nat} {kt2_0_0 kt2_0_1 kt2_0_2 : Tok}
    {qt3 qt3_0 qt3_1 : Addr} {ot3 : Obj} {nt3 : Nat}
    {ot3_0 : Obj} {nt3_0 : Nat} {kt3_0_0 kt3_0_1 kt3_0_2 : Tok}
    {ot3_1 : Obj} {nt3_1 : Nat} {kt3_1_0 kt3_1_1 kt3_1_2 : Tok}
    {qt5 qt5_0 : Addr} {ot5 : Obj} {nt5 : Nat}
    {ot5_0 : Obj} {nt5_0 : Nat} {kt5_0_0 kt5_0_1 kt5_0_2 : Tok}
    {qt6 qt6_0 qt6_1 : Addr} {ot6 : Obj} {nt6 : Nat}
    {ot6_0 : Obj} {nt6_0 : Nat} {kt6_0_0 kt6_0_1 kt6_0_2 : Tok}
    {ot6_1 : Obj} {nt6_1 : Nat} {kt6_1_0 kt6_1_1 kt6_1_2 : Tok}
    {qt13 qt13_0 : Addr} {ot13 : Obj} {nt13 : Nat}
    {ot13_0 : Obj} {nt13_0 : Nat} {kt13_0_0 kt13_0_1 kt13_0_2 : Tok}
    (a1 : PySem.W.nsIn K mainGlobals "is_whole" = some (some (.ref f1)))
    (l1 : K.lookup f1 = some ⟨oc1, od1, .func (PySem.W.fnOf "is_whole" "is_whole" (defArgs (top 11)) (defBody (top 11)) (defScope (top 11)) .none kV1 dc1 pm1 an1 cd1 ct1), sl1⟩)
    (c1 : PySem.W.codeIn K cd1 "is_whole" = true)
    (k1 : PySem.W.keepIn K (.ref f1) = true)
    (a2 : PySem.W.nsIn K mainGlobals "is_between" = some (some (.ref f2)))
    (l2 : K.lookup f2 = some ⟨oc2, od2, .func (PySem.W.fnOf "is_between" "is_between" (defArgs (top 12)) (defBody (top 12)) (defScope (top 12)) .none kV2 dc2 pm2 an2 cd2 ct2), sl2⟩)
    (c2 : PySem.W.codeIn K cd2 "is_between" = true)
    (k2 : PySem.W.keepIn K (.ref f2) = true)
    (a3 : PySem.W.nsIn K mainGlobals "is_root" = some (some (.ref f3)))
    (l3 : K.lookup f3 = some ⟨oc3, od3, .func (PySem.W.fnOf "is_root" "is_root" (defArgs (top 14)) (defBody (top 14)) (defScope (top 14)) .none kV3 dc3 pm3 an3 cd3 ct3), sl3⟩)
    (c3 : PySem.W.codeIn K cd3 "is_root" = true)
    (k3 : PySem.W.keepIn K (.ref f3) = true)
    (a4 : PySem.W.nsIn K mainGlobals "_part_above" = some (some (.ref f4)))
    (l4 : K.lookup f4 = some ⟨oc4, od4, .func (PySem.W.fnOf "_part_above" "_part_above" (defArgs (top 28)) (defBody (top 28)) (defScope (top 28)) .none kV4 dc4 pm4 an4 cd4 ct4), sl4⟩)
    (c4 : PySem.W.codeIn K cd4 "_part_above" = true)
    (k4 : PySem.W.keepIn K (.ref f4) = true)
    (a5 : PySem.W.nsIn K mainGlobals "can_stand" = some (some (.ref f5)))
    (l5 : K.lookup f5 = some ⟨oc5, od5, .func (PySem.W.fnOf "can_stand" "can_stand" (defArgs (top 31)) (defBody (top 31)) (defScope (top 31)) .none kV5 dc5 pm5 an5 cd5 ct5), sl5⟩)
    (c5 : PySem.W.codeIn K cd5 "can_stand" = true)
    (k5 : PySem.W.keepIn K (.ref f5) = true)
    (a6 : PySem.W.nsIn K mainGlobals "_check_letters" = some (some (.ref f6)))
    (l6 : K.lookup f6 = some ⟨oc6, od6, .func (PySem.W.fnOf "_check_letters" "_check_letters" (defArgs (top 34)) (defBody (top 34)) (defScope (top 34)) .none kV6 dc6 pm6 an6 cd6 ct6), sl6⟩)
    (c6 : PySem.W.codeIn K cd6 "_check_letters" = true)
    (k6 : PySem.W.keepIn K (.ref f6) = true)
    (a7 : PySem.W.nsIn K mainGlobals "_bound" = some (some (.ref f7)))
    (l7 : K.lookup f7 = some ⟨oc7, od7, .func (PySem.W.fnOf "_bound" "_bound" (defArgs (top 35)) (defBody (top 35)) (defScope (top 35)) .none kV7 dc7 pm7 an7 cd7 ct7), sl7⟩)
    (c7 : PySem.W.codeIn K cd7 "_bound" = true)
    (k7 : PySem.W.keepIn K (.ref f7) = true)
    (a8 : PySem.W.nsIn K mainGlobals "_gap" = some (some (.ref f8)))
    (l8 : K.lookup f8 = some ⟨oc8, od8, .func (PySem.W.fnOf "_gap" "_gap" (defArgs (top 37)) (defBody (top 37)) (defScope (top 37)) .none kV8 dc8 pm8 an8 cd8 ct8), sl8⟩)
    (c8 : PySem.W.codeIn K cd8 "_gap" = true)
    (k8 : PySem.W.keepIn K (.ref f8) = true)
    (a9 : PySem.W.nsIn K mainGlobals "_carry" = some (some (.ref f9)))
    (l9 : K.lookup f9 = some ⟨oc9, od9, .func (PySem.W.fnOf "_carry" "_carry" (defArgs (top 36)) (defBody (top 36)) (defScope (top 36)) .none kV9 dc9 pm9 an9 cd9 ct9), sl9⟩)
    (c9 : PySem.W.codeIn K cd9 "_carry" = true)
    (k9 : PySem.W.keepIn K (.ref f9) = true)
    (a10 : PySem.W.nsIn K mainGlobals "_kept_range" = some (some (.ref f10)))
    (l10 : K.lookup f10 = some ⟨oc10, od10, .func (PySem.W.fnOf "_kept_range" "_kept_range" (defArgs (top 38)) (defBody (top 38)) (defScope (top 38)) .none kV10 dc10 pm10 an10 cd10 ct10), sl10⟩)
    (c10 : PySem.W.codeIn K cd10 "_kept_range" = true)
    (k10 : PySem.W.keepIn K (.ref f10) = true)
    (a11 : PySem.W.nsIn K mainGlobals "_divided" = some (some (.ref f11)))
    (l11 : K.lookup f11 = some ⟨oc11, od11, .func (PySem.W.fnOf "_divided" "_divided" (defArgs (top 39)) (defBody (top 39)) (defScope (top 39)) .none kV11 dc11 pm11 an11 cd11 ct11), sl11⟩)
    (c11 : PySem.W.codeIn K cd11 "_divided" = true)
    (k11 : PySem.W.keepIn K (.ref f11) = true)
    (a12 : PySem.W.nsIn K mainGlobals "carried" = some (some (.ref f12)))
    (l12 : K.lookup f12 = some ⟨oc12, od12, .func (PySem.W.fnOf "carried" "carried" (defArgs (top 33)) (defBody (top 33)) (defScope (top 33)) .none kV12 dc12 pm12 an12 cd12 ct12), sl12⟩)
    (c12 : PySem.W.codeIn K cd12 "carried" = true)
    (k12 : PySem.W.keepIn K (.ref f12) = true)
    (a13 : PySem.W.nsIn K mainGlobals "_law_bag" = some (some (.ref f13)))
    (l13 : K.lookup f13 = some ⟨oc13, od13, .func (PySem.W.fnOf "_law_bag" "_law_bag" (defArgs (top 41)) (defBody (top 41)) (defScope (top 41)) .none kV13 dc13 pm13 an13 cd13 ct13), sl13⟩)
    (c13 : PySem.W.codeIn K cd13 "_law_bag" = true)
    (k13 : PySem.W.keepIn K (.ref f13) = true)
    (a14 : PySem.W.nsIn K mainGlobals "_law_pull" = some (some (.ref f14)))
    (l14 : K.lookup f14 = some ⟨oc14, od14, .func (PySem.W.fnOf "_law_pull" "_law_pull" (defArgs (top 42)) (defBody (top 42)) (defScope (top 42)) .none kV14 dc14 pm14 an14 cd14 ct14), sl14⟩)
    (c14 : PySem.W.codeIn K cd14 "_law_pull" = true)
    (k14 : PySem.W.keepIn K (.ref f14) = true)
    (a15 : PySem.W.nsIn K mainGlobals "_law_of" = some (some (.ref f15)))
    (l15 : K.lookup f15 = some ⟨oc15, od15, .func (PySem.W.fnOf "_law_of" "_law_of" (defArgs (top 43)) (defBody (top 43)) (defScope (top 43)) .none kV15 dc15 pm15 an15 cd15 ct15), sl15⟩)
    (c15 : PySem.W.codeIn K cd15 "_law_of" = true)
    (k15 : PySem.W.keepIn K (.ref f15) = true)
    (a16 : PySem.W.nsIn K mainGlobals "_law_same" = some (some (.ref f16)))
    (l16 : K.lookup f16 = some ⟨oc16, od16, .func (PySem.W.fnOf "_law_same" "_law_same" (defArgs (top 44)) (defBody (top 44)) (defScope (top 44)) .none kV16 dc16 pm16 an16 cd16 ct16), sl16⟩)
    (c16 : PySem.W.codeIn K cd16 "_law_same" = true)
    (k16 : PySem.W.keepIn K (.ref f16) = true)
    (a17 : PySem.W.nsIn K mainGlobals "_law_far" = some (some (.ref f17)))
    (l17 : K.lookup f17 = some ⟨oc17, od17, .func (PySem.W.fnOf "_law_far" "_law_far" (defArgs (top 45)) (defBody (top 45)) (defScope (top 45)) .none kV17 dc17 pm17 an17 cd17 ct17), sl17⟩)
    (c17 : PySem.W.codeIn K cd17 "_law_far" = true)
    (k17 : PySem.W.keepIn K (.ref f17) = true)
    (a18 : PySem.W.nsIn K mainGlobals "_law_period" = some (some (.ref f18)))
    (l18 : K.lookup f18 = some ⟨oc18, od18, .func (PySem.W.fnOf "_law_period" "_law_period" (defArgs (top 46)) (defBody (top 46)) (defScope (top 46)) .none kV18 dc18 pm18 an18 cd18 ct18), sl18⟩)
    (c18 : PySem.W.codeIn K cd18 "_law_period" = true)
    (k18 : PySem.W.keepIn K (.ref f18) = true)
    (a19 : PySem.W.nsIn K mainGlobals "_law_steps" = some (some (.ref f19)))
    (l19 : K.lookup f19 = some ⟨oc19, od19, .func (PySem.W.fnOf "_law_steps" "_law_steps" (defArgs (top 47)) (defBody (top 47)) (defScope (top 47)) .none kV19 dc19 pm19 an19 cd19 ct19), sl19⟩)
    (c19 : PySem.W.codeIn K cd19 "_law_steps" = true)
    (k19 : PySem.W.keepIn K (.ref f19) = true)
    (a20 : PySem.W.nsIn K mainGlobals "_law_digits" = some (some (.ref f20)))
    (l20 : K.lookup f20 = some ⟨oc20, od20, .func (PySem.W.fnOf "_law_digits" "_law_digits" (defArgs (top 48)) (defBody (top 48)) (defScope (top 48)) .none kV20 dc20 pm20 an20 cd20 ct20), sl20⟩)
    (c20 : PySem.W.codeIn K cd20 "_law_digits" = true)
    (k20 : PySem.W.keepIn K (.ref f20) = true)
    (a21 : PySem.W.nsIn K mainGlobals "_law_root" = some (some (.ref f21)))
    (l21 : K.lookup f21 = some ⟨oc21, od21, .func (PySem.W.fnOf "_law_root" "_law_root" (defArgs (top 49)) (defBody (top 49)) (defScope (top 49)) .none kV21 dc21 pm21 an21 cd21 ct21), sl21⟩)
    (c21 : PySem.W.codeIn K cd21 "_law_root" = true)
    (k21 : PySem.W.keepIn K (.ref f21) = true)
    (a22 : PySem.W.nsIn K mainGlobals "_law_letters" = some (some (.ref f22)))
    (l22 : K.lookup f22 = some ⟨oc22, od22, .func (PySem.W.fnOf "_law_letters" "_law_letters" (defArgs (top 50)) (defBody (top 50)) (defScope (top 50)) .none kV22 dc22 pm22 an22 cd22 ct22), sl22⟩)
    (c22 : PySem.W.codeIn K cd22 "_law_letters" = true)
    (k22 : PySem.W.keepIn K (.ref f22) = true)
    (a23 : PySem.W.nsIn K mainGlobals "_law_factors" = some (some (.ref f23)))
    (l23 : K.lookup f23 = some ⟨oc23, od23, .func (PySem.W.fnOf "_law_factors" "_law_factors" (defArgs (top 51)) (defBody (top 51)) (defScope (top 51)) .none kV23 dc23 pm23 an23 cd23 ct23), sl23⟩)
    (c23 : PySem.W.codeIn K cd23 "_law_factors" = true)
    (k23 : PySem.W.keepIn K (.ref f23) = true)
    (aCC : PySem.W.nsIn K mainGlobals "Surd" = some (some (.ref C)))
    (a24 : PySem.W.findIn K (.ref C) "__init__" = some (some (.ref f24)))
    (i24 : PySem.W.isFn K (.ref f24) = true)
    (l24 : K.lookup f24 = some ⟨oc24, od24, .func (PySem.W.fnOf "__init__" "Surd.__init__" (defArgs (sS 0)) (defBody (sS 0)) (defScope (sS 0)) (.ref T0) (.ref D0) dc24 pm24 an24 cd24 ct24), sl24⟩)
    (c24 : PySem.W.codeIn K cd24 "Surd.__init__" = true)
    (k24 : PySem.W.keepIn K (.ref f24) = true)
    (lT : K.lookup T0 = some oT)
    (dT : oT.data = .seq #[.int 0 tT] nT)
    (kD : PySem.W.nsIn K D0 "k" = some (some (.int 1 t1)))
    (aG : PySem.W.nsIn K mainGlobals "gcd" = some (some (.builtin "math.gcd")))
    (a25 : PySem.W.findIn K (.ref C) "sign" = some (some (.ref f25)))
    (l25 : K.lookup f25 = some ⟨oc25, od25, .func (PySem.W.fnOf "sign" "Surd.sign" (defArgs (sS 4)) (defBody (sS 4)) (defScope (sS 4)) .none kV25 dc25 pm25 an25 cd25 ct25), sl25⟩)
    (c25 : PySem.W.codeIn K cd25 "Surd.sign" = true)
    (k25 : PySem.W.keepIn K (.ref f25) = true)
    (i25 : PySem.W.isFn K (.ref f25) = true)
    (a26 : PySem.W.findIn K (.ref C) "floor" = some (some (.ref f26)))
    (l26 : K.lookup f26 = some ⟨oc26, od26, .func (PySem.W.fnOf "floor" "Surd.floor" (defArgs (sS 5)) (defBody (sS 5)) (defScope (sS 5)) .none kV26 dc26 pm26 an26 cd26 ct26), sl26⟩)
    (c26 : PySem.W.codeIn K cd26 "Surd.floor" = true)
    (k26 : PySem.W.keepIn K (.ref f26) = true)
    (i26 : PySem.W.isFn K (.ref f26) = true)
    (aCCF : PySem.W.nsIn K mainGlobals "Field" = some (some (.ref CF)))
    (a27 : PySem.W.findIn K (.ref CF) "__init__" = some (some (.ref f27)))
    (l27 : K.lookup f27 = some ⟨oc27, od27, .func (PySem.W.fnOf "__init__" "Field.__init__" (defArgs (sF 1)) (defBody (sF 1)) (defScope (sF 1)) .none kV27 dc27 pm27 an27 cd27 ct27), sl27⟩)
    (c27 : PySem.W.codeIn K cd27 "Field.__init__" = true)
    (k27 : PySem.W.keepIn K (.ref f27) = true)
    (i27 : PySem.W.isFn K (.ref f27) = true)
    (atfrt : PySem.W.findIn K (.ref CF) "root" = some (some (.ref pfrt)))
    (gefrt : PySem.W.specialIn K (.ref pfrt) "__get__" = some (some (.builtin "property.__get__")))
    (tkfrt : PySem.W.takesIn K (.ref pfrt) = some true)
    (a28 : PySem.W.recIn K pfrt "property" = some (.ref f28 :: rsfrt))
    (l28 : K.lookup f28 = some ⟨oc28, od28, .func (PySem.W.fnOf "root" "Field.root" (defArgs (sF 2)) (defBody (sF 2)) (defScope (sF 2)) .none kV28 dc28 pm28 an28 cd28 ct28), sl28⟩)
    (c28 : PySem.W.codeIn K cd28 "Field.root" = true)
    (k28 : PySem.W.keepIn K (.ref f28) = true)
    (atfpe : PySem.W.findIn K (.ref CF) "period" = some (some (.ref pfpe)))
    (gefpe : PySem.W.specialIn K (.ref pfpe) "__get__" = some (some (.builtin "property.__get__")))
    (tkfpe : PySem.W.takesIn K (.ref pfpe) = some true)
    (a29 : PySem.W.recIn K pfpe "property" = some (.ref f29 :: rsfpe))
    (l29 : K.lookup f29 = some ⟨oc29, od29, .func (PySem.W.fnOf "period" "Field.period" (defArgs (sF 3)) (defBody (sF 3)) (defScope (sF 3)) .none kV29 dc29 pm29 an29 cd29 ct29), sl29⟩)
    (c29 : PySem.W.codeIn K cd29 "Field.period" = true)
    (k29 : PySem.W.keepIn K (.ref f29) = true)
    (atftp : PySem.W.findIn K (.ref CF) "top" = some (some (.ref pftp)))
    (geftp : PySem.W.specialIn K (.ref pftp) "__get__" = some (some (.builtin "property.__get__")))
    (tkftp : PySem.W.takesIn K (.ref pftp) = some true)
    (a30 : PySem.W.recIn K pftp "property" = some (.ref f30 :: rsftp))
    (l30 : K.lookup f30 = some ⟨oc30, od30, .func (PySem.W.fnOf "top" "Field.top" (defArgs (sF 4)) (defBody (sF 4)) (defScope (sF 4)) .none kV30 dc30 pm30 an30 cd30 ct30), sl30⟩)
    (c30 : PySem.W.codeIn K cd30 "Field.top" = true)
    (k30 : PySem.W.keepIn K (.ref f30) = true)
    (aI : PySem.W.nsIn K mainGlobals "isqrt" = some (some (.builtin "math.isqrt")))
    (aR : PySem.W.nsIn K mainGlobals "RootError" = some (some (.ref R)))
    (lR : K.lookup R = some (excClassObj nR qR R NR bsR bmR true snR subR abR colR ddR r0 r1 r2 r3 r5 "ValueError.__new__"))
    (vR : refsVE bmR = true)
    (fR : PySem.W.findIn K (.ref R) "__init__" = some (some (.builtin "ValueError.__init__")))
    (oq : PySem.W.nsIn K cStatics "thirdparty.any" = some none)
    (tp : (l.prog.main.scope.names.lookup ("super" : Str)).isSome = false)
    (aED : PySem.W.nsIn K mainGlobals "InvalidDigits" = some (some (.ref ED)))
    (lED : K.lookup ED = some (excClassObj nmD qD ED ND bsD (.ref R :: bmR) true snD subD abD colD ddD kD0 kD1 kD2 kD3 kD5 "ValueError.__new__"))
    (saED : PySem.W.findIn K (.ref ED) "__setattr__" = some (some (.builtin "object.__setattr__")))
    (gaED : PySem.W.findIn K (.ref ED) "__getattribute__" = some (some (.builtin "BaseException.__getattribute__")))
    (ggED : PySem.W.findIn K (.ref ED) "__getattr__" = some none)
    (ntED : PySem.W.findIn K (.ref ED) "tag" = some none)
    (ngED : PySem.W.findIn K (.ref ED) "index" = some none)
    (iED : PySem.W.findIn K (.ref ED) "__init__" = some (some (.ref fED)))
    (tED : PySem.W.typeIn K (.ref fED) = some (.type "function"))
    (kED : PySem.W.keepIn K (.ref ED) = true)
    (xED : PySem.W.subIn K (.ref ED) (.type "BaseException") = some true)
    (yED : PySem.W.typeIn K (.ref ED) = some (.type "type"))
    (hED : PySem.W.hasDictIn K ED = true)
    (mED : PySem.W.mroIn K ED (.ref ED) = some true)
    (jED : K.lookup fED = some ⟨ocED, odED, .func (PySem.W.ksFn "__init__" "InvalidDigits.__init__" (defArgs (inClass (top 7) 0)) (defBody (inClass (top 7) 0)) (defScope (inClass (top 7) 0)) .none .none docED pmED anED (.ref cdaD) ctED ccD), slED⟩)
    (cED : PySem.W.codeIn K (.ref cdaD) "InvalidDigits.__init__" = true)
    (dED : K.lookup cdaD = some ⟨cclD, cddD, .fields vsD, ccsD⟩)
    (vvED : vsD[2]? = some (.str fileD tfD))
    (pED : ((l.prog.main.file : Str) == fileD) = true)
    (uED : K.lookup ccD = some ⟨clD, cldD, .cell (some (.ref ED)), cslD⟩)
    (z_list : PySem.W.nsIn K mainGlobals "list" = some none)
    (z_len : PySem.W.nsIn K mainGlobals "len" = some none)
    (z_abs : PySem.W.nsIn K mainGlobals "abs" = some none)
    (z_int : PySem.W.nsIn K mainGlobals "int" = some none)
    (z_range : PySem.W.nsIn K mainGlobals "range" = some none)
    (z_isinstance : PySem.W.nsIn K mainGlobals "isinstance" = some none)
    (z_bool : PySem.W.nsIn K mainGlobals "bool" = some none)
    (z_str : PySem.W.nsIn K mainGlobals "str" = some none)
    (z_tuple : PySem.W.nsIn K mainGlobals "tuple" = some none)
    (z_all : PySem.W.nsIn K mainGlobals "all" = some none)
    (z_zip : PySem.W.nsIn K mainGlobals "zip" = some none)
    (z_max : PySem.W.nsIn K mainGlobals "max" = some none)
    (z_min : PySem.W.nsIn K mainGlobals "min" = some none)
    (z_sum : PySem.W.nsIn K mainGlobals "sum" = some none)
    (z_sorted : PySem.W.nsIn K mainGlobals "sorted" = some none)
    (z_enumerate : PySem.W.nsIn K mainGlobals "enumerate" = some none)
    (z_super : PySem.W.nsIn K mainGlobals "super" = some none)
    (a31 : PySem.W.nsIn K mainGlobals "law" = some (some (.ref f31)))
    (l31 : K.lookup f31 = some ⟨oc31, od31, .func (PySem.W.fnOf "law" "law" (defArgs (top 52)) (defBody (top 52)) (defScope (top 52)) .none kV31 dc31 pm31 an31 cd31 ct31), sl31⟩)
    (c31 : PySem.W.codeIn K cd31 "law" = true)
    (k31 : PySem.W.keepIn K (.ref f31) = true)
    (pgC : PySem.W.plainGet K C Str.empty = true)
    (hdC : PySem.W.hasDictIn K C = true)
    (poC : PySem.W.plainOver K C = true)
    (saC : PySem.W.findIn K (.ref C) "__setattr__" = some (some (.builtin "object.__setattr__")))
    (mkC : PySem.W.makesIn K C = true)
    (kpC : PySem.W.keepIn K (.ref C) = true)
    (nC_root : PySem.W.findIn K (.ref C) "_root" = some none)
    (nC_parts : PySem.W.findIn K (.ref C) "_parts" = some none)
    (pgCF : PySem.W.plainGet K CF Str.empty = true)
    (hdCF : PySem.W.hasDictIn K CF = true)
    (poCF : PySem.W.plainOver K CF = true)
    (saCF : PySem.W.findIn K (.ref CF) "__setattr__" = some (some (.builtin "object.__setattr__")))
    (mkCF : PySem.W.makesIn K CF = true)
    (kpCF : PySem.W.keepIn K (.ref CF) = true)
    (nCF_root : PySem.W.findIn K (.ref CF) "_root" = some none)
    (nCF_period : PySem.W.findIn K (.ref CF) "_period" = some none)
    (aPp : PySem.W.nsIn K mainGlobals "PERIODS" = some (some (.ref pd)))
    (lPp : K.lookup pd = some ⟨.type "dict", none, .dict es npp, #[]⟩)
    (oPp : okE es.toList [2, 3, 5, 6, 13] = true)
    (wPp : (pd == sysModules) = false)
    (gip2 : fI es.toList 2 = some (.ref qp2))
    (tlp2 : K.lookup qp2 = some op2)
    (tcp2 : op2.cls = .type "tuple")
    (tdp2 : op2.data = .seq #[.int (2) kp2_0] np2)
    (gip3 : fI es.toList 3 = some (.ref qp3))
    (tlp3 : K.lookup qp3 = some op3)
    (tcp3 : op3.cls = .type "tuple")
    (tdp3 : op3.data = .seq #[.int (1) kp3_0, .int (2) kp3_1] np3)
    (gip5 : fI es.toList 5 = some (.ref qp5))
    (tlp5 : K.lookup qp5 = some op5)
    (tcp5 : op5.cls = .type "tuple")
    (tdp5 : op5.data = .seq #[.int (1) kp5_0] np5)
    (gip6 : fI es.toList 6 = some (.ref qp6))
    (tlp6 : K.lookup qp6 = some op6)
    (tcp6 : op6.cls = .type "tuple")
    (tdp6 : op6.data = .seq #[.int (2) kp6_0, .int (4) kp6_1] np6)
    (gip13 : fI es.toList 13 = some (.ref qp13))
    (tlp13 : K.lookup qp13 = some op13)
    (tcp13 : op13.cls = .type "tuple")
    (tdp13 : op13.data = .seq #[.int (3) kp13_0] np13)
    (aTd : PySem.W.nsIn K mainGlobals "TAILS" = some (some (.ref td)))
    (lTd : K.lookup td = some ⟨.type "dict", none, .dict et ntd, #[]⟩)
    (oTd : okE et.toList [2, 3, 5, 6, 13] = true)
    (git2 : fI et.toList 2 = some (.ref qt2))
    (tlt2 : K.lookup qt2 = some ot2)
    (tct2 : ot2.cls = .type "tuple")
    (tdt2 : ot2.data = .seq #[.ref qt2_0] nt2)
    (tlt2_0 : K.lookup qt2_0 = some ot2_0)
    (tct2_0 : ot2_0.cls = .type "tuple")
    (tdt2_0 : ot2_0.data = .seq #[.int (1) kt2_0_0, .int (1) kt2_0_1, .int (1) kt2_0_2] nt2_0)
    (git3 : fI et.toList 3 = some (.ref qt3))
    (tlt3 : K.lookup qt3 = some ot3)
    (tct3 : ot3.cls = .type "tuple")
    (tdt3 : ot3.data = .seq #[.ref qt3_0, .ref qt3_1] nt3)
    (tlt3_0 : K.lookup qt3_0 = some ot3_0)
    (tct3_0 : ot3_0.cls = .type "tuple")
    (tdt3_0 : ot3_0.data = .seq #[.int (1) kt3_0_0, .int (1) kt3_0_1, .int (2) kt3_0_2] nt3_0)
    (tlt3_1 : K.lookup qt3_1 = some ot3_1)
    (tct3_1 : ot3_1.cls = .type "tuple")
    (tdt3_1 : ot3_1.data = .seq #[.int (1) kt3_1_0, .int (1) kt3_1_1, .int (1) kt3_1_2] nt3_1)
    (git5 : fI et.toList 5 = some (.ref qt5))
    (tlt5 : K.lookup qt5 = some ot5)
    (tct5 : ot5.cls = .type "tuple")
    (tdt5 : ot5.data = .seq #[.ref qt5_0] nt5)
    (tlt5_0 : K.lookup qt5_0 = some ot5_0)
    (tct5_0 : ot5_0.cls = .type "tuple")
    (tdt5_0 : ot5_0.data = .seq #[.int (1) kt5_0_0, .int (1) kt5_0_1, .int (2) kt5_0_2] nt5_0)
    (git6 : fI et.toList 6 = some (.ref qt6))
    (tlt6 : K.lookup qt6 = some ot6)
    (tct6 : ot6.cls = .type "tuple")
    (tdt6 : ot6.data = .seq #[.ref qt6_0, .ref qt6_1] nt6)
    (tlt6_0 : K.lookup qt6_0 = some ot6_0)
    (tct6_0 : ot6_0.cls = .type "tuple")
    (tdt6_0 : ot6_0.data = .seq #[.int (2) kt6_0_0, .int (1) kt6_0_1, .int (2) kt6_0_2] nt6_0)
    (tlt6_1 : K.lookup qt6_1 = some ot6_1)
    (tct6_1 : ot6_1.cls = .type "tuple")
    (tdt6_1 : ot6_1.data = .seq #[.int (2) kt6_1_0, .int (1) kt6_1_1, .int (1) kt6_1_2] nt6_1)
    (git13 : fI et.toList 13 = some (.ref qt13))
    (tlt13 : K.lookup qt13 = some ot13)
    (tct13 : ot13.cls = .type "tuple")
    (tdt13 : ot13.data = .seq #[.ref qt13_0] nt13)
    (tlt13_0 : K.lookup qt13_0 = some ot13_0)
    (tct13_0 : ot13_0.cls = .type "tuple")
    (tdt13_0 : ot13_0.data = .seq #[.int (3) kt13_0_0, .int (1) kt13_0_1, .int (2) kt13_0_2] nt13_0) :
    ∃ fd : FuncData, (∀ (s : Shared) (u : Value), BindsTo s fd ⟨[u], []⟩ [("_law_script", u)]) ∧ ∀ base : Heap, K.In base → base.Ns mainGlobals mg → FnOk l.prog w K mg base CX0 13 fa fd ["_law_script"] (spLaw K) := by
  have e := hfa.symm.trans (PySem.W.mg_of X G a31)
  cases e
  have F_is_whole := fun_mk (st := top 11) l1 c1 k1
  have b_is_whole := F_is_whole.binds (ps := ["value"]) fun _ _ _ _ _ _ us hl => match us, hl with | [_], _ => rfl
  have m_is_whole := PySem.W.mg_of X G a1
  have F_is_between := fun_mk (st := top 12) l2 c2 k2
  have b_is_between := F_is_between.binds (ps := ["value", "low", "high"]) fun _ _ _ _ _ _ us hl => match us, hl with | [_, _, _], _ => rfl
  have m_is_between := PySem.W.mg_of X G a2
  have F_is_root := fun_mk (st := top 14) l3 c3 k3
  have b_is_root := F_is_root.binds (ps := ["value"]) fun _ _ _ _ _ _ us hl => match us, hl with | [_], _ => rfl
  have m_is_root := PySem.W.mg_of X G a3
  have F_part_above := fun_mk (st := top 28) l4 c4 k4
  have b_part_above := F_part_above.binds (ps := ["period", "place"]) fun _ _ _ _ _ _ us hl => match us, hl with | [_, _], _ => rfl
  have m_part_above := PySem.W.mg_of X G a4
  have F_can_stand := fun_mk (st := top 31) l5 c5 k5
  have b_can_stand := F_can_stand.binds (ps := ["period", "place", "digit", "lower"]) fun _ _ _ _ _ _ us hl => match us, hl with | [_, _, _, _], _ => rfl
  have m_can_stand := PySem.W.mg_of X G a5
  have F_check_letters := fun_mk (st := top 34) l6 c6 k6
  have b_check_letters := F_check_letters.binds (ps := ["field", "many", "letters"]) fun _ _ _ _ _ _ us hl => match us, hl with | [_, _, _], _ => rfl
  have m_check_letters := PySem.W.mg_of X G a6
  have F_bound := fun_mk (st := top 35) l7 c7 k7
  have b_bound := F_bound.binds (ps := ["field", "factors"]) fun _ _ _ _ _ _ us hl => match us, hl with | [_, _], _ => rfl
  have m_bound := PySem.W.mg_of X G a7
  have F_gap := fun_mk (st := top 37) l8 c8 k8
  have b_gap := F_gap.binds (ps := ["field", "pair", "place"]) fun _ _ _ _ _ _ us hl => match us, hl with | [_, _, _], _ => rfl
  have m_gap := PySem.W.mg_of X G a8
  have F_carry := fun_mk (st := top 36) l9 c9 k9
  have b_carry := F_carry.binds (ps := ["pair", "part", "total"]) fun _ _ _ _ _ _ us hl => match us, hl with | [_, _, _], _ => rfl
  have m_carry := PySem.W.mg_of X G a9
  have F_kept_range := fun_mk (st := top 38) l10 c10 k10
  have b_kept_range := F_kept_range.binds (ps := ["field", "bound", "base", "stride", "place"]) fun _ _ _ _ _ _ us hl => match us, hl with | [_, _, _, _, _], _ => rfl
  have m_kept_range := PySem.W.mg_of X G a10
  have F_divided := fun_mk (st := top 39) l11 c11 k11
  have b_divided := F_divided.binds (ps := ["root", "above", "below"]) fun _ _ _ _ _ _ us hl => match us, hl with | [_, _, _], _ => rfl
  have m_divided := PySem.W.mg_of X G a11
  have F_carried := fun_mk (st := top 33) l12 c12 k12
  have b_carried := F_carried.binds (ps := ["field", "factors", "constant", "letters"]) fun _ _ _ _ _ _ us hl => match us, hl with | [_, _, _, _], _ => rfl
  have m_carried := PySem.W.mg_of X G a12
  have F_law_bag := fun_mk (st := top 41) l13 c13 k13
  have b_law_bag := F_law_bag.binds (ps := ["_law_script"]) fun _ _ _ _ _ _ us hl => match us, hl with | [_], _ => rfl
  have m_law_bag := PySem.W.mg_of X G a13
  have F_law_pull := fun_mk (st := top 42) l14 c14 k14
  have b_law_pull := F_law_pull.binds (ps := ["_law_bag_here", "_law_sides"]) fun _ _ _ _ _ _ us hl => match us, hl with | [_, _], _ => rfl
  have m_law_pull := PySem.W.mg_of X G a14
  have F_law_of := fun_mk (st := top 43) l15 c15 k15
  have b_law_of := F_law_of.binds (ps := ["_law_bag_here", "_law_some"]) fun _ _ _ _ _ _ us hl => match us, hl with | [_, _], _ => rfl
  have m_law_of := PySem.W.mg_of X G a15
  have F_law_same := fun_mk (st := top 44) l16 c16 k16
  have b_law_same := F_law_same.binds (ps := ["_law_found", "_law_due"]) fun _ _ _ _ _ _ us hl => match us, hl with | [_, _], _ => rfl
  have m_law_same := PySem.W.mg_of X G a16
  have F_law_far := fun_mk (st := top 45) l17 c17 k17
  have b_law_far := F_law_far.binds (ps := ["_law_bag_here", "_law_figures"]) fun _ _ _ _ _ _ us hl => match us, hl with | [_, _], _ => rfl
  have m_law_far := PySem.W.mg_of X G a17
  have F_law_period := fun_mk (st := top 46) l18 c18 k18
  have b_law_period := F_law_period.binds (ps := ["_law_root_here"]) fun _ _ _ _ _ _ us hl => match us, hl with | [_], _ => rfl
  have m_law_period := PySem.W.mg_of X G a18
  have F_law_steps := fun_mk (st := top 47) l19 c19 k19
  have b_law_steps := F_law_steps.binds (ps := ["_law_root_here", "_law_many"]) fun _ _ _ _ _ _ us hl => match us, hl with | [_, _], _ => rfl
  have m_law_steps := PySem.W.mg_of X G a19
  have F_law_digits := fun_mk (st := top 48) l20 c20 k20
  have b_law_digits := F_law_digits.binds (ps := ["_law_root_here", "_law_number"]) fun _ _ _ _ _ _ us hl => match us, hl with | [_, _], _ => rfl
  have m_law_digits := PySem.W.mg_of X G a20
  have F_law_root := fun_mk (st := top 49) l21 c21 k21
  have b_law_root := F_law_root.binds (ps := ["_law_bag_here"]) fun _ _ _ _ _ _ us hl => match us, hl with | [_], _ => rfl
  have m_law_root := PySem.W.mg_of X G a21
  have F_law_letters := fun_mk (st := top 50) l22 c22 k22
  have b_law_letters := F_law_letters.binds (ps := ["_law_root_here", "_law_some_numbers"]) fun _ _ _ _ _ _ us hl => match us, hl with | [_, _], _ => rfl
  have m_law_letters := PySem.W.mg_of X G a22
  have F_law_factors := fun_mk (st := top 51) l23 c23 k23
  have b_law_factors := F_law_factors.binds (ps := ["_law_bag_here", "_law_many"]) fun _ _ _ _ _ _ us hl => match us, hl with | [_, _], _ => rfl
  have m_law_factors := PySem.W.mg_of X G a23
  have mC_C := PySem.W.mg_of X G aCC
  have F_sgn := fun_mk (st := sS 4) l25 c25 k25
  have b_sgn := F_sgn.binds (ps := ["self"]) fun _ _ _ _ _ _ us hl => match us, hl with | [_], _ => rfl
  have F_sflo := fun_mk (st := sS 5) l26 c26 k26
  have b_sflo := F_sflo.binds (ps := ["self"]) fun _ _ _ _ _ _ us hl => match us, hl with | [_], _ => rfl
  have mC_CF := PySem.W.mg_of X G aCCF
  have F_finit := fun_mk (st := sF 1) l27 c27 k27
  have b_finit := F_finit.binds (ps := ["self", "root"]) fun _ _ _ _ _ _ us hl => match us, hl with | [_, _], _ => rfl
  have F_frt := fun_mk (st := sF 2) l28 c28 k28
  have b_frt := F_frt.binds (ps := ["self"]) fun _ _ _ _ _ _ us hl => match us, hl with | [_], _ => rfl
  have F_fpe := fun_mk (st := sF 3) l29 c29 k29
  have b_fpe := F_fpe.binds (ps := ["self"]) fun _ _ _ _ _ _ us hl => match us, hl with | [_], _ => rfl
  have F_ftp := fun_mk (st := sF 4) l30 c30 k30
  have b_ftp := F_ftp.binds (ps := ["self"]) fun _ _ _ _ _ _ us hl => match us, hl with | [_], _ => rfl
  have n_list := PySem.W.mg_none_of X G z_list
  have n_len := PySem.W.mg_none_of X G z_len
  have n_abs := PySem.W.mg_none_of X G z_abs
  have n_int := PySem.W.mg_none_of X G z_int
  have n_range := PySem.W.mg_none_of X G z_range
  have n_isinstance := PySem.W.mg_none_of X G z_isinstance
  have n_bool := PySem.W.mg_none_of X G z_bool
  have n_str := PySem.W.mg_none_of X G z_str
  have n_tuple := PySem.W.mg_none_of X G z_tuple
  have n_all := PySem.W.mg_none_of X G z_all
  have n_zip := PySem.W.mg_none_of X G z_zip
  have n_max := PySem.W.mg_none_of X G z_max
  have n_min := PySem.W.mg_none_of X G z_min
  have n_sum := PySem.W.mg_none_of X G z_sum
  have n_sorted := PySem.W.mg_none_of X G z_sorted
  have n_enumerate := PySem.W.mg_none_of X G z_enumerate
  have n_super := PySem.W.mg_none_of X G z_super
  have F_law := fun_mk (st := top 52) l31 c31 k31
  have b_law := F_law.binds (ps := ["_law_script"]) fun _ _ _ _ _ _ us hl => match us, hl with | [_], _ => rfl
  have m_law := PySem.W.mg_of X G a31
  have m_PERIODS := PySem.W.mg_of X G aPp
  have hPer : PerK K pd := fun d hd => by
    rcases hd with rfl | rfl | rfl | rfl | rfl
    · exact ⟨qp2, ⟨es, _, _, _, lPp, oPp, (findBy_fI _ _).trans gip2, rfl⟩, (⟨op2, _, np2, tlp2, tcp2, tdp2, by show 1 ≤ sizeLine; decide, .cons ⟨_, rfl⟩ (.nil)⟩ : TupI K qp2 [2])⟩
    · exact ⟨qp3, ⟨es, _, _, _, lPp, oPp, (findBy_fI _ _).trans gip3, rfl⟩, (⟨op3, _, np3, tlp3, tcp3, tdp3, by show 2 ≤ sizeLine; decide, .cons ⟨_, rfl⟩ (.cons ⟨_, rfl⟩ (.nil))⟩ : TupI K qp3 [1, 2])⟩
    · exact ⟨qp5, ⟨es, _, _, _, lPp, oPp, (findBy_fI _ _).trans gip5, rfl⟩, (⟨op5, _, np5, tlp5, tcp5, tdp5, by show 1 ≤ sizeLine; decide, .cons ⟨_, rfl⟩ (.nil)⟩ : TupI K qp5 [1])⟩
    · exact ⟨qp6, ⟨es, _, _, _, lPp, oPp, (findBy_fI _ _).trans gip6, rfl⟩, (⟨op6, _, np6, tlp6, tcp6, tdp6, by show 2 ≤ sizeLine; decide, .cons ⟨_, rfl⟩ (.cons ⟨_, rfl⟩ (.nil))⟩ : TupI K qp6 [2, 4])⟩
    · exact ⟨qp13, ⟨es, _, _, _, lPp, oPp, (findBy_fI _ _).trans gip13, rfl⟩, (⟨op13, _, np13, tlp13, tcp13, tdp13, by show 1 ≤ sizeLine; decide, .cons ⟨_, rfl⟩ (.nil)⟩ : TupI K qp13 [3])⟩
  have m_TAILS := PySem.W.mg_of X G aTd
  have hTls : TlsK K td := fun d hd => by
    rcases hd with rfl | rfl | rfl | rfl | rfl
    · refine ⟨qt2, [.ref qt2_0], ⟨et, _, _, _, lTd, oTd, (findBy_fI _ _).trans git2, rfl⟩, fun H => .inr ⟨ot2, _, nt2, tlt2, tct2, tdt2, by show 1 ≤ sizeLine; decide, .cons rfl (.nil)⟩, rfl, fun n => ?_⟩
      have eI : tlI 2 n = 1 := by unfold tlI; simp
      have eK : tlK 2 n = 1 := by unfold tlK; simp
      exact ⟨qt2_0, by rw [show n % (per 2).length = 0 from Nat.mod_one n]; rfl, fun H => by rw [eI, eK]; exact TupI.sq (⟨ot2_0, _, nt2_0, tlt2_0, tct2_0, tdt2_0, by show 3 ≤ sizeLine; decide, .cons ⟨_, rfl⟩ (.cons ⟨_, rfl⟩ (.cons ⟨_, rfl⟩ (.nil)))⟩ : TupI K qt2_0 [1, 1, 1])⟩
    · refine ⟨qt3, [.ref qt3_0, .ref qt3_1], ⟨et, _, _, _, lTd, oTd, (findBy_fI _ _).trans git3, rfl⟩, fun H => .inr ⟨ot3, _, nt3, tlt3, tct3, tdt3, by show 2 ≤ sizeLine; decide, .cons rfl (.cons rfl (.nil))⟩, rfl, fun n => ?_⟩
      rcases (show n % 2 = 0 ∨ n % 2 = 1 by omega) with h2 | h2
      · have eI : tlI 3 n = 1 := by unfold tlI; simp
        have eK : tlK 3 n = 2 := by unfold tlK; simp [h2]
        exact ⟨qt3_0, by rw [show n % (per 3).length = 0 from h2]; rfl, fun H => by rw [eI, eK]; exact TupI.sq (⟨ot3_0, _, nt3_0, tlt3_0, tct3_0, tdt3_0, by show 3 ≤ sizeLine; decide, .cons ⟨_, rfl⟩ (.cons ⟨_, rfl⟩ (.cons ⟨_, rfl⟩ (.nil)))⟩ : TupI K qt3_0 [1, 1, 2])⟩
      · have eI : tlI 3 n = 1 := by unfold tlI; simp
        have eK : tlK 3 n = 1 := by unfold tlK; simp [h2]
        exact ⟨qt3_1, by rw [show n % (per 3).length = 1 from h2]; rfl, fun H => by rw [eI, eK]; exact TupI.sq (⟨ot3_1, _, nt3_1, tlt3_1, tct3_1, tdt3_1, by show 3 ≤ sizeLine; decide, .cons ⟨_, rfl⟩ (.cons ⟨_, rfl⟩ (.cons ⟨_, rfl⟩ (.nil)))⟩ : TupI K qt3_1 [1, 1, 1])⟩
    · refine ⟨qt5, [.ref qt5_0], ⟨et, _, _, _, lTd, oTd, (findBy_fI _ _).trans git5, rfl⟩, fun H => .inr ⟨ot5, _, nt5, tlt5, tct5, tdt5, by show 1 ≤ sizeLine; decide, .cons rfl (.nil)⟩, rfl, fun n => ?_⟩
      have eI : tlI 5 n = 1 := by unfold tlI; simp
      have eK : tlK 5 n = 2 := by unfold tlK; simp
      exact ⟨qt5_0, by rw [show n % (per 5).length = 0 from Nat.mod_one n]; rfl, fun H => by rw [eI, eK]; exact TupI.sq (⟨ot5_0, _, nt5_0, tlt5_0, tct5_0, tdt5_0, by show 3 ≤ sizeLine; decide, .cons ⟨_, rfl⟩ (.cons ⟨_, rfl⟩ (.cons ⟨_, rfl⟩ (.nil)))⟩ : TupI K qt5_0 [1, 1, 2])⟩
    · refine ⟨qt6, [.ref qt6_0, .ref qt6_1], ⟨et, _, _, _, lTd, oTd, (findBy_fI _ _).trans git6, rfl⟩, fun H => .inr ⟨ot6, _, nt6, tlt6, tct6, tdt6, by show 2 ≤ sizeLine; decide, .cons rfl (.cons rfl (.nil))⟩, rfl, fun n => ?_⟩
      rcases (show n % 2 = 0 ∨ n % 2 = 1 by omega) with h2 | h2
      · have eI : tlI 6 n = 2 := by unfold tlI; simp
        have eK : tlK 6 n = 2 := by unfold tlK; simp [h2]
        exact ⟨qt6_0, by rw [show n % (per 6).length = 0 from h2]; rfl, fun H => by rw [eI, eK]; exact TupI.sq (⟨ot6_0, _, nt6_0, tlt6_0, tct6_0, tdt6_0, by show 3 ≤ sizeLine; decide, .cons ⟨_, rfl⟩ (.cons ⟨_, rfl⟩ (.cons ⟨_, rfl⟩ (.nil)))⟩ : TupI K qt6_0 [2, 1, 2])⟩
      · have eI : tlI 6 n = 2 := by unfold tlI; simp
        have eK : tlK 6 n = 1 := by unfold tlK; simp [h2]
        exact ⟨qt6_1, by rw [show n % (per 6).length = 1 from h2]; rfl, fun H => by rw [eI, eK]; exact TupI.sq (⟨ot6_1, _, nt6_1, tlt6_1, tct6_1, tdt6_1, by show 3 ≤ sizeLine; decide, .cons ⟨_, rfl⟩ (.cons ⟨_, rfl⟩ (.cons ⟨_, rfl⟩ (.nil)))⟩ : TupI K qt6_1 [2, 1, 1])⟩
    · refine ⟨qt13, [.ref qt13_0], ⟨et, _, _, _, lTd, oTd, (findBy_fI _ _).trans git13, rfl⟩, fun H => .inr ⟨ot13, _, nt13, tlt13, tct13, tdt13, by show 1 ≤ sizeLine; decide, .cons rfl (.nil)⟩, rfl, fun n => ?_⟩
      have eI : tlI 13 n = 3 := by unfold tlI; simp
      have eK : tlK 13 n = 2 := by unfold tlK; simp
      exact ⟨qt13_0, by rw [show n % (per 13).length = 0 from Nat.mod_one n]; rfl, fun H => by rw [eI, eK]; exact TupI.sq (⟨ot13_0, _, nt13_0, tlt13_0, tct13_0, tdt13_0, by show 3 ≤ sizeLine; decide, .cons ⟨_, rfl⟩ (.cons ⟨_, rfl⟩ (.cons ⟨_, rfl⟩ (.nil)))⟩ : TupI K qt13_0 [3, 1, 2])⟩
  refine ⟨PySem.W.fnOf "law" "law" (defArgs (top 52)) (defBody (top 52)) (defScope (top 52)) .none kV31 dc31 pm31 an31 cd31 ct31, fun s v => .of_eq rfl, fun base _ _ => ?_⟩
  have OD : OwnE l.prog w K mg "InvalidDigits" "index" ED := ownE (own_of (PySem.W.mg_of X G aED) lED lR vR fR saED gaED ggED ntED iED tED kED xED yED hED mED n_super oq tp) ngED jED cED ⟨_, _, _, _, _, _, dED, vvED, pED⟩ ⟨_, _, _, uED⟩ txtD
  have mD := PySem.W.mg_of X G aED
  have TF : TxF K mg CF := ⟨⟨pgCF, hdCF, poCF, saCF⟩, nCF_root, nCF_period, mC_CF⟩
  have m_I := PySem.W.mg_of X G aI
  have TBm : TB mg := ⟨n_list, n_len, n_abs, n_int⟩
  have TSs : TSm mg := ⟨n_isinstance, n_bool, n_int, n_str, n_list, n_tuple, n_len, n_all, n_zip⟩
  have D_is_whole : Df l.prog w K mg base 1 "is_whole" ["value"] (spWhole K) := ⟨_, _, ok_whole (k := 0) F_is_whole n_isinstance n_int n_bool, b_is_whole, m_is_whole, F_is_whole.kp⟩
  have D_is_between : Df l.prog w K mg base 2 "is_between" ["value", "low", "high"] (spBtw K) := ⟨_, _, ok_btw F_is_between D_is_whole, b_is_between, m_is_between, F_is_between.kp⟩
  have D_is_root : Df l.prog w K mg base 2 "is_root" ["value"] (spIsRoot K) := ⟨_, _, ok_isroot F_is_root D_is_whole m_PERIODS ⟨wPp, es, npp, lPp, oPp⟩, b_is_root, m_is_root, F_is_root.kp⟩
  have D_part_above : Df l.prog w K mg base 1 "_part_above" ["period", "place"] (spPart K) := ⟨_, _, ok_part (k := 0) F_part_above n_len, b_part_above, m_part_above, F_part_above.kp⟩
  have D_can_stand : Df l.prog w K mg base 3 "can_stand" ["period", "place", "digit", "lower"] (spCanV K) := ⟨_, _, ok_canV F_can_stand (D_part_above.mono (by decide)) D_is_between, b_can_stand, m_can_stand, F_can_stand.kp⟩
  have D_law_bag : Df l.prog w K mg base 1 "_law_bag" ["_law_script"] (spBag K) := ⟨_, _, ok_bag F_law_bag TBm, b_law_bag, m_law_bag, F_law_bag.kp⟩
  have D_law_pull : Df l.prog w K mg base 1 "_law_pull" ["_law_bag_here", "_law_sides"] (spPullC) := ⟨_, _, ok_pullC F_law_pull TBm, b_law_pull, m_law_pull, F_law_pull.kp⟩
  have D_law_of : Df l.prog w K mg base 2 "_law_of" ["_law_bag_here", "_law_some"] (spOfC K) := ⟨_, _, ok_ofC F_law_of TBm D_law_pull, b_law_of, m_law_of, F_law_of.kp⟩
  have D_law_far : Df l.prog w K mg base 2 "_law_far" ["_law_bag_here", "_law_figures"] (spFarC) := ⟨_, _, ok_farC F_law_far n_range D_law_pull, b_law_far, m_law_far, F_law_far.kp⟩
  have D_law_root : Df l.prog w K mg base 3 "_law_root" ["_law_bag_here"] (spRootC) := ⟨_, _, ok_rootC F_law_root D_law_of, b_law_root, m_law_root, F_law_root.kp⟩
  have D_law_same : Df l.prog w K mg base 6 "_law_same" ["_law_found", "_law_due"] (spSame K 5) := ⟨_, _, ok_same F_law_same TSs b_law_same m_law_same 5, b_law_same, m_law_same, F_law_same.kp⟩
  have D_law_period : Df l.prog w K mg base 1 "_law_period" ["_law_root_here"] (spPeriod) := ⟨_, _, ok_lper (k := 0) F_law_period, b_law_period, m_law_period, F_law_period.kp⟩
  have D_law_steps : Df l.prog w K mg base 2 "_law_steps" ["_law_root_here", "_law_many"] (spLSteps) := ⟨_, _, ok_lst F_law_steps TBm n_range D_law_period, b_law_steps, m_law_steps, F_law_steps.kp⟩
  have D_law_digits : Df l.prog w K mg base 3 "_law_digits" ["_law_root_here", "_law_number"] (spLDig) := ⟨_, _, ok_ldig F_law_digits TBm D_law_steps, b_law_digits, m_law_digits, F_law_digits.kp⟩
  have D_law_letters : Df l.prog w K mg base 4 "_law_letters" ["_law_root_here", "_law_some_numbers"] (spLet K) := ⟨_, _, ok_llet F_law_letters n_len n_max n_range n_tuple D_law_digits, b_law_letters, m_law_letters, F_law_letters.kp⟩
  have D_law_factors : Df l.prog w K mg base 3 "_law_factors" ["_law_bag_here", "_law_many"] (spFactors) := ⟨_, _, ok_lfac F_law_factors n_range D_law_of, b_law_factors, m_law_factors, F_law_factors.kp⟩
  have m_G := PySem.W.mg_of X G aG
  have T : TxS K mg C := ⟨⟨pgC, hdC, poC, saC⟩, nC_root, nC_parts, mC_C⟩
  have FI : FunD K "__init__" "Surd.__init__" (defArgs (sS 0)) (defBody (sS 0)) (defScope (sS 0)) [.int 0] [("k", .int 1)] f24 (PySem.W.fnOf "__init__" "Surd.__init__" (defArgs (sS 0)) (defBody (sS 0)) (defScope (sS 0)) (.ref T0) (.ref D0) dc24 pm24 an24 cd24 ct24) :=
    ⟨⟨oc24, od24, .ref T0, .ref D0, dc24, pm24, an24, cd24, ct24, sl24, rfl, l24, c24, .inr ⟨by simp, T0, oT, [.int 0 tT], nT, rfl, lT, dT, .cons ⟨_, rfl⟩ .nil⟩, .inr ⟨D0, rfl, fun q hq => by
      obtain rfl : q = ((("k" : Str), V.int 1) : Str × V) := by simpa using hq
      exact ⟨_, kD, _, rfl⟩⟩⟩, k24⟩
  have GI := ok_SInit (P := l.prog) (w := w) (base := base) (k := 5) FI T m_G (D_is_root.mono (by decide))
  have kb : KBn K (PySem.W.fnOf "__init__" "Surd.__init__" (defArgs (sS 0)) (defBody (sS 0)) (defScope (sS 0)) (.ref T0) (.ref D0) dc24 pm24 an24 cd24 ct24) ["self", "root", "i", "j", "k"] 4 ["k"] (fun us ws => us ++ ws) (fun vs zs => vs ++ zs) := by
    obtain ⟨its, mv, kb⟩ := FI.kbinds (ps := ["self", "root", "i", "j", "k"]) 4 ["k"] [] (fun us _ _ ws => us ++ ws) (by simp) (by simp) (fun q hq => by cases hq) (fun r1 _ _ r4 => r1.append r4)
      (fun T D doc pm an cdv ct us its mv ws h1 h2 h3 h4 => match us, its, mv, ws, h1, h2, h3, h4 with | [_, _, _, _], [_], [], [_], _, _, _, _ => ⟨_, rfl, rfl⟩)
    exact kb
  have b4 := FI.binds (ps := ["self", "root", "i", "j", "k"]) 4 1 (by simp) rfl (fun T D doc pm an cdv ct us its ks h1 h2 h3 => match us, its, ks, h1, h2, h3 with | [_, _, _, _], [_], [_], _, _, _ => ⟨_, rfl, _, _, _, _, _, _, rfl, rfl, rfl⟩) (by simp)
  have b3 := FI.binds (ps := ["self", "root", "i", "j", "k"]) 3 0 (by simp) rfl (fun T D doc pm an cdv ct us its ks h1 h2 h3 => match us, its, ks, h1, h2, h3 with | [_, _, _], [_], [_], _, _, _ => ⟨_, rfl, _, _, _, _, _, _, rfl, rfl, rfl⟩) (by simp)
  have M6 : MkS l.prog w K mg base C 6 := ⟨_, _, ⟨mkC, a24, i24, kpC⟩, GI, kb, b4, b3⟩
  have M7 : MkS l.prog w K mg base C 7 := ⟨_, _, ⟨mkC, a24, i24, kpC⟩, GI.mono (by decide), kb, b4, b3⟩
  have R6 : Pt l.prog w K mg base CF 6 "root" (spFRoot K CF) := ⟨pfrt, f28, _, ⟨atfrt, gefrt, tkfrt, rsfrt, a28⟩, ok_FRoot (k := 5) F_frt TF, b_frt⟩
  have R7 : Pt l.prog w K mg base CF 7 "root" (spFRoot K CF) := ⟨pfrt, f28, _, ⟨atfrt, gefrt, tkfrt, rsfrt, a28⟩, ok_FRoot (k := 6) F_frt TF, b_frt⟩
  have P6 : Pt l.prog w K mg base CF 6 "period" (spFPer K CF) := ⟨pfpe, f29, _, ⟨atfpe, gefpe, tkfpe, rsfpe, a29⟩, ok_FPer (k := 5) F_fpe TF, b_fpe⟩
  have P7 : Pt l.prog w K mg base CF 7 "period" (spFPer K CF) := ⟨pfpe, f29, _, ⟨atfpe, gefpe, tkfpe, rsfpe, a29⟩, ok_FPer (k := 6) F_fpe TF, b_fpe⟩
  have P8 : Pt l.prog w K mg base CF 8 "period" (spFPer K CF) := ⟨pfpe, f29, _, ⟨atfpe, gefpe, tkfpe, rsfpe, a29⟩, ok_FPer (k := 7) F_fpe TF, b_fpe⟩
  have T7 : Pt l.prog w K mg base CF 7 "top" (spFTop K CF) := ⟨pftp, f30, _, ⟨atftp, geftp, tkftp, rsftp, a30⟩, ok_FTop (k := 6) F_ftp TF n_max, b_ftp⟩
  have Gsgn := ok_SSign (P := l.prog) (w := w) (base := base) (k := 0) F_sgn T n_abs
  have Msgn : Mt l.prog w K mg base C 8 "sign" ["self"] (spSign C) := ⟨_, _, Gsgn.mono (by decide), ⟨a25, i25, F_sgn.kp⟩, b_sgn⟩
  have Gsflo := ok_SFlo (P := l.prog) (w := w) (base := base) (k := 0) F_sflo T m_I
  have Mflo : Mt l.prog w K mg base C 7 "floor" ["self"] (spFlS C) := ⟨_, _, Gsflo.mono (by decide), ⟨a26, i26, F_sflo.kp⟩, b_sflo⟩
  have D_carry : Df l.prog w K mg base 9 "_carry" ["pair", "part", "total"] (spCarry K) := ⟨_, _, ok_carry (k := 8) F_carry, b_carry, m_carry, F_carry.kp⟩
  have D_divided : Df l.prog w K mg base 8 "_divided" ["root", "above", "below"] (spDvd K) := ⟨_, _, ok_divided (k := 5) F_divided T M6 Mflo, b_divided, m_divided, F_divided.kp⟩
  have D_gap : Df l.prog w K mg base 8 "_gap" ["field", "pair", "place"] (spGap K CF) := ⟨_, _, ok_gap (k := 6) F_gap TF n_len m_TAILS hTls R6 P6, b_gap, m_gap, F_gap.kp⟩
  have D_kept_range : Df l.prog w K mg base 9 "_kept_range" ["field", "bound", "base", "stride", "place"] (spKR K CF) := ⟨_, _, ok_krange (k := 5) F_kept_range TF T R7 M7 Msgn D_gap D_divided, b_kept_range, m_kept_range, F_kept_range.kp⟩
  have D_bound : Df l.prog w K mg base 9 "_bound" ["field", "factors"] (spBnd K CF) := ⟨_, _, ok_bound (k := 7) F_bound TF n_sum n_abs T7, b_bound, m_bound, F_bound.kp⟩
  have D_chk : DfX l.prog w K mg base 9 "_check_letters" ["field", "many", "letters"] (spChk K CF ED) := ⟨_, _, ok_chk (k := 6) F_check_letters TF TSs n_range n_enumerate OD P7 (D_can_stand.mono (by decide)), b_check_letters, m_check_letters, F_check_letters.kp⟩
  have D_car : DfX l.prog w K mg base 10 "carried" ["field", "factors", "constant", "letters"] (spCar K CF ED) := ⟨_, _, ok_car (k := 7) F_carried TF n_len n_enumerate n_zip n_sum n_max n_min n_sorted n_range P8 D_chk D_bound D_carry D_kept_range, b_carried, m_carried, F_carried.kp⟩
  have Gfin := ok_FInit (P := l.prog) (w := w) (base := base) F_finit TF m_PERIODS hPer D_is_root
  exact ok_law F_law ⟨D_law_bag.mono (by decide), D_law_pull.mono (by decide), D_law_of.mono (by decide), D_law_root.mono (by decide), D_law_far.mono (by decide), D_law_factors.mono (by decide), D_law_letters.mono (by decide), D_law_steps.mono (by decide), D_law_same.mono (by decide), D_car, TF, ⟨_, _, ⟨mkCF, a27, i27, kpCF⟩, Gfin.mono (by decide), b_finit⟩, TBm, n_range, n_tuple, n_sum, n_zip, n_abs, n_all⟩
theorem walk {l : PySem.W.OpenLaw} {q : Program} {loose : List Str} {XP : (Str → Option Value) → Heap → Prop} {YP : World → Heap → Prop} {d : DefRec} {K : Params → PySem.W.Frag} (hn : l.most = some 63) (hdf : d.params.defaults = [])
    (hY : ∀ (w : World) (h : Heap), YP w h → (K w.params).In h)
    (F : ∀ (w : World) (mg : Str → Option Value) (fa : Addr) (h : Heap), (K w.params).In h → h.Ns mainGlobals mg → mg d.name = some (.ref fa) →
      ∃ fd : FuncData, (∀ (s : Shared) (u : Value), BindsTo s fd ⟨[u], []⟩ [("_law_script", u)]) ∧ ∀ base : Heap, (K w.params).In base → base.Ns mainGlobals mg → FnOk l.prog w (K w.params) mg base CX0 13 fa fd ["_law_script"] (spLaw (K w.params))) :
    PySem.W.WalkO q loose XP YP l.row.toRowW d [] (fun f vs => PySem.call f vs) :=
  L2.walk_of (n := 63) (k := 13) (x := "_law_script") (CX := fun _ => CX0) (sp := fun w => spLaw (K w.params)) hn (by decide) hdf ⟨rfl, by decide, by decide⟩ hY F (fun _ _ a ns hl _ hS => ⟨a, ns, rfl, hS, hl, fun _ => rfl⟩) fun _ _ _ _ _ z => z
end RF

open PySem PySem.W PyProof.Rows
set_option maxRecDepth 100000 in
set_option maxHeartbeats 0 in
theorem PySem.Challenge.cw_rootfloor_k12_whole_equations_hold_by_tw_holds : PySem.Challenge.rw_rootfloor_k12_whole_equations_hold_by_tw.Holds := by
  w_on; o_law; k_head; (case hw => w_witness2)
  k_fill
  refine RF.walk (l := PySem.Challenge.rw_rootfloor_k12_whole_equations_hold_by_tw) rfl rfl (fun w h Y => by first | exact PySem.W.km_in_of Y | exact PySem.W.kIn_of Y) ?F
  case F =>
    intro w mg fa h KX G hmg
    refine' RF.all_mk KX G hmg ?a1 ?l1 ?c1 ?k1 ?a2 ?l2 ?c2 ?k2 ?a3 ?l3 ?c3 ?k3 ?a4 ?l4 ?c4 ?k4 ?a5 ?l5 ?c5 ?k5 ?a6 ?l6 ?c6 ?k6 ?a7 ?l7 ?c7 ?k7 ?a8 ?l8 ?c8 ?k8 ?a9 ?l9 ?c9 ?k9 ?a10 ?l10 ?c10 ?k10 ?a11 ?l11 ?c11 ?k11 ?a12 ?l12 ?c12 ?k12 ?a13 ?l13 ?c13 ?k13 ?a14 ?l14 ?c14 ?k14 ?a15 ?l15 ?c15 ?k15 ?a16 ?l16 ?c16 ?k16 ?a17 ?l17 ?c17 ?k17 ?a18 ?l18 ?c18 ?k18 ?a19 ?l19 ?c19 ?k19 ?a20 ?l20 ?c20 ?k20 ?a21 ?l21 ?c21 ?k21 ?a22 ?l22 ?c22 ?k22 ?a23 ?l23 ?c23 ?k23 ?aCC ?a24 ?i24 ?l24 ?c24 ?k24 ?lT ?dT ?kD ?aG ?a25 ?l25 ?c25 ?k25 ?i25 ?a26 ?l26 ?c26 ?k26 ?i26 ?aCCF ?a27 ?l27 ?c27 ?k27 ?i27 ?atfrt ?gefrt ?tkfrt ?a28 ?l28 ?c28 ?k28 ?atfpe ?gefpe ?tkfpe ?a29 ?l29 ?c29 ?k29 ?atftp ?geftp ?tkftp ?a30 ?l30 ?c30 ?k30 ?aI ?aR ?lR ?vR ?fR ?oq ?tp ?aED ?lED ?saED ?gaED ?ggED ?ntED ?ngED ?iED ?tED ?kED ?xED ?yED ?hED ?mED ?jED ?cED ?dED ?vvED ?pED ?uED ?z_list ?z_len ?z_abs ?z_int ?z_range ?z_isinstance ?z_bool ?z_str ?z_tuple ?z_all ?z_zip ?z_max ?z_min ?z_sum ?z_sorted ?z_enumerate ?z_super ?a31 ?l31 ?c31 ?k31 ?pgC ?hdC ?poC ?saC ?mkC ?kpC ?nC_root ?nC_parts ?pgCF ?hdCF ?poCF ?saCF ?mkCF ?kpCF ?nCF_root ?nCF_period ?aPp ?lPp ?oPp ?wPp ?gip2 ?tlp2 ?tcp2 ?tdp2 ?gip3 ?tlp3 ?tcp3 ?tdp3 ?gip5 ?tlp5 ?tcp5 ?tdp5 ?gip6 ?tlp6 ?tcp6 ?tdp6 ?gip13 ?tlp13 ?tcp13 ?tdp13 ?aTd ?lTd ?oTd ?git2 ?tlt2 ?tct2 ?tdt2 ?tlt2_0 ?tct2_0 ?tdt2_0 ?git3 ?tlt3 ?tct3 ?tdt3 ?tlt3_0 ?tct3_0 ?tdt3_0 ?tlt3_1 ?tct3_1 ?tdt3_1 ?git5 ?tlt5 ?tct5 ?tdt5 ?tlt5_0 ?tct5_0 ?tdt5_0 ?git6 ?tlt6 ?tct6 ?tdt6 ?tlt6_0 ?tct6_0 ?tdt6_0 ?tlt6_1 ?tct6_1 ?tdt6_1 ?git13 ?tlt13 ?tct13 ?tdt13 ?tlt13_0 ?tct13_0 ?tdt13_0
    (case a1 => k_is)
    (case l1 => k_is)
    (case c1 => k_is)
    (case k1 => k_is)
    (case a2 => k_is)
    (case l2 => k_is)
    (case c2 => k_is)
    (case k2 => k_is)
    (case a3 => k_is)
    (case l3 => k_is)
    (case c3 => k_is)
    (case k3 => k_is)
    (case a4 => k_is)
    (case l4 => k_is)
    (case c4 => k_is)
    (case k4 => k_is)
    (case a5 => k_is)
    (case l5 => k_is)
    (case c5 => k_is)
    (case k5 => k_is)
    (case a6 => k_is)
    (case l6 => k_is)
    (case c6 => k_is)
    (case k6 => k_is)
    (case a7 => k_is)
    (case l7 => k_is)
    (case c7 => k_is)
    (case k7 => k_is)
    (case a8 => k_is)
    (case l8 => k_is)
    (case c8 => k_is)
    (case k8 => k_is)
    (case a9 => k_is)
    (case l9 => k_is)
    (case c9 => k_is)
    (case k9 => k_is)
    (case a10 => k_is)
    (case l10 => k_is)
    (case c10 => k_is)
    (case k10 => k_is)
    (case a11 => k_is)
    (case l11 => k_is)
    (case c11 => k_is)
    (case k11 => k_is)
    (case a12 => k_is)
    (case l12 => k_is)
    (case c12 => k_is)
    (case k12 => k_is)
    (case a13 => k_is)
    (case l13 => k_is)
    (case c13 => k_is)
    (case k13 => k_is)
    (case a14 => k_is)
    (case l14 => k_is)
    (case c14 => k_is)
    (case k14 => k_is)
    (case a15 => k_is)
    (case l15 => k_is)
    (case c15 => k_is)
    (case k15 => k_is)
    (case a16 => k_is)
    (case l16 => k_is)
    (case c16 => k_is)
    (case k16 => k_is)
    (case a17 => k_is)
    (case l17 => k_is)
    (case c17 => k_is)
    (case k17 => k_is)
    (case a18 => k_is)
    (case l18 => k_is)
    (case c18 => k_is)
    (case k18 => k_is)
    (case a19 => k_is)
    (case l19 => k_is)
    (case c19 => k_is)
    (case k19 => k_is)
    (case a20 => k_is)
    (case l20 => k_is)
    (case c20 => k_is)
    (case k20 => k_is)
    (case a21 => k_is)
    (case l21 => k_is)
    (case c21 => k_is)
    (case k21 => k_is)
    (case a22 => k_is)
    (case l22 => k_is)
    (case c22 => k_is)
    (case k22 => k_is)
    (case a23 => k_is)
    (case l23 => k_is)
    (case c23 => k_is)
    (case k23 => k_is)
    (case aCC => k_is)
    (case a24 => k_is)
    (case i24 => k_is)
    (case l24 => k_is)
    (case c24 => k_is)
    (case k24 => k_is)
    (case lT => k_is)
    (case dT => first | exact rfl | decide +kernel)
    (case kD => k_is)
    (case aG => k_is)
    (case a25 => k_is)
    (case l25 => k_is)
    (case c25 => k_is)
    (case k25 => k_is)
    (case i25 => k_is)
    (case a26 => k_is)
    (case l26 => k_is)
    (case c26 => k_is)
    (case k26 => k_is)
    (case i26 => k_is)
    (case aCCF => k_is)
    (case a27 => k_is)
    (case l27 => k_is)
    (case c27 => k_is)
    (case k27 => k_is)
    (case i27 => k_is)
    (case atfrt => k_is)
    (case gefrt => k_is)
    (case tkfrt => k_is)
    (case a28 => k_is)
    (case l28 => k_is)
    (case c28 => k_is)
    (case k28 => k_is)
    (case atfpe => k_is)
    (case gefpe => k_is)
    (case tkfpe => k_is)
    (case a29 => k_is)
    (case l29 => k_is)
    (case c29 => k_is)
    (case k29 => k_is)
    (case atftp => k_is)
    (case geftp => k_is)
    (case tkftp => k_is)
    (case a30 => k_is)
    (case l30 => k_is)
    (case c30 => k_is)
    (case k30 => k_is)
    (case aI => k_is)
    (case aR => k_is)
    (case lR => k_is)
    (case vR => first | exact rfl | decide +kernel)
    (case fR => k_is)
    (case oq => k_is)
    (case tp => first | exact rfl | decide +kernel)
    (case aED => k_is)
    (case lED => k_is)
    (case saED => k_is)
    (case gaED => k_is)
    (case ggED => k_is)
    (case ntED => k_is)
    (case ngED => k_is)
    (case iED => k_is)
    (case tED => k_is)
    (case kED => k_is)
    (case xED => k_is)
    (case yED => k_is)
    (case hED => k_is)
    (case mED => k_is)
    (case jED => k_is)
    (case cED => k_is)
    (case dED => k_is)
    (case vvED => first | exact rfl | decide +kernel)
    (case pED => first | exact rfl | decide +kernel)
    (case uED => k_is)
    (case z_list => k_is)
    (case z_len => k_is)
    (case z_abs => k_is)
    (case z_int => k_is)
    (case z_range => k_is)
    (case z_isinstance => k_is)
    (case z_bool => k_is)
    (case z_str => k_is)
    (case z_tuple => k_is)
    (case z_all => k_is)
    (case z_zip => k_is)
    (case z_max => k_is)
    (case z_min => k_is)
    (case z_sum => k_is)
    (case z_sorted => k_is)
    (case z_enumerate => k_is)
    (case z_super => k_is)
    (case a31 => k_is)
    (case l31 => k_is)
    (case c31 => k_is)
    (case k31 => k_is)
    (case pgC => k_is)
    (case hdC => k_is)
    (case poC => k_is)
    (case saC => k_is)
    (case mkC => k_is)
    (case kpC => k_is)
    (case nC_root => k_is)
    (case nC_parts => k_is)
    (case pgCF => k_is)
    (case hdCF => k_is)
    (case poCF => k_is)
    (case saCF => k_is)
    (case mkCF => k_is)
    (case kpCF => k_is)
    (case nCF_root => k_is)
    (case nCF_period => k_is)
    (case aPp => k_is)
    (case lPp => k_is)
    (case oPp => first | exact rfl | decide +kernel)
    (case wPp => first | exact rfl | decide +kernel)
    (case gip2 => first | exact rfl | decide +kernel)
    (case tlp2 => k_is)
    (case tcp2 => first | exact rfl | decide +kernel)
    (case tdp2 => first | exact rfl | decide +kernel)
    (case gip3 => first | exact rfl | decide +kernel)
    (case tlp3 => k_is)
    (case tcp3 => first | exact rfl | decide +kernel)
    (case tdp3 => first | exact rfl | decide +kernel)
    (case gip5 => first | exact rfl | decide +kernel)
    (case tlp5 => k_is)
    (case tcp5 => first | exact rfl | decide +kernel)
    (case tdp5 => first | exact rfl | decide +kernel)
    (case gip6 => first | exact rfl | decide +kernel)
    (case tlp6 => k_is)
    (case tcp6 => first | exact rfl | decide +kernel)
    (case tdp6 => first | exact rfl | decide +kernel)
    (case gip13 => first | exact rfl | decide +kernel)
    (case tlp13 => k_is)
    (case tcp13 => first | exact rfl | decide +kernel)
    (case tdp13 => first | exact rfl | decide +kernel)
    (case aTd => k_is)
    (case lTd => k_is)
    (case oTd => first | exact rfl | decide +kernel)
    (case git2 => first | exact rfl | decide +kernel)
    (case tlt2 => first | exact rfl | decide +kernel)
    (case tct2 => first | exact rfl | decide +kernel)
    (case tdt2 => first | exact rfl | decide +kernel)
    (case tlt2_0 => first | exact rfl | decide +kernel)
    (case tct2_0 => first | exact rfl | decide +kernel)
    (case tdt2_0 => first | exact rfl | decide +kernel)
    (case git3 => first | exact rfl | decide +kernel)
    (case tlt3 => first | exact rfl | decide +kernel)
    (case tct3 => first | exact rfl | decide +kernel)
    (case tdt3 => first | exact rfl | decide +kernel)
    (case tlt3_0 => first | exact rfl | decide +kernel)
    (case tct3_0 => first | exact rfl | decide +kernel)
    (case tdt3_0 => first | exact rfl | decide +kernel)
    (case tlt3_1 => first | exact rfl | decide +kernel)
    (case tct3_1 => first | exact rfl | decide +kernel)
    (case tdt3_1 => first | exact rfl | decide +kernel)
    (case git5 => first | exact rfl | decide +kernel)
    (case tlt5 => first | exact rfl | decide +kernel)
    (case tct5 => first | exact rfl | decide +kernel)
    (case tdt5 => first | exact rfl | decide +kernel)
    (case tlt5_0 => first | exact rfl | decide +kernel)
    (case tct5_0 => first | exact rfl | decide +kernel)
    (case tdt5_0 => first | exact rfl | decide +kernel)
    (case git6 => first | exact rfl | decide +kernel)
    (case tlt6 => first | exact rfl | decide +kernel)
    (case tct6 => first | exact rfl | decide +kernel)
    (case tdt6 => first | exact rfl | decide +kernel)
    (case tlt6_0 => first | exact rfl | decide +kernel)
    (case tct6_0 => first | exact rfl | decide +kernel)
    (case tdt6_0 => first | exact rfl | decide +kernel)
    (case tlt6_1 => first | exact rfl | decide +kernel)
    (case tct6_1 => first | exact rfl | decide +kernel)
    (case tdt6_1 => first | exact rfl | decide +kernel)
    (case git13 => first | exact rfl | decide +kernel)
    (case tlt13 => first | exact rfl | decide +kernel)
    (case tct13 => first | exact rfl | decide +kernel)
    (case tdt13 => first | exact rfl | decide +kernel)
    (case tlt13_0 => first | exact rfl | decide +kernel)
    (case tct13_0 => first | exact rfl | decide +kernel)
    (case tdt13_0 => first | exact rfl | decide +kernel)

