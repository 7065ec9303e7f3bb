import PyProof.Rows.All
import Wide.All
import OpenK.AllK
import Wide.FinOn
import HandS.ForMost
import HandS.Gcd
import HandS.Wide
import HandS.Codes
import HandS.IsInst
import HandS.Zip
import HandS.Walk
import HandS.MakeKwOnly
import HandS.Property
import KE.KOpsOwn
import KE.KMathG
import HandS.OwnEq
import HandS.ClsMeth
import Flt.RightSqrt
import KE.KExcSuper
import KE.KSuper
import KE.KExcPX
import HandS.Exc
import HandS.ExcSuper
import KE.KTryMore
import HandS.HotCalls
import HandS.Lambda
import KE.KFmtOwn
import KE.KIsAll
import HandS.WordsExc
import HandS.Defaults
import HandS.List
import HandS.WideBits
import HandS.Style
import KE.KDflt
import HandS.Comp
import HandS.TryOnly
import HandS.EndOwn
import PySem.Challenge.RW_rootfloor_k02_sums_and_products_of_surds
set_option Elab.async false
set_option maxRecDepth 100000
set_option maxHeartbeats 8000000
namespace RF
open PySem L2

/-- all that is tracked stays, but what stands at b -/
def Kp (b : Addr) (H H' : Hp) : Prop := ∀ a o, a ≠ b → H a = some o → H' a = some o
theorem Kp.refl (b : Addr) (H : Hp) : Kp b H H := fun _ _ _ e => e
theorem Kp.trans {b : Addr} {H H1 H2 : Hp} (x : Kp b H H1) (y : Kp b H1 H2) : Kp b H H2 := fun a o n e => y a o n (x a o n e)
theorem Kp.upd {b : Addr} {H : Hp} {o : HO} : Kp b H (upd H b o) := fun a u n e => by rw [upd_ne n]; exact e
theorem Kp.of {b : Addr} {H H' : Hp} (s : Same H H') : Kp b H H' := fun a o _ e => s a o e

/-- the bag of a script: its cells, how many are taken, what is left of a great one, the state of the draws -/
structure BagC (H : Hp) (b c : Addr) (ns : List Int) (i : Nat) (z r : Int) : Prop where
  ne : b ≠ c
  at_ : H b = some (.lst [.ref c, .int i, .int z, .int r])
  cs : H c = some (.lst (ns.map V.int))
  le : i ≤ ns.length
  z0 : 0 ≤ z
  r0 : 0 ≤ r
  r1 : r < 2147483647
def Bag (H : Hp) (b : Addr) : Prop := ∃ (c : Addr) (ns : List Int) (i : Nat) (z r : Int), BagC H b c ns i z r
theorem BagC.put {H : Hp} {b c : Addr} {ns : List Int} {i i' : Nat} {z r z' r' : Int} {o : HO} (B : BagC H b c ns i z r) (ho : o = .lst [.ref c, .int i', .int z', .int r']) (hi : i' ≤ ns.length) (hz : 0 ≤ z') (h0 : 0 ≤ r') (h1 : r' < 2147483647) :
    BagC (upd H b o) b c ns i' z' r' := ⟨B.ne, by rw [upd_same, ho], by rw [upd_ne (Ne.symm B.ne)]; exact B.cs, hi, hz, h0, h1⟩
theorem Bag.some {H : Hp} {b : Addr} (B : Bag H b) : ∃ xs, H b = some (.lst xs) := let ⟨_, _, _, _, _, e⟩ := B; ⟨_, e.at_⟩
theorem Bag.same {H H' : Hp} {b : Addr} (B : Bag H b) (s : Same H H') : Bag H' b := by
  obtain ⟨c, ns, i, z, r, h⟩ := B
  exact ⟨c, ns, i, z, r, h.ne, s _ _ h.at_, s _ _ h.cs, h.le, h.z0, h.r0, h.r1⟩
theorem emod_lo (a : Int) {b : Int} (h : 0 < b) : 0 ≤ a % b := Int.emod_nonneg _ (by omega)
theorem emod_hi (a : Int) {b : Int} (h : 0 < b) : a % b < b := Int.emod_lt_of_pos _ h

/-- a draw: some number below the sides; the bag stays one, nothing else changes -/
def spPull : Sp := fun vs H Q _ => ∃ (b : Addr) (k : Int), vs = [.ref b, .int k] ∧ Bag H b ∧ 0 < k ∧ k < 1073741824 ∧
  ∀ (d : Int) (H' : Hp), 0 ≤ d → d < k → Bag H' b → Kp b H H' → Q (.int d) H'
def spBag (K : PySem.W.Frag) : Sp := fun vs H Q _ => ∃ (a : Addr) (ns : List Int), vs = [.ref a] ∧ SqL K H a (ns.map V.int) ∧ ns.length ≤ 63 ∧
  ∀ (b : Addr) (H' : Hp), H b = none → Bag H' b → Same H H' → Q (.ref b) H'
/-- a new object -/
theorem sNew {H H1 : Hp} {p : Addr} {o : HO} (s : Same H H1) (h : H1 p = none) : Same H (upd H1 p o) := fun a u e => by
  rw [upd_ne (ne_of_none (s a u e) h)]
  exact s a u e
theorem ne_new {H : Hp} {p q : Addr} {o : HO} (h : upd H p o q = none) : q ≠ p := fun z => by
  rw [z, upd_same] at h
  cases h
theorem of_new {H : Hp} {p q : Addr} {o : HO} (h : upd H p o q = none) : H q = none := by
  rw [upd_ne (ne_new h)] at h
  exact h

/-! ### data: what a value tells, with the lists and tuples in it -/
inductive D where
  | non | bl (b : Bool) | int (i : Int) | str (x : Str) | lst (ds : List D) | tup (ds : List D)
mutual
def Rp (K : PySem.W.Frag) (H : Hp) : V → D → Prop
  | v, .non => v = .non
  | v, .bl b => v = .bl b
  | v, .int i => v = .int i
  | v, .str x => v = .str x
  | v, .lst ds => ∃ a xs, v = .ref a ∧ SqL K H a xs ∧ xs.length ≤ 100000 ∧ Rps K H xs ds
  | v, .tup ds => ∃ a xs, v = .ref a ∧ SqT K H a xs ∧ xs.length ≤ 100000 ∧ Rps K H xs ds
def Rps (K : PySem.W.Frag) (H : Hp) : List V → List D → Prop
  | xs, [] => xs = []
  | xs, d :: ds => ∃ x r, xs = x :: r ∧ Rp K H x d ∧ Rps K H r ds
end
mutual
def dep : D → Nat
  | .lst ds => depL ds + 1
  | .tup ds => depL ds + 1
  | _ => 0
def depL : List D → Nat
  | [] => 0
  | d :: ds => max (dep d) (depL ds)
end
theorem sameT {K : PySem.W.Frag} {H H' : Hp} {a : Addr} {xs : List V} (e : Same H H') (h : SqT K H a xs) : SqT K H' a xs := by
  rcases h with (h | ⟨o, h⟩) | h
  · exact .inl (.inl (e _ _ h))
  · exact .inl (.inr ⟨o, e _ _ h⟩)
  · exact .inr h
mutual
theorem Rp.same {K : PySem.W.Frag} {H H' : Hp} (e : Same H H') : ∀ {v : V} (d : D), Rp K H v d → Rp K H' v d
  | _, .non, h => h
  | _, .bl _, h => h
  | _, .int _, h => h
  | _, .str _, h => h
  | _, .lst ds, h => by
    obtain ⟨a, xs, h1, h2, h3, h4⟩ := h
    exact ⟨a, xs, h1, e.seq h2, h3, Rps.same e ds h4⟩
  | _, .tup ds, h => by
    obtain ⟨a, xs, h1, h2, h3, h4⟩ := h
    exact ⟨a, xs, h1, sameT e h2, h3, Rps.same e ds h4⟩
theorem Rps.same {K : PySem.W.Frag} {H H' : Hp} (e : Same H H') : ∀ {xs : List V} (ds : List D), Rps K H xs ds → Rps K H' xs ds
  | _, [], h => h
  | _, d :: ds, h => by
    obtain ⟨x, r, h1, h2, h3⟩ := h
    exact ⟨x, r, h1, Rp.same e d h2, Rps.same e ds h3⟩
end
theorem Rps.len {K : PySem.W.Frag} {H : Hp} : ∀ {xs : List V} {ds : List D}, Rps K H xs ds → xs.length = ds.length
  | _, [], h => by rw [show _ = [] from h]; rfl
  | _, d :: ds, h => by
    obtain ⟨x, r, rfl, _, h3⟩ := h
    rw [List.length_cons, List.length_cons, Rps.len h3]
theorem Rps.at_ {K : PySem.W.Frag} {H : Hp} : ∀ {xs : List V} {ds : List D} {i : Nat} {x : V}, Rps K H xs ds → xs[i]? = some x → ∃ d, ds[i]? = some d ∧ Rp K H x d
  | _, [], i, x, h, e => by rw [show _ = [] from h] at e; simp at e
  | _, d :: ds, 0, x, h, e => by
    obtain ⟨y, r, rfl, h2, _⟩ := h
    cases e
    exact ⟨d, rfl, h2⟩
  | _, d :: ds, i + 1, x, h, e => by
    obtain ⟨y, r, rfl, _, h3⟩ := h
    obtain ⟨d', e1, e2⟩ := Rps.at_ (i := i) h3 e
    exact ⟨d', e1, e2⟩
theorem dep_mem : ∀ {ds : List D} {i : Nat} {d : D}, ds[i]? = some d → dep d ≤ depL ds
  | [], _, _, e => by simp at e
  | c :: ds, 0, d, e => by cases e; exact Nat.le_max_left ..
  | c :: ds, i + 1, d, e => Nat.le_trans (dep_mem (i := i) e) (Nat.le_max_right ..)

/-- the class of a datum's value -/
def tyD : D → String
  | .non => "NoneType" | .bl _ => "bool" | .int _ => "int" | .str _ => "str" | .lst _ => "list" | .tup _ => "tuple"
theorem tyL {K : PySem.W.Frag} {H : Hp} {a : Addr} {xs : List V} (h : SqL K H a xs) : TyX K H (.ref a) (.type "list") := by
  rcases h with (h | ⟨o, h⟩) | ⟨o, its, n, h, c, _⟩
  · exact .base (.lst h)
  · exact .base (.frz h)
  · exact .kList h c
theorem tyT {K : PySem.W.Frag} {H : Hp} {a : Addr} {xs : List V} (h : SqT K H a xs) : TyX K H (.ref a) (.type "tuple") := by
  rcases h with (h | ⟨o, h⟩) | ⟨o, its, n, h, c, _⟩
  · exact .base (.tup h)
  · exact .fTuple h
  · exact .kTuple h c
theorem tyX {K : PySem.W.Frag} {H : Hp} : ∀ {v : V} (d : D), Rp K H v d → TyX K H v (.type (tyD d))
  | _, .non, h => by rw [show _ = V.non from h]; exact .base .non
  | _, .bl _, h => by rw [show _ = V.bl _ from h]; exact .base (.bl _)
  | _, .int _, h => by rw [show _ = V.int _ from h]; exact .base (.int _)
  | _, .str _, h => by rw [show _ = V.str _ from h]; exact .base (.str _)
  | _, .lst ds, h => by obtain ⟨a, xs, rfl, h2, _⟩ := h; exact tyL h2
  | _, .tup ds, h => by obtain ⟨a, xs, rfl, h2, _⟩ := h; exact tyT h2

/-! ### a def that others call -/
structure Df (P : Program) (w : World) (K : PySem.W.Frag) (mg : Str → Option Value) (base : Heap) (k : Nat) (x : Str) (ps : List Str) (sp : Sp) : Prop where
  ex : ∃ (f : Addr) (fd : FuncData), FnOk P w K mg base CX0 k f fd ps sp ∧ Binds K fd ps [] ∧ mg x = some (.ref f) ∧ PySem.W.keepIn K (.ref f) = true
theorem fn_false {P : Program} {w : World} {K : PySem.W.Frag} {mg : Str → Option Value} {base : Heap} {CX : CXT} {k : Nat} {f : Addr} {fd : FuncData} {ps : List Str} : FnOk P w K mg base CX k f fd ps (fun _ _ _ _ => False) :=
  ⟨fun _ _ _ _ h => h.elim, fun _ _ _ _ _ _ _ _ _ _ _ _ _ h => h.elim⟩
theorem pe_callD {X : Cx} {j k : Nat} {x : Str} {ps : List Str} {sp : Sp} {p pos : Pos} {e : Expr} {es : List Expr} {t : TA} (F : Df X.prog X.w X.K X.mg X.base k x ps sp) (hr : Room j X.A) (hk : k ≤ j) (ha : PA X (e :: es) t)
    (hg : Gl X x := by rfl) (hdb : (x == ("__debug__" : Str)) = false := by decide)
    (he : starEach (e :: es) X.env = (false, eval e X.env) :: starEach es X.env := by rfl) (hpl : (backTo pos (starEach es X.env)).any (·.1) = false := by rfl) :
    PE X (.Call (.Name x p) (e :: es) [] pos) (tCall sp [] E0 t) := by
  obtain ⟨f, fd, G, b, m, kp⟩ := F.ex
  exact pe_call G (hr.mono hk) hg m kp b .nil pass0 ha hdb he hpl
/-- zip of two tuples -/
theorem walk_zipT {K : PySem.W.Frag} {a b : Addr} {xs ys : List V} {n : Nat} (hn : n = min xs.length ys.length) : Walk (RZ.ItzT K a b) n (fun H => SqT K H a xs ∧ SqT K H b ys) (YPair (fun i => xs[i]?) (fun i => ys[i]?)) := by
  subst hn
  refine ⟨fun i _ hi q => ?_, fun _ q => ⟨xs, ys, q.1, q.2, by omega⟩, fun i H v H' _ q y => ?_⟩
  · have h1 : i < xs.length := by omega
    have h2 : i < ys.length := by omega
    exact ⟨xs, ys, xs[i], ys[i], q.1, q.2, by simp [h1], by simp [h2]⟩
  · obtain ⟨T, x, z, h1, h2, h3, h4, h5⟩ := y
    exact ⟨T, x, z, h1, h2, h3, h4 xs q.1, h5 ys q.2⟩

/-- one datum, told twice: the law's own comparison gives True -/
def spSame (K : PySem.W.Frag) (n : Nat) : Sp := fun vs H Q _ => ∃ (v u : V) (d : D), vs = [v, u] ∧ Rp K H v d ∧ Rp K H u d ∧ dep d ≤ n ∧ ∀ H', Same H H' → Q (.bl true) H'
def spSameL (K : PySem.W.Frag) : Nat → Sp
  | 0 => fun _ _ _ _ => False
  | n + 1 => spSame K n
def spOf (K : PySem.W.Frag) : Sp := fun vs H Q _ => ∃ (b a : Addr) (xs : List V), vs = [.ref b, .ref a] ∧ Bag H b ∧ SqL K H a xs ∧ a ≠ b ∧ 0 < xs.length ∧ xs.length < 1000000 ∧
  ∀ (v : V) (H' : Hp), v ∈ xs → Bag H' b → Kp b H H' → Q v H'
def spRoot : Sp := fun vs H Q _ => ∃ (b : Addr), vs = [.ref b] ∧ Bag H b ∧ ∀ (d : Int) (H' : Hp), d = 2 ∨ d = 3 ∨ d = 5 ∨ d = 6 ∨ d = 13 → Bag H' b → Kp b H H' → Q (.int d) H'
def spFar : Sp := fun vs H Q _ => ∃ (b : Addr) (k : Int), vs = [.ref b, .int k] ∧ Bag H b ∧ 0 < k ∧ k ≤ 1000 ∧ ∀ (n : Int) (H' : Hp), 0 ≤ n → n < 10 ^ k.toNat → Bag H' b → Kp b H H' → Q (.int n) H'
theorem Kp.seq {K : PySem.W.Frag} {b a : Addr} {H H' : Hp} {xs : List V} (k : Kp b H H') (n : a ≠ b) (h : SqL K H a xs) : SqL K H' a xs := by
  rcases h with (h | ⟨o, h⟩) | h
  · exact .inl (.inl (k _ _ n h))
  · exact .inl (.inr ⟨o, k _ _ n h⟩)
  · exact .inr h

theorem iteP {c A B : Prop} [Decidable c] (hc : c) (h : A) : if c then A else B := by
  rw [if_pos hc]
  exact h
theorem iteN {c A B : Prop} [Decidable c] (hc : ¬ c) (h : B) : if c then A else B := by
  rw [if_neg hc]
  exact h
theorem nd_of {p : Prop} [Decidable p] (h : ¬ p) : ¬ decide p = true := fun z => h (of_decide_eq_true z)
theorem eqT {x : V} {Q : VK} {H : Hp} (h : Q (.bl true) H) : Q (.bl (decide (x = x))) H := by
  rw [decide_eq_true rfl]
  exact h
def isBool : D → Bool
  | .bl _ => true
  | _ => false
theorem kb_NoneType_bool : kitB "NoneType" "bool" = some false := by decide +kernel
theorem kb_bool_bool : kitB "bool" "bool" = some true := by decide +kernel
theorem kb_int_bool : kitB "int" "bool" = some false := by decide +kernel
theorem kb_str_bool : kitB "str" "bool" = some false := by decide +kernel
theorem kb_list_bool : kitB "list" "bool" = some false := by decide +kernel
theorem kb_tuple_bool : kitB "tuple" "bool" = some false := by decide +kernel
theorem kit_bool : ∀ d : D, kitB (tyD d) "bool" = some (isBool d)
  | .non => kb_NoneType_bool
  | .bl _ => kb_bool_bool
  | .int _ => kb_int_bool
  | .str _ => kb_str_bool
  | .lst _ => kb_list_bool
  | .tup _ => kb_tuple_bool
def isInt : D → Bool
  | .bl _ => true
  | .int _ => true
  | _ => false
theorem kb_NoneType_int : kitB "NoneType" "int" = some false := by decide +kernel
theorem kb_bool_int : kitB "bool" "int" = some true := by decide +kernel
theorem kb_int_int : kitB "int" "int" = some true := by decide +kernel
theorem kb_str_int : kitB "str" "int" = some false := by decide +kernel
theorem kb_list_int : kitB "list" "int" = some false := by decide +kernel
theorem kb_tuple_int : kitB "tuple" "int" = some false := by decide +kernel
theorem kit_int : ∀ d : D, kitB (tyD d) "int" = some (isInt d)
  | .non => kb_NoneType_int
  | .bl _ => kb_bool_int
  | .int _ => kb_int_int
  | .str _ => kb_str_int
  | .lst _ => kb_list_int
  | .tup _ => kb_tuple_int
def isStr : D → Bool
  | .str _ => true
  | _ => false
theorem kb_NoneType_str : kitB "NoneType" "str" = some false := by decide +kernel
theorem kb_bool_str : kitB "bool" "str" = some false := by decide +kernel
theorem kb_int_str : kitB "int" "str" = some false := by decide +kernel
theorem kb_str_str : kitB "str" "str" = some true := by decide +kernel
theorem kb_list_str : kitB "list" "str" = some false := by decide +kernel
theorem kb_tuple_str : kitB "tuple" "str" = some false := by decide +kernel
theorem kit_str : ∀ d : D, kitB (tyD d) "str" = some (isStr d)
  | .non => kb_NoneType_str
  | .bl _ => kb_bool_str
  | .int _ => kb_int_str
  | .str _ => kb_str_str
  | .lst _ => kb_list_str
  | .tup _ => kb_tuple_str
def isLst : D → Bool
  | .lst _ => true
  | _ => false
theorem kb_NoneType_list : kitB "NoneType" "list" = some false := by decide +kernel
theorem kb_bool_list : kitB "bool" "list" = some false := by decide +kernel
theorem kb_int_list : kitB "int" "list" = some false := by decide +kernel
theorem kb_str_list : kitB "str" "list" = some false := by decide +kernel
theorem kb_list_list : kitB "list" "list" = some true := by decide +kernel
theorem kb_tuple_list : kitB "tuple" "list" = some false := by decide +kernel
theorem kit_list : ∀ d : D, kitB (tyD d) "list" = some (isLst d)
  | .non => kb_NoneType_list
  | .bl _ => kb_bool_list
  | .int _ => kb_int_list
  | .str _ => kb_str_list
  | .lst _ => kb_list_list
  | .tup _ => kb_tuple_list
def isTup : D → Bool
  | .tup _ => true
  | _ => false
theorem kb_NoneType_tuple : kitB "NoneType" "tuple" = some false := by decide +kernel
theorem kb_bool_tuple : kitB "bool" "tuple" = some false := by decide +kernel
theorem kb_int_tuple : kitB "int" "tuple" = some false := by decide +kernel
theorem kb_str_tuple : kitB "str" "tuple" = some false := by decide +kernel
theorem kb_list_tuple : kitB "list" "tuple" = some false := by decide +kernel
theorem kb_tuple_tuple : kitB "tuple" "tuple" = some true := by decide +kernel
theorem kit_tuple : ∀ d : D, kitB (tyD d) "tuple" = some (isTup d)
  | .non => kb_NoneType_tuple
  | .bl _ => kb_bool_tuple
  | .int _ => kb_int_tuple
  | .str _ => kb_str_tuple
  | .lst _ => kb_list_tuple
  | .tup _ => kb_tuple_tuple
theorem kit_lt {K : PySem.W.Frag} (d : D) : PySem.W.kitAny K (.type (tyD d)) [.type "list", .type "tuple"] = some (isLst d || isTup d) := by
  refine kitAny_cons (kit_ty (kit_list d)) (fun e => ?_) (fun e => by rw [e]; rfl)
  rw [e, Bool.false_or]
  exact kitAny_cons (kit_ty (kit_tuple d)) (fun e => by rw [e]; rfl) (fun e => e)
structure TSm (mg : Str → Option Value) : Prop where
  isinstance : mg "isinstance" = none
  bool : mg "bool" = none
  int : mg "int" = none
  str : mg "str" = none
  list : mg "list" = none
  tuple : mg "tuple" = none
  len : mg "len" = none
  all : mg "all" = none
  zip : mg "zip" = none
theorem yes_if {σ : St} {H : Hp} {A B : Hp → Prop} (h : A H) : tYes σ H (fun b H3 => if b = true then A H3 else B H3) := by
  show (if true = true then A H else B H)
  rw [if_pos rfl]
  exact h
end RF

namespace RF
open PySem L2
/-! ### built-in functions of math -/
theorem args_gcd3 (a b c : Value) : argsOk "math.gcd" ⟨[a, b, c], []⟩ := by
  unfold argsOk
  kernel_rfl
theorem run_gcd3 (a : Int) (t : Tok) (b : Int) (u : Tok) (c : Int) (v : Tok) :
    Gives (Builtin.«math.gcd» ⟨[.int a t, .int b u, .int c v], []⟩) (.int (((((Nat.gcd 0 a.natAbs).gcd b.natAbs).gcd c.natAbs : Nat) : Int))) :=
  .of_wp fun M A E s Q h => by
    obtain ⟨hp, g, d, tk, os⟩ := s
    wp_walk
    exact ⟨_, rfl, h⟩

section
variable {X : Cx}
theorem vals3 {x y z : V} {us : List Value} (r : Vals [x, y, z] us) : ∃ u v w, us = [u, v, w] ∧ RelV x u ∧ RelV y v ∧ RelV z w := by
  cases r with
  | cons a r => cases r with
    | cons b r => cases r with
      | cons c r => cases r; exact ⟨_, _, _, rfl, a, b, c⟩
def rGcd3 : List V → Hp → VK → Prop := fun vs H Q => ∃ a b c : Int, vs = [.int a, .int b, .int c] ∧ Q (.int ((Nat.gcd (Nat.gcd a.natAbs b.natAbs) c.natAbs : Nat) : Int)) H
theorem cr_gcd3 : CallR X (.builtin "math.gcd") rGcd3 := by
  intro pins s σ H vs us Q I r h
  obtain ⟨a, b, c, rfl, q⟩ := h
  obtain ⟨u1, u2, u3, rfl, ⟨t1, rfl⟩, ⟨t2, rfl⟩, ⟨t3, rfl⟩⟩ := vals3 r
  have g := run_gcd3 a t1 b t2 c t3
  rw [Nat.gcd_zero_left] at g
  exact call_function_meets PySem.W.MGF.kind_gcd PySem.W.MGF.plain_gcd PySem.W.MGF.entry_gcd (args_gcd3 _ _ _) g.meets (show EP X pins σ Q _ _ from ⟨.int _, H, I.tok _, ⟨_, rfl⟩, q⟩)
def rIsqrt : List V → Hp → VK → Prop := fun vs H Q => ∃ a : Int, vs = [.int a] ∧ 0 ≤ a ∧ a.toNat.log2 < 13000 ∧ Q (.int ((Float64.isqrt a.toNat : Nat) : Int)) H
theorem cr_isqrt : CallR X (.builtin "math.isqrt") rIsqrt := by
  intro pins s σ H vs us Q I r h
  obtain ⟨a, rfl, h0, h1, q⟩ := h
  obtain ⟨u, rfl, t, rfl⟩ := vals1 r
  exact call_function_meets PySem.W.MGF.kind_isqrt PySem.W.MGF.plain_isqrt PySem.W.MGF.entry_isqrt (PySem.W.MGF.args_isqrt _) (PySem.W.mg_run_isqrt a t (by omega) (by omega) (by omega)).meets
    (show EP X pins σ Q _ _ from ⟨.int _, H, I.tok _, ⟨_, rfl⟩, q⟩)

/-! ### operators of an own class -/
/-- C has the operator as the def at f -/
structure OwnOp (K : PySem.W.Frag) (C f : Addr) (m : Str) : Prop where
  first : PySem.W.selfFirst K C = true
  at_ : PySem.W.findIn K (.ref C) m = some (some (.ref f))
  fn : PySem.W.isFn K (.ref f) = true
def rOwn2 (C : Addr) (sp : Sp) (E : XK) : R2 := fun x y H Q => ∃ a b dx dy fs gs, x = .ref a ∧ y = .ref b ∧ H a = some (.ins C dx fs) ∧ H b = some (.ins C dy gs) ∧ sp [.ref a, .ref b] H Q E
theorem notImpl {v : V} {u : Value} {P : Value → Shared → Prop} {s : Shared} (r : RelV v u) (h : P u s) : PySem.W.CmpBack P u s := by
  cases v with
  | non => cases r; exact h
  | bl _ => cases r; exact h
  | int _ => obtain ⟨t, rfl⟩ := r; exact h
  | str _ => obtain ⟨t, rfl⟩ := r; exact h
  | byt _ => obtain ⟨t, rfl⟩ := r; exact h
  | flt _ => obtain ⟨t, rfl⟩ := r; exact h
  | ref _ => cases r; exact h
  | ty _ => cases r; exact h
theorem op_own {CX : CXT} {op : Operator} {n : Nat} {C f : Addr} {sp : Sp} {E : XK} (F : FnR X.prog X.w X.K X.mg X.base CX n f sp) (hr : Room n X.A) (O : OwnOp X.K C f (PySem.dunder op.info.2)) (hx : Passes CX X E) : OpR X (binaryOp op) (rOwn2 C sp E) := by
  intro pins s σ H x y v u Q I rx ry h
  obtain ⟨a, b, dx, dy, fs, gs, rfl, rfl, ha, hb, q⟩ := h
  cases rx
  cases ry
  obtain ⟨mA, J, _⟩ := ins_get I.hok ha
  obtain ⟨mB, J', _⟩ := ins_get I.hok hb
  obtain ⟨od, J, _⟩ := J.look
  obtain ⟨od', J', _⟩ := J'.look
  obtain ⟨m, hF⟩ := I.fr
  refine PySem.W.binop_K hF I.ok.mod.kin J J'.type O.first O.at_ O.fn (wpAny_mono (wpAny_call (run_fnR (us := [.ref a, .ref b]) (vs := [.ref a, .ref b]) F hr hx I (.cons rfl (.cons rfl .nil)) q)) (fun r s' z => ?_) fun _ _ z => z)
  obtain ⟨v, H', I', rv, q'⟩ := id z
  exact notImpl rv z
def rOwn1 (C : Addr) (sp : Sp) (E : XK) : V → Hp → VK → Prop := fun x H Q => ∃ a dx fs, x = .ref a ∧ H a = some (.ins C dx fs) ∧ sp [.ref a] H Q E
theorem un_own_neg {CX : CXT} {n : Nat} {C f : Addr} {sp : Sp} {E : XK} (F : FnR X.prog X.w X.K X.mg X.base CX n f sp) (hr : Room n X.A) (O : OwnOp X.K C f "__neg__") (hx : Passes CX X E) : UnR X (unaryOp .USub) (rOwn1 C sp E) := by
  intro pins s σ H x v Q I rx h
  obtain ⟨a, dx, fs, rfl, ha, q⟩ := h
  cases rx
  obtain ⟨mA, J, _⟩ := ins_get I.hok ha
  obtain ⟨od, J, _⟩ := J.look
  obtain ⟨m, hF⟩ := I.fr
  exact PySem.W.ksp_neg hF I.ok.mod.kin J O.at_ O.fn (wpAny_call (run_fnR (us := [.ref a]) (vs := [.ref a]) F hr hx I (.cons rfl .nil) q))
/-- bool(x) of an instance with its own truth -/
def rOwnB (C : Addr) (sp : Sp) (E : XK) : List V → Hp → VK → Prop := fun vs H Q => ∃ a dx fs, vs = [.ref a] ∧ H a = some (.ins C dx fs) ∧ sp [.ref a] H (fun v H' => ∃ b, v = .bl b ∧ Q (.bl b) H') E
theorem tru_of {M : Model} {A : Around} {x : Value} {s : Shared} {Q0 Q : Bool → Shared → Prop} {E : Value → Shared → Prop} (hs : wpAny M A (truthy x) Q0 E s) (h : ∀ b s', Q0 b s' → Q b s') : wpAny M A (truthy x) Q E s := wpAny_mono hs h fun _ _ z => z
theorem new_bool_own (prog : Program) (w : World) (a : Addr) : MeetsIn prog w (Builtin.«bool.__new__» ⟨[.type "bool", .ref a], []⟩)
    (fun A R s => wpAny (model prog w) A.in1 (truthy (.ref a)) (fun b s' => R (.ok (.ret (.bool b))) s') (fun e s' => R (.error e) s') s) :=
  .of_wp fun A R s hs => by
    have f1 := F.conv_sub_bool
    obtain ⟨hp, g, d, tk, os⟩ := s
    repeat (any_goals (first | assumption | (with_reducible refine tru_of hs (fun b s' hq => ?_)) | wp_step))
    all_goals exact ⟨_, rfl, hq⟩
theorem call_bool_own {CX : CXT} {n : Nat} {C f : Addr} {sp : Sp} {E : XK} (G : FnR X.prog X.w X.K X.mg X.base CX n f sp) (hr : Room (n + 2) X.A) (hat : PySem.W.findIn X.K (.ref C) "__bool__" = some (some (.ref f))) (hfn : PySem.W.isFn X.K (.ref f) = true)
    (hx : Passes CX X E) : CallR X (.type "bool") (rOwnB C sp E) := by
  intro pins s σ H xs us Q I r h
  obtain ⟨a, dx, fs, rfl, ha, q⟩ := h
  obtain ⟨u, rfl, r1⟩ := vals1 r
  cases r1
  obtain ⟨mA, J, _⟩ := ins_get I.hok ha
  obtain ⟨od, J, _⟩ := J.look
  obtain ⟨m, hF⟩ := I.fr
  refine PySem.callType_newIn PySem.F.called_bool PySem.F.newNe_bool (PySem.F.typeCall_bool_1 _) (PySem.F.newCall_bool_1 _) (fun obj => PySem.F.args_object_init_2 obj _) PySem.F.entry_bool_new (new_bool_own X.prog X.w a) ?_
  refine PySem.W.truthy_K hF I.ok.mod.kin J hat hfn ?_
  refine wpAny_call (codeAny_mono (G _ X.stack s H [.ref a] [.ref a] _ E hr.in1.in1 I.env0.in1.in1 (.cons rfl .nil) q) fun r s' hq => ?_)
  cases r with
  | error e => exact hx pins σ H s e s' I hq
  | ok fl =>
    cases fl with
    | ret u =>
      obtain ⟨v, H', I', rv, b, rfl, q'⟩ := I.after hq
      cases rv
      exact ⟨rfl, .bl b, H', I', rfl, q'⟩
    | next => exact False.elim hq
    | brk => exact False.elim hq
    | cont => exact False.elim hq
/-- C.m is a staticmethod: its record at p, its def at g -/
structure SMet (K : PySem.W.Frag) (C : Addr) (mc : Value) (m : Str) (p g : Addr) : Prop where
  at_ : PySem.W.findCls K (.ref C) mc m = some (.get (.builtin "staticmethod.__get__") (.ref p) .none (.ref C))
  rc : ∃ rest, PySem.W.recIn K p "staticmethod" = some (.ref g :: rest)
  kp : PySem.W.keepIn K (.ref g) = true
def tSMeth (C : Addr) (sp : Sp) (E : XK) (ta : TE) (t : TA) : TE := fun σ H Q => ta σ H fun x H1 => x = .ref C ∧ t σ H1 fun vs H2 => sp vs H2 Q E
theorem pe_smeth {CX : CXT} {k : Nat} {C p g : Addr} {mc : Value} {sp : Sp} {E : XK} {o e : Expr} {es : List Expr} {m : Str} {pos apos : Pos} {ta : TE} {t : TA} {pl : Sem Bool} (he : PE X o ta) (r : ClX.CRead X.K C mc) (c : SMet X.K C mc m p g)
    (F : FnR X.prog X.w X.K X.mg X.base CX k g sp) (hr : Room k X.A) (hx : Passes CX X E) (ha : PA X (e :: es) t)
    (hst : starEach (e :: es) X.env = (false, eval e X.env) :: starEach es X.env := by rfl) (hpl : (backTo pos (starEach es X.env)).any (·.1) = false := by rfl)
    (ht : eval (.Call (.Attribute o m apos) (e :: es) [] pos) X.env = (do
      let ov ← eval o X.env
      standAt apos.atName
      let (f, first) ← holding [ov] (getMethod ov m pl)
      callWith pos f first (backTo pos (starEach (e :: es) X.env)) (backToKw pos (keywordEach [] X.env))) := by rfl) :
    PE X (.Call (.Attribute o m apos) (e :: es) [] pos) (tSMeth C sp E ta t) := by
  refine ⟨fun pins s σ H Q I h => ?_⟩
  refine PySem.W.methodCall_KW (pl := pl) (thn (he.run pins s σ H _ I h) fun u s1 ⟨x, H1, I1, rx, ex, q⟩ => ?_) ht
  subst ex
  obtain rfl : u = Value.ref C := rx
  obtain ⟨rest, hp⟩ := c.rc
  refine PySem.W.method_cls I1.kIn r.ga (PySem.W.cls_bind I1.kIn r.rd c.at_ (wpAny_call (PySem.W.sm_get (s := { s1 with toks := s1.toks + 1 }) I1.kIn hp (PySem.W.handed_on rfl ?_))))
  have I2 := I1.tok (s1.toks + 1)
  refine PySem.W.callWith_K (h₀ := X.base) I.ok.mod.kin c.kp (thn (ha.run pos pins _ σ H1 _ I2 q) fun us s3 ⟨vs, H2, I3, rv, q2⟩ => ⟨I3.kIn, ?_⟩) hst hpl
  exact wpAny_call (run_fnR F hr hx I3 rv q2)
end
end RF

namespace RF
theorem sq_nonneg (a : Int) : 0 ≤ a * a := by
  rcases Int.le_total 0 a with h | h
  · exact Int.mul_nonneg h h
  · exact Int.mul_nonneg_of_nonpos_of_nonpos h h
theorem sq_le {a b : Int} (ha : 0 ≤ a) (h : a ≤ b) : a * a ≤ b * b := Int.mul_le_mul h h ha (by omega)
theorem sq_lt {a b : Int} (ha : 0 ≤ a) (h : a < b) : a * a < b * b := by
  have h1 : a * a ≤ a * b := Int.mul_le_mul_of_nonneg_left (by omega) ha
  have h2 : a * b < b * b := Int.mul_lt_mul_of_pos_right h (by omega)
  omega
theorem le_of_sq {a b : Int} (hb : 0 ≤ b) (h : a * a ≤ b * b) : a ≤ b := by
  rcases Int.lt_or_le b a with z | z
  · have := sq_lt hb z
    omega
  · exact z
theorem lt_of_sq {a b : Int} (hb : 0 ≤ b) (h : a * a < b * b) : a < b := by
  rcases Int.lt_or_le a b with z | z
  · exact z
  · have := sq_le hb z
    omega
/-! ### square roots of integers -/
def rt (n : Int) : Int := ((PySem.Float64.isqrt n.toNat : Nat) : Int)
theorem rt_nn (n : Int) : 0 ≤ rt n := Int.natCast_nonneg _
theorem rt_le {n : Int} (h : 0 ≤ n) : rt n * rt n ≤ n := by
  have := (PySem.Float64.isqrt_spec n.toNat).1
  have e : ((PySem.Float64.isqrt n.toNat * PySem.Float64.isqrt n.toNat : Nat) : Int) ≤ ((n.toNat : Nat) : Int) := Int.ofNat_le.mpr this
  rw [Int.natCast_mul] at e
  unfold rt
  omega
theorem rt_lt {n : Int} (h : 0 ≤ n) : n < (rt n + 1) * (rt n + 1) := by
  have := (PySem.Float64.isqrt_spec n.toNat).2
  have e : ((n.toNat : Nat) : Int) < (((PySem.Float64.isqrt n.toNat + 1) * (PySem.Float64.isqrt n.toNat + 1) : Nat) : Int) := Int.ofNat_lt.mpr this
  rw [Int.natCast_mul, Int.natCast_add] at e
  unfold rt
  have e2 : ((n.toNat : Nat) : Int) = n := by omega
  rw [e2] at e
  exact e
theorem rt_uniq {n r : Int} (h : 0 ≤ n) (r0 : 0 ≤ r) (r1 : r * r ≤ n) (r2 : n < (r + 1) * (r + 1)) : r = rt n := by
  have a := rt_le h
  have b := rt_lt h
  have c := rt_nn n
  have h1 : r < rt n + 1 := lt_of_sq (by omega) (by omega)
  have h2 : rt n < r + 1 := lt_of_sq (by omega) (by omega)
  omega
/-! ### the roots -/
def Root (d : Int) : Prop := d = 2 ∨ d = 3 ∨ d = 5 ∨ d = 6 ∨ d = 13
theorem Root.pos {d : Int} (h : Root d) : 0 < d := by unfold Root at h; omega
theorem Root.le {d : Int} (h : Root d) : d ≤ 13 := by unfold Root at h; omega
theorem ex_mul (i : Int) {p : Int} (h : i % p = 0) : ∃ t, i = p * t := ⟨i / p, by
  have := Int.mul_ediv_add_emod i p
  rw [h] at this
  omega⟩
theorem dvd2 {i c : Int} (h : i * i = 2 * c) : ∃ t, i = 2 * t := ex_mul i (by
  have e : (i * i) % 2 = 0 := by omega
  rw [Int.mul_emod] at e
  have : i % 2 = 0 ∨ i % 2 = 1 := by omega
  rcases this with z | z
  · exact z
  · rw [z] at e; simp at e)
theorem dvd3 {i c : Int} (h : i * i = 3 * c) : ∃ t, i = 3 * t := ex_mul i (by
  have e : (i * i) % 3 = 0 := by omega
  rw [Int.mul_emod] at e
  have : i % 3 = 0 ∨ i % 3 = 1 ∨ i % 3 = 2 := by omega
  rcases this with z | z | z
  · exact z
  · rw [z] at e; simp at e
  · rw [z] at e; simp at e)
theorem dvd5 {i c : Int} (h : i * i = 5 * c) : ∃ t, i = 5 * t := ex_mul i (by
  have e : (i * i) % 5 = 0 := by omega
  rw [Int.mul_emod] at e
  have : i % 5 = 0 ∨ i % 5 = 1 ∨ i % 5 = 2 ∨ i % 5 = 3 ∨ i % 5 = 4 := by omega
  rcases this with z | z | z | z | z
  · exact z
  all_goals (rw [z] at e; simp at e))
theorem dvd13 {i c : Int} (h : i * i = 13 * c) : ∃ t, i = 13 * t := ex_mul i (by
  have e : (i * i) % 13 = 0 := by omega
  rw [Int.mul_emod] at e
  have : i % 13 = 0 ∨ i % 13 = 1 ∨ i % 13 = 2 ∨ i % 13 = 3 ∨ i % 13 = 4 ∨ i % 13 = 5 ∨ i % 13 = 6 ∨ i % 13 = 7 ∨ i % 13 = 8 ∨ i % 13 = 9 ∨ i % 13 = 10 ∨ i % 13 = 11 ∨ i % 13 = 12 := by omega
  rcases this with z | z | z | z | z | z | z | z | z | z | z | z | z
  · exact z
  all_goals (rw [z] at e; simp at e))
/-- one step down -/
theorem down {d i j : Int} (hd : Root d) (h : i * i = d * (j * j)) : ∃ p i' j' : Int, 2 ≤ p ∧ j = p * j' ∧ i' * i' = d * (j' * j') := by
  rcases hd with rfl | rfl | rfl | rfl | rfl
  · obtain ⟨t, rfl⟩ := dvd2 h
    obtain ⟨u, rfl⟩ := dvd2 (i := j) (c := t * t) (by grind)
    exact ⟨2, t, u, by omega, rfl, by grind⟩
  · obtain ⟨t, rfl⟩ := dvd3 h
    obtain ⟨u, rfl⟩ := dvd3 (i := j) (c := t * t) (by grind)
    exact ⟨3, t, u, by omega, rfl, by grind⟩
  · obtain ⟨t, rfl⟩ := dvd5 h
    obtain ⟨u, rfl⟩ := dvd5 (i := j) (c := t * t) (by grind)
    exact ⟨5, t, u, by omega, rfl, by grind⟩
  · obtain ⟨t, rfl⟩ := dvd3 (i := i) (c := 2 * (j * j)) (by grind)
    obtain ⟨u, rfl⟩ := dvd3 (i := j) (c := 2 * (t * t) - (j * j)) (by grind)
    exact ⟨3, t, u, by omega, rfl, by grind⟩
  · obtain ⟨t, rfl⟩ := dvd13 h
    obtain ⟨u, rfl⟩ := dvd13 (i := j) (c := t * t) (by grind)
    exact ⟨13, t, u, by omega, rfl, by grind⟩
theorem nonsq {d : Int} (hd : Root d) : ∀ (n : Nat) (i j : Int), j.natAbs ≤ n → i * i = d * (j * j) → j = 0
  | 0, i, j, hn, _ => by omega
  | n + 1, i, j, hn, h => by
    obtain ⟨p, i', j', hp, e, h'⟩ := down hd h
    rcases Int.lt_trichotomy j' 0 with z | z | z
    · have : j'.natAbs ≤ n := by
        have h1 : p * j' ≤ 2 * j' := by
          have := Int.mul_le_mul_of_nonpos_right hp (by omega : j' ≤ 0)
          omega
        omega
      have := nonsq hd n i' j' this h'
      omega
    · rw [e, z]; simp
    · have : j'.natAbs ≤ n := by
        have h1 : 2 * j' ≤ p * j' := Int.mul_le_mul_of_nonneg_right hp (by omega)
        omega
      have := nonsq hd n i' j' this h'
      omega
theorem irr {d i j : Int} (hd : Root d) (h : i * i = d * (j * j)) : j = 0 := nonsq hd j.natAbs i j (Nat.le_refl _) h
end RF

namespace RF
theorem ring1 (x s : Int) : (x + s) * (x + s) = (x - s) * (x - s) + 4 * (x * s) := by grind
theorem amgm (x q y n : Int) (hx : 0 < x) (hq : 0 ≤ q) (hn : n < x * (q + 1)) (hy : x + q ≤ 2 * y + 1) : n < (y + 1) * (y + 1) := by
  have h1 := ring1 x (q + 1)
  have h0 : 0 ≤ (x - (q + 1)) * (x - (q + 1)) := by
    rcases Int.le_total 0 (x - (q + 1)) with h | h
    · exact Int.mul_nonneg h h
    · exact Int.mul_nonneg_of_nonpos_of_nonpos h h
  have h2 : (x + (q + 1)) * (x + (q + 1)) ≤ (2 * (y + 1)) * (2 * (y + 1)) := Int.mul_le_mul (by omega) (by omega) (by omega) (by omega)
  have h3 : (2 * (y + 1)) * (2 * (y + 1)) = 4 * ((y + 1) * (y + 1)) := by grind
  omega
end RF

namespace RF
/-- the size of an integer, as abs gives it -/
def ab (i : Int) : Int := if i < 0 then -i else i
theorem ab_nn (i : Int) : 0 ≤ ab i := by unfold ab; split <;> omega
theorem ab_pos {i : Int} (h : 0 ≤ i) : ab i = i := by unfold ab; rw [if_neg (by omega)]
theorem ab_neg {i : Int} (h : i ≤ 0) : ab i = -i := by
  unfold ab
  split <;> omega
/-- i|i| + d j|j|: it has the sign of i + j r -/
def sgb (d i j : Int) : Int := i * ab i + d * j * ab j
def sg (d i j : Int) : Int := if 0 < sgb d i j then 1 else if sgb d i j < 0 then -1 else 0
/-- the floor of f times the root -/
def flr (d f : Int) : Int := if f < 0 then -rt (d * f * f) - 1 else rt (d * f * f)
theorem dff (d f : Int) : d * f * f = d * (f * f) := Int.mul_assoc d f f
theorem dff_nn {d f : Int} (hd : Root d) : 0 ≤ d * f * f := by
  rw [dff]
  exact Int.mul_nonneg (Int.le_of_lt hd.pos) (sq_nonneg f)
theorem keyL {d x y : Int} (hd : Root d) : 0 ≤ sgb d x y ↔ 0 ≤ x + flr d y := by
  have r0 := rt_nn (d * y * y)
  have r1 := rt_le (dff_nn hd (f := y))
  have r2 := rt_lt (dff_nn hd (f := y))
  have dn := dff_nn hd (f := y)
  generalize hr : rt (d * y * y) = r at *
  rcases Int.lt_or_le y 0 with hy | hy
  · have ef : flr d y = -r - 1 := by unfold flr; rw [if_pos hy, hr]
    have eb : sgb d x y = x * ab x - d * y * y := by unfold sgb; rw [ab_neg (Int.le_of_lt hy)]; grind
    rw [ef, eb]
    have ne : r * r ≠ d * y * y := fun e => by
      have := irr hd (i := r) (j := y) (by rw [e, dff])
      omega
    have lt : r * r < d * y * y := by omega
    have dp : 0 < d * y * y := by
      have := sq_nonneg r
      omega
    rcases Int.lt_or_le x 0 with hx | hx
    · rw [ab_neg (Int.le_of_lt hx)]
      have := sq_nonneg x
      have e : x * -x = -(x * x) := by grind
      omega
    · rw [ab_pos hx]
      constructor
      · intro h
        have : r < x := lt_of_sq hx (by omega)
        omega
      · intro h
        have : (r + 1) * (r + 1) ≤ x * x := sq_le (by omega) (by omega)
        omega
  · have ef : flr d y = r := by unfold flr; rw [if_neg (by omega), hr]
    have eb : sgb d x y = x * ab x + d * y * y := by unfold sgb; rw [ab_pos hy]
    rw [ef, eb]
    rcases Int.lt_or_le x 0 with hx | hx
    · rw [ab_neg (Int.le_of_lt hx)]
      have e : x * -x = -((-x) * (-x)) := by grind
      constructor
      · intro h
        have : -x < r + 1 := lt_of_sq (by omega) (by omega)
        omega
      · intro h
        have : (-x) * (-x) ≤ r * r := sq_le (by omega) (by omega)
        omega
    · rw [ab_pos hx]
      have := sq_nonneg x
      omega
theorem ab_mul {g i : Int} (hg : 0 ≤ g) : ab (g * i) = g * ab i := by
  rcases Int.lt_or_le i 0 with h | h
  · have : g * i ≤ 0 := Int.mul_nonpos_of_nonneg_of_nonpos hg (by omega)
    rw [ab_neg this, ab_neg (by omega)]
    grind
  · rw [ab_pos (Int.mul_nonneg hg h), ab_pos h]
theorem sgb_mul {d g i j : Int} (hg : 0 ≤ g) : sgb d (g * i) (g * j) = g * g * sgb d i j := by
  unfold sgb
  rw [ab_mul hg, ab_mul hg]
  grind
theorem sgb_neg {d i j : Int} : sgb d (-i) (-j) = -sgb d i j := by
  have h : ∀ i, ab (-i) = ab i := fun i => by unfold ab; split <;> split <;> omega
  unfold sgb
  rw [h, h]
  grind
theorem sg_mul {d g i j : Int} (hg : 0 < g) : sg d (g * i) (g * j) = sg d i j := by
  have hp : 0 < g * g := Int.mul_pos hg hg
  have e := sgb_mul (d := d) (i := i) (j := j) (Int.le_of_lt hg)
  unfold sg
  rw [e]
  rcases Int.lt_trichotomy (sgb d i j) 0 with h | h | h
  · have : g * g * sgb d i j < 0 := Int.mul_neg_of_pos_of_neg hp h
    rw [if_neg (by omega), if_pos this, if_neg (by omega), if_pos h]
  · rw [h]; simp
  · have : 0 < g * g * sgb d i j := Int.mul_pos hp h
    rw [if_pos this, if_pos h]
theorem sg_neg {d i j : Int} : sg d (-i) (-j) = -sg d i j := by
  have e := sgb_neg (d := d) (i := i) (j := j)
  unfold sg
  rw [e]
  rcases Int.lt_trichotomy (sgb d i j) 0 with h | h | h
  · rw [if_pos (by omega), if_neg (by omega), if_pos h]; rfl
  · rw [h]; rfl
  · rw [if_neg (by omega), if_pos (by omega), if_pos h]
/-- the law's own sign -/
theorem sg_pp {d i j : Int} (hd : Root d) (hi : 0 ≤ i) (hj : 0 ≤ j) : sg d i j = if 0 < i ∨ 0 < j then 1 else 0 := by
  have hp := hd.pos
  have e : sgb d i j = i * i + d * (j * j) := by unfold sgb; rw [ab_pos hi, ab_pos hj]; grind
  have a := sq_nonneg i
  have b := sq_nonneg j
  have b' : 0 ≤ d * (j * j) := Int.mul_nonneg (by omega) b
  unfold sg
  rw [e]
  by_cases h : 0 < i ∨ 0 < j
  · rw [if_pos h, if_pos]
    rcases h with h | h
    · have : 0 < i * i := Int.mul_pos h h
      omega
    · have : 0 < d * (j * j) := Int.mul_pos hp (Int.mul_pos h h)
      omega
  · have hi0 : i = 0 := by omega
    have hj0 : j = 0 := by omega
    rw [if_neg h, hi0, hj0]
    simp
theorem sg_nn {d i j : Int} (hd : Root d) (hi : i ≤ 0) (hj : j ≤ 0) (h : ¬ (0 ≤ i ∧ 0 ≤ j)) : sg d i j = -1 := by
  have e : sg d i j = -sg d (-i) (-j) := by rw [sg_neg]; omega
  rw [e, sg_pp hd (by omega) (by omega), if_pos (by omega)]
theorem sg_pn {d i j : Int} (hd : Root d) (hi : 0 < i) (hj : j < 0) : sg d i j = if j * j * d < i * i then 1 else -1 := by
  have e : sgb d i j = i * i - j * j * d := by unfold sgb; rw [ab_pos (by omega), ab_neg (by omega)]; grind
  have ne : i * i ≠ j * j * d := fun q => by
    have := irr hd (i := i) (j := j) (by rw [q]; grind)
    omega
  unfold sg
  rw [e]
  split <;> split <;> first | rfl | omega | skip
theorem sg_np {d i j : Int} (hd : Root d) (hi : i < 0) (hj : 0 < j) : sg d i j = if i * i < j * j * d then 1 else -1 := by
  have e : sgb d i j = j * j * d - i * i := by unfold sgb; rw [ab_pos (i := j) (by omega), ab_neg (i := i) (by omega)]; grind
  have ne : i * i ≠ j * j * d := fun q => by
    have := irr hd (i := i) (j := j) (by rw [q]; grind)
    omega
  unfold sg
  rw [e]
  split <;> split <;> first | rfl | omega | skip
theorem sg_nonneg {d i j : Int} (hd : Root d) : 0 ≤ sg d i j ↔ 0 ≤ i + flr d j := by
  rw [← keyL hd]
  unfold sg
  split
  · omega
  · split <;> omega
theorem flr_ring {d f : Int} : rt (f * f * d) = rt (d * f * f) := by rw [show f * f * d = d * f * f by grind]
end RF

namespace RF
/-! ### lowest terms -/
def gc (i j k : Int) : Int := ((Nat.gcd (Nat.gcd i.natAbs j.natAbs) k.natAbs : Nat) : Int)
def gs (i j k : Int) : Int := if k < 0 then -gc i j k else gc i j k
theorem gc_i (i j k : Int) : gc i j k ∣ i := Int.natAbs_dvd_natAbs.mp (by
  unfold gc
  rw [Int.natAbs_natCast]
  exact Nat.dvd_trans (Nat.gcd_dvd_left _ _) (Nat.gcd_dvd_left _ _))
theorem gc_j (i j k : Int) : gc i j k ∣ j := Int.natAbs_dvd_natAbs.mp (by
  unfold gc
  rw [Int.natAbs_natCast]
  exact Nat.dvd_trans (Nat.gcd_dvd_left _ _) (Nat.gcd_dvd_right _ _))
theorem gc_k (i j k : Int) : gc i j k ∣ k := Int.natAbs_dvd_natAbs.mp (by
  unfold gc
  rw [Int.natAbs_natCast]
  exact Nat.gcd_dvd_right _ _)
theorem gc_pos {i j k : Int} (h : k ≠ 0) : 0 < gc i j k := by
  have : 0 < Nat.gcd (Nat.gcd i.natAbs j.natAbs) k.natAbs := Nat.gcd_pos_of_pos_right _ (by omega)
  unfold gc
  omega
theorem gc_le {i j k : Int} (h : k ≠ 0) : gc i j k ≤ ab k := by
  have : Nat.gcd (Nat.gcd i.natAbs j.natAbs) k.natAbs ≤ k.natAbs := Nat.gcd_le_right _ (by omega)
  unfold gc ab
  split <;> omega
theorem gs_ne {i j k : Int} (h : k ≠ 0) : gs i j k ≠ 0 := by
  have := gc_pos (i := i) (j := j) h
  unfold gs
  split <;> omega
theorem gs_natAbs {i j k : Int} (h : k ≠ 0) : (gs i j k).natAbs ≤ k.natAbs := by
  have := gc_pos (i := i) (j := j) h
  have := gc_le (i := i) (j := j) h
  unfold gs
  unfold ab at this
  split <;> split at this <;> omega
def pI (i j k : Int) : Int := i.fdiv (gs i j k)
def pJ (i j k : Int) : Int := j.fdiv (gs i j k)
def pK (i j k : Int) : Int := k.fdiv (gs i j k)
theorem gs_dvd {i j k x : Int} (h : gc i j k ∣ x) : gs i j k ∣ x := by
  unfold gs
  split
  · exact Int.neg_dvd.mpr h
  · exact h
theorem fdiv_of {g x : Int} (hg : g ≠ 0) (h : g ∣ x) : x = g * x.fdiv g := by
  obtain ⟨t, rfl⟩ := h
  rw [Int.mul_fdiv_cancel_left t hg]
theorem pI_eq {i j k : Int} (h : k ≠ 0) : i = gs i j k * pI i j k := fdiv_of (gs_ne h) (gs_dvd (gc_i i j k))
theorem pJ_eq {i j k : Int} (h : k ≠ 0) : j = gs i j k * pJ i j k := fdiv_of (gs_ne h) (gs_dvd (gc_j i j k))
theorem pK_eq {i j k : Int} (h : k ≠ 0) : k = gs i j k * pK i j k := fdiv_of (gs_ne h) (gs_dvd (gc_k i j k))
theorem pK_pos {i j k : Int} (h : k ≠ 0) : 0 < pK i j k := by
  have e := pK_eq (i := i) (j := j) h
  have g0 := gc_pos (i := i) (j := j) h
  generalize pK i j k = t at *
  unfold gs at e
  split at e
  · rcases Int.lt_or_le 0 t with z | z
    · exact z
    · have : 0 ≤ -gc i j k * t := Int.mul_nonneg_of_nonpos_of_nonpos (by omega) z
      omega
  · rcases Int.lt_or_le 0 t with z | z
    · exact z
    · have : gc i j k * t ≤ 0 := Int.mul_nonpos_of_nonneg_of_nonpos (by omega) z
      omega
theorem nat_le_mul {g t : Int} (hg : g ≠ 0) : t.natAbs ≤ (g * t).natAbs := by
  rw [Int.natAbs_mul]
  exact Nat.le_mul_of_pos_left _ (by omega)
theorem pI_le {i j k : Int} (h : k ≠ 0) : (pI i j k).natAbs ≤ i.natAbs := by
  have e := pI_eq (i := i) (j := j) h
  have := nat_le_mul (g := gs i j k) (t := pI i j k) (gs_ne h)
  rw [← e] at this
  exact this
theorem pJ_le {i j k : Int} (h : k ≠ 0) : (pJ i j k).natAbs ≤ j.natAbs := by
  have e := pJ_eq (i := i) (j := j) h
  have := nat_le_mul (g := gs i j k) (t := pJ i j k) (gs_ne h)
  rw [← e] at this
  exact this
theorem pK_le {i j k : Int} (h : k ≠ 0) : (pK i j k).natAbs ≤ k.natAbs := by
  have e := pK_eq (i := i) (j := j) h
  have := nat_le_mul (g := gs i j k) (t := pK i j k) (gs_ne h)
  rw [← e] at this
  exact this
theorem gc_one {i j k : Int} (h : k ≠ 0) : gc (pI i j k) (pJ i j k) (pK i j k) = 1 := by
  have e1 : i.natAbs = (gs i j k).natAbs * (pI i j k).natAbs := by rw [← Int.natAbs_mul, ← pI_eq h]
  have e2 : j.natAbs = (gs i j k).natAbs * (pJ i j k).natAbs := by rw [← Int.natAbs_mul, ← pJ_eq h]
  have e3 : k.natAbs = (gs i j k).natAbs * (pK i j k).natAbs := by rw [← Int.natAbs_mul, ← pK_eq h]
  have eg : (gs i j k).natAbs = Nat.gcd (Nat.gcd i.natAbs j.natAbs) k.natAbs := by
    unfold gs gc
    split <;> omega
  have key : Nat.gcd (Nat.gcd i.natAbs j.natAbs) k.natAbs = (gs i j k).natAbs * Nat.gcd (Nat.gcd (pI i j k).natAbs (pJ i j k).natAbs) (pK i j k).natAbs := by
    conv => lhs; rw [e1, e2, e3]
    rw [Nat.gcd_mul_left, Nat.gcd_mul_left]
  rw [← eg] at key
  have gp : 0 < (gs i j k).natAbs := by have := gs_ne (i := i) (j := j) h; omega
  have : Nat.gcd (Nat.gcd (pI i j k).natAbs (pJ i j k).natAbs) (pK i j k).natAbs = 1 := by
    have q : (gs i j k).natAbs * 1 = (gs i j k).natAbs * Nat.gcd (Nat.gcd (pI i j k).natAbs (pJ i j k).natAbs) (pK i j k).natAbs := by omega
    exact (Nat.eq_of_mul_eq_mul_left gp q).symm
  unfold gc
  rw [this]
  rfl
theorem dvd_low {a b c a' b' c' : Int} (hg : gc a b c = 1) (h1 : a * c' = a' * c) (h2 : b * c' = b' * c) : c ∣ c' := by
  apply Int.natAbs_dvd_natAbs.mp
  have d1 : c.natAbs ∣ a.natAbs * c'.natAbs := by rw [← Int.natAbs_mul, h1, Int.natAbs_mul]; exact Nat.dvd_mul_left _ _
  have d2 : c.natAbs ∣ b.natAbs * c'.natAbs := by rw [← Int.natAbs_mul, h2, Int.natAbs_mul]; exact Nat.dvd_mul_left _ _
  have d3 : c.natAbs ∣ c.natAbs * c'.natAbs := Nat.dvd_mul_right _ _
  have d : c.natAbs ∣ Nat.gcd (Nat.gcd (a.natAbs * c'.natAbs) (b.natAbs * c'.natAbs)) (c.natAbs * c'.natAbs) := Nat.dvd_gcd (Nat.dvd_gcd d1 d2) d3
  rw [Nat.gcd_mul_right, Nat.gcd_mul_right] at d
  have : Nat.gcd (Nat.gcd a.natAbs b.natAbs) c.natAbs = 1 := by unfold gc at hg; omega
  rw [this, Nat.one_mul] at d
  exact d
theorem low_uniq {a b c a' b' c' : Int} (hc : 0 < c) (hc' : 0 < c') (hg : gc a b c = 1) (hg' : gc a' b' c' = 1) (h1 : a * c' = a' * c) (h2 : b * c' = b' * c) : a = a' ∧ b = b' ∧ c = c' := by
  have e : c = c' := Int.dvd_antisymm (by omega) (by omega) (dvd_low hg h1 h2) (dvd_low hg' h1.symm h2.symm)
  subst e
  exact ⟨Int.eq_of_mul_eq_mul_right (by omega) h1, Int.eq_of_mul_eq_mul_right (by omega) h2, rfl⟩
/-- equal numbers have equal parts -/
theorem parts_eq {i j k i' j' k' : Int} (h : k ≠ 0) (h' : k' ≠ 0) (h1 : i * k' = i' * k) (h2 : j * k' = j' * k) : pI i j k = pI i' j' k' ∧ pJ i j k = pJ i' j' k' ∧ pK i j k = pK i' j' k' := by
  have g := gs_ne (i := i) (j := j) h
  have g' := gs_ne (i := i') (j := j') h'
  have a1 := pI_eq (i := i) (j := j) h
  have a2 := pJ_eq (i := i) (j := j) h
  have a3 := pK_eq (i := i) (j := j) h
  have b1 := pI_eq (i := i') (j := j') h'
  have b2 := pJ_eq (i := i') (j := j') h'
  have b3 := pK_eq (i := i') (j := j') h'
  refine low_uniq (pK_pos h) (pK_pos h') (gc_one h) (gc_one h') ?_ ?_
  · have : gs i j k * gs i' j' k' ≠ 0 := Int.mul_ne_zero g g'
    apply Int.eq_of_mul_eq_mul_left this
    generalize gs i j k = s at *
    generalize gs i' j' k' = s' at *
    generalize pI i j k = x at *
    generalize pI i' j' k' = x' at *
    generalize pK i j k = z at *
    generalize pK i' j' k' = z' at *
    rw [a1, b1, a3, b3] at h1
    grind
  · have : gs i j k * gs i' j' k' ≠ 0 := Int.mul_ne_zero g g'
    apply Int.eq_of_mul_eq_mul_left this
    generalize gs i j k = s at *
    generalize gs i' j' k' = s' at *
    generalize pJ i j k = x at *
    generalize pJ i' j' k' = x' at *
    generalize pK i j k = z at *
    generalize pK i' j' k' = z' at *
    rw [a2, b2, a3, b3] at h2
    grind
/-- the sign of a number does not hang on how it is told -/
theorem sg_parts {d i j k : Int} (h : 0 < k) : sg d (pI i j k) (pJ i j k) = sg d i j := by
  have g := gs_ne (i := i) (j := j) (k := k) (by omega)
  have gp : 0 < gs i j k := by
    have := gc_pos (i := i) (j := j) (k := k) (by omega)
    unfold gs
    rw [if_neg (by omega)]
    exact this
  have e := sg_mul (d := d) (i := pI i j k) (j := pJ i j k) gp
  rw [← pI_eq (by omega), ← pJ_eq (by omega)] at e
  exact e.symm
end RF

namespace RF
open PySem L2 PyProof.Rows
/-! ### what a surd looks like -/
theorem kRP : ¬ (("_root" : Str) = "_parts") := by decide +kernel
def sfl (d : Int) (t : Addr) : List (Str × V) := putF "_parts" (.ref t) (putF "_root" (.int d) [])
theorem sfl_root (d : Int) (t : Addr) : (sfl d t).lookup ("_root" : Str) = some (.int d) := by
  unfold sfl
  rw [lookup_putF, if_neg kRP, lookup_putF, if_pos rfl]
theorem sfl_parts (d : Int) (t : Addr) : (sfl d t).lookup ("_parts" : Str) = some (.ref t) := by
  unfold sfl
  rw [lookup_putF, if_pos rfl]
theorem sfl_no (d : Int) (t : Addr) {m : Str} (h1 : ¬ m = "_parts") (h2 : ¬ m = "_root") : (sfl d t).lookup m = none := by
  unfold sfl
  rw [lookup_putF, if_neg h1, lookup_putF, if_neg h2]
  all_goals rfl
/-- at p: the surd of the root d with the parts i, j, k -/
def SurdAt (H : Hp) (C p : Addr) (d i j k : Int) : Prop := ∃ dx t, H p = some (.ins C dx (sfl d t)) ∧ H t = some (.tup [.int i, .int j, .int k])
theorem SurdAt.same {H H' : Hp} {C p : Addr} {d i j k : Int} (s : Same H H') (h : SurdAt H C p d i j k) : SurdAt H' C p d i j k := by
  obtain ⟨dx, t, h1, h2⟩ := h
  exact ⟨dx, t, s _ _ h1, s _ _ h2⟩
/-- below two to the n -/
def Bd (n : Nat) (i : Int) : Prop := i.natAbs < 2 ^ n
theorem Bd.mono {n m : Nat} {i : Int} (h : Bd n i) (hn : n ≤ m) : Bd m i := Nat.lt_of_lt_of_le h (Nat.pow_le_pow_right (by decide) hn)
theorem Bd.mul {n m : Nat} {i j : Int} (a : Bd n i) (b : Bd m j) : Bd (n + m) (i * j) := wide_lt a b
theorem Bd.add {n : Nat} {i j : Int} (a : Bd n i) (b : Bd n j) : Bd (n + 1) (i + j) := by
  unfold Bd at *
  rw [Nat.pow_succ]
  omega
theorem Bd.neg {n : Nat} {i : Int} (a : Bd n i) : Bd n (-i) := by
  unfold Bd at *
  omega
theorem Bd.le {n : Nat} {i j : Int} (a : Bd n i) (h : j.natAbs ≤ i.natAbs) : Bd n j := Nat.lt_of_le_of_lt h a
theorem Bd.ab {n : Nat} {i : Int} (a : Bd n i) : Bd n (if i < 0 then -i else i) := by
  unfold Bd at *
  split <;> omega
theorem Bd.log {n : Nat} {i : Int} (a : Bd n i) (h : 0 < n) : i.natAbs.log2 < n := PySem.Flt.log2_lt_of h a
theorem mulOk {n m : Nat} {i j : Int} (a : Bd n i) (b : Bd m j) (h0 : 0 < n) (h1 : 0 < m) (h : n + m ≤ 1000000) : CMulW i j := wide_mul a b h0 h1 h
theorem rootBd {d : Int} (h : Root d) : Bd 4 d := by
  unfold Bd
  unfold Root at h
  omega
/-- // by any great divisor but 0 -/
def CDivNW (_ j : Int) : Prop := j ≠ 0 ∧ j.natAbs.log2 < 9000
theorem op_fdivNW {X : Cx} : OpR X (binaryOp .FloorDiv) (rI CDivNW fun i j => .int (i.fdiv j)) := opI fun _ _ _ _ _ _ _ hc q => floordiv_int hc.1 q (.inl (PyProof.noPylong_of_log2 hc.2))

/-! ### a written dict with int keys -/
def okE : List DictEntry → List Int → Bool
  | [], [] => true
  | e :: es, k :: ks => (match e.key with | .int i _ => i == k | _ => false) && e.hash == hashInt k && okE es ks
  | _, _ => false
structure IntKeys (K : PySem.W.Frag) (d : Addr) (ks : List Int) : Prop where
  low : (d == sysModules) = false
  ex : ∃ es n, K.lookup d = some ⟨.type "dict", none, .dict es n, #[]⟩ ∧ okE es.toList ks = true
theorem okE_mem : ∀ {es : List DictEntry} {ks : List Int}, okE es ks = true → ∀ e ∈ es, ∃ k t, k ∈ ks ∧ e.key = .int k t ∧ e.hash = hashInt k
  | [], _, _, e, he => by cases he
  | c :: es, [], h, e, he => by simp [okE] at h
  | c :: es, k :: ks, h, e, he => by
    unfold okE at h
    simp only [Bool.and_eq_true, beq_iff_eq] at h
    obtain ⟨⟨h1, h2⟩, h3⟩ := h
    rcases List.mem_cons.mp he with rfl | he
    · split at h1
      · rename_i i t q
        exact ⟨k, t, List.mem_cons_self, by rw [q, beq_iff_eq.mp h1], h2⟩
      · cases h1
    · obtain ⟨k', t, a, b, c⟩ := okE_mem h3 e he
      exact ⟨k', t, List.mem_cons_of_mem _ a, b, c⟩
theorem okE_find : ∀ {es : List DictEntry} {ks : List Int} (i : Int), okE es ks = true → (es.find? fun e => Value.isInt i e.key).isSome = decide (i ∈ ks)
  | [], [], i, _ => by simp
  | [], k :: ks, i, h => by simp [okE] at h
  | c :: es, [], i, h => by simp [okE] at h
  | c :: es, k :: ks, i, h => by
    unfold okE at h
    simp only [Bool.and_eq_true, beq_iff_eq] at h
    obtain ⟨⟨h1, h2⟩, h3⟩ := h
    have ih := okE_find i h3
    split at h1
    · rename_i j t q
      have e : j = k := beq_iff_eq.mp h1
      rw [List.find?_cons]
      by_cases z : i = k
      · have : Value.isInt i c.key = true := by rw [q, e, z]; simp [Value.isInt]
        rw [this]
        simp [z]
      · have : Value.isInt i c.key = false := by
          rw [q, e]
          simp only [Value.isInt]
          exact beq_eq_false_iff_ne.mpr (fun w => z w.symm) |> fun h => by first | exact h | (rw [beq_eq_false_iff_ne]; exact z) | simpa using z
        rw [this]
        simp [ih, z]
    · cases h1
theorem op_in_intd {X : Cx} : OpR X (compareOp .In) (fun x y H Q => ∃ i d ks, x = .int i ∧ y = .ref d ∧ IntKeys X.K d ks ∧ Q (.bl (decide (i ∈ ks))) H) := by
  intro pins s σ H x y v u Q I rx ry h
  obtain ⟨i, d, ks, rfl, rfl, ⟨low, es, n, hl, he⟩, q⟩ := h
  obtain ⟨t, rfl⟩ := rx
  cases ry
  have hm : s.heap.MapOf (intKind X.prog X.w) d (fun k => findBy Value.isInt es k) := ⟨_, es, n, I.kIn _ _ hl, ⟨rfl, rfl, rfl⟩, rfl, fun e hh => by
    obtain ⟨k, t, _, e1, e2⟩ := okE_mem he e (Array.mem_toList_iff.mpr hh)
    exact ⟨k, by rw [e1]; show Value.isInt k (.int k t) = true; simp [Value.isInt], e2⟩, fun _ => rfl⟩
  refine wpAny_in_of (knd := intKind X.prog X.w) (k := i) (by show Value.isInt i (.int i t) = true; simp [Value.isInt]) low hm ?_
  have e : (findBy Value.isInt es i).isSome = decide (i ∈ ks) := by
    unfold findBy
    rw [Option.isSome_map, ← okE_find i he, ← List.find?_toArray]
  rw [e]
  exact ⟨.bl _, H, I.tok _, rfl, q⟩
end RF

namespace RF
open PySem L2
def top (i : Nat) : Stmt := PySem.Challenge.pw_rootfloor_k02_sums_and_products_of_surds.main.body.getD i (.Pass ⟨0, 0, 0, 0⟩)
abbrev sBag : Stmt := top 20
abbrev sPull : Stmt := top 21
structure TB (mg : Str → Option Value) : Prop where
  list : mg "list" = none
  len : mg "len" = none
  abs : mg "abs" = none
  int : mg "int" = none
section
variable {P : Program} {w : World} {K : PySem.W.Frag} {mg : Str → Option Value} {base : Heap}
theorem scBag : FnScope ["_law_script"] ["_law_script"] (defScope sBag) := ⟨rfl, rfl, rfl, by decide +kernel, rfl, by decide +kernel, by decide +kernel⟩
theorem ok_bag {f : Addr} {fd : FuncData} (F : Fun K "_law_bag" "_law_bag" sBag f fd) (T : TB mg) : FnOk P w K mg base CX0 1 f fd ["_law_script"] (spBag K) := by
  refine F.ok scBag (fun vs H Q E h => ?_) (fun cdv A outer s H vs Q E hr h => ?_)
  · obtain ⟨a, ns, rfl, _⟩ := h
    rfl
  · obtain ⟨a, ns, rfl, hS, hl, k⟩ := h
    refine ⟨_, pss_one (ps_ret (pe_lst (pa_cons (pe_callTy call_list_of (by rfl) T.list (by decide +kernel) (pa_cons (pe_slice sl_list (pv 0) po_none (po_some pe_int)) pa_nil)) (pa_cons pe_int (pa_cons pe_int (pa_cons pe_int pa_nil)))))), ?_⟩
    refine ⟨_, rfl, _, rfl, a, _, rfl, hS, fun p hp => ⟨p, _, rfl, .inl (SqL.of upd_same), fun l hl2 => ⟨by show 4 ≤ sizeLine; decide, fun q hq => ?_⟩⟩⟩
    obtain ⟨ms, e⟩ : ∃ ms : List Int, cutV (ns.map V.int) none (some 63) = ms.map V.int := ⟨_, by unfold cutV; rw [← List.map_drop, ← List.map_take]⟩
    have sm := sNew (o := .lst [.ref l, .int 0, .int 0, .int 3842]) (sNew (o := .lst (cutV (ns.map V.int) none (some 63))) (sNew (o := .lst (cutV (ns.map V.int) none (some 63))) (Same.refl H) hp) hl2) hq
    refine k q _ (of_new (of_new hq)) ⟨l, ms, 0, 0, 3842, ne_new hq, upd_same, ?_, Nat.zero_le _, Int.le_refl _, by decide, by decide⟩ sm
    rw [upd_ne (Ne.symm (ne_new hq)), upd_same, e]
abbrev nPull : List Str := ["_law_bag_here", "_law_sides", "_law_cell", "_law_digit", "_law_twice"]
theorem scPull : FnScope nPull ["_law_bag_here", "_law_sides"] (defScope sPull) := ⟨rfl, rfl, rfl, by decide +kernel, rfl, by decide +kernel, by decide +kernel⟩
theorem ok_pull {f : Addr} {fd : FuncData} (F : Fun K "_law_pull" "_law_pull" sPull f fd) (T : TB mg) : FnOk P w K mg base CX0 1 f fd ["_law_bag_here", "_law_sides"] spPull := by
  refine F.ok scPull (fun vs H Q E h => ?_) (fun cdv A outer s H vs Q E hr h => ?_)
  · obtain ⟨b, k, rfl, _⟩ := h
    rfl
  · obtain ⟨b, m, rfl, ⟨c, ns, i, z, r, B⟩, m0, m1, k⟩ := h
    have nd := scPull.nd
    -- the second half, from any bag
    refine ⟨_, C8.pss_cut (ps_if (pw_and (pt_cmpR op_eq (pe_ix ix_list (pv 0) pe_int (fun _ _ => rfl)) pe_int (nomark _)) (pw_and1 (pt_cmpR op_lt (pe_ix ix_list (pv 0) pe_int (fun _ _ => rfl)) (pe_callB call_len_seq (by rfl) T.len PySem.boot_len (pa_cons (pe_ix ix_list (pv 0) pe_int (fun _ _ => rfl)) pa_nil)) (nomark _)))).pt
        (pss_cons (ps_set (i := 2) nd rfl (Or.inl rfl) (pe_ix ix_list (pe_ix ix_list (pv 0) pe_int (fun _ _ => rfl)) (pe_ix ix_list (pv 0) pe_int (fun _ _ => rfl)) (fun _ _ => rfl)))
        (pss_cons (ps_asg (pe_op op_add (pe_ix ix_list (pv 0) pe_int (fun _ _ => rfl)) pe_int) (pg_sub (pv 0) pe_int set_list))
        (pss_one (ps_if (pt_cmpR op_ge (pe_callB call_abs (by rfl) T.abs (by decide +kernel) (pa_cons (pv 2) pa_nil)) (pe_op op_pow pe_int pe_int) (nomark _))
          (pss_one (ps_asg (pe_callB call_abs (by rfl) T.abs (by decide +kernel) (pa_cons (pv 2) pa_nil)) (pg_sub (pv 0) pe_int set_list)))
          (pss_one (ps_asg (pe_op op_mod (pe_callTy call_int1 (by rfl) T.int (by decide +kernel) (pa_cons (pe_op op_add (pe_op op_add (pe_op op_mul (pe_ix ix_list (pv 0) pe_int (fun _ _ => rfl)) pe_int) (pe_op op_mul (pe_op op_mod (pe_callTy call_int1 (by rfl) T.int (by decide +kernel) (pa_cons (pv 2) pa_nil)) pe_int) pe_int)) pe_int) pa_nil)) pe_int) (pg_sub (pv 0) pe_int set_list)))))))
        pss_nil)
      (C8.pss_cut (ps_if (pt_cmpR op_gt (pe_ix ix_list (pv 0) pe_int (fun _ _ => rfl)) pe_int (nomark _))
        (pss_cons (ps_set (i := 3) nd rfl (Or.inl rfl) (pe_op op_mod (pe_callTy call_int1 (by rfl) T.int (by decide +kernel) (pa_cons (pe_ix ix_list (pv 0) pe_int (fun _ _ => rfl)) pa_nil)) (pv 1)))
        (pss_cons (ps_asg (pe_op op_fdiv (pe_ix ix_list (pv 0) pe_int (fun _ _ => rfl)) (pv 1)) (pg_sub (pv 0) pe_int set_list))
        (pss_one (ps_ret (pv 3)))))
        pss_nil)
      (pss_cons (ps_set (i := 4) nd rfl (Or.inl rfl) (pe_op op_mod (pe_callTy call_int1 (by rfl) T.int (by decide +kernel) (pa_cons (pe_op op_mul (pe_ix ix_list (pv 0) pe_int (fun _ _ => rfl)) (pe_ix ix_list (pv 0) pe_int (fun _ _ => rfl))) pa_nil)) pe_int))
      (pss_cons (ps_asg (pe_op op_mod (pe_callTy call_int1 (by rfl) T.int (by decide +kernel) (pa_cons (pe_op op_add (pe_op op_add (pe_op op_mul (pv 4) pe_int) (pe_op op_mul (pe_ix ix_list (pv 0) pe_int (fun _ _ => rfl)) pe_int)) pe_int) pa_nil)) pe_int) (pg_sub (pv 0) pe_int set_list))
      (pss_one (ps_ret (pe_op op_mod (pe_callTy call_int1 (by rfl) T.int (by decide +kernel) (pa_cons (pe_op op_fdiv (pe_ix ix_list (pv 0) pe_int (fun _ _ => rfl)) pe_int) pa_nil)) (pv 1))))))), ?_⟩
    have hc : ∀ {H' : Hp} {i : Nat} {z r : Int}, BagC H' b c ns i z r → H' c = some (.lst (ns.map V.int)) := fun B => B.cs
    -- what follows the first if, from any bag
    refine ⟨fun σ' H' => ∃ v i z r, σ' = [some (.ref b), some (.int m), v, none, none] ∧ BagC H' b c ns i z r ∧ Kp b H H', ?_, ?_⟩
    · refine ⟨_, rfl, b, _, _, _, rfl, rfl, SqL.of B.at_, rfl, rfl, _, rfl, ?_⟩
      refine ite2 (fun ez => ?_) (fun _ => ?_)
      · refine ⟨_, rfl, b, _, _, _, rfl, rfl, SqL.of B.at_, rfl, _, rfl, b, _, _, _, rfl, rfl, SqL.of B.at_, rfl, c, _, rfl, .inl (SqL.of B.cs), _, _, rfl, rfl, _, rfl, ?_⟩
        refine ite2 (fun hl => ?_) (fun _ => ⟨_, _, _, _, rfl, B, Kp.refl _ _⟩)
        have hl' : i < ns.length := by
          have := of_decide_eq_true hl
          rw [List.length_map] at this
          omega
        obtain ⟨n, hn⟩ : ∃ n, ns[i]? = some n := ⟨_, List.getElem?_eq_getElem hl'⟩
        have hat : atI (ns.map V.int) (i : Int) = some (V.int n) := atI_nat (by rw [List.getElem?_map, hn]; rfl)
        refine ⟨_, rfl, b, _, _, _, rfl, rfl, SqL.of B.at_, rfl, _, rfl, b, _, _, _, rfl, rfl, SqL.of B.at_, rfl, c, _, _, _, rfl, rfl, SqL.of B.cs, hat, ?_⟩
        refine ⟨_, rfl, b, _, _, _, rfl, rfl, SqL.of B.at_, rfl, _, _, rfl, rfl, _, rfl, b, _, _, _, rfl, rfl, B.at_, rfl, ?_⟩
        have B1 := B.put (i' := i + 1) (z' := z) (r' := r) (o := .lst [.ref c, .int ((i : Int) + 1), .int z, .int r]) (by rw [Int.natCast_add]; rfl) hl' B.z0 B.r0 B.r1
        have k1 : Kp b H (upd H b (.lst [.ref c, .int ((i : Int) + 1), .int z, .int r])) := Kp.upd
        refine ⟨_, rfl, _, rfl, _, _, rfl, rfl, ⟨by decide, by decide, by decide⟩, _, _, rfl, rfl, _, rfl, ?_⟩
        refine ite2 (fun _ => ?_) (fun _ => ?_)
        · refine ⟨_, rfl, _, rfl, _, rfl, b, _, _, _, rfl, rfl, upd_same, rfl, ?_⟩
          exact ⟨_, _, _, _, rfl, B1.put rfl B1.le (by split <;> omega) B1.r0 B1.r1, k1.trans Kp.upd⟩
        · refine ⟨_, rfl, b, _, _, _, rfl, rfl, SqL.of B1.at_, rfl, _, _, rfl, rfl, .inr (by decide), _, rfl, .inl ⟨_, rfl, _, _, rfl, rfl, (by show (0 : Int) < 1000003; decide), _, _, rfl, rfl, .inr (by decide), _, _, rfl, rfl, _, _, rfl, rfl, .inl ⟨_, rfl, _, _, rfl, rfl, (by show (0 : Int) < 2147483647; decide), _, rfl, b, _, _, _, rfl, rfl, upd_same, rfl, ?_⟩⟩⟩
          exact ⟨_, _, _, _, rfl, B1.put rfl B1.le B1.z0 (emod_lo _ (by decide)) (emod_hi _ (by decide)), k1.trans Kp.upd⟩
      · exact ⟨_, _, _, _, rfl, B, Kp.refl _ _⟩
    · rintro σ' H1 ⟨v, i, z, r, rfl, B, kp⟩
      -- if bag[2] > 0
      refine ⟨fun σ' H' => σ' = [some (.ref b), some (.int m), v, none, none] ∧ H' = H1, ?_, ?_⟩
      · refine ⟨_, rfl, b, _, _, _, rfl, rfl, SqL.of B.at_, rfl, _, _, rfl, rfl, _, rfl, ?_⟩
        refine ite2 (fun hz => ?_) (fun _ => ⟨rfl, rfl⟩)
        refine ⟨_, rfl, b, _, _, _, rfl, rfl, SqL.of B.at_, rfl, .inl ⟨_, rfl, _, rfl, _, _, rfl, rfl, m0, ?_⟩⟩
        refine ⟨_, rfl, b, _, _, _, rfl, rfl, SqL.of B.at_, rfl, _, rfl, _, _, rfl, rfl, ⟨m0, m1⟩, _, rfl, b, _, _, _, rfl, rfl, B.at_, rfl, ?_⟩
        refine ⟨_, rfl, ?_⟩
        exact k _ _ (emod_lo _ m0) (emod_hi _ m0) ⟨c, ns, _, _, _, B.put rfl B.le (Int.ediv_nonneg B.z0 (Int.le_of_lt m0)) B.r0 B.r1⟩ (kp.trans Kp.upd)
      · rintro σ' H2 ⟨rfl, rfl⟩
        refine ⟨_, rfl, b, _, _, _, rfl, rfl, SqL.of B.at_, rfl, _, rfl, b, _, _, _, rfl, rfl, SqL.of B.at_, rfl, _, _, rfl, rfl, .inl ⟨by have := B.r0; omega, by have := B.r1; omega⟩, .inl ⟨_, rfl, _, _, rfl, rfl, (by show (0 : Int) < 2147483629; decide), ?_⟩⟩
        refine ⟨_, rfl, _, _, rfl, rfl, .inr (by decide), _, rfl, b, _, _, _, rfl, rfl, SqL.of B.at_, rfl, _, _, rfl, rfl, .inr (by decide), _, _, rfl, rfl, _, _, rfl, rfl, .inl ⟨_, rfl, _, _, rfl, rfl, (by show (0 : Int) < 2147483647; decide), _, rfl, b, _, _, _, rfl, rfl, B.at_, rfl, ?_⟩⟩
        refine ⟨_, rfl, b, _, _, _, rfl, rfl, SqL.of upd_same, rfl, _, _, rfl, rfl, ⟨by decide, by decide⟩, .inl ⟨_, rfl, _, rfl, _, _, rfl, rfl, m0, ?_⟩⟩
        exact k _ _ (emod_lo _ m0) (emod_hi _ m0) ⟨c, ns, _, _, _, B.put rfl B.le B.z0 (emod_lo _ (by decide)) (emod_hi _ (by decide))⟩ (kp.trans Kp.upd)
end
end RF

namespace RF
open PySem L2 PyProof.Rows
def whole : D → Bool
  | .int _ => true
  | _ => false
def btw (d : D) (lo hi : Int) : Bool := match d with
  | .int i => decide (lo ≤ i) && decide (i ≤ hi)
  | _ => false
def rootD : D → Bool
  | .int i => decide (i ∈ [2, 3, 5, 6, 13])
  | _ => false
def spWhole (K : PySem.W.Frag) : Sp := fun vs H Q _ => ∃ (v : V) (d : D), vs = [v] ∧ Rp K H v d ∧ Q (.bl (whole d)) H
def spBtw (K : PySem.W.Frag) : Sp := fun vs H Q _ => ∃ (v : V) (d : D) (lo hi : Int), vs = [v, .int lo, .int hi] ∧ Rp K H v d ∧ Q (.bl (btw d lo hi)) H
def spIsRoot (K : PySem.W.Frag) : Sp := fun vs H Q _ => ∃ (v : V) (d : D), vs = [v] ∧ Rp K H v d ∧ Q (.bl (rootD d)) H
section
variable {P : Program} {w : World} {K : PySem.W.Frag} {mg : Str → Option Value} {base : Heap}
abbrev s_is_whole : Stmt := top 11
abbrev n_is_whole : List Str := ["value"]
theorem sc_is_whole : FnScope n_is_whole ["value"] (defScope s_is_whole) := ⟨rfl, rfl, rfl, by decide +kernel, rfl, by decide +kernel, by decide +kernel⟩
theorem ok_whole {f : Addr} {fd : FuncData} {k : Nat} (F : Fun K "is_whole" "is_whole" s_is_whole f fd) (T1 : mg "isinstance" = none) (T2 : mg "int" = none) (T3 : mg "bool" = none) : FnOk P w K mg base CX0 (k + 1) f fd ["value"] (spWhole K) := by
  refine F.ok sc_is_whole (fun vs H Q E h => ?_) (fun cdv A outer s H vs Q E hr h => ?_)
  · obtain ⟨v, d, rfl, _⟩ := h
    rfl
  · obtain ⟨v, d, rfl, hv, q⟩ := h
    refine ⟨_, (pss_one (ps_ret (pe_and (pe_callB call_isi (by rfl) T1 (by decide +kernel) (pa_cons (pv 0) (pa_cons (pe_bltn (v := .ty "int") (by rfl) T2 (by decide +kernel) rfl) pa_nil))) (pe_one (pe_not (pe_callB call_isi (by rfl) T1 (by decide +kernel) (pa_cons (pv 0) (pa_cons (pe_bltn (v := .ty "bool") (by rfl) T3 (by decide +kernel) rfl) pa_nil)))))))), ?_⟩
    refine ⟨_, rfl, _, _, _, _, _, rfl, .ty _, tyX _ hv, kit_ty (kit_int _), _, rfl, ?_⟩
    by_cases hi : isInt d = true
    · refine iteP hi ⟨_, rfl, _, _, _, _, _, rfl, .ty _, tyX _ hv, kit_ty (kit_bool _), _, rfl, ?_⟩
      have e : (!isBool d) = whole d := by cases d <;> first | rfl | cases hi
      rw [e]
      exact q
    · refine iteN hi ?_
      have e : whole d = false := by cases d <;> first | rfl | exact absurd rfl hi
      rw [e] at q
      exact q
abbrev n_is_between : List Str := ["value", "low", "high"]
abbrev s_is_root : Stmt := top 12
abbrev n_is_root : List Str := ["value"]
theorem sc_is_root : FnScope n_is_root ["value"] (defScope s_is_root) := ⟨rfl, rfl, rfl, by decide +kernel, rfl, by decide +kernel, by decide +kernel⟩
theorem ok_isroot {f : Addr} {fd : FuncData} {k : Nat} {pd : Addr} (F : Fun K "is_root" "is_root" s_is_root f fd) (D1 : Df P w K mg base k "is_whole" ["value"] (spWhole K)) (mP : mg "PERIODS" = some (.ref pd)) (kP : IntKeys K pd [2, 3, 5, 6, 13]) :
    FnOk P w K mg base CX0 (k + 1) f fd ["value"] (spIsRoot K) := by
  refine F.ok sc_is_root (fun vs H Q E h => ?_) (fun cdv A outer s H vs Q E hr h => ?_)
  · obtain ⟨v, d, rfl, _⟩ := h
    rfl
  · obtain ⟨v, d, rfl, hv, q⟩ := h
    refine ⟨_, (pss_one (ps_ret (pe_and (pe_callD D1 hr (Nat.le_refl _) (pa_cons (pv 0) pa_nil)) (pe_one (pe_cmpR op_in_intd (pv 0) (pe_glob (v := .ref pd) (by rfl) mP rfl) rfl))))), ?_⟩
    refine ⟨_, rfl, v, d, rfl, hv, _, rfl, ?_⟩
    by_cases hi' : whole d = true
    · refine iteP hi' ?_
      cases d with
      | int i =>
        obtain rfl : v = .int i := hv
        exact ⟨_, rfl, _, _, _, rfl, rfl, kP, q⟩
      | _ => cases hi'
    · refine iteN hi' ?_
      have e : rootD d = false := by cases d <;> first | rfl | exact absurd rfl hi'
      rw [e] at q
      exact q
end
end RF

namespace RF
open PySem L2 PyProof.Rows
/-- what is known of the class -/
structure TxS (K : PySem.W.Frag) (mg : Str → Option Value) (C : Addr) : Prop where
  cl : Cls K C
  nR : NoAttr K C "_root"
  nP : NoAttr K C "_parts"
  mg : mg "Surd" = some (.ref C)
def spSInit (C : Addr) : Sp := fun vs H Q _ => ∃ (p dx : Addr) (d i j k : Int), vs = [.ref p, .int d, .int i, .int j, .int k] ∧ H p = some (.ins C dx []) ∧ Root d ∧ k ≠ 0 ∧ Bd 1000 i ∧ Bd 1000 j ∧ Bd 1000 k ∧
  ∀ H', SurdAt H' C p d (pI i j k) (pJ i j k) (pK i j k) → (∀ b o, H b = some o → b ≠ p → H' b = some o) → Q .non H'
section
variable {P : Program} {w : World} {K : PySem.W.Frag} {mg : Str → Option Value} {base : Heap}
abbrev sS (i : Nat) : Stmt := inClass (top 18) i
abbrev n_SInit : List Str := ["self", "root", "i", "j", "k", "divisor"]
theorem sc_SInit : FnScope n_SInit ["self", "root", "i", "j", "k"] (defScope (sS 0)) := ⟨rfl, rfl, rfl, by decide +kernel, rfl, by decide +kernel, by decide +kernel⟩
theorem ok_SInit {f C : Addr} {fd : FuncData} {k : Nat} {dvs : List V} {kws : List (Str × V)} (F : FunD K "__init__" "Surd.__init__" (defArgs (sS 0)) (defBody (sS 0)) (defScope (sS 0)) dvs kws f fd) (T : TxS K mg C) (mG : mg "gcd" = some (.builtin "math.gcd"))
    (D1 : Df P w K mg base k "is_root" ["value"] (spIsRoot K)) : FnOk P w K mg base CX0 (k + 1) f fd ["self", "root", "i", "j", "k"] (spSInit C) := by
  refine F.ok sc_SInit (fun vs H Q E h => ?_) (fun cdv A outer s H vs Q E hr h => ?_)
  · obtain ⟨p, dx, d, i, j, k, rfl, _⟩ := h
    rfl
  · obtain ⟨p, dx, d, i, j, m, rfl, hp, hd, m0, bi, bj, bm, q⟩ := h
    have nd := sc_SInit.nd
    refine ⟨_, PSs.nox (pss_cons (ps_if (pt_not (pt_val (pe_callD D1 hr (Nat.le_refl _) (pa_cons (pv 1) pa_nil))))
      (pss_one ps_never)
      pss_nil)
      (pss_cons (ps_if (pt_cmpR op_eq (pv 4) pe_int (nomark _))
      (pss_one ps_never)
      pss_nil)
      (pss_cons (ps_set (i := 5) nd rfl (Or.inl rfl) (pe_callBfun cr_gcd3 (by rfl) mG (pa_cons (pv 2) (pa_cons (pv 3) (pa_cons (pv 4) pa_nil)))))
      (C8.pss_cut (ps_if (pt_cmpR op_lt (pv 4) pe_int (nomark _))
      (pss_one (ps_set (i := 5) nd rfl (Or.inl rfl) (pe_un un_neg (pv 5))))
      pss_nil)
      (pss_cons (ps_fld (pv 0) (pv 1) rfl)
      (pss_one (ps_fld (pv 0) (pe_tup (pa_cons (pe_op op_fdivNW (pv 2) (pv 5)) (pa_cons (pe_op op_fdivNW (pv 3) (pv 5)) (pa_cons (pe_op op_fdivNW (pv 4) (pv 5)) pa_nil)))) rfl))))))), ?_⟩
    have er : rootD (.int d) = true := decide_eq_true (by unfold Root at hd; simp; omega)
    refine ⟨_, rfl, _, .int d, rfl, rfl, _, rfl, ?_⟩
    rw [er]
    refine iteF ?_
    refine ⟨_, rfl, rfl, _, rfl, iteN (nd_of (fun z => m0 (by cases z; rfl))) ?_⟩
    refine ⟨_, rfl, _, rfl, _, rfl, _, _, _, rfl, ?_⟩
    refine ⟨fun σ' H' => σ' = [some (.ref p), some (.int d), some (.int i), some (.int j), some (.int m), some (.int (gs i j m))] ∧ H' = H, ?_, ?_⟩
    · refine ⟨_, rfl, _, _, rfl, rfl, _, rfl, ite2 (fun h => ?_) (fun h => ?_)⟩
      · refine ⟨_, rfl, _, rfl, ?_⟩
        have hm : m < 0 := of_decide_eq_true h
        refine ⟨?_, rfl⟩
        unfold gs
        rw [if_pos hm]
        rfl
      · have hm : ¬ m < 0 := fun z => h (decide_eq_true z)
        refine ⟨?_, rfl⟩
        unfold gs
        rw [if_neg hm]
        rfl
    · rintro σ' H1 ⟨rfl, rfl⟩
      have gn := gs_ne (i := i) (j := j) m0
      have gb : (gs i j m).natAbs.log2 < 9000 := Nat.lt_of_lt_of_le ((bm.le (gs_natAbs (i := i) (j := j) m0)).log (by decide)) (by decide)
      refine ⟨_, rfl, _, rfl, p, C, dx, [], rfl, hp, T.cl, T.nR, (by show 0 < 1000; decide), ?_⟩
      refine ⟨_, rfl, _, rfl, _, _, rfl, rfl, ⟨gn, gb⟩, _, rfl, _, rfl, _, _, rfl, rfl, ⟨gn, gb⟩, _, rfl, _, rfl, _, _, rfl, rfl, ⟨gn, gb⟩, (by show 3 ≤ sizeLine; decide), fun t ht => ?_⟩
      have npt : p ≠ t := (ne_new ht).symm
      refine ⟨_, rfl, p, C, dx, _, rfl, by rw [upd_ne npt, upd_same], T.cl, T.nP, (Nat.lt_of_le_of_lt (length_putF _ _ _) (by decide)), ?_⟩
      refine q _ ⟨dx, t, upd_same, ?_⟩ fun b o e nb => ?_
      · rw [upd_ne npt.symm, upd_same]; rfl
      · have e1 : upd H1 p (.ins C dx (putF "_root" (.int d) [])) b = some o := by rw [upd_ne nb]; exact e
        rw [upd_ne nb, upd_ne (ne_of_none e1 ht), upd_ne nb]
        exact e
end
end RF

namespace RF
open PySem L2 PyProof.Rows
/-- at p: the surd (i + j r) / k of the root d, in lowest terms -/
def SV (H : Hp) (C p : Addr) (d i j k : Int) : Prop := k ≠ 0 ∧ SurdAt H C p d (pI i j k) (pJ i j k) (pK i j k)
theorem SV.same {H H' : Hp} {C p : Addr} {d i j k : Int} (s : Same H H') (h : SV H C p d i j k) : SV H' C p d i j k := ⟨h.1, h.2.same s⟩
theorem SV.cong {H : Hp} {C p : Addr} {d i j k i' j' k' : Int} (h : SV H C p d i j k) (hk : k' ≠ 0) (h1 : i * k' = i' * k) (h2 : j * k' = j' * k) : SV H C p d i' j' k' := by
  obtain ⟨e1, e2, e3⟩ := parts_eq h.1 hk h1 h2
  exact ⟨hk, by rw [← e1, ← e2, ← e3]; exact h.2⟩
structure MkS (P : Program) (w : World) (K : PySem.W.Frag) (mg : Str → Option Value) (base : Heap) (C : Addr) (k : Nat) : Prop where
  ex : ∃ (f : Addr) (fd : FuncData), Mk K C f ∧ FnOk P w K mg base CX0 k f fd ["self", "root", "i", "j", "k"] (spSInit C) ∧ KBn K fd ["self", "root", "i", "j", "k"] 4 ["k"] (fun us ws => us ++ ws) (fun vs zs => vs ++ zs) ∧
    (∃ ds, Vals [.int 1] ds ∧ Binds K fd ["self", "root", "i", "j", "k"] ds) ∧ ∃ ds, Vals [.int 0, .int 1] ds ∧ Binds K fd ["self", "root", "i", "j", "k"] ds
def spSign (C : Addr) : Sp := fun vs H Q _ => ∃ (p : Addr) (d i j k : Int), vs = [.ref p] ∧ SV H C p d i j k ∧ 0 < k ∧ Root d ∧ Bd 900 i ∧ Bd 900 j ∧ Q (.int (sg d i j)) H
def flS (d i j k : Int) : Int := (pI i j k + flr d (pJ i j k)) / pK i j k
def spFlS (C : Addr) : Sp := fun vs H Q _ => ∃ (p : Addr) (d i j k : Int), vs = [.ref p] ∧ SV H C p d i j k ∧ Root d ∧ Bd 900 i ∧ Bd 900 j ∧ Bd 900 k ∧ Q (.int (flS d i j k)) H
def spNegS (C : Addr) : Sp := fun vs H Q _ => ∃ (p : Addr) (d i j k : Int), vs = [.ref p] ∧ SV H C p d i j k ∧ Root d ∧ Bd 900 i ∧ Bd 900 j ∧ Bd 900 k ∧
  ∀ (x : Addr) (H' : Hp), H x = none → SV H' C x d (-i) (-j) k → Same H H' → Q (.ref x) H'
def spAddS (C : Addr) : Sp := fun vs H Q _ => ∃ (p q : Addr) (d i j k i2 j2 k2 : Int), vs = [.ref p, .ref q] ∧ SV H C p d i j k ∧ SV H C q d i2 j2 k2 ∧ Root d ∧ Bd 400 i ∧ Bd 400 j ∧ Bd 400 k ∧ Bd 400 i2 ∧ Bd 400 j2 ∧ Bd 400 k2 ∧
  ∀ (x : Addr) (H' : Hp), H x = none → SV H' C x d (i * k2 + i2 * k) (j * k2 + j2 * k) (k * k2) → Same H H' → Q (.ref x) H'
def spSubS (C : Addr) : Sp := fun vs H Q _ => ∃ (p q : Addr) (d i j k i2 j2 k2 : Int), vs = [.ref p, .ref q] ∧ SV H C p d i j k ∧ SV H C q d i2 j2 k2 ∧ Root d ∧ Bd 400 i ∧ Bd 400 j ∧ Bd 400 k ∧ Bd 400 i2 ∧ Bd 400 j2 ∧ Bd 400 k2 ∧
  ∀ (x : Addr) (H' : Hp), H x = none → SV H' C x d (i * k2 - i2 * k) (j * k2 - j2 * k) (k * k2) → Same H H' → Q (.ref x) H'
def spCmpS (C : Addr) : Sp := fun vs H Q _ => ∃ (p q : Addr) (d i j k i2 j2 k2 : Int), vs = [.ref p, .ref q] ∧ SV H C p d i j k ∧ SV H C q d i2 j2 k2 ∧ 0 < k ∧ 0 < k2 ∧ Root d ∧ Bd 400 i ∧ Bd 400 j ∧ Bd 400 k ∧ Bd 400 i2 ∧ Bd 400 j2 ∧ Bd 400 k2 ∧
  ∀ (H' : Hp), Same H H' → Q (.int (sg d (i * k2 - i2 * k) (j * k2 - j2 * k))) H'
section
variable {P : Program} {w : World} {K : PySem.W.Frag} {mg : Str → Option Value} {base : Heap}
abbrev n_SSign : List Str := ["self", "i", "j", "_", "balance"]
theorem sc_SSign : FnScope n_SSign ["self"] (defScope (sS 4)) := ⟨rfl, rfl, rfl, by decide +kernel, rfl, by decide +kernel, by decide +kernel⟩
theorem ok_SSign {f C : Addr} {fd : FuncData} {k : Nat} (F : Fun K "sign" "Surd.sign" (sS 4) f fd) (T : TxS K mg C) (mA : mg "abs" = none) : FnOk P w K mg base CX0 (k + 1) f fd ["self"] (spSign C) := by
  refine F.ok sc_SSign (fun vs H Q E h => ?_) (fun cdv A outer s H vs Q E hr h => ?_)
  · obtain ⟨p, d, i, j, k, rfl, _⟩ := h
    rfl
  · obtain ⟨p, d, i, j, k, rfl, ⟨k0, dx, t, hp, ht⟩, kp, hd, bi, bj, q⟩ := h
    have nd := sc_SSign.nd
    refine ⟨_, (pss_cons (ps_asg (pe_fld (pv 0) rfl) (pg_tup rfl (pgs_cons (pg_name (i := 1) nd rfl (Or.inl rfl)) (pgs_cons (pg_name (i := 2) nd rfl (Or.inl rfl)) (pgs_cons (pg_name (i := 3) nd rfl (Or.inl rfl)) pgs_nil)))))
      (pss_cons (ps_set (i := 4) nd rfl (Or.inl rfl) (pe_op op_add (pe_op op_mulW (pv 1) (pe_callB call_abs (by rfl) mA (by decide +kernel) (pa_cons (pv 1) pa_nil))) (pe_op op_mulW (pe_op op_mulW (pe_fld (pv 0) rfl) (pv 2)) (pe_callB call_abs (by rfl) mA (by decide +kernel) (pa_cons (pv 2) pa_nil)))))
      (pss_cons (ps_if (pt_cmpR op_gt (pv 4) pe_int (nomark _))
      (pss_one (ps_ret pe_int))
      pss_nil)
      (pss_cons (ps_if (pt_cmpR op_lt (pv 4) pe_int (nomark _))
      (pss_one (ps_ret (pe_un un_neg pe_int)))
      pss_nil)
      (pss_one (ps_ret pe_int)))))), ?_⟩
    have ei : Bd 900 (pI i j k) := bi.le (pI_le k0)
    have ej : Bd 900 (pJ i j k) := bj.le (pJ_le k0)
    rw [← sg_parts (i := i) (j := j) kp] at q
    generalize pI i j k = x at *
    generalize pJ i j k = y at *
    refine ⟨_, rfl, p, C, dx, _, _, rfl, hp, T.cl, T.nP, sfl_parts _ _, t, _, rfl, SqT.of ht, rfl, _, _, rfl, _, _, rfl, _, _, rfl, rfl, ?_⟩
    refine ⟨_, rfl, _, rfl, _, rfl, _, _, rfl, rfl, mulOk ei ei.ab (by decide) (by decide) (by decide), ?_⟩
    refine ⟨_, rfl, p, C, dx, _, _, rfl, hp, T.cl, T.nR, sfl_root _ _, _, rfl, _, _, rfl, rfl, mulOk (rootBd hd) ej (by decide) (by decide) (by decide), _, rfl, _, rfl, _, _, rfl, rfl, mulOk ((rootBd hd).mul ej) ej.ab (by decide) (by decide) (by decide), _, _, rfl, rfl, ?_⟩
    refine ⟨_, rfl, _, _, rfl, rfl, _, rfl, ite2 (fun h => ?_) (fun h => ?_)⟩
    · have : 0 < sgb d x y := of_decide_eq_true h
      unfold sg at q
      rw [if_pos this] at q
      exact q
    · have n1 : ¬ 0 < sgb d x y := fun z => h (decide_eq_true z)
      refine ⟨_, rfl, _, _, rfl, rfl, _, rfl, ite2 (fun h => ?_) (fun h => ?_)⟩
      · have : sgb d x y < 0 := of_decide_eq_true h
        unfold sg at q
        rw [if_neg n1, if_pos this] at q
        exact ⟨_, rfl, q⟩
      · have n2 : ¬ sgb d x y < 0 := fun z => h (decide_eq_true z)
        unfold sg at q
        rw [if_neg n1, if_neg n2] at q
        exact q
abbrev n_SFlo : List Str := ["self", "i", "j", "k", "multiple"]
abbrev n_SNeg : List Str := ["self", "i", "j", "k"]
theorem sc_SNeg : FnScope n_SNeg ["self"] (defScope (sS 11)) := ⟨rfl, rfl, rfl, by decide +kernel, rfl, by decide +kernel, by decide +kernel⟩
theorem ok_SNeg {f C : Addr} {fd : FuncData} {k : Nat} (F : Fun K "__neg__" "Surd.__neg__" (sS 11) f fd) (T : TxS K mg C) (M : MkS P w K mg base C k) : FnOk P w K mg base CX0 (k + 2) f fd ["self"] (spNegS C) := by
  refine F.ok sc_SNeg (fun vs H Q E h => ?_) (fun cdv A outer s H vs Q E hr h => ?_)
  · obtain ⟨p, d, i, j, k, rfl, _⟩ := h
    rfl
  · obtain ⟨p, d, i, j, k, rfl, ⟨k0, dx, t, hp, ht⟩, hd, bi, bj, bk, q⟩ := h
    have nd := sc_SNeg.nd
    obtain ⟨fi, fdi, M1, G, kb, _, _⟩ := M.ex
    refine ⟨_, (pss_cons (ps_asg (pe_fld (pv 0) rfl) (pg_tup rfl (pgs_cons (pg_name (i := 1) nd rfl (Or.inl rfl)) (pgs_cons (pg_name (i := 2) nd rfl (Or.inl rfl)) (pgs_cons (pg_name (i := 3) nd rfl (Or.inl rfl)) pgs_nil)))))
      (pss_one (ps_ret (pe_makeK M1 G hr rfl T.mg kb pass0 (pa_cons (pe_fld (pv 0) rfl) (pa_cons (pe_un un_neg (pv 1)) (pa_cons (pe_un un_neg (pv 2)) pa_nil))) (pk_cons (pv 3) pk_nil))))), ?_⟩
    have ei : Bd 900 (pI i j k) := bi.le (pI_le k0)
    have ej : Bd 900 (pJ i j k) := bj.le (pJ_le k0)
    have ek : Bd 900 (pK i j k) := bk.le (pK_le k0)
    have kp := pK_pos (i := i) (j := j) k0
    refine ⟨_, rfl, p, C, dx, _, _, rfl, hp, T.cl, T.nP, sfl_parts _ _, t, _, rfl, SqT.of ht, rfl, _, _, rfl, _, _, rfl, _, _, rfl, rfl, ?_⟩
    refine ⟨_, rfl, p, C, dx, _, _, rfl, hp, T.cl, T.nR, sfl_root _ _, _, rfl, _, rfl, _, rfl, _, rfl, _, rfl, rfl, rfl, fun x dx2 nx ndx nex => ?_⟩
    refine ⟨x, dx2, d, _, _, _, rfl, upd_same, hd, by omega, (ei.mono (by decide)).neg, (ej.mono (by decide)).neg, ek.mono (by decide), fun H' S kp' => ⟨rfl, ?_⟩⟩
    have sm := Same.made nx ndx kp'
    refine q x H' nx (SV.cong ⟨by omega, S⟩ k0 ?_ ?_) sm
    · have a1 := pI_eq (i := i) (j := j) k0
      have a3 := pK_eq (i := i) (j := j) k0
      generalize gs i j k = g at *
      generalize pI i j k = X at *
      generalize pK i j k = Z at *
      rw [a1, a3]; grind
    · have a2 := pJ_eq (i := i) (j := j) k0
      have a3 := pK_eq (i := i) (j := j) k0
      generalize gs i j k = g at *
      generalize pJ i j k = Y at *
      generalize pK i j k = Z at *
      rw [a2, a3]; grind
end
end RF

namespace RF
open PySem L2 PyProof.Rows
structure IsS (K : PySem.W.Frag) (mg : Str → Option Value) (C : Addr) : Prop where
  ha : PySem.W.findIn K (.ref C) "__class__" = some (some (.builtin "object.__class__"))
  hn : PySem.W.specialIn K (.builtin "object.__class__") "__get__" = some (some (.builtin "getset_descriptor.__get__"))
  htk : PySem.W.takesIn K (.builtin "object.__class__") = some true
  hm : PySem.W.mroIn K C (.type "object") = some true
  mi : mg "isinstance" = none
theorem tyS {K : PySem.W.Frag} {mg : Str → Option Value} {H : Hp} {C p dx : Addr} {fs : List (Str × V)} (J : IsS K mg C) (c : Cls K C) (h : H p = some (.ins C dx fs)) : TyX K H (.ref p) (.ref C) := .base (.ins h c J.ha J.hn J.htk J.hm)
theorem kitSelf {K : PySem.W.Frag} {C : Addr} : PySem.W.kitOne K (.ref C) (.ref C) = some true := by
  unfold PySem.W.kitOne
  rw [if_pos (by simp)]
section
variable {P : Program} {w : World} {K : PySem.W.Frag} {mg : Str → Option Value} {base : Heap}
abbrev n_SAdd : List Str := ["self", "other", "i", "j", "k", "i2", "j2", "k2"]
theorem sc_SAdd : FnScope n_SAdd ["self", "other"] (defScope (sS 8)) := ⟨rfl, rfl, rfl, by decide +kernel, rfl, by decide +kernel, by decide +kernel⟩
theorem ok_SAdd {f C : Addr} {fd : FuncData} {k : Nat} (F : Fun K "__add__" "Surd.__add__" (sS 8) f fd) (T : TxS K mg C) (J : IsS K mg C) (M : MkS P w K mg base C k) : FnOk P w K mg base CX0 (k + 2) f fd ["self", "other"] (spAddS C) := by
  refine F.ok sc_SAdd (fun vs H Q E h => ?_) (fun cdv A outer s H vs Q E hr h => ?_)
  · obtain ⟨p, q, d, i, j, k, i2, j2, k2, rfl, _⟩ := h
    rfl
  · obtain ⟨p, q, d, i, j, k, i2, j2, k2, rfl, ⟨k0, dx, t, hp, ht⟩, ⟨k20, dx2, t2, hp2, ht2⟩, hd, bi, bj, bk, bi2, bj2, bk2, kk⟩ := h
    have nd := sc_SAdd.nd
    obtain ⟨fi, fdi, M1, G, kb, _, _⟩ := M.ex
    refine ⟨_, (pss_cons (ps_if (pt_not (pt_val (pe_callB call_isi (by rfl) J.mi (by decide +kernel) (pa_cons (pv 1) (pa_cons (pe_glob (v := .ref C) (by rfl) T.mg rfl) pa_nil)))))
      (pss_one ps_never)
      pss_nil)
      (pss_cons (ps_if (pt_cmpR op_ne (pe_fld (pv 0) rfl) (pe_fld (pv 1) rfl) (nomark _))
      (pss_one ps_never)
      pss_nil)
      (pss_cons (ps_asg (pe_fld (pv 0) rfl) (pg_tup rfl (pgs_cons (pg_name (i := 2) nd rfl (Or.inl rfl)) (pgs_cons (pg_name (i := 3) nd rfl (Or.inl rfl)) (pgs_cons (pg_name (i := 4) nd rfl (Or.inl rfl)) pgs_nil)))))
      (pss_cons (ps_asg (pe_fld (pv 1) rfl) (pg_tup rfl (pgs_cons (pg_name (i := 5) nd rfl (Or.inl rfl)) (pgs_cons (pg_name (i := 6) nd rfl (Or.inl rfl)) (pgs_cons (pg_name (i := 7) nd rfl (Or.inl rfl)) pgs_nil)))))
      (pss_one (ps_ret (pe_makeK M1 G hr rfl T.mg kb pass0 (pa_cons (pe_fld (pv 0) rfl) (pa_cons (pe_op op_add (pe_op op_mulW (pv 2) (pv 7)) (pe_op op_mulW (pv 5) (pv 4))) (pa_cons (pe_op op_add (pe_op op_mulW (pv 3) (pv 7)) (pe_op op_mulW (pv 6) (pv 4))) pa_nil))) (pk_cons (pe_op op_mulW (pv 4) (pv 7)) pk_nil)))))))), ?_⟩
    have ei : Bd 400 (pI i j k) := bi.le (pI_le k0)
    have ej : Bd 400 (pJ i j k) := bj.le (pJ_le k0)
    have ek : Bd 400 (pK i j k) := bk.le (pK_le k0)
    have kp := pK_pos (i := i) (j := j) k0
    have ei2 : Bd 400 (pI i2 j2 k2) := bi2.le (pI_le k20)
    have ej2 : Bd 400 (pJ i2 j2 k2) := bj2.le (pJ_le k20)
    have ek2 : Bd 400 (pK i2 j2 k2) := bk2.le (pK_le k20)
    have kp2 := pK_pos (i := i2) (j := j2) k20
    refine ⟨_, rfl, _, _, _, _, _, rfl, .own C, tyS J T.cl hp2, kitSelf, _, rfl, iteF ?_⟩
    refine ⟨_, rfl, p, C, dx, _, _, rfl, hp, T.cl, T.nR, sfl_root _ _, _, rfl, q, C, dx2, _, _, rfl, hp2, T.cl, T.nR, sfl_root _ _, rfl, _, rfl, iteNS rfl ?_⟩
    refine ⟨_, rfl, p, C, dx, _, _, rfl, hp, T.cl, T.nP, sfl_parts _ _, t, _, rfl, SqT.of ht, rfl, _, _, rfl, _, _, rfl, _, _, rfl, rfl, ?_⟩
    refine ⟨_, rfl, q, C, dx2, _, _, rfl, hp2, T.cl, T.nP, sfl_parts _ _, t2, _, rfl, SqT.of ht2, rfl, _, _, rfl, _, _, rfl, _, _, rfl, rfl, ?_⟩
    refine ⟨_, rfl, p, C, dx, _, _, rfl, hp, T.cl, T.nR, sfl_root _ _, ?_⟩
    refine ⟨_, rfl, _, rfl, _, _, rfl, rfl, mulOk ei ek2 (by decide) (by decide) (by decide), _, rfl, _, rfl, _, _, rfl, rfl, mulOk ei2 ek (by decide) (by decide) (by decide), _, _, rfl, rfl, ?_⟩
    refine ⟨_, rfl, _, rfl, _, _, rfl, rfl, mulOk ej ek2 (by decide) (by decide) (by decide), _, rfl, _, rfl, _, _, rfl, rfl, mulOk ej2 ek (by decide) (by decide) (by decide), _, _, rfl, rfl, ?_⟩
    refine ⟨_, rfl, _, rfl, _, _, rfl, rfl, mulOk ek ek2 (by decide) (by decide) (by decide), rfl, rfl, fun x dx3 nx ndx nex => ?_⟩
    refine ⟨x, dx3, d, _, _, _, rfl, upd_same, hd, Int.mul_ne_zero (by omega) (by omega), ((ei.mul ek2).add (ei2.mul ek)).mono (by decide), ((ej.mul ek2).add (ej2.mul ek)).mono (by decide), (ek.mul ek2).mono (by decide), fun H' S kp' => ⟨rfl, ?_⟩⟩
    have sm := Same.made nx ndx kp'
    refine kk x H' nx (SV.cong ⟨Int.mul_ne_zero (by omega) (by omega), S⟩ (Int.mul_ne_zero k0 k20) ?_ ?_) sm
    · have a1 := pI_eq (i := i) (j := j) k0
      have a3 := pK_eq (i := i) (j := j) k0
      have b1 := pI_eq (i := i2) (j := j2) k20
      have b3 := pK_eq (i := i2) (j := j2) k20
      generalize gs i j k = g at *
      generalize pI i j k = X at *
      generalize pK i j k = Z at *
      generalize gs i2 j2 k2 = g2 at *
      generalize pI i2 j2 k2 = X2 at *
      generalize pK i2 j2 k2 = Z2 at *
      rw [a1, a3, b1, b3]; grind
    · have a1 := pJ_eq (i := i) (j := j) k0
      have a3 := pK_eq (i := i) (j := j) k0
      have b1 := pJ_eq (i := i2) (j := j2) k20
      have b3 := pK_eq (i := i2) (j := j2) k20
      generalize gs i j k = g at *
      generalize pJ i j k = X at *
      generalize pK i j k = Z at *
      generalize gs i2 j2 k2 = g2 at *
      generalize pJ i2 j2 k2 = X2 at *
      generalize pK i2 j2 k2 = Z2 at *
      rw [a1, a3, b1, b3]; grind
abbrev n_SSub : List Str := ["self", "other"]
theorem sc_SSub : FnScope n_SSub ["self", "other"] (defScope (sS 9)) := ⟨rfl, rfl, rfl, by decide +kernel, rfl, by decide +kernel, by decide +kernel⟩
theorem ok_SSub {f C fn fa : Addr} {fd : FuncData} {k : Nat} (F : Fun K "__sub__" "Surd.__sub__" (sS 9) f fd) (T : TxS K mg C) (J : IsS K mg C) (GN : FnR P w K mg base CX0 k fn (spNegS C)) (ON : OwnOp K C fn "__neg__")
    (GA : FnR P w K mg base CX0 k fa (spAddS C)) (OA : OwnOp K C fa "__add__") : FnOk P w K mg base CX0 (k + 1) f fd ["self", "other"] (spSubS C) := by
  refine F.ok sc_SSub (fun vs H Q E h => ?_) (fun cdv A outer s H vs Q E hr h => ?_)
  · obtain ⟨p, q, d, i, j, k, i2, j2, k2, rfl, _⟩ := h
    rfl
  · obtain ⟨p, q, d, i, j, k, i2, j2, k2, rfl, S1, S2, hd, bi, bj, bk, bi2, bj2, bk2, kk⟩ := h
    obtain ⟨k0, dx, t, hp, ht⟩ := id S1
    obtain ⟨k20, dx2, t2, hp2, ht2⟩ := id S2
    refine ⟨_, (pss_cons (ps_if (pt_not (pt_val (pe_callB call_isi (by rfl) J.mi (by decide +kernel) (pa_cons (pv 1) (pa_cons (pe_glob (v := .ref C) (by rfl) T.mg rfl) pa_nil)))))
      (pss_one ps_never)
      pss_nil)
      (pss_one (ps_ret (pe_op (op_own (op := .Add) GA hr OA pass0) (pv 0) (pe_un (un_own_neg GN hr ON pass0) (pv 1)))))), ?_⟩
    refine ⟨_, rfl, _, _, _, _, _, rfl, .own C, tyS J T.cl hp2, kitSelf, _, rfl, iteF ?_⟩
    refine ⟨_, rfl, _, rfl, q, dx2, _, rfl, hp2, q, d, i2, j2, k2, rfl, S2, hd, bi2.mono (by decide), bj2.mono (by decide), bk2.mono (by decide), fun x H1 nx Sx sm => ?_⟩
    obtain ⟨_, dx3, t3, hp3, ht3⟩ := id Sx
    refine ⟨p, x, dx, dx3, _, _, rfl, rfl, sm _ _ hp, hp3, p, x, d, i, j, k, -i2, -j2, k2, rfl, S1.same sm, Sx, hd, bi, bj, bk, bi2.neg, bj2.neg, bk2, fun y H2 ny Sy sm2 => ?_⟩
    refine kk y H2 (sm.free ny) (Sy.cong Sy.1 ?_ ?_) (sm.trans sm2)
    · grind
    · grind
abbrev n_SCmp : List Str := ["self", "other", "difference"]
theorem sc_SCmp : FnScope n_SCmp ["self", "other"] (defScope (sS 6)) := ⟨rfl, rfl, rfl, by decide +kernel, rfl, by decide +kernel, by decide +kernel⟩
theorem ok_SCmp {f C fs fg : Addr} {fd fdg : FuncData} {k : Nat} (F : Fun K "compared" "Surd.compared" (sS 6) f fd) (T : TxS K mg C) (GS : FnR P w K mg base CX0 k fs (spSubS C)) (OS : OwnOp K C fs "__sub__")
    (GG : FnOk P w K mg base CX0 k fg fdg ["self"] (spSign C)) (mG : Meth K C "sign" fg) (bG : Binds K fdg ["self"] []) : FnOk P w K mg base CX0 (k + 1) f fd ["self", "other"] (spCmpS C) := by
  refine F.ok sc_SCmp (fun vs H Q E h => ?_) (fun cdv A outer s H vs Q E hr h => ?_)
  · obtain ⟨p, q, d, i, j, k, i2, j2, k2, rfl, _⟩ := h
    rfl
  · obtain ⟨p, q, d, i, j, k, i2, j2, k2, rfl, S1, S2, kp, kp2, hd, bi, bj, bk, bi2, bj2, bk2, kk⟩ := h
    obtain ⟨k0, dx, t, hp, ht⟩ := id S1
    obtain ⟨k20, dx2, t2, hp2, ht2⟩ := id S2
    have nd := sc_SCmp.nd
    refine ⟨_, (pss_cons (ps_set (i := 2) nd rfl (Or.inl rfl) (pe_op (op_own (op := .Sub) GS hr OS pass0) (pv 0) (pv 1)))
      (pss_one (ps_ret (pe_meth0 (pv 2) T.cl mG GG hr bG .nil pass0)))), ?_⟩
    refine ⟨_, rfl, _, rfl, p, q, dx, dx2, _, _, rfl, rfl, hp, hp2, p, q, d, i, j, k, i2, j2, k2, rfl, S1, S2, hd, bi, bj, bk, bi2, bj2, bk2, fun x H1 nx Sx sm => ?_⟩
    obtain ⟨_, dx3, t3, hp3, ht3⟩ := id Sx
    refine ⟨_, rfl, x, dx3, _, rfl, hp3, sfl_no _ _ (by decide +kernel) (by decide +kernel), x, d, _, _, _, rfl, Sx, Int.mul_pos kp kp2, hd, ?_, ?_, kk H1 sm⟩
    · rw [Int.sub_eq_add_neg]
      exact ((bi.mul bk2).add (bi2.mul bk).neg).mono (by decide)
    · rw [Int.sub_eq_add_neg]
      exact ((bj.mul bk2).add (bj2.mul bk).neg).mono (by decide)
def spBoolS (C : Addr) : Sp := fun vs H Q _ => ∃ (p : Addr) (d i j k : Int), vs = [.ref p] ∧ SV H C p d i j k ∧ 0 < k ∧ Root d ∧ Bd 900 i ∧ Bd 900 j ∧ Q (.bl (!decide (sg d i j = 0))) H
abbrev n_SBool : List Str := ["self"]
theorem sc_SBool : FnScope n_SBool ["self"] (defScope (sS 13)) := ⟨rfl, rfl, rfl, by decide +kernel, rfl, by decide +kernel, by decide +kernel⟩
theorem ok_SBool {f C fg : Addr} {fd fdg : FuncData} {k : Nat} (F : Fun K "__bool__" "Surd.__bool__" (sS 13) f fd) (T : TxS K mg C) (mB : mg "bool" = none)
    (GG : FnOk P w K mg base CX0 k fg fdg ["self"] (spSign C)) (mG : Meth K C "sign" fg) (bG : Binds K fdg ["self"] []) : FnOk P w K mg base CX0 (k + 1) f fd ["self"] (spBoolS C) := by
  refine F.ok sc_SBool (fun vs H Q E h => ?_) (fun cdv A outer s H vs Q E hr h => ?_)
  · obtain ⟨p, d, i, j, k, rfl, _⟩ := h
    rfl
  · obtain ⟨p, d, i, j, k, rfl, S1, kp, hd, bi, bj, q⟩ := h
    obtain ⟨k0, dx, t, hp, ht⟩ := id S1
    refine ⟨_, (pss_one (ps_ret (pe_callTy call_bool1 (by rfl) mB (by decide +kernel) (pa_cons (pe_cmpR op_ne (pe_meth0 (pv 0) T.cl mG GG hr bG .nil pass0) pe_int (nomark _)) pa_nil)))), ?_⟩
    refine ⟨_, rfl, p, dx, _, rfl, hp, sfl_no _ _ (by decide +kernel) (by decide +kernel), p, d, i, j, k, rfl, S1, kp, hd, bi, bj, rfl, .inr ⟨_, rfl, ?_⟩⟩
    have e : (!decide (V.int (sg d i j) = V.int 0)) = !decide (sg d i j = 0) := by rw [dec_int]; simp [BEq.beq]
    rw [e]
    exact q
end
end RF

namespace RF
open PySem L2 PyProof.Rows
def slopeD : D → Bool
  | .tup [a, b, c] => btw a (-9) 9 && (btw b (-3) 3 && btw c 1 4)
  | _ => false
def spIsSlope (K : PySem.W.Frag) : Sp := fun vs H Q _ => ∃ (v : V) (d : D), vs = [v] ∧ Rp K H v d ∧ Q (.bl (slopeD d)) H
def spOfSlope (K : PySem.W.Frag) (C : Addr) : Sp := fun vs H Q _ => ∃ (d i j k : Int) (v : V), vs = [.int d, v] ∧ Root d ∧ Rp K H v (.tup [.int i, .int j, .int k]) ∧ slopeD (.tup [.int i, .int j, .int k]) = true ∧
  ∀ (x : Addr) (H' : Hp), H x = none → SV H' C x d i j k → Same H H' → Q (.ref x) H'
/-- the two surds are one number -/
def EqS (C : Addr) : Addr → Addr → Hp → Prop := fun a b H => ∃ d i j k, SV H C a d i j k ∧ SV H C b d i j k
section
variable {P : Program} {w : World} {K : PySem.W.Frag} {mg : Str → Option Value} {base : Heap}
theorem slope_ne3 {ds : List D} (h : ds.length ≠ 3) : slopeD (.tup ds) = false := by
  match ds, h with
  | [], _ => rfl
  | [_], _ => rfl
  | [_, _], _ => rfl
  | [_, _, _], h => exact absurd rfl h
  | _ :: _ :: _ :: _ :: _, _ => rfl
abbrev n_is_slope : List Str := ["value", "i", "j", "k"]
theorem bd9 {i lo hi : Int} (h : btw (.int i) lo hi = true) (h1 : -512 ≤ lo) (h2 : hi ≤ 511) : Bd 10 i := by
  have : (decide (lo ≤ i) && decide (i ≤ hi)) = true := h
  simp only [Bool.and_eq_true, decide_eq_true_eq] at this
  unfold Bd
  omega
abbrev n_OfS : List Str := ["root", "slope", "i", "j", "k"]
abbrev n_SEq : List Str := ["self", "other"]
theorem sc_SEq : FnScope n_SEq ["self", "other"] (defScope (sS 12)) := ⟨rfl, rfl, rfl, by decide +kernel, rfl, by decide +kernel, by decide +kernel⟩
theorem ok_SEq {f C : Addr} {fd : FuncData} {k : Nat} (F : Fun K "__eq__" "Surd.__eq__" (sS 12) f fd) (T : TxS K mg C) (J : IsS K mg C) : FnOk P w K mg base CX0 (k + 2) f fd ["self", "other"] (spEq (EqS C)) := by
  refine F.ok sc_SEq (fun vs H Q E h => ?_) (fun cdv A outer s H vs Q E hr h => ?_)
  · obtain ⟨p, q, rfl, _⟩ := h
    rfl
  · obtain ⟨p, q, rfl, ⟨d, i, j, k, ⟨k0, dx, t, hp, ht⟩, ⟨k20, dx2, t2, hp2, ht2⟩⟩, kk⟩ := h
    refine ⟨_, (pss_one (ps_ret (pe_and (pe_callB call_isi (by rfl) J.mi (by decide +kernel) (pa_cons (pv 1) (pa_cons (pe_glob (v := .ref C) (by rfl) T.mg rfl) pa_nil))) (pe_and (pe_cmpR op_eq (pe_fld (pv 0) rfl) (pe_fld (pv 1) rfl) (nomark _)) (pe_one (pe_cmpR (op_eqG (rcG_tup mon_flat eqG_flat) (hr.mono (by omega))) (pe_fld (pv 0) rfl) (pe_fld (pv 1) rfl) (nomark _))))))), ?_⟩
    refine ⟨_, rfl, _, _, _, _, _, rfl, .own C, tyS J T.cl hp2, kitSelf, _, rfl, iteP rfl ?_⟩
    refine ⟨_, rfl, p, C, dx, _, _, rfl, hp, T.cl, T.nR, sfl_root _ _, _, rfl, q, C, dx2, _, _, rfl, hp2, T.cl, T.nR, sfl_root _ _, rfl, _, rfl, iteP (decide_eq_true rfl) ?_⟩
    refine ⟨_, rfl, p, C, dx, _, _, rfl, hp, T.cl, T.nP, sfl_parts _ _, _, rfl, q, C, dx2, _, _, rfl, hp2, T.cl, T.nP, sfl_parts _ _, ⟨t, t2, _, _, rfl, rfl, SqT.of ht, SqT.of ht2, ?_⟩, kk⟩
    exact .cons ⟨rfl, rfl, by simp [eqV]⟩ (.cons ⟨rfl, rfl, by simp [eqV]⟩ (.cons ⟨rfl, rfl, by simp [eqV]⟩ .nil))
end
end RF

namespace RF
open PySem L2
section
variable {P : Program} {w : World} {K : PySem.W.Frag} {mg : Str → Option Value} {base : Heap}
abbrev s_law_of : Stmt := top 22
abbrev n_law_of : List Str := ["_law_bag_here", "_law_some"]
theorem sc_law_of : FnScope n_law_of ["_law_bag_here", "_law_some"] (defScope s_law_of) := ⟨rfl, rfl, rfl, by decide +kernel, rfl, by decide +kernel, by decide +kernel⟩
theorem ok_of {f : Addr} {fd : FuncData} {k : Nat} (F : Fun K "_law_of" "_law_of" s_law_of f fd) (T : TB mg) (D1 : Df P w K mg base k "_law_pull" ["_law_bag_here", "_law_sides"] spPull) : FnOk P w K mg base CX0 (k + 1) f fd ["_law_bag_here", "_law_some"] (spOf K) := by
  refine F.ok sc_law_of (fun vs H Q E h => ?_) (fun cdv A outer s H vs Q E hr h => ?_)
  · obtain ⟨b, a, xs, rfl, _⟩ := h
    rfl
  · obtain ⟨b, a, xs, rfl, B, hS, nab, h0, h1, k⟩ := h
    refine ⟨_, (pss_one (ps_ret (pe_ix ix_list (pv 1) (pe_callD D1 hr (Nat.le_refl _) (pa_cons (pv 0) (pa_cons (pe_callB call_len_seq (by rfl) T.len PySem.boot_len (pa_cons (pv 1) pa_nil)) pa_nil))) (fun _ _ => rfl)))), ?_⟩
    refine ⟨_, rfl, _, rfl, _, rfl, a, _, rfl, .inl hS, b, _, rfl, B, by omega, by omega, fun d H' d0 d1 B' kp => ?_⟩
    obtain ⟨j, rfl⟩ : ∃ j : Nat, d = (j : Int) := ⟨d.toNat, by omega⟩
    have hj : j < xs.length := by omega
    exact ⟨a, xs, _, _, rfl, rfl, kp.seq nab hS, atI_nat (List.getElem?_eq_getElem hj), k _ _ (List.getElem_mem hj) B' kp⟩
abbrev s_law_root : Stmt := top 27
abbrev n_law_root : List Str := ["_law_bag_here"]
theorem sc_law_root : FnScope n_law_root ["_law_bag_here"] (defScope s_law_root) := ⟨rfl, rfl, rfl, by decide +kernel, rfl, by decide +kernel, by decide +kernel⟩
theorem ok_root {f : Addr} {fd : FuncData} {k : Nat} (F : Fun K "_law_root" "_law_root" s_law_root f fd) (D1 : Df P w K mg base k "_law_of" ["_law_bag_here", "_law_some"] (spOf K)) : FnOk P w K mg base CX0 (k + 1) f fd ["_law_bag_here"] spRoot := by
  refine F.ok sc_law_root (fun vs H Q E h => ?_) (fun cdv A outer s H vs Q E hr h => ?_)
  · obtain ⟨b, rfl, _⟩ := h
    rfl
  · obtain ⟨b, rfl, B, k⟩ := h
    refine ⟨_, (pss_one (ps_ret (pe_callD D1 hr (Nat.le_refl _) (pa_cons (pv 0) (pa_cons (pe_lst (pa_cons pe_int (pa_cons pe_int (pa_cons pe_int (pa_cons pe_int (pa_cons pe_int pa_nil)))))) pa_nil))))), ?_⟩
    refine ⟨_, rfl, by show 5 ≤ sizeLine; decide, fun p hp => ?_⟩
    obtain ⟨xs, hb⟩ := B.some
    refine ⟨b, p, _, rfl, B.same (sNew (Same.refl _) hp), SqL.of upd_same, (ne_of_none hb hp).symm, by decide, by decide, fun v H' hv B' kp => ?_⟩
    have kp' : Kp b H H' := (Kp.of (sNew (Same.refl _) hp)).trans kp
    rcases List.mem_cons.mp hv with rfl | hv
    · exact k _ _ (by decide) B' kp'
    rcases List.mem_cons.mp hv with rfl | hv
    · exact k _ _ (by decide) B' kp'
    rcases List.mem_cons.mp hv with rfl | hv
    · exact k _ _ (by decide) B' kp'
    rcases List.mem_cons.mp hv with rfl | hv
    · exact k _ _ (by decide) B' kp'
    rcases List.mem_cons.mp hv with rfl | hv
    · exact k _ _ (by decide) B' kp'
    cases hv
abbrev s_law_far : Stmt := top 26
abbrev n_law_far : List Str := ["_law_bag_here", "_law_figures", "_law_many", "_law_found", "_law_k_z"]
theorem sc_law_far : FnScope n_law_far ["_law_bag_here", "_law_figures"] (defScope s_law_far) := ⟨rfl, rfl, rfl, by decide +kernel, rfl, by decide +kernel, by decide +kernel⟩
theorem ok_far {f : Addr} {fd : FuncData} {k : Nat} (F : Fun K "_law_far" "_law_far" s_law_far f fd) (T : mg "range" = none) (D1 : Df P w K mg base k "_law_pull" ["_law_bag_here", "_law_sides"] spPull) : FnOk P w K mg base CX0 (k + 1) f fd ["_law_bag_here", "_law_figures"] spFar := by
  refine F.ok sc_law_far (fun vs H Q E h => ?_) (fun cdv A outer s H vs Q E hr h => ?_)
  · obtain ⟨b, m, rfl, _⟩ := h
    rfl
  · obtain ⟨b, m, rfl, B, m0, m1, k⟩ := h
    have nd := sc_law_far.nd
    refine ⟨_, (pss_cons (ps_set (i := 2) nd rfl (Or.inl rfl) (pe_op op_add pe_int (pe_callD D1 hr (Nat.le_refl _) (pa_cons (pv 0) (pa_cons (pv 1) pa_nil)))))
      (pss_cons (ps_set (i := 3) nd rfl (Or.inl rfl) pe_int)
      (pss_cons (ps_for PassesOwn.never rfl (pi_range1 rfl T (pa_cons (pv 2) pa_nil)) (pg_name (i := 4) nd rfl (Or.inl rfl))
      (pss_one (ps_set (i := 3) nd rfl (Or.inl rfl) (pe_op op_add (pe_op op_mul (pv 3) pe_int) (pe_callD D1 hr (Nat.le_refl _) (pa_cons (pv 0) (pa_cons pe_int pa_nil)))))))
      (pss_one (ps_ret (pv 3)))))), ?_⟩
    refine ⟨_, rfl, _, rfl, b, _, rfl, B, m0, by omega, fun d H1 d0 d1 B1 kp1 => ⟨_, _, rfl, rfl, ?_⟩⟩
    refine ⟨_, rfl, _, rfl, by omega, by omega, for_range (n := (1 + d).toNat) (fun i σ H' => ∃ (n : Int) (v : Option V), σ = [some (.ref b), some (.int m), some (.int (1 + d)), some (.int n), v] ∧ 0 ≤ n ∧ n < 10 ^ i ∧ Bag H' b ∧ Kp b H H')
      ⟨0, none, rfl, by decide, by decide, B1, kp1⟩ ?_ ?_⟩
    · rintro i σ H2 hi ⟨n, v, rfl, n0, n1, B2, kp2⟩
      refine ⟨_, rfl, _, _, rfl, rfl, .inr (by decide), _, rfl, b, _, rfl, B2, by decide, by decide, fun e H3 e0 e1 B3 kp3 => ⟨_, _, rfl, rfl, ?_⟩⟩
      refine ⟨_, _, rfl, by omega, ?_, B3, kp2.trans kp3⟩
      rw [Int.pow_succ]
      omega
    · rintro σ H2 ⟨n, v, rfl, n0, n1, B2, kp2⟩
      refine ⟨_, rfl, k _ _ n0 (Int.lt_of_lt_of_le n1 ?_) B2 kp2⟩
      exact_mod_cast Nat.pow_le_pow_right (by decide : 0 < 10) (by omega : (1 + d).toNat ≤ m.toNat)
end
end RF

namespace EX
open PySem PySem.Calls PyProof.Rows PySem.HandSPX
open PySem.W (Frag findIn typeIn keepIn subIn hasDictIn nsIn mroIn clsIn codeIn fnX envX Looks KxsFacts kxs_mw ksEnv ksFn looks_mroIn looks_findIn looks_clsIn)
/-! ### the text of an own error's __init__ -/
/-- what the written part says of a class of errors over ValueError: at C; its __init__ at fI, with the class's cell cc -/
structure Own (P : Program) (K : Frag) (mg : Str → Option Value) (nm : Str) (C fI : Addr) : Prop where
  gC : mg nm = some (.ref C)
  cls : ∃ nm' q N bs bm sn sub ab col dd k0 k1 k2 k3 k5, K.lookup C = some (excClassObj nm' q C N bs bm true sn sub ab col dd k0 k1 k2 k3 k5 "ValueError.__new__") ∧ refsVE bm = true ∧ PySem.W.alongIn K "__init__" bm = some (some (.builtin "ValueError.__init__"))
  sa : findIn K (.ref C) "__setattr__" = some (some (.builtin "object.__setattr__"))
  ga : findIn K (.ref C) "__getattribute__" = some (some (.builtin "BaseException.__getattribute__"))
  gg : findIn K (.ref C) "__getattr__" = some none
  noT : findIn K (.ref C) "tag" = some none
  iC : findIn K (.ref C) "__init__" = some (some (.ref fI))
  tC : typeIn K (.ref fI) = some (.type "function")
  kC : keepIn K (.ref C) = true
  exC : subIn K (.ref C) (.type "BaseException") = some true
  tyC : typeIn K (.ref C) = some (.type "type")
  hdC : hasDictIn K C = true
  self : mroIn K C (.ref C) = some true
  noS : mg "super" = none
  opq : nsIn K cStatics "thirdparty.any" = some none
  top : (P.main.scope.names.lookup ("super" : Str)).isSome = false
section
variable {prog : Program} {w : World} {A : Around} {E : Value → Shared → Prop} {h : Heap} {g : Array GenState} {d : Drawn} {t : Nat} {os : OsState} {K : Frag}
variable {nm q : Str} {C N : Addr} {bs bm : List Value} {hdct : Bool} {sn : List Str} {sub : List Value} {ab : Bool} {col : Option Bool} {dd : Option Addr} {k0 k1 k2 k3 k5 : Option Value}
/-- the bound __init__ of ValueError is called -/
theorem call_mw {u e t0 : Addr} {rest : List Value} {Q : Value → Shared → Prop} (hC : h.get? C = some (excClassObj nm q C N bs bm hdct sn sub ab col dd k0 k1 k2 k3 k5 "ValueError.__new__")) (he : h.get? e = some (excO C t0)) (hu : h.get? u = some (kxs_mw "ValueError.__init__" e)) (hrest : rest.length ≤ sizeLine)
    (hq : ∀ h' t1, (∀ b o, b ≠ e → h.get? b = some o → h'.get? b = some o) → h'.get? e = some (excO C t1) → Q .none ⟨h', g, d, t, os⟩) : wpAny (model prog w) A (call (.ref u) rest) Q E ⟨h, g, d, t, os⟩ := by
  refine wpAny_call (codeAny_of_tree ?_)
  show wpAny _ A.in1 (callAny (.ref u) ⟨rest, []⟩) _ _ _
  unfold callAny
  refine wpAny_bind (wpAny_load hu ?_)
  simp only []
  refine PySem.W.KFB.if_so (by decide) ?_
  refine wpAny_bind (PySem.W.check_bound_init F.excBase_ValueError.toExcCallFacts hC he rfl ?_)
  refine wpAny_bind (wpAny_pure (wpAny_pure ?_))
  refine ⟨Code.quiet_builtin _ (by decide +kernel), codeAny_builtin F.excBase_ValueError.initEntry ?_⟩
  rw [Around.under_plainId F.excBase_ValueError.init.plain _]
  wp_walk
  refine hq _ h.objs.size (fun b o hb ho => (Heap.get?_update_other _ _ (Ne.symm hb)).trans (Heap.get?_push_of_some _ ho)) ((Heap.get?_update_self _ (Heap.get?_push_of_some _ he) rfl).trans rfl)
end
/-- the __init__'s own record: its code and its cell -/
structure IFn (P : Program) (K : Frag) (C fI cda cc : Addr) (fd : FuncData) : Prop where
  lk : ∃ oc od osl, K.lookup fI = some ⟨oc, od, .func fd, osl⟩
  code : ∃ ccl cdd vs ccs file tf, K.lookup cda = some ⟨ccl, cdd, .fields vs, ccs⟩ ∧ vs[2]? = some (.str file tf) ∧ ((P.main.file : Str) == file) = true
  cell : ∃ cl cld csl, K.lookup cc = some ⟨cl, cld, .cell (some (.ref C)), csl⟩
section
variable {prog : Program} {w : World} {A : Around} {E : Value → Shared → Prop} {s : Shared} {K : Frag} {mg mb : Str → Option Value} {nm : Str} {C fI cda cc : Addr} {fd : FuncData}
/-- super().__init__('..') -/
theorem super_stmt (O : Own prog K mg nm C fI) (I : IFn prog K C fI cda cc fd) {ar : Arg} (hp : (fd.params.posonlyargs ++ fd.params.args).head? = some ar) {q : Str} {scope : Scope} {L x t0 : Addr} {m : Str → Option Value} {body : List Stmt} {msg : Str} {a1 a2 a3 a4 a5 a6 : Pos} {j : Nat} {Q : Flow → Shared → Prop}
    (X : K.In s.heap) (hg : s.heap.Ns mainGlobals mg) (hb : s.heap.Ns builtinsNs mb) (hmb : mb "super" = bootBuiltins "super") (hn : s.heap.Ns L m) (hm : m ar.arg = some (.ref x)) (hx : s.heap.get? x = some (excO C t0)) (hxC : x ≠ C)
    (hk : scope.kind = .function) (h1 : scope.names.lookup ("super" : Str) = some .globalImplicit) (h2 : scope.names.lookup ("__class__" : Str) = some .free) (h3 : scope.names.lookup ar.arg = some .local)
    (hs : swapsWith (.Call (.Attribute (.Call (.Name "super" a1) [] [] a2) "__init__" a3) [.Constant (.str msg) j a4] [] a5) none a6.line (ksEnv q scope L fI (.ref cda) cc) = pure false)
    (hi : interactive (ksEnv q scope L fI (.ref cda) cc) = false)
    (hev : ∃ pl : Sem Bool, eval (.Call (.Attribute (.Call (.Name "super" a1) [] [] a2) "__init__" a3) [.Constant (.str msg) j a4] [] a5) (ksEnv q scope L fI (.ref cda) cc) = (do
      let ov ← attributeBase (.Call (.Name "super" a1) [] [] a2) "__init__" (ksEnv q scope L fI (.ref cda) cc) (eval (.Call (.Name "super" a1) [] [] a2) (ksEnv q scope L fI (.ref cda) cc))
      standAt a3.atName
      let fb ← holding [ov] (getMethod ov "__init__" pl)
      callWith a5 fb.1 fb.2 (backTo a5 (starEach [.Constant (.str msg) j a4] (ksEnv q scope L fI (.ref cda) cc))) []))
    (hst : starEach [.Constant (.str msg) j a4] (ksEnv q scope L fI (.ref cda) cc) = [(false, eval (.Constant (.str msg) j a4) (ksEnv q scope L fI (.ref cda) cc))])
    (k : ∀ h' tk t1, (∀ b o, b ≠ x → s.heap.get? b = some o → h'.get? b = some o) → h'.get? x = some (excO C t1) → Q .next { s with heap := h', toks := tk }) :
    _root_.PySem.wpAt (model prog w) A (.func body (ksEnv q scope L fI (.ref cda) cc)) (exec (.Expr (.Call (.Attribute (.Call (.Name "super" a1) [] [] a2) "__init__" a3) [.Constant (.str msg) j a4] [] a5) a6) (ksEnv q scope L fI (.ref cda) cc)) Q E s := by
  obtain ⟨nm', q', N, bs, bm, sn, sub, ab, col, dd, k0, k1, k2, k3, k5, hC, hbm, hal⟩ := O.cls
  obtain ⟨oc, od, osl, hf⟩ := I.lk
  obtain ⟨ccl, cdd, vs, ccs, file, tf, hcode, hvs, hfile⟩ := I.code
  obtain ⟨cl, cld, csl, hcell⟩ := I.cell
  have hcl : clsIn K C = some { name := nm', bases := bs, mro := .ref C :: bm, ns := N, qualname := q', hasDict := true, slotNames := sn, subclasses := sub, abstract := ab, collection := col, hasDel := false } := by unfold clsIn; rw [hC] <;> rfl
  obtain ⟨hh, g, d, t, os⟩ := s
  refine ks_wpAt_Expr_any ?_ hi hs
  obtain ⟨pl, hev⟩ := hev
  refine ks_wpAt_MethodCall ?_ hev
  refine ks_wpAt_super_base (env := ksEnv q scope L fI (.ref cda) cc) h1 h2 (by decide) rfl (X _ _ hf) rfl hp rfl (X _ _ hcode) rfl hvs hfile O.top ?_
  refine PySem.W.ks_loadName_global hk h1 (loadGlobal_builtin (env := ksEnv q scope L fI (.ref cda) cc) hg O.noS hb (hmb.trans (by rfl)) ⟨rfl, ?_⟩)
  refine wpAny_loadName_free hk h2 rfl ⟨_, X _ _ hcell, rfl⟩ ?_
  refine wpAny_loadName_local hk h3 hn hm ?_
  refine ks_wpAny_isType_cls (X _ _ hC) rfl ⟨rfl, ?_⟩
  refine ks_wpAny_call_super (X _ _ hC) rfl hx rfl (fun c e => by cases e) (looks_mroIn X O.self) (fun h' e kk => ?_)
  have X' : K.In h' := X.keeps kk
  have hx' := kk _ _ hx
  have IX : PySem.W.InstAt h' x (excO C t0) C none := ⟨hx', rfl, rfl, trivial⟩
  have hI : Looks (model prog w) h' (isInstance (.ref x) (.type "ValueError")) true := IX.type.andThen (looks_mroIn X' (by
    unfold mroIn
    rw [hcl, Option.bind_some, if_neg (by simp), List.contains_cons, refsVE_contains "ValueError" bm hbm, show veTail.contains (.type "ValueError") = true by decide +kernel, Bool.or_true]))
  refine PySem.W.kxs_getMethod PySem.W.kxs_ValueError e (PySem.W.looks_opaque X' O.opq) (l₀ := .ref C :: bm) ?_ rfl X' ?_ hI hxC (by decide) ?_
  · exact fun A Q E s k q => wpAny_bind ((looks_clsIn X' hcl) A _ E s k (wpAny_pure q))
  · have e2 : ((Value.ref C :: bm).dropWhile (· != .ref C)).drop 1 = bm := ESX.drop_own C bm
    rw [e2]
    exact hal
  · have up : ∀ b o, h'.get? b = some o → (h'.push (kxs_mw "ValueError.__init__" x)).get? b = some o := fun b o q => Heap.get?_push_of_some _ q
    have hu : (h'.push (kxs_mw "ValueError.__init__" x)).get? h'.objs.size = some (kxs_mw "ValueError.__init__" x) := Heap.get?_push_at rfl rfl
    show wpAny _ _ (callWith a5 (.ref h'.objs.size) [] (backTo a5 (starEach [.Constant (.str msg) j a4] (ksEnv q scope L fI (.ref cda) cc))) []) _ _ _
    rw [hst]
    refine PySem.W.kxs_callWith (i := "ValueError.__init__") (u := h'.objs.size) (x := x) rfl ?_
    refine evalArgs_plain ?_
    refine Calls.spliced_cons (wpAny_Constant_str (k := j) (pos := a4) (Calls.spliced_nil ⟨hu, ?_⟩))
    have hC1 : (h'.push (kxs_mw "ValueError.__init__" x)).get? C = some _ := up _ _ (X' _ _ hC)
    refine call_mw hC1 (up _ _ hx') hu (by show 1 ≤ sizeLine; decide) fun h2 t1 k1 k2 => ?_
    exact k h2 _ t1 (fun b o hb e => k1 b o hb (up _ _ (kk b o e))) k2
/-- what __init__ leaves of a fresh error at x: its own dict at dx -/
structure IEnd (h h' : Heap) (x C dx L : Addr) (m : Str → Option Value) : Prop where
  keep : ∀ b o, b ≠ x → h.get? b = some o → h'.get? b = some o
  obj : ∃ t1, h'.get? x = some { cls := .ref C, dict := some dx, data := .fields #[.ref t1, .none, .none, .none, .bool false, .none] }
  dbig : L < dx
  dne : dx ≠ x
  ns : h'.Ns1 dx m
/-- the text of __init__(self, fld): the base's, the tag, the field (l: without a field) -/
def sSup (msg : Str) (a1 a2 a3 a4 a5 a6 : Pos) : Stmt := .Expr (.Call (.Attribute (.Call (.Name "super" a1) [] [] a2) "__init__" a3) [.Constant (.str msg) 0 a4] [] a5) a6
def sTag (tag : Str) (b1 b2 b3 b4 : Pos) : Stmt := .Assign [.Attribute (.Name "self" b1) "tag" b2] (.Constant (.str tag) 0 b3) b4
def sFld (fld : Str) (c1 c2 c3 c4 : Pos) : Stmt := .Assign [.Attribute (.Name "self" c1) fld c2] (.Name fld c3) c4
/-- what a look at the text tells, at every frame -/
structure Txt (q : Str) (scope : Scope) (fI cda cc : Addr) (msg tag : Str) (a1 a2 a3 a4 a5 a6 b1 b2 b3 b4 : Pos) : Prop where
  kind : scope.kind = .function
  sup : scope.names.lookup ("super" : Str) = some .globalImplicit
  cls : scope.names.lookup ("__class__" : Str) = some .free
  self : scope.names.lookup ("self" : Str) = some .local
  co : scope.isCoroutine = false
  gen : scope.isGenerator = false
  nocell : ∀ y ∈ scope.names, y.2 ≠ .cell
  sw : ∀ L, swapsWith (.Call (.Attribute (.Call (.Name "super" a1) [] [] a2) "__init__" a3) [.Constant (.str msg) 0 a4] [] a5) none a6.line (ksEnv q scope L fI (.ref cda) cc) = pure false
  int : ∀ L, interactive (ksEnv q scope L fI (.ref cda) cc) = false
  ev : ∀ L, ∃ pl : Sem Bool, eval (.Call (.Attribute (.Call (.Name "super" a1) [] [] a2) "__init__" a3) [.Constant (.str msg) 0 a4] [] a5) (ksEnv q scope L fI (.ref cda) cc) = (do
      let ov ← attributeBase (.Call (.Name "super" a1) [] [] a2) "__init__" (ksEnv q scope L fI (.ref cda) cc) (eval (.Call (.Name "super" a1) [] [] a2) (ksEnv q scope L fI (.ref cda) cc))
      standAt a3.atName
      let fb ← holding [ov] (getMethod ov "__init__" pl)
      callWith a5 fb.1 fb.2 (backTo a5 (starEach [.Constant (.str msg) 0 a4] (ksEnv q scope L fI (.ref cda) cc))) [])
  st : ∀ L, starEach [.Constant (.str msg) 0 a4] (ksEnv q scope L fI (.ref cda) cc) = [(false, eval (.Constant (.str msg) 0 a4) (ksEnv q scope L fI (.ref cda) cc))]
  sw2 : ∀ L, swapsWith (.Constant (.str tag) 0 b3) (some (.Attribute (.Name "self" b1) "tag" b2)) b4.line (ksEnv q scope L fI (.ref cda) cc) = pure false
section
variable {prog : Program} {w : World} {A : Around} {E : Value → Shared → Prop} {s : Shared} {K : Frag} {mg mb : Str → Option Value} {nm : Str} {C fI cda cc : Addr} {fd : FuncData}
/-- super().__init__('..'); self.tag = '..' -/
theorem two_stmts (O : Own prog K mg nm C fI) (I : IFn prog K C fI cda cc fd) {ar : Arg} (hp : (fd.params.posonlyargs ++ fd.params.args).head? = some ar) (har : ar.arg = "self") {q : Str} {scope : Scope} {L x t0 : Addr} {m : Str → Option Value} {body rest : List Stmt} {msg tag : Str} {a1 a2 a3 a4 a5 a6 b1 b2 b3 b4 : Pos} {Q : Flow → Shared → Prop}
    (T : Txt q scope fI cda cc msg tag a1 a2 a3 a4 a5 a6 b1 b2 b3 b4)
    (X : K.In s.heap) (hnx : K.lookup x = none) (hg : s.heap.Ns mainGlobals mg) (hb : s.heap.Ns builtinsNs mb) (hmb : mb "super" = bootBuiltins "super") (hn : s.heap.Ns L m) (hm : m "self" = some (.ref x)) (hx : s.heap.get? x = some (excO C t0)) (hxC : x ≠ C) (hxL : x ≠ L)
    (k : ∀ h' tk dx u, IEnd s.heap h' x C dx L (fun y => if y = "tag" then some (.str tag u) else none) → wpAny (model prog w) A (execs rest (ksEnv q scope L fI (.ref cda) cc)) Q E { s with heap := h', toks := tk }) :
    _root_.PySem.wpAt (model prog w) A (.func body (ksEnv q scope L fI (.ref cda) cc)) (execs (sSup msg a1 a2 a3 a4 a5 a6 :: sTag tag b1 b2 b3 b4 :: rest) (ksEnv q scope L fI (.ref cda) cc)) Q E s := by
  obtain ⟨nm', q', N, bs, bm, sn, sub, ab, col, dd, k0, k1, k2, k3, k5, hC, hbm, hal⟩ := id O.cls
  have hcl : clsIn K C = some { name := nm', bases := bs, mro := .ref C :: bm, ns := N, qualname := q', hasDict := true, slotNames := sn, subclasses := sub, abstract := ab, collection := col, hasDel := false } := by unfold clsIn; rw [hC] <;> rfl
  refine ks_wpAt_execs_cons (super_stmt O I hp X hg hb hmb hn (by rw [har]; exact hm) hx hxC T.kind T.sup T.cls (by rw [har]; exact T.self) (T.sw L) (T.int L) (T.ev L) (T.st L) fun h1 tk t1 k1 e1 => ?_)
  have X1 : K.In h1 := fun a o e => k1 a o (fun z => by rw [z, hnx] at e; cases e) (X a o e)
  have hn1 : h1.Ns L m := by
    obtain ⟨ob, es, ep, ho, r⟩ := hn
    exact ⟨ob, es, ep, k1 _ _ (Ne.symm hxL) ho, r⟩
  refine wpAt_of_wpAny (wpAny_execs_cons (plainObj_wpAny_Assign_Attribute (wpAny_Constant_str (k := 0) (pos := b3) ?_) (T.sw2 L)))
  refine wpAny_Name (wpAny_loadName_local T.kind T.self hn1 hm ?_) (by decide)
  refine PySem.W.set_plain X1 (ox := excO C t1) (od := none) ⟨e1, rfl, rfl, trivial⟩ O.sa ?_
  refine exc_osa X1 e1 hcl (show refsVE (.ref C :: bm) = true from hbm) rfl O.noT (fun h3 tk3 dx k3 dn dne hx3 hn3 => ?_)
  refine k h3 tk3 dx tk ⟨fun b o hb e => k3 b o hb (k1 b o hb e), ⟨t1, hx3⟩, Nat.lt_of_lt_of_le hn1.lt dn, dne, hn3⟩
end
end
end EX

namespace EX
open PySem PySem.Calls PyProof.Rows PySem.HandSPX
open PySem.W (Frag findIn typeIn keepIn subIn hasDictIn nsIn mroIn clsIn codeIn fnX envX Looks KxsFacts kxs_mw ksEnv ksFn looks_mroIn looks_findIn looks_clsIn)
def mT (tag : Str) (u : Tok) : Str → Option Value := fun y => if y = "tag" then some (.str tag u) else none
def mF (fld tag : Str) (u : Tok) (v : Value) : Str → Option Value := fun y => if y = fld then some v else mT tag u y
theorem refs_px (l : List Value) : refsVE l = true → PX.refsVE l = true := by
  induction l with
  | nil =>
    intro h
    exact absurd h (by decide +kernel)
  | cons a r ih =>
    intro h
    rcases refsVE_cases _ h with ⟨c, r', e, h'⟩ | e
    · cases e
      exact ih h'
    · rw [e]
      decide +kernel
theorem within_tag (tag : Str) (u : Tok) : Within (mT tag u) ["tag"] := Within.cons "tag" (.str tag u) Within.nil
section
variable {prog : Program} {w : World} {A : Around} {E : Value → Shared → Prop} {R : Result → Shared → Prop} {s : Shared} {K : Frag} {mg mb : Str → Option Value} {nm : Str} {C fI cda cc : Addr}
variable {n0 q msg tag fld : Str} {params : Arguments} {scope : Scope} {doc pm ct oc : Value} {an od : Option Addr} {osl : Array (Option Value)} {a1 a2 a3 a4 a5 a6 b1 b2 b3 b4 c1 c2 c3 c4 : Pos} {x t0 : Addr} {v : Value}
/-- __init__(self) -/
theorem init0 (O : Own prog K mg nm C fI) (I : IFn prog K C fI cda cc (ksFn n0 q params [sSup msg a1 a2 a3 a4 a5 a6, sTag tag b1 b2 b3 b4] scope .none .none doc pm an (.ref cda) ct cc)) (T : Txt q scope fI cda cc msg tag a1 a2 a3 a4 a5 a6 b1 b2 b3 b4)
    (hcd : codeIn K (.ref cda) q = true) {ar : Arg} (hp : (params.posonlyargs ++ params.args).head? = some ar) (har : ar.arg = "self")
    (hbind : BindsTo s (ksFn n0 q params [sSup msg a1 a2 a3 a4 a5 a6, sTag tag b1 b2 b3 b4] scope .none .none doc pm an (.ref cda) ct cc) ⟨[.ref x], []⟩ [("self", .ref x)])
    (X : K.In s.heap) (hlim : s.heap.NoLimit) (hnx : K.lookup x = none) (hg : s.heap.Ns mainGlobals mg) (hb : s.heap.Ns builtinsNs mb) (hmb : mb "super" = bootBuiltins "super") (hx : s.heap.get? x = some (excO C t0)) (hxC : x ≠ C) (hroom : A.depth < recursionLimit)
    (k : ∀ h' tk dx u, IEnd s.heap h' x C dx s.heap.objs.size (mT tag u) → R (.ok (.ret .none)) { s with heap := h', toks := tk }) :
    codeAny (model prog w) A (.call (.ref fI) ⟨[.ref x], []⟩) R s := by
  obtain ⟨oc', od', osl', lk⟩ := id I.lk
  refine ks_codeAny_call_defAt hroom (X _ _ lk) rfl hlim (PySem.W.codeRec_of X hcd) rfl hbind T.nocell (fun y hy => ?_) (fun h₀ hn kk => ?_) T.co T.gen T.kind
  · rw [List.mem_singleton] at hy
    subst hy
    exact T.self
  · have hxL : x ≠ s.heap.objs.size := Nat.ne_of_lt (Heap.lt_size hx)
    refine two_stmts (s := { s with heap := h₀, toks := _ }) (rest := []) O I hp har T (X.keeps kk) hnx (hg.keeps kk) (hb.keeps kk) hmb hn (by first | rfl | simp) (kk _ _ hx) hxC hxL fun h' tk dx u e => ?_
    refine wpAny_execs_nil ?_
    exact k h' tk dx u ⟨fun b o hb' ho => e.keep b o hb' (kk b o ho), e.obj, e.dbig, e.dne, e.ns⟩
/-- __init__(self, fld) -/
theorem init1 (O : Own prog K mg nm C fI) (hfn : findIn K (.ref C) fld = some none) (I : IFn prog K C fI cda cc (ksFn n0 q params [sSup msg a1 a2 a3 a4 a5 a6, sTag tag b1 b2 b3 b4, sFld fld c1 c2 c3 c4] scope .none .none doc pm an (.ref cda) ct cc)) (T : Txt q scope fI cda cc msg tag a1 a2 a3 a4 a5 a6 b1 b2 b3 b4)
    (hcd : codeIn K (.ref cda) q = true) {ar : Arg} (hp : (params.posonlyargs ++ params.args).head? = some ar) (har : ar.arg = "self")
    (hbind : BindsTo s (ksFn n0 q params [sSup msg a1 a2 a3 a4 a5 a6, sTag tag b1 b2 b3 b4, sFld fld c1 c2 c3 c4] scope .none .none doc pm an (.ref cda) ct cc) ⟨[.ref x, v], []⟩ [("self", .ref x), (fld, v)])
    (hfl : scope.names.lookup fld = some .local) (hfs : (fld == ("self" : Str)) = false) (hfd : (fld == ("__debug__" : Str)) = false) (sw3 : ∀ L, swapsWith (.Name fld c3) (some (.Attribute (.Name "self" c1) fld c2)) c4.line (ksEnv q scope L fI (.ref cda) cc) = pure false)
    (X : K.In s.heap) (hlim : s.heap.NoLimit) (hnx : K.lookup x = none) (hg : s.heap.Ns mainGlobals mg) (hb : s.heap.Ns builtinsNs mb) (hmb : mb "super" = bootBuiltins "super") (hx : s.heap.get? x = some (excO C t0)) (hxC : x ≠ C) (hroom : A.depth < recursionLimit)
    (k : ∀ h' tk dx u, IEnd s.heap h' x C dx s.heap.objs.size (mF fld tag u v) → R (.ok (.ret .none)) { s with heap := h', toks := tk }) :
    codeAny (model prog w) A (.call (.ref fI) ⟨[.ref x, v], []⟩) R s := by
  obtain ⟨oc', od', osl', lk⟩ := id I.lk
  obtain ⟨nm', q', N, bs, bm, sn, sub, ab, col, dd, k0, k1, k2, k3, k5, hC, hbm, hal⟩ := id O.cls
  have hcl : clsIn K C = some { name := nm', bases := bs, mro := .ref C :: bm, ns := N, qualname := q', hasDict := true, slotNames := sn, subclasses := sub, abstract := ab, collection := col, hasDel := false } := by unfold clsIn; rw [hC] <;> rfl
  have hself : (("self" : Str) == fld) = false := by
    rw [beq_eq_false_iff_ne] at hfs ⊢
    exact Ne.symm hfs
  refine ks_codeAny_call_defAt hroom (X _ _ lk) rfl hlim (PySem.W.codeRec_of X hcd) rfl hbind T.nocell (fun y hy => ?_) (fun h₀ hn kk => ?_) T.co T.gen T.kind
  · rcases List.mem_cons.mp hy with e | hy
    · subst e
      exact T.self
    · rw [List.mem_singleton] at hy
      subst hy
      exact hfl
  · have hxL : x ≠ s.heap.objs.size := Nat.ne_of_lt (Heap.lt_size hx)
    have m1 : ([("self", .ref x), (fld, v)] : List (Str × Value)).reverse.lookup ("self" : Str) = some (Value.ref x) := by simp [List.lookup, hself]
    have m2 : ([("self", .ref x), (fld, v)] : List (Str × Value)).reverse.lookup fld = some v := by simp [List.lookup]
    refine two_stmts (s := { s with heap := h₀, toks := _ }) (rest := [sFld fld c1 c2 c3 c4]) O I hp har T (X.keeps kk) hnx (hg.keeps kk) (hb.keeps kk) hmb hn m1 (kk _ _ hx) hxC hxL fun h2 tk dx u e => ?_
    have X2 : K.In h2 := fun a o q => e.keep a o (fun z => by rw [z, hnx] at q; cases q) (X.keeps kk a o q)
    have hn2 : h2.Ns s.heap.objs.size (fun y => ([("self", .ref x), (fld, v)] : List (Str × Value)).reverse.lookup y) := by
      obtain ⟨ob, es, ep, ho, r⟩ := hn
      exact ⟨ob, es, ep, e.keep _ _ (Ne.symm hxL) ho, r⟩
    obtain ⟨t1, hx2⟩ := e.obj
    obtain ⟨oD, esD, epD, hoD, hdD, _⟩ := e.ns.count (within_tag tag u)
    refine wpAny_execs_cons (plainObj_wpAny_Assign_Attribute ?_ (sw3 _))
    refine wpAny_Name (wpAny_loadName_local T.kind hfl hn2 m2 ?_) hfd
    refine wpAny_Name (wpAny_loadName_local T.kind T.self hn2 m1 ?_) (by decide)
    refine PySem.W.set_plain X2 (od := some oD) ⟨hx2, rfl, rfl, hoD⟩ O.sa ?_
    refine PX.osa_old X2 hx2 e.ns (within_tag tag u) (by decide) hcl (refs_px _ (show refsVE (.ref C :: bm) = true from hbm)) rfl hfn (fun h3 tk3 k3 hn3 => ?_)
    refine wpAny_execs_nil ?_
    exact k h3 tk3 dx u ⟨fun b o hb' ho => k3 b o (Nat.ne_of_lt (Nat.lt_trans (Heap.lt_size ho) e.dbig)) (e.keep b o hb' (kk b o ho)), ⟨t1, k3 _ _ (Ne.symm e.dne) hx2⟩, e.dbig, e.dne, hn3⟩
end
end EX

namespace EX
open PySem PySem.Calls PyProof.Rows PySem.HandSPX
open PySem.W (Frag findIn typeIn keepIn subIn hasDictIn nsIn mroIn clsIn codeIn fnX envX Looks KxsFacts kxs_mw ksEnv ksFn looks_mroIn looks_findIn looks_clsIn)
/-- __init__ with the arguments us leaves an own dict that holds mm -/
def Inits (prog : Program) (w : World) (K : Frag) (mg : Str → Option Value) (C fI : Addr) (us : List Value) (mm : Tok → Str → Option Value) : Prop :=
  ∀ (A : Around) (R : Result → Shared → Prop) (s : Shared) (x t0 : Addr) (mb : Str → Option Value), K.In s.heap → s.heap.NoLimit → K.lookup x = none → s.heap.Ns mainGlobals mg → s.heap.Ns builtinsNs mb → mb "super" = bootBuiltins "super" →
    s.heap.get? x = some (excO C t0) → x ≠ C → A.depth < recursionLimit → (∀ h' tk dx u, IEnd s.heap h' x C dx s.heap.objs.size (mm u) → R (.ok (.ret .none)) { s with heap := h', toks := tk }) →
    codeAny (model prog w) A (.call (.ref fI) ⟨.ref x :: us, []⟩) R s
/-- a made error: at e, its own dict at d -/
structure Made (h h' : Heap) (e C d : Addr) (m : Str → Option Value) : Prop where
  keep : ∀ b o, h.get? b = some o → h'.get? b = some o
  new : h.objs.size ≤ e
  obj : ∃ t, h'.get? e = some { cls := .ref C, dict := some d, data := .fields #[.ref t, .none, .none, .none, .bool false, .none] }
  dbig : h.objs.size ≤ d
  dne : d ≠ e
  ns : h'.Ns1 d m
section
variable {prog : Program} {w : World} {A : Around} {E : Value → Shared → Prop} {R : Result → Shared → Prop} {s : Shared} {K : Frag} {mg mb : Str → Option Value} {nm : Str} {C fI : Addr} {us : List Value} {mm : Tok → Str → Option Value}
theorem made (O : Own prog K mg nm C fI) (J : Inits prog w K mg C fI us mm) (hz : us.length ≤ sizeLine) (X : K.In s.heap) (hlim : s.heap.NoLimit) (hg : s.heap.Ns mainGlobals mg) (hb : s.heap.Ns builtinsNs mb) (hmb : mb "super" = bootBuiltins "super") (hroom : A.depth + 1 < recursionLimit)
    (hq : ∀ h' tk e d u, Made s.heap h' e C d (mm u) → R (.ok (.ret (.ref e))) { s with heap := h', toks := tk }) : codeAny (model prog w) A (.call (.ref C) ⟨us, []⟩) R s := by
  obtain ⟨nm', q', N, bs, bm, sn, sub, ab, col, dd, k0, k1, k2, k3, k5, hC, hbm, hal⟩ := id O.cls
  obtain ⟨hp, g, dr, tk, os⟩ := s
  have hold : ∀ b o, hp.get? b = some o → ((hp.push (PySem.W.kdv_tup us)).push (excO C hp.objs.size)).get? b = some o := fun b o e => Heap.get?_push_of_some _ (Heap.get?_push_of_some _ e)
  have hget : ((hp.push (PySem.W.kdv_tup us)).push (excO C hp.objs.size)).get? (hp.objs.size + 1) = some (excO C hp.objs.size) := by heap_get
  have out : ∀ a o, hp.get? a = some o → a ≠ hp.objs.size + 1 := fun a o e => Nat.ne_of_lt (Nat.lt_succ_of_lt (Heap.lt_size e))
  have hnx : K.lookup (hp.objs.size + 1) = none := by
    cases e : K.lookup (hp.objs.size + 1) with
    | none => rfl
    | some o => exact absurd rfl (out _ _ (X _ _ e))
  refine call_own F.excBase_ValueError (fun Y => refsVE_contains Y bm hbm) (X _ _ hC) (looks_findIn X O.iC) (fun self => PySem.W.bind_fn X self O.tC) hz ?_
  refine J _ _ ⟨(hp.push (PySem.W.kdv_tup us)).push (excO C hp.objs.size), g, dr, tk, os⟩ (hp.objs.size + 1) hp.objs.size mb (X.keeps hold) (hlim.keeps hold) hnx (hg.keeps hold) (hb.keeps hold) hmb hget (Ne.symm (out _ _ (X _ _ hC))) hroom fun h' tk' dx u Z => ?_
  obtain ⟨t1, ho⟩ := Z.obj
  have hd : hp.objs.size + 1 + 1 < dx := by
    have := Z.dbig
    rw [Heap.size_push, Heap.size_push] at this
    exact this
  exact ⟨rfl, hq h' tk' (hp.objs.size + 1) dx u ⟨fun b o e => Z.keep b o (out b o e) (hold b o e), Nat.le_succ _, ⟨t1, ho⟩, by show hp.objs.size ≤ dx; omega, Z.dne, Z.ns⟩⟩
end
end EX

namespace EX
open PySem PySem.Spec PyProof.Rows L2
section
variable {X : Cx} {pins : List (Addr × Obj)} {σ : L2.St} {H : Hp} {s : Shared} {nm tag fld : Str} {C fI : Addr}
theorem mkp_of (O : Own X.prog X.K X.mg nm C fI) (I : Inv X pins σ H s) {h' : Heap} {tk' : Nat} {e d : Addr} {m : Str → Option Value} {fs : List (Str × V)} {Q : XK} (M : Made s.heap h' e C d m) (hr : ∀ f, RelO (fs.lookup f) (m f))
    (q : ∀ d, H d = none → Q (.ref C) (some d) (upd H d (.xd fs))) : MkP X pins σ Q (.ref e) { s with heap := h', toks := tk' } := by
  obtain ⟨hp, g, dr, tk, os⟩ := s
  obtain ⟨t, ho⟩ := M.obj
  obtain ⟨G, g1, g2⟩ := restrict h' fun b => decide (b ≠ e)
  have gk : ∀ b, b ≠ e → G.get? b = h'.get? b := fun b hb => g1 b (decide_eq_true hb)
  have ge : G.get? e = none := g2 e (by simp)
  have old : ∀ b o, hp.get? b = some o → G.get? b = some o := fun b o z => (gk b (fun y => absurd (Heap.lt_size z) (by rw [y]; exact Nat.not_lt.mpr M.new))).trans (M.keep b o z)
  have ob : ObjOk X.prog X.w (upd H d (.xd fs)) G d (.xd fs) := ⟨m, M.ns.at (fun o z => (gk d M.dne).trans z), hr⟩
  have J : Inv X pins σ (upd H d (.xd fs)) ⟨G, g, dr, tk', os⟩ := I.laid (t' := tk') old M.dbig ob
  refine ⟨e, _, _, ⟨G, g, dr, tk', os⟩, upd H d (.xd fs), .ref C, some d, rfl, J, fun b o z => ?_, ge, ho, ⟨rfl, rfl⟩, rfl, rfl, ?_, rfl, I.bare, raises_own O.exC O.tyC, q d (I.hok.fresh M.dbig)⟩
  · have z : G.get? b = some o := z
    have hb : b ≠ e := fun y => by rw [y, ge] at z; cases z
    exact (gk b hb).symm.trans z
  · rw [upd_ne (Ne.symm M.dne)]
    exact I.hok.fresh M.new
theorem rel0 (tag : Str) (u : Tok) (f : Str) : RelO (List.lookup f [(("tag" : Str), V.str tag)]) (mT tag u f) := by
  unfold mT
  by_cases h : f = "tag"
  · subst h
    rw [if_pos rfl, show List.lookup ("tag" : Str) [(("tag" : Str), V.str tag)] = some (V.str tag) by simp [List.lookup]]
    exact ⟨u, rfl⟩
  · have h2 : (f == ("tag" : Str)) = false := by simpa using h
    rw [if_neg h, show List.lookup f [(("tag" : Str), V.str tag)] = none by simp [List.lookup, h2]]
    trivial
theorem rel1 {v : V} {v' : Value} (r : RelV v v') (fld tag : Str) (u : Tok) (f : Str) : RelO (List.lookup f [(fld, v), (("tag" : Str), V.str tag)]) (mF fld tag u v' f) := by
  unfold mF
  by_cases h : f = fld
  · subst h
    rw [if_pos rfl, show List.lookup f [(f, v), (("tag" : Str), V.str tag)] = some v by simp [List.lookup]]
    exact r
  · have h2 : (f == fld) = false := by simpa using h
    have e : List.lookup f [(fld, v), (("tag" : Str), V.str tag)] = List.lookup f [(("tag" : Str), V.str tag)] := by simp [List.lookup, h2]
    rw [if_neg h, e]
    exact rel0 tag u f
/-- C() -/
def tMk0 (C : Addr) (tag : Str) : L2.St → Hp → XK → Prop := fun _ H Q => ∀ d, H d = none → Q (.ref C) (some d) (upd H d (.xd [("tag", .str tag)]))
/-- C(e) -/
def tMk1 (C : Addr) (fld tag : Str) (ta : TA) : L2.St → Hp → XK → Prop := fun σ H Q => ta σ H fun vs H1 => ∃ v, vs = [v] ∧ ∀ d, H1 d = none → Q (.ref C) (some d) (upd H1 d (.xd [(fld, v), ("tag", .str tag)]))
theorem pmk0 {p pos : Pos} {k : Nat} (O : Own X.prog X.K X.mg nm C fI) (J : Inits X.prog X.w X.K X.mg C fI [] (mT tag)) (hr : Room k X.A) (hg : Gl X nm := by rfl) (hdb : (nm == ("__debug__" : Str)) = false := by decide) : PMk X (.Call (.Name nm p) [] [] pos) (tMk0 C tag) := by
  intro pins s σ H Q I h
  obtain ⟨mb, hb1, hb2⟩ := I.mod.blt
  refine wpAny_Call_Name_kw (ld_glob I hg O.gC ?_ hdb)
  refine PySem.W.callWith_K0 I.kIn O.kC ?_
  refine wpAny_call (made O J (Nat.zero_le _) I.kIn I.nolimit (I.mod.glob.keeps I.bk) (hb1.keeps I.bk) (hb2 _ (by decide)) (by have := hr.dp; omega) fun h' tk' e d u M => ?_)
  exact mkp_of O I M (rel0 tag u) h
theorem pmk1 {a : Expr} {ta : TA} {p pos : Pos} {k : Nat} (O : Own X.prog X.K X.mg nm C fI) (J : ∀ v, Inits X.prog X.w X.K X.mg C fI [v] (fun u => mF fld tag u v)) (hr : Room k X.A) (ha : PA X [a] ta) (hg : Gl X nm := by rfl) (hdb : (nm == ("__debug__" : Str)) = false := by decide)
    (he : starEach (a :: []) X.env = (false, eval a X.env) :: starEach [] X.env := by rfl) (hpl : (backTo pos (starEach [] X.env)).any (·.1) = false := by rfl) : PMk X (.Call (.Name nm p) [a] [] pos) (tMk1 C fld tag ta) := by
  intro pins s σ H Q I h
  refine wpAny_Call_Name_kw (ld_glob I hg O.gC ?_ hdb)
  refine PySem.W.callWith_K (h₀ := X.base) I.ok.mod.kin O.kC (thn (ha.run pos pins s σ H _ I h) fun us s1 hh => ?_) he hpl
  obtain ⟨vs, H1, I1, r1, v, ev, q1⟩ := hh
  subst ev
  refine ⟨I1.kIn, ?_⟩
  cases r1 with
  | cons rv rn =>
    rename_i v' us'
    cases rn
    obtain ⟨mb, hb1, hb2⟩ := I1.mod.blt
    refine wpAny_call (made O (J v') (by show 1 ≤ sizeLine; decide) I1.kIn I1.nolimit (I1.mod.glob.keeps I1.bk) (hb1.keeps I1.bk) (hb2 _ (by decide)) (by have := hr.dp; omega) fun h' tk' e d u M => ?_)
    exact mkp_of O I1 M (rel1 rv fld tag u) q1
end
end EX

namespace EX
open PySem PySem.Spec PyProof.Rows L2
/-! ### try .. except (x1, x2, x3) as n -/
theorem fly_push {B h : Heap} {l : List Env} {a : Addr} {Z : Obj → Prop} (o : Obj) (f : HandSPX.FlyingZ B l a Z h) : HandSPX.FlyingZ B l a Z (h.push o) := by
  obtain ⟨f1, f2, f3, oe, vs, T, oT, ts, g1, g2, g3, g4, g5, g6, g7, g8, g9⟩ := f
  have up : ∀ b u, h.get? b = some u → (h.push o).get? b = some u := fun b u e => Heap.get?_push_of_some _ e
  exact ⟨fun b u e => up b u (f1 b u e), f2, f3.of_keeps fun b u e _ => ⟨u, up b u e, rfl⟩, oe, vs, T, oT, ts, up _ _ g1, g2, g3, g4, g5, g6, up _ _ g7, g8, g9⟩
theorem upTo_push {h h' : Heap} (o : Obj) (u : h.UpToSlots h') : h.UpToSlots (h'.push o) := fun b z e n => by
  obtain ⟨sl, q⟩ := u b z e n
  exact ⟨sl, Heap.get?_push_of_some _ q⟩
/-- what the clause wishes: the class is one of the three, then the suite -/
def wTup (K : PySem.W.Frag) (cs : List Value) (i : Nat) (ts : Addr → Value → Option Addr → TS) (D : Ends) : WX := fun cls d σ H => PySem.W.exmAny K cls cs = some true ∧
  ∀ a, H a = none → ts a cls d { nx := fun σ1 H1 => D.nx (σ1.set i none) H1, rt := D.rt, bk := fun σ1 H1 => D.bk (σ1.set i none) H1, ct := fun σ1 H1 => D.ct (σ1.set i none) H1 } (σ.set i (some (.ref a))) H
section
variable {X : Cx} {x1 x2 x3 n : Str} {c1 c2 c3 : Addr} {i j : Nat} {body suite : List Stmt} {b₀ : Stmt} {p1 p2 p3 p4 pos pos' : Pos} {tb : WX → TS} {ts : Addr → Value → Option Addr → TS}
/-- the three classes, in a suite's context -/
theorem eval_three {a : Addr} {pn pins : List (Addr × Obj)} {σ : L2.St} {H : Hp} {s : Shared} {Q : Value → Shared → Prop} {E : Value → Shared → Prop} (I : Inv (X.suite a pn) pins σ H s)
    (g1 : Gl X x1 ∧ X.mg x1 = some (.ref c1) ∧ (x1 == ("__debug__" : Str)) = false) (g2 : Gl X x2 ∧ X.mg x2 = some (.ref c2) ∧ (x2 == ("__debug__" : Str)) = false) (g3 : Gl X x3 ∧ X.mg x3 = some (.ref c3) ∧ (x3 == ("__debug__" : Str)) = false)
    (q : Q (.ref s.heap.objs.size) { s with heap := s.heap.push { cls := .type "tuple", data := .seq [Value.ref c1, .ref c2, .ref c3].toArray } })
    (hst : starEach [.Name x1 p1, .Name x2 p2, .Name x3 p3] X.env = [(false, eval (.Name x1 p1) X.env), (false, eval (.Name x2 p2) X.env), (false, eval (.Name x3 p3) X.env)]) :
    wpAny (model X.prog X.w) (X.A.mark (some (.ref a))) (eval (.Tuple [.Name x1 p1, .Name x2 p2, .Name x3 p3] j p4) X.env) Q E s := by
  refine wpAny_Tuple_spliced ?_
  rw [hst]
  refine Calls.spliced_cons (ld_glob (X := X.suite a pn) I g1.1 g1.2.1 ?_ g1.2.2)
  refine Calls.spliced_cons (ld_glob (X := X.suite a pn) I g2.1 g2.2.1 ?_ g2.2.2)
  refine Calls.spliced_cons (ld_glob (X := X.suite a pn) I g3.1 g3.2.1 ?_ g3.2.2)
  exact Calls.spliced_nil ⟨by show 3 ≤ sizeLine; decide, q⟩
theorem ps_try_tup (hs : X.stack = X.env :: X.outer) (hf : X.env.frame = some X.env.locals) (hN : X.N.Nodup) (hi : X.N[i]? = some n) (hln : X.env.kindOf n = some .local)
    (g1 : Gl X x1 ∧ X.mg x1 = some (.ref c1) ∧ (x1 == ("__debug__" : Str)) = false) (g2 : Gl X x2 ∧ X.mg x2 = some (.ref c2) ∧ (x2 == ("__debug__" : Str)) = false) (g3 : Gl X x3 ∧ X.mg x3 = some (.ref c3) ∧ (x3 == ("__debug__" : Str)) = false)
    (hst : starEach [.Name x1 p1, .Name x2 p2, .Name x3 p3] X.env = [(false, eval (.Name x1 p1) X.env), (false, eval (.Name x2 p2) X.env), (false, eval (.Name x3 p3) X.env)])
    (hb : ∀ (W : WX) (pn : List (Addr × Obj)) (xe : Value → Shared → Prop), Takes (X.tr pn xe) W → PSs (X.tr pn xe) body (tb W))
    (hsu : ∀ (a : Addr) (oe : Obj) (cls : Value) (d : Option Addr) (pn : List (Addr × Obj)), Zc cls d oe → (∃ vs, oe.data = .fields vs) → PSs (X.suite a ((a, oe) :: pn)) (b₀ :: suite) (ts a cls d)) :
    PS X (.Try body [.ExceptHandler (some (.Tuple [.Name x1 p1, .Name x2 p2, .Name x3 p3] j p4)) (some n) (b₀ :: suite) pos'] [] [] pos) (fun D σ H => tb (wTup X.K [.ref c1, .ref c2, .ref c3] i ts D) D σ H) := by
  refine ⟨fun pins s σ H D I hw => ?_⟩
  have ok := I.ok
  have frs_ : X.A.frames = some (X.env :: X.outer) := by rw [ok.frames, hs]
  have here : Loc X.env.scope n := .inl hln
  refine wpAny_Try_except (wpAny_mono ((hb (wTup X.K [.ref c1, .ref c2, .ref c3] i ts D) (X.pn ++ pins) (fun e sa => wpAny (model X.prog X.w) X.A (noteFrame e X.env) (fun _ sb => wpAny (model X.prog X.w) X.A (setFlight e none) (fun _ sc =>
    wpAny (model X.prog X.w) X.A (handleBy e X.env [.ExceptHandler (some (.Tuple [.Name x1 p1, .Name x2 p2, .Name x3 p3] j p4)) (some n) (b₀ :: suite) pos']) (SP X pins D) X.xe sc) X.xe sb) X.xe sa) (fun u s2 air => ?_)).run [] s σ H D (I.toTry _) hw) (fun fl s2 done => ?_) (fun _ _ z => z))
  · -- an exception comes
    obtain ⟨a, B, sI, pins2, σ2, H2, cls, d, rfl, Jt, nb, up, sky, na, os, ag, hm, hy⟩ := air
    have J : Inv X pins σ2 H2 sI := Jt.ofTry ok
    rw [show (X.tr (X.pn ++ pins) _).stack = X.env :: X.outer from hs] at sky
    show wpAny (model X.prog X.w) X.A (noteFrame (.ref a) X.env) _ _ _
    refine Sky.land Zc.steady frs_ hf sky fun h3 fl3 up3 => ?_
    obtain ⟨oe3, vs3, ge3, hz3, gd3⟩ := fl3.there
    have nfr : a ∉ frs (X.env :: X.outer) := fun mem => by
      obtain ⟨_, o2, e2, nf⟩ := fl3.2.2.1.mem mem
      rw [ge3] at e2
      cases e2
      exact nf _ gd3
    have nL : a ≠ X.env.locals := fun z => nfr (List.mem_filterMap.mpr ⟨X.env, List.mem_cons_self, hf.trans (by rw [z])⟩)
    have nF : a ∉ X.fs := fun mem => by
      obtain ⟨e2, m2, q2⟩ := List.mem_filterMap.mp mem
      exact nfr (List.mem_filterMap.mpr ⟨e2, List.mem_cons_of_mem _ m2, q2⟩)
    have J3 : Inv X pins σ2 H2 { s2 with heap := h3 } := J.landed nb fl3.1 (up.trans up3) os ag
    refine wpAny_handleBy_cons (codeAny_handlers_test ?_) (fun q => by cases q)
    refine eval_three (pn := (a, oe3) :: (X.pn ++ pins)) (J3.suite ge3 gd3 na nL nF) g1 g2 g3 ?_ hst
    -- the classes' tuple is laid
    have fl4 := fly_push { cls := .type "tuple", data := .seq [Value.ref c1, .ref c2, .ref c3].toArray } fl3
    have up4 := upTo_push { cls := .type "tuple", data := .seq [Value.ref c1, .ref c2, .ref c3].toArray } (up.trans up3)
    have ht : (h3.push { cls := .type "tuple", data := .seq [Value.ref c1, .ref c2, .ref c3].toArray }).get? h3.objs.size = some { cls := .type "tuple", data := .seq [Value.ref c1, .ref c2, .ref c3].toArray } := Heap.get?_push_size _ rfl
    generalize h3.push { cls := .type "tuple", data := .seq [Value.ref c1, .ref c2, .ref c3].toArray } = h4 at fl4 up4 ht
    have J4 : Inv X pins σ2 H2 { s2 with heap := h4 } := J.landed nb fl4.1 up4 os ag
    obtain ⟨oe4, vs4, ge4, hz4, gd4⟩ := fl4.there
    have LT : PySem.W.Looks (model X.prog X.w) h4 (typeOf (.ref a)) cls := fun _ _ _ _ kk q => wpAny_typeOf_ref (kk _ _ ge4) (by rw [hz4.1]; exact q)
    refine (PySem.W.exm_tup3 (M := model X.prog X.w) J4.kIn LT ht hm).here ?_
    refine codeAny_handlers_suite_as (HandSPX.lands_againZ fl4 fun h5 fl5 up5 => ?_)
    have J5 : Inv X pins σ2 H2 { s2 with heap := h5 } := J.landed nb fl5.1 (up4.trans up5) os ag
    obtain ⟨oe5, vs5, ge5, hz5, gd5⟩ := fl5.there
    refine store_ok (X := X.suite a ((a, oe5) :: (X.pn ++ pins))) (v := .ref a) (J5.suite ge5 gd5 na nL nF) hN hi here rfl (fun s6 S6 => ?_) (.inr hln)
    refine wpAny_mono ((hsu a oe5 cls d (X.pn ++ pins) hz5 ⟨_, gd5⟩).run [] s6 _ H2 _ S6 (hy a na)) (fun fl s7 e7 => ?_) (fun _ _ z => False.elim z)
    have fin : ∀ {σ7 : L2.St} {H7 : Hp} {Q : Shared → Prop}, Inv (X.suite a ((a, oe5) :: (X.pn ++ pins))) [] σ7 H7 s7 → (∀ s8, Inv X pins (σ7.set i none) H7 s8 → Q s8) → wpAny (model X.prog X.w) X.A (do bindName X.env n .none; unbindBehindTheSuite X.env n pos') (fun _ s8 => Q s8) X.xe s7 :=
      fun {σ7 H7 Q} S7 hq => gone_ok (S7.unsuite ok) hN hi hln hq
    cases fl with
    | next =>
      obtain ⟨σ7, H7, S7, q7⟩ := e7
      exact fin S7 fun _ J8 => ⟨_, _, J8, q7⟩
    | brk =>
      obtain ⟨σ7, H7, S7, q7⟩ := e7
      exact fin S7 fun _ J8 => ⟨_, _, J8, q7⟩
    | cont =>
      obtain ⟨σ7, H7, S7, q7⟩ := e7
      exact fin S7 fun _ J8 => ⟨_, _, J8, q7⟩
    | ret u7 =>
      obtain ⟨v7, σ7, H7, S7, r7, q7⟩ := e7
      exact fin S7 fun _ J8 => ⟨_, _, _, J8, r7, q7⟩
  · cases fl with
    | next =>
      obtain ⟨σ2, H2, J2, q2⟩ := done
      exact wpAny_execs_nil ⟨σ2, H2, J2.ofTry ok, q2⟩
    | brk =>
      obtain ⟨σ2, H2, J2, q2⟩ := done
      exact ⟨σ2, H2, J2.ofTry ok, q2⟩
    | cont =>
      obtain ⟨σ2, H2, J2, q2⟩ := done
      exact ⟨σ2, H2, J2.ofTry ok, q2⟩
    | ret u2 =>
      obtain ⟨v2, σ2, H2, J2, r2, q2⟩ := done
      exact ⟨v2, σ2, H2, J2.ofTry ok, r2, q2⟩
end
end EX

namespace EX
open PySem PySem.Spec PyProof.Rows L2
open L2H (RoomH PinOk cxH inv_startH)
/-! ### the fields of a pinned error -/
structure ECls (K : PySem.W.Frag) (C : Addr) : Prop where
  ga : PySem.W.findIn K (.ref C) "__getattribute__" = some (some (.builtin "BaseException.__getattribute__"))
  gg : PySem.W.findIn K (.ref C) "__getattr__" = some none
  exC : PySem.W.subIn K (.ref C) (.type "BaseException") = some true
  hd : PySem.W.hasDictIn K C = true
theorem Own.ecls {P : Program} {K : PySem.W.Frag} {mg : Str → Option Value} {nm : Str} {C fI : Addr} (O : Own P K mg nm C fI) : ECls K C := ⟨O.ga, O.gg, O.exC, O.hdC⟩
/-- p is an error of the class C with the fields fs at d -/
structure ErrP (K : PySem.W.Frag) (H : Hp) (p : Addr × Obj) (C d : Addr) (fs : List (Str × V)) : Prop where
  cls : p.2.cls = .ref C
  dict : p.2.dict = some d
  data : ∃ vs, p.2.data = .fields vs
  ec : ECls K C
  at_ : H d = some (.xd fs)
def tXf (K : PySem.W.Frag) (p : Addr × Obj) (f : Str) (te : TE) : TE := fun σ H Q => te σ H fun x H1 => x = .ref p.1 ∧ ∃ C d fs v, ErrP K H1 p C d fs ∧ PySem.W.findIn K (.ref C) f = some none ∧ fs.lookup f = some v ∧ Q v H1
theorem pe_xf {X : Cx} {p : Addr × Obj} {e : Expr} {te : TE} {f : Str} {pos : Pos} (hp : p ∈ X.pn) (he : PE X e te) (hb : attributeBase e f X.env (eval e X.env) = eval e X.env := by rfl) : PE X (.Attribute e f pos) (tXf X.K p f te) := by
  refine ⟨fun pins s σ H Q I h => ?_⟩
  refine attr_of hb (thn (he.run pins s σ H _ I h) fun u s1 hh => ?_)
  obtain ⟨x, H1, I1, rx, ex, C, d, fs, v, EP, hn, hl, q⟩ := hh
  subst ex
  obtain rfl : u = Value.ref p.1 := rx
  obtain ⟨hcl, hdi, ⟨vs, hda⟩, ec, hat⟩ := EP
  have P1 := (I1.pin p (List.mem_append_left _ hp)).1
  obtain ⟨mA, hns, hr⟩ := (show ObjOk X.prog X.w H1 s1.heap d (.xd fs) from I1.hok d _ hat)
  obtain ⟨od, ho, hlk⟩ := lookIn_ns hns
  obtain ⟨u2, hu, ru⟩ := RelO.some_of (v := v) (o := mA f) (by rw [← hl]; exact hr f)
  have J : PySem.W.InstAt s1.heap p.1 p.2 C (some od) := ⟨P1, hcl, by unfold PySem.W.notCls; rw [hda] <;> rfl, by rw [hdi]; exact ho⟩
  exact HandSPX.exc_get I1.kIn J ec.ga ec.gg ec.exC (PySem.W.findObj_own ec.hd hn rfl (by rw [hlk, hu])) (handed_of ru) ⟨v, H1, I1.tok _, ru, q⟩
/-! ### defs called in a suite, with the pinned error -/
structure FnS (P : Program) (w : World) (K : PySem.W.Frag) (mg : Str → Option Value) (base : Heap) (k : Nat) (f : Addr) (fd : FuncData) (ps : List Str) (sp : Addr × Obj → List V → Hp → VK → Prop) : Prop where
  len : ∀ p vs H Q, sp p vs H Q → vs.length = ps.length
  run : ∀ (A : Around) (outer : List Env) (s : Shared) (H : Hp) (args : Args) (us : List Value) (vs : List V) (Q : VK) (p : Addr × Obj), RoomH k A → PinOk outer H s p → Env0 P w K mg base A outer s H → BindsTo s fd args (ps.zip us) → Vals vs us → sp p vs H Q →
    codeAny (model P w) A (.call (.ref f) args) (CR C8.CX0 outer P w H s Q C8.E0) s
theorem fnS {P : Program} {w : World} {K : PySem.W.Frag} {mg : Str → Option Value} {base : Heap} {k : Nat} {f : Addr} {name qual : Str} {params : Arguments} {body : List Stmt} {scope : Scope} {dV kV doc pm cdv ct oc : Value} {an od : Option Addr} {osl : Array (Option Value)} {N ps : List Str}
    {sp : Addr × Obj → List V → Hp → VK → Prop} (lk : K.lookup f = some ⟨oc, od, .func (PySem.W.fnOf name qual params body scope dV kV doc pm an cdv ct), osl⟩) (hcd : PySem.W.codeIn K cdv qual = true) (S : FnScope N ps scope) (len : ∀ p vs H Q, sp p vs H Q → vs.length = ps.length)
    (hbody : ∀ (A : Around) (outer : List Env) (s : Shared) (H : Hp) (vs : List V) (Q : VK) (p : Addr × Obj), RoomH k (A.deeper (envOfC qual scope s.heap.objs.size f cdv)) → sp p vs H Q →
      ∃ t, PSs (cxH C8.CX0 P w K mg base N qual scope f cdv A outer s H C8.E0 p) body t ∧ t { nx := fun _ H1 => Q .non H1, rt := Q } (L2.start N vs) H) :
    FnS P w K mg base (k + 1) f (PySem.W.fnOf name qual params body scope dV kV doc pm an cdv ct) ps sp := by
  refine ⟨len, fun A outer s H args us vs Q p hr pin e0 hb r hq => ?_⟩
  have kin : K.In s.heap := e0.mod.kin.keeps fun b o e => (e0.bs b o e).1
  have lim : s.heap.NoLimit := e0.mod.nolimit.keeps fun b o e => (e0.bs b o e).1
  have kinds : ∀ y ∈ ps.zip us, scope.names.lookup y.1 = some .local ∨ (scope.names.lookup y.1 = some .cell ∧ ((cellsFrom (s.heap.objs.size + 1) scope.names []).lookup y.1).isSome = true) := fun y hy =>
    (S.par y.1 (List.of_mem_zip hy).1).elim .inl fun q => .inr ⟨q, PySem.W.cellsFrom_some _ _ _ (.inl q)⟩
  refine codeAny_call_function hr.depth (kin _ _ lk) rfl S.co S.gen rfl (PySem.W.codeRec_of kin hcd) (hb _ _ _ _ (wpAny_newFunctionEnv_cells S.kind kinds fun env he s1 xx => ?_))
  subst he
  obtain ⟨t, ht, hw⟩ := hbody A outer s H vs Q p (hr.deeper _) hq
  have I := inv_startH (CX := C8.CX0) (E := C8.E0) S pin e0 (len _ _ _ _ hq) r xx
  refine ⟨lim.keeps xx.toInCall.keep, codeAny_func (wpAny_mono (ht.run [] s1 (L2.start N vs) H _ I hw) (fun fl s2 e2 => ?_) fun _ _ z => z)⟩
  cases fl with
  | ret u =>
    obtain ⟨v, σ2, H2, J, rv, q⟩ := e2
    exact ⟨v, H2, J.os, J.bare, J.base, J.hok, rv, q⟩
  | next =>
    obtain ⟨σ2, H2, J, q⟩ := e2
    exact ⟨.non, H2, J.os, J.bare, J.base, J.hok, rfl, q⟩
  | brk => exact e2.elim fun _ z => z.elim fun _ z => z.2.elim
  | cont => exact e2.elim fun _ z => z.elim fun _ z => z.2.elim
/-- f(e, ..) in a suite that holds p -/
def tCallS' (sp : Addr × Obj → List V → Hp → VK → Prop) (p : Addr × Obj) (t : TA) : TE := fun σ H Q => t σ H fun vs H1 => sp p vs H1 Q
theorem pe_callS' {X : Cx} {k : Nat} {f : Addr} {fd : FuncData} {ps : List Str} {sp : Addr × Obj → List V → Hp → VK → Prop} {x : Str} {q pos : Pos} {e : Expr} {es : List Expr} {t : TA} {p : Addr × Obj} (F : FnS X.prog X.w X.K X.mg X.base k f fd ps sp) (hr : RoomH k X.A) (hp : p ∈ X.pn) (hg : Gl X x) (hm : X.mg x = some (.ref f))
    (hk : PySem.W.keepIn X.K (.ref f) = true) (hb : L2.Binds X.K fd ps []) (ha : PA X (e :: es) t) (hdb : (x == ("__debug__" : Str)) = false := by decide) (he : starEach (e :: es) X.env = (false, eval e X.env) :: starEach es X.env := by rfl) (hpl : (backTo pos (starEach es X.env)).any (·.1) = false := by rfl) :
    PE X (.Call (.Name x q) (e :: es) [] pos) (tCallS' sp p t) := by
  refine ⟨fun pins s σ H Q I h => wpAny_Call_Name_kw (ld_glob I hg hm ?_ hdb)⟩
  refine PySem.W.callWith_K (h₀ := X.base) I.ok.mod.kin hk (thn (ha.run pos pins s σ H _ I h) fun us s1 ⟨vs, H1, I1, r, q⟩ => ⟨I1.kIn, ?_⟩) he hpl
  have bb := hb s1 us I1.kIn (by rw [List.append_nil, ← r.length]; exact F.len _ _ _ _ q)
  rw [List.append_nil] at bb
  have P1 := I1.pin p (List.mem_append_left _ hp)
  have pin : PinOk X.stack H1 s1 p := ⟨P1.1, P1.2.1, fun mem => (List.mem_cons.mp (I1.stkSub p.1 mem)).elim P1.2.2.1 P1.2.2.2.1, P1.2.2.2.2⟩
  refine wpAny_call (codeAny_mono (F.run X.A X.stack s1 H1 ⟨us, []⟩ us vs Q p hr pin I1.env0 bb r q) fun rr s2 hq => ?_)
  cases rr with
  | error z => exact (show False from hq).elim
  | ok fl =>
    cases fl with
    | ret u => exact I1.after hq
    | next => exact False.elim hq
    | brk => exact False.elim hq
    | cont => exact False.elim hq
end EX

namespace EX
open PySem PySem.Spec PyProof.Rows L2
/-! ### what an error tells -/
def Kd (tag : Str) (f : Option Str) : Prop := ((tag = "InvalidRoot" ∨ tag = "InvalidNumber" ∨ tag = "InvalidSlope") ∧ f = some "given") ∨ (tag = "InvalidDigits" ∧ f = some "index") ∨ (tag = "InvalidSaying" ∧ f = some "number") ∨ ((tag = "FieldsDiffer" ∨ tag = "InvalidText") ∧ f = none) ∨ (tag = "InvalidRow" ∧ f = some "name")
/-- what is known of an error of the class C with the own dict at d: its tag, and the value u of its field -/
structure Tells (K : PySem.W.Frag) (H : Hp) (C d : Addr) (fs : List (Str × V)) (tag : Str) (u : V) : Prop where
  at_ : H d = some (.xd fs)
  tag_ : fs.lookup ("tag" : Str) = some (V.str tag)
  noT : PySem.W.findIn K (.ref C) "tag" = some none
  fld : ∃ f, Kd tag f ∧ (f = none → u = .non) ∧ ∀ g, f = some g → fs.lookup g = some u ∧ PySem.W.findIn K (.ref C) g = some none
def spErr (K : PySem.W.Frag) : Addr × Obj → List V → Hp → VK → Prop := fun p vs H Q => vs = [V.ref p.1] ∧ ∃ C d fs tag u, ErrP K H p C d fs ∧ Tells K H C d fs tag u ∧ ∀ H', (∀ b o, H b = some o → H' b = some o) → Q u H'
def spPlaceE (K : PySem.W.Frag) : Addr × Obj → List V → Hp → VK → Prop := fun p vs H Q => vs = [V.ref p.1] ∧ ∃ C d fs tag u, ErrP K H p C d fs ∧ Tells K H C d fs tag u ∧ (tag = "InvalidDigits" ∨ tag = "InvalidSaying") ∧ Q u H
theorem kd_digits {f : Option Str} (h : Kd "InvalidDigits" f) : f = some "index" := by
  rcases h with ⟨h | h | h, _⟩ | ⟨_, h⟩ | ⟨h, _⟩ | ⟨h | h, _⟩ | ⟨h, _⟩
  all_goals first | exact h | exact absurd h (by decide)
theorem kd_saying {f : Option Str} (h : Kd "InvalidSaying" f) : f = some "number" := by
  rcases h with ⟨h | h | h, _⟩ | ⟨h, _⟩ | ⟨_, h⟩ | ⟨h | h, _⟩ | ⟨h, _⟩
  all_goals first | exact h | exact absurd h (by decide)
theorem Tells.same {K : PySem.W.Frag} {H H' : Hp} {C d : Addr} {fs : List (Str × V)} {tag : Str} {u : V} (T : Tells K H C d fs tag u) (s : ∀ b o, H b = some o → H' b = some o) : Tells K H' C d fs tag u := ⟨s _ _ T.at_, T.tag_, T.noT, T.fld⟩
theorem ErrP.same {K : PySem.W.Frag} {H H' : Hp} {p : Addr × Obj} {C d : Addr} {fs : List (Str × V)} (e : ErrP K H p C d fs) (s : ∀ b o, H b = some o → H' b = some o) : ErrP K H' p C d fs := ⟨e.cls, e.dict, e.data, e.ec, s _ _ e.at_⟩
theorem inV_str (x : Str) (ys : List Str) : inV (.str x) (ys.map V.str) = decide (x ∈ ys) := by
  unfold inV
  rw [List.any_map]
  induction ys with
  | nil => simp
  | cons y ys ih =>
    rw [List.any_cons, ih]
    by_cases h : y = x
    · subst h
      simp [eqV]
    · simp [eqV, h, Ne.symm h]
theorem flat_strs (ys : List Str) : (ys.map V.str).all flatV = true := by
  induction ys with
  | nil => rfl
  | cons y ys ih => simpa [flatV] using ih
def L1 : List Str := ["InvalidRoot", "InvalidNumber", "InvalidSlope", "InvalidLimit"]
def L2' : List Str := ["TooMany", "CapacityExceeded"]
def L3 : List Str := ["InvalidDigits", "InvalidSaying", "InvalidCommand", "ParseError"]
def L4 : List Str := ["InvalidText", "FieldsDiffer", "NotSingle", "Endless", "NoTurn", "NothingLeft"]
theorem kd1 {tag : Str} {f : Option Str} (h : Kd tag f) (m : tag ∈ L1) : f = some "given" := by
  rcases h with ⟨_, h⟩ | ⟨rfl, _⟩ | ⟨rfl, _⟩ | ⟨rfl | rfl, _⟩ | ⟨rfl, _⟩
  all_goals first | exact h | exact absurd m (by decide +kernel)
theorem kd2 {tag : Str} {f : Option Str} (h : Kd tag f) : ¬ tag ∈ L2' := by
  rcases h with ⟨rfl | rfl | rfl, _⟩ | ⟨rfl, _⟩ | ⟨rfl, _⟩ | ⟨rfl | rfl, _⟩ | ⟨rfl, _⟩
  all_goals decide +kernel
theorem kd3 {tag : Str} {f : Option Str} (h : Kd tag f) (m : tag ∈ L3) : tag = "InvalidDigits" ∨ tag = "InvalidSaying" := by
  rcases h with ⟨rfl | rfl | rfl, _⟩ | ⟨rfl, _⟩ | ⟨rfl, _⟩ | ⟨rfl | rfl, _⟩ | ⟨rfl, _⟩
  all_goals first | exact .inl rfl | exact .inr rfl | exact absurd m (by decide +kernel)
theorem kd4 {tag : Str} {f : Option Str} (h : Kd tag f) (m : tag ∈ L4) : f = none := by
  rcases h with ⟨rfl | rfl | rfl, _⟩ | ⟨rfl, _⟩ | ⟨rfl, _⟩ | ⟨_, h⟩ | ⟨rfl, _⟩
  all_goals first | exact h | exact absurd m (by decide +kernel)
theorem kd5 {tag : Str} {f : Option Str} (h : Kd tag f) (m1 : ¬ tag ∈ L1) (m3 : ¬ tag ∈ L3) (m4 : ¬ tag ∈ L4) : f = some "name" := by
  rcases h with ⟨rfl | rfl | rfl, _⟩ | ⟨rfl, _⟩ | ⟨rfl, _⟩ | ⟨rfl | rfl, _⟩ | ⟨_, h⟩
  all_goals first | exact h | exact absurd (by decide +kernel) m1 | exact absurd (by decide +kernel) m3 | exact absurd (by decide +kernel) m4
end EX

namespace RF
open PySem L2 PyProof.Rows EX
open L2H (RoomH PinOk cxH)
section
variable {P : Program} {w : World} {K : PySem.W.Frag} {mg : Str → Option Value} {base : Heap}
abbrev n_law_place : List Str := ["_law_one"]
theorem sc_law_place : FnScope n_law_place ["_law_one"] (defScope (top 24)) := ⟨rfl, rfl, rfl, by decide +kernel, rfl, by decide +kernel, by decide +kernel⟩
theorem ok_lplace {f : Addr} {fd : FuncData} {k : Nat} (F : Fun K "_law_place" "_law_place" (top 24) f fd) : FnS P w K mg base (k + 1) f fd ["_law_one"] (spPlaceE K) := by
  obtain ⟨oc, od, kV, doc, pm, an, cdv, ct, osl, rfl, lk, hcd⟩ := F.ex
  refine fnS lk hcd sc_law_place (fun p vs H Q h => by obtain ⟨rfl, _⟩ := h; rfl) fun A outer s H vs Q p hr h => ?_
  obtain ⟨rfl, C, d, fs, tag, u, EP, T, ht, q⟩ := h
  have hp : p ∈ [p] := List.mem_singleton.mpr rfl
  obtain ⟨fo, hk, h0, h1⟩ := T.fld
  refine ⟨_, (pss_cons (ps_if (pt_cmpR op_eq (pe_xf (p := p) hp (pv 0)) pe_str (nomark _))
      (pss_one (ps_ret (pe_xf (p := p) hp (pv 0))))
      pss_nil)
      (pss_cons (ps_if (pt_cmpR op_eq (pe_xf (p := p) hp (pv 0)) pe_str (nomark _))
      (pss_one (ps_ret (pe_xf (p := p) hp (pv 0))))
      pss_nil)
      (pss_one (ps_ret (pe_ifExp (pt_cmpR op_eq (pe_xf (p := p) hp (pv 0)) pe_str (nomark _)) (pe_xf (p := p) hp (pv 0)) (pe_xf (p := p) hp (pv 0))))))), ?_⟩
  refine ⟨_, rfl, rfl, C, d, fs, _, EP, T.noT, T.tag_, rfl, _, rfl, ?_⟩
  rcases ht with rfl | rfl
  · obtain ⟨e1, e2⟩ := h1 _ (kd_digits hk)
    exact iteP (by decide) ⟨_, rfl, rfl, C, d, fs, _, EP, e2, e1, q⟩
  · obtain ⟨e1, e2⟩ := h1 _ (kd_saying hk)
    exact iteN (by decide) ⟨_, rfl, rfl, C, d, fs, _, EP, T.noT, T.tag_, rfl, _, rfl, iteP (by decide) ⟨_, rfl, rfl, C, d, fs, _, EP, e2, e1, q⟩⟩
abbrev n_law_field : List Str := ["_law_one", "_law_bare"]
theorem sc_law_field : FnScope n_law_field ["_law_one"] (defScope (top 23)) := ⟨rfl, rfl, rfl, by decide +kernel, rfl, by decide +kernel, by decide +kernel⟩
theorem ok_lfield {f g : Addr} {fd gd : FuncData} {k : Nat} (F : Fun K "_law_field" "_law_field" (top 23) f fd) (G : FnS P w K mg base k g gd ["_law_one"] (spPlaceE K)) (mG : mg "_law_place" = some (.ref g)) (kG : PySem.W.keepIn K (.ref g) = true) (bG : Binds K gd ["_law_one"] []) :
    FnS P w K mg base (k + 1) f fd ["_law_one"] (spErr K) := by
  obtain ⟨oc, od, kV, doc, pm, an, cdv, ct, osl, rfl, lk, hcd⟩ := F.ex
  refine fnS lk hcd sc_law_field (fun p vs H Q h => by obtain ⟨rfl, _⟩ := h; rfl) fun A outer s H vs Q p hr h => ?_
  obtain ⟨rfl, C, d, fs, tag, u, EP, T, q⟩ := h
  have nd := sc_law_field.nd
  have hp : p ∈ [p] := List.mem_singleton.mpr rfl
  obtain ⟨fo, hk, h0, h1⟩ := T.fld
  refine ⟨_, (pss_cons (ps_if (pt_cmpR op_in_seq (pe_xf (p := p) hp (pv 0)) (pe_tup (pa_cons pe_str (pa_cons pe_str (pa_cons pe_str (pa_cons pe_str pa_nil))))) rfl)
      (pss_one (ps_ret (pe_xf (p := p) hp (pv 0))))
      pss_nil)
      (pss_cons (ps_if (pt_cmpR op_in_seq (pe_xf (p := p) hp (pv 0)) (pe_tup (pa_cons pe_str (pa_cons pe_str pa_nil))) rfl)
      (pss_one (ps_ret (pe_xf (p := p) hp (pv 0))))
      pss_nil)
      (pss_cons (ps_if (pt_cmpR op_in_seq (pe_xf (p := p) hp (pv 0)) (pe_tup (pa_cons pe_str (pa_cons pe_str (pa_cons pe_str (pa_cons pe_str pa_nil))))) rfl)
      (pss_one (ps_ret (pe_callS' (p := p) G hr hp (by rfl) mG kG bG (pa_cons (pv 0) pa_nil))))
      pss_nil)
      (pss_cons (ps_set (i := 1) nd rfl (Or.inl rfl) (pe_tup (pa_cons pe_str (pa_cons pe_str (pa_cons pe_str (pa_cons pe_str (pa_cons pe_str (pa_cons pe_str pa_nil))))))))
      (pss_one (ps_ret (pe_ifExp (pt_cmpR op_in_seq (pe_xf (p := p) hp (pv 0)) (pv 1) rfl) pe_non (pe_xf (p := p) hp (pv 0))))))))), ?_⟩
  have go : ∀ (ys : List Str) (t : Addr) (H' : Hp), H' t = some (.tup (ys.map V.str)) → SqT K H' t (ys.map V.str) := fun ys t H' h => SqT.of h
  refine ⟨_, rfl, rfl, C, d, fs, _, EP, T.noT, T.tag_, by show 4 ≤ sizeLine; decide, fun t1 ht1 => ⟨t1, L1.map V.str, rfl, .inr (go L1 t1 _ upd_same), rfl, flat_strs L1, _, rfl, ?_⟩⟩
  have s1 : Same H (upd H t1 (.tup (L1.map V.str))) := sNew (Same.refl _) ht1
  show (if (if false = true then !inV (.str tag) (L1.map V.str) else inV (.str tag) (L1.map V.str)) = true then _ else _)
  rw [inV_str]
  refine ite2 (fun m1 => ?_) (fun m1 => ?_)
  · obtain ⟨e1, e2⟩ := h1 _ (kd1 hk (of_decide_eq_true m1))
    exact ⟨_, rfl, rfl, C, d, fs, _, EP.same s1, e2, e1, q _ s1⟩
  have m1 : ¬ tag ∈ L1 := fun z => m1 (decide_eq_true z)
  refine ⟨_, rfl, rfl, C, d, fs, _, EP.same s1, T.noT, T.tag_, by show 2 ≤ sizeLine; decide, fun t2 ht2 => ⟨t2, L2'.map V.str, rfl, .inr (go L2' t2 _ upd_same), rfl, flat_strs L2', _, rfl, ?_⟩⟩
  have s2 := sNew (o := .tup (L2'.map V.str)) s1 ht2
  show (if (if false = true then !inV (.str tag) (L2'.map V.str) else inV (.str tag) (L2'.map V.str)) = true then _ else _)
  rw [inV_str]
  refine iteN (nd_of (kd2 hk)) ?_
  refine ⟨_, rfl, rfl, C, d, fs, _, EP.same s2, T.noT, T.tag_, by show 4 ≤ sizeLine; decide, fun t3 ht3 => ⟨t3, L3.map V.str, rfl, .inr (go L3 t3 _ upd_same), rfl, flat_strs L3, _, rfl, ?_⟩⟩
  have s3 := sNew (o := .tup (L3.map V.str)) s2 ht3
  show (if (if false = true then !inV (.str tag) (L3.map V.str) else inV (.str tag) (L3.map V.str)) = true then _ else _)
  rw [inV_str]
  refine ite2 (fun m3 => ?_) (fun m3 => ?_)
  · exact ⟨_, rfl, rfl, C, d, fs, tag, u, EP.same s3, T.same s3, kd3 hk (of_decide_eq_true m3), q _ s3⟩
  have m3 : ¬ tag ∈ L3 := fun z => m3 (decide_eq_true z)
  refine ⟨by show 6 ≤ sizeLine; decide, fun t4 ht4 => ?_⟩
  have s4 : Same H (upd _ t4 (.tup (L4.map V.str))) := sNew s3 ht4
  refine ⟨_, rfl, rfl, C, d, fs, _, EP.same s4, T.noT, T.tag_, _, rfl, t4, L4.map V.str, rfl, .inr (go L4 t4 _ upd_same), rfl, flat_strs L4, _, rfl, ?_⟩
  show (if (if false = true then !inV (.str tag) (L4.map V.str) else inV (.str tag) (L4.map V.str)) = true then _ else _)
  rw [inV_str]
  refine ite2 (fun m4 => ?_) (fun m4 => ?_)
  · have := h0 (kd4 hk (of_decide_eq_true m4))
    subst this
    exact q _ s4
  · obtain ⟨e1, e2⟩ := h1 _ (kd5 hk m1 m3 fun z => m4 (decide_eq_true z))
    exact ⟨_, rfl, rfl, C, d, fs, _, EP.same s4, e2, e1, q _ s4⟩
/-- what _law_why makes of what it calls: an error's tag and field, or nothing -/
def TWhy (K : PySem.W.Frag) (c1 c2 c3 : Addr) : (XK → Hp → VK → Prop) → Hp → VK → Prop := fun tl H Q =>
  tl (fun cls d H' => ∃ C dd fs tag u, cls = .ref C ∧ d = some dd ∧ PySem.W.exmAny K (.ref C) [.ref c1, .ref c2, .ref c3] = some true ∧ ECls K C ∧ Tells K H' C dd fs tag u ∧ ∀ H2 t, Same H' H2 → H2 t = none → Q (.ref t) (upd H2 t (.tup [.str tag, u])))
    H (fun _ H' => ([V.str "", .non]).length ≤ sizeLine ∧ ∀ t, H' t = none → Q (.ref t) (upd H' t (.tup [.str "", .non])))
abbrev n_law_why : List Str := ["_law_ask", "e"]
theorem sc_law_why : FnScope n_law_why ["_law_ask"] (defScope (top 25)) := ⟨rfl, rfl, rfl, by decide +kernel, rfl, by decide +kernel, by decide +kernel⟩
/-- a wish that knows the number of slots -/
theorem takes_len {X : Cx} {W : WX} (tk : Takes X W) : Takes X (fun cls d σ H => σ.length = X.N.length → W cls d σ H) := fun u s' ⟨a, B, sI, pins, σ, H, cls, d, e, I, nb, up, sky, na, os, ag, z⟩ => tk u s' ⟨a, B, sI, pins, σ, H, cls, d, e, I, nb, up, sky, na, os, ag, z I.len⟩
theorem why_gives {X : Cx} {k : Nat} {g gf : Addr} {cdg : Value} {fdf : FuncData} {q : Str} {c1 c2 c3 : Addr} (hr : Room (k + 1) X.A) (m1 : X.mg "RootError" = some (.ref c1)) (m2 : X.mg "Missing" = some (.ref c2)) (m3 : X.mg "NothingLeft" = some (.ref c3))
    (G : FnS X.prog X.w X.K X.mg X.base k gf fdf ["_law_one"] (spErr X.K)) (mG : X.mg "_law_field" = some (.ref gf)) (kG : PySem.W.keepIn X.K (.ref gf) = true) (bG : Binds X.K fdf ["_law_one"] []) :
    LamX.GivesTo X n_law_why "_law_why" (defScope (top 25)) g cdg (defBody (top 25)) "_law_ask" q (TWhy X.K c1 c2 c3) := by
  intro f c' s H Q tl act hc h
  have nd := sc_law_why.nd
  have hr2 : L2H.RoomH k (X.A.deeper (envOfC "_law_why" (defScope (top 25)) s.heap.objs.size g cdg)) := L2H.roomH_of (hr.deeper _)
  refine ⟨_, pss_cons (ps_try_tup (X := (cxOf C8.CX0 X.prog X.w X.K X.mg X.base n_law_why "_law_why" (defScope (top 25)) g cdg X.A X.stack s H C8.E0).nox) (c1 := c1) (c2 := c2) (c3 := c3) (i := 1)
      (tb := fun W D σ H => ∃ Ech : XK, (∀ cls d σ' H', Ech cls d H' → σ'.length = 2 → W cls d σ' H') ∧ σ[0]? = some (some (.ref f)) ∧ H c' = some (LamX.CodeO c' q) ∧ tl Ech H (fun _ H' => D.nx σ H'))
      (ts := fun a cls d D σ H => ∃ C dd fs tag u, cls = .ref C ∧ d = some dd ∧ ECls X.K C ∧ Tells X.K H C dd fs tag u ∧ σ[1]? = some (some (.ref a)) ∧ ∀ H2 t, Same H H2 → H2 t = none → D.rt (.ref t) (upd H2 t (.tup [.str tag, u])))
      rfl rfl nd rfl rfl ⟨by rfl, m1, by decide⟩ ⟨by rfl, m2, by decide⟩ ⟨by rfl, m3, by decide⟩ rfl (fun W pn xe tk => ?_) (fun a oe cls d pn hz hf => ?_))
    (pss_one (ps_ret (pe_tup (pa_cons pe_str (pa_cons pe_non pa_nil))))), ?_⟩
  · refine ⟨fun pins s' σ H' D I hh => ?_⟩
    obtain ⟨Ech, hW, h1, h2, h3⟩ := hh
    have hp := act (fun cls d σ H => σ.length = 2 → W cls d σ H) pn xe Ech ?p1 ?p2 (takes_len tk) hW
    have hq := pss_one (ps_expr (pos := ?p3) hp)
    exact hq.run pins s' σ H' D I ⟨h1, h2, h3⟩
  · refine ⟨fun pins s' σ H' D I hh => ?_⟩
    obtain ⟨C, dd, fs, tag, u, rfl, rfl, ec, T, h1, hq⟩ := hh
    have EP : ErrP X.K H' (a, oe) C dd fs := ⟨hz.1, hz.2, hf, ec, T.at_⟩
    have hs := pss_one (X := ((cxOf C8.CX0 X.prog X.w X.K X.mg X.base n_law_why "_law_why" (defScope (top 25)) g cdg X.A X.stack s H C8.E0).nox).suite a ((a, oe) :: pn)) (ps_ret (pos := ?q1) (pe_tup (pos := ?q2) (x1 := 0) (pa_cons (pe_xf (p := (a, oe)) (f := "tag") (pos := ?q3) List.mem_cons_self (pe_var (x := "e") (pos := ?q4) (i := 1) rfl (.inl rfl))) (pa_cons (pe_callS' (x := "_law_field") (q := ?q5) (pos := ?q6) (p := (a, oe)) G ⟨hr2.dp, hr2.un⟩ List.mem_cons_self (by rfl) mG kG bG (pa_cons (pe_var (x := "e") (pos := ?q7) (i := 1) rfl (.inl rfl)) pa_nil)) pa_nil))))
    refine hs.run pins s' σ H' D I ?_
    refine ⟨.ref a, h1, rfl, C, dd, fs, _, EP, T.noT, T.tag_, .ref a, h1, rfl, C, dd, fs, tag, u, EP, T, fun H2 sm => ⟨by show 2 ≤ sizeLine; decide, fun t ht => hq H2 t sm ht⟩⟩
  · refine ⟨_, fun cls d σ' H' hE hlen => ?_, rfl, hc, h⟩
    obtain ⟨C, dd, fs, tag, u, rfl, rfl, ex, ec, T, hq⟩ := hE
    exact ⟨ex, fun a na => ⟨C, dd, fs, tag, u, rfl, rfl, ec, T, List.getElem?_set_self (by omega), hq⟩⟩
end
end RF

set_option linter.all false
/-! x != y and x == y of two instances of an own class with an __eq__ of its own and object's __ne__ -/
namespace RF
open PySem PySem.Spec PySem.Calls PyProof.Rows L2
section
variable {prog : Program} {w : World} {M : Model} {A : Around} {E : Value → Shared → Prop} {s : Shared} {K : PySem.W.Frag} {x C f L : Addr} {ox : Obj} {od : Option Obj}
theorem bound_B {name : Str} {id : String} {args : List Value} {Q : Option Value → Shared → Prop} (X : K.In s.heap) (I : PySem.W.InstAt s.heap x ox C od) (hs : PySem.W.findIn K (.ref C) name = some (some (.builtin id))) (hb : ∀ self, bindSpecial (.builtin id) self = pure (.builtin id, [self]))
    (h : wpAny M A (call (.builtin id) (.ref x :: args)) (fun v => Q (some v)) E s) : wpAny M A (callSpecialIfBound? (.ref x) name args) Q E s := by
  have go : wpAny M A (do let v ← call (.builtin id) ([.ref x] ++ args); pure (some v)) Q E s := wpAny_bind (wpAny_mono h (fun _ _ z => wpAny_pure z) fun _ _ z => z)
  unfold callSpecialIfBound? bindSpecialIfBound?
  refine wpAny_holding (wpAny_bind (wpAny_bind (wpAny_bind (I.type.here ((PySem.W.looks_findIn X hs).here (wpAny_bind (wpAny_askSetting (wpAny_ite ?_))))))))
  rw [hb]
  split
  · exact wpAny_bind (wpAny_pure (wpAny_pure (by exact go)))
  · exact wpAny_tryCatch (wpAny_bind (wpAny_pure (wpAny_pure (by exact go))))
open Builtin in
theorem call_ne {b : Value} {Q : Value → Shared → Prop} (hu : A.in1.units < cLine) (X : K.In s.heap) (I : PySem.W.InstAt s.heap x ox C od) (hm : PySem.W.mroIn K C (.type "object") = some true) (he : PySem.W.findIn K (.ref C) "__eq__" = some (some (.ref f))) (hf : PySem.W.isFn K (.ref f) = true)
    (h : wpAny (model prog w) A.in1 (call (.ref f) [.ref x, b]) (fun v s' => ∃ r, v = .bool r ∧ Q (.bool (!r)) s') E s) : wpAny (model prog w) A (call (.builtin "object.__ne__") [.ref x, b]) Q E s := by
  refine wpAny_call (codeAny_call_builtin PySem.F.slot_object_ne.plain PySem.F.entry_object_ne (PySem.W.check_slot (i := "object.__ne__") (owner := "object") (n := "__ne__") (by decide +kernel) (by decide +kernel) (I.type.andThen (PySem.W.looks_mroIn X hm)) (PySem.F.args_object_ne_2 _ _) ?_))
  unfold Builtin.«object.__ne__»
  refine wpAny_bind (m := slotArgs "__ne__" 1 _) (wpAny_pure ?_)
  refine wpAny_bind (m := cRoomFor _ _) (wpAny_cRoomFor hu ?_)
  refine wpAny_bind (m := callSpecialIfBound? (.ref x) "__eq__" _) (PySem.W.ifBound_K X I he hf (wpAny_mono h (fun v s' z => ?_) fun _ _ z => z))
  obtain ⟨r, rfl, q⟩ := z
  exact wpAny_bind (wpAny_pure (wpAny_pure q))
/-- x != b, x's class with object's own __ne__ -/
theorem ne_own {h₀ : Heap} {m : Str → Option Value} {b tb : Value} {Q : Value → Shared → Prop} (hu : A.units < cLine) (hu1 : A.in1.units < cLine) (F : Fr h₀ L s.heap m) (X₀ : K.In h₀) (I : PySem.W.InstAt s.heap x ox C od) (hb : PySem.W.Looks (model prog w) s.heap (typeOf b) tb) (hn : PySem.W.notFirst K C tb = true)
    (hs : PySem.W.findIn K (.ref C) "__ne__" = some (some (.builtin "object.__ne__"))) (hm : PySem.W.mroIn K C (.type "object") = some true) (he : PySem.W.findIn K (.ref C) "__eq__" = some (some (.ref f))) (hf : PySem.W.isFn K (.ref f) = true)
    (h : wpAny (model prog w) A.in1 (call (.ref f) [.ref x, b]) (fun v s' => ∃ r, v = .bool r ∧ Q (.bool (!r)) s') E s) : wpAny (model prog w) A (richCompare .NotEq (.ref x) b) Q E s := by
  have X := X₀.keeps F.keep
  have t1 : wpAny (model prog w) A (tryCompare (.ref x) (cmpInfo .NotEq).2.1 b) (fun r s' => ∃ k, r = some (.bool k) ∧ Q (.bool k) s') E s := by
    unfold tryCompare
    exact wpAny_bind (bound_B X I hs PySem.F.slot_object_ne.bind (call_ne (Q := fun v s' => wpAny (model prog w) A _ _ E s') hu1 X I hm he hf (wpAny_mono h (fun v s' ⟨r, e, q⟩ => ⟨r, e, wpAny_pure ⟨_, rfl, q⟩⟩) fun _ _ z => z)))
  have e : tb = .ref C ∨ PySem.W.subIn K tb (.ref C) = some false := (Bool.or_eq_true_iff.mp hn).imp (fun z => beq_iff_eq.mp z) fun z => beq_iff_eq.mp z
  unfold richCompare
  simp only [oneThing_ref]
  refine wpAny_holding (wpAny_bind (wpAny_cRoomFor hu (wpAny_bind (I.type.here (wpAny_bind (hb.here ?_))))))
  split
  · rename_i q
    refine wpAny_bind ((PySem.W.looks_subIn X (e.resolve_left fun z => by rw [z] at q; simp at q)).here ?_)
    rw [if_neg (by decide)]
    refine wpAny_bind (wpAny_mono t1 (fun r s' ⟨k, er, z⟩ => ?_) fun _ _ z => z)
    subst er
    exact wpAny_pure z
  · refine wpAny_bind (wpAny_pure ?_)
    rw [if_neg (by decide)]
    refine wpAny_bind (wpAny_mono t1 (fun r s' ⟨k, er, z⟩ => ?_) fun _ _ z => z)
    subst er
    exact wpAny_pure z
end
end RF

set_option linter.all false
/-! x == y, x != y of two instances of an own class by its __eq__, whatever it answers -/
namespace RF
open PySem PySem.Spec PySem.Calls PyProof.Rows L2
section
variable {X : Cx} {CX : CXT} {n : Nat} {C f : Addr} {fd : FuncData} {ps : List Str} {sp : Sp} {E : XK}
theorem own_at {A : Around} {pins : List (Addr × Obj)} {s : Shared} {σ : L2.St} {H : Hp} {Q : VK} {vs : List V} {us : List Value} (F : FnOk X.prog X.w X.K X.mg X.base CX n f fd ps sp) (sb : Sub X n A) (hb : Binds X.K fd ps []) (hx : Passes CX X E) (I : Inv X pins σ H s) (r : Vals vs us) (h : sp vs H Q E) :
    wpAny (model X.prog X.w) A (call (.ref f) us) (EP X pins σ Q) X.xe s := by
  have e0 : Env0 X.prog X.w X.K X.mg X.base A X.stack s H := let e := I.env0; ⟨by rw [sb.fr]; exact e.frames, e.mod, e.bs, e.bsz, e.funs, e.frf, e.hok, e.bare⟩
  have bnd := hb s us I.kIn (by rw [List.append_nil]; first | exact r.length.symm.trans (F.len _ _ _ _ h) | exact r.length.trans (F.len _ _ _ _ h))
  rw [List.append_nil] at bnd
  refine wpAny_call (codeAny_mono (F.run A X.stack s H ⟨us, []⟩ us vs Q E sb.room e0 bnd r h) fun o s' z => ?_)
  match o, z with
  | .error e, z => exact hx pins σ H s e s' I z
  | .ok (.ret w), z =>
    obtain ⟨v, H', I', rv, q⟩ := I.after z
    exact ⟨v, H', I', rv, q⟩
  | .ok .next, z => exact z.elim
  | .ok .brk, z => exact z.elim
  | .ok .cont, z => exact z.elim
/-- the two are instances of C, its __eq__ promises sp; its answer, turned round when neg -/
def rOwnE (C : Addr) (sp : Sp) (E : XK) (neg : Bool) : R2 := fun x y H Q => ∃ a b dx dy fs gs, x = .ref a ∧ y = .ref b ∧ H a = some (.ins C dx fs) ∧ H b = some (.ins C dy gs) ∧ sp [.ref a, .ref b] H (fun v H' => ∃ r : Bool, v = .bl r ∧ Q (.bl (r ^^ neg)) H') E
structure OwnEq (K : PySem.W.Frag) (C f : Addr) : Prop where
  at_ : PySem.W.findIn K (.ref C) "__eq__" = some (some (.ref f))
  fn : PySem.W.isFn K (.ref f) = true
  ne : PySem.W.findIn K (.ref C) "__ne__" = some (some (.builtin "object.__ne__"))
  mro : PySem.W.mroIn K C (.type "object") = some true
theorem op_eqOwn (F : FnOk X.prog X.w X.K X.mg X.base CX n f fd ps sp) (hr : Room n X.A) (O : OwnEq X.K C f) (hb : Binds X.K fd ps []) (hx : Passes CX X E) : OpR X (compareOp .Eq) (rOwnE C sp E false) := by
  intro pins s σ H x y v u Q I rx ry h
  obtain ⟨a, b, dx, dy, fs, gs, rfl, rfl, ha, hb', q⟩ := h
  cases rx; cases ry
  obtain ⟨mA, J, _⟩ := ins_get I.hok ha
  obtain ⟨mB, J', _⟩ := ins_get I.hok hb'
  obtain ⟨od, J, _⟩ := J.look
  obtain ⟨od', J', _⟩ := J'.look
  obtain ⟨m, hF⟩ := I.fr
  show wpAny (model X.prog X.w) X.A (richCompare .Eq (.ref a) (.ref b)) _ _ s
  refine PySem.W.cmp_K (op := .Eq) (tb := .ref C) hr.units0 hF I.ok.mod.kin J J'.type (by simp [PySem.W.notFirst]) O.at_ O.fn (wpAny_mono (own_at F ⟨hr, rfl⟩ hb hx I (show Vals [V.ref a, V.ref b] [Value.ref a, Value.ref b] from .cons rfl (.cons rfl .nil)) q) (fun z s' e => ?_) fun _ _ z => z)
  obtain ⟨v, H', I', rv, r, rfl, q'⟩ := e
  cases rv
  rw [Bool.xor_false] at q'
  exact ⟨.bl r, H', I', rfl, q'⟩
theorem op_neOwn (F : FnOk X.prog X.w X.K X.mg X.base CX n f fd ps sp) (hr : Room (n + 1) X.A) (O : OwnEq X.K C f) (hb : Binds X.K fd ps []) (hx : Passes CX X E) : OpR X (compareOp .NotEq) (rOwnE C sp E true) := by
  intro pins s σ H x y v u Q I rx ry h
  obtain ⟨a, b, dx, dy, fs, gs, rfl, rfl, ha, hb', q⟩ := h
  cases rx; cases ry
  obtain ⟨mA, J, _⟩ := ins_get I.hok ha
  obtain ⟨mB, J', _⟩ := ins_get I.hok hb'
  obtain ⟨od, J, _⟩ := J.look
  obtain ⟨od', J', _⟩ := J'.look
  obtain ⟨m, hF⟩ := I.fr
  show wpAny (model X.prog X.w) X.A (richCompare .NotEq (.ref a) (.ref b)) _ _ s
  refine ne_own (tb := .ref C) hr.units0 hr.in1.units0 hF I.ok.mod.kin J J'.type (by simp [PySem.W.notFirst]) O.ne O.mro O.at_ O.fn (wpAny_mono (own_at F (Sub.in1 ⟨hr, rfl⟩) hb hx I (show Vals [V.ref a, V.ref b] [Value.ref a, Value.ref b] from .cons rfl (.cons rfl .nil)) q) (fun z s' e => ?_) fun _ _ z => z)
  obtain ⟨v, H', I', rv, r, rfl, q'⟩ := e
  cases rv
  rw [Bool.xor_true] at q'
  exact ⟨r, rfl, .bl (!r), H', I', rfl, q'⟩
end
end RF

set_option linter.all false
/-! repr of an instance of an own class with a __repr__ of its own -/
namespace RF
open PySem PySem.Spec PySem.Calls PyProof.Rows L2
section
variable {X : Cx} {CX : CXT} {n : Nat} {C f : Addr} {fd : FuncData} {ps : List Str} {sp : Sp} {E : XK}
def rReprOwn (C : Addr) (sp : Sp) (E : XK) : List V → Hp → VK → Prop := fun xs H Q => ∃ a dx fs, xs = [.ref a] ∧ H a = some (.ins C dx fs) ∧ sp [.ref a] H (fun v H' => ∃ t, v = .str t ∧ Q (.str t) H') E
open Builtin in
theorem cr_reprOwn (F : FnOk X.prog X.w X.K X.mg X.base CX n f fd ps sp) (hr : Room (n + 1) X.A) (hat : PySem.W.findIn X.K (.ref C) "__repr__" = some (some (.ref f))) (hfn : PySem.W.isFn X.K (.ref f) = true) (hb : Binds X.K fd ps []) (hx : Passes CX X E) : CallR X (.builtin "repr") (rReprOwn C sp E) := by
  intro pins s σ H xs us Q I r h
  obtain ⟨a, dx, fs, rfl, ha, q⟩ := h
  cases r with
  | cons r0 r1 =>
  cases r1
  cases r0
  obtain ⟨mA, J, _⟩ := ins_get I.hok ha
  obtain ⟨od, J, _⟩ := J.look
  have kin := I.kIn
  refine PySem.Calls.call_function_entry PySem.F.kind_repr PySem.F.plain_repr PySem.F.entry_repr (PySem.F.args_repr1 _) ?_
  unfold Builtin.«repr»
  refine wpAny_bind (m := oneArg "repr" _) (wpAny_pure ?_)
  refine wpAny_bind (m := cRoomFor _ _) (wpAny_cRoomFor hr.in1.units0 ?_)
  refine wpAny_bind (m := specialOf _ _) (wpAny_bind (J.type.here ((PySem.W.looks_findIn kin hat).here ?_)))
  show wpAny (model X.prog X.w) X.A.in1 (callSpecialIfBound? (.ref a) "__repr__" [] >>= _) _ _ s
  refine wpAny_bind (PySem.W.ifBound_K kin J hat hfn (wpAny_mono (own_at F (Sub.in1 ⟨hr, rfl⟩) hb hx I (show Vals [V.ref a] [Value.ref a] from .cons rfl .nil) q) (fun z s' e => ?_) fun _ _ z => z))
  obtain ⟨v, H', I', rv, t, rfl, q'⟩ := e
  obtain ⟨tk, rfl⟩ := rv
  refine wpAny_bind (wpAny_isInstance (T := "str") (b := true) (typeIs_str _ _ _) isSubtype_str_str ?_)
  exact wpAny_pure ⟨_, rfl, .str t, H', I', ⟨tk, rfl⟩, q'⟩
end
end RF

namespace RF
open PySem PySem.Spec L2 PyProof.Rows EX
open PySem.Calls PySem.HandSPX
open PySem.W (Frag findIn typeIn keepIn subIn hasDictIn nsIn mroIn clsIn codeIn fnX ksEnv ksFn alongIn)
/-! The facts of own errors' classes at the end of a law, for every law (the row's own text comes as s). -/
/-- what a raise of the class CE with one field leaves -/
def Rsd (CE : Addr) (nm fld : Str) (v : V) (H : Hp) (E : XK) : Prop := ∀ d H', (∀ b o, H b = some o → H' b = some o) → H' d = none → E (.ref CE) (some d) (upd H' d (.xd [(fld, v), ("tag", .str nm)]))
structure OwnE (P : Program) (w : World) (K : Frag) (mg : Str → Option Value) (nm fld : Str) (C : Addr) : Prop where
  ex : ∃ fI, Own P K mg nm C fI ∧ ∀ v, Inits P w K mg C fI [v] (fun u => mF fld nm u v)
  noF : findIn K (.ref C) fld = some none
structure TxtE (nm fld q : Str) (s : Stmt) : Prop where
  body : ∃ msg a1 a2 a3 a4 a5 a6 b1 b2 b3 b4 c1 c2 c3 c4, defBody s = [sSup msg a1 a2 a3 a4 a5 a6, sTag nm b1 b2 b3 b4, sFld fld c1 c2 c3 c4] ∧
    (∀ fI cda cc, Txt q (defScope s) fI cda cc msg nm a1 a2 a3 a4 a5 a6 b1 b2 b3 b4) ∧
    (∀ fI cda cc L, swapsWith (.Name fld c3) (some (.Attribute (.Name "self" c1) fld c2)) c4.line (ksEnv q (defScope s) L fI (.ref cda) cc) = pure false)
  hd : ∃ ar, ((defArgs s).posonlyargs ++ (defArgs s).args).head? = some ar ∧ ar.arg = "self"
  fs : (fld == ("self" : Str)) = false
  fd : (fld == ("__debug__" : Str)) = false
  loc : (defScope s).names.lookup fld = some .local
  bind : ∀ (doc pm ct : Value) (an : Option Addr) (cda cc : Addr) (st : Shared) (x : Addr) (v : Value), BindsTo st (ksFn "__init__" q (defArgs s) (defBody s) (defScope s) .none .none doc pm an (.ref cda) ct cc) ⟨[.ref x, v], []⟩ [("self", .ref x), (fld, v)]
theorem ownE {P : Program} {w : World} {K : Frag} {mg : Str → Option Value} {nm fld q : Str} {C fI cda cc : Addr} {s : Stmt} {oc doc pm ct : Value} {od an : Option Addr} {osl : Array (Option Value)} (O : Own P K mg nm C fI) (nF : findIn K (.ref C) fld = some none)
    (lI : K.lookup fI = some ⟨oc, od, .func (ksFn "__init__" q (defArgs s) (defBody s) (defScope s) .none .none doc pm an (.ref cda) ct cc), osl⟩) (hcd : codeIn K (.ref cda) q = true)
    (code : ∃ ccl cdd vs ccs file tf, K.lookup cda = some ⟨ccl, cdd, .fields vs, ccs⟩ ∧ vs[2]? = some (.str file tf) ∧ ((P.main.file : Str) == file) = true) (cell : ∃ cl cld csl, K.lookup cc = some ⟨cl, cld, .cell (some (.ref C)), csl⟩) (T : TxtE nm fld q s) : OwnE P w K mg nm fld C := by
  obtain ⟨msg, a1, a2, a3, a4, a5, a6, b1, b2, b3, b4, c1, c2, c3, c4, e, hT, sw⟩ := T.body
  obtain ⟨ar, hp, har⟩ := T.hd
  have I : IFn P K C fI cda cc (ksFn "__init__" q (defArgs s) (defBody s) (defScope s) .none .none doc pm an (.ref cda) ct cc) := ⟨⟨oc, od, osl, lI⟩, code, cell⟩
  have hb := T.bind doc pm ct an cda cc
  rw [e] at I hb
  exact ⟨⟨fI, O, fun v A R s x t0 mb X hlim hnx hg hb1 hmb hx hxC hroom k => init1 O nF I (hT fI cda cc) hcd hp har (hb s x v) T.loc T.fs T.fd (sw fI cda cc) X hlim hnx hg hb1 hmb hx hxC hroom k⟩, nF⟩
/-- the same of a class whose __init__ takes nothing but self -/
structure OwnT (P : Program) (w : World) (K : Frag) (mg : Str → Option Value) (nm : Str) (C : Addr) : Prop where
  ex : ∃ fI, Own P K mg nm C fI ∧ Inits P w K mg C fI [] (mT nm)
structure TxtT (nm q : Str) (s : Stmt) : Prop where
  body : ∃ msg a1 a2 a3 a4 a5 a6 b1 b2 b3 b4, defBody s = [sSup msg a1 a2 a3 a4 a5 a6, sTag nm b1 b2 b3 b4] ∧ (∀ fI cda cc, Txt q (defScope s) fI cda cc msg nm a1 a2 a3 a4 a5 a6 b1 b2 b3 b4)
  hd : ∃ ar, ((defArgs s).posonlyargs ++ (defArgs s).args).head? = some ar ∧ ar.arg = "self"
  bind : ∀ (doc pm ct : Value) (an : Option Addr) (cda cc : Addr) (st : Shared) (x : Addr), BindsTo st (ksFn "__init__" q (defArgs s) (defBody s) (defScope s) .none .none doc pm an (.ref cda) ct cc) ⟨[.ref x], []⟩ [("self", .ref x)]
theorem ownT {P : Program} {w : World} {K : Frag} {mg : Str → Option Value} {nm q : Str} {C fI cda cc : Addr} {s : Stmt} {oc doc pm ct : Value} {od an : Option Addr} {osl : Array (Option Value)} (O : Own P K mg nm C fI)
    (lI : K.lookup fI = some ⟨oc, od, .func (ksFn "__init__" q (defArgs s) (defBody s) (defScope s) .none .none doc pm an (.ref cda) ct cc), osl⟩) (hcd : codeIn K (.ref cda) q = true)
    (code : ∃ ccl cdd vs ccs file tf, K.lookup cda = some ⟨ccl, cdd, .fields vs, ccs⟩ ∧ vs[2]? = some (.str file tf) ∧ ((P.main.file : Str) == file) = true) (cell : ∃ cl cld csl, K.lookup cc = some ⟨cl, cld, .cell (some (.ref C)), csl⟩) (T : TxtT nm q s) : OwnT P w K mg nm C := by
  obtain ⟨msg, a1, a2, a3, a4, a5, a6, b1, b2, b3, b4, e, hT⟩ := T.body
  obtain ⟨ar, hp, har⟩ := T.hd
  have I : IFn P K C fI cda cc (ksFn "__init__" q (defArgs s) (defBody s) (defScope s) .none .none doc pm an (.ref cda) ct cc) := ⟨⟨oc, od, osl, lI⟩, code, cell⟩
  have hb := T.bind doc pm ct an cda cc
  rw [e] at I hb
  exact ⟨fI, O, fun A R s x t0 mb X hlim hnx hg hb1 hmb hx hxC hroom k => init0 O I (hT fI cda cc) hcd hp har (hb s x) X hlim hnx hg hb1 hmb hx hxC hroom k⟩
/-- the facts of an own error's class over RootError -/
theorem own_of {P : Program} {K : Frag} {mg : Str → Option Value} {nm nm' q nR qR : Str} {C R N NR fI : Addr} {bs bm bsR : List Value} {sn snR : List Str} {sub subR : List Value} {ab abR : Bool} {col colR : Option Bool} {dd ddR : Option Addr} {k0 k1 k2 k3 k5 r0 r1 r2 r3 r5 : Option Value}
    (gC : mg nm = some (.ref C)) (lC : K.lookup C = some (excClassObj nm' q C N bs (.ref R :: bm) true sn sub ab col dd k0 k1 k2 k3 k5 "ValueError.__new__")) (lR : K.lookup R = some (excClassObj nR qR R NR bsR bm true snR subR abR colR ddR r0 r1 r2 r3 r5 "ValueError.__new__")) (vb : refsVE bm = true) (fR : findIn K (.ref R) "__init__" = some (some (.builtin "ValueError.__init__")))
    (sa : findIn K (.ref C) "__setattr__" = some (some (.builtin "object.__setattr__"))) (ga : findIn K (.ref C) "__getattribute__" = some (some (.builtin "BaseException.__getattribute__"))) (gg : findIn K (.ref C) "__getattr__" = some none) (noT : findIn K (.ref C) "tag" = some none)
    (iC : findIn K (.ref C) "__init__" = some (some (.ref fI))) (tC : typeIn K (.ref fI) = some (.type "function")) (kC : keepIn K (.ref C) = true) (exC : subIn K (.ref C) (.type "BaseException") = some true) (tyC : typeIn K (.ref C) = some (.type "type")) (hdC : hasDictIn K C = true) (sf : mroIn K C (.ref C) = some true)
    (noS : mg "super" = none) (opq : nsIn K cStatics "thirdparty.any" = some none) (tp : (P.main.scope.names.lookup ("super" : Str)).isSome = false) : Own P K mg nm C fI := by
  refine ⟨gC, ⟨nm', q, N, bs, _, sn, sub, ab, col, dd, k0, k1, k2, k3, k5, lC, vb, ?_⟩, sa, ga, gg, noT, iC, tC, kC, exC, tyC, hdC, sf, noS, opq, tp⟩
  have e : findIn K (.ref R) "__init__" = alongIn K "__init__" (.ref R :: bm) := by
    show (match K.lookup R with
      | some ⟨_, _, .cls cd, _⟩ => alongIn K "__init__" cd.mro
      | _ => none) = _
    rw [lR] <;> rfl
  rw [← e]
  exact fR
/-- an own error's class against the three of _law_why -/
theorem exm_of {K : Frag} {S C : Addr} {b : Bool} (h1 : subIn K (.ref C) (.type "BaseException") = some true) (h2 : PySem.W.isClsIn K C = true) (h3 : typeIn K (.ref C) = some (.type "type")) (h4 : subIn K (.ref S) (.ref C) = some b) : PySem.W.exmOne K (.ref S) (.ref C) = some b := by
  have e1 : (subIn K (.ref C) (.type "BaseException") == some true) = true := by rw [h1] <;> rfl
  have e2 : ((clsIn K C).isSome && typeIn K (.ref C) == some (.type "type")) = true := by
    have h2' : (clsIn K C).isSome = true := h2
    rw [h2', h3] <;> rfl
  show (if (subIn K (.ref C) (.type "BaseException") == some true) = true then (if ((clsIn K C).isSome && typeIn K (.ref C) == some (.type "type")) = true then subIn K (.ref S) (.ref C) else none) else none) = some b
  rw [if_pos e1, if_pos e2]
  exact h4
theorem exm3 {K : Frag} {S a b c : Value} (h1 : PySem.W.exmOne K S a = some true) (h2 : PySem.W.exmOne K S b = some false) (h3 : PySem.W.exmOne K S c = some false) : PySem.W.exmAny K S [a, b, c] = some true := by
  simp only [PySem.W.exmAny, h1, h2, h3, Bool.or_false, Bool.or_true]
end RF

namespace RF
open PySem L2 PyProof.Rows EX
def spMulS (C : Addr) : Sp := fun vs H Q _ => ∃ (p q : Addr) (d i j k i2 j2 k2 : Int), vs = [.ref p, .ref q] ∧ SV H C p d i j k ∧ SV H C q d i2 j2 k2 ∧ Root d ∧ Bd 100 i ∧ Bd 100 j ∧ Bd 100 k ∧ Bd 100 i2 ∧ Bd 100 j2 ∧ Bd 100 k2 ∧
  ∀ (x : Addr) (H' : Hp), H x = none → SV H' C x d (i * i2 + d * j * j2) (i * j2 + j * i2) (k * k2) → Same H H' → Q (.ref x) H'
def spParts (C : Addr) : Sp := fun vs H Q _ => ∃ (p : Addr) (d i j k : Int), vs = [.ref p] ∧ SV H C p d i j k ∧ ∀ t, H t = some (.tup [.int (pI i j k), .int (pJ i j k), .int (pK i j k)]) → Q (.ref t) H
section
variable {P : Program} {w : World} {K : PySem.W.Frag} {mg : Str → Option Value} {base : Heap}
abbrev n_SMul : List Str := ["self", "other", "i", "j", "k", "i2", "j2", "k2"]
theorem sc_SMul : FnScope n_SMul ["self", "other"] (defScope (sS 10)) := ⟨rfl, rfl, rfl, by decide +kernel, rfl, by decide +kernel, by decide +kernel⟩
theorem ok_SMul {f C : Addr} {fd : FuncData} {k : Nat} (F : Fun K "__mul__" "Surd.__mul__" (sS 10) f fd) (T : TxS K mg C) (J : IsS K mg C) (M : MkS P w K mg base C k) : FnOk P w K mg base CX0 (k + 2) f fd ["self", "other"] (spMulS C) := by
  refine F.ok sc_SMul (fun vs H Q E h => ?_) (fun cdv A outer s H vs Q E hr h => ?_)
  · obtain ⟨p, q, d, i, j, k, i2, j2, k2, rfl, _⟩ := h
    rfl
  · obtain ⟨p, q, d, i, j, k, i2, j2, k2, rfl, ⟨k0, dx, t, hp, ht⟩, ⟨k20, dx2, t2, hp2, ht2⟩, hd, bi, bj, bk, bi2, bj2, bk2, kk⟩ := h
    have nd := sc_SMul.nd
    obtain ⟨fi, fdi, M1, G, kb, _, _⟩ := M.ex
    refine ⟨_, (pss_cons (ps_if (pt_not (pt_val (pe_callB call_isi (by rfl) J.mi (by decide +kernel) (pa_cons (pv 1) (pa_cons (pe_glob (v := .ref C) (by rfl) T.mg rfl) pa_nil)))))
      (pss_one ps_never)
      pss_nil)
      (pss_cons (ps_if (pt_cmpR op_ne (pe_fld (pv 0) rfl) (pe_fld (pv 1) rfl) (nomark _))
      (pss_one ps_never)
      pss_nil)
      (pss_cons (ps_asg (pe_fld (pv 0) rfl) (pg_tup rfl (pgs_cons (pg_name (i := 2) nd rfl (Or.inl rfl)) (pgs_cons (pg_name (i := 3) nd rfl (Or.inl rfl)) (pgs_cons (pg_name (i := 4) nd rfl (Or.inl rfl)) pgs_nil)))))
      (pss_cons (ps_asg (pe_fld (pv 1) rfl) (pg_tup rfl (pgs_cons (pg_name (i := 5) nd rfl (Or.inl rfl)) (pgs_cons (pg_name (i := 6) nd rfl (Or.inl rfl)) (pgs_cons (pg_name (i := 7) nd rfl (Or.inl rfl)) pgs_nil)))))
      (pss_one (ps_ret (pe_makeK M1 G hr rfl T.mg kb pass0 (pa_cons (pe_fld (pv 0) rfl) (pa_cons (pe_op op_add (pe_op op_mulW (pv 2) (pv 5)) (pe_op op_mulW (pe_op op_mulW (pe_fld (pv 0) rfl) (pv 3)) (pv 6))) (pa_cons (pe_op op_add (pe_op op_mulW (pv 2) (pv 6)) (pe_op op_mulW (pv 3) (pv 5))) pa_nil))) (pk_cons (pe_op op_mulW (pv 4) (pv 7)) pk_nil)))))))), ?_⟩
    have ei : Bd 100 (pI i j k) := bi.le (pI_le k0)
    have ej : Bd 100 (pJ i j k) := bj.le (pJ_le k0)
    have ek : Bd 100 (pK i j k) := bk.le (pK_le k0)
    have kp := pK_pos (i := i) (j := j) k0
    have ei2 : Bd 100 (pI i2 j2 k2) := bi2.le (pI_le k20)
    have ej2 : Bd 100 (pJ i2 j2 k2) := bj2.le (pJ_le k20)
    have ek2 : Bd 100 (pK i2 j2 k2) := bk2.le (pK_le k20)
    have kp2 := pK_pos (i := i2) (j := j2) k20
    have bd := rootBd hd
    refine ⟨_, rfl, _, _, _, _, _, rfl, .own C, tyS J T.cl hp2, kitSelf, _, rfl, iteF ?_⟩
    refine ⟨_, rfl, p, C, dx, _, _, rfl, hp, T.cl, T.nR, sfl_root _ _, _, rfl, q, C, dx2, _, _, rfl, hp2, T.cl, T.nR, sfl_root _ _, rfl, _, rfl, iteNS rfl ?_⟩
    refine ⟨_, rfl, p, C, dx, _, _, rfl, hp, T.cl, T.nP, sfl_parts _ _, t, _, rfl, SqT.of ht, rfl, _, _, rfl, _, _, rfl, _, _, rfl, rfl, ?_⟩
    refine ⟨_, rfl, q, C, dx2, _, _, rfl, hp2, T.cl, T.nP, sfl_parts _ _, t2, _, rfl, SqT.of ht2, rfl, _, _, rfl, _, _, rfl, _, _, rfl, rfl, ?_⟩
    refine ⟨_, rfl, p, C, dx, _, _, rfl, hp, T.cl, T.nR, sfl_root _ _, ?_⟩
    refine ⟨_, rfl, _, rfl, _, _, rfl, rfl, mulOk ei ei2 (by decide) (by decide) (by decide), _, rfl, p, C, dx, _, _, rfl, hp, T.cl, T.nR, sfl_root _ _, _, rfl, _, _, rfl, rfl, mulOk bd ej (by decide) (by decide) (by decide), _, rfl, _, _, rfl, rfl, mulOk (bd.mul ej) ej2 (by decide) (by decide) (by decide), _, _, rfl, rfl, ?_⟩
    refine ⟨_, rfl, _, rfl, _, _, rfl, rfl, mulOk ei ej2 (by decide) (by decide) (by decide), _, rfl, _, rfl, _, _, rfl, rfl, mulOk ej ei2 (by decide) (by decide) (by decide), _, _, rfl, rfl, ?_⟩
    refine ⟨_, rfl, _, rfl, _, _, rfl, rfl, mulOk ek ek2 (by decide) (by decide) (by decide), rfl, rfl, fun x dx3 nx ndx nex => ?_⟩
    refine ⟨x, dx3, d, _, _, _, rfl, upd_same, hd, Int.mul_ne_zero (by omega) (by omega), ((((ei.mul ei2).mono (by decide : 200 ≤ 204)).add ((bd.mul ej).mul ej2)).mono (by decide)), ((ei.mul ej2).add (ej.mul ei2)).mono (by decide), (ek.mul ek2).mono (by decide), fun H' S kp' => ⟨rfl, ?_⟩⟩
    have sm := Same.made nx ndx kp'
    refine kk x H' nx (SV.cong ⟨Int.mul_ne_zero (by omega) (by omega), S⟩ (Int.mul_ne_zero k0 k20) ?_ ?_) sm
    · have a1 := pI_eq (i := i) (j := j) k0
      have a2 := pJ_eq (i := i) (j := j) k0
      have a3 := pK_eq (i := i) (j := j) k0
      have b1 := pI_eq (i := i2) (j := j2) k20
      have b2 := pJ_eq (i := i2) (j := j2) k20
      have b3 := pK_eq (i := i2) (j := j2) k20
      generalize gs i j k = g at *
      generalize pI i j k = X at *
      generalize pJ i j k = Y at *
      generalize pK i j k = Z at *
      generalize gs i2 j2 k2 = g2 at *
      generalize pI i2 j2 k2 = X2 at *
      generalize pJ i2 j2 k2 = Y2 at *
      generalize pK i2 j2 k2 = Z2 at *
      rw [a1, a2, a3, b1, b2, b3]; grind
    · have a1 := pI_eq (i := i) (j := j) k0
      have a2 := pJ_eq (i := i) (j := j) k0
      have a3 := pK_eq (i := i) (j := j) k0
      have b1 := pI_eq (i := i2) (j := j2) k20
      have b2 := pJ_eq (i := i2) (j := j2) k20
      have b3 := pK_eq (i := i2) (j := j2) k20
      generalize gs i j k = g at *
      generalize pI i j k = X at *
      generalize pJ i j k = Y at *
      generalize pK i j k = Z at *
      generalize gs i2 j2 k2 = g2 at *
      generalize pI i2 j2 k2 = X2 at *
      generalize pJ i2 j2 k2 = Y2 at *
      generalize pK i2 j2 k2 = Z2 at *
      rw [a1, a2, a3, b1, b2, b3]; grind
theorem sc_Parts : FnScope ["self"] ["self"] (defScope (sS 3)) := ⟨rfl, rfl, rfl, by decide +kernel, rfl, by decide +kernel, by decide +kernel⟩
theorem ok_Parts {f C : Addr} {fd : FuncData} {k : Nat} (F : Fun K "parts" "Surd.parts" (sS 3) f fd) (T : TxS K mg C) : FnOk P w K mg base CX0 (k + 1) f fd ["self"] (spParts C) := by
  refine F.ok sc_Parts (fun vs H Q E h => ?_) (fun cdv A outer s H vs Q E hr h => ?_)
  · obtain ⟨p, d, i, j, k, rfl, _⟩ := h
    rfl
  · obtain ⟨p, d, i, j, k, rfl, ⟨k0, dx, t, hp, ht⟩, q⟩ := h
    exact ⟨_, (pss_one (ps_ret (pe_fld (pv 0) rfl))), _, rfl, p, C, dx, _, _, rfl, hp, T.cl, T.nP, sfl_parts _ _, q t ht⟩
end
end RF

namespace RF
open PySem L2
/-! ### the bag at b with its cells at c, which stay there -/
def BagAt (H : Hp) (b c : Addr) : Prop := ∃ (ns : List Int) (i : Nat) (z r : Int), BagC H b c ns i z r
theorem Bag.here {H : Hp} {b : Addr} (B : Bag H b) : ∃ c, BagAt H b c := let ⟨c, ns, i, z, r, h⟩ := B; ⟨c, ns, i, z, r, h⟩
theorem BagAt.bag {H : Hp} {b c : Addr} (B : BagAt H b c) : Bag H b := let ⟨ns, i, z, r, h⟩ := B; ⟨c, ns, i, z, r, h⟩
theorem BagAt.atB {H : Hp} {b c : Addr} (B : BagAt H b c) : ∃ xs, H b = some (.lst xs) := B.bag.some
theorem BagAt.atC {H : Hp} {b c : Addr} (B : BagAt H b c) : ∃ xs, H c = some (.lst xs) := let ⟨_, _, _, _, h⟩ := B; ⟨_, h.cs⟩
theorem BagAt.same {H H' : Hp} {b c : Addr} (B : BagAt H b c) (s : Same H H') : BagAt H' b c := by
  obtain ⟨ns, i, z, r, h⟩ := B
  exact ⟨ns, i, z, r, h.ne, s _ _ h.at_, s _ _ h.cs, h.le, h.z0, h.r0, h.r1⟩
theorem BagAt.off {H : Hp} {b c p : Addr} (B : BagAt H b c) (h : H p = none) : p ≠ b ∧ p ≠ c := by
  obtain ⟨xs, hb⟩ := B.atB
  obtain ⟨ys, hc⟩ := B.atC
  exact ⟨(ne_of_none hb h).symm, (ne_of_none hc h).symm⟩
theorem BagAt.put {H : Hp} {b c p : Addr} {o : HO} (B : BagAt H b c) (h : p ≠ b ∧ p ≠ c) : BagAt (upd H p o) b c := by
  obtain ⟨ns, i, z, r, B⟩ := B
  exact ⟨ns, i, z, r, B.ne, by rw [upd_ne h.1.symm]; exact B.at_, by rw [upd_ne h.2.symm]; exact B.cs, B.le, B.z0, B.r0, B.r1⟩
theorem Kp.up {b p : Addr} {H H' : Hp} {o : HO} (k : Kp b H H') (h : H p = none) : Kp b H (L2.upd H' p o) := fun a u n e => by
  rw [upd_ne (ne_of_none e h)]
  exact k a u n e
theorem Kp.new {b p : Addr} {H H' : Hp} {o : HO} (k : Kp b H H') (h : H' p = none) : Kp b H (L2.upd H' p o) := k.trans (Kp.of (sNew (Same.refl _) h))
def spPullC : Sp := fun vs H Q _ => ∃ (b c : Addr) (k : Int), vs = [.ref b, .int k] ∧ BagAt H b c ∧ 0 < k ∧ k < 1073741824 ∧
  ∀ (d : Int) (H' : Hp), 0 ≤ d → d < k → BagAt H' b c → Kp b H H' → Q (.int d) H'
def spOfC (K : PySem.W.Frag) : Sp := fun vs H Q _ => ∃ (b c a : Addr) (xs : List V), vs = [.ref b, .ref a] ∧ BagAt H b c ∧ SqL K H a xs ∧ a ≠ b ∧ 0 < xs.length ∧ xs.length < 1000000 ∧
  ∀ (v : V) (H' : Hp), v ∈ xs → BagAt H' b c → Kp b H H' → Q v H'
def spRootC : Sp := fun vs H Q _ => ∃ (b c : Addr), vs = [.ref b] ∧ BagAt H b c ∧ ∀ (d : Int) (H' : Hp), d = 2 ∨ d = 3 ∨ d = 5 ∨ d = 6 ∨ d = 13 → BagAt H' b c → Kp b H H' → Q (.int d) H'
def spFarC : Sp := fun vs H Q _ => ∃ (b c : Addr) (k : Int), vs = [.ref b, .int k] ∧ BagAt H b c ∧ 0 < k ∧ k ≤ 1000 ∧ ∀ (n : Int) (H' : Hp), 0 ≤ n → n < 10 ^ k.toNat → BagAt H' b c → Kp b H H' → Q (.int n) H'
end RF

namespace RF
open PySem L2 PyProof.Rows
/-! ### max of a tuple of whole numbers -/
section
variable {prog : Program} {w : World} {A : Around} {E : Value → Shared → Prop} {s : Shared} {l : Addr} {xs : Array (Int × Tok)}
theorem max_tupI {Q : Value → Shared → Prop} (hh : A.handled = none) (hl : s.heap.IsTuple l (intItems xs)) (hne : 0 < xs.size)
    (h : ∀ v h' tk, (intItems xs)[argBest (fun i j => decide (numAt xs i > numAt xs j)) (xs.size - 1)]? = some v → (∀ b o, s.heap.get? b = some o → h'.get? b = some o) → Q v { s with heap := h', toks := tk }) :
    wpAny (model prog w) A (call (.builtin "max") [.ref l]) Q E s := by
  have hlt : l < s.heap.objs.size := by obtain ⟨_, e, _⟩ := hl; exact Heap.lt_size e
  have hpu : ∀ b ∈ [s.heap.objs.size, l], b < (s.heap.push { cls := .type "tuple_iterator", data := .fields #[.ref l, .int 0 0] }).objs.size := fun b hb => by
    rw [Heap.size_push]
    rcases List.mem_cons.mp hb with e | hb
    · rw [e]; exact Nat.lt_succ_self _
    · rcases List.mem_cons.mp hb with e | hb
      · rw [e]; exact Nat.lt_succ_of_lt hlt
      · cases hb
  refine call_max_walk (wpAny_pyIter_tuple hl ?_)
  refine ⟨_, _, _, _, _, _, _, rfl, Walks.tuple (A := A.in1) hh _ l (Nat.ne_of_lt hlt) (intItems xs), ⟨⟨_, Heap.get?_push_size _ rfl, rfl, rfl⟩, hl.push _⟩, hpu, by simpa [intItems] using hne, CmpOf.ints_gt (numAt xs) (fun _ _ => intItems_at), fun v h' tk hP hk => ?_⟩
  refine h v h' tk (by simpa [intItems] using hP) fun b o e => ?_
  refine hk b o (fun hm => ?_) (Heap.get?_push_of_some _ e)
  rcases List.mem_cons.mp hm with e1 | hm
  · exact absurd (e1 ▸ Heap.lt_size e) (Nat.lt_irrefl _)
  · cases hm
end
section
variable {X : Cx}
def rMaxT (K : PySem.W.Frag) : List V → Hp → VK → Prop := fun vs H Q => ∃ (a : Addr) (ns : List Int), vs = [V.ref a] ∧ SqT K H a (ns.map V.int) ∧ 0 < ns.length ∧ ∀ m, m ∈ ns → (∀ y, y ∈ ns → y ≤ m) → Q (.int m) H
theorem cr_maxT (hc : X.calm = true) : CallR X (.builtin "max") (rMaxT X.K) := by
  intro pins s σ H vs us Q I r h
  obtain ⟨a, ns, rfl, hs, hne, q⟩ := h
  obtain ⟨its, rv, hl, _⟩ := I.tuple hs
  rw [Vals.ref1 r]
  obtain ⟨xs, e⟩ := rv.ints.allInts.items
  have hn : numsOf (intItems xs).toList = ns := by rw [← e]; exact rv.ints.numsOf
  rw [nums_intItems] at hn
  subst hn
  rw [e] at hl
  have hsz : 0 < xs.size := by simpa using hne
  refine max_tupI (I.ok.hd hc) hl hsz fun v h' tk hv hk => ?_
  obtain ⟨t, rfl⟩ := intItems_at hv
  obtain ⟨h1, h2⟩ := argBest_gt (numAt xs) (xs.size - 1)
  refine ⟨.int _, H, I.kept hk, ⟨_, rfl⟩, q _ ?_ fun a ha => ?_⟩
  · rw [numAt_eq]; exact PySem.getD_mem (by rw [List.length_map, Array.length_toList]; omega)
  · obtain ⟨j, hj, rfl⟩ := PySem.mem_getD ha
    rw [List.length_map, Array.length_toList] at hj
    rw [← numAt_eq]; exact h2 j (by omega)

/-! ### a property of a class, by its promise -/
structure Pt (P : Program) (w : World) (K : PySem.W.Frag) (mg : Str → Option Value) (base : Heap) (C : Addr) (k : Nat) (m : Str) (sp : Sp) : Prop where
  ex : ∃ (p g : Addr) (fd : FuncData), PropOf K C m p g ∧ FnOk P w K mg base CX0 k g fd ["self"] sp ∧ Binds K fd ["self"] []
theorem pe_pt {j k : Nat} {C : Addr} {m : Str} {sp : Sp} {o : Expr} {pos : Pos} {ta : TE} (he : PE X o ta) (c : Cls X.K C) (M : Pt X.prog X.w X.K X.mg X.base C k m sp) (hr : Room j X.A) (hk : k + 1 ≤ j)
    (hab : attributeBase o m X.env (eval o X.env) = eval o X.env := by rfl) : PE X (.Attribute o m pos) (tProp C sp [] E0 ta) := by
  obtain ⟨p, g, fd, hp, F, b⟩ := M.ex
  exact pe_prop he c hp F (hr.mono hk) b .nil pass0 hab

/-! ### calls by keywords alone -/
/-- f(k = v, ..) -/
theorem pe_callN0 {CX : CXT} {k : Nat} {f : Addr} {fd : FuncData} {ps ks : List Str} {sp : Sp} {E : XK} {x : Str} {p pos : Pos} {kws : List Keyword} {tk : TA} {g : List Value → List Value → List Value} {gV : List V → List V → List V}
    (F : FnOk X.prog X.w X.K X.mg X.base CX k f fd ps sp) (hr : Room k X.A) (hg : Gl X x) (hm : X.mg x = some (.ref f)) (hk : PySem.W.keepIn X.K (.ref f) = true) (hb : KBn X.K fd ps 0 ks g gV) (hx : Passes CX X E) (hkw : PK X kws tk)
    (hall : (backToKw pos (keywordEach kws X.env)).all (·.1.isSome) = true := by rfl) (hks : (backToKw pos (keywordEach kws X.env)).filterMap (·.1) = ks := by rfl) (hdb : (x == ("__debug__" : Str)) = false := by decide)
    (hpl : ((backTo pos (starEach [] X.env)).any (·.1) || (backToKw pos (keywordEach kws X.env)).any (·.1.isNone)) = false := by rfl) :
    PE X (.Call (.Name x p) [] kws pos) (tCallN 0 ks.length sp gV E tNil tk) := by
  refine ⟨fun pins s σ H Q I h => ?_⟩
  refine wpAny_Call_Name_kw (ld_glob I hg hm ?_ hdb)
  refine PySem.W.callWith_KW0 (h₀ := X.base) I.ok.mod.kin hk hall ?_ hpl
  refine thn (hkw.run pos pins s σ H _ I h) fun ws s2 ⟨zs, H2, I2, rz, l1, l2, q2⟩ => ⟨I2.kIn, ?_⟩
  rw [hks]
  exact run_fnN (us := []) (vs := []) F hr hb hx I2 .nil rz l1 l2 q2
/-- a def that is called by keywords alone, by its promise -/
structure Dk (P : Program) (w : World) (K : PySem.W.Frag) (mg : Str → Option Value) (base : Heap) (k : Nat) (x : Str) (ps ks : List Str) (gV : List V → List V → List V) (sp : Sp) : Prop where
  ex : ∃ (f : Addr) (fd : FuncData) (g : List Value → List Value → List Value), FnOk P w K mg base CX0 k f fd ps sp ∧ KBn K fd ps 0 ks g gV ∧ mg x = some (.ref f) ∧ PySem.W.keepIn K (.ref f) = true
theorem pe_kD {j k : Nat} {ps ks : List Str} {sp : Sp} {x : Str} {p pos : Pos} {kws : List Keyword} {tk : TA} {gV : List V → List V → List V} (D : Dk X.prog X.w X.K X.mg X.base k x ps ks gV sp) (hr : Room j X.A) (hj : k ≤ j) (hkw : PK X kws tk) (hg : Gl X x := by rfl)
    (hall : (backToKw pos (keywordEach kws X.env)).all (·.1.isSome) = true := by rfl) (hks : (backToKw pos (keywordEach kws X.env)).filterMap (·.1) = ks := by rfl) (hdb : (x == ("__debug__" : Str)) = false := by decide)
    (hpl : ((backTo pos (starEach [] X.env)).any (·.1) || (backToKw pos (keywordEach kws X.env)).any (·.1.isNone)) = false := by rfl) :
    PE X (.Call (.Name x p) [] kws pos) (tCallN 0 ks.length sp gV E0 tNil tk) := by
  obtain ⟨f, fd, g, F, hb, hm, hk⟩ := D.ex
  exact pe_callN0 F (hr.mono hj) hg hm hk hb pass0 hkw hall hks hdb hpl
end
theorem Fun.kbn {K : PySem.W.Frag} {x qual : Str} {st : Stmt} {f : Addr} {fd : FuncData} {ps : List Str} (F : Fun K x qual st f fd) (n : Nat) (ks : List Str) (g : {α : Type} → List α → List α → List α)
    (hrel : ∀ {vs zs : List V} {us ws : List Value}, Vals vs us → Vals zs ws → Vals (g vs zs) (g us ws))
    (h : ∀ (kV doc pm : Value) (an : Option Addr) (cdv ct : Value) (us ws : List Value), us.length = n → ws.length = ks.length → bindArgs (PySem.W.fnOf x qual (defArgs st) (defBody st) (defScope st) .none kV doc pm an cdv ct) ⟨us, ks.zip ws⟩ = pure (ps.zip (g us ws))) :
    KBn K fd ps n ks (fun us ws => g us ws) (fun vs zs => g vs zs) := by
  obtain ⟨oc, od, kV, doc, pm, an, cdv, ct, osl, rfl, lk, hcd⟩ := F.ex
  exact ⟨fun s us ws _ l1 l2 => .of_eq (h kV doc pm an cdv ct us ws l1 l2), fun r1 r2 => hrel r1 r2⟩
end RF

namespace RF
open PySem L2 PyProof.Rows
/-! ### methods that may raise; calls by name -/
def tMethKw (C : Addr) (m : Str) (sp : Sp) (gV : List V → List V → List V) (E : XK) (ta : TE) (tk : TA) : TE := fun σ H Q => ta σ H fun x H1 => ∃ a dx fs, x = .ref a ∧ H1 a = some (.ins C dx fs) ∧ fs.lookup m = none ∧ tk σ H1 fun zs H2 => sp (gV [x] zs) H2 Q E
theorem pe_methKw {X : Cx} {CX : CXT} {k : Nat} {f C : Addr} {fd : FuncData} {ps ks : List Str} {sp : Sp} {E : XK} {m : Str} {apos pos : Pos} {o : Expr} {kws : List Keyword} {ta : TE} {tk : TA} {pl : Sem Bool} {g : List Value → List Value → List Value} {gV : List V → List V → List V} (he : PE X o ta) (c : Cls X.K C) (hm : Meth X.K C m f) (F : FnOk X.prog X.w X.K X.mg X.base CX k f fd ps sp) (hr : Room k X.A)
    (hb : KBn X.K fd ps 1 ks g gV) (hx : Passes CX X E) (hkw : PK X kws tk) (hlen : ∀ (x : V) (zs : List V), (gV [x] zs).length = ps.length → zs.length = ks.length) (hall : (backToKw pos (keywordEach kws X.env)).all (·.1.isSome) = true := by rfl) (hks : (backToKw pos (keywordEach kws X.env)).filterMap (·.1) = ks := by rfl)
    (hpl : ((backTo pos (starEach [] X.env)).any (·.1) || (backToKw pos (keywordEach kws X.env)).any (·.1.isNone)) = false := by rfl)
    (ht : eval (.Call (.Attribute o m apos) [] kws pos) X.env = (do
      let ov ← eval o X.env
      standAt apos.atName
      let (f, first) ← holding [ov] (getMethod ov m pl)
      callWith pos f first (backTo pos (starEach [] X.env)) (backToKw pos (keywordEach kws X.env))) := by rfl) : PE X (.Call (.Attribute o m apos) [] kws pos) (tMethKw C m sp gV E ta tk) := by
  refine ⟨fun pins s σ H Q I h => PySem.W.methodCall_KW (pl := pl) (thn (he.run pins s σ H _ I h) fun u s1 ⟨x, H1, I1, rx, a, dx, fs, ex, ea, l, q⟩ => ?_) ht⟩
  subst ex
  obtain rfl : u = Value.ref a := rx
  refine getmeth_ok I1 ea c hm l (PySem.W.callWith_KW0 (h₀ := X.base) (first := [.ref a]) I1.ok.mod.kin hm.kp hall (thn (hkw.run pos pins s1 σ H1 _ I1 q) fun ws s2 ⟨zs, H2, I2, rz, q2⟩ => ⟨I2.kIn, ?_⟩) hpl)
  rw [hks]
  have r2 := hb.rel (vs := [V.ref a]) (us := [Value.ref a]) (.cons rfl .nil) rz
  have lz : ws.length = ks.length := by rw [← rz.length]; exact hlen (.ref a) zs (F.len _ _ _ _ q2)
  refine wpAny_call (codeAny_mono (F.run X.A X.stack s2 H2 ⟨[.ref a] ++ [], ks.zip ws⟩ (g [.ref a] ws) (gV [.ref a] zs) Q E hr I2.env0 (hb.to s2 [.ref a] ws I2.kIn rfl lz) r2 q2) fun rr s3 hq => ?_)
  cases rr with
  | error z => exact hx pins σ H2 s2 z s3 I2 hq
  | ok fl =>
    cases fl with
    | ret u => exact I2.after hq
    | next => exact False.elim hq
    | brk => exact False.elim hq
    | cont => exact False.elim hq
structure MtX (P : Program) (w : World) (K : PySem.W.Frag) (mg : Str → Option Value) (base : Heap) (C : Addr) (k : Nat) (m : Str) (ps : List Str) (sp : Sp) : Prop where
  ex : ∃ (f : Addr) (fd : FuncData), FnOk P w K mg base (L2.CX P w) k f fd ps sp ∧ Meth K C m f ∧ Binds K fd ps [] ∧ KBn K fd ps 1 (ps.drop 1).reverse (fun us ws => us ++ ws.reverse) (fun vs zs => vs ++ zs.reverse)
/-- what never raises, in such a class of methods -/
def EN : XK := fun _ _ _ => False
theorem passN {X : Cx} : Passes (L2.CX X.prog X.w) X EN := fun pins σ H s e s' I c => L2.passes_call (W := fun _ _ _ _ => False) LamX.takes0 (fun _ _ _ _ z => z) pins σ H s e s' I c
theorem pe_mtX {X : Cx} {j k : Nat} {C : Addr} {m : Str} {ps : List Str} {sp : Sp} {o e : Expr} {es : List Expr} {pos apos : Pos} {ta : TE} {t : TA} {E : XK} {pl : Sem Bool} (he : PE X o ta) (c : Cls X.K C) (M : MtX X.prog X.w X.K X.mg X.base C k m ps sp) (hr : Room j X.A) (hk : k ≤ j) (hx : Passes (L2.CX X.prog X.w) X E) (ha : PA X (e :: es) t)
    (h1 : starEach (e :: es) X.env = (false, eval e X.env) :: starEach es X.env := by rfl) (h2 : (backTo pos (starEach es X.env)).any (·.1) = false := by rfl)
    (ht : eval (.Call (.Attribute o m apos) (e :: es) [] pos) X.env = (do
      let ov ← eval o X.env
      standAt apos.atName
      let (f, first) ← holding [ov] (getMethod ov m pl)
      callWith pos f first (backTo pos (starEach (e :: es) X.env)) (backToKw pos (keywordEach [] X.env))) := by rfl) : PE X (.Call (.Attribute o m apos) (e :: es) [] pos) (tMeth C m sp [] E ta t) := by
  obtain ⟨f, fd, G, hm, b, _⟩ := M.ex
  exact pe_meth he c hm G (hr.mono hk) b .nil hx ha h1 h2 ht
/-- by name, in the other order -/
theorem pe_mtXr {X : Cx} {j k : Nat} {C : Addr} {m : Str} {ps : List Str} {sp : Sp} {o : Expr} {kws : List Keyword} {pos apos : Pos} {ta : TE} {tk : TA} {E : XK} {pl : Sem Bool} (he : PE X o ta) (c : Cls X.K C) (M : MtX X.prog X.w X.K X.mg X.base C k m ps sp) (hr : Room j X.A) (hk : k ≤ j) (hx : Passes (L2.CX X.prog X.w) X E) (hkw : PK X kws tk) (hps : ps ≠ [])
    (hall : (backToKw pos (keywordEach kws X.env)).all (·.1.isSome) = true := by rfl) (hks : (backToKw pos (keywordEach kws X.env)).filterMap (·.1) = (ps.drop 1).reverse := by rfl)
    (hpl : ((backTo pos (starEach [] X.env)).any (·.1) || (backToKw pos (keywordEach kws X.env)).any (·.1.isNone)) = false := by rfl)
    (ht : eval (.Call (.Attribute o m apos) [] kws pos) X.env = (do
      let ov ← eval o X.env
      standAt apos.atName
      let (f, first) ← holding [ov] (getMethod ov m pl)
      callWith pos f first (backTo pos (starEach [] X.env)) (backToKw pos (keywordEach kws X.env))) := by rfl) : PE X (.Call (.Attribute o m apos) [] kws pos) (tMethKw C m sp (fun vs zs => vs ++ zs.reverse) E ta tk) := by
  obtain ⟨f, fd, G, hm, _, b⟩ := M.ex
  refine pe_methKw he c hm G (hr.mono hk) b hx hkw (fun x zs h => ?_) hall hks hpl ht
  simp only [List.length_append, List.length_reverse, List.length_drop, List.length_cons, List.length_nil] at h ⊢
  omega
end RF

namespace RF
open PySem L2 PyProof.Rows
theorem vals_rev : ∀ {vs : List V} {us : List Value}, Vals vs us → Vals vs.reverse us.reverse
  | _, _, .nil => .nil
  | _, _, .cons h r => by
    rw [List.reverse_cons, List.reverse_cons]
    exact (vals_rev r).append (.cons h .nil)
end RF

namespace RF
open PySem L2 PyProof.Rows EX
open LamX (Tabs TabS ExtN TabB CodeO)
/-! what stays behind the making of a lambda; parts of a text; what _law_why needs (for every law) -/
theorem sqX {K : PySem.W.Frag} {H H' : Hp} {a : Addr} {xs : List V} (e : ExtN H H') (h : SqL K H a xs) : SqL K H' a xs := by
  rcases h with (h | ⟨o, h⟩) | h
  · exact .inl (.inl (e _ _ h (fun _ z => by cases z)))
  · exact .inl (.inr ⟨o, e _ _ h (fun _ z => by cases z)⟩)
  · exact .inr h
theorem stX {K : PySem.W.Frag} {H H' : Hp} {a : Addr} {xs : List V} (e : ExtN H H') (h : SqT K H a xs) : SqT K H' a xs := by
  rcases h with (h | ⟨o, h⟩) | h
  · exact .inl (.inl (e _ _ h (fun _ z => by cases z)))
  · exact .inl (.inr ⟨o, e _ _ h (fun _ z => by cases z)⟩)
  · exact .inr h
mutual
theorem Rp.extN {K : PySem.W.Frag} {H H' : Hp} (e : ExtN H H') : ∀ {v : V} (d : D), Rp K H v d → Rp K H' v d
  | _, .non, h => h
  | _, .bl _, h => h
  | _, .int _, h => h
  | _, .str _, h => h
  | _, .lst ds, h => by
    obtain ⟨a, xs, h1, h2, h3, h4⟩ := h
    exact ⟨a, xs, h1, sqX e h2, h3, Rps.extN e ds h4⟩
  | _, .tup ds, h => by
    obtain ⟨a, xs, h1, h2, h3, h4⟩ := h
    exact ⟨a, xs, h1, stX e h2, h3, Rps.extN e ds h4⟩
theorem Rps.extN {K : PySem.W.Frag} {H H' : Hp} (e : ExtN H H') : ∀ {xs : List V} (ds : List D), Rps K H xs ds → Rps K H' xs ds
  | _, [], h => h
  | _, d :: ds, h => by
    obtain ⟨x, r, h1, h2, h3⟩ := h
    exact ⟨x, r, h1, Rp.extN e d h2, Rps.extN e ds h3⟩
end
theorem Bag.extN {H H' : Hp} {b : Addr} (e : ExtN H H') (B : Bag H b) : Bag H' b := by
  obtain ⟨c, ns, i, z, r, h⟩ := B
  exact ⟨c, ns, i, z, r, h.ne, e _ _ h.at_ (fun _ z => by cases z), e _ _ h.cs (fun _ z => by cases z), h.le, h.z0, h.r0, h.r1⟩
theorem BagAt.extN {H H' : Hp} {b c : Addr} (e : ExtN H H') (B : BagAt H b c) : BagAt H' b c := by
  obtain ⟨ns, i, z, r, h⟩ := B
  exact ⟨ns, i, z, r, h.ne, e _ _ h.at_ (fun _ z => by cases z), e _ _ h.cs (fun _ z => by cases z), h.le, h.z0, h.r0, h.r1⟩
theorem Tabs.kpB {T : List (Addr × Str)} {b : Addr} {xs : List V} {H H' : Hp} (t : Tabs T H) (hb : H b = some (.lst xs)) (k : Kp b H H') : Tabs T H' := fun p hp => by
  obtain ⟨ps, h1, h2, h3⟩ := t p hp
  refine ⟨ps, k _ _ (ne_of h1 hb (by intro z; cases z)) h1, h2, fun pos cv hc => ?_⟩
  obtain ⟨c, e1, e2⟩ := h3 pos cv hc
  exact ⟨c, e1, k _ _ (ne_of e2 hb (by intro z; unfold CodeO at z; cases z)) e2⟩
theorem Tabs.kp {T : List (Addr × Str)} {b : Addr} {H H' : Hp} (t : Tabs T H) (B : Bag H b) (k : Kp b H H') : Tabs T H' := let ⟨_, hb⟩ := B.some; Tabs.kpB t hb k
theorem Tabs.kpC {T : List (Addr × Str)} {b c : Addr} {H H' : Hp} (t : Tabs T H) (B : BagAt H b c) (k : Kp b H H') : Tabs T H' := let ⟨_, hb⟩ := B.atB; Tabs.kpB t hb k
/-- a list of one's own is written: the tables stay -/
theorem Tabs.put {T : List (Addr × Str)} {a : Addr} {H : Hp} {xs : List V} {o : HO} (t : Tabs T H) (h : H a = some (.lst xs)) : Tabs T (upd H a o) := Tabs.kpB t h Kp.upd
theorem Tabs.sm {T : List (Addr × Str)} {H H' : Hp} (t : Tabs T H) (e : Same H H') : Tabs T H' := LamX.Tabs.ext t e
/-! ### parts of a text -/
def valOf : Stmt → Expr
  | .Assign _ v _ => v
  | .Expr v _ => v
  | .Return (some v) _ => v
  | _ => .Constant .none 0 ⟨0, 0, 0, 0⟩
def forB : Stmt → List Stmt
  | .For _ _ b _ _ => b
  | _ => []
def ifT : Stmt → Expr
  | .If t _ _ _ => t
  | _ => .Constant .none 0 ⟨0, 0, 0, 0⟩
def boolA (i : Nat) : Expr → Expr
  | .BoolOp _ l _ => l.getD i (.Constant .none 0 ⟨0, 0, 0, 0⟩)
  | e => e
def notA : Expr → Expr
  | .UnaryOp _ e _ => e
  | e => e
def argA (i : Nat) : Expr → Expr
  | .Call _ l _ _ => l.getD i (.Constant .none 0 ⟨0, 0, 0, 0⟩)
  | e => e
def cmpA (i : Nat) : Expr → Expr
  | .Compare a _ l _ => (a :: l).getD i (.Constant .none 0 ⟨0, 0, 0, 0⟩)
  | e => e
def eltA (i : Nat) : Expr → Expr
  | .List l _ => l.getD i (.Constant .none 0 ⟨0, 0, 0, 0⟩)
  | .Tuple l _ _ => l.getD i (.Constant .none 0 ⟨0, 0, 0, 0⟩)
  | e => e
def stA (i : Nat) (l : List Stmt) : Stmt := l.getD i (.Pass ⟨0, 0, 0, 0⟩)
/-! ### what _law_why needs; the table of the def's lambdas -/
structure WhyE (P : Program) (w : World) (K : PySem.W.Frag) (mg : Str → Option Value) (base : Heap) (sW : Stmt) (kf : Nat) (c1 c2 c3 : Addr) : Prop where
  ex : ∃ (g : Addr) (oc : Value) (od an : Option Addr) (kV doc pm cdv ct : Value) (osl : Array (Option Value)), mg "_law_why" = some (.ref g) ∧ PySem.W.keepIn K (.ref g) = true ∧
    K.lookup g = some ⟨oc, od, .func (PySem.W.fnOf "_law_why" "_law_why" (defArgs sW) (defBody sW) (defScope sW) .none kV doc pm an cdv ct), osl⟩ ∧ PySem.W.codeIn K cdv "_law_why" = true ∧
    Binds K (PySem.W.fnOf "_law_why" "_law_why" (defArgs sW) (defBody sW) (defScope sW) .none kV doc pm an cdv ct) ["_law_ask"] []
  m1 : mg "RootError" = some (.ref c1)
  m2 : mg "Missing" = some (.ref c2)
  m3 : mg "NothingLeft" = some (.ref c3)
  fld : ∃ (gf : Addr) (fdf : FuncData), FnS P w K mg base kf gf fdf ["_law_one"] (spErr K) ∧ mg "_law_field" = some (.ref gf) ∧ PySem.W.keepIn K (.ref gf) = true ∧ Binds K fdf ["_law_one"] []
theorem passL {X : Cx} {A : Around} {outer : List Env} {s : Shared} {H : Hp} {E : XK} {scope : Scope} {f c' : Addr} : Passes (L2.CX X.prog X.w) (LamX.lamCx X A outer s H E scope f c') E := fun pins σ H s e s' I c => L2.passes_call (W := fun cls d _ H => E cls d H) (takes_of rfl rfl rfl rfl) (fun _ _ _ _ h => h) pins σ H s e s' I c
theorem rp2 {K : PySem.W.Frag} {H : Hp} {a : Addr} {v1 v2 : V} {d1 d2 : D} (h : H a = some (.tup [v1, v2])) (r1 : Rp K H v1 d1) (r2 : Rp K H v2 d2) : Rp K H (.ref a) (.tup [d1, d2]) := ⟨a, _, rfl, SqT.of h, by show 2 ≤ 100000; decide, _, _, rfl, r1, _, _, rfl, r2, rfl⟩
/-- an error with one field, for _law_why -/
theorem tellsF {K : PySem.W.Frag} {H : Hp} {C d : Addr} {v : V} {nm fld : Str} (noT : PySem.W.findIn K (.ref C) "tag" = some none) (noF : PySem.W.findIn K (.ref C) fld = some none) (nf : (fld == ("tag" : Str)) = false) (kd : Kd nm (some fld)) : Tells K (upd H d (.xd [(fld, v), ("tag", .str nm)])) C d [(fld, v), ("tag", .str nm)] nm v :=
  ⟨upd_same, by
    show (match ("tag" : Str) == fld with | true => some v | false => some (V.str nm)) = some (V.str nm)
    rw [show (("tag" : Str) == fld) = false from by
      have := beq_eq_false_iff_ne.mp nf
      exact beq_eq_false_iff_ne.mpr (Ne.symm this)], noT, some fld, kd, fun z => (by cases z), fun g hg => by
    cases hg
    exact ⟨by rw [List.lookup_cons, beq_self_eq_true], noF⟩⟩
end RF

set_option linter.all false
/-! lambdas as values: made, kept in the heap, called later (own layer; LamX is the library's) -/
namespace LM
open PySem PySem.Spec PyProof.Rows L2
open LamX (Tabs TabS ExtN TabB CodeO)
/-- the text of a lambda -/
structure LTx where
  params : Arguments
  body : Expr
  scope : Scope
abbrev LTx.fn (L : LTx) (q : Str) (cl : List (Str × Addr)) (dV doc pm cdv ct : Value) : FuncData := PySem.W.kdv_fn "<lambda>" q L.params (.expr L.body) L.scope cl dV doc pm cdv ct
abbrev LTx.ob (L : LTx) (q : Str) (cl : List (Str × Addr)) (dV doc pm : Value) (c1 : Addr) (ct : Value) : Obj := PySem.W.kdv_obj "<lambda>" q L.params (.expr L.body) L.scope cl dV doc pm c1 ct
/-- at f: this lambda, its cells, its default, its code -/
def LamO (f : Addr) (L : LTx) (q : Str) (cl : List (Str × Addr)) (dV : Value) (c1 : Addr) : HO := .ext fun h => ∃ doc pm ct, h.get? f = some (L.ob q cl dV doc pm c1 ct)
abbrev lq (X : Cx) : Str := X.env.qual ++ "<lambda>"
abbrev clo (X : Cx) (L : LTx) : List (Str × Addr) := cloFrom X.env.cells L.scope.names []
section
variable {X : Cx} {pins : List (Addr × Obj)} {σ : L2.St} {H : Hp} {s : Shared}
theorem lamO_tbl {f : Addr} {L : LTx} {q : Str} {cl : List (Str × Addr)} {dV : Value} {c1 : Addr} (ps : Array Value) : LamO f L q cl dV c1 ≠ .tbl ps := fun z => by
  unfold LamO at z
  cases z
theorem lam_ok {P : Program} {w : World} {h1 : Heap} {H1 : Hp} {f : Addr} {L : LTx} {q : Str} {cl : List (Str × Addr)} {dV doc pm ct : Value} {c1 : Addr} (e : h1.get? f = some (L.ob q cl dV doc pm c1 ct)) : ObjOk P w H1 h1 f (LamO f L q cl dV c1) :=
  ⟨⟨doc, pm, ct, e⟩, ⟨_, e⟩, fun g1 g2 ⟨x, y, z, u⟩ st => ⟨x, y, z, st _ u⟩⟩
theorem tabs_new {T : List (Addr × Str)} {H1 : Hp} {f : Addr} {o : HO} (t : Tabs T H1) (hf : H1 f = none) : Tabs T (upd H1 f o) := RF.Tabs.sm t fun b u e => by
  rw [upd_ne (ne_of_none e hf)]
  exact e
theorem ext_new {H1 : Hp} {f : Addr} {o : HO} (e : ExtN H H1) (hf : H1 f = none) : ExtN H (upd H1 f o) := fun b u h n => by
  have h1 := e b u h n
  rw [upd_ne (ne_of_none h1 hf)]
  exact h1
/-- the making, behind the defaults -/
theorem tail_new {T : List (Addr × Str)} {c P : Addr} {L : LTx} {pos : Pos} {dV : Value} {E : Value → Shared → Prop} {Q : Value → Shared → Prop} (I : Inv X pins σ H s) (TB : TabB X.base X.mg c P) (hcode : X.env.code = .ref c)
    (hm : (P, lq X) ∈ T) (hu : ∀ p ∈ T, p.1 = P → p.2 = lq X) (hT : Tabs T H) (hfree : ∀ y ∈ L.scope.names, y.2 = .free → ∃ c, X.env.cells.lookup y.1 = some c)
    (k : ∀ (f c1 : Addr) (H1 : Hp) (s1 : Shared), Inv X pins σ H1 s1 → ExtN H H1 → Tabs T H1 → H1 f = some (LamO f L (lq X) (clo X L) dV c1) → H1 c1 = some (CodeO c1 (lq X)) → H f = none → Q (.ref f) s1) :
    wpAny (model X.prog X.w) X.A (makeTail "<lambda>" (lq X) L.params (.expr L.body) L.scope X.env dV .none none pos pos.line) Q E s := by
  obtain ⟨ps, tP, t3, among⟩ := hT _ hm
  have bA : s.heap.BuiltinsAt X.mg P := TB.bm.keeps I.bk
  have gP : s.heap.get? P = some { cls := .none, data := .fields ps } := I.hok P _ tP
  cases ea : codeAmong pos ps.toList with
  | none =>
    refine PySem.W.kdv_makeTail (P := P) (ps := ps) (mg := X.mg) (c := c) (closure_ok hfree) I.ok.glob (I.mod.glob.keeps I.bk) hcode (TB.code.keeps I.bk) gP t3 ea TB.gP bA fun c1 ct doc g tk kx c_ge c_lt hrec tb' => ?_
    obtain ⟨_, oc, vs, tt, e2, oc1, oc2, oc3⟩ := hrec
    cases e2
    have I1 := LamX.inv_table (t' := tk) (more := #[rawInt pos.line, rawInt pos.col, .ref c1]) (h' := g) I tP (fun b o nb e => kx b o nb e) tb' c_ge ⟨oc, vs, tt, oc1, oc2, oc3⟩
    have nc : H c1 = none := I.hok.fresh c_ge
    have x1 : ExtN H (upd (upd H P (.tbl (ps ++ #[rawInt pos.line, rawInt pos.col, .ref c1]))) c1 (CodeO c1 (lq X))) := fun b o e n => by
      have nb : b ≠ P := fun z => n ps (Option.some.inj (e.symm.trans (z ▸ tP)))
      rw [upd_ne (ne_of_none e nc), upd_ne nb]
      exact e
    have x2 : Tabs T (upd (upd H P (.tbl (ps ++ #[rawInt pos.line, rawInt pos.col, .ref c1]))) c1 (CodeO c1 (lq X))) := fun p hp => by
      have el : (ps ++ #[rawInt pos.line, rawInt pos.col, .ref c1]).toList = ps.toList ++ [rawInt pos.line, rawInt pos.col, .ref c1] := by simp
      by_cases hb : p.1 = P
      · rw [hu p hp hb, hb]
        refine ⟨_, by rw [upd_ne (ne_of_none tP nc), upd_same], by rw [el]; exact PySem.TriplesOk_snoc _ _ _ _ t3, fun p1 cv hcv => ?_⟩
        rw [el] at hcv
        rcases LamX.among_app _ t3 hcv with z | z
        · obtain ⟨c0, z1, z2⟩ := among p1 cv z
          exact ⟨c0, z1, x1 _ _ z2 LamX.codeO_ne⟩
        · exact ⟨c1, z, upd_same⟩
      · obtain ⟨ps1, a1, a2, a3⟩ := hT p hp
        refine ⟨ps1, by rw [upd_ne (ne_of_none a1 nc), upd_ne hb]; exact a1, a2, fun p1 cv hcv => ?_⟩
        obtain ⟨c0, z1, z2⟩ := a3 p1 cv hcv
        exact ⟨c0, z1, x1 _ _ z2 LamX.codeO_ne⟩
    have nf : upd (upd H P (.tbl (ps ++ #[rawInt pos.line, rawInt pos.col, .ref c1]))) c1 (CodeO c1 (lq X)) g.objs.size = none := I1.hok.fresh (Nat.le_refl _)
    have le0 : s.heap.objs.size ≤ g.objs.size := Nat.le_trans c_ge (Nat.le_of_lt c_lt)
    refine k g.objs.size c1 _ _ (I1.laid (t' := tk) (h' := g.push (L.ob (lq X) (clo X L) dV doc ((X.mg "__name__").getD .none) c1 ct)) (fun b u e => Heap.get?_push_of_some _ e) (Nat.le_refl _) (lam_ok (Heap.get?_push_size _ rfl))) (ext_new x1 nf) (tabs_new x2 nf) upd_same ?_ (I.hok.fresh le0)
    rw [upd_ne (Nat.ne_of_lt c_lt)]
    exact upd_same
  | some cv =>
    obtain ⟨c1, rfl, hco⟩ := among pos cv ea
    refine PySem.W.kdv_makeTailHit (P := P) (ps := ps) (mg := X.mg) (c := c) (closure_ok hfree) I.ok.glob (I.mod.glob.keeps I.bk) hcode (TB.code.keeps I.bk) gP t3 ea bA fun ct doc g tk kx sz => ?_
    have I1 : Inv X pins σ H { s with heap := g, toks := tk } := I.kept kx
    have nf : H g.objs.size = none := I1.hok.fresh (Nat.le_refl _)
    refine k g.objs.size c1 _ _ (I1.laid (t' := tk) (h' := g.push (L.ob (lq X) (clo X L) dV doc ((X.mg "__name__").getD .none) c1 ct)) (fun b u e => Heap.get?_push_of_some _ e) (Nat.le_refl _) (lam_ok (Heap.get?_push_size _ rfl))) (ext_new (ExtN.refl H) nf) (tabs_new hT nf) upd_same ?_ nf
    rw [upd_ne (ne_of_none hco nf)]
    exact hco
end
end LM

set_option linter.all false
namespace LM
open PySem PySem.Spec PyProof.Rows L2
open LamX (Tabs TabS ExtN TabB CodeO)
/-- what a call without arguments binds: nothing, or one name by its default -/
inductive LK where
  | plain
  | dflt (x : Str) (v : Int)
def LTx.has (L : LTx) : LK → Prop
  | .plain => L.params.defaults = [] ∧ L.params.kw_defaults = [] ∧ ∀ (q : Str) (cl : List (Str × Addr)) (doc pm cv ct : Value), bindArgs (L.fn q cl .none doc pm cv ct) ⟨[], []⟩ = pure []
  | .dflt x v => (∃ j p, L.params.defaults = [.Constant (.int v) j p]) ∧ L.params.kw_defaults = [] ∧ ∀ (q : Str) (cl : List (Str × Addr)) (t : Addr) (doc pm cv ct : Value), ∃ k, bindArgs (L.fn q cl (.ref t) doc pm cv ct) ⟨[], []⟩ = seqItems? (.ref t) >>= k ∧ ∀ u, k (some #[u]) = pure [(x, u)]
def BndOk (κ : LK) (H : Hp) (dV : Value) : Prop := match κ with
  | .plain => dV = .none
  | .dflt _ v => ∃ t, dV = .ref t ∧ H t = some (.tup [V.int v])
/-- at f: the lambda, ready to be called -/
def LamV (L : LTx) (κ : LK) (q : Str) (cl : List (Str × Addr)) (H : Hp) (f : Addr) : Prop := ∃ dV c1, H f = some (LamO f L q cl dV c1) ∧ H c1 = some (CodeO c1 q) ∧ BndOk κ H dV
theorem LamV.ext {L : LTx} {κ : LK} {q : Str} {cl : List (Str × Addr)} {H H' : Hp} {f : Addr} (h : LamV L κ q cl H f) (e : ExtN H H') : LamV L κ q cl H' f := by
  obtain ⟨dV, c1, h1, h2, h3⟩ := h
  refine ⟨dV, c1, e _ _ h1 lamO_tbl, e _ _ h2 LamX.codeO_ne, ?_⟩
  cases κ with
  | plain => exact h3
  | dflt x v =>
    obtain ⟨t, e1, e2⟩ := h3
    exact ⟨t, e1, e _ _ e2 (fun _ z => by cases z)⟩
theorem LamV.same {L : LTx} {κ : LK} {q : Str} {cl : List (Str × Addr)} {H H' : Hp} {f : Addr} (h : LamV L κ q cl H f) (e : Same H H') : LamV L κ q cl H' f := h.ext (ExtN.of e)
/-- a list changes (the bag, a list of one's own): the lambda stays -/
theorem LamV.kp {L : LTx} {κ : LK} {q : Str} {cl : List (Str × Addr)} {H H' : Hp} {f b : Addr} {xs : List V} (h : LamV L κ q cl H f) (hb : H b = some (.lst xs)) (k : RF.Kp b H H') : LamV L κ q cl H' f := by
  obtain ⟨dV, c1, h1, h2, h3⟩ := h
  refine ⟨dV, c1, k _ _ (ne_of h1 hb (fun z => by unfold LamO at z; cases z)) h1, k _ _ (ne_of h2 hb (fun z => by unfold CodeO at z; cases z)) h2, ?_⟩
  cases κ with
  | plain => exact h3
  | dflt x v =>
    obtain ⟨t, e1, e2⟩ := h3
    exact ⟨t, e1, k _ _ (ne_of e2 hb (fun z => by cases z)) e2⟩
def tLamV (T : List (Addr × Str)) (L : LTx) (κ : LK) (q : Str) (cl : List (Str × Addr)) : TE := fun _ H Q => Tabs T H ∧ ∀ f H1, ExtN H H1 → Tabs T H1 → LamV L κ q cl H1 f → H f = none → Q (.ref f) H1
theorem pe_lamv {X : Cx} {T : List (Addr × Str)} {c P : Addr} {L : LTx} {κ : LK} {pos : Pos} (TB : TabB X.base X.mg c P) (hcode : X.env.code = .ref c) (hm : (P, lq X) ∈ T) (hu : ∀ p ∈ T, p.1 = P → p.2 = lq X)
    (hfree : ∀ y ∈ L.scope.names, y.2 = .free → X.env.scope.names.lookup y.1 = some .cell ∨ X.env.scope.names.lookup y.1 = some .free) (hk : L.has κ) : PE X (.Lambda L.params L.body L.scope pos) (tLamV T L κ (lq X) (clo X L)) := by
  refine ⟨fun pins s σ H Q I h => ?_⟩
  obtain ⟨hT, h⟩ := h
  have hf : ∀ y ∈ L.scope.names, y.2 = .free → ∃ c, X.env.cells.lookup y.1 = some c := fun y hy e => by
    rcases hfree y hy e with z | z
    · exact I.ok.has _ (.inl z)
    · exact I.ok.has _ (.inr z)
  cases κ with
  | plain =>
    obtain ⟨d1, d2, hb⟩ := hk
    refine PySem.W.kla_eval (by rw [defaultsOf_eq, d1, d2]; rfl) ?_
    rw [makeFunction_eq]
    simp only [List.zip_nil_right, List.filterMap_nil, List.isEmpty_nil, if_true, pure_bind]
    exact tail_new I TB hcode hm hu hT hf fun f c1 H1 s1 I1 e1 t1 a1 a2 nf => ⟨.ref f, H1, I1, rfl, h f H1 e1 t1 ⟨_, c1, a1, a2, rfl⟩ nf⟩
  | dflt x v =>
    obtain ⟨⟨j, p, d1⟩, d2, hb⟩ := hk
    refine PySem.W.kdv_lam (by rw [d1]; rfl) d2 ?_
    rw [d1]
    refine PySem.W.kdv_all1 (thn ((pe_int (X := X) (i := v) (j := j) (pos := p)).run pins s σ H (fun u H1 => u = .int v ∧ H1 = H) I ⟨rfl, rfl⟩) fun u s1 ⟨w1, H1, I1, r1, e1, e2⟩ => PySem.W.kdv_all0 ?_)
    subst e1 e2
    rw [makeFunction_eq]
    simp only [List.zip_nil_right, List.filterMap_nil, List.isEmpty_nil, List.isEmpty_cons, Bool.false_eq_true, if_false, if_true, pure_bind]
    refine wpAny_bind (wpAny_newTextTuple ?_)
    have nt : H1 s1.heap.objs.size = none := I1.hok.fresh (Nat.le_refl _)
    have I2 := I1.laid (t' := s1.toks) (a := s1.heap.objs.size) (o := .tup [V.int v]) (h' := s1.heap.push { cls := .type "tuple", data := .seq ([u] : List Value).toArray }) (fun b u e => Heap.get?_push_of_some _ e) (Nat.le_refl _)
      ⟨by show 1 ≤ sizeLine; decide, [u], .cons r1 .nil, ⟨_, Heap.get?_push_size _ rfl, rfl, _, rfl⟩⟩
    refine tail_new I2 TB hcode hm hu (tabs_new hT nt) hf fun f c1 H3 s3 I3 e3 t3 a1 a2 nf => ?_
    have nf1 : H1 f = none := by
      by_cases z : f = s1.heap.objs.size
      · rw [z]; exact nt
      · rw [upd_ne z] at nf; exact nf
    refine ⟨.ref f, H3, I3, rfl, h f H3 ((ext_new (ExtN.refl _) nt).trans e3) t3 ⟨_, c1, a1, a2, _, rfl, e3 _ _ upd_same (fun _ z => by cases z)⟩ nf1⟩
end LM

set_option linter.all false
namespace LM
open PySem PySem.Spec PyProof.Rows L2
open LamX (Tabs TabS ExtN TabB CodeO)
/-- the names of a lambda: none of the slots is its own -/
structure LS (N : List Str) (scope : Scope) : Prop where
  kind : scope.kind = .function
  co : scope.isCoroutine = false
  gen : scope.isGenerator = false
  loc : ∀ y ∈ scope.names, y.2 = .local → y.1 ∉ N
  cell : ∀ y ∈ scope.names, y.2 ≠ .cell
def lsB (N : List Str) (scope : Scope) : Bool :=
  decide (scope.kind = .function) && !scope.isCoroutine && !scope.isGenerator && scope.names.all fun y => (!decide (y.2 = .local) || !decide (y.1 ∈ N)) && !decide (y.2 = .cell)
theorem ls_by {N : List Str} {scope : Scope} (h : lsB N scope = true) : LS N scope := by
  unfold lsB at h
  simp only [Bool.and_eq_true, Bool.or_eq_true, Bool.not_eq_true', decide_eq_true_eq, decide_eq_false_iff_not, List.all_eq_true] at h
  obtain ⟨⟨⟨a, b⟩, c⟩, d⟩ := h
  exact ⟨a, b, c, fun y hy e => ((d y hy).1).elim (fun z => absurd e z) id, fun y hy => (d y hy).2⟩
def freeB (sc scope : Scope) : Bool := scope.names.all fun y => !decide (y.2 = .free) || decide (sc.names.lookup y.1 = some .cell) || decide (sc.names.lookup y.1 = some .free)
theorem free_by {sc scope : Scope} (h : freeB sc scope = true) : ∀ y ∈ scope.names, y.2 = .free → sc.names.lookup y.1 = some .cell ∨ sc.names.lookup y.1 = some .free := fun y hy e => by
  have z := List.all_eq_true.mp h y hy
  simp only [Bool.or_eq_true, Bool.not_eq_true', decide_eq_true_eq, decide_eq_false_iff_not] at z
  rcases z with (z | z) | z
  · exact absurd e z
  · exact .inl z
  · exact .inr z
/-- the cells of a lambda hold what the slots tell -/
structure CellsOk (N : List Str) (cl : List (Str × Addr)) (scope : Scope) (σ : L2.St) (H : Hp) (h : Heap) : Prop where
  at_ : ∀ y c, cl.lookup y = some c → H c = none ∧ ∃ v, h.IsCell c v
  inj : ∀ x y c, cl.lookup x = some c → cl.lookup y = some c → x = y
  has : ∀ y, scope.names.lookup y = some .free → ∃ c, cl.lookup y = some c
  val : ∀ (i : Nat) (y : Str) (v : V), N[i]? = some y → σ[i]? = some (some v) → scope.names.lookup y = some .free → ∃ c u, cl.lookup y = some c ∧ RelV v u ∧ h.IsCell c (some u)
theorem cell_un {fs ex : List Addr} {H H' : Hp} {h h' : Heap} (un : Un fs ex H H' h h') {c : Addr} {v : Option Value} (n : H c = none) (nx : c ∉ ex) (z : h.IsCell c v) : h'.IsCell c v ∧ H' c = none := by
  obtain ⟨o, ho, hd⟩ := z
  obtain ⟨sl, q⟩ := un.any ho n nx
  exact ⟨⟨_, q, hd⟩, un.free c o ho n nx⟩
theorem CellsOk.un {N : List Str} {cl : List (Str × Addr)} {scope : Scope} {σ : L2.St} {H H' : Hp} {h h' : Heap} {fs ex : List Addr} (k : CellsOk N cl scope σ H h) (un : Un fs ex H H' h h') (nx : ∀ y c, cl.lookup y = some c → c ∉ ex) : CellsOk N cl scope σ H' h' where
  at_ := fun y c e => by
    obtain ⟨n, v, z⟩ := k.at_ y c e
    obtain ⟨a, b⟩ := cell_un un n (nx y c e) z
    exact ⟨b, v, a⟩
  inj := k.inj
  has := k.has
  val := fun i y v e1 e2 e3 => by
    obtain ⟨c, u, a, r, z⟩ := k.val i y v e1 e2 e3
    exact ⟨c, u, a, r, (cell_un un (k.at_ y c a).1 (nx y c a) z).1⟩
theorem CellsOk.slots {N : List Str} {cl : List (Str × Addr)} {scope : Scope} {σ σ' : L2.St} {H : Hp} {h : Heap} (k : CellsOk N cl scope σ H h) (w : ∀ (i : Nat) (y : Str) (v : V), N[i]? = some y → scope.names.lookup y = some .free → σ'[i]? = some (some v) → σ[i]? = some (some v)) : CellsOk N cl scope σ' H h :=
  ⟨k.at_, k.inj, k.has, fun i y v e1 e2 e3 => k.val i y v e1 (w i y v e1 e3 e2) e3⟩
section
variable {X : Cx} {pins : List (Addr × Obj)} {σ : L2.St} {H : Hp} {s : Shared}
theorem clo_lk (I : X.Ok) {L : LTx} (hfree : ∀ y ∈ L.scope.names, y.2 = .free → X.env.scope.names.lookup y.1 = some .cell ∨ X.env.scope.names.lookup y.1 = some .free) {y : Str} {c : Addr} (e : (clo X L).lookup y = some c) : X.env.cells.lookup y = some c := by
  rcases cloFrom_mem (PySem.mem_of_lookup e) with hm | ⟨h1, h2⟩
  · cases hm
  · obtain ⟨c1, hc⟩ : ∃ c, X.env.cells.lookup y = some c := by
      rcases hfree _ h1 rfl with z | z
      · exact I.has _ (.inl z)
      · exact I.has _ (.inr z)
    have e2 : c = c1 := by rw [h2, hc] <;> rfl
    rw [e2]
    exact hc
theorem cells_of {L : LTx} (I : Inv X pins σ H s) (hfree : ∀ y ∈ L.scope.names, y.2 = .free → X.env.scope.names.lookup y.1 = some .cell ∨ X.env.scope.names.lookup y.1 = some .free) : CellsOk X.N (clo X L) L.scope σ H s.heap where
  at_ := fun y c e => ⟨I.freeC y c (clo_lk I.ok hfree e), I.cell y c (clo_lk I.ok hfree e)⟩
  inj := fun x y c e1 e2 => I.ok.inj x y c (clo_lk I.ok hfree e1) (clo_lk I.ok hfree e2)
  has := fun y e => mem_lookup (cloFrom_has (cells := X.env.cells) (acc := []) (PySem.mem_of_lookup e))
  val := fun i y v e1 e2 e3 => by
    obtain ⟨m, hn, hl⟩ := I.loc
    have fr := hfree _ (PySem.mem_of_lookup e3) rfl
    obtain ⟨u, r, q⟩ := hl i y v e1 e2 (fr.elim (fun z => .inr (.inl z)) (fun z => .inr (.inr z)))
    obtain ⟨c, ec⟩ := mem_lookup (cloFrom_has (cells := X.env.cells) (acc := []) (PySem.mem_of_lookup e3))
    refine ⟨c, u, ec, r, ?_⟩
    have c1 := clo_lk I.ok hfree ec
    rcases q with ⟨z, _⟩ | ⟨_, c3, e', z⟩
    · have z : X.env.scope.names.lookup y = some .local := z
      rcases fr with g | g
      · rw [show X.env.scope.names.lookup y = some .cell from g] at z; cases z
      · rw [show X.env.scope.names.lookup y = some .free from g] at z; cases z
    · rw [c1] at e'
      cases e'
      exact z
end
/-- the context of a lambda's body -/
abbrev lenv (q : Str) (cl : List (Str × Addr)) (scope : Scope) (L f c1 : Addr) : Env := PySem.W.envX q scope L f (.ref c1) cl
def lcx (Z : Cx) (q : Str) (cl : List (Str × Addr)) (A : Around) (outer : List Env) (s : Shared) (H : Hp) (E : XK) (scope : Scope) (f c1 : Addr) : Cx where
  prog := Z.prog
  w := Z.w
  K := Z.K
  mg := Z.mg
  base := Z.base
  N := Z.N
  A := A.deeper (lenv q cl scope s.heap.objs.size f c1)
  s_0 := s
  H_0 := H
  env := lenv q cl scope s.heap.objs.size f c1
  outer := outer
  stack := lenv q cl scope s.heap.objs.size f c1 :: outer
  fn := fun _ => false
  ex := []
  pn := []
  calm := true
  xe := fun e s1 => wpAny (model Z.prog Z.w) (A.deeper (lenv q cl scope s.heap.objs.size f c1)) (leaving (lenv q cl scope s.heap.objs.size f c1) e) (fun _ s2 => L2.CX Z.prog Z.w outer H s E e s2) (fun e2 s2 => L2.CX Z.prog Z.w outer H s E e2 s2) s1
theorem passL {Z : Cx} {q : Str} {cl : List (Str × Addr)} {A : Around} {outer : List Env} {s : Shared} {H : Hp} {E : XK} {scope : Scope} {f c1 : Addr} : Passes (L2.CX Z.prog Z.w) (lcx Z q cl A outer s H E scope f c1) E := fun pins σ H s e s' I c => L2.passes_call (W := fun cls d _ H => E cls d H) (takes_of rfl rfl rfl rfl) (fun _ _ _ _ h => h) pins σ H s e s' I c
theorem start {Z : Cx} {q : Str} {cl : List (Str × Addr)} {A : Around} {outer : List Env} {E : XK} {scope : Scope} {f c1 : Addr} {σ : L2.St} {HZ : Hp} {s1 : Shared} {h1 : Heap} {tk : Nat} {bs : List (Str × Value)} (ck : CellsOk Z.N cl scope σ HZ s1.heap) (L : LS Z.N scope) (hl : σ.length = Z.N.length) (e0 : Env0 Z.prog Z.w Z.K Z.mg Z.base A outer s1 HZ) (hd : A.handled = none)
    (hns : h1.Ns s1.heap.objs.size fun y => bs.reverse.lookup y) (kp : ∀ b o, s1.heap.get? b = some o → h1.get? b = some o) : Inv (lcx Z q cl A outer s1 HZ E scope f c1) [] σ HZ { s1 with heap := h1, toks := tk } := by
  have kc : ∀ {c : Addr} {v : Option Value}, s1.heap.IsCell c v → h1.IsCell c v := fun {c v} ⟨o, ho, hd⟩ => ⟨o, kp _ _ ho, hd⟩
  have nx : ∀ b : Addr, b ∉ (lcx Z q cl A outer s1 HZ E scope f c1).ex := fun b z => absurd (show b ∈ ([] : List Addr) from z) (by simp)
  refine ⟨⟨e0.mod, L.kind, rfl, rfl, Nat.le_refl _, ck.inj, fun y hy => ?_, fun y c z _ => ?_, fun _ => hd, Around.frames_deeper e0.frames, .inr ⟨rfl, rfl⟩, fun b z => absurd z (nx b), e0.bs, e0.bsz, fun b _ _ => nx b, fun b z => absurd z (nx b), e0.funs, e0.frf⟩,
    rfl, e0.bare, Un.kept kp, ⟨_, hns, fun i y v e1 e2 e3 => ?_⟩, fun y c e => ?_, e0.hok.fresh (Nat.le_refl _), fun y c e => (ck.at_ y c e).1, fun p hp => absurd (show p ∈ ([] : List (Addr × Obj)) ++ [] from hp) (by simp), e0.hok.kept kp, hl⟩
  · have hy : scope.names.lookup y = some .cell ∨ scope.names.lookup y = some .free := hy
    rcases hy with z | z
    · exact absurd rfl (L.cell _ (PySem.mem_of_lookup z))
    · exact ck.has y z
  · have z : false = true := z
    cases z
  · have e3 : Vis scope y := e3
    rcases e3 with z | z | z
    · exact absurd (List.mem_of_getElem? e1) (L.loc _ (PySem.mem_of_lookup z) rfl)
    · exact absurd rfl (L.cell _ (PySem.mem_of_lookup z))
    · obtain ⟨c, u, a, r, g⟩ := ck.val i y v e1 e2 z
      exact ⟨u, r, .inr ⟨.inr z, c, a, kc g⟩⟩
  · obtain ⟨_, v, z⟩ := ck.at_ y c e
    exact ⟨v, kc z⟩
end LM

set_option linter.all false
namespace LM
open PySem PySem.Spec PyProof.Rows L2
open LamX (Tabs TabS ExtN TabB CodeO GivesTo)
/-- what a call binds -/
def bnds (κ : LK) (u : Value) : List (Str × Value) := match κ with
  | .plain => []
  | .dflt x _ => [(x, u)]
def LK.loc (κ : LK) (scope : Scope) : Prop := match κ with
  | .plain => True
  | .dflt x _ => scope.names.lookup x = some .local
/-- what is known of a lambda's text, and of its body -/
structure LOk (Z : Cx) (q : Str) (cl : List (Str × Addr)) (L : LTx) (κ : LK) (k : Nat) (t : XK → TE) : Prop where
  ls : LS Z.N L.scope
  has : L.has κ
  loc : κ.loc L.scope
  body : ∀ (A : Around) (outer : List Env) (s : Shared) (H : Hp) (E : XK) (f c1 : Addr), Room k (A.deeper (lenv q cl L.scope s.heap.objs.size f c1)) → PE (lcx Z q cl A outer s H E L.scope f c1) L.body (t E)
/-- x(), in the def that got the lambda -/
theorem act {Z : Cx} {CXg : CXT} {Eg : XK} {Ng : List Str} {qg q : Str} {sg : Scope} {g f : Addr} {cdg : Value} {L : LTx} {κ : LK} {cl : List (Str × Addr)} {k i : Nat} {a : Str} {pn : List (Addr × Obj)} {xe : Value → Shared → Prop} {W : WX} {E : XK} {t : XK → TE} {p1 p2 : Pos} {A : Around} {stk : List Env} {s : Shared} {H : Hp} {σ : L2.St}
    (O : LOk Z q cl L κ k t) (ck : CellsOk Z.N cl L.scope σ H s.heap) (hl : σ.length = Z.N.length)
    (tk : Takes ((cxOf CXg Z.prog Z.w Z.K Z.mg Z.base Ng qg sg g cdg A stk s H Eg).tr pn xe) W) (hW : ∀ cls d σ' H', E cls d H' → W cls d σ' H') (hr : Room (k + 1) (A.deeper (envOfC qg sg s.heap.objs.size g cdg)))
    (hN : Ng[i]? = some a) (hv : Vis sg a) (hd : (a == ("__debug__" : Str)) = false := by decide) (hcd : (a == ("__classdict__" : Str)) = false := by decide) :
    PE ((cxOf CXg Z.prog Z.w Z.K Z.mg Z.base Ng qg sg g cdg A stk s H Eg).tr pn xe) (.Call (.Name a p1) [] [] p2) (fun σZ HZ Q => σZ[i]? = some (some (.ref f)) ∧ LamV L κ q cl HZ f ∧ t E σ HZ Q) := by
  refine ⟨fun pinsZ sZ σZ HZ Q IZ h => ?_⟩
  obtain ⟨hs, hlam, ht⟩ := h
  refine wpAny_Call_Name_kw (thn ((pe_var (pos := p1) (i := i) hN hv hd hcd).run pinsZ sZ σZ HZ (fun v H1 => v = .ref f ∧ H1 = HZ) IZ ⟨.ref f, hs, rfl, rfl⟩) fun u s1 ⟨v, H1, I1, r1, q1⟩ => ?_)
  obtain ⟨ev, eH⟩ := q1
  subst ev
  rw [eH] at I1
  obtain rfl : u = Value.ref f := r1
  obtain ⟨dV, c1, l1, l2, l3⟩ := hlam
  obtain ⟨⟨doc, pm, ct, ob⟩, _, _⟩ := I1.hok f _ l1
  obtain ⟨⟨oc, vs, tt, hoc, hdc, hvc⟩, _, _⟩ := I1.hok c1 _ l2
  refine PySem.W.callWith_F0 ⟨_, _, _, _, ob⟩ ?_
  have un : Un (frs stk) [] H HZ s.heap s1.heap := I1.base
  have ck1 := ck.un un fun _ _ _ z => nomatch z
  -- what the call binds
  obtain ⟨u, hbd⟩ : ∃ u, BindsTo s1 (L.fn q cl dV doc pm (.ref c1) ct) ⟨[], []⟩ (bnds κ u) := by
    have hh := O.has
    cases κ with
    | plain =>
      have l3 : dV = .none := l3
      subst l3
      exact ⟨.none, .of_eq (hh.2.2 _ _ _ _ _ _)⟩
    | dflt x v =>
      obtain ⟨tp, rfl, ht2⟩ := l3
      obtain ⟨_, its, rv, o, ho, hcl, n, hdt⟩ := I1.hok tp _ ht2
      cases rv with
      | cons r rr =>
        cases rr
        obtain ⟨kk, e1, e2⟩ := hh.2.2 q cl tp doc pm (.ref c1) ct
        exact ⟨_, BindsTo.of_defaults rfl ho hdt e1 (e2 _)⟩
  have rc : codeAny (model Z.prog Z.w) (A.deeper (envOfC qg sg s.heap.objs.size g cdg)) (.call (.ref f) ⟨[], []⟩) (CR (L2.CX Z.prog Z.w) (envOfC qg sg s.heap.objs.size g cdg :: stk) Z.prog Z.w HZ s1 Q E) s1 := by
    refine PySem.W.kla_callFunE hr.depth ob rfl O.ls.co O.ls.gen rfl ⟨c1, oc, vs, tt, rfl, hoc, hdc, hvc⟩ (hbd _ _ _ _ ?_)
    refine wpAny_newFunctionEnv (fun y hy => O.ls.cell y hy) (fun y hy => ?_) (fun h1 hns hsb => ⟨I1.nolimit.fresh _ hsb, ?_⟩) O.ls.kind
    · have hh := O.loc
      cases κ with
      | plain => exact absurd hy (by simp [bnds])
      | dflt x v =>
        obtain rfl : y = (x, u) := by simpa [bnds] using hy
        exact hh
    have kp : ∀ b o, s1.heap.get? b = some o → h1.get? b = some o := fun b o e => hsb.extBut b o (Nat.ne_of_lt (Heap.lt_size e)) (Heap.get?_push_of_some _ e)
    have J : Inv (lcx Z q cl (A.deeper (envOfC qg sg s.heap.objs.size g cdg)) (envOfC qg sg s.heap.objs.size g cdg :: stk) s1 HZ E L.scope f c1) [] σ HZ { s1 with heap := h1, toks := s1.toks + (bnds κ u).length } := start ck1 O.ls hl I1.env0 hr.hd hns kp
    show codeAny _ _ (.expr L.body (lenv q cl L.scope s1.heap.objs.size f c1)) _ _
    refine PySem.W.kla_codeExpr (wpAny_mono ((O.body _ _ s1 HZ E f c1 (hr.deeper _)).run [] _ _ HZ Q J ht) (fun v s2 hq => ?_) fun e s2 hq => hq)
    obtain ⟨w1, H2, J2, rv, qq⟩ := hq
    exact ⟨w1, H2, J2.os, J2.bare, J2.base, J2.hok, rv, qq⟩
  have pass : Passes (L2.CX Z.prog Z.w) ((cxOf CXg Z.prog Z.w Z.K Z.mg Z.base Ng qg sg g cdg A stk s H Eg).tr pn xe) E := passes_call tk hW
  refine wpAny_call (codeAny_mono rc fun r s2 hq => ?_)
  cases r with
  | error e => exact pass pinsZ σZ HZ s1 e s2 I1 hq
  | ok fl =>
    cases fl with
    | ret u => exact I1.after hq
    | next => exact hq.elim
    | brk => exact hq.elim
    | cont => exact hq.elim
/-- the def that calls what it got, and all that is known of it -/
structure Asks (Z : Cx) (x : Str) (q : Str) (k : Nat) (TT : (XK → Hp → VK → Prop) → Hp → VK → Prop) : Prop where
  ex : ∃ (g : Addr) (pg : Arguments) (bg : List Stmt) (sg : Scope) (dV kV doc pm cdv ct oc : Value) (an od : Option Addr) (osl : Array (Option Value)) (Ng : List Str) (a : Str),
    Z.mg x = some (.ref g) ∧ PySem.W.keepIn Z.K (.ref g) = true ∧ Z.K.lookup g = some ⟨oc, od, .func (PySem.W.fnOf x x pg bg sg dV kV doc pm an cdv ct), osl⟩ ∧ PySem.W.codeIn Z.K cdv x = true ∧
    L2.Binds Z.K (PySem.W.fnOf x x pg bg sg dV kV doc pm an cdv ct) [a] [] ∧ FnScope Ng [a] sg ∧ Ng[0]? = some a ∧ Vis sg a ∧ (a == ("__debug__" : Str)) = false ∧ (a == ("__classdict__" : Str)) = false ∧ GivesTo Z Ng x sg g cdv bg a q TT
  db : (x == ("__debug__" : Str)) = false
theorem vals_one {v : V} {us : List Value} (r : Vals [v] us) : ∃ u, us = [u] ∧ RelV v u := by
  cases r with
  | cons r rr =>
    cases rr
    exact ⟨_, rfl, r⟩
/-- x(e), e a lambda that was made in this def or around it: what its cells hold is told at this very state -/
theorem call_lam {Z : Cx} {x q : Str} {k : Nat} {TT : (XK → Hp → VK → Prop) → Hp → VK → Prop} {e : Expr} {te : TE} {p pos : Pos} {pins : List (Addr × Obj)} {s : Shared} {σ : L2.St} {H : Hp} {Q : VK} (I : Inv Z pins σ H s) (As : Asks Z x q k TT) (hg : Gl Z x) (hr : Room (k + 2) Z.A) (he : PE Z e te)
    (hte : te σ H fun v H1 => ∃ (f : Addr) (L : LTx) (κ : LK) (cl : List (Str × Addr)) (t : XK → TE), v = .ref f ∧ LOk Z q cl L κ k t ∧ (∀ s1 : Shared, Inv Z pins σ H1 s1 → CellsOk Z.N cl L.scope σ H1 s1.heap) ∧ LamV L κ q cl H1 f ∧ TT (fun E H' Q' => LamV L κ q cl H' f ∧ t E σ H' Q') H1 Q)
    (hse : starEach [e] Z.env = [(false, eval e Z.env)]) : wpAny (model Z.prog Z.w) Z.A (eval (.Call (.Name x p) [e] [] pos) Z.env) (EP Z pins σ Q) Z.xe s := by
  obtain ⟨g, pg, bg, sg, dV, kV, doc, pm, cdv, ct, oc, an, od, osl, Ng, a, hm, hk, lk, hcg, hb, Sg, hNg, hva, hda, hca, hG⟩ := As.ex
  refine wpAny_Call_Name_kw (ld_glob I hg hm ?_ As.db)
  refine PySem.W.callWith_K (h₀ := Z.base) I.ok.mod.kin hk ?_ (by rw [hse]; rfl) (by rfl)
  rw [hse]
  refine Calls.spliced_cons (thn (he.run pins s σ H _ I hte) fun u s1 ⟨v, H1, I1, r1, f, L, κ, cl, t, e1, O, ck, lv, h⟩ => ?_)
  subst e1
  obtain rfl : u = Value.ref f := r1
  refine Calls.spliced_nil ⟨I1.kIn, ?_⟩
  obtain ⟨dL, c1, l1, l2, l3⟩ := id lv
  have rc : codeAny (model Z.prog Z.w) Z.A (.call (.ref g) ⟨[.ref f], []⟩) (CR C8.CX0 Z.stack Z.prog Z.w H1 s1 Q C8.E0) s1 := by
    refine LamX.run_ofS (N := Ng) (ps := [a]) (us := [.ref f]) (vs := [.ref f]) lk hcg Sg hr I1.env0 (hb s1 [.ref f] I1.kIn rfl) (.cons rfl .nil) rfl fun hr1 => ?_
    refine (hG f c1 s1 H1 Q (fun E H' Q' => LamV L κ q cl H' f ∧ t E σ H' Q') (fun W pn xe E p1 p2 tk hW => ?_) l2 h).elim fun t1 z => ⟨t1, z.1.nox, z.2⟩
    have ac := act (p1 := p1) (p2 := p2) O (ck s1 I1) I1.len tk hW hr1 hNg hva hda hca (f := f)
    exact ⟨fun pn2 s2 σ2 H2 Q2 I2 h2 => ac.run pn2 s2 σ2 H2 Q2 I2 ⟨h2.1, h2.2.2⟩⟩
  refine wpAny_call (codeAny_mono rc fun r s2 hq => ?_)
  cases r with
  | error z => exact (show False from hq).elim
  | ok fl =>
    cases fl with
    | ret z => exact I1.after hq
    | next => exact hq.elim
    | brk => exact hq.elim
    | cont => exact hq.elim
end LM

set_option linter.all false
/-! [e for target in iter], where e may look at what the cells of the def around hold -/
namespace LM
open PySem PySem.Spec PyProof.Rows L2
/-- the element's reading may rest on the state in which the block begins -/
def EltOk (X : Cx) (σ : L2.St) (scope : Scope) (vs : List Nat) (elt : Expr) (te : TE) : Prop :=
  ∀ (pins0 : List (Addr × Obj)) (sB : Shared) (HB : Hp) (C : Addr) (cl : List (Str × Addr)) (fp : List Addr), Inv X pins0 σ HB sB → (∀ b ∈ fp, ∀ y c, X.env.cells.lookup y = some c → c ≠ b) →
    ∀ (pins : List (Addr × Obj)) (s : Shared) (σE : L2.St) (H : Hp) (Q : VK), wipe σE vs = wipe σ vs → Inv (X.blk sB HB scope (compEnvC scope cl C X.env) fp) pins σE H s → te σE H Q →
      wpAny (model X.prog X.w) X.A (eval elt (compEnvC scope cl C X.env)) (EP (X.blk sB HB scope (compEnvC scope cl C X.env) fp) pins σE Q) (fun _ _ => False) s
section
variable {X : Cx} {pins : List (Addr × Obj)} {s : Shared} {σ : L2.St} {H : Hp} {Q : VK} {elt tg iter : Expr} {scope : Scope} {own : List (Str × Nat)} {pos : Pos} {wi : TI} {g : TG} {te : TE}
theorem lcx_run (calm : X.calm = true) (nd : X.N.Nodup) (I : Inv X pins σ H s) (hi : PI X tg iter wi) (ok : BlkOk X.N X.env.scope scope own)
    (hg : ∀ (s : Shared) (H : Hp) (C : Addr) (cl : List (Str × Addr)) (fp : List Addr), PG (X.blk s H scope (compEnvC scope cl C X.env) fp) tg g) (he : EltOk X σ scope (own.map (·.2)) elt te) (hs : ∀ x, foldedSetIterable iter X.env x = pure x)
    (h : tLc wi g tYes te (own.map (·.2)) σ H Q) : wpAny (model X.prog X.w) X.A (eval (.ListComp elt [⟨tg, iter, [], 0⟩] scope pos) X.env) (EP X pins σ Q) X.xe s := by
  rw [eval_ListComp]
  have fr : ∀ y ∈ scope.names, y.2 = .free → ∃ c, X.env.cells.lookup y.1 = some c := fun y hy e => (ok.free y hy e).elim (fun z => I.ok.has _ (.inl z)) fun z => I.ok.has _ (.inr z)
  refine wpAny_comprehension_free (use := none) rfl hs (closure_ok fr) ok.kind (fun y hy e => by rw [ok.uniq y hy, e])
    (thn (hi.run pins s σ H _ I h) fun xv sa hx => thn hx fun itv sb hz => ?_)
  obtain ⟨it, fp, tn, J, Hb, rfl, Ib, T, stb, fb, qb⟩ := hz
  refine wpAny_newObj_type (newEnv_comp ?_) (by show 0 ≤ sizeLine; decide)
  obtain ⟨D, hD⟩ : ∃ D, sb.heap.objs.size = D := ⟨_, rfl⟩
  have nD : Hb D = none := Ib.hok.fresh (Nat.le_of_eq hD)
  obtain ⟨W, ⟨m0, w0⟩, turn⟩ := qb D nD
  rw [hD]
  have Ic0 : Inv X pins σ (upd Hb D (.lst [])) { sb with heap := sb.heap.push { cls := .type "list", data := .seq ([] : List Value).toArray } } :=
    Ib.laid (t' := sb.toks) (fun b o e => Heap.get?_push_of_some _ e) (Nat.le_of_eq hD) ⟨Nat.zero_le _, [], 0, .nil, by rw [← hD]; exact Heap.get?_push_size _ rfl⟩
  have fpl : ∀ b ∈ fp, b < sb.heap.objs.size := fun b hb => (T.obj _ _ stb b hb).elim fun o e => Heap.lt_size e.1
  have heq0 : ({ sb with heap := sb.heap.push { cls := .type "list", data := .seq ([] : List Value).toArray } } : Shared).heap = sb.heap.push { cls := .type "list", data := .seq ([] : List Value).toArray } := rfl
  generalize hsc : ({ sb with heap := sb.heap.push { cls := .type "list", data := .seq ([] : List Value).toArray } } : Shared) = sc at Ic0 heq0 ⊢
  obtain ⟨Hc, hHc⟩ : ∃ Hc, upd Hb D (.lst []) = Hc := ⟨_, rfl⟩
  rw [hHc] at Ic0 w0
  have fc : ∀ b ∈ fp, FpOk X pins Hc b ∧ b < sc.heap.objs.size := fun b hb => by
    have lt := fpl b hb
    have ne : b ≠ D := hD ▸ Nat.ne_of_lt lt
    refine ⟨⟨?_, (fb b hb).2⟩, by rw [heq0, Heap.size_push]; exact Nat.lt_succ_of_lt lt⟩
    rw [← hHc, upd_ne ne]
    exact (fb b hb).1
  have stc : tn 0 sc.heap := T.keep _ _ _ stb fun b _ o e => by rw [heq0]; exact Heap.get?_push_of_some _ e
  have Id := block_start Ic0 ok nd fc
  generalize hcl : cellsFrom (sc.heap.objs.size + 1) scope.names (cloFrom X.env.cells scope.names []) = cl at Id
  have goal2 : codeAny (model X.prog X.w) X.A (.compStart (.ListComp elt [⟨tg, iter, [], 0⟩] scope pos) 0 (.ref it) (.ref D) (compEnvC scope cl sc.heap.objs.size X.env)) (compPost (model X.prog X.w) X.A X.xe none (EP X pins σ Q) (.ref D) sc.heap.objs.size) { sc with heap := pushCells (sc.heap.push { cls := .type "dict", data := .dict #[] }) scope.names } := by
    have ee := he pins sc Hc sc.heap.objs.size cl fp Ic0 fun b hb y c e => (fc b hb).1.2.2.2.2.1 y c e
    have gg := hg sc Hc sc.heap.objs.size cl fp
    have nB : ∀ b ∈ fp, Hc b = none := fun b hb => (fc b hb).1.1
    have std : tn 0 (pushCells (sc.heap.push { cls := .type "dict", data := .dict #[] }) scope.names) := T.keep _ _ _ stc fun b _ o e => pushCells_keeps _ _ _ _ (Heap.get?_push_of_some _ e)
    obtain ⟨ce, hce⟩ : ∃ ce, compEnvC scope cl sc.heap.objs.size X.env = ce := ⟨_, rfl⟩
    have lce : ce.locals = sc.heap.objs.size := by rw [← hce]; rfl
    rw [hce] at ee gg Id ⊢
    -- the iterator's objects, in the block
    have fpB : ∀ {σ1 : L2.St} {H1 : Hp} {s1 : Shared}, Inv (X.blk sc Hc scope ce fp) [] σ1 H1 s1 → (∀ b ∈ fp, H1 b = none) → ∀ b ∈ fp, FpOk (X.blk sc Hc scope ce fp) [] H1 b := fun {σ1 H1 s1} J n b hb =>
      ⟨n b hb, (J.ok.exf b hb).1, J.ok.exfs b hb, .inl hb, fun y c e => (J.ok.exf b hb).2 y c e, fun q hq => absurd (show q ∈ ([] : List (Addr × Obj)) ++ [] from hq) (by simp)⟩
    have turns : codeAny (model X.prog X.w) X.A (.compLoop (.ListComp elt [⟨tg, iter, [], 0⟩] scope pos) 0 (.ref it) (.ref D) ce) (compPost (model X.prog X.w) X.A X.xe none (EP X pins σ Q) (.ref D) sc.heap.objs.size) { sc with heap := pushCells (sc.heap.push { cls := .type "dict", data := .dict #[] }) scope.names } := by
      refine compLoop_any (fun n s1 => ∃ j H1, W j n H1 ∧ Inv (X.blk sc Hc scope ce fp) [] (wipe σ (own.map (·.2))) H1 s1 ∧ (∀ b ∈ fp, H1 b = none) ∧ tn j s1.heap) ?_ m0 ⟨0, Hc, w0, Id, nB, std⟩
      rintro n s1 ⟨j, H1, w1, I1, n1, st1⟩
      rcases turn j n H1 w1 with ⟨stop, fin⟩ | ⟨go, Nx, less, step⟩
      · refine thnF (T.done (X.blk sc Hc scope ce fp) rfl rfl rfl calm j [] s1 _ H1 (fun _ _ => False) I1 (fpB I1 n1) st1 stop) fun r s2 ⟨er, I2⟩ => ?_
        subst er
        have back : Inv X pins σ H1 s2 := Ic0.call' (ch := fp) I2.os I2.base I2.hok I2.bare fun b hb =>
          let z := (fc b hb).1
          ⟨z.2.2.2.1, z.2.1, z.2.2.2.2.1, z.2.2.2.2.2⟩
        have nL : H1 sc.heap.objs.size = none := lce ▸ I2.free
        obtain ⟨mm, hn, _⟩ := I2.loc
        refine ⟨mm, lce ▸ hn, fun g2 sb2 => ?_⟩
        obtain ⟨f0, f1, f2, f3, f4, f5⟩ := Ic0.fpOk (Nat.le_refl _) nL
        have fr3 : FpOk X pins H1 sc.heap.objs.size := Ic0.fpOk (Nat.le_refl _) nL
        exact ⟨.ref D, H1, back.turned (t' := s2.toks) (fun b o hb e => (sb2.2 b hb).trans e) f0 f1 f3 f4 f5, rfl, fin⟩
      · refine thnF (T.item (X.blk sc Hc scope ce fp) rfl rfl rfl calm j [] s1 _ H1 (fun _ _ => False) I1 (fpB I1 n1) st1 go) fun r s2 ⟨u, er, h2⟩ => ?_
        subst er
        refine thnF h2 fun _ s3 ⟨x, H3, I3, r3, y3, st3, n3⟩ => ?_
        have J3 := I3.pinned (fpB I3 n3) (T.obj _ _ st3)
        refine thnF (gg.run _ s3 _ H3 x u _ J3 r3 (step x H3 y3)) fun _ s4 ⟨σ4, H4, I4, wp4, q4⟩ => ?_
        refine wpAny_tests_nil ?_
        have q5 : te σ4 H4 fun y H5 => ∃ acc, H5 D = some (.lst acc) ∧ acc.length < sizeLine ∧ Nx (upd H5 D (.lst (acc ++ [y]))) := by
          have z : (if true = true then (te σ4 H4 fun y H5 => ∃ acc, H5 D = some (.lst acc) ∧ acc.length < sizeLine ∧ Nx (upd H5 D (.lst (acc ++ [y])))) else Nx H4) := q4
          rwa [if_pos rfl] at z
        simp only [if_true]
        refine thnF (ee _ s4 σ4 H4 _ wp4 I4 q5) fun z s5 ⟨yv, H5, I5, r5, acc, hD5, lt5, nx⟩ => ?_
        refine app_ok (X := X.blk sc Hc scope ce fp) I5 hD5 lt5 r5 fun s6 I6 => ?_
        obtain ⟨m1, lm, w6⟩ := less _ nx
        have pin6 : ∀ b ∈ fp, ∀ o, s3.heap.get? b = some o → s6.heap.get? b = some o ∧ upd H5 D (.lst (acc ++ [yv])) b = none := fun b hb o e =>
          let z := I6.pin (b, o) (List.mem_append_right _ (List.mem_append_right _ (mem_pinsAt hb e)))
          ⟨z.1, z.2.1⟩
        have ll : (wipe σ (own.map (·.2))).length = σ4.length := by rw [← wp4, wipe_length]
        refine ⟨m1, lm, j + 1, _, w6, (I6.unpinned (pins := [])).weak ll (fun i v e => ?_), fun b hb => ?_, T.keep _ _ _ st3 fun b hb o e => (pin6 b hb o e).1⟩
        · rw [← wp4] at e
          exact (wipe_some e).1
        · obtain ⟨o, e, _⟩ := T.obj _ _ st3 b hb
          exact (pin6 b hb o e).2
    exact codeAny_compStart_list turns (T.self X.A 0 _ _ _ std turns)
  exact goal2
end
end LM

set_option linter.all false
/-! _law_why(lambda ..), _law_why(name), [_law_why(name) for name in list] -/
namespace LM
open PySem PySem.Spec PyProof.Rows L2
open LamX (Tabs TabS ExtN TabB CodeO GivesTo)
/-- a lambda that the def makes: its text, what its call binds, its cells, its body's reading -/
structure LEnt where
  L : LTx
  κ : LK
  cl : List (Str × Addr)
  t : XK → TE
/-- all that is told of it -/
structure LGo (X : Cx) (k : Nat) (m : LEnt) : Prop where
  ok : LOk X (lq X) m.cl m.L m.κ k m.t
  cl : m.cl = clo X m.L
  free : ∀ y ∈ m.L.scope.names, y.2 = .free → X.env.scope.names.lookup y.1 = some .cell ∨ X.env.scope.names.lookup y.1 = some .free
def tAsk (TT : (XK → Hp → VK → Prop) → Hp → VK → Prop) (q : Str) (ls : List LEnt) (te : TE) : TE := fun σ H Q => te σ H fun v H1 => ∃ (f : Addr) (m : LEnt), m ∈ ls ∧ v = .ref f ∧ LamV m.L m.κ q m.cl H1 f ∧ TT (fun E H' Q' => LamV m.L m.κ q m.cl H' f ∧ m.t E σ H' Q') H1 Q
section
variable {X : Cx} {x : Str} {k : Nat} {TT : (XK → Hp → VK → Prop) → Hp → VK → Prop} {ls : List LEnt} {p pos : Pos}
theorem pe_ask {e : Expr} {te : TE} (As : Asks X x (lq X) k TT) (hg : Gl X x) (hr : Room (k + 2) X.A) (hls : ∀ m ∈ ls, LGo X k m) (he : PE X e te) (mono : ∀ σ H (Q1 Q2 : VK), (∀ v H', Q1 v H' → Q2 v H') → te σ H Q1 → te σ H Q2) (hse : starEach [e] X.env = [(false, eval e X.env)] := by rfl) : PE X (.Call (.Name x p) [e] [] pos) (tAsk TT (lq X) ls te) := by
  refine ⟨fun pins s σ H Q I h => call_lam I As hg hr he (mono σ H _ _ (fun v H1 z => ?_) h) hse⟩
  obtain ⟨f, m, hm, rfl, lv, z⟩ := z
  have G := hls m hm
  refine ⟨f, m.L, m.κ, m.cl, m.t, rfl, G.ok, fun s1 I1 => ?_, lv, z⟩
  rw [G.cl]
  exact cells_of I1 G.free
/-- the names of the comprehension are none of the lambda's -/
def OffOwn (own : List (Str × Nat)) (m : LEnt) : Prop := ∀ y ∈ m.L.scope.names, y.2 = .free → y.1 ∉ own.map (·.1)
theorem wipe_off {σ : L2.St} {i : Nat} : ∀ {vs : List Nat}, i ∉ vs → (wipe σ vs)[i]? = σ[i]?
  | [], _ => rfl
  | v :: vs, h => by
    unfold wipe
    rw [List.getElem?_set_ne (fun z => h (by simp [z]))]
    exact wipe_off fun z => h (List.mem_cons_of_mem _ z)
/-- x(v) within the block -/
def tAskV (TT : (XK → Hp → VK → Prop) → Hp → VK → Prop) (q : Str) (ls : List LEnt) (j : Nat) : TE := fun σ H Q => ∃ (f : Addr) (m : LEnt), m ∈ ls ∧ σ[j]? = some (some (.ref f)) ∧ LamV m.L m.κ q m.cl H f ∧ TT (fun E H' Q' => LamV m.L m.κ q m.cl H' f ∧ m.t E σ H' Q') H Q
theorem pe_lcask {j : Nat} {tg iter e : Expr} {scope : Scope} {own : List (Str × Nat)} {wi : TI} {g : TG} {pos2 : Pos} (As : Asks X x (lq X) k TT) (hr : Room (k + 2) X.A) (hls : ∀ m ∈ ls, LGo X k m ∧ OffOwn own m) (calm : X.calm = true) (nd : X.N.Nodup) (hi : PI X tg iter wi) (ok : BlkOk X.N X.env.scope scope own)
    (hg : ∀ (s : Shared) (H : Hp) (C : Addr) (cl : List (Str × Addr)) (fp : List Addr), PG (X.blk s H scope (compEnvC scope cl C X.env) fp) tg g)
    (hgl : ∀ (s : Shared) (H : Hp) (C : Addr) (cl : List (Str × Addr)) (fp : List Addr), Gl (X.blk s H scope (compEnvC scope cl C X.env) fp) x)
    (hv : ∀ (s : Shared) (H : Hp) (C : Addr) (cl : List (Str × Addr)) (fp : List Addr), PE (X.blk s H scope (compEnvC scope cl C X.env) fp) e (tVar j)) (hse : ∀ env : Env, starEach [e] env = [(false, eval e env)] := by intro _; rfl)
    (hs : ∀ x, foldedSetIterable iter X.env x = pure x := by intro _; rfl) : PE X (.ListComp (.Call (.Name x p) [e] [] pos) [⟨tg, iter, [], 0⟩] scope pos2) (tLc wi g tYes (tAskV TT (lq X) ls j) (own.map (·.2))) := by
  refine ⟨fun pins s σ H Q I h => lcx_run calm nd I hi ok hg ?_ hs h⟩
  intro pins0 sB HB C cl fp I0 nfp pn s1 σE H1 Q1 hw J z
  obtain ⟨f, m, hm, hj, lv, z⟩ := z
  obtain ⟨G, off⟩ := hls m hm
  refine call_lam (Z := X.blk sB HB scope (compEnvC scope cl C X.env) fp) (q := lq X) (TT := TT) (k := k) J ⟨As.ex, As.db⟩ (hgl sB HB C cl fp) hr (hv sB HB C cl fp) ⟨.ref f, hj, f, m.L, m.κ, m.cl, m.t, rfl, ⟨G.ok.ls, G.ok.has, G.ok.loc, G.ok.body⟩, fun s2 J2 => ?_, lv, z⟩ (hse _)
  have c0 : CellsOk X.N m.cl m.L.scope σ HB sB.heap := by
    rw [G.cl]
    exact cells_of I0 G.free
  have c1 : CellsOk X.N m.cl m.L.scope σ H1 s2.heap := c0.un J2.base fun y c e hb => by
    rw [G.cl] at e
    exact nfp c hb y c (clo_lk I0.ok G.free e) rfl
  refine c1.slots fun i y u e1 e2 e3 => ?_
  have ni : i ∉ own.map (·.2) := fun hi => by
    rw [List.mem_map] at hi
    obtain ⟨o, ho, rfl⟩ := hi
    have := ok.ix o ho
    rw [e1] at this
    exact off (y, .free) (PySem.mem_of_lookup e2) rfl (List.mem_map.mpr ⟨o, ho, (Option.some.inj this).symm⟩)
  rw [← wipe_off ni, ← hw, wipe_off ni]
  exact e3
/-- one after the other: what is told of a list of lambdas at a, the answers at D -/
def Chain (TT : (XK → Hp → VK → Prop) → Hp → VK → Prop) (q : Str) (ls : List LEnt) (j : Nat) (σ : L2.St) (K : PySem.W.Frag) (a D : Addr) (all : List V) (Qd : Hp → Prop) : List Addr → Hp → Prop
  | [], H => Qd H
  | f :: r, H => ∃ m : LEnt, m ∈ ls ∧ LamV m.L m.κ q m.cl H f ∧ TT (fun E H' Q' => LamV m.L m.κ q m.cl H' f ∧ m.t E (σ.set j (some (.ref f))) H' Q') H fun y H4 =>
      ∃ acc, H4 D = some (.lst acc) ∧ acc.length < sizeLine ∧ SqL K (upd H4 D (.lst (acc ++ [y]))) a all ∧ Chain TT q ls j σ K a D all Qd r (upd H4 D (.lst (acc ++ [y])))
theorem lc_ask {K : PySem.W.Frag} {q : Str} {j : Nat} {σ : L2.St} {H1 : Hp} {D a : Addr} {Qd : Hp → Prop} {vs : List Nat} (fs : List Addr) (hj : j < σ.length) (h0 : SqL K (upd H1 D (.lst [])) a (fs.map V.ref)) (hset : ∀ u, wipe ((wipe σ vs).set j u) vs = wipe σ vs)
    (hc : Chain TT q ls j (wipe σ vs) K a D (fs.map V.ref) Qd fs (upd H1 D (.lst []))) :
    ∃ W : Nat → Nat → Hp → Prop, (∃ m, W 0 m (upd H1 D (.lst []))) ∧ ∀ i m H, W i m H →
      ((Itl K a).stop i H ∧ Qd H) ∨ ((Itl K a).go i H ∧ ∃ Nx : Hp → Prop, (∀ H', Nx H' → ∃ m', m' < m ∧ W (i + 1) m' H') ∧ ∀ x H', (Itl K a).yld i H x H' → gName j x (wipe σ vs) H' fun σ2 H2 => wipe σ2 vs = wipe σ vs ∧ tYes σ2 H2 fun b H3 =>
        if b = true then tAskV TT q ls j σ2 H3 fun y H4 => ∃ acc, H4 D = some (.lst acc) ∧ acc.length < sizeLine ∧ Nx (upd H4 D (.lst (acc ++ [y]))) else Nx H3) := by
  refine ⟨fun i m H => m = fs.length - i ∧ i ≤ fs.length ∧ SqL K H a (fs.map V.ref) ∧ Chain TT q ls j (wipe σ vs) K a D (fs.map V.ref) Qd (fs.drop i) H, ⟨fs.length, by simp, Nat.zero_le _, h0, hc⟩, ?_⟩
  rintro i m H ⟨rfl, hi, hS, ch⟩
  by_cases hlt : i < fs.length
  · have ed : fs.drop i = fs[i] :: fs.drop (i + 1) := List.drop_eq_getElem_cons hlt
    rw [ed] at ch
    obtain ⟨m, hm, lv, z⟩ := ch
    have gx : (fs.map V.ref)[i]? = some (.ref fs[i]) := by simp [hlt]
    refine .inr ⟨⟨_, _, hS, gx⟩, fun H => SqL K H a (fs.map V.ref) ∧ Chain TT q ls j (wipe σ vs) K a D (fs.map V.ref) Qd (fs.drop (i + 1)) H, fun H' p' => ⟨fs.length - (i + 1), by omega, rfl, hlt, p'⟩, fun x H' y => ?_⟩
    obtain ⟨e, y⟩ := y
    subst e
    obtain rfl : V.ref fs[i] = x := Option.some.inj (gx.symm.trans (y _ hS))
    refine ⟨hset _, ?_⟩
    show (if true = true then _ else (SqL K H' a (fs.map V.ref) ∧ Chain TT q ls j (wipe σ vs) K a D (fs.map V.ref) Qd (fs.drop (i + 1)) H'))
    rw [if_pos rfl]
    exact ⟨fs[i], m, hm, List.getElem?_set_self (by rw [wipe_length]; exact hj), lv, z⟩
  · have e : i = fs.length := by omega
    subst e
    rw [List.drop_length] at ch
    exact .inl ⟨⟨_, hS, by simp⟩, ch⟩
theorem mono_var {j : Nat} : ∀ (σ : L2.St) (H : Hp) (Q1 Q2 : VK), (∀ v H', Q1 v H' → Q2 v H') → tVar j σ H Q1 → tVar j σ H Q2 := fun σ H Q1 Q2 h ⟨v, e, q⟩ => ⟨v, e, h _ _ q⟩
theorem mono_lamv {T : List (Addr × Str)} {L : LTx} {κ : LK} {q : Str} {cl : List (Str × Addr)} : ∀ (σ : L2.St) (H : Hp) (Q1 Q2 : VK), (∀ v H', Q1 v H' → Q2 v H') → tLamV T L κ q cl σ H Q1 → tLamV T L κ q cl σ H Q2 := fun σ H Q1 Q2 h ⟨a, b⟩ => ⟨a, fun f H1 x y z n => h _ _ (b f H1 x y z n)⟩
end
end LM

set_option linter.all false
/-! a lambda's text by its place; _law_why out of what is known of it -/
namespace LM
open PySem PySem.Spec PyProof.Rows L2
open LamX (Tabs TabS ExtN TabB CodeO GivesTo)
def lamT : Expr → LTx
  | .Lambda p b s _ => ⟨p, b, s⟩
  | e => ⟨⟨[], [], none, [], [], none, []⟩, e, default⟩
/-- _law_why(lambda ..) at its own def's table -/
def tAskL (TT : (XK → Hp → VK → Prop) → Hp → VK → Prop) (T : List (Addr × Str)) (q : Str) (m : LEnt) : TE := fun σ H Q => Tabs T H ∧ ∀ f H1, ExtN H H1 → Tabs T H1 → LamV m.L m.κ q m.cl H1 f → H f = none → TT (fun E H' Q' => LamV m.L m.κ q m.cl H' f ∧ m.t E σ H' Q') H1 Q
theorem pe_askl {X : Cx} {x : Str} {k : Nat} {TT : (XK → Hp → VK → Prop) → Hp → VK → Prop} {T : List (Addr × Str)} {c P : Addr} {m : LEnt} {e : Expr} {p lpos pos : Pos} (he : e = .Call (.Name x p) [.Lambda m.L.params m.L.body m.L.scope lpos] [] pos) (As : Asks X x (lq X) k TT) (hg : Gl X x) (hr : Room (k + 2) X.A) (G : LGo X k m)
    (TB : TabB X.base X.mg c P) (hcode : X.env.code = .ref c) (hm : (P, lq X) ∈ T) (hu : ∀ p ∈ T, p.1 = P → p.2 = lq X) : PE X e (tAskL TT T (lq X) m) := by
  rw [he]
  have h1 := pe_ask (p := p) (pos := pos) (ls := [m]) As hg hr (fun m1 hm1 => by rw [List.mem_singleton.mp hm1]; exact G) (pe_lamv (pos := lpos) (L := m.L) (κ := m.κ) TB hcode hm hu G.free G.ok.has) mono_lamv rfl
  refine ⟨fun pins s σ H Q I h => h1.run pins s σ H Q I ⟨h.1, fun f H1 a b lv n => ⟨f, m, List.mem_singleton.mpr rfl, rfl, ?_, ?_⟩⟩⟩
  · rw [← G.cl] at lv
    exact lv
  · rw [← G.cl] at lv
    exact h.2 f H1 a b lv n
/-- what is to be shown of a lambda, its text laid open -/
theorem go_of {X : Cx} {e : Expr} {κ : LK} {k : Nat} {t : XK → TE} (h : ∃ p b sc lp, e = .Lambda p b sc lp ∧ lsB X.N sc = true ∧ freeB X.env.scope sc = true ∧ LTx.has ⟨p, b, sc⟩ κ ∧ κ.loc sc ∧
    ∀ (A : Around) (outer : List Env) (s : Shared) (H : Hp) (E : XK) (f c1 : Addr), Room k (A.deeper (lenv (lq X) (clo X (lamT e)) sc s.heap.objs.size f c1)) → PE (lcx X (lq X) (clo X (lamT e)) A outer s H E sc f c1) b (t E)) : LGo X k ⟨lamT e, κ, clo X (lamT e), t⟩ := by
  obtain ⟨p, b, sc, lp, he, h1, h2, h3, h4, h5⟩ := h
  have el : lamT e = ⟨p, b, sc⟩ := by rw [he]; rfl
  rw [el] at h5 ⊢
  exact ⟨⟨ls_by h1, h3, h4, h5⟩, rfl, free_by h2⟩
theorem lamv_of {X : Cx} {T : List (Addr × Str)} {c P : Addr} {e : Expr} {κ : LK} {k : Nat} {t : XK → TE} (h : ∃ lp, e = .Lambda (lamT e).params (lamT e).body (lamT e).scope lp) (G : LGo X k ⟨lamT e, κ, clo X (lamT e), t⟩) (TB : TabB X.base X.mg c P) (hcode : X.env.code = .ref c) (hm : (P, lq X) ∈ T) (hu : ∀ p ∈ T, p.1 = P → p.2 = lq X) :
    PE X e (tLamV T (lamT e) κ (lq X) (clo X (lamT e))) := by
  obtain ⟨lp, he⟩ := h
  have := pe_lamv (pos := lp) (L := lamT e) (κ := κ) TB hcode hm hu G.free G.ok.has
  rw [← he] at this
  exact this
theorem lcask_of {X : Cx} {x : Str} {k : Nat} {TT : (XK → Hp → VK → Prop) → Hp → VK → Prop} {ls : List LEnt} {j : Nat} {lc : Expr} {own : List (Str × Nat)} {wi : TI} {g : TG} (As : Asks X x (lq X) k TT) (hr : Room (k + 2) X.A) (hls : ∀ m ∈ ls, LGo X k m ∧ OffOwn own m) (calm : X.calm = true) (nd : X.N.Nodup)
    (h : ∃ p pos e tg iter scope pos2, lc = .ListComp (.Call (.Name x p) [e] [] pos) [⟨tg, iter, [], 0⟩] scope pos2 ∧ PI X tg iter wi ∧ BlkOk X.N X.env.scope scope own ∧ (∀ (s : Shared) (H : Hp) (C : Addr) (cl : List (Str × Addr)) (fp : List Addr), PG (X.blk s H scope (compEnvC scope cl C X.env) fp) tg g) ∧
      (∀ (s : Shared) (H : Hp) (C : Addr) (cl : List (Str × Addr)) (fp : List Addr), Gl (X.blk s H scope (compEnvC scope cl C X.env) fp) x) ∧ (∀ (s : Shared) (H : Hp) (C : Addr) (cl : List (Str × Addr)) (fp : List Addr), PE (X.blk s H scope (compEnvC scope cl C X.env) fp) e (tVar j)) ∧
      (∀ env : Env, starEach [e] env = [(false, eval e env)]) ∧ ∀ x, foldedSetIterable iter X.env x = pure x) : PE X lc (tLc wi g tYes (tAskV TT (lq X) ls j) (own.map (·.2))) := by
  obtain ⟨p, pos, e, tg, iter, scope, pos2, rfl, h1, h2, h3, h4, h5, h6, h7⟩ := h
  exact pe_lcask As hr hls calm nd h1 h2 h3 h4 h5 h6 h7
def offB (own : List (Str × Nat)) (sc : Scope) : Bool := sc.names.all fun y => !decide (y.2 = .free) || !decide (y.1 ∈ own.map (·.1))
theorem off_by {own : List (Str × Nat)} {m : LEnt} (h : offB own m.L.scope = true) : OffOwn own m := fun y hy e => by
  have z := List.all_eq_true.mp h y hy
  simp only [Bool.or_eq_true, Bool.not_eq_true', decide_eq_false_iff_not] at z
  exact z.elim (fun z => absurd e z) id
end LM

namespace RF
open PySem L2 PyProof.Rows
/-! ### a def that may raise: called by position, by names alone -/
structure DfX (P : Program) (w : World) (K : PySem.W.Frag) (mg : Str → Option Value) (base : Heap) (k : Nat) (x : Str) (ps : List Str) (sp : Sp) : Prop where
  ex : ∃ (f : Addr) (fd : FuncData), FnOk P w K mg base (L2.CX P w) k f fd ps sp ∧ Binds K fd ps [] ∧ mg x = some (.ref f) ∧ PySem.W.keepIn K (.ref f) = true
theorem pe_callX {X : Cx} {j k : Nat} {x : Str} {ps : List Str} {sp : Sp} {E : XK} {p pos : Pos} {e : Expr} {es : List Expr} {t : TA} (F : DfX X.prog X.w X.K X.mg X.base k x ps sp) (hr : Room j X.A) (hk : k ≤ j) (hx : Passes (L2.CX X.prog X.w) X E) (ha : PA X (e :: es) t)
    (hg : Gl X x := by rfl) (hdb : (x == ("__debug__" : Str)) = false := by decide)
    (he : starEach (e :: es) X.env = (false, eval e X.env) :: starEach es X.env := by rfl) (hpl : (backTo pos (starEach es X.env)).any (·.1) = false := by rfl) :
    PE X (.Call (.Name x p) (e :: es) [] pos) (tCall sp [] E t) := by
  obtain ⟨f, fd, G, b, m, kp⟩ := F.ex
  exact pe_call G (hr.mono hk) hg m kp b .nil hx ha hdb he hpl
/-- .. all by names -/
structure DkX (P : Program) (w : World) (K : PySem.W.Frag) (mg : Str → Option Value) (base : Heap) (k : Nat) (x : Str) (ps ks : List Str) (gV : List V → List V → List V) (sp : Sp) : Prop where
  ex : ∃ (f : Addr) (fd : FuncData) (g : List Value → List Value → List Value), FnOk P w K mg base (L2.CX P w) k f fd ps sp ∧ KBn K fd ps 0 ks g gV ∧ mg x = some (.ref f) ∧ PySem.W.keepIn K (.ref f) = true
theorem pe_kX {X : Cx} {j k : Nat} {ps ks : List Str} {sp : Sp} {x : Str} {p pos : Pos} {kws : List Keyword} {tk : TA} {gV : List V → List V → List V} {E : XK} (D : DkX X.prog X.w X.K X.mg X.base k x ps ks gV sp) (hr : Room j X.A) (hj : k ≤ j) (hx : Passes (L2.CX X.prog X.w) X E) (hkw : PK X kws tk) (hg : Gl X x := by rfl)
    (hall : (backToKw pos (keywordEach kws X.env)).all (·.1.isSome) = true := by rfl) (hks : (backToKw pos (keywordEach kws X.env)).filterMap (·.1) = ks := by rfl) (hdb : (x == ("__debug__" : Str)) = false := by decide)
    (hpl : ((backTo pos (starEach [] X.env)).any (·.1) || (backToKw pos (keywordEach kws X.env)).any (·.1.isNone)) = false := by rfl) :
    PE X (.Call (.Name x p) [] kws pos) (tCallN 0 ks.length sp gV E tNil tk) := by
  obtain ⟨f, fd, g, F, hb, hm, hk⟩ := D.ex
  exact pe_callN0 F (hr.mono hj) hg hm hk hb hx hkw hall hks hdb hpl
/-! ### what _law_why makes of an own error -/
open EX in
def EW (K : PySem.W.Frag) (c1 c2 c3 : Addr) (Q : VK) : XK := fun cls d H' => ∃ C dd fs tag u, cls = .ref C ∧ d = some dd ∧ PySem.W.exmAny K (.ref C) [.ref c1, .ref c2, .ref c3] = some true ∧ ECls K C ∧ Tells K H' C dd fs tag u ∧ ∀ H2 t, Same H' H2 → H2 t = none → Q (.ref t) (upd H2 t (.tup [.str tag, u]))
open EX in
theorem why_err {P : Program} {w : World} {K : PySem.W.Frag} {mg : Str → Option Value} {nm fld : Str} {CE c1 c2 c3 : Addr} {v : V} {H : Hp} {Q : VK} (O : OwnE P w K mg nm fld CE) (xx : PySem.W.exmAny K (.ref CE) [.ref c1, .ref c2, .ref c3] = some true) (nf : (fld == ("tag" : Str)) = false) (kd : Kd nm (some fld))
    (k : ∀ t H', Same H H' → H' t = some (.tup [.str nm, v]) → Q (.ref t) H') : Rsd CE nm fld v H (EW K c1 c2 c3 Q) := by
  obtain ⟨fD, oD, _⟩ := O.ex
  intro dd H7 sm7 hdd
  have s8 : Same H (upd H7 dd (.xd [(fld, v), ("tag", .str nm)])) := sNew sm7 hdd
  exact ⟨CE, dd, _, nm, v, rfl, rfl, xx, oD.ecls, tellsF oD.noT O.noF nf kd, fun H9 t sm9 ht => k t _ ((s8.trans sm9).trans (sNew (Same.refl H9) ht)) upd_same⟩
theorem ext_upd {H H1 : Hp} {D : Addr} {o : HO} (e : LamX.ExtN H H1) (h : H D = none) : LamX.ExtN H (upd H1 D o) := fun b u x n => by
  rw [upd_ne (ne_of_none x h)]
  exact e b u x n
theorem ext_put {H H1 : Hp} {D : Addr} {xs : List V} {o : HO} (e : LamX.ExtN H H1) (h : H1 D = some (.lst xs)) : ∀ b u, H b = some u → (∀ ps, u ≠ .tbl ps) → (∀ ys, u ≠ .lst ys) → upd H1 D o b = some u := fun b u x n m => by
  have h1 := e b u x n
  rw [upd_ne (ne_of h1 h (m xs))]
  exact h1
end RF

/-! what _law_why makes of an own error that takes nothing -/
namespace RF
open PySem L2 PyProof.Rows EX
def RsdT (CE : Addr) (nm : Str) (H : Hp) (E : XK) : Prop := ∀ d H', Same H H' → H' d = none → E (.ref CE) (some d) (upd H' d (.xd [("tag", .str nm)]))
theorem RsdT.sm {CE : Addr} {nm : Str} {H H' : Hp} {E : XK} (s : Same H H') (r : RsdT CE nm H E) : RsdT CE nm H' E := fun d H2 s2 hd => r d H2 (s.trans s2) hd
theorem why_errT {P : Program} {w : World} {K : PySem.W.Frag} {mg : Str → Option Value} {nm : Str} {CE c1 c2 c3 : Addr} {H : Hp} {Q : VK} (O : OwnT P w K mg nm CE) (xx : PySem.W.exmAny K (.ref CE) [.ref c1, .ref c2, .ref c3] = some true) (kd : Kd nm none)
    (k : ∀ t H', Same H H' → H' t = some (.tup [.str nm, .non]) → Q (.ref t) H') : RsdT CE nm H (EW K c1 c2 c3 Q) := by
  obtain ⟨fD, oD, _⟩ := O.ex
  intro dd H7 sm7 hdd
  have s8 : Same H (upd H7 dd (.xd [("tag", .str nm)])) := sNew sm7 hdd
  exact ⟨CE, dd, _, nm, .non, rfl, rfl, xx, oD.ecls, ⟨upd_same, rfl, oD.noT, none, kd, fun _ => rfl, fun g hg => by cases hg⟩, fun H9 t sm9 ht => k t _ ((s8.trans sm9).trans (sNew (Same.refl H9) ht)) upd_same⟩
end RF

set_option linter.all false
/-! xs != ys of two lists whose items are equal by an own __eq__ -/
namespace RF
open PySem PySem.Spec PySem.Calls PySem.SeqAt PyProof.Rows L2
open MeetsSeq MeetsSeq2 MeetsSeq3 SeqRoads2
section
variable {prog : Program} {w : World} {A : Around} {R : Result → Shared → Prop}
theorem nel_turns (p q : Addr) (N : Nat) (J : Nat → Shared → Prop) (hl : GQ.ListI prog w A (fun e t => R (.error e) t) p q N J) (done : ∀ t, J N t → R (.ok (.ret (.bool false))) t) :
    ∀ (left j : Nat), j + left = N → ∀ t, J j t → wpAny (model prog w) A.in1 (Builtin.«list.__eq__.loop» ⟨[.ref p, .ref q, rawInt j, rawInt 3], []⟩) (GQ.FinOf prog w A R) (fun e t' => R (.error e) t') t
  | 0, j, hj, t, hJ => by
    obtain ⟨us, vs, nu, nv, gp, gq, su, sv, _⟩ := hl _ _ hJ
    have stop := done t (by rw [← hj]; exact hJ)
    obtain ⟨hh, gg, dd, kk, oo⟩ := t
    wp_walk using AutoSeq1.wpAny_loadPart' gp, AutoSeq1.wpAny_loadPart' gq
    rw [show us[((j : Nat) : Int).toNat]? = none by simp; omega, show vs[((j : Nat) : Int).toNat]? = none by simp; omega]
    wp_walk using AutoSeq1.wpAny_loadPart' gp, AutoSeq1.wpAny_loadPart' gq
    show R (.ok (.ret (.bool (us.size != vs.size)))) _
    rw [su, sv, bne_self_eq_false]
    exact stop
  | left + 1, j, hj, t, hJ => by
    obtain ⟨us, vs, nu, nv, gp, gq, su, sv, eqs⟩ := hl _ _ hJ
    have ju : j < us.size := by omega
    have jv : j < vs.size := by omega
    have one := eqs ju jv
    obtain ⟨hh, gg, dd, kk, oo⟩ := t
    wp_walk using AutoSeq1.wpAny_loadPart' gp, AutoSeq1.wpAny_loadPart' gq
    rw [show us[((j : Nat) : Int).toNat]? = some us[j] by simp [ju], show vs[((j : Nat) : Int).toNat]? = some vs[j] by simp [jv]]
    refine wpAny_bind (wpAny_mono one (fun r t2 z => ?_) fun _ _ z => z)
    obtain ⟨er, J2⟩ := z
    subst er
    have next := nel_turns p q N J hl done left (j + 1) (by omega) t2 J2
    obtain ⟨h2, g2, d2, k2, o2⟩ := t2
    wp_walk
    rw [show ((j : Int) + 1) = ((j + 1 : Nat) : Int) by omega]
    refine ⟨plainId_quiet plain_eq_loop _, codeAny_builtin entry_eq_loop ?_⟩
    rw [Around.under_plainId plain_eq_loop _]
    exact next
theorem nel_body (p q : Addr) (N : Nat) (J : Nat → Shared → Prop) (hl : GQ.ListI prog w A (fun e t => R (.error e) t) p q N J) (done : ∀ t, J N t → R (.ok (.ret (.bool false))) t) {t : Shared} (hJ : J 0 t) :
    wpAny (model prog w) A.in1 (Builtin.«list.__ne__» ⟨[.ref p, .ref q], []⟩) (GQ.FinOf prog w A R) (fun e t' => R (.error e) t') t := by
  obtain ⟨us, vs, nu, nv, gp, gq, su, sv, _⟩ := hl _ _ hJ
  have turns := nel_turns (A := A) (R := R) p q N J hl done N 0 (Nat.zero_add N) t hJ
  obtain ⟨hh, gg, dd, kk, oo⟩ := t
  have isL := AutoSeq1.sub_list_list
  have same : ¬ (us.size != vs.size) = true := by rw [su, sv, bne_self_eq_false]; decide
  wp_walk using AutoSeq1.wpAny_loadPart' gp, AutoSeq1.wpAny_loadPart' gq
  refine ⟨plainId_quiet plain_eq_loop _, codeAny_builtin entry_eq_loop ?_⟩
  rw [Around.under_plainId plain_eq_loop _]
  exact turns
end
section
variable {prog : Program} {w : World} {A : Around} {E : Value → Shared → Prop} {s : Shared}
theorem nel_rich {p q : Addr} {N : Nat} {Q : Value → Shared → Prop} (hu : A.units < cLine) (J : Nat → Shared → Prop) (hl : GQ.ListI prog w A E p q N J) (done : ∀ t, J N t → Q (.bool false) t) (hJ : J 0 s) : wpAny (model prog w) A (richCompare .NotEq (.ref p) (.ref q)) Q E s := by
  obtain ⟨us, vs, nu, nv, gp, gq, _, _, _⟩ := hl _ _ hJ
  refine wpAny_richCompare_same_room (op := .NotEq) ⟨_, gp, rfl⟩ ⟨_, gq, rfl⟩ PySem.F.slot_list_ne (GQ.call_here PySem.F.slot_list_ne ⟨_, gp, rfl⟩ PySem.F.entry_list_ne (PySem.F.args_list_ne_2 _ _) ?_) hu
  exact nel_body (R := wants (fun v t => v ≠ .notImplemented ∧ Q v t) E) p q N J hl (fun t z => ⟨(fun x => nomatch x), done t z⟩) hJ
end
section
variable {X : Cx} {n : Nat} {D : Eqv}
/-- xs != ys, false: the items are equal by D -/
def rNeG (D : Eqv) : R2 := fun x y H Q => DList D x y H ∧ ∀ H', Ext H H' → Q (.bl false) H'
theorem op_neG (hD : Mon D) (h : EqG X n D) (hr : Room (n + 1) X.A) : OpR X (compareOp .NotEq) (rNeG D) := by
  intro pins s σ H x y v u Q I rx ry hq
  obtain ⟨⟨a, b, xs, ys, rfl, rfl, ha, hb, pr⟩, q⟩ := hq
  cases rx; cases ry
  show wpAny (model X.prog X.w) X.A (richCompare .NotEq (.ref a) (.ref b)) _ _ s
  refine nel_rich (N := xs.length) hr.units0 (fun _ t => LoopI X pins σ H t) (fun i t z => ?_) (fun t z => ?_) ⟨H, I, Ext.rfl'⟩
  · obtain ⟨H1, I1, e1⟩ := id z
    obtain ⟨_, us, k1, r1, g1⟩ := I1.hok a _ (e1 _ _ ha)
    obtain ⟨_, vs, k2, r2, g2⟩ := I1.hok b _ (e1 _ _ hb)
    refine ⟨us.toArray, vs.toArray, k1, k2, g1, g2, by rw [List.size_toArray]; exact r1.length.symm, by rw [List.size_toArray, pr.1]; exact r2.length.symm, fun h1 h2 => turnG hD h ⟨hr, rfl⟩ pr r1 r2 i h1 h2 t z⟩
  · obtain ⟨H', I', ex⟩ := z
    exact ⟨.bl false, H', I', rfl, q H' ex⟩
end
end RF

namespace RF
open PySem L2 PyProof.Rows EX
/-- surds of two fields -/
def spDiff (C CD : Addr) : Sp := fun vs H _ E => ∃ (p q : Addr) (d i j k d2 i2 j2 k2 : Int), vs = [.ref p, .ref q] ∧ SV H C p d i j k ∧ SV H C q d2 i2 j2 k2 ∧ d ≠ d2 ∧ Root d2 ∧ Bd 400 i2 ∧ Bd 400 j2 ∧ Bd 400 k2 ∧ RsdT CD "FieldsDiffer" H E
section
variable {P : Program} {w : World} {K : PySem.W.Frag} {mg : Str → Option Value} {base : Heap}
theorem ok_SAddD {f C CD : Addr} {fd : FuncData} {k : Nat} (F : Fun K "__add__" "Surd.__add__" (sS 8) f fd) (T : TxS K mg C) (J : IsS K mg C) (OD : OwnT P w K mg "FieldsDiffer" CD) : FnOk P w K mg base (L2.CX P w) (k + 1) f fd ["self", "other"] (spDiff C CD) := by
  refine F.okX sc_SAdd (fun vs H Q E h => ?_) (fun cdv A outer s H vs Q E hr h => ?_)
  · obtain ⟨p, q, d, i, j, k, d2, i2, j2, k2, rfl, _⟩ := h
    rfl
  · obtain ⟨p, q, d, i, j, k, d2, i2, j2, k2, rfl, ⟨k0, dx, t, hp, ht⟩, ⟨k20, dx2, t2, hp2, ht2⟩, hne, _, _, _, _, hR⟩ := h
    obtain ⟨fD, oD, iD⟩ := OD.ex
    refine ⟨_, (pss_cons (ps_if (pt_not (pt_val (pe_callB call_isi (by rfl) J.mi (by decide +kernel) (pa_cons (pv 1) (pa_cons (pe_glob (v := .ref C) (by rfl) T.mg rfl) pa_nil)))))
      (pss_one ps_never)
      pss_nil)
      (pss_cons (ps_if (pt_cmpR op_ne (pe_fld (pv 0) rfl) (pe_fld (pv 1) rfl) (nomark _))
      (pss_one (ps_raise rfl (takes_of rfl rfl rfl rfl) (pmk0 oD iD hr)))
      pss_nil)
      pss_never)), ?_⟩
    refine ⟨_, rfl, _, _, _, _, _, rfl, .own C, tyS J T.cl hp2, kitSelf, _, rfl, iteF ?_⟩
    refine ⟨_, rfl, p, C, dx, _, _, rfl, hp, T.cl, T.nR, sfl_root _ _, _, rfl, q, C, dx2, _, _, rfl, hp2, T.cl, T.nR, sfl_root _ _, rfl, _, rfl, iteP (by simpa using hne) ?_⟩
    exact fun dd hdd => hR dd H (fun _ _ z => z) hdd
theorem ok_SMulD {f C CD : Addr} {fd : FuncData} {k : Nat} (F : Fun K "__mul__" "Surd.__mul__" (sS 10) f fd) (T : TxS K mg C) (J : IsS K mg C) (OD : OwnT P w K mg "FieldsDiffer" CD) : FnOk P w K mg base (L2.CX P w) (k + 1) f fd ["self", "other"] (spDiff C CD) := by
  refine F.okX sc_SMul (fun vs H Q E h => ?_) (fun cdv A outer s H vs Q E hr h => ?_)
  · obtain ⟨p, q, d, i, j, k, d2, i2, j2, k2, rfl, _⟩ := h
    rfl
  · obtain ⟨p, q, d, i, j, k, d2, i2, j2, k2, rfl, ⟨k0, dx, t, hp, ht⟩, ⟨k20, dx2, t2, hp2, ht2⟩, hne, _, _, _, _, hR⟩ := h
    obtain ⟨fD, oD, iD⟩ := OD.ex
    refine ⟨_, (pss_cons (ps_if (pt_not (pt_val (pe_callB call_isi (by rfl) J.mi (by decide +kernel) (pa_cons (pv 1) (pa_cons (pe_glob (v := .ref C) (by rfl) T.mg rfl) pa_nil)))))
      (pss_one ps_never)
      pss_nil)
      (pss_cons (ps_if (pt_cmpR op_ne (pe_fld (pv 0) rfl) (pe_fld (pv 1) rfl) (nomark _))
      (pss_one (ps_raise rfl (takes_of rfl rfl rfl rfl) (pmk0 oD iD hr)))
      pss_nil)
      pss_never)), ?_⟩
    refine ⟨_, rfl, _, _, _, _, _, rfl, .own C, tyS J T.cl hp2, kitSelf, _, rfl, iteF ?_⟩
    refine ⟨_, rfl, p, C, dx, _, _, rfl, hp, T.cl, T.nR, sfl_root _ _, _, rfl, q, C, dx2, _, _, rfl, hp2, T.cl, T.nR, sfl_root _ _, rfl, _, rfl, iteP (by simpa using hne) ?_⟩
    exact fun dd hdd => hR dd H (fun _ _ z => z) hdd
theorem ok_SSubD {f C CD fn fa : Addr} {fd : FuncData} {k : Nat} (F : Fun K "__sub__" "Surd.__sub__" (sS 9) f fd) (T : TxS K mg C) (J : IsS K mg C) (GN : FnR P w K mg base CX0 k fn (spNegS C)) (ON : OwnOp K C fn "__neg__")
    (GA : FnR P w K mg base (L2.CX P w) k fa (spDiff C CD)) (OA : OwnOp K C fa "__add__") : FnOk P w K mg base (L2.CX P w) (k + 1) f fd ["self", "other"] (spDiff C CD) := by
  refine F.okX sc_SSub (fun vs H Q E h => ?_) (fun cdv A outer s H vs Q E hr h => ?_)
  · obtain ⟨p, q, d, i, j, k, d2, i2, j2, k2, rfl, _⟩ := h
    rfl
  · obtain ⟨p, q, d, i, j, k, d2, i2, j2, k2, rfl, S1, S2, hne, hd2, b1, b2, b3, hR⟩ := h
    obtain ⟨k0, dx, t, hp, ht⟩ := id S1
    obtain ⟨k20, dx2, t2, hp2, ht2⟩ := id S2
    refine ⟨_, (pss_cons (ps_if (pt_not (pt_val (pe_callB call_isi (by rfl) J.mi (by decide +kernel) (pa_cons (pv 1) (pa_cons (pe_glob (v := .ref C) (by rfl) T.mg rfl) pa_nil)))))
      (pss_one ps_never)
      pss_nil)
      (pss_one (ps_ret (pe_op (op_own (E := E) (op := .Add) GA hr OA (fun pins σ H s e s' I c => L2.passes_call (W := fun cls d _ H => E cls d H) (takes_of rfl rfl rfl rfl) (fun _ _ _ _ h => h) pins σ H s e s' I c)) (pv 0) (pe_un (un_own_neg GN hr ON pass0) (pv 1)))))), ?_⟩
    refine ⟨_, rfl, _, _, _, _, _, rfl, .own C, tyS J T.cl hp2, kitSelf, _, rfl, iteF ?_⟩
    refine ⟨_, rfl, _, rfl, q, dx2, _, rfl, hp2, q, d2, i2, j2, k2, rfl, S2, hd2, b1.mono (by decide), b2.mono (by decide), b3.mono (by decide), fun x H1 nx Sx sm => ?_⟩
    obtain ⟨_, dx3, t3, hp3, ht3⟩ := id Sx
    exact ⟨p, x, dx, dx3, _, _, rfl, rfl, sm _ _ hp, hp3, p, x, d, i, j, k, d2, -i2, -j2, k2, rfl, S1.same sm, Sx, hne, hd2, b1.neg, b2.neg, b3, hR.sm sm⟩
theorem ok_SCmpD {f C CD fs : Addr} {fd : FuncData} {k : Nat} (F : Fun K "compared" "Surd.compared" (sS 6) f fd) (T : TxS K mg C) (GS : FnR P w K mg base (L2.CX P w) k fs (spDiff C CD)) (OS : OwnOp K C fs "__sub__") : FnOk P w K mg base (L2.CX P w) (k + 1) f fd ["self", "other"] (spDiff C CD) := by
  refine F.okX sc_SCmp (fun vs H Q E h => ?_) (fun cdv A outer s H vs Q E hr h => ?_)
  · obtain ⟨p, q, d, i, j, k, d2, i2, j2, k2, rfl, _⟩ := h
    rfl
  · have nd := sc_SCmp.nd
    obtain ⟨p, q, d, i, j, k, d2, i2, j2, k2, rfl, S1, S2, hne, hd2, b1, b2, b3, hR⟩ := h
    obtain ⟨k0, dx, t, hp, ht⟩ := id S1
    obtain ⟨k20, dx2, t2, hp2, ht2⟩ := id S2
    refine ⟨_, (pss_cons (ps_set (i := 2) nd rfl (Or.inl rfl) (pe_op (op_own (E := E) (op := .Sub) GS hr OS (fun pins σ H s e s' I c => L2.passes_call (W := fun cls d _ H => E cls d H) (takes_of rfl rfl rfl rfl) (fun _ _ _ _ h => h) pins σ H s e s' I c)) (pv 0) (pv 1))) pss_never), ?_⟩
    exact ⟨_, rfl, _, rfl, p, q, dx, dx2, _, _, rfl, rfl, hp, hp2, p, q, d, i, j, k, d2, i2, j2, k2, rfl, S1, S2, hne, hd2, b1, b2, b3, hR⟩
end
end RF

namespace RF
open PySem L2
section
variable {P : Program} {w : World} {K : PySem.W.Frag} {mg : Str → Option Value} {base : Heap}
theorem ok_pullC {f : Addr} {fd : FuncData} (F : Fun K "_law_pull" "_law_pull" sPull f fd) (T : TB mg) : FnOk P w K mg base CX0 1 f fd ["_law_bag_here", "_law_sides"] spPullC := by
  refine F.ok scPull (fun vs H Q E h => ?_) (fun cdv A outer s H vs Q E hr h => ?_)
  · obtain ⟨b, c, k, rfl, _⟩ := h
    rfl
  · obtain ⟨b, c, m, rfl, ⟨ns, i, z, r, B⟩, m0, m1, k⟩ := h
    have nd := scPull.nd
    -- the second half, from any bag
    refine ⟨_, C8.pss_cut (ps_if (pw_and (pt_cmpR op_eq (pe_ix ix_list (pv 0) pe_int (fun _ _ => rfl)) pe_int (nomark _)) (pw_and1 (pt_cmpR op_lt (pe_ix ix_list (pv 0) pe_int (fun _ _ => rfl)) (pe_callB call_len_seq (by rfl) T.len PySem.boot_len (pa_cons (pe_ix ix_list (pv 0) pe_int (fun _ _ => rfl)) pa_nil)) (nomark _)))).pt
        (pss_cons (ps_set (i := 2) nd rfl (Or.inl rfl) (pe_ix ix_list (pe_ix ix_list (pv 0) pe_int (fun _ _ => rfl)) (pe_ix ix_list (pv 0) pe_int (fun _ _ => rfl)) (fun _ _ => rfl)))
        (pss_cons (ps_asg (pe_op op_add (pe_ix ix_list (pv 0) pe_int (fun _ _ => rfl)) pe_int) (pg_sub (pv 0) pe_int set_list))
        (pss_one (ps_if (pt_cmpR op_ge (pe_callB call_abs (by rfl) T.abs (by decide +kernel) (pa_cons (pv 2) pa_nil)) (pe_op op_pow pe_int pe_int) (nomark _))
          (pss_one (ps_asg (pe_callB call_abs (by rfl) T.abs (by decide +kernel) (pa_cons (pv 2) pa_nil)) (pg_sub (pv 0) pe_int set_list)))
          (pss_one (ps_asg (pe_op op_mod (pe_callTy call_int1 (by rfl) T.int (by decide +kernel) (pa_cons (pe_op op_add (pe_op op_add (pe_op op_mul (pe_ix ix_list (pv 0) pe_int (fun _ _ => rfl)) pe_int) (pe_op op_mul (pe_op op_mod (pe_callTy call_int1 (by rfl) T.int (by decide +kernel) (pa_cons (pv 2) pa_nil)) pe_int) pe_int)) pe_int) pa_nil)) pe_int) (pg_sub (pv 0) pe_int set_list)))))))
        pss_nil)
      (C8.pss_cut (ps_if (pt_cmpR op_gt (pe_ix ix_list (pv 0) pe_int (fun _ _ => rfl)) pe_int (nomark _))
        (pss_cons (ps_set (i := 3) nd rfl (Or.inl rfl) (pe_op op_mod (pe_callTy call_int1 (by rfl) T.int (by decide +kernel) (pa_cons (pe_ix ix_list (pv 0) pe_int (fun _ _ => rfl)) pa_nil)) (pv 1)))
        (pss_cons (ps_asg (pe_op op_fdiv (pe_ix ix_list (pv 0) pe_int (fun _ _ => rfl)) (pv 1)) (pg_sub (pv 0) pe_int set_list))
        (pss_one (ps_ret (pv 3)))))
        pss_nil)
      (pss_cons (ps_set (i := 4) nd rfl (Or.inl rfl) (pe_op op_mod (pe_callTy call_int1 (by rfl) T.int (by decide +kernel) (pa_cons (pe_op op_mul (pe_ix ix_list (pv 0) pe_int (fun _ _ => rfl)) (pe_ix ix_list (pv 0) pe_int (fun _ _ => rfl))) pa_nil)) pe_int))
      (pss_cons (ps_asg (pe_op op_mod (pe_callTy call_int1 (by rfl) T.int (by decide +kernel) (pa_cons (pe_op op_add (pe_op op_add (pe_op op_mul (pv 4) pe_int) (pe_op op_mul (pe_ix ix_list (pv 0) pe_int (fun _ _ => rfl)) pe_int)) pe_int) pa_nil)) pe_int) (pg_sub (pv 0) pe_int set_list))
      (pss_one (ps_ret (pe_op op_mod (pe_callTy call_int1 (by rfl) T.int (by decide +kernel) (pa_cons (pe_op op_fdiv (pe_ix ix_list (pv 0) pe_int (fun _ _ => rfl)) pe_int) pa_nil)) (pv 1))))))), ?_⟩
    have hc : ∀ {H' : Hp} {i : Nat} {z r : Int}, BagC H' b c ns i z r → H' c = some (.lst (ns.map V.int)) := fun B => B.cs
    -- what follows the first if, from any bag
    refine ⟨fun σ' H' => ∃ v i z r, σ' = [some (.ref b), some (.int m), v, none, none] ∧ BagC H' b c ns i z r ∧ Kp b H H', ?_, ?_⟩
    · refine ⟨_, rfl, b, _, _, _, rfl, rfl, SqL.of B.at_, rfl, rfl, _, rfl, ?_⟩
      refine ite2 (fun ez => ?_) (fun _ => ?_)
      · refine ⟨_, rfl, b, _, _, _, rfl, rfl, SqL.of B.at_, rfl, _, rfl, b, _, _, _, rfl, rfl, SqL.of B.at_, rfl, c, _, rfl, .inl (SqL.of B.cs), _, _, rfl, rfl, _, rfl, ?_⟩
        refine ite2 (fun hl => ?_) (fun _ => ⟨_, _, _, _, rfl, B, Kp.refl _ _⟩)
        have hl' : i < ns.length := by
          have := of_decide_eq_true hl
          rw [List.length_map] at this
          omega
        obtain ⟨n, hn⟩ : ∃ n, ns[i]? = some n := ⟨_, List.getElem?_eq_getElem hl'⟩
        have hat : atI (ns.map V.int) (i : Int) = some (V.int n) := atI_nat (by rw [List.getElem?_map, hn]; rfl)
        refine ⟨_, rfl, b, _, _, _, rfl, rfl, SqL.of B.at_, rfl, _, rfl, b, _, _, _, rfl, rfl, SqL.of B.at_, rfl, c, _, _, _, rfl, rfl, SqL.of B.cs, hat, ?_⟩
        refine ⟨_, rfl, b, _, _, _, rfl, rfl, SqL.of B.at_, rfl, _, _, rfl, rfl, _, rfl, b, _, _, _, rfl, rfl, B.at_, rfl, ?_⟩
        have B1 := B.put (i' := i + 1) (z' := z) (r' := r) (o := .lst [.ref c, .int ((i : Int) + 1), .int z, .int r]) (by rw [Int.natCast_add]; rfl) hl' B.z0 B.r0 B.r1
        have k1 : Kp b H (upd H b (.lst [.ref c, .int ((i : Int) + 1), .int z, .int r])) := Kp.upd
        refine ⟨_, rfl, _, rfl, _, _, rfl, rfl, ⟨by decide, by decide, by decide⟩, _, _, rfl, rfl, _, rfl, ?_⟩
        refine ite2 (fun _ => ?_) (fun _ => ?_)
        · refine ⟨_, rfl, _, rfl, _, rfl, b, _, _, _, rfl, rfl, upd_same, rfl, ?_⟩
          exact ⟨_, _, _, _, rfl, B1.put rfl B1.le (by split <;> omega) B1.r0 B1.r1, k1.trans Kp.upd⟩
        · refine ⟨_, rfl, b, _, _, _, rfl, rfl, SqL.of B1.at_, rfl, _, _, rfl, rfl, .inr (by decide), _, rfl, .inl ⟨_, rfl, _, _, rfl, rfl, (by show (0 : Int) < 1000003; decide), _, _, rfl, rfl, .inr (by decide), _, _, rfl, rfl, _, _, rfl, rfl, .inl ⟨_, rfl, _, _, rfl, rfl, (by show (0 : Int) < 2147483647; decide), _, rfl, b, _, _, _, rfl, rfl, upd_same, rfl, ?_⟩⟩⟩
          exact ⟨_, _, _, _, rfl, B1.put rfl B1.le B1.z0 (emod_lo _ (by decide)) (emod_hi _ (by decide)), k1.trans Kp.upd⟩
      · exact ⟨_, _, _, _, rfl, B, Kp.refl _ _⟩
    · rintro σ' H1 ⟨v, i, z, r, rfl, B, kp⟩
      -- if bag[2] > 0
      refine ⟨fun σ' H' => σ' = [some (.ref b), some (.int m), v, none, none] ∧ H' = H1, ?_, ?_⟩
      · refine ⟨_, rfl, b, _, _, _, rfl, rfl, SqL.of B.at_, rfl, _, _, rfl, rfl, _, rfl, ?_⟩
        refine ite2 (fun hz => ?_) (fun _ => ⟨rfl, rfl⟩)
        refine ⟨_, rfl, b, _, _, _, rfl, rfl, SqL.of B.at_, rfl, .inl ⟨_, rfl, _, rfl, _, _, rfl, rfl, m0, ?_⟩⟩
        refine ⟨_, rfl, b, _, _, _, rfl, rfl, SqL.of B.at_, rfl, _, rfl, _, _, rfl, rfl, ⟨m0, m1⟩, _, rfl, b, _, _, _, rfl, rfl, B.at_, rfl, ?_⟩
        refine ⟨_, rfl, ?_⟩
        exact k _ _ (emod_lo _ m0) (emod_hi _ m0) ⟨ns, _, _, _, B.put rfl B.le (Int.ediv_nonneg B.z0 (Int.le_of_lt m0)) B.r0 B.r1⟩ (kp.trans Kp.upd)
      · rintro σ' H2 ⟨rfl, rfl⟩
        refine ⟨_, rfl, b, _, _, _, rfl, rfl, SqL.of B.at_, rfl, _, rfl, b, _, _, _, rfl, rfl, SqL.of B.at_, rfl, _, _, rfl, rfl, .inl ⟨by have := B.r0; omega, by have := B.r1; omega⟩, .inl ⟨_, rfl, _, _, rfl, rfl, (by show (0 : Int) < 2147483629; decide), ?_⟩⟩
        refine ⟨_, rfl, _, _, rfl, rfl, .inr (by decide), _, rfl, b, _, _, _, rfl, rfl, SqL.of B.at_, rfl, _, _, rfl, rfl, .inr (by decide), _, _, rfl, rfl, _, _, rfl, rfl, .inl ⟨_, rfl, _, _, rfl, rfl, (by show (0 : Int) < 2147483647; decide), _, rfl, b, _, _, _, rfl, rfl, B.at_, rfl, ?_⟩⟩
        refine ⟨_, rfl, b, _, _, _, rfl, rfl, SqL.of upd_same, rfl, _, _, rfl, rfl, ⟨by decide, by decide⟩, .inl ⟨_, rfl, _, rfl, _, _, rfl, rfl, m0, ?_⟩⟩
        exact k _ _ (emod_lo _ m0) (emod_hi _ m0) ⟨ns, _, _, _, B.put rfl B.le B.z0 (emod_lo _ (by decide)) (emod_hi _ (by decide))⟩ (kp.trans Kp.upd)
end
end RF

namespace RF
open PySem L2
section
variable {P : Program} {w : World} {K : PySem.W.Frag} {mg : Str → Option Value} {base : Heap}
theorem ok_ofC {f : Addr} {fd : FuncData} {k : Nat} (F : Fun K "_law_of" "_law_of" s_law_of f fd) (T : TB mg) (D1 : Df P w K mg base k "_law_pull" ["_law_bag_here", "_law_sides"] spPullC) : FnOk P w K mg base CX0 (k + 1) f fd ["_law_bag_here", "_law_some"] (spOfC K) := by
  refine F.ok sc_law_of (fun vs H Q E h => ?_) (fun cdv A outer s H vs Q E hr h => ?_)
  · obtain ⟨b, c, a, xs, rfl, _⟩ := h
    rfl
  · obtain ⟨b, c, a, xs, rfl, B, hS, nab, h0, h1, k⟩ := h
    refine ⟨_, (pss_one (ps_ret (pe_ix ix_list (pv 1) (pe_callD D1 hr (Nat.le_refl _) (pa_cons (pv 0) (pa_cons (pe_callB call_len_seq (by rfl) T.len PySem.boot_len (pa_cons (pv 1) pa_nil)) pa_nil))) (fun _ _ => rfl)))), ?_⟩
    refine ⟨_, rfl, _, rfl, _, rfl, a, _, rfl, .inl hS, b, c, _, rfl, B, by omega, by omega, fun d H' d0 d1 B' kp => ?_⟩
    obtain ⟨j, rfl⟩ : ∃ j : Nat, d = (j : Int) := ⟨d.toNat, by omega⟩
    have hj : j < xs.length := by omega
    exact ⟨a, xs, _, _, rfl, rfl, kp.seq nab hS, atI_nat (List.getElem?_eq_getElem hj), k _ _ (List.getElem_mem hj) B' kp⟩
theorem ok_rootC {f : Addr} {fd : FuncData} {k : Nat} (F : Fun K "_law_root" "_law_root" s_law_root f fd) (D1 : Df P w K mg base k "_law_of" ["_law_bag_here", "_law_some"] (spOfC K)) : FnOk P w K mg base CX0 (k + 1) f fd ["_law_bag_here"] spRootC := by
  refine F.ok sc_law_root (fun vs H Q E h => ?_) (fun cdv A outer s H vs Q E hr h => ?_)
  · obtain ⟨b, c, rfl, _⟩ := h
    rfl
  · obtain ⟨b, c, rfl, B, k⟩ := h
    refine ⟨_, (pss_one (ps_ret (pe_callD D1 hr (Nat.le_refl _) (pa_cons (pv 0) (pa_cons (pe_lst (pa_cons pe_int (pa_cons pe_int (pa_cons pe_int (pa_cons pe_int (pa_cons pe_int pa_nil)))))) pa_nil))))), ?_⟩
    refine ⟨_, rfl, by show 5 ≤ sizeLine; decide, fun p hp => ?_⟩
    obtain ⟨xs, hb⟩ := B.atB
    refine ⟨b, c, p, _, rfl, B.same (sNew (Same.refl _) hp), SqL.of upd_same, (ne_of_none hb hp).symm, by decide, by decide, fun v H' hv B' kp => ?_⟩
    have kp' : Kp b H H' := (Kp.of (sNew (Same.refl _) hp)).trans kp
    rcases List.mem_cons.mp hv with rfl | hv
    · exact k _ _ (by decide) B' kp'
    rcases List.mem_cons.mp hv with rfl | hv
    · exact k _ _ (by decide) B' kp'
    rcases List.mem_cons.mp hv with rfl | hv
    · exact k _ _ (by decide) B' kp'
    rcases List.mem_cons.mp hv with rfl | hv
    · exact k _ _ (by decide) B' kp'
    rcases List.mem_cons.mp hv with rfl | hv
    · exact k _ _ (by decide) B' kp'
    cases hv
theorem ok_farC {f : Addr} {fd : FuncData} {k : Nat} (F : Fun K "_law_far" "_law_far" s_law_far f fd) (T : mg "range" = none) (D1 : Df P w K mg base k "_law_pull" ["_law_bag_here", "_law_sides"] spPullC) : FnOk P w K mg base CX0 (k + 1) f fd ["_law_bag_here", "_law_figures"] spFarC := by
  refine F.ok sc_law_far (fun vs H Q E h => ?_) (fun cdv A outer s H vs Q E hr h => ?_)
  · obtain ⟨b, c, m, rfl, _⟩ := h
    rfl
  · obtain ⟨b, c, m, rfl, B, m0, m1, k⟩ := h
    have nd := sc_law_far.nd
    refine ⟨_, (pss_cons (ps_set (i := 2) nd rfl (Or.inl rfl) (pe_op op_add pe_int (pe_callD D1 hr (Nat.le_refl _) (pa_cons (pv 0) (pa_cons (pv 1) pa_nil)))))
      (pss_cons (ps_set (i := 3) nd rfl (Or.inl rfl) pe_int)
      (pss_cons (ps_for PassesOwn.never rfl (pi_range1 rfl T (pa_cons (pv 2) pa_nil)) (pg_name (i := 4) nd rfl (Or.inl rfl))
      (pss_one (ps_set (i := 3) nd rfl (Or.inl rfl) (pe_op op_add (pe_op op_mul (pv 3) pe_int) (pe_callD D1 hr (Nat.le_refl _) (pa_cons (pv 0) (pa_cons pe_int pa_nil)))))))
      (pss_one (ps_ret (pv 3)))))), ?_⟩
    refine ⟨_, rfl, _, rfl, b, c, _, rfl, B, m0, by omega, fun d H1 d0 d1 B1 kp1 => ⟨_, _, rfl, rfl, ?_⟩⟩
    refine ⟨_, rfl, _, rfl, by omega, by omega, for_range (n := (1 + d).toNat) (fun i σ H' => ∃ (n : Int) (v : Option V), σ = [some (.ref b), some (.int m), some (.int (1 + d)), some (.int n), v] ∧ 0 ≤ n ∧ n < 10 ^ i ∧ BagAt H' b c ∧ Kp b H H')
      ⟨0, none, rfl, by decide, by decide, B1, kp1⟩ ?_ ?_⟩
    · rintro i σ H2 hi ⟨n, v, rfl, n0, n1, B2, kp2⟩
      refine ⟨_, rfl, _, _, rfl, rfl, .inr (by decide), _, rfl, b, c, _, rfl, B2, by decide, by decide, fun e H3 e0 e1 B3 kp3 => ⟨_, _, rfl, rfl, ?_⟩⟩
      refine ⟨_, _, rfl, by omega, ?_, B3, kp2.trans kp3⟩
      rw [Int.pow_succ]
      omega
    · rintro σ H2 ⟨n, v, rfl, n0, n1, B2, kp2⟩
      refine ⟨_, rfl, k _ _ n0 (Int.lt_of_lt_of_le n1 ?_) B2 kp2⟩
      exact_mod_cast Nat.pow_le_pow_right (by decide : 0 < 10) (by omega : (1 + d).toNat ≤ m.toNat)
end
end RF

namespace RF
open PySem L2 PyProof.Rows EX
def spSigned : Sp := fun vs H Q _ => ∃ (b c : Addr) (m : Int), vs = [.ref b, .int m] ∧ BagAt H b c ∧ 0 < m ∧ m ≤ 20 ∧ ∀ i H', Bd 70 i → BagAt H' b c → Kp b H H' → Q (.int i) H'
section
variable {P : Program} {w : World} {K : PySem.W.Frag} {mg : Str → Option Value} {base : Heap}
abbrev s_signed : Stmt := top 28
theorem sc_signed : FnScope ["_law_bag_here", "_law_many"] ["_law_bag_here", "_law_many"] (defScope s_signed) := ⟨rfl, rfl, rfl, by decide +kernel, rfl, by decide +kernel, by decide +kernel⟩
theorem ok_signed {f : Addr} {fd : FuncData} {k : Nat} (F : Fun K "_law_signed" "_law_signed" s_signed f fd) (D1 : Df P w K mg base k "_law_far" ["_law_bag_here", "_law_figures"] spFarC) (D2 : Df P w K mg base k "_law_of" ["_law_bag_here", "_law_some"] (spOfC K)) :
    FnOk P w K mg base CX0 (k + 1) f fd ["_law_bag_here", "_law_many"] spSigned := by
  refine F.ok sc_signed (fun vs H Q E h => ?_) (fun cdv A outer s H vs Q E hr h => ?_)
  · obtain ⟨b, c, m, rfl, _⟩ := h
    rfl
  · obtain ⟨b, c, m, rfl, B, m0, m1, q⟩ := h
    refine ⟨_, (pss_one (ps_ret (pe_op op_mulW (pe_callD D1 hr (Nat.le_refl _) (pa_cons (pv 0) (pa_cons (pv 1) pa_nil))) (pe_callD D2 hr (Nat.le_refl _) (pa_cons (pv 0) (pa_cons (pe_lst (pa_cons pe_int (pa_cons (pe_un un_neg pe_int) pa_nil))) pa_nil)))))), ?_⟩
    refine ⟨_, rfl, _, rfl, b, c, m, rfl, B, m0, by omega, fun n H1 n0 n1 B1 kp1 => ?_⟩
    refine ⟨_, rfl, _, rfl, by show 2 ≤ sizeLine; decide, fun p hp => ?_⟩
    obtain ⟨_, hb1⟩ := B1.atB
    have s2 := sNew (o := .lst [.int 1, .int (-1)]) (Same.refl H1) hp
    refine ⟨b, c, p, _, rfl, B1.same s2, SqL.of upd_same, (ne_of_none hb1 hp).symm, by show 0 < 2; decide, by show 2 < 1000000; decide, fun v H3 hv B3 kp3 => ?_⟩
    have nb : n < 10 ^ 20 := Int.lt_of_lt_of_le n1 (by
      have : (10 : Int) ^ m.toNat ≤ 10 ^ 20 := by exact_mod_cast Nat.pow_le_pow_right (by decide : 0 < 10) (show m.toNat ≤ 20 by omega)
      exact this)
    have kp : Kp b H H3 := kp1.trans ((Kp.of s2).trans kp3)
    have bn : Bd 70 n := by
      unfold Bd
      have : (10 : Int) ^ 20 < 2 ^ 70 := by decide
      have h2 : (n.natAbs : Int) < 2 ^ 70 := by omega
      exact_mod_cast h2
    obtain ⟨g, rfl, hg⟩ : ∃ g, v = V.int g ∧ (g = 1 ∨ g = -1) := by
      simp only [List.mem_cons, List.not_mem_nil, or_false] at hv
      rcases hv with rfl | rfl
      · exact ⟨_, rfl, .inl rfl⟩
      · exact ⟨_, rfl, .inr rfl⟩
    refine ⟨_, _, rfl, rfl, mulOk (m := 2) bn (by unfold Bd; omega) (by decide) (by decide) (by decide), q _ _ ?_ B3 kp⟩
    rcases hg with rfl | rfl
    · rw [Int.mul_one]; exact bn
    · rw [show n * -1 = -n by omega]; exact bn.neg
end
end RF

namespace RF
open PySem L2 PyProof.Rows
theorem Kp.at_ {b a : Addr} {H H' : Hp} {o : HO} (k : Kp b H H') (B : Bag H b) (h : H a = some o) (n : ∀ xs, o ≠ .lst xs) : H' a = some o := by
  obtain ⟨xs, hb⟩ := B.some
  exact k a o (ne_of h hb (n xs)) h
theorem SV.kp {H H' : Hp} {C p b : Addr} {d i j k : Int} (B : Bag H b) (kp : Kp b H H') (h : SV H C p d i j k) : SV H' C p d i j k := by
  obtain ⟨k0, dx, t, h1, h2⟩ := h
  exact ⟨k0, dx, t, kp.at_ B h1 (fun _ z => by cases z), kp.at_ B h2 (fun _ z => by cases z)⟩
theorem SV.ins {H : Hp} {C p : Addr} {d i j k : Int} (h : SV H C p d i j k) : ∃ dx fs, H p = some (.ins C dx fs) ∧ ∀ m : Str, ¬ m = "_parts" → ¬ m = "_root" → fs.lookup m = none := by
  obtain ⟨_, dx, t, h1, _⟩ := h
  exact ⟨dx, _, h1, fun m a b => sfl_no _ _ a b⟩
theorem flr_bd {n : Nat} {d f : Int} (hd : Root d) (h : Bd n f) : Bd (n + 3) (flr d f) := by
  have r0 := rt_nn (d * f * f)
  have r1 := rt_le (dff_nn hd (f := f))
  have h4 : rt (d * f * f) ≤ 4 * ab f := by
    apply le_of_sq (by have := ab_nn f; omega)
    have e : (4 * ab f) * (4 * ab f) = 16 * (f * f) := by unfold ab; split <;> grind
    have : d * f * f ≤ 16 * (f * f) := by
      rw [dff]
      exact Int.mul_le_mul_of_nonneg_right (by have := hd.le; omega) (sq_nonneg f)
    omega
  have ha : ab f = (f.natAbs : Int) := by unfold ab; split <;> omega
  unfold Bd at *
  have hp : 2 ^ (n + 3) = 8 * 2 ^ n := by rw [Nat.pow_add]; omega
  unfold flr
  split <;> omega
/-- a method of the class at C, by its promise -/
structure Mt (P : Program) (w : World) (K : PySem.W.Frag) (mg : Str → Option Value) (base : Heap) (C : Addr) (k : Nat) (m : Str) (ps : List Str) (sp : Sp) : Prop where
  ex : ∃ (f : Addr) (fd : FuncData), FnOk P w K mg base CX0 k f fd ps sp ∧ Meth K C m f ∧ Binds K fd ps []
theorem pe_mt0 {X : Cx} {j k : Nat} {C : Addr} {m : Str} {ps : List Str} {sp : Sp} {o : Expr} {pos apos : Pos} {ta : TE} {pl : Sem Bool} (he : PE X o ta) (c : Cls X.K C) (M : Mt X.prog X.w X.K X.mg X.base C k m ps sp) (hr : Room j X.A) (hk : k ≤ j)
    (ht : eval (.Call (.Attribute o m apos) [] [] pos) X.env = (do
      let ov ← eval o X.env
      standAt apos.atName
      let (f, first) ← holding [ov] (getMethod ov m pl)
      callWith pos f first (backTo pos (starEach [] X.env)) (backToKw pos (keywordEach [] X.env))) := by rfl) : PE X (.Call (.Attribute o m apos) [] [] pos) (tMeth C m sp [] E0 ta tNil) := by
  obtain ⟨f, fd, G, hm, b⟩ := M.ex
  exact pe_meth0 he c hm G (hr.mono hk) b .nil pass0 ht
theorem pe_mt {X : Cx} {j k : Nat} {C : Addr} {m : Str} {ps : List Str} {sp : Sp} {o e : Expr} {es : List Expr} {pos apos : Pos} {ta : TE} {t : TA} {pl : Sem Bool} (he : PE X o ta) (c : Cls X.K C) (M : Mt X.prog X.w X.K X.mg X.base C k m ps sp) (hr : Room j X.A) (hk : k ≤ j) (ha : PA X (e :: es) t)
    (h1 : starEach (e :: es) X.env = (false, eval e X.env) :: starEach es X.env := by rfl) (h2 : (backTo pos (starEach es X.env)).any (·.1) = false := by rfl)
    (ht : eval (.Call (.Attribute o m apos) (e :: es) [] pos) X.env = (do
      let ov ← eval o X.env
      standAt apos.atName
      let (f, first) ← holding [ov] (getMethod ov m pl)
      callWith pos f first (backTo pos (starEach (e :: es) X.env)) (backToKw pos (keywordEach [] X.env))) := by rfl) : PE X (.Call (.Attribute o m apos) (e :: es) [] pos) (tMeth C m sp [] E0 ta t) := by
  obtain ⟨f, fd, G, hm, b⟩ := M.ex
  exact pe_meth he c hm G (hr.mono hk) b .nil pass0 ha h1 h2 ht
end RF

namespace RF
open PySem L2 PyProof.Rows EX
open LamX (Tabs TabS ExtN TabB CodeO)
theorem SV.extN {H H' : Hp} {C p : Addr} {d i j k : Int} (e : ExtN H H') (h : SV H C p d i j k) : SV H' C p d i j k := by
  obtain ⟨k0, dx, t, h1, h2⟩ := h
  exact ⟨k0, dx, t, e _ _ h1 (fun _ z => by cases z), e _ _ h2 (fun _ z => by cases z)⟩
abbrev sLaw : Stmt := top 29
abbrev n_law : List Str := ["_law_script", "_law_bag_here", "_law_turn", "_law_root_here", "_law_many", "_law_a", "_law_b", "_law_c", "_law_d", "_law_k_z", "_law_m", "_law_other", "_law_kept", "_law_made", "_law_due", "_law_asks", "_law_far_here", "_law_one", "_law_side", "_law_ask", "_law_each"]
theorem sc_law : FnScope n_law ["_law_script"] (defScope sLaw) := ⟨rfl, rfl, rfl, by decide +kernel, rfl, by decide +kernel, by decide +kernel⟩
def qL : Str := (("law" : Str) ++ ".<locals>.") ++ "<lambda>"
def TL (P0 : Addr) : List (Addr × Str) := [(P0, qL)]
def spLaw (K : PySem.W.Frag) (P0 : Addr) : Sp := fun vs H Q _ => ∃ (a : Addr) (ns : List Int), vs = [.ref a] ∧ SqL K H a (ns.map V.int) ∧ ns.length ≤ 63 ∧ H P0 = some (.tbl #[]) ∧ ∀ H', Q (.bl true) H'
structure EnvK (P : Program) (w : World) (K : PySem.W.Frag) (mg : Str → Option Value) (base : Heap) (CS CD c1 c2 c3 : Addr) : Prop where
  bag : Df P w K mg base 9 "_law_bag" ["_law_script"] (spBag K)
  pull : Df P w K mg base 9 "_law_pull" ["_law_bag_here", "_law_sides"] spPullC
  of_ : Df P w K mg base 9 "_law_of" ["_law_bag_here", "_law_some"] (spOfC K)
  root : Df P w K mg base 9 "_law_root" ["_law_bag_here"] spRootC
  signed : Df P w K mg base 9 "_law_signed" ["_law_bag_here", "_law_many"] spSigned
  T : TxS K mg CS
  mkS : MkS P w K mg base CS 6
  parts : Mt P w K mg base CS 9 "parts" ["self"] (spParts CS)
  add : ∃ f, FnR P w K mg base CX0 9 f (spAddS CS) ∧ OwnOp K CS f "__add__"
  sub : ∃ f, FnR P w K mg base CX0 9 f (spSubS CS) ∧ OwnOp K CS f "__sub__"
  mul : ∃ f, FnR P w K mg base CX0 9 f (spMulS CS) ∧ OwnOp K CS f "__mul__"
  neg : ∃ f, FnR P w K mg base CX0 9 f (spNegS CS) ∧ OwnOp K CS f "__neg__"
  eqS : ∃ (f : Addr) (fd : FuncData), FnOk P w K mg base CX0 7 f fd ["self", "other"] (spEq (EqS CS)) ∧ OwnEq K CS f ∧ Binds K fd ["self", "other"] []
  adX : ∃ f, FnR P w K mg base (L2.CX P w) 9 f (spDiff CS CD) ∧ OwnOp K CS f "__add__"
  suX : ∃ f, FnR P w K mg base (L2.CX P w) 9 f (spDiff CS CD) ∧ OwnOp K CS f "__sub__"
  muX : ∃ f, FnR P w K mg base (L2.CX P w) 9 f (spDiff CS CD) ∧ OwnOp K CS f "__mul__"
  cmX : MtX P w K mg base CS 9 "compared" ["self", "other"] (spDiff CS CD)
  why : WhyE P w K mg base (top 25) 9 c1 c2 c3
  ed : OwnT P w K mg "FieldsDiffer" CD
  xd : PySem.W.exmAny K (.ref CD) [.ref c1, .ref c2, .ref c3] = some true
  TB_ : TB mg
  range : mg "range" = none
section
variable {P : Program} {w : World} {K : PySem.W.Frag} {mg : Str → Option Value} {base : Heap}
abbrev lawTurn (i : Nat) : Stmt := stA i (forB (stA 1 (defBody sLaw)))
abbrev XL (P : Program) (w : World) (K : PySem.W.Frag) (mg : Str → Option Value) (base : Heap) (f c : Addr) (A : Around) (outer : List Env) (s : Shared) (H : Hp) (E : XK) : Cx := (cxOf CX0 P w K mg base n_law "law" (defScope sLaw) f (.ref c) A outer s H E).nox
theorem asks {f c CS CD c1 c2 c3 : Addr} {A : Around} {outer : List Env} {s : Shared} {H : Hp} {E : XK} (e : EnvK P w K mg base CS CD c1 c2 c3) (hr : Room 11 (XL P w K mg base f c A outer s H E).A) : LM.Asks (XL P w K mg base f c A outer s H E) "_law_why" qL 9 (TWhy K c1 c2 c3) := by
  obtain ⟨gw, ocw, odw, anw, kVw, docw, pmw, cdvw, ctw, oslw, mW, kW, lW, cW, bW⟩ := e.why.ex
  obtain ⟨gf, fdf, GF, mF, kF, bF⟩ := e.why.fld
  have hG := why_gives (X := XL P w K mg base f c A outer s H E) (g := gw) (cdg := cdvw) (q := qL) (k := 9) (hr.mono (by decide)) e.why.m1 e.why.m2 e.why.m3 GF mF kF bF
  exact ⟨⟨gw, _, _, _, .none, kVw, docw, pmw, cdvw, ctw, ocw, anw, odw, oslw, n_law_why, "_law_ask", mW, kW, lW, cW, bW, sc_law_why, rfl, .inl rfl, by decide, by decide, hG⟩, by decide⟩
abbrev lamE (i : Nat) : Expr := eltA i (valOf (lawTurn 11))
abbrev lcE : Expr := cmpA 0 (ifT (lawTurn 12))
abbrev tDf (CS CD : Addr) (i j : Nat) : XK → TE := fun E => tOp (rOwn2 CS (spDiff CS CD) E) (tVar i) (tVar j)
abbrev m0 (CS CD : Addr) (X : Cx) : LM.LEnt := ⟨LM.lamT (lamE 0), .plain, LM.clo X (LM.lamT (lamE 0)), tDf CS CD 17 16⟩
abbrev m1 (CS CD : Addr) (X : Cx) : LM.LEnt := ⟨LM.lamT (lamE 1), .dflt "_law_x" 0, LM.clo X (LM.lamT (lamE 1)), tDf CS CD 16 17⟩
abbrev m2 (CS CD : Addr) (X : Cx) : LM.LEnt := ⟨LM.lamT (lamE 2), .dflt "_law_y" 0, LM.clo X (LM.lamT (lamE 2)), tDf CS CD 17 16⟩
abbrev m3 (CS CD : Addr) (X : Cx) : LM.LEnt := ⟨LM.lamT (lamE 3), .dflt "_law_z" 0, LM.clo X (LM.lamT (lamE 3)), fun E => tMeth CS "compared" (spDiff CS CD) [] E (tVar 17) (tCons (tVar 16) tNil)⟩
abbrev ms (CS CD : Addr) (X : Cx) : List LM.LEnt := [m0 CS CD X, m1 CS CD X, m2 CS CD X, m3 CS CD X]
section
variable {f c P0 CS CD c1 c2 c3 : Addr} {A : Around} {outer : List Env} {s : Shared} {H : Hp} {E : XK}
theorem go0 (e : EnvK P w K mg base CS CD c1 c2 c3) : LM.LGo (XL P w K mg base f c A outer s H E) 9 (m0 CS CD (XL P w K mg base f c A outer s H E)) := by
  obtain ⟨fo, G, O⟩ := e.adX
  refine LM.go_of ⟨_, _, _, _, rfl, by show LM.lsB n_law _ = true; decide +kernel, by show LM.freeB (defScope sLaw) _ = true; decide +kernel, ⟨rfl, rfl, fun _ _ _ _ _ _ => rfl⟩, trivial, fun A' outer' s' H' E' f' c' hr2 => ?_⟩
  exact pe_op (X := LM.lcx (XL P w K mg base f c A outer s H E) _ _ A' outer' s' H' E' _ f' c') (op_own (op := .Add) G hr2 O LM.passL) (pv 17) (pv 16)
theorem go1 (e : EnvK P w K mg base CS CD c1 c2 c3) : LM.LGo (XL P w K mg base f c A outer s H E) 9 (m1 CS CD (XL P w K mg base f c A outer s H E)) := by
  obtain ⟨fo, G, O⟩ := e.suX
  refine LM.go_of ⟨_, _, _, _, rfl, by show LM.lsB n_law _ = true; decide +kernel, by show LM.freeB (defScope sLaw) _ = true; decide +kernel, ⟨⟨_, _, rfl⟩, rfl, fun _ _ _ _ _ _ _ => ⟨_, rfl, fun _ => rfl⟩⟩, rfl, fun A' outer' s' H' E' f' c' hr2 => ?_⟩
  exact pe_op (X := LM.lcx (XL P w K mg base f c A outer s H E) _ _ A' outer' s' H' E' _ f' c') (op_own (op := .Sub) G hr2 O LM.passL) (pv 16) (pv 17)
theorem go2 (e : EnvK P w K mg base CS CD c1 c2 c3) : LM.LGo (XL P w K mg base f c A outer s H E) 9 (m2 CS CD (XL P w K mg base f c A outer s H E)) := by
  obtain ⟨fo, G, O⟩ := e.muX
  refine LM.go_of ⟨_, _, _, _, rfl, by show LM.lsB n_law _ = true; decide +kernel, by show LM.freeB (defScope sLaw) _ = true; decide +kernel, ⟨⟨_, _, rfl⟩, rfl, fun _ _ _ _ _ _ _ => ⟨_, rfl, fun _ => rfl⟩⟩, rfl, fun A' outer' s' H' E' f' c' hr2 => ?_⟩
  exact pe_op (X := LM.lcx (XL P w K mg base f c A outer s H E) _ _ A' outer' s' H' E' _ f' c') (op_own (op := .Mult) G hr2 O LM.passL) (pv 17) (pv 16)
theorem go3 (e : EnvK P w K mg base CS CD c1 c2 c3) : LM.LGo (XL P w K mg base f c A outer s H E) 9 (m3 CS CD (XL P w K mg base f c A outer s H E)) := by
  refine LM.go_of ⟨_, _, _, _, rfl, by show LM.lsB n_law _ = true; decide +kernel, by show LM.freeB (defScope sLaw) _ = true; decide +kernel, ⟨⟨_, _, rfl⟩, rfl, fun _ _ _ _ _ _ _ => ⟨_, rfl, fun _ => rfl⟩⟩, rfl, fun A' outer' s' H' E' f' c' hr2 => ?_⟩
  refine pe_mtX (X := LM.lcx (XL P w K mg base f c A outer s H E) _ _ A' outer' s' H' E' _ f' c') (pl := ?pl) ?a1 e.T.cl e.cmX hr2 (by decide) LM.passL ?a2 ?a3 ?a4 ?a5
  case a1 => exact pv 17
  case a2 => exact (pa_cons (pv 16) pa_nil)
  case a3 => rfl
  case a4 => rfl
  case a5 => rfl
theorem hT1 : ∀ p ∈ TL P0, p.1 = P0 → p.2 = qL := fun p hp _ => by rw [List.mem_singleton.mp hp]
theorem lam0 (tb : TabB base mg c P0) (e : EnvK P w K mg base CS CD c1 c2 c3) : PE (XL P w K mg base f c A outer s H E) (lamE 0) (LM.tLamV (TL P0) (LM.lamT (lamE 0)) .plain qL (LM.clo (XL P w K mg base f c A outer s H E) (LM.lamT (lamE 0)))) :=
  LM.lamv_of ⟨_, rfl⟩ (go0 e) tb rfl (List.mem_singleton.mpr rfl) hT1
theorem lam1 (tb : TabB base mg c P0) (e : EnvK P w K mg base CS CD c1 c2 c3) : PE (XL P w K mg base f c A outer s H E) (lamE 1) (LM.tLamV (TL P0) (LM.lamT (lamE 1)) (.dflt "_law_x" 0) qL (LM.clo (XL P w K mg base f c A outer s H E) (LM.lamT (lamE 1)))) :=
  LM.lamv_of ⟨_, rfl⟩ (go1 e) tb rfl (List.mem_singleton.mpr rfl) hT1
theorem lam2 (tb : TabB base mg c P0) (e : EnvK P w K mg base CS CD c1 c2 c3) : PE (XL P w K mg base f c A outer s H E) (lamE 2) (LM.tLamV (TL P0) (LM.lamT (lamE 2)) (.dflt "_law_y" 0) qL (LM.clo (XL P w K mg base f c A outer s H E) (LM.lamT (lamE 2)))) :=
  LM.lamv_of ⟨_, rfl⟩ (go2 e) tb rfl (List.mem_singleton.mpr rfl) hT1
theorem lam3 (tb : TabB base mg c P0) (e : EnvK P w K mg base CS CD c1 c2 c3) : PE (XL P w K mg base f c A outer s H E) (lamE 3) (LM.tLamV (TL P0) (LM.lamT (lamE 3)) (.dflt "_law_z" 0) qL (LM.clo (XL P w K mg base f c A outer s H E) (LM.lamT (lamE 3)))) :=
  LM.lamv_of ⟨_, rfl⟩ (go3 e) tb rfl (List.mem_singleton.mpr rfl) hT1
theorem lcw (e : EnvK P w K mg base CS CD c1 c2 c3) (hr : Room 11 (XL P w K mg base f c A outer s H E).A) : PE (XL P w K mg base f c A outer s H E) lcE (tLc (iList K (tVar 15)) (gName 19) tYes (LM.tAskV (TWhy K c1 c2 c3) qL (ms CS CD (XL P w K mg base f c A outer s H E)) 19) [19]) := by
  have nd := sc_law.nd
  refine LM.lcask_of (own := [("_law_ask", 19)]) (asks e hr) hr (fun m hm => ?_) rfl nd ⟨_, _, _, _, _, _, _, rfl, pi_list (pv 15), blkOk_by (own := [("_law_ask", 19)]) (N := n_law) (sc := defScope sLaw) (by decide +kernel), fun _ _ _ _ _ => pg_name (i := 19) nd rfl (Or.inl rfl), fun _ _ _ _ _ => rfl, fun _ _ _ _ _ => pv 19, fun _ => rfl, fun _ => rfl⟩
  simp only [ms, List.mem_cons, List.not_mem_nil, or_false] at hm
  rcases hm with rfl | rfl | rfl | rfl
  · exact ⟨go0 e, LM.off_by (by show LM.offB _ (LM.lamT (lamE 0)).scope = true; decide +kernel)⟩
  · exact ⟨go1 e, LM.off_by (by show LM.offB _ (LM.lamT (lamE 1)).scope = true; decide +kernel)⟩
  · exact ⟨go2 e, LM.off_by (by show LM.offB _ (LM.lamT (lamE 2)).scope = true; decide +kernel)⟩
  · exact ⟨go3 e, LM.off_by (by show LM.offB _ (LM.lamT (lamE 3)).scope = true; decide +kernel)⟩
end
end
end RF

namespace RF
open PySem L2 PyProof.Rows EX
open LamX (Tabs TabS ExtN TabB CodeO)
theorem sm_upd {H H1 : Hp} {a : Addr} {o : HO} (s : Same H H1) (h : H a = none) : Same H (upd H1 a o) := fun b u e => by
  have hne : b ≠ a := fun z => by rw [z, h] at e; cases e
  rw [upd_ne hne]
  exact s b u e
theorem ask_tT {P : Program} {w : World} {K : PySem.W.Frag} {mg : Str → Option Value} {c1 c2 c3 CE f : Addr} {nm : Str} {L : LM.LTx} {κ : LM.LK} {cl : List (Str × Addr)} {σ : L2.St} {H0 : Hp} {Q : VK} {t : XK → TE} (O : OwnT P w K mg nm CE) (xx : PySem.W.exmAny K (.ref CE) [.ref c1, .ref c2, .ref c3] = some true) (kd : Kd nm none)
    (lv : LM.LamV L κ qL cl H0 f) (ht : ∀ E Q', RsdT CE nm H0 E → t E σ H0 Q') (kk : ∀ u H', Same H0 H' → H' u = some (.tup [.str nm, .non]) → Q (.ref u) H') : TWhy K c1 c2 c3 (fun E H' Q' => LM.LamV L κ qL cl H' f ∧ t E σ H' Q') H0 Q :=
  ⟨lv, ht _ _ (why_errT O xx kd kk)⟩
/-- one more of the objects of a list that is being made -/
theorem stepg {H : Hp} {D t : Addr} {i : Nat} {g : Nat → Addr} {q : Nat → HO} (hg : H D = some (.lst ((List.range i).map fun j => V.ref (g j)))) (hr : ∀ j, j < i → H (g j) = some (q j)) (ht : H t = some (q i)) (nl : ∀ j xs, q j ≠ .lst xs) :
    ∃ g' : Nat → Addr, upd H D (.lst (((List.range i).map fun j => V.ref (g j)) ++ [.ref t])) D = some (.lst ((List.range (i + 1)).map fun j => V.ref (g' j))) ∧ ∀ j, j < i + 1 → upd H D (.lst (((List.range i).map fun j => V.ref (g j)) ++ [.ref t])) (g' j) = some (q j) := by
  have off : ∀ (p : Addr) j, H p = some (q j) → p ≠ D := fun p j h z => by
    rw [z, hg] at h
    exact nl j _ (Option.some.inj h).symm
  refine ⟨fun j => if j = i then t else g j, ?_, fun j hj => ?_⟩
  · have e1 : ((List.range i).map fun j => V.ref (if j = i then t else g j)) = (List.range i).map fun j => V.ref (g j) := List.map_congr_left fun j hj => by
      rw [if_neg (by have := List.mem_range.mp hj; omega)]
    rw [upd_same, List.range_succ, List.map_append, e1, List.map_singleton]
    show some (HO.lst (_ ++ [V.ref t])) = some (HO.lst (_ ++ [V.ref (if i = i then t else g i)]))
    rw [if_pos rfl]
  · by_cases hji : j = i
    · subst hji
      show upd H D _ (if j = j then t else g j) = _
      rw [if_pos rfl, upd_ne (off _ _ ht)]
      exact ht
    · show upd H D _ (if j = i then t else g j) = _
      rw [if_neg hji]
      have h1 := hr j (by omega)
      rw [upd_ne (off _ _ h1)]
      exact h1
theorem svs5 {H : Hp} {C r0 r1 r2 r3 r4 : Addr} {d i0 i1 i2 i3 i4 j0 j1 j2 j3 j4 k0 k1 k2 k3 k4 : Int} (h0 : SV H C r0 d i0 j0 k0) (h1 : SV H C r1 d i1 j1 k1) (h2 : SV H C r2 d i2 j2 k2) (h3 : SV H C r3 d i3 j3 k3) (h4 : SV H C r4 d i4 j4 k4) :
    ∀ i x, ([.ref r0, .ref r1, .ref r2, .ref r3, .ref r4] : List V)[i]? = some x → i < 5 ∧ ∃ r, x = .ref r ∧ SV H C r d (([i0, i1, i2, i3, i4] : List Int).getD i 0) (([j0, j1, j2, j3, j4] : List Int).getD i 0) (([k0, k1, k2, k3, k4] : List Int).getD i 0)
  | 0, _, h => ⟨by decide, r0, (Option.some.inj h).symm, h0⟩
  | 1, _, h => ⟨by decide, r1, (Option.some.inj h).symm, h1⟩
  | 2, _, h => ⟨by decide, r2, (Option.some.inj h).symm, h2⟩
  | 3, _, h => ⟨by decide, r3, (Option.some.inj h).symm, h3⟩
  | 4, _, h => ⟨by decide, r4, (Option.some.inj h).symm, h4⟩
  | _ + 5, _, h => nomatch h
theorem dins {H : Hp} {C p q : Addr} {d i j k : Int} (a : SV H C p d i j k) (b : SV H C q d i j k) : DIns C (EqS C) (.ref p) (.ref q) H := by
  obtain ⟨dx, fs, h1, _⟩ := a.ins
  obtain ⟨dy, gs, h2, _⟩ := b.ins
  exact ⟨p, q, dx, dy, fs, gs, rfl, rfl, h1, h2, d, i, j, k, a, b⟩
theorem dp_map {K : PySem.W.Frag} {H : Hp} {g : Nat → Addr} {q : Nat → PyData} : ∀ l : List Nat, (∀ j ∈ l, Dp K H (.ref (g j)) (q j)) → DpAll K H (l.map fun j => V.ref (g j)) (l.map q)
  | [], _ => .nil
  | j :: l, h => .cons (h j (List.mem_cons_self ..)) (dp_map l fun k hk => h k (List.mem_cons_of_mem _ hk))
theorem dt3 {K : PySem.W.Frag} {H : Hp} {q : Addr} {i j k : Int} (h : H q = some (.tup [.int i, .int j, .int k])) : Dp K H (.ref q) (.tuple [.int i, .int j, .int k]) := .tup (SqT.of h) (.cons (.int _) (.cons (.int _) (.cons (.int _) .nil)))
theorem dtn {K : PySem.W.Frag} {H : Hp} {q : Addr} {x : Str} (h : H q = some (.tup [.str x, .non])) : Dp K H (.ref q) (.tuple [.str x, .none]) := .tup (SqT.of h) (.cons (.str _) (.cons .non .nil))
/-- the texts of parts, five of them -/
def PL (vI vJ vK : Nat → Int) : PyData := .list ((List.range 5).map fun j => .tuple [.int (pI (vI j) (vJ j) (vK j)), .int (pJ (vI j) (vJ j) (vK j)), .int (pK (vI j) (vJ j) (vK j))])
theorem PL_lay (vI vJ vK : Nat → Int) : (PL vI vJ vK).canLay0 = true := rfl
theorem PL_sh (vI vJ vK : Nat → Int) : SeqAt.shaped (PL vI vJ vK) = true := rfl
theorem PL_eq (vI vJ vK : Nat → Int) : PyData.eqv (PL vI vJ vK) (PL vI vJ vK) = true := SeqAt.eqv_refl _ (PL_lay vI vJ vK)
/-- the roots that are not d -/
def others (d : Int) (u : Nat) : List Int := (([2, 3, 5, 6, 13] : List Int).take u).filter fun x => !decide (x = d)
theorem others_step {d x : Int} {u : Nat} (h : ([2, 3, 5, 6, 13] : List Int)[u]? = some x) : others d (u + 1) = others d u ++ (if x = d then [] else [x]) := by
  unfold others
  rw [List.take_succ, h, Option.toList_some, List.filter_append]
  by_cases z : x = d
  · simp [z]
  · simp [z]
theorem others_end {d : Int} (hd : Root d) : 0 < (others d 5).length ∧ (others d 5).length < 1000000 ∧ ∀ x ∈ others d 5, Root x ∧ d ≠ x := by
  refine ⟨?_, Nat.lt_of_le_of_lt (List.length_filter_le ..) (by decide), fun x hx => ?_⟩
  · unfold Root at hd
    rcases hd with rfl | rfl | rfl | rfl | rfl <;> decide
  · have := List.mem_filter.mp hx
    refine ⟨?_, fun z => by simp [z] at this⟩
    have h := this.1
    simp only [List.take, List.mem_cons, List.not_mem_nil, or_false] at h
    unfold Root
    omega
theorem others_le (d : Int) (u : Nat) : (others d u).length ≤ 5 := Nat.le_trans (List.length_filter_le ..) (by rw [List.length_take]; exact Nat.min_le_right ..)
theorem SV.kpC {H H' : Hp} {C b c p : Addr} {d i j k : Int} (B : BagAt H b c) (kp : Kp b H H') (h : SV H C p d i j k) : SV H' C p d i j k := by
  obtain ⟨k0, dx, t, h1, h2⟩ := h
  obtain ⟨xs, hb⟩ := B.atB
  exact ⟨k0, dx, t, kp _ _ (fun z => by rw [z, hb] at h1; cases h1) h1, kp _ _ (fun z => by rw [z, hb] at h2; cases h2) h2⟩
abbrev TD (i j k : Int) : PyData := .tuple [.int (pI i j k), .int (pJ i j k), .int (pK i j k)]
theorem KD_eq (i j k i2 j2 k2 : Int) : PyData.eqv (.list [TD i j k, TD i2 j2 k2]) (.list [TD i j k, TD i2 j2 k2]) = true := SeqAt.eqv_refl _ rfl
abbrev ED : PyData := .tuple [.str "FieldsDiffer", .none]
end RF

namespace RF
open PySem L2 PyProof.Rows EX
open LamX (Tabs TabS ExtN TabB CodeO)
section
variable {P : Program} {w : World} {K : PySem.W.Frag} {mg : Str → Option Value} {base : Heap}
theorem eqS_mon {C : Addr} : ∀ a b H H', Ext H H' → EqS C a b H → EqS C a b H' := fun a b H H' x h => by
  obtain ⟨d, i, j, k, h1, h2⟩ := h
  exact ⟨d, i, j, k, h1.same x, h2.same x⟩
theorem ok_law {f c P0 CS CD c1 c2 c3 : Addr} {kV doc pm ct oc : Value} {an od : Option Addr} {osl : Array (Option Value)} (lk : K.lookup f = some ⟨oc, od, .func (PySem.W.fnOf "law" "law" (defArgs sLaw) (defBody sLaw) (defScope sLaw) .none kV doc pm an (.ref c) ct), osl⟩) (hcd : PySem.W.codeIn K (.ref c) "law" = true)
    (tb : TabB base mg c P0) (e : EnvK P w K mg base CS CD c1 c2 c3) : FnOk P w K mg base CX0 13 f (PySem.W.fnOf "law" "law" (defArgs sLaw) (defBody sLaw) (defScope sLaw) .none kV doc pm an (.ref c) ct) ["_law_script"] (spLaw K P0) := by
  refine fn_of lk hcd sc_law (fun vs H Q E h => by obtain ⟨a, ns, rfl, _⟩ := h; rfl) fun A outer s H vs Q E hr h => ?_
  obtain ⟨a, ns, rfl, hS, hl, hP0, kk⟩ := h
  have nd := sc_law.nd
  have T := e.T
  obtain ⟨fS, fdS, MS, GS, kbS, ⟨ds1, v1, b1⟩, ⟨dsS, vS, bS⟩⟩ := e.mkS.ex
  obtain ⟨fad, GAd, OAd⟩ := e.add
  obtain ⟨fsu, GSu, OSu⟩ := e.sub
  obtain ⟨fmu, GMu, OMu⟩ := e.mul
  obtain ⟨fne, GN, ON⟩ := e.neg
  obtain ⟨feq, fdeq, GE, OE, bE⟩ := e.eqS
  have hr11 : Room 11 (A.deeper (envOfC "law" (defScope sLaw) s.heap.objs.size f (.ref c))) := hr.mono (by decide)
  have hr9 : Room 9 (A.deeper (envOfC "law" (defScope sLaw) s.heap.objs.size f (.ref c))) := hr.mono (by decide)
  have hr8 : Room 8 (A.deeper (envOfC "law" (defScope sLaw) s.heap.objs.size f (.ref c))) := hr.mono (by decide)
  have hr7 : Room 7 (A.deeper (envOfC "law" (defScope sLaw) s.heap.objs.size f (.ref c))) := hr.mono (by decide)
  suffices hs : ∃ t, PSs (cxOf CX0 P w K mg base n_law "law" (defScope sLaw) f (.ref c) A outer s H E).nox (defBody sLaw) t ∧ t { nx := fun _ H' => Q .non H', rt := Q } (start n_law [.ref a]) H by
    obtain ⟨t, h1, h2⟩ := hs
    exact ⟨t, h1.nox, h2⟩
  refine ⟨_, (pss_cons (ps_set (i := 1) nd rfl (Or.inr rfl) (pe_callD e.bag hr (by decide) (pa_cons (pv 0) pa_nil)))
      (pss_cons (ps_for PassesOwn.never rfl (pi_range1 rfl e.range (pa_cons pe_int pa_nil)) (pg_name (i := 2) nd rfl (Or.inl rfl))
      (pss_cons (ps_asg (pe_tup (pa_cons (pe_callD e.root hr (by decide) (pa_cons (pv 1) pa_nil)) (pa_cons (pe_callD e.of_ hr (by decide) (pa_cons (pv 1) (pa_cons (pe_lst (pa_cons pe_int (pa_cons pe_int (pa_cons pe_int pa_nil)))) pa_nil))) pa_nil))) (pg_tup rfl (pgs_cons (pg_name (i := 3) nd rfl (Or.inr rfl)) (pgs_cons (pg_name (i := 4) nd rfl (Or.inr rfl)) pgs_nil))))
        (pss_cons (ps_asg (pe_lc (own := [("_law_side", 18)]) (g := gName 18) (tt := tYes) (te := tCall spSigned [] E0 (tCons (tVar 1) (tCons (tVar 4) tNil))) (by rfl) nd (pi_range1 rfl e.range (pa_cons pe_int pa_nil)) (blkOk_by (own := [("_law_side", 18)]) (N := n_law) (sc := defScope sLaw) (by decide +kernel)) (fun _ _ _ _ _ => (pg_name (i := 18) nd rfl (Or.inl rfl))) (fun _ _ _ _ _ => pts_nil) (fun _ _ _ _ _ => (pe_callD e.signed hr (by decide) (pa_cons (pv 1) (pa_cons (pv 4) pa_nil))))) (pg_lst rfl (pgs_cons (pg_name (i := 5) nd rfl (Or.inl rfl)) (pgs_cons (pg_name (i := 6) nd rfl (Or.inl rfl)) (pgs_cons (pg_name (i := 7) nd rfl (Or.inl rfl)) (pgs_cons (pg_name (i := 8) nd rfl (Or.inl rfl)) pgs_nil))))))
        (pss_cons (ps_par (i := 9) (j := 10) rfl nd rfl rfl (by decide) rfl rfl (pa_cons (pe_op op_add pe_int (pe_callD e.pull hr (by decide) (pa_cons (pv 1) (pa_cons pe_int pa_nil)))) (pa_cons (pe_op op_add pe_int (pe_callD e.pull hr (by decide) (pa_cons (pv 1) (pa_cons pe_int pa_nil)))) pa_nil)) (by kernel_rfl))
        (pss_cons (ps_asg (pe_tup (pa_cons (pe_makeK MS GS hr7 (by rfl) T.mg kbS pass0 (pa_cons (pv 3) (pa_cons (pv 5) (pa_cons (pv 6) pa_nil))) (pk_cons (pv 9) pk_nil)) (pa_cons (pe_makeK MS GS hr7 (by rfl) T.mg kbS pass0 (pa_cons (pv 3) (pa_cons (pv 7) (pa_cons (pv 8) pa_nil))) (pk_cons (pv 10) pk_nil)) pa_nil))) (pg_tup rfl (pgs_cons (pg_name (i := 17) nd rfl (Or.inr rfl)) (pgs_cons (pg_name (i := 11) nd rfl (Or.inl rfl)) pgs_nil))))
        (pss_cons (ps_set (i := 12) nd rfl (Or.inl rfl) (pe_lst (pa_cons (pe_mt0 (pv 17) T.cl e.parts hr (by decide)) (pa_cons (pe_mt0 (pv 11) T.cl e.parts hr (by decide)) pa_nil))))
        (pss_cons (ps_set (i := 13) nd rfl (Or.inl rfl) (pe_lst (pa_cons (pe_op (op_own (op := .Add) GAd hr9 OAd pass0) (pv 17) (pv 11)) (pa_cons (pe_op (op_own (op := .Sub) GSu hr9 OSu pass0) (pv 17) (pv 11)) (pa_cons (pe_op (op_own (op := .Mult) GMu hr9 OMu pass0) (pv 17) (pv 11)) (pa_cons (pe_un (un_own_neg GN hr9 ON pass0) (pv 17)) (pa_cons (pe_op (op_own (op := .Sub) GSu hr9 OSu pass0) (pv 11) (pv 11)) pa_nil)))))))
        (pss_cons (ps_set (i := 14) nd rfl (Or.inl rfl) (pe_lst (pa_cons (pe_makeK MS GS hr7 (by rfl) T.mg kbS pass0 (pa_cons (pv 3) (pa_cons (pe_op op_add (pe_op op_mulW (pv 5) (pv 10)) (pe_op op_mulW (pv 7) (pv 9))) (pa_cons (pe_op op_add (pe_op op_mulW (pv 6) (pv 10)) (pe_op op_mulW (pv 8) (pv 9))) pa_nil))) (pk_cons (pe_op op_mulW (pv 9) (pv 10)) pk_nil)) (pa_cons (pe_makeK MS GS hr7 (by rfl) T.mg kbS pass0 (pa_cons (pv 3) (pa_cons (pe_op op_sub (pe_op op_mulW (pv 5) (pv 10)) (pe_op op_mulW (pv 7) (pv 9))) (pa_cons (pe_op op_sub (pe_op op_mulW (pv 6) (pv 10)) (pe_op op_mulW (pv 8) (pv 9))) pa_nil))) (pk_cons (pe_op op_mulW (pv 9) (pv 10)) pk_nil)) pa_nil))))
        (pss_cons (ps_set (i := 14) nd rfl (Or.inl rfl) (pe_op op_cat (pv 14) (pe_lst (pa_cons (pe_makeK MS GS hr7 (by rfl) T.mg kbS pass0 (pa_cons (pv 3) (pa_cons (pe_op op_add (pe_op op_mulW (pv 5) (pv 7)) (pe_op op_mulW (pe_op op_mulW (pv 3) (pv 6)) (pv 8))) (pa_cons (pe_op op_add (pe_op op_mulW (pv 5) (pv 8)) (pe_op op_mulW (pv 6) (pv 7))) pa_nil))) (pk_cons (pe_op op_mulW (pv 9) (pv 10)) pk_nil)) (pa_cons (pe_makeK MS GS hr7 (by rfl) T.mg kbS pass0 (pa_cons (pv 3) (pa_cons (pe_un un_neg (pv 5)) (pa_cons (pe_un un_neg (pv 6)) pa_nil))) (pk_cons (pv 9) pk_nil)) (pa_cons (pe_make MS GS hr7 (by rfl) T.mg bS vS pass0 (pa_cons (pv 3) (pa_cons pe_int pa_nil))) pa_nil))))))
        (pss_cons (ps_if (pw_or (pt_cmpR (op_neD hr.units) (pe_lc (own := [("_law_each", 20)]) (g := gName 20) (tt := tYes) (te := tMeth CS "parts" (spParts CS) [] E0 (tVar 20) tNil) (by rfl) nd (pi_list (pv 13)) (blkOk_by (own := [("_law_each", 20)]) (N := n_law) (sc := defScope sLaw) (by decide +kernel)) (fun _ _ _ _ _ => (pg_name (i := 20) nd rfl (Or.inl rfl))) (fun _ _ _ _ _ => pts_nil) (fun _ _ _ _ _ => (pe_mt0 (pv 20) T.cl e.parts hr (by decide)))) (pe_lc (own := [("_law_each", 20)]) (g := gName 20) (tt := tYes) (te := tMeth CS "parts" (spParts CS) [] E0 (tVar 20) tNil) (by rfl) nd (pi_list (pv 14)) (blkOk_by (own := [("_law_each", 20)]) (N := n_law) (sc := defScope sLaw) (by decide +kernel)) (fun _ _ _ _ _ => (pg_name (i := 20) nd rfl (Or.inl rfl))) (fun _ _ _ _ _ => pts_nil) (fun _ _ _ _ _ => (pe_mt0 (pv 20) T.cl e.parts hr (by decide)))) (nomark _)) (pw_or1 (pt_cmpR (op_neG (mon_ins eqS_mon) (eqG_ins GE OE.at_ OE.fn bE pass0) hr8) (pv 13) (pv 14) (nomark _)))).pt
        (pss_one (ps_ret pe_bl))
        pss_nil)
        (pss_cons (ps_if (pw_or (pt_cmpR (op_neD hr.units) (pe_lst (pa_cons (pe_mt0 (pv 17) T.cl e.parts hr (by decide)) (pa_cons (pe_mt0 (pv 11) T.cl e.parts hr (by decide)) pa_nil))) (pv 12) (nomark _)) (pw_or (pt_cmpR (op_neOwn GE hr8 OE bE pass0) (pe_op (op_own (op := .Mult) GMu hr9 OMu pass0) (pv 17) (pv 11)) (pe_op (op_own (op := .Mult) GMu hr9 OMu pass0) (pv 11) (pv 17)) (nomark _)) (pw_or1 (pt_cmpR (op_neOwn GE hr8 OE bE pass0) (pe_op (op_own (op := .Add) GAd hr9 OAd pass0) (pv 17) (pv 11)) (pe_op (op_own (op := .Add) GAd hr9 OAd pass0) (pv 11) (pv 17)) (nomark _))))).pt
        (pss_one (ps_ret pe_bl))
        pss_nil)
        (pss_cons (ps_set (i := 16) nd rfl (Or.inr rfl) (pe_make MS GS hr7 (by rfl) T.mg b1 v1 pass0 (pa_cons (pe_callD e.of_ hr (by decide) (pa_cons (pv 1) (pa_cons (pe_lc (own := [("_law_each", 20)]) (g := gName 20) (tt := tTest (tOp rNe (tVar 20) (tVar 3))) (te := tVar 20) (by rfl) nd (pi_list (pe_lst (pa_cons pe_int (pa_cons pe_int (pa_cons pe_int (pa_cons pe_int (pa_cons pe_int pa_nil))))))) (blkOk_by (own := [("_law_each", 20)]) (N := n_law) (sc := defScope sLaw) (by decide +kernel)) (fun _ _ _ _ _ => (pg_name (i := 20) nd rfl (Or.inl rfl))) (fun _ _ _ _ _ => (pts_one (pt_cmpR op_ne (pv 20) (pv 3) (nomark _)))) (fun _ _ _ _ _ => (pv 20))) pa_nil))) (pa_cons pe_int (pa_cons pe_int pa_nil)))))
        (pss_cons (ps_set (i := 15) nd rfl (Or.inl rfl) (pe_lst (pa_cons (lam0 tb e) (pa_cons (lam1 tb e) (pa_cons (lam2 tb e) (pa_cons (lam3 tb e) pa_nil))))))
        (pss_one (ps_if (pt_cmpR (op_neD hr.units) (lcw e hr11) (pe_op op_rep (pe_lst (pa_cons (pe_tup (pa_cons pe_str (pa_cons pe_non pa_nil))) pa_nil)) pe_int) (nomark _))
        (pss_one (ps_ret pe_bl))
        pss_nil)))))))))))))))
      (pss_one (ps_ret (pe_cmpR (op_eqD hr.units) (pe_mt0 (pe_op (op_own (op := .Mult) GMu hr9 OMu pass0) (pe_makeK MS GS hr7 (by rfl) T.mg kbS pass0 (pa_cons pe_int (pa_cons pe_int (pa_cons pe_int pa_nil))) (pk_cons pe_int pk_nil)) (pe_makeK MS GS hr7 (by rfl) T.mg kbS pass0 (pa_cons pe_int (pa_cons (pe_un un_neg pe_int) (pa_cons pe_int pa_nil))) (pk_cons pe_int pk_nil))) T.cl e.parts hr (by decide)) (pe_tup (pa_cons pe_int (pa_cons pe_int (pa_cons pe_int pa_nil)))) (nomark _)))))), ?_⟩
  refine ⟨_, rfl, a, ns, rfl, hS, hl, fun b H1 nb B1 sm1 => ?_⟩
  obtain ⟨c0, B1⟩ := B1.here
  refine ⟨5, rfl, by decide, by decide, for_range (n := 5) (fun _ σ H' => ∃ v2 v3 v4 v5 v6 v7 v8 v9 v10 v11 v12 v13 v14 v15 v16 v17 : Option V,
      σ = [some (.ref a), some (.ref b), v2, v3, v4, v5, v6, v7, v8, v9, v10, v11, v12, v13, v14, v15, v16, v17, none, none, none] ∧ BagAt H' b c0 ∧ Tabs (TL P0) H')
    ⟨none, none, none, none, none, none, none, none, none, none, none, none, none, none, none, none, rfl, B1, fun p hp => by
      rw [List.mem_singleton.mp hp]
      exact TabS.nil (sm1 _ _ hP0)⟩ ?_ ?_⟩
  · rintro i0 σ H2 hi0 ⟨v2, v3, v4, v5, v6, v7, v8, v9, v10, v11, v12, v13, v14, v15, v16, v17, rfl, B2, T2⟩
    -- root, many
    refine ⟨_, rfl, b, c0, rfl, B2, fun d H3 hd0 B3 kp3 => ?_⟩
    have hd : Root d := by unfold Root; omega
    have T3 := Tabs.kpC T2 B2 kp3
    refine ⟨_, rfl, by show 3 ≤ sizeLine; decide, fun p1 hp1 => ?_⟩
    have s4 := sNew (o := .lst [.int 1, .int 2, .int 20]) (Same.refl H3) hp1
    refine ⟨b, c0, p1, _, rfl, B3.same s4, SqL.of upd_same, (B3.off hp1).1, by show 0 < 3; decide, by show 3 < 1000000; decide, fun v H5 hv B5 kp5 => ?_⟩
    obtain ⟨mm, rfl, mm0, mm1⟩ : ∃ mm, v = V.int mm ∧ 0 < mm ∧ mm ≤ 20 := by
      simp only [List.mem_cons, List.not_mem_nil, or_false] at hv
      rcases hv with rfl | rfl | rfl
      · exact ⟨_, rfl, by decide, by decide⟩
      · exact ⟨_, rfl, by decide, by decide⟩
      · exact ⟨_, rfl, by decide, by decide⟩
    have T5 := Tabs.kpC (Tabs.sm T3 s4) (B3.same s4) kp5
    refine ⟨by show 2 ≤ sizeLine; decide, fun t1 ht1 => ⟨t1, _, rfl, SqT.of upd_same, rfl, _, _, rfl, _, _, rfl, rfl, ?_⟩⟩
    have s6 := sNew (o := .tup [.int d, .int mm]) (Same.refl H5) ht1
    have B6 := B5.same s6
    have T6 := Tabs.sm T5 s6
    obtain ⟨H6, hH6⟩ : ∃ H6, upd H5 t1 (.tup [.int d, .int mm]) = H6 := ⟨_, rfl⟩
    rw [hH6] at s6 B6 T6 ⊢
    -- a, b, c, d
    refine ⟨4, rfl, by decide, by decide, fun D1 hD1 => ?_⟩
    have nD := B6.off hD1
    refine lc_range (n := 4) (fun u H' => ∃ ws : List Int, ws.length = u ∧ (∀ i ∈ ws, Bd 70 i) ∧ H' D1 = some (.lst (ws.map V.int)) ∧ BagAt H' b c0 ∧ Kp b H6 H') ⟨[], rfl, by simp, upd_same, B6.put nD, Kp.of (sNew (Same.refl _) hD1)⟩ ?_ ?_
    · rintro u H7 hu ⟨ws, hw, bw, hD7, B7, kp7⟩
      refine ⟨rfl, yes_if ?_⟩
      refine ⟨_, rfl, _, rfl, b, c0, mm, rfl, B7, mm0, mm1, fun i H8 bi B8 kp8 => ?_⟩
      have hD8 := kp8 _ _ nD.1 hD7
      refine ⟨_, hD8, by rw [List.length_map, hw, sizeLine_eq]; omega, ws ++ [i], by rw [List.length_append, hw]; rfl, fun j hj => ?_, ?_, B8.put nD, (kp7.trans kp8).up hD1⟩
      · rcases List.mem_append.mp hj with h | h
        · exact bw j h
        · rw [List.mem_singleton.mp h]; exact bi
      · rw [upd_same, List.map_append]; rfl
    rintro H7 ⟨ws, hw, bw, hD7, B7, kp7⟩
    obtain ⟨ia, ib, ic, id', rfl⟩ : ∃ ia ib ic id', ws = [ia, ib, ic, id'] := by
      match ws, hw with
      | [x1, x2, x3, x4], _ => exact ⟨x1, x2, x3, x4, rfl⟩
    have ba := bw ia (by simp)
    have bb := bw ib (by simp)
    have bc := bw ic (by simp)
    have bd := bw id' (by simp)
    have T7 := Tabs.kpC T6 B6 kp7
    refine ⟨D1, _, rfl, SqL.of hD7, rfl, _, _, rfl, _, _, rfl, _, _, rfl, _, _, rfl, rfl, ?_⟩
    -- k, m
    refine ⟨_, rfl, b, c0, 9, rfl, B7, by decide, by decide, fun k1 H8 k10 k11 B8 kp8 => ⟨_, _, rfl, rfl, _, rfl, b, c0, 9, rfl, B8, by decide, by decide, fun m1 H9 m10 m11 B9 kp9 => ⟨_, _, rfl, rfl, _, _, rfl, ?_⟩⟩⟩
    have T9 := Tabs.kpC (Tabs.kpC T7 B7 kp8) B8 kp9
    have bk : Bd 70 (1 + k1) := by unfold Bd; omega
    have bm : Bd 70 (1 + m1) := by unfold Bd; omega
    -- one, other
    refine ⟨_, rfl, _, rfl, _, rfl, _, rfl, rfl, rfl, fun x dx nx ndx nex => ⟨x, dx, d, ia, ib, 1 + k1, rfl, upd_same, hd, by omega, ba.mono (by decide), bb.mono (by decide), bk.mono (by decide), fun HA SA kqA => ⟨rfl, ?_⟩⟩⟩
    have smA := Same.made nx ndx kqA
    have svx : SV HA CS x d ia ib (1 + k1) := ⟨by omega, SA⟩
    refine ⟨_, rfl, _, rfl, _, rfl, _, rfl, rfl, rfl, fun y dy ny ndy ney => ⟨y, dy, d, ic, id', 1 + m1, rfl, upd_same, hd, by omega, bc.mono (by decide), bd.mono (by decide), bm.mono (by decide), fun HB SB kqB => ⟨rfl, ?_⟩⟩⟩
    have smB := Same.made ny ndy kqB
    have svy : SV HB CS y d ic id' (1 + m1) := ⟨by omega, SB⟩
    refine ⟨by show 2 ≤ sizeLine; decide, fun t2 ht2 => ⟨t2, _, rfl, SqT.of upd_same, rfl, _, _, rfl, _, _, rfl, rfl, ?_⟩⟩
    have sC := sNew (o := .tup [.ref x, .ref y]) (Same.refl HB) ht2
    obtain ⟨HC, hHC⟩ : ∃ HC, upd HB t2 (.tup [.ref x, .ref y]) = HC := ⟨_, rfl⟩
    rw [hHC] at sC ⊢
    have svx := (svx.same smB).same sC
    have svy := svy.same sC
    have BC := B9.same ((smA.trans smB).trans sC)
    have TC := Tabs.sm T9 ((smA.trans smB).trans sC)
    obtain ⟨dxx, fsx, inx, nox⟩ := svx.ins
    obtain ⟨dxy, fsy, iny, noy⟩ := svy.ins
    -- kept
    refine ⟨_, rfl, x, dxx, fsx, rfl, inx, nox _ (by decide) (by decide), x, d, _, _, _, rfl, svx, fun tx htx => ⟨_, rfl, y, dxy, fsy, rfl, iny, noy _ (by decide) (by decide), y, d, _, _, _, rfl, svy, fun ty hty => ⟨by show 2 ≤ sizeLine; decide, fun lk0 hlk => ?_⟩⟩⟩
    have sD := sNew (o := .lst [.ref tx, .ref ty]) (Same.refl HC) hlk
    have svx1 := svx.same sD
    have svy1 := svy.same sD
    -- made
    refine ⟨_, rfl, _, rfl, x, y, _, _, _, _, rfl, rfl, sD _ _ inx, sD _ _ iny, x, y, d, ia, ib, _, ic, id', _, rfl, svx1, svy1, hd, ba.mono (by decide), bb.mono (by decide), bk.mono (by decide), bc.mono (by decide), bd.mono (by decide), bm.mono (by decide), fun r1 E1 nr1 sr1 e1 => ?_⟩
    have s1 := sD.trans e1
    refine ⟨_, rfl, _, rfl, x, y, _, _, _, _, rfl, rfl, s1 _ _ inx, s1 _ _ iny, x, y, d, ia, ib, _, ic, id', _, rfl, svx.same s1, svy.same s1, hd, ba.mono (by decide), bb.mono (by decide), bk.mono (by decide), bc.mono (by decide), bd.mono (by decide), bm.mono (by decide), fun r2 E2 nr2 sr2 e2 => ?_⟩
    have s2 := s1.trans e2
    refine ⟨_, rfl, _, rfl, x, y, _, _, _, _, rfl, rfl, s2 _ _ inx, s2 _ _ iny, x, y, d, ia, ib, _, ic, id', _, rfl, svx.same s2, svy.same s2, hd, ba.mono (by decide), bb.mono (by decide), bk.mono (by decide), bc.mono (by decide), bd.mono (by decide), bm.mono (by decide), fun r3 E3 nr3 sr3 e3 => ?_⟩
    have s3 := s2.trans e3
    refine ⟨_, rfl, x, _, _, rfl, s3 _ _ inx, x, d, ia, ib, _, rfl, svx.same s3, hd, ba.mono (by decide), bb.mono (by decide), bk.mono (by decide), fun r4 E4 nr4 sr4 e4 => ?_⟩
    have s4' := s3.trans e4
    refine ⟨_, rfl, _, rfl, y, y, _, _, _, _, rfl, rfl, s4' _ _ iny, s4' _ _ iny, y, y, d, ic, id', _, ic, id', _, rfl, svy.same s4', svy.same s4', hd, bc.mono (by decide), bd.mono (by decide), bm.mono (by decide), bc.mono (by decide), bd.mono (by decide), bm.mono (by decide), fun r5 E5 nr5 sr5 e5 => ⟨by show 5 ≤ sizeLine; decide, fun lm hlm => ?_⟩⟩
    have s5 := (s4'.trans e5).trans (sNew (o := .lst [.ref r1, .ref r2, .ref r3, .ref r4, .ref r5]) (Same.refl E5) hlm)
    obtain ⟨F0, hF0⟩ : ∃ F0, upd E5 lm (.lst [.ref r1, .ref r2, .ref r3, .ref r4, .ref r5]) = F0 := ⟨_, rfl⟩
    have wM : F0 lm = some (.lst [.ref r1, .ref r2, .ref r3, .ref r4, .ref r5]) := hF0 ▸ upd_same
    have e6 : Same E5 F0 := hF0 ▸ sNew (Same.refl E5) hlm
    rw [hF0] at s5 ⊢
    have km0 : (1 + k1) * (1 + m1) ≠ 0 := Int.mul_ne_zero (by omega) (by omega)
    have mm0 : (1 + m1) * (1 + m1) ≠ 0 := Int.mul_ne_zero (by omega) (by omega)
    have vm1 := sr1.same ((((e2.trans e3).trans e4).trans e5).trans e6)
    have vm2 := sr2.same (((e3.trans e4).trans e5).trans e6)
    have vm3 := sr3.same ((e4.trans e5).trans e6)
    have vm4 := sr4.same (e5.trans e6)
    have vm5 : SV F0 CS r5 d 0 0 1 := SV.cong (sr5.same e6) (by decide) (by rw [Int.sub_self, Int.zero_mul, Int.zero_mul]) (by rw [Int.sub_self, Int.zero_mul, Int.zero_mul])
    have bam := ba.mul bm
    have bbm := bb.mul bm
    have bck := bc.mul bk
    have bdk := bd.mul bk
    have bkm : Bd 1000 ((1 + k1) * (1 + m1)) := (bk.mul bm).mono (by decide)
    have b1000 : Bd 1000 (1 : Int) := by unfold Bd; decide
    have b0000 : Bd 1000 (0 : Int) := by unfold Bd; decide
    -- due
    dsimp only [List.set_cons_succ, List.set_cons_zero]
    refine ⟨_, rfl, _, rfl, _, rfl, _, _, rfl, rfl, mulOk ba bm (by decide) (by decide) (by decide), _, rfl, _, rfl, _, _, rfl, rfl, mulOk bc bk (by decide) (by decide) (by decide), _, _, rfl, rfl, ?_⟩
    refine ⟨_, rfl, _, rfl, _, _, rfl, rfl, mulOk bb bm (by decide) (by decide) (by decide), _, rfl, _, rfl, _, _, rfl, rfl, mulOk bd bk (by decide) (by decide) (by decide), _, _, rfl, rfl, ?_⟩
    refine ⟨_, rfl, _, rfl, _, _, rfl, rfl, mulOk bk bm (by decide) (by decide) (by decide), rfl, rfl, fun u1 du1 nu1 ndu1 neu1 => ⟨u1, du1, d, _, _, _, rfl, upd_same, hd, km0, (bam.add bck).mono (by decide), (bbm.add bdk).mono (by decide), bkm, fun G1 SG1 kq1 => ⟨rfl, ?_⟩⟩⟩
    have g1 := Same.made nu1 ndu1 kq1
    -- due 1
    have w1 : SV G1 CS u1 d (ia * (1 + m1) + ic * (1 + k1)) (ib * (1 + m1) + id' * (1 + k1)) ((1 + k1) * (1 + m1)) := ⟨km0, SG1⟩
    refine ⟨_, rfl, _, rfl, _, rfl, _, _, rfl, rfl, mulOk ba bm (by decide) (by decide) (by decide), _, rfl, _, rfl, _, _, rfl, rfl, mulOk bc bk (by decide) (by decide) (by decide), _, _, rfl, rfl, ?_⟩
    refine ⟨_, rfl, _, rfl, _, _, rfl, rfl, mulOk bb bm (by decide) (by decide) (by decide), _, rfl, _, rfl, _, _, rfl, rfl, mulOk bd bk (by decide) (by decide) (by decide), _, _, rfl, rfl, ?_⟩
    refine ⟨_, rfl, _, rfl, _, _, rfl, rfl, mulOk bk bm (by decide) (by decide) (by decide), rfl, rfl, fun u2 du2 nu2 ndu2 neu2 => ⟨u2, du2, d, _, _, _, rfl, upd_same, hd, km0, by rw [Int.sub_eq_add_neg]; exact (bam.add bck.neg).mono (by decide), by rw [Int.sub_eq_add_neg]; exact (bbm.add bdk.neg).mono (by decide), bkm, fun G2 SG2 kq2 => ⟨rfl, ?_⟩⟩⟩
    have g2 := Same.made nu2 ndu2 kq2
    have w2 : SV G2 CS u2 d (ia * (1 + m1) - ic * (1 + k1)) (ib * (1 + m1) - id' * (1 + k1)) ((1 + k1) * (1 + m1)) := ⟨km0, SG2⟩
    refine ⟨by show 2 ≤ sizeLine; decide, fun ld hld => ?_⟩
    have g3 := sNew (o := .lst [.ref u1, .ref u2]) (Same.refl G2) hld
    -- the other three
    refine ⟨_, rfl, _, rfl, _, rfl, _, rfl, _, _, rfl, rfl, mulOk ba bc (by decide) (by decide) (by decide), _, rfl, _, rfl, _, _, rfl, rfl, mulOk (rootBd hd) bb (by decide) (by decide) (by decide), _, rfl, _, _, rfl, rfl, mulOk ((rootBd hd).mul bb) bd (by decide) (by decide) (by decide), _, _, rfl, rfl, ?_⟩
    refine ⟨_, rfl, _, rfl, _, _, rfl, rfl, mulOk ba bd (by decide) (by decide) (by decide), _, rfl, _, rfl, _, _, rfl, rfl, mulOk bb bc (by decide) (by decide) (by decide), _, _, rfl, rfl, ?_⟩
    refine ⟨_, rfl, _, rfl, _, _, rfl, rfl, mulOk bk bm (by decide) (by decide) (by decide), rfl, rfl, fun u3 du3 nu3 ndu3 neu3 => ⟨u3, du3, d, _, _, _, rfl, upd_same, hd, km0, ((((ba.mul bc).mono (by decide : 140 ≤ 144)).add (((rootBd hd).mul bb).mul bd)).mono (by decide)), ((ba.mul bd).add (bb.mul bc)).mono (by decide), bkm, fun G3 SG3 kq3 => ⟨rfl, ?_⟩⟩⟩
    have g4 := Same.made nu3 ndu3 kq3
    have w3 : SV G3 CS u3 d (ia * ic + d * ib * id') (ia * id' + ib * ic) ((1 + k1) * (1 + m1)) := ⟨km0, SG3⟩
    refine ⟨_, rfl, _, rfl, _, rfl, _, rfl, _, rfl, _, rfl, rfl, rfl, fun u4 du4 nu4 ndu4 neu4 => ⟨u4, du4, d, _, _, _, rfl, upd_same, hd, by omega, ba.neg.mono (by decide), bb.neg.mono (by decide), bk.mono (by decide), fun G4 SG4 kq4 => ⟨rfl, ?_⟩⟩⟩
    have g5 := Same.made nu4 ndu4 kq4
    have w4 : SV G4 CS u4 d (-ia) (-ib) (1 + k1) := ⟨by omega, SG4⟩
    refine ⟨_, rfl, fun u5 du5 nu5 ndu5 neu5 => ⟨u5, du5, d, 0, 0, 1, rfl, upd_same, hd, by decide, b0000, b0000, b1000, fun G5 SG5 kq5 => ⟨rfl, ?_⟩⟩⟩
    have g6 := Same.made nu5 ndu5 kq5
    have w5 : SV G5 CS u5 d 0 0 1 := ⟨by decide, SG5⟩
    refine ⟨by show 3 ≤ sizeLine; decide, fun le hle => ?_⟩
    have g7 := sNew (o := .lst [.ref u3, .ref u4, .ref u5]) (Same.refl G5) hle
    refine ⟨ld, le, _, _, rfl, rfl, (((g4.trans g5).trans g6).trans g7) _ _ upd_same, upd_same, by show 5 ≤ sizeLine; decide, fun lf hlf => ?_⟩
    have g8 := sNew (o := .lst ([.ref u1, .ref u2] ++ [.ref u3, .ref u4, .ref u5])) (Same.refl _) hlf
    obtain ⟨J0, hJ0⟩ : ∃ J0, upd (upd G5 le (.lst [.ref u3, .ref u4, .ref u5])) lf (.lst ([.ref u1, .ref u2] ++ [.ref u3, .ref u4, .ref u5])) = J0 := ⟨_, rfl⟩
    have wF : J0 lf = some (.lst [.ref u1, .ref u2, .ref u3, .ref u4, .ref u5]) := hJ0 ▸ upd_same
    rw [hJ0] at g8 ⊢
    have t5 : Same G5 J0 := g7.trans g8
    have t4 := g6.trans t5
    have t3 := g5.trans t4
    have t2' := (g3.trans g4).trans t3
    have t1' := g2.trans t2'
    have t0 : Same F0 J0 := g1.trans t1'
    have vu1 := w1.same t1'
    have vu2 := w2.same t2'
    have vu3 := w3.same t3
    have vu4 := w4.same t4
    have vu5 := w5.same t5
    have vn1 := vm1.same t0
    have vn2 := vm2.same t0
    have vn3 := vm3.same t0
    have vn4 := vm4.same t0
    have vn5 := vm5.same t0
    have wM0 := t0 _ _ wM
    have sJ : Same HC J0 := s5.trans t0
    clear t1' t2' t3 t4 t5 g1 g2 g3 g4 g5 g6 g7 g8 w1 w2 w3 w4 w5 vm1 vm2 vm3 vm4 vm5
    obtain ⟨vI, hvI⟩ : ∃ vI : Nat → Int, vI = fun i => ([ia * (1 + m1) + ic * (1 + k1), ia * (1 + m1) - ic * (1 + k1), ia * ic + d * ib * id', -ia, 0] : List Int).getD i 0 := ⟨_, rfl⟩
    obtain ⟨vJ, hvJ⟩ : ∃ vJ : Nat → Int, vJ = fun i => ([ib * (1 + m1) + id' * (1 + k1), ib * (1 + m1) - id' * (1 + k1), ia * id' + ib * ic, -ib, 0] : List Int).getD i 0 := ⟨_, rfl⟩
    obtain ⟨vK, hvK⟩ : ∃ vK : Nat → Int, vK = fun i => ([(1 + k1) * (1 + m1), (1 + k1) * (1 + m1), (1 + k1) * (1 + m1), 1 + k1, 1] : List Int).getD i 0 := ⟨_, rfl⟩
    have gM : ∀ i x, ([.ref r1, .ref r2, .ref r3, .ref r4, .ref r5] : List V)[i]? = some x → i < 5 ∧ ∃ r, x = .ref r ∧ SV J0 CS r d (vI i) (vJ i) (vK i) := by
      subst hvI hvJ hvK
      exact svs5 vn1 vn2 vn3 vn4 vn5
    have gU : ∀ i x, ([.ref u1, .ref u2, .ref u3, .ref u4, .ref u5] : List V)[i]? = some x → i < 5 ∧ ∃ r, x = .ref r ∧ SV J0 CS r d (vI i) (vJ i) (vK i) := by
      subst hvI hvJ hvK
      exact svs5 vu1 vu2 vu3 vu4 vu5
    clear hvI hvJ hvK
    -- parts of made, parts of due
    dsimp only [List.set_cons_succ, List.set_cons_zero]
    refine ⟨_, rfl, lm, rfl, ⟨_, SqL.of wM0⟩, fun D1 hD1 => ?_⟩
    refine lc_list (K := K) (a := lm) (xs := [.ref r1, .ref r2, .ref r3, .ref r4, .ref r5]) (fun u H' => ∃ g : Nat → Addr, H' D1 = some (.lst ((List.range u).map fun j => V.ref (g j))) ∧ (∀ j, j < u → H' (g j) = some (.tup [.int (pI (vI j) (vJ j) (vK j)), .int (pJ (vI j) (vJ j) (vK j)), .int (pK (vI j) (vJ j) (vK j))])) ∧ Same J0 H')
      ⟨fun _ => lm, upd_same, fun j h => absurd h (by omega), sNew (Same.refl _) hD1⟩ (fun i H' _ h => by obtain ⟨_, _, _, h⟩ := h; exact SqL.of (h _ _ wM0)) ?_ ?_
    · rintro i x0 H8 hx0 ⟨g, hg, hr8, sm8⟩
      obtain ⟨hi5, r, rfl, sv0⟩ := gM i x0 hx0
      have sv := (sv0).same sm8
      obtain ⟨dxs, fss, ins2, nos⟩ := sv.ins
      refine ⟨rfl, yes_if ?_⟩
      refine ⟨_, rfl, r, dxs, fss, rfl, ins2, nos _ (by decide) (by decide), r, d, _, _, _, rfl, sv, fun t ht => ?_⟩
      obtain ⟨g', h1, h2⟩ := stepg (q := fun j => .tup [.int (pI (vI j) (vJ j) (vK j)), .int (pJ (vI j) (vJ j) (vK j)), .int (pK (vI j) (vJ j) (vK j))]) hg hr8 ht (fun _ _ z => by cases z)
      exact ⟨_, hg, by rw [List.length_map, List.length_range, sizeLine_eq]; omega, g', h1, h2, sm_upd sm8 hD1⟩
    rintro J1 ⟨gm, hgm, hrm, sj1⟩
    have hgm : J1 D1 = some (.lst ((List.range 5).map fun j => V.ref (gm j))) := hgm
    have wF1 := sj1 _ _ wF
    refine ⟨_, rfl, lf, rfl, ⟨_, SqL.of wF1⟩, fun D2 hD2 => ?_⟩
    refine lc_list (K := K) (a := lf) (xs := [.ref u1, .ref u2, .ref u3, .ref u4, .ref u5]) (fun u H' => ∃ g : Nat → Addr, H' D2 = some (.lst ((List.range u).map fun j => V.ref (g j))) ∧ (∀ j, j < u → H' (g j) = some (.tup [.int (pI (vI j) (vJ j) (vK j)), .int (pJ (vI j) (vJ j) (vK j)), .int (pK (vI j) (vJ j) (vK j))])) ∧ Same J1 H')
      ⟨fun _ => lm, upd_same, fun j h => absurd h (by omega), sNew (Same.refl _) hD2⟩ (fun i H' _ h => by obtain ⟨_, _, _, h⟩ := h; exact SqL.of (h _ _ wF1)) ?_ ?_
    · rintro i x0 H8 hx0 ⟨g, hg, hr8, sm8⟩
      obtain ⟨hi5, r, rfl, sv0⟩ := gU i x0 hx0
      have sv := (sv0.same sj1).same sm8
      obtain ⟨dxs, fss, ins2, nos⟩ := sv.ins
      refine ⟨rfl, yes_if ?_⟩
      refine ⟨_, rfl, r, dxs, fss, rfl, ins2, nos _ (by decide) (by decide), r, d, _, _, _, rfl, sv, fun t ht => ?_⟩
      obtain ⟨g', h1, h2⟩ := stepg (q := fun j => .tup [.int (pI (vI j) (vJ j) (vK j)), .int (pJ (vI j) (vJ j) (vK j)), .int (pK (vI j) (vJ j) (vK j))]) hg hr8 ht (fun _ _ z => by cases z)
      exact ⟨_, hg, by rw [List.length_map, List.length_range, sizeLine_eq]; omega, g', h1, h2, sm_upd sm8 hD2⟩
    rintro J2 ⟨gu, hgu, hru, sj2⟩
    have hgu : J2 D2 = some (.lst ((List.range 5).map fun j => V.ref (gu j))) := hgu
    have hgm2 := sj2 _ _ hgm
    have sj := sj1.trans sj2
    refine ⟨PL vI vJ vK, PL vI vJ vK, .lst (SqL.of hgm2) (dp_map _ fun j hj => dt3 (sj2 _ _ (hrm j (List.mem_range.mp hj)))), .lst (SqL.of hgu) (dp_map _ fun j hj => dt3 (hru j (List.mem_range.mp hj))), PL_sh _ _ _, PL_sh _ _ _, ?_⟩
    rw [PL_eq]
    refine ⟨_, rfl, iteF ?_⟩
    -- made != due
    refine ⟨_, rfl, _, rfl, ⟨lm, lf, _, _, rfl, rfl, sj _ _ wM0, sj _ _ wF, Prs.cons (dins (vn1.same sj) (vu1.same sj)) (Prs.cons (dins (vn2.same sj) (vu2.same sj)) (Prs.cons (dins (vn3.same sj) (vu3.same sj)) (Prs.cons (dins (vn4.same sj) (vu4.same sj)) (Prs.cons (dins (vn5.same sj) (vu5.same sj)) Prs.nil))))⟩, fun J3 ex3 => ⟨_, rfl, iteF ?_⟩⟩
    have ex3 : Same J2 J3 := ex3
    have sF3 : Same F0 J3 := t0.trans (sj.trans ex3)
    have sK : Same HC J3 := (sJ.trans sj).trans ex3
    have hk0 : J3 lk0 = some (.lst [.ref tx, .ref ty]) := sF3 _ _ ((((((e1.trans e2).trans e3).trans e4).trans e5).trans e6) _ _ upd_same)
    clear gM gU hgm hrm hgu hru hgm2 vn1 vn2 vn3 vn4 vn5 vu1 vu2 vu3 vu4 vu5 wM0 wF wF1
    -- kept again
    dsimp only [List.set_cons_succ, List.set_cons_zero]
    refine ⟨_, rfl, x, dxx, fsx, rfl, sK _ _ inx, nox _ (by decide) (by decide), x, d, _, _, _, rfl, svx.same sK, fun tx2 htx2 => ⟨_, rfl, y, dxy, fsy, rfl, sK _ _ iny, noy _ (by decide) (by decide), y, d, _, _, _, rfl, svy.same sK, fun ty2 hty2 => ⟨by show 2 ≤ sizeLine; decide, fun l3 hl3 => ⟨_, rfl, ?_⟩⟩⟩⟩
    have z3 := sNew (o := .lst [.ref tx2, .ref ty2]) (Same.refl J3) hl3
    refine ⟨.list [TD ia ib (1 + k1), TD ic id' (1 + m1)], .list [TD ia ib (1 + k1), TD ic id' (1 + m1)], .lst (SqL.of upd_same) (.cons (dt3 (z3 _ _ htx2)) (.cons (dt3 (z3 _ _ hty2)) .nil)), .lst (SqL.of (z3 _ _ hk0)) (.cons (dt3 (z3 _ _ (sK _ _ htx))) (.cons (dt3 (z3 _ _ (sK _ _ hty))) .nil)), rfl, rfl, ?_⟩
    rw [KD_eq]
    refine ⟨_, rfl, iteF ?_⟩
    have sM := sK.trans z3
    refine ⟨_, rfl, _, rfl, x, y, _, _, _, _, rfl, rfl, sM _ _ inx, sM _ _ iny, x, y, d, ia, ib, _, ic, id', _, rfl, svx.same sM, svy.same sM, hd, ba.mono (by decide), bb.mono (by decide), bk.mono (by decide), bc.mono (by decide), bd.mono (by decide), bm.mono (by decide), fun p1 N1 np1 sp1 f1 => ?_⟩
    have sN1 := sM.trans f1
    refine ⟨_, rfl, _, rfl, y, x, _, _, _, _, rfl, rfl, sN1 _ _ iny, sN1 _ _ inx, y, x, d, ic, id', _, ia, ib, _, rfl, svy.same sN1, svx.same sN1, hd, bc.mono (by decide), bd.mono (by decide), bm.mono (by decide), ba.mono (by decide), bb.mono (by decide), bk.mono (by decide), fun p2 N2 np2 sp2 f2 => ?_⟩
    have q1 := sp1.same f2
    have q2 : SV N2 CS p2 d (ia * ic + d * ib * id') (ia * id' + ib * ic) ((1 + k1) * (1 + m1)) := SV.cong sp2 km0 (by grind) (by grind)
    obtain ⟨dq1, fq1, iq1, _⟩ := q1.ins
    obtain ⟨dq2, fq2, iq2, _⟩ := q2.ins
    refine ⟨p1, p2, _, _, _, _, rfl, rfl, iq1, iq2, p1, p2, rfl, ⟨d, _, _, _, q1, q2⟩, fun N3 ex3' => ⟨true, rfl, _, rfl, iteF ?_⟩⟩
    have ex3' : Same N2 N3 := ex3'
    have sO := sN1.trans (f2.trans ex3')
    refine ⟨_, rfl, _, rfl, x, y, _, _, _, _, rfl, rfl, sO _ _ inx, sO _ _ iny, x, y, d, ia, ib, _, ic, id', _, rfl, svx.same sO, svy.same sO, hd, ba.mono (by decide), bb.mono (by decide), bk.mono (by decide), bc.mono (by decide), bd.mono (by decide), bm.mono (by decide), fun p4 N4 np4 sp4 f4 => ?_⟩
    have sN4 := sO.trans f4
    refine ⟨_, rfl, _, rfl, y, x, _, _, _, _, rfl, rfl, sN4 _ _ iny, sN4 _ _ inx, y, x, d, ic, id', _, ia, ib, _, rfl, svy.same sN4, svx.same sN4, hd, bc.mono (by decide), bd.mono (by decide), bm.mono (by decide), ba.mono (by decide), bb.mono (by decide), bk.mono (by decide), fun p5 N5 np5 sp5 f5 => ?_⟩
    have q4 := sp4.same f5
    have q5 : SV N5 CS p5 d (ia * (1 + m1) + ic * (1 + k1)) (ib * (1 + m1) + id' * (1 + k1)) ((1 + k1) * (1 + m1)) := SV.cong sp5 km0 (by grind) (by grind)
    obtain ⟨dq4, fq4, iq4, _⟩ := q4.ins
    obtain ⟨dq5, fq5, iq5, _⟩ := q5.ins
    refine ⟨p4, p5, _, _, _, _, rfl, rfl, iq4, iq5, p4, p5, rfl, ⟨d, _, _, _, q4, q5⟩, fun N6 ex6' => ⟨true, rfl, _, rfl, iteF ?_⟩⟩
    have ex6' : Same N5 N6 := ex6'
    have sQ := sN4.trans (f5.trans ex6')
    -- far
    dsimp only [List.set_cons_succ, List.set_cons_zero]
    have hoe := others_end hd
    refine ⟨_, rfl, by show 5 ≤ sizeLine; decide, fun l1 hl1 => ⟨l1, rfl, ⟨_, SqL.of upd_same⟩, fun D3 hD3 => ?_⟩⟩
    have zl := sNew (o := .lst (([2, 3, 5, 6, 13] : List Int).map V.int)) (Same.refl N6) hl1
    refine lc_list (K := K) (a := l1) (xs := ([2, 3, 5, 6, 13] : List Int).map V.int) (fun u H' => H' D3 = some (.lst ((others d u).map V.int)) ∧ Same (upd N6 l1 (.lst (([2, 3, 5, 6, 13] : List Int).map V.int))) H')
      ⟨upd_same, sNew (Same.refl _) hD3⟩ (fun i H' _ h => SqL.of (h.2 _ _ upd_same)) ?_ ?_
    · rintro i x0 H8 hx0 ⟨hg, sm8⟩
      obtain ⟨v, hv, rfl⟩ : ∃ v : Int, ([2, 3, 5, 6, 13] : List Int)[i]? = some v ∧ V.int v = x0 := by
        rw [List.getElem?_map] at hx0
        exact Option.map_eq_some_iff.mp hx0
      refine ⟨rfl, _, rfl, _, rfl, rfl, _, rfl, ite2 (fun h => ?_) (fun h => ?_)⟩
      · have hne : v ≠ d := fun z => by rw [z] at h; simp at h
        refine ⟨_, rfl, _, hg, ?_, ?_, sm_upd sm8 hD3⟩
        · rw [List.length_map, sizeLine_eq]
          have := others_le d i
          omega
        · rw [upd_same, others_step hv, if_neg hne, List.map_append]
          rfl
      · have he : v = d := Classical.byContradiction fun z => h (by simp [z])
        exact ⟨by rw [others_step hv, if_pos he, List.append_nil]; exact hg, sm8⟩
    rintro K1 ⟨hg3, sk1⟩
    have hg3 : K1 D3 = some (.lst ((others d 5).map V.int)) := hg3
    have sR := sQ.trans (zl.trans sk1)
    have BK := BC.same sR
    refine ⟨b, c0, D3, _, rfl, BK, SqL.of hg3, ((BC.same (sQ.trans zl)).off hD3).1, by rw [List.length_map]; exact hoe.1, by rw [List.length_map]; exact hoe.2.1, fun v K2 hv BK2 kpK => ?_⟩
    obtain ⟨d2, rfl, hd2, hne2⟩ : ∃ d2, v = V.int d2 ∧ Root d2 ∧ d ≠ d2 := by
      obtain ⟨n, hn, e0⟩ := List.mem_map.mp hv
      exact ⟨n, e0.symm, hoe.2.2 n hn⟩
    have vx2 := SV.kpC BK kpK (svx.same sR)
    have vy2 := SV.kpC BK kpK (svy.same sR)
    have TK2 := Tabs.kpC (Tabs.sm TC sR) BK kpK
    refine fun z dz nz ndz nez => ⟨z, dz, d2, 1, 1, 1, rfl, upd_same, hd2, by decide, b1000, b1000, b1000, fun K3 SZ kqz => ⟨rfl, ?_⟩⟩
    have smz := Same.made nz ndz kqz
    have vx3 := vx2.same smz
    have vz3 : SV K3 CS z d2 1 1 1 := ⟨by decide, SZ⟩
    have BK3 := BK2.same smz
    have TK3 := Tabs.sm TK2 smz
    clear sj1 sj2 sj ex3 sF3 sK z3 sM sN1 sN4 sO sQ sR zl sk1 kpK smz kqz
    -- the lambdas
    dsimp only [List.set_cons_succ, List.set_cons_zero]
    refine ⟨TK3, fun f0 Ha0 e0 T0 lv0 _ => ⟨T0, fun f1 Ha1 e1 T1a lv1 _ => ⟨T1a, fun f2 Ha2 e2 T2a lv2 _ => ⟨T2a, fun f3 Ha3 e3 T3a lv3 _ => ⟨by show 4 ≤ sizeLine; decide, fun la hla => ?_⟩⟩⟩⟩⟩
    have sN := sNew (o := .lst [.ref f0, .ref f1, .ref f2, .ref f3]) (Same.refl Ha3) hla
    obtain ⟨HZ, hHZ⟩ : ∃ HZ, upd Ha3 la (.lst [.ref f0, .ref f1, .ref f2, .ref f3]) = HZ := ⟨_, rfl⟩
    have wZ : HZ la = some (.lst [.ref f0, .ref f1, .ref f2, .ref f3]) := hHZ ▸ upd_same
    rw [hHZ] at sN ⊢
    have eN : ExtN Ha3 HZ := ExtN.of sN
    have eM : ExtN K3 HZ := (((e0.trans e1).trans e2).trans e3).trans eN
    have l0 := (((lv0.ext e1).ext e2).ext e3).ext eN
    have l1 := ((lv1.ext e2).ext e3).ext eN
    have l2' := (lv2.ext e3).ext eN
    have l3 := lv3.ext eN
    have TZ := Tabs.sm T3a sN
    have nl : ∀ {xs : List V} (ps : Array Value), HO.lst xs ≠ .tbl ps := fun ps z => by cases z
    have o400 : Bd 400 (1 : Int) := by unfold Bd; decide
    refine ⟨_, rfl, la, rfl, ⟨_, SqL.of wZ⟩, fun Dl hD => LM.lc_ask [f0, f1, f2, f3] (by show 19 < 21; decide) (SqL.of (by rw [upd_ne (ne_of_none wZ hD)]; exact wZ)) (fun _ => rfl) ?_⟩
    have eG : ExtN HZ (upd HZ Dl (.lst [])) := ext_upd (fun _ _ x _ => x) hD
    have FK : ∀ H', ExtN HZ H' → ∃ dx fs dz gs, H' x = some (.ins CS dx fs) ∧ H' z = some (.ins CS dz gs) ∧ (∀ m : Str, ¬ m = "_parts" → ¬ m = "_root" → fs.lookup m = none) ∧ SV H' CS x d ia ib (1 + k1) ∧ SV H' CS z d2 1 1 1 := fun H' ee => by
      have F' := SV.extN (eM.trans ee) vx3
      have F2' := SV.extN (eM.trans ee) vz3
      obtain ⟨dx, fs, h1, h2⟩ := F'.ins
      obtain ⟨dz, gs, h3, _⟩ := F2'.ins
      exact ⟨dx, fs, dz, gs, h1, h3, h2, F', F2'⟩
    have kd : Kd "FieldsDiffer" none := .inr (.inr (.inr (.inl ⟨.inl rfl, rfl⟩)))
    obtain ⟨g1x, g1s, g1z, g1t, g1i, g1j, g1n, g1F, g1G⟩ := FK _ eG
    refine ⟨m0 CS CD _, by simp [ms], l0.ext eG, ask_tT e.ed e.xd kd (l0.ext eG) (fun E Q' hR => ⟨_, rfl, _, rfl, x, z, _, _, _, _, rfl, rfl, g1i, g1j, x, z, d, ia, ib, _, d2, 1, 1, 1, rfl, g1F, g1G, hne2, hd2, o400, o400, o400, hR⟩) fun u0 G0 g0 hu0 => ?_⟩
    have d0 : G0 Dl = some (.lst []) := g0 _ _ upd_same
    have eG1 : ExtN HZ (upd G0 Dl (.lst ([] ++ [.ref u0]))) := ext_upd (eG.trans (ExtN.of g0)) hD
    obtain ⟨g2x, g2s, g2z, g2t, g2i, g2j, g2n, g2F, g2G⟩ := FK _ eG1
    refine ⟨[], d0, by decide, SqL.of (eG1 _ _ wZ (fun ps z => nl ps z)), RF.m1 CS CD _, by simp [ms], l1.ext eG1, ask_tT e.ed e.xd kd (l1.ext eG1) (fun E Q' hR => ⟨_, rfl, _, rfl, z, x, _, _, _, _, rfl, rfl, g2j, g2i, z, x, d2, 1, 1, 1, d, ia, ib, _, rfl, g2G, g2F, hne2.symm, hd, ba.mono (by decide), bb.mono (by decide), bk.mono (by decide), hR⟩) fun u1 G1 g1 hu1 => ?_⟩
    have hu0a : upd G0 Dl (.lst ([] ++ [.ref u0])) u0 = some (.tup [.str "FieldsDiffer", .non]) := by rw [upd_ne (ne_of hu0 d0 (by intro z; cases z))]; exact hu0
    have dd1 : G1 Dl = some (.lst [.ref u0]) := g1 _ _ upd_same
    have eG2 : ExtN HZ (upd G1 Dl (.lst ([.ref u0] ++ [.ref u1]))) := ext_upd (eG1.trans (ExtN.of g1)) hD
    obtain ⟨g3x, g3s, g3z, g3t, g3i, g3j, g3n, g3F, g3G⟩ := FK _ eG2
    refine ⟨_, dd1, by show 1 < sizeLine; decide, SqL.of (eG2 _ _ wZ (fun ps z => nl ps z)), RF.m2 CS CD _, by simp [ms], l2'.ext eG2, ask_tT e.ed e.xd kd (l2'.ext eG2) (fun E Q' hR => ⟨_, rfl, _, rfl, x, z, _, _, _, _, rfl, rfl, g3i, g3j, x, z, d, ia, ib, _, d2, 1, 1, 1, rfl, g3F, g3G, hne2, hd2, o400, o400, o400, hR⟩) fun u2 G2 g2 hu2 => ?_⟩
    have hu0b : upd G1 Dl (.lst ([.ref u0] ++ [.ref u1])) u0 = some (.tup [.str "FieldsDiffer", .non]) := by rw [upd_ne (ne_of hu0 d0 (by intro z; cases z))]; exact g1 _ _ hu0a
    have hu1b : upd G1 Dl (.lst ([.ref u0] ++ [.ref u1])) u1 = some (.tup [.str "FieldsDiffer", .non]) := by rw [upd_ne (ne_of hu1 dd1 (by intro z; cases z))]; exact hu1
    have dd2 : G2 Dl = some (.lst [.ref u0, .ref u1]) := g2 _ _ upd_same
    have eG3 : ExtN HZ (upd G2 Dl (.lst ([.ref u0, .ref u1] ++ [.ref u2]))) := ext_upd (eG2.trans (ExtN.of g2)) hD
    obtain ⟨g4x, g4s, g4z, g4t, g4i, g4j, g4n, g4F, g4G⟩ := FK _ eG3
    refine ⟨_, dd2, by show 2 < sizeLine; decide, SqL.of (eG3 _ _ wZ (fun ps z => nl ps z)), RF.m3 CS CD _, by simp [ms], l3.ext eG3, ask_tT e.ed e.xd kd (l3.ext eG3) (fun E Q' hR => ⟨_, rfl, x, g4x, g4s, rfl, g4i, g4n _ (by decide) (by decide), _, rfl, x, z, d, ia, ib, _, d2, 1, 1, 1, rfl, g4F, g4G, hne2, hd2, o400, o400, o400, hR⟩) fun u3 G3 g3 hu3 => ?_⟩
    have hu0c : upd G2 Dl (.lst ([.ref u0, .ref u1] ++ [.ref u2])) u0 = some (.tup [.str "FieldsDiffer", .non]) := by rw [upd_ne (ne_of hu0 d0 (by intro z; cases z))]; exact g2 _ _ hu0b
    have hu1c : upd G2 Dl (.lst ([.ref u0, .ref u1] ++ [.ref u2])) u1 = some (.tup [.str "FieldsDiffer", .non]) := by rw [upd_ne (ne_of hu1 dd1 (by intro z; cases z))]; exact g2 _ _ hu1b
    have hu2c : upd G2 Dl (.lst ([.ref u0, .ref u1] ++ [.ref u2])) u2 = some (.tup [.str "FieldsDiffer", .non]) := by rw [upd_ne (ne_of hu2 dd2 (by intro z; cases z))]; exact hu2
    have dd3 : G3 Dl = some (.lst [.ref u0, .ref u1, .ref u2]) := g3 _ _ upd_same
    have eG4 : ExtN HZ (upd G3 Dl (.lst ([.ref u0, .ref u1, .ref u2] ++ [.ref u3]))) := ext_upd (eG3.trans (ExtN.of g3)) hD
    refine ⟨_, dd3, by show 3 < sizeLine; decide, SqL.of (eG4 _ _ wZ (fun ps z => nl ps z)), ?_⟩
    have hx0 : upd G3 Dl (.lst ([.ref u0, .ref u1, .ref u2] ++ [.ref u3])) u0 = some (.tup [.str "FieldsDiffer", .non]) := by rw [upd_ne (ne_of hu0 d0 (by intro z; cases z))]; exact g3 _ _ hu0c
    have hx1 : upd G3 Dl (.lst ([.ref u0, .ref u1, .ref u2] ++ [.ref u3])) u1 = some (.tup [.str "FieldsDiffer", .non]) := by rw [upd_ne (ne_of hu1 dd1 (by intro z; cases z))]; exact g3 _ _ hu1c
    have hx2 : upd G3 Dl (.lst ([.ref u0, .ref u1, .ref u2] ++ [.ref u3])) u2 = some (.tup [.str "FieldsDiffer", .non]) := by rw [upd_ne (ne_of hu2 dd2 (by intro z; cases z))]; exact g3 _ _ hu2c
    have hx3 : upd G3 Dl (.lst ([.ref u0, .ref u1, .ref u2] ++ [.ref u3])) u3 = some (.tup [.str "FieldsDiffer", .non]) := by rw [upd_ne (ne_of hu3 dd3 (by intro z; cases z))]; exact hu3
    have hx4 : upd G3 Dl (.lst ([.ref u0, .ref u1, .ref u2] ++ [.ref u3])) Dl = some (.lst [.ref u0, .ref u1, .ref u2, .ref u3]) := upd_same
    have T4G := Tabs.put (o := .lst ([.ref u0, .ref u1, .ref u2] ++ [.ref u3])) (Tabs.sm (Tabs.put (o := .lst ([.ref u0, .ref u1] ++ [.ref u2])) (Tabs.sm (Tabs.put (o := .lst ([.ref u0] ++ [.ref u1])) (Tabs.sm (Tabs.put (o := .lst ([] ++ [.ref u0])) (Tabs.sm (Tabs.sm TZ (sNew (Same.refl HZ) hD)) g0) d0) g1) dd1) g2) dd2) g3) dd3
    obtain ⟨G4, hG4⟩ : ∃ G4, upd G3 Dl (.lst ([.ref u0, .ref u1, .ref u2] ++ [.ref u3])) = G4 := ⟨_, rfl⟩
    rw [hG4] at hx0 hx1 hx2 hx3 hx4 eG4 T4G ⊢
    refine ⟨by show 2 ≤ sizeLine; decide, fun q0 hq0 => ⟨by show 1 ≤ sizeLine; decide, fun l6 hl6 => ⟨l6, 4, _, rfl, rfl, upd_same, by decide, by decide, by show 1 * 4 ≤ sizeLine; decide, fun l7 hl7 => ?_⟩⟩⟩
    have z1 := sNew (o := .tup [.str "FieldsDiffer", .non]) (Same.refl G4) hq0
    have z2 := sNew (o := .lst [.ref q0]) (Same.refl _) hl6
    have z3 := sNew (o := .lst (List.replicate (4 : Int).toNat [V.ref q0]).flatten) (Same.refl _) hl7
    have zz := (z1.trans z2).trans z3
    have y0 := z3 _ _ (z2 _ _ (upd_same (H := G4) (a := q0) (o := .tup [.str "FieldsDiffer", .non])))
    refine ⟨.list [ED, ED, ED, ED], .list [ED, ED, ED, ED], .lst (SqL.of (zz _ _ hx4)) (.cons (dtn (zz _ _ hx0)) (.cons (dtn (zz _ _ hx1)) (.cons (dtn (zz _ _ hx2)) (.cons (dtn (zz _ _ hx3)) .nil)))),
      .lst (SqL.of upd_same) (.cons (dtn y0) (.cons (dtn y0) (.cons (dtn y0) (.cons (dtn y0) .nil)))), by decide +kernel, by decide +kernel, ?_⟩
    rw [show PyData.eqv (.list [ED, ED, ED, ED]) (.list [ED, ED, ED, ED]) = true by decide +kernel]
    refine ⟨_, rfl, iteF ?_⟩
    exact ⟨_, _, _, _, _, _, _, _, _, _, _, _, _, _, _, _, rfl, ((BK3.extN eM).extN eG4).same zz, Tabs.sm T4G zz⟩
  · rintro σ H2 ⟨v2, v3, v4, v5, v6, v7, v8, v9, v10, v11, v12, v13, v14, v15, v16, v17, rfl, B2, T2⟩
    have r5 : Root 5 := by unfold Root; omega
    have bb1 : Bd 100 (1 : Int) := by unfold Bd; decide
    have bb2 : Bd 100 (2 : Int) := by unfold Bd; decide
    have bb3 : Bd 100 (-1 : Int) := by unfold Bd; decide
    refine ⟨rfl, rfl, fun x dx nx ndx nex => ⟨x, dx, 5, 1, 1, 2, rfl, upd_same, r5, by decide, bb1.mono (by decide), bb1.mono (by decide), bb2.mono (by decide), fun HA SA kqA => ⟨rfl, ?_⟩⟩⟩
    have svx : SV HA CS x 5 1 1 2 := ⟨by decide, SA⟩
    refine ⟨_, rfl, rfl, rfl, fun y dy ny ndy ney => ⟨y, dy, 5, -1, 1, 2, rfl, upd_same, r5, by decide, bb3.mono (by decide), bb1.mono (by decide), bb2.mono (by decide), fun HB SB kqB => ⟨rfl, ?_⟩⟩⟩
    have svx := svx.same (Same.made ny ndy kqB)
    have svy : SV HB CS y 5 (-1) 1 2 := ⟨by decide, SB⟩
    obtain ⟨d1, f1, i1, _⟩ := svx.ins
    obtain ⟨d2, f2, i2, _⟩ := svy.ins
    refine ⟨x, y, _, _, _, _, rfl, rfl, i1, i2, x, y, 5, 1, 1, 2, -1, 1, 2, rfl, svx, svy, r5, bb1, bb1, bb2, bb3, bb1, bb2, fun p HC np sp sm => ?_⟩
    obtain ⟨d3, f3, i3, n3⟩ := sp.ins
    refine ⟨p, d3, f3, rfl, i3, n3 _ (by decide) (by decide), p, 5, _, _, _, rfl, sp, fun t ht => ⟨by show 3 ≤ sizeLine; decide, fun t5 ht5 => ?_⟩⟩
    rw [show pI (1 * -1 + 5 * 1 * 1) (1 * 1 + 1 * -1) (2 * 2) = 1 by decide +kernel, show pJ (1 * -1 + 5 * 1 * 1) (1 * 1 + 1 * -1) (2 * 2) = 0 by decide +kernel, show pK (1 * -1 + 5 * 1 * 1) (1 * 1 + 1 * -1) (2 * 2) = 1 by decide +kernel] at ht
    have yA := sNew (o := .tup [.int 1, .int 0, .int 1]) (Same.refl HC) ht5
    refine ⟨.tuple [.int 1, .int 0, .int 1], .tuple [.int 1, .int 0, .int 1], dt3 (yA _ _ ht), dt3 upd_same, by decide +kernel, by decide +kernel, ?_⟩
    rw [show PyData.eqv (.tuple [.int 1, .int 0, .int 1]) (.tuple [.int 1, .int 0, .int 1]) = true by decide +kernel]
    exact kk _
end
end RF

namespace RF
open PySem L2 PyProof.Rows EX
open PySem.HandSPX
def fI : List DictEntry → Int → Option Value
  | [], _ => none
  | c :: r, i => if Value.isInt i c.key = true then some c.val else fI r i
theorem find_fI : ∀ (l : List DictEntry) (i : Int), (l.find? fun c => Value.isInt i c.key).map (·.val) = fI l i
  | [], _ => rfl
  | c :: r, i => by
    rw [List.find?_cons]
    unfold fI
    cases h : Value.isInt i c.key
    · rw [if_neg (by decide)]
      exact find_fI r i
    · rw [if_pos rfl]; rfl
theorem findBy_fI (es : Array DictEntry) (i : Int) : findBy Value.isInt es i = fI es.toList i := by
  unfold findBy
  rw [← find_fI, ← List.find?_toArray]
theorem Df.mono {P : Program} {w : World} {K : PySem.W.Frag} {mg : Str → Option Value} {base : Heap} {j k : Nat} {x : Str} {ps : List Str} {sp : Sp} (D : Df P w K mg base j x ps sp) (h : j ≤ k) : Df P w K mg base k x ps sp := by
  obtain ⟨f, fd, G, b, m, kp⟩ := D.ex
  exact ⟨f, fd, G.mono h, b, m, kp⟩
theorem txtD : TxtT "FieldsDiffer" "FieldsDiffer.__init__" (inClass (top 6) 0) where
  body := ⟨_, _, _, _, _, _, _, _, _, _, _, rfl, fun fI cda cc => ⟨rfl, rfl, rfl, rfl, rfl, rfl, by decide +kernel, fun _ => rfl, fun _ => rfl, fun _ => ⟨_, rfl⟩, fun _ => rfl, fun _ => rfl⟩⟩
  hd := ⟨_, rfl, rfl⟩
  bind := fun _ _ _ _ _ _ _ _ => .of_eq rfl
theorem all_mk {l : PySem.W.OpenLaw} {w : World} {K : PySem.W.Frag} {h : Heap} {mg : Str → Option Value} {fa : Addr} (X : K.In h) (G : h.Ns mainGlobals mg) (hfa : mg "law" = some (.ref fa)) (OT0 : LamX.OwnTab K fa h)
    {f1 : Addr} {od1 an1 : Option Addr} {sl1 : Array (Option Value)} {oc1 kV1 dc1 pm1 cd1 ct1 : Value}
    {f2 : Addr} {od2 an2 : Option Addr} {sl2 : Array (Option Value)} {oc2 kV2 dc2 pm2 cd2 ct2 : Value}
    {f3 : Addr} {od3 an3 : Option Addr} {sl3 : Array (Option Value)} {oc3 kV3 dc3 pm3 cd3 ct3 : Value}
    {f4 : Addr} {od4 an4 : Option Addr} {sl4 : Array (Option Value)} {oc4 kV4 dc4 pm4 cd4 ct4 : Value}
    {f5 : Addr} {od5 an5 : Option Addr} {sl5 : Array (Option Value)} {oc5 kV5 dc5 pm5 cd5 ct5 : Value}
    {f6 : Addr} {od6 an6 : Option Addr} {sl6 : Array (Option Value)} {oc6 kV6 dc6 pm6 cd6 ct6 : Value}
    {f7 : Addr} {od7 an7 : Option Addr} {sl7 : Array (Option Value)} {oc7 kV7 dc7 pm7 cd7 ct7 : Value}
    {f8 : Addr} {od8 an8 : Option Addr} {sl8 : Array (Option Value)} {oc8 kV8 dc8 pm8 cd8 ct8 : Value}
    {f9 : Addr} {od9 an9 : Option Addr} {sl9 : Array (Option Value)} {oc9 kV9 dc9 pm9 cd9 ct9 : Value}
    {f10 : Addr} {od10 an10 : Option Addr} {sl10 : Array (Option Value)} {oc10 kV10 dc10 pm10 cd10 ct10 : Value}
    {f11 : Addr} {od11 an11 : Option Addr} {sl11 : Array (Option Value)} {oc11 kV11 dc11 pm11 cd11 ct11 : Value}
    {C : Addr}
    {f12 T0 D0 : Addr} {oT : Obj} {tT : Tok} {nT : Nat} {t1 : Tok} {od12 an12 : Option Addr} {sl12 : Array (Option Value)} {oc12 dc12 pm12 cd12 ct12 : Value}
    {f13 : Addr} {od13 an13 : Option Addr} {sl13 : Array (Option Value)} {oc13 kV13 dc13 pm13 cd13 ct13 : Value}
    {f14 : Addr} {od14 an14 : Option Addr} {sl14 : Array (Option Value)} {oc14 kV14 dc14 pm14 cd14 ct14 : Value}
    {f15 : Addr} {od15 an15 : Option Addr} {sl15 : Array (Option Value)} {oc15 kV15 dc15 pm15 cd15 ct15 : Value}
    {f16 : Addr} {od16 an16 : Option Addr} {sl16 : Array (Option Value)} {oc16 kV16 dc16 pm16 cd16 ct16 : Value}
    {f17 : Addr} {od17 an17 : Option Addr} {sl17 : Array (Option Value)} {oc17 kV17 dc17 pm17 cd17 ct17 : Value}
    {f18 : Addr} {od18 an18 : Option Addr} {sl18 : Array (Option Value)} {oc18 kV18 dc18 pm18 cd18 ct18 : Value}
    {f19 : Addr} {od19 an19 : Option Addr} {sl19 : Array (Option Value)} {oc19 kV19 dc19 pm19 cd19 ct19 : Value}
    {pd : Addr} {es : Array DictEntry} {npp : Nat}
    {R NR : Addr} {nR qR : Str} {bsR bmR : List Value} {snR : List Str} {subR : List Value} {abR : Bool} {colR : Option Bool} {ddR : Option Addr} {r0 r1 r2 r3 r5 : Option Value}
    {cM cQ : Addr}
    {ED ND fED cdaD ccD : Addr} {nmD qD : Str} {bsD : List Value} {snD : List Str} {subD : List Value} {abD : Bool} {colD : Option Bool} {ddD : Option Addr} {kD0 kD1 kD2 kD3 kD5 : Option Value} {ocED docED pmED ctED : Value} {odED anED : Option Addr} {slED : Array (Option Value)} {cclD : Value} {cddD : Option Addr} {vsD : Array Value} {ccsD : Array (Option Value)} {fileD : Str} {tfD : Tok} {clD : Value} {cldD : Option Addr} {cslD : Array (Option Value)}
    {f20 : Addr} {od20 an20 : Option Addr} {sl20 : Array (Option Value)} {oc20 kV20 dc20 pm20 cd20 ct20 : Value}
    {cL P0 : Addr} {dL : Option Addr} {vL : Array Value} {sL : Array (Option Value)} {fileL : Str} {tfL tgL ttL : Tok} {flL txL : Int} {inL : Bool}
    (a1 : PySem.W.nsIn K mainGlobals "is_whole" = some (some (.ref f1)))
    (l1 : K.lookup f1 = some ⟨oc1, od1, .func (PySem.W.fnOf "is_whole" "is_whole" (defArgs (top 11)) (defBody (top 11)) (defScope (top 11)) .none kV1 dc1 pm1 an1 cd1 ct1), sl1⟩)
    (c1 : PySem.W.codeIn K cd1 "is_whole" = true)
    (k1 : PySem.W.keepIn K (.ref f1) = true)
    (a2 : PySem.W.nsIn K mainGlobals "is_root" = some (some (.ref f2)))
    (l2 : K.lookup f2 = some ⟨oc2, od2, .func (PySem.W.fnOf "is_root" "is_root" (defArgs (top 12)) (defBody (top 12)) (defScope (top 12)) .none kV2 dc2 pm2 an2 cd2 ct2), sl2⟩)
    (c2 : PySem.W.codeIn K cd2 "is_root" = true)
    (k2 : PySem.W.keepIn K (.ref f2) = true)
    (a3 : PySem.W.nsIn K mainGlobals "_law_bag" = some (some (.ref f3)))
    (l3 : K.lookup f3 = some ⟨oc3, od3, .func (PySem.W.fnOf "_law_bag" "_law_bag" (defArgs (top 20)) (defBody (top 20)) (defScope (top 20)) .none kV3 dc3 pm3 an3 cd3 ct3), sl3⟩)
    (c3 : PySem.W.codeIn K cd3 "_law_bag" = true)
    (k3 : PySem.W.keepIn K (.ref f3) = true)
    (a4 : PySem.W.nsIn K mainGlobals "_law_pull" = some (some (.ref f4)))
    (l4 : K.lookup f4 = some ⟨oc4, od4, .func (PySem.W.fnOf "_law_pull" "_law_pull" (defArgs (top 21)) (defBody (top 21)) (defScope (top 21)) .none kV4 dc4 pm4 an4 cd4 ct4), sl4⟩)
    (c4 : PySem.W.codeIn K cd4 "_law_pull" = true)
    (k4 : PySem.W.keepIn K (.ref f4) = true)
    (a5 : PySem.W.nsIn K mainGlobals "_law_of" = some (some (.ref f5)))
    (l5 : K.lookup f5 = some ⟨oc5, od5, .func (PySem.W.fnOf "_law_of" "_law_of" (defArgs (top 22)) (defBody (top 22)) (defScope (top 22)) .none kV5 dc5 pm5 an5 cd5 ct5), sl5⟩)
    (c5 : PySem.W.codeIn K cd5 "_law_of" = true)
    (k5 : PySem.W.keepIn K (.ref f5) = true)
    (a6 : PySem.W.nsIn K mainGlobals "_law_far" = some (some (.ref f6)))
    (l6 : K.lookup f6 = some ⟨oc6, od6, .func (PySem.W.fnOf "_law_far" "_law_far" (defArgs (top 26)) (defBody (top 26)) (defScope (top 26)) .none kV6 dc6 pm6 an6 cd6 ct6), sl6⟩)
    (c6 : PySem.W.codeIn K cd6 "_law_far" = true)
    (k6 : PySem.W.keepIn K (.ref f6) = true)
    (a7 : PySem.W.nsIn K mainGlobals "_law_root" = some (some (.ref f7)))
    (l7 : K.lookup f7 = some ⟨oc7, od7, .func (PySem.W.fnOf "_law_root" "_law_root" (defArgs (top 27)) (defBody (top 27)) (defScope (top 27)) .none kV7 dc7 pm7 an7 cd7 ct7), sl7⟩)
    (c7 : PySem.W.codeIn K cd7 "_law_root" = true)
    (k7 : PySem.W.keepIn K (.ref f7) = true)
    (a8 : PySem.W.nsIn K mainGlobals "_law_signed" = some (some (.ref f8)))
    (l8 : K.lookup f8 = some ⟨oc8, od8, .func (PySem.W.fnOf "_law_signed" "_law_signed" (defArgs (top 28)) (defBody (top 28)) (defScope (top 28)) .none kV8 dc8 pm8 an8 cd8 ct8), sl8⟩)
    (c8 : PySem.W.codeIn K cd8 "_law_signed" = true)
    (k8 : PySem.W.keepIn K (.ref f8) = true)
    (a9 : PySem.W.nsIn K mainGlobals "_law_field" = some (some (.ref f9)))
    (l9 : K.lookup f9 = some ⟨oc9, od9, .func (PySem.W.fnOf "_law_field" "_law_field" (defArgs (top 23)) (defBody (top 23)) (defScope (top 23)) .none kV9 dc9 pm9 an9 cd9 ct9), sl9⟩)
    (c9 : PySem.W.codeIn K cd9 "_law_field" = true)
    (k9 : PySem.W.keepIn K (.ref f9) = true)
    (a10 : PySem.W.nsIn K mainGlobals "_law_place" = some (some (.ref f10)))
    (l10 : K.lookup f10 = some ⟨oc10, od10, .func (PySem.W.fnOf "_law_place" "_law_place" (defArgs (top 24)) (defBody (top 24)) (defScope (top 24)) .none kV10 dc10 pm10 an10 cd10 ct10), sl10⟩)
    (c10 : PySem.W.codeIn K cd10 "_law_place" = true)
    (k10 : PySem.W.keepIn K (.ref f10) = true)
    (a11 : PySem.W.nsIn K mainGlobals "_law_why" = some (some (.ref f11)))
    (l11 : K.lookup f11 = some ⟨oc11, od11, .func (PySem.W.fnOf "_law_why" "_law_why" (defArgs (top 25)) (defBody (top 25)) (defScope (top 25)) .none kV11 dc11 pm11 an11 cd11 ct11), sl11⟩)
    (c11 : PySem.W.codeIn K cd11 "_law_why" = true)
    (k11 : PySem.W.keepIn K (.ref f11) = true)
    (aCC : PySem.W.nsIn K mainGlobals "Surd" = some (some (.ref C)))
    (a12 : PySem.W.findIn K (.ref C) "__init__" = some (some (.ref f12)))
    (i12 : PySem.W.isFn K (.ref f12) = true)
    (l12 : K.lookup f12 = some ⟨oc12, od12, .func (PySem.W.fnOf "__init__" "Surd.__init__" (defArgs (sS 0)) (defBody (sS 0)) (defScope (sS 0)) (.ref T0) (.ref D0) dc12 pm12 an12 cd12 ct12), sl12⟩)
    (c12 : PySem.W.codeIn K cd12 "Surd.__init__" = true)
    (k12 : PySem.W.keepIn K (.ref f12) = true)
    (lT : K.lookup T0 = some oT)
    (dT : oT.data = .seq #[.int 0 tT] nT)
    (kD : PySem.W.nsIn K D0 "k" = some (some (.int 1 t1)))
    (aG : PySem.W.nsIn K mainGlobals "gcd" = some (some (.builtin "math.gcd")))
    (a13 : PySem.W.findIn K (.ref C) "__neg__" = some (some (.ref f13)))
    (l13 : K.lookup f13 = some ⟨oc13, od13, .func (PySem.W.fnOf "__neg__" "Surd.__neg__" (defArgs (sS 11)) (defBody (sS 11)) (defScope (sS 11)) .none kV13 dc13 pm13 an13 cd13 ct13), sl13⟩)
    (c13 : PySem.W.codeIn K cd13 "Surd.__neg__" = true)
    (k13 : PySem.W.keepIn K (.ref f13) = true)
    (i13 : PySem.W.isFn K (.ref f13) = true)
    (a14 : PySem.W.findIn K (.ref C) "__add__" = some (some (.ref f14)))
    (l14 : K.lookup f14 = some ⟨oc14, od14, .func (PySem.W.fnOf "__add__" "Surd.__add__" (defArgs (sS 8)) (defBody (sS 8)) (defScope (sS 8)) .none kV14 dc14 pm14 an14 cd14 ct14), sl14⟩)
    (c14 : PySem.W.codeIn K cd14 "Surd.__add__" = true)
    (k14 : PySem.W.keepIn K (.ref f14) = true)
    (i14 : PySem.W.isFn K (.ref f14) = true)
    (a15 : PySem.W.findIn K (.ref C) "__sub__" = some (some (.ref f15)))
    (l15 : K.lookup f15 = some ⟨oc15, od15, .func (PySem.W.fnOf "__sub__" "Surd.__sub__" (defArgs (sS 9)) (defBody (sS 9)) (defScope (sS 9)) .none kV15 dc15 pm15 an15 cd15 ct15), sl15⟩)
    (c15 : PySem.W.codeIn K cd15 "Surd.__sub__" = true)
    (k15 : PySem.W.keepIn K (.ref f15) = true)
    (i15 : PySem.W.isFn K (.ref f15) = true)
    (a16 : PySem.W.findIn K (.ref C) "__mul__" = some (some (.ref f16)))
    (l16 : K.lookup f16 = some ⟨oc16, od16, .func (PySem.W.fnOf "__mul__" "Surd.__mul__" (defArgs (sS 10)) (defBody (sS 10)) (defScope (sS 10)) .none kV16 dc16 pm16 an16 cd16 ct16), sl16⟩)
    (c16 : PySem.W.codeIn K cd16 "Surd.__mul__" = true)
    (k16 : PySem.W.keepIn K (.ref f16) = true)
    (i16 : PySem.W.isFn K (.ref f16) = true)
    (a17 : PySem.W.findIn K (.ref C) "__eq__" = some (some (.ref f17)))
    (l17 : K.lookup f17 = some ⟨oc17, od17, .func (PySem.W.fnOf "__eq__" "Surd.__eq__" (defArgs (sS 12)) (defBody (sS 12)) (defScope (sS 12)) .none kV17 dc17 pm17 an17 cd17 ct17), sl17⟩)
    (c17 : PySem.W.codeIn K cd17 "Surd.__eq__" = true)
    (k17 : PySem.W.keepIn K (.ref f17) = true)
    (i17 : PySem.W.isFn K (.ref f17) = true)
    (a18 : PySem.W.findIn K (.ref C) "parts" = some (some (.ref f18)))
    (l18 : K.lookup f18 = some ⟨oc18, od18, .func (PySem.W.fnOf "parts" "Surd.parts" (defArgs (sS 3)) (defBody (sS 3)) (defScope (sS 3)) .none kV18 dc18 pm18 an18 cd18 ct18), sl18⟩)
    (c18 : PySem.W.codeIn K cd18 "Surd.parts" = true)
    (k18 : PySem.W.keepIn K (.ref f18) = true)
    (i18 : PySem.W.isFn K (.ref f18) = true)
    (a19 : PySem.W.findIn K (.ref C) "compared" = some (some (.ref f19)))
    (l19 : K.lookup f19 = some ⟨oc19, od19, .func (PySem.W.fnOf "compared" "Surd.compared" (defArgs (sS 6)) (defBody (sS 6)) (defScope (sS 6)) .none kV19 dc19 pm19 an19 cd19 ct19), sl19⟩)
    (c19 : PySem.W.codeIn K cd19 "Surd.compared" = true)
    (k19 : PySem.W.keepIn K (.ref f19) = true)
    (i19 : PySem.W.isFn K (.ref f19) = true)
    (haC : PySem.W.findIn K (.ref C) "__class__" = some (some (.builtin "object.__class__")))
    (hmC : PySem.W.mroIn K C (.type "object") = some true)
    (neC : PySem.W.findIn K (.ref C) "__ne__" = some (some (.builtin "object.__ne__")))
    (hnX : PySem.W.specialIn K (.builtin "object.__class__") "__get__" = some (some (.builtin "getset_descriptor.__get__")))
    (htX : PySem.W.takesIn K (.builtin "object.__class__") = some true)
    (sfC : PySem.W.selfFirst K C = true)
    (aR : PySem.W.nsIn K mainGlobals "RootError" = some (some (.ref R)))
    (lR : K.lookup R = some (excClassObj nR qR R NR bsR bmR true snR subR abR colR ddR r0 r1 r2 r3 r5 "ValueError.__new__"))
    (vR : refsVE bmR = true)
    (fR : PySem.W.findIn K (.ref R) "__init__" = some (some (.builtin "ValueError.__init__")))
    (oq : PySem.W.nsIn K cStatics "thirdparty.any" = some none)
    (tp : (l.prog.main.scope.names.lookup ("super" : Str)).isSome = false)
    (aC2 : PySem.W.nsIn K mainGlobals "Missing" = some (some (.ref cM)))
    (aC3 : PySem.W.nsIn K mainGlobals "NothingLeft" = some (some (.ref cQ)))
    (xb1 : PySem.W.subIn K (.ref R) (.type "BaseException") = some true)
    (xi1 : PySem.W.isClsIn K R = true)
    (xt1 : PySem.W.typeIn K (.ref R) = some (.type "type"))
    (xb2 : PySem.W.subIn K (.ref cM) (.type "BaseException") = some true)
    (xi2 : PySem.W.isClsIn K cM = true)
    (xt2 : PySem.W.typeIn K (.ref cM) = some (.type "type"))
    (xb3 : PySem.W.subIn K (.ref cQ) (.type "BaseException") = some true)
    (xi3 : PySem.W.isClsIn K cQ = true)
    (xt3 : PySem.W.typeIn K (.ref cQ) = some (.type "type"))
    (aED : PySem.W.nsIn K mainGlobals "FieldsDiffer" = some (some (.ref ED)))
    (lED : K.lookup ED = some (excClassObj nmD qD ED ND bsD (.ref R :: bmR) true snD subD abD colD ddD kD0 kD1 kD2 kD3 kD5 "ValueError.__new__"))
    (saED : PySem.W.findIn K (.ref ED) "__setattr__" = some (some (.builtin "object.__setattr__")))
    (gaED : PySem.W.findIn K (.ref ED) "__getattribute__" = some (some (.builtin "BaseException.__getattribute__")))
    (ggED : PySem.W.findIn K (.ref ED) "__getattr__" = some none)
    (ntED : PySem.W.findIn K (.ref ED) "tag" = some none)
    (iED : PySem.W.findIn K (.ref ED) "__init__" = some (some (.ref fED)))
    (tED : PySem.W.typeIn K (.ref fED) = some (.type "function"))
    (kED : PySem.W.keepIn K (.ref ED) = true)
    (xED : PySem.W.subIn K (.ref ED) (.type "BaseException") = some true)
    (yED : PySem.W.typeIn K (.ref ED) = some (.type "type"))
    (hED : PySem.W.hasDictIn K ED = true)
    (mED : PySem.W.mroIn K ED (.ref ED) = some true)
    (jED : K.lookup fED = some ⟨ocED, odED, .func (PySem.W.ksFn "__init__" "FieldsDiffer.__init__" (defArgs (inClass (top 6) 0)) (defBody (inClass (top 6) 0)) (defScope (inClass (top 6) 0)) .none .none docED pmED anED (.ref cdaD) ctED ccD), slED⟩)
    (cED : PySem.W.codeIn K (.ref cdaD) "FieldsDiffer.__init__" = true)
    (dED : K.lookup cdaD = some ⟨cclD, cddD, .fields vsD, ccsD⟩)
    (vvED : vsD[2]? = some (.str fileD tfD))
    (pED : ((l.prog.main.file : Str) == fileD) = true)
    (uED : K.lookup ccD = some ⟨clD, cldD, .cell (some (.ref ED)), cslD⟩)
    (s1ED : PySem.W.subIn K (.ref ED) (.ref R) = some true)
    (s2ED : PySem.W.subIn K (.ref ED) (.ref cM) = some false)
    (s3ED : PySem.W.subIn K (.ref ED) (.ref cQ) = some false)
    (z_list : PySem.W.nsIn K mainGlobals "list" = some none)
    (z_len : PySem.W.nsIn K mainGlobals "len" = some none)
    (z_abs : PySem.W.nsIn K mainGlobals "abs" = some none)
    (z_int : PySem.W.nsIn K mainGlobals "int" = some none)
    (z_range : PySem.W.nsIn K mainGlobals "range" = some none)
    (z_isinstance : PySem.W.nsIn K mainGlobals "isinstance" = some none)
    (z_bool : PySem.W.nsIn K mainGlobals "bool" = some none)
    (z_super : PySem.W.nsIn K mainGlobals "super" = some none)
    (a20 : PySem.W.nsIn K mainGlobals "law" = some (some (.ref f20)))
    (l20 : K.lookup f20 = some ⟨oc20, od20, .func (PySem.W.fnOf "law" "law" (defArgs (top 29)) (defBody (top 29)) (defScope (top 29)) .none kV20 dc20 pm20 an20 cd20 ct20), sl20⟩)
    (c20 : PySem.W.codeIn K cd20 "law" = true)
    (k20 : PySem.W.keepIn K (.ref f20) = true)
    (pgC : PySem.W.plainGet K C Str.empty = true)
    (hdC : PySem.W.hasDictIn K C = true)
    (poC : PySem.W.plainOver K C = true)
    (saC : PySem.W.findIn K (.ref C) "__setattr__" = some (some (.builtin "object.__setattr__")))
    (mkC : PySem.W.makesIn K C = true)
    (kpC : PySem.W.keepIn K (.ref C) = true)
    (nC_root : PySem.W.findIn K (.ref C) "_root" = some none)
    (nC_parts : PySem.W.findIn K (.ref C) "_parts" = some none)
    (aPp : PySem.W.nsIn K mainGlobals "PERIODS" = some (some (.ref pd)))
    (lPp : K.lookup pd = some ⟨.type "dict", none, .dict es npp, #[]⟩)
    (oPp : okE es.toList [2, 3, 5, 6, 13] = true)
    (wPp : (pd == sysModules) = false)
    (eqL : cd20 = .ref cL)
    (lL : K.lookup cL = some ⟨.type "code", dL, .fields vL, sL⟩)
    (eL1 : vL[11]? = some (.ref P0))
    (eL2 : vL.getD 11 .none = .ref P0)
    (eL3 : vL.getD 18 .none = .str fileL tfL)
    (eL4 : vL.getD 7 .none = .int flL tgL)
    (eL5 : vL.getD 9 .none = .bool inL)
    (eL6 : vL.getD 10 .none = .int txL ttL)
    (eL7 : (cL == P0) = false)
    (eL8 : (K.lookup P0).isNone = true) :
    LamX.LawAtS l w K CX0 13 63 "_law_script" mg fa h := by
  have e := hfa.symm.trans (PySem.W.mg_of X G a20)
  cases e
  have F_is_whole := fun_mk (st := top 11) l1 c1 k1
  have b_is_whole := F_is_whole.binds (ps := ["value"]) fun _ _ _ _ _ _ us hl => match us, hl with | [_], _ => rfl
  have m_is_whole := PySem.W.mg_of X G a1
  have F_is_root := fun_mk (st := top 12) l2 c2 k2
  have b_is_root := F_is_root.binds (ps := ["value"]) fun _ _ _ _ _ _ us hl => match us, hl with | [_], _ => rfl
  have m_is_root := PySem.W.mg_of X G a2
  have F_law_bag := fun_mk (st := top 20) l3 c3 k3
  have b_law_bag := F_law_bag.binds (ps := ["_law_script"]) fun _ _ _ _ _ _ us hl => match us, hl with | [_], _ => rfl
  have m_law_bag := PySem.W.mg_of X G a3
  have F_law_pull := fun_mk (st := top 21) l4 c4 k4
  have b_law_pull := F_law_pull.binds (ps := ["_law_bag_here", "_law_sides"]) fun _ _ _ _ _ _ us hl => match us, hl with | [_, _], _ => rfl
  have m_law_pull := PySem.W.mg_of X G a4
  have F_law_of := fun_mk (st := top 22) l5 c5 k5
  have b_law_of := F_law_of.binds (ps := ["_law_bag_here", "_law_some"]) fun _ _ _ _ _ _ us hl => match us, hl with | [_, _], _ => rfl
  have m_law_of := PySem.W.mg_of X G a5
  have F_law_far := fun_mk (st := top 26) l6 c6 k6
  have b_law_far := F_law_far.binds (ps := ["_law_bag_here", "_law_figures"]) fun _ _ _ _ _ _ us hl => match us, hl with | [_, _], _ => rfl
  have m_law_far := PySem.W.mg_of X G a6
  have F_law_root := fun_mk (st := top 27) l7 c7 k7
  have b_law_root := F_law_root.binds (ps := ["_law_bag_here"]) fun _ _ _ _ _ _ us hl => match us, hl with | [_], _ => rfl
  have m_law_root := PySem.W.mg_of X G a7
  have F_law_signed := fun_mk (st := top 28) l8 c8 k8
  have b_law_signed := F_law_signed.binds (ps := ["_law_bag_here", "_law_many"]) fun _ _ _ _ _ _ us hl => match us, hl with | [_, _], _ => rfl
  have m_law_signed := PySem.W.mg_of X G a8
  have F_law_field := fun_mk (st := top 23) l9 c9 k9
  have b_law_field := F_law_field.binds (ps := ["_law_one"]) fun _ _ _ _ _ _ us hl => match us, hl with | [_], _ => rfl
  have m_law_field := PySem.W.mg_of X G a9
  have F_law_place := fun_mk (st := top 24) l10 c10 k10
  have b_law_place := F_law_place.binds (ps := ["_law_one"]) fun _ _ _ _ _ _ us hl => match us, hl with | [_], _ => rfl
  have m_law_place := PySem.W.mg_of X G a10
  have F_law_why := fun_mk (st := top 25) l11 c11 k11
  have b_law_why := F_law_why.binds (ps := ["_law_ask"]) fun _ _ _ _ _ _ us hl => match us, hl with | [_], _ => rfl
  have m_law_why := PySem.W.mg_of X G a11
  have mC_C := PySem.W.mg_of X G aCC
  have F_neg := fun_mk (st := sS 11) l13 c13 k13
  have b_neg := F_neg.binds (ps := ["self"]) fun _ _ _ _ _ _ us hl => match us, hl with | [_], _ => rfl
  have F_add := fun_mk (st := sS 8) l14 c14 k14
  have b_add := F_add.binds (ps := ["self", "other"]) fun _ _ _ _ _ _ us hl => match us, hl with | [_, _], _ => rfl
  have F_sub := fun_mk (st := sS 9) l15 c15 k15
  have b_sub := F_sub.binds (ps := ["self", "other"]) fun _ _ _ _ _ _ us hl => match us, hl with | [_, _], _ => rfl
  have F_mul := fun_mk (st := sS 10) l16 c16 k16
  have b_mul := F_mul.binds (ps := ["self", "other"]) fun _ _ _ _ _ _ us hl => match us, hl with | [_, _], _ => rfl
  have F_seq := fun_mk (st := sS 12) l17 c17 k17
  have b_seq := F_seq.binds (ps := ["self", "other"]) fun _ _ _ _ _ _ us hl => match us, hl with | [_, _], _ => rfl
  have F_parts := fun_mk (st := sS 3) l18 c18 k18
  have b_parts := F_parts.binds (ps := ["self"]) fun _ _ _ _ _ _ us hl => match us, hl with | [_], _ => rfl
  have F_cmp := fun_mk (st := sS 6) l19 c19 k19
  have b_cmp := F_cmp.binds (ps := ["self", "other"]) fun _ _ _ _ _ _ us hl => match us, hl with | [_, _], _ => rfl
  have n_list := PySem.W.mg_none_of X G z_list
  have n_len := PySem.W.mg_none_of X G z_len
  have n_abs := PySem.W.mg_none_of X G z_abs
  have n_int := PySem.W.mg_none_of X G z_int
  have n_range := PySem.W.mg_none_of X G z_range
  have n_isinstance := PySem.W.mg_none_of X G z_isinstance
  have n_bool := PySem.W.mg_none_of X G z_bool
  have n_super := PySem.W.mg_none_of X G z_super
  have F_law := fun_mk (st := top 29) l20 c20 k20
  have b_law := F_law.binds (ps := ["_law_script"]) fun _ _ _ _ _ _ us hl => match us, hl with | [_], _ => rfl
  have m_law := PySem.W.mg_of X G a20
  have m_PERIODS := PySem.W.mg_of X G aPp
  subst eqL
  have hT0 : h.get? P0 = some { cls := .none, data := .fields #[] } := OT0 cL P0 _ _ _ _ _ _ l20 rfl rfl lL eL1
  have hC0 : PySem.W.CodeHd h cL P0 := ⟨_, _, _, _, _, _, _, _, _, X _ _ lL, rfl, rfl, eL1, eL2, eL3, eL4, eL5, eL6, by simpa using eL7⟩
  have mp : ∀ p : Addr × Addr, p ∈ [(cL, P0)] → p = (cL, P0) := fun p hp => by simpa using hp
  refine ⟨PySem.W.fnOf "law" "law" (defArgs (top 29)) (defBody (top 29)) (defScope (top 29)) .none kV20 dc20 pm20 an20 (.ref cL) ct20, [(cL, P0)], spLaw K P0, fun p hp => ?_, fun p hp => ?_, fun p hp => ?_, fun s v => .of_eq rfl, fun H a ns hl _ hT hS => ⟨a, ns, rfl, hS, hl, hT (cL, P0) (by simp), fun _ => rfl⟩, fun base _ _ TBs => ?_⟩
  · rcases mp p hp with hp
    · subst hp
      exact hT0
  · rcases mp p hp with hp
    · subst hp
      exact Option.isNone_iff_eq_none.mp eL8
  · rcases mp p hp with hp
    · subst hp
      exact hC0
  have tb := TBs (cL, P0) (by simp)
  have OD : OwnT l.prog w K mg "FieldsDiffer" ED := ownT (own_of (PySem.W.mg_of X G aED) lED lR vR fR saED gaED ggED ntED iED tED kED xED yED hED mED n_super oq tp) jED cED ⟨_, _, _, _, _, _, dED, vvED, pED⟩ ⟨_, _, _, uED⟩ txtD
  have xD := exm3 (exm_of xb1 xi1 xt1 s1ED) (exm_of xb2 xi2 xt2 s2ED) (exm_of xb3 xi3 xt3 s3ED)
  have mD := PySem.W.mg_of X G aED
  have TBm : TB mg := ⟨n_list, n_len, n_abs, n_int⟩
  have J : IsS K mg C := ⟨haC, hnX, htX, hmC, n_isinstance⟩
  have D_is_whole : Df l.prog w K mg base 1 "is_whole" ["value"] (spWhole K) := ⟨_, _, ok_whole (k := 0) F_is_whole n_isinstance n_int n_bool, b_is_whole, m_is_whole, F_is_whole.kp⟩
  have D_is_root : Df l.prog w K mg base 2 "is_root" ["value"] (spIsRoot K) := ⟨_, _, ok_isroot F_is_root D_is_whole m_PERIODS ⟨wPp, es, npp, lPp, oPp⟩, b_is_root, m_is_root, F_is_root.kp⟩
  have D_law_bag : Df l.prog w K mg base 1 "_law_bag" ["_law_script"] (spBag K) := ⟨_, _, ok_bag F_law_bag TBm, b_law_bag, m_law_bag, F_law_bag.kp⟩
  have D_law_pull : Df l.prog w K mg base 1 "_law_pull" ["_law_bag_here", "_law_sides"] (spPullC) := ⟨_, _, ok_pullC F_law_pull TBm, b_law_pull, m_law_pull, F_law_pull.kp⟩
  have D_law_of : Df l.prog w K mg base 2 "_law_of" ["_law_bag_here", "_law_some"] (spOfC K) := ⟨_, _, ok_ofC F_law_of TBm D_law_pull, b_law_of, m_law_of, F_law_of.kp⟩
  have D_law_far : Df l.prog w K mg base 2 "_law_far" ["_law_bag_here", "_law_figures"] (spFarC) := ⟨_, _, ok_farC F_law_far n_range D_law_pull, b_law_far, m_law_far, F_law_far.kp⟩
  have D_law_root : Df l.prog w K mg base 3 "_law_root" ["_law_bag_here"] (spRootC) := ⟨_, _, ok_rootC F_law_root D_law_of, b_law_root, m_law_root, F_law_root.kp⟩
  have D_law_signed : Df l.prog w K mg base 3 "_law_signed" ["_law_bag_here", "_law_many"] (spSigned) := ⟨_, _, ok_signed F_law_signed D_law_far D_law_of, b_law_signed, m_law_signed, F_law_signed.kp⟩
  have m_G := PySem.W.mg_of X G aG
  have T : TxS K mg C := ⟨⟨pgC, hdC, poC, saC⟩, nC_root, nC_parts, mC_C⟩
  have FI : FunD K "__init__" "Surd.__init__" (defArgs (sS 0)) (defBody (sS 0)) (defScope (sS 0)) [.int 0] [("k", .int 1)] f12 (PySem.W.fnOf "__init__" "Surd.__init__" (defArgs (sS 0)) (defBody (sS 0)) (defScope (sS 0)) (.ref T0) (.ref D0) dc12 pm12 an12 cd12 ct12) :=
    ⟨⟨oc12, od12, .ref T0, .ref D0, dc12, pm12, an12, cd12, ct12, sl12, rfl, l12, c12, .inr ⟨by simp, T0, oT, [.int 0 tT], nT, rfl, lT, dT, .cons ⟨_, rfl⟩ .nil⟩, .inr ⟨D0, rfl, fun q hq => by
      obtain rfl : q = ((("k" : Str), V.int 1) : Str × V) := by simpa using hq
      exact ⟨_, kD, _, rfl⟩⟩⟩, k12⟩
  have GI := ok_SInit (P := l.prog) (w := w) (base := base) (k := 5) FI T m_G (D_is_root.mono (by decide))
  have kb : KBn K (PySem.W.fnOf "__init__" "Surd.__init__" (defArgs (sS 0)) (defBody (sS 0)) (defScope (sS 0)) (.ref T0) (.ref D0) dc12 pm12 an12 cd12 ct12) ["self", "root", "i", "j", "k"] 4 ["k"] (fun us ws => us ++ ws) (fun vs zs => vs ++ zs) := by
    obtain ⟨its, mv, kb⟩ := FI.kbinds (ps := ["self", "root", "i", "j", "k"]) 4 ["k"] [] (fun us _ _ ws => us ++ ws) (by simp) (by simp) (fun q hq => by cases hq) (fun r1 _ _ r4 => r1.append r4)
      (fun T D doc pm an cdv ct us its mv ws h1 h2 h3 h4 => match us, its, mv, ws, h1, h2, h3, h4 with | [_, _, _, _], [_], [], [_], _, _, _, _ => ⟨_, rfl, rfl⟩)
    exact kb
  have b4 := FI.binds (ps := ["self", "root", "i", "j", "k"]) 4 1 (by simp) rfl (fun T D doc pm an cdv ct us its ks h1 h2 h3 => match us, its, ks, h1, h2, h3 with | [_, _, _, _], [_], [_], _, _, _ => ⟨_, rfl, _, _, _, _, _, _, rfl, rfl, rfl⟩) (by simp)
  have b3 := FI.binds (ps := ["self", "root", "i", "j", "k"]) 3 0 (by simp) rfl (fun T D doc pm an cdv ct us its ks h1 h2 h3 => match us, its, ks, h1, h2, h3 with | [_, _, _], [_], [_], _, _, _ => ⟨_, rfl, _, _, _, _, _, _, rfl, rfl, rfl⟩) (by simp)
  have M6 : MkS l.prog w K mg base C 6 := ⟨_, _, ⟨mkC, a12, i12, kpC⟩, GI, kb, b4, b3⟩
  have GI3 := ok_SInit (P := l.prog) (w := w) (base := base) (k := 2) FI T m_G D_is_root
  have M3 : MkS l.prog w K mg base C 3 := ⟨_, _, ⟨mkC, a12, i12, kpC⟩, GI3, kb, b4, b3⟩
  have Gneg := ok_SNeg (P := l.prog) (w := w) (base := base) F_neg T M3
  have Gadd := ok_SAdd (P := l.prog) (w := w) (base := base) F_add T J M3
  have Gmul := ok_SMul (P := l.prog) (w := w) (base := base) F_mul T J M3
  have Rneg : FnR l.prog w K mg base (CX0) 5 f13 (spNegS C) := (Gneg.raw b_neg .nil).imp fun vs H Q E z => by rw [List.append_nil]; exact z
  have Radd : FnR l.prog w K mg base (CX0) 5 f14 (spAddS C) := (Gadd.raw b_add .nil).imp fun vs H Q E z => by rw [List.append_nil]; exact z
  have Rmul : FnR l.prog w K mg base (CX0) 5 f16 (spMulS C) := (Gmul.raw b_mul .nil).imp fun vs H Q E z => by rw [List.append_nil]; exact z
  have Gsub := ok_SSub (P := l.prog) (w := w) (base := base) F_sub T J Rneg ⟨sfC, a13, i13⟩ Radd ⟨sfC, a14, i14⟩
  have Rsub : FnR l.prog w K mg base (CX0) 6 f15 (spSubS C) := (Gsub.raw b_sub .nil).imp fun vs H Q E z => by rw [List.append_nil]; exact z
  have Gseq := ok_SEq (P := l.prog) (w := w) (base := base) (k := 0) F_seq T J
  have Gparts := ok_Parts (P := l.prog) (w := w) (base := base) (k := 0) F_parts T
  have GaddD := ok_SAddD (P := l.prog) (w := w) (base := base) (k := 4) F_add T J OD
  have RaddD : FnR l.prog w K mg base (L2.CX l.prog w) 5 f14 (spDiff C ED) := (GaddD.raw b_add .nil).imp fun vs H Q E z => by rw [List.append_nil]; exact z
  have GmulD := ok_SMulD (P := l.prog) (w := w) (base := base) (k := 4) F_mul T J OD
  have RmulD : FnR l.prog w K mg base (L2.CX l.prog w) 5 f16 (spDiff C ED) := (GmulD.raw b_mul .nil).imp fun vs H Q E z => by rw [List.append_nil]; exact z
  have GsubD := ok_SSubD (P := l.prog) (w := w) (base := base) F_sub T J Rneg ⟨sfC, a13, i13⟩ RaddD ⟨sfC, a14, i14⟩
  have RsubD : FnR l.prog w K mg base (L2.CX l.prog w) 6 f15 (spDiff C ED) := (GsubD.raw b_sub .nil).imp fun vs H Q E z => by rw [List.append_nil]; exact z
  have GcmpD := ok_SCmpD (P := l.prog) (w := w) (base := base) F_cmp T RsubD ⟨sfC, a15, i15⟩
  have kcmp := Fun.kbn F_cmp (ps := ["self", "other"]) 1 ["other"] (fun us ws => us ++ ws.reverse) (fun r1 r2 => r1.append (vals_rev r2)) (fun kV doc pm an cdv ct us ws h1 h2 => match us, ws, h1, h2 with | [_], [_], _, _ => rfl)
  have GP := ok_lplace (P := l.prog) (w := w) (base := base) (mg := mg) (k := 7) F_law_place
  have GLF := ok_lfield (P := l.prog) (w := w) (base := base) (mg := mg) (k := 8) F_law_field GP m_law_place F_law_place.kp b_law_place
  exact ok_law l20 c20 tb ⟨D_law_bag.mono (by decide), D_law_pull.mono (by decide), D_law_of.mono (by decide), D_law_root.mono (by decide), D_law_signed.mono (by decide), T, M6, ⟨_, _, Gparts.mono (by decide), ⟨a18, i18, F_parts.kp⟩, b_parts⟩, ⟨_, Radd.mono (by decide), ⟨sfC, a14, i14⟩⟩, ⟨_, Rsub.mono (by decide), ⟨sfC, a15, i15⟩⟩, ⟨_, Rmul.mono (by decide), ⟨sfC, a16, i16⟩⟩, ⟨_, Rneg.mono (by decide), ⟨sfC, a13, i13⟩⟩, ⟨_, _, Gseq.mono (by decide), ⟨a17, i17, neC, hmC⟩, b_seq⟩, ⟨_, RaddD.mono (by decide), ⟨sfC, a14, i14⟩⟩, ⟨_, RsubD.mono (by decide), ⟨sfC, a15, i15⟩⟩, ⟨_, RmulD.mono (by decide), ⟨sfC, a16, i16⟩⟩, ⟨_, _, GcmpD.mono (by decide), ⟨a19, i19, F_cmp.kp⟩, b_cmp, kcmp⟩, ⟨⟨_, _, _, _, _, _, _, _, _, _, m_law_why, F_law_why.kp, l11, c11, b_law_why⟩, PySem.W.mg_of X G aR, PySem.W.mg_of X G aC2, PySem.W.mg_of X G aC3, ⟨_, _, GLF, m_law_field, F_law_field.kp, b_law_field⟩⟩, OD, xD, TBm, n_range⟩
end RF

open PySem PySem.W PyProof.Rows
set_option maxRecDepth 100000 in
set_option maxHeartbeats 0 in
theorem PySem.Challenge.cw_rootfloor_k02_sums_and_products_of_surds_holds : PySem.Challenge.rw_rootfloor_k02_sums_and_products_of_surds.Holds := by
  w_on; o_law; k_head; (case hw => w_witness2)
  k_fill
  refine LamX.walk_ofOwn (l := PySem.Challenge.rw_rootfloor_k02_sums_and_products_of_surds) (n := 63) (k := 13) (x := "_law_script") (CX := fun _ => L2.CX0) rfl (by decide) rfl ⟨rfl, by decide, by decide⟩ (by decide +kernel) (fun w h Y => PySem.W.km_in_of Y) ?F (fun _ _ _ _ _ z => z)
  case F =>
    intro w mg fa h Y KX G hmg OT
    refine' RF.all_mk KX G hmg OT ?a1 ?l1 ?c1 ?k1 ?a2 ?l2 ?c2 ?k2 ?a3 ?l3 ?c3 ?k3 ?a4 ?l4 ?c4 ?k4 ?a5 ?l5 ?c5 ?k5 ?a6 ?l6 ?c6 ?k6 ?a7 ?l7 ?c7 ?k7 ?a8 ?l8 ?c8 ?k8 ?a9 ?l9 ?c9 ?k9 ?a10 ?l10 ?c10 ?k10 ?a11 ?l11 ?c11 ?k11 ?aCC ?a12 ?i12 ?l12 ?c12 ?k12 ?lT ?dT ?kD ?aG ?a13 ?l13 ?c13 ?k13 ?i13 ?a14 ?l14 ?c14 ?k14 ?i14 ?a15 ?l15 ?c15 ?k15 ?i15 ?a16 ?l16 ?c16 ?k16 ?i16 ?a17 ?l17 ?c17 ?k17 ?i17 ?a18 ?l18 ?c18 ?k18 ?i18 ?a19 ?l19 ?c19 ?k19 ?i19 ?haC ?hmC ?neC ?hnX ?htX ?sfC ?aR ?lR ?vR ?fR ?oq ?tp ?aC2 ?aC3 ?xb1 ?xi1 ?xt1 ?xb2 ?xi2 ?xt2 ?xb3 ?xi3 ?xt3 ?aED ?lED ?saED ?gaED ?ggED ?ntED ?iED ?tED ?kED ?xED ?yED ?hED ?mED ?jED ?cED ?dED ?vvED ?pED ?uED ?s1ED ?s2ED ?s3ED ?z_list ?z_len ?z_abs ?z_int ?z_range ?z_isinstance ?z_bool ?z_super ?a20 ?l20 ?c20 ?k20 ?pgC ?hdC ?poC ?saC ?mkC ?kpC ?nC_root ?nC_parts ?aPp ?lPp ?oPp ?wPp ?eqL ?lL ?eL1 ?eL2 ?eL3 ?eL4 ?eL5 ?eL6 ?eL7 ?eL8
    (case a1 => k_is)
    (case l1 => k_is)
    (case c1 => k_is)
    (case k1 => k_is)
    (case a2 => k_is)
    (case l2 => k_is)
    (case c2 => k_is)
    (case k2 => k_is)
    (case a3 => k_is)
    (case l3 => k_is)
    (case c3 => k_is)
    (case k3 => k_is)
    (case a4 => k_is)
    (case l4 => k_is)
    (case c4 => k_is)
    (case k4 => k_is)
    (case a5 => k_is)
    (case l5 => k_is)
    (case c5 => k_is)
    (case k5 => k_is)
    (case a6 => k_is)
    (case l6 => k_is)
    (case c6 => k_is)
    (case k6 => k_is)
    (case a7 => k_is)
    (case l7 => k_is)
    (case c7 => k_is)
    (case k7 => k_is)
    (case a8 => k_is)
    (case l8 => k_is)
    (case c8 => k_is)
    (case k8 => k_is)
    (case a9 => k_is)
    (case l9 => k_is)
    (case c9 => k_is)
    (case k9 => k_is)
    (case a10 => k_is)
    (case l10 => k_is)
    (case c10 => k_is)
    (case k10 => k_is)
    (case a11 => k_is)
    (case l11 => k_is)
    (case c11 => k_is)
    (case k11 => k_is)
    (case aCC => k_is)
    (case a12 => k_is)
    (case i12 => k_is)
    (case l12 => k_is)
    (case c12 => k_is)
    (case k12 => k_is)
    (case lT => k_is)
    (case dT => first | exact rfl | decide +kernel)
    (case kD => k_is)
    (case aG => k_is)
    (case a13 => k_is)
    (case l13 => k_is)
    (case c13 => k_is)
    (case k13 => k_is)
    (case i13 => k_is)
    (case a14 => k_is)
    (case l14 => k_is)
    (case c14 => k_is)
    (case k14 => k_is)
    (case i14 => k_is)
    (case a15 => k_is)
    (case l15 => k_is)
    (case c15 => k_is)
    (case k15 => k_is)
    (case i15 => k_is)
    (case a16 => k_is)
    (case l16 => k_is)
    (case c16 => k_is)
    (case k16 => k_is)
    (case i16 => k_is)
    (case a17 => k_is)
    (case l17 => k_is)
    (case c17 => k_is)
    (case k17 => k_is)
    (case i17 => k_is)
    (case a18 => k_is)
    (case l18 => k_is)
    (case c18 => k_is)
    (case k18 => k_is)
    (case i18 => k_is)
    (case a19 => k_is)
    (case l19 => k_is)
    (case c19 => k_is)
    (case k19 => k_is)
    (case i19 => k_is)
    (case haC => k_is)
    (case hmC => k_is)
    (case neC => k_is)
    (case hnX => k_is)
    (case htX => k_is)
    (case sfC => k_is)
    (case aR => k_is)
    (case lR => k_is)
    (case vR => first | exact rfl | decide +kernel)
    (case fR => k_is)
    (case oq => k_is)
    (case tp => first | exact rfl | decide +kernel)
    (case aC2 => k_is)
    (case aC3 => k_is)
    (case xb1 => k_is)
    (case xi1 => k_is)
    (case xt1 => k_is)
    (case xb2 => k_is)
    (case xi2 => k_is)
    (case xt2 => k_is)
    (case xb3 => k_is)
    (case xi3 => k_is)
    (case xt3 => k_is)
    (case aED => k_is)
    (case lED => k_is)
    (case saED => k_is)
    (case gaED => k_is)
    (case ggED => k_is)
    (case ntED => k_is)
    (case iED => k_is)
    (case tED => k_is)
    (case kED => k_is)
    (case xED => k_is)
    (case yED => k_is)
    (case hED => k_is)
    (case mED => k_is)
    (case jED => k_is)
    (case cED => k_is)
    (case dED => k_is)
    (case vvED => first | exact rfl | decide +kernel)
    (case pED => first | exact rfl | decide +kernel)
    (case uED => k_is)
    (case s1ED => k_is)
    (case s2ED => k_is)
    (case s3ED => k_is)
    (case z_list => k_is)
    (case z_len => k_is)
    (case z_abs => k_is)
    (case z_int => k_is)
    (case z_range => k_is)
    (case z_isinstance => k_is)
    (case z_bool => k_is)
    (case z_super => k_is)
    (case a20 => k_is)
    (case l20 => k_is)
    (case c20 => k_is)
    (case k20 => k_is)
    (case pgC => k_is)
    (case hdC => k_is)
    (case poC => k_is)
    (case saC => k_is)
    (case mkC => k_is)
    (case kpC => k_is)
    (case nC_root => k_is)
    (case nC_parts => k_is)
    (case aPp => k_is)
    (case lPp => k_is)
    (case oPp => first | exact rfl | decide +kernel)
    (case wPp => first | exact rfl | decide +kernel)
    (case eqL => first | exact rfl | decide +kernel)
    (case lL => k_is)
    (case eL1 => first | exact rfl | decide +kernel)
    (case eL2 => first | exact rfl | decide +kernel)
    (case eL3 => first | exact rfl | decide +kernel)
    (case eL4 => first | exact rfl | decide +kernel)
    (case eL5 => first | exact rfl | decide +kernel)
    (case eL6 => first | exact rfl | decide +kernel)
    (case eL7 => first | exact rfl | decide +kernel)
    (case eL8 => first | exact rfl | decide +kernel)

