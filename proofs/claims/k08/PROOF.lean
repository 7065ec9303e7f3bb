import PyProof.Rows.All
import Wide.All
import OpenK.AllK
import Wide.FinOn
import HandS.ForMost
import HandS.Gcd
import HandS.Wide
import HandS.Codes
import HandS.IsInst
import HandS.Zip
import HandS.Walk
import HandS.MakeKwOnly
import HandS.Property
import KE.KOpsOwn
import KE.KMathG
import HandS.OwnEq
import HandS.ClsMeth
import Flt.RightSqrt
import HandS.WideBits
import HandS.Style
import KE.KExcSuper
import KE.KSuper
import KE.KExcPX
import HandS.Exc
import HandS.ExcSuper
import KE.KTryMore
import HandS.HotCalls
import HandS.Lambda
import HandS.WordsExc
import HandS.EndOwn
import PySem.Challenge.RW_rootfloor_k08_floors_of_slopes
set_option Elab.async false
set_option maxRecDepth 100000
set_option maxHeartbeats 8000000
namespace RF
open PySem L2

/-- all that is tracked stays, but what stands at b -/
def Kp (b : Addr) (H H' : Hp) : Prop := ∀ a o, a ≠ b → H a = some o → H' a = some o
theorem Kp.refl (b : Addr) (H : Hp) : Kp b H H := fun _ _ _ e => e
theorem Kp.trans {b : Addr} {H H1 H2 : Hp} (x : Kp b H H1) (y : Kp b H1 H2) : Kp b H H2 := fun a o n e => y a o n (x a o n e)
theorem Kp.upd {b : Addr} {H : Hp} {o : HO} : Kp b H (upd H b o) := fun a u n e => by rw [upd_ne n]; exact e
theorem Kp.of {b : Addr} {H H' : Hp} (s : Same H H') : Kp b H H' := fun a o _ e => s a o e

/-- the bag of a script: its cells, how many are taken, what is left of a great one, the state of the draws -/
structure BagC (H : Hp) (b c : Addr) (ns : List Int) (i : Nat) (z r : Int) : Prop where
  ne : b ≠ c
  at_ : H b = some (.lst [.ref c, .int i, .int z, .int r])
  cs : H c = some (.lst (ns.map V.int))
  le : i ≤ ns.length
  z0 : 0 ≤ z
  r0 : 0 ≤ r
  r1 : r < 2147483647
def Bag (H : Hp) (b : Addr) : Prop := ∃ (c : Addr) (ns : List Int) (i : Nat) (z r : Int), BagC H b c ns i z r
theorem BagC.put {H : Hp} {b c : Addr} {ns : List Int} {i i' : Nat} {z r z' r' : Int} {o : HO} (B : BagC H b c ns i z r) (ho : o = .lst [.ref c, .int i', .int z', .int r']) (hi : i' ≤ ns.length) (hz : 0 ≤ z') (h0 : 0 ≤ r') (h1 : r' < 2147483647) :
    BagC (upd H b o) b c ns i' z' r' := ⟨B.ne, by rw [upd_same, ho], by rw [upd_ne (Ne.symm B.ne)]; exact B.cs, hi, hz, h0, h1⟩
theorem Bag.some {H : Hp} {b : Addr} (B : Bag H b) : ∃ xs, H b = some (.lst xs) := let ⟨_, _, _, _, _, e⟩ := B; ⟨_, e.at_⟩
theorem Bag.same {H H' : Hp} {b : Addr} (B : Bag H b) (s : Same H H') : Bag H' b := by
  obtain ⟨c, ns, i, z, r, h⟩ := B
  exact ⟨c, ns, i, z, r, h.ne, s _ _ h.at_, s _ _ h.cs, h.le, h.z0, h.r0, h.r1⟩
theorem emod_lo (a : Int) {b : Int} (h : 0 < b) : 0 ≤ a % b := Int.emod_nonneg _ (by omega)
theorem emod_hi (a : Int) {b : Int} (h : 0 < b) : a % b < b := Int.emod_lt_of_pos _ h

/-- a draw: some number below the sides; the bag stays one, nothing else changes -/
def spPull : Sp := fun vs H Q _ => ∃ (b : Addr) (k : Int), vs = [.ref b, .int k] ∧ Bag H b ∧ 0 < k ∧ k < 1073741824 ∧
  ∀ (d : Int) (H' : Hp), 0 ≤ d → d < k → Bag H' b → Kp b H H' → Q (.int d) H'
def spBag (K : PySem.W.Frag) : Sp := fun vs H Q _ => ∃ (a : Addr) (ns : List Int), vs = [.ref a] ∧ SqL K H a (ns.map V.int) ∧ ns.length ≤ 63 ∧
  ∀ (b : Addr) (H' : Hp), H b = none → Bag H' b → Same H H' → Q (.ref b) H'
/-- a new object -/
theorem sNew {H H1 : Hp} {p : Addr} {o : HO} (s : Same H H1) (h : H1 p = none) : Same H (upd H1 p o) := fun a u e => by
  rw [upd_ne (ne_of_none (s a u e) h)]
  exact s a u e
theorem ne_new {H : Hp} {p q : Addr} {o : HO} (h : upd H p o q = none) : q ≠ p := fun z => by
  rw [z, upd_same] at h
  cases h
theorem of_new {H : Hp} {p q : Addr} {o : HO} (h : upd H p o q = none) : H q = none := by
  rw [upd_ne (ne_new h)] at h
  exact h

/-! ### data: what a value tells, with the lists and tuples in it -/
inductive D where
  | non | bl (b : Bool) | int (i : Int) | str (x : Str) | lst (ds : List D) | tup (ds : List D)
mutual
def Rp (K : PySem.W.Frag) (H : Hp) : V → D → Prop
  | v, .non => v = .non
  | v, .bl b => v = .bl b
  | v, .int i => v = .int i
  | v, .str x => v = .str x
  | v, .lst ds => ∃ a xs, v = .ref a ∧ SqL K H a xs ∧ xs.length ≤ 100000 ∧ Rps K H xs ds
  | v, .tup ds => ∃ a xs, v = .ref a ∧ SqT K H a xs ∧ xs.length ≤ 100000 ∧ Rps K H xs ds
def Rps (K : PySem.W.Frag) (H : Hp) : List V → List D → Prop
  | xs, [] => xs = []
  | xs, d :: ds => ∃ x r, xs = x :: r ∧ Rp K H x d ∧ Rps K H r ds
end
mutual
def dep : D → Nat
  | .lst ds => depL ds + 1
  | .tup ds => depL ds + 1
  | _ => 0
def depL : List D → Nat
  | [] => 0
  | d :: ds => max (dep d) (depL ds)
end
theorem sameT {K : PySem.W.Frag} {H H' : Hp} {a : Addr} {xs : List V} (e : Same H H') (h : SqT K H a xs) : SqT K H' a xs := by
  rcases h with (h | ⟨o, h⟩) | h
  · exact .inl (.inl (e _ _ h))
  · exact .inl (.inr ⟨o, e _ _ h⟩)
  · exact .inr h
mutual
theorem Rp.same {K : PySem.W.Frag} {H H' : Hp} (e : Same H H') : ∀ {v : V} (d : D), Rp K H v d → Rp K H' v d
  | _, .non, h => h
  | _, .bl _, h => h
  | _, .int _, h => h
  | _, .str _, h => h
  | _, .lst ds, h => by
    obtain ⟨a, xs, h1, h2, h3, h4⟩ := h
    exact ⟨a, xs, h1, e.seq h2, h3, Rps.same e ds h4⟩
  | _, .tup ds, h => by
    obtain ⟨a, xs, h1, h2, h3, h4⟩ := h
    exact ⟨a, xs, h1, sameT e h2, h3, Rps.same e ds h4⟩
theorem Rps.same {K : PySem.W.Frag} {H H' : Hp} (e : Same H H') : ∀ {xs : List V} (ds : List D), Rps K H xs ds → Rps K H' xs ds
  | _, [], h => h
  | _, d :: ds, h => by
    obtain ⟨x, r, h1, h2, h3⟩ := h
    exact ⟨x, r, h1, Rp.same e d h2, Rps.same e ds h3⟩
end
theorem Rps.len {K : PySem.W.Frag} {H : Hp} : ∀ {xs : List V} {ds : List D}, Rps K H xs ds → xs.length = ds.length
  | _, [], h => by rw [show _ = [] from h]; rfl
  | _, d :: ds, h => by
    obtain ⟨x, r, rfl, _, h3⟩ := h
    rw [List.length_cons, List.length_cons, Rps.len h3]
theorem Rps.at_ {K : PySem.W.Frag} {H : Hp} : ∀ {xs : List V} {ds : List D} {i : Nat} {x : V}, Rps K H xs ds → xs[i]? = some x → ∃ d, ds[i]? = some d ∧ Rp K H x d
  | _, [], i, x, h, e => by rw [show _ = [] from h] at e; simp at e
  | _, d :: ds, 0, x, h, e => by
    obtain ⟨y, r, rfl, h2, _⟩ := h
    cases e
    exact ⟨d, rfl, h2⟩
  | _, d :: ds, i + 1, x, h, e => by
    obtain ⟨y, r, rfl, _, h3⟩ := h
    obtain ⟨d', e1, e2⟩ := Rps.at_ (i := i) h3 e
    exact ⟨d', e1, e2⟩
theorem dep_mem : ∀ {ds : List D} {i : Nat} {d : D}, ds[i]? = some d → dep d ≤ depL ds
  | [], _, _, e => by simp at e
  | c :: ds, 0, d, e => by cases e; exact Nat.le_max_left ..
  | c :: ds, i + 1, d, e => Nat.le_trans (dep_mem (i := i) e) (Nat.le_max_right ..)

/-- the class of a datum's value -/
def tyD : D → String
  | .non => "NoneType" | .bl _ => "bool" | .int _ => "int" | .str _ => "str" | .lst _ => "list" | .tup _ => "tuple"
theorem tyL {K : PySem.W.Frag} {H : Hp} {a : Addr} {xs : List V} (h : SqL K H a xs) : TyX K H (.ref a) (.type "list") := by
  rcases h with (h | ⟨o, h⟩) | ⟨o, its, n, h, c, _⟩
  · exact .base (.lst h)
  · exact .base (.frz h)
  · exact .kList h c
theorem tyT {K : PySem.W.Frag} {H : Hp} {a : Addr} {xs : List V} (h : SqT K H a xs) : TyX K H (.ref a) (.type "tuple") := by
  rcases h with (h | ⟨o, h⟩) | ⟨o, its, n, h, c, _⟩
  · exact .base (.tup h)
  · exact .fTuple h
  · exact .kTuple h c
theorem tyX {K : PySem.W.Frag} {H : Hp} : ∀ {v : V} (d : D), Rp K H v d → TyX K H v (.type (tyD d))
  | _, .non, h => by rw [show _ = V.non from h]; exact .base .non
  | _, .bl _, h => by rw [show _ = V.bl _ from h]; exact .base (.bl _)
  | _, .int _, h => by rw [show _ = V.int _ from h]; exact .base (.int _)
  | _, .str _, h => by rw [show _ = V.str _ from h]; exact .base (.str _)
  | _, .lst ds, h => by obtain ⟨a, xs, rfl, h2, _⟩ := h; exact tyL h2
  | _, .tup ds, h => by obtain ⟨a, xs, rfl, h2, _⟩ := h; exact tyT h2

/-! ### a def that others call -/
structure Df (P : Program) (w : World) (K : PySem.W.Frag) (mg : Str → Option Value) (base : Heap) (k : Nat) (x : Str) (ps : List Str) (sp : Sp) : Prop where
  ex : ∃ (f : Addr) (fd : FuncData), FnOk P w K mg base CX0 k f fd ps sp ∧ Binds K fd ps [] ∧ mg x = some (.ref f) ∧ PySem.W.keepIn K (.ref f) = true
theorem fn_false {P : Program} {w : World} {K : PySem.W.Frag} {mg : Str → Option Value} {base : Heap} {CX : CXT} {k : Nat} {f : Addr} {fd : FuncData} {ps : List Str} : FnOk P w K mg base CX k f fd ps (fun _ _ _ _ => False) :=
  ⟨fun _ _ _ _ h => h.elim, fun _ _ _ _ _ _ _ _ _ _ _ _ _ h => h.elim⟩
theorem pe_callD {X : Cx} {j k : Nat} {x : Str} {ps : List Str} {sp : Sp} {p pos : Pos} {e : Expr} {es : List Expr} {t : TA} (F : Df X.prog X.w X.K X.mg X.base k x ps sp) (hr : Room j X.A) (hk : k ≤ j) (ha : PA X (e :: es) t)
    (hg : Gl X x := by rfl) (hdb : (x == ("__debug__" : Str)) = false := by decide)
    (he : starEach (e :: es) X.env = (false, eval e X.env) :: starEach es X.env := by rfl) (hpl : (backTo pos (starEach es X.env)).any (·.1) = false := by rfl) :
    PE X (.Call (.Name x p) (e :: es) [] pos) (tCall sp [] E0 t) := by
  obtain ⟨f, fd, G, b, m, kp⟩ := F.ex
  exact pe_call G (hr.mono hk) hg m kp b .nil pass0 ha hdb he hpl
/-- zip of two tuples -/
theorem walk_zipT {K : PySem.W.Frag} {a b : Addr} {xs ys : List V} {n : Nat} (hn : n = min xs.length ys.length) : Walk (RZ.ItzT K a b) n (fun H => SqT K H a xs ∧ SqT K H b ys) (YPair (fun i => xs[i]?) (fun i => ys[i]?)) := by
  subst hn
  refine ⟨fun i _ hi q => ?_, fun _ q => ⟨xs, ys, q.1, q.2, by omega⟩, fun i H v H' _ q y => ?_⟩
  · have h1 : i < xs.length := by omega
    have h2 : i < ys.length := by omega
    exact ⟨xs, ys, xs[i], ys[i], q.1, q.2, by simp [h1], by simp [h2]⟩
  · obtain ⟨T, x, z, h1, h2, h3, h4, h5⟩ := y
    exact ⟨T, x, z, h1, h2, h3, h4 xs q.1, h5 ys q.2⟩

/-- one datum, told twice: the law's own comparison gives True -/
def spSame (K : PySem.W.Frag) (n : Nat) : Sp := fun vs H Q _ => ∃ (v u : V) (d : D), vs = [v, u] ∧ Rp K H v d ∧ Rp K H u d ∧ dep d ≤ n ∧ ∀ H', Same H H' → Q (.bl true) H'
def spSameL (K : PySem.W.Frag) : Nat → Sp
  | 0 => fun _ _ _ _ => False
  | n + 1 => spSame K n
def spOf (K : PySem.W.Frag) : Sp := fun vs H Q _ => ∃ (b a : Addr) (xs : List V), vs = [.ref b, .ref a] ∧ Bag H b ∧ SqL K H a xs ∧ a ≠ b ∧ 0 < xs.length ∧ xs.length < 1000000 ∧
  ∀ (v : V) (H' : Hp), v ∈ xs → Bag H' b → Kp b H H' → Q v H'
def spRoot : Sp := fun vs H Q _ => ∃ (b : Addr), vs = [.ref b] ∧ Bag H b ∧ ∀ (d : Int) (H' : Hp), d = 2 ∨ d = 3 ∨ d = 5 ∨ d = 6 ∨ d = 13 → Bag H' b → Kp b H H' → Q (.int d) H'
def spFar : Sp := fun vs H Q _ => ∃ (b : Addr) (k : Int), vs = [.ref b, .int k] ∧ Bag H b ∧ 0 < k ∧ k ≤ 1000 ∧ ∀ (n : Int) (H' : Hp), 0 ≤ n → n < 10 ^ k.toNat → Bag H' b → Kp b H H' → Q (.int n) H'
theorem Kp.seq {K : PySem.W.Frag} {b a : Addr} {H H' : Hp} {xs : List V} (k : Kp b H H') (n : a ≠ b) (h : SqL K H a xs) : SqL K H' a xs := by
  rcases h with (h | ⟨o, h⟩) | h
  · exact .inl (.inl (k _ _ n h))
  · exact .inl (.inr ⟨o, k _ _ n h⟩)
  · exact .inr h

theorem iteP {c A B : Prop} [Decidable c] (hc : c) (h : A) : if c then A else B := by
  rw [if_pos hc]
  exact h
theorem iteN {c A B : Prop} [Decidable c] (hc : ¬ c) (h : B) : if c then A else B := by
  rw [if_neg hc]
  exact h
theorem nd_of {p : Prop} [Decidable p] (h : ¬ p) : ¬ decide p = true := fun z => h (of_decide_eq_true z)
theorem eqT {x : V} {Q : VK} {H : Hp} (h : Q (.bl true) H) : Q (.bl (decide (x = x))) H := by
  rw [decide_eq_true rfl]
  exact h
def isBool : D → Bool
  | .bl _ => true
  | _ => false
theorem kb_NoneType_bool : kitB "NoneType" "bool" = some false := by decide +kernel
theorem kb_bool_bool : kitB "bool" "bool" = some true := by decide +kernel
theorem kb_int_bool : kitB "int" "bool" = some false := by decide +kernel
theorem kb_str_bool : kitB "str" "bool" = some false := by decide +kernel
theorem kb_list_bool : kitB "list" "bool" = some false := by decide +kernel
theorem kb_tuple_bool : kitB "tuple" "bool" = some false := by decide +kernel
theorem kit_bool : ∀ d : D, kitB (tyD d) "bool" = some (isBool d)
  | .non => kb_NoneType_bool
  | .bl _ => kb_bool_bool
  | .int _ => kb_int_bool
  | .str _ => kb_str_bool
  | .lst _ => kb_list_bool
  | .tup _ => kb_tuple_bool
def isInt : D → Bool
  | .bl _ => true
  | .int _ => true
  | _ => false
theorem kb_NoneType_int : kitB "NoneType" "int" = some false := by decide +kernel
theorem kb_bool_int : kitB "bool" "int" = some true := by decide +kernel
theorem kb_int_int : kitB "int" "int" = some true := by decide +kernel
theorem kb_str_int : kitB "str" "int" = some false := by decide +kernel
theorem kb_list_int : kitB "list" "int" = some false := by decide +kernel
theorem kb_tuple_int : kitB "tuple" "int" = some false := by decide +kernel
theorem kit_int : ∀ d : D, kitB (tyD d) "int" = some (isInt d)
  | .non => kb_NoneType_int
  | .bl _ => kb_bool_int
  | .int _ => kb_int_int
  | .str _ => kb_str_int
  | .lst _ => kb_list_int
  | .tup _ => kb_tuple_int
def isStr : D → Bool
  | .str _ => true
  | _ => false
theorem kb_NoneType_str : kitB "NoneType" "str" = some false := by decide +kernel
theorem kb_bool_str : kitB "bool" "str" = some false := by decide +kernel
theorem kb_int_str : kitB "int" "str" = some false := by decide +kernel
theorem kb_str_str : kitB "str" "str" = some true := by decide +kernel
theorem kb_list_str : kitB "list" "str" = some false := by decide +kernel
theorem kb_tuple_str : kitB "tuple" "str" = some false := by decide +kernel
theorem kit_str : ∀ d : D, kitB (tyD d) "str" = some (isStr d)
  | .non => kb_NoneType_str
  | .bl _ => kb_bool_str
  | .int _ => kb_int_str
  | .str _ => kb_str_str
  | .lst _ => kb_list_str
  | .tup _ => kb_tuple_str
def isLst : D → Bool
  | .lst _ => true
  | _ => false
theorem kb_NoneType_list : kitB "NoneType" "list" = some false := by decide +kernel
theorem kb_bool_list : kitB "bool" "list" = some false := by decide +kernel
theorem kb_int_list : kitB "int" "list" = some false := by decide +kernel
theorem kb_str_list : kitB "str" "list" = some false := by decide +kernel
theorem kb_list_list : kitB "list" "list" = some true := by decide +kernel
theorem kb_tuple_list : kitB "tuple" "list" = some false := by decide +kernel
theorem kit_list : ∀ d : D, kitB (tyD d) "list" = some (isLst d)
  | .non => kb_NoneType_list
  | .bl _ => kb_bool_list
  | .int _ => kb_int_list
  | .str _ => kb_str_list
  | .lst _ => kb_list_list
  | .tup _ => kb_tuple_list
def isTup : D → Bool
  | .tup _ => true
  | _ => false
theorem kb_NoneType_tuple : kitB "NoneType" "tuple" = some false := by decide +kernel
theorem kb_bool_tuple : kitB "bool" "tuple" = some false := by decide +kernel
theorem kb_int_tuple : kitB "int" "tuple" = some false := by decide +kernel
theorem kb_str_tuple : kitB "str" "tuple" = some false := by decide +kernel
theorem kb_list_tuple : kitB "list" "tuple" = some false := by decide +kernel
theorem kb_tuple_tuple : kitB "tuple" "tuple" = some true := by decide +kernel
theorem kit_tuple : ∀ d : D, kitB (tyD d) "tuple" = some (isTup d)
  | .non => kb_NoneType_tuple
  | .bl _ => kb_bool_tuple
  | .int _ => kb_int_tuple
  | .str _ => kb_str_tuple
  | .lst _ => kb_list_tuple
  | .tup _ => kb_tuple_tuple
theorem kit_lt {K : PySem.W.Frag} (d : D) : PySem.W.kitAny K (.type (tyD d)) [.type "list", .type "tuple"] = some (isLst d || isTup d) := by
  refine kitAny_cons (kit_ty (kit_list d)) (fun e => ?_) (fun e => by rw [e]; rfl)
  rw [e, Bool.false_or]
  exact kitAny_cons (kit_ty (kit_tuple d)) (fun e => by rw [e]; rfl) (fun e => e)
structure TSm (mg : Str → Option Value) : Prop where
  isinstance : mg "isinstance" = none
  bool : mg "bool" = none
  int : mg "int" = none
  str : mg "str" = none
  list : mg "list" = none
  tuple : mg "tuple" = none
  len : mg "len" = none
  all : mg "all" = none
  zip : mg "zip" = none
theorem yes_if {σ : St} {H : Hp} {A B : Hp → Prop} (h : A H) : tYes σ H (fun b H3 => if b = true then A H3 else B H3) := by
  show (if true = true then A H else B H)
  rw [if_pos rfl]
  exact h
end RF

namespace RF
open PySem L2
/-! ### built-in functions of math -/
theorem args_gcd3 (a b c : Value) : argsOk "math.gcd" ⟨[a, b, c], []⟩ := by
  unfold argsOk
  kernel_rfl
theorem run_gcd3 (a : Int) (t : Tok) (b : Int) (u : Tok) (c : Int) (v : Tok) :
    Gives (Builtin.«math.gcd» ⟨[.int a t, .int b u, .int c v], []⟩) (.int (((((Nat.gcd 0 a.natAbs).gcd b.natAbs).gcd c.natAbs : Nat) : Int))) :=
  .of_wp fun M A E s Q h => by
    obtain ⟨hp, g, d, tk, os⟩ := s
    wp_walk
    exact ⟨_, rfl, h⟩

section
variable {X : Cx}
theorem vals3 {x y z : V} {us : List Value} (r : Vals [x, y, z] us) : ∃ u v w, us = [u, v, w] ∧ RelV x u ∧ RelV y v ∧ RelV z w := by
  cases r with
  | cons a r => cases r with
    | cons b r => cases r with
      | cons c r => cases r; exact ⟨_, _, _, rfl, a, b, c⟩
def rGcd3 : List V → Hp → VK → Prop := fun vs H Q => ∃ a b c : Int, vs = [.int a, .int b, .int c] ∧ Q (.int ((Nat.gcd (Nat.gcd a.natAbs b.natAbs) c.natAbs : Nat) : Int)) H
theorem cr_gcd3 : CallR X (.builtin "math.gcd") rGcd3 := by
  intro pins s σ H vs us Q I r h
  obtain ⟨a, b, c, rfl, q⟩ := h
  obtain ⟨u1, u2, u3, rfl, ⟨t1, rfl⟩, ⟨t2, rfl⟩, ⟨t3, rfl⟩⟩ := vals3 r
  have g := run_gcd3 a t1 b t2 c t3
  rw [Nat.gcd_zero_left] at g
  exact call_function_meets PySem.W.MGF.kind_gcd PySem.W.MGF.plain_gcd PySem.W.MGF.entry_gcd (args_gcd3 _ _ _) g.meets (show EP X pins σ Q _ _ from ⟨.int _, H, I.tok _, ⟨_, rfl⟩, q⟩)
def rIsqrt : List V → Hp → VK → Prop := fun vs H Q => ∃ a : Int, vs = [.int a] ∧ 0 ≤ a ∧ a.toNat.log2 < 13000 ∧ Q (.int ((Float64.isqrt a.toNat : Nat) : Int)) H
theorem cr_isqrt : CallR X (.builtin "math.isqrt") rIsqrt := by
  intro pins s σ H vs us Q I r h
  obtain ⟨a, rfl, h0, h1, q⟩ := h
  obtain ⟨u, rfl, t, rfl⟩ := vals1 r
  exact call_function_meets PySem.W.MGF.kind_isqrt PySem.W.MGF.plain_isqrt PySem.W.MGF.entry_isqrt (PySem.W.MGF.args_isqrt _) (PySem.W.mg_run_isqrt a t (by omega) (by omega) (by omega)).meets
    (show EP X pins σ Q _ _ from ⟨.int _, H, I.tok _, ⟨_, rfl⟩, q⟩)

/-! ### operators of an own class -/
/-- C has the operator as the def at f -/
structure OwnOp (K : PySem.W.Frag) (C f : Addr) (m : Str) : Prop where
  first : PySem.W.selfFirst K C = true
  at_ : PySem.W.findIn K (.ref C) m = some (some (.ref f))
  fn : PySem.W.isFn K (.ref f) = true
def rOwn2 (C : Addr) (sp : Sp) (E : XK) : R2 := fun x y H Q => ∃ a b dx dy fs gs, x = .ref a ∧ y = .ref b ∧ H a = some (.ins C dx fs) ∧ H b = some (.ins C dy gs) ∧ sp [.ref a, .ref b] H Q E
theorem notImpl {v : V} {u : Value} {P : Value → Shared → Prop} {s : Shared} (r : RelV v u) (h : P u s) : PySem.W.CmpBack P u s := by
  cases v with
  | non => cases r; exact h
  | bl _ => cases r; exact h
  | int _ => obtain ⟨t, rfl⟩ := r; exact h
  | str _ => obtain ⟨t, rfl⟩ := r; exact h
  | byt _ => obtain ⟨t, rfl⟩ := r; exact h
  | flt _ => obtain ⟨t, rfl⟩ := r; exact h
  | ref _ => cases r; exact h
  | ty _ => cases r; exact h
theorem op_own {CX : CXT} {op : Operator} {n : Nat} {C f : Addr} {sp : Sp} {E : XK} (F : FnR X.prog X.w X.K X.mg X.base CX n f sp) (hr : Room n X.A) (O : OwnOp X.K C f (PySem.dunder op.info.2)) (hx : Passes CX X E) : OpR X (binaryOp op) (rOwn2 C sp E) := by
  intro pins s σ H x y v u Q I rx ry h
  obtain ⟨a, b, dx, dy, fs, gs, rfl, rfl, ha, hb, q⟩ := h
  cases rx
  cases ry
  obtain ⟨mA, J, _⟩ := ins_get I.hok ha
  obtain ⟨mB, J', _⟩ := ins_get I.hok hb
  obtain ⟨od, J, _⟩ := J.look
  obtain ⟨od', J', _⟩ := J'.look
  obtain ⟨m, hF⟩ := I.fr
  refine PySem.W.binop_K hF I.ok.mod.kin J J'.type O.first O.at_ O.fn (wpAny_mono (wpAny_call (run_fnR (us := [.ref a, .ref b]) (vs := [.ref a, .ref b]) F hr hx I (.cons rfl (.cons rfl .nil)) q)) (fun r s' z => ?_) fun _ _ z => z)
  obtain ⟨v, H', I', rv, q'⟩ := id z
  exact notImpl rv z
def rOwn1 (C : Addr) (sp : Sp) (E : XK) : V → Hp → VK → Prop := fun x H Q => ∃ a dx fs, x = .ref a ∧ H a = some (.ins C dx fs) ∧ sp [.ref a] H Q E
theorem un_own_neg {CX : CXT} {n : Nat} {C f : Addr} {sp : Sp} {E : XK} (F : FnR X.prog X.w X.K X.mg X.base CX n f sp) (hr : Room n X.A) (O : OwnOp X.K C f "__neg__") (hx : Passes CX X E) : UnR X (unaryOp .USub) (rOwn1 C sp E) := by
  intro pins s σ H x v Q I rx h
  obtain ⟨a, dx, fs, rfl, ha, q⟩ := h
  cases rx
  obtain ⟨mA, J, _⟩ := ins_get I.hok ha
  obtain ⟨od, J, _⟩ := J.look
  obtain ⟨m, hF⟩ := I.fr
  exact PySem.W.ksp_neg hF I.ok.mod.kin J O.at_ O.fn (wpAny_call (run_fnR (us := [.ref a]) (vs := [.ref a]) F hr hx I (.cons rfl .nil) q))
/-- bool(x) of an instance with its own truth -/
def rOwnB (C : Addr) (sp : Sp) (E : XK) : List V → Hp → VK → Prop := fun vs H Q => ∃ a dx fs, vs = [.ref a] ∧ H a = some (.ins C dx fs) ∧ sp [.ref a] H (fun v H' => ∃ b, v = .bl b ∧ Q (.bl b) H') E
theorem tru_of {M : Model} {A : Around} {x : Value} {s : Shared} {Q0 Q : Bool → Shared → Prop} {E : Value → Shared → Prop} (hs : wpAny M A (truthy x) Q0 E s) (h : ∀ b s', Q0 b s' → Q b s') : wpAny M A (truthy x) Q E s := wpAny_mono hs h fun _ _ z => z
theorem new_bool_own (prog : Program) (w : World) (a : Addr) : MeetsIn prog w (Builtin.«bool.__new__» ⟨[.type "bool", .ref a], []⟩)
    (fun A R s => wpAny (model prog w) A.in1 (truthy (.ref a)) (fun b s' => R (.ok (.ret (.bool b))) s') (fun e s' => R (.error e) s') s) :=
  .of_wp fun A R s hs => by
    have f1 := F.conv_sub_bool
    obtain ⟨hp, g, d, tk, os⟩ := s
    repeat (any_goals (first | assumption | (with_reducible refine tru_of hs (fun b s' hq => ?_)) | wp_step))
    all_goals exact ⟨_, rfl, hq⟩
theorem call_bool_own {CX : CXT} {n : Nat} {C f : Addr} {sp : Sp} {E : XK} (G : FnR X.prog X.w X.K X.mg X.base CX n f sp) (hr : Room (n + 2) X.A) (hat : PySem.W.findIn X.K (.ref C) "__bool__" = some (some (.ref f))) (hfn : PySem.W.isFn X.K (.ref f) = true)
    (hx : Passes CX X E) : CallR X (.type "bool") (rOwnB C sp E) := by
  intro pins s σ H xs us Q I r h
  obtain ⟨a, dx, fs, rfl, ha, q⟩ := h
  obtain ⟨u, rfl, r1⟩ := vals1 r
  cases r1
  obtain ⟨mA, J, _⟩ := ins_get I.hok ha
  obtain ⟨od, J, _⟩ := J.look
  obtain ⟨m, hF⟩ := I.fr
  refine PySem.callType_newIn PySem.F.called_bool PySem.F.newNe_bool (PySem.F.typeCall_bool_1 _) (PySem.F.newCall_bool_1 _) (fun obj => PySem.F.args_object_init_2 obj _) PySem.F.entry_bool_new (new_bool_own X.prog X.w a) ?_
  refine PySem.W.truthy_K hF I.ok.mod.kin J hat hfn ?_
  refine wpAny_call (codeAny_mono (G _ X.stack s H [.ref a] [.ref a] _ E hr.in1.in1 I.env0.in1.in1 (.cons rfl .nil) q) fun r s' hq => ?_)
  cases r with
  | error e => exact hx pins σ H s e s' I hq
  | ok fl =>
    cases fl with
    | ret u =>
      obtain ⟨v, H', I', rv, b, rfl, q'⟩ := I.after hq
      cases rv
      exact ⟨rfl, .bl b, H', I', rfl, q'⟩
    | next => exact False.elim hq
    | brk => exact False.elim hq
    | cont => exact False.elim hq
/-- C.m is a staticmethod: its record at p, its def at g -/
structure SMet (K : PySem.W.Frag) (C : Addr) (mc : Value) (m : Str) (p g : Addr) : Prop where
  at_ : PySem.W.findCls K (.ref C) mc m = some (.get (.builtin "staticmethod.__get__") (.ref p) .none (.ref C))
  rc : ∃ rest, PySem.W.recIn K p "staticmethod" = some (.ref g :: rest)
  kp : PySem.W.keepIn K (.ref g) = true
def tSMeth (C : Addr) (sp : Sp) (E : XK) (ta : TE) (t : TA) : TE := fun σ H Q => ta σ H fun x H1 => x = .ref C ∧ t σ H1 fun vs H2 => sp vs H2 Q E
theorem pe_smeth {CX : CXT} {k : Nat} {C p g : Addr} {mc : Value} {sp : Sp} {E : XK} {o e : Expr} {es : List Expr} {m : Str} {pos apos : Pos} {ta : TE} {t : TA} {pl : Sem Bool} (he : PE X o ta) (r : ClX.CRead X.K C mc) (c : SMet X.K C mc m p g)
    (F : FnR X.prog X.w X.K X.mg X.base CX k g sp) (hr : Room k X.A) (hx : Passes CX X E) (ha : PA X (e :: es) t)
    (hst : starEach (e :: es) X.env = (false, eval e X.env) :: starEach es X.env := by rfl) (hpl : (backTo pos (starEach es X.env)).any (·.1) = false := by rfl)
    (ht : eval (.Call (.Attribute o m apos) (e :: es) [] pos) X.env = (do
      let ov ← eval o X.env
      standAt apos.atName
      let (f, first) ← holding [ov] (getMethod ov m pl)
      callWith pos f first (backTo pos (starEach (e :: es) X.env)) (backToKw pos (keywordEach [] X.env))) := by rfl) :
    PE X (.Call (.Attribute o m apos) (e :: es) [] pos) (tSMeth C sp E ta t) := by
  refine ⟨fun pins s σ H Q I h => ?_⟩
  refine PySem.W.methodCall_KW (pl := pl) (thn (he.run pins s σ H _ I h) fun u s1 ⟨x, H1, I1, rx, ex, q⟩ => ?_) ht
  subst ex
  obtain rfl : u = Value.ref C := rx
  obtain ⟨rest, hp⟩ := c.rc
  refine PySem.W.method_cls I1.kIn r.ga (PySem.W.cls_bind I1.kIn r.rd c.at_ (wpAny_call (PySem.W.sm_get (s := { s1 with toks := s1.toks + 1 }) I1.kIn hp (PySem.W.handed_on rfl ?_))))
  have I2 := I1.tok (s1.toks + 1)
  refine PySem.W.callWith_K (h₀ := X.base) I.ok.mod.kin c.kp (thn (ha.run pos pins _ σ H1 _ I2 q) fun us s3 ⟨vs, H2, I3, rv, q2⟩ => ⟨I3.kIn, ?_⟩) hst hpl
  exact wpAny_call (run_fnR F hr hx I3 rv q2)
end
end RF

namespace RF
theorem sq_nonneg (a : Int) : 0 ≤ a * a := by
  rcases Int.le_total 0 a with h | h
  · exact Int.mul_nonneg h h
  · exact Int.mul_nonneg_of_nonpos_of_nonpos h h
theorem sq_le {a b : Int} (ha : 0 ≤ a) (h : a ≤ b) : a * a ≤ b * b := Int.mul_le_mul h h ha (by omega)
theorem sq_lt {a b : Int} (ha : 0 ≤ a) (h : a < b) : a * a < b * b := by
  have h1 : a * a ≤ a * b := Int.mul_le_mul_of_nonneg_left (by omega) ha
  have h2 : a * b < b * b := Int.mul_lt_mul_of_pos_right h (by omega)
  omega
theorem le_of_sq {a b : Int} (hb : 0 ≤ b) (h : a * a ≤ b * b) : a ≤ b := by
  rcases Int.lt_or_le b a with z | z
  · have := sq_lt hb z
    omega
  · exact z
theorem lt_of_sq {a b : Int} (hb : 0 ≤ b) (h : a * a < b * b) : a < b := by
  rcases Int.lt_or_le a b with z | z
  · exact z
  · have := sq_le hb z
    omega
/-! ### square roots of integers -/
def rt (n : Int) : Int := ((PySem.Float64.isqrt n.toNat : Nat) : Int)
theorem rt_nn (n : Int) : 0 ≤ rt n := Int.natCast_nonneg _
theorem rt_le {n : Int} (h : 0 ≤ n) : rt n * rt n ≤ n := by
  have := (PySem.Float64.isqrt_spec n.toNat).1
  have e : ((PySem.Float64.isqrt n.toNat * PySem.Float64.isqrt n.toNat : Nat) : Int) ≤ ((n.toNat : Nat) : Int) := Int.ofNat_le.mpr this
  rw [Int.natCast_mul] at e
  unfold rt
  omega
theorem rt_lt {n : Int} (h : 0 ≤ n) : n < (rt n + 1) * (rt n + 1) := by
  have := (PySem.Float64.isqrt_spec n.toNat).2
  have e : ((n.toNat : Nat) : Int) < (((PySem.Float64.isqrt n.toNat + 1) * (PySem.Float64.isqrt n.toNat + 1) : Nat) : Int) := Int.ofNat_lt.mpr this
  rw [Int.natCast_mul, Int.natCast_add] at e
  unfold rt
  have e2 : ((n.toNat : Nat) : Int) = n := by omega
  rw [e2] at e
  exact e
theorem rt_uniq {n r : Int} (h : 0 ≤ n) (r0 : 0 ≤ r) (r1 : r * r ≤ n) (r2 : n < (r + 1) * (r + 1)) : r = rt n := by
  have a := rt_le h
  have b := rt_lt h
  have c := rt_nn n
  have h1 : r < rt n + 1 := lt_of_sq (by omega) (by omega)
  have h2 : rt n < r + 1 := lt_of_sq (by omega) (by omega)
  omega
/-! ### the roots -/
def Root (d : Int) : Prop := d = 2 ∨ d = 3 ∨ d = 5 ∨ d = 6 ∨ d = 13
theorem Root.pos {d : Int} (h : Root d) : 0 < d := by unfold Root at h; omega
theorem Root.le {d : Int} (h : Root d) : d ≤ 13 := by unfold Root at h; omega
theorem ex_mul (i : Int) {p : Int} (h : i % p = 0) : ∃ t, i = p * t := ⟨i / p, by
  have := Int.mul_ediv_add_emod i p
  rw [h] at this
  omega⟩
theorem dvd2 {i c : Int} (h : i * i = 2 * c) : ∃ t, i = 2 * t := ex_mul i (by
  have e : (i * i) % 2 = 0 := by omega
  rw [Int.mul_emod] at e
  have : i % 2 = 0 ∨ i % 2 = 1 := by omega
  rcases this with z | z
  · exact z
  · rw [z] at e; simp at e)
theorem dvd3 {i c : Int} (h : i * i = 3 * c) : ∃ t, i = 3 * t := ex_mul i (by
  have e : (i * i) % 3 = 0 := by omega
  rw [Int.mul_emod] at e
  have : i % 3 = 0 ∨ i % 3 = 1 ∨ i % 3 = 2 := by omega
  rcases this with z | z | z
  · exact z
  · rw [z] at e; simp at e
  · rw [z] at e; simp at e)
theorem dvd5 {i c : Int} (h : i * i = 5 * c) : ∃ t, i = 5 * t := ex_mul i (by
  have e : (i * i) % 5 = 0 := by omega
  rw [Int.mul_emod] at e
  have : i % 5 = 0 ∨ i % 5 = 1 ∨ i % 5 = 2 ∨ i % 5 = 3 ∨ i % 5 = 4 := by omega
  rcases this with z | z | z | z | z
  · exact z
  all_goals (rw [z] at e; simp at e))
theorem dvd13 {i c : Int} (h : i * i = 13 * c) : ∃ t, i = 13 * t := ex_mul i (by
  have e : (i * i) % 13 = 0 := by omega
  rw [Int.mul_emod] at e
  have : i % 13 = 0 ∨ i % 13 = 1 ∨ i % 13 = 2 ∨ i % 13 = 3 ∨ i % 13 = 4 ∨ i % 13 = 5 ∨ i % 13 = 6 ∨ i % 13 = 7 ∨ i % 13 = 8 ∨ i % 13 = 9 ∨ i % 13 = 10 ∨ i % 13 = 11 ∨ i % 13 = 12 := by omega
  rcases this with z | z | z | z | z | z | z | z | z | z | z | z | z
  · exact z
  all_goals (rw [z] at e; simp at e))
/-- one step down -/
theorem down {d i j : Int} (hd : Root d) (h : i * i = d * (j * j)) : ∃ p i' j' : Int, 2 ≤ p ∧ j = p * j' ∧ i' * i' = d * (j' * j') := by
  rcases hd with rfl | rfl | rfl | rfl | rfl
  · obtain ⟨t, rfl⟩ := dvd2 h
    obtain ⟨u, rfl⟩ := dvd2 (i := j) (c := t * t) (by grind)
    exact ⟨2, t, u, by omega, rfl, by grind⟩
  · obtain ⟨t, rfl⟩ := dvd3 h
    obtain ⟨u, rfl⟩ := dvd3 (i := j) (c := t * t) (by grind)
    exact ⟨3, t, u, by omega, rfl, by grind⟩
  · obtain ⟨t, rfl⟩ := dvd5 h
    obtain ⟨u, rfl⟩ := dvd5 (i := j) (c := t * t) (by grind)
    exact ⟨5, t, u, by omega, rfl, by grind⟩
  · obtain ⟨t, rfl⟩ := dvd3 (i := i) (c := 2 * (j * j)) (by grind)
    obtain ⟨u, rfl⟩ := dvd3 (i := j) (c := 2 * (t * t) - (j * j)) (by grind)
    exact ⟨3, t, u, by omega, rfl, by grind⟩
  · obtain ⟨t, rfl⟩ := dvd13 h
    obtain ⟨u, rfl⟩ := dvd13 (i := j) (c := t * t) (by grind)
    exact ⟨13, t, u, by omega, rfl, by grind⟩
theorem nonsq {d : Int} (hd : Root d) : ∀ (n : Nat) (i j : Int), j.natAbs ≤ n → i * i = d * (j * j) → j = 0
  | 0, i, j, hn, _ => by omega
  | n + 1, i, j, hn, h => by
    obtain ⟨p, i', j', hp, e, h'⟩ := down hd h
    rcases Int.lt_trichotomy j' 0 with z | z | z
    · have : j'.natAbs ≤ n := by
        have h1 : p * j' ≤ 2 * j' := by
          have := Int.mul_le_mul_of_nonpos_right hp (by omega : j' ≤ 0)
          omega
        omega
      have := nonsq hd n i' j' this h'
      omega
    · rw [e, z]; simp
    · have : j'.natAbs ≤ n := by
        have h1 : 2 * j' ≤ p * j' := Int.mul_le_mul_of_nonneg_right hp (by omega)
        omega
      have := nonsq hd n i' j' this h'
      omega
theorem irr {d i j : Int} (hd : Root d) (h : i * i = d * (j * j)) : j = 0 := nonsq hd j.natAbs i j (Nat.le_refl _) h
end RF

namespace RF
theorem ring1 (x s : Int) : (x + s) * (x + s) = (x - s) * (x - s) + 4 * (x * s) := by grind
theorem amgm (x q y n : Int) (hx : 0 < x) (hq : 0 ≤ q) (hn : n < x * (q + 1)) (hy : x + q ≤ 2 * y + 1) : n < (y + 1) * (y + 1) := by
  have h1 := ring1 x (q + 1)
  have h0 : 0 ≤ (x - (q + 1)) * (x - (q + 1)) := by
    rcases Int.le_total 0 (x - (q + 1)) with h | h
    · exact Int.mul_nonneg h h
    · exact Int.mul_nonneg_of_nonpos_of_nonpos h h
  have h2 : (x + (q + 1)) * (x + (q + 1)) ≤ (2 * (y + 1)) * (2 * (y + 1)) := Int.mul_le_mul (by omega) (by omega) (by omega) (by omega)
  have h3 : (2 * (y + 1)) * (2 * (y + 1)) = 4 * ((y + 1) * (y + 1)) := by grind
  omega
end RF

namespace RF
/-- the size of an integer, as abs gives it -/
def ab (i : Int) : Int := if i < 0 then -i else i
theorem ab_nn (i : Int) : 0 ≤ ab i := by unfold ab; split <;> omega
theorem ab_pos {i : Int} (h : 0 ≤ i) : ab i = i := by unfold ab; rw [if_neg (by omega)]
theorem ab_neg {i : Int} (h : i ≤ 0) : ab i = -i := by
  unfold ab
  split <;> omega
/-- i|i| + d j|j|: it has the sign of i + j r -/
def sgb (d i j : Int) : Int := i * ab i + d * j * ab j
def sg (d i j : Int) : Int := if 0 < sgb d i j then 1 else if sgb d i j < 0 then -1 else 0
/-- the floor of f times the root -/
def flr (d f : Int) : Int := if f < 0 then -rt (d * f * f) - 1 else rt (d * f * f)
theorem dff (d f : Int) : d * f * f = d * (f * f) := Int.mul_assoc d f f
theorem dff_nn {d f : Int} (hd : Root d) : 0 ≤ d * f * f := by
  rw [dff]
  exact Int.mul_nonneg (Int.le_of_lt hd.pos) (sq_nonneg f)
theorem keyL {d x y : Int} (hd : Root d) : 0 ≤ sgb d x y ↔ 0 ≤ x + flr d y := by
  have r0 := rt_nn (d * y * y)
  have r1 := rt_le (dff_nn hd (f := y))
  have r2 := rt_lt (dff_nn hd (f := y))
  have dn := dff_nn hd (f := y)
  generalize hr : rt (d * y * y) = r at *
  rcases Int.lt_or_le y 0 with hy | hy
  · have ef : flr d y = -r - 1 := by unfold flr; rw [if_pos hy, hr]
    have eb : sgb d x y = x * ab x - d * y * y := by unfold sgb; rw [ab_neg (Int.le_of_lt hy)]; grind
    rw [ef, eb]
    have ne : r * r ≠ d * y * y := fun e => by
      have := irr hd (i := r) (j := y) (by rw [e, dff])
      omega
    have lt : r * r < d * y * y := by omega
    have dp : 0 < d * y * y := by
      have := sq_nonneg r
      omega
    rcases Int.lt_or_le x 0 with hx | hx
    · rw [ab_neg (Int.le_of_lt hx)]
      have := sq_nonneg x
      have e : x * -x = -(x * x) := by grind
      omega
    · rw [ab_pos hx]
      constructor
      · intro h
        have : r < x := lt_of_sq hx (by omega)
        omega
      · intro h
        have : (r + 1) * (r + 1) ≤ x * x := sq_le (by omega) (by omega)
        omega
  · have ef : flr d y = r := by unfold flr; rw [if_neg (by omega), hr]
    have eb : sgb d x y = x * ab x + d * y * y := by unfold sgb; rw [ab_pos hy]
    rw [ef, eb]
    rcases Int.lt_or_le x 0 with hx | hx
    · rw [ab_neg (Int.le_of_lt hx)]
      have e : x * -x = -((-x) * (-x)) := by grind
      constructor
      · intro h
        have : -x < r + 1 := lt_of_sq (by omega) (by omega)
        omega
      · intro h
        have : (-x) * (-x) ≤ r * r := sq_le (by omega) (by omega)
        omega
    · rw [ab_pos hx]
      have := sq_nonneg x
      omega
theorem ab_mul {g i : Int} (hg : 0 ≤ g) : ab (g * i) = g * ab i := by
  rcases Int.lt_or_le i 0 with h | h
  · have : g * i ≤ 0 := Int.mul_nonpos_of_nonneg_of_nonpos hg (by omega)
    rw [ab_neg this, ab_neg (by omega)]
    grind
  · rw [ab_pos (Int.mul_nonneg hg h), ab_pos h]
theorem sgb_mul {d g i j : Int} (hg : 0 ≤ g) : sgb d (g * i) (g * j) = g * g * sgb d i j := by
  unfold sgb
  rw [ab_mul hg, ab_mul hg]
  grind
theorem sgb_neg {d i j : Int} : sgb d (-i) (-j) = -sgb d i j := by
  have h : ∀ i, ab (-i) = ab i := fun i => by unfold ab; split <;> split <;> omega
  unfold sgb
  rw [h, h]
  grind
theorem sg_mul {d g i j : Int} (hg : 0 < g) : sg d (g * i) (g * j) = sg d i j := by
  have hp : 0 < g * g := Int.mul_pos hg hg
  have e := sgb_mul (d := d) (i := i) (j := j) (Int.le_of_lt hg)
  unfold sg
  rw [e]
  rcases Int.lt_trichotomy (sgb d i j) 0 with h | h | h
  · have : g * g * sgb d i j < 0 := Int.mul_neg_of_pos_of_neg hp h
    rw [if_neg (by omega), if_pos this, if_neg (by omega), if_pos h]
  · rw [h]; simp
  · have : 0 < g * g * sgb d i j := Int.mul_pos hp h
    rw [if_pos this, if_pos h]
theorem sg_neg {d i j : Int} : sg d (-i) (-j) = -sg d i j := by
  have e := sgb_neg (d := d) (i := i) (j := j)
  unfold sg
  rw [e]
  rcases Int.lt_trichotomy (sgb d i j) 0 with h | h | h
  · rw [if_pos (by omega), if_neg (by omega), if_pos h]; rfl
  · rw [h]; rfl
  · rw [if_neg (by omega), if_pos (by omega), if_pos h]
/-- the law's own sign -/
theorem sg_pp {d i j : Int} (hd : Root d) (hi : 0 ≤ i) (hj : 0 ≤ j) : sg d i j = if 0 < i ∨ 0 < j then 1 else 0 := by
  have hp := hd.pos
  have e : sgb d i j = i * i + d * (j * j) := by unfold sgb; rw [ab_pos hi, ab_pos hj]; grind
  have a := sq_nonneg i
  have b := sq_nonneg j
  have b' : 0 ≤ d * (j * j) := Int.mul_nonneg (by omega) b
  unfold sg
  rw [e]
  by_cases h : 0 < i ∨ 0 < j
  · rw [if_pos h, if_pos]
    rcases h with h | h
    · have : 0 < i * i := Int.mul_pos h h
      omega
    · have : 0 < d * (j * j) := Int.mul_pos hp (Int.mul_pos h h)
      omega
  · have hi0 : i = 0 := by omega
    have hj0 : j = 0 := by omega
    rw [if_neg h, hi0, hj0]
    simp
theorem sg_nn {d i j : Int} (hd : Root d) (hi : i ≤ 0) (hj : j ≤ 0) (h : ¬ (0 ≤ i ∧ 0 ≤ j)) : sg d i j = -1 := by
  have e : sg d i j = -sg d (-i) (-j) := by rw [sg_neg]; omega
  rw [e, sg_pp hd (by omega) (by omega), if_pos (by omega)]
theorem sg_pn {d i j : Int} (hd : Root d) (hi : 0 < i) (hj : j < 0) : sg d i j = if j * j * d < i * i then 1 else -1 := by
  have e : sgb d i j = i * i - j * j * d := by unfold sgb; rw [ab_pos (by omega), ab_neg (by omega)]; grind
  have ne : i * i ≠ j * j * d := fun q => by
    have := irr hd (i := i) (j := j) (by rw [q]; grind)
    omega
  unfold sg
  rw [e]
  split <;> split <;> first | rfl | omega | skip
theorem sg_np {d i j : Int} (hd : Root d) (hi : i < 0) (hj : 0 < j) : sg d i j = if i * i < j * j * d then 1 else -1 := by
  have e : sgb d i j = j * j * d - i * i := by unfold sgb; rw [ab_pos (i := j) (by omega), ab_neg (i := i) (by omega)]; grind
  have ne : i * i ≠ j * j * d := fun q => by
    have := irr hd (i := i) (j := j) (by rw [q]; grind)
    omega
  unfold sg
  rw [e]
  split <;> split <;> first | rfl | omega | skip
theorem sg_nonneg {d i j : Int} (hd : Root d) : 0 ≤ sg d i j ↔ 0 ≤ i + flr d j := by
  rw [← keyL hd]
  unfold sg
  split
  · omega
  · split <;> omega
theorem flr_ring {d f : Int} : rt (f * f * d) = rt (d * f * f) := by rw [show f * f * d = d * f * f by grind]
end RF

namespace RF
/-! ### lowest terms -/
def gc (i j k : Int) : Int := ((Nat.gcd (Nat.gcd i.natAbs j.natAbs) k.natAbs : Nat) : Int)
def gs (i j k : Int) : Int := if k < 0 then -gc i j k else gc i j k
theorem gc_i (i j k : Int) : gc i j k ∣ i := Int.natAbs_dvd_natAbs.mp (by
  unfold gc
  rw [Int.natAbs_natCast]
  exact Nat.dvd_trans (Nat.gcd_dvd_left _ _) (Nat.gcd_dvd_left _ _))
theorem gc_j (i j k : Int) : gc i j k ∣ j := Int.natAbs_dvd_natAbs.mp (by
  unfold gc
  rw [Int.natAbs_natCast]
  exact Nat.dvd_trans (Nat.gcd_dvd_left _ _) (Nat.gcd_dvd_right _ _))
theorem gc_k (i j k : Int) : gc i j k ∣ k := Int.natAbs_dvd_natAbs.mp (by
  unfold gc
  rw [Int.natAbs_natCast]
  exact Nat.gcd_dvd_right _ _)
theorem gc_pos {i j k : Int} (h : k ≠ 0) : 0 < gc i j k := by
  have : 0 < Nat.gcd (Nat.gcd i.natAbs j.natAbs) k.natAbs := Nat.gcd_pos_of_pos_right _ (by omega)
  unfold gc
  omega
theorem gc_le {i j k : Int} (h : k ≠ 0) : gc i j k ≤ ab k := by
  have : Nat.gcd (Nat.gcd i.natAbs j.natAbs) k.natAbs ≤ k.natAbs := Nat.gcd_le_right _ (by omega)
  unfold gc ab
  split <;> omega
theorem gs_ne {i j k : Int} (h : k ≠ 0) : gs i j k ≠ 0 := by
  have := gc_pos (i := i) (j := j) h
  unfold gs
  split <;> omega
theorem gs_natAbs {i j k : Int} (h : k ≠ 0) : (gs i j k).natAbs ≤ k.natAbs := by
  have := gc_pos (i := i) (j := j) h
  have := gc_le (i := i) (j := j) h
  unfold gs
  unfold ab at this
  split <;> split at this <;> omega
def pI (i j k : Int) : Int := i.fdiv (gs i j k)
def pJ (i j k : Int) : Int := j.fdiv (gs i j k)
def pK (i j k : Int) : Int := k.fdiv (gs i j k)
theorem gs_dvd {i j k x : Int} (h : gc i j k ∣ x) : gs i j k ∣ x := by
  unfold gs
  split
  · exact Int.neg_dvd.mpr h
  · exact h
theorem fdiv_of {g x : Int} (hg : g ≠ 0) (h : g ∣ x) : x = g * x.fdiv g := by
  obtain ⟨t, rfl⟩ := h
  rw [Int.mul_fdiv_cancel_left t hg]
theorem pI_eq {i j k : Int} (h : k ≠ 0) : i = gs i j k * pI i j k := fdiv_of (gs_ne h) (gs_dvd (gc_i i j k))
theorem pJ_eq {i j k : Int} (h : k ≠ 0) : j = gs i j k * pJ i j k := fdiv_of (gs_ne h) (gs_dvd (gc_j i j k))
theorem pK_eq {i j k : Int} (h : k ≠ 0) : k = gs i j k * pK i j k := fdiv_of (gs_ne h) (gs_dvd (gc_k i j k))
theorem pK_pos {i j k : Int} (h : k ≠ 0) : 0 < pK i j k := by
  have e := pK_eq (i := i) (j := j) h
  have g0 := gc_pos (i := i) (j := j) h
  generalize pK i j k = t at *
  unfold gs at e
  split at e
  · rcases Int.lt_or_le 0 t with z | z
    · exact z
    · have : 0 ≤ -gc i j k * t := Int.mul_nonneg_of_nonpos_of_nonpos (by omega) z
      omega
  · rcases Int.lt_or_le 0 t with z | z
    · exact z
    · have : gc i j k * t ≤ 0 := Int.mul_nonpos_of_nonneg_of_nonpos (by omega) z
      omega
theorem nat_le_mul {g t : Int} (hg : g ≠ 0) : t.natAbs ≤ (g * t).natAbs := by
  rw [Int.natAbs_mul]
  exact Nat.le_mul_of_pos_left _ (by omega)
theorem pI_le {i j k : Int} (h : k ≠ 0) : (pI i j k).natAbs ≤ i.natAbs := by
  have e := pI_eq (i := i) (j := j) h
  have := nat_le_mul (g := gs i j k) (t := pI i j k) (gs_ne h)
  rw [← e] at this
  exact this
theorem pJ_le {i j k : Int} (h : k ≠ 0) : (pJ i j k).natAbs ≤ j.natAbs := by
  have e := pJ_eq (i := i) (j := j) h
  have := nat_le_mul (g := gs i j k) (t := pJ i j k) (gs_ne h)
  rw [← e] at this
  exact this
theorem pK_le {i j k : Int} (h : k ≠ 0) : (pK i j k).natAbs ≤ k.natAbs := by
  have e := pK_eq (i := i) (j := j) h
  have := nat_le_mul (g := gs i j k) (t := pK i j k) (gs_ne h)
  rw [← e] at this
  exact this
theorem gc_one {i j k : Int} (h : k ≠ 0) : gc (pI i j k) (pJ i j k) (pK i j k) = 1 := by
  have e1 : i.natAbs = (gs i j k).natAbs * (pI i j k).natAbs := by rw [← Int.natAbs_mul, ← pI_eq h]
  have e2 : j.natAbs = (gs i j k).natAbs * (pJ i j k).natAbs := by rw [← Int.natAbs_mul, ← pJ_eq h]
  have e3 : k.natAbs = (gs i j k).natAbs * (pK i j k).natAbs := by rw [← Int.natAbs_mul, ← pK_eq h]
  have eg : (gs i j k).natAbs = Nat.gcd (Nat.gcd i.natAbs j.natAbs) k.natAbs := by
    unfold gs gc
    split <;> omega
  have key : Nat.gcd (Nat.gcd i.natAbs j.natAbs) k.natAbs = (gs i j k).natAbs * Nat.gcd (Nat.gcd (pI i j k).natAbs (pJ i j k).natAbs) (pK i j k).natAbs := by
    conv => lhs; rw [e1, e2, e3]
    rw [Nat.gcd_mul_left, Nat.gcd_mul_left]
  rw [← eg] at key
  have gp : 0 < (gs i j k).natAbs := by have := gs_ne (i := i) (j := j) h; omega
  have : Nat.gcd (Nat.gcd (pI i j k).natAbs (pJ i j k).natAbs) (pK i j k).natAbs = 1 := by
    have q : (gs i j k).natAbs * 1 = (gs i j k).natAbs * Nat.gcd (Nat.gcd (pI i j k).natAbs (pJ i j k).natAbs) (pK i j k).natAbs := by omega
    exact (Nat.eq_of_mul_eq_mul_left gp q).symm
  unfold gc
  rw [this]
  rfl
theorem dvd_low {a b c a' b' c' : Int} (hg : gc a b c = 1) (h1 : a * c' = a' * c) (h2 : b * c' = b' * c) : c ∣ c' := by
  apply Int.natAbs_dvd_natAbs.mp
  have d1 : c.natAbs ∣ a.natAbs * c'.natAbs := by rw [← Int.natAbs_mul, h1, Int.natAbs_mul]; exact Nat.dvd_mul_left _ _
  have d2 : c.natAbs ∣ b.natAbs * c'.natAbs := by rw [← Int.natAbs_mul, h2, Int.natAbs_mul]; exact Nat.dvd_mul_left _ _
  have d3 : c.natAbs ∣ c.natAbs * c'.natAbs := Nat.dvd_mul_right _ _
  have d : c.natAbs ∣ Nat.gcd (Nat.gcd (a.natAbs * c'.natAbs) (b.natAbs * c'.natAbs)) (c.natAbs * c'.natAbs) := Nat.dvd_gcd (Nat.dvd_gcd d1 d2) d3
  rw [Nat.gcd_mul_right, Nat.gcd_mul_right] at d
  have : Nat.gcd (Nat.gcd a.natAbs b.natAbs) c.natAbs = 1 := by unfold gc at hg; omega
  rw [this, Nat.one_mul] at d
  exact d
theorem low_uniq {a b c a' b' c' : Int} (hc : 0 < c) (hc' : 0 < c') (hg : gc a b c = 1) (hg' : gc a' b' c' = 1) (h1 : a * c' = a' * c) (h2 : b * c' = b' * c) : a = a' ∧ b = b' ∧ c = c' := by
  have e : c = c' := Int.dvd_antisymm (by omega) (by omega) (dvd_low hg h1 h2) (dvd_low hg' h1.symm h2.symm)
  subst e
  exact ⟨Int.eq_of_mul_eq_mul_right (by omega) h1, Int.eq_of_mul_eq_mul_right (by omega) h2, rfl⟩
/-- equal numbers have equal parts -/
theorem parts_eq {i j k i' j' k' : Int} (h : k ≠ 0) (h' : k' ≠ 0) (h1 : i * k' = i' * k) (h2 : j * k' = j' * k) : pI i j k = pI i' j' k' ∧ pJ i j k = pJ i' j' k' ∧ pK i j k = pK i' j' k' := by
  have g := gs_ne (i := i) (j := j) h
  have g' := gs_ne (i := i') (j := j') h'
  have a1 := pI_eq (i := i) (j := j) h
  have a2 := pJ_eq (i := i) (j := j) h
  have a3 := pK_eq (i := i) (j := j) h
  have b1 := pI_eq (i := i') (j := j') h'
  have b2 := pJ_eq (i := i') (j := j') h'
  have b3 := pK_eq (i := i') (j := j') h'
  refine low_uniq (pK_pos h) (pK_pos h') (gc_one h) (gc_one h') ?_ ?_
  · have : gs i j k * gs i' j' k' ≠ 0 := Int.mul_ne_zero g g'
    apply Int.eq_of_mul_eq_mul_left this
    generalize gs i j k = s at *
    generalize gs i' j' k' = s' at *
    generalize pI i j k = x at *
    generalize pI i' j' k' = x' at *
    generalize pK i j k = z at *
    generalize pK i' j' k' = z' at *
    rw [a1, b1, a3, b3] at h1
    grind
  · have : gs i j k * gs i' j' k' ≠ 0 := Int.mul_ne_zero g g'
    apply Int.eq_of_mul_eq_mul_left this
    generalize gs i j k = s at *
    generalize gs i' j' k' = s' at *
    generalize pJ i j k = x at *
    generalize pJ i' j' k' = x' at *
    generalize pK i j k = z at *
    generalize pK i' j' k' = z' at *
    rw [a2, b2, a3, b3] at h2
    grind
/-- the sign of a number does not hang on how it is told -/
theorem sg_parts {d i j k : Int} (h : 0 < k) : sg d (pI i j k) (pJ i j k) = sg d i j := by
  have g := gs_ne (i := i) (j := j) (k := k) (by omega)
  have gp : 0 < gs i j k := by
    have := gc_pos (i := i) (j := j) (k := k) (by omega)
    unfold gs
    rw [if_neg (by omega)]
    exact this
  have e := sg_mul (d := d) (i := pI i j k) (j := pJ i j k) gp
  rw [← pI_eq (by omega), ← pJ_eq (by omega)] at e
  exact e.symm
end RF

namespace RF
open PySem L2 PyProof.Rows
/-! ### what a surd looks like -/
theorem kRP : ¬ (("_root" : Str) = "_parts") := by decide +kernel
def sfl (d : Int) (t : Addr) : List (Str × V) := putF "_parts" (.ref t) (putF "_root" (.int d) [])
theorem sfl_root (d : Int) (t : Addr) : (sfl d t).lookup ("_root" : Str) = some (.int d) := by
  unfold sfl
  rw [lookup_putF, if_neg kRP, lookup_putF, if_pos rfl]
theorem sfl_parts (d : Int) (t : Addr) : (sfl d t).lookup ("_parts" : Str) = some (.ref t) := by
  unfold sfl
  rw [lookup_putF, if_pos rfl]
theorem sfl_no (d : Int) (t : Addr) {m : Str} (h1 : ¬ m = "_parts") (h2 : ¬ m = "_root") : (sfl d t).lookup m = none := by
  unfold sfl
  rw [lookup_putF, if_neg h1, lookup_putF, if_neg h2]
  all_goals rfl
/-- at p: the surd of the root d with the parts i, j, k -/
def SurdAt (H : Hp) (C p : Addr) (d i j k : Int) : Prop := ∃ dx t, H p = some (.ins C dx (sfl d t)) ∧ H t = some (.tup [.int i, .int j, .int k])
theorem SurdAt.same {H H' : Hp} {C p : Addr} {d i j k : Int} (s : Same H H') (h : SurdAt H C p d i j k) : SurdAt H' C p d i j k := by
  obtain ⟨dx, t, h1, h2⟩ := h
  exact ⟨dx, t, s _ _ h1, s _ _ h2⟩
/-- below two to the n -/
def Bd (n : Nat) (i : Int) : Prop := i.natAbs < 2 ^ n
theorem Bd.mono {n m : Nat} {i : Int} (h : Bd n i) (hn : n ≤ m) : Bd m i := Nat.lt_of_lt_of_le h (Nat.pow_le_pow_right (by decide) hn)
theorem Bd.mul {n m : Nat} {i j : Int} (a : Bd n i) (b : Bd m j) : Bd (n + m) (i * j) := wide_lt a b
theorem Bd.add {n : Nat} {i j : Int} (a : Bd n i) (b : Bd n j) : Bd (n + 1) (i + j) := by
  unfold Bd at *
  rw [Nat.pow_succ]
  omega
theorem Bd.neg {n : Nat} {i : Int} (a : Bd n i) : Bd n (-i) := by
  unfold Bd at *
  omega
theorem Bd.le {n : Nat} {i j : Int} (a : Bd n i) (h : j.natAbs ≤ i.natAbs) : Bd n j := Nat.lt_of_le_of_lt h a
theorem Bd.ab {n : Nat} {i : Int} (a : Bd n i) : Bd n (if i < 0 then -i else i) := by
  unfold Bd at *
  split <;> omega
theorem Bd.log {n : Nat} {i : Int} (a : Bd n i) (h : 0 < n) : i.natAbs.log2 < n := PySem.Flt.log2_lt_of h a
theorem mulOk {n m : Nat} {i j : Int} (a : Bd n i) (b : Bd m j) (h0 : 0 < n) (h1 : 0 < m) (h : n + m ≤ 1000000) : CMulW i j := wide_mul a b h0 h1 h
theorem rootBd {d : Int} (h : Root d) : Bd 4 d := by
  unfold Bd
  unfold Root at h
  omega
/-- // by any great divisor but 0 -/
def CDivNW (_ j : Int) : Prop := j ≠ 0 ∧ j.natAbs.log2 < 9000
theorem op_fdivNW {X : Cx} : OpR X (binaryOp .FloorDiv) (rI CDivNW fun i j => .int (i.fdiv j)) := opI fun _ _ _ _ _ _ _ hc q => floordiv_int hc.1 q (.inl (PyProof.noPylong_of_log2 hc.2))

/-! ### a written dict with int keys -/
def okE : List DictEntry → List Int → Bool
  | [], [] => true
  | e :: es, k :: ks => (match e.key with | .int i _ => i == k | _ => false) && e.hash == hashInt k && okE es ks
  | _, _ => false
structure IntKeys (K : PySem.W.Frag) (d : Addr) (ks : List Int) : Prop where
  low : (d == sysModules) = false
  ex : ∃ es n, K.lookup d = some ⟨.type "dict", none, .dict es n, #[]⟩ ∧ okE es.toList ks = true
theorem okE_mem : ∀ {es : List DictEntry} {ks : List Int}, okE es ks = true → ∀ e ∈ es, ∃ k t, k ∈ ks ∧ e.key = .int k t ∧ e.hash = hashInt k
  | [], _, _, e, he => by cases he
  | c :: es, [], h, e, he => by simp [okE] at h
  | c :: es, k :: ks, h, e, he => by
    unfold okE at h
    simp only [Bool.and_eq_true, beq_iff_eq] at h
    obtain ⟨⟨h1, h2⟩, h3⟩ := h
    rcases List.mem_cons.mp he with rfl | he
    · split at h1
      · rename_i i t q
        exact ⟨k, t, List.mem_cons_self, by rw [q, beq_iff_eq.mp h1], h2⟩
      · cases h1
    · obtain ⟨k', t, a, b, c⟩ := okE_mem h3 e he
      exact ⟨k', t, List.mem_cons_of_mem _ a, b, c⟩
theorem okE_find : ∀ {es : List DictEntry} {ks : List Int} (i : Int), okE es ks = true → (es.find? fun e => Value.isInt i e.key).isSome = decide (i ∈ ks)
  | [], [], i, _ => by simp
  | [], k :: ks, i, h => by simp [okE] at h
  | c :: es, [], i, h => by simp [okE] at h
  | c :: es, k :: ks, i, h => by
    unfold okE at h
    simp only [Bool.and_eq_true, beq_iff_eq] at h
    obtain ⟨⟨h1, h2⟩, h3⟩ := h
    have ih := okE_find i h3
    split at h1
    · rename_i j t q
      have e : j = k := beq_iff_eq.mp h1
      rw [List.find?_cons]
      by_cases z : i = k
      · have : Value.isInt i c.key = true := by rw [q, e, z]; simp [Value.isInt]
        rw [this]
        simp [z]
      · have : Value.isInt i c.key = false := by
          rw [q, e]
          simp only [Value.isInt]
          exact beq_eq_false_iff_ne.mpr (fun w => z w.symm) |> fun h => by first | exact h | (rw [beq_eq_false_iff_ne]; exact z) | simpa using z
        rw [this]
        simp [ih, z]
    · cases h1
theorem op_in_intd {X : Cx} : OpR X (compareOp .In) (fun x y H Q => ∃ i d ks, x = .int i ∧ y = .ref d ∧ IntKeys X.K d ks ∧ Q (.bl (decide (i ∈ ks))) H) := by
  intro pins s σ H x y v u Q I rx ry h
  obtain ⟨i, d, ks, rfl, rfl, ⟨low, es, n, hl, he⟩, q⟩ := h
  obtain ⟨t, rfl⟩ := rx
  cases ry
  have hm : s.heap.MapOf (intKind X.prog X.w) d (fun k => findBy Value.isInt es k) := ⟨_, es, n, I.kIn _ _ hl, ⟨rfl, rfl, rfl⟩, rfl, fun e hh => by
    obtain ⟨k, t, _, e1, e2⟩ := okE_mem he e (Array.mem_toList_iff.mpr hh)
    exact ⟨k, by rw [e1]; show Value.isInt k (.int k t) = true; simp [Value.isInt], e2⟩, fun _ => rfl⟩
  refine wpAny_in_of (knd := intKind X.prog X.w) (k := i) (by show Value.isInt i (.int i t) = true; simp [Value.isInt]) low hm ?_
  have e : (findBy Value.isInt es i).isSome = decide (i ∈ ks) := by
    unfold findBy
    rw [Option.isSome_map, ← okE_find i he, ← List.find?_toArray]
  rw [e]
  exact ⟨.bl _, H, I.tok _, rfl, q⟩
end RF

namespace RF
open PySem L2
def top (i : Nat) : Stmt := PySem.Challenge.pw_rootfloor_k08_floors_of_slopes.main.body.getD i (.Pass ⟨0, 0, 0, 0⟩)
abbrev sBag : Stmt := top 33
abbrev sPull : Stmt := top 34
structure TB (mg : Str → Option Value) : Prop where
  list : mg "list" = none
  len : mg "len" = none
  abs : mg "abs" = none
  int : mg "int" = none
section
variable {P : Program} {w : World} {K : PySem.W.Frag} {mg : Str → Option Value} {base : Heap}
theorem scBag : FnScope ["_law_script"] ["_law_script"] (defScope sBag) := ⟨rfl, rfl, rfl, by decide +kernel, rfl, by decide +kernel, by decide +kernel⟩
theorem ok_bag {f : Addr} {fd : FuncData} (F : Fun K "_law_bag" "_law_bag" sBag f fd) (T : TB mg) : FnOk P w K mg base CX0 1 f fd ["_law_script"] (spBag K) := by
  refine F.ok scBag (fun vs H Q E h => ?_) (fun cdv A outer s H vs Q E hr h => ?_)
  · obtain ⟨a, ns, rfl, _⟩ := h
    rfl
  · obtain ⟨a, ns, rfl, hS, hl, k⟩ := h
    refine ⟨_, pss_one (ps_ret (pe_lst (pa_cons (pe_callTy call_list_of (by rfl) T.list (by decide +kernel) (pa_cons (pe_slice sl_list (pv 0) po_none (po_some pe_int)) pa_nil)) (pa_cons pe_int (pa_cons pe_int (pa_cons pe_int pa_nil)))))), ?_⟩
    refine ⟨_, rfl, _, rfl, a, _, rfl, hS, fun p hp => ⟨p, _, rfl, .inl (SqL.of upd_same), fun l hl2 => ⟨by show 4 ≤ sizeLine; decide, fun q hq => ?_⟩⟩⟩
    obtain ⟨ms, e⟩ : ∃ ms : List Int, cutV (ns.map V.int) none (some 63) = ms.map V.int := ⟨_, by unfold cutV; rw [← List.map_drop, ← List.map_take]⟩
    have sm := sNew (o := .lst [.ref l, .int 0, .int 0, .int 3842]) (sNew (o := .lst (cutV (ns.map V.int) none (some 63))) (sNew (o := .lst (cutV (ns.map V.int) none (some 63))) (Same.refl H) hp) hl2) hq
    refine k q _ (of_new (of_new hq)) ⟨l, ms, 0, 0, 3842, ne_new hq, upd_same, ?_, Nat.zero_le _, Int.le_refl _, by decide, by decide⟩ sm
    rw [upd_ne (Ne.symm (ne_new hq)), upd_same, e]
abbrev nPull : List Str := ["_law_bag_here", "_law_sides", "_law_cell", "_law_digit", "_law_twice"]
theorem scPull : FnScope nPull ["_law_bag_here", "_law_sides"] (defScope sPull) := ⟨rfl, rfl, rfl, by decide +kernel, rfl, by decide +kernel, by decide +kernel⟩
theorem ok_pull {f : Addr} {fd : FuncData} (F : Fun K "_law_pull" "_law_pull" sPull f fd) (T : TB mg) : FnOk P w K mg base CX0 1 f fd ["_law_bag_here", "_law_sides"] spPull := by
  refine F.ok scPull (fun vs H Q E h => ?_) (fun cdv A outer s H vs Q E hr h => ?_)
  · obtain ⟨b, k, rfl, _⟩ := h
    rfl
  · obtain ⟨b, m, rfl, ⟨c, ns, i, z, r, B⟩, m0, m1, k⟩ := h
    have nd := scPull.nd
    -- the second half, from any bag
    refine ⟨_, C8.pss_cut (ps_if (pw_and (pt_cmpR op_eq (pe_ix ix_list (pv 0) pe_int (fun _ _ => rfl)) pe_int (nomark _)) (pw_and1 (pt_cmpR op_lt (pe_ix ix_list (pv 0) pe_int (fun _ _ => rfl)) (pe_callB call_len_seq (by rfl) T.len PySem.boot_len (pa_cons (pe_ix ix_list (pv 0) pe_int (fun _ _ => rfl)) pa_nil)) (nomark _)))).pt
        (pss_cons (ps_set (i := 2) nd rfl (Or.inl rfl) (pe_ix ix_list (pe_ix ix_list (pv 0) pe_int (fun _ _ => rfl)) (pe_ix ix_list (pv 0) pe_int (fun _ _ => rfl)) (fun _ _ => rfl)))
        (pss_cons (ps_asg (pe_op op_add (pe_ix ix_list (pv 0) pe_int (fun _ _ => rfl)) pe_int) (pg_sub (pv 0) pe_int set_list))
        (pss_one (ps_if (pt_cmpR op_ge (pe_callB call_abs (by rfl) T.abs (by decide +kernel) (pa_cons (pv 2) pa_nil)) (pe_op op_pow pe_int pe_int) (nomark _))
          (pss_one (ps_asg (pe_callB call_abs (by rfl) T.abs (by decide +kernel) (pa_cons (pv 2) pa_nil)) (pg_sub (pv 0) pe_int set_list)))
          (pss_one (ps_asg (pe_op op_mod (pe_callTy call_int1 (by rfl) T.int (by decide +kernel) (pa_cons (pe_op op_add (pe_op op_add (pe_op op_mul (pe_ix ix_list (pv 0) pe_int (fun _ _ => rfl)) pe_int) (pe_op op_mul (pe_op op_mod (pe_callTy call_int1 (by rfl) T.int (by decide +kernel) (pa_cons (pv 2) pa_nil)) pe_int) pe_int)) pe_int) pa_nil)) pe_int) (pg_sub (pv 0) pe_int set_list)))))))
        pss_nil)
      (C8.pss_cut (ps_if (pt_cmpR op_gt (pe_ix ix_list (pv 0) pe_int (fun _ _ => rfl)) pe_int (nomark _))
        (pss_cons (ps_set (i := 3) nd rfl (Or.inl rfl) (pe_op op_mod (pe_callTy call_int1 (by rfl) T.int (by decide +kernel) (pa_cons (pe_ix ix_list (pv 0) pe_int (fun _ _ => rfl)) pa_nil)) (pv 1)))
        (pss_cons (ps_asg (pe_op op_fdiv (pe_ix ix_list (pv 0) pe_int (fun _ _ => rfl)) (pv 1)) (pg_sub (pv 0) pe_int set_list))
        (pss_one (ps_ret (pv 3)))))
        pss_nil)
      (pss_cons (ps_set (i := 4) nd rfl (Or.inl rfl) (pe_op op_mod (pe_callTy call_int1 (by rfl) T.int (by decide +kernel) (pa_cons (pe_op op_mul (pe_ix ix_list (pv 0) pe_int (fun _ _ => rfl)) (pe_ix ix_list (pv 0) pe_int (fun _ _ => rfl))) pa_nil)) pe_int))
      (pss_cons (ps_asg (pe_op op_mod (pe_callTy call_int1 (by rfl) T.int (by decide +kernel) (pa_cons (pe_op op_add (pe_op op_add (pe_op op_mul (pv 4) pe_int) (pe_op op_mul (pe_ix ix_list (pv 0) pe_int (fun _ _ => rfl)) pe_int)) pe_int) pa_nil)) pe_int) (pg_sub (pv 0) pe_int set_list))
      (pss_one (ps_ret (pe_op op_mod (pe_callTy call_int1 (by rfl) T.int (by decide +kernel) (pa_cons (pe_op op_fdiv (pe_ix ix_list (pv 0) pe_int (fun _ _ => rfl)) pe_int) pa_nil)) (pv 1))))))), ?_⟩
    have hc : ∀ {H' : Hp} {i : Nat} {z r : Int}, BagC H' b c ns i z r → H' c = some (.lst (ns.map V.int)) := fun B => B.cs
    -- what follows the first if, from any bag
    refine ⟨fun σ' H' => ∃ v i z r, σ' = [some (.ref b), some (.int m), v, none, none] ∧ BagC H' b c ns i z r ∧ Kp b H H', ?_, ?_⟩
    · refine ⟨_, rfl, b, _, _, _, rfl, rfl, SqL.of B.at_, rfl, rfl, _, rfl, ?_⟩
      refine ite2 (fun ez => ?_) (fun _ => ?_)
      · refine ⟨_, rfl, b, _, _, _, rfl, rfl, SqL.of B.at_, rfl, _, rfl, b, _, _, _, rfl, rfl, SqL.of B.at_, rfl, c, _, rfl, .inl (SqL.of B.cs), _, _, rfl, rfl, _, rfl, ?_⟩
        refine ite2 (fun hl => ?_) (fun _ => ⟨_, _, _, _, rfl, B, Kp.refl _ _⟩)
        have hl' : i < ns.length := by
          have := of_decide_eq_true hl
          rw [List.length_map] at this
          omega
        obtain ⟨n, hn⟩ : ∃ n, ns[i]? = some n := ⟨_, List.getElem?_eq_getElem hl'⟩
        have hat : atI (ns.map V.int) (i : Int) = some (V.int n) := atI_nat (by rw [List.getElem?_map, hn]; rfl)
        refine ⟨_, rfl, b, _, _, _, rfl, rfl, SqL.of B.at_, rfl, _, rfl, b, _, _, _, rfl, rfl, SqL.of B.at_, rfl, c, _, _, _, rfl, rfl, SqL.of B.cs, hat, ?_⟩
        refine ⟨_, rfl, b, _, _, _, rfl, rfl, SqL.of B.at_, rfl, _, _, rfl, rfl, _, rfl, b, _, _, _, rfl, rfl, B.at_, rfl, ?_⟩
        have B1 := B.put (i' := i + 1) (z' := z) (r' := r) (o := .lst [.ref c, .int ((i : Int) + 1), .int z, .int r]) (by rw [Int.natCast_add]; rfl) hl' B.z0 B.r0 B.r1
        have k1 : Kp b H (upd H b (.lst [.ref c, .int ((i : Int) + 1), .int z, .int r])) := Kp.upd
        refine ⟨_, rfl, _, rfl, _, _, rfl, rfl, ⟨by decide, by decide, by decide⟩, _, _, rfl, rfl, _, rfl, ?_⟩
        refine ite2 (fun _ => ?_) (fun _ => ?_)
        · refine ⟨_, rfl, _, rfl, _, rfl, b, _, _, _, rfl, rfl, upd_same, rfl, ?_⟩
          exact ⟨_, _, _, _, rfl, B1.put rfl B1.le (by split <;> omega) B1.r0 B1.r1, k1.trans Kp.upd⟩
        · refine ⟨_, rfl, b, _, _, _, rfl, rfl, SqL.of B1.at_, rfl, _, _, rfl, rfl, .inr (by decide), _, rfl, .inl ⟨_, rfl, _, _, rfl, rfl, (by show (0 : Int) < 1000003; decide), _, _, rfl, rfl, .inr (by decide), _, _, rfl, rfl, _, _, rfl, rfl, .inl ⟨_, rfl, _, _, rfl, rfl, (by show (0 : Int) < 2147483647; decide), _, rfl, b, _, _, _, rfl, rfl, upd_same, rfl, ?_⟩⟩⟩
          exact ⟨_, _, _, _, rfl, B1.put rfl B1.le B1.z0 (emod_lo _ (by decide)) (emod_hi _ (by decide)), k1.trans Kp.upd⟩
      · exact ⟨_, _, _, _, rfl, B, Kp.refl _ _⟩
    · rintro σ' H1 ⟨v, i, z, r, rfl, B, kp⟩
      -- if bag[2] > 0
      refine ⟨fun σ' H' => σ' = [some (.ref b), some (.int m), v, none, none] ∧ H' = H1, ?_, ?_⟩
      · refine ⟨_, rfl, b, _, _, _, rfl, rfl, SqL.of B.at_, rfl, _, _, rfl, rfl, _, rfl, ?_⟩
        refine ite2 (fun hz => ?_) (fun _ => ⟨rfl, rfl⟩)
        refine ⟨_, rfl, b, _, _, _, rfl, rfl, SqL.of B.at_, rfl, .inl ⟨_, rfl, _, rfl, _, _, rfl, rfl, m0, ?_⟩⟩
        refine ⟨_, rfl, b, _, _, _, rfl, rfl, SqL.of B.at_, rfl, _, rfl, _, _, rfl, rfl, ⟨m0, m1⟩, _, rfl, b, _, _, _, rfl, rfl, B.at_, rfl, ?_⟩
        refine ⟨_, rfl, ?_⟩
        exact k _ _ (emod_lo _ m0) (emod_hi _ m0) ⟨c, ns, _, _, _, B.put rfl B.le (Int.ediv_nonneg B.z0 (Int.le_of_lt m0)) B.r0 B.r1⟩ (kp.trans Kp.upd)
      · rintro σ' H2 ⟨rfl, rfl⟩
        refine ⟨_, rfl, b, _, _, _, rfl, rfl, SqL.of B.at_, rfl, _, rfl, b, _, _, _, rfl, rfl, SqL.of B.at_, rfl, _, _, rfl, rfl, .inl ⟨by have := B.r0; omega, by have := B.r1; omega⟩, .inl ⟨_, rfl, _, _, rfl, rfl, (by show (0 : Int) < 2147483629; decide), ?_⟩⟩
        refine ⟨_, rfl, _, _, rfl, rfl, .inr (by decide), _, rfl, b, _, _, _, rfl, rfl, SqL.of B.at_, rfl, _, _, rfl, rfl, .inr (by decide), _, _, rfl, rfl, _, _, rfl, rfl, .inl ⟨_, rfl, _, _, rfl, rfl, (by show (0 : Int) < 2147483647; decide), _, rfl, b, _, _, _, rfl, rfl, B.at_, rfl, ?_⟩⟩
        refine ⟨_, rfl, b, _, _, _, rfl, rfl, SqL.of upd_same, rfl, _, _, rfl, rfl, ⟨by decide, by decide⟩, .inl ⟨_, rfl, _, rfl, _, _, rfl, rfl, m0, ?_⟩⟩
        exact k _ _ (emod_lo _ m0) (emod_hi _ m0) ⟨c, ns, _, _, _, B.put rfl B.le B.z0 (emod_lo _ (by decide)) (emod_hi _ (by decide))⟩ (kp.trans Kp.upd)
end
end RF

namespace RF
open PySem L2 PyProof.Rows
def whole : D → Bool
  | .int _ => true
  | _ => false
def btw (d : D) (lo hi : Int) : Bool := match d with
  | .int i => decide (lo ≤ i) && decide (i ≤ hi)
  | _ => false
def rootD : D → Bool
  | .int i => decide (i ∈ [2, 3, 5, 6, 13])
  | _ => false
def spWhole (K : PySem.W.Frag) : Sp := fun vs H Q _ => ∃ (v : V) (d : D), vs = [v] ∧ Rp K H v d ∧ Q (.bl (whole d)) H
def spBtw (K : PySem.W.Frag) : Sp := fun vs H Q _ => ∃ (v : V) (d : D) (lo hi : Int), vs = [v, .int lo, .int hi] ∧ Rp K H v d ∧ Q (.bl (btw d lo hi)) H
def spIsRoot (K : PySem.W.Frag) : Sp := fun vs H Q _ => ∃ (v : V) (d : D), vs = [v] ∧ Rp K H v d ∧ Q (.bl (rootD d)) H
section
variable {P : Program} {w : World} {K : PySem.W.Frag} {mg : Str → Option Value} {base : Heap}
abbrev s_is_whole : Stmt := top 13
abbrev n_is_whole : List Str := ["value"]
theorem sc_is_whole : FnScope n_is_whole ["value"] (defScope s_is_whole) := ⟨rfl, rfl, rfl, by decide +kernel, rfl, by decide +kernel, by decide +kernel⟩
theorem ok_whole {f : Addr} {fd : FuncData} {k : Nat} (F : Fun K "is_whole" "is_whole" s_is_whole f fd) (T1 : mg "isinstance" = none) (T2 : mg "int" = none) (T3 : mg "bool" = none) : FnOk P w K mg base CX0 (k + 1) f fd ["value"] (spWhole K) := by
  refine F.ok sc_is_whole (fun vs H Q E h => ?_) (fun cdv A outer s H vs Q E hr h => ?_)
  · obtain ⟨v, d, rfl, _⟩ := h
    rfl
  · obtain ⟨v, d, rfl, hv, q⟩ := h
    refine ⟨_, (pss_one (ps_ret (pe_and (pe_callB call_isi (by rfl) T1 (by decide +kernel) (pa_cons (pv 0) (pa_cons (pe_bltn (v := .ty "int") (by rfl) T2 (by decide +kernel) rfl) pa_nil))) (pe_one (pe_not (pe_callB call_isi (by rfl) T1 (by decide +kernel) (pa_cons (pv 0) (pa_cons (pe_bltn (v := .ty "bool") (by rfl) T3 (by decide +kernel) rfl) pa_nil)))))))), ?_⟩
    refine ⟨_, rfl, _, _, _, _, _, rfl, .ty _, tyX _ hv, kit_ty (kit_int _), _, rfl, ?_⟩
    by_cases hi : isInt d = true
    · refine iteP hi ⟨_, rfl, _, _, _, _, _, rfl, .ty _, tyX _ hv, kit_ty (kit_bool _), _, rfl, ?_⟩
      have e : (!isBool d) = whole d := by cases d <;> first | rfl | cases hi
      rw [e]
      exact q
    · refine iteN hi ?_
      have e : whole d = false := by cases d <;> first | rfl | exact absurd rfl hi
      rw [e] at q
      exact q
abbrev s_is_between : Stmt := top 14
abbrev n_is_between : List Str := ["value", "low", "high"]
theorem sc_is_between : FnScope n_is_between ["value", "low", "high"] (defScope s_is_between) := ⟨rfl, rfl, rfl, by decide +kernel, rfl, by decide +kernel, by decide +kernel⟩
theorem ok_btw {f : Addr} {fd : FuncData} {k : Nat} (F : Fun K "is_between" "is_between" s_is_between f fd) (D1 : Df P w K mg base k "is_whole" ["value"] (spWhole K)) : FnOk P w K mg base CX0 (k + 1) f fd ["value", "low", "high"] (spBtw K) := by
  refine F.ok sc_is_between (fun vs H Q E h => ?_) (fun cdv A outer s H vs Q E hr h => ?_)
  · obtain ⟨v, d, lo, hi, rfl, _⟩ := h
    rfl
  · obtain ⟨v, d, lo, hi, rfl, hv, q⟩ := h
    refine ⟨_, (pss_one (ps_ret (pe_and (pe_callD D1 hr (Nat.le_refl _) (pa_cons (pv 0) pa_nil)) (pe_one (pe_chain op_le op_le (pv 1) (pv 0) (pv 2)))))), ?_⟩
    refine ⟨_, rfl, v, d, rfl, hv, _, rfl, ?_⟩
    by_cases hi' : whole d = true
    · refine iteP hi' ?_
      cases d with
      | int i =>
        obtain rfl : v = .int i := hv
        refine ⟨_, rfl, _, rfl, _, _, rfl, rfl, _, rfl, ?_⟩
        by_cases h1 : lo ≤ i
        · refine iteP (decide_eq_true h1) ⟨_, rfl, _, _, rfl, rfl, ?_⟩
          have e : btw (.int i) lo hi = decide (i ≤ hi) := by show (decide (lo ≤ i) && decide (i ≤ hi)) = _; rw [decide_eq_true h1]; rfl
          rw [e] at q
          exact q
        · refine iteN (nd_of h1) ?_
          have e : btw (.int i) lo hi = false := by show (decide (lo ≤ i) && decide (i ≤ hi)) = _; rw [decide_eq_false h1]; rfl
          rw [e] at q
          exact q
      | _ => cases hi'
    · refine iteN hi' ?_
      have e : btw d lo hi = false := by cases d <;> first | rfl | exact absurd rfl hi'
      rw [e] at q
      exact q
abbrev s_is_root : Stmt := top 16
abbrev n_is_root : List Str := ["value"]
theorem sc_is_root : FnScope n_is_root ["value"] (defScope s_is_root) := ⟨rfl, rfl, rfl, by decide +kernel, rfl, by decide +kernel, by decide +kernel⟩
theorem ok_isroot {f : Addr} {fd : FuncData} {k : Nat} {pd : Addr} (F : Fun K "is_root" "is_root" s_is_root f fd) (D1 : Df P w K mg base k "is_whole" ["value"] (spWhole K)) (mP : mg "PERIODS" = some (.ref pd)) (kP : IntKeys K pd [2, 3, 5, 6, 13]) :
    FnOk P w K mg base CX0 (k + 1) f fd ["value"] (spIsRoot K) := by
  refine F.ok sc_is_root (fun vs H Q E h => ?_) (fun cdv A outer s H vs Q E hr h => ?_)
  · obtain ⟨v, d, rfl, _⟩ := h
    rfl
  · obtain ⟨v, d, rfl, hv, q⟩ := h
    refine ⟨_, (pss_one (ps_ret (pe_and (pe_callD D1 hr (Nat.le_refl _) (pa_cons (pv 0) pa_nil)) (pe_one (pe_cmpR op_in_intd (pv 0) (pe_glob (v := .ref pd) (by rfl) mP rfl) rfl))))), ?_⟩
    refine ⟨_, rfl, v, d, rfl, hv, _, rfl, ?_⟩
    by_cases hi' : whole d = true
    · refine iteP hi' ?_
      cases d with
      | int i =>
        obtain rfl : v = .int i := hv
        exact ⟨_, rfl, _, _, _, rfl, rfl, kP, q⟩
      | _ => cases hi'
    · refine iteN hi' ?_
      have e : rootD d = false := by cases d <;> first | rfl | exact absurd rfl hi'
      rw [e] at q
      exact q
end
end RF

namespace RF
open PySem L2 PyProof.Rows
/-- what is known of the class -/
structure TxS (K : PySem.W.Frag) (mg : Str → Option Value) (C : Addr) : Prop where
  cl : Cls K C
  nR : NoAttr K C "_root"
  nP : NoAttr K C "_parts"
  mg : mg "Surd" = some (.ref C)
def spSInit (C : Addr) : Sp := fun vs H Q _ => ∃ (p dx : Addr) (d i j k : Int), vs = [.ref p, .int d, .int i, .int j, .int k] ∧ H p = some (.ins C dx []) ∧ Root d ∧ k ≠ 0 ∧ Bd 1000 i ∧ Bd 1000 j ∧ Bd 1000 k ∧
  ∀ H', SurdAt H' C p d (pI i j k) (pJ i j k) (pK i j k) → (∀ b o, H b = some o → b ≠ p → H' b = some o) → Q .non H'
section
variable {P : Program} {w : World} {K : PySem.W.Frag} {mg : Str → Option Value} {base : Heap}
abbrev sS (i : Nat) : Stmt := inClass (top 23) i
abbrev n_SInit : List Str := ["self", "root", "i", "j", "k", "divisor"]
theorem sc_SInit : FnScope n_SInit ["self", "root", "i", "j", "k"] (defScope (sS 0)) := ⟨rfl, rfl, rfl, by decide +kernel, rfl, by decide +kernel, by decide +kernel⟩
theorem ok_SInit {f C : Addr} {fd : FuncData} {k : Nat} {dvs : List V} {kws : List (Str × V)} (F : FunD K "__init__" "Surd.__init__" (defArgs (sS 0)) (defBody (sS 0)) (defScope (sS 0)) dvs kws f fd) (T : TxS K mg C) (mG : mg "gcd" = some (.builtin "math.gcd"))
    (D1 : Df P w K mg base k "is_root" ["value"] (spIsRoot K)) : FnOk P w K mg base CX0 (k + 1) f fd ["self", "root", "i", "j", "k"] (spSInit C) := by
  refine F.ok sc_SInit (fun vs H Q E h => ?_) (fun cdv A outer s H vs Q E hr h => ?_)
  · obtain ⟨p, dx, d, i, j, k, rfl, _⟩ := h
    rfl
  · obtain ⟨p, dx, d, i, j, m, rfl, hp, hd, m0, bi, bj, bm, q⟩ := h
    have nd := sc_SInit.nd
    refine ⟨_, PSs.nox (pss_cons (ps_if (pt_not (pt_val (pe_callD D1 hr (Nat.le_refl _) (pa_cons (pv 1) pa_nil))))
      (pss_one ps_never)
      pss_nil)
      (pss_cons (ps_if (pt_cmpR op_eq (pv 4) pe_int (nomark _))
      (pss_one ps_never)
      pss_nil)
      (pss_cons (ps_set (i := 5) nd rfl (Or.inl rfl) (pe_callBfun cr_gcd3 (by rfl) mG (pa_cons (pv 2) (pa_cons (pv 3) (pa_cons (pv 4) pa_nil)))))
      (C8.pss_cut (ps_if (pt_cmpR op_lt (pv 4) pe_int (nomark _))
      (pss_one (ps_set (i := 5) nd rfl (Or.inl rfl) (pe_un un_neg (pv 5))))
      pss_nil)
      (pss_cons (ps_fld (pv 0) (pv 1) rfl)
      (pss_one (ps_fld (pv 0) (pe_tup (pa_cons (pe_op op_fdivNW (pv 2) (pv 5)) (pa_cons (pe_op op_fdivNW (pv 3) (pv 5)) (pa_cons (pe_op op_fdivNW (pv 4) (pv 5)) pa_nil)))) rfl))))))), ?_⟩
    have er : rootD (.int d) = true := decide_eq_true (by unfold Root at hd; simp; omega)
    refine ⟨_, rfl, _, .int d, rfl, rfl, _, rfl, ?_⟩
    rw [er]
    refine iteF ?_
    refine ⟨_, rfl, rfl, _, rfl, iteN (nd_of (fun z => m0 (by cases z; rfl))) ?_⟩
    refine ⟨_, rfl, _, rfl, _, rfl, _, _, _, rfl, ?_⟩
    refine ⟨fun σ' H' => σ' = [some (.ref p), some (.int d), some (.int i), some (.int j), some (.int m), some (.int (gs i j m))] ∧ H' = H, ?_, ?_⟩
    · refine ⟨_, rfl, _, _, rfl, rfl, _, rfl, ite2 (fun h => ?_) (fun h => ?_)⟩
      · refine ⟨_, rfl, _, rfl, ?_⟩
        have hm : m < 0 := of_decide_eq_true h
        refine ⟨?_, rfl⟩
        unfold gs
        rw [if_pos hm]
        rfl
      · have hm : ¬ m < 0 := fun z => h (decide_eq_true z)
        refine ⟨?_, rfl⟩
        unfold gs
        rw [if_neg hm]
        rfl
    · rintro σ' H1 ⟨rfl, rfl⟩
      have gn := gs_ne (i := i) (j := j) m0
      have gb : (gs i j m).natAbs.log2 < 9000 := Nat.lt_of_lt_of_le ((bm.le (gs_natAbs (i := i) (j := j) m0)).log (by decide)) (by decide)
      refine ⟨_, rfl, _, rfl, p, C, dx, [], rfl, hp, T.cl, T.nR, (by show 0 < 1000; decide), ?_⟩
      refine ⟨_, rfl, _, rfl, _, _, rfl, rfl, ⟨gn, gb⟩, _, rfl, _, rfl, _, _, rfl, rfl, ⟨gn, gb⟩, _, rfl, _, rfl, _, _, rfl, rfl, ⟨gn, gb⟩, (by show 3 ≤ sizeLine; decide), fun t ht => ?_⟩
      have npt : p ≠ t := (ne_new ht).symm
      refine ⟨_, rfl, p, C, dx, _, rfl, by rw [upd_ne npt, upd_same], T.cl, T.nP, (Nat.lt_of_le_of_lt (length_putF _ _ _) (by decide)), ?_⟩
      refine q _ ⟨dx, t, upd_same, ?_⟩ fun b o e nb => ?_
      · rw [upd_ne npt.symm, upd_same]; rfl
      · have e1 : upd H1 p (.ins C dx (putF "_root" (.int d) [])) b = some o := by rw [upd_ne nb]; exact e
        rw [upd_ne nb, upd_ne (ne_of_none e1 ht), upd_ne nb]
        exact e
end
end RF

namespace RF
open PySem L2 PyProof.Rows
/-- at p: the surd (i + j r) / k of the root d, in lowest terms -/
def SV (H : Hp) (C p : Addr) (d i j k : Int) : Prop := k ≠ 0 ∧ SurdAt H C p d (pI i j k) (pJ i j k) (pK i j k)
theorem SV.same {H H' : Hp} {C p : Addr} {d i j k : Int} (s : Same H H') (h : SV H C p d i j k) : SV H' C p d i j k := ⟨h.1, h.2.same s⟩
theorem SV.cong {H : Hp} {C p : Addr} {d i j k i' j' k' : Int} (h : SV H C p d i j k) (hk : k' ≠ 0) (h1 : i * k' = i' * k) (h2 : j * k' = j' * k) : SV H C p d i' j' k' := by
  obtain ⟨e1, e2, e3⟩ := parts_eq h.1 hk h1 h2
  exact ⟨hk, by rw [← e1, ← e2, ← e3]; exact h.2⟩
structure MkS (P : Program) (w : World) (K : PySem.W.Frag) (mg : Str → Option Value) (base : Heap) (C : Addr) (k : Nat) : Prop where
  ex : ∃ (f : Addr) (fd : FuncData), Mk K C f ∧ FnOk P w K mg base CX0 k f fd ["self", "root", "i", "j", "k"] (spSInit C) ∧ KBn K fd ["self", "root", "i", "j", "k"] 4 ["k"] (fun us ws => us ++ ws) (fun vs zs => vs ++ zs) ∧
    (∃ ds, Vals [.int 1] ds ∧ Binds K fd ["self", "root", "i", "j", "k"] ds) ∧ ∃ ds, Vals [.int 0, .int 1] ds ∧ Binds K fd ["self", "root", "i", "j", "k"] ds
def spSign (C : Addr) : Sp := fun vs H Q _ => ∃ (p : Addr) (d i j k : Int), vs = [.ref p] ∧ SV H C p d i j k ∧ 0 < k ∧ Root d ∧ Bd 900 i ∧ Bd 900 j ∧ Q (.int (sg d i j)) H
def flS (d i j k : Int) : Int := (pI i j k + flr d (pJ i j k)) / pK i j k
def spFlS (C : Addr) : Sp := fun vs H Q _ => ∃ (p : Addr) (d i j k : Int), vs = [.ref p] ∧ SV H C p d i j k ∧ Root d ∧ Bd 900 i ∧ Bd 900 j ∧ Bd 900 k ∧ Q (.int (flS d i j k)) H
def spNegS (C : Addr) : Sp := fun vs H Q _ => ∃ (p : Addr) (d i j k : Int), vs = [.ref p] ∧ SV H C p d i j k ∧ Root d ∧ Bd 900 i ∧ Bd 900 j ∧ Bd 900 k ∧
  ∀ (x : Addr) (H' : Hp), H x = none → SV H' C x d (-i) (-j) k → Same H H' → Q (.ref x) H'
def spAddS (C : Addr) : Sp := fun vs H Q _ => ∃ (p q : Addr) (d i j k i2 j2 k2 : Int), vs = [.ref p, .ref q] ∧ SV H C p d i j k ∧ SV H C q d i2 j2 k2 ∧ Root d ∧ Bd 400 i ∧ Bd 400 j ∧ Bd 400 k ∧ Bd 400 i2 ∧ Bd 400 j2 ∧ Bd 400 k2 ∧
  ∀ (x : Addr) (H' : Hp), H x = none → SV H' C x d (i * k2 + i2 * k) (j * k2 + j2 * k) (k * k2) → Same H H' → Q (.ref x) H'
def spSubS (C : Addr) : Sp := fun vs H Q _ => ∃ (p q : Addr) (d i j k i2 j2 k2 : Int), vs = [.ref p, .ref q] ∧ SV H C p d i j k ∧ SV H C q d i2 j2 k2 ∧ Root d ∧ Bd 400 i ∧ Bd 400 j ∧ Bd 400 k ∧ Bd 400 i2 ∧ Bd 400 j2 ∧ Bd 400 k2 ∧
  ∀ (x : Addr) (H' : Hp), H x = none → SV H' C x d (i * k2 - i2 * k) (j * k2 - j2 * k) (k * k2) → Same H H' → Q (.ref x) H'
def spCmpS (C : Addr) : Sp := fun vs H Q _ => ∃ (p q : Addr) (d i j k i2 j2 k2 : Int), vs = [.ref p, .ref q] ∧ SV H C p d i j k ∧ SV H C q d i2 j2 k2 ∧ 0 < k ∧ 0 < k2 ∧ Root d ∧ Bd 400 i ∧ Bd 400 j ∧ Bd 400 k ∧ Bd 400 i2 ∧ Bd 400 j2 ∧ Bd 400 k2 ∧
  ∀ (H' : Hp), Same H H' → Q (.int (sg d (i * k2 - i2 * k) (j * k2 - j2 * k))) H'
section
variable {P : Program} {w : World} {K : PySem.W.Frag} {mg : Str → Option Value} {base : Heap}
end
end RF

namespace RF
open PySem L2 PyProof.Rows
structure IsS (K : PySem.W.Frag) (mg : Str → Option Value) (C : Addr) : Prop where
  ha : PySem.W.findIn K (.ref C) "__class__" = some (some (.builtin "object.__class__"))
  hn : PySem.W.specialIn K (.builtin "object.__class__") "__get__" = some (some (.builtin "getset_descriptor.__get__"))
  htk : PySem.W.takesIn K (.builtin "object.__class__") = some true
  hm : PySem.W.mroIn K C (.type "object") = some true
  mi : mg "isinstance" = none
theorem tyS {K : PySem.W.Frag} {mg : Str → Option Value} {H : Hp} {C p dx : Addr} {fs : List (Str × V)} (J : IsS K mg C) (c : Cls K C) (h : H p = some (.ins C dx fs)) : TyX K H (.ref p) (.ref C) := .base (.ins h c J.ha J.hn J.htk J.hm)
theorem kitSelf {K : PySem.W.Frag} {C : Addr} : PySem.W.kitOne K (.ref C) (.ref C) = some true := by
  unfold PySem.W.kitOne
  rw [if_pos (by simp)]
section
variable {P : Program} {w : World} {K : PySem.W.Frag} {mg : Str → Option Value} {base : Heap}
def spBoolS (C : Addr) : Sp := fun vs H Q _ => ∃ (p : Addr) (d i j k : Int), vs = [.ref p] ∧ SV H C p d i j k ∧ 0 < k ∧ Root d ∧ Bd 900 i ∧ Bd 900 j ∧ Q (.bl (!decide (sg d i j = 0))) H
end
end RF

namespace RF
open PySem L2 PyProof.Rows
def slopeD : D → Bool
  | .tup [a, b, c] => btw a (-9) 9 && (btw b (-3) 3 && btw c 1 4)
  | _ => false
def spIsSlope (K : PySem.W.Frag) : Sp := fun vs H Q _ => ∃ (v : V) (d : D), vs = [v] ∧ Rp K H v d ∧ Q (.bl (slopeD d)) H
def spOfSlope (K : PySem.W.Frag) (C : Addr) : Sp := fun vs H Q _ => ∃ (d i j k : Int) (v : V), vs = [.int d, v] ∧ Root d ∧ Rp K H v (.tup [.int i, .int j, .int k]) ∧ slopeD (.tup [.int i, .int j, .int k]) = true ∧
  ∀ (x : Addr) (H' : Hp), H x = none → SV H' C x d i j k → Same H H' → Q (.ref x) H'
/-- the two surds are one number -/
def EqS (C : Addr) : Addr → Addr → Hp → Prop := fun a b H => ∃ d i j k, SV H C a d i j k ∧ SV H C b d i j k
section
variable {P : Program} {w : World} {K : PySem.W.Frag} {mg : Str → Option Value} {base : Heap}
theorem slope_ne3 {ds : List D} (h : ds.length ≠ 3) : slopeD (.tup ds) = false := by
  match ds, h with
  | [], _ => rfl
  | [_], _ => rfl
  | [_, _], _ => rfl
  | [_, _, _], h => exact absurd rfl h
  | _ :: _ :: _ :: _ :: _, _ => rfl
abbrev s_is_slope : Stmt := top 18
abbrev n_is_slope : List Str := ["value", "i", "j", "k"]
theorem sc_is_slope : FnScope n_is_slope ["value"] (defScope s_is_slope) := ⟨rfl, rfl, rfl, by decide +kernel, rfl, by decide +kernel, by decide +kernel⟩
theorem ok_isslope {f : Addr} {fd : FuncData} {k : Nat} (F : Fun K "is_slope" "is_slope" s_is_slope f fd) (T1 : mg "isinstance" = none) (T2 : mg "tuple" = none) (T3 : mg "len" = none)
    (D1 : Df P w K mg base k "is_between" ["value", "low", "high"] (spBtw K)) : FnOk P w K mg base CX0 (k + 1) f fd ["value"] (spIsSlope K) := by
  refine F.ok sc_is_slope (fun vs H Q E h => ?_) (fun cdv A outer s H vs Q E hr h => ?_)
  · obtain ⟨v, d, rfl, _⟩ := h
    rfl
  · obtain ⟨v, d, rfl, hv, q⟩ := h
    have nd := sc_is_slope.nd
    refine ⟨_, (pss_cons (ps_if (pw_or (pt_not (pt_val (pe_callB call_isi (by rfl) T1 (by decide +kernel) (pa_cons (pv 0) (pa_cons (pe_bltn (v := .ty "tuple") (by rfl) T2 (by decide +kernel) rfl) pa_nil))))) (pw_or1 (pt_cmpR op_ne (pe_callB call_len_seq (by rfl) T3 PySem.boot_len (pa_cons (pv 0) pa_nil)) pe_int (nomark _)))).pt
      (pss_one (ps_ret pe_bl))
      pss_nil)
      (pss_cons (ps_asg (pv 0) (pg_tup rfl (pgs_cons (pg_name (i := 1) nd rfl (Or.inl rfl)) (pgs_cons (pg_name (i := 2) nd rfl (Or.inl rfl)) (pgs_cons (pg_name (i := 3) nd rfl (Or.inl rfl)) pgs_nil)))))
      (pss_one (ps_ret (pe_and (pe_callD D1 hr (Nat.le_refl _) (pa_cons (pv 1) (pa_cons (pe_un un_neg pe_int) (pa_cons pe_int pa_nil)))) (pe_and (pe_callD D1 hr (Nat.le_refl _) (pa_cons (pv 2) (pa_cons (pe_un un_neg pe_int) (pa_cons pe_int pa_nil)))) (pe_one (pe_callD D1 hr (Nat.le_refl _) (pa_cons (pv 3) (pa_cons pe_int (pa_cons pe_int pa_nil))))))))))), ?_⟩
    refine ⟨_, rfl, _, _, _, _, _, rfl, .ty _, tyX _ hv, kit_ty (kit_tuple _), _, rfl, ?_⟩
    cases d with
    | tup ds =>
      obtain ⟨a, xs, rfl, S, hl, rr⟩ := id hv
      have el := rr.len
      refine iteF ⟨_, rfl, a, _, rfl, .inr S, rfl, _, rfl, ?_⟩
      by_cases h3 : ds.length = 3
      · have e3 : V.int (xs.length : Int) = V.int 3 := by rw [el, h3]; rfl
        rw [e3]
        refine iteNS rfl ?_
        match ds, h3 with
        | [d1, d2, d3], _ =>
          obtain ⟨x1, r1, rfl, p1, x2, r2, rfl, p2, x3, r3, rfl, p3, rfl⟩ := rr
          refine ⟨_, rfl, a, _, rfl, S, rfl, _, _, rfl, _, _, rfl, _, _, rfl, rfl, ?_⟩
          refine ⟨_, rfl, _, rfl, x1, d1, _, _, rfl, p1, _, rfl, ?_⟩
          by_cases h1 : btw d1 (-9) 9 = true
          · refine iteP h1 ⟨_, rfl, _, rfl, x2, d2, _, _, rfl, p2, _, rfl, ?_⟩
            by_cases h2 : btw d2 (-3) 3 = true
            · refine iteP h2 ⟨_, rfl, x3, d3, _, _, rfl, p3, ?_⟩
              have e : slopeD (.tup [d1, d2, d3]) = btw d3 1 4 := by show (btw d1 (-9) 9 && (btw d2 (-3) 3 && btw d3 1 4)) = _; rw [h1, h2]; rfl
              rw [e] at q
              exact q
            · refine iteN h2 ?_
              have e : slopeD (.tup [d1, d2, d3]) = false := by show (btw d1 (-9) 9 && (btw d2 (-3) 3 && btw d3 1 4)) = _; rw [Bool.eq_false_iff.mpr h2]; simp
              rw [e] at q
              exact q
          · refine iteN h1 ?_
            have e : slopeD (.tup [d1, d2, d3]) = false := by show (btw d1 (-9) 9 && (btw d2 (-3) 3 && btw d3 1 4)) = _; rw [Bool.eq_false_iff.mpr h1]; rfl
            rw [e] at q
            exact q
      · rw [slope_ne3 h3] at q
        refine iteP ?_ q
        have : ¬ V.int (xs.length : Int) = V.int 3 := fun z => h3 (by
          have := V.int.inj z
          omega)
        rw [decide_eq_false this]; rfl
    | non => exact iteT q
    | bl _ => exact iteT q
    | int _ => exact iteT q
    | str _ => exact iteT q
    | lst _ => exact iteT q
theorem bd9 {i lo hi : Int} (h : btw (.int i) lo hi = true) (h1 : -512 ≤ lo) (h2 : hi ≤ 511) : Bd 10 i := by
  have : (decide (lo ≤ i) && decide (i ≤ hi)) = true := h
  simp only [Bool.and_eq_true, decide_eq_true_eq] at this
  unfold Bd
  omega
abbrev n_OfS : List Str := ["root", "slope", "i", "j", "k"]
theorem sc_OfS : FnScope n_OfS ["root", "slope"] (defScope (sS 1)) := ⟨rfl, rfl, rfl, by decide +kernel, rfl, by decide +kernel, by decide +kernel⟩
theorem ok_OfS {f C : Addr} {fd : FuncData} {k : Nat} (F : Fun K "of_slope" "Surd.of_slope" (sS 1) f fd) (T : TxS K mg C) (D1 : Df P w K mg base (k + 1) "is_root" ["value"] (spIsRoot K)) (D2 : Df P w K mg base (k + 1) "is_slope" ["value"] (spIsSlope K))
    (M : MkS P w K mg base C k) : FnOk P w K mg base CX0 (k + 2) f fd ["root", "slope"] (spOfSlope K C) := by
  refine F.ok sc_OfS (fun vs H Q E h => ?_) (fun cdv A outer s H vs Q E hr h => ?_)
  · obtain ⟨d, i, j, k, v, rfl, _⟩ := h
    rfl
  · obtain ⟨d, i, j, k, v, rfl, hd, hv, hs, q⟩ := h
    have nd := sc_OfS.nd
    obtain ⟨fi, fdi, M1, G, kb, _, _⟩ := M.ex
    refine ⟨_, (pss_cons (ps_if (pt_not (pt_val (pe_callD D1 hr (Nat.le_refl _) (pa_cons (pv 0) pa_nil))))
      (pss_one ps_never)
      pss_nil)
      (pss_cons (ps_if (pt_not (pt_val (pe_callD D2 hr (Nat.le_refl _) (pa_cons (pv 1) pa_nil))))
      (pss_one ps_never)
      pss_nil)
      (pss_cons (ps_asg (pv 1) (pg_tup rfl (pgs_cons (pg_name (i := 2) nd rfl (Or.inl rfl)) (pgs_cons (pg_name (i := 3) nd rfl (Or.inl rfl)) (pgs_cons (pg_name (i := 4) nd rfl (Or.inl rfl)) pgs_nil)))))
      (pss_one (ps_ret (pe_makeK M1 G hr rfl T.mg kb pass0 (pa_cons (pv 0) (pa_cons (pv 2) (pa_cons (pv 3) pa_nil))) (pk_cons (pv 4) pk_nil))))))), ?_⟩
    have er : rootD (.int d) = true := decide_eq_true (by unfold Root at hd; simp; omega)
    have hs' : (btw (.int i) (-9) 9 && (btw (.int j) (-3) 3 && btw (.int k) 1 4)) = true := hs
    simp only [Bool.and_eq_true] at hs'
    obtain ⟨s1, s2, s3⟩ := hs'
    have k1 : 1 ≤ k := by
      have : (decide (1 ≤ k) && decide (k ≤ 4)) = true := s3
      simp only [Bool.and_eq_true, decide_eq_true_eq] at this
      exact this.1
    refine ⟨_, rfl, _, .int d, rfl, rfl, _, rfl, ?_⟩
    rw [er]
    refine iteF ⟨_, rfl, _, _, rfl, hv, _, rfl, ?_⟩
    rw [hs]
    refine iteF ?_
    obtain ⟨a, xs, rfl, S, hl, x1, r1, rfl, p1, x2, r2, rfl, p2, x3, r3, rfl, p3, rfl⟩ := hv
    obtain rfl : x1 = .int i := p1
    obtain rfl : x2 = .int j := p2
    obtain rfl : x3 = .int k := p3
    refine ⟨_, rfl, a, _, rfl, S, rfl, _, _, rfl, _, _, rfl, _, _, rfl, rfl, ?_⟩
    refine ⟨_, rfl, _, rfl, _, rfl, _, rfl, rfl, rfl, fun x dx nx ndx nex => ?_⟩
    refine ⟨x, dx, d, i, j, k, rfl, upd_same, hd, by omega, (bd9 s1 (by decide) (by decide)).mono (by decide), (bd9 s2 (by decide) (by decide)).mono (by decide), (bd9 s3 (by decide) (by decide)).mono (by decide), fun H' Sx kp' => ⟨rfl, ?_⟩⟩
    exact q x H' nx ⟨by omega, Sx⟩ (Same.made nx ndx kp')
end
end RF

namespace RF
open PySem L2
section
variable {P : Program} {w : World} {K : PySem.W.Frag} {mg : Str → Option Value} {base : Heap}
abbrev s_law_of : Stmt := top 35
abbrev n_law_of : List Str := ["_law_bag_here", "_law_some"]
theorem sc_law_of : FnScope n_law_of ["_law_bag_here", "_law_some"] (defScope s_law_of) := ⟨rfl, rfl, rfl, by decide +kernel, rfl, by decide +kernel, by decide +kernel⟩
theorem ok_of {f : Addr} {fd : FuncData} {k : Nat} (F : Fun K "_law_of" "_law_of" s_law_of f fd) (T : TB mg) (D1 : Df P w K mg base k "_law_pull" ["_law_bag_here", "_law_sides"] spPull) : FnOk P w K mg base CX0 (k + 1) f fd ["_law_bag_here", "_law_some"] (spOf K) := by
  refine F.ok sc_law_of (fun vs H Q E h => ?_) (fun cdv A outer s H vs Q E hr h => ?_)
  · obtain ⟨b, a, xs, rfl, _⟩ := h
    rfl
  · obtain ⟨b, a, xs, rfl, B, hS, nab, h0, h1, k⟩ := h
    refine ⟨_, (pss_one (ps_ret (pe_ix ix_list (pv 1) (pe_callD D1 hr (Nat.le_refl _) (pa_cons (pv 0) (pa_cons (pe_callB call_len_seq (by rfl) T.len PySem.boot_len (pa_cons (pv 1) pa_nil)) pa_nil))) (fun _ _ => rfl)))), ?_⟩
    refine ⟨_, rfl, _, rfl, _, rfl, a, _, rfl, .inl hS, b, _, rfl, B, by omega, by omega, fun d H' d0 d1 B' kp => ?_⟩
    obtain ⟨j, rfl⟩ : ∃ j : Nat, d = (j : Int) := ⟨d.toNat, by omega⟩
    have hj : j < xs.length := by omega
    exact ⟨a, xs, _, _, rfl, rfl, kp.seq nab hS, atI_nat (List.getElem?_eq_getElem hj), k _ _ (List.getElem_mem hj) B' kp⟩
abbrev s_law_root : Stmt := top 43
abbrev n_law_root : List Str := ["_law_bag_here"]
theorem sc_law_root : FnScope n_law_root ["_law_bag_here"] (defScope s_law_root) := ⟨rfl, rfl, rfl, by decide +kernel, rfl, by decide +kernel, by decide +kernel⟩
theorem ok_root {f : Addr} {fd : FuncData} {k : Nat} (F : Fun K "_law_root" "_law_root" s_law_root f fd) (D1 : Df P w K mg base k "_law_of" ["_law_bag_here", "_law_some"] (spOf K)) : FnOk P w K mg base CX0 (k + 1) f fd ["_law_bag_here"] spRoot := by
  refine F.ok sc_law_root (fun vs H Q E h => ?_) (fun cdv A outer s H vs Q E hr h => ?_)
  · obtain ⟨b, rfl, _⟩ := h
    rfl
  · obtain ⟨b, rfl, B, k⟩ := h
    refine ⟨_, (pss_one (ps_ret (pe_callD D1 hr (Nat.le_refl _) (pa_cons (pv 0) (pa_cons (pe_lst (pa_cons pe_int (pa_cons pe_int (pa_cons pe_int (pa_cons pe_int (pa_cons pe_int pa_nil)))))) pa_nil))))), ?_⟩
    refine ⟨_, rfl, by show 5 ≤ sizeLine; decide, fun p hp => ?_⟩
    obtain ⟨xs, hb⟩ := B.some
    refine ⟨b, p, _, rfl, B.same (sNew (Same.refl _) hp), SqL.of upd_same, (ne_of_none hb hp).symm, by decide, by decide, fun v H' hv B' kp => ?_⟩
    have kp' : Kp b H H' := (Kp.of (sNew (Same.refl _) hp)).trans kp
    rcases List.mem_cons.mp hv with rfl | hv
    · exact k _ _ (by decide) B' kp'
    rcases List.mem_cons.mp hv with rfl | hv
    · exact k _ _ (by decide) B' kp'
    rcases List.mem_cons.mp hv with rfl | hv
    · exact k _ _ (by decide) B' kp'
    rcases List.mem_cons.mp hv with rfl | hv
    · exact k _ _ (by decide) B' kp'
    rcases List.mem_cons.mp hv with rfl | hv
    · exact k _ _ (by decide) B' kp'
    cases hv
abbrev s_law_far : Stmt := top 40
abbrev n_law_far : List Str := ["_law_bag_here", "_law_figures", "_law_many", "_law_found", "_law_k"]
theorem sc_law_far : FnScope n_law_far ["_law_bag_here", "_law_figures"] (defScope s_law_far) := ⟨rfl, rfl, rfl, by decide +kernel, rfl, by decide +kernel, by decide +kernel⟩
theorem ok_far {f : Addr} {fd : FuncData} {k : Nat} (F : Fun K "_law_far" "_law_far" s_law_far f fd) (T : mg "range" = none) (D1 : Df P w K mg base k "_law_pull" ["_law_bag_here", "_law_sides"] spPull) : FnOk P w K mg base CX0 (k + 1) f fd ["_law_bag_here", "_law_figures"] spFar := by
  refine F.ok sc_law_far (fun vs H Q E h => ?_) (fun cdv A outer s H vs Q E hr h => ?_)
  · obtain ⟨b, m, rfl, _⟩ := h
    rfl
  · obtain ⟨b, m, rfl, B, m0, m1, k⟩ := h
    have nd := sc_law_far.nd
    refine ⟨_, (pss_cons (ps_set (i := 2) nd rfl (Or.inl rfl) (pe_op op_add pe_int (pe_callD D1 hr (Nat.le_refl _) (pa_cons (pv 0) (pa_cons (pv 1) pa_nil)))))
      (pss_cons (ps_set (i := 3) nd rfl (Or.inl rfl) pe_int)
      (pss_cons (ps_for PassesOwn.never rfl (pi_range1 rfl T (pa_cons (pv 2) pa_nil)) (pg_name (i := 4) nd rfl (Or.inl rfl))
      (pss_one (ps_set (i := 3) nd rfl (Or.inl rfl) (pe_op op_add (pe_op op_mul (pv 3) pe_int) (pe_callD D1 hr (Nat.le_refl _) (pa_cons (pv 0) (pa_cons pe_int pa_nil)))))))
      (pss_one (ps_ret (pv 3)))))), ?_⟩
    refine ⟨_, rfl, _, rfl, b, _, rfl, B, m0, by omega, fun d H1 d0 d1 B1 kp1 => ⟨_, _, rfl, rfl, ?_⟩⟩
    refine ⟨_, rfl, _, rfl, by omega, by omega, for_range (n := (1 + d).toNat) (fun i σ H' => ∃ (n : Int) (v : Option V), σ = [some (.ref b), some (.int m), some (.int (1 + d)), some (.int n), v] ∧ 0 ≤ n ∧ n < 10 ^ i ∧ Bag H' b ∧ Kp b H H')
      ⟨0, none, rfl, by decide, by decide, B1, kp1⟩ ?_ ?_⟩
    · rintro i σ H2 hi ⟨n, v, rfl, n0, n1, B2, kp2⟩
      refine ⟨_, rfl, _, _, rfl, rfl, .inr (by decide), _, rfl, b, _, rfl, B2, by decide, by decide, fun e H3 e0 e1 B3 kp3 => ⟨_, _, rfl, rfl, ?_⟩⟩
      refine ⟨_, _, rfl, by omega, ?_, B3, kp2.trans kp3⟩
      rw [Int.pow_succ]
      omega
    · rintro σ H2 ⟨n, v, rfl, n0, n1, B2, kp2⟩
      refine ⟨_, rfl, k _ _ n0 (Int.lt_of_lt_of_le n1 ?_) B2 kp2⟩
      exact_mod_cast Nat.pow_le_pow_right (by decide : 0 < 10) (by omega : (1 + d).toNat ≤ m.toNat)
end
end RF

namespace RF
open PySem L2
section
variable {P : Program} {w : World} {K : PySem.W.Frag} {mg : Str → Option Value} {base : Heap}
abbrev s_law_same : Stmt := top 36
abbrev n_law_same : List Str := ["_law_found", "_law_due", "_law_a", "_law_b"]
theorem sc_law_same : FnScope n_law_same ["_law_found", "_law_due"] (defScope s_law_same) := ⟨rfl, rfl, rfl, by decide +kernel, rfl, by decide +kernel, by decide +kernel⟩
theorem ok_same1 {f : Addr} {fd : FuncData} {k : Nat} {n : Nat} (F : Fun K "_law_same" "_law_same" s_law_same f fd) (T : TSm mg) (D1 : Df P w K mg base k "_law_same" ["_law_found", "_law_due"] (spSameL K n)) : FnOk P w K mg base CX0 (k + 1) f fd ["_law_found", "_law_due"] (spSame K n) := by
  refine F.ok sc_law_same (fun vs H Q E h => ?_) (fun cdv A outer s H vs Q E hr h => ?_)
  · obtain ⟨v, u, d, rfl, _⟩ := h
    rfl
  · obtain ⟨v, u, d, rfl, h1, h2, hd, k⟩ := h
    have nd := sc_law_same.nd
    refine ⟨_, (pss_cons (ps_if (pw_or (pt_cmpR op_isN (pv 1) pe_non (nomark _)) (pw_or1 (pt_cmpR op_isN (pv 0) pe_non (nomark _)))).pt
      (pss_one (ps_ret (pe_and (pe_cmpR op_isN (pv 1) pe_non (nomark _)) (pe_one (pe_cmpR op_isN (pv 0) pe_non (nomark _))))))
      pss_nil)
      (pss_cons (ps_if (pw_or (pt_val (pe_callB call_isi (by rfl) T.isinstance (by decide +kernel) (pa_cons (pv 1) (pa_cons (pe_bltn (v := .ty "bool") (by rfl) T.bool (by decide +kernel) rfl) pa_nil)))) (pw_or1 (pt_val (pe_callB call_isi (by rfl) T.isinstance (by decide +kernel) (pa_cons (pv 0) (pa_cons (pe_bltn (v := .ty "bool") (by rfl) T.bool (by decide +kernel) rfl) pa_nil)))))).pt
      (pss_one (ps_ret (pe_and (pe_callB call_isi (by rfl) T.isinstance (by decide +kernel) (pa_cons (pv 1) (pa_cons (pe_bltn (v := .ty "bool") (by rfl) T.bool (by decide +kernel) rfl) pa_nil))) (pe_and (pe_callB call_isi (by rfl) T.isinstance (by decide +kernel) (pa_cons (pv 0) (pa_cons (pe_bltn (v := .ty "bool") (by rfl) T.bool (by decide +kernel) rfl) pa_nil))) (pe_one (pe_cmpR op_eq (pv 0) (pv 1) (nomark _)))))))
      pss_nil)
      (pss_cons (ps_if (pw_or (pt_val (pe_callB call_isiT (by rfl) T.isinstance (by decide +kernel) (pa_cons (pv 1) (pa_cons (pe_tup (pa_cons (pe_bltn (v := .ty "list") (by rfl) T.list (by decide +kernel) rfl) (pa_cons (pe_bltn (v := .ty "tuple") (by rfl) T.tuple (by decide +kernel) rfl) pa_nil))) pa_nil)))) (pw_or1 (pt_val (pe_callB call_isiT (by rfl) T.isinstance (by decide +kernel) (pa_cons (pv 0) (pa_cons (pe_tup (pa_cons (pe_bltn (v := .ty "list") (by rfl) T.list (by decide +kernel) rfl) (pa_cons (pe_bltn (v := .ty "tuple") (by rfl) T.tuple (by decide +kernel) rfl) pa_nil))) pa_nil)))))).pt
      (pss_cons (ps_if (pw_or (pt_cmpR op_ne (pe_callB call_isi (by rfl) T.isinstance (by decide +kernel) (pa_cons (pv 1) (pa_cons (pe_bltn (v := .ty "list") (by rfl) T.list (by decide +kernel) rfl) pa_nil))) (pe_callB call_isi (by rfl) T.isinstance (by decide +kernel) (pa_cons (pv 0) (pa_cons (pe_bltn (v := .ty "list") (by rfl) T.list (by decide +kernel) rfl) pa_nil))) (nomark _)) (pw_or1 (pt_cmpR op_ne (pe_callB call_isi (by rfl) T.isinstance (by decide +kernel) (pa_cons (pv 1) (pa_cons (pe_bltn (v := .ty "tuple") (by rfl) T.tuple (by decide +kernel) rfl) pa_nil))) (pe_callB call_isi (by rfl) T.isinstance (by decide +kernel) (pa_cons (pv 0) (pa_cons (pe_bltn (v := .ty "tuple") (by rfl) T.tuple (by decide +kernel) rfl) pa_nil))) (nomark _)))).pt
        (pss_one (ps_ret pe_bl))
        pss_nil)
        (pss_one (ps_ret (pe_and (pe_cmpR op_eq (pe_callB call_len_seq (by rfl) T.len PySem.boot_len (pa_cons (pv 0) pa_nil)) (pe_callB call_len_seq (by rfl) T.len PySem.boot_len (pa_cons (pv 1) pa_nil)) (nomark _)) (pe_one (pe_callB (cr_all rfl) (by rfl) T.all (by decide +kernel) (pa_cons (pe_lc (own := [("_law_a", 2), ("_law_b", 3)]) (g := gTup K 2 (gCons (gName 2) (gCons (gName 3) gNil))) (tt := tYes) (by rfl) nd (RZ.pi_zipA (by rfl) T.zip (pa_cons (pv 0) (pa_cons (pv 1) pa_nil))) (blkOk_by (own := [("_law_a", 2), ("_law_b", 3)]) (N := n_law_same) (sc := defScope s_law_same) (by decide +kernel)) (fun _ _ _ _ _ => (pg_tup rfl (pgs_cons (pg_name (i := 2) nd rfl (Or.inl rfl)) (pgs_cons (pg_name (i := 3) nd rfl (Or.inl rfl)) pgs_nil)))) (fun _ _ _ _ _ => pts_nil) (fun _ _ _ _ _ => (pe_callD D1 hr (Nat.le_refl _) (pa_cons (pv 2) (pa_cons (pv 3) pa_nil))))) pa_nil)))))))
      pss_nil)
      (pss_cons (ps_if (pw_or (pt_cmpR op_ne (pe_callB call_isi (by rfl) T.isinstance (by decide +kernel) (pa_cons (pv 1) (pa_cons (pe_bltn (v := .ty "int") (by rfl) T.int (by decide +kernel) rfl) pa_nil))) (pe_callB call_isi (by rfl) T.isinstance (by decide +kernel) (pa_cons (pv 0) (pa_cons (pe_bltn (v := .ty "int") (by rfl) T.int (by decide +kernel) rfl) pa_nil))) (nomark _)) (pw_or1 (pt_cmpR op_ne (pe_callB call_isi (by rfl) T.isinstance (by decide +kernel) (pa_cons (pv 1) (pa_cons (pe_bltn (v := .ty "str") (by rfl) T.str (by decide +kernel) rfl) pa_nil))) (pe_callB call_isi (by rfl) T.isinstance (by decide +kernel) (pa_cons (pv 0) (pa_cons (pe_bltn (v := .ty "str") (by rfl) T.str (by decide +kernel) rfl) pa_nil))) (nomark _)))).pt
      (pss_one (ps_ret pe_bl))
      pss_nil)
      (pss_one (ps_ret (pe_cmpR op_eq (pv 0) (pv 1) (nomark _)))))))), ?_⟩
    by_cases en : d = .non
    · subst en
      obtain rfl : v = .non := h1
      obtain rfl : u = .non := h2
      refine ⟨_, rfl, rfl, _, rfl, iteP rfl (iteP rfl ?_)⟩
      exact ⟨_, rfl, rfl, _, rfl, iteP rfl ⟨_, rfl, rfl, k _ (Same.refl _)⟩⟩
    · have nv : ∀ x, Rp K H x d → ¬ x = V.non := fun x h z => by
        subst z
        cases d with
        | non => exact en rfl
        | bl _ => cases (show V.non = V.bl _ from h)
        | int _ => cases (show V.non = V.int _ from h)
        | str _ => cases (show V.non = V.str _ from h)
        | lst _ => obtain ⟨_, _, q, _⟩ := h; cases q
        | tup _ => obtain ⟨_, _, q, _⟩ := h; cases q
      refine ⟨_, rfl, rfl, _, rfl, iteN (nd_of (nv _ h2)) ⟨_, rfl, rfl, _, rfl, iteN (nd_of (nv _ h1)) ?_⟩⟩
      -- bool
      by_cases eb : isBool d = true
      · cases d with
        | bl b =>
          have g1 := h1
          have g2 := h2
          obtain rfl : v = .bl b := h1
          obtain rfl : u = .bl b := h2
          refine ⟨_, rfl, _, _, _, _, _, rfl, .ty _, tyX _ g2, kit_ty (kit_bool _), _, rfl, iteP rfl (iteP rfl ?_)⟩
          exact ⟨_, rfl, _, _, _, _, _, rfl, .ty _, tyX _ g2, kit_ty (kit_bool _), _, rfl, iteP rfl ⟨_, rfl, _, _, _, _, _, rfl, .ty _, tyX _ g1, kit_ty (kit_bool _), _, rfl, iteP rfl ⟨_, rfl, _, rfl, rfl, eqT (k _ (Same.refl _))⟩⟩⟩
        | non => cases eb
        | int _ => cases eb
        | str _ => cases eb
        | lst _ => cases eb
        | tup _ => cases eb
      · refine ⟨_, rfl, _, _, _, _, _, rfl, .ty _, tyX _ h2, kit_ty (kit_bool _), _, rfl, iteN eb ⟨_, rfl, _, _, _, _, _, rfl, .ty _, tyX _ h1, kit_ty (kit_bool _), _, rfl, iteN eb ?_⟩⟩
        -- lists and tuples
        refine ⟨_, rfl, (by show 2 ≤ sizeLine; decide), fun p hp => ?_⟩
        have s2 : Same H (upd H p (.tup [.ty "list", .ty "tuple"])) := sNew (Same.refl _) hp
        have j1 := Rp.same s2 _ h1
        have j2 := Rp.same s2 _ h2
        refine ⟨_, _, _, _, _, _, rfl, upd_same, .cons (.ty _) (.cons (.ty _) .nil), tyX _ j2, kit_lt _, _, rfl, ?_⟩
        by_cases et : (isLst d || isTup d) = true
        · refine iteP et (iteP rfl ?_)
          refine ⟨_, rfl, _, _, _, _, _, rfl, .ty _, tyX _ j2, kit_ty (kit_list _), _, rfl, _, _, _, _, _, rfl, .ty _, tyX _ j1, kit_ty (kit_list _), rfl, _, rfl, iteNS rfl ?_⟩
          refine ⟨_, rfl, _, _, _, _, _, rfl, .ty _, tyX _ j2, kit_ty (kit_tuple _), _, rfl, _, _, _, _, _, rfl, .ty _, tyX _ j1, kit_ty (kit_tuple _), rfl, _, rfl, iteNS rfl ?_⟩
          cases d with
          | lst ds =>
            obtain ⟨a, xs, rfl, S1, l1, r1⟩ := id h1
            obtain ⟨b, ys, rfl, S2, l2, r2⟩ := id h2
            have T1 := s2.seq S1
            have T2 := s2.seq S2
            have el : xs.length = ys.length := by rw [r1.len, r2.len]
            refine ⟨_, rfl, _, _, rfl, .inl T1, _, rfl, _, _, rfl, .inl T2, rfl, _, rfl, iteP (decide_eq_true (by rw [el])) ?_⟩
            refine ⟨_, rfl, _, rfl, a, b, xs, ys, rfl, .inl ⟨T1, T2, fun Dd hD => ?_⟩⟩
            cases n with
            | zero => exact absurd hd (by show ¬ (depL ds + 1 ≤ 0); omega)
            | succ n =>
              have nz : ∀ H', Same H H' → H' Dd = none → True := fun _ _ _ => trivial
              refine lc_it (walk_zip (n := xs.length) (by rw [el, Nat.min_self])) (fun i H' => (∃ acc : List Bool, H' Dd = some (.lst (acc.map V.bl)) ∧ acc.length = i ∧ acc.all id = true) ∧ Same (upd H p (.tup [.ty "list", .ty "tuple"])) H' ∧ i ≤ xs.length)
                ⟨⟨[], upd_same, rfl, rfl⟩, sNew (Same.refl _) hD, Nat.zero_le _⟩ (fun i H' _ z => ⟨(z.2.1).seq T1, (z.2.1).seq T2⟩) ?_ ?_
              · rintro i x H3 H4 hi ⟨⟨acc, e1, e2, e3⟩, sm, _⟩ ⟨Tt, x1, x2, rfl, nT, rfl, g1, g2⟩
                obtain ⟨d1, q1, p1⟩ := r1.at_ g1
                obtain ⟨d2, q2, p2⟩ := r2.at_ g2
                have ed : d1 = d2 := Option.some.inj (q1.symm.trans q2)
                subst ed
                have sm4 : Same H (upd H3 Tt (.tup [x1, x2])) := (s2.trans sm).trans (sNew (Same.refl _) nT)
                refine ⟨Tt, [x1, x2], rfl, SqT.of upd_same, rfl, _, _, rfl, _, _, rfl, rfl, rfl, ?_⟩
                refine yes_if ?_
                refine ⟨_, rfl, _, rfl, x1, x2, d1, rfl, Rp.same sm4 _ p1, Rp.same sm4 _ p2, ?_, fun H5 s5 => ?_⟩
                · have := dep_mem q1
                  have hd' : depL ds + 1 ≤ n + 1 := hd
                  omega
                · have eD : H5 Dd = some (.lst (acc.map V.bl)) := s5 _ _ (by rw [upd_ne (ne_of_none e1 nT)]; exact e1)
                  refine ⟨_, eD, by rw [List.length_map]; exact Nat.lt_of_lt_of_le (show acc.length < 100001 by omega) (by decide), ⟨⟨acc ++ [true], ?_, by rw [List.length_append, e2]; rfl, by rw [List.all_append, e3]; rfl⟩, fun c o e => ?_, hi⟩⟩
                  · rw [upd_same, List.map_append]; rfl
                  · have nc : c ≠ Dd := fun z => by rw [z, hD] at e; cases e
                    rw [upd_ne nc]
                    exact s5 _ _ (by rw [upd_ne (ne_of_none (sm _ _ e) nT)]; exact sm _ _ e)
              · rintro H3 ⟨⟨acc, e1, e2, e3⟩, sm, _⟩
                exact ⟨Dd, acc, rfl, SqL.of e1, by rw [e3]; exact k _ (s2.trans sm)⟩
          | tup ds =>
            obtain ⟨a, xs, rfl, S1, l1, r1⟩ := id h1
            obtain ⟨b, ys, rfl, S2, l2, r2⟩ := id h2
            have T1 := sameT s2 S1
            have T2 := sameT s2 S2
            have el : xs.length = ys.length := by rw [r1.len, r2.len]
            refine ⟨_, rfl, _, _, rfl, .inr T1, _, rfl, _, _, rfl, .inr T2, rfl, _, rfl, iteP (decide_eq_true (by rw [el])) ?_⟩
            refine ⟨_, rfl, _, rfl, a, b, xs, ys, rfl, .inr ⟨T1, T2, fun Dd hD => ?_⟩⟩
            cases n with
            | zero => exact absurd hd (by show ¬ (depL ds + 1 ≤ 0); omega)
            | succ n =>
              have nz : ∀ H', Same H H' → H' Dd = none → True := fun _ _ _ => trivial
              refine lc_it (walk_zipT (n := xs.length) (by rw [el, Nat.min_self])) (fun i H' => (∃ acc : List Bool, H' Dd = some (.lst (acc.map V.bl)) ∧ acc.length = i ∧ acc.all id = true) ∧ Same (upd H p (.tup [.ty "list", .ty "tuple"])) H' ∧ i ≤ xs.length)
                ⟨⟨[], upd_same, rfl, rfl⟩, sNew (Same.refl _) hD, Nat.zero_le _⟩ (fun i H' _ z => ⟨sameT (z.2.1) T1, sameT (z.2.1) T2⟩) ?_ ?_
              · rintro i x H3 H4 hi ⟨⟨acc, e1, e2, e3⟩, sm, _⟩ ⟨Tt, x1, x2, rfl, nT, rfl, g1, g2⟩
                obtain ⟨d1, q1, p1⟩ := r1.at_ g1
                obtain ⟨d2, q2, p2⟩ := r2.at_ g2
                have ed : d1 = d2 := Option.some.inj (q1.symm.trans q2)
                subst ed
                have sm4 : Same H (upd H3 Tt (.tup [x1, x2])) := (s2.trans sm).trans (sNew (Same.refl _) nT)
                refine ⟨Tt, [x1, x2], rfl, SqT.of upd_same, rfl, _, _, rfl, _, _, rfl, rfl, rfl, ?_⟩
                refine yes_if ?_
                refine ⟨_, rfl, _, rfl, x1, x2, d1, rfl, Rp.same sm4 _ p1, Rp.same sm4 _ p2, ?_, fun H5 s5 => ?_⟩
                · have := dep_mem q1
                  have hd' : depL ds + 1 ≤ n + 1 := hd
                  omega
                · have eD : H5 Dd = some (.lst (acc.map V.bl)) := s5 _ _ (by rw [upd_ne (ne_of_none e1 nT)]; exact e1)
                  refine ⟨_, eD, by rw [List.length_map]; exact Nat.lt_of_lt_of_le (show acc.length < 100001 by omega) (by decide), ⟨⟨acc ++ [true], ?_, by rw [List.length_append, e2]; rfl, by rw [List.all_append, e3]; rfl⟩, fun c o e => ?_, hi⟩⟩
                  · rw [upd_same, List.map_append]; rfl
                  · have nc : c ≠ Dd := fun z => by rw [z, hD] at e; cases e
                    rw [upd_ne nc]
                    exact s5 _ _ (by rw [upd_ne (ne_of_none (sm _ _ e) nT)]; exact sm _ _ e)
              · rintro H3 ⟨⟨acc, e1, e2, e3⟩, sm, _⟩
                exact ⟨Dd, acc, rfl, SqL.of e1, by rw [e3]; exact k _ (s2.trans sm)⟩
          | non => cases et
          | bl _ => cases et
          | int _ => cases et
          | str _ => cases et
        · refine iteN et ?_
          refine ⟨_, rfl, (by show 2 ≤ sizeLine; decide), fun q hq => ?_⟩
          have s3 := sNew (o := .tup [.ty "list", .ty "tuple"]) s2 hq
          have i1 := Rp.same s3 _ h1
          have i2 := Rp.same s3 _ h2
          refine ⟨_, _, _, _, _, _, rfl, upd_same, .cons (.ty _) (.cons (.ty _) .nil), tyX _ i1, kit_lt _, _, rfl, iteN et ?_⟩
          refine ⟨_, rfl, _, _, _, _, _, rfl, .ty _, tyX _ i2, kit_ty (kit_int _), _, rfl, _, _, _, _, _, rfl, .ty _, tyX _ i1, kit_ty (kit_int _), rfl, _, rfl, iteNS rfl ?_⟩
          refine ⟨_, rfl, _, _, _, _, _, rfl, .ty _, tyX _ i2, kit_ty (kit_str _), _, rfl, _, _, _, _, _, rfl, .ty _, tyX _ i1, kit_ty (kit_str _), rfl, _, rfl, iteNS rfl ?_⟩
          cases d with
          | int z =>
            obtain rfl : v = .int z := h1
            obtain rfl : u = .int z := h2
            exact ⟨_, rfl, _, rfl, rfl, eqT (k _ s3)⟩
          | str z =>
            obtain rfl : v = .str z := h1
            obtain rfl : u = .str z := h2
            exact ⟨_, rfl, _, rfl, rfl, eqT (k _ s3)⟩
          | non => exact absurd rfl en
          | bl _ => exact absurd rfl eb
          | lst _ => exact absurd rfl et
          | tup _ => exact absurd rfl et
theorem ok_same {f : Addr} {fd : FuncData} (F : Fun K "_law_same" "_law_same" s_law_same f fd) (T : TSm mg) (hb : Binds K fd ["_law_found", "_law_due"] []) (hm : mg "_law_same" = some (.ref f)) : ∀ n : Nat, FnOk P w K mg base CX0 (n + 1) f fd ["_law_found", "_law_due"] (spSame K n)
  | 0 => ok_same1 (k := 0) F T ⟨_, _, fn_false, hb, hm, F.kp⟩
  | n + 1 => ok_same1 (k := n + 1) F T ⟨_, _, ok_same F T hb hm n, hb, hm, F.kp⟩
end
end RF

namespace RF
open PySem L2 PyProof.Rows
def spRP : Sp := fun vs H Q _ => ∃ (n : Int), vs = [.int n] ∧ 0 ≤ n ∧ Bd 4000 n ∧ Q (.int (rt n)) H
/-- the floor of the slope times n, by the law -/
def lfl (d i j k n : Int) : Int := (i * n + flr d (j * n)) / k
def spLFl (K : PySem.W.Frag) : Sp := fun vs H Q _ => ∃ (d i j k n : Int) (v : V), vs = [.int d, v, .int n] ∧ Root d ∧ Rp K H v (.tup [.int i, .int j, .int k]) ∧ 0 < k ∧ k < 1073741824 ∧ Bd 900 i ∧ Bd 900 j ∧ Bd 900 n ∧ Q (.int (lfl d i j k n)) H
def spLSg : Sp := fun vs H Q _ => ∃ (d i j : Int), vs = [.int d, .int i, .int j] ∧ Root d ∧ Bd 900 i ∧ Bd 900 j ∧ Q (.int (sg d i j)) H
section
variable {P : Program} {w : World} {K : PySem.W.Frag} {mg : Str → Option Value} {base : Heap}
abbrev s_law_root_part : Stmt := top 41
abbrev n_law_root_part : List Str := ["_law_number_z", "_law_found", "_law_later"]
theorem sc_law_root_part : FnScope n_law_root_part ["_law_number_z"] (defScope s_law_root_part) := ⟨rfl, rfl, rfl, by decide +kernel, rfl, by decide +kernel, by decide +kernel⟩
theorem rp_start {n : Int} (h : 2 ≤ n) : (n + 1) / 2 = (n + n / n) / 2 ∧ n < (n + 1) * (n + 1) := by
  have e : n / n = 1 := Int.ediv_self (by omega)
  rw [e]
  refine ⟨rfl, ?_⟩
  have : n * 1 ≤ n * n := Int.mul_le_mul_of_nonneg_left (by omega) (by omega)
  have e2 : (n + 1) * (n + 1) = n * n + 2 * n + 1 := by grind
  omega
theorem rp_step {n x : Int} (hn : 0 ≤ n) (hx : 0 < x) : 0 ≤ (x + n / x) / 2 ∧ n < ((x + n / x) / 2 + 1) * ((x + n / x) / 2 + 1) := by
  have q0 : 0 ≤ n / x := Int.ediv_nonneg hn (by omega)
  have h1 := Int.mul_ediv_add_emod n x
  have h2 := Int.emod_lt_of_pos n hx
  have h3 : n < x * (n / x + 1) := by
    have : x * (n / x + 1) = x * (n / x) + x := by grind
    omega
  exact ⟨by omega, amgm x (n / x) _ n hx q0 h3 (by omega)⟩
theorem rp_end {n x : Int} (hx : 0 < x) (h : ¬ (x + n / x) / 2 < x) : x * x ≤ n := by
  have h1 := Int.mul_ediv_add_emod n x
  have h2 := Int.emod_nonneg n (show x ≠ 0 by omega)
  have h3 : x ≤ n / x := by omega
  have : x * x ≤ x * (n / x) := Int.mul_le_mul_of_nonneg_left h3 (by omega)
  omega
theorem rp_pos {n y : Int} (hn : 2 ≤ n) (h0 : 0 ≤ y) (h : n < (y + 1) * (y + 1)) : 0 < y := by
  rcases Int.lt_or_le 0 y with z | z
  · exact z
  · have : y = 0 := by omega
    subst this
    omega
theorem ok_rp {f : Addr} {fd : FuncData} {k : Nat} (F : Fun K "_law_root_part" "_law_root_part" s_law_root_part f fd) : FnOk P w K mg base CX0 (k + 1) f fd ["_law_number_z"] spRP := by
  refine F.ok sc_law_root_part (fun vs H Q E h => ?_) (fun cdv A outer s H vs Q E hr h => ?_)
  · obtain ⟨n, rfl, _⟩ := h
    rfl
  · obtain ⟨n, rfl, n0, bn, q⟩ := h
    have nd := sc_law_root_part.nd
    refine ⟨_, (pss_cons (ps_if (pt_cmpR op_lt (pv 0) pe_int (nomark _))
      (pss_one (ps_ret (pv 0)))
      pss_nil)
      (pss_cons (ps_set (i := 1) nd rfl (Or.inl rfl) (pv 0))
      (pss_cons (ps_set (i := 2) nd rfl (Or.inl rfl) (pe_op op_fdiv (pe_op op_add (pv 0) pe_int) pe_int))
      (pss_cons (ps_while PassesOwn.never (pt_cmpR op_lt (pv 2) (pv 1) (nomark _))
      (pss_cons (ps_set (i := 1) nd rfl (Or.inl rfl) (pv 2))
        (pss_one (ps_set (i := 2) nd rfl (Or.inl rfl) (pe_op op_fdiv (pe_op op_add (pv 1) (pe_op op_fdivW (pv 0) (pv 1))) pe_int)))))
      (pss_one (ps_ret (pv 1))))))), ?_⟩
    refine ⟨_, rfl, _, _, rfl, rfl, _, rfl, ite2 (fun h => ?_) (fun h => ?_)⟩
    · have hn : n < 2 := of_decide_eq_true h
      have : n = rt n := rt_uniq n0 n0 (by rcases (by omega : n = 0 ∨ n = 1) with z | z <;> rw [z] <;> decide) (by rcases (by omega : n = 0 ∨ n = 1) with z | z <;> rw [z] <;> decide)
      refine ⟨_, rfl, ?_⟩
      rw [← this] at q
      exact q
    · have hn : 2 ≤ n := by
        have : ¬ n < 2 := fun z => h (decide_eq_true z)
        omega
      obtain ⟨e0, e1⟩ := rp_start hn
      refine ⟨_, rfl, _, rfl, _, _, rfl, rfl, _, _, rfl, rfl, ⟨by decide, by decide⟩, ?_⟩
      refine while_by (fun σ H' => ∃ x : Int, σ = [some (.int n), some (.int x), some (.int ((x + n / x) / 2))] ∧ H' = H ∧ 0 < x ∧ x ≤ n ∧ n < (x + 1) * (x + 1)) (fun σ _ => match σ with | [_, some (.int x), _] => x.toNat | _ => 0)
        ⟨n, by rw [← e0]; rfl, rfl, by omega, Int.le_refl _, e1⟩ ?_ ?_
      · rintro σ H1 ⟨x, rfl, rfl, x0, xn, x1⟩
        refine ⟨_, rfl, _, rfl, _, _, rfl, rfl, _, rfl, ite2 (fun h => ?_) (fun h => ?_)⟩
        · have lt : (x + n / x) / 2 < x := of_decide_eq_true h
          obtain ⟨y0, y1⟩ := rp_step n0 x0
          have yp := rp_pos hn y0 y1
          refine ⟨_, rfl, _, rfl, _, rfl, _, rfl, _, _, rfl, rfl, ⟨yp, ?_⟩, _, _, rfl, rfl, _, _, rfl, rfl, ⟨by decide, by decide⟩, ⟨_, rfl, rfl, yp, by omega, y1⟩, ?_⟩
          · exact Nat.lt_of_lt_of_le ((bn.le (show ((x + n / x) / 2).natAbs ≤ n.natAbs by omega)).log (by decide)) (by decide)
          · show ((x + n / x) / 2).toNat < x.toNat
            omega
        · have nl : ¬ (x + n / x) / 2 < x := fun z => h (decide_eq_true z)
          have : x = rt n := rt_uniq n0 (by omega) (rp_end x0 nl) x1
          refine ⟨_, rfl, ?_⟩
          rw [this]
          exact q
      · rintro σ H1 Q1 Q2 hq ⟨v, e1, v2, e2, i, j, e3, e4, b, e5, q⟩
        exact ⟨v, e1, v2, e2, i, j, e3, e4, b, e5, hq _ _ q⟩
abbrev s_law_floor : Stmt := top 42
abbrev n_law_floor : List Str := ["_law_root_here", "_law_slope_z", "_law_number_z", "_law_factor", "_law_part"]
theorem sc_law_floor : FnScope n_law_floor ["_law_root_here", "_law_slope_z", "_law_number_z"] (defScope s_law_floor) := ⟨rfl, rfl, rfl, by decide +kernel, rfl, by decide +kernel, by decide +kernel⟩
theorem ok_lfl {f : Addr} {fd : FuncData} {k : Nat} (F : Fun K "_law_floor" "_law_floor" s_law_floor f fd) (D1 : Df P w K mg base k "_law_root_part" ["_law_number_z"] spRP) : FnOk P w K mg base CX0 (k + 1) f fd ["_law_root_here", "_law_slope_z", "_law_number_z"] (spLFl K) := by
  refine F.ok sc_law_floor (fun vs H Q E h => ?_) (fun cdv A outer s H vs Q E hr h => ?_)
  · obtain ⟨d, i, j, k, n, v, rfl, _⟩ := h
    rfl
  · obtain ⟨d, i, j, k, n, v, rfl, hd, hv, k0, k1, bi, bj, bn, q⟩ := h
    have nd := sc_law_floor.nd
    obtain ⟨a, xs, rfl, S, hl, x1, r1, rfl, p1, x2, r2, rfl, p2, x3, r3, rfl, p3, rfl⟩ := hv
    obtain rfl : x1 = .int i := p1
    obtain rfl : x2 = .int j := p2
    obtain rfl : x3 = .int k := p3
    refine ⟨_, (pss_cons (ps_set (i := 3) nd rfl (Or.inl rfl) (pe_op op_mulW (pe_ix ix_tup (pv 1) pe_int (fun _ _ => rfl)) (pv 2)))
      (pss_cons (ps_set (i := 4) nd rfl (Or.inl rfl) (pe_callD D1 hr (Nat.le_refl _) (pa_cons (pe_op op_mulW (pe_op op_mulW (pv 3) (pv 3)) (pv 0)) pa_nil)))
      (C8.pss_cut (ps_if (pt_cmpR op_lt (pv 3) pe_int (nomark _))
      (pss_one (ps_set (i := 4) nd rfl (Or.inl rfl) (pe_op op_sub (pe_un un_neg (pv 4)) pe_int)))
      pss_nil)
      (pss_one (ps_ret (pe_op op_fdiv (pe_op op_add (pe_op op_mulW (pe_ix ix_tup (pv 1) pe_int (fun _ _ => rfl)) (pv 2)) (pv 4)) (pe_ix ix_tup (pv 1) pe_int (fun _ _ => rfl)))))))), ?_⟩
    have bf : Bd 1800 (j * n) := bj.mul bn
    have b2 : Bd 3604 (j * n * (j * n) * d) := (bf.mul bf).mul (rootBd hd)
    refine ⟨_, rfl, a, _, _, _, rfl, rfl, S, rfl, _, rfl, _, _, rfl, rfl, mulOk bj bn (by decide) (by decide) (by decide), ?_⟩
    refine ⟨_, rfl, _, rfl, _, _, rfl, rfl, mulOk bf bf (by decide) (by decide) (by decide), _, rfl, _, _, rfl, rfl, mulOk (bf.mul bf) (rootBd hd) (by decide) (by decide) (by decide), _, rfl, ?_, b2.mono (by decide), ?_⟩
    · have := dff_nn hd (f := j * n)
      have e : j * n * (j * n) * d = d * (j * n) * (j * n) := by grind
      rw [e]
      exact this
    · rw [flr_ring]
      refine ⟨fun σ' H' => σ' = [some (.int d), some (.ref a), some (.int n), some (.int (j * n)), some (.int (flr d (j * n)))] ∧ H' = H, ?_, ?_⟩
      · refine ⟨_, rfl, _, _, rfl, rfl, _, rfl, ite2 (fun h => ?_) (fun h => ?_)⟩
        · have hy : j * n < 0 := of_decide_eq_true h
          refine ⟨_, rfl, _, rfl, _, _, rfl, rfl, ?_, rfl⟩
          unfold flr
          rw [if_pos hy]
          rfl
        · have hy : ¬ j * n < 0 := fun z => h (decide_eq_true z)
          refine ⟨?_, rfl⟩
          unfold flr
          rw [if_neg hy]
          rfl
      · rintro σ' H1 ⟨rfl, rfl⟩
        exact ⟨_, rfl, a, _, _, _, rfl, rfl, S, rfl, _, rfl, _, _, rfl, rfl, mulOk bi bn (by decide) (by decide) (by decide), _, rfl, _, _, rfl, rfl, _, rfl, a, _, _, _, rfl, rfl, S, rfl, _, _, rfl, rfl, ⟨k0, k1⟩, q⟩
end
end RF

namespace RF
open PySem L2 PyProof.Rows
theorem Kp.at_ {b a : Addr} {H H' : Hp} {o : HO} (k : Kp b H H') (B : Bag H b) (h : H a = some o) (n : ∀ xs, o ≠ .lst xs) : H' a = some o := by
  obtain ⟨xs, hb⟩ := B.some
  exact k a o (ne_of h hb (n xs)) h
theorem SV.kp {H H' : Hp} {C p b : Addr} {d i j k : Int} (B : Bag H b) (kp : Kp b H H') (h : SV H C p d i j k) : SV H' C p d i j k := by
  obtain ⟨k0, dx, t, h1, h2⟩ := h
  exact ⟨k0, dx, t, kp.at_ B h1 (fun _ z => by cases z), kp.at_ B h2 (fun _ z => by cases z)⟩
theorem SV.ins {H : Hp} {C p : Addr} {d i j k : Int} (h : SV H C p d i j k) : ∃ dx fs, H p = some (.ins C dx fs) ∧ ∀ m : Str, ¬ m = "_parts" → ¬ m = "_root" → fs.lookup m = none := by
  obtain ⟨_, dx, t, h1, _⟩ := h
  exact ⟨dx, _, h1, fun m a b => sfl_no _ _ a b⟩
theorem flr_bd {n : Nat} {d f : Int} (hd : Root d) (h : Bd n f) : Bd (n + 3) (flr d f) := by
  have r0 := rt_nn (d * f * f)
  have r1 := rt_le (dff_nn hd (f := f))
  have h4 : rt (d * f * f) ≤ 4 * ab f := by
    apply le_of_sq (by have := ab_nn f; omega)
    have e : (4 * ab f) * (4 * ab f) = 16 * (f * f) := by unfold ab; split <;> grind
    have : d * f * f ≤ 16 * (f * f) := by
      rw [dff]
      exact Int.mul_le_mul_of_nonneg_right (by have := hd.le; omega) (sq_nonneg f)
    omega
  have ha : ab f = (f.natAbs : Int) := by unfold ab; split <;> omega
  unfold Bd at *
  have hp : 2 ^ (n + 3) = 8 * 2 ^ n := by rw [Nat.pow_add]; omega
  unfold flr
  split <;> omega
/-- a method of the class at C, by its promise -/
structure Mt (P : Program) (w : World) (K : PySem.W.Frag) (mg : Str → Option Value) (base : Heap) (C : Addr) (k : Nat) (m : Str) (ps : List Str) (sp : Sp) : Prop where
  ex : ∃ (f : Addr) (fd : FuncData), FnOk P w K mg base CX0 k f fd ps sp ∧ Meth K C m f ∧ Binds K fd ps []
theorem pe_mt0 {X : Cx} {j k : Nat} {C : Addr} {m : Str} {ps : List Str} {sp : Sp} {o : Expr} {pos apos : Pos} {ta : TE} {pl : Sem Bool} (he : PE X o ta) (c : Cls X.K C) (M : Mt X.prog X.w X.K X.mg X.base C k m ps sp) (hr : Room j X.A) (hk : k ≤ j)
    (ht : eval (.Call (.Attribute o m apos) [] [] pos) X.env = (do
      let ov ← eval o X.env
      standAt apos.atName
      let (f, first) ← holding [ov] (getMethod ov m pl)
      callWith pos f first (backTo pos (starEach [] X.env)) (backToKw pos (keywordEach [] X.env))) := by rfl) : PE X (.Call (.Attribute o m apos) [] [] pos) (tMeth C m sp [] E0 ta tNil) := by
  obtain ⟨f, fd, G, hm, b⟩ := M.ex
  exact pe_meth0 he c hm G (hr.mono hk) b .nil pass0 ht
theorem pe_mt {X : Cx} {j k : Nat} {C : Addr} {m : Str} {ps : List Str} {sp : Sp} {o e : Expr} {es : List Expr} {pos apos : Pos} {ta : TE} {t : TA} {pl : Sem Bool} (he : PE X o ta) (c : Cls X.K C) (M : Mt X.prog X.w X.K X.mg X.base C k m ps sp) (hr : Room j X.A) (hk : k ≤ j) (ha : PA X (e :: es) t)
    (h1 : starEach (e :: es) X.env = (false, eval e X.env) :: starEach es X.env := by rfl) (h2 : (backTo pos (starEach es X.env)).any (·.1) = false := by rfl)
    (ht : eval (.Call (.Attribute o m apos) (e :: es) [] pos) X.env = (do
      let ov ← eval o X.env
      standAt apos.atName
      let (f, first) ← holding [ov] (getMethod ov m pl)
      callWith pos f first (backTo pos (starEach (e :: es) X.env)) (backToKw pos (keywordEach [] X.env))) := by rfl) : PE X (.Call (.Attribute o m apos) (e :: es) [] pos) (tMeth C m sp [] E0 ta t) := by
  obtain ⟨f, fd, G, hm, b⟩ := M.ex
  exact pe_meth he c hm G (hr.mono hk) b .nil pass0 ha h1 h2 ht
end RF

namespace RF
def per (d : Int) : List Int := if d = 2 then [2] else if d = 3 then [1, 2] else if d = 5 then [1] else if d = 6 then [2, 4] else [3]
def ai (p : List Int) (i : Nat) : Int := p.getD (i % p.length) 0
theorem ai_add (p : List Int) (i : Nat) : ai p (i + p.length) = ai p i := by unfold ai; rw [Nat.add_mod_right]
theorem ai_pos {d : Int} (h : Root d) (i : Nat) : 1 ≤ ai (per d) i ∧ ai (per d) i ≤ 4 := by
  have h2 : i % 2 = 0 ∨ i % 2 = 1 := by omega
  rcases h with rfl | rfl | rfl | rfl | rfl <;> rcases h2 with e | e <;> simp [per, ai, e, Nat.mod_one]
def stp (p : List Int) : Nat → Int × Int
  | 0 => (0, 1)
  | n + 1 => ((stp p n).2, ai p n * (stp p n).2 + (stp p n).1)
def ptp (p : List Int) : Nat → Int × Int
  | 0 => (1, 0)
  | n + 1 => ((ptp p n).2, ai p n * (ptp p n).2 + (ptp p n).1)
def qn (p : List Int) (i : Nat) : Int := (stp p i).2
def pn (p : List Int) (i : Nat) : Int := (ptp p i).2
theorem stp_pos {p : List Int} (h : ∀ i, 1 ≤ ai p i) : ∀ i, 0 ≤ (stp p i).1 ∧ 1 ≤ (stp p i).2 ∧ (stp p i).1 ≤ (stp p i).2
  | 0 => by simp [stp]
  | n + 1 => by
    have ⟨a, b, c⟩ := stp_pos h n
    have h1 : 1 * (stp p n).2 ≤ ai p n * (stp p n).2 := Int.mul_le_mul_of_nonneg_right (h n) (by omega)
    refine ⟨?_, ?_, ?_⟩ <;> simp only [stp] <;> omega
theorem qn_pos {p : List Int} (h : ∀ i, 1 ≤ ai p i) (i : Nat) : 1 ≤ qn p i := (stp_pos h i).2.1
theorem qn_lt {p : List Int} (h : ∀ i, 1 ≤ ai p i) (i : Nat) : (i : Int) ≤ qn p i := by
  have : ∀ i : Nat, (i : Int) ≤ (stp p i).2 ∧ (1 ≤ i → 1 ≤ (stp p i).1) := by
    intro i
    induction i with
    | zero => simp [stp]
    | succ n ih =>
      have ⟨a, b, c⟩ := stp_pos h n
      have h1 : 1 * (stp p n).2 ≤ ai p n * (stp p n).2 := Int.mul_le_mul_of_nonneg_right (h n) (by omega)
      refine ⟨?_, fun _ => by simp only [stp]; omega⟩
      simp only [stp]
      rcases Nat.eq_zero_or_pos n with rfl | hp
      · simp; omega
      · have := ih.2 hp
        omega
  exact (this i).1
def bk (p : List Int) : Nat → Nat → Int × Int
  | _, 0 => (1, 0)
  | i, m + 1 => (ai p i * (bk p (i + 1) m).1 + (bk p (i + 1) m).2, (bk p (i + 1) m).1)
theorem bk_pos {p : List Int} (h : ∀ i, 1 ≤ ai p i) : ∀ m i, 1 ≤ (bk p i m).1 ∧ 0 ≤ (bk p i m).2 ∧ (1 ≤ m → 1 ≤ (bk p i m).2)
  | 0, i => by simp [bk]
  | m + 1, i => by
    have ⟨a, b, c⟩ := bk_pos h m (i + 1)
    have h1 : 1 * (bk p (i + 1) m).1 ≤ ai p i * (bk p (i + 1) m).1 := Int.mul_le_mul_of_nonneg_right (h i) (by omega)
    refine ⟨?_, ?_, fun _ => ?_⟩ <;> simp only [bk] <;> omega
theorem bk_le {p : List Int} (h : ∀ i, 1 ≤ ai p i) (m i : Nat) : (bk p i m).2 ≤ (bk p i m).1 := by
  cases m with
  | zero => simp [bk]
  | succ m =>
    have ⟨a, b, c⟩ := bk_pos h m (i + 1)
    have h1 : 1 * (bk p (i + 1) m).1 ≤ ai p i * (bk p (i + 1) m).1 := Int.mul_le_mul_of_nonneg_right (h i) (by omega)
    simp only [bk]; omega
/-- The form of a root at the even places and at the odd ones. -/
def frm (d : Int) (o : Nat) (x y : Int) : Int :=
  if d = 2 then (y + x) * (y + x) - 2 * (x * x)
  else if d = 5 then (2 * y + x) * (2 * y + x) - 5 * (x * x)
  else if d = 13 then (2 * y + 3 * x) * (2 * y + 3 * x) - 13 * (x * x)
  else if d = 3 then (if o = 0 then (y + x) * (y + x) - 3 * (x * x) else 2 * (y * y) + 2 * (x * y) - x * x)
  else (if o = 0 then (y + 2 * x) * (y + 2 * x) - 6 * (x * x) else 2 * (y * y) + 4 * (x * y) - x * x)
theorem frm_bk {d : Int} (hd : Root d) : ∀ m i, frm d (i % 2) (bk (per d) i m).1 (bk (per d) i m).2 * (if m % 2 = 0 then 1 else -1) < 0
  | 0, i => by
    have h2 : i % 2 = 0 ∨ i % 2 = 1 := by omega
    rcases hd with rfl | rfl | rfl | rfl | rfl <;> rcases h2 with e | e <;> simp [bk, frm, e]
  | m + 1, i => by
    have ih := frm_bk hd m (i + 1)
    have h2 : i % 2 = 0 ∨ i % 2 = 1 := by omega
    have h3 : m % 2 = 0 ∨ m % 2 = 1 := by omega
    generalize hx : (bk (per d) (i + 1) m).1 = x at ih
    generalize hy : (bk (per d) (i + 1) m).2 = y at ih
    simp only [bk, hx, hy]
    have e1 : frm d (i % 2) (ai (per d) i * x + y) x = - frm d ((i + 1) % 2) x y := by
      rcases hd with rfl | rfl | rfl | rfl | rfl
      · simp only [frm, ai, per, if_pos, List.length_cons, List.length_nil, Nat.zero_add, Nat.mod_one, List.getD_cons_zero]; grind
      · rcases h2 with e | e
        · have e' : (i + 1) % 2 = 1 := by omega
          simp [frm, ai, per, e, e']; grind
        · have e' : (i + 1) % 2 = 0 := by omega
          simp [frm, ai, per, e, e']; grind
      · simp [frm, ai, per, Nat.mod_one]; grind
      · rcases h2 with e | e
        · have e' : (i + 1) % 2 = 1 := by omega
          simp [frm, ai, per, e, e']; grind
        · have e' : (i + 1) % 2 = 0 := by omega
          simp [frm, ai, per, e, e']; grind
      · simp [frm, ai, per, Nat.mod_one]; grind
    rw [e1]
    rcases h3 with e | e
    · rw [if_pos e] at ih
      rw [if_neg (by omega)]; omega
    · rw [if_neg (by omega)] at ih
      rw [if_pos (by omega)]; omega
def sw (w : Nat → Int) : Nat → List Int → Int
  | _, [] => 0
  | i, d :: ds => d * w i + sw w (i + 1) ds
def Vs (p : List Int) : Int → Int → Nat → List Int → Int
  | _, _, _, [] => 0
  | x, y, i, d :: ds => d * y - Vs p y (x - ai p i * y) (i + 1) ds
def Bnd (p : List Int) : Nat → List Int → Prop
  | _, [] => True
  | i, d :: ds => (0 ≤ d ∧ d ≤ ai p i) ∧ Bnd p (i + 1) ds
theorem vs_bd {p : List Int} (h : ∀ i, 1 ≤ ai p i) : ∀ ds m i, Bnd p i ds → ds.length + 1 ≤ m → -(bk p i m).2 < Vs p (bk p i m).1 (bk p i m).2 i ds ∧ Vs p (bk p i m).1 (bk p i m).2 i ds < (bk p i m).1
  | [], m, i, _, hm => by
    have ⟨a, b, c⟩ := bk_pos h m i
    have := c (by simpa using hm)
    simp only [Vs]; omega
  | d :: ds, 0, i, _, hm => by simp at hm
  | d :: ds, m + 1, i, hB, hm => by
    have ⟨⟨d0, d1⟩, hB'⟩ := hB
    have ih := vs_bd h ds m (i + 1) hB' (by simpa using hm)
    have e : (bk p i (m + 1)).1 - ai p i * (bk p i (m + 1)).2 = (bk p (i + 1) m).2 := by simp only [bk]; omega
    have e2 : (bk p i (m + 1)).2 = (bk p (i + 1) m).1 := rfl
    simp only [Vs]
    rw [e, e2]
    have ⟨a, b, c⟩ := bk_pos h m (i + 1)
    have e3 : (bk p i (m + 1)).1 = ai p i * (bk p (i + 1) m).1 + (bk p (i + 1) m).2 := rfl
    rw [e3]
    have h1 : d * (bk p (i + 1) m).1 ≤ ai p i * (bk p (i + 1) m).1 := Int.mul_le_mul_of_nonneg_right d1 (by omega)
    have h2 : 0 ≤ d * (bk p (i + 1) m).1 := Int.mul_nonneg d0 (by omega)
    omega
/-- 0: all are zero; 1: the first place above 0 is even; -1: it is odd. -/
def lead : List Int → Int
  | [] => 0
  | d :: ds => if 0 < d then 1 else - lead ds
theorem vs_sg {p : List Int} (h : ∀ i, 1 ≤ ai p i) : ∀ ds m i, Bnd p i ds → ds.length + 1 ≤ m → (lead ds = 0 ∧ Vs p (bk p i m).1 (bk p i m).2 i ds = 0) ∨ (lead ds = 1 ∧ 0 < Vs p (bk p i m).1 (bk p i m).2 i ds) ∨ (lead ds = -1 ∧ Vs p (bk p i m).1 (bk p i m).2 i ds < 0)
  | [], m, i, _, hm => .inl ⟨rfl, rfl⟩
  | d :: ds, 0, i, _, hm => by simp at hm
  | d :: ds, m + 1, i, hB, hm => by
    have ⟨⟨d0, d1⟩, hB'⟩ := hB
    have ih := vs_sg h ds m (i + 1) hB' (by simpa using hm)
    have bd := vs_bd h ds m (i + 1) hB' (by simpa using hm)
    have e : (bk p i (m + 1)).1 - ai p i * (bk p i (m + 1)).2 = (bk p (i + 1) m).2 := by simp only [bk]; omega
    have e2 : (bk p i (m + 1)).2 = (bk p (i + 1) m).1 := rfl
    simp only [Vs, lead]
    rw [e, e2]
    have ⟨a, b, c⟩ := bk_pos h m (i + 1)
    by_cases hd : 0 < d
    · rw [if_pos hd]
      have h1 : 1 * (bk p (i + 1) m).1 ≤ d * (bk p (i + 1) m).1 := Int.mul_le_mul_of_nonneg_right (by omega) (by omega)
      refine .inr (.inl ⟨rfl, by omega⟩)
    · rw [if_neg hd]
      have : d = 0 := by omega
      subst this
      rw [Int.zero_mul]
      omega
theorem vs_lin {p : List Int} : ∀ ds (i : Nat) (e P Q : Int), Vs p (-e * ((stp p i).1 * P - (ptp p i).1 * Q)) (e * ((stp p i).2 * P - (ptp p i).2 * Q)) i ds = e * (sw (qn p) i ds * P - sw (pn p) i ds * Q)
  | [], i, e, P, Q => by simp [Vs, sw]
  | d :: ds, i, e, P, Q => by
    have ih := vs_lin (p := p) ds (i + 1) (-e) P Q
    simp only [Vs, sw]
    have e1 : -e * ((stp p i).1 * P - (ptp p i).1 * Q) - ai p i * (e * ((stp p i).2 * P - (ptp p i).2 * Q)) = -e * ((stp p (i + 1)).2 * P - (ptp p (i + 1)).2 * Q) := by
      simp only [stp, ptp]; grind
    have e2 : e * ((stp p i).2 * P - (ptp p i).2 * Q) = - -e * ((stp p (i + 1)).1 * P - (ptp p (i + 1)).1 * Q) := by
      simp only [stp, ptp]; grind
    rw [e1]
    have e3 : Vs p (e * ((stp p i).2 * P - (ptp p i).2 * Q)) (-e * ((stp p (i + 1)).2 * P - (ptp p (i + 1)).2 * Q)) (i + 1) ds = -e * (sw (qn p) (i + 1) ds * P - sw (pn p) (i + 1) ds * Q) := by
      rw [← ih, e2]
    rw [e3]
    simp only [qn, pn]; grind
theorem vs_tot {p : List Int} (ds : List Int) (P Q : Int) : Vs p Q P 0 ds = sw (qn p) 0 ds * P - sw (pn p) 0 ds * Q := by
  have := vs_lin (p := p) ds 0 1 P Q
  simp only [stp, ptp] at this
  have e1 : (-1 : Int) * (0 * P - 1 * Q) = Q := by omega
  have e2 : (1 : Int) * (1 * P - 0 * Q) = P := by omega
  rw [e1, e2, Int.one_mul] at this
  exact this
theorem sw_add (p : List Int) (ds : List Int) : ∀ i, sw (fun j => qn p (j + p.length)) i ds = (stp p p.length).2 * sw (qn p) i ds + (stp p p.length).1 * sw (pn p) i ds := by
  have h : ∀ j, stp p (j + p.length) = ((stp p p.length).2 * (stp p j).1 + (stp p p.length).1 * (ptp p j).1, (stp p p.length).2 * (stp p j).2 + (stp p p.length).1 * (ptp p j).2) := by
    intro j
    induction j with
    | zero => simp [stp, ptp]
    | succ n ih =>
      have e : n + 1 + p.length = (n + p.length) + 1 := by omega
      rw [e]
      simp only [stp, ptp, ih, ai_add]
      refine Prod.ext rfl ?_
      simp only []
      grind
  induction ds with
  | nil => intro i; simp [sw]
  | cons d ds ih =>
    intro i
    simp only [sw, ih (i + 1)]
    have : qn p (i + p.length) = (stp p p.length).2 * (stp p i).2 + (stp p p.length).1 * (ptp p i).2 := by unfold qn; rw [h]
    rw [this]; simp only [qn, pn]; grind
end RF

namespace RF
def bI (d : Int) : Int := if d = 6 then -2 else if d = 13 then -3 else -1
def bK (d : Int) : Int := if d = 5 then 2 else if d = 13 then 2 else 1
theorem frm0 {d : Int} (hd : Root d) (x y : Int) : frm d 0 x y = (bK d * y - bI d * x) * (bK d * y - bI d * x) - d * (x * x) := by
  rcases hd with rfl | rfl | rfl | rfl | rfl <;> simp [frm, bK, bI] <;> grind
theorem bK_pos {d : Int} (hd : Root d) : 1 ≤ bK d := by rcases hd with rfl | rfl | rfl | rfl | rfl <;> decide
theorem bI_neg {d : Int} (hd : Root d) : bI d ≤ -1 := by rcases hd with rfl | rfl | rfl | rfl | rfl <;> decide
theorem lead_zero {p : List Int} {w : Nat → Int} : ∀ ds i, Bnd p i ds → lead ds = 0 → sw w i ds = 0
  | [], _, _, _ => rfl
  | d :: ds, i, hB, h => by
    unfold lead at h
    by_cases hd : 0 < d
    · rw [if_pos hd] at h; omega
    · rw [if_neg hd] at h
      have : d = 0 := by have := hB.1.1; omega
      subst this
      simp only [sw, Int.zero_mul, Int.zero_add]
      exact lead_zero ds (i + 1) hB.2 (by omega)
theorem sw_nn {p : List Int} {w : Nat → Int} (hw : ∀ i, 0 ≤ w i) : ∀ ds i, Bnd p i ds → 0 ≤ sw w i ds
  | [], _, _ => by simp [sw]
  | d :: ds, i, hB => by
    have := Int.mul_nonneg hB.1.1 (hw i)
    have := sw_nn hw ds (i + 1) hB.2
    simp only [sw]; omega
theorem mul_sq (a b : Int) : (a * b) * (a * b) = (a * a) * (b * b) := by grind
theorem flb {d : Int} (hd : Root d) (ds : List Int) (hB : Bnd (per d) 0 ds) :
    sw (pn (per d)) 0 ds - (if lead ds = -1 then 1 else 0) = (bI d * sw (qn (per d)) 0 ds + rt (sw (qn (per d)) 0 ds * sw (qn (per d)) 0 ds * d)) / bK d := by
  have ha : ∀ i, 1 ≤ ai (per d) i := fun i => (ai_pos hd i).1
  have hk := bK_pos hd
  have hi := bI_neg hd
  have hdp := hd.pos
  by_cases h0 : lead ds = 0
  · rw [lead_zero ds 0 hB h0, lead_zero ds 0 hB h0, if_neg (by omega)]
    have : rt (0 * 0 * d) = 0 := by
      rw [show (0 * 0 * d : Int) = 0 by simp]
      exact (rt_uniq (by decide) (by decide) (by decide) (by decide)).symm
    rw [this]; simp
  · have n0 : 0 ≤ sw (qn (per d)) 0 ds := sw_nn (fun i => by have := qn_pos ha i; omega) ds 0 hB
    have key : ∀ m, ds.length + 1 ≤ m → (sw (pn (per d)) 0 ds - (if lead ds = -1 then 1 else 0)) * (bk (per d) 0 m).1 < sw (qn (per d)) 0 ds * (bk (per d) 0 m).2 ∧ sw (qn (per d)) 0 ds * (bk (per d) 0 m).2 < (sw (pn (per d)) 0 ds - (if lead ds = -1 then 1 else 0) + 1) * (bk (per d) 0 m).1 := by
      intro m hm
      have b1 := vs_bd ha ds m 0 hB hm
      have b2 := vs_sg ha ds m 0 hB hm
      rw [vs_tot] at b1 b2
      have le := bk_le ha m 0
      generalize (bk (per d) 0 m).1 = Q at *
      generalize (bk (per d) 0 m).2 = P at *
      generalize sw (pn (per d)) 0 ds = s at *
      generalize sw (qn (per d)) 0 ds = n at *
      rcases b2 with ⟨e, _⟩ | ⟨e, h⟩ | ⟨e, h⟩
      · exact absurd e h0
      · rw [e, if_neg (by decide)]
        rw [Int.sub_zero, Int.add_mul]
        omega
      · rw [e, if_pos rfl, Int.sub_mul, Int.sub_add_cancel]
        omega
    generalize sw (pn (per d)) 0 ds - (if lead ds = -1 then 1 else 0) = F at *
    generalize sw (qn (per d)) 0 ds = n at *
    have nn : 0 ≤ n * n * d := Int.mul_nonneg (Int.mul_nonneg n0 n0) (by omega)
    have t0 := rt_nn (n * n * d)
    have t1 := rt_le nn
    have t2 := rt_lt nn
    generalize rt (n * n * d) = t at *
    have h1 : bK d * F - bI d * n ≤ t := by
      refine Int.not_lt.mp fun hlt => ?_
      have ⟨k1, _⟩ := key (2 * (ds.length + 1)) (by omega)
      have f1 := frm_bk hd (2 * (ds.length + 1)) 0
      rw [if_pos (by omega), Nat.zero_mod, frm0 hd] at f1
      have ⟨q1, p0, _⟩ := bk_pos ha (2 * (ds.length + 1)) 0
      generalize (bk (per d) 0 (2 * (ds.length + 1))).1 = Q at *
      generalize (bk (per d) 0 (2 * (ds.length + 1))).2 = P at *
      generalize bK d = k at *
      generalize bI d = i at *
      have e1 : (k * F - i * n) * Q < n * (k * P - i * Q) := by
        have := Int.mul_lt_mul_of_pos_left k1 (show 0 < k by omega)
        have e : n * (k * P - i * Q) = k * (n * P) - i * n * Q := by grind
        have e' : (k * F - i * n) * Q = k * (F * Q) - i * n * Q := by grind
        omega
      have e2 : ((k * F - i * n) * Q) * ((k * F - i * n) * Q) < (n * (k * P - i * Q)) * (n * (k * P - i * Q)) := sq_lt (Int.mul_nonneg (by omega) (by omega)) e1
      rw [mul_sq, mul_sq] at e2
      have e3 : (n * n) * ((k * P - i * Q) * (k * P - i * Q)) ≤ (n * n) * (d * (Q * Q)) := Int.mul_le_mul_of_nonneg_left (by omega) (Int.mul_nonneg n0 n0)
      have e4 : (n * n) * (d * (Q * Q)) = (n * n * d) * (Q * Q) := by grind
      have e5 : (k * F - i * n) * (k * F - i * n) < n * n * d := Int.lt_of_mul_lt_mul_right (by omega) (sq_nonneg Q)
      have e6 : (t + 1) * (t + 1) ≤ (k * F - i * n) * (k * F - i * n) := sq_le (by omega) (by omega)
      omega
    have h2 : t < bK d * (F + 1) - bI d * n := by
      have ⟨_, k1⟩ := key (2 * (ds.length + 1) + 1) (by omega)
      have f1 := frm_bk hd (2 * (ds.length + 1) + 1) 0
      rw [if_neg (by omega), Nat.zero_mod, frm0 hd] at f1
      have ⟨q1, p0, _⟩ := bk_pos ha (2 * (ds.length + 1) + 1) 0
      generalize (bk (per d) 0 (2 * (ds.length + 1) + 1)).1 = Q at *
      generalize (bk (per d) 0 (2 * (ds.length + 1) + 1)).2 = P at *
      generalize bK d = k at *
      generalize bI d = i at *
      have e1 : n * (k * P - i * Q) < (k * (F + 1) - i * n) * Q := by
        have := Int.mul_lt_mul_of_pos_left k1 (show 0 < k by omega)
        have e : n * (k * P - i * Q) = k * (n * P) - i * n * Q := by grind
        have e' : (k * (F + 1) - i * n) * Q = k * ((F + 1) * Q) - i * n * Q := by grind
        omega
      have g0 : 0 ≤ k * P - i * Q := by
        have := Int.mul_nonneg (show 0 ≤ k by omega) p0
        have := Int.mul_nonneg (show 0 ≤ -i by omega) (show 0 ≤ Q by omega)
        rw [Int.neg_mul] at this
        omega
      have g1 := Int.mul_nonneg n0 g0
      have gp : 0 < k * (F + 1) - i * n := Int.not_le.mp fun hle => by
        have := Int.mul_nonneg (show 0 ≤ -(k * (F + 1) - i * n) by omega) (show 0 ≤ Q by omega)
        rw [Int.neg_mul] at this
        omega
      have e2 := sq_lt g1 e1
      rw [mul_sq, mul_sq] at e2
      have e3 : (n * n) * (d * (Q * Q)) ≤ (n * n) * ((k * P - i * Q) * (k * P - i * Q)) := Int.mul_le_mul_of_nonneg_left (by omega) (Int.mul_nonneg n0 n0)
      have e4 : (n * n) * (d * (Q * Q)) = (n * n * d) * (Q * Q) := by grind
      have e5 : n * n * d < (k * (F + 1) - i * n) * (k * (F + 1) - i * n) := Int.lt_of_mul_lt_mul_right (by omega) (sq_nonneg Q)
      exact lt_of_sq (by omega) (by omega)
    symm
    refine (Int.ediv_emod_unique (a := bI d * n + t) (b := bK d) (r := bI d * n + t - bK d * F) (q := F) (by omega)).mpr ⟨by omega, by omega, ?_⟩ |>.1
    rw [Int.mul_add] at h2; omega
/-- The digits of a number below q(m), the least place first. -/
def dg (p : List Int) : Nat → Int → List Int
  | 0, _ => []
  | m + 1, r => dg p m (r % qn p m) ++ [r / qn p m]
def Can (p : List Int) : Nat → Int → List Int → Prop
  | _, _, [] => True
  | i, lo, d :: ds => (0 ≤ d ∧ d ≤ ai p i ∧ (i = 0 ∨ lo ≠ 0 → d ≤ ai p i - 1)) ∧ Can p (i + 1) d ds
theorem can_bnd {p : List Int} : ∀ ds i lo, Can p i lo ds → Bnd p i ds
  | [], _, _, _ => trivial
  | _ :: ds, i, _, h => ⟨⟨h.1.1, h.1.2.1⟩, can_bnd ds (i + 1) _ h.2⟩
theorem can_snoc {p : List Int} {d : Int} : ∀ l i lo, Can p i lo l → (0 ≤ d ∧ d ≤ ai p (i + l.length) ∧ (i + l.length = 0 ∨ l.getLastD lo ≠ 0 → d ≤ ai p (i + l.length) - 1)) → Can p i lo (l ++ [d])
  | [], i, lo, _, h => ⟨by simpa using h, trivial⟩
  | c :: l, i, lo, hc, h => by
    refine ⟨hc.1, can_snoc l (i + 1) c hc.2 ?_⟩
    have e : i + (c :: l).length = i + 1 + l.length := by simp; omega
    rw [e] at h
    have e2 : (c :: l).getLastD lo = l.getLastD c := by cases l <;> rfl
    rw [e2] at h
    exact h
theorem sw_snoc {w : Nat → Int} {d : Int} : ∀ l i, sw w i (l ++ [d]) = sw w i l + d * w (i + l.length)
  | [], i => by simp [sw]
  | c :: l, i => by
    have e : i + (c :: l).length = i + 1 + l.length := by simp; omega
    rw [e]
    simp only [List.cons_append, sw, sw_snoc l (i + 1)]
    omega
theorem dg_len {p : List Int} : ∀ m r, (dg p m r).length = m
  | 0, _ => rfl
  | m + 1, r => by simp [dg, dg_len m]
theorem dg_ok {p : List Int} (h : ∀ i, 1 ≤ ai p i) : ∀ m r, 0 ≤ r → r < qn p m → Can p 0 0 (dg p m r) ∧ sw (qn p) 0 (dg p m r) = r
  | 0, r, r0, r1 => ⟨trivial, by
      have : qn p 0 = 1 := rfl
      simp only [dg, sw]; omega⟩
  | m + 1, r, r0, r1 => by
    have q1 := qn_pos h m
    have m0 := Int.emod_nonneg r (show qn p m ≠ 0 by omega)
    have m1 := Int.emod_lt_of_pos r (show 0 < qn p m by omega)
    have ⟨c, s⟩ := dg_ok h m (r % qn p m) m0 m1
    have de := Int.emod_add_mul_ediv r (qn p m)
    have d0 : 0 ≤ r / qn p m := Int.ediv_nonneg r0 (by omega)
    have ex : qn p (m + 1) = ai p m * qn p m + (stp p m).1 := rfl
    have st := stp_pos h m
    have st3 : (stp p m).1 ≤ qn p m := st.2.2
    have d1 : r / qn p m ≤ ai p m := by
      refine Int.not_lt.mp fun hl => ?_
      have := Int.mul_le_mul_of_nonneg_left (show ai p m + 1 ≤ r / qn p m by omega) (show 0 ≤ qn p m by omega)
      rw [Int.mul_add] at this
      have e : qn p m * ai p m = ai p m * qn p m := Int.mul_comm _ _
      omega
    refine ⟨can_snoc _ 0 0 c ?_, ?_⟩
    · rw [dg_len, Nat.zero_add]
      refine ⟨d0, d1, fun hh => ?_⟩
      refine Int.not_lt.mp fun hl => ?_
      have e : r / qn p m = ai p m := by omega
      rw [e] at de
      have e : qn p m * ai p m = ai p m * qn p m := Int.mul_comm _ _
      have lt : r % qn p m < (stp p m).1 := by omega
      cases m with
      | zero => simp only [stp] at lt; omega
      | succ k =>
        have e1 : (stp p (k + 1)).1 = qn p k := rfl
        rw [e1] at lt
        rcases hh with hh | hh
        · omega
        · refine hh ?_
          simp only [dg]
          rw [List.getLastD_concat]
          exact Int.ediv_eq_zero_of_lt m0 lt
    · simp only [dg]
      rw [sw_snoc, s, dg_len, Nat.zero_add]
      have e : qn p m * (r / qn p m) = r / qn p m * qn p m := Int.mul_comm _ _
      omega
end RF

namespace RF
theorem qn_mono1 {p : List Int} (h : ∀ i, 1 ≤ ai p i) (i : Nat) : qn p i ≤ qn p (i + 1) := (stp_pos h (i + 1)).2.2
theorem qn_mono {p : List Int} (h : ∀ i, 1 ≤ ai p i) {i j : Nat} (hij : i ≤ j) : qn p i ≤ qn p j := by
  induction j with
  | zero => have : i = 0 := by omega
            subst this; omega
  | succ j ih =>
    rcases Nat.lt_or_ge i (j + 1) with hl | hg
    · have := ih (by omega)
      have := qn_mono1 h j
      omega
    · have : i = j + 1 := by omega
      subst this; omega
theorem qn_dbl {p : List Int} (h : ∀ i, 1 ≤ ai p i) (i : Nat) : 2 * qn p i ≤ qn p (i + 2) := by
  have h1 : 1 * (stp p (i + 1)).2 ≤ ai p (i + 1) * (stp p (i + 1)).2 := Int.mul_le_mul_of_nonneg_right (h (i + 1)) (by have := (stp_pos h (i + 1)).2.1; omega)
  have e : qn p (i + 2) = ai p (i + 1) * (stp p (i + 1)).2 + (stp p i).2 := rfl
  have := qn_mono1 h i
  rw [e]
  unfold qn at *
  omega
theorem qn_pow {p : List Int} (h : ∀ i, 1 ≤ ai p i) : ∀ i : Nat, (2 : Int) ^ i ≤ qn p (2 * i)
  | 0 => by simp [qn, stp]
  | i + 1 => by
    have := qn_pow h i
    have := qn_dbl h (2 * i)
    rw [Int.pow_succ]
    have e : 2 * (i + 1) = 2 * i + 2 := by omega
    rw [e]; omega
theorem steps_le {p : List Int} (h : ∀ i, 1 ≤ ai p i) {n : Int} (hn : n < 2 ^ 133) {m : Nat} (hm : qn p m ≤ n) : m < 266 := by
  refine Nat.not_le.mp fun hl => ?_
  have h1 := qn_pow h 133
  have h2 := qn_mono h (show 2 * 133 ≤ m by omega)
  omega
theorem qn_bd {p : List Int} (h : ∀ i, 1 ≤ ai p i ∧ ai p i ≤ 4) (i : Nat) : qn p i ≤ 8 ^ i ∧ (stp p i).1 ≤ 8 ^ i := by
  induction i with
  | zero => simp [qn, stp]
  | succ i ih =>
    obtain ⟨a, b⟩ := ih
    have ⟨s1, s2, s3⟩ := stp_pos (fun i => (h i).1) i
    have h1 : ai p i * (stp p i).2 ≤ 4 * (stp p i).2 := Int.mul_le_mul_of_nonneg_right (h i).2 (by omega)
    have e : qn p (i + 1) = ai p i * (stp p i).2 + (stp p i).1 := rfl
    have e2 : (stp p (i + 1)).1 = (stp p i).2 := rfl
    rw [Int.pow_succ, e, e2]
    unfold qn at a
    omega
theorem qn_bd' {p : List Int} (h : ∀ i, 1 ≤ ai p i ∧ ai p i ≤ 4) {i : Nat} (hi : i ≤ 280) : Bd 841 (qn p i) := by
  have h1 := (qn_bd h i).1
  have h2 := qn_pos (fun i => (h i).1) i
  have h3 : (8 : Int) ^ i ≤ 8 ^ 280 := by exact_mod_cast Nat.pow_le_pow_right (by decide : 0 < 8) hi
  unfold Bd
  have h4 : ((qn p i).natAbs : Int) < 2 ^ 841 := by
    have : (8 : Int) ^ 280 < 2 ^ 841 := by decide +kernel
    omega
  exact_mod_cast h4
end RF

namespace RF
open PySem L2 PyProof.Rows
/-! ### a written dict with int keys: its values; tuples of the module -/
def IDct (K : PySem.W.Frag) (d : Addr) (i : Int) (v : V) : Prop :=
  ∃ es n ks u, K.lookup d = some ⟨.type "dict", none, .dict es n, #[]⟩ ∧ okE es.toList ks = true ∧ findBy Value.isInt es i = some u ∧ RelV v u
def rIxI (K : PySem.W.Frag) : R2 := fun x y H Q => ∃ p i v, x = .ref p ∧ y = .int i ∧ IDct K p i v ∧ Q v H
theorem ix_intd {X : Cx} : IxR X (rIxI X.K) := by
  intro value slice pins s σ H x y v u Q I rx ry h hs
  obtain ⟨p, i, r, rfl, rfl, ⟨es, n, ks, u0, hl, he, e, ru⟩, q⟩ := h
  obtain rfl : v = Value.ref p := rx
  obtain ⟨t, rfl⟩ := ry
  have hm : s.heap.MapOf (intKind X.prog X.w) p (fun k => findBy Value.isInt es k) := ⟨_, es, n, I.kIn _ _ hl, ⟨rfl, rfl, rfl⟩, rfl, fun e hh => by
    obtain ⟨k, t, _, e1, e2⟩ := okE_mem he e (Array.mem_toList_iff.mpr hh)
    exact ⟨k, by rw [e1]; show Value.isInt k (.int k t) = true; simp [Value.isInt], e2⟩, fun _ => rfl⟩
  exact tail_any hm.typeIs slot_dict_getitem.lookup (wpAny_getItem_of (k := i) (by show Value.isInt i (.int i t) = true; simp [Value.isInt]) hm e ⟨r, H, I.tok _, ru, q⟩) hs
def TupI (K : PySem.W.Frag) (t : Addr) (p : List Int) : Prop :=
  ∃ (o : Obj) (its : Array Value) (n : Nat), K.lookup t = some o ∧ o.cls = .type "tuple" ∧ o.data = .seq its n ∧ its.size ≤ sizeLine ∧ Vals (p.map V.int) its.toList
theorem TupI.sq {K : PySem.W.Frag} {H : Hp} {t : Addr} {p : List Int} (h : TupI K t p) : SqT K H t (p.map V.int) := .inr h
/-- a period: one to three parts, from 1 to 4 -/
structure Per (p : List Int) : Prop where
  len : 0 < p.length ∧ p.length ≤ 3
  bd : ∀ i, 1 ≤ ai p i ∧ ai p i ≤ 4
theorem Per.one {p : List Int} (h : Per p) (i : Nat) : 1 ≤ ai p i := (h.bd i).1
theorem ai_at {p : List Int} (h : Per p) (i : Nat) : (p.map V.int)[i % p.length]? = some (.int (ai p i)) := by
  have hl : i % p.length < p.length := Nat.mod_lt _ h.len.1
  rw [List.getElem?_map, List.getElem?_eq_getElem hl]
  unfold ai
  rw [List.getD_eq_getElem?_getD, List.getElem?_eq_getElem hl]
  rfl
theorem ai_atI {p : List Int} (h : Per p) (i : Nat) : atI (p.map V.int) ((i : Int) % (((p.map V.int).length : Nat) : Int)) = some (.int (ai p i)) := by
  rw [List.length_map, ← Int.natCast_emod]
  exact atI_nat (ai_at h i)
theorem sm_upd {H H1 : Hp} {a : Addr} {o : HO} (s : Same H H1) (h : H a = none) : Same H (upd H1 a o) := fun b u e => by
  have hne : b ≠ a := fun z => by rw [z, h] at e; cases e
  rw [upd_ne hne]
  exact s b u e
def spPart (K : PySem.W.Frag) : Sp := fun vs H Q _ => ∃ (t : Addr) (p : List Int) (i : Nat), vs = [.ref t, .int (i : Int)] ∧ TupI K t p ∧ Per p ∧ Q (.int (ai p i)) H
def qs (p : List Int) (m : Nat) : List V := (List.range m).map fun i => V.int (qn p i)
def spSteps (K : PySem.W.Frag) : Sp := fun vs H Q _ => ∃ (t : Addr) (p : List Int) (n : Int), vs = [.ref t, .int n] ∧ TupI K t p ∧ Per p ∧ 0 ≤ n ∧ n < 2 ^ 133 ∧
  ∀ m a H', m ≤ 266 → n < qn p m → H a = none → H' a = some (.lst (qs p m)) → Same H H' → Q (.ref a) H'
def spCan (K : PySem.W.Frag) : Sp := fun vs H Q _ => ∃ (t : Addr) (p : List Int) (i : Nat) (d lo : Int), vs = [.ref t, .int (i : Int), .int d, .int lo] ∧ TupI K t p ∧ Per p ∧
  Q (.bl (btw (.int d) 0 (if i = 0 ∨ lo ≠ 0 then ai p i - 1 else ai p i))) H
section
variable {P : Program} {w : World} {K : PySem.W.Frag} {mg : Str → Option Value} {base : Heap}
abbrev s_part_above : Stmt := top 28
abbrev n_part_above : List Str := ["period", "place"]
theorem sc_part_above : FnScope n_part_above ["period", "place"] (defScope s_part_above) := ⟨rfl, rfl, rfl, by decide +kernel, rfl, by decide +kernel, by decide +kernel⟩
theorem ok_part {f : Addr} {fd : FuncData} {k : Nat} (F : Fun K "_part_above" "_part_above" s_part_above f fd) (T : mg "len" = none) : FnOk P w K mg base CX0 (k + 1) f fd ["period", "place"] (spPart K) := by
  refine F.ok sc_part_above (fun vs H Q E h => ?_) (fun cdv A outer s H vs Q E hr h => ?_)
  · obtain ⟨t, p, i, rfl, _⟩ := h
    rfl
  · obtain ⟨t, p, i, rfl, hT, hp, q⟩ := h
    refine ⟨_, (pss_one (ps_ret (pe_ix ix_tup (pv 0) (pe_op op_mod (pv 1) (pe_callB call_len_seq (by rfl) T PySem.boot_len (pa_cons (pv 0) pa_nil))) (fun _ _ => rfl)))), ?_⟩
    have hl := hp.len
    exact ⟨_, rfl, _, rfl, _, rfl, t, _, rfl, .inr hT.sq, _, _, rfl, rfl, (by show (0 : Int) < (((p.map V.int).length : Nat) : Int); rw [List.length_map]; omega), t, _, _, _, rfl, rfl, hT.sq, ai_atI hp i, q⟩
abbrev s_steps_within : Stmt := top 30
abbrev n_steps_within : List Str := ["period", "number", "steps", "before", "here", "part"]
theorem sc_steps_within : FnScope n_steps_within ["period", "number"] (defScope s_steps_within) := ⟨rfl, rfl, rfl, by decide +kernel, rfl, by decide +kernel, by decide +kernel⟩
theorem qs_len (p : List Int) (m : Nat) : (qs p m).length = m := by simp [qs]
theorem qs_snoc (p : List Int) (m : Nat) : qs p m ++ [.int (qn p m)] = qs p (m + 1) := by simp [qs, List.range_succ]
theorem ok_steps {f : Addr} {fd : FuncData} {k : Nat} (F : Fun K "_steps_within" "_steps_within" s_steps_within f fd) (T : mg "len" = none) (D1 : Df P w K mg base k "_part_above" ["period", "place"] (spPart K)) : FnOk P w K mg base CX0 (k + 1) f fd ["period", "number"] (spSteps K) := by
  refine F.ok sc_steps_within (fun vs H Q E h => ?_) (fun cdv A outer s H vs Q E hr h => ?_)
  · obtain ⟨t, p, n, rfl, _⟩ := h
    rfl
  · obtain ⟨t, p, n, rfl, hT, hp, n0, n1, q⟩ := h
    have nd := sc_steps_within.nd
    refine ⟨_, (pss_cons (ps_set (i := 2) nd rfl (Or.inl rfl) (pe_lst pa_nil))
      (pss_cons (ps_asg (pe_tup (pa_cons pe_int (pa_cons pe_int pa_nil))) (pg_tup rfl (pgs_cons (pg_name (i := 3) nd rfl (Or.inl rfl)) (pgs_cons (pg_name (i := 4) nd rfl (Or.inl rfl)) pgs_nil))))
      (pss_cons (ps_while PassesOwn.never (pt_cmpR op_le (pv 4) (pv 1) (nomark _))
      (pss_cons (ps_set (i := 5) nd rfl (Or.inl rfl) (pe_callD D1 hr (Nat.le_refl _) (pa_cons (pv 0) (pa_cons (pe_callB call_len_seq (by rfl) T PySem.boot_len (pa_cons (pv 2) pa_nil)) pa_nil))))
        (pss_cons (ps_expr (pe_bm PySem.F.plainAttrs_list PySem.F.slot_list_append PySem.F.type_list_append mt_append (pv 2) (pa_cons (pv 4) pa_nil)))
        (pss_one (ps_par (i := 3) (j := 4) rfl nd rfl rfl (by decide) rfl rfl (pa_cons (pv 4) (pa_cons (pe_op op_add (pe_op op_mulW (pv 5) (pv 4)) (pv 3)) pa_nil)) (by kernel_rfl))))))
      (pss_one (ps_ret (pv 2)))))), ?_⟩
    refine ⟨by show 0 ≤ sizeLine; decide, fun a ha => ?_⟩
    refine ⟨by show 2 ≤ sizeLine; decide, fun b hb => ⟨b, _, rfl, SqT.of upd_same, rfl, _, _, rfl, _, _, rfl, rfl, ?_⟩⟩
    refine while_by (fun σ H' => ∃ (m : Nat) (v : Option V), σ = [some (.ref t), some (.int n), some (.ref a), some (.int (stp p m).1), some (.int (qn p m)), v] ∧ m ≤ 266 ∧ H' a = some (.lst (qs p m)) ∧ Same H H')
      (fun σ _ => match σ with | [_, _, _, some (.int x), some (.int y), _] => (2 * n + 2 - x - y).toNat | _ => 0)
      ⟨0, none, rfl, by decide, by rw [upd_ne (ne_new hb).symm, upd_same]; rfl, sNew (sNew (Same.refl _) ha) hb⟩ ?_ ?_
    · rintro σ H1 ⟨m, v, rfl, hm, h1, sm⟩
      have sp := stp_pos hp.one m
      refine ⟨_, rfl, _, rfl, _, _, rfl, rfl, _, rfl, ite2 (fun h => ?_) (fun h => ?_)⟩
      · have hle : qn p m ≤ n := of_decide_eq_true h
        have hm1 := steps_le hp.one n1 hle
        refine ⟨_, rfl, _, rfl, a, _, rfl, .inl (SqL.of h1), t, p, (qs p m).length, rfl, hT, hp, ?_⟩
        rw [qs_len]
        refine ⟨_, rfl, .inl ⟨rfl, _, SqL.of h1⟩, _, rfl, a, _, _, rfl, rfl, h1, by rw [qs_len, sizeLine_eq]; omega, ?_⟩
        rw [qs_snoc]
        refine ⟨_, rfl, _, rfl, _, rfl, _, _, rfl, rfl, mulOk (n := 3) (m := 841) (Nat.lt_of_le_of_lt (show (ai p m).natAbs ≤ 4 by have := hp.bd m; omega) (by decide)) (qn_bd' hp.bd (by omega)) (by decide) (by decide) (by decide), _, rfl, _, _, rfl, rfl, _, _, rfl, ?_⟩
        refine ⟨⟨m + 1, _, rfl, by omega, upd_same, ?_⟩, ?_⟩
        · exact sm_upd sm ha
        · show (2 * n + 2 - qn p m - (ai p m * qn p m + (stp p m).1)).toNat < (2 * n + 2 - (stp p m).1 - qn p m).toNat
          have : 1 * qn p m ≤ ai p m * qn p m := Int.mul_le_mul_of_nonneg_right (hp.one m) (by have := qn_pos hp.one m; omega)
          have := qn_pos hp.one m
          have e : (stp p m).2 = qn p m := rfl
          rw [e] at sp
          omega
      · have hgt : n < qn p m := by
          have : ¬ qn p m ≤ n := fun z => h (decide_eq_true z)
          omega
        exact ⟨_, rfl, q m a H1 hm hgt ha h1 sm⟩
    · rintro σ H1 Q1 Q2 hq ⟨v, e1, v2, e2, i, j, e3, e4, b, e5, q⟩
      exact ⟨v, e1, v2, e2, i, j, e3, e4, b, e5, hq _ _ q⟩
abbrev s_can_stand : Stmt := top 31
abbrev n_can_stand : List Str := ["period", "place", "digit", "lower", "most"]
theorem sc_can_stand : FnScope n_can_stand ["period", "place", "digit", "lower"] (defScope s_can_stand) := ⟨rfl, rfl, rfl, by decide +kernel, rfl, by decide +kernel, by decide +kernel⟩
theorem ok_can {f : Addr} {fd : FuncData} {k : Nat} (F : Fun K "can_stand" "can_stand" s_can_stand f fd) (D1 : Df P w K mg base k "_part_above" ["period", "place"] (spPart K)) (D2 : Df P w K mg base k "is_between" ["value", "low", "high"] (spBtw K)) :
    FnOk P w K mg base CX0 (k + 1) f fd ["period", "place", "digit", "lower"] (spCan K) := by
  refine F.ok sc_can_stand (fun vs H Q E h => ?_) (fun cdv A outer s H vs Q E hr h => ?_)
  · obtain ⟨t, p, i, d, lo, rfl, _⟩ := h
    rfl
  · obtain ⟨t, p, i, d, lo, rfl, hT, hp, q⟩ := h
    have nd := sc_can_stand.nd
    refine ⟨_, (pss_cons (ps_set (i := 4) nd rfl (Or.inl rfl) (pe_callD D1 hr (Nat.le_refl _) (pa_cons (pv 0) (pa_cons (pv 1) pa_nil))))
      (C8.pss_cut (ps_if (pw_or (pt_cmpR op_eq (pv 1) pe_int (nomark _)) (pw_or1 (pt_cmpR op_ne (pv 3) pe_int (nomark _)))).pt
      (pss_one (ps_set (i := 4) nd rfl (Or.inl rfl) (pe_op op_sub (pv 4) pe_int)))
      pss_nil)
      (pss_one (ps_ret (pe_callD D2 hr (Nat.le_refl _) (pa_cons (pv 2) (pa_cons pe_int (pa_cons (pv 4) pa_nil)))))))), ?_⟩
    refine ⟨_, rfl, _, rfl, t, p, i, rfl, hT, hp, ?_⟩
    refine ⟨fun σ' H' => σ' = [some (.ref t), some (.int (i : Int)), some (.int d), some (.int lo), some (.int (if i = 0 ∨ lo ≠ 0 then ai p i - 1 else ai p i))] ∧ H' = H, ?_, ?_⟩
    · refine ⟨_, rfl, rfl, _, rfl, ?_⟩
      by_cases h0 : i = 0
      · refine iteP (by subst h0; rfl) ?_
        refine ⟨_, rfl, _, _, rfl, rfl, ?_, rfl⟩
        rw [if_pos (Or.inl h0)]
        rfl
      · refine iteN (nd_of (fun z => h0 (by cases z; rfl))) ?_
        refine ⟨_, rfl, rfl, _, rfl, ?_⟩
        by_cases h1 : lo = 0
        · refine iteN (by subst h1; simp) ?_
          refine ⟨?_, rfl⟩
          rw [if_neg (by rintro (z | z); exact h0 z; exact z h1)]
          rfl
        · refine iteP (by simpa using h1) ?_
          refine ⟨_, rfl, _, _, rfl, rfl, ?_, rfl⟩
          rw [if_pos (Or.inr h1)]
          rfl
    · rintro σ' H1 ⟨rfl, rfl⟩
      exact ⟨_, rfl, _, rfl, _, .int d, _, _, rfl, rfl, q⟩
end
end RF

namespace RF
open PySem L2 PyProof.Rows
theorem kRQ : ¬ (("_root" : Str) = "_period") := by decide +kernel
def ffl (d : Int) (t : Addr) : List (Str × V) := putF "_period" (.ref t) (putF "_root" (.int d) [])
theorem ffl_root (d : Int) (t : Addr) : (ffl d t).lookup ("_root" : Str) = some (.int d) := by
  unfold ffl
  rw [lookup_putF, if_neg kRQ, lookup_putF, if_pos rfl]
theorem ffl_per (d : Int) (t : Addr) : (ffl d t).lookup ("_period" : Str) = some (.ref t) := by
  unfold ffl
  rw [lookup_putF, if_pos rfl]
theorem ffl_no (d : Int) (t : Addr) {m : Str} (h1 : ¬ m = "_period") (h2 : ¬ m = "_root") : (ffl d t).lookup m = none := by
  unfold ffl
  rw [lookup_putF, if_neg h1, lookup_putF, if_neg h2]
  all_goals rfl
/-- at p: the field of the root d -/
def FldAt (K : PySem.W.Frag) (H : Hp) (C p : Addr) (d : Int) : Prop := ∃ dx t, H p = some (.ins C dx (ffl d t)) ∧ TupI K t (per d)
theorem FldAt.same {K : PySem.W.Frag} {H H' : Hp} {C p : Addr} {d : Int} (s : Same H H') (h : FldAt K H C p d) : FldAt K H' C p d := by
  obtain ⟨dx, t, h1, h2⟩ := h
  exact ⟨dx, t, s _ _ h1, h2⟩
theorem FldAt.kp {K : PySem.W.Frag} {H H' : Hp} {C p b : Addr} {d : Int} (B : Bag H b) (kp : Kp b H H') (h : FldAt K H C p d) : FldAt K H' C p d := by
  obtain ⟨dx, t, h1, h2⟩ := h
  exact ⟨dx, t, kp.at_ B h1 (fun _ z => by cases z), h2⟩
theorem FldAt.ins {K : PySem.W.Frag} {H : Hp} {C p : Addr} {d : Int} (h : FldAt K H C p d) : ∃ dx fs, H p = some (.ins C dx fs) ∧ ∀ m : Str, ¬ m = "_period" → ¬ m = "_root" → fs.lookup m = none := by
  obtain ⟨dx, t, h1, _⟩ := h
  exact ⟨dx, _, h1, fun m a b => ffl_no _ _ a b⟩
theorem perOk {d : Int} (h : Root d) : Per (per d) := ⟨by rcases h with rfl | rfl | rfl | rfl | rfl <;> decide, ai_pos h⟩
structure TxF (K : PySem.W.Frag) (mg : Str → Option Value) (C : Addr) : Prop where
  cl : Cls K C
  nR : NoAttr K C "_root"
  nP : NoAttr K C "_period"
  mg : mg "Field" = some (.ref C)
def PerK (K : PySem.W.Frag) (pd : Addr) : Prop := ∀ d, Root d → ∃ t, IDct K pd d (.ref t) ∧ TupI K t (per d)
def BasK (K : PySem.W.Frag) (pd : Addr) : Prop := ∀ d, Root d → ∃ t, IDct K pd d (.ref t) ∧ TupI K t [bI d, 1, bK d]
def spFInit (K : PySem.W.Frag) (C : Addr) : Sp := fun vs H Q _ => ∃ (p dx : Addr) (d : Int), vs = [.ref p, .int d] ∧ H p = some (.ins C dx []) ∧ Root d ∧
  ∀ H', FldAt K H' C p d → (∀ b o, H b = some o → b ≠ p → H' b = some o) → Q .non H'
def spNum (K : PySem.W.Frag) : Sp := fun vs H Q _ => ∃ (v : V) (d : D), vs = [v] ∧ Rp K H v d ∧ Q (.bl (btw d 0 (10 ^ 40 - 1))) H
def spDigits (K : PySem.W.Frag) (C : Addr) : Sp := fun vs H Q _ => ∃ (p : Addr) (d n : Int), vs = [.ref p, .int n] ∧ FldAt K H C p d ∧ Root d ∧ 0 ≤ n ∧ n < 10 ^ 40 ∧
  ∀ m a H', m ≤ 266 → n < qn (per d) m → H a = none → H' a = some (.lst ((dg (per d) m n).map V.int)) → Same H H' → Q (.ref a) H'
def spValue (K : PySem.W.Frag) (C : Addr) : Sp := fun vs H Q _ => ∃ (p l : Addr) (d : Int) (ds : List Int), vs = [.ref p, .ref l] ∧ FldAt K H C p d ∧ Root d ∧ SqL K H l (ds.map V.int) ∧ Can (per d) 0 0 ds ∧ ds.length ≤ 280 ∧
  ∀ H', Same H H' → Q (.int (sw (qn (per d)) 0 ds)) H'
def spBase (K : PySem.W.Frag) (C CS : Addr) : Sp := fun vs H Q _ => ∃ (p : Addr) (d : Int), vs = [.ref p] ∧ FldAt K H C p d ∧ Root d ∧
  ∀ q H', H q = none → SV H' CS q d (bI d) 1 (bK d) → Same H H' → Q (.ref q) H'
section
variable {P : Program} {w : World} {K : PySem.W.Frag} {mg : Str → Option Value} {base : Heap}
abbrev s_is_number : Stmt := top 15
abbrev n_is_number : List Str := ["value"]
theorem sc_is_number : FnScope n_is_number ["value"] (defScope s_is_number) := ⟨rfl, rfl, rfl, by decide +kernel, rfl, by decide +kernel, by decide +kernel⟩
theorem ok_num {f : Addr} {fd : FuncData} {k : Nat} (F : Fun K "is_number" "is_number" s_is_number f fd) (D1 : Df P w K mg base k "is_between" ["value", "low", "high"] (spBtw K)) : FnOk P w K mg base CX0 (k + 1) f fd ["value"] (spNum K) := by
  refine F.ok sc_is_number (fun vs H Q E h => ?_) (fun cdv A outer s H vs Q E hr h => ?_)
  · obtain ⟨v, d, rfl, _⟩ := h
    rfl
  · obtain ⟨v, d, rfl, hv, q⟩ := h
    refine ⟨_, (pss_one (ps_ret (pe_callD D1 hr (Nat.le_refl _) (pa_cons (pv 0) (pa_cons pe_int (pa_cons (pe_op op_sub (pe_op op_pow pe_int pe_int) pe_int) pa_nil)))))), ?_⟩
    exact ⟨_, rfl, _, _, rfl, rfl, ⟨by decide, by decide, by decide⟩, _, _, rfl, rfl, v, d, _, _, rfl, hv, q⟩
abbrev sF (i : Nat) : Stmt := inClass (top 27) i
abbrev n_FInit : List Str := ["self", "root"]
theorem sc_FInit : FnScope n_FInit ["self", "root"] (defScope (sF 1)) := ⟨rfl, rfl, rfl, by decide +kernel, rfl, by decide +kernel, by decide +kernel⟩
theorem ok_FInit {f C pd : Addr} {fd : FuncData} {k : Nat} (F : Fun K "__init__" "Field.__init__" (sF 1) f fd) (T : TxF K mg C) (mP : mg "PERIODS" = some (.ref pd)) (hP : PerK K pd)
    (D1 : Df P w K mg base k "is_root" ["value"] (spIsRoot K)) : FnOk P w K mg base CX0 (k + 1) f fd ["self", "root"] (spFInit K C) := by
  refine F.ok sc_FInit (fun vs H Q E h => ?_) (fun cdv A outer s H vs Q E hr h => ?_)
  · obtain ⟨p, dx, d, rfl, _⟩ := h
    rfl
  · obtain ⟨p, dx, d, rfl, hp, hd, q⟩ := h
    have nd := sc_FInit.nd
    refine ⟨_, PSs.nox (pss_cons (ps_if (pt_not (pt_val (pe_callD D1 hr (Nat.le_refl _) (pa_cons (pv 1) pa_nil))))
      (pss_one ps_never)
      pss_nil)
      (pss_cons (ps_fld (pv 0) (pv 1) rfl)
      (pss_one (ps_fld (pv 0) (pe_ix ix_intd (pe_glob (v := .ref pd) (by rfl) mP rfl) (pv 1) (fun _ _ => rfl)) rfl)))), ?_⟩
    have er : rootD (.int d) = true := decide_eq_true (by unfold Root at hd; simp; omega)
    obtain ⟨t, it, tt⟩ := hP d hd
    refine ⟨_, rfl, _, .int d, rfl, rfl, _, rfl, ?_⟩
    rw [er]
    refine iteF ?_
    refine ⟨_, rfl, _, rfl, p, C, dx, [], rfl, hp, T.cl, T.nR, (by show 0 < 1000; decide), ?_⟩
    refine ⟨_, rfl, _, _, _, rfl, rfl, it, _, rfl, p, C, dx, _, rfl, upd_same, T.cl, T.nP, (Nat.lt_of_le_of_lt (length_putF _ _ _) (by decide)), ?_⟩
    refine q _ ⟨dx, t, upd_same, tt⟩ fun b o e nb => ?_
    rw [upd_ne nb, upd_ne nb]
    exact e
abbrev n_FBase : List Str := ["self"]
theorem sc_FBase : FnScope n_FBase ["self"] (defScope (sF 8)) := ⟨rfl, rfl, rfl, by decide +kernel, rfl, by decide +kernel, by decide +kernel⟩
theorem qs_get {p : List Int} {m i : Nat} (h : i < m) : (qs p m)[i]? = some (.int (qn p i)) := by
  unfold qs
  rw [List.getElem?_map, List.getElem?_range h]
  rfl
abbrev s_digin : Stmt := top 29
abbrev n_digin : List Str := ["period", "number", "found", "rest", "step", "digit"]
theorem sc_digin : FnScope n_digin ["period", "number"] (defScope s_digin) := ⟨rfl, rfl, rfl, by decide +kernel, rfl, by decide +kernel, by decide +kernel⟩
def spDigin (K : PySem.W.Frag) : Sp := fun vs H Q _ => ∃ (t : Addr) (ls : List Int) (n : Int), vs = [.ref t, .int n] ∧ TupI K t ls ∧ Per ls ∧ 0 ≤ n ∧ n < 10 ^ 40 ∧
  ∀ m a H', m ≤ 266 → n < qn ls m → H a = none → H' a = some (.lst ((dg ls m n).map V.int)) → Same H H' → Q (.ref a) H'
theorem ok_digin {f : Addr} {fd : FuncData} {k : Nat} (F : Fun K "digits_in" "digits_in" s_digin f fd) (T1 : mg "reversed" = none) (T2 : mg "divmod" = none)
    (D2 : Df P w K mg base k "_steps_within" ["period", "number"] (spSteps K)) : FnOk P w K mg base CX0 (k + 1) f fd ["period", "number"] (spDigin K) := by
  refine F.ok sc_digin (fun vs H Q E h => ?_) (fun cdv A outer s H vs Q E hr h => ?_)
  · obtain ⟨t, ls, n, rfl, _⟩ := h
    rfl
  · obtain ⟨t, ls, n, rfl, hT, hpr, n0, n1, q⟩ := h
    have nd := sc_digin.nd
    refine ⟨_, PSs.nox (pss_cons (ps_set (i := 2) nd rfl (Or.inl rfl) (pe_lst pa_nil))
      (pss_cons (ps_set (i := 3) nd rfl (Or.inl rfl) (pv 1))
      (pss_cons (ps_for PassesOwn.never rfl (pi_reversed (by rfl) T1 (pa_cons (pe_callD D2 hr (Nat.le_refl _) (pa_cons (pv 0) (pa_cons (pv 1) pa_nil))) pa_nil)) (pg_name (i := 4) nd rfl (Or.inl rfl))
      (pss_cons (ps_asg (pe_callB call_divmodW (by rfl) T2 (by decide +kernel) (pa_cons (pv 3) (pa_cons (pv 4) pa_nil))) (pg_tup rfl (pgs_cons (pg_name (i := 5) nd rfl (Or.inl rfl)) (pgs_cons (pg_name (i := 3) nd rfl (Or.inl rfl)) pgs_nil))))
        (pss_one (ps_expr (pe_bm PySem.F.plainAttrs_list PySem.F.slot_list_append PySem.F.type_list_append mt_append (pv 2) (pa_cons (pv 5) pa_nil))))))
      (pss_one (ps_ret (pe_revL (pv 2))))))), ?_⟩
    refine ⟨by show 0 ≤ sizeLine; decide, fun a ha => ⟨_, rfl, ?_⟩⟩
    refine ⟨_, rfl, _, rfl, t, ls, n, rfl, hT, hpr, n0, by omega, fun m b H1 hm hlt nb hb sm => ?_⟩
    have n133 : n < 2 ^ 133 := by omega
    have hba : b ≠ a := ne_new nb
    have ha1 : H1 a = some (.lst []) := sm _ _ upd_same
    have sm0 : Same H H1 := (sNew (Same.refl _) ha).trans sm
    refine ⟨b, _, rfl, SqL.of hb, ?_⟩
    refine for_it (walk_rev (xs := qs (ls) m)) (fun i σ H' => ∃ (r : Int) (fs : List Int) (v4 v5 : Option V), σ = [some (.ref t), some (.int n), some (.ref a), some (.int r), v4, v5] ∧ H' a = some (.lst (fs.map V.int)) ∧ H' b = some (.lst (qs (ls) m)) ∧ Same H H' ∧ fs.length = i ∧ i ≤ m ∧ 0 ≤ r ∧ r < qn (ls) (m - i) ∧ r ≤ n ∧ dg (ls) m n = dg (ls) (m - i) r ++ fs.reverse)
      ⟨n, [], none, none, rfl, ha1, hb, sm0, rfl, Nat.zero_le _, n0, hlt, Int.le_refl _, by simp⟩ (fun i σ H' _ h => by obtain ⟨_, _, _, _, _, _, h, _⟩ := h; exact SqL.of h) ?_ ?_
    · rintro i x σ H2 H3 hi ⟨r, fs, v4, v5, rfl, h1, h2, sm2, hl, him, r0, r1, rn, e⟩ ⟨rfl, hx⟩
      rw [qs_len] at hi hx
      rw [qs_get (by omega)] at hx
      obtain rfl := Option.some.inj hx
      obtain ⟨j, rfl⟩ : ∃ j, m = i + 1 + j := ⟨m - (i + 1), by omega⟩
      have ej : i + 1 + j - 1 - i = j := by omega
      have ej2 : i + 1 + j - i = j + 1 := by omega
      have ej3 : i + 1 + j - (i + 1) = j := by omega
      rw [ej]
      rw [ej2] at r1 e
      have qp := qn_pos hpr.one j
      have b1 : r.natAbs < 2 ^ 133 := by
        have : ((r.natAbs : Nat) : Int) < 2 ^ 133 := by omega
        exact_mod_cast this
      refine ⟨_, rfl, _, rfl, _, _, rfl, divp_ok (by omega) (Nat.le_trans (PyProof.Rows.intBits_le b1) (by omega)), fun u hu => ?_⟩
      refine ⟨u, _, rfl, SqT.of upd_same, rfl, _, _, rfl, _, _, rfl, rfl, ?_⟩
      have nua : a ≠ u := fun z => by rw [← z, h1] at hu; cases hu
      have nub : b ≠ u := fun z => by rw [← z, h2] at hu; cases hu
      have h1' : upd H3 u (.tup [.int (r / qn (ls) j), .int (r % qn (ls) j)]) a = some (.lst (fs.map V.int)) := by rw [upd_ne nua]; exact h1
      refine ⟨_, rfl, .inl ⟨rfl, _, SqL.of h1'⟩, _, rfl, a, _, _, rfl, rfl, h1', by rw [List.length_map, sizeLine_eq]; omega, ?_⟩
      refine ⟨r % qn (ls) j, fs ++ [r / qn (ls) j], _, _, rfl, ?_, ?_, sm_upd (sNew sm2 hu) ha, by simp [hl], by omega, emod_lo _ (by omega), ?_, ?_, ?_⟩
      · rw [upd_same, List.map_append]; rfl
      · rw [upd_ne hba, upd_ne nub]; exact h2
      · rw [ej3]; exact emod_hi _ (by omega)
      · have := Int.emod_add_mul_ediv r (qn (ls) j)
        have := Int.mul_nonneg (show 0 ≤ qn (ls) j by omega) (Int.ediv_nonneg r0 (show 0 ≤ qn (ls) j by omega))
        omega
      · rw [e, ej3]; simp [dg]
    · rintro σ H2 ⟨r, fs, v4, v5, rfl, h1, h2, sm2, hl, him, r0, r1, rn, e⟩
      rw [qs_len, Nat.sub_self] at e
      refine ⟨_, rfl, a, _, rfl, SqL.of h1, fun z hz => ?_⟩
      have e2 : (fs.map V.int).reverse = (dg (ls) m n).map V.int := by rw [e]; simp [dg]
      rw [e2]
      exact q m z _ hm hlt (sm2.free hz) upd_same (sNew sm2 hz)
abbrev n_FDig : List Str := ["self", "number"]
theorem sc_FDig : FnScope n_FDig ["self", "number"] (defScope (sF 9)) := ⟨rfl, rfl, rfl, by decide +kernel, rfl, by decide +kernel, by decide +kernel⟩
theorem ok_FDig {f C : Addr} {fd : FuncData} {k : Nat} (F : Fun K "digits" "Field.digits" (sF 9) f fd) (T : TxF K mg C)
    (D1 : Df P w K mg base k "is_number" ["value"] (spNum K)) (D2 : Df P w K mg base k "digits_in" ["period", "number"] (spDigin K)) : FnOk P w K mg base CX0 (k + 1) f fd ["self", "number"] (spDigits K C) := by
  refine F.ok sc_FDig (fun vs H Q E h => ?_) (fun cdv A outer s H vs Q E hr h => ?_)
  · obtain ⟨p, d, n, rfl, _⟩ := h
    rfl
  · obtain ⟨p, d, n, rfl, hF, hd, n0, n1, q⟩ := h
    have nd := sc_FDig.nd
    obtain ⟨dx, t, hp, hT⟩ := hF
    have hpr := perOk hd
    refine ⟨_, PSs.nox (pss_cons (ps_if (pt_not (pt_val (pe_callD D1 hr (Nat.le_refl _) (pa_cons (pv 1) pa_nil))))
      (pss_one ps_never)
      pss_nil)
      (pss_one (ps_ret (pe_callD D2 hr (Nat.le_refl _) (pa_cons (pe_fld (pv 0) rfl) (pa_cons (pv 1) pa_nil)))))), ?_⟩
    have eb : btw (.int n) 0 (10 ^ 40 - 1) = true := by
      show (decide (0 ≤ n) && decide (n ≤ 10 ^ 40 - 1)) = true
      simp only [Bool.and_eq_true, decide_eq_true_eq]
      omega
    refine ⟨_, rfl, _, .int n, rfl, rfl, _, rfl, ?_⟩
    rw [eb]
    refine iteF ?_
    exact ⟨_, rfl, p, C, dx, _, _, rfl, hp, T.cl, T.nP, ffl_per d t, _, rfl, t, per d, n, rfl, hT, hpr, n0, n1, q⟩
end
end RF

namespace RF
theorem flS_scale {d i j k : Int} (k0 : 0 < k) (z : Int) : sg d (i - z * k) j = sg d (pI i j k - z * pK i j k) (pJ i j k) := by
  have hk : k ≠ 0 := by omega
  have gp : 0 < gs i j k := by
    have := gc_pos (i := i) (j := j) (k := k) hk
    unfold gs
    rw [if_neg (by omega)]
    exact this
  have a1 := pI_eq (i := i) (j := j) hk
  have a2 := pJ_eq (i := i) (j := j) hk
  have a3 := pK_eq (i := i) (j := j) hk
  have e := sg_mul (d := d) (i := pI i j k - z * pK i j k) (j := pJ i j k) gp
  rw [← e, ← a2]
  generalize gs i j k = g at *
  generalize pI i j k = x at *
  generalize pK i j k = y at *
  rw [show g * (x - z * y) = i - z * k by rw [a1, a3]; grind]
theorem flS_lo {d i j k : Int} (hd : Root d) (k0 : 0 < k) : 0 ≤ sg d (i - flS d i j k * k) j := by
  rw [flS_scale k0, sg_nonneg hd]
  have kp := pK_pos (i := i) (j := j) (k := k) (by omega)
  have h := Int.mul_ediv_add_emod (pI i j k + flr d (pJ i j k)) (pK i j k)
  have h2 := Int.emod_nonneg (pI i j k + flr d (pJ i j k)) (show pK i j k ≠ 0 by omega)
  unfold flS
  have e : (pI i j k + flr d (pJ i j k)) / pK i j k * pK i j k = pK i j k * ((pI i j k + flr d (pJ i j k)) / pK i j k) := Int.mul_comm _ _
  omega
theorem flS_hi {d i j k : Int} (hd : Root d) (k0 : 0 < k) : sg d (i - (flS d i j k + 1) * k) j < 0 := by
  have key : ¬ 0 ≤ sg d (i - (flS d i j k + 1) * k) j := by
    rw [flS_scale k0, sg_nonneg hd]
    have kp := pK_pos (i := i) (j := j) (k := k) (by omega)
    have h := Int.mul_ediv_add_emod (pI i j k + flr d (pJ i j k)) (pK i j k)
    have h2 := Int.emod_lt_of_pos (pI i j k + flr d (pJ i j k)) kp
    unfold flS
    have e : ((pI i j k + flr d (pJ i j k)) / pK i j k + 1) * pK i j k = pK i j k * ((pI i j k + flr d (pJ i j k)) / pK i j k) + pK i j k := by grind
    omega
  omega
theorem flS_bd {n : Nat} {d i j k : Int} (hd : Root d) (k0 : 0 < k) (bi : Bd n i) (bj : Bd n j) : Bd (n + 4) (flS d i j k) := by
  have hk : k ≠ 0 := by omega
  have ei : Bd n (pI i j k) := bi.le (pI_le hk)
  have ej : Bd n (pJ i j k) := bj.le (pJ_le hk)
  have kp := pK_pos (i := i) (j := j) (k := k) hk
  have b : Bd (n + 3 + 1) (pI i j k + flr d (pJ i j k)) := (ei.mono (by omega)).add (flr_bd hd ej)
  refine b.le ?_
  unfold flS
  exact Int.natAbs_ediv_le_natAbs _ _
theorem sg_self (d a b : Int) : sg d (a - a) (b - b) = 0 := by
  rw [Int.sub_self, Int.sub_self]
  unfold sg sgb ab
  simp
theorem lfl1 (d j : Int) : lfl d 0 j 1 1 = flr d j := by
  unfold lfl
  simp
end RF

namespace EX
open PySem PySem.Calls PyProof.Rows PySem.HandSPX
open PySem.W (Frag findIn typeIn keepIn subIn hasDictIn nsIn mroIn clsIn codeIn fnX envX Looks KxsFacts kxs_mw ksEnv ksFn looks_mroIn looks_findIn looks_clsIn)
/-! ### the text of an own error's __init__ -/
/-- what the written part says of a class of errors over ValueError: at C; its __init__ at fI, with the class's cell cc -/
structure Own (P : Program) (K : Frag) (mg : Str → Option Value) (nm : Str) (C fI : Addr) : Prop where
  gC : mg nm = some (.ref C)
  cls : ∃ nm' q N bs bm sn sub ab col dd k0 k1 k2 k3 k5, K.lookup C = some (excClassObj nm' q C N bs bm true sn sub ab col dd k0 k1 k2 k3 k5 "ValueError.__new__") ∧ refsVE bm = true ∧ PySem.W.alongIn K "__init__" bm = some (some (.builtin "ValueError.__init__"))
  sa : findIn K (.ref C) "__setattr__" = some (some (.builtin "object.__setattr__"))
  ga : findIn K (.ref C) "__getattribute__" = some (some (.builtin "BaseException.__getattribute__"))
  gg : findIn K (.ref C) "__getattr__" = some none
  noT : findIn K (.ref C) "tag" = some none
  iC : findIn K (.ref C) "__init__" = some (some (.ref fI))
  tC : typeIn K (.ref fI) = some (.type "function")
  kC : keepIn K (.ref C) = true
  exC : subIn K (.ref C) (.type "BaseException") = some true
  tyC : typeIn K (.ref C) = some (.type "type")
  hdC : hasDictIn K C = true
  self : mroIn K C (.ref C) = some true
  noS : mg "super" = none
  opq : nsIn K cStatics "thirdparty.any" = some none
  top : (P.main.scope.names.lookup ("super" : Str)).isSome = false
section
variable {prog : Program} {w : World} {A : Around} {E : Value → Shared → Prop} {h : Heap} {g : Array GenState} {d : Drawn} {t : Nat} {os : OsState} {K : Frag}
variable {nm q : Str} {C N : Addr} {bs bm : List Value} {hdct : Bool} {sn : List Str} {sub : List Value} {ab : Bool} {col : Option Bool} {dd : Option Addr} {k0 k1 k2 k3 k5 : Option Value}
/-- the bound __init__ of ValueError is called -/
theorem call_mw {u e t0 : Addr} {rest : List Value} {Q : Value → Shared → Prop} (hC : h.get? C = some (excClassObj nm q C N bs bm hdct sn sub ab col dd k0 k1 k2 k3 k5 "ValueError.__new__")) (he : h.get? e = some (excO C t0)) (hu : h.get? u = some (kxs_mw "ValueError.__init__" e)) (hrest : rest.length ≤ sizeLine)
    (hq : ∀ h' t1, (∀ b o, b ≠ e → h.get? b = some o → h'.get? b = some o) → h'.get? e = some (excO C t1) → Q .none ⟨h', g, d, t, os⟩) : wpAny (model prog w) A (call (.ref u) rest) Q E ⟨h, g, d, t, os⟩ := by
  refine wpAny_call (codeAny_of_tree ?_)
  show wpAny _ A.in1 (callAny (.ref u) ⟨rest, []⟩) _ _ _
  unfold callAny
  refine wpAny_bind (wpAny_load hu ?_)
  simp only []
  refine PySem.W.KFB.if_so (by decide) ?_
  refine wpAny_bind (PySem.W.check_bound_init F.excBase_ValueError.toExcCallFacts hC he rfl ?_)
  refine wpAny_bind (wpAny_pure (wpAny_pure ?_))
  refine ⟨Code.quiet_builtin _ (by decide +kernel), codeAny_builtin F.excBase_ValueError.initEntry ?_⟩
  rw [Around.under_plainId F.excBase_ValueError.init.plain _]
  wp_walk
  refine hq _ h.objs.size (fun b o hb ho => (Heap.get?_update_other _ _ (Ne.symm hb)).trans (Heap.get?_push_of_some _ ho)) ((Heap.get?_update_self _ (Heap.get?_push_of_some _ he) rfl).trans rfl)
end
/-- the __init__'s own record: its code and its cell -/
structure IFn (P : Program) (K : Frag) (C fI cda cc : Addr) (fd : FuncData) : Prop where
  lk : ∃ oc od osl, K.lookup fI = some ⟨oc, od, .func fd, osl⟩
  code : ∃ ccl cdd vs ccs file tf, K.lookup cda = some ⟨ccl, cdd, .fields vs, ccs⟩ ∧ vs[2]? = some (.str file tf) ∧ ((P.main.file : Str) == file) = true
  cell : ∃ cl cld csl, K.lookup cc = some ⟨cl, cld, .cell (some (.ref C)), csl⟩
section
variable {prog : Program} {w : World} {A : Around} {E : Value → Shared → Prop} {s : Shared} {K : Frag} {mg mb : Str → Option Value} {nm : Str} {C fI cda cc : Addr} {fd : FuncData}
/-- super().__init__('..') -/
theorem super_stmt (O : Own prog K mg nm C fI) (I : IFn prog K C fI cda cc fd) {ar : Arg} (hp : (fd.params.posonlyargs ++ fd.params.args).head? = some ar) {q : Str} {scope : Scope} {L x t0 : Addr} {m : Str → Option Value} {body : List Stmt} {msg : Str} {a1 a2 a3 a4 a5 a6 : Pos} {j : Nat} {Q : Flow → Shared → Prop}
    (X : K.In s.heap) (hg : s.heap.Ns mainGlobals mg) (hb : s.heap.Ns builtinsNs mb) (hmb : mb "super" = bootBuiltins "super") (hn : s.heap.Ns L m) (hm : m ar.arg = some (.ref x)) (hx : s.heap.get? x = some (excO C t0)) (hxC : x ≠ C)
    (hk : scope.kind = .function) (h1 : scope.names.lookup ("super" : Str) = some .globalImplicit) (h2 : scope.names.lookup ("__class__" : Str) = some .free) (h3 : scope.names.lookup ar.arg = some .local)
    (hs : swapsWith (.Call (.Attribute (.Call (.Name "super" a1) [] [] a2) "__init__" a3) [.Constant (.str msg) j a4] [] a5) none a6.line (ksEnv q scope L fI (.ref cda) cc) = pure false)
    (hi : interactive (ksEnv q scope L fI (.ref cda) cc) = false)
    (hev : ∃ pl : Sem Bool, eval (.Call (.Attribute (.Call (.Name "super" a1) [] [] a2) "__init__" a3) [.Constant (.str msg) j a4] [] a5) (ksEnv q scope L fI (.ref cda) cc) = (do
      let ov ← attributeBase (.Call (.Name "super" a1) [] [] a2) "__init__" (ksEnv q scope L fI (.ref cda) cc) (eval (.Call (.Name "super" a1) [] [] a2) (ksEnv q scope L fI (.ref cda) cc))
      standAt a3.atName
      let fb ← holding [ov] (getMethod ov "__init__" pl)
      callWith a5 fb.1 fb.2 (backTo a5 (starEach [.Constant (.str msg) j a4] (ksEnv q scope L fI (.ref cda) cc))) []))
    (hst : starEach [.Constant (.str msg) j a4] (ksEnv q scope L fI (.ref cda) cc) = [(false, eval (.Constant (.str msg) j a4) (ksEnv q scope L fI (.ref cda) cc))])
    (k : ∀ h' tk t1, (∀ b o, b ≠ x → s.heap.get? b = some o → h'.get? b = some o) → h'.get? x = some (excO C t1) → Q .next { s with heap := h', toks := tk }) :
    _root_.PySem.wpAt (model prog w) A (.func body (ksEnv q scope L fI (.ref cda) cc)) (exec (.Expr (.Call (.Attribute (.Call (.Name "super" a1) [] [] a2) "__init__" a3) [.Constant (.str msg) j a4] [] a5) a6) (ksEnv q scope L fI (.ref cda) cc)) Q E s := by
  obtain ⟨nm', q', N, bs, bm, sn, sub, ab, col, dd, k0, k1, k2, k3, k5, hC, hbm, hal⟩ := O.cls
  obtain ⟨oc, od, osl, hf⟩ := I.lk
  obtain ⟨ccl, cdd, vs, ccs, file, tf, hcode, hvs, hfile⟩ := I.code
  obtain ⟨cl, cld, csl, hcell⟩ := I.cell
  have hcl : clsIn K C = some { name := nm', bases := bs, mro := .ref C :: bm, ns := N, qualname := q', hasDict := true, slotNames := sn, subclasses := sub, abstract := ab, collection := col, hasDel := false } := by unfold clsIn; rw [hC] <;> rfl
  obtain ⟨hh, g, d, t, os⟩ := s
  refine ks_wpAt_Expr_any ?_ hi hs
  obtain ⟨pl, hev⟩ := hev
  refine ks_wpAt_MethodCall ?_ hev
  refine ks_wpAt_super_base (env := ksEnv q scope L fI (.ref cda) cc) h1 h2 (by decide) rfl (X _ _ hf) rfl hp rfl (X _ _ hcode) rfl hvs hfile O.top ?_
  refine PySem.W.ks_loadName_global hk h1 (loadGlobal_builtin (env := ksEnv q scope L fI (.ref cda) cc) hg O.noS hb (hmb.trans (by rfl)) ⟨rfl, ?_⟩)
  refine wpAny_loadName_free hk h2 rfl ⟨_, X _ _ hcell, rfl⟩ ?_
  refine wpAny_loadName_local hk h3 hn hm ?_
  refine ks_wpAny_isType_cls (X _ _ hC) rfl ⟨rfl, ?_⟩
  refine ks_wpAny_call_super (X _ _ hC) rfl hx rfl (fun c e => by cases e) (looks_mroIn X O.self) (fun h' e kk => ?_)
  have X' : K.In h' := X.keeps kk
  have hx' := kk _ _ hx
  have IX : PySem.W.InstAt h' x (excO C t0) C none := ⟨hx', rfl, rfl, trivial⟩
  have hI : Looks (model prog w) h' (isInstance (.ref x) (.type "ValueError")) true := IX.type.andThen (looks_mroIn X' (by
    unfold mroIn
    rw [hcl, Option.bind_some, if_neg (by simp), List.contains_cons, refsVE_contains "ValueError" bm hbm, show veTail.contains (.type "ValueError") = true by decide +kernel, Bool.or_true]))
  refine PySem.W.kxs_getMethod PySem.W.kxs_ValueError e (PySem.W.looks_opaque X' O.opq) (l₀ := .ref C :: bm) ?_ rfl X' ?_ hI hxC (by decide) ?_
  · exact fun A Q E s k q => wpAny_bind ((looks_clsIn X' hcl) A _ E s k (wpAny_pure q))
  · have e2 : ((Value.ref C :: bm).dropWhile (· != .ref C)).drop 1 = bm := ESX.drop_own C bm
    rw [e2]
    exact hal
  · have up : ∀ b o, h'.get? b = some o → (h'.push (kxs_mw "ValueError.__init__" x)).get? b = some o := fun b o q => Heap.get?_push_of_some _ q
    have hu : (h'.push (kxs_mw "ValueError.__init__" x)).get? h'.objs.size = some (kxs_mw "ValueError.__init__" x) := Heap.get?_push_at rfl rfl
    show wpAny _ _ (callWith a5 (.ref h'.objs.size) [] (backTo a5 (starEach [.Constant (.str msg) j a4] (ksEnv q scope L fI (.ref cda) cc))) []) _ _ _
    rw [hst]
    refine PySem.W.kxs_callWith (i := "ValueError.__init__") (u := h'.objs.size) (x := x) rfl ?_
    refine evalArgs_plain ?_
    refine Calls.spliced_cons (wpAny_Constant_str (k := j) (pos := a4) (Calls.spliced_nil ⟨hu, ?_⟩))
    have hC1 : (h'.push (kxs_mw "ValueError.__init__" x)).get? C = some _ := up _ _ (X' _ _ hC)
    refine call_mw hC1 (up _ _ hx') hu (by show 1 ≤ sizeLine; decide) fun h2 t1 k1 k2 => ?_
    exact k h2 _ t1 (fun b o hb e => k1 b o hb (up _ _ (kk b o e))) k2
/-- what __init__ leaves of a fresh error at x: its own dict at dx -/
structure IEnd (h h' : Heap) (x C dx L : Addr) (m : Str → Option Value) : Prop where
  keep : ∀ b o, b ≠ x → h.get? b = some o → h'.get? b = some o
  obj : ∃ t1, h'.get? x = some { cls := .ref C, dict := some dx, data := .fields #[.ref t1, .none, .none, .none, .bool false, .none] }
  dbig : L < dx
  dne : dx ≠ x
  ns : h'.Ns1 dx m
/-- the text of __init__(self, fld): the base's, the tag, the field (l: without a field) -/
def sSup (msg : Str) (a1 a2 a3 a4 a5 a6 : Pos) : Stmt := .Expr (.Call (.Attribute (.Call (.Name "super" a1) [] [] a2) "__init__" a3) [.Constant (.str msg) 0 a4] [] a5) a6
def sTag (tag : Str) (b1 b2 b3 b4 : Pos) : Stmt := .Assign [.Attribute (.Name "self" b1) "tag" b2] (.Constant (.str tag) 0 b3) b4
def sFld (fld : Str) (c1 c2 c3 c4 : Pos) : Stmt := .Assign [.Attribute (.Name "self" c1) fld c2] (.Name fld c3) c4
/-- what a look at the text tells, at every frame -/
structure Txt (q : Str) (scope : Scope) (fI cda cc : Addr) (msg tag : Str) (a1 a2 a3 a4 a5 a6 b1 b2 b3 b4 : Pos) : Prop where
  kind : scope.kind = .function
  sup : scope.names.lookup ("super" : Str) = some .globalImplicit
  cls : scope.names.lookup ("__class__" : Str) = some .free
  self : scope.names.lookup ("self" : Str) = some .local
  co : scope.isCoroutine = false
  gen : scope.isGenerator = false
  nocell : ∀ y ∈ scope.names, y.2 ≠ .cell
  sw : ∀ L, swapsWith (.Call (.Attribute (.Call (.Name "super" a1) [] [] a2) "__init__" a3) [.Constant (.str msg) 0 a4] [] a5) none a6.line (ksEnv q scope L fI (.ref cda) cc) = pure false
  int : ∀ L, interactive (ksEnv q scope L fI (.ref cda) cc) = false
  ev : ∀ L, ∃ pl : Sem Bool, eval (.Call (.Attribute (.Call (.Name "super" a1) [] [] a2) "__init__" a3) [.Constant (.str msg) 0 a4] [] a5) (ksEnv q scope L fI (.ref cda) cc) = (do
      let ov ← attributeBase (.Call (.Name "super" a1) [] [] a2) "__init__" (ksEnv q scope L fI (.ref cda) cc) (eval (.Call (.Name "super" a1) [] [] a2) (ksEnv q scope L fI (.ref cda) cc))
      standAt a3.atName
      let fb ← holding [ov] (getMethod ov "__init__" pl)
      callWith a5 fb.1 fb.2 (backTo a5 (starEach [.Constant (.str msg) 0 a4] (ksEnv q scope L fI (.ref cda) cc))) [])
  st : ∀ L, starEach [.Constant (.str msg) 0 a4] (ksEnv q scope L fI (.ref cda) cc) = [(false, eval (.Constant (.str msg) 0 a4) (ksEnv q scope L fI (.ref cda) cc))]
  sw2 : ∀ L, swapsWith (.Constant (.str tag) 0 b3) (some (.Attribute (.Name "self" b1) "tag" b2)) b4.line (ksEnv q scope L fI (.ref cda) cc) = pure false
section
variable {prog : Program} {w : World} {A : Around} {E : Value → Shared → Prop} {s : Shared} {K : Frag} {mg mb : Str → Option Value} {nm : Str} {C fI cda cc : Addr} {fd : FuncData}
/-- super().__init__('..'); self.tag = '..' -/
theorem two_stmts (O : Own prog K mg nm C fI) (I : IFn prog K C fI cda cc fd) {ar : Arg} (hp : (fd.params.posonlyargs ++ fd.params.args).head? = some ar) (har : ar.arg = "self") {q : Str} {scope : Scope} {L x t0 : Addr} {m : Str → Option Value} {body rest : List Stmt} {msg tag : Str} {a1 a2 a3 a4 a5 a6 b1 b2 b3 b4 : Pos} {Q : Flow → Shared → Prop}
    (T : Txt q scope fI cda cc msg tag a1 a2 a3 a4 a5 a6 b1 b2 b3 b4)
    (X : K.In s.heap) (hnx : K.lookup x = none) (hg : s.heap.Ns mainGlobals mg) (hb : s.heap.Ns builtinsNs mb) (hmb : mb "super" = bootBuiltins "super") (hn : s.heap.Ns L m) (hm : m "self" = some (.ref x)) (hx : s.heap.get? x = some (excO C t0)) (hxC : x ≠ C) (hxL : x ≠ L)
    (k : ∀ h' tk dx u, IEnd s.heap h' x C dx L (fun y => if y = "tag" then some (.str tag u) else none) → wpAny (model prog w) A (execs rest (ksEnv q scope L fI (.ref cda) cc)) Q E { s with heap := h', toks := tk }) :
    _root_.PySem.wpAt (model prog w) A (.func body (ksEnv q scope L fI (.ref cda) cc)) (execs (sSup msg a1 a2 a3 a4 a5 a6 :: sTag tag b1 b2 b3 b4 :: rest) (ksEnv q scope L fI (.ref cda) cc)) Q E s := by
  obtain ⟨nm', q', N, bs, bm, sn, sub, ab, col, dd, k0, k1, k2, k3, k5, hC, hbm, hal⟩ := id O.cls
  have hcl : clsIn K C = some { name := nm', bases := bs, mro := .ref C :: bm, ns := N, qualname := q', hasDict := true, slotNames := sn, subclasses := sub, abstract := ab, collection := col, hasDel := false } := by unfold clsIn; rw [hC] <;> rfl
  refine ks_wpAt_execs_cons (super_stmt O I hp X hg hb hmb hn (by rw [har]; exact hm) hx hxC T.kind T.sup T.cls (by rw [har]; exact T.self) (T.sw L) (T.int L) (T.ev L) (T.st L) fun h1 tk t1 k1 e1 => ?_)
  have X1 : K.In h1 := fun a o e => k1 a o (fun z => by rw [z, hnx] at e; cases e) (X a o e)
  have hn1 : h1.Ns L m := by
    obtain ⟨ob, es, ep, ho, r⟩ := hn
    exact ⟨ob, es, ep, k1 _ _ (Ne.symm hxL) ho, r⟩
  refine wpAt_of_wpAny (wpAny_execs_cons (plainObj_wpAny_Assign_Attribute (wpAny_Constant_str (k := 0) (pos := b3) ?_) (T.sw2 L)))
  refine wpAny_Name (wpAny_loadName_local T.kind T.self hn1 hm ?_) (by decide)
  refine PySem.W.set_plain X1 (ox := excO C t1) (od := none) ⟨e1, rfl, rfl, trivial⟩ O.sa ?_
  refine exc_osa X1 e1 hcl (show refsVE (.ref C :: bm) = true from hbm) rfl O.noT (fun h3 tk3 dx k3 dn dne hx3 hn3 => ?_)
  refine k h3 tk3 dx tk ⟨fun b o hb e => k3 b o hb (k1 b o hb e), ⟨t1, hx3⟩, Nat.lt_of_lt_of_le hn1.lt dn, dne, hn3⟩
end
end
end EX

namespace EX
open PySem PySem.Calls PyProof.Rows PySem.HandSPX
open PySem.W (Frag findIn typeIn keepIn subIn hasDictIn nsIn mroIn clsIn codeIn fnX envX Looks KxsFacts kxs_mw ksEnv ksFn looks_mroIn looks_findIn looks_clsIn)
def mT (tag : Str) (u : Tok) : Str → Option Value := fun y => if y = "tag" then some (.str tag u) else none
def mF (fld tag : Str) (u : Tok) (v : Value) : Str → Option Value := fun y => if y = fld then some v else mT tag u y
theorem refs_px (l : List Value) : refsVE l = true → PX.refsVE l = true := by
  induction l with
  | nil =>
    intro h
    exact absurd h (by decide +kernel)
  | cons a r ih =>
    intro h
    rcases refsVE_cases _ h with ⟨c, r', e, h'⟩ | e
    · cases e
      exact ih h'
    · rw [e]
      decide +kernel
theorem within_tag (tag : Str) (u : Tok) : Within (mT tag u) ["tag"] := Within.cons "tag" (.str tag u) Within.nil
section
variable {prog : Program} {w : World} {A : Around} {E : Value → Shared → Prop} {R : Result → Shared → Prop} {s : Shared} {K : Frag} {mg mb : Str → Option Value} {nm : Str} {C fI cda cc : Addr}
variable {n0 q msg tag fld : Str} {params : Arguments} {scope : Scope} {doc pm ct oc : Value} {an od : Option Addr} {osl : Array (Option Value)} {a1 a2 a3 a4 a5 a6 b1 b2 b3 b4 c1 c2 c3 c4 : Pos} {x t0 : Addr} {v : Value}
/-- __init__(self) -/
theorem init0 (O : Own prog K mg nm C fI) (I : IFn prog K C fI cda cc (ksFn n0 q params [sSup msg a1 a2 a3 a4 a5 a6, sTag tag b1 b2 b3 b4] scope .none .none doc pm an (.ref cda) ct cc)) (T : Txt q scope fI cda cc msg tag a1 a2 a3 a4 a5 a6 b1 b2 b3 b4)
    (hcd : codeIn K (.ref cda) q = true) {ar : Arg} (hp : (params.posonlyargs ++ params.args).head? = some ar) (har : ar.arg = "self")
    (hbind : BindsTo s (ksFn n0 q params [sSup msg a1 a2 a3 a4 a5 a6, sTag tag b1 b2 b3 b4] scope .none .none doc pm an (.ref cda) ct cc) ⟨[.ref x], []⟩ [("self", .ref x)])
    (X : K.In s.heap) (hlim : s.heap.NoLimit) (hnx : K.lookup x = none) (hg : s.heap.Ns mainGlobals mg) (hb : s.heap.Ns builtinsNs mb) (hmb : mb "super" = bootBuiltins "super") (hx : s.heap.get? x = some (excO C t0)) (hxC : x ≠ C) (hroom : A.depth < recursionLimit)
    (k : ∀ h' tk dx u, IEnd s.heap h' x C dx s.heap.objs.size (mT tag u) → R (.ok (.ret .none)) { s with heap := h', toks := tk }) :
    codeAny (model prog w) A (.call (.ref fI) ⟨[.ref x], []⟩) R s := by
  obtain ⟨oc', od', osl', lk⟩ := id I.lk
  refine ks_codeAny_call_defAt hroom (X _ _ lk) rfl hlim (PySem.W.codeRec_of X hcd) rfl hbind T.nocell (fun y hy => ?_) (fun h₀ hn kk => ?_) T.co T.gen T.kind
  · rw [List.mem_singleton] at hy
    subst hy
    exact T.self
  · have hxL : x ≠ s.heap.objs.size := Nat.ne_of_lt (Heap.lt_size hx)
    refine two_stmts (s := { s with heap := h₀, toks := _ }) (rest := []) O I hp har T (X.keeps kk) hnx (hg.keeps kk) (hb.keeps kk) hmb hn (by first | rfl | simp) (kk _ _ hx) hxC hxL fun h' tk dx u e => ?_
    refine wpAny_execs_nil ?_
    exact k h' tk dx u ⟨fun b o hb' ho => e.keep b o hb' (kk b o ho), e.obj, e.dbig, e.dne, e.ns⟩
/-- __init__(self, fld) -/
theorem init1 (O : Own prog K mg nm C fI) (hfn : findIn K (.ref C) fld = some none) (I : IFn prog K C fI cda cc (ksFn n0 q params [sSup msg a1 a2 a3 a4 a5 a6, sTag tag b1 b2 b3 b4, sFld fld c1 c2 c3 c4] scope .none .none doc pm an (.ref cda) ct cc)) (T : Txt q scope fI cda cc msg tag a1 a2 a3 a4 a5 a6 b1 b2 b3 b4)
    (hcd : codeIn K (.ref cda) q = true) {ar : Arg} (hp : (params.posonlyargs ++ params.args).head? = some ar) (har : ar.arg = "self")
    (hbind : BindsTo s (ksFn n0 q params [sSup msg a1 a2 a3 a4 a5 a6, sTag tag b1 b2 b3 b4, sFld fld c1 c2 c3 c4] scope .none .none doc pm an (.ref cda) ct cc) ⟨[.ref x, v], []⟩ [("self", .ref x), (fld, v)])
    (hfl : scope.names.lookup fld = some .local) (hfs : (fld == ("self" : Str)) = false) (hfd : (fld == ("__debug__" : Str)) = false) (sw3 : ∀ L, swapsWith (.Name fld c3) (some (.Attribute (.Name "self" c1) fld c2)) c4.line (ksEnv q scope L fI (.ref cda) cc) = pure false)
    (X : K.In s.heap) (hlim : s.heap.NoLimit) (hnx : K.lookup x = none) (hg : s.heap.Ns mainGlobals mg) (hb : s.heap.Ns builtinsNs mb) (hmb : mb "super" = bootBuiltins "super") (hx : s.heap.get? x = some (excO C t0)) (hxC : x ≠ C) (hroom : A.depth < recursionLimit)
    (k : ∀ h' tk dx u, IEnd s.heap h' x C dx s.heap.objs.size (mF fld tag u v) → R (.ok (.ret .none)) { s with heap := h', toks := tk }) :
    codeAny (model prog w) A (.call (.ref fI) ⟨[.ref x, v], []⟩) R s := by
  obtain ⟨oc', od', osl', lk⟩ := id I.lk
  obtain ⟨nm', q', N, bs, bm, sn, sub, ab, col, dd, k0, k1, k2, k3, k5, hC, hbm, hal⟩ := id O.cls
  have hcl : clsIn K C = some { name := nm', bases := bs, mro := .ref C :: bm, ns := N, qualname := q', hasDict := true, slotNames := sn, subclasses := sub, abstract := ab, collection := col, hasDel := false } := by unfold clsIn; rw [hC] <;> rfl
  have hself : (("self" : Str) == fld) = false := by
    rw [beq_eq_false_iff_ne] at hfs ⊢
    exact Ne.symm hfs
  refine ks_codeAny_call_defAt hroom (X _ _ lk) rfl hlim (PySem.W.codeRec_of X hcd) rfl hbind T.nocell (fun y hy => ?_) (fun h₀ hn kk => ?_) T.co T.gen T.kind
  · rcases List.mem_cons.mp hy with e | hy
    · subst e
      exact T.self
    · rw [List.mem_singleton] at hy
      subst hy
      exact hfl
  · have hxL : x ≠ s.heap.objs.size := Nat.ne_of_lt (Heap.lt_size hx)
    have m1 : ([("self", .ref x), (fld, v)] : List (Str × Value)).reverse.lookup ("self" : Str) = some (Value.ref x) := by simp [List.lookup, hself]
    have m2 : ([("self", .ref x), (fld, v)] : List (Str × Value)).reverse.lookup fld = some v := by simp [List.lookup]
    refine two_stmts (s := { s with heap := h₀, toks := _ }) (rest := [sFld fld c1 c2 c3 c4]) O I hp har T (X.keeps kk) hnx (hg.keeps kk) (hb.keeps kk) hmb hn m1 (kk _ _ hx) hxC hxL fun h2 tk dx u e => ?_
    have X2 : K.In h2 := fun a o q => e.keep a o (fun z => by rw [z, hnx] at q; cases q) (X.keeps kk a o q)
    have hn2 : h2.Ns s.heap.objs.size (fun y => ([("self", .ref x), (fld, v)] : List (Str × Value)).reverse.lookup y) := by
      obtain ⟨ob, es, ep, ho, r⟩ := hn
      exact ⟨ob, es, ep, e.keep _ _ (Ne.symm hxL) ho, r⟩
    obtain ⟨t1, hx2⟩ := e.obj
    obtain ⟨oD, esD, epD, hoD, hdD, _⟩ := e.ns.count (within_tag tag u)
    refine wpAny_execs_cons (plainObj_wpAny_Assign_Attribute ?_ (sw3 _))
    refine wpAny_Name (wpAny_loadName_local T.kind hfl hn2 m2 ?_) hfd
    refine wpAny_Name (wpAny_loadName_local T.kind T.self hn2 m1 ?_) (by decide)
    refine PySem.W.set_plain X2 (od := some oD) ⟨hx2, rfl, rfl, hoD⟩ O.sa ?_
    refine PX.osa_old X2 hx2 e.ns (within_tag tag u) (by decide) hcl (refs_px _ (show refsVE (.ref C :: bm) = true from hbm)) rfl hfn (fun h3 tk3 k3 hn3 => ?_)
    refine wpAny_execs_nil ?_
    exact k h3 tk3 dx u ⟨fun b o hb' ho => k3 b o (Nat.ne_of_lt (Nat.lt_trans (Heap.lt_size ho) e.dbig)) (e.keep b o hb' (kk b o ho)), ⟨t1, k3 _ _ (Ne.symm e.dne) hx2⟩, e.dbig, e.dne, hn3⟩
end
end EX

namespace EX
open PySem PySem.Calls PyProof.Rows PySem.HandSPX
open PySem.W (Frag findIn typeIn keepIn subIn hasDictIn nsIn mroIn clsIn codeIn fnX envX Looks KxsFacts kxs_mw ksEnv ksFn looks_mroIn looks_findIn looks_clsIn)
/-- __init__ with the arguments us leaves an own dict that holds mm -/
def Inits (prog : Program) (w : World) (K : Frag) (mg : Str → Option Value) (C fI : Addr) (us : List Value) (mm : Tok → Str → Option Value) : Prop :=
  ∀ (A : Around) (R : Result → Shared → Prop) (s : Shared) (x t0 : Addr) (mb : Str → Option Value), K.In s.heap → s.heap.NoLimit → K.lookup x = none → s.heap.Ns mainGlobals mg → s.heap.Ns builtinsNs mb → mb "super" = bootBuiltins "super" →
    s.heap.get? x = some (excO C t0) → x ≠ C → A.depth < recursionLimit → (∀ h' tk dx u, IEnd s.heap h' x C dx s.heap.objs.size (mm u) → R (.ok (.ret .none)) { s with heap := h', toks := tk }) →
    codeAny (model prog w) A (.call (.ref fI) ⟨.ref x :: us, []⟩) R s
/-- a made error: at e, its own dict at d -/
structure Made (h h' : Heap) (e C d : Addr) (m : Str → Option Value) : Prop where
  keep : ∀ b o, h.get? b = some o → h'.get? b = some o
  new : h.objs.size ≤ e
  obj : ∃ t, h'.get? e = some { cls := .ref C, dict := some d, data := .fields #[.ref t, .none, .none, .none, .bool false, .none] }
  dbig : h.objs.size ≤ d
  dne : d ≠ e
  ns : h'.Ns1 d m
section
variable {prog : Program} {w : World} {A : Around} {E : Value → Shared → Prop} {R : Result → Shared → Prop} {s : Shared} {K : Frag} {mg mb : Str → Option Value} {nm : Str} {C fI : Addr} {us : List Value} {mm : Tok → Str → Option Value}
theorem made (O : Own prog K mg nm C fI) (J : Inits prog w K mg C fI us mm) (hz : us.length ≤ sizeLine) (X : K.In s.heap) (hlim : s.heap.NoLimit) (hg : s.heap.Ns mainGlobals mg) (hb : s.heap.Ns builtinsNs mb) (hmb : mb "super" = bootBuiltins "super") (hroom : A.depth + 1 < recursionLimit)
    (hq : ∀ h' tk e d u, Made s.heap h' e C d (mm u) → R (.ok (.ret (.ref e))) { s with heap := h', toks := tk }) : codeAny (model prog w) A (.call (.ref C) ⟨us, []⟩) R s := by
  obtain ⟨nm', q', N, bs, bm, sn, sub, ab, col, dd, k0, k1, k2, k3, k5, hC, hbm, hal⟩ := id O.cls
  obtain ⟨hp, g, dr, tk, os⟩ := s
  have hold : ∀ b o, hp.get? b = some o → ((hp.push (PySem.W.kdv_tup us)).push (excO C hp.objs.size)).get? b = some o := fun b o e => Heap.get?_push_of_some _ (Heap.get?_push_of_some _ e)
  have hget : ((hp.push (PySem.W.kdv_tup us)).push (excO C hp.objs.size)).get? (hp.objs.size + 1) = some (excO C hp.objs.size) := by heap_get
  have out : ∀ a o, hp.get? a = some o → a ≠ hp.objs.size + 1 := fun a o e => Nat.ne_of_lt (Nat.lt_succ_of_lt (Heap.lt_size e))
  have hnx : K.lookup (hp.objs.size + 1) = none := by
    cases e : K.lookup (hp.objs.size + 1) with
    | none => rfl
    | some o => exact absurd rfl (out _ _ (X _ _ e))
  refine call_own F.excBase_ValueError (fun Y => refsVE_contains Y bm hbm) (X _ _ hC) (looks_findIn X O.iC) (fun self => PySem.W.bind_fn X self O.tC) hz ?_
  refine J _ _ ⟨(hp.push (PySem.W.kdv_tup us)).push (excO C hp.objs.size), g, dr, tk, os⟩ (hp.objs.size + 1) hp.objs.size mb (X.keeps hold) (hlim.keeps hold) hnx (hg.keeps hold) (hb.keeps hold) hmb hget (Ne.symm (out _ _ (X _ _ hC))) hroom fun h' tk' dx u Z => ?_
  obtain ⟨t1, ho⟩ := Z.obj
  have hd : hp.objs.size + 1 + 1 < dx := by
    have := Z.dbig
    rw [Heap.size_push, Heap.size_push] at this
    exact this
  exact ⟨rfl, hq h' tk' (hp.objs.size + 1) dx u ⟨fun b o e => Z.keep b o (out b o e) (hold b o e), Nat.le_succ _, ⟨t1, ho⟩, by show hp.objs.size ≤ dx; omega, Z.dne, Z.ns⟩⟩
end
end EX

namespace EX
open PySem PySem.Spec PyProof.Rows L2
section
variable {X : Cx} {pins : List (Addr × Obj)} {σ : L2.St} {H : Hp} {s : Shared} {nm tag fld : Str} {C fI : Addr}
theorem mkp_of (O : Own X.prog X.K X.mg nm C fI) (I : Inv X pins σ H s) {h' : Heap} {tk' : Nat} {e d : Addr} {m : Str → Option Value} {fs : List (Str × V)} {Q : XK} (M : Made s.heap h' e C d m) (hr : ∀ f, RelO (fs.lookup f) (m f))
    (q : ∀ d, H d = none → Q (.ref C) (some d) (upd H d (.xd fs))) : MkP X pins σ Q (.ref e) { s with heap := h', toks := tk' } := by
  obtain ⟨hp, g, dr, tk, os⟩ := s
  obtain ⟨t, ho⟩ := M.obj
  obtain ⟨G, g1, g2⟩ := restrict h' fun b => decide (b ≠ e)
  have gk : ∀ b, b ≠ e → G.get? b = h'.get? b := fun b hb => g1 b (decide_eq_true hb)
  have ge : G.get? e = none := g2 e (by simp)
  have old : ∀ b o, hp.get? b = some o → G.get? b = some o := fun b o z => (gk b (fun y => absurd (Heap.lt_size z) (by rw [y]; exact Nat.not_lt.mpr M.new))).trans (M.keep b o z)
  have ob : ObjOk X.prog X.w (upd H d (.xd fs)) G d (.xd fs) := ⟨m, M.ns.at (fun o z => (gk d M.dne).trans z), hr⟩
  have J : Inv X pins σ (upd H d (.xd fs)) ⟨G, g, dr, tk', os⟩ := I.laid (t' := tk') old M.dbig ob
  refine ⟨e, _, _, ⟨G, g, dr, tk', os⟩, upd H d (.xd fs), .ref C, some d, rfl, J, fun b o z => ?_, ge, ho, ⟨rfl, rfl⟩, rfl, rfl, ?_, rfl, I.bare, raises_own O.exC O.tyC, q d (I.hok.fresh M.dbig)⟩
  · have z : G.get? b = some o := z
    have hb : b ≠ e := fun y => by rw [y, ge] at z; cases z
    exact (gk b hb).symm.trans z
  · rw [upd_ne (Ne.symm M.dne)]
    exact I.hok.fresh M.new
theorem rel0 (tag : Str) (u : Tok) (f : Str) : RelO (List.lookup f [(("tag" : Str), V.str tag)]) (mT tag u f) := by
  unfold mT
  by_cases h : f = "tag"
  · subst h
    rw [if_pos rfl, show List.lookup ("tag" : Str) [(("tag" : Str), V.str tag)] = some (V.str tag) by simp [List.lookup]]
    exact ⟨u, rfl⟩
  · have h2 : (f == ("tag" : Str)) = false := by simpa using h
    rw [if_neg h, show List.lookup f [(("tag" : Str), V.str tag)] = none by simp [List.lookup, h2]]
    trivial
theorem rel1 {v : V} {v' : Value} (r : RelV v v') (fld tag : Str) (u : Tok) (f : Str) : RelO (List.lookup f [(fld, v), (("tag" : Str), V.str tag)]) (mF fld tag u v' f) := by
  unfold mF
  by_cases h : f = fld
  · subst h
    rw [if_pos rfl, show List.lookup f [(f, v), (("tag" : Str), V.str tag)] = some v by simp [List.lookup]]
    exact r
  · have h2 : (f == fld) = false := by simpa using h
    have e : List.lookup f [(fld, v), (("tag" : Str), V.str tag)] = List.lookup f [(("tag" : Str), V.str tag)] := by simp [List.lookup, h2]
    rw [if_neg h, e]
    exact rel0 tag u f
/-- C() -/
def tMk0 (C : Addr) (tag : Str) : L2.St → Hp → XK → Prop := fun _ H Q => ∀ d, H d = none → Q (.ref C) (some d) (upd H d (.xd [("tag", .str tag)]))
/-- C(e) -/
def tMk1 (C : Addr) (fld tag : Str) (ta : TA) : L2.St → Hp → XK → Prop := fun σ H Q => ta σ H fun vs H1 => ∃ v, vs = [v] ∧ ∀ d, H1 d = none → Q (.ref C) (some d) (upd H1 d (.xd [(fld, v), ("tag", .str tag)]))
theorem pmk0 {p pos : Pos} {k : Nat} (O : Own X.prog X.K X.mg nm C fI) (J : Inits X.prog X.w X.K X.mg C fI [] (mT tag)) (hr : Room k X.A) (hg : Gl X nm := by rfl) (hdb : (nm == ("__debug__" : Str)) = false := by decide) : PMk X (.Call (.Name nm p) [] [] pos) (tMk0 C tag) := by
  intro pins s σ H Q I h
  obtain ⟨mb, hb1, hb2⟩ := I.mod.blt
  refine wpAny_Call_Name_kw (ld_glob I hg O.gC ?_ hdb)
  refine PySem.W.callWith_K0 I.kIn O.kC ?_
  refine wpAny_call (made O J (Nat.zero_le _) I.kIn I.nolimit (I.mod.glob.keeps I.bk) (hb1.keeps I.bk) (hb2 _ (by decide)) (by have := hr.dp; omega) fun h' tk' e d u M => ?_)
  exact mkp_of O I M (rel0 tag u) h
theorem pmk1 {a : Expr} {ta : TA} {p pos : Pos} {k : Nat} (O : Own X.prog X.K X.mg nm C fI) (J : ∀ v, Inits X.prog X.w X.K X.mg C fI [v] (fun u => mF fld tag u v)) (hr : Room k X.A) (ha : PA X [a] ta) (hg : Gl X nm := by rfl) (hdb : (nm == ("__debug__" : Str)) = false := by decide)
    (he : starEach (a :: []) X.env = (false, eval a X.env) :: starEach [] X.env := by rfl) (hpl : (backTo pos (starEach [] X.env)).any (·.1) = false := by rfl) : PMk X (.Call (.Name nm p) [a] [] pos) (tMk1 C fld tag ta) := by
  intro pins s σ H Q I h
  refine wpAny_Call_Name_kw (ld_glob I hg O.gC ?_ hdb)
  refine PySem.W.callWith_K (h₀ := X.base) I.ok.mod.kin O.kC (thn (ha.run pos pins s σ H _ I h) fun us s1 hh => ?_) he hpl
  obtain ⟨vs, H1, I1, r1, v, ev, q1⟩ := hh
  subst ev
  refine ⟨I1.kIn, ?_⟩
  cases r1 with
  | cons rv rn =>
    rename_i v' us'
    cases rn
    obtain ⟨mb, hb1, hb2⟩ := I1.mod.blt
    refine wpAny_call (made O (J v') (by show 1 ≤ sizeLine; decide) I1.kIn I1.nolimit (I1.mod.glob.keeps I1.bk) (hb1.keeps I1.bk) (hb2 _ (by decide)) (by have := hr.dp; omega) fun h' tk' e d u M => ?_)
    exact mkp_of O I1 M (rel1 rv fld tag u) q1
end
end EX

namespace EX
open PySem PySem.Spec PyProof.Rows L2
/-! ### try .. except (x1, x2, x3) as n -/
theorem fly_push {B h : Heap} {l : List Env} {a : Addr} {Z : Obj → Prop} (o : Obj) (f : HandSPX.FlyingZ B l a Z h) : HandSPX.FlyingZ B l a Z (h.push o) := by
  obtain ⟨f1, f2, f3, oe, vs, T, oT, ts, g1, g2, g3, g4, g5, g6, g7, g8, g9⟩ := f
  have up : ∀ b u, h.get? b = some u → (h.push o).get? b = some u := fun b u e => Heap.get?_push_of_some _ e
  exact ⟨fun b u e => up b u (f1 b u e), f2, f3.of_keeps fun b u e _ => ⟨u, up b u e, rfl⟩, oe, vs, T, oT, ts, up _ _ g1, g2, g3, g4, g5, g6, up _ _ g7, g8, g9⟩
theorem upTo_push {h h' : Heap} (o : Obj) (u : h.UpToSlots h') : h.UpToSlots (h'.push o) := fun b z e n => by
  obtain ⟨sl, q⟩ := u b z e n
  exact ⟨sl, Heap.get?_push_of_some _ q⟩
/-- what the clause wishes: the class is one of the three, then the suite -/
def wTup (K : PySem.W.Frag) (cs : List Value) (i : Nat) (ts : Addr → Value → Option Addr → TS) (D : Ends) : WX := fun cls d σ H => PySem.W.exmAny K cls cs = some true ∧
  ∀ a, H a = none → ts a cls d { nx := fun σ1 H1 => D.nx (σ1.set i none) H1, rt := D.rt, bk := fun σ1 H1 => D.bk (σ1.set i none) H1, ct := fun σ1 H1 => D.ct (σ1.set i none) H1 } (σ.set i (some (.ref a))) H
section
variable {X : Cx} {x1 x2 x3 n : Str} {c1 c2 c3 : Addr} {i j : Nat} {body suite : List Stmt} {b₀ : Stmt} {p1 p2 p3 p4 pos pos' : Pos} {tb : WX → TS} {ts : Addr → Value → Option Addr → TS}
/-- the three classes, in a suite's context -/
theorem eval_three {a : Addr} {pn pins : List (Addr × Obj)} {σ : L2.St} {H : Hp} {s : Shared} {Q : Value → Shared → Prop} {E : Value → Shared → Prop} (I : Inv (X.suite a pn) pins σ H s)
    (g1 : Gl X x1 ∧ X.mg x1 = some (.ref c1) ∧ (x1 == ("__debug__" : Str)) = false) (g2 : Gl X x2 ∧ X.mg x2 = some (.ref c2) ∧ (x2 == ("__debug__" : Str)) = false) (g3 : Gl X x3 ∧ X.mg x3 = some (.ref c3) ∧ (x3 == ("__debug__" : Str)) = false)
    (q : Q (.ref s.heap.objs.size) { s with heap := s.heap.push { cls := .type "tuple", data := .seq [Value.ref c1, .ref c2, .ref c3].toArray } })
    (hst : starEach [.Name x1 p1, .Name x2 p2, .Name x3 p3] X.env = [(false, eval (.Name x1 p1) X.env), (false, eval (.Name x2 p2) X.env), (false, eval (.Name x3 p3) X.env)]) :
    wpAny (model X.prog X.w) (X.A.mark (some (.ref a))) (eval (.Tuple [.Name x1 p1, .Name x2 p2, .Name x3 p3] j p4) X.env) Q E s := by
  refine wpAny_Tuple_spliced ?_
  rw [hst]
  refine Calls.spliced_cons (ld_glob (X := X.suite a pn) I g1.1 g1.2.1 ?_ g1.2.2)
  refine Calls.spliced_cons (ld_glob (X := X.suite a pn) I g2.1 g2.2.1 ?_ g2.2.2)
  refine Calls.spliced_cons (ld_glob (X := X.suite a pn) I g3.1 g3.2.1 ?_ g3.2.2)
  exact Calls.spliced_nil ⟨by show 3 ≤ sizeLine; decide, q⟩
theorem ps_try_tup (hs : X.stack = X.env :: X.outer) (hf : X.env.frame = some X.env.locals) (hN : X.N.Nodup) (hi : X.N[i]? = some n) (hln : X.env.kindOf n = some .local)
    (g1 : Gl X x1 ∧ X.mg x1 = some (.ref c1) ∧ (x1 == ("__debug__" : Str)) = false) (g2 : Gl X x2 ∧ X.mg x2 = some (.ref c2) ∧ (x2 == ("__debug__" : Str)) = false) (g3 : Gl X x3 ∧ X.mg x3 = some (.ref c3) ∧ (x3 == ("__debug__" : Str)) = false)
    (hst : starEach [.Name x1 p1, .Name x2 p2, .Name x3 p3] X.env = [(false, eval (.Name x1 p1) X.env), (false, eval (.Name x2 p2) X.env), (false, eval (.Name x3 p3) X.env)])
    (hb : ∀ (W : WX) (pn : List (Addr × Obj)) (xe : Value → Shared → Prop), Takes (X.tr pn xe) W → PSs (X.tr pn xe) body (tb W))
    (hsu : ∀ (a : Addr) (oe : Obj) (cls : Value) (d : Option Addr) (pn : List (Addr × Obj)), Zc cls d oe → (∃ vs, oe.data = .fields vs) → PSs (X.suite a ((a, oe) :: pn)) (b₀ :: suite) (ts a cls d)) :
    PS X (.Try body [.ExceptHandler (some (.Tuple [.Name x1 p1, .Name x2 p2, .Name x3 p3] j p4)) (some n) (b₀ :: suite) pos'] [] [] pos) (fun D σ H => tb (wTup X.K [.ref c1, .ref c2, .ref c3] i ts D) D σ H) := by
  refine ⟨fun pins s σ H D I hw => ?_⟩
  have ok := I.ok
  have frs_ : X.A.frames = some (X.env :: X.outer) := by rw [ok.frames, hs]
  have here : Loc X.env.scope n := .inl hln
  refine wpAny_Try_except (wpAny_mono ((hb (wTup X.K [.ref c1, .ref c2, .ref c3] i ts D) (X.pn ++ pins) (fun e sa => wpAny (model X.prog X.w) X.A (noteFrame e X.env) (fun _ sb => wpAny (model X.prog X.w) X.A (setFlight e none) (fun _ sc =>
    wpAny (model X.prog X.w) X.A (handleBy e X.env [.ExceptHandler (some (.Tuple [.Name x1 p1, .Name x2 p2, .Name x3 p3] j p4)) (some n) (b₀ :: suite) pos']) (SP X pins D) X.xe sc) X.xe sb) X.xe sa) (fun u s2 air => ?_)).run [] s σ H D (I.toTry _) hw) (fun fl s2 done => ?_) (fun _ _ z => z))
  · -- an exception comes
    obtain ⟨a, B, sI, pins2, σ2, H2, cls, d, rfl, Jt, nb, up, sky, na, os, ag, hm, hy⟩ := air
    have J : Inv X pins σ2 H2 sI := Jt.ofTry ok
    rw [show (X.tr (X.pn ++ pins) _).stack = X.env :: X.outer from hs] at sky
    show wpAny (model X.prog X.w) X.A (noteFrame (.ref a) X.env) _ _ _
    refine Sky.land Zc.steady frs_ hf sky fun h3 fl3 up3 => ?_
    obtain ⟨oe3, vs3, ge3, hz3, gd3⟩ := fl3.there
    have nfr : a ∉ frs (X.env :: X.outer) := fun mem => by
      obtain ⟨_, o2, e2, nf⟩ := fl3.2.2.1.mem mem
      rw [ge3] at e2
      cases e2
      exact nf _ gd3
    have nL : a ≠ X.env.locals := fun z => nfr (List.mem_filterMap.mpr ⟨X.env, List.mem_cons_self, hf.trans (by rw [z])⟩)
    have nF : a ∉ X.fs := fun mem => by
      obtain ⟨e2, m2, q2⟩ := List.mem_filterMap.mp mem
      exact nfr (List.mem_filterMap.mpr ⟨e2, List.mem_cons_of_mem _ m2, q2⟩)
    have J3 : Inv X pins σ2 H2 { s2 with heap := h3 } := J.landed nb fl3.1 (up.trans up3) os ag
    refine wpAny_handleBy_cons (codeAny_handlers_test ?_) (fun q => by cases q)
    refine eval_three (pn := (a, oe3) :: (X.pn ++ pins)) (J3.suite ge3 gd3 na nL nF) g1 g2 g3 ?_ hst
    -- the classes' tuple is laid
    have fl4 := fly_push { cls := .type "tuple", data := .seq [Value.ref c1, .ref c2, .ref c3].toArray } fl3
    have up4 := upTo_push { cls := .type "tuple", data := .seq [Value.ref c1, .ref c2, .ref c3].toArray } (up.trans up3)
    have ht : (h3.push { cls := .type "tuple", data := .seq [Value.ref c1, .ref c2, .ref c3].toArray }).get? h3.objs.size = some { cls := .type "tuple", data := .seq [Value.ref c1, .ref c2, .ref c3].toArray } := Heap.get?_push_size _ rfl
    generalize h3.push { cls := .type "tuple", data := .seq [Value.ref c1, .ref c2, .ref c3].toArray } = h4 at fl4 up4 ht
    have J4 : Inv X pins σ2 H2 { s2 with heap := h4 } := J.landed nb fl4.1 up4 os ag
    obtain ⟨oe4, vs4, ge4, hz4, gd4⟩ := fl4.there
    have LT : PySem.W.Looks (model X.prog X.w) h4 (typeOf (.ref a)) cls := fun _ _ _ _ kk q => wpAny_typeOf_ref (kk _ _ ge4) (by rw [hz4.1]; exact q)
    refine (PySem.W.exm_tup3 (M := model X.prog X.w) J4.kIn LT ht hm).here ?_
    refine codeAny_handlers_suite_as (HandSPX.lands_againZ fl4 fun h5 fl5 up5 => ?_)
    have J5 : Inv X pins σ2 H2 { s2 with heap := h5 } := J.landed nb fl5.1 (up4.trans up5) os ag
    obtain ⟨oe5, vs5, ge5, hz5, gd5⟩ := fl5.there
    refine store_ok (X := X.suite a ((a, oe5) :: (X.pn ++ pins))) (v := .ref a) (J5.suite ge5 gd5 na nL nF) hN hi here rfl (fun s6 S6 => ?_) (.inr hln)
    refine wpAny_mono ((hsu a oe5 cls d (X.pn ++ pins) hz5 ⟨_, gd5⟩).run [] s6 _ H2 _ S6 (hy a na)) (fun fl s7 e7 => ?_) (fun _ _ z => False.elim z)
    have fin : ∀ {σ7 : L2.St} {H7 : Hp} {Q : Shared → Prop}, Inv (X.suite a ((a, oe5) :: (X.pn ++ pins))) [] σ7 H7 s7 → (∀ s8, Inv X pins (σ7.set i none) H7 s8 → Q s8) → wpAny (model X.prog X.w) X.A (do bindName X.env n .none; unbindBehindTheSuite X.env n pos') (fun _ s8 => Q s8) X.xe s7 :=
      fun {σ7 H7 Q} S7 hq => gone_ok (S7.unsuite ok) hN hi hln hq
    cases fl with
    | next =>
      obtain ⟨σ7, H7, S7, q7⟩ := e7
      exact fin S7 fun _ J8 => ⟨_, _, J8, q7⟩
    | brk =>
      obtain ⟨σ7, H7, S7, q7⟩ := e7
      exact fin S7 fun _ J8 => ⟨_, _, J8, q7⟩
    | cont =>
      obtain ⟨σ7, H7, S7, q7⟩ := e7
      exact fin S7 fun _ J8 => ⟨_, _, J8, q7⟩
    | ret u7 =>
      obtain ⟨v7, σ7, H7, S7, r7, q7⟩ := e7
      exact fin S7 fun _ J8 => ⟨_, _, _, J8, r7, q7⟩
  · cases fl with
    | next =>
      obtain ⟨σ2, H2, J2, q2⟩ := done
      exact wpAny_execs_nil ⟨σ2, H2, J2.ofTry ok, q2⟩
    | brk =>
      obtain ⟨σ2, H2, J2, q2⟩ := done
      exact ⟨σ2, H2, J2.ofTry ok, q2⟩
    | cont =>
      obtain ⟨σ2, H2, J2, q2⟩ := done
      exact ⟨σ2, H2, J2.ofTry ok, q2⟩
    | ret u2 =>
      obtain ⟨v2, σ2, H2, J2, r2, q2⟩ := done
      exact ⟨v2, σ2, H2, J2.ofTry ok, r2, q2⟩
end
end EX

namespace EX
open PySem PySem.Spec PyProof.Rows L2
open L2H (RoomH PinOk cxH inv_startH)
/-! ### the fields of a pinned error -/
structure ECls (K : PySem.W.Frag) (C : Addr) : Prop where
  ga : PySem.W.findIn K (.ref C) "__getattribute__" = some (some (.builtin "BaseException.__getattribute__"))
  gg : PySem.W.findIn K (.ref C) "__getattr__" = some none
  exC : PySem.W.subIn K (.ref C) (.type "BaseException") = some true
  hd : PySem.W.hasDictIn K C = true
theorem Own.ecls {P : Program} {K : PySem.W.Frag} {mg : Str → Option Value} {nm : Str} {C fI : Addr} (O : Own P K mg nm C fI) : ECls K C := ⟨O.ga, O.gg, O.exC, O.hdC⟩
/-- p is an error of the class C with the fields fs at d -/
structure ErrP (K : PySem.W.Frag) (H : Hp) (p : Addr × Obj) (C d : Addr) (fs : List (Str × V)) : Prop where
  cls : p.2.cls = .ref C
  dict : p.2.dict = some d
  data : ∃ vs, p.2.data = .fields vs
  ec : ECls K C
  at_ : H d = some (.xd fs)
def tXf (K : PySem.W.Frag) (p : Addr × Obj) (f : Str) (te : TE) : TE := fun σ H Q => te σ H fun x H1 => x = .ref p.1 ∧ ∃ C d fs v, ErrP K H1 p C d fs ∧ PySem.W.findIn K (.ref C) f = some none ∧ fs.lookup f = some v ∧ Q v H1
theorem pe_xf {X : Cx} {p : Addr × Obj} {e : Expr} {te : TE} {f : Str} {pos : Pos} (hp : p ∈ X.pn) (he : PE X e te) (hb : attributeBase e f X.env (eval e X.env) = eval e X.env := by rfl) : PE X (.Attribute e f pos) (tXf X.K p f te) := by
  refine ⟨fun pins s σ H Q I h => ?_⟩
  refine attr_of hb (thn (he.run pins s σ H _ I h) fun u s1 hh => ?_)
  obtain ⟨x, H1, I1, rx, ex, C, d, fs, v, EP, hn, hl, q⟩ := hh
  subst ex
  obtain rfl : u = Value.ref p.1 := rx
  obtain ⟨hcl, hdi, ⟨vs, hda⟩, ec, hat⟩ := EP
  have P1 := (I1.pin p (List.mem_append_left _ hp)).1
  obtain ⟨mA, hns, hr⟩ := (show ObjOk X.prog X.w H1 s1.heap d (.xd fs) from I1.hok d _ hat)
  obtain ⟨od, ho, hlk⟩ := lookIn_ns hns
  obtain ⟨u2, hu, ru⟩ := RelO.some_of (v := v) (o := mA f) (by rw [← hl]; exact hr f)
  have J : PySem.W.InstAt s1.heap p.1 p.2 C (some od) := ⟨P1, hcl, by unfold PySem.W.notCls; rw [hda] <;> rfl, by rw [hdi]; exact ho⟩
  exact HandSPX.exc_get I1.kIn J ec.ga ec.gg ec.exC (PySem.W.findObj_own ec.hd hn rfl (by rw [hlk, hu])) (handed_of ru) ⟨v, H1, I1.tok _, ru, q⟩
/-! ### defs called in a suite, with the pinned error -/
structure FnS (P : Program) (w : World) (K : PySem.W.Frag) (mg : Str → Option Value) (base : Heap) (k : Nat) (f : Addr) (fd : FuncData) (ps : List Str) (sp : Addr × Obj → List V → Hp → VK → Prop) : Prop where
  len : ∀ p vs H Q, sp p vs H Q → vs.length = ps.length
  run : ∀ (A : Around) (outer : List Env) (s : Shared) (H : Hp) (args : Args) (us : List Value) (vs : List V) (Q : VK) (p : Addr × Obj), RoomH k A → PinOk outer H s p → Env0 P w K mg base A outer s H → BindsTo s fd args (ps.zip us) → Vals vs us → sp p vs H Q →
    codeAny (model P w) A (.call (.ref f) args) (CR C8.CX0 outer P w H s Q C8.E0) s
theorem fnS {P : Program} {w : World} {K : PySem.W.Frag} {mg : Str → Option Value} {base : Heap} {k : Nat} {f : Addr} {name qual : Str} {params : Arguments} {body : List Stmt} {scope : Scope} {dV kV doc pm cdv ct oc : Value} {an od : Option Addr} {osl : Array (Option Value)} {N ps : List Str}
    {sp : Addr × Obj → List V → Hp → VK → Prop} (lk : K.lookup f = some ⟨oc, od, .func (PySem.W.fnOf name qual params body scope dV kV doc pm an cdv ct), osl⟩) (hcd : PySem.W.codeIn K cdv qual = true) (S : FnScope N ps scope) (len : ∀ p vs H Q, sp p vs H Q → vs.length = ps.length)
    (hbody : ∀ (A : Around) (outer : List Env) (s : Shared) (H : Hp) (vs : List V) (Q : VK) (p : Addr × Obj), RoomH k (A.deeper (envOfC qual scope s.heap.objs.size f cdv)) → sp p vs H Q →
      ∃ t, PSs (cxH C8.CX0 P w K mg base N qual scope f cdv A outer s H C8.E0 p) body t ∧ t { nx := fun _ H1 => Q .non H1, rt := Q } (L2.start N vs) H) :
    FnS P w K mg base (k + 1) f (PySem.W.fnOf name qual params body scope dV kV doc pm an cdv ct) ps sp := by
  refine ⟨len, fun A outer s H args us vs Q p hr pin e0 hb r hq => ?_⟩
  have kin : K.In s.heap := e0.mod.kin.keeps fun b o e => (e0.bs b o e).1
  have lim : s.heap.NoLimit := e0.mod.nolimit.keeps fun b o e => (e0.bs b o e).1
  have kinds : ∀ y ∈ ps.zip us, scope.names.lookup y.1 = some .local ∨ (scope.names.lookup y.1 = some .cell ∧ ((cellsFrom (s.heap.objs.size + 1) scope.names []).lookup y.1).isSome = true) := fun y hy =>
    (S.par y.1 (List.of_mem_zip hy).1).elim .inl fun q => .inr ⟨q, PySem.W.cellsFrom_some _ _ _ (.inl q)⟩
  refine codeAny_call_function hr.depth (kin _ _ lk) rfl S.co S.gen rfl (PySem.W.codeRec_of kin hcd) (hb _ _ _ _ (wpAny_newFunctionEnv_cells S.kind kinds fun env he s1 xx => ?_))
  subst he
  obtain ⟨t, ht, hw⟩ := hbody A outer s H vs Q p (hr.deeper _) hq
  have I := inv_startH (CX := C8.CX0) (E := C8.E0) S pin e0 (len _ _ _ _ hq) r xx
  refine ⟨lim.keeps xx.toInCall.keep, codeAny_func (wpAny_mono (ht.run [] s1 (L2.start N vs) H _ I hw) (fun fl s2 e2 => ?_) fun _ _ z => z)⟩
  cases fl with
  | ret u =>
    obtain ⟨v, σ2, H2, J, rv, q⟩ := e2
    exact ⟨v, H2, J.os, J.bare, J.base, J.hok, rv, q⟩
  | next =>
    obtain ⟨σ2, H2, J, q⟩ := e2
    exact ⟨.non, H2, J.os, J.bare, J.base, J.hok, rfl, q⟩
  | brk => exact e2.elim fun _ z => z.elim fun _ z => z.2.elim
  | cont => exact e2.elim fun _ z => z.elim fun _ z => z.2.elim
/-- f(e, ..) in a suite that holds p -/
def tCallS' (sp : Addr × Obj → List V → Hp → VK → Prop) (p : Addr × Obj) (t : TA) : TE := fun σ H Q => t σ H fun vs H1 => sp p vs H1 Q
theorem pe_callS' {X : Cx} {k : Nat} {f : Addr} {fd : FuncData} {ps : List Str} {sp : Addr × Obj → List V → Hp → VK → Prop} {x : Str} {q pos : Pos} {e : Expr} {es : List Expr} {t : TA} {p : Addr × Obj} (F : FnS X.prog X.w X.K X.mg X.base k f fd ps sp) (hr : RoomH k X.A) (hp : p ∈ X.pn) (hg : Gl X x) (hm : X.mg x = some (.ref f))
    (hk : PySem.W.keepIn X.K (.ref f) = true) (hb : L2.Binds X.K fd ps []) (ha : PA X (e :: es) t) (hdb : (x == ("__debug__" : Str)) = false := by decide) (he : starEach (e :: es) X.env = (false, eval e X.env) :: starEach es X.env := by rfl) (hpl : (backTo pos (starEach es X.env)).any (·.1) = false := by rfl) :
    PE X (.Call (.Name x q) (e :: es) [] pos) (tCallS' sp p t) := by
  refine ⟨fun pins s σ H Q I h => wpAny_Call_Name_kw (ld_glob I hg hm ?_ hdb)⟩
  refine PySem.W.callWith_K (h₀ := X.base) I.ok.mod.kin hk (thn (ha.run pos pins s σ H _ I h) fun us s1 ⟨vs, H1, I1, r, q⟩ => ⟨I1.kIn, ?_⟩) he hpl
  have bb := hb s1 us I1.kIn (by rw [List.append_nil, ← r.length]; exact F.len _ _ _ _ q)
  rw [List.append_nil] at bb
  have P1 := I1.pin p (List.mem_append_left _ hp)
  have pin : PinOk X.stack H1 s1 p := ⟨P1.1, P1.2.1, fun mem => (List.mem_cons.mp (I1.stkSub p.1 mem)).elim P1.2.2.1 P1.2.2.2.1, P1.2.2.2.2⟩
  refine wpAny_call (codeAny_mono (F.run X.A X.stack s1 H1 ⟨us, []⟩ us vs Q p hr pin I1.env0 bb r q) fun rr s2 hq => ?_)
  cases rr with
  | error z => exact (show False from hq).elim
  | ok fl =>
    cases fl with
    | ret u => exact I1.after hq
    | next => exact False.elim hq
    | brk => exact False.elim hq
    | cont => exact False.elim hq
end EX

namespace EX
open PySem PySem.Spec PyProof.Rows L2
/-! ### what an error tells -/
def Kd (tag : Str) (f : Option Str) : Prop := ((tag = "InvalidRoot" ∨ tag = "InvalidNumber" ∨ tag = "InvalidSlope") ∧ f = some "given") ∨ (tag = "InvalidDigits" ∧ f = some "index") ∨ (tag = "InvalidSaying" ∧ f = some "number") ∨ ((tag = "FieldsDiffer" ∨ tag = "InvalidText") ∧ f = none) ∨ (tag = "InvalidRow" ∧ f = some "name")
/-- what is known of an error of the class C with the own dict at d: its tag, and the value u of its field -/
structure Tells (K : PySem.W.Frag) (H : Hp) (C d : Addr) (fs : List (Str × V)) (tag : Str) (u : V) : Prop where
  at_ : H d = some (.xd fs)
  tag_ : fs.lookup ("tag" : Str) = some (V.str tag)
  noT : PySem.W.findIn K (.ref C) "tag" = some none
  fld : ∃ f, Kd tag f ∧ (f = none → u = .non) ∧ ∀ g, f = some g → fs.lookup g = some u ∧ PySem.W.findIn K (.ref C) g = some none
def spErr (K : PySem.W.Frag) : Addr × Obj → List V → Hp → VK → Prop := fun p vs H Q => vs = [V.ref p.1] ∧ ∃ C d fs tag u, ErrP K H p C d fs ∧ Tells K H C d fs tag u ∧ ∀ H', (∀ b o, H b = some o → H' b = some o) → Q u H'
def spPlaceE (K : PySem.W.Frag) : Addr × Obj → List V → Hp → VK → Prop := fun p vs H Q => vs = [V.ref p.1] ∧ ∃ C d fs tag u, ErrP K H p C d fs ∧ Tells K H C d fs tag u ∧ (tag = "InvalidDigits" ∨ tag = "InvalidSaying") ∧ Q u H
theorem kd_digits {f : Option Str} (h : Kd "InvalidDigits" f) : f = some "index" := by
  rcases h with ⟨h | h | h, _⟩ | ⟨_, h⟩ | ⟨h, _⟩ | ⟨h | h, _⟩ | ⟨h, _⟩
  all_goals first | exact h | exact absurd h (by decide)
theorem kd_saying {f : Option Str} (h : Kd "InvalidSaying" f) : f = some "number" := by
  rcases h with ⟨h | h | h, _⟩ | ⟨h, _⟩ | ⟨_, h⟩ | ⟨h | h, _⟩ | ⟨h, _⟩
  all_goals first | exact h | exact absurd h (by decide)
theorem Tells.same {K : PySem.W.Frag} {H H' : Hp} {C d : Addr} {fs : List (Str × V)} {tag : Str} {u : V} (T : Tells K H C d fs tag u) (s : ∀ b o, H b = some o → H' b = some o) : Tells K H' C d fs tag u := ⟨s _ _ T.at_, T.tag_, T.noT, T.fld⟩
theorem ErrP.same {K : PySem.W.Frag} {H H' : Hp} {p : Addr × Obj} {C d : Addr} {fs : List (Str × V)} (e : ErrP K H p C d fs) (s : ∀ b o, H b = some o → H' b = some o) : ErrP K H' p C d fs := ⟨e.cls, e.dict, e.data, e.ec, s _ _ e.at_⟩
theorem inV_str (x : Str) (ys : List Str) : inV (.str x) (ys.map V.str) = decide (x ∈ ys) := by
  unfold inV
  rw [List.any_map]
  induction ys with
  | nil => simp
  | cons y ys ih =>
    rw [List.any_cons, ih]
    by_cases h : y = x
    · subst h
      simp [eqV]
    · simp [eqV, h, Ne.symm h]
theorem flat_strs (ys : List Str) : (ys.map V.str).all flatV = true := by
  induction ys with
  | nil => rfl
  | cons y ys ih => simpa [flatV] using ih
def L1 : List Str := ["InvalidRoot", "InvalidNumber", "InvalidSlope", "InvalidLimit"]
def L2' : List Str := ["TooMany", "CapacityExceeded"]
def L3 : List Str := ["InvalidDigits", "InvalidSaying", "InvalidCommand", "ParseError"]
def L4 : List Str := ["InvalidText", "FieldsDiffer", "NotSingle", "Endless", "NoTurn", "NothingLeft"]
theorem kd1 {tag : Str} {f : Option Str} (h : Kd tag f) (m : tag ∈ L1) : f = some "given" := by
  rcases h with ⟨_, h⟩ | ⟨rfl, _⟩ | ⟨rfl, _⟩ | ⟨rfl | rfl, _⟩ | ⟨rfl, _⟩
  all_goals first | exact h | exact absurd m (by decide +kernel)
theorem kd2 {tag : Str} {f : Option Str} (h : Kd tag f) : ¬ tag ∈ L2' := by
  rcases h with ⟨rfl | rfl | rfl, _⟩ | ⟨rfl, _⟩ | ⟨rfl, _⟩ | ⟨rfl | rfl, _⟩ | ⟨rfl, _⟩
  all_goals decide +kernel
theorem kd3 {tag : Str} {f : Option Str} (h : Kd tag f) (m : tag ∈ L3) : tag = "InvalidDigits" ∨ tag = "InvalidSaying" := by
  rcases h with ⟨rfl | rfl | rfl, _⟩ | ⟨rfl, _⟩ | ⟨rfl, _⟩ | ⟨rfl | rfl, _⟩ | ⟨rfl, _⟩
  all_goals first | exact .inl rfl | exact .inr rfl | exact absurd m (by decide +kernel)
theorem kd4 {tag : Str} {f : Option Str} (h : Kd tag f) (m : tag ∈ L4) : f = none := by
  rcases h with ⟨rfl | rfl | rfl, _⟩ | ⟨rfl, _⟩ | ⟨rfl, _⟩ | ⟨_, h⟩ | ⟨rfl, _⟩
  all_goals first | exact h | exact absurd m (by decide +kernel)
theorem kd5 {tag : Str} {f : Option Str} (h : Kd tag f) (m1 : ¬ tag ∈ L1) (m3 : ¬ tag ∈ L3) (m4 : ¬ tag ∈ L4) : f = some "name" := by
  rcases h with ⟨rfl | rfl | rfl, _⟩ | ⟨rfl, _⟩ | ⟨rfl, _⟩ | ⟨rfl | rfl, _⟩ | ⟨_, h⟩
  all_goals first | exact h | exact absurd (by decide +kernel) m1 | exact absurd (by decide +kernel) m3 | exact absurd (by decide +kernel) m4
end EX

namespace RF
open PySem L2 PyProof.Rows EX
open L2H (RoomH PinOk cxH)
section
variable {P : Program} {w : World} {K : PySem.W.Frag} {mg : Str → Option Value} {base : Heap}
abbrev n_law_place : List Str := ["_law_one"]
theorem sc_law_place : FnScope n_law_place ["_law_one"] (defScope (top 38)) := ⟨rfl, rfl, rfl, by decide +kernel, rfl, by decide +kernel, by decide +kernel⟩
theorem ok_lplace {f : Addr} {fd : FuncData} {k : Nat} (F : Fun K "_law_place" "_law_place" (top 38) f fd) : FnS P w K mg base (k + 1) f fd ["_law_one"] (spPlaceE K) := by
  obtain ⟨oc, od, kV, doc, pm, an, cdv, ct, osl, rfl, lk, hcd⟩ := F.ex
  refine fnS lk hcd sc_law_place (fun p vs H Q h => by obtain ⟨rfl, _⟩ := h; rfl) fun A outer s H vs Q p hr h => ?_
  obtain ⟨rfl, C, d, fs, tag, u, EP, T, ht, q⟩ := h
  have hp : p ∈ [p] := List.mem_singleton.mpr rfl
  obtain ⟨fo, hk, h0, h1⟩ := T.fld
  refine ⟨_, (pss_cons (ps_if (pt_cmpR op_eq (pe_xf (p := p) hp (pv 0)) pe_str (nomark _))
      (pss_one (ps_ret (pe_xf (p := p) hp (pv 0))))
      pss_nil)
      (pss_cons (ps_if (pt_cmpR op_eq (pe_xf (p := p) hp (pv 0)) pe_str (nomark _))
      (pss_one (ps_ret (pe_xf (p := p) hp (pv 0))))
      pss_nil)
      (pss_one (ps_ret (pe_ifExp (pt_cmpR op_eq (pe_xf (p := p) hp (pv 0)) pe_str (nomark _)) (pe_xf (p := p) hp (pv 0)) (pe_xf (p := p) hp (pv 0))))))), ?_⟩
  refine ⟨_, rfl, rfl, C, d, fs, _, EP, T.noT, T.tag_, rfl, _, rfl, ?_⟩
  rcases ht with rfl | rfl
  · obtain ⟨e1, e2⟩ := h1 _ (kd_digits hk)
    exact iteP (by decide) ⟨_, rfl, rfl, C, d, fs, _, EP, e2, e1, q⟩
  · obtain ⟨e1, e2⟩ := h1 _ (kd_saying hk)
    exact iteN (by decide) ⟨_, rfl, rfl, C, d, fs, _, EP, T.noT, T.tag_, rfl, _, rfl, iteP (by decide) ⟨_, rfl, rfl, C, d, fs, _, EP, e2, e1, q⟩⟩
abbrev n_law_field : List Str := ["_law_one", "_law_bare"]
theorem sc_law_field : FnScope n_law_field ["_law_one"] (defScope (top 37)) := ⟨rfl, rfl, rfl, by decide +kernel, rfl, by decide +kernel, by decide +kernel⟩
theorem ok_lfield {f g : Addr} {fd gd : FuncData} {k : Nat} (F : Fun K "_law_field" "_law_field" (top 37) f fd) (G : FnS P w K mg base k g gd ["_law_one"] (spPlaceE K)) (mG : mg "_law_place" = some (.ref g)) (kG : PySem.W.keepIn K (.ref g) = true) (bG : Binds K gd ["_law_one"] []) :
    FnS P w K mg base (k + 1) f fd ["_law_one"] (spErr K) := by
  obtain ⟨oc, od, kV, doc, pm, an, cdv, ct, osl, rfl, lk, hcd⟩ := F.ex
  refine fnS lk hcd sc_law_field (fun p vs H Q h => by obtain ⟨rfl, _⟩ := h; rfl) fun A outer s H vs Q p hr h => ?_
  obtain ⟨rfl, C, d, fs, tag, u, EP, T, q⟩ := h
  have nd := sc_law_field.nd
  have hp : p ∈ [p] := List.mem_singleton.mpr rfl
  obtain ⟨fo, hk, h0, h1⟩ := T.fld
  refine ⟨_, (pss_cons (ps_if (pt_cmpR op_in_seq (pe_xf (p := p) hp (pv 0)) (pe_tup (pa_cons pe_str (pa_cons pe_str (pa_cons pe_str (pa_cons pe_str pa_nil))))) rfl)
      (pss_one (ps_ret (pe_xf (p := p) hp (pv 0))))
      pss_nil)
      (pss_cons (ps_if (pt_cmpR op_in_seq (pe_xf (p := p) hp (pv 0)) (pe_tup (pa_cons pe_str (pa_cons pe_str pa_nil))) rfl)
      (pss_one (ps_ret (pe_xf (p := p) hp (pv 0))))
      pss_nil)
      (pss_cons (ps_if (pt_cmpR op_in_seq (pe_xf (p := p) hp (pv 0)) (pe_tup (pa_cons pe_str (pa_cons pe_str (pa_cons pe_str (pa_cons pe_str pa_nil))))) rfl)
      (pss_one (ps_ret (pe_callS' (p := p) G hr hp (by rfl) mG kG bG (pa_cons (pv 0) pa_nil))))
      pss_nil)
      (pss_cons (ps_set (i := 1) nd rfl (Or.inl rfl) (pe_tup (pa_cons pe_str (pa_cons pe_str (pa_cons pe_str (pa_cons pe_str (pa_cons pe_str (pa_cons pe_str pa_nil))))))))
      (pss_one (ps_ret (pe_ifExp (pt_cmpR op_in_seq (pe_xf (p := p) hp (pv 0)) (pv 1) rfl) pe_non (pe_xf (p := p) hp (pv 0))))))))), ?_⟩
  have go : ∀ (ys : List Str) (t : Addr) (H' : Hp), H' t = some (.tup (ys.map V.str)) → SqT K H' t (ys.map V.str) := fun ys t H' h => SqT.of h
  refine ⟨_, rfl, rfl, C, d, fs, _, EP, T.noT, T.tag_, by show 4 ≤ sizeLine; decide, fun t1 ht1 => ⟨t1, L1.map V.str, rfl, .inr (go L1 t1 _ upd_same), rfl, flat_strs L1, _, rfl, ?_⟩⟩
  have s1 : Same H (upd H t1 (.tup (L1.map V.str))) := sNew (Same.refl _) ht1
  show (if (if false = true then !inV (.str tag) (L1.map V.str) else inV (.str tag) (L1.map V.str)) = true then _ else _)
  rw [inV_str]
  refine ite2 (fun m1 => ?_) (fun m1 => ?_)
  · obtain ⟨e1, e2⟩ := h1 _ (kd1 hk (of_decide_eq_true m1))
    exact ⟨_, rfl, rfl, C, d, fs, _, EP.same s1, e2, e1, q _ s1⟩
  have m1 : ¬ tag ∈ L1 := fun z => m1 (decide_eq_true z)
  refine ⟨_, rfl, rfl, C, d, fs, _, EP.same s1, T.noT, T.tag_, by show 2 ≤ sizeLine; decide, fun t2 ht2 => ⟨t2, L2'.map V.str, rfl, .inr (go L2' t2 _ upd_same), rfl, flat_strs L2', _, rfl, ?_⟩⟩
  have s2 := sNew (o := .tup (L2'.map V.str)) s1 ht2
  show (if (if false = true then !inV (.str tag) (L2'.map V.str) else inV (.str tag) (L2'.map V.str)) = true then _ else _)
  rw [inV_str]
  refine iteN (nd_of (kd2 hk)) ?_
  refine ⟨_, rfl, rfl, C, d, fs, _, EP.same s2, T.noT, T.tag_, by show 4 ≤ sizeLine; decide, fun t3 ht3 => ⟨t3, L3.map V.str, rfl, .inr (go L3 t3 _ upd_same), rfl, flat_strs L3, _, rfl, ?_⟩⟩
  have s3 := sNew (o := .tup (L3.map V.str)) s2 ht3
  show (if (if false = true then !inV (.str tag) (L3.map V.str) else inV (.str tag) (L3.map V.str)) = true then _ else _)
  rw [inV_str]
  refine ite2 (fun m3 => ?_) (fun m3 => ?_)
  · exact ⟨_, rfl, rfl, C, d, fs, tag, u, EP.same s3, T.same s3, kd3 hk (of_decide_eq_true m3), q _ s3⟩
  have m3 : ¬ tag ∈ L3 := fun z => m3 (decide_eq_true z)
  refine ⟨by show 6 ≤ sizeLine; decide, fun t4 ht4 => ?_⟩
  have s4 : Same H (upd _ t4 (.tup (L4.map V.str))) := sNew s3 ht4
  refine ⟨_, rfl, rfl, C, d, fs, _, EP.same s4, T.noT, T.tag_, _, rfl, t4, L4.map V.str, rfl, .inr (go L4 t4 _ upd_same), rfl, flat_strs L4, _, rfl, ?_⟩
  show (if (if false = true then !inV (.str tag) (L4.map V.str) else inV (.str tag) (L4.map V.str)) = true then _ else _)
  rw [inV_str]
  refine ite2 (fun m4 => ?_) (fun m4 => ?_)
  · have := h0 (kd4 hk (of_decide_eq_true m4))
    subst this
    exact q _ s4
  · obtain ⟨e1, e2⟩ := h1 _ (kd5 hk m1 m3 fun z => m4 (decide_eq_true z))
    exact ⟨_, rfl, rfl, C, d, fs, _, EP.same s4, e2, e1, q _ s4⟩
/-- what _law_why makes of what it calls: an error's tag and field, or nothing -/
def TWhy (K : PySem.W.Frag) (c1 c2 c3 : Addr) : (XK → Hp → VK → Prop) → Hp → VK → Prop := fun tl H Q =>
  tl (fun cls d H' => ∃ C dd fs tag u, cls = .ref C ∧ d = some dd ∧ PySem.W.exmAny K (.ref C) [.ref c1, .ref c2, .ref c3] = some true ∧ ECls K C ∧ Tells K H' C dd fs tag u ∧ ∀ H2 t, Same H' H2 → H2 t = none → Q (.ref t) (upd H2 t (.tup [.str tag, u])))
    H (fun _ H' => ([V.str "", .non]).length ≤ sizeLine ∧ ∀ t, H' t = none → Q (.ref t) (upd H' t (.tup [.str "", .non])))
abbrev n_law_why : List Str := ["_law_ask", "e"]
theorem sc_law_why : FnScope n_law_why ["_law_ask"] (defScope (top 39)) := ⟨rfl, rfl, rfl, by decide +kernel, rfl, by decide +kernel, by decide +kernel⟩
/-- a wish that knows the number of slots -/
theorem takes_len {X : Cx} {W : WX} (tk : Takes X W) : Takes X (fun cls d σ H => σ.length = X.N.length → W cls d σ H) := fun u s' ⟨a, B, sI, pins, σ, H, cls, d, e, I, nb, up, sky, na, os, ag, z⟩ => tk u s' ⟨a, B, sI, pins, σ, H, cls, d, e, I, nb, up, sky, na, os, ag, z I.len⟩
theorem why_gives {X : Cx} {k : Nat} {g gf : Addr} {cdg : Value} {fdf : FuncData} {q : Str} {c1 c2 c3 : Addr} (hr : Room (k + 1) X.A) (m1 : X.mg "RootError" = some (.ref c1)) (m2 : X.mg "Missing" = some (.ref c2)) (m3 : X.mg "NothingLeft" = some (.ref c3))
    (G : FnS X.prog X.w X.K X.mg X.base k gf fdf ["_law_one"] (spErr X.K)) (mG : X.mg "_law_field" = some (.ref gf)) (kG : PySem.W.keepIn X.K (.ref gf) = true) (bG : Binds X.K fdf ["_law_one"] []) :
    LamX.GivesTo X n_law_why "_law_why" (defScope (top 39)) g cdg (defBody (top 39)) "_law_ask" q (TWhy X.K c1 c2 c3) := by
  intro f c' s H Q tl act hc h
  have nd := sc_law_why.nd
  have hr2 : L2H.RoomH k (X.A.deeper (envOfC "_law_why" (defScope (top 39)) s.heap.objs.size g cdg)) := L2H.roomH_of (hr.deeper _)
  refine ⟨_, pss_cons (ps_try_tup (X := (cxOf C8.CX0 X.prog X.w X.K X.mg X.base n_law_why "_law_why" (defScope (top 39)) g cdg X.A X.stack s H C8.E0).nox) (c1 := c1) (c2 := c2) (c3 := c3) (i := 1)
      (tb := fun W D σ H => ∃ Ech : XK, (∀ cls d σ' H', Ech cls d H' → σ'.length = 2 → W cls d σ' H') ∧ σ[0]? = some (some (.ref f)) ∧ H c' = some (LamX.CodeO c' q) ∧ tl Ech H (fun _ H' => D.nx σ H'))
      (ts := fun a cls d D σ H => ∃ C dd fs tag u, cls = .ref C ∧ d = some dd ∧ ECls X.K C ∧ Tells X.K H C dd fs tag u ∧ σ[1]? = some (some (.ref a)) ∧ ∀ H2 t, Same H H2 → H2 t = none → D.rt (.ref t) (upd H2 t (.tup [.str tag, u])))
      rfl rfl nd rfl rfl ⟨by rfl, m1, by decide⟩ ⟨by rfl, m2, by decide⟩ ⟨by rfl, m3, by decide⟩ rfl (fun W pn xe tk => ?_) (fun a oe cls d pn hz hf => ?_))
    (pss_one (ps_ret (pe_tup (pa_cons pe_str (pa_cons pe_non pa_nil))))), ?_⟩
  · refine ⟨fun pins s' σ H' D I hh => ?_⟩
    obtain ⟨Ech, hW, h1, h2, h3⟩ := hh
    have hp := act (fun cls d σ H => σ.length = 2 → W cls d σ H) pn xe Ech ?p1 ?p2 (takes_len tk) hW
    have hq := pss_one (ps_expr (pos := ?p3) hp)
    exact hq.run pins s' σ H' D I ⟨h1, h2, h3⟩
  · refine ⟨fun pins s' σ H' D I hh => ?_⟩
    obtain ⟨C, dd, fs, tag, u, rfl, rfl, ec, T, h1, hq⟩ := hh
    have EP : ErrP X.K H' (a, oe) C dd fs := ⟨hz.1, hz.2, hf, ec, T.at_⟩
    have hs := pss_one (X := ((cxOf C8.CX0 X.prog X.w X.K X.mg X.base n_law_why "_law_why" (defScope (top 39)) g cdg X.A X.stack s H C8.E0).nox).suite a ((a, oe) :: pn)) (ps_ret (pos := ?q1) (pe_tup (pos := ?q2) (x1 := 0) (pa_cons (pe_xf (p := (a, oe)) (f := "tag") (pos := ?q3) List.mem_cons_self (pe_var (x := "e") (pos := ?q4) (i := 1) rfl (.inl rfl))) (pa_cons (pe_callS' (x := "_law_field") (q := ?q5) (pos := ?q6) (p := (a, oe)) G ⟨hr2.dp, hr2.un⟩ List.mem_cons_self (by rfl) mG kG bG (pa_cons (pe_var (x := "e") (pos := ?q7) (i := 1) rfl (.inl rfl)) pa_nil)) pa_nil))))
    refine hs.run pins s' σ H' D I ?_
    refine ⟨.ref a, h1, rfl, C, dd, fs, _, EP, T.noT, T.tag_, .ref a, h1, rfl, C, dd, fs, tag, u, EP, T, fun H2 sm => ⟨by show 2 ≤ sizeLine; decide, fun t ht => hq H2 t sm ht⟩⟩
  · refine ⟨_, fun cls d σ' H' hE hlen => ?_, rfl, hc, h⟩
    obtain ⟨C, dd, fs, tag, u, rfl, rfl, ex, ec, T, hq⟩ := hE
    exact ⟨ex, fun a na => ⟨C, dd, fs, tag, u, rfl, rfl, ec, T, List.getElem?_set_self (by omega), hq⟩⟩
end
end RF

namespace RF
open PySem L2 PyProof.Rows
/-! ### methods that may raise; calls by name -/
def tMethKw (C : Addr) (m : Str) (sp : Sp) (gV : List V → List V → List V) (E : XK) (ta : TE) (tk : TA) : TE := fun σ H Q => ta σ H fun x H1 => ∃ a dx fs, x = .ref a ∧ H1 a = some (.ins C dx fs) ∧ fs.lookup m = none ∧ tk σ H1 fun zs H2 => sp (gV [x] zs) H2 Q E
theorem pe_methKw {X : Cx} {CX : CXT} {k : Nat} {f C : Addr} {fd : FuncData} {ps ks : List Str} {sp : Sp} {E : XK} {m : Str} {apos pos : Pos} {o : Expr} {kws : List Keyword} {ta : TE} {tk : TA} {pl : Sem Bool} {g : List Value → List Value → List Value} {gV : List V → List V → List V} (he : PE X o ta) (c : Cls X.K C) (hm : Meth X.K C m f) (F : FnOk X.prog X.w X.K X.mg X.base CX k f fd ps sp) (hr : Room k X.A)
    (hb : KBn X.K fd ps 1 ks g gV) (hx : Passes CX X E) (hkw : PK X kws tk) (hlen : ∀ (x : V) (zs : List V), (gV [x] zs).length = ps.length → zs.length = ks.length) (hall : (backToKw pos (keywordEach kws X.env)).all (·.1.isSome) = true := by rfl) (hks : (backToKw pos (keywordEach kws X.env)).filterMap (·.1) = ks := by rfl)
    (hpl : ((backTo pos (starEach [] X.env)).any (·.1) || (backToKw pos (keywordEach kws X.env)).any (·.1.isNone)) = false := by rfl)
    (ht : eval (.Call (.Attribute o m apos) [] kws pos) X.env = (do
      let ov ← eval o X.env
      standAt apos.atName
      let (f, first) ← holding [ov] (getMethod ov m pl)
      callWith pos f first (backTo pos (starEach [] X.env)) (backToKw pos (keywordEach kws X.env))) := by rfl) : PE X (.Call (.Attribute o m apos) [] kws pos) (tMethKw C m sp gV E ta tk) := by
  refine ⟨fun pins s σ H Q I h => PySem.W.methodCall_KW (pl := pl) (thn (he.run pins s σ H _ I h) fun u s1 ⟨x, H1, I1, rx, a, dx, fs, ex, ea, l, q⟩ => ?_) ht⟩
  subst ex
  obtain rfl : u = Value.ref a := rx
  refine getmeth_ok I1 ea c hm l (PySem.W.callWith_KW0 (h₀ := X.base) (first := [.ref a]) I1.ok.mod.kin hm.kp hall (thn (hkw.run pos pins s1 σ H1 _ I1 q) fun ws s2 ⟨zs, H2, I2, rz, q2⟩ => ⟨I2.kIn, ?_⟩) hpl)
  rw [hks]
  have r2 := hb.rel (vs := [V.ref a]) (us := [Value.ref a]) (.cons rfl .nil) rz
  have lz : ws.length = ks.length := by rw [← rz.length]; exact hlen (.ref a) zs (F.len _ _ _ _ q2)
  refine wpAny_call (codeAny_mono (F.run X.A X.stack s2 H2 ⟨[.ref a] ++ [], ks.zip ws⟩ (g [.ref a] ws) (gV [.ref a] zs) Q E hr I2.env0 (hb.to s2 [.ref a] ws I2.kIn rfl lz) r2 q2) fun rr s3 hq => ?_)
  cases rr with
  | error z => exact hx pins σ H2 s2 z s3 I2 hq
  | ok fl =>
    cases fl with
    | ret u => exact I2.after hq
    | next => exact False.elim hq
    | brk => exact False.elim hq
    | cont => exact False.elim hq
structure MtX (P : Program) (w : World) (K : PySem.W.Frag) (mg : Str → Option Value) (base : Heap) (C : Addr) (k : Nat) (m : Str) (ps : List Str) (sp : Sp) : Prop where
  ex : ∃ (f : Addr) (fd : FuncData), FnOk P w K mg base (L2.CX P w) k f fd ps sp ∧ Meth K C m f ∧ Binds K fd ps [] ∧ KBn K fd ps 1 (ps.drop 1).reverse (fun us ws => us ++ ws.reverse) (fun vs zs => vs ++ zs.reverse)
/-- what never raises, in such a class of methods -/
def EN : XK := fun _ _ _ => False
theorem passN {X : Cx} : Passes (L2.CX X.prog X.w) X EN := fun pins σ H s e s' I c => L2.passes_call (W := fun _ _ _ _ => False) LamX.takes0 (fun _ _ _ _ z => z) pins σ H s e s' I c
theorem pe_mtX {X : Cx} {j k : Nat} {C : Addr} {m : Str} {ps : List Str} {sp : Sp} {o e : Expr} {es : List Expr} {pos apos : Pos} {ta : TE} {t : TA} {E : XK} {pl : Sem Bool} (he : PE X o ta) (c : Cls X.K C) (M : MtX X.prog X.w X.K X.mg X.base C k m ps sp) (hr : Room j X.A) (hk : k ≤ j) (hx : Passes (L2.CX X.prog X.w) X E) (ha : PA X (e :: es) t)
    (h1 : starEach (e :: es) X.env = (false, eval e X.env) :: starEach es X.env := by rfl) (h2 : (backTo pos (starEach es X.env)).any (·.1) = false := by rfl)
    (ht : eval (.Call (.Attribute o m apos) (e :: es) [] pos) X.env = (do
      let ov ← eval o X.env
      standAt apos.atName
      let (f, first) ← holding [ov] (getMethod ov m pl)
      callWith pos f first (backTo pos (starEach (e :: es) X.env)) (backToKw pos (keywordEach [] X.env))) := by rfl) : PE X (.Call (.Attribute o m apos) (e :: es) [] pos) (tMeth C m sp [] E ta t) := by
  obtain ⟨f, fd, G, hm, b, _⟩ := M.ex
  exact pe_meth he c hm G (hr.mono hk) b .nil hx ha h1 h2 ht
/-- by name, in the other order -/
theorem pe_mtXr {X : Cx} {j k : Nat} {C : Addr} {m : Str} {ps : List Str} {sp : Sp} {o : Expr} {kws : List Keyword} {pos apos : Pos} {ta : TE} {tk : TA} {E : XK} {pl : Sem Bool} (he : PE X o ta) (c : Cls X.K C) (M : MtX X.prog X.w X.K X.mg X.base C k m ps sp) (hr : Room j X.A) (hk : k ≤ j) (hx : Passes (L2.CX X.prog X.w) X E) (hkw : PK X kws tk) (hps : ps ≠ [])
    (hall : (backToKw pos (keywordEach kws X.env)).all (·.1.isSome) = true := by rfl) (hks : (backToKw pos (keywordEach kws X.env)).filterMap (·.1) = (ps.drop 1).reverse := by rfl)
    (hpl : ((backTo pos (starEach [] X.env)).any (·.1) || (backToKw pos (keywordEach kws X.env)).any (·.1.isNone)) = false := by rfl)
    (ht : eval (.Call (.Attribute o m apos) [] kws pos) X.env = (do
      let ov ← eval o X.env
      standAt apos.atName
      let (f, first) ← holding [ov] (getMethod ov m pl)
      callWith pos f first (backTo pos (starEach [] X.env)) (backToKw pos (keywordEach kws X.env))) := by rfl) : PE X (.Call (.Attribute o m apos) [] kws pos) (tMethKw C m sp (fun vs zs => vs ++ zs.reverse) E ta tk) := by
  obtain ⟨f, fd, G, hm, _, b⟩ := M.ex
  refine pe_methKw he c hm G (hr.mono hk) b hx hkw (fun x zs h => ?_) hall hks hpl ht
  simp only [List.length_append, List.length_reverse, List.length_drop, List.length_cons, List.length_nil] at h ⊢
  omega
end RF

namespace RF
open PySem L2 PyProof.Rows EX
theorem flS_eq {d i j k : Int} (hd : Root d) (k0 : 0 < k) : flS d i j k = (i + flr d j) / k := by
  have a := flS_lo (i := i) (j := j) hd k0
  have b := flS_hi (i := i) (j := j) hd k0
  rw [sg_nonneg hd] at a
  have b : ¬ 0 ≤ sg d (i - (flS d i j k + 1) * k) j := by omega
  rw [sg_nonneg hd] at b
  generalize flS d i j k = z at a b ⊢
  rw [Int.add_mul] at b
  have : z = (i + flr d j) / k := by
    refine Int.le_antisymm ((Int.le_ediv_iff_mul_le k0).mpr (by omega)) ?_
    have := (Int.ediv_lt_iff_lt_mul (b := z + 1) k0).mpr (show i + flr d j < (z + 1) * k by rw [Int.add_mul]; omega)
    omega
  exact this
/-- an own error with one field, as it is made -/
structure OwnE (P : Program) (w : World) (K : PySem.W.Frag) (mg : Str → Option Value) (nm fld : Str) (C : Addr) : Prop where
  ex : ∃ fI, Own P K mg nm C fI ∧ ∀ v, Inits P w K mg C fI [v] (fun u => mF fld nm u v)
  noF : PySem.W.findIn K (.ref C) fld = some none
def spFloorOf (K : PySem.W.Frag) : Sp := fun vs H Q _ => ∃ (d i j k n : Int) (v : V), vs = [.int d, v, .int n] ∧ Root d ∧ Rp K H v (.tup [.int i, .int j, .int k]) ∧ slopeD (.tup [.int i, .int j, .int k]) = true ∧ 0 ≤ n ∧ n < 10 ^ 40 ∧ ∀ H', Same H H' → Q (.int (lfl d i j k n)) H'
/-- what a raise leaves -/
def Rsd (CE : Addr) (nm fld : Str) (v : V) (H : Hp) (E : XK) : Prop := ∀ d H', Same H H' → H' d = none → E (.ref CE) (some d) (upd H' d (.xd [(fld, v), ("tag", .str nm)]))
def spFloorX (K : PySem.W.Frag) (CF CIS CIN : Addr) : Sp := fun vs H Q E => ∃ (p : Addr) (d : Int) (v u : V) (dv du : D), vs = [.ref p, v, u] ∧ FldAt K H CF p d ∧ Root d ∧ Rp K H v dv ∧ Rp K H u du ∧
  ((∃ i j k n, dv = .tup [.int i, .int j, .int k] ∧ slopeD dv = true ∧ du = .int n ∧ 0 ≤ n ∧ n < 10 ^ 40 ∧ ∀ H', Same H H' → Q (.int (lfl d i j k n)) H') ∨ (slopeD dv = false ∧ Rsd CIS "InvalidSlope" "given" v H E) ∨ (slopeD dv = true ∧ btw du 0 (10 ^ 40 - 1) = false ∧ Rsd CIN "InvalidNumber" "given" u H E))
def spOfX (K : PySem.W.Frag) (CS CIS : Addr) : Sp := fun vs H Q E => ∃ (d : Int) (v : V) (dv : D), vs = [.int d, v] ∧ Root d ∧ Rp K H v dv ∧
  ((∃ i j k, dv = .tup [.int i, .int j, .int k] ∧ slopeD dv = true ∧ ∀ (x : Addr) (H' : Hp), H x = none → Same H H' → Q (.ref x) H') ∨ (slopeD dv = false ∧ Rsd CIS "InvalidSlope" "given" v H E))
section
variable {P : Program} {w : World} {K : PySem.W.Frag} {mg : Str → Option Value} {base : Heap}
abbrev n_floor_of : List Str := ["root", "slope", "whole", "i", "j", "k"]
theorem sc_floor_of : FnScope n_floor_of ["root", "slope", "whole"] (defScope (top 24)) := ⟨rfl, rfl, rfl, by decide +kernel, rfl, by decide +kernel, by decide +kernel⟩
theorem ok_floorof {f CS : Addr} {fd : FuncData} {k : Nat} (F : Fun K "floor_of" "floor_of" (top 24) f fd) (T : TxS K mg CS) (M : MkS P w K mg base CS k) (FL : Mt P w K mg base CS (k + 1) "floor" ["self"] (spFlS CS)) : FnOk P w K mg base CX0 (k + 2) f fd ["root", "slope", "whole"] (spFloorOf K) := by
  refine F.ok sc_floor_of (fun vs H Q E h => ?_) (fun cdv A outer s H vs Q E hr h => ?_)
  · obtain ⟨d, i, j, k, n, v, rfl, _⟩ := h
    rfl
  · obtain ⟨d, i, j, k, n, v, rfl, hd, hv, hs, n0, n1, q⟩ := h
    have nd := sc_floor_of.nd
    obtain ⟨fi, fdi, M1, G, kb, _, _⟩ := M.ex
    refine ⟨_, (pss_cons (ps_asg (pv 1) (pg_tup rfl (pgs_cons (pg_name (i := 3) nd rfl (Or.inl rfl)) (pgs_cons (pg_name (i := 4) nd rfl (Or.inl rfl)) (pgs_cons (pg_name (i := 5) nd rfl (Or.inl rfl)) pgs_nil)))))
      (pss_one (ps_ret (pe_mt0 (pe_makeK M1 G hr rfl T.mg kb pass0 (pa_cons (pv 0) (pa_cons (pe_op op_mulW (pv 3) (pv 2)) (pa_cons (pe_op op_mulW (pv 4) (pv 2)) pa_nil))) (pk_cons (pv 5) pk_nil)) T.cl FL hr (Nat.le_refl _))))), ?_⟩
    have hs' : (btw (.int i) (-9) 9 && (btw (.int j) (-3) 3 && btw (.int k) 1 4)) = true := hs
    simp only [Bool.and_eq_true] at hs'
    obtain ⟨s1, s2, s3⟩ := hs'
    have k1 : 1 ≤ k := by
      have : (decide (1 ≤ k) && decide (k ≤ 4)) = true := s3
      simp only [Bool.and_eq_true, decide_eq_true_eq] at this
      exact this.1
    have bn : Bd 134 n := by
      unfold Bd
      have : ((n.natAbs : Nat) : Int) < 2 ^ 134 := by omega
      exact_mod_cast this
    have bi := bd9 s1 (by decide) (by decide)
    have bj := bd9 s2 (by decide) (by decide)
    have bk := bd9 s3 (by decide) (by decide)
    obtain ⟨a, xs, rfl, S, hl, x1, r1, rfl, p1, x2, r2, rfl, p2, x3, r3, rfl, p3, rfl⟩ := hv
    obtain rfl : x1 = .int i := p1
    obtain rfl : x2 = .int j := p2
    obtain rfl : x3 = .int k := p3
    refine ⟨_, rfl, a, _, rfl, S, rfl, _, _, rfl, _, _, rfl, _, _, rfl, rfl, ?_⟩
    refine ⟨_, rfl, _, rfl, _, rfl, _, _, rfl, rfl, mulOk bi bn (by decide) (by decide) (by decide), _, rfl, _, rfl, _, _, rfl, rfl, mulOk bj bn (by decide) (by decide) (by decide), _, rfl, rfl, rfl, fun x dx nx ndx nex => ?_⟩
    refine ⟨x, dx, d, i * n, j * n, k, rfl, upd_same, hd, by omega, ((bi.mul bn).mono (by decide)), ((bj.mul bn).mono (by decide)), bk.mono (by decide), fun H' Sx kp' => ⟨rfl, ?_⟩⟩
    have sv : SV H' CS x d (i * n) (j * n) k := ⟨by omega, Sx⟩
    obtain ⟨dxq, fsq, hinsq, hnoq⟩ := sv.ins
    refine ⟨x, dxq, fsq, rfl, hinsq, hnoq "floor" (by decide +kernel) (by decide +kernel), x, d, i * n, j * n, k, rfl, sv, hd, (bi.mul bn).mono (by decide), (bj.mul bn).mono (by decide), bk.mono (by decide), ?_⟩
    rw [flS_eq hd (by omega)]
    exact q _ (Same.made nx ndx kp')
abbrev n_FFlo : List Str := ["self", "slope", "number"]
theorem sc_FFlo : FnScope n_FFlo ["self", "slope", "number"] (defScope (sF 11)) := ⟨rfl, rfl, rfl, by decide +kernel, rfl, by decide +kernel, by decide +kernel⟩
theorem ok_FFlo {f CF CIS CIN : Addr} {fd : FuncData} {k : Nat} (F : Fun K "floor" "Field.floor" (sF 11) f fd) (T : TxF K mg CF) (D1 : Df P w K mg base k "is_slope" ["value"] (spIsSlope K)) (D2 : Df P w K mg base k "is_number" ["value"] (spNum K)) (D3 : Df P w K mg base k "floor_of" ["root", "slope", "whole"] (spFloorOf K))
    (OS : OwnE P w K mg "InvalidSlope" "given" CIS) (ON : OwnE P w K mg "InvalidNumber" "given" CIN) : FnOk P w K mg base (L2.CX P w) (k + 1) f fd ["self", "slope", "number"] (spFloorX K CF CIS CIN) := by
  refine F.okX sc_FFlo (fun vs H Q E h => ?_) (fun cdv A outer s H vs Q E hr h => ?_)
  · obtain ⟨p, d, v, u, dv, du, rfl, _⟩ := h
    rfl
  · obtain ⟨p, d, v, u, dv, du, rfl, hF, hd, hv, hu, cs⟩ := h
    obtain ⟨fS, oS, iS⟩ := OS.ex
    obtain ⟨fN, oN, iN⟩ := ON.ex
    obtain ⟨dx, t, hp, hT⟩ := hF
    refine ⟨_, (pss_cons (ps_if (pt_not (pt_val (pe_callD D1 hr (Nat.le_refl _) (pa_cons (pv 1) pa_nil))))
      (pss_one (ps_raise rfl (takes_of rfl rfl rfl rfl) (pmk1 oS iS hr (pa_cons (pv 1) pa_nil))))
      pss_nil)
      (pss_cons (ps_if (pt_not (pt_val (pe_callD D2 hr (Nat.le_refl _) (pa_cons (pv 2) pa_nil))))
      (pss_one (ps_raise rfl (takes_of rfl rfl rfl rfl) (pmk1 oN iN hr (pa_cons (pv 2) pa_nil))))
      pss_nil)
      (pss_one (ps_ret (pe_callD D3 hr (Nat.le_refl _) (pa_cons (pe_fld (pv 0) rfl) (pa_cons (pv 1) (pa_cons (pv 2) pa_nil)))))))), ?_⟩
    refine ⟨_, rfl, _, dv, rfl, hv, _, rfl, ?_⟩
    rcases cs with ⟨i, j, k, n, rfl, hs, rfl, n0, n1, q⟩ | ⟨hs, q⟩ | ⟨hs, hb, q⟩
    · rw [hs]
      have eb : btw (.int n) 0 (10 ^ 40 - 1) = true := by
        show (decide (0 ≤ n) && decide (n ≤ 10 ^ 40 - 1)) = true
        simp only [Bool.and_eq_true, decide_eq_true_eq]
        omega
      obtain rfl : u = .int n := hu
      refine iteF ⟨_, rfl, _, .int n, rfl, rfl, _, rfl, ?_⟩
      rw [eb]
      exact iteF ⟨_, rfl, p, CF, dx, _, _, rfl, hp, T.cl, T.nR, ffl_root d t, _, rfl, _, rfl, d, i, j, k, n, v, rfl, hd, hv, hs, n0, n1, q⟩
    · rw [hs]
      exact iteT ⟨_, rfl, _, rfl, fun d hd => q d H (Same.refl _) hd⟩
    · rw [hs]
      refine iteF ⟨_, rfl, _, du, rfl, hu, _, rfl, ?_⟩
      rw [hb]
      exact iteT ⟨_, rfl, _, rfl, fun d hd => q d H (Same.refl _) hd⟩
theorem ok_OfX {f CS CIS : Addr} {fd : FuncData} {k : Nat} (F : Fun K "of_slope" "Surd.of_slope" (sS 1) f fd) (T : TxS K mg CS) (D1 : Df P w K mg base (k + 1) "is_root" ["value"] (spIsRoot K)) (D2 : Df P w K mg base (k + 1) "is_slope" ["value"] (spIsSlope K)) (M : MkS P w K mg base CS k)
    (OS : OwnE P w K mg "InvalidSlope" "given" CIS) : FnOk P w K mg base (L2.CX P w) (k + 2) f fd ["root", "slope"] (spOfX K CS CIS) := by
  refine F.okX sc_OfS (fun vs H Q E h => ?_) (fun cdv A outer s H vs Q E hr h => ?_)
  · obtain ⟨d, v, dv, rfl, _⟩ := h
    rfl
  · obtain ⟨d, v, dv, rfl, hd, hv, cs⟩ := h
    have nd := sc_OfS.nd
    obtain ⟨fi, fdi, M1, G, kb, _, _⟩ := M.ex
    obtain ⟨fS, oS, iS⟩ := OS.ex
    refine ⟨_, (pss_cons (ps_if (pt_not (pt_val (pe_callD D1 hr (Nat.le_refl _) (pa_cons (pv 0) pa_nil))))
      (pss_one ps_never)
      pss_nil)
      (pss_cons (ps_if (pt_not (pt_val (pe_callD D2 hr (Nat.le_refl _) (pa_cons (pv 1) pa_nil))))
      (pss_one (ps_raise rfl (takes_of rfl rfl rfl rfl) (pmk1 oS iS hr (pa_cons (pv 1) pa_nil))))
      pss_nil)
      (pss_cons (ps_asg (pv 1) (pg_tup rfl (pgs_cons (pg_name (i := 2) nd rfl (Or.inl rfl)) (pgs_cons (pg_name (i := 3) nd rfl (Or.inl rfl)) (pgs_cons (pg_name (i := 4) nd rfl (Or.inl rfl)) pgs_nil)))))
      (pss_one (ps_ret (pe_makeK M1 G hr rfl T.mg kb pass0 (pa_cons (pv 0) (pa_cons (pv 2) (pa_cons (pv 3) pa_nil))) (pk_cons (pv 4) pk_nil))))))), ?_⟩
    have er : rootD (.int d) = true := decide_eq_true (by unfold Root at hd; simp; omega)
    refine ⟨_, rfl, _, .int d, rfl, rfl, _, rfl, ?_⟩
    rw [er]
    refine iteF ⟨_, rfl, _, dv, rfl, hv, _, rfl, ?_⟩
    rcases cs with ⟨i, j, k, rfl, hs, q⟩ | ⟨hs, q⟩
    · rw [hs]
      refine iteF ?_
      have hs' : (btw (.int i) (-9) 9 && (btw (.int j) (-3) 3 && btw (.int k) 1 4)) = true := hs
      simp only [Bool.and_eq_true] at hs'
      obtain ⟨s1, s2, s3⟩ := hs'
      have k1 : 1 ≤ k := by
        have : (decide (1 ≤ k) && decide (k ≤ 4)) = true := s3
        simp only [Bool.and_eq_true, decide_eq_true_eq] at this
        exact this.1
      obtain ⟨a, xs, rfl, S, hl, x1, r1, rfl, p1, x2, r2, rfl, p2, x3, r3, rfl, p3, rfl⟩ := hv
      obtain rfl : x1 = .int i := p1
      obtain rfl : x2 = .int j := p2
      obtain rfl : x3 = .int k := p3
      refine ⟨_, rfl, a, _, rfl, S, rfl, _, _, rfl, _, _, rfl, _, _, rfl, rfl, ?_⟩
      refine ⟨_, rfl, _, rfl, _, rfl, _, rfl, rfl, rfl, fun x dx nx ndx nex => ?_⟩
      refine ⟨x, dx, d, i, j, k, rfl, upd_same, hd, by omega, (bd9 s1 (by decide) (by decide)).mono (by decide), (bd9 s2 (by decide) (by decide)).mono (by decide), (bd9 s3 (by decide) (by decide)).mono (by decide), fun H' Sx kp' => ⟨rfl, ?_⟩⟩
      exact q x H' nx (Same.made nx ndx kp')
    · rw [hs]
      exact iteT ⟨_, rfl, _, rfl, fun d hd => q d H (Same.refl _) hd⟩
/-! ### the law's slopes -/
def spAny : Sp := fun vs H Q _ => ∃ (b : Addr), vs = [.ref b] ∧ Bag H b ∧ ∀ (i j k : Int) (t : Addr) (H1 : Hp), slopeD (.tup [.int i, .int j, .int k]) = true → Bag H1 b → Kp b H H1 → H1 t = some (.tup [.int i, .int j, .int k]) → Q (.ref t) H1
/-- an odd slope: the value, its datum, whether it is a slope -/
def spOdd (K : PySem.W.Frag) : Sp := fun vs H Q _ => ∃ (b : Addr), vs = [.ref b] ∧ Bag H b ∧ ∀ (v : V) (d : D) (t : Addr) (H1 : Hp), Bag H1 b → Kp b H H1 → (∀ H2, Kp b H1 H2 → Rp K H2 v d) → dep d ≤ 2 → (slopeD d = true → ∃ i j k, d = .tup [.int i, .int j, .int k]) → H1 t = some (.tup [v, .bl (slopeD d)]) → Q (.ref t) H1
theorem slope_of {i j k : Int} (a : 0 ≤ i) (a1 : i < 19) (b : 0 ≤ j) (b1 : j < 7) (c : 0 ≤ k) (c1 : k < 4) : slopeD (.tup [.int (i - 9), .int (j - 3), .int (1 + k)]) = true := by
  show ((decide (-9 ≤ i - 9) && decide (i - 9 ≤ 9)) && ((decide (-3 ≤ j - 3) && decide (j - 3 ≤ 3)) && (decide (1 ≤ 1 + k) && decide (1 + k ≤ 4)))) = true
  simp only [Bool.and_eq_true, decide_eq_true_eq]
  omega
abbrev n_any : List Str := ["_law_bag_here"]
theorem sc_any : FnScope n_any ["_law_bag_here"] (defScope (top 44)) := ⟨rfl, rfl, rfl, by decide +kernel, rfl, by decide +kernel, by decide +kernel⟩
theorem ok_any {f : Addr} {fd : FuncData} {k : Nat} (F : Fun K "_law_any_slope" "_law_any_slope" (top 44) f fd) (D1 : Df P w K mg base k "_law_pull" ["_law_bag_here", "_law_sides"] spPull) : FnOk P w K mg base CX0 (k + 1) f fd ["_law_bag_here"] spAny := by
  refine F.ok sc_any (fun vs H Q E h => ?_) (fun cdv A outer s H vs Q E hr h => ?_)
  · obtain ⟨b, rfl, _⟩ := h
    rfl
  · obtain ⟨b, rfl, B, q⟩ := h
    refine ⟨_, (pss_one (ps_ret (pe_tup (pa_cons (pe_op op_sub (pe_callD D1 hr (Nat.le_refl _) (pa_cons (pv 0) (pa_cons pe_int pa_nil))) pe_int) (pa_cons (pe_op op_sub (pe_callD D1 hr (Nat.le_refl _) (pa_cons (pv 0) (pa_cons pe_int pa_nil))) pe_int) (pa_cons (pe_op op_add pe_int (pe_callD D1 hr (Nat.le_refl _) (pa_cons (pv 0) (pa_cons pe_int pa_nil)))) pa_nil)))))), ?_⟩
    refine ⟨_, rfl, b, 19, rfl, B, by decide, by decide, fun i H1 i0 i1 B1 k1 => ⟨_, _, rfl, rfl, ?_⟩⟩
    refine ⟨_, rfl, b, 7, rfl, B1, by decide, by decide, fun j H2 j0 j1 B2 k2 => ⟨_, _, rfl, rfl, ?_⟩⟩
    refine ⟨_, rfl, b, 4, rfl, B2, by decide, by decide, fun k H3 x0 x1 B3 k3 => ⟨_, _, rfl, rfl, by show 3 ≤ sizeLine; decide, fun t ht => ?_⟩⟩
    exact q _ _ _ t _ (slope_of i0 i1 j0 j1 x0 x1) (B3.same (sNew (Same.refl _) ht)) (((k1.trans k2).trans k3).trans (Kp.of (sNew (Same.refl _) ht))) upd_same
abbrev n_odd : List Str := ["_law_bag_here", "_law_i", "_law_j", "_law_k", "_law_way", "_law_odd"]
theorem sc_odd : FnScope n_odd ["_law_bag_here"] (defScope (top 45)) := ⟨rfl, rfl, rfl, by decide +kernel, rfl, by decide +kernel, by decide +kernel⟩
theorem rp3 {H : Hp} {a : Addr} {v1 v2 v3 : V} {d1 d2 d3 : D} (h : H a = some (.tup [v1, v2, v3])) (r1 : Rp K H v1 d1) (r2 : Rp K H v2 d2) (r3 : Rp K H v3 d3) : Rp K H (.ref a) (.tup [d1, d2, d3]) := ⟨a, _, rfl, SqT.of h, by show 3 ≤ 100000; decide, _, _, rfl, r1, _, _, rfl, r2, _, _, rfl, r3, rfl⟩
theorem ok_odd {f : Addr} {fd : FuncData} {k : Nat} (F : Fun K "_law_odd_slope" "_law_odd_slope" (top 45) f fd) (D1 : Df P w K mg base k "_law_any_slope" ["_law_bag_here"] spAny) (D2 : Df P w K mg base k "_law_pull" ["_law_bag_here", "_law_sides"] spPull) : FnOk P w K mg base CX0 (k + 1) f fd ["_law_bag_here"] (spOdd K) := by
  refine F.ok sc_odd (fun vs H Q E h => ?_) (fun cdv A outer s H vs Q E hr h => ?_)
  · obtain ⟨b, rfl, _⟩ := h
    rfl
  · obtain ⟨b, rfl, B, q⟩ := h
    have nd := sc_odd.nd
    refine ⟨_, (pss_cons (ps_asg (pe_callD D1 hr (Nat.le_refl _) (pa_cons (pv 0) pa_nil)) (pg_tup rfl (pgs_cons (pg_name (i := 1) nd rfl (Or.inl rfl)) (pgs_cons (pg_name (i := 2) nd rfl (Or.inl rfl)) (pgs_cons (pg_name (i := 3) nd rfl (Or.inl rfl)) pgs_nil)))))
      (pss_cons (ps_set (i := 4) nd rfl (Or.inl rfl) (pe_callD D2 hr (Nat.le_refl _) (pa_cons (pv 0) (pa_cons pe_int pa_nil))))
      (pss_cons (ps_set (i := 5) nd rfl (Or.inl rfl) (pe_ix ix_list (pe_lst (pa_cons (pe_tup (pa_cons (pv 1) (pa_cons (pv 2) (pa_cons (pv 3) pa_nil)))) (pa_cons (pe_tup (pa_cons pe_int (pa_cons (pv 2) (pa_cons (pv 3) pa_nil)))) (pa_cons (pe_tup (pa_cons (pv 1) (pa_cons (pe_un un_neg pe_int) (pa_cons (pv 3) pa_nil)))) (pa_cons (pe_tup (pa_cons (pv 1) (pa_cons (pv 2) (pa_cons pe_int pa_nil)))) (pa_cons (pe_tup (pa_cons (pv 1) (pa_cons (pv 2) (pa_cons pe_int pa_nil)))) (pa_cons (pe_lst (pa_cons (pv 1) (pa_cons (pv 2) (pa_cons (pv 3) pa_nil)))) (pa_cons (pe_tup (pa_cons (pv 1) (pa_cons (pv 2) pa_nil))) (pa_cons (pe_tup (pa_cons (pv 1) (pa_cons pe_bl (pa_cons (pv 3) pa_nil)))) (pa_cons pe_non pa_nil)))))))))) (pv 4) (fun _ _ => rfl)))
      (pss_one (ps_ret (pe_tup (pa_cons (pv 5) (pa_cons (pe_cmpR op_eq (pv 4) pe_int (nomark _)) pa_nil)))))))), ?_⟩
    refine ⟨_, rfl, b, rfl, B, fun i j k t H1 hs B1 k1 ht => ⟨t, _, rfl, SqT.of ht, rfl, _, _, rfl, _, _, rfl, _, _, rfl, rfl, ?_⟩⟩
    refine ⟨_, rfl, b, 9, rfl, B1, by decide, by decide, fun y H2 y0 y1 B2 k2 => ?_⟩
    refine ⟨_, rfl, _, rfl, _, rfl, by show 3 ≤ sizeLine; decide, fun a1 h1 => ?_⟩
    refine ⟨_, rfl, _, rfl, by show 3 ≤ sizeLine; decide, fun a2 h2 => ?_⟩
    refine ⟨_, rfl, _, rfl, _, rfl, by show 3 ≤ sizeLine; decide, fun a3 h3 => ?_⟩
    refine ⟨_, rfl, _, rfl, by show 3 ≤ sizeLine; decide, fun a4 h4 => ?_⟩
    refine ⟨_, rfl, _, rfl, by show 3 ≤ sizeLine; decide, fun a5 h5 => ?_⟩
    refine ⟨_, rfl, _, rfl, _, rfl, by show 3 ≤ sizeLine; decide, fun a6 h6 => ?_⟩
    refine ⟨_, rfl, _, rfl, by show 2 ≤ sizeLine; decide, fun a7 h7 => ?_⟩
    refine ⟨_, rfl, _, rfl, by show 3 ≤ sizeLine; decide, fun a8 h8 => ?_⟩
    refine ⟨by show 9 ≤ sizeLine; decide, fun l hl => ?_⟩
    have e8 := sNew (o := .lst [.ref a1, .ref a2, .ref a3, .ref a4, .ref a5, .ref a6, .ref a7, .ref a8, .non]) (Same.refl _) hl
    have e7 := (sNew (o := .tup [.int i, .bl true, .int k]) (Same.refl _) h8).trans e8
    have e6 := (sNew (o := .tup [.int i, .int j]) (Same.refl _) h7).trans e7
    have e5 := (sNew (o := .lst [.int i, .int j, .int k]) (Same.refl _) h6).trans e6
    have e4 := (sNew (o := .tup [.int i, .int j, .int 5]) (Same.refl _) h5).trans e5
    have e3 := (sNew (o := .tup [.int i, .int j, .int 0]) (Same.refl _) h4).trans e4
    have e2 := (sNew (o := .tup [.int i, .int (-4), .int k]) (Same.refl _) h3).trans e3
    have e1 := (sNew (o := .tup [.int 10, .int j, .int k]) (Same.refl _) h2).trans e2
    have e0 := (sNew (o := .tup [.int i, .int j, .int k]) (Same.refl H2) h1).trans e1
    have f1 := e1 _ _ (upd_same (H := H2) (a := a1))
    have f2 := e2 _ _ upd_same
    have f3 := e3 _ _ upd_same
    have f4 := e4 _ _ upd_same
    have f5 := e5 _ _ upd_same
    have f6 := e6 _ _ upd_same
    have f7 := e7 _ _ upd_same
    have f8 := e8 _ _ upd_same
    have fl := upd_same (H := upd (upd (upd (upd (upd (upd (upd (upd H2 a1 (.tup [.int i, .int j, .int k])) a2 (.tup [.int 10, .int j, .int k])) a3 (.tup [.int i, .int (-4), .int k])) a4 (.tup [.int i, .int j, .int 0])) a5 (.tup [.int i, .int j, .int 5])) a6 (.lst [.int i, .int j, .int k])) a7 (.tup [.int i, .int j])) a8 (.tup [.int i, .bl true, .int k])) (a := l) (o := .lst [.ref a1, .ref a2, .ref a3, .ref a4, .ref a5, .ref a6, .ref a7, .ref a8, .non])
    obtain ⟨bs, hb2⟩ := B2.some
    have hbL := e0 _ _ hb2
    have n6 : a6 ≠ b := by
      have g := sNew (o := .tup [.int i, .int j, .int 5]) (sNew (o := .tup [.int i, .int j, .int 0]) (sNew (o := .tup [.int i, .int (-4), .int k]) (sNew (o := .tup [.int 10, .int j, .int k]) (sNew (o := .tup [.int i, .int j, .int k]) (Same.refl H2) h1) h2) h3) h4) h5
      exact (ne_of_none (g _ _ hb2) h6).symm
    generalize hL : upd (upd (upd (upd (upd (upd (upd (upd (upd H2 a1 (.tup [.int i, .int j, .int k])) a2 (.tup [.int 10, .int j, .int k])) a3 (.tup [.int i, .int (-4), .int k])) a4 (.tup [.int i, .int j, .int 0])) a5 (.tup [.int i, .int j, .int 5])) a6 (.lst [.int i, .int j, .int k])) a7 (.tup [.int i, .int j])) a8 (.tup [.int i, .bl true, .int k])) l (.lst [.ref a1, .ref a2, .ref a3, .ref a4, .ref a5, .ref a6, .ref a7, .ref a8, .non]) = HL at e0 f1 f2 f3 f4 f5 f6 f7 f8 fl hbL
    have hy : y = 0 ∨ y = 1 ∨ y = 2 ∨ y = 3 ∨ y = 4 ∨ y = 5 ∨ y = 6 ∨ y = 7 ∨ y = 8 := by omega
    have pick : ∃ (v : V) (d : D), atI [.ref a1, .ref a2, .ref a3, .ref a4, .ref a5, .ref a6, .ref a7, .ref a8, .non] y = some v ∧ (∀ H2, Kp b HL H2 → Rp K H2 v d) ∧ dep d ≤ 2 ∧ (slopeD d = true → ∃ i j k, d = .tup [.int i, .int j, .int k]) ∧ decide (V.int y = V.int 0) = slopeD d := by
      rcases hy with rfl | rfl | rfl | rfl | rfl | rfl | rfl | rfl | rfl
      · exact ⟨.ref a1, .tup [.int i, .int j, .int k], rfl, fun H2 kk => rp3 (kk _ _ (ne_of f1 hbL (by intro z; cases z)) f1) rfl rfl rfl, by simp [dep, depL], fun _ => ⟨_, _, _, rfl⟩, hs.symm⟩
      · exact ⟨.ref a2, .tup [.int 10, .int j, .int k], rfl, fun H2 kk => rp3 (kk _ _ (ne_of f2 hbL (by intro z; cases z)) f2) rfl rfl rfl, by simp [dep, depL], fun _ => ⟨_, _, _, rfl⟩, rfl⟩
      · exact ⟨.ref a3, .tup [.int i, .int (-4), .int k], rfl, fun H2 kk => rp3 (kk _ _ (ne_of f3 hbL (by intro z; cases z)) f3) rfl rfl rfl, by simp [dep, depL], fun _ => ⟨_, _, _, rfl⟩, by simp [slopeD, btw]⟩
      · exact ⟨.ref a4, .tup [.int i, .int j, .int 0], rfl, fun H2 kk => rp3 (kk _ _ (ne_of f4 hbL (by intro z; cases z)) f4) rfl rfl rfl, by simp [dep, depL], fun _ => ⟨_, _, _, rfl⟩, by simp [slopeD, btw]⟩
      · exact ⟨.ref a5, .tup [.int i, .int j, .int 5], rfl, fun H2 kk => rp3 (kk _ _ (ne_of f5 hbL (by intro z; cases z)) f5) rfl rfl rfl, by simp [dep, depL], fun _ => ⟨_, _, _, rfl⟩, by simp [slopeD, btw]⟩
      · exact ⟨.ref a6, .lst [.int i, .int j, .int k], rfl, fun H2 kk => ⟨a6, _, rfl, SqL.of (kk _ _ n6 f6), by show 3 ≤ 100000; decide, _, _, rfl, rfl, _, _, rfl, rfl, _, _, rfl, rfl, rfl⟩, by simp [dep, depL], fun z => (by cases z), rfl⟩
      · exact ⟨.ref a7, .tup [.int i, .int j], rfl, fun H2 kk => ⟨a7, _, rfl, SqT.of (kk _ _ (ne_of f7 hbL (by intro z; cases z)) f7), by show 2 ≤ 100000; decide, _, _, rfl, rfl, _, _, rfl, rfl, rfl⟩, by simp [dep, depL], fun z => (by cases z), rfl⟩
      · exact ⟨.ref a8, .tup [.int i, .bl true, .int k], rfl, fun H2 kk => rp3 (kk _ _ (ne_of f8 hbL (by intro z; cases z)) f8) rfl rfl rfl, by simp [dep, depL], fun z => (by simp [slopeD, btw] at z), by simp [slopeD, btw]⟩
      · exact ⟨.non, .non, rfl, fun _ _ => rfl, by simp [dep, depL], fun z => (by cases z), rfl⟩
    obtain ⟨v, d, ha, hv, hdp, hs2, hb⟩ := pick
    refine ⟨_, rfl, l, _, y, v, rfl, rfl, SqL.of fl, ha, ?_⟩
    refine ⟨_, rfl, _, rfl, rfl, by show 2 ≤ sizeLine; decide, fun t2 ht2 => ?_⟩
    rw [hb]
    have e9 := sNew (o := .tup [v, .bl (slopeD d)]) (Same.refl _) ht2
    exact q v d t2 _ (B2.same (e0.trans e9)) ((k1.trans k2).trans (Kp.of (e0.trans e9))) (fun H2 kk => hv H2 ((Kp.of e9).trans kk)) hdp hs2 upd_same
end
end RF

namespace RF
open PySem L2 PyProof.Rows EX
open LamX (Tabs TabS ExtN TabB CodeO)
/-! ### all but the tables stays -/
theorem sqX {K : PySem.W.Frag} {H H' : Hp} {a : Addr} {xs : List V} (e : ExtN H H') (h : SqL K H a xs) : SqL K H' a xs := by
  rcases h with (h | ⟨o, h⟩) | h
  · exact .inl (.inl (e _ _ h (fun _ z => by cases z)))
  · exact .inl (.inr ⟨o, e _ _ h (fun _ z => by cases z)⟩)
  · exact .inr h
theorem stX {K : PySem.W.Frag} {H H' : Hp} {a : Addr} {xs : List V} (e : ExtN H H') (h : SqT K H a xs) : SqT K H' a xs := by
  rcases h with (h | ⟨o, h⟩) | h
  · exact .inl (.inl (e _ _ h (fun _ z => by cases z)))
  · exact .inl (.inr ⟨o, e _ _ h (fun _ z => by cases z)⟩)
  · exact .inr h
mutual
theorem Rp.extN {K : PySem.W.Frag} {H H' : Hp} (e : ExtN H H') : ∀ {v : V} (d : D), Rp K H v d → Rp K H' v d
  | _, .non, h => h
  | _, .bl _, h => h
  | _, .int _, h => h
  | _, .str _, h => h
  | _, .lst ds, h => by
    obtain ⟨a, xs, h1, h2, h3, h4⟩ := h
    exact ⟨a, xs, h1, sqX e h2, h3, Rps.extN e ds h4⟩
  | _, .tup ds, h => by
    obtain ⟨a, xs, h1, h2, h3, h4⟩ := h
    exact ⟨a, xs, h1, stX e h2, h3, Rps.extN e ds h4⟩
theorem Rps.extN {K : PySem.W.Frag} {H H' : Hp} (e : ExtN H H') : ∀ {xs : List V} (ds : List D), Rps K H xs ds → Rps K H' xs ds
  | _, [], h => h
  | _, d :: ds, h => by
    obtain ⟨x, r, h1, h2, h3⟩ := h
    exact ⟨x, r, h1, Rp.extN e d h2, Rps.extN e ds h3⟩
end
theorem Bag.extN {H H' : Hp} {b : Addr} (e : ExtN H H') (B : Bag H b) : Bag H' b := by
  obtain ⟨c, ns, i, z, r, h⟩ := B
  exact ⟨c, ns, i, z, r, h.ne, e _ _ h.at_ (fun _ z => by cases z), e _ _ h.cs (fun _ z => by cases z), h.le, h.z0, h.r0, h.r1⟩
theorem FldAt.extN {K : PySem.W.Frag} {H H' : Hp} {C p : Addr} {d : Int} (e : ExtN H H') (h : FldAt K H C p d) : FldAt K H' C p d := by
  obtain ⟨dx, t, h1, h2⟩ := h
  exact ⟨dx, t, e _ _ h1 (fun _ z => by cases z), h2⟩
theorem Tabs.kp {T : List (Addr × Str)} {b : Addr} {H H' : Hp} (t : Tabs T H) (B : Bag H b) (k : Kp b H H') : Tabs T H' := fun p hp => by
  obtain ⟨ps, h1, h2, h3⟩ := t p hp
  obtain ⟨xs, hb⟩ := B.some
  refine ⟨ps, k _ _ (ne_of h1 hb (by intro z; cases z)) h1, h2, fun pos cv hc => ?_⟩
  obtain ⟨c, e1, e2⟩ := h3 pos cv hc
  exact ⟨c, e1, k _ _ (ne_of e2 hb (by intro z; unfold CodeO at z; cases z)) e2⟩
abbrev n_law : List Str := ["_law_script", "_law_bag_here", "_law_turn", "_law_slope_z", "_law_number_z", "_law_due", "_law_good", "_law_told", "_law_whole", "_law_far_here", "_law_field_here", "_law_odd", "_law_root_here"]
theorem sc_law : FnScope n_law ["_law_script"] (defScope (top 46)) := ⟨rfl, rfl, rfl, by decide +kernel, rfl, by decide +kernel, by decide +kernel⟩
def qL : Str := (("law" : Str) ++ ".<locals>.") ++ "<lambda>"
def TL (P0 : Addr) : List (Addr × Str) := [(P0, qL)]
def spLaw (K : PySem.W.Frag) (P0 : Addr) : Sp := fun vs H Q _ => ∃ (a : Addr) (ns : List Int), vs = [.ref a] ∧ SqL K H a (ns.map V.int) ∧ ns.length ≤ 63 ∧ H P0 = some (.tbl #[]) ∧ ∀ H', Q (.bl true) H'
/-- _law_why and what it needs -/
structure WhyE (P : Program) (w : World) (K : PySem.W.Frag) (mg : Str → Option Value) (base : Heap) (c1 c2 c3 : Addr) : Prop where
  ex : ∃ (g : Addr) (oc : Value) (od an : Option Addr) (kV doc pm cdv ct : Value) (osl : Array (Option Value)), mg "_law_why" = some (.ref g) ∧ PySem.W.keepIn K (.ref g) = true ∧
    K.lookup g = some ⟨oc, od, .func (PySem.W.fnOf "_law_why" "_law_why" (defArgs (top 39)) (defBody (top 39)) (defScope (top 39)) .none kV doc pm an cdv ct), osl⟩ ∧ PySem.W.codeIn K cdv "_law_why" = true ∧
    Binds K (PySem.W.fnOf "_law_why" "_law_why" (defArgs (top 39)) (defBody (top 39)) (defScope (top 39)) .none kV doc pm an cdv ct) ["_law_ask"] []
  m1 : mg "RootError" = some (.ref c1)
  m2 : mg "Missing" = some (.ref c2)
  m3 : mg "NothingLeft" = some (.ref c3)
  fld : ∃ (gf : Addr) (fdf : FuncData), FnS P w K mg base 9 gf fdf ["_law_one"] (spErr K) ∧ mg "_law_field" = some (.ref gf) ∧ PySem.W.keepIn K (.ref gf) = true ∧ Binds K fdf ["_law_one"] []
structure EnvK (P : Program) (w : World) (K : PySem.W.Frag) (mg : Str → Option Value) (base : Heap) (CF CS CIS CIN c1 c2 c3 : Addr) : Prop where
  bag : Df P w K mg base 9 "_law_bag" ["_law_script"] (spBag K)
  of_ : Df P w K mg base 9 "_law_of" ["_law_bag_here", "_law_some"] (spOf K)
  root : Df P w K mg base 9 "_law_root" ["_law_bag_here"] spRoot
  far : Df P w K mg base 9 "_law_far" ["_law_bag_here", "_law_figures"] spFar
  same : Df P w K mg base 9 "_law_same" ["_law_found", "_law_due"] (spSame K 5)
  lfl : Df P w K mg base 9 "_law_floor" ["_law_root_here", "_law_slope_z", "_law_number_z"] (spLFl K)
  any_ : Df P w K mg base 9 "_law_any_slope" ["_law_bag_here"] spAny
  odd : Df P w K mg base 9 "_law_odd_slope" ["_law_bag_here"] (spOdd K)
  isS : Df P w K mg base 9 "is_slope" ["value"] (spIsSlope K)
  T : TxF K mg CF
  TS : TxS K mg CS
  mkF : ∃ (f : Addr) (fd : FuncData), Mk K CF f ∧ FnOk P w K mg base CX0 8 f fd ["self", "root"] (spFInit K CF) ∧ Binds K fd ["self", "root"] []
  flo : MtX P w K mg base CF 9 "floor" ["self", "slope", "number"] (spFloorX K CF CIS CIN)
  ofs : ∃ (go po : Addr) (mc : Value), FnR P w K mg base (L2.CX P w) 9 go (spOfX K CS CIS) ∧ ClX.CRead K CS mc ∧ SMet K CS mc "of_slope" po go
  why : WhyE P w K mg base c1 c2 c3
  es : OwnE P w K mg "InvalidSlope" "given" CIS
  en : OwnE P w K mg "InvalidNumber" "given" CIN
  xs : PySem.W.exmAny K (.ref CIS) [.ref c1, .ref c2, .ref c3] = some true
  xn : PySem.W.exmAny K (.ref CIN) [.ref c1, .ref c2, .ref c3] = some true
  TB_ : TB mg
  range : mg "range" = none
theorem passL {X : Cx} {A : Around} {outer : List Env} {s : Shared} {H : Hp} {E : XK} {scope : Scope} {f c' : Addr} : Passes (L2.CX X.prog X.w) (LamX.lamCx X A outer s H E scope f c') E := fun pins σ H s e s' I c => L2.passes_call (W := fun cls d _ H => E cls d H) (takes_of rfl rfl rfl rfl) (fun _ _ _ _ h => h) pins σ H s e s' I c
section
variable {P : Program} {w : World} {K : PySem.W.Frag} {mg : Str → Option Value} {base : Heap}
def valOf : Stmt → Expr
  | .Assign _ v _ => v
  | _ => .Constant .none 0 ⟨0, 0, 0, 0⟩
def forB : Stmt → List Stmt
  | .For _ _ b _ _ => b
  | _ => []
def lawTurn (i : Nat) : Stmt := (forB ((defBody (top 46)).getD 1 (.Pass ⟨0, 0, 0, 0⟩))).getD i (.Pass ⟨0, 0, 0, 0⟩)
abbrev XL (P : Program) (w : World) (K : PySem.W.Frag) (mg : Str → Option Value) (base : Heap) (f c : Addr) (A : Around) (outer : List Env) (s : Shared) (H : Hp) (E : XK) : Cx := (cxOf CX0 P w K mg base n_law "law" (defScope (top 46)) f (.ref c) A outer s H E).nox
def ifT : Stmt → Expr
  | .If t _ _ _ => t
  | _ => .Constant .none 0 ⟨0, 0, 0, 0⟩
def boolA (i : Nat) : Expr → Expr
  | .BoolOp _ l _ => l.getD i (.Constant .none 0 ⟨0, 0, 0, 0⟩)
  | e => e
def notA : Expr → Expr
  | .UnaryOp _ e _ => e
  | e => e
def argA (i : Nat) : Expr → Expr
  | .Call _ l _ _ => l.getD i (.Constant .none 0 ⟨0, 0, 0, 0⟩)
  | e => e
abbrev lamX1 : Expr := argA 0 (notA (boolA 1 (ifT (lawTurn 8))))
theorem lam1 {f c P0 CF CS CIS CIN c1 c2 c3 : Addr} {A : Around} {outer : List Env} {s : Shared} {H : Hp} {E : XK} (tb : TabB base mg c P0) (e : EnvK P w K mg base CF CS CIS CIN c1 c2 c3) (hr : Room 11 (XL P w K mg base f c A outer s H E).A) :
    PE (XL P w K mg base f c A outer s H E) (lamX1) (LamX.tLam (TL P0) (TWhy K c1 c2 c3) fun E => tMeth CF "floor" (spFloorX K CF CIS CIN) [] E (tVar 10) (tCons (tVar 11) (tCons (tVar 9) tNil))) := by
  obtain ⟨go, po, mc, GO, cr, sm0⟩ := e.ofs
  obtain ⟨gw, ocw, odw, anw, kVw, docw, pmw, cdvw, ctw, oslw, mW, kW, lW, cW, bW⟩ := e.why.ex
  obtain ⟨gf, fdf, GF, mF, kF, bF⟩ := e.why.fld
  have TS := e.TS
  have hT1 : ∀ p ∈ TL P0, p.1 = P0 → p.2 = qL := fun p hp _ => by
    rw [List.mem_singleton.mp hp]
  have hr10 : Room 10 (XL P w K mg base f c A outer s H E).A := hr.mono (by decide)
  have hG := why_gives (X := XL P w K mg base f c A outer s H E) (g := gw) (cdg := cdvw) (q := qL) (k := 9) hr10 e.why.m1 e.why.m2 e.why.m3 GF mF kF bF
  have hmem : (P0, qL) ∈ TL P0 := List.mem_singleton.mpr rfl
  have e3 : Gl (XL P w K mg base f c A outer s H E) "_law_why" := by rfl
  have e4 : ∃ p lpos pos params body scope, lamX1 = Expr.Call (.Name "_law_why" p) [.Lambda params body scope lpos] [] pos ∧ LamX.lamSB (defScope (top 46)) scope = true ∧ defaultsOf params (XL P w K mg base f c A outer s H E).env = ([], []) ∧
      (∀ (q : Str) (cl : List (Str × Addr)) (pm cv ctv : Value), bindArgs (PySem.W.kla_fn "<lambda>" q params body scope cl pm cv ctv) ⟨[], []⟩ = pure []) ∧
      (∀ (A' : Around) (outer' : List Env) (s' : Shared) (H' : Hp) (E' : XK) (f' c' : Addr), Room 9 (A'.deeper (LamX.lamEnv (XL P w K mg base f c A outer s H E) scope s'.heap.objs.size f' c')) → PE (LamX.lamCx (XL P w K mg base f c A outer s H E) A' outer' s' H' E' scope f' c') body (tMeth CF "floor" (spFloorX K CF CIS CIN) [] E' (tVar 10) (tCons (tVar 11) (tCons (tVar 9) tNil)))) := by
    refine ⟨_, _, _, _, _, _, rfl, by decide +kernel, rfl, fun _ _ _ _ _ => rfl, fun A' outer' s' H' E' f' c' hr2 => ?_⟩
    obtain ⟨ff, ffd, GG, hmm, bb, _⟩ := e.flo.ex
    refine pe_meth (pl := ?pl) (ta := tVar 10) (t := tCons (tVar 11) (tCons (tVar 9) tNil)) ?a1 e.T.cl hmm GG hr2 bb .nil passL ?a2 ?a3 ?a4 ?a5
    case a1 => exact pv 10
    case a2 => exact pa_cons (pv 11) (pa_cons (pv 9) pa_nil)
    case a3 => rfl
    case a4 => rfl
    case a5 => rfl
  obtain ⟨p, lpos, pos, params, body, scope, h1, h2, h3, h4, h5⟩ := e4
  rw [h1]
  exact LamX.pe_lamcall (T := TL P0) (TT := TWhy K c1 c2 c3) (k := 9) (a := "_law_ask") (Ng := n_law_why) (t := fun E => tMeth CF "floor" (spFloorX K CF CIS CIN) [] E (tVar 10) (tCons (tVar 11) (tCons (tVar 9) tNil))) e3 mW kW lW cW bW sc_law_why rfl (.inl rfl) hG tb rfl hmem hT1 hr (LamX.lamS_by h2) h3 h4 h5
theorem lam2 {f c P0 CF CS CIS CIN c1 c2 c3 : Addr} {A : Around} {outer : List Env} {s : Shared} {H : Hp} {E : XK} (tb : TabB base mg c P0) (e : EnvK P w K mg base CF CS CIS CIN c1 c2 c3) (hr : Room 11 (XL P w K mg base f c A outer s H E).A) :
    PE (XL P w K mg base f c A outer s H E) (valOf (lawTurn 9)) (LamX.tLam (TL P0) (TWhy K c1 c2 c3) fun E => tSMeth CS (spOfX K CS CIS) E (tC (.ref CS)) (tCons (tVar 12) (tCons (tVar 11) tNil))) := by
  obtain ⟨go, po, mc, GO, cr, sm0⟩ := e.ofs
  obtain ⟨gw, ocw, odw, anw, kVw, docw, pmw, cdvw, ctw, oslw, mW, kW, lW, cW, bW⟩ := e.why.ex
  obtain ⟨gf, fdf, GF, mF, kF, bF⟩ := e.why.fld
  have TS := e.TS
  have hT1 : ∀ p ∈ TL P0, p.1 = P0 → p.2 = qL := fun p hp _ => by
    rw [List.mem_singleton.mp hp]
  have hr10 : Room 10 (XL P w K mg base f c A outer s H E).A := hr.mono (by decide)
  have hG := why_gives (X := XL P w K mg base f c A outer s H E) (g := gw) (cdg := cdvw) (q := qL) (k := 9) hr10 e.why.m1 e.why.m2 e.why.m3 GF mF kF bF
  have hmem : (P0, qL) ∈ TL P0 := List.mem_singleton.mpr rfl
  have e3 : Gl (XL P w K mg base f c A outer s H E) "_law_why" := by rfl
  have e4 : ∃ p lpos pos params body scope, valOf (lawTurn 9) = Expr.Call (.Name "_law_why" p) [.Lambda params body scope lpos] [] pos ∧ LamX.lamSB (defScope (top 46)) scope = true ∧ defaultsOf params (XL P w K mg base f c A outer s H E).env = ([], []) ∧
      (∀ (q : Str) (cl : List (Str × Addr)) (pm cv ctv : Value), bindArgs (PySem.W.kla_fn "<lambda>" q params body scope cl pm cv ctv) ⟨[], []⟩ = pure []) ∧
      (∀ (A' : Around) (outer' : List Env) (s' : Shared) (H' : Hp) (E' : XK) (f' c' : Addr), Room 9 (A'.deeper (LamX.lamEnv (XL P w K mg base f c A outer s H E) scope s'.heap.objs.size f' c')) → PE (LamX.lamCx (XL P w K mg base f c A outer s H E) A' outer' s' H' E' scope f' c') body (tSMeth CS (spOfX K CS CIS) E' (tC (.ref CS)) (tCons (tVar 12) (tCons (tVar 11) tNil)))) := by
    refine ⟨_, _, _, _, _, _, rfl, by decide +kernel, rfl, fun _ _ _ _ _ => rfl, fun A' outer' s' H' E' f' c' hr2 => ?_⟩
    exact pe_smeth (pe_glob (v := .ref CS) (by rfl) TS.mg rfl) cr sm0 GO hr2 passL (pa_cons (pv 12) (pa_cons (pv 11) pa_nil))
  obtain ⟨p, lpos, pos, params, body, scope, h1, h2, h3, h4, h5⟩ := e4
  rw [h1]
  exact LamX.pe_lamcall (T := TL P0) (TT := TWhy K c1 c2 c3) (k := 9) (a := "_law_ask") (Ng := n_law_why) (t := fun E => tSMeth CS (spOfX K CS CIS) E (tC (.ref CS)) (tCons (tVar 12) (tCons (tVar 11) tNil))) e3 mW kW lW cW bW sc_law_why rfl (.inl rfl) hG tb rfl hmem hT1 hr (LamX.lamS_by h2) h3 h4 h5
end
end RF

namespace RF
open PySem L2 PyProof.Rows EX
open LamX (Tabs TabS ExtN TabB CodeO)
section
variable {P : Program} {w : World} {K : PySem.W.Frag} {mg : Str → Option Value} {base : Heap}
theorem rp2 {K : PySem.W.Frag} {H : Hp} {a : Addr} {v1 v2 : V} {d1 d2 : D} (h : H a = some (.tup [v1, v2])) (r1 : Rp K H v1 d1) (r2 : Rp K H v2 d2) : Rp K H (.ref a) (.tup [d1, d2]) := ⟨a, _, rfl, SqT.of h, by show 2 ≤ 100000; decide, _, _, rfl, r1, _, _, rfl, r2, rfl⟩
theorem tells1 {K : PySem.W.Frag} {H : Hp} {C d : Addr} {v : V} {nm : Str} (noT : PySem.W.findIn K (.ref C) "tag" = some none) (noF : PySem.W.findIn K (.ref C) "given" = some none) (kd : Kd nm (some "given")) : Tells K (upd H d (.xd [("given", v), ("tag", .str nm)])) C d [("given", v), ("tag", .str nm)] nm v :=
  ⟨upd_same, rfl, noT, some "given", kd, fun z => (by cases z), fun g hg => by
    cases hg
    exact ⟨rfl, noF⟩⟩
theorem tkp {T : List (Addr × Str)} {b : Addr} {H H' : Hp} (t : Tabs T H) (B : Bag H b) (k : Kp b H H') : Tabs T H' := Tabs.kp t B k
theorem tex {T : List (Addr × Str)} {H H' : Hp} (t : Tabs T H) (e : Same H H') : Tabs T H' := LamX.Tabs.ext t e
theorem ok_law {f c P0 CF CS CIS CIN c1 c2 c3 : Addr} {kV doc pm ct oc : Value} {an od : Option Addr} {osl : Array (Option Value)} (lk : K.lookup f = some ⟨oc, od, .func (PySem.W.fnOf "law" "law" (defArgs (top 46)) (defBody (top 46)) (defScope (top 46)) .none kV doc pm an (.ref c) ct), osl⟩) (hcd : PySem.W.codeIn K (.ref c) "law" = true)
    (tb : TabB base mg c P0) (e : EnvK P w K mg base CF CS CIS CIN c1 c2 c3) : FnOk P w K mg base CX0 13 f (PySem.W.fnOf "law" "law" (defArgs (top 46)) (defBody (top 46)) (defScope (top 46)) .none kV doc pm an (.ref c) ct) ["_law_script"] (spLaw K P0) := by
  refine fn_of lk hcd sc_law (fun vs H Q E h => by obtain ⟨a, ns, rfl, _⟩ := h; rfl) fun A outer s H vs Q E hr h => ?_
  obtain ⟨a, ns, rfl, hS, hl, hP0, kk⟩ := h
  have nd := sc_law.nd
  obtain ⟨fi, fdi, M1, G, b1⟩ := e.mkF
  obtain ⟨go, po, mc, GO, cr, sm0⟩ := e.ofs
  obtain ⟨gw, ocw, odw, anw, kVw, docw, pmw, cdvw, ctw, oslw, mW, kW, lW, cW, bW⟩ := e.why.ex
  obtain ⟨gf, fdf, GF, mF, kF, bF⟩ := e.why.fld
  obtain ⟨ff, ffd, GG, hmm, bb, kbb⟩ := e.flo.ex
  have hlen : ∀ (x : V) (zs : List V), ((fun (vs zs : List V) => vs ++ zs.reverse) [x] zs).length = (["self", "slope", "number"] : List Str).length → zs.length = (((["self", "slope", "number"] : List Str)).drop 1).reverse.length := fun x zs h => by
    simp at h ⊢
    omega
  have T := e.T
  have TS := e.TS
  have TB1 := e.TB_
  have hT1 : ∀ p ∈ TL P0, p.1 = P0 → p.2 = qL := fun p hp _ => by
    rw [List.mem_singleton.mp hp]
  have hr11 : Room 11 (A.deeper (envOfC "law" (defScope (top 46)) s.heap.objs.size f (.ref c))) := hr.mono (by decide)
  have hr9 : Room 9 (A.deeper (envOfC "law" (defScope (top 46)) s.heap.objs.size f (.ref c))) := hr.mono (by decide)
  have hr10 : Room 10 (A.deeper (envOfC "law" (defScope (top 46)) s.heap.objs.size f (.ref c))) := hr.mono (by decide)
  suffices hs : ∃ t, PSs (cxOf CX0 P w K mg base n_law "law" (defScope (top 46)) f (.ref c) A outer s H E).nox (defBody (top 46)) t ∧ t { nx := fun _ H' => Q .non H', rt := Q } (start n_law [.ref a]) H by
    obtain ⟨t, h1, h2⟩ := hs
    exact ⟨t, h1.nox, h2⟩
  refine ⟨_, (pss_cons (ps_set (i := 1) nd rfl (Or.inl rfl) (pe_callD e.bag hr (by decide) (pa_cons (pv 0) pa_nil)))
      (pss_cons (ps_for PassesOwn.never rfl (pi_range1 rfl e.range (pa_cons pe_int pa_nil)) (pg_name (i := 2) nd rfl (Or.inl rfl))
      (pss_cons (ps_set (i := 12) nd rfl (Or.inr rfl) (pe_callD e.root hr (by decide) (pa_cons (pv 1) pa_nil)))
        (pss_cons (ps_asg (pe_tup (pa_cons (pe_make M1 G hr9 rfl T.mg b1 .nil pass0 (pa_cons (pv 12) pa_nil)) (pa_cons (pe_callD e.any_ hr (by decide) (pa_cons (pv 1) pa_nil)) pa_nil))) (pg_tup rfl (pgs_cons (pg_name (i := 10) nd rfl (Or.inr rfl)) (pgs_cons (pg_name (i := 3) nd rfl (Or.inl rfl)) pgs_nil))))
        (pss_cons (ps_set (i := 4) nd rfl (Or.inl rfl) (pe_callD e.of_ hr (by decide) (pa_cons (pv 1) (pa_cons (pe_lst (pa_cons pe_int (pa_cons pe_int (pa_cons (pe_callD e.far hr (by decide) (pa_cons (pv 1) (pa_cons pe_int pa_nil))) (pa_cons (pe_callD e.far hr (by decide) (pa_cons (pv 1) (pa_cons pe_int pa_nil))) (pa_cons (pe_op op_sub (pe_op op_pow pe_int pe_int) pe_int) pa_nil)))))) pa_nil))))
        (pss_cons (ps_set (i := 5) nd rfl (Or.inl rfl) (pe_callD e.lfl hr (by decide) (pa_cons (pv 12) (pa_cons (pv 3) (pa_cons (pv 4) pa_nil)))))
        (pss_cons (ps_if (pt_not (pt_val (pe_callD e.same hr (by decide) (pa_cons (pe_lst (pa_cons (pe_meth (pv 10) T.cl hmm GG hr9 bb .nil passN (pa_cons (pv 3) (pa_cons (pv 4) pa_nil))) (pa_cons (pe_methKw (pv 10) T.cl hmm GG hr9 kbb passN (pk_cons (pv 4) (pk_cons (pv 3) pk_nil)) hlen) pa_nil))) (pa_cons (pe_lst (pa_cons (pv 5) (pa_cons (pv 5) pa_nil))) pa_nil)))))
        (pss_one (ps_ret pe_bl))
        pss_nil)
        (pss_cons (ps_asg (pe_callD e.odd hr (by decide) (pa_cons (pv 1) pa_nil)) (pg_tup rfl (pgs_cons (pg_name (i := 11) nd rfl (Or.inr rfl)) (pgs_cons (pg_name (i := 6) nd rfl (Or.inl rfl)) pgs_nil))))
        (pss_cons (ps_set (i := 9) nd rfl (Or.inr rfl) (pe_callD e.of_ hr (by decide) (pa_cons (pv 1) (pa_cons (pe_lst (pa_cons (pe_un un_neg pe_int) (pa_cons (pe_op op_pow pe_int pe_int) pa_nil))) pa_nil))))
        (pss_cons (ps_set (i := 5) nd rfl (Or.inl rfl) (pe_ifExp (pt_val (pv 6)) (pe_tup (pa_cons pe_str (pa_cons (pv 9) pa_nil))) (pe_tup (pa_cons pe_str (pa_cons (pv 11) pa_nil)))))
        (pss_cons (ps_if (pw_or (pt_not (pt_val (pe_callD e.same hr (by decide) (pa_cons (pe_callD e.isS hr (by decide) (pa_cons (pv 11) pa_nil)) (pa_cons (pv 6) pa_nil))))) (pw_or1 (pt_not (pt_val (pe_callD e.same hr (by decide) (pa_cons (lam1 tb e hr11) (pa_cons (pv 5) pa_nil))))))).pt
        (pss_one (ps_ret pe_bl))
        pss_nil)
        (pss_cons (ps_set (i := 7) nd rfl (Or.inl rfl) (lam2 tb e hr11))
        (pss_one (ps_if (pt_not (pt_val (pe_callD e.same hr (by decide) (pa_cons (pv 7) (pa_cons (pe_ifExp (pt_val (pv 6)) (pe_tup (pa_cons pe_str (pa_cons pe_non pa_nil))) (pe_tup (pa_cons pe_str (pa_cons (pv 11) pa_nil)))) pa_nil)))))
        (pss_one (ps_ret pe_bl))
        pss_nil)))))))))))))
      (pss_cons (ps_set (i := 8) nd rfl (Or.inl rfl) (pe_lst (pa_cons (pe_callD e.isS hr (by decide) (pa_cons (pe_tup (pa_cons pe_int (pa_cons pe_int (pa_cons pe_int pa_nil)))) pa_nil)) (pa_cons (pe_callD e.isS hr (by decide) (pa_cons (pe_tup (pa_cons (pe_un un_neg pe_int) (pa_cons (pe_un un_neg pe_int) (pa_cons pe_int pa_nil)))) pa_nil)) (pa_cons (pe_callD e.isS hr (by decide) (pa_cons (pe_tup (pa_cons (pe_un un_neg pe_int) (pa_cons pe_int (pa_cons pe_int pa_nil)))) pa_nil)) (pa_cons (pe_callD e.isS hr (by decide) (pa_cons pe_str pa_nil)) pa_nil))))))
      (pss_one (ps_ret (pe_and (pe_cmpR (op_eqD hr.units) (pv 8) (pe_lst (pa_cons pe_bl (pa_cons pe_bl (pa_cons pe_bl (pa_cons pe_bl pa_nil))))) (nomark _)) (pe_one (pe_cmpR op_eq (pe_meth (pe_make M1 G hr9 rfl T.mg b1 .nil pass0 (pa_cons pe_int pa_nil)) T.cl hmm GG hr9 bb .nil passN (pa_cons (pe_tup (pa_cons pe_int (pa_cons pe_int (pa_cons pe_int pa_nil)))) (pa_cons (pe_op op_pow pe_int pe_int) pa_nil))) pe_int (nomark _))))))))), ?_⟩
  refine ⟨_, rfl, a, ns, rfl, hS, hl, fun b H1 nb B1 sm1 => ?_⟩
  refine ⟨8, rfl, by decide, by decide, for_range (n := 8) (fun _ σ H' => ∃ v2 v3 v4 v5 v6 v7 v8 v9 v10 v11 v12 : Option V,
      σ = [some (.ref a), some (.ref b), v2, v3, v4, v5, v6, v7, v8, v9, v10, v11, v12] ∧ Bag H' b ∧ Tabs (TL P0) H')
    ⟨none, none, none, none, none, none, none, none, none, none, none, rfl, B1, fun p hp => by
      rw [List.mem_singleton.mp hp]
      exact TabS.nil (sm1 _ _ hP0)⟩ ?_ ?_⟩
  · rintro i0 σ H2 hi0 ⟨v2, v3, v4, v5, v6, v7, v8, v9, v10, v11, v12, rfl, B2, T2⟩
    -- root, field, slope
    refine ⟨_, rfl, b, rfl, B2, fun d H3 hd0 B3 kp3 => ?_⟩
    have T3 := tkp T2 B2 kp3
    have hd : Root d := by unfold Root; omega
    refine ⟨_, rfl, fun x dx nx ndx nex => ⟨x, dx, d, rfl, upd_same, hd, fun H4 F4 kq4 => ⟨rfl, ?_⟩⟩⟩
    have sm4 := Same.made nx ndx kq4
    have B4 := B3.same sm4
    have T4 := tex T3 sm4
    refine ⟨_, rfl, b, rfl, B4, fun i j k t H5 hs B5 kp5 ht => ?_⟩
    have F5 := F4.kp B4 kp5
    have T5 := tkp T4 B4 kp5
    refine ⟨by show 2 ≤ sizeLine; decide, fun t1 ht1 => ⟨t1, _, rfl, SqT.of upd_same, rfl, _, _, rfl, _, _, rfl, rfl, ?_⟩⟩
    have smA := sNew (o := .tup [.ref x, .ref t]) (Same.refl H5) ht1
    have B6 := B5.same smA
    have F6 := F5.same smA
    have T6 := tex T5 smA
    have ht6 := smA _ _ ht
    -- number
    refine ⟨_, rfl, _, rfl, b, 2, rfl, B6, by decide, by decide, fun n1 H7 n10 n11 B7 kp7 => ?_⟩
    refine ⟨_, rfl, b, 40, rfl, B7, by decide, by decide, fun n2 H8 n20 n21 B8 kp8 => ⟨_, _, rfl, rfl, ⟨by decide, by decide, by decide⟩, _, _, rfl, rfl, by show 5 ≤ sizeLine; decide, fun p3 hp3 => ?_⟩⟩
    obtain ⟨_, hb8⟩ := B8.some
    refine ⟨b, p3, _, rfl, B8.same (sNew (Same.refl _) hp3), SqL.of upd_same, (ne_of_none hb8 hp3).symm, by show 0 < 5; decide, by show 5 < 1000000; decide, fun v H9 hv B9 kp9 => ?_⟩
    obtain ⟨n, rfl, n0, n40⟩ : ∃ n, v = V.int n ∧ 0 ≤ n ∧ n < 10 ^ 40 := by
      simp only [List.mem_cons, List.not_mem_nil, or_false] at hv
      rcases hv with rfl | rfl | rfl | rfl | rfl
      · exact ⟨0, rfl, by decide, by decide⟩
      · exact ⟨1, rfl, by decide, by decide⟩
      · exact ⟨_, rfl, n10, by simp at n11; omega⟩
      · exact ⟨_, rfl, n20, by simpa using n21⟩
      · exact ⟨_, rfl, by decide, by decide⟩
    have kp69 : Kp b _ H9 := (kp7.trans (kp8.trans (Kp.of (sNew (o := .lst [.int 0, .int 1, .int n1, .int n2, .int (10 ^ 40 - 1)]) (Same.refl _) hp3)))).trans kp9
    have F9 := F6.kp B6 kp69
    have T9 := tkp T6 B6 kp69
    have ht9 := kp69.at_ B6 ht6 (fun _ z => by cases z)
    have hs' : (btw (.int i) (-9) 9 && (btw (.int j) (-3) 3 && btw (.int k) 1 4)) = true := hs
    simp only [Bool.and_eq_true] at hs'
    obtain ⟨s1, s2, s3⟩ := hs'
    have hk4 : 1 ≤ k ∧ k ≤ 4 := by
      have : (decide (1 ≤ k) && decide (k ≤ 4)) = true := s3
      simpa only [Bool.and_eq_true, decide_eq_true_eq] using this
    have bn : Bd 134 n := by
      unfold Bd
      have : ((n.natAbs : Nat) : Int) < 2 ^ 134 := by omega
      exact_mod_cast this
    have rp : ∀ H', H' t = some (.tup [.int i, .int j, .int k]) → Rp K H' (.ref t) (.tup [.int i, .int j, .int k]) := fun H' h => rp3 h rfl rfl rfl
    -- due
    refine ⟨_, rfl, _, rfl, _, rfl, d, i, j, k, n, .ref t, rfl, hd, rp _ ht9, by omega, by omega, (bd9 s1 (by decide) (by decide)).mono (by decide), (bd9 s2 (by decide) (by decide)).mono (by decide), bn.mono (by decide), ?_⟩
    obtain ⟨dxf, fsf, hins, hno⟩ := F9.ins
    refine ⟨_, rfl, x, dxf, fsf, rfl, hins, hno "floor" (by decide +kernel) (by decide +kernel), _, rfl, _, rfl, x, d, .ref t, .int n, _, .int n, rfl, F9, hd, rp _ ht9, rfl, .inl ⟨i, j, k, n, rfl, hs, rfl, n0, n40, fun H10 sm10 => ?_⟩⟩
    obtain ⟨dxg, fsg, hing, hnog⟩ := (F9.same sm10).ins
    refine ⟨_, rfl, x, dxg, fsg, rfl, hing, hnog "floor" (by decide +kernel) (by decide +kernel), _, rfl, _, rfl, x, d, .ref t, .int n, _, .int n, rfl, F9.same sm10, hd, rp _ (sm10 _ _ ht9), rfl, .inl ⟨i, j, k, n, rfl, hs, rfl, n0, n40, fun H11 sm11 => ?_⟩⟩
    refine ⟨by show 2 ≤ sizeLine; decide, fun l1 hl1 => ⟨_, rfl, _, rfl, by show 2 ≤ sizeLine; decide, fun l2 hl2 => ?_⟩⟩
    have sB := sNew (o := .lst [.int (lfl d i j k n), .int (lfl d i j k n)]) (Same.refl _) hl2
    refine ⟨_, _, .lst [.int (lfl d i j k n), .int (lfl d i j k n)], rfl, ⟨l1, _, rfl, SqL.of (sB _ _ upd_same), by show 2 ≤ 100000; decide, _, _, rfl, rfl, _, _, rfl, rfl, rfl⟩, ⟨l2, _, rfl, SqL.of upd_same, by show 2 ≤ 100000; decide, _, _, rfl, rfl, _, _, rfl, rfl, rfl⟩, by simp [dep, depL], fun H12 sm12 => ⟨_, rfl, iteF ?_⟩⟩
    have sm912 : Same H9 H12 := ((sm10.trans sm11).trans ((sNew (Same.refl _) hl1).trans sB)).trans sm12
    have F12 := F9.same sm912
    have B12 := B9.same sm912
    have T12 := tex T9 sm912
    -- an odd slope
    refine ⟨_, rfl, b, rfl, B12, fun v dv t2 H13 B13 kp13 hv hdp hs2 ht2 => ⟨t2, _, rfl, SqT.of ht2, rfl, _, _, rfl, _, _, rfl, rfl, ?_⟩⟩
    have F13 := F12.kp B12 kp13
    have T13 := tkp T12 B12 kp13
    refine ⟨_, rfl, _, rfl, _, _, rfl, rfl, ⟨by decide, by decide, by decide⟩, by show 2 ≤ sizeLine; decide, fun p4 hp4 => ?_⟩
    obtain ⟨_, hb13⟩ := B13.some
    refine ⟨b, p4, _, rfl, B13.same (sNew (Same.refl _) hp4), SqL.of upd_same, (ne_of_none hb13 hp4).symm, by show 0 < 2; decide, by show 2 < 1000000; decide, fun u H14 hu B14 kp14 => ?_⟩
    obtain ⟨m, rfl, hm⟩ : ∃ m, u = V.int m ∧ btw (.int m) 0 (10 ^ 40 - 1) = false := by
      simp only [List.mem_cons, List.not_mem_nil, or_false] at hu
      rcases hu with rfl | rfl
      · exact ⟨_, rfl, by decide⟩
      · exact ⟨_, rfl, by decide⟩
    have kp1314 : Kp b H13 H14 := (Kp.of (sNew (Same.refl _) hp4)).trans kp14
    have F14 := F13.kp B13 kp1314
    have T14 := tkp T13 B13 kp1314
    have hv14 := hv _ kp1314
    obtain ⟨fS, oS, _⟩ := e.es.ex
    obtain ⟨fN, oN, _⟩ := e.en.ex
    refine ⟨_, rfl, _, rfl, ?_⟩
    by_cases hg : slopeD dv = true
    · refine iteP hg ⟨_, rfl, by show 2 ≤ sizeLine; decide, fun t5 ht5 => ?_⟩
      have sm15 := sNew (o := .tup [.str "InvalidNumber", .int m]) (Same.refl H14) ht5
      have hv15 := hv14.same sm15 dv
      refine ⟨_, rfl, v, dv, rfl, hv15, _, rfl, .bl (slopeD dv), .bl (slopeD dv), .bl (slopeD dv), rfl, rfl, rfl, by simp [dep], fun H16 sm16 => ⟨_, rfl, iteF ?_⟩⟩
      have sm1416 := sm15.trans sm16
      have ht516 := sm16 _ _ (upd_same (H := H14) (a := t5) (o := .tup [.str "InvalidNumber", .int m]))
      refine ⟨tex T14 sm1416, fun H17 eN T17 => ?_⟩
      have F17 := (F14.same sm1416).extN eN
      have hv17 := (hv14.same sm1416 dv).extN eN dv
      have ht517 := eN _ _ ht516 (fun _ z => by cases z)
      have B17 := (B14.same sm1416).extN eN
      obtain ⟨dxh, fsh, hinh, hnoh⟩ := F17.ins
      refine ⟨_, rfl, x, dxh, fsh, rfl, hinh, hnoh "floor" (by decide +kernel) (by decide +kernel), _, rfl, _, rfl, x, d, v, .int m, dv, .int m, rfl, F17, hd, hv17, rfl, .inr (.inr ⟨hg, hm, fun dd H18 sm18 hdd => ?_⟩)⟩
      have sm19 := sNew (o := .xd [("given", .int m), ("tag", .str "InvalidNumber")]) sm18 hdd
      refine ⟨CIN, dd, _, "InvalidNumber", .int m, rfl, rfl, e.xn, oN.ecls, tells1 oN.noT e.en.noF (.inl ⟨.inr (.inl rfl), rfl⟩), fun H20 t6 sm20 ht6 => ?_⟩
      have sm1720 := sm19.trans sm20
      have sC := sNew (o := .tup [.str "InvalidNumber", .int m]) (Same.refl H20) ht6
      have sm1721 := sm1720.trans sC
      have hE : ∀ H', Same H17 H' → Rp K H' (.int m) (.int m) := fun H' s' => rfl
      refine ⟨_, rfl, .ref t6, .ref t5, .tup [.str "InvalidNumber", .int m], rfl, rp2 upd_same rfl (hE _ sm1721), rp2 (sm1721 _ _ ht517) rfl (hE _ sm1721), by simp [dep, depL], fun H22 sm22 => ⟨_, rfl, iteF ?_⟩⟩
      have sm1722 := sm1721.trans sm22
      have B22 := B17.same sm1722
      -- of_slope
      refine ⟨tex T17 sm1722, fun H23 eM T23 => ?_⟩
      have B23 := B22.extN eM
      have hv23 := (hv17.same sm1722 dv).extN eM dv
      obtain ⟨i', j', k', e3⟩ := hs2 hg
      refine ⟨rfl, _, rfl, _, rfl, d, v, dv, rfl, hd, hv23, .inl ⟨i', j', k', e3, hg, fun z H24 hz sm24 => ?_⟩⟩
      refine ⟨by show 2 ≤ sizeLine; decide, fun t7 ht7 => ?_⟩
      have sm25 := sNew (o := .tup [.str "", .non]) sm24 ht7
      refine ⟨_, rfl, _, rfl, _, rfl, iteP hg ⟨by show 2 ≤ sizeLine; decide, fun t8 ht8 => ?_⟩⟩
      have sD := sNew (o := .tup [.str "", .non]) (Same.refl _) ht8
      refine ⟨.ref t7, .ref t8, .tup [.str "", .non], rfl, rp2 (sD _ _ upd_same) rfl rfl, rp2 upd_same rfl rfl, by simp [dep, depL], fun H26 sm26 => ⟨_, rfl, iteF ?_⟩⟩
      have sm2326 := (sm25.trans sD).trans sm26
      exact ⟨_, _, _, _, _, _, _, _, _, _, _, rfl, B23.same sm2326, tex T23 sm2326⟩
    · refine iteN hg ⟨_, rfl, by show 2 ≤ sizeLine; decide, fun t5 ht5 => ?_⟩
      have sm15 := sNew (o := .tup [.str "InvalidSlope", v]) (Same.refl H14) ht5
      have hv15 := hv14.same sm15 dv
      refine ⟨_, rfl, v, dv, rfl, hv15, _, rfl, .bl (slopeD dv), .bl (slopeD dv), .bl (slopeD dv), rfl, rfl, rfl, by simp [dep], fun H16 sm16 => ⟨_, rfl, iteF ?_⟩⟩
      have sm1416 := sm15.trans sm16
      have ht516 := sm16 _ _ (upd_same (H := H14) (a := t5) (o := .tup [.str "InvalidSlope", v]))
      refine ⟨tex T14 sm1416, fun H17 eN T17 => ?_⟩
      have F17 := (F14.same sm1416).extN eN
      have hv17 := (hv14.same sm1416 dv).extN eN dv
      have ht517 := eN _ _ ht516 (fun _ z => by cases z)
      have B17 := (B14.same sm1416).extN eN
      obtain ⟨dxh, fsh, hinh, hnoh⟩ := F17.ins
      refine ⟨_, rfl, x, dxh, fsh, rfl, hinh, hnoh "floor" (by decide +kernel) (by decide +kernel), _, rfl, _, rfl, x, d, v, .int m, dv, .int m, rfl, F17, hd, hv17, rfl, .inr (.inl ⟨Bool.eq_false_iff.mpr hg, fun dd H18 sm18 hdd => ?_⟩)⟩
      have sm19 := sNew (o := .xd [("given", v), ("tag", .str "InvalidSlope")]) sm18 hdd
      refine ⟨CIS, dd, _, "InvalidSlope", v, rfl, rfl, e.xs, oS.ecls, tells1 oS.noT e.es.noF (.inl ⟨.inr (.inr rfl), rfl⟩), fun H20 t6 sm20 ht6 => ?_⟩
      have sm1720 := sm19.trans sm20
      have sC := sNew (o := .tup [.str "InvalidSlope", v]) (Same.refl H20) ht6
      have sm1721 := sm1720.trans sC
      have hE : ∀ H', Same H17 H' → Rp K H' (v) (dv) := fun H' s' => hv17.same s' dv
      refine ⟨_, rfl, .ref t6, .ref t5, .tup [.str "InvalidSlope", dv], rfl, rp2 upd_same rfl (hE _ sm1721), rp2 (sm1721 _ _ ht517) rfl (hE _ sm1721), by show depL [_, dv] + 1 ≤ 5; simp only [depL, dep]; omega, fun H22 sm22 => ⟨_, rfl, iteF ?_⟩⟩
      have sm1722 := sm1721.trans sm22
      have B22 := B17.same sm1722
      -- of_slope
      refine ⟨tex T17 sm1722, fun H23 eM T23 => ?_⟩
      have B23 := B22.extN eM
      have hv23 := (hv17.same sm1722 dv).extN eM dv
      refine ⟨rfl, _, rfl, _, rfl, d, v, dv, rfl, hd, hv23, .inr ⟨Bool.eq_false_iff.mpr hg, fun de H24 sm24 hde => ?_⟩⟩
      have sm25 := sNew (o := .xd [("given", v), ("tag", .str "InvalidSlope")]) sm24 hde
      refine ⟨CIS, de, _, "InvalidSlope", v, rfl, rfl, e.xs, oS.ecls, tells1 oS.noT e.es.noF (.inl ⟨.inr (.inr rfl), rfl⟩), fun H26 t7 sm26 ht7 => ?_⟩
      have sm2327 := (sm25.trans sm26).trans (sNew (o := .tup [.str "InvalidSlope", v]) (Same.refl H26) ht7)
      refine ⟨_, rfl, _, rfl, _, rfl, iteN hg ⟨_, rfl, by show 2 ≤ sizeLine; decide, fun t8 ht8 => ?_⟩⟩
      have sD := sNew (o := .tup [.str "InvalidSlope", v]) (Same.refl _) ht8
      have sm2328 := sm2327.trans sD
      refine ⟨.ref t7, .ref t8, .tup [.str "InvalidSlope", dv], rfl, rp2 (sD _ _ upd_same) rfl (hv23.same sm2328 dv), rp2 upd_same rfl (hv23.same sm2328 dv), by show depL [_, dv] + 1 ≤ 5; simp only [depL, dep]; omega, fun H29 sm29 => ⟨_, rfl, iteF ?_⟩⟩
      have sm2329 := sm2328.trans sm29
      exact ⟨_, _, _, _, _, _, _, _, _, _, _, rfl, B23.same sm2329, tex T23 sm2329⟩
  · rintro σ H2 ⟨v2, v3, v4, v5, v6, v7, v8, v9, v10, v11, v12, rfl, B2, T2⟩
    refine ⟨by show 3 ≤ sizeLine; decide, fun a1 ha1 => ⟨.ref a1, .tup [.int 9, .int 3, .int 4], rfl, rp3 upd_same rfl rfl rfl, ?_⟩⟩
    refine ⟨_, rfl, _, rfl, by show 3 ≤ sizeLine; decide, fun a2 ha2 => ⟨.ref a2, .tup [.int (-9), .int (-3), .int 1], rfl, rp3 upd_same rfl rfl rfl, ?_⟩⟩
    refine ⟨_, rfl, by show 3 ≤ sizeLine; decide, fun a3 ha3 => ⟨.ref a3, .tup [.int (-10), .int 0, .int 1], rfl, rp3 upd_same rfl rfl rfl, ?_⟩⟩
    refine ⟨_, .str "r", rfl, rfl, by show 4 ≤ sizeLine; decide, fun l1 hl1 => ?_⟩
    have s12 := sNew (o := .lst [.bl true, .bl true, .bl false, .bl false]) ((sNew (o := .tup [.int (-10), .int 0, .int 1]) ((sNew (o := .tup [.int (-9), .int (-3), .int 1]) ((sNew (o := .tup [.int 9, .int 3, .int 4]) (Same.refl H2) ha1)) ha2)) ha3)) hl1
    refine ⟨_, rfl, by show 4 ≤ sizeLine; decide, fun l2 hl2 => ?_⟩
    have sB := sNew (o := .lst [.bl true, .bl true, .bl false, .bl false]) (Same.refl _) hl2
    refine ⟨.list [.bool true, .bool true, .bool false, .bool false], .list [.bool true, .bool true, .bool false, .bool false], .lst (SqL.of (sB _ _ upd_same)) (.cons (.bl _) (.cons (.bl _) (.cons (.bl _) (.cons (.bl _) .nil)))), .lst (SqL.of upd_same) (.cons (.bl _) (.cons (.bl _) (.cons (.bl _) (.cons (.bl _) .nil)))), by decide +kernel, by decide +kernel, ?_⟩
    rw [show PyData.eqv (.list [.bool true, .bool true, .bool false, .bool false]) (.list [.bool true, .bool true, .bool false, .bool false]) = true by decide +kernel]
    refine ⟨_, rfl, iteP rfl ?_⟩
    refine fun x dx nx ndx nex => ⟨x, dx, 2, rfl, upd_same, by unfold Root; omega, fun H4 F4 kq4 => ⟨rfl, ?_⟩⟩
    obtain ⟨dxf, fsf, hins, hno⟩ := F4.ins
    refine ⟨x, dxf, fsf, rfl, hins, hno "floor" (by decide +kernel) (by decide +kernel), by show 3 ≤ sizeLine; decide, fun t5 ht5 => ?_⟩
    refine ⟨_, _, rfl, rfl, ⟨by decide, by decide, by decide⟩, ?_⟩
    refine ⟨x, 2, .ref t5, _, .tup [.int 0, .int 1, .int 1], .int (10 ^ 20), rfl, F4.same (sNew (Same.refl _) ht5), by unfold Root; omega, rp3 upd_same rfl rfl rfl, (show V.int ((10 : Int) ^ (20 : Int).toNat) = V.int (10 ^ 20) by decide +kernel), .inl ⟨0, 1, 1, 10 ^ 20, rfl, by decide +kernel, rfl, by decide, by decide, fun H6 sm6 => ?_⟩⟩
    rw [show lfl 2 0 1 1 (10 ^ 20) = 141421356237309504880 by decide +kernel]
    refine ⟨by decide, ?_⟩
    exact kk _
end
end RF

namespace RF
open PySem PySem.Spec L2 PyProof.Rows EX
open PySem.Calls PySem.HandSPX
open PySem.W (Frag findIn typeIn keepIn subIn hasDictIn nsIn mroIn clsIn codeIn fnX ksEnv ksFn alongIn)
abbrev sE (m : Nat) : Stmt := inClass (top m) 0
structure TxtE (nm q : Str) (s : Stmt) : Prop where
  body : ∃ msg a1 a2 a3 a4 a5 a6 b1 b2 b3 b4 c1 c2 c3 c4, defBody s = [sSup msg a1 a2 a3 a4 a5 a6, sTag nm b1 b2 b3 b4, sFld "given" c1 c2 c3 c4] ∧
    (∀ fI cda cc, Txt q (defScope s) fI cda cc msg nm a1 a2 a3 a4 a5 a6 b1 b2 b3 b4) ∧
    (∀ fI cda cc L, swapsWith (.Name "given" c3) (some (.Attribute (.Name "self" c1) "given" c2)) c4.line (ksEnv q (defScope s) L fI (.ref cda) cc) = pure false)
  hd : ∃ ar, ((defArgs s).posonlyargs ++ (defArgs s).args).head? = some ar ∧ ar.arg = "self"
  loc : (defScope s).names.lookup ("given" : Str) = some .local
  bind : ∀ (doc pm ct : Value) (an : Option Addr) (cda cc : Addr) (st : Shared) (x : Addr) (v : Value), BindsTo st (ksFn "__init__" q (defArgs s) (defBody s) (defScope s) .none .none doc pm an (.ref cda) ct cc) ⟨[.ref x, v], []⟩ [("self", .ref x), ("given", v)]
theorem txtS : TxtE "InvalidSlope" "InvalidSlope.__init__" (sE 6) where
  body := ⟨_, _, _, _, _, _, _, _, _, _, _, _, _, _, _, rfl, fun fI cda cc => ⟨rfl, rfl, rfl, rfl, rfl, rfl, by decide +kernel, fun _ => rfl, fun _ => rfl, fun _ => ⟨_, rfl⟩, fun _ => rfl, fun _ => rfl⟩, fun _ _ _ _ => rfl⟩
  hd := ⟨_, rfl, rfl⟩
  loc := rfl
  bind := fun _ _ _ _ _ _ _ _ _ => .of_eq rfl
theorem txtN : TxtE "InvalidNumber" "InvalidNumber.__init__" (sE 5) where
  body := ⟨_, _, _, _, _, _, _, _, _, _, _, _, _, _, _, rfl, fun fI cda cc => ⟨rfl, rfl, rfl, rfl, rfl, rfl, by decide +kernel, fun _ => rfl, fun _ => rfl, fun _ => ⟨_, rfl⟩, fun _ => rfl, fun _ => rfl⟩, fun _ _ _ _ => rfl⟩
  hd := ⟨_, rfl, rfl⟩
  loc := rfl
  bind := fun _ _ _ _ _ _ _ _ _ => .of_eq rfl
theorem ownE {P : Program} {w : World} {K : Frag} {mg : Str → Option Value} {nm q : Str} {C fI cda cc : Addr} {s : Stmt} {oc doc pm ct : Value} {od an : Option Addr} {osl : Array (Option Value)} (O : Own P K mg nm C fI) (nF : findIn K (.ref C) "given" = some none)
    (lI : K.lookup fI = some ⟨oc, od, .func (ksFn "__init__" q (defArgs s) (defBody s) (defScope s) .none .none doc pm an (.ref cda) ct cc), osl⟩) (hcd : codeIn K (.ref cda) q = true)
    (code : ∃ ccl cdd vs ccs file tf, K.lookup cda = some ⟨ccl, cdd, .fields vs, ccs⟩ ∧ vs[2]? = some (.str file tf) ∧ ((P.main.file : Str) == file) = true) (cell : ∃ cl cld csl, K.lookup cc = some ⟨cl, cld, .cell (some (.ref C)), csl⟩) (T : TxtE nm q s) : OwnE P w K mg nm "given" C := by
  obtain ⟨msg, a1, a2, a3, a4, a5, a6, b1, b2, b3, b4, c1, c2, c3, c4, e, hT, sw⟩ := T.body
  obtain ⟨ar, hp, har⟩ := T.hd
  have I : IFn P K C fI cda cc (ksFn "__init__" q (defArgs s) (defBody s) (defScope s) .none .none doc pm an (.ref cda) ct cc) := ⟨⟨oc, od, osl, lI⟩, code, cell⟩
  have hb := T.bind doc pm ct an cda cc
  rw [e] at I hb
  exact ⟨⟨fI, O, fun v A R s x t0 mb X hlim hnx hg hb1 hmb hx hxC hroom k => init1 O nF I (hT fI cda cc) hcd hp har (hb s x v) T.loc (by decide) (by decide) (sw fI cda cc) X hlim hnx hg hb1 hmb hx hxC hroom k⟩, nF⟩
/-- the facts of an own error's class over RootError -/
theorem own_of {P : Program} {K : Frag} {mg : Str → Option Value} {nm nm' q nR qR : Str} {C R N NR fI : Addr} {bs bm bsR : List Value} {sn snR : List Str} {sub subR : List Value} {ab abR : Bool} {col colR : Option Bool} {dd ddR : Option Addr} {k0 k1 k2 k3 k5 r0 r1 r2 r3 r5 : Option Value}
    (gC : mg nm = some (.ref C)) (lC : K.lookup C = some (excClassObj nm' q C N bs (.ref R :: bm) true sn sub ab col dd k0 k1 k2 k3 k5 "ValueError.__new__")) (lR : K.lookup R = some (excClassObj nR qR R NR bsR bm true snR subR abR colR ddR r0 r1 r2 r3 r5 "ValueError.__new__")) (vb : refsVE bm = true) (fR : findIn K (.ref R) "__init__" = some (some (.builtin "ValueError.__init__")))
    (sa : findIn K (.ref C) "__setattr__" = some (some (.builtin "object.__setattr__"))) (ga : findIn K (.ref C) "__getattribute__" = some (some (.builtin "BaseException.__getattribute__"))) (gg : findIn K (.ref C) "__getattr__" = some none) (noT : findIn K (.ref C) "tag" = some none)
    (iC : findIn K (.ref C) "__init__" = some (some (.ref fI))) (tC : typeIn K (.ref fI) = some (.type "function")) (kC : keepIn K (.ref C) = true) (exC : subIn K (.ref C) (.type "BaseException") = some true) (tyC : typeIn K (.ref C) = some (.type "type")) (hdC : hasDictIn K C = true) (sf : mroIn K C (.ref C) = some true)
    (noS : mg "super" = none) (opq : nsIn K cStatics "thirdparty.any" = some none) (tp : (P.main.scope.names.lookup ("super" : Str)).isSome = false) : Own P K mg nm C fI := by
  refine ⟨gC, ⟨nm', q, N, bs, _, sn, sub, ab, col, dd, k0, k1, k2, k3, k5, lC, vb, ?_⟩, sa, ga, gg, noT, iC, tC, kC, exC, tyC, hdC, sf, noS, opq, tp⟩
  have e : findIn K (.ref R) "__init__" = alongIn K "__init__" (.ref R :: bm) := by
    show (match K.lookup R with
      | some ⟨_, _, .cls cd, _⟩ => alongIn K "__init__" cd.mro
      | _ => none) = _
    rw [lR] <;> rfl
  rw [← e]
  exact fR
/-- an own error's class against the three of _law_why -/
theorem exm_of {K : Frag} {S C : Addr} {b : Bool} (h1 : subIn K (.ref C) (.type "BaseException") = some true) (h2 : PySem.W.isClsIn K C = true) (h3 : typeIn K (.ref C) = some (.type "type")) (h4 : subIn K (.ref S) (.ref C) = some b) : PySem.W.exmOne K (.ref S) (.ref C) = some b := by
  have e1 : (subIn K (.ref C) (.type "BaseException") == some true) = true := by rw [h1] <;> rfl
  have e2 : ((clsIn K C).isSome && typeIn K (.ref C) == some (.type "type")) = true := by
    have h2' : (clsIn K C).isSome = true := h2
    rw [h2', h3] <;> rfl
  show (if (subIn K (.ref C) (.type "BaseException") == some true) = true then (if ((clsIn K C).isSome && typeIn K (.ref C) == some (.type "type")) = true then subIn K (.ref S) (.ref C) else none) else none) = some b
  rw [if_pos e1, if_pos e2]
  exact h4
theorem exm3 {K : Frag} {S a b c : Value} (h1 : PySem.W.exmOne K S a = some true) (h2 : PySem.W.exmOne K S b = some false) (h3 : PySem.W.exmOne K S c = some false) : PySem.W.exmAny K S [a, b, c] = some true := by
  simp only [PySem.W.exmAny, h1, h2, h3, Bool.or_false, Bool.or_true]
end RF

namespace RF
open PySem L2 PyProof.Rows
section
variable {P : Program} {w : World} {K : PySem.W.Frag} {mg : Str → Option Value} {base : Heap}
abbrev n_SFlo : List Str := ["self", "i", "j", "k", "multiple"]
theorem sc_SFlo : FnScope n_SFlo ["self"] (defScope (sS 5)) := ⟨rfl, rfl, rfl, by decide +kernel, rfl, by decide +kernel, by decide +kernel⟩
theorem ok_SFlo {f C : Addr} {fd : FuncData} {k : Nat} (F : Fun K "floor" "Surd.floor" (sS 5) f fd) (T : TxS K mg C) (mI : mg "isqrt" = some (.builtin "math.isqrt")) : FnOk P w K mg base CX0 (k + 1) f fd ["self"] (spFlS C) := by
  refine F.ok sc_SFlo (fun vs H Q E h => ?_) (fun cdv A outer s H vs Q E hr h => ?_)
  · obtain ⟨p, d, i, j, k, rfl, _⟩ := h
    rfl
  · obtain ⟨p, d, i, j, k, rfl, ⟨k0, dx, t, hp, ht⟩, hd, bi, bj, bk, q⟩ := h
    have nd := sc_SFlo.nd
    refine ⟨_, (pss_cons (ps_asg (pe_fld (pv 0) rfl) (pg_tup rfl (pgs_cons (pg_name (i := 1) nd rfl (Or.inl rfl)) (pgs_cons (pg_name (i := 2) nd rfl (Or.inl rfl)) (pgs_cons (pg_name (i := 3) nd rfl (Or.inl rfl)) pgs_nil)))))
      (pss_cons (ps_set (i := 4) nd rfl (Or.inl rfl) (pe_callBfun cr_isqrt (by rfl) mI (pa_cons (pe_op op_mulW (pe_op op_mulW (pe_fld (pv 0) rfl) (pv 2)) (pv 2)) pa_nil)))
      (C8.pss_cut (ps_if (pt_cmpR op_lt (pv 2) pe_int (nomark _))
      (pss_one (ps_set (i := 4) nd rfl (Or.inl rfl) (pe_op op_sub (pe_un un_neg (pv 4)) pe_int)))
      pss_nil)
      (pss_one (ps_ret (pe_op op_fdivW (pe_op op_add (pv 1) (pv 4)) (pv 3))))))), ?_⟩
    have ei : Bd 900 (pI i j k) := bi.le (pI_le k0)
    have ej : Bd 900 (pJ i j k) := bj.le (pJ_le k0)
    have ek : Bd 900 (pK i j k) := bk.le (pK_le k0)
    have kp := pK_pos (i := i) (j := j) k0
    unfold flS at q
    generalize pI i j k = x at *
    generalize pJ i j k = y at *
    generalize pK i j k = z at *
    have b2 : Bd 1804 (d * y * y) := ((rootBd hd).mul ej).mul ej
    have n2 := dff_nn hd (f := y)
    refine ⟨_, rfl, p, C, dx, _, _, rfl, hp, T.cl, T.nP, sfl_parts _ _, t, _, rfl, SqT.of ht, rfl, _, _, rfl, _, _, rfl, _, _, rfl, rfl, ?_⟩
    refine ⟨_, rfl, p, C, dx, _, _, rfl, hp, T.cl, T.nR, sfl_root _ _, _, rfl, _, _, rfl, rfl, mulOk (rootBd hd) ej (by decide) (by decide) (by decide), _, rfl, _, _, rfl, rfl, mulOk ((rootBd hd).mul ej) ej (by decide) (by decide) (by decide), _, rfl, n2, ?_, ?_⟩
    · have := b2.log (by decide)
      have e : (d * y * y).toNat = (d * y * y).natAbs := by omega
      rw [e]
      omega
    · refine ⟨fun σ' H' => σ' = [some (.ref p), some (.int x), some (.int y), some (.int z), some (.int (flr d y))] ∧ H' = H, ?_, ?_⟩
      · refine ⟨_, rfl, _, _, rfl, rfl, _, rfl, ite2 (fun h => ?_) (fun h => ?_)⟩
        · have hy : y < 0 := of_decide_eq_true h
          refine ⟨_, rfl, _, rfl, _, _, rfl, rfl, ?_, rfl⟩
          unfold flr
          rw [if_pos hy]
          rfl
        · have hy : ¬ y < 0 := fun z => h (decide_eq_true z)
          refine ⟨?_, rfl⟩
          unfold flr
          rw [if_neg hy]
          rfl
      · rintro σ' H1 ⟨rfl, rfl⟩
        exact ⟨_, rfl, _, rfl, _, _, rfl, rfl, _, rfl, _, _, rfl, rfl, ⟨kp, Nat.lt_of_lt_of_le (ek.log (by decide)) (by decide)⟩, q⟩
end
theorem Fun.kbn {K : PySem.W.Frag} {x qual : Str} {st : Stmt} {f : Addr} {fd : FuncData} {ps : List Str} (F : Fun K x qual st f fd) (n : Nat) (ks : List Str) (g : {α : Type} → List α → List α → List α)
    (hrel : ∀ {vs zs : List V} {us ws : List Value}, Vals vs us → Vals zs ws → Vals (g vs zs) (g us ws))
    (h : ∀ (kV doc pm : Value) (an : Option Addr) (cdv ct : Value) (us ws : List Value), us.length = n → ws.length = ks.length → bindArgs (PySem.W.fnOf x qual (defArgs st) (defBody st) (defScope st) .none kV doc pm an cdv ct) ⟨us, ks.zip ws⟩ = pure (ps.zip (g us ws))) :
    KBn K fd ps n ks (fun us ws => g us ws) (fun vs zs => g vs zs) := by
  obtain ⟨oc, od, kV, doc, pm, an, cdv, ct, osl, rfl, lk, hcd⟩ := F.ex
  exact ⟨fun s us ws _ l1 l2 => .of_eq (h kV doc pm an cdv ct us ws l1 l2), fun r1 r2 => hrel r1 r2⟩
theorem vals_rev : ∀ {vs : List V} {us : List Value}, Vals vs us → Vals vs.reverse us.reverse
  | _, _, .nil => .nil
  | _, _, .cons h r => by
    rw [List.reverse_cons, List.reverse_cons]
    exact (vals_rev r).append (.cons h .nil)
end RF

namespace RF
open PySem L2 PyProof.Rows EX
open PySem.HandSPX
def fI : List DictEntry → Int → Option Value
  | [], _ => none
  | c :: r, i => if Value.isInt i c.key = true then some c.val else fI r i
theorem find_fI : ∀ (l : List DictEntry) (i : Int), (l.find? fun c => Value.isInt i c.key).map (·.val) = fI l i
  | [], _ => rfl
  | c :: r, i => by
    rw [List.find?_cons]
    unfold fI
    cases h : Value.isInt i c.key
    · rw [if_neg (by decide)]
      exact find_fI r i
    · rw [if_pos rfl]; rfl
theorem findBy_fI (es : Array DictEntry) (i : Int) : findBy Value.isInt es i = fI es.toList i := by
  unfold findBy
  rw [← find_fI, ← List.find?_toArray]
theorem Df.mono {P : Program} {w : World} {K : PySem.W.Frag} {mg : Str → Option Value} {base : Heap} {j k : Nat} {x : Str} {ps : List Str} {sp : Sp} (D : Df P w K mg base j x ps sp) (h : j ≤ k) : Df P w K mg base k x ps sp := by
  obtain ⟨f, fd, G, b, m, kp⟩ := D.ex
  exact ⟨f, fd, G.mono h, b, m, kp⟩
theorem all_mk {l : PySem.W.OpenLaw} {w : World} {K : PySem.W.Frag} {h : Heap} {mg : Str → Option Value} {fa : Addr} (X : K.In h) (G : h.Ns mainGlobals mg) (hfa : mg "law" = some (.ref fa)) (OT : LamX.OwnTab K fa h)
    {C CF pd po : Addr} {rs : List Value} {es : Array DictEntry} {np : Nat}
    {f1 : Addr} {od1 an1 : Option Addr} {sl1 : Array (Option Value)} {oc1 kV1 dc1 pm1 cd1 ct1 : Value}
    {f2 : Addr} {od2 an2 : Option Addr} {sl2 : Array (Option Value)} {oc2 kV2 dc2 pm2 cd2 ct2 : Value}
    {f3 : Addr} {od3 an3 : Option Addr} {sl3 : Array (Option Value)} {oc3 kV3 dc3 pm3 cd3 ct3 : Value}
    {f4 : Addr} {od4 an4 : Option Addr} {sl4 : Array (Option Value)} {oc4 kV4 dc4 pm4 cd4 ct4 : Value}
    {f5 : Addr} {od5 an5 : Option Addr} {sl5 : Array (Option Value)} {oc5 kV5 dc5 pm5 cd5 ct5 : Value}
    {f6 : Addr} {od6 an6 : Option Addr} {sl6 : Array (Option Value)} {oc6 kV6 dc6 pm6 cd6 ct6 : Value}
    {f7 : Addr} {od7 an7 : Option Addr} {sl7 : Array (Option Value)} {oc7 kV7 dc7 pm7 cd7 ct7 : Value}
    {f8 : Addr} {od8 an8 : Option Addr} {sl8 : Array (Option Value)} {oc8 kV8 dc8 pm8 cd8 ct8 : Value}
    {f9 : Addr} {od9 an9 : Option Addr} {sl9 : Array (Option Value)} {oc9 kV9 dc9 pm9 cd9 ct9 : Value}
    {f10 : Addr} {od10 an10 : Option Addr} {sl10 : Array (Option Value)} {oc10 kV10 dc10 pm10 cd10 ct10 : Value}
    {f11 : Addr} {od11 an11 : Option Addr} {sl11 : Array (Option Value)} {oc11 kV11 dc11 pm11 cd11 ct11 : Value}
    {f12 : Addr} {od12 an12 : Option Addr} {sl12 : Array (Option Value)} {oc12 kV12 dc12 pm12 cd12 ct12 : Value}
    {f13 : Addr} {od13 an13 : Option Addr} {sl13 : Array (Option Value)} {oc13 kV13 dc13 pm13 cd13 ct13 : Value}
    {f14 : Addr} {od14 an14 : Option Addr} {sl14 : Array (Option Value)} {oc14 kV14 dc14 pm14 cd14 ct14 : Value}
    {f15 : Addr} {od15 an15 : Option Addr} {sl15 : Array (Option Value)} {oc15 kV15 dc15 pm15 cd15 ct15 : Value}
    {f16 : Addr} {od16 an16 : Option Addr} {sl16 : Array (Option Value)} {oc16 kV16 dc16 pm16 cd16 ct16 : Value}
    {f17 : Addr} {od17 an17 : Option Addr} {sl17 : Array (Option Value)} {oc17 kV17 dc17 pm17 cd17 ct17 : Value}
    {f18 : Addr} {od18 an18 : Option Addr} {sl18 : Array (Option Value)} {oc18 kV18 dc18 pm18 cd18 ct18 : Value}
    {f19 : Addr} {od19 an19 : Option Addr} {sl19 : Array (Option Value)} {oc19 kV19 dc19 pm19 cd19 ct19 : Value}
    {f20 : Addr} {od20 an20 : Option Addr} {sl20 : Array (Option Value)} {oc20 kV20 dc20 pm20 cd20 ct20 : Value}
    {f21 : Addr} {od21 an21 : Option Addr} {sl21 : Array (Option Value)} {oc21 kV21 dc21 pm21 cd21 ct21 : Value}
    {f22 : Addr} {od22 an22 : Option Addr} {sl22 : Array (Option Value)} {oc22 kV22 dc22 pm22 cd22 ct22 : Value}
    {f23 : Addr} {od23 an23 : Option Addr} {sl23 : Array (Option Value)} {oc23 kV23 dc23 pm23 cd23 ct23 : Value}
    {f24 T0 D0 : Addr} {oT : Obj} {tT : Tok} {nT : Nat} {t1 : Tok} {od24 an24 : Option Addr} {sl24 : Array (Option Value)} {oc24 dc24 pm24 cd24 ct24 : Value}
    {f25 : Addr} {od25 an25 : Option Addr} {sl25 : Array (Option Value)} {oc25 kV25 dc25 pm25 cd25 ct25 : Value}
    {R NR : Addr} {nR qR : Str} {bsR bmR : List Value} {snR : List Str} {subR : List Value} {abR : Bool} {colR : Option Bool} {ddR : Option Addr} {r0 r1 r2 r3 r5 : Option Value}
    {cM cQ : Addr}
    {ES NS fES cdaS ccS : Addr} {nmS qS : Str} {bsS : List Value} {snS : List Str} {subS : List Value} {abS : Bool} {colS : Option Bool} {ddS : Option Addr} {kS0 kS1 kS2 kS3 kS5 : Option Value} {ocES docES pmES ctES : Value} {odES anES : Option Addr} {slES : Array (Option Value)} {cclS : Value} {cddS : Option Addr} {vsS : Array Value} {ccsS : Array (Option Value)} {fileS : Str} {tfS : Tok} {clS : Value} {cldS : Option Addr} {cslS : Array (Option Value)}
    {EN NN fEN cdaN ccN : Addr} {nmN qN : Str} {bsN : List Value} {snN : List Str} {subN : List Value} {abN : Bool} {colN : Option Bool} {ddN : Option Addr} {kN0 kN1 kN2 kN3 kN5 : Option Value} {ocEN docEN pmEN ctEN : Value} {odEN anEN : Option Addr} {slEN : Array (Option Value)} {cclN : Value} {cddN : Option Addr} {vsN : Array Value} {ccsN : Array (Option Value)} {fileN : Str} {tfN : Tok} {clN : Value} {cldN : Option Addr} {cslN : Array (Option Value)}
    {cL P0 : Addr} {dL : Option Addr} {vL : Array Value} {sL : Array (Option Value)} {fileL : Str} {tfL tgL ttL : Tok} {flL txL : Int} {inL : Bool}
    {qp2 : Addr} {op2 : Obj} {np2 : Nat} {kp2_0 : Tok}
    {qp3 : Addr} {op3 : Obj} {np3 : Nat} {kp3_0 kp3_1 : Tok}
    {qp5 : Addr} {op5 : Obj} {np5 : Nat} {kp5_0 : Tok}
    {qp6 : Addr} {op6 : Obj} {np6 : Nat} {kp6_0 kp6_1 : Tok}
    {qp13 : Addr} {op13 : Obj} {np13 : Nat} {kp13_0 : Tok}
    (a1 : PySem.W.nsIn K mainGlobals "is_whole" = some (some (.ref f1)))
    (l1 : K.lookup f1 = some ⟨oc1, od1, .func (PySem.W.fnOf "is_whole" "is_whole" (defArgs (top 13)) (defBody (top 13)) (defScope (top 13)) .none kV1 dc1 pm1 an1 cd1 ct1), sl1⟩)
    (c1 : PySem.W.codeIn K cd1 "is_whole" = true)
    (k1 : PySem.W.keepIn K (.ref f1) = true)
    (a2 : PySem.W.nsIn K mainGlobals "is_between" = some (some (.ref f2)))
    (l2 : K.lookup f2 = some ⟨oc2, od2, .func (PySem.W.fnOf "is_between" "is_between" (defArgs (top 14)) (defBody (top 14)) (defScope (top 14)) .none kV2 dc2 pm2 an2 cd2 ct2), sl2⟩)
    (c2 : PySem.W.codeIn K cd2 "is_between" = true)
    (k2 : PySem.W.keepIn K (.ref f2) = true)
    (a3 : PySem.W.nsIn K mainGlobals "is_number" = some (some (.ref f3)))
    (l3 : K.lookup f3 = some ⟨oc3, od3, .func (PySem.W.fnOf "is_number" "is_number" (defArgs (top 15)) (defBody (top 15)) (defScope (top 15)) .none kV3 dc3 pm3 an3 cd3 ct3), sl3⟩)
    (c3 : PySem.W.codeIn K cd3 "is_number" = true)
    (k3 : PySem.W.keepIn K (.ref f3) = true)
    (a4 : PySem.W.nsIn K mainGlobals "is_root" = some (some (.ref f4)))
    (l4 : K.lookup f4 = some ⟨oc4, od4, .func (PySem.W.fnOf "is_root" "is_root" (defArgs (top 16)) (defBody (top 16)) (defScope (top 16)) .none kV4 dc4 pm4 an4 cd4 ct4), sl4⟩)
    (c4 : PySem.W.codeIn K cd4 "is_root" = true)
    (k4 : PySem.W.keepIn K (.ref f4) = true)
    (a5 : PySem.W.nsIn K mainGlobals "is_slope" = some (some (.ref f5)))
    (l5 : K.lookup f5 = some ⟨oc5, od5, .func (PySem.W.fnOf "is_slope" "is_slope" (defArgs (top 18)) (defBody (top 18)) (defScope (top 18)) .none kV5 dc5 pm5 an5 cd5 ct5), sl5⟩)
    (c5 : PySem.W.codeIn K cd5 "is_slope" = true)
    (k5 : PySem.W.keepIn K (.ref f5) = true)
    (a6 : PySem.W.nsIn K mainGlobals "floor_of" = some (some (.ref f6)))
    (l6 : K.lookup f6 = some ⟨oc6, od6, .func (PySem.W.fnOf "floor_of" "floor_of" (defArgs (top 24)) (defBody (top 24)) (defScope (top 24)) .none kV6 dc6 pm6 an6 cd6 ct6), sl6⟩)
    (c6 : PySem.W.codeIn K cd6 "floor_of" = true)
    (k6 : PySem.W.keepIn K (.ref f6) = true)
    (a7 : PySem.W.nsIn K mainGlobals "_law_bag" = some (some (.ref f7)))
    (l7 : K.lookup f7 = some ⟨oc7, od7, .func (PySem.W.fnOf "_law_bag" "_law_bag" (defArgs (top 33)) (defBody (top 33)) (defScope (top 33)) .none kV7 dc7 pm7 an7 cd7 ct7), sl7⟩)
    (c7 : PySem.W.codeIn K cd7 "_law_bag" = true)
    (k7 : PySem.W.keepIn K (.ref f7) = true)
    (a8 : PySem.W.nsIn K mainGlobals "_law_pull" = some (some (.ref f8)))
    (l8 : K.lookup f8 = some ⟨oc8, od8, .func (PySem.W.fnOf "_law_pull" "_law_pull" (defArgs (top 34)) (defBody (top 34)) (defScope (top 34)) .none kV8 dc8 pm8 an8 cd8 ct8), sl8⟩)
    (c8 : PySem.W.codeIn K cd8 "_law_pull" = true)
    (k8 : PySem.W.keepIn K (.ref f8) = true)
    (a9 : PySem.W.nsIn K mainGlobals "_law_of" = some (some (.ref f9)))
    (l9 : K.lookup f9 = some ⟨oc9, od9, .func (PySem.W.fnOf "_law_of" "_law_of" (defArgs (top 35)) (defBody (top 35)) (defScope (top 35)) .none kV9 dc9 pm9 an9 cd9 ct9), sl9⟩)
    (c9 : PySem.W.codeIn K cd9 "_law_of" = true)
    (k9 : PySem.W.keepIn K (.ref f9) = true)
    (a10 : PySem.W.nsIn K mainGlobals "_law_same" = some (some (.ref f10)))
    (l10 : K.lookup f10 = some ⟨oc10, od10, .func (PySem.W.fnOf "_law_same" "_law_same" (defArgs (top 36)) (defBody (top 36)) (defScope (top 36)) .none kV10 dc10 pm10 an10 cd10 ct10), sl10⟩)
    (c10 : PySem.W.codeIn K cd10 "_law_same" = true)
    (k10 : PySem.W.keepIn K (.ref f10) = true)
    (a11 : PySem.W.nsIn K mainGlobals "_law_field" = some (some (.ref f11)))
    (l11 : K.lookup f11 = some ⟨oc11, od11, .func (PySem.W.fnOf "_law_field" "_law_field" (defArgs (top 37)) (defBody (top 37)) (defScope (top 37)) .none kV11 dc11 pm11 an11 cd11 ct11), sl11⟩)
    (c11 : PySem.W.codeIn K cd11 "_law_field" = true)
    (k11 : PySem.W.keepIn K (.ref f11) = true)
    (a12 : PySem.W.nsIn K mainGlobals "_law_place" = some (some (.ref f12)))
    (l12 : K.lookup f12 = some ⟨oc12, od12, .func (PySem.W.fnOf "_law_place" "_law_place" (defArgs (top 38)) (defBody (top 38)) (defScope (top 38)) .none kV12 dc12 pm12 an12 cd12 ct12), sl12⟩)
    (c12 : PySem.W.codeIn K cd12 "_law_place" = true)
    (k12 : PySem.W.keepIn K (.ref f12) = true)
    (a13 : PySem.W.nsIn K mainGlobals "_law_far" = some (some (.ref f13)))
    (l13 : K.lookup f13 = some ⟨oc13, od13, .func (PySem.W.fnOf "_law_far" "_law_far" (defArgs (top 40)) (defBody (top 40)) (defScope (top 40)) .none kV13 dc13 pm13 an13 cd13 ct13), sl13⟩)
    (c13 : PySem.W.codeIn K cd13 "_law_far" = true)
    (k13 : PySem.W.keepIn K (.ref f13) = true)
    (a14 : PySem.W.nsIn K mainGlobals "_law_root_part" = some (some (.ref f14)))
    (l14 : K.lookup f14 = some ⟨oc14, od14, .func (PySem.W.fnOf "_law_root_part" "_law_root_part" (defArgs (top 41)) (defBody (top 41)) (defScope (top 41)) .none kV14 dc14 pm14 an14 cd14 ct14), sl14⟩)
    (c14 : PySem.W.codeIn K cd14 "_law_root_part" = true)
    (k14 : PySem.W.keepIn K (.ref f14) = true)
    (a15 : PySem.W.nsIn K mainGlobals "_law_floor" = some (some (.ref f15)))
    (l15 : K.lookup f15 = some ⟨oc15, od15, .func (PySem.W.fnOf "_law_floor" "_law_floor" (defArgs (top 42)) (defBody (top 42)) (defScope (top 42)) .none kV15 dc15 pm15 an15 cd15 ct15), sl15⟩)
    (c15 : PySem.W.codeIn K cd15 "_law_floor" = true)
    (k15 : PySem.W.keepIn K (.ref f15) = true)
    (a16 : PySem.W.nsIn K mainGlobals "_law_root" = some (some (.ref f16)))
    (l16 : K.lookup f16 = some ⟨oc16, od16, .func (PySem.W.fnOf "_law_root" "_law_root" (defArgs (top 43)) (defBody (top 43)) (defScope (top 43)) .none kV16 dc16 pm16 an16 cd16 ct16), sl16⟩)
    (c16 : PySem.W.codeIn K cd16 "_law_root" = true)
    (k16 : PySem.W.keepIn K (.ref f16) = true)
    (a17 : PySem.W.nsIn K mainGlobals "_law_any_slope" = some (some (.ref f17)))
    (l17 : K.lookup f17 = some ⟨oc17, od17, .func (PySem.W.fnOf "_law_any_slope" "_law_any_slope" (defArgs (top 44)) (defBody (top 44)) (defScope (top 44)) .none kV17 dc17 pm17 an17 cd17 ct17), sl17⟩)
    (c17 : PySem.W.codeIn K cd17 "_law_any_slope" = true)
    (k17 : PySem.W.keepIn K (.ref f17) = true)
    (a18 : PySem.W.nsIn K mainGlobals "_law_odd_slope" = some (some (.ref f18)))
    (l18 : K.lookup f18 = some ⟨oc18, od18, .func (PySem.W.fnOf "_law_odd_slope" "_law_odd_slope" (defArgs (top 45)) (defBody (top 45)) (defScope (top 45)) .none kV18 dc18 pm18 an18 cd18 ct18), sl18⟩)
    (c18 : PySem.W.codeIn K cd18 "_law_odd_slope" = true)
    (k18 : PySem.W.keepIn K (.ref f18) = true)
    (a19 : PySem.W.nsIn K mainGlobals "_law_why" = some (some (.ref f19)))
    (l19 : K.lookup f19 = some ⟨oc19, od19, .func (PySem.W.fnOf "_law_why" "_law_why" (defArgs (top 39)) (defBody (top 39)) (defScope (top 39)) .none kV19 dc19 pm19 an19 cd19 ct19), sl19⟩)
    (c19 : PySem.W.codeIn K cd19 "_law_why" = true)
    (k19 : PySem.W.keepIn K (.ref f19) = true)
    (a20 : PySem.W.nsIn K mainGlobals "law" = some (some (.ref f20)))
    (l20 : K.lookup f20 = some ⟨oc20, od20, .func (PySem.W.fnOf "law" "law" (defArgs (top 46)) (defBody (top 46)) (defScope (top 46)) .none kV20 dc20 pm20 an20 cd20 ct20), sl20⟩)
    (c20 : PySem.W.codeIn K cd20 "law" = true)
    (k20 : PySem.W.keepIn K (.ref f20) = true)
    (aC : PySem.W.nsIn K mainGlobals "Surd" = some (some (.ref C)))
    (a21 : PySem.W.findIn K (.ref C) "floor" = some (some (.ref f21)))
    (i21 : PySem.W.isFn K (.ref f21) = true)
    (l21 : K.lookup f21 = some ⟨oc21, od21, .func (PySem.W.fnOf "floor" "Surd.floor" (defArgs (sS 5)) (defBody (sS 5)) (defScope (sS 5)) .none kV21 dc21 pm21 an21 cd21 ct21), sl21⟩)
    (c21 : PySem.W.codeIn K cd21 "Surd.floor" = true)
    (k21 : PySem.W.keepIn K (.ref f21) = true)
    (aF : PySem.W.nsIn K mainGlobals "Field" = some (some (.ref CF)))
    (a22 : PySem.W.findIn K (.ref CF) "__init__" = some (some (.ref f22)))
    (l22 : K.lookup f22 = some ⟨oc22, od22, .func (PySem.W.fnOf "__init__" "Field.__init__" (defArgs (sF 1)) (defBody (sF 1)) (defScope (sF 1)) .none kV22 dc22 pm22 an22 cd22 ct22), sl22⟩)
    (c22 : PySem.W.codeIn K cd22 "Field.__init__" = true)
    (k22 : PySem.W.keepIn K (.ref f22) = true)
    (i22 : PySem.W.isFn K (.ref f22) = true)
    (a23 : PySem.W.findIn K (.ref CF) "floor" = some (some (.ref f23)))
    (l23 : K.lookup f23 = some ⟨oc23, od23, .func (PySem.W.fnOf "floor" "Field.floor" (defArgs (sF 11)) (defBody (sF 11)) (defScope (sF 11)) .none kV23 dc23 pm23 an23 cd23 ct23), sl23⟩)
    (c23 : PySem.W.codeIn K cd23 "Field.floor" = true)
    (k23 : PySem.W.keepIn K (.ref f23) = true)
    (i23 : PySem.W.isFn K (.ref f23) = true)
    (a24 : PySem.W.findIn K (.ref C) "__init__" = some (some (.ref f24)))
    (i24 : PySem.W.isFn K (.ref f24) = true)
    (l24 : K.lookup f24 = some ⟨oc24, od24, .func (PySem.W.fnOf "__init__" "Surd.__init__" (defArgs (sS 0)) (defBody (sS 0)) (defScope (sS 0)) (.ref T0) (.ref D0) dc24 pm24 an24 cd24 ct24), sl24⟩)
    (c24 : PySem.W.codeIn K cd24 "Surd.__init__" = true)
    (k24 : PySem.W.keepIn K (.ref f24) = true)
    (lT : K.lookup T0 = some oT)
    (dT : oT.data = .seq #[.int 0 tT] nT)
    (kD : PySem.W.nsIn K D0 "k" = some (some (.int 1 t1)))
    (sm : PySem.W.findCls K (.ref C) (.type "type") "of_slope" = some (.get (.builtin "staticmethod.__get__") (.ref po) .none (.ref C)))
    (a25 : PySem.W.recIn K po "staticmethod" = some (.ref f25 :: rs))
    (l25 : K.lookup f25 = some ⟨oc25, od25, .func (PySem.W.fnOf "of_slope" "Surd.of_slope" (defArgs (sS 1)) (defBody (sS 1)) (defScope (sS 1)) .none kV25 dc25 pm25 an25 cd25 ct25), sl25⟩)
    (c25 : PySem.W.codeIn K cd25 "Surd.of_slope" = true)
    (k25 : PySem.W.keepIn K (.ref f25) = true)
    (rd : PySem.W.readsIn K C (.type "type") = true)
    (gaC : PySem.W.specialIn K (.ref C) "__getattribute__" = some (some (.builtin "type.__getattribute__")))
    (pg : PySem.W.plainGet K C Str.empty = true)
    (hdC : PySem.W.hasDictIn K C = true)
    (poC : PySem.W.plainOver K C = true)
    (saC : PySem.W.findIn K (.ref C) "__setattr__" = some (some (.builtin "object.__setattr__")))
    (mkC : PySem.W.makesIn K C = true)
    (kpC : PySem.W.keepIn K (.ref C) = true)
    (nRo : PySem.W.findIn K (.ref C) "_root" = some none)
    (nPa : PySem.W.findIn K (.ref C) "_parts" = some none)
    (pgF : PySem.W.plainGet K CF Str.empty = true)
    (hdF : PySem.W.hasDictIn K CF = true)
    (poF : PySem.W.plainOver K CF = true)
    (saF : PySem.W.findIn K (.ref CF) "__setattr__" = some (some (.builtin "object.__setattr__")))
    (mkF : PySem.W.makesIn K CF = true)
    (kpF : PySem.W.keepIn K (.ref CF) = true)
    (nRF : PySem.W.findIn K (.ref CF) "_root" = some none)
    (nPF : PySem.W.findIn K (.ref CF) "_period" = some none)
    (aP : PySem.W.nsIn K mainGlobals "PERIODS" = some (some (.ref pd)))
    (lP : K.lookup pd = some ⟨.type "dict", none, .dict es np, #[]⟩)
    (oP : okE es.toList [2, 3, 5, 6, 13] = true)
    (wP : (pd == sysModules) = false)
    (aI : PySem.W.nsIn K mainGlobals "isqrt" = some (some (.builtin "math.isqrt")))
    (aG : PySem.W.nsIn K mainGlobals "gcd" = some (some (.builtin "math.gcd")))
    (aR : PySem.W.nsIn K mainGlobals "RootError" = some (some (.ref R)))
    (lR : K.lookup R = some (excClassObj nR qR R NR bsR bmR true snR subR abR colR ddR r0 r1 r2 r3 r5 "ValueError.__new__"))
    (vR : refsVE bmR = true)
    (fR : PySem.W.findIn K (.ref R) "__init__" = some (some (.builtin "ValueError.__init__")))
    (oq : PySem.W.nsIn K cStatics "thirdparty.any" = some none)
    (tp : (l.prog.main.scope.names.lookup ("super" : Str)).isSome = false)
    (aC2 : PySem.W.nsIn K mainGlobals "Missing" = some (some (.ref cM)))
    (aC3 : PySem.W.nsIn K mainGlobals "NothingLeft" = some (some (.ref cQ)))
    (xb1 : PySem.W.subIn K (.ref R) (.type "BaseException") = some true)
    (xi1 : PySem.W.isClsIn K R = true)
    (xt1 : PySem.W.typeIn K (.ref R) = some (.type "type"))
    (xb2 : PySem.W.subIn K (.ref cM) (.type "BaseException") = some true)
    (xi2 : PySem.W.isClsIn K cM = true)
    (xt2 : PySem.W.typeIn K (.ref cM) = some (.type "type"))
    (xb3 : PySem.W.subIn K (.ref cQ) (.type "BaseException") = some true)
    (xi3 : PySem.W.isClsIn K cQ = true)
    (xt3 : PySem.W.typeIn K (.ref cQ) = some (.type "type"))
    (aES : PySem.W.nsIn K mainGlobals "InvalidSlope" = some (some (.ref ES)))
    (lES : K.lookup ES = some (excClassObj nmS qS ES NS bsS (.ref R :: bmR) true snS subS abS colS ddS kS0 kS1 kS2 kS3 kS5 "ValueError.__new__"))
    (saES : PySem.W.findIn K (.ref ES) "__setattr__" = some (some (.builtin "object.__setattr__")))
    (gaES : PySem.W.findIn K (.ref ES) "__getattribute__" = some (some (.builtin "BaseException.__getattribute__")))
    (ggES : PySem.W.findIn K (.ref ES) "__getattr__" = some none)
    (ntES : PySem.W.findIn K (.ref ES) "tag" = some none)
    (ngES : PySem.W.findIn K (.ref ES) "given" = some none)
    (iES : PySem.W.findIn K (.ref ES) "__init__" = some (some (.ref fES)))
    (tES : PySem.W.typeIn K (.ref fES) = some (.type "function"))
    (kES : PySem.W.keepIn K (.ref ES) = true)
    (xES : PySem.W.subIn K (.ref ES) (.type "BaseException") = some true)
    (yES : PySem.W.typeIn K (.ref ES) = some (.type "type"))
    (hES : PySem.W.hasDictIn K ES = true)
    (mES : PySem.W.mroIn K ES (.ref ES) = some true)
    (jES : K.lookup fES = some ⟨ocES, odES, .func (PySem.W.ksFn "__init__" "InvalidSlope.__init__" (defArgs (sE 6)) (defBody (sE 6)) (defScope (sE 6)) .none .none docES pmES anES (.ref cdaS) ctES ccS), slES⟩)
    (cES : PySem.W.codeIn K (.ref cdaS) "InvalidSlope.__init__" = true)
    (dES : K.lookup cdaS = some ⟨cclS, cddS, .fields vsS, ccsS⟩)
    (vvES : vsS[2]? = some (.str fileS tfS))
    (pES : ((l.prog.main.file : Str) == fileS) = true)
    (uES : K.lookup ccS = some ⟨clS, cldS, .cell (some (.ref ES)), cslS⟩)
    (s1ES : PySem.W.subIn K (.ref ES) (.ref R) = some true)
    (s2ES : PySem.W.subIn K (.ref ES) (.ref cM) = some false)
    (s3ES : PySem.W.subIn K (.ref ES) (.ref cQ) = some false)
    (aEN : PySem.W.nsIn K mainGlobals "InvalidNumber" = some (some (.ref EN)))
    (lEN : K.lookup EN = some (excClassObj nmN qN EN NN bsN (.ref R :: bmR) true snN subN abN colN ddN kN0 kN1 kN2 kN3 kN5 "ValueError.__new__"))
    (saEN : PySem.W.findIn K (.ref EN) "__setattr__" = some (some (.builtin "object.__setattr__")))
    (gaEN : PySem.W.findIn K (.ref EN) "__getattribute__" = some (some (.builtin "BaseException.__getattribute__")))
    (ggEN : PySem.W.findIn K (.ref EN) "__getattr__" = some none)
    (ntEN : PySem.W.findIn K (.ref EN) "tag" = some none)
    (ngEN : PySem.W.findIn K (.ref EN) "given" = some none)
    (iEN : PySem.W.findIn K (.ref EN) "__init__" = some (some (.ref fEN)))
    (tEN : PySem.W.typeIn K (.ref fEN) = some (.type "function"))
    (kEN : PySem.W.keepIn K (.ref EN) = true)
    (xEN : PySem.W.subIn K (.ref EN) (.type "BaseException") = some true)
    (yEN : PySem.W.typeIn K (.ref EN) = some (.type "type"))
    (hEN : PySem.W.hasDictIn K EN = true)
    (mEN : PySem.W.mroIn K EN (.ref EN) = some true)
    (jEN : K.lookup fEN = some ⟨ocEN, odEN, .func (PySem.W.ksFn "__init__" "InvalidNumber.__init__" (defArgs (sE 5)) (defBody (sE 5)) (defScope (sE 5)) .none .none docEN pmEN anEN (.ref cdaN) ctEN ccN), slEN⟩)
    (cEN : PySem.W.codeIn K (.ref cdaN) "InvalidNumber.__init__" = true)
    (dEN : K.lookup cdaN = some ⟨cclN, cddN, .fields vsN, ccsN⟩)
    (vvEN : vsN[2]? = some (.str fileN tfN))
    (pEN : ((l.prog.main.file : Str) == fileN) = true)
    (uEN : K.lookup ccN = some ⟨clN, cldN, .cell (some (.ref EN)), cslN⟩)
    (s1EN : PySem.W.subIn K (.ref EN) (.ref R) = some true)
    (s2EN : PySem.W.subIn K (.ref EN) (.ref cM) = some false)
    (s3EN : PySem.W.subIn K (.ref EN) (.ref cQ) = some false)
    (eqL : cd20 = .ref cL)
    (lL : K.lookup cL = some ⟨.type "code", dL, .fields vL, sL⟩)
    (eL1 : vL[11]? = some (.ref P0))
    (eL2 : vL.getD 11 .none = .ref P0)
    (eL3 : vL.getD 18 .none = .str fileL tfL)
    (eL4 : vL.getD 7 .none = .int flL tgL)
    (eL5 : vL.getD 9 .none = .bool inL)
    (eL6 : vL.getD 10 .none = .int txL ttL)
    (eL7 : (cL == P0) = false)
    (eL8 : (K.lookup P0).isNone = true)
    (gp2 : fI es.toList 2 = some (.ref qp2))
    (tlp2 : K.lookup qp2 = some op2)
    (tcp2 : op2.cls = .type "tuple")
    (tdp2 : op2.data = .seq #[.int (2) kp2_0] np2)
    (gp3 : fI es.toList 3 = some (.ref qp3))
    (tlp3 : K.lookup qp3 = some op3)
    (tcp3 : op3.cls = .type "tuple")
    (tdp3 : op3.data = .seq #[.int (1) kp3_0, .int (2) kp3_1] np3)
    (gp5 : fI es.toList 5 = some (.ref qp5))
    (tlp5 : K.lookup qp5 = some op5)
    (tcp5 : op5.cls = .type "tuple")
    (tdp5 : op5.data = .seq #[.int (1) kp5_0] np5)
    (gp6 : fI es.toList 6 = some (.ref qp6))
    (tlp6 : K.lookup qp6 = some op6)
    (tcp6 : op6.cls = .type "tuple")
    (tdp6 : op6.data = .seq #[.int (2) kp6_0, .int (4) kp6_1] np6)
    (gp13 : fI es.toList 13 = some (.ref qp13))
    (tlp13 : K.lookup qp13 = some op13)
    (tcp13 : op13.cls = .type "tuple")
    (tdp13 : op13.data = .seq #[.int (3) kp13_0] np13)
    (z_list : PySem.W.nsIn K mainGlobals "list" = some none)
    (z_len : PySem.W.nsIn K mainGlobals "len" = some none)
    (z_abs : PySem.W.nsIn K mainGlobals "abs" = some none)
    (z_int : PySem.W.nsIn K mainGlobals "int" = some none)
    (z_range : PySem.W.nsIn K mainGlobals "range" = some none)
    (z_isinstance : PySem.W.nsIn K mainGlobals "isinstance" = some none)
    (z_bool : PySem.W.nsIn K mainGlobals "bool" = some none)
    (z_str : PySem.W.nsIn K mainGlobals "str" = some none)
    (z_tuple : PySem.W.nsIn K mainGlobals "tuple" = some none)
    (z_all : PySem.W.nsIn K mainGlobals "all" = some none)
    (z_zip : PySem.W.nsIn K mainGlobals "zip" = some none)
    (z_sum : PySem.W.nsIn K mainGlobals "sum" = some none)
    (z_super : PySem.W.nsIn K mainGlobals "super" = some none) :
    LamX.LawAtS l w K CX0 13 63 "_law_script" mg fa h := by
  have e := hfa.symm.trans (PySem.W.mg_of X G a20)
  cases e
  have F_whole := fun_mk (st := top 13) l1 c1 k1
  have b_whole := F_whole.binds (ps := ["value"]) fun _ _ _ _ _ _ us hl => match us, hl with | [_], _ => rfl
  have m_whole := PySem.W.mg_of X G a1
  have F_btw := fun_mk (st := top 14) l2 c2 k2
  have b_btw := F_btw.binds (ps := ["value", "low", "high"]) fun _ _ _ _ _ _ us hl => match us, hl with | [_, _, _], _ => rfl
  have m_btw := PySem.W.mg_of X G a2
  have F_num := fun_mk (st := top 15) l3 c3 k3
  have b_num := F_num.binds (ps := ["value"]) fun _ _ _ _ _ _ us hl => match us, hl with | [_], _ => rfl
  have m_num := PySem.W.mg_of X G a3
  have F_isroot := fun_mk (st := top 16) l4 c4 k4
  have b_isroot := F_isroot.binds (ps := ["value"]) fun _ _ _ _ _ _ us hl => match us, hl with | [_], _ => rfl
  have m_isroot := PySem.W.mg_of X G a4
  have F_isslope := fun_mk (st := top 18) l5 c5 k5
  have b_isslope := F_isslope.binds (ps := ["value"]) fun _ _ _ _ _ _ us hl => match us, hl with | [_], _ => rfl
  have m_isslope := PySem.W.mg_of X G a5
  have F_flof := fun_mk (st := top 24) l6 c6 k6
  have b_flof := F_flof.binds (ps := ["root", "slope", "whole"]) fun _ _ _ _ _ _ us hl => match us, hl with | [_, _, _], _ => rfl
  have m_flof := PySem.W.mg_of X G a6
  have F_bag := fun_mk (st := top 33) l7 c7 k7
  have b_bag := F_bag.binds (ps := ["_law_script"]) fun _ _ _ _ _ _ us hl => match us, hl with | [_], _ => rfl
  have m_bag := PySem.W.mg_of X G a7
  have F_pull := fun_mk (st := top 34) l8 c8 k8
  have b_pull := F_pull.binds (ps := ["_law_bag_here", "_law_sides"]) fun _ _ _ _ _ _ us hl => match us, hl with | [_, _], _ => rfl
  have m_pull := PySem.W.mg_of X G a8
  have F_of := fun_mk (st := top 35) l9 c9 k9
  have b_of := F_of.binds (ps := ["_law_bag_here", "_law_some"]) fun _ _ _ _ _ _ us hl => match us, hl with | [_, _], _ => rfl
  have m_of := PySem.W.mg_of X G a9
  have F_same := fun_mk (st := top 36) l10 c10 k10
  have b_same := F_same.binds (ps := ["_law_found", "_law_due"]) fun _ _ _ _ _ _ us hl => match us, hl with | [_, _], _ => rfl
  have m_same := PySem.W.mg_of X G a10
  have F_lfi := fun_mk (st := top 37) l11 c11 k11
  have b_lfi := F_lfi.binds (ps := ["_law_one"]) fun _ _ _ _ _ _ us hl => match us, hl with | [_], _ => rfl
  have m_lfi := PySem.W.mg_of X G a11
  have F_lpl := fun_mk (st := top 38) l12 c12 k12
  have b_lpl := F_lpl.binds (ps := ["_law_one"]) fun _ _ _ _ _ _ us hl => match us, hl with | [_], _ => rfl
  have m_lpl := PySem.W.mg_of X G a12
  have F_far := fun_mk (st := top 40) l13 c13 k13
  have b_far := F_far.binds (ps := ["_law_bag_here", "_law_figures"]) fun _ _ _ _ _ _ us hl => match us, hl with | [_, _], _ => rfl
  have m_far := PySem.W.mg_of X G a13
  have F_rp := fun_mk (st := top 41) l14 c14 k14
  have b_rp := F_rp.binds (ps := ["_law_number_z"]) fun _ _ _ _ _ _ us hl => match us, hl with | [_], _ => rfl
  have m_rp := PySem.W.mg_of X G a14
  have F_lfl := fun_mk (st := top 42) l15 c15 k15
  have b_lfl := F_lfl.binds (ps := ["_law_root_here", "_law_slope_z", "_law_number_z"]) fun _ _ _ _ _ _ us hl => match us, hl with | [_, _, _], _ => rfl
  have m_lfl := PySem.W.mg_of X G a15
  have F_root := fun_mk (st := top 43) l16 c16 k16
  have b_root := F_root.binds (ps := ["_law_bag_here"]) fun _ _ _ _ _ _ us hl => match us, hl with | [_], _ => rfl
  have m_root := PySem.W.mg_of X G a16
  have F_any := fun_mk (st := top 44) l17 c17 k17
  have b_any := F_any.binds (ps := ["_law_bag_here"]) fun _ _ _ _ _ _ us hl => match us, hl with | [_], _ => rfl
  have m_any := PySem.W.mg_of X G a17
  have F_odd := fun_mk (st := top 45) l18 c18 k18
  have b_odd := F_odd.binds (ps := ["_law_bag_here"]) fun _ _ _ _ _ _ us hl => match us, hl with | [_], _ => rfl
  have m_odd := PySem.W.mg_of X G a18
  have F_why := fun_mk (st := top 39) l19 c19 k19
  have b_why := F_why.binds (ps := ["_law_ask"]) fun _ _ _ _ _ _ us hl => match us, hl with | [_], _ => rfl
  have m_why := PySem.W.mg_of X G a19
  have F_law := fun_mk (st := top 46) l20 c20 k20
  have b_law := F_law.binds (ps := ["_law_script"]) fun _ _ _ _ _ _ us hl => match us, hl with | [_], _ => rfl
  have m_law := PySem.W.mg_of X G a20
  have F_sflo := fun_mk (st := sS 5) l21 c21 k21
  have b_sflo := F_sflo.binds (ps := ["self"]) fun _ _ _ _ _ _ us hl => match us, hl with | [_], _ => rfl
  have F_finit := fun_mk (st := sF 1) l22 c22 k22
  have b_finit := F_finit.binds (ps := ["self", "root"]) fun _ _ _ _ _ _ us hl => match us, hl with | [_, _], _ => rfl
  have F_fflo := fun_mk (st := sF 11) l23 c23 k23
  have b_fflo := F_fflo.binds (ps := ["self", "slope", "number"]) fun _ _ _ _ _ _ us hl => match us, hl with | [_, _, _], _ => rfl
  have F_ofs := fun_mk (st := sS 1) l25 c25 k25
  have b_ofs := F_ofs.binds (ps := ["root", "slope"]) fun _ _ _ _ _ _ us hl => match us, hl with | [_, _], _ => rfl
  have n_list := PySem.W.mg_none_of X G z_list
  have n_len := PySem.W.mg_none_of X G z_len
  have n_abs := PySem.W.mg_none_of X G z_abs
  have n_int := PySem.W.mg_none_of X G z_int
  have n_range := PySem.W.mg_none_of X G z_range
  have n_isinstance := PySem.W.mg_none_of X G z_isinstance
  have n_bool := PySem.W.mg_none_of X G z_bool
  have n_str := PySem.W.mg_none_of X G z_str
  have n_tuple := PySem.W.mg_none_of X G z_tuple
  have n_all := PySem.W.mg_none_of X G z_all
  have n_zip := PySem.W.mg_none_of X G z_zip
  have n_sum := PySem.W.mg_none_of X G z_sum
  have n_super := PySem.W.mg_none_of X G z_super
  have m_P := PySem.W.mg_of X G aP
  have m_I := PySem.W.mg_of X G aI
  have m_G := PySem.W.mg_of X G aG
  have hPer : PerK K pd := fun d hd => by
    rcases hd with rfl | rfl | rfl | rfl | rfl
    · exact ⟨qp2, ⟨es, _, _, _, lP, oP, (findBy_fI _ _).trans gp2, rfl⟩, (⟨op2, _, np2, tlp2, tcp2, tdp2, by show 1 ≤ sizeLine; decide, .cons ⟨_, rfl⟩ (.nil)⟩ : TupI K qp2 [2])⟩
    · exact ⟨qp3, ⟨es, _, _, _, lP, oP, (findBy_fI _ _).trans gp3, rfl⟩, (⟨op3, _, np3, tlp3, tcp3, tdp3, by show 2 ≤ sizeLine; decide, .cons ⟨_, rfl⟩ (.cons ⟨_, rfl⟩ (.nil))⟩ : TupI K qp3 [1, 2])⟩
    · exact ⟨qp5, ⟨es, _, _, _, lP, oP, (findBy_fI _ _).trans gp5, rfl⟩, (⟨op5, _, np5, tlp5, tcp5, tdp5, by show 1 ≤ sizeLine; decide, .cons ⟨_, rfl⟩ (.nil)⟩ : TupI K qp5 [1])⟩
    · exact ⟨qp6, ⟨es, _, _, _, lP, oP, (findBy_fI _ _).trans gp6, rfl⟩, (⟨op6, _, np6, tlp6, tcp6, tdp6, by show 2 ≤ sizeLine; decide, .cons ⟨_, rfl⟩ (.cons ⟨_, rfl⟩ (.nil))⟩ : TupI K qp6 [2, 4])⟩
    · exact ⟨qp13, ⟨es, _, _, _, lP, oP, (findBy_fI _ _).trans gp13, rfl⟩, (⟨op13, _, np13, tlp13, tcp13, tdp13, by show 1 ≤ sizeLine; decide, .cons ⟨_, rfl⟩ (.nil)⟩ : TupI K qp13 [3])⟩
  have T : TxS K mg C := ⟨⟨pg, hdC, poC, saC⟩, nRo, nPa, PySem.W.mg_of X G aC⟩
  have TF : TxF K mg CF := ⟨⟨pgF, hdF, poF, saF⟩, nRF, nPF, PySem.W.mg_of X G aF⟩
  have FI : FunD K "__init__" "Surd.__init__" (defArgs (sS 0)) (defBody (sS 0)) (defScope (sS 0)) [.int 0] [("k", .int 1)] f24 (PySem.W.fnOf "__init__" "Surd.__init__" (defArgs (sS 0)) (defBody (sS 0)) (defScope (sS 0)) (.ref T0) (.ref D0) dc24 pm24 an24 cd24 ct24) :=
    ⟨⟨oc24, od24, .ref T0, .ref D0, dc24, pm24, an24, cd24, ct24, sl24, rfl, l24, c24, .inr ⟨by simp, T0, oT, [.int 0 tT], nT, rfl, lT, dT, .cons ⟨_, rfl⟩ .nil⟩, .inr ⟨D0, rfl, fun q hq => by
      obtain rfl : q = ((("k" : Str), V.int 1) : Str × V) := by simpa using hq
      exact ⟨_, kD, _, rfl⟩⟩⟩, k24⟩
  subst eqL
  have hT0 : h.get? P0 = some { cls := .none, data := .fields #[] } := OT cL P0 _ _ _ _ _ _ l20 rfl rfl lL eL1
  have hC0 : PySem.W.CodeHd h cL P0 := ⟨_, _, _, _, _, _, _, _, _, X _ _ lL, rfl, rfl, eL1, eL2, eL3, eL4, eL5, eL6, by simpa using eL7⟩
  refine ⟨PySem.W.fnOf "law" "law" (defArgs (top 46)) (defBody (top 46)) (defScope (top 46)) .none kV20 dc20 pm20 an20 (.ref cL) ct20, [(cL, P0)], spLaw K P0, fun p hp => ?_, fun p hp => ?_, fun p hp => ?_, fun s v => .of_eq rfl, fun H a ns hl _ hT hS => ⟨a, ns, rfl, hS, hl, hT _ (List.mem_singleton.mpr rfl), fun _ => rfl⟩, fun base _ _ TBs => ?_⟩
  · rw [List.mem_singleton.mp hp]
    exact hT0
  · rw [List.mem_singleton.mp hp]
    exact Option.isNone_iff_eq_none.mp eL8
  · rw [List.mem_singleton.mp hp]
    exact hC0
  have tb := TBs _ (List.mem_singleton.mpr rfl)
  have D_whole : Df l.prog w K mg base 1 "is_whole" ["value"] (spWhole K) := ⟨_, _, ok_whole (k := 0) F_whole n_isinstance n_int n_bool, b_whole, m_whole, F_whole.kp⟩
  have D_btw : Df l.prog w K mg base 2 "is_between" ["value", "low", "high"] (spBtw K) := ⟨_, _, ok_btw F_btw D_whole, b_btw, m_btw, F_btw.kp⟩
  have D_num : Df l.prog w K mg base 3 "is_number" ["value"] (spNum K) := ⟨_, _, ok_num F_num D_btw, b_num, m_num, F_num.kp⟩
  have D_isroot : Df l.prog w K mg base 2 "is_root" ["value"] (spIsRoot K) := ⟨_, _, ok_isroot F_isroot D_whole m_P ⟨wP, es, np, lP, oP⟩, b_isroot, m_isroot, F_isroot.kp⟩
  have D_isslope : Df l.prog w K mg base 3 "is_slope" ["value"] (spIsSlope K) := ⟨_, _, ok_isslope F_isslope n_isinstance n_tuple n_len D_btw, b_isslope, m_isslope, F_isslope.kp⟩
  have TBm : TB mg := ⟨n_list, n_len, n_abs, n_int⟩
  have TSs : TSm mg := ⟨n_isinstance, n_bool, n_int, n_str, n_list, n_tuple, n_len, n_all, n_zip⟩
  have D_bag : Df l.prog w K mg base 1 "_law_bag" ["_law_script"] (spBag K) := ⟨_, _, ok_bag F_bag TBm, b_bag, m_bag, F_bag.kp⟩
  have D_pull : Df l.prog w K mg base 1 "_law_pull" ["_law_bag_here", "_law_sides"] spPull := ⟨_, _, ok_pull F_pull TBm, b_pull, m_pull, F_pull.kp⟩
  have D_of : Df l.prog w K mg base 2 "_law_of" ["_law_bag_here", "_law_some"] (spOf K) := ⟨_, _, ok_of F_of TBm D_pull, b_of, m_of, F_of.kp⟩
  have D_root : Df l.prog w K mg base 3 "_law_root" ["_law_bag_here"] spRoot := ⟨_, _, ok_root F_root D_of, b_root, m_root, F_root.kp⟩
  have D_far : Df l.prog w K mg base 2 "_law_far" ["_law_bag_here", "_law_figures"] spFar := ⟨_, _, ok_far F_far n_range D_pull, b_far, m_far, F_far.kp⟩
  have D_same : Df l.prog w K mg base 6 "_law_same" ["_law_found", "_law_due"] (spSame K 5) := ⟨_, _, ok_same F_same TSs b_same m_same 5, b_same, m_same, F_same.kp⟩
  have D_rp : Df l.prog w K mg base 1 "_law_root_part" ["_law_number_z"] spRP := ⟨_, _, ok_rp (k := 0) F_rp, b_rp, m_rp, F_rp.kp⟩
  have D_lfl : Df l.prog w K mg base 2 "_law_floor" ["_law_root_here", "_law_slope_z", "_law_number_z"] (spLFl K) := ⟨_, _, ok_lfl F_lfl D_rp, b_lfl, m_lfl, F_lfl.kp⟩
  have D_any : Df l.prog w K mg base 2 "_law_any_slope" ["_law_bag_here"] spAny := ⟨_, _, ok_any F_any D_pull, b_any, m_any, F_any.kp⟩
  have D_odd : Df l.prog w K mg base 3 "_law_odd_slope" ["_law_bag_here"] (spOdd K) := ⟨_, _, ok_odd F_odd D_any (D_pull.mono (by decide)), b_odd, m_odd, F_odd.kp⟩
  have GI := ok_SInit (P := l.prog) (w := w) (base := base) (k := 5) FI T m_G (D_isroot.mono (by decide))
  have kb : KBn K (PySem.W.fnOf "__init__" "Surd.__init__" (defArgs (sS 0)) (defBody (sS 0)) (defScope (sS 0)) (.ref T0) (.ref D0) dc24 pm24 an24 cd24 ct24) ["self", "root", "i", "j", "k"] 4 ["k"] (fun us ws => us ++ ws) (fun vs zs => vs ++ zs) := by
    obtain ⟨its, mv, kb⟩ := FI.kbinds (ps := ["self", "root", "i", "j", "k"]) 4 ["k"] [] (fun us _ _ ws => us ++ ws) (by simp) (by simp) (fun q hq => by cases hq) (fun r1 _ _ r4 => r1.append r4)
      (fun T D doc pm an cdv ct us its mv ws h1 h2 h3 h4 => match us, its, mv, ws, h1, h2, h3, h4 with | [_, _, _, _], [_], [], [_], _, _, _, _ => ⟨_, rfl, rfl⟩)
    exact kb
  have b4 := FI.binds (ps := ["self", "root", "i", "j", "k"]) 4 1 (by simp) rfl (fun T D doc pm an cdv ct us its ks h1 h2 h3 => match us, its, ks, h1, h2, h3 with | [_, _, _, _], [_], [_], _, _, _ => ⟨_, rfl, _, _, _, _, _, _, rfl, rfl, rfl⟩) (by simp)
  have b3 := FI.binds (ps := ["self", "root", "i", "j", "k"]) 3 0 (by simp) rfl (fun T D doc pm an cdv ct us its ks h1 h2 h3 => match us, its, ks, h1, h2, h3 with | [_, _, _], [_], [_], _, _, _ => ⟨_, rfl, _, _, _, _, _, _, rfl, rfl, rfl⟩) (by simp)
  have M6 : MkS l.prog w K mg base C 6 := ⟨_, _, ⟨mkC, a24, i24, kpC⟩, GI, kb, b4, b3⟩
  have M7 : MkS l.prog w K mg base C 7 := ⟨_, _, ⟨mkC, a24, i24, kpC⟩, GI.mono (by decide), kb, b4, b3⟩
  have Gsflo := ok_SFlo (P := l.prog) (w := w) (base := base) (k := 0) F_sflo T m_I
  have D_flof : Df l.prog w K mg base 8 "floor_of" ["root", "slope", "whole"] (spFloorOf K) := ⟨_, _, ok_floorof F_flof T M6 ⟨_, _, Gsflo.mono (by decide), ⟨a21, i21, F_sflo.kp⟩, b_sflo⟩, b_flof, m_flof, F_flof.kp⟩
  have OS : OwnE l.prog w K mg "InvalidSlope" "given" ES := ownE (own_of (PySem.W.mg_of X G aES) lES lR vR fR saES gaES ggES ntES iES tES kES xES yES hES mES n_super oq tp) ngES jES cES ⟨_, _, _, _, _, _, dES, vvES, pES⟩ ⟨_, _, _, uES⟩ txtS
  have ON : OwnE l.prog w K mg "InvalidNumber" "given" EN := ownE (own_of (PySem.W.mg_of X G aEN) lEN lR vR fR saEN gaEN ggEN ntEN iEN tEN kEN xEN yEN hEN mEN n_super oq tp) ngEN jEN cEN ⟨_, _, _, _, _, _, dEN, vvEN, pEN⟩ ⟨_, _, _, uEN⟩ txtN
  have GFf := ok_FFlo (P := l.prog) (w := w) (base := base) (k := 8) F_fflo TF (D_isslope.mono (by decide)) (D_num.mono (by decide)) D_flof OS ON
  have Gofs := ok_OfX (P := l.prog) (w := w) (base := base) (k := 7) F_ofs T (D_isroot.mono (by decide)) (D_isslope.mono (by decide)) M7 OS
  have Rofs : FnR l.prog w K mg base (L2.CX l.prog w) 9 f25 (spOfX K C ES) := (Gofs.raw b_ofs .nil).imp fun vs H Q E z => by rw [List.append_nil]; exact z
  have Gfin := ok_FInit (P := l.prog) (w := w) (base := base) F_finit TF m_P hPer D_isroot
  have GP := ok_lplace (P := l.prog) (w := w) (base := base) (mg := mg) (k := 7) F_lpl
  have GLF := ok_lfield (P := l.prog) (w := w) (base := base) (mg := mg) (k := 8) F_lfi GP m_lpl F_lpl.kp b_lpl
  have kF := Fun.kbn F_fflo (ps := ["self", "slope", "number"]) 1 ["number", "slope"] (fun us ws => us ++ ws.reverse) (fun r1 r2 => r1.append (vals_rev r2)) (fun kV doc pm an cdv ct us ws h1 h2 => match us, ws, h1, h2 with | [_], [_, _], _, _ => rfl)
  exact ok_law l20 c20 tb ⟨D_bag.mono (by decide), D_of.mono (by decide), D_root.mono (by decide), D_far.mono (by decide), D_same.mono (by decide), D_lfl.mono (by decide), D_any.mono (by decide), D_odd.mono (by decide), D_isslope.mono (by decide), TF, T,
    ⟨_, _, ⟨mkF, a22, i22, kpF⟩, Gfin.mono (by decide), b_finit⟩, ⟨_, _, GFf, ⟨a23, i23, F_fflo.kp⟩, b_fflo, kF⟩, ⟨_, _, _, Rofs, ⟨rd, gaC⟩, ⟨sm, ⟨_, a25⟩, F_ofs.kp⟩⟩,
    ⟨⟨_, _, _, _, _, _, _, _, _, _, m_why, F_why.kp, l19, c19, b_why⟩, PySem.W.mg_of X G aR, PySem.W.mg_of X G aC2, PySem.W.mg_of X G aC3, ⟨_, _, GLF, m_lfi, F_lfi.kp, b_lfi⟩⟩, OS, ON,
    exm3 (exm_of xb1 xi1 xt1 s1ES) (exm_of xb2 xi2 xt2 s2ES) (exm_of xb3 xi3 xt3 s3ES), exm3 (exm_of xb1 xi1 xt1 s1EN) (exm_of xb2 xi2 xt2 s2EN) (exm_of xb3 xi3 xt3 s3EN), TBm, n_range⟩
end RF

open PySem PySem.W PyProof.Rows
set_option maxRecDepth 100000 in
set_option maxHeartbeats 0 in
theorem PySem.Challenge.cw_rootfloor_k08_floors_of_slopes_holds : PySem.Challenge.rw_rootfloor_k08_floors_of_slopes.Holds := by
  w_on; o_law; k_head; (case hw => w_witness2)
  k_fill
  refine LamX.walk_ofOwn (l := PySem.Challenge.rw_rootfloor_k08_floors_of_slopes) (n := 63) (k := 13) (x := "_law_script") (CX := fun _ => L2.CX0) rfl (by decide) rfl ⟨rfl, by decide, by decide⟩ (by decide +kernel) (fun w h Y => PySem.W.km_in_of Y) ?F (fun _ _ _ _ _ z => z)
  case F =>
    intro w mg fa h Y KX G hmg OT
    refine' RF.all_mk KX G hmg OT ?a1 ?l1 ?c1 ?k1 ?a2 ?l2 ?c2 ?k2 ?a3 ?l3 ?c3 ?k3 ?a4 ?l4 ?c4 ?k4 ?a5 ?l5 ?c5 ?k5 ?a6 ?l6 ?c6 ?k6 ?a7 ?l7 ?c7 ?k7 ?a8 ?l8 ?c8 ?k8 ?a9 ?l9 ?c9 ?k9 ?a10 ?l10 ?c10 ?k10 ?a11 ?l11 ?c11 ?k11 ?a12 ?l12 ?c12 ?k12 ?a13 ?l13 ?c13 ?k13 ?a14 ?l14 ?c14 ?k14 ?a15 ?l15 ?c15 ?k15 ?a16 ?l16 ?c16 ?k16 ?a17 ?l17 ?c17 ?k17 ?a18 ?l18 ?c18 ?k18 ?a19 ?l19 ?c19 ?k19 ?a20 ?l20 ?c20 ?k20 ?aC ?a21 ?i21 ?l21 ?c21 ?k21 ?aF ?a22 ?l22 ?c22 ?k22 ?i22 ?a23 ?l23 ?c23 ?k23 ?i23 ?a24 ?i24 ?l24 ?c24 ?k24 ?lT ?dT ?kD ?sm ?a25 ?l25 ?c25 ?k25 ?rd ?gaC ?pg ?hdC ?poC ?saC ?mkC ?kpC ?nRo ?nPa ?pgF ?hdF ?poF ?saF ?mkF ?kpF ?nRF ?nPF ?aP ?lP ?oP ?wP ?aI ?aG ?aR ?lR ?vR ?fR ?oq ?tp ?aC2 ?aC3 ?xb1 ?xi1 ?xt1 ?xb2 ?xi2 ?xt2 ?xb3 ?xi3 ?xt3 ?aES ?lES ?saES ?gaES ?ggES ?ntES ?ngES ?iES ?tES ?kES ?xES ?yES ?hES ?mES ?jES ?cES ?dES ?vvES ?pES ?uES ?s1ES ?s2ES ?s3ES ?aEN ?lEN ?saEN ?gaEN ?ggEN ?ntEN ?ngEN ?iEN ?tEN ?kEN ?xEN ?yEN ?hEN ?mEN ?jEN ?cEN ?dEN ?vvEN ?pEN ?uEN ?s1EN ?s2EN ?s3EN ?eqL ?lL ?eL1 ?eL2 ?eL3 ?eL4 ?eL5 ?eL6 ?eL7 ?eL8 ?gp2 ?tlp2 ?tcp2 ?tdp2 ?gp3 ?tlp3 ?tcp3 ?tdp3 ?gp5 ?tlp5 ?tcp5 ?tdp5 ?gp6 ?tlp6 ?tcp6 ?tdp6 ?gp13 ?tlp13 ?tcp13 ?tdp13 ?z_list ?z_len ?z_abs ?z_int ?z_range ?z_isinstance ?z_bool ?z_str ?z_tuple ?z_all ?z_zip ?z_sum ?z_super
    (case a1 => k_is)
    (case l1 => k_is)
    (case c1 => k_is)
    (case k1 => k_is)
    (case a2 => k_is)
    (case l2 => k_is)
    (case c2 => k_is)
    (case k2 => k_is)
    (case a3 => k_is)
    (case l3 => k_is)
    (case c3 => k_is)
    (case k3 => k_is)
    (case a4 => k_is)
    (case l4 => k_is)
    (case c4 => k_is)
    (case k4 => k_is)
    (case a5 => k_is)
    (case l5 => k_is)
    (case c5 => k_is)
    (case k5 => k_is)
    (case a6 => k_is)
    (case l6 => k_is)
    (case c6 => k_is)
    (case k6 => k_is)
    (case a7 => k_is)
    (case l7 => k_is)
    (case c7 => k_is)
    (case k7 => k_is)
    (case a8 => k_is)
    (case l8 => k_is)
    (case c8 => k_is)
    (case k8 => k_is)
    (case a9 => k_is)
    (case l9 => k_is)
    (case c9 => k_is)
    (case k9 => k_is)
    (case a10 => k_is)
    (case l10 => k_is)
    (case c10 => k_is)
    (case k10 => k_is)
    (case a11 => k_is)
    (case l11 => k_is)
    (case c11 => k_is)
    (case k11 => k_is)
    (case a12 => k_is)
    (case l12 => k_is)
    (case c12 => k_is)
    (case k12 => k_is)
    (case a13 => k_is)
    (case l13 => k_is)
    (case c13 => k_is)
    (case k13 => k_is)
    (case a14 => k_is)
    (case l14 => k_is)
    (case c14 => k_is)
    (case k14 => k_is)
    (case a15 => k_is)
    (case l15 => k_is)
    (case c15 => k_is)
    (case k15 => k_is)
    (case a16 => k_is)
    (case l16 => k_is)
    (case c16 => k_is)
    (case k16 => k_is)
    (case a17 => k_is)
    (case l17 => k_is)
    (case c17 => k_is)
    (case k17 => k_is)
    (case a18 => k_is)
    (case l18 => k_is)
    (case c18 => k_is)
    (case k18 => k_is)
    (case a19 => k_is)
    (case l19 => k_is)
    (case c19 => k_is)
    (case k19 => k_is)
    (case a20 => k_is)
    (case l20 => k_is)
    (case c20 => k_is)
    (case k20 => k_is)
    (case aC => k_is)
    (case a21 => k_is)
    (case i21 => k_is)
    (case l21 => k_is)
    (case c21 => k_is)
    (case k21 => k_is)
    (case aF => k_is)
    (case a22 => k_is)
    (case l22 => k_is)
    (case c22 => k_is)
    (case k22 => k_is)
    (case i22 => k_is)
    (case a23 => k_is)
    (case l23 => k_is)
    (case c23 => k_is)
    (case k23 => k_is)
    (case i23 => k_is)
    (case a24 => k_is)
    (case i24 => k_is)
    (case l24 => k_is)
    (case c24 => k_is)
    (case k24 => k_is)
    (case lT => k_is)
    (case dT => first | exact rfl | decide +kernel)
    (case kD => k_is)
    (case sm => k_is)
    (case a25 => k_is)
    (case l25 => k_is)
    (case c25 => k_is)
    (case k25 => k_is)
    (case rd => k_is)
    (case gaC => k_is)
    (case pg => k_is)
    (case hdC => k_is)
    (case poC => k_is)
    (case saC => k_is)
    (case mkC => k_is)
    (case kpC => k_is)
    (case nRo => k_is)
    (case nPa => k_is)
    (case pgF => k_is)
    (case hdF => k_is)
    (case poF => k_is)
    (case saF => k_is)
    (case mkF => k_is)
    (case kpF => k_is)
    (case nRF => k_is)
    (case nPF => k_is)
    (case aP => k_is)
    (case lP => k_is)
    (case oP => first | exact rfl | decide +kernel)
    (case wP => first | exact rfl | decide +kernel)
    (case aI => k_is)
    (case aG => k_is)
    (case aR => k_is)
    (case lR => k_is)
    (case vR => first | exact rfl | decide +kernel)
    (case fR => k_is)
    (case oq => k_is)
    (case tp => first | exact rfl | decide +kernel)
    (case aC2 => k_is)
    (case aC3 => k_is)
    (case xb1 => k_is)
    (case xi1 => k_is)
    (case xt1 => k_is)
    (case xb2 => k_is)
    (case xi2 => k_is)
    (case xt2 => k_is)
    (case xb3 => k_is)
    (case xi3 => k_is)
    (case xt3 => k_is)
    (case aES => k_is)
    (case lES => k_is)
    (case saES => k_is)
    (case gaES => k_is)
    (case ggES => k_is)
    (case ntES => k_is)
    (case ngES => k_is)
    (case iES => k_is)
    (case tES => k_is)
    (case kES => k_is)
    (case xES => k_is)
    (case yES => k_is)
    (case hES => k_is)
    (case mES => k_is)
    (case jES => k_is)
    (case cES => k_is)
    (case dES => k_is)
    (case vvES => first | exact rfl | decide +kernel)
    (case pES => first | exact rfl | decide +kernel)
    (case uES => k_is)
    (case s1ES => k_is)
    (case s2ES => k_is)
    (case s3ES => k_is)
    (case aEN => k_is)
    (case lEN => k_is)
    (case saEN => k_is)
    (case gaEN => k_is)
    (case ggEN => k_is)
    (case ntEN => k_is)
    (case ngEN => k_is)
    (case iEN => k_is)
    (case tEN => k_is)
    (case kEN => k_is)
    (case xEN => k_is)
    (case yEN => k_is)
    (case hEN => k_is)
    (case mEN => k_is)
    (case jEN => k_is)
    (case cEN => k_is)
    (case dEN => k_is)
    (case vvEN => first | exact rfl | decide +kernel)
    (case pEN => first | exact rfl | decide +kernel)
    (case uEN => k_is)
    (case s1EN => k_is)
    (case s2EN => k_is)
    (case s3EN => k_is)
    (case eqL => first | exact rfl | decide +kernel)
    (case lL => k_is)
    (case eL1 => first | exact rfl | decide +kernel)
    (case eL2 => first | exact rfl | decide +kernel)
    (case eL3 => first | exact rfl | decide +kernel)
    (case eL4 => first | exact rfl | decide +kernel)
    (case eL5 => first | exact rfl | decide +kernel)
    (case eL6 => first | exact rfl | decide +kernel)
    (case eL7 => first | exact rfl | decide +kernel)
    (case eL8 => first | exact rfl | decide +kernel)
    (case gp2 => first | exact rfl | decide +kernel)
    (case tlp2 => k_is)
    (case tcp2 => first | exact rfl | decide +kernel)
    (case tdp2 => first | exact rfl | decide +kernel)
    (case gp3 => first | exact rfl | decide +kernel)
    (case tlp3 => k_is)
    (case tcp3 => first | exact rfl | decide +kernel)
    (case tdp3 => first | exact rfl | decide +kernel)
    (case gp5 => first | exact rfl | decide +kernel)
    (case tlp5 => k_is)
    (case tcp5 => first | exact rfl | decide +kernel)
    (case tdp5 => first | exact rfl | decide +kernel)
    (case gp6 => first | exact rfl | decide +kernel)
    (case tlp6 => k_is)
    (case tcp6 => first | exact rfl | decide +kernel)
    (case tdp6 => first | exact rfl | decide +kernel)
    (case gp13 => first | exact rfl | decide +kernel)
    (case tlp13 => k_is)
    (case tcp13 => first | exact rfl | decide +kernel)
    (case tdp13 => first | exact rfl | decide +kernel)
    (case z_list => k_is)
    (case z_len => k_is)
    (case z_abs => k_is)
    (case z_int => k_is)
    (case z_range => k_is)
    (case z_isinstance => k_is)
    (case z_bool => k_is)
    (case z_str => k_is)
    (case z_tuple => k_is)
    (case z_all => k_is)
    (case z_zip => k_is)
    (case z_sum => k_is)
    (case z_super => k_is)

