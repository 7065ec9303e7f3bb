import PyProof.Rows.All
import Wide.All
import OpenK.AllK
import Wide.FinOn
import HandS.ForMost
import HandS.Gcd
import HandS.Wide
import HandS.Codes
import HandS.IsInst
import HandS.Zip
import HandS.Walk
import HandS.MakeKwOnly
import HandS.Property
import KE.KOpsOwn
import KE.KMathG
import HandS.OwnEq
import HandS.ClsMeth
import Flt.RightSqrt
import HandS.List
import HandS.WideBits
import HandS.Style
import PySem.Challenge.RW_rootfloor_k10_pairs_that_are_kept
set_option Elab.async false
set_option maxRecDepth 100000
set_option maxHeartbeats 8000000
namespace RF
open PySem L2

/-- all that is tracked stays, but what stands at b -/
def Kp (b : Addr) (H H' : Hp) : Prop := ∀ a o, a ≠ b → H a = some o → H' a = some o
theorem Kp.refl (b : Addr) (H : Hp) : Kp b H H := fun _ _ _ e => e
theorem Kp.trans {b : Addr} {H H1 H2 : Hp} (x : Kp b H H1) (y : Kp b H1 H2) : Kp b H H2 := fun a o n e => y a o n (x a o n e)
theorem Kp.upd {b : Addr} {H : Hp} {o : HO} : Kp b H (upd H b o) := fun a u n e => by rw [upd_ne n]; exact e
theorem Kp.of {b : Addr} {H H' : Hp} (s : Same H H') : Kp b H H' := fun a o _ e => s a o e

/-- the bag of a script: its cells, how many are taken, what is left of a great one, the state of the draws -/
structure BagC (H : Hp) (b c : Addr) (ns : List Int) (i : Nat) (z r : Int) : Prop where
  ne : b ≠ c
  at_ : H b = some (.lst [.ref c, .int i, .int z, .int r])
  cs : H c = some (.lst (ns.map V.int))
  le : i ≤ ns.length
  z0 : 0 ≤ z
  r0 : 0 ≤ r
  r1 : r < 2147483647
def Bag (H : Hp) (b : Addr) : Prop := ∃ (c : Addr) (ns : List Int) (i : Nat) (z r : Int), BagC H b c ns i z r
theorem BagC.put {H : Hp} {b c : Addr} {ns : List Int} {i i' : Nat} {z r z' r' : Int} {o : HO} (B : BagC H b c ns i z r) (ho : o = .lst [.ref c, .int i', .int z', .int r']) (hi : i' ≤ ns.length) (hz : 0 ≤ z') (h0 : 0 ≤ r') (h1 : r' < 2147483647) :
    BagC (upd H b o) b c ns i' z' r' := ⟨B.ne, by rw [upd_same, ho], by rw [upd_ne (Ne.symm B.ne)]; exact B.cs, hi, hz, h0, h1⟩
theorem Bag.some {H : Hp} {b : Addr} (B : Bag H b) : ∃ xs, H b = some (.lst xs) := let ⟨_, _, _, _, _, e⟩ := B; ⟨_, e.at_⟩
theorem Bag.same {H H' : Hp} {b : Addr} (B : Bag H b) (s : Same H H') : Bag H' b := by
  obtain ⟨c, ns, i, z, r, h⟩ := B
  exact ⟨c, ns, i, z, r, h.ne, s _ _ h.at_, s _ _ h.cs, h.le, h.z0, h.r0, h.r1⟩
theorem emod_lo (a : Int) {b : Int} (h : 0 < b) : 0 ≤ a % b := Int.emod_nonneg _ (by omega)
theorem emod_hi (a : Int) {b : Int} (h : 0 < b) : a % b < b := Int.emod_lt_of_pos _ h

/-- a draw: some number below the sides; the bag stays one, nothing else changes -/
def spPull : Sp := fun vs H Q _ => ∃ (b : Addr) (k : Int), vs = [.ref b, .int k] ∧ Bag H b ∧ 0 < k ∧ k < 1073741824 ∧
  ∀ (d : Int) (H' : Hp), 0 ≤ d → d < k → Bag H' b → Kp b H H' → Q (.int d) H'
def spBag (K : PySem.W.Frag) : Sp := fun vs H Q _ => ∃ (a : Addr) (ns : List Int), vs = [.ref a] ∧ SqL K H a (ns.map V.int) ∧ ns.length ≤ 63 ∧
  ∀ (b : Addr) (H' : Hp), H b = none → Bag H' b → Same H H' → Q (.ref b) H'
/-- a new object -/
theorem sNew {H H1 : Hp} {p : Addr} {o : HO} (s : Same H H1) (h : H1 p = none) : Same H (upd H1 p o) := fun a u e => by
  rw [upd_ne (ne_of_none (s a u e) h)]
  exact s a u e
theorem ne_new {H : Hp} {p q : Addr} {o : HO} (h : upd H p o q = none) : q ≠ p := fun z => by
  rw [z, upd_same] at h
  cases h
theorem of_new {H : Hp} {p q : Addr} {o : HO} (h : upd H p o q = none) : H q = none := by
  rw [upd_ne (ne_new h)] at h
  exact h

/-! ### data: what a value tells, with the lists and tuples in it -/
inductive D where
  | non | bl (b : Bool) | int (i : Int) | str (x : Str) | lst (ds : List D) | tup (ds : List D)
mutual
def Rp (K : PySem.W.Frag) (H : Hp) : V → D → Prop
  | v, .non => v = .non
  | v, .bl b => v = .bl b
  | v, .int i => v = .int i
  | v, .str x => v = .str x
  | v, .lst ds => ∃ a xs, v = .ref a ∧ SqL K H a xs ∧ xs.length ≤ 100000 ∧ Rps K H xs ds
  | v, .tup ds => ∃ a xs, v = .ref a ∧ SqT K H a xs ∧ xs.length ≤ 100000 ∧ Rps K H xs ds
def Rps (K : PySem.W.Frag) (H : Hp) : List V → List D → Prop
  | xs, [] => xs = []
  | xs, d :: ds => ∃ x r, xs = x :: r ∧ Rp K H x d ∧ Rps K H r ds
end
mutual
def dep : D → Nat
  | .lst ds => depL ds + 1
  | .tup ds => depL ds + 1
  | _ => 0
def depL : List D → Nat
  | [] => 0
  | d :: ds => max (dep d) (depL ds)
end
theorem sameT {K : PySem.W.Frag} {H H' : Hp} {a : Addr} {xs : List V} (e : Same H H') (h : SqT K H a xs) : SqT K H' a xs := by
  rcases h with (h | ⟨o, h⟩) | h
  · exact .inl (.inl (e _ _ h))
  · exact .inl (.inr ⟨o, e _ _ h⟩)
  · exact .inr h
mutual
theorem Rp.same {K : PySem.W.Frag} {H H' : Hp} (e : Same H H') : ∀ {v : V} (d : D), Rp K H v d → Rp K H' v d
  | _, .non, h => h
  | _, .bl _, h => h
  | _, .int _, h => h
  | _, .str _, h => h
  | _, .lst ds, h => by
    obtain ⟨a, xs, h1, h2, h3, h4⟩ := h
    exact ⟨a, xs, h1, e.seq h2, h3, Rps.same e ds h4⟩
  | _, .tup ds, h => by
    obtain ⟨a, xs, h1, h2, h3, h4⟩ := h
    exact ⟨a, xs, h1, sameT e h2, h3, Rps.same e ds h4⟩
theorem Rps.same {K : PySem.W.Frag} {H H' : Hp} (e : Same H H') : ∀ {xs : List V} (ds : List D), Rps K H xs ds → Rps K H' xs ds
  | _, [], h => h
  | _, d :: ds, h => by
    obtain ⟨x, r, h1, h2, h3⟩ := h
    exact ⟨x, r, h1, Rp.same e d h2, Rps.same e ds h3⟩
end
theorem Rps.len {K : PySem.W.Frag} {H : Hp} : ∀ {xs : List V} {ds : List D}, Rps K H xs ds → xs.length = ds.length
  | _, [], h => by rw [show _ = [] from h]; rfl
  | _, d :: ds, h => by
    obtain ⟨x, r, rfl, _, h3⟩ := h
    rw [List.length_cons, List.length_cons, Rps.len h3]
theorem Rps.at_ {K : PySem.W.Frag} {H : Hp} : ∀ {xs : List V} {ds : List D} {i : Nat} {x : V}, Rps K H xs ds → xs[i]? = some x → ∃ d, ds[i]? = some d ∧ Rp K H x d
  | _, [], i, x, h, e => by rw [show _ = [] from h] at e; simp at e
  | _, d :: ds, 0, x, h, e => by
    obtain ⟨y, r, rfl, h2, _⟩ := h
    cases e
    exact ⟨d, rfl, h2⟩
  | _, d :: ds, i + 1, x, h, e => by
    obtain ⟨y, r, rfl, _, h3⟩ := h
    obtain ⟨d', e1, e2⟩ := Rps.at_ (i := i) h3 e
    exact ⟨d', e1, e2⟩
theorem dep_mem : ∀ {ds : List D} {i : Nat} {d : D}, ds[i]? = some d → dep d ≤ depL ds
  | [], _, _, e => by simp at e
  | c :: ds, 0, d, e => by cases e; exact Nat.le_max_left ..
  | c :: ds, i + 1, d, e => Nat.le_trans (dep_mem (i := i) e) (Nat.le_max_right ..)

/-- the class of a datum's value -/
def tyD : D → String
  | .non => "NoneType" | .bl _ => "bool" | .int _ => "int" | .str _ => "str" | .lst _ => "list" | .tup _ => "tuple"
theorem tyL {K : PySem.W.Frag} {H : Hp} {a : Addr} {xs : List V} (h : SqL K H a xs) : TyX K H (.ref a) (.type "list") := by
  rcases h with (h | ⟨o, h⟩) | ⟨o, its, n, h, c, _⟩
  · exact .base (.lst h)
  · exact .base (.frz h)
  · exact .kList h c
theorem tyT {K : PySem.W.Frag} {H : Hp} {a : Addr} {xs : List V} (h : SqT K H a xs) : TyX K H (.ref a) (.type "tuple") := by
  rcases h with (h | ⟨o, h⟩) | ⟨o, its, n, h, c, _⟩
  · exact .base (.tup h)
  · exact .fTuple h
  · exact .kTuple h c
theorem tyX {K : PySem.W.Frag} {H : Hp} : ∀ {v : V} (d : D), Rp K H v d → TyX K H v (.type (tyD d))
  | _, .non, h => by rw [show _ = V.non from h]; exact .base .non
  | _, .bl _, h => by rw [show _ = V.bl _ from h]; exact .base (.bl _)
  | _, .int _, h => by rw [show _ = V.int _ from h]; exact .base (.int _)
  | _, .str _, h => by rw [show _ = V.str _ from h]; exact .base (.str _)
  | _, .lst ds, h => by obtain ⟨a, xs, rfl, h2, _⟩ := h; exact tyL h2
  | _, .tup ds, h => by obtain ⟨a, xs, rfl, h2, _⟩ := h; exact tyT h2

/-! ### a def that others call -/
structure Df (P : Program) (w : World) (K : PySem.W.Frag) (mg : Str → Option Value) (base : Heap) (k : Nat) (x : Str) (ps : List Str) (sp : Sp) : Prop where
  ex : ∃ (f : Addr) (fd : FuncData), FnOk P w K mg base CX0 k f fd ps sp ∧ Binds K fd ps [] ∧ mg x = some (.ref f) ∧ PySem.W.keepIn K (.ref f) = true
theorem fn_false {P : Program} {w : World} {K : PySem.W.Frag} {mg : Str → Option Value} {base : Heap} {CX : CXT} {k : Nat} {f : Addr} {fd : FuncData} {ps : List Str} : FnOk P w K mg base CX k f fd ps (fun _ _ _ _ => False) :=
  ⟨fun _ _ _ _ h => h.elim, fun _ _ _ _ _ _ _ _ _ _ _ _ _ h => h.elim⟩
theorem pe_callD {X : Cx} {j k : Nat} {x : Str} {ps : List Str} {sp : Sp} {p pos : Pos} {e : Expr} {es : List Expr} {t : TA} (F : Df X.prog X.w X.K X.mg X.base k x ps sp) (hr : Room j X.A) (hk : k ≤ j) (ha : PA X (e :: es) t)
    (hg : Gl X x := by rfl) (hdb : (x == ("__debug__" : Str)) = false := by decide)
    (he : starEach (e :: es) X.env = (false, eval e X.env) :: starEach es X.env := by rfl) (hpl : (backTo pos (starEach es X.env)).any (·.1) = false := by rfl) :
    PE X (.Call (.Name x p) (e :: es) [] pos) (tCall sp [] E0 t) := by
  obtain ⟨f, fd, G, b, m, kp⟩ := F.ex
  exact pe_call G (hr.mono hk) hg m kp b .nil pass0 ha hdb he hpl
/-- zip of two tuples -/
theorem walk_zipT {K : PySem.W.Frag} {a b : Addr} {xs ys : List V} {n : Nat} (hn : n = min xs.length ys.length) : Walk (RZ.ItzT K a b) n (fun H => SqT K H a xs ∧ SqT K H b ys) (YPair (fun i => xs[i]?) (fun i => ys[i]?)) := by
  subst hn
  refine ⟨fun i _ hi q => ?_, fun _ q => ⟨xs, ys, q.1, q.2, by omega⟩, fun i H v H' _ q y => ?_⟩
  · have h1 : i < xs.length := by omega
    have h2 : i < ys.length := by omega
    exact ⟨xs, ys, xs[i], ys[i], q.1, q.2, by simp [h1], by simp [h2]⟩
  · obtain ⟨T, x, z, h1, h2, h3, h4, h5⟩ := y
    exact ⟨T, x, z, h1, h2, h3, h4 xs q.1, h5 ys q.2⟩

/-- one datum, told twice: the law's own comparison gives True -/
def spSame (K : PySem.W.Frag) (n : Nat) : Sp := fun vs H Q _ => ∃ (v u : V) (d : D), vs = [v, u] ∧ Rp K H v d ∧ Rp K H u d ∧ dep d ≤ n ∧ ∀ H', Same H H' → Q (.bl true) H'
def spSameL (K : PySem.W.Frag) : Nat → Sp
  | 0 => fun _ _ _ _ => False
  | n + 1 => spSame K n
def spOf (K : PySem.W.Frag) : Sp := fun vs H Q _ => ∃ (b a : Addr) (xs : List V), vs = [.ref b, .ref a] ∧ Bag H b ∧ SqL K H a xs ∧ a ≠ b ∧ 0 < xs.length ∧ xs.length < 1000000 ∧
  ∀ (v : V) (H' : Hp), v ∈ xs → Bag H' b → Kp b H H' → Q v H'
def spRoot : Sp := fun vs H Q _ => ∃ (b : Addr), vs = [.ref b] ∧ Bag H b ∧ ∀ (d : Int) (H' : Hp), d = 2 ∨ d = 3 ∨ d = 5 ∨ d = 6 ∨ d = 13 → Bag H' b → Kp b H H' → Q (.int d) H'
def spFar : Sp := fun vs H Q _ => ∃ (b : Addr) (k : Int), vs = [.ref b, .int k] ∧ Bag H b ∧ 0 < k ∧ k ≤ 1000 ∧ ∀ (n : Int) (H' : Hp), 0 ≤ n → n < 10 ^ k.toNat → Bag H' b → Kp b H H' → Q (.int n) H'
theorem Kp.seq {K : PySem.W.Frag} {b a : Addr} {H H' : Hp} {xs : List V} (k : Kp b H H') (n : a ≠ b) (h : SqL K H a xs) : SqL K H' a xs := by
  rcases h with (h | ⟨o, h⟩) | h
  · exact .inl (.inl (k _ _ n h))
  · exact .inl (.inr ⟨o, k _ _ n h⟩)
  · exact .inr h

theorem iteP {c A B : Prop} [Decidable c] (hc : c) (h : A) : if c then A else B := by
  rw [if_pos hc]
  exact h
theorem iteN {c A B : Prop} [Decidable c] (hc : ¬ c) (h : B) : if c then A else B := by
  rw [if_neg hc]
  exact h
theorem nd_of {p : Prop} [Decidable p] (h : ¬ p) : ¬ decide p = true := fun z => h (of_decide_eq_true z)
theorem eqT {x : V} {Q : VK} {H : Hp} (h : Q (.bl true) H) : Q (.bl (decide (x = x))) H := by
  rw [decide_eq_true rfl]
  exact h
def isBool : D → Bool
  | .bl _ => true
  | _ => false
theorem kb_NoneType_bool : kitB "NoneType" "bool" = some false := by decide +kernel
theorem kb_bool_bool : kitB "bool" "bool" = some true := by decide +kernel
theorem kb_int_bool : kitB "int" "bool" = some false := by decide +kernel
theorem kb_str_bool : kitB "str" "bool" = some false := by decide +kernel
theorem kb_list_bool : kitB "list" "bool" = some false := by decide +kernel
theorem kb_tuple_bool : kitB "tuple" "bool" = some false := by decide +kernel
theorem kit_bool : ∀ d : D, kitB (tyD d) "bool" = some (isBool d)
  | .non => kb_NoneType_bool
  | .bl _ => kb_bool_bool
  | .int _ => kb_int_bool
  | .str _ => kb_str_bool
  | .lst _ => kb_list_bool
  | .tup _ => kb_tuple_bool
def isInt : D → Bool
  | .bl _ => true
  | .int _ => true
  | _ => false
theorem kb_NoneType_int : kitB "NoneType" "int" = some false := by decide +kernel
theorem kb_bool_int : kitB "bool" "int" = some true := by decide +kernel
theorem kb_int_int : kitB "int" "int" = some true := by decide +kernel
theorem kb_str_int : kitB "str" "int" = some false := by decide +kernel
theorem kb_list_int : kitB "list" "int" = some false := by decide +kernel
theorem kb_tuple_int : kitB "tuple" "int" = some false := by decide +kernel
theorem kit_int : ∀ d : D, kitB (tyD d) "int" = some (isInt d)
  | .non => kb_NoneType_int
  | .bl _ => kb_bool_int
  | .int _ => kb_int_int
  | .str _ => kb_str_int
  | .lst _ => kb_list_int
  | .tup _ => kb_tuple_int
def isStr : D → Bool
  | .str _ => true
  | _ => false
theorem kb_NoneType_str : kitB "NoneType" "str" = some false := by decide +kernel
theorem kb_bool_str : kitB "bool" "str" = some false := by decide +kernel
theorem kb_int_str : kitB "int" "str" = some false := by decide +kernel
theorem kb_str_str : kitB "str" "str" = some true := by decide +kernel
theorem kb_list_str : kitB "list" "str" = some false := by decide +kernel
theorem kb_tuple_str : kitB "tuple" "str" = some false := by decide +kernel
theorem kit_str : ∀ d : D, kitB (tyD d) "str" = some (isStr d)
  | .non => kb_NoneType_str
  | .bl _ => kb_bool_str
  | .int _ => kb_int_str
  | .str _ => kb_str_str
  | .lst _ => kb_list_str
  | .tup _ => kb_tuple_str
def isLst : D → Bool
  | .lst _ => true
  | _ => false
theorem kb_NoneType_list : kitB "NoneType" "list" = some false := by decide +kernel
theorem kb_bool_list : kitB "bool" "list" = some false := by decide +kernel
theorem kb_int_list : kitB "int" "list" = some false := by decide +kernel
theorem kb_str_list : kitB "str" "list" = some false := by decide +kernel
theorem kb_list_list : kitB "list" "list" = some true := by decide +kernel
theorem kb_tuple_list : kitB "tuple" "list" = some false := by decide +kernel
theorem kit_list : ∀ d : D, kitB (tyD d) "list" = some (isLst d)
  | .non => kb_NoneType_list
  | .bl _ => kb_bool_list
  | .int _ => kb_int_list
  | .str _ => kb_str_list
  | .lst _ => kb_list_list
  | .tup _ => kb_tuple_list
def isTup : D → Bool
  | .tup _ => true
  | _ => false
theorem kb_NoneType_tuple : kitB "NoneType" "tuple" = some false := by decide +kernel
theorem kb_bool_tuple : kitB "bool" "tuple" = some false := by decide +kernel
theorem kb_int_tuple : kitB "int" "tuple" = some false := by decide +kernel
theorem kb_str_tuple : kitB "str" "tuple" = some false := by decide +kernel
theorem kb_list_tuple : kitB "list" "tuple" = some false := by decide +kernel
theorem kb_tuple_tuple : kitB "tuple" "tuple" = some true := by decide +kernel
theorem kit_tuple : ∀ d : D, kitB (tyD d) "tuple" = some (isTup d)
  | .non => kb_NoneType_tuple
  | .bl _ => kb_bool_tuple
  | .int _ => kb_int_tuple
  | .str _ => kb_str_tuple
  | .lst _ => kb_list_tuple
  | .tup _ => kb_tuple_tuple
theorem kit_lt {K : PySem.W.Frag} (d : D) : PySem.W.kitAny K (.type (tyD d)) [.type "list", .type "tuple"] = some (isLst d || isTup d) := by
  refine kitAny_cons (kit_ty (kit_list d)) (fun e => ?_) (fun e => by rw [e]; rfl)
  rw [e, Bool.false_or]
  exact kitAny_cons (kit_ty (kit_tuple d)) (fun e => by rw [e]; rfl) (fun e => e)
structure TSm (mg : Str → Option Value) : Prop where
  isinstance : mg "isinstance" = none
  bool : mg "bool" = none
  int : mg "int" = none
  str : mg "str" = none
  list : mg "list" = none
  tuple : mg "tuple" = none
  len : mg "len" = none
  all : mg "all" = none
  zip : mg "zip" = none
theorem yes_if {σ : St} {H : Hp} {A B : Hp → Prop} (h : A H) : tYes σ H (fun b H3 => if b = true then A H3 else B H3) := by
  show (if true = true then A H else B H)
  rw [if_pos rfl]
  exact h
end RF

namespace RF
open PySem L2
/-! ### built-in functions of math -/
theorem args_gcd3 (a b c : Value) : argsOk "math.gcd" ⟨[a, b, c], []⟩ := by
  unfold argsOk
  kernel_rfl
theorem run_gcd3 (a : Int) (t : Tok) (b : Int) (u : Tok) (c : Int) (v : Tok) :
    Gives (Builtin.«math.gcd» ⟨[.int a t, .int b u, .int c v], []⟩) (.int (((((Nat.gcd 0 a.natAbs).gcd b.natAbs).gcd c.natAbs : Nat) : Int))) :=
  .of_wp fun M A E s Q h => by
    obtain ⟨hp, g, d, tk, os⟩ := s
    wp_walk
    exact ⟨_, rfl, h⟩

section
variable {X : Cx}
theorem vals3 {x y z : V} {us : List Value} (r : Vals [x, y, z] us) : ∃ u v w, us = [u, v, w] ∧ RelV x u ∧ RelV y v ∧ RelV z w := by
  cases r with
  | cons a r => cases r with
    | cons b r => cases r with
      | cons c r => cases r; exact ⟨_, _, _, rfl, a, b, c⟩
def rGcd3 : List V → Hp → VK → Prop := fun vs H Q => ∃ a b c : Int, vs = [.int a, .int b, .int c] ∧ Q (.int ((Nat.gcd (Nat.gcd a.natAbs b.natAbs) c.natAbs : Nat) : Int)) H
theorem cr_gcd3 : CallR X (.builtin "math.gcd") rGcd3 := by
  intro pins s σ H vs us Q I r h
  obtain ⟨a, b, c, rfl, q⟩ := h
  obtain ⟨u1, u2, u3, rfl, ⟨t1, rfl⟩, ⟨t2, rfl⟩, ⟨t3, rfl⟩⟩ := vals3 r
  have g := run_gcd3 a t1 b t2 c t3
  rw [Nat.gcd_zero_left] at g
  exact call_function_meets PySem.W.MGF.kind_gcd PySem.W.MGF.plain_gcd PySem.W.MGF.entry_gcd (args_gcd3 _ _ _) g.meets (show EP X pins σ Q _ _ from ⟨.int _, H, I.tok _, ⟨_, rfl⟩, q⟩)
def rIsqrt : List V → Hp → VK → Prop := fun vs H Q => ∃ a : Int, vs = [.int a] ∧ 0 ≤ a ∧ a.toNat.log2 < 13000 ∧ Q (.int ((Float64.isqrt a.toNat : Nat) : Int)) H
theorem cr_isqrt : CallR X (.builtin "math.isqrt") rIsqrt := by
  intro pins s σ H vs us Q I r h
  obtain ⟨a, rfl, h0, h1, q⟩ := h
  obtain ⟨u, rfl, t, rfl⟩ := vals1 r
  exact call_function_meets PySem.W.MGF.kind_isqrt PySem.W.MGF.plain_isqrt PySem.W.MGF.entry_isqrt (PySem.W.MGF.args_isqrt _) (PySem.W.mg_run_isqrt a t (by omega) (by omega) (by omega)).meets
    (show EP X pins σ Q _ _ from ⟨.int _, H, I.tok _, ⟨_, rfl⟩, q⟩)

/-! ### operators of an own class -/
/-- C has the operator as the def at f -/
structure OwnOp (K : PySem.W.Frag) (C f : Addr) (m : Str) : Prop where
  first : PySem.W.selfFirst K C = true
  at_ : PySem.W.findIn K (.ref C) m = some (some (.ref f))
  fn : PySem.W.isFn K (.ref f) = true
def rOwn2 (C : Addr) (sp : Sp) (E : XK) : R2 := fun x y H Q => ∃ a b dx dy fs gs, x = .ref a ∧ y = .ref b ∧ H a = some (.ins C dx fs) ∧ H b = some (.ins C dy gs) ∧ sp [.ref a, .ref b] H Q E
theorem notImpl {v : V} {u : Value} {P : Value → Shared → Prop} {s : Shared} (r : RelV v u) (h : P u s) : PySem.W.CmpBack P u s := by
  cases v with
  | non => cases r; exact h
  | bl _ => cases r; exact h
  | int _ => obtain ⟨t, rfl⟩ := r; exact h
  | str _ => obtain ⟨t, rfl⟩ := r; exact h
  | byt _ => obtain ⟨t, rfl⟩ := r; exact h
  | flt _ => obtain ⟨t, rfl⟩ := r; exact h
  | ref _ => cases r; exact h
  | ty _ => cases r; exact h
theorem op_own {CX : CXT} {op : Operator} {n : Nat} {C f : Addr} {sp : Sp} {E : XK} (F : FnR X.prog X.w X.K X.mg X.base CX n f sp) (hr : Room n X.A) (O : OwnOp X.K C f (PySem.dunder op.info.2)) (hx : Passes CX X E) : OpR X (binaryOp op) (rOwn2 C sp E) := by
  intro pins s σ H x y v u Q I rx ry h
  obtain ⟨a, b, dx, dy, fs, gs, rfl, rfl, ha, hb, q⟩ := h
  cases rx
  cases ry
  obtain ⟨mA, J, _⟩ := ins_get I.hok ha
  obtain ⟨mB, J', _⟩ := ins_get I.hok hb
  obtain ⟨od, J, _⟩ := J.look
  obtain ⟨od', J', _⟩ := J'.look
  obtain ⟨m, hF⟩ := I.fr
  refine PySem.W.binop_K hF I.ok.mod.kin J J'.type O.first O.at_ O.fn (wpAny_mono (wpAny_call (run_fnR (us := [.ref a, .ref b]) (vs := [.ref a, .ref b]) F hr hx I (.cons rfl (.cons rfl .nil)) q)) (fun r s' z => ?_) fun _ _ z => z)
  obtain ⟨v, H', I', rv, q'⟩ := id z
  exact notImpl rv z
def rOwn1 (C : Addr) (sp : Sp) (E : XK) : V → Hp → VK → Prop := fun x H Q => ∃ a dx fs, x = .ref a ∧ H a = some (.ins C dx fs) ∧ sp [.ref a] H Q E
theorem un_own_neg {CX : CXT} {n : Nat} {C f : Addr} {sp : Sp} {E : XK} (F : FnR X.prog X.w X.K X.mg X.base CX n f sp) (hr : Room n X.A) (O : OwnOp X.K C f "__neg__") (hx : Passes CX X E) : UnR X (unaryOp .USub) (rOwn1 C sp E) := by
  intro pins s σ H x v Q I rx h
  obtain ⟨a, dx, fs, rfl, ha, q⟩ := h
  cases rx
  obtain ⟨mA, J, _⟩ := ins_get I.hok ha
  obtain ⟨od, J, _⟩ := J.look
  obtain ⟨m, hF⟩ := I.fr
  exact PySem.W.ksp_neg hF I.ok.mod.kin J O.at_ O.fn (wpAny_call (run_fnR (us := [.ref a]) (vs := [.ref a]) F hr hx I (.cons rfl .nil) q))
/-- bool(x) of an instance with its own truth -/
def rOwnB (C : Addr) (sp : Sp) (E : XK) : List V → Hp → VK → Prop := fun vs H Q => ∃ a dx fs, vs = [.ref a] ∧ H a = some (.ins C dx fs) ∧ sp [.ref a] H (fun v H' => ∃ b, v = .bl b ∧ Q (.bl b) H') E
theorem tru_of {M : Model} {A : Around} {x : Value} {s : Shared} {Q0 Q : Bool → Shared → Prop} {E : Value → Shared → Prop} (hs : wpAny M A (truthy x) Q0 E s) (h : ∀ b s', Q0 b s' → Q b s') : wpAny M A (truthy x) Q E s := wpAny_mono hs h fun _ _ z => z
theorem new_bool_own (prog : Program) (w : World) (a : Addr) : MeetsIn prog w (Builtin.«bool.__new__» ⟨[.type "bool", .ref a], []⟩)
    (fun A R s => wpAny (model prog w) A.in1 (truthy (.ref a)) (fun b s' => R (.ok (.ret (.bool b))) s') (fun e s' => R (.error e) s') s) :=
  .of_wp fun A R s hs => by
    have f1 := F.conv_sub_bool
    obtain ⟨hp, g, d, tk, os⟩ := s
    repeat (any_goals (first | assumption | (with_reducible refine tru_of hs (fun b s' hq => ?_)) | wp_step))
    all_goals exact ⟨_, rfl, hq⟩
theorem call_bool_own {CX : CXT} {n : Nat} {C f : Addr} {sp : Sp} {E : XK} (G : FnR X.prog X.w X.K X.mg X.base CX n f sp) (hr : Room (n + 2) X.A) (hat : PySem.W.findIn X.K (.ref C) "__bool__" = some (some (.ref f))) (hfn : PySem.W.isFn X.K (.ref f) = true)
    (hx : Passes CX X E) : CallR X (.type "bool") (rOwnB C sp E) := by
  intro pins s σ H xs us Q I r h
  obtain ⟨a, dx, fs, rfl, ha, q⟩ := h
  obtain ⟨u, rfl, r1⟩ := vals1 r
  cases r1
  obtain ⟨mA, J, _⟩ := ins_get I.hok ha
  obtain ⟨od, J, _⟩ := J.look
  obtain ⟨m, hF⟩ := I.fr
  refine PySem.callType_newIn PySem.F.called_bool PySem.F.newNe_bool (PySem.F.typeCall_bool_1 _) (PySem.F.newCall_bool_1 _) (fun obj => PySem.F.args_object_init_2 obj _) PySem.F.entry_bool_new (new_bool_own X.prog X.w a) ?_
  refine PySem.W.truthy_K hF I.ok.mod.kin J hat hfn ?_
  refine wpAny_call (codeAny_mono (G _ X.stack s H [.ref a] [.ref a] _ E hr.in1.in1 I.env0.in1.in1 (.cons rfl .nil) q) fun r s' hq => ?_)
  cases r with
  | error e => exact hx pins σ H s e s' I hq
  | ok fl =>
    cases fl with
    | ret u =>
      obtain ⟨v, H', I', rv, b, rfl, q'⟩ := I.after hq
      cases rv
      exact ⟨rfl, .bl b, H', I', rfl, q'⟩
    | next => exact False.elim hq
    | brk => exact False.elim hq
    | cont => exact False.elim hq
/-- C.m is a staticmethod: its record at p, its def at g -/
structure SMet (K : PySem.W.Frag) (C : Addr) (mc : Value) (m : Str) (p g : Addr) : Prop where
  at_ : PySem.W.findCls K (.ref C) mc m = some (.get (.builtin "staticmethod.__get__") (.ref p) .none (.ref C))
  rc : ∃ rest, PySem.W.recIn K p "staticmethod" = some (.ref g :: rest)
  kp : PySem.W.keepIn K (.ref g) = true
def tSMeth (C : Addr) (sp : Sp) (E : XK) (ta : TE) (t : TA) : TE := fun σ H Q => ta σ H fun x H1 => x = .ref C ∧ t σ H1 fun vs H2 => sp vs H2 Q E
theorem pe_smeth {CX : CXT} {k : Nat} {C p g : Addr} {mc : Value} {sp : Sp} {E : XK} {o e : Expr} {es : List Expr} {m : Str} {pos apos : Pos} {ta : TE} {t : TA} {pl : Sem Bool} (he : PE X o ta) (r : ClX.CRead X.K C mc) (c : SMet X.K C mc m p g)
    (F : FnR X.prog X.w X.K X.mg X.base CX k g sp) (hr : Room k X.A) (hx : Passes CX X E) (ha : PA X (e :: es) t)
    (hst : starEach (e :: es) X.env = (false, eval e X.env) :: starEach es X.env := by rfl) (hpl : (backTo pos (starEach es X.env)).any (·.1) = false := by rfl)
    (ht : eval (.Call (.Attribute o m apos) (e :: es) [] pos) X.env = (do
      let ov ← eval o X.env
      standAt apos.atName
      let (f, first) ← holding [ov] (getMethod ov m pl)
      callWith pos f first (backTo pos (starEach (e :: es) X.env)) (backToKw pos (keywordEach [] X.env))) := by rfl) :
    PE X (.Call (.Attribute o m apos) (e :: es) [] pos) (tSMeth C sp E ta t) := by
  refine ⟨fun pins s σ H Q I h => ?_⟩
  refine PySem.W.methodCall_KW (pl := pl) (thn (he.run pins s σ H _ I h) fun u s1 ⟨x, H1, I1, rx, ex, q⟩ => ?_) ht
  subst ex
  obtain rfl : u = Value.ref C := rx
  obtain ⟨rest, hp⟩ := c.rc
  refine PySem.W.method_cls I1.kIn r.ga (PySem.W.cls_bind I1.kIn r.rd c.at_ (wpAny_call (PySem.W.sm_get (s := { s1 with toks := s1.toks + 1 }) I1.kIn hp (PySem.W.handed_on rfl ?_))))
  have I2 := I1.tok (s1.toks + 1)
  refine PySem.W.callWith_K (h₀ := X.base) I.ok.mod.kin c.kp (thn (ha.run pos pins _ σ H1 _ I2 q) fun us s3 ⟨vs, H2, I3, rv, q2⟩ => ⟨I3.kIn, ?_⟩) hst hpl
  exact wpAny_call (run_fnR F hr hx I3 rv q2)
end
end RF

namespace RF
theorem sq_nonneg (a : Int) : 0 ≤ a * a := by
  rcases Int.le_total 0 a with h | h
  · exact Int.mul_nonneg h h
  · exact Int.mul_nonneg_of_nonpos_of_nonpos h h
theorem sq_le {a b : Int} (ha : 0 ≤ a) (h : a ≤ b) : a * a ≤ b * b := Int.mul_le_mul h h ha (by omega)
theorem sq_lt {a b : Int} (ha : 0 ≤ a) (h : a < b) : a * a < b * b := by
  have h1 : a * a ≤ a * b := Int.mul_le_mul_of_nonneg_left (by omega) ha
  have h2 : a * b < b * b := Int.mul_lt_mul_of_pos_right h (by omega)
  omega
theorem le_of_sq {a b : Int} (hb : 0 ≤ b) (h : a * a ≤ b * b) : a ≤ b := by
  rcases Int.lt_or_le b a with z | z
  · have := sq_lt hb z
    omega
  · exact z
theorem lt_of_sq {a b : Int} (hb : 0 ≤ b) (h : a * a < b * b) : a < b := by
  rcases Int.lt_or_le a b with z | z
  · exact z
  · have := sq_le hb z
    omega
/-! ### square roots of integers -/
def rt (n : Int) : Int := ((PySem.Float64.isqrt n.toNat : Nat) : Int)
theorem rt_nn (n : Int) : 0 ≤ rt n := Int.natCast_nonneg _
theorem rt_le {n : Int} (h : 0 ≤ n) : rt n * rt n ≤ n := by
  have := (PySem.Float64.isqrt_spec n.toNat).1
  have e : ((PySem.Float64.isqrt n.toNat * PySem.Float64.isqrt n.toNat : Nat) : Int) ≤ ((n.toNat : Nat) : Int) := Int.ofNat_le.mpr this
  rw [Int.natCast_mul] at e
  unfold rt
  omega
theorem rt_lt {n : Int} (h : 0 ≤ n) : n < (rt n + 1) * (rt n + 1) := by
  have := (PySem.Float64.isqrt_spec n.toNat).2
  have e : ((n.toNat : Nat) : Int) < (((PySem.Float64.isqrt n.toNat + 1) * (PySem.Float64.isqrt n.toNat + 1) : Nat) : Int) := Int.ofNat_lt.mpr this
  rw [Int.natCast_mul, Int.natCast_add] at e
  unfold rt
  have e2 : ((n.toNat : Nat) : Int) = n := by omega
  rw [e2] at e
  exact e
theorem rt_uniq {n r : Int} (h : 0 ≤ n) (r0 : 0 ≤ r) (r1 : r * r ≤ n) (r2 : n < (r + 1) * (r + 1)) : r = rt n := by
  have a := rt_le h
  have b := rt_lt h
  have c := rt_nn n
  have h1 : r < rt n + 1 := lt_of_sq (by omega) (by omega)
  have h2 : rt n < r + 1 := lt_of_sq (by omega) (by omega)
  omega
/-! ### the roots -/
def Root (d : Int) : Prop := d = 2 ∨ d = 3 ∨ d = 5 ∨ d = 6 ∨ d = 13
theorem Root.pos {d : Int} (h : Root d) : 0 < d := by unfold Root at h; omega
theorem Root.le {d : Int} (h : Root d) : d ≤ 13 := by unfold Root at h; omega
theorem ex_mul (i : Int) {p : Int} (h : i % p = 0) : ∃ t, i = p * t := ⟨i / p, by
  have := Int.mul_ediv_add_emod i p
  rw [h] at this
  omega⟩
theorem dvd2 {i c : Int} (h : i * i = 2 * c) : ∃ t, i = 2 * t := ex_mul i (by
  have e : (i * i) % 2 = 0 := by omega
  rw [Int.mul_emod] at e
  have : i % 2 = 0 ∨ i % 2 = 1 := by omega
  rcases this with z | z
  · exact z
  · rw [z] at e; simp at e)
theorem dvd3 {i c : Int} (h : i * i = 3 * c) : ∃ t, i = 3 * t := ex_mul i (by
  have e : (i * i) % 3 = 0 := by omega
  rw [Int.mul_emod] at e
  have : i % 3 = 0 ∨ i % 3 = 1 ∨ i % 3 = 2 := by omega
  rcases this with z | z | z
  · exact z
  · rw [z] at e; simp at e
  · rw [z] at e; simp at e)
theorem dvd5 {i c : Int} (h : i * i = 5 * c) : ∃ t, i = 5 * t := ex_mul i (by
  have e : (i * i) % 5 = 0 := by omega
  rw [Int.mul_emod] at e
  have : i % 5 = 0 ∨ i % 5 = 1 ∨ i % 5 = 2 ∨ i % 5 = 3 ∨ i % 5 = 4 := by omega
  rcases this with z | z | z | z | z
  · exact z
  all_goals (rw [z] at e; simp at e))
theorem dvd13 {i c : Int} (h : i * i = 13 * c) : ∃ t, i = 13 * t := ex_mul i (by
  have e : (i * i) % 13 = 0 := by omega
  rw [Int.mul_emod] at e
  have : i % 13 = 0 ∨ i % 13 = 1 ∨ i % 13 = 2 ∨ i % 13 = 3 ∨ i % 13 = 4 ∨ i % 13 = 5 ∨ i % 13 = 6 ∨ i % 13 = 7 ∨ i % 13 = 8 ∨ i % 13 = 9 ∨ i % 13 = 10 ∨ i % 13 = 11 ∨ i % 13 = 12 := by omega
  rcases this with z | z | z | z | z | z | z | z | z | z | z | z | z
  · exact z
  all_goals (rw [z] at e; simp at e))
/-- one step down -/
theorem down {d i j : Int} (hd : Root d) (h : i * i = d * (j * j)) : ∃ p i' j' : Int, 2 ≤ p ∧ j = p * j' ∧ i' * i' = d * (j' * j') := by
  rcases hd with rfl | rfl | rfl | rfl | rfl
  · obtain ⟨t, rfl⟩ := dvd2 h
    obtain ⟨u, rfl⟩ := dvd2 (i := j) (c := t * t) (by grind)
    exact ⟨2, t, u, by omega, rfl, by grind⟩
  · obtain ⟨t, rfl⟩ := dvd3 h
    obtain ⟨u, rfl⟩ := dvd3 (i := j) (c := t * t) (by grind)
    exact ⟨3, t, u, by omega, rfl, by grind⟩
  · obtain ⟨t, rfl⟩ := dvd5 h
    obtain ⟨u, rfl⟩ := dvd5 (i := j) (c := t * t) (by grind)
    exact ⟨5, t, u, by omega, rfl, by grind⟩
  · obtain ⟨t, rfl⟩ := dvd3 (i := i) (c := 2 * (j * j)) (by grind)
    obtain ⟨u, rfl⟩ := dvd3 (i := j) (c := 2 * (t * t) - (j * j)) (by grind)
    exact ⟨3, t, u, by omega, rfl, by grind⟩
  · obtain ⟨t, rfl⟩ := dvd13 h
    obtain ⟨u, rfl⟩ := dvd13 (i := j) (c := t * t) (by grind)
    exact ⟨13, t, u, by omega, rfl, by grind⟩
theorem nonsq {d : Int} (hd : Root d) : ∀ (n : Nat) (i j : Int), j.natAbs ≤ n → i * i = d * (j * j) → j = 0
  | 0, i, j, hn, _ => by omega
  | n + 1, i, j, hn, h => by
    obtain ⟨p, i', j', hp, e, h'⟩ := down hd h
    rcases Int.lt_trichotomy j' 0 with z | z | z
    · have : j'.natAbs ≤ n := by
        have h1 : p * j' ≤ 2 * j' := by
          have := Int.mul_le_mul_of_nonpos_right hp (by omega : j' ≤ 0)
          omega
        omega
      have := nonsq hd n i' j' this h'
      omega
    · rw [e, z]; simp
    · have : j'.natAbs ≤ n := by
        have h1 : 2 * j' ≤ p * j' := Int.mul_le_mul_of_nonneg_right hp (by omega)
        omega
      have := nonsq hd n i' j' this h'
      omega
theorem irr {d i j : Int} (hd : Root d) (h : i * i = d * (j * j)) : j = 0 := nonsq hd j.natAbs i j (Nat.le_refl _) h
end RF

namespace RF
theorem ring1 (x s : Int) : (x + s) * (x + s) = (x - s) * (x - s) + 4 * (x * s) := by grind
theorem amgm (x q y n : Int) (hx : 0 < x) (hq : 0 ≤ q) (hn : n < x * (q + 1)) (hy : x + q ≤ 2 * y + 1) : n < (y + 1) * (y + 1) := by
  have h1 := ring1 x (q + 1)
  have h0 : 0 ≤ (x - (q + 1)) * (x - (q + 1)) := by
    rcases Int.le_total 0 (x - (q + 1)) with h | h
    · exact Int.mul_nonneg h h
    · exact Int.mul_nonneg_of_nonpos_of_nonpos h h
  have h2 : (x + (q + 1)) * (x + (q + 1)) ≤ (2 * (y + 1)) * (2 * (y + 1)) := Int.mul_le_mul (by omega) (by omega) (by omega) (by omega)
  have h3 : (2 * (y + 1)) * (2 * (y + 1)) = 4 * ((y + 1) * (y + 1)) := by grind
  omega
end RF

namespace RF
/-- the size of an integer, as abs gives it -/
def ab (i : Int) : Int := if i < 0 then -i else i
theorem ab_nn (i : Int) : 0 ≤ ab i := by unfold ab; split <;> omega
theorem ab_pos {i : Int} (h : 0 ≤ i) : ab i = i := by unfold ab; rw [if_neg (by omega)]
theorem ab_neg {i : Int} (h : i ≤ 0) : ab i = -i := by
  unfold ab
  split <;> omega
/-- i|i| + d j|j|: it has the sign of i + j r -/
def sgb (d i j : Int) : Int := i * ab i + d * j * ab j
def sg (d i j : Int) : Int := if 0 < sgb d i j then 1 else if sgb d i j < 0 then -1 else 0
/-- the floor of f times the root -/
def flr (d f : Int) : Int := if f < 0 then -rt (d * f * f) - 1 else rt (d * f * f)
theorem dff (d f : Int) : d * f * f = d * (f * f) := Int.mul_assoc d f f
theorem dff_nn {d f : Int} (hd : Root d) : 0 ≤ d * f * f := by
  rw [dff]
  exact Int.mul_nonneg (Int.le_of_lt hd.pos) (sq_nonneg f)
theorem keyL {d x y : Int} (hd : Root d) : 0 ≤ sgb d x y ↔ 0 ≤ x + flr d y := by
  have r0 := rt_nn (d * y * y)
  have r1 := rt_le (dff_nn hd (f := y))
  have r2 := rt_lt (dff_nn hd (f := y))
  have dn := dff_nn hd (f := y)
  generalize hr : rt (d * y * y) = r at *
  rcases Int.lt_or_le y 0 with hy | hy
  · have ef : flr d y = -r - 1 := by unfold flr; rw [if_pos hy, hr]
    have eb : sgb d x y = x * ab x - d * y * y := by unfold sgb; rw [ab_neg (Int.le_of_lt hy)]; grind
    rw [ef, eb]
    have ne : r * r ≠ d * y * y := fun e => by
      have := irr hd (i := r) (j := y) (by rw [e, dff])
      omega
    have lt : r * r < d * y * y := by omega
    have dp : 0 < d * y * y := by
      have := sq_nonneg r
      omega
    rcases Int.lt_or_le x 0 with hx | hx
    · rw [ab_neg (Int.le_of_lt hx)]
      have := sq_nonneg x
      have e : x * -x = -(x * x) := by grind
      omega
    · rw [ab_pos hx]
      constructor
      · intro h
        have : r < x := lt_of_sq hx (by omega)
        omega
      · intro h
        have : (r + 1) * (r + 1) ≤ x * x := sq_le (by omega) (by omega)
        omega
  · have ef : flr d y = r := by unfold flr; rw [if_neg (by omega), hr]
    have eb : sgb d x y = x * ab x + d * y * y := by unfold sgb; rw [ab_pos hy]
    rw [ef, eb]
    rcases Int.lt_or_le x 0 with hx | hx
    · rw [ab_neg (Int.le_of_lt hx)]
      have e : x * -x = -((-x) * (-x)) := by grind
      constructor
      · intro h
        have : -x < r + 1 := lt_of_sq (by omega) (by omega)
        omega
      · intro h
        have : (-x) * (-x) ≤ r * r := sq_le (by omega) (by omega)
        omega
    · rw [ab_pos hx]
      have := sq_nonneg x
      omega
theorem ab_mul {g i : Int} (hg : 0 ≤ g) : ab (g * i) = g * ab i := by
  rcases Int.lt_or_le i 0 with h | h
  · have : g * i ≤ 0 := Int.mul_nonpos_of_nonneg_of_nonpos hg (by omega)
    rw [ab_neg this, ab_neg (by omega)]
    grind
  · rw [ab_pos (Int.mul_nonneg hg h), ab_pos h]
theorem sgb_mul {d g i j : Int} (hg : 0 ≤ g) : sgb d (g * i) (g * j) = g * g * sgb d i j := by
  unfold sgb
  rw [ab_mul hg, ab_mul hg]
  grind
theorem sgb_neg {d i j : Int} : sgb d (-i) (-j) = -sgb d i j := by
  have h : ∀ i, ab (-i) = ab i := fun i => by unfold ab; split <;> split <;> omega
  unfold sgb
  rw [h, h]
  grind
theorem sg_mul {d g i j : Int} (hg : 0 < g) : sg d (g * i) (g * j) = sg d i j := by
  have hp : 0 < g * g := Int.mul_pos hg hg
  have e := sgb_mul (d := d) (i := i) (j := j) (Int.le_of_lt hg)
  unfold sg
  rw [e]
  rcases Int.lt_trichotomy (sgb d i j) 0 with h | h | h
  · have : g * g * sgb d i j < 0 := Int.mul_neg_of_pos_of_neg hp h
    rw [if_neg (by omega), if_pos this, if_neg (by omega), if_pos h]
  · rw [h]; simp
  · have : 0 < g * g * sgb d i j := Int.mul_pos hp h
    rw [if_pos this, if_pos h]
theorem sg_neg {d i j : Int} : sg d (-i) (-j) = -sg d i j := by
  have e := sgb_neg (d := d) (i := i) (j := j)
  unfold sg
  rw [e]
  rcases Int.lt_trichotomy (sgb d i j) 0 with h | h | h
  · rw [if_pos (by omega), if_neg (by omega), if_pos h]; rfl
  · rw [h]; rfl
  · rw [if_neg (by omega), if_pos (by omega), if_pos h]
/-- the law's own sign -/
theorem sg_pp {d i j : Int} (hd : Root d) (hi : 0 ≤ i) (hj : 0 ≤ j) : sg d i j = if 0 < i ∨ 0 < j then 1 else 0 := by
  have hp := hd.pos
  have e : sgb d i j = i * i + d * (j * j) := by unfold sgb; rw [ab_pos hi, ab_pos hj]; grind
  have a := sq_nonneg i
  have b := sq_nonneg j
  have b' : 0 ≤ d * (j * j) := Int.mul_nonneg (by omega) b
  unfold sg
  rw [e]
  by_cases h : 0 < i ∨ 0 < j
  · rw [if_pos h, if_pos]
    rcases h with h | h
    · have : 0 < i * i := Int.mul_pos h h
      omega
    · have : 0 < d * (j * j) := Int.mul_pos hp (Int.mul_pos h h)
      omega
  · have hi0 : i = 0 := by omega
    have hj0 : j = 0 := by omega
    rw [if_neg h, hi0, hj0]
    simp
theorem sg_nn {d i j : Int} (hd : Root d) (hi : i ≤ 0) (hj : j ≤ 0) (h : ¬ (0 ≤ i ∧ 0 ≤ j)) : sg d i j = -1 := by
  have e : sg d i j = -sg d (-i) (-j) := by rw [sg_neg]; omega
  rw [e, sg_pp hd (by omega) (by omega), if_pos (by omega)]
theorem sg_pn {d i j : Int} (hd : Root d) (hi : 0 < i) (hj : j < 0) : sg d i j = if j * j * d < i * i then 1 else -1 := by
  have e : sgb d i j = i * i - j * j * d := by unfold sgb; rw [ab_pos (by omega), ab_neg (by omega)]; grind
  have ne : i * i ≠ j * j * d := fun q => by
    have := irr hd (i := i) (j := j) (by rw [q]; grind)
    omega
  unfold sg
  rw [e]
  split <;> split <;> first | rfl | omega | skip
theorem sg_np {d i j : Int} (hd : Root d) (hi : i < 0) (hj : 0 < j) : sg d i j = if i * i < j * j * d then 1 else -1 := by
  have e : sgb d i j = j * j * d - i * i := by unfold sgb; rw [ab_pos (i := j) (by omega), ab_neg (i := i) (by omega)]; grind
  have ne : i * i ≠ j * j * d := fun q => by
    have := irr hd (i := i) (j := j) (by rw [q]; grind)
    omega
  unfold sg
  rw [e]
  split <;> split <;> first | rfl | omega | skip
theorem sg_nonneg {d i j : Int} (hd : Root d) : 0 ≤ sg d i j ↔ 0 ≤ i + flr d j := by
  rw [← keyL hd]
  unfold sg
  split
  · omega
  · split <;> omega
theorem flr_ring {d f : Int} : rt (f * f * d) = rt (d * f * f) := by rw [show f * f * d = d * f * f by grind]
end RF

namespace RF
/-! ### lowest terms -/
def gc (i j k : Int) : Int := ((Nat.gcd (Nat.gcd i.natAbs j.natAbs) k.natAbs : Nat) : Int)
def gs (i j k : Int) : Int := if k < 0 then -gc i j k else gc i j k
theorem gc_i (i j k : Int) : gc i j k ∣ i := Int.natAbs_dvd_natAbs.mp (by
  unfold gc
  rw [Int.natAbs_natCast]
  exact Nat.dvd_trans (Nat.gcd_dvd_left _ _) (Nat.gcd_dvd_left _ _))
theorem gc_j (i j k : Int) : gc i j k ∣ j := Int.natAbs_dvd_natAbs.mp (by
  unfold gc
  rw [Int.natAbs_natCast]
  exact Nat.dvd_trans (Nat.gcd_dvd_left _ _) (Nat.gcd_dvd_right _ _))
theorem gc_k (i j k : Int) : gc i j k ∣ k := Int.natAbs_dvd_natAbs.mp (by
  unfold gc
  rw [Int.natAbs_natCast]
  exact Nat.gcd_dvd_right _ _)
theorem gc_pos {i j k : Int} (h : k ≠ 0) : 0 < gc i j k := by
  have : 0 < Nat.gcd (Nat.gcd i.natAbs j.natAbs) k.natAbs := Nat.gcd_pos_of_pos_right _ (by omega)
  unfold gc
  omega
theorem gc_le {i j k : Int} (h : k ≠ 0) : gc i j k ≤ ab k := by
  have : Nat.gcd (Nat.gcd i.natAbs j.natAbs) k.natAbs ≤ k.natAbs := Nat.gcd_le_right _ (by omega)
  unfold gc ab
  split <;> omega
theorem gs_ne {i j k : Int} (h : k ≠ 0) : gs i j k ≠ 0 := by
  have := gc_pos (i := i) (j := j) h
  unfold gs
  split <;> omega
theorem gs_natAbs {i j k : Int} (h : k ≠ 0) : (gs i j k).natAbs ≤ k.natAbs := by
  have := gc_pos (i := i) (j := j) h
  have := gc_le (i := i) (j := j) h
  unfold gs
  unfold ab at this
  split <;> split at this <;> omega
def pI (i j k : Int) : Int := i.fdiv (gs i j k)
def pJ (i j k : Int) : Int := j.fdiv (gs i j k)
def pK (i j k : Int) : Int := k.fdiv (gs i j k)
theorem gs_dvd {i j k x : Int} (h : gc i j k ∣ x) : gs i j k ∣ x := by
  unfold gs
  split
  · exact Int.neg_dvd.mpr h
  · exact h
theorem fdiv_of {g x : Int} (hg : g ≠ 0) (h : g ∣ x) : x = g * x.fdiv g := by
  obtain ⟨t, rfl⟩ := h
  rw [Int.mul_fdiv_cancel_left t hg]
theorem pI_eq {i j k : Int} (h : k ≠ 0) : i = gs i j k * pI i j k := fdiv_of (gs_ne h) (gs_dvd (gc_i i j k))
theorem pJ_eq {i j k : Int} (h : k ≠ 0) : j = gs i j k * pJ i j k := fdiv_of (gs_ne h) (gs_dvd (gc_j i j k))
theorem pK_eq {i j k : Int} (h : k ≠ 0) : k = gs i j k * pK i j k := fdiv_of (gs_ne h) (gs_dvd (gc_k i j k))
theorem pK_pos {i j k : Int} (h : k ≠ 0) : 0 < pK i j k := by
  have e := pK_eq (i := i) (j := j) h
  have g0 := gc_pos (i := i) (j := j) h
  generalize pK i j k = t at *
  unfold gs at e
  split at e
  · rcases Int.lt_or_le 0 t with z | z
    · exact z
    · have : 0 ≤ -gc i j k * t := Int.mul_nonneg_of_nonpos_of_nonpos (by omega) z
      omega
  · rcases Int.lt_or_le 0 t with z | z
    · exact z
    · have : gc i j k * t ≤ 0 := Int.mul_nonpos_of_nonneg_of_nonpos (by omega) z
      omega
theorem nat_le_mul {g t : Int} (hg : g ≠ 0) : t.natAbs ≤ (g * t).natAbs := by
  rw [Int.natAbs_mul]
  exact Nat.le_mul_of_pos_left _ (by omega)
theorem pI_le {i j k : Int} (h : k ≠ 0) : (pI i j k).natAbs ≤ i.natAbs := by
  have e := pI_eq (i := i) (j := j) h
  have := nat_le_mul (g := gs i j k) (t := pI i j k) (gs_ne h)
  rw [← e] at this
  exact this
theorem pJ_le {i j k : Int} (h : k ≠ 0) : (pJ i j k).natAbs ≤ j.natAbs := by
  have e := pJ_eq (i := i) (j := j) h
  have := nat_le_mul (g := gs i j k) (t := pJ i j k) (gs_ne h)
  rw [← e] at this
  exact this
theorem pK_le {i j k : Int} (h : k ≠ 0) : (pK i j k).natAbs ≤ k.natAbs := by
  have e := pK_eq (i := i) (j := j) h
  have := nat_le_mul (g := gs i j k) (t := pK i j k) (gs_ne h)
  rw [← e] at this
  exact this
theorem gc_one {i j k : Int} (h : k ≠ 0) : gc (pI i j k) (pJ i j k) (pK i j k) = 1 := by
  have e1 : i.natAbs = (gs i j k).natAbs * (pI i j k).natAbs := by rw [← Int.natAbs_mul, ← pI_eq h]
  have e2 : j.natAbs = (gs i j k).natAbs * (pJ i j k).natAbs := by rw [← Int.natAbs_mul, ← pJ_eq h]
  have e3 : k.natAbs = (gs i j k).natAbs * (pK i j k).natAbs := by rw [← Int.natAbs_mul, ← pK_eq h]
  have eg : (gs i j k).natAbs = Nat.gcd (Nat.gcd i.natAbs j.natAbs) k.natAbs := by
    unfold gs gc
    split <;> omega
  have key : Nat.gcd (Nat.gcd i.natAbs j.natAbs) k.natAbs = (gs i j k).natAbs * Nat.gcd (Nat.gcd (pI i j k).natAbs (pJ i j k).natAbs) (pK i j k).natAbs := by
    conv => lhs; rw [e1, e2, e3]
    rw [Nat.gcd_mul_left, Nat.gcd_mul_left]
  rw [← eg] at key
  have gp : 0 < (gs i j k).natAbs := by have := gs_ne (i := i) (j := j) h; omega
  have : Nat.gcd (Nat.gcd (pI i j k).natAbs (pJ i j k).natAbs) (pK i j k).natAbs = 1 := by
    have q : (gs i j k).natAbs * 1 = (gs i j k).natAbs * Nat.gcd (Nat.gcd (pI i j k).natAbs (pJ i j k).natAbs) (pK i j k).natAbs := by omega
    exact (Nat.eq_of_mul_eq_mul_left gp q).symm
  unfold gc
  rw [this]
  rfl
theorem dvd_low {a b c a' b' c' : Int} (hg : gc a b c = 1) (h1 : a * c' = a' * c) (h2 : b * c' = b' * c) : c ∣ c' := by
  apply Int.natAbs_dvd_natAbs.mp
  have d1 : c.natAbs ∣ a.natAbs * c'.natAbs := by rw [← Int.natAbs_mul, h1, Int.natAbs_mul]; exact Nat.dvd_mul_left _ _
  have d2 : c.natAbs ∣ b.natAbs * c'.natAbs := by rw [← Int.natAbs_mul, h2, Int.natAbs_mul]; exact Nat.dvd_mul_left _ _
  have d3 : c.natAbs ∣ c.natAbs * c'.natAbs := Nat.dvd_mul_right _ _
  have d : c.natAbs ∣ Nat.gcd (Nat.gcd (a.natAbs * c'.natAbs) (b.natAbs * c'.natAbs)) (c.natAbs * c'.natAbs) := Nat.dvd_gcd (Nat.dvd_gcd d1 d2) d3
  rw [Nat.gcd_mul_right, Nat.gcd_mul_right] at d
  have : Nat.gcd (Nat.gcd a.natAbs b.natAbs) c.natAbs = 1 := by unfold gc at hg; omega
  rw [this, Nat.one_mul] at d
  exact d
theorem low_uniq {a b c a' b' c' : Int} (hc : 0 < c) (hc' : 0 < c') (hg : gc a b c = 1) (hg' : gc a' b' c' = 1) (h1 : a * c' = a' * c) (h2 : b * c' = b' * c) : a = a' ∧ b = b' ∧ c = c' := by
  have e : c = c' := Int.dvd_antisymm (by omega) (by omega) (dvd_low hg h1 h2) (dvd_low hg' h1.symm h2.symm)
  subst e
  exact ⟨Int.eq_of_mul_eq_mul_right (by omega) h1, Int.eq_of_mul_eq_mul_right (by omega) h2, rfl⟩
/-- equal numbers have equal parts -/
theorem parts_eq {i j k i' j' k' : Int} (h : k ≠ 0) (h' : k' ≠ 0) (h1 : i * k' = i' * k) (h2 : j * k' = j' * k) : pI i j k = pI i' j' k' ∧ pJ i j k = pJ i' j' k' ∧ pK i j k = pK i' j' k' := by
  have g := gs_ne (i := i) (j := j) h
  have g' := gs_ne (i := i') (j := j') h'
  have a1 := pI_eq (i := i) (j := j) h
  have a2 := pJ_eq (i := i) (j := j) h
  have a3 := pK_eq (i := i) (j := j) h
  have b1 := pI_eq (i := i') (j := j') h'
  have b2 := pJ_eq (i := i') (j := j') h'
  have b3 := pK_eq (i := i') (j := j') h'
  refine low_uniq (pK_pos h) (pK_pos h') (gc_one h) (gc_one h') ?_ ?_
  · have : gs i j k * gs i' j' k' ≠ 0 := Int.mul_ne_zero g g'
    apply Int.eq_of_mul_eq_mul_left this
    generalize gs i j k = s at *
    generalize gs i' j' k' = s' at *
    generalize pI i j k = x at *
    generalize pI i' j' k' = x' at *
    generalize pK i j k = z at *
    generalize pK i' j' k' = z' at *
    rw [a1, b1, a3, b3] at h1
    grind
  · have : gs i j k * gs i' j' k' ≠ 0 := Int.mul_ne_zero g g'
    apply Int.eq_of_mul_eq_mul_left this
    generalize gs i j k = s at *
    generalize gs i' j' k' = s' at *
    generalize pJ i j k = x at *
    generalize pJ i' j' k' = x' at *
    generalize pK i j k = z at *
    generalize pK i' j' k' = z' at *
    rw [a2, b2, a3, b3] at h2
    grind
/-- the sign of a number does not hang on how it is told -/
theorem sg_parts {d i j k : Int} (h : 0 < k) : sg d (pI i j k) (pJ i j k) = sg d i j := by
  have g := gs_ne (i := i) (j := j) (k := k) (by omega)
  have gp : 0 < gs i j k := by
    have := gc_pos (i := i) (j := j) (k := k) (by omega)
    unfold gs
    rw [if_neg (by omega)]
    exact this
  have e := sg_mul (d := d) (i := pI i j k) (j := pJ i j k) gp
  rw [← pI_eq (by omega), ← pJ_eq (by omega)] at e
  exact e.symm
end RF

namespace RF
open PySem L2 PyProof.Rows
/-! ### what a surd looks like -/
theorem kRP : ¬ (("_root" : Str) = "_parts") := by decide +kernel
def sfl (d : Int) (t : Addr) : List (Str × V) := putF "_parts" (.ref t) (putF "_root" (.int d) [])
theorem sfl_root (d : Int) (t : Addr) : (sfl d t).lookup ("_root" : Str) = some (.int d) := by
  unfold sfl
  rw [lookup_putF, if_neg kRP, lookup_putF, if_pos rfl]
theorem sfl_parts (d : Int) (t : Addr) : (sfl d t).lookup ("_parts" : Str) = some (.ref t) := by
  unfold sfl
  rw [lookup_putF, if_pos rfl]
theorem sfl_no (d : Int) (t : Addr) {m : Str} (h1 : ¬ m = "_parts") (h2 : ¬ m = "_root") : (sfl d t).lookup m = none := by
  unfold sfl
  rw [lookup_putF, if_neg h1, lookup_putF, if_neg h2]
  all_goals rfl
/-- at p: the surd of the root d with the parts i, j, k -/
def SurdAt (H : Hp) (C p : Addr) (d i j k : Int) : Prop := ∃ dx t, H p = some (.ins C dx (sfl d t)) ∧ H t = some (.tup [.int i, .int j, .int k])
theorem SurdAt.same {H H' : Hp} {C p : Addr} {d i j k : Int} (s : Same H H') (h : SurdAt H C p d i j k) : SurdAt H' C p d i j k := by
  obtain ⟨dx, t, h1, h2⟩ := h
  exact ⟨dx, t, s _ _ h1, s _ _ h2⟩
/-- below two to the n -/
def Bd (n : Nat) (i : Int) : Prop := i.natAbs < 2 ^ n
theorem Bd.mono {n m : Nat} {i : Int} (h : Bd n i) (hn : n ≤ m) : Bd m i := Nat.lt_of_lt_of_le h (Nat.pow_le_pow_right (by decide) hn)
theorem Bd.mul {n m : Nat} {i j : Int} (a : Bd n i) (b : Bd m j) : Bd (n + m) (i * j) := wide_lt a b
theorem Bd.add {n : Nat} {i j : Int} (a : Bd n i) (b : Bd n j) : Bd (n + 1) (i + j) := by
  unfold Bd at *
  rw [Nat.pow_succ]
  omega
theorem Bd.neg {n : Nat} {i : Int} (a : Bd n i) : Bd n (-i) := by
  unfold Bd at *
  omega
theorem Bd.le {n : Nat} {i j : Int} (a : Bd n i) (h : j.natAbs ≤ i.natAbs) : Bd n j := Nat.lt_of_le_of_lt h a
theorem Bd.ab {n : Nat} {i : Int} (a : Bd n i) : Bd n (if i < 0 then -i else i) := by
  unfold Bd at *
  split <;> omega
theorem Bd.log {n : Nat} {i : Int} (a : Bd n i) (h : 0 < n) : i.natAbs.log2 < n := PySem.Flt.log2_lt_of h a
theorem mulOk {n m : Nat} {i j : Int} (a : Bd n i) (b : Bd m j) (h0 : 0 < n) (h1 : 0 < m) (h : n + m ≤ 1000000) : CMulW i j := wide_mul a b h0 h1 h
theorem rootBd {d : Int} (h : Root d) : Bd 4 d := by
  unfold Bd
  unfold Root at h
  omega
/-- // by any great divisor but 0 -/
def CDivNW (_ j : Int) : Prop := j ≠ 0 ∧ j.natAbs.log2 < 9000
theorem op_fdivNW {X : Cx} : OpR X (binaryOp .FloorDiv) (rI CDivNW fun i j => .int (i.fdiv j)) := opI fun _ _ _ _ _ _ _ hc q => floordiv_int hc.1 q (.inl (PyProof.noPylong_of_log2 hc.2))

/-! ### a written dict with int keys -/
def okE : List DictEntry → List Int → Bool
  | [], [] => true
  | e :: es, k :: ks => (match e.key with | .int i _ => i == k | _ => false) && e.hash == hashInt k && okE es ks
  | _, _ => false
structure IntKeys (K : PySem.W.Frag) (d : Addr) (ks : List Int) : Prop where
  low : (d == sysModules) = false
  ex : ∃ es n, K.lookup d = some ⟨.type "dict", none, .dict es n, #[]⟩ ∧ okE es.toList ks = true
theorem okE_mem : ∀ {es : List DictEntry} {ks : List Int}, okE es ks = true → ∀ e ∈ es, ∃ k t, k ∈ ks ∧ e.key = .int k t ∧ e.hash = hashInt k
  | [], _, _, e, he => by cases he
  | c :: es, [], h, e, he => by simp [okE] at h
  | c :: es, k :: ks, h, e, he => by
    unfold okE at h
    simp only [Bool.and_eq_true, beq_iff_eq] at h
    obtain ⟨⟨h1, h2⟩, h3⟩ := h
    rcases List.mem_cons.mp he with rfl | he
    · split at h1
      · rename_i i t q
        exact ⟨k, t, List.mem_cons_self, by rw [q, beq_iff_eq.mp h1], h2⟩
      · cases h1
    · obtain ⟨k', t, a, b, c⟩ := okE_mem h3 e he
      exact ⟨k', t, List.mem_cons_of_mem _ a, b, c⟩
theorem okE_find : ∀ {es : List DictEntry} {ks : List Int} (i : Int), okE es ks = true → (es.find? fun e => Value.isInt i e.key).isSome = decide (i ∈ ks)
  | [], [], i, _ => by simp
  | [], k :: ks, i, h => by simp [okE] at h
  | c :: es, [], i, h => by simp [okE] at h
  | c :: es, k :: ks, i, h => by
    unfold okE at h
    simp only [Bool.and_eq_true, beq_iff_eq] at h
    obtain ⟨⟨h1, h2⟩, h3⟩ := h
    have ih := okE_find i h3
    split at h1
    · rename_i j t q
      have e : j = k := beq_iff_eq.mp h1
      rw [List.find?_cons]
      by_cases z : i = k
      · have : Value.isInt i c.key = true := by rw [q, e, z]; simp [Value.isInt]
        rw [this]
        simp [z]
      · have : Value.isInt i c.key = false := by
          rw [q, e]
          simp only [Value.isInt]
          exact beq_eq_false_iff_ne.mpr (fun w => z w.symm) |> fun h => by first | exact h | (rw [beq_eq_false_iff_ne]; exact z) | simpa using z
        rw [this]
        simp [ih, z]
    · cases h1
theorem op_in_intd {X : Cx} : OpR X (compareOp .In) (fun x y H Q => ∃ i d ks, x = .int i ∧ y = .ref d ∧ IntKeys X.K d ks ∧ Q (.bl (decide (i ∈ ks))) H) := by
  intro pins s σ H x y v u Q I rx ry h
  obtain ⟨i, d, ks, rfl, rfl, ⟨low, es, n, hl, he⟩, q⟩ := h
  obtain ⟨t, rfl⟩ := rx
  cases ry
  have hm : s.heap.MapOf (intKind X.prog X.w) d (fun k => findBy Value.isInt es k) := ⟨_, es, n, I.kIn _ _ hl, ⟨rfl, rfl, rfl⟩, rfl, fun e hh => by
    obtain ⟨k, t, _, e1, e2⟩ := okE_mem he e (Array.mem_toList_iff.mpr hh)
    exact ⟨k, by rw [e1]; show Value.isInt k (.int k t) = true; simp [Value.isInt], e2⟩, fun _ => rfl⟩
  refine wpAny_in_of (knd := intKind X.prog X.w) (k := i) (by show Value.isInt i (.int i t) = true; simp [Value.isInt]) low hm ?_
  have e : (findBy Value.isInt es i).isSome = decide (i ∈ ks) := by
    unfold findBy
    rw [Option.isSome_map, ← okE_find i he, ← List.find?_toArray]
  rw [e]
  exact ⟨.bl _, H, I.tok _, rfl, q⟩
end RF

namespace RF
open PySem L2
def top (i : Nat) : Stmt := PySem.Challenge.pw_rootfloor_k10_pairs_that_are_kept.main.body.getD i (.Pass ⟨0, 0, 0, 0⟩)
abbrev sBag : Stmt := top 33
abbrev sPull : Stmt := top 34
structure TB (mg : Str → Option Value) : Prop where
  list : mg "list" = none
  len : mg "len" = none
  abs : mg "abs" = none
  int : mg "int" = none
section
variable {P : Program} {w : World} {K : PySem.W.Frag} {mg : Str → Option Value} {base : Heap}
theorem scBag : FnScope ["_law_script"] ["_law_script"] (defScope sBag) := ⟨rfl, rfl, rfl, by decide +kernel, rfl, by decide +kernel, by decide +kernel⟩
theorem ok_bag {f : Addr} {fd : FuncData} (F : Fun K "_law_bag" "_law_bag" sBag f fd) (T : TB mg) : FnOk P w K mg base CX0 1 f fd ["_law_script"] (spBag K) := by
  refine F.ok scBag (fun vs H Q E h => ?_) (fun cdv A outer s H vs Q E hr h => ?_)
  · obtain ⟨a, ns, rfl, _⟩ := h
    rfl
  · obtain ⟨a, ns, rfl, hS, hl, k⟩ := h
    refine ⟨_, pss_one (ps_ret (pe_lst (pa_cons (pe_callTy call_list_of (by rfl) T.list (by decide +kernel) (pa_cons (pe_slice sl_list (pv 0) po_none (po_some pe_int)) pa_nil)) (pa_cons pe_int (pa_cons pe_int (pa_cons pe_int pa_nil)))))), ?_⟩
    refine ⟨_, rfl, _, rfl, a, _, rfl, hS, fun p hp => ⟨p, _, rfl, .inl (SqL.of upd_same), fun l hl2 => ⟨by show 4 ≤ sizeLine; decide, fun q hq => ?_⟩⟩⟩
    obtain ⟨ms, e⟩ : ∃ ms : List Int, cutV (ns.map V.int) none (some 63) = ms.map V.int := ⟨_, by unfold cutV; rw [← List.map_drop, ← List.map_take]⟩
    have sm := sNew (o := .lst [.ref l, .int 0, .int 0, .int 3842]) (sNew (o := .lst (cutV (ns.map V.int) none (some 63))) (sNew (o := .lst (cutV (ns.map V.int) none (some 63))) (Same.refl H) hp) hl2) hq
    refine k q _ (of_new (of_new hq)) ⟨l, ms, 0, 0, 3842, ne_new hq, upd_same, ?_, Nat.zero_le _, Int.le_refl _, by decide, by decide⟩ sm
    rw [upd_ne (Ne.symm (ne_new hq)), upd_same, e]
abbrev nPull : List Str := ["_law_bag_here", "_law_sides", "_law_cell", "_law_digit", "_law_twice"]
theorem scPull : FnScope nPull ["_law_bag_here", "_law_sides"] (defScope sPull) := ⟨rfl, rfl, rfl, by decide +kernel, rfl, by decide +kernel, by decide +kernel⟩
theorem ok_pull {f : Addr} {fd : FuncData} (F : Fun K "_law_pull" "_law_pull" sPull f fd) (T : TB mg) : FnOk P w K mg base CX0 1 f fd ["_law_bag_here", "_law_sides"] spPull := by
  refine F.ok scPull (fun vs H Q E h => ?_) (fun cdv A outer s H vs Q E hr h => ?_)
  · obtain ⟨b, k, rfl, _⟩ := h
    rfl
  · obtain ⟨b, m, rfl, ⟨c, ns, i, z, r, B⟩, m0, m1, k⟩ := h
    have nd := scPull.nd
    -- the second half, from any bag
    refine ⟨_, C8.pss_cut (ps_if (pw_and (pt_cmpR op_eq (pe_ix ix_list (pv 0) pe_int (fun _ _ => rfl)) pe_int (nomark _)) (pw_and1 (pt_cmpR op_lt (pe_ix ix_list (pv 0) pe_int (fun _ _ => rfl)) (pe_callB call_len_seq (by rfl) T.len PySem.boot_len (pa_cons (pe_ix ix_list (pv 0) pe_int (fun _ _ => rfl)) pa_nil)) (nomark _)))).pt
        (pss_cons (ps_set (i := 2) nd rfl (Or.inl rfl) (pe_ix ix_list (pe_ix ix_list (pv 0) pe_int (fun _ _ => rfl)) (pe_ix ix_list (pv 0) pe_int (fun _ _ => rfl)) (fun _ _ => rfl)))
        (pss_cons (ps_asg (pe_op op_add (pe_ix ix_list (pv 0) pe_int (fun _ _ => rfl)) pe_int) (pg_sub (pv 0) pe_int set_list))
        (pss_one (ps_if (pt_cmpR op_ge (pe_callB call_abs (by rfl) T.abs (by decide +kernel) (pa_cons (pv 2) pa_nil)) (pe_op op_pow pe_int pe_int) (nomark _))
          (pss_one (ps_asg (pe_callB call_abs (by rfl) T.abs (by decide +kernel) (pa_cons (pv 2) pa_nil)) (pg_sub (pv 0) pe_int set_list)))
          (pss_one (ps_asg (pe_op op_mod (pe_callTy call_int1 (by rfl) T.int (by decide +kernel) (pa_cons (pe_op op_add (pe_op op_add (pe_op op_mul (pe_ix ix_list (pv 0) pe_int (fun _ _ => rfl)) pe_int) (pe_op op_mul (pe_op op_mod (pe_callTy call_int1 (by rfl) T.int (by decide +kernel) (pa_cons (pv 2) pa_nil)) pe_int) pe_int)) pe_int) pa_nil)) pe_int) (pg_sub (pv 0) pe_int set_list)))))))
        pss_nil)
      (C8.pss_cut (ps_if (pt_cmpR op_gt (pe_ix ix_list (pv 0) pe_int (fun _ _ => rfl)) pe_int (nomark _))
        (pss_cons (ps_set (i := 3) nd rfl (Or.inl rfl) (pe_op op_mod (pe_callTy call_int1 (by rfl) T.int (by decide +kernel) (pa_cons (pe_ix ix_list (pv 0) pe_int (fun _ _ => rfl)) pa_nil)) (pv 1)))
        (pss_cons (ps_asg (pe_op op_fdiv (pe_ix ix_list (pv 0) pe_int (fun _ _ => rfl)) (pv 1)) (pg_sub (pv 0) pe_int set_list))
        (pss_one (ps_ret (pv 3)))))
        pss_nil)
      (pss_cons (ps_set (i := 4) nd rfl (Or.inl rfl) (pe_op op_mod (pe_callTy call_int1 (by rfl) T.int (by decide +kernel) (pa_cons (pe_op op_mul (pe_ix ix_list (pv 0) pe_int (fun _ _ => rfl)) (pe_ix ix_list (pv 0) pe_int (fun _ _ => rfl))) pa_nil)) pe_int))
      (pss_cons (ps_asg (pe_op op_mod (pe_callTy call_int1 (by rfl) T.int (by decide +kernel) (pa_cons (pe_op op_add (pe_op op_add (pe_op op_mul (pv 4) pe_int) (pe_op op_mul (pe_ix ix_list (pv 0) pe_int (fun _ _ => rfl)) pe_int)) pe_int) pa_nil)) pe_int) (pg_sub (pv 0) pe_int set_list))
      (pss_one (ps_ret (pe_op op_mod (pe_callTy call_int1 (by rfl) T.int (by decide +kernel) (pa_cons (pe_op op_fdiv (pe_ix ix_list (pv 0) pe_int (fun _ _ => rfl)) pe_int) pa_nil)) (pv 1))))))), ?_⟩
    have hc : ∀ {H' : Hp} {i : Nat} {z r : Int}, BagC H' b c ns i z r → H' c = some (.lst (ns.map V.int)) := fun B => B.cs
    -- what follows the first if, from any bag
    refine ⟨fun σ' H' => ∃ v i z r, σ' = [some (.ref b), some (.int m), v, none, none] ∧ BagC H' b c ns i z r ∧ Kp b H H', ?_, ?_⟩
    · refine ⟨_, rfl, b, _, _, _, rfl, rfl, SqL.of B.at_, rfl, rfl, _, rfl, ?_⟩
      refine ite2 (fun ez => ?_) (fun _ => ?_)
      · refine ⟨_, rfl, b, _, _, _, rfl, rfl, SqL.of B.at_, rfl, _, rfl, b, _, _, _, rfl, rfl, SqL.of B.at_, rfl, c, _, rfl, .inl (SqL.of B.cs), _, _, rfl, rfl, _, rfl, ?_⟩
        refine ite2 (fun hl => ?_) (fun _ => ⟨_, _, _, _, rfl, B, Kp.refl _ _⟩)
        have hl' : i < ns.length := by
          have := of_decide_eq_true hl
          rw [List.length_map] at this
          omega
        obtain ⟨n, hn⟩ : ∃ n, ns[i]? = some n := ⟨_, List.getElem?_eq_getElem hl'⟩
        have hat : atI (ns.map V.int) (i : Int) = some (V.int n) := atI_nat (by rw [List.getElem?_map, hn]; rfl)
        refine ⟨_, rfl, b, _, _, _, rfl, rfl, SqL.of B.at_, rfl, _, rfl, b, _, _, _, rfl, rfl, SqL.of B.at_, rfl, c, _, _, _, rfl, rfl, SqL.of B.cs, hat, ?_⟩
        refine ⟨_, rfl, b, _, _, _, rfl, rfl, SqL.of B.at_, rfl, _, _, rfl, rfl, _, rfl, b, _, _, _, rfl, rfl, B.at_, rfl, ?_⟩
        have B1 := B.put (i' := i + 1) (z' := z) (r' := r) (o := .lst [.ref c, .int ((i : Int) + 1), .int z, .int r]) (by rw [Int.natCast_add]; rfl) hl' B.z0 B.r0 B.r1
        have k1 : Kp b H (upd H b (.lst [.ref c, .int ((i : Int) + 1), .int z, .int r])) := Kp.upd
        refine ⟨_, rfl, _, rfl, _, _, rfl, rfl, ⟨by decide, by decide, by decide⟩, _, _, rfl, rfl, _, rfl, ?_⟩
        refine ite2 (fun _ => ?_) (fun _ => ?_)
        · refine ⟨_, rfl, _, rfl, _, rfl, b, _, _, _, rfl, rfl, upd_same, rfl, ?_⟩
          exact ⟨_, _, _, _, rfl, B1.put rfl B1.le (by split <;> omega) B1.r0 B1.r1, k1.trans Kp.upd⟩
        · refine ⟨_, rfl, b, _, _, _, rfl, rfl, SqL.of B1.at_, rfl, _, _, rfl, rfl, .inr (by decide), _, rfl, .inl ⟨_, rfl, _, _, rfl, rfl, (by show (0 : Int) < 1000003; decide), _, _, rfl, rfl, .inr (by decide), _, _, rfl, rfl, _, _, rfl, rfl, .inl ⟨_, rfl, _, _, rfl, rfl, (by show (0 : Int) < 2147483647; decide), _, rfl, b, _, _, _, rfl, rfl, upd_same, rfl, ?_⟩⟩⟩
          exact ⟨_, _, _, _, rfl, B1.put rfl B1.le B1.z0 (emod_lo _ (by decide)) (emod_hi _ (by decide)), k1.trans Kp.upd⟩
      · exact ⟨_, _, _, _, rfl, B, Kp.refl _ _⟩
    · rintro σ' H1 ⟨v, i, z, r, rfl, B, kp⟩
      -- if bag[2] > 0
      refine ⟨fun σ' H' => σ' = [some (.ref b), some (.int m), v, none, none] ∧ H' = H1, ?_, ?_⟩
      · refine ⟨_, rfl, b, _, _, _, rfl, rfl, SqL.of B.at_, rfl, _, _, rfl, rfl, _, rfl, ?_⟩
        refine ite2 (fun hz => ?_) (fun _ => ⟨rfl, rfl⟩)
        refine ⟨_, rfl, b, _, _, _, rfl, rfl, SqL.of B.at_, rfl, .inl ⟨_, rfl, _, rfl, _, _, rfl, rfl, m0, ?_⟩⟩
        refine ⟨_, rfl, b, _, _, _, rfl, rfl, SqL.of B.at_, rfl, _, rfl, _, _, rfl, rfl, ⟨m0, m1⟩, _, rfl, b, _, _, _, rfl, rfl, B.at_, rfl, ?_⟩
        refine ⟨_, rfl, ?_⟩
        exact k _ _ (emod_lo _ m0) (emod_hi _ m0) ⟨c, ns, _, _, _, B.put rfl B.le (Int.ediv_nonneg B.z0 (Int.le_of_lt m0)) B.r0 B.r1⟩ (kp.trans Kp.upd)
      · rintro σ' H2 ⟨rfl, rfl⟩
        refine ⟨_, rfl, b, _, _, _, rfl, rfl, SqL.of B.at_, rfl, _, rfl, b, _, _, _, rfl, rfl, SqL.of B.at_, rfl, _, _, rfl, rfl, .inl ⟨by have := B.r0; omega, by have := B.r1; omega⟩, .inl ⟨_, rfl, _, _, rfl, rfl, (by show (0 : Int) < 2147483629; decide), ?_⟩⟩
        refine ⟨_, rfl, _, _, rfl, rfl, .inr (by decide), _, rfl, b, _, _, _, rfl, rfl, SqL.of B.at_, rfl, _, _, rfl, rfl, .inr (by decide), _, _, rfl, rfl, _, _, rfl, rfl, .inl ⟨_, rfl, _, _, rfl, rfl, (by show (0 : Int) < 2147483647; decide), _, rfl, b, _, _, _, rfl, rfl, B.at_, rfl, ?_⟩⟩
        refine ⟨_, rfl, b, _, _, _, rfl, rfl, SqL.of upd_same, rfl, _, _, rfl, rfl, ⟨by decide, by decide⟩, .inl ⟨_, rfl, _, rfl, _, _, rfl, rfl, m0, ?_⟩⟩
        exact k _ _ (emod_lo _ m0) (emod_hi _ m0) ⟨c, ns, _, _, _, B.put rfl B.le B.z0 (emod_lo _ (by decide)) (emod_hi _ (by decide))⟩ (kp.trans Kp.upd)
end
end RF

namespace RF
open PySem L2 PyProof.Rows
def whole : D → Bool
  | .int _ => true
  | _ => false
def btw (d : D) (lo hi : Int) : Bool := match d with
  | .int i => decide (lo ≤ i) && decide (i ≤ hi)
  | _ => false
def rootD : D → Bool
  | .int i => decide (i ∈ [2, 3, 5, 6, 13])
  | _ => false
def spWhole (K : PySem.W.Frag) : Sp := fun vs H Q _ => ∃ (v : V) (d : D), vs = [v] ∧ Rp K H v d ∧ Q (.bl (whole d)) H
def spBtw (K : PySem.W.Frag) : Sp := fun vs H Q _ => ∃ (v : V) (d : D) (lo hi : Int), vs = [v, .int lo, .int hi] ∧ Rp K H v d ∧ Q (.bl (btw d lo hi)) H
def spIsRoot (K : PySem.W.Frag) : Sp := fun vs H Q _ => ∃ (v : V) (d : D), vs = [v] ∧ Rp K H v d ∧ Q (.bl (rootD d)) H
section
variable {P : Program} {w : World} {K : PySem.W.Frag} {mg : Str → Option Value} {base : Heap}
abbrev s_is_whole : Stmt := top 10
abbrev n_is_whole : List Str := ["value"]
theorem sc_is_whole : FnScope n_is_whole ["value"] (defScope s_is_whole) := ⟨rfl, rfl, rfl, by decide +kernel, rfl, by decide +kernel, by decide +kernel⟩
theorem ok_whole {f : Addr} {fd : FuncData} {k : Nat} (F : Fun K "is_whole" "is_whole" s_is_whole f fd) (T1 : mg "isinstance" = none) (T2 : mg "int" = none) (T3 : mg "bool" = none) : FnOk P w K mg base CX0 (k + 1) f fd ["value"] (spWhole K) := by
  refine F.ok sc_is_whole (fun vs H Q E h => ?_) (fun cdv A outer s H vs Q E hr h => ?_)
  · obtain ⟨v, d, rfl, _⟩ := h
    rfl
  · obtain ⟨v, d, rfl, hv, q⟩ := h
    refine ⟨_, (pss_one (ps_ret (pe_and (pe_callB call_isi (by rfl) T1 (by decide +kernel) (pa_cons (pv 0) (pa_cons (pe_bltn (v := .ty "int") (by rfl) T2 (by decide +kernel) rfl) pa_nil))) (pe_one (pe_not (pe_callB call_isi (by rfl) T1 (by decide +kernel) (pa_cons (pv 0) (pa_cons (pe_bltn (v := .ty "bool") (by rfl) T3 (by decide +kernel) rfl) pa_nil)))))))), ?_⟩
    refine ⟨_, rfl, _, _, _, _, _, rfl, .ty _, tyX _ hv, kit_ty (kit_int _), _, rfl, ?_⟩
    by_cases hi : isInt d = true
    · refine iteP hi ⟨_, rfl, _, _, _, _, _, rfl, .ty _, tyX _ hv, kit_ty (kit_bool _), _, rfl, ?_⟩
      have e : (!isBool d) = whole d := by cases d <;> first | rfl | cases hi
      rw [e]
      exact q
    · refine iteN hi ?_
      have e : whole d = false := by cases d <;> first | rfl | exact absurd rfl hi
      rw [e] at q
      exact q
abbrev s_is_between : Stmt := top 11
abbrev n_is_between : List Str := ["value", "low", "high"]
theorem sc_is_between : FnScope n_is_between ["value", "low", "high"] (defScope s_is_between) := ⟨rfl, rfl, rfl, by decide +kernel, rfl, by decide +kernel, by decide +kernel⟩
theorem ok_btw {f : Addr} {fd : FuncData} {k : Nat} (F : Fun K "is_between" "is_between" s_is_between f fd) (D1 : Df P w K mg base k "is_whole" ["value"] (spWhole K)) : FnOk P w K mg base CX0 (k + 1) f fd ["value", "low", "high"] (spBtw K) := by
  refine F.ok sc_is_between (fun vs H Q E h => ?_) (fun cdv A outer s H vs Q E hr h => ?_)
  · obtain ⟨v, d, lo, hi, rfl, _⟩ := h
    rfl
  · obtain ⟨v, d, lo, hi, rfl, hv, q⟩ := h
    refine ⟨_, (pss_one (ps_ret (pe_and (pe_callD D1 hr (Nat.le_refl _) (pa_cons (pv 0) pa_nil)) (pe_one (pe_chain op_le op_le (pv 1) (pv 0) (pv 2)))))), ?_⟩
    refine ⟨_, rfl, v, d, rfl, hv, _, rfl, ?_⟩
    by_cases hi' : whole d = true
    · refine iteP hi' ?_
      cases d with
      | int i =>
        obtain rfl : v = .int i := hv
        refine ⟨_, rfl, _, rfl, _, _, rfl, rfl, _, rfl, ?_⟩
        by_cases h1 : lo ≤ i
        · refine iteP (decide_eq_true h1) ⟨_, rfl, _, _, rfl, rfl, ?_⟩
          have e : btw (.int i) lo hi = decide (i ≤ hi) := by show (decide (lo ≤ i) && decide (i ≤ hi)) = _; rw [decide_eq_true h1]; rfl
          rw [e] at q
          exact q
        · refine iteN (nd_of h1) ?_
          have e : btw (.int i) lo hi = false := by show (decide (lo ≤ i) && decide (i ≤ hi)) = _; rw [decide_eq_false h1]; rfl
          rw [e] at q
          exact q
      | _ => cases hi'
    · refine iteN hi' ?_
      have e : btw d lo hi = false := by cases d <;> first | rfl | exact absurd rfl hi'
      rw [e] at q
      exact q
abbrev s_is_root : Stmt := top 13
abbrev n_is_root : List Str := ["value"]
theorem sc_is_root : FnScope n_is_root ["value"] (defScope s_is_root) := ⟨rfl, rfl, rfl, by decide +kernel, rfl, by decide +kernel, by decide +kernel⟩
theorem ok_isroot {f : Addr} {fd : FuncData} {k : Nat} {pd : Addr} (F : Fun K "is_root" "is_root" s_is_root f fd) (D1 : Df P w K mg base k "is_whole" ["value"] (spWhole K)) (mP : mg "PERIODS" = some (.ref pd)) (kP : IntKeys K pd [2, 3, 5, 6, 13]) :
    FnOk P w K mg base CX0 (k + 1) f fd ["value"] (spIsRoot K) := by
  refine F.ok sc_is_root (fun vs H Q E h => ?_) (fun cdv A outer s H vs Q E hr h => ?_)
  · obtain ⟨v, d, rfl, _⟩ := h
    rfl
  · obtain ⟨v, d, rfl, hv, q⟩ := h
    refine ⟨_, (pss_one (ps_ret (pe_and (pe_callD D1 hr (Nat.le_refl _) (pa_cons (pv 0) pa_nil)) (pe_one (pe_cmpR op_in_intd (pv 0) (pe_glob (v := .ref pd) (by rfl) mP rfl) rfl))))), ?_⟩
    refine ⟨_, rfl, v, d, rfl, hv, _, rfl, ?_⟩
    by_cases hi' : whole d = true
    · refine iteP hi' ?_
      cases d with
      | int i =>
        obtain rfl : v = .int i := hv
        exact ⟨_, rfl, _, _, _, rfl, rfl, kP, q⟩
      | _ => cases hi'
    · refine iteN hi' ?_
      have e : rootD d = false := by cases d <;> first | rfl | exact absurd rfl hi'
      rw [e] at q
      exact q
end
end RF

namespace RF
open PySem L2 PyProof.Rows
/-- what is known of the class -/
structure TxS (K : PySem.W.Frag) (mg : Str → Option Value) (C : Addr) : Prop where
  cl : Cls K C
  nR : NoAttr K C "_root"
  nP : NoAttr K C "_parts"
  mg : mg "Surd" = some (.ref C)
def spSInit (C : Addr) : Sp := fun vs H Q _ => ∃ (p dx : Addr) (d i j k : Int), vs = [.ref p, .int d, .int i, .int j, .int k] ∧ H p = some (.ins C dx []) ∧ Root d ∧ k ≠ 0 ∧ Bd 1000 i ∧ Bd 1000 j ∧ Bd 1000 k ∧
  ∀ H', SurdAt H' C p d (pI i j k) (pJ i j k) (pK i j k) → (∀ b o, H b = some o → b ≠ p → H' b = some o) → Q .non H'
section
variable {P : Program} {w : World} {K : PySem.W.Frag} {mg : Str → Option Value} {base : Heap}
abbrev sS (i : Nat) : Stmt := inClass (top 19) i
abbrev n_SInit : List Str := ["self", "root", "i", "j", "k", "divisor"]
theorem sc_SInit : FnScope n_SInit ["self", "root", "i", "j", "k"] (defScope (sS 0)) := ⟨rfl, rfl, rfl, by decide +kernel, rfl, by decide +kernel, by decide +kernel⟩
theorem ok_SInit {f C : Addr} {fd : FuncData} {k : Nat} {dvs : List V} {kws : List (Str × V)} (F : FunD K "__init__" "Surd.__init__" (defArgs (sS 0)) (defBody (sS 0)) (defScope (sS 0)) dvs kws f fd) (T : TxS K mg C) (mG : mg "gcd" = some (.builtin "math.gcd"))
    (D1 : Df P w K mg base k "is_root" ["value"] (spIsRoot K)) : FnOk P w K mg base CX0 (k + 1) f fd ["self", "root", "i", "j", "k"] (spSInit C) := by
  refine F.ok sc_SInit (fun vs H Q E h => ?_) (fun cdv A outer s H vs Q E hr h => ?_)
  · obtain ⟨p, dx, d, i, j, k, rfl, _⟩ := h
    rfl
  · obtain ⟨p, dx, d, i, j, m, rfl, hp, hd, m0, bi, bj, bm, q⟩ := h
    have nd := sc_SInit.nd
    refine ⟨_, PSs.nox (pss_cons (ps_if (pt_not (pt_val (pe_callD D1 hr (Nat.le_refl _) (pa_cons (pv 1) pa_nil))))
      (pss_one ps_never)
      pss_nil)
      (pss_cons (ps_if (pt_cmpR op_eq (pv 4) pe_int (nomark _))
      (pss_one ps_never)
      pss_nil)
      (pss_cons (ps_set (i := 5) nd rfl (Or.inl rfl) (pe_callBfun cr_gcd3 (by rfl) mG (pa_cons (pv 2) (pa_cons (pv 3) (pa_cons (pv 4) pa_nil)))))
      (C8.pss_cut (ps_if (pt_cmpR op_lt (pv 4) pe_int (nomark _))
      (pss_one (ps_set (i := 5) nd rfl (Or.inl rfl) (pe_un un_neg (pv 5))))
      pss_nil)
      (pss_cons (ps_fld (pv 0) (pv 1) rfl)
      (pss_one (ps_fld (pv 0) (pe_tup (pa_cons (pe_op op_fdivNW (pv 2) (pv 5)) (pa_cons (pe_op op_fdivNW (pv 3) (pv 5)) (pa_cons (pe_op op_fdivNW (pv 4) (pv 5)) pa_nil)))) rfl))))))), ?_⟩
    have er : rootD (.int d) = true := decide_eq_true (by unfold Root at hd; simp; omega)
    refine ⟨_, rfl, _, .int d, rfl, rfl, _, rfl, ?_⟩
    rw [er]
    refine iteF ?_
    refine ⟨_, rfl, rfl, _, rfl, iteN (nd_of (fun z => m0 (by cases z; rfl))) ?_⟩
    refine ⟨_, rfl, _, rfl, _, rfl, _, _, _, rfl, ?_⟩
    refine ⟨fun σ' H' => σ' = [some (.ref p), some (.int d), some (.int i), some (.int j), some (.int m), some (.int (gs i j m))] ∧ H' = H, ?_, ?_⟩
    · refine ⟨_, rfl, _, _, rfl, rfl, _, rfl, ite2 (fun h => ?_) (fun h => ?_)⟩
      · refine ⟨_, rfl, _, rfl, ?_⟩
        have hm : m < 0 := of_decide_eq_true h
        refine ⟨?_, rfl⟩
        unfold gs
        rw [if_pos hm]
        rfl
      · have hm : ¬ m < 0 := fun z => h (decide_eq_true z)
        refine ⟨?_, rfl⟩
        unfold gs
        rw [if_neg hm]
        rfl
    · rintro σ' H1 ⟨rfl, rfl⟩
      have gn := gs_ne (i := i) (j := j) m0
      have gb : (gs i j m).natAbs.log2 < 9000 := Nat.lt_of_lt_of_le ((bm.le (gs_natAbs (i := i) (j := j) m0)).log (by decide)) (by decide)
      refine ⟨_, rfl, _, rfl, p, C, dx, [], rfl, hp, T.cl, T.nR, (by show 0 < 1000; decide), ?_⟩
      refine ⟨_, rfl, _, rfl, _, _, rfl, rfl, ⟨gn, gb⟩, _, rfl, _, rfl, _, _, rfl, rfl, ⟨gn, gb⟩, _, rfl, _, rfl, _, _, rfl, rfl, ⟨gn, gb⟩, (by show 3 ≤ sizeLine; decide), fun t ht => ?_⟩
      have npt : p ≠ t := (ne_new ht).symm
      refine ⟨_, rfl, p, C, dx, _, rfl, by rw [upd_ne npt, upd_same], T.cl, T.nP, (Nat.lt_of_le_of_lt (length_putF _ _ _) (by decide)), ?_⟩
      refine q _ ⟨dx, t, upd_same, ?_⟩ fun b o e nb => ?_
      · rw [upd_ne npt.symm, upd_same]; rfl
      · have e1 : upd H1 p (.ins C dx (putF "_root" (.int d) [])) b = some o := by rw [upd_ne nb]; exact e
        rw [upd_ne nb, upd_ne (ne_of_none e1 ht), upd_ne nb]
        exact e
end
end RF

namespace RF
open PySem L2 PyProof.Rows
/-- at p: the surd (i + j r) / k of the root d, in lowest terms -/
def SV (H : Hp) (C p : Addr) (d i j k : Int) : Prop := k ≠ 0 ∧ SurdAt H C p d (pI i j k) (pJ i j k) (pK i j k)
theorem SV.same {H H' : Hp} {C p : Addr} {d i j k : Int} (s : Same H H') (h : SV H C p d i j k) : SV H' C p d i j k := ⟨h.1, h.2.same s⟩
theorem SV.cong {H : Hp} {C p : Addr} {d i j k i' j' k' : Int} (h : SV H C p d i j k) (hk : k' ≠ 0) (h1 : i * k' = i' * k) (h2 : j * k' = j' * k) : SV H C p d i' j' k' := by
  obtain ⟨e1, e2, e3⟩ := parts_eq h.1 hk h1 h2
  exact ⟨hk, by rw [← e1, ← e2, ← e3]; exact h.2⟩
structure MkS (P : Program) (w : World) (K : PySem.W.Frag) (mg : Str → Option Value) (base : Heap) (C : Addr) (k : Nat) : Prop where
  ex : ∃ (f : Addr) (fd : FuncData), Mk K C f ∧ FnOk P w K mg base CX0 k f fd ["self", "root", "i", "j", "k"] (spSInit C) ∧ KBn K fd ["self", "root", "i", "j", "k"] 4 ["k"] (fun us ws => us ++ ws) (fun vs zs => vs ++ zs) ∧
    (∃ ds, Vals [.int 1] ds ∧ Binds K fd ["self", "root", "i", "j", "k"] ds) ∧ ∃ ds, Vals [.int 0, .int 1] ds ∧ Binds K fd ["self", "root", "i", "j", "k"] ds
def spSign (C : Addr) : Sp := fun vs H Q _ => ∃ (p : Addr) (d i j k : Int), vs = [.ref p] ∧ SV H C p d i j k ∧ 0 < k ∧ Root d ∧ Bd 900 i ∧ Bd 900 j ∧ Q (.int (sg d i j)) H
def flS (d i j k : Int) : Int := (pI i j k + flr d (pJ i j k)) / pK i j k
def spFlS (C : Addr) : Sp := fun vs H Q _ => ∃ (p : Addr) (d i j k : Int), vs = [.ref p] ∧ SV H C p d i j k ∧ Root d ∧ Bd 900 i ∧ Bd 900 j ∧ Bd 900 k ∧ Q (.int (flS d i j k)) H
def spNegS (C : Addr) : Sp := fun vs H Q _ => ∃ (p : Addr) (d i j k : Int), vs = [.ref p] ∧ SV H C p d i j k ∧ Root d ∧ Bd 900 i ∧ Bd 900 j ∧ Bd 900 k ∧
  ∀ (x : Addr) (H' : Hp), H x = none → SV H' C x d (-i) (-j) k → Same H H' → Q (.ref x) H'
def spAddS (C : Addr) : Sp := fun vs H Q _ => ∃ (p q : Addr) (d i j k i2 j2 k2 : Int), vs = [.ref p, .ref q] ∧ SV H C p d i j k ∧ SV H C q d i2 j2 k2 ∧ Root d ∧ Bd 400 i ∧ Bd 400 j ∧ Bd 400 k ∧ Bd 400 i2 ∧ Bd 400 j2 ∧ Bd 400 k2 ∧
  ∀ (x : Addr) (H' : Hp), H x = none → SV H' C x d (i * k2 + i2 * k) (j * k2 + j2 * k) (k * k2) → Same H H' → Q (.ref x) H'
def spSubS (C : Addr) : Sp := fun vs H Q _ => ∃ (p q : Addr) (d i j k i2 j2 k2 : Int), vs = [.ref p, .ref q] ∧ SV H C p d i j k ∧ SV H C q d i2 j2 k2 ∧ Root d ∧ Bd 400 i ∧ Bd 400 j ∧ Bd 400 k ∧ Bd 400 i2 ∧ Bd 400 j2 ∧ Bd 400 k2 ∧
  ∀ (x : Addr) (H' : Hp), H x = none → SV H' C x d (i * k2 - i2 * k) (j * k2 - j2 * k) (k * k2) → Same H H' → Q (.ref x) H'
def spCmpS (C : Addr) : Sp := fun vs H Q _ => ∃ (p q : Addr) (d i j k i2 j2 k2 : Int), vs = [.ref p, .ref q] ∧ SV H C p d i j k ∧ SV H C q d i2 j2 k2 ∧ 0 < k ∧ 0 < k2 ∧ Root d ∧ Bd 400 i ∧ Bd 400 j ∧ Bd 400 k ∧ Bd 400 i2 ∧ Bd 400 j2 ∧ Bd 400 k2 ∧
  ∀ (H' : Hp), Same H H' → Q (.int (sg d (i * k2 - i2 * k) (j * k2 - j2 * k))) H'
section
variable {P : Program} {w : World} {K : PySem.W.Frag} {mg : Str → Option Value} {base : Heap}
abbrev n_SSign : List Str := ["self", "i", "j", "_", "balance"]
theorem sc_SSign : FnScope n_SSign ["self"] (defScope (sS 4)) := ⟨rfl, rfl, rfl, by decide +kernel, rfl, by decide +kernel, by decide +kernel⟩
theorem ok_SSign {f C : Addr} {fd : FuncData} {k : Nat} (F : Fun K "sign" "Surd.sign" (sS 4) f fd) (T : TxS K mg C) (mA : mg "abs" = none) : FnOk P w K mg base CX0 (k + 1) f fd ["self"] (spSign C) := by
  refine F.ok sc_SSign (fun vs H Q E h => ?_) (fun cdv A outer s H vs Q E hr h => ?_)
  · obtain ⟨p, d, i, j, k, rfl, _⟩ := h
    rfl
  · obtain ⟨p, d, i, j, k, rfl, ⟨k0, dx, t, hp, ht⟩, kp, hd, bi, bj, q⟩ := h
    have nd := sc_SSign.nd
    refine ⟨_, (pss_cons (ps_asg (pe_fld (pv 0) rfl) (pg_tup rfl (pgs_cons (pg_name (i := 1) nd rfl (Or.inl rfl)) (pgs_cons (pg_name (i := 2) nd rfl (Or.inl rfl)) (pgs_cons (pg_name (i := 3) nd rfl (Or.inl rfl)) pgs_nil)))))
      (pss_cons (ps_set (i := 4) nd rfl (Or.inl rfl) (pe_op op_add (pe_op op_mulW (pv 1) (pe_callB call_abs (by rfl) mA (by decide +kernel) (pa_cons (pv 1) pa_nil))) (pe_op op_mulW (pe_op op_mulW (pe_fld (pv 0) rfl) (pv 2)) (pe_callB call_abs (by rfl) mA (by decide +kernel) (pa_cons (pv 2) pa_nil)))))
      (pss_cons (ps_if (pt_cmpR op_gt (pv 4) pe_int (nomark _))
      (pss_one (ps_ret pe_int))
      pss_nil)
      (pss_cons (ps_if (pt_cmpR op_lt (pv 4) pe_int (nomark _))
      (pss_one (ps_ret (pe_un un_neg pe_int)))
      pss_nil)
      (pss_one (ps_ret pe_int)))))), ?_⟩
    have ei : Bd 900 (pI i j k) := bi.le (pI_le k0)
    have ej : Bd 900 (pJ i j k) := bj.le (pJ_le k0)
    rw [← sg_parts (i := i) (j := j) kp] at q
    generalize pI i j k = x at *
    generalize pJ i j k = y at *
    refine ⟨_, rfl, p, C, dx, _, _, rfl, hp, T.cl, T.nP, sfl_parts _ _, t, _, rfl, SqT.of ht, rfl, _, _, rfl, _, _, rfl, _, _, rfl, rfl, ?_⟩
    refine ⟨_, rfl, _, rfl, _, rfl, _, _, rfl, rfl, mulOk ei ei.ab (by decide) (by decide) (by decide), ?_⟩
    refine ⟨_, rfl, p, C, dx, _, _, rfl, hp, T.cl, T.nR, sfl_root _ _, _, rfl, _, _, rfl, rfl, mulOk (rootBd hd) ej (by decide) (by decide) (by decide), _, rfl, _, rfl, _, _, rfl, rfl, mulOk ((rootBd hd).mul ej) ej.ab (by decide) (by decide) (by decide), _, _, rfl, rfl, ?_⟩
    refine ⟨_, rfl, _, _, rfl, rfl, _, rfl, ite2 (fun h => ?_) (fun h => ?_)⟩
    · have : 0 < sgb d x y := of_decide_eq_true h
      unfold sg at q
      rw [if_pos this] at q
      exact q
    · have n1 : ¬ 0 < sgb d x y := fun z => h (decide_eq_true z)
      refine ⟨_, rfl, _, _, rfl, rfl, _, rfl, ite2 (fun h => ?_) (fun h => ?_)⟩
      · have : sgb d x y < 0 := of_decide_eq_true h
        unfold sg at q
        rw [if_neg n1, if_pos this] at q
        exact ⟨_, rfl, q⟩
      · have n2 : ¬ sgb d x y < 0 := fun z => h (decide_eq_true z)
        unfold sg at q
        rw [if_neg n1, if_neg n2] at q
        exact q
abbrev n_SFlo : List Str := ["self", "i", "j", "k", "multiple"]
abbrev n_SNeg : List Str := ["self", "i", "j", "k"]
theorem sc_SNeg : FnScope n_SNeg ["self"] (defScope (sS 11)) := ⟨rfl, rfl, rfl, by decide +kernel, rfl, by decide +kernel, by decide +kernel⟩
theorem ok_SNeg {f C : Addr} {fd : FuncData} {k : Nat} (F : Fun K "__neg__" "Surd.__neg__" (sS 11) f fd) (T : TxS K mg C) (M : MkS P w K mg base C k) : FnOk P w K mg base CX0 (k + 2) f fd ["self"] (spNegS C) := by
  refine F.ok sc_SNeg (fun vs H Q E h => ?_) (fun cdv A outer s H vs Q E hr h => ?_)
  · obtain ⟨p, d, i, j, k, rfl, _⟩ := h
    rfl
  · obtain ⟨p, d, i, j, k, rfl, ⟨k0, dx, t, hp, ht⟩, hd, bi, bj, bk, q⟩ := h
    have nd := sc_SNeg.nd
    obtain ⟨fi, fdi, M1, G, kb, _, _⟩ := M.ex
    refine ⟨_, (pss_cons (ps_asg (pe_fld (pv 0) rfl) (pg_tup rfl (pgs_cons (pg_name (i := 1) nd rfl (Or.inl rfl)) (pgs_cons (pg_name (i := 2) nd rfl (Or.inl rfl)) (pgs_cons (pg_name (i := 3) nd rfl (Or.inl rfl)) pgs_nil)))))
      (pss_one (ps_ret (pe_makeK M1 G hr rfl T.mg kb pass0 (pa_cons (pe_fld (pv 0) rfl) (pa_cons (pe_un un_neg (pv 1)) (pa_cons (pe_un un_neg (pv 2)) pa_nil))) (pk_cons (pv 3) pk_nil))))), ?_⟩
    have ei : Bd 900 (pI i j k) := bi.le (pI_le k0)
    have ej : Bd 900 (pJ i j k) := bj.le (pJ_le k0)
    have ek : Bd 900 (pK i j k) := bk.le (pK_le k0)
    have kp := pK_pos (i := i) (j := j) k0
    refine ⟨_, rfl, p, C, dx, _, _, rfl, hp, T.cl, T.nP, sfl_parts _ _, t, _, rfl, SqT.of ht, rfl, _, _, rfl, _, _, rfl, _, _, rfl, rfl, ?_⟩
    refine ⟨_, rfl, p, C, dx, _, _, rfl, hp, T.cl, T.nR, sfl_root _ _, _, rfl, _, rfl, _, rfl, _, rfl, _, rfl, rfl, rfl, fun x dx2 nx ndx nex => ?_⟩
    refine ⟨x, dx2, d, _, _, _, rfl, upd_same, hd, by omega, (ei.mono (by decide)).neg, (ej.mono (by decide)).neg, ek.mono (by decide), fun H' S kp' => ⟨rfl, ?_⟩⟩
    have sm := Same.made nx ndx kp'
    refine q x H' nx (SV.cong ⟨by omega, S⟩ k0 ?_ ?_) sm
    · have a1 := pI_eq (i := i) (j := j) k0
      have a3 := pK_eq (i := i) (j := j) k0
      generalize gs i j k = g at *
      generalize pI i j k = X at *
      generalize pK i j k = Z at *
      rw [a1, a3]; grind
    · have a2 := pJ_eq (i := i) (j := j) k0
      have a3 := pK_eq (i := i) (j := j) k0
      generalize gs i j k = g at *
      generalize pJ i j k = Y at *
      generalize pK i j k = Z at *
      rw [a2, a3]; grind
end
end RF

namespace RF
open PySem L2
section
variable {P : Program} {w : World} {K : PySem.W.Frag} {mg : Str → Option Value} {base : Heap}
abbrev s_law_of : Stmt := top 35
abbrev n_law_of : List Str := ["_law_bag_here", "_law_some"]
theorem sc_law_of : FnScope n_law_of ["_law_bag_here", "_law_some"] (defScope s_law_of) := ⟨rfl, rfl, rfl, by decide +kernel, rfl, by decide +kernel, by decide +kernel⟩
theorem ok_of {f : Addr} {fd : FuncData} {k : Nat} (F : Fun K "_law_of" "_law_of" s_law_of f fd) (T : TB mg) (D1 : Df P w K mg base k "_law_pull" ["_law_bag_here", "_law_sides"] spPull) : FnOk P w K mg base CX0 (k + 1) f fd ["_law_bag_here", "_law_some"] (spOf K) := by
  refine F.ok sc_law_of (fun vs H Q E h => ?_) (fun cdv A outer s H vs Q E hr h => ?_)
  · obtain ⟨b, a, xs, rfl, _⟩ := h
    rfl
  · obtain ⟨b, a, xs, rfl, B, hS, nab, h0, h1, k⟩ := h
    refine ⟨_, (pss_one (ps_ret (pe_ix ix_list (pv 1) (pe_callD D1 hr (Nat.le_refl _) (pa_cons (pv 0) (pa_cons (pe_callB call_len_seq (by rfl) T.len PySem.boot_len (pa_cons (pv 1) pa_nil)) pa_nil))) (fun _ _ => rfl)))), ?_⟩
    refine ⟨_, rfl, _, rfl, _, rfl, a, _, rfl, .inl hS, b, _, rfl, B, by omega, by omega, fun d H' d0 d1 B' kp => ?_⟩
    obtain ⟨j, rfl⟩ : ∃ j : Nat, d = (j : Int) := ⟨d.toNat, by omega⟩
    have hj : j < xs.length := by omega
    exact ⟨a, xs, _, _, rfl, rfl, kp.seq nab hS, atI_nat (List.getElem?_eq_getElem hj), k _ _ (List.getElem_mem hj) B' kp⟩
abbrev s_law_root : Stmt := top 41
abbrev n_law_root : List Str := ["_law_bag_here"]
theorem sc_law_root : FnScope n_law_root ["_law_bag_here"] (defScope s_law_root) := ⟨rfl, rfl, rfl, by decide +kernel, rfl, by decide +kernel, by decide +kernel⟩
theorem ok_root {f : Addr} {fd : FuncData} {k : Nat} (F : Fun K "_law_root" "_law_root" s_law_root f fd) (D1 : Df P w K mg base k "_law_of" ["_law_bag_here", "_law_some"] (spOf K)) : FnOk P w K mg base CX0 (k + 1) f fd ["_law_bag_here"] spRoot := by
  refine F.ok sc_law_root (fun vs H Q E h => ?_) (fun cdv A outer s H vs Q E hr h => ?_)
  · obtain ⟨b, rfl, _⟩ := h
    rfl
  · obtain ⟨b, rfl, B, k⟩ := h
    refine ⟨_, (pss_one (ps_ret (pe_callD D1 hr (Nat.le_refl _) (pa_cons (pv 0) (pa_cons (pe_lst (pa_cons pe_int (pa_cons pe_int (pa_cons pe_int (pa_cons pe_int (pa_cons pe_int pa_nil)))))) pa_nil))))), ?_⟩
    refine ⟨_, rfl, by show 5 ≤ sizeLine; decide, fun p hp => ?_⟩
    obtain ⟨xs, hb⟩ := B.some
    refine ⟨b, p, _, rfl, B.same (sNew (Same.refl _) hp), SqL.of upd_same, (ne_of_none hb hp).symm, by decide, by decide, fun v H' hv B' kp => ?_⟩
    have kp' : Kp b H H' := (Kp.of (sNew (Same.refl _) hp)).trans kp
    rcases List.mem_cons.mp hv with rfl | hv
    · exact k _ _ (by decide) B' kp'
    rcases List.mem_cons.mp hv with rfl | hv
    · exact k _ _ (by decide) B' kp'
    rcases List.mem_cons.mp hv with rfl | hv
    · exact k _ _ (by decide) B' kp'
    rcases List.mem_cons.mp hv with rfl | hv
    · exact k _ _ (by decide) B' kp'
    rcases List.mem_cons.mp hv with rfl | hv
    · exact k _ _ (by decide) B' kp'
    cases hv
abbrev s_law_far : Stmt := top 37
abbrev n_law_far : List Str := ["_law_bag_here", "_law_figures", "_law_many", "_law_found", "_law_k"]
theorem sc_law_far : FnScope n_law_far ["_law_bag_here", "_law_figures"] (defScope s_law_far) := ⟨rfl, rfl, rfl, by decide +kernel, rfl, by decide +kernel, by decide +kernel⟩
theorem ok_far {f : Addr} {fd : FuncData} {k : Nat} (F : Fun K "_law_far" "_law_far" s_law_far f fd) (T : mg "range" = none) (D1 : Df P w K mg base k "_law_pull" ["_law_bag_here", "_law_sides"] spPull) : FnOk P w K mg base CX0 (k + 1) f fd ["_law_bag_here", "_law_figures"] spFar := by
  refine F.ok sc_law_far (fun vs H Q E h => ?_) (fun cdv A outer s H vs Q E hr h => ?_)
  · obtain ⟨b, m, rfl, _⟩ := h
    rfl
  · obtain ⟨b, m, rfl, B, m0, m1, k⟩ := h
    have nd := sc_law_far.nd
    refine ⟨_, (pss_cons (ps_set (i := 2) nd rfl (Or.inl rfl) (pe_op op_add pe_int (pe_callD D1 hr (Nat.le_refl _) (pa_cons (pv 0) (pa_cons (pv 1) pa_nil)))))
      (pss_cons (ps_set (i := 3) nd rfl (Or.inl rfl) pe_int)
      (pss_cons (ps_for PassesOwn.never rfl (pi_range1 rfl T (pa_cons (pv 2) pa_nil)) (pg_name (i := 4) nd rfl (Or.inl rfl))
      (pss_one (ps_set (i := 3) nd rfl (Or.inl rfl) (pe_op op_add (pe_op op_mul (pv 3) pe_int) (pe_callD D1 hr (Nat.le_refl _) (pa_cons (pv 0) (pa_cons pe_int pa_nil)))))))
      (pss_one (ps_ret (pv 3)))))), ?_⟩
    refine ⟨_, rfl, _, rfl, b, _, rfl, B, m0, by omega, fun d H1 d0 d1 B1 kp1 => ⟨_, _, rfl, rfl, ?_⟩⟩
    refine ⟨_, rfl, _, rfl, by omega, by omega, for_range (n := (1 + d).toNat) (fun i σ H' => ∃ (n : Int) (v : Option V), σ = [some (.ref b), some (.int m), some (.int (1 + d)), some (.int n), v] ∧ 0 ≤ n ∧ n < 10 ^ i ∧ Bag H' b ∧ Kp b H H')
      ⟨0, none, rfl, by decide, by decide, B1, kp1⟩ ?_ ?_⟩
    · rintro i σ H2 hi ⟨n, v, rfl, n0, n1, B2, kp2⟩
      refine ⟨_, rfl, _, _, rfl, rfl, .inr (by decide), _, rfl, b, _, rfl, B2, by decide, by decide, fun e H3 e0 e1 B3 kp3 => ⟨_, _, rfl, rfl, ?_⟩⟩
      refine ⟨_, _, rfl, by omega, ?_, B3, kp2.trans kp3⟩
      rw [Int.pow_succ]
      omega
    · rintro σ H2 ⟨n, v, rfl, n0, n1, B2, kp2⟩
      refine ⟨_, rfl, k _ _ n0 (Int.lt_of_lt_of_le n1 ?_) B2 kp2⟩
      exact_mod_cast Nat.pow_le_pow_right (by decide : 0 < 10) (by omega : (1 + d).toNat ≤ m.toNat)
end
end RF

namespace RF
open PySem L2
section
variable {P : Program} {w : World} {K : PySem.W.Frag} {mg : Str → Option Value} {base : Heap}
abbrev s_law_same : Stmt := top 36
abbrev n_law_same : List Str := ["_law_found", "_law_due", "_law_a", "_law_b"]
theorem sc_law_same : FnScope n_law_same ["_law_found", "_law_due"] (defScope s_law_same) := ⟨rfl, rfl, rfl, by decide +kernel, rfl, by decide +kernel, by decide +kernel⟩
theorem ok_same1 {f : Addr} {fd : FuncData} {k : Nat} {n : Nat} (F : Fun K "_law_same" "_law_same" s_law_same f fd) (T : TSm mg) (D1 : Df P w K mg base k "_law_same" ["_law_found", "_law_due"] (spSameL K n)) : FnOk P w K mg base CX0 (k + 1) f fd ["_law_found", "_law_due"] (spSame K n) := by
  refine F.ok sc_law_same (fun vs H Q E h => ?_) (fun cdv A outer s H vs Q E hr h => ?_)
  · obtain ⟨v, u, d, rfl, _⟩ := h
    rfl
  · obtain ⟨v, u, d, rfl, h1, h2, hd, k⟩ := h
    have nd := sc_law_same.nd
    refine ⟨_, (pss_cons (ps_if (pw_or (pt_cmpR op_isN (pv 1) pe_non (nomark _)) (pw_or1 (pt_cmpR op_isN (pv 0) pe_non (nomark _)))).pt
      (pss_one (ps_ret (pe_and (pe_cmpR op_isN (pv 1) pe_non (nomark _)) (pe_one (pe_cmpR op_isN (pv 0) pe_non (nomark _))))))
      pss_nil)
      (pss_cons (ps_if (pw_or (pt_val (pe_callB call_isi (by rfl) T.isinstance (by decide +kernel) (pa_cons (pv 1) (pa_cons (pe_bltn (v := .ty "bool") (by rfl) T.bool (by decide +kernel) rfl) pa_nil)))) (pw_or1 (pt_val (pe_callB call_isi (by rfl) T.isinstance (by decide +kernel) (pa_cons (pv 0) (pa_cons (pe_bltn (v := .ty "bool") (by rfl) T.bool (by decide +kernel) rfl) pa_nil)))))).pt
      (pss_one (ps_ret (pe_and (pe_callB call_isi (by rfl) T.isinstance (by decide +kernel) (pa_cons (pv 1) (pa_cons (pe_bltn (v := .ty "bool") (by rfl) T.bool (by decide +kernel) rfl) pa_nil))) (pe_and (pe_callB call_isi (by rfl) T.isinstance (by decide +kernel) (pa_cons (pv 0) (pa_cons (pe_bltn (v := .ty "bool") (by rfl) T.bool (by decide +kernel) rfl) pa_nil))) (pe_one (pe_cmpR op_eq (pv 0) (pv 1) (nomark _)))))))
      pss_nil)
      (pss_cons (ps_if (pw_or (pt_val (pe_callB call_isiT (by rfl) T.isinstance (by decide +kernel) (pa_cons (pv 1) (pa_cons (pe_tup (pa_cons (pe_bltn (v := .ty "list") (by rfl) T.list (by decide +kernel) rfl) (pa_cons (pe_bltn (v := .ty "tuple") (by rfl) T.tuple (by decide +kernel) rfl) pa_nil))) pa_nil)))) (pw_or1 (pt_val (pe_callB call_isiT (by rfl) T.isinstance (by decide +kernel) (pa_cons (pv 0) (pa_cons (pe_tup (pa_cons (pe_bltn (v := .ty "list") (by rfl) T.list (by decide +kernel) rfl) (pa_cons (pe_bltn (v := .ty "tuple") (by rfl) T.tuple (by decide +kernel) rfl) pa_nil))) pa_nil)))))).pt
      (pss_cons (ps_if (pw_or (pt_cmpR op_ne (pe_callB call_isi (by rfl) T.isinstance (by decide +kernel) (pa_cons (pv 1) (pa_cons (pe_bltn (v := .ty "list") (by rfl) T.list (by decide +kernel) rfl) pa_nil))) (pe_callB call_isi (by rfl) T.isinstance (by decide +kernel) (pa_cons (pv 0) (pa_cons (pe_bltn (v := .ty "list") (by rfl) T.list (by decide +kernel) rfl) pa_nil))) (nomark _)) (pw_or1 (pt_cmpR op_ne (pe_callB call_isi (by rfl) T.isinstance (by decide +kernel) (pa_cons (pv 1) (pa_cons (pe_bltn (v := .ty "tuple") (by rfl) T.tuple (by decide +kernel) rfl) pa_nil))) (pe_callB call_isi (by rfl) T.isinstance (by decide +kernel) (pa_cons (pv 0) (pa_cons (pe_bltn (v := .ty "tuple") (by rfl) T.tuple (by decide +kernel) rfl) pa_nil))) (nomark _)))).pt
        (pss_one (ps_ret pe_bl))
        pss_nil)
        (pss_one (ps_ret (pe_and (pe_cmpR op_eq (pe_callB call_len_seq (by rfl) T.len PySem.boot_len (pa_cons (pv 0) pa_nil)) (pe_callB call_len_seq (by rfl) T.len PySem.boot_len (pa_cons (pv 1) pa_nil)) (nomark _)) (pe_one (pe_callB (cr_all rfl) (by rfl) T.all (by decide +kernel) (pa_cons (pe_lc (own := [("_law_a", 2), ("_law_b", 3)]) (g := gTup K 2 (gCons (gName 2) (gCons (gName 3) gNil))) (tt := tYes) (by rfl) nd (RZ.pi_zipA (by rfl) T.zip (pa_cons (pv 0) (pa_cons (pv 1) pa_nil))) (blkOk_by (own := [("_law_a", 2), ("_law_b", 3)]) (N := n_law_same) (sc := defScope s_law_same) (by decide +kernel)) (fun _ _ _ _ _ => (pg_tup rfl (pgs_cons (pg_name (i := 2) nd rfl (Or.inl rfl)) (pgs_cons (pg_name (i := 3) nd rfl (Or.inl rfl)) pgs_nil)))) (fun _ _ _ _ _ => pts_nil) (fun _ _ _ _ _ => (pe_callD D1 hr (Nat.le_refl _) (pa_cons (pv 2) (pa_cons (pv 3) pa_nil))))) pa_nil)))))))
      pss_nil)
      (pss_cons (ps_if (pw_or (pt_cmpR op_ne (pe_callB call_isi (by rfl) T.isinstance (by decide +kernel) (pa_cons (pv 1) (pa_cons (pe_bltn (v := .ty "int") (by rfl) T.int (by decide +kernel) rfl) pa_nil))) (pe_callB call_isi (by rfl) T.isinstance (by decide +kernel) (pa_cons (pv 0) (pa_cons (pe_bltn (v := .ty "int") (by rfl) T.int (by decide +kernel) rfl) pa_nil))) (nomark _)) (pw_or1 (pt_cmpR op_ne (pe_callB call_isi (by rfl) T.isinstance (by decide +kernel) (pa_cons (pv 1) (pa_cons (pe_bltn (v := .ty "str") (by rfl) T.str (by decide +kernel) rfl) pa_nil))) (pe_callB call_isi (by rfl) T.isinstance (by decide +kernel) (pa_cons (pv 0) (pa_cons (pe_bltn (v := .ty "str") (by rfl) T.str (by decide +kernel) rfl) pa_nil))) (nomark _)))).pt
      (pss_one (ps_ret pe_bl))
      pss_nil)
      (pss_one (ps_ret (pe_cmpR op_eq (pv 0) (pv 1) (nomark _)))))))), ?_⟩
    by_cases en : d = .non
    · subst en
      obtain rfl : v = .non := h1
      obtain rfl : u = .non := h2
      refine ⟨_, rfl, rfl, _, rfl, iteP rfl (iteP rfl ?_)⟩
      exact ⟨_, rfl, rfl, _, rfl, iteP rfl ⟨_, rfl, rfl, k _ (Same.refl _)⟩⟩
    · have nv : ∀ x, Rp K H x d → ¬ x = V.non := fun x h z => by
        subst z
        cases d with
        | non => exact en rfl
        | bl _ => cases (show V.non = V.bl _ from h)
        | int _ => cases (show V.non = V.int _ from h)
        | str _ => cases (show V.non = V.str _ from h)
        | lst _ => obtain ⟨_, _, q, _⟩ := h; cases q
        | tup _ => obtain ⟨_, _, q, _⟩ := h; cases q
      refine ⟨_, rfl, rfl, _, rfl, iteN (nd_of (nv _ h2)) ⟨_, rfl, rfl, _, rfl, iteN (nd_of (nv _ h1)) ?_⟩⟩
      -- bool
      by_cases eb : isBool d = true
      · cases d with
        | bl b =>
          have g1 := h1
          have g2 := h2
          obtain rfl : v = .bl b := h1
          obtain rfl : u = .bl b := h2
          refine ⟨_, rfl, _, _, _, _, _, rfl, .ty _, tyX _ g2, kit_ty (kit_bool _), _, rfl, iteP rfl (iteP rfl ?_)⟩
          exact ⟨_, rfl, _, _, _, _, _, rfl, .ty _, tyX _ g2, kit_ty (kit_bool _), _, rfl, iteP rfl ⟨_, rfl, _, _, _, _, _, rfl, .ty _, tyX _ g1, kit_ty (kit_bool _), _, rfl, iteP rfl ⟨_, rfl, _, rfl, rfl, eqT (k _ (Same.refl _))⟩⟩⟩
        | non => cases eb
        | int _ => cases eb
        | str _ => cases eb
        | lst _ => cases eb
        | tup _ => cases eb
      · refine ⟨_, rfl, _, _, _, _, _, rfl, .ty _, tyX _ h2, kit_ty (kit_bool _), _, rfl, iteN eb ⟨_, rfl, _, _, _, _, _, rfl, .ty _, tyX _ h1, kit_ty (kit_bool _), _, rfl, iteN eb ?_⟩⟩
        -- lists and tuples
        refine ⟨_, rfl, (by show 2 ≤ sizeLine; decide), fun p hp => ?_⟩
        have s2 : Same H (upd H p (.tup [.ty "list", .ty "tuple"])) := sNew (Same.refl _) hp
        have j1 := Rp.same s2 _ h1
        have j2 := Rp.same s2 _ h2
        refine ⟨_, _, _, _, _, _, rfl, upd_same, .cons (.ty _) (.cons (.ty _) .nil), tyX _ j2, kit_lt _, _, rfl, ?_⟩
        by_cases et : (isLst d || isTup d) = true
        · refine iteP et (iteP rfl ?_)
          refine ⟨_, rfl, _, _, _, _, _, rfl, .ty _, tyX _ j2, kit_ty (kit_list _), _, rfl, _, _, _, _, _, rfl, .ty _, tyX _ j1, kit_ty (kit_list _), rfl, _, rfl, iteNS rfl ?_⟩
          refine ⟨_, rfl, _, _, _, _, _, rfl, .ty _, tyX _ j2, kit_ty (kit_tuple _), _, rfl, _, _, _, _, _, rfl, .ty _, tyX _ j1, kit_ty (kit_tuple _), rfl, _, rfl, iteNS rfl ?_⟩
          cases d with
          | lst ds =>
            obtain ⟨a, xs, rfl, S1, l1, r1⟩ := id h1
            obtain ⟨b, ys, rfl, S2, l2, r2⟩ := id h2
            have T1 := s2.seq S1
            have T2 := s2.seq S2
            have el : xs.length = ys.length := by rw [r1.len, r2.len]
            refine ⟨_, rfl, _, _, rfl, .inl T1, _, rfl, _, _, rfl, .inl T2, rfl, _, rfl, iteP (decide_eq_true (by rw [el])) ?_⟩
            refine ⟨_, rfl, _, rfl, a, b, xs, ys, rfl, .inl ⟨T1, T2, fun Dd hD => ?_⟩⟩
            cases n with
            | zero => exact absurd hd (by show ¬ (depL ds + 1 ≤ 0); omega)
            | succ n =>
              have nz : ∀ H', Same H H' → H' Dd = none → True := fun _ _ _ => trivial
              refine lc_it (walk_zip (n := xs.length) (by rw [el, Nat.min_self])) (fun i H' => (∃ acc : List Bool, H' Dd = some (.lst (acc.map V.bl)) ∧ acc.length = i ∧ acc.all id = true) ∧ Same (upd H p (.tup [.ty "list", .ty "tuple"])) H' ∧ i ≤ xs.length)
                ⟨⟨[], upd_same, rfl, rfl⟩, sNew (Same.refl _) hD, Nat.zero_le _⟩ (fun i H' _ z => ⟨(z.2.1).seq T1, (z.2.1).seq T2⟩) ?_ ?_
              · rintro i x H3 H4 hi ⟨⟨acc, e1, e2, e3⟩, sm, _⟩ ⟨Tt, x1, x2, rfl, nT, rfl, g1, g2⟩
                obtain ⟨d1, q1, p1⟩ := r1.at_ g1
                obtain ⟨d2, q2, p2⟩ := r2.at_ g2
                have ed : d1 = d2 := Option.some.inj (q1.symm.trans q2)
                subst ed
                have sm4 : Same H (upd H3 Tt (.tup [x1, x2])) := (s2.trans sm).trans (sNew (Same.refl _) nT)
                refine ⟨Tt, [x1, x2], rfl, SqT.of upd_same, rfl, _, _, rfl, _, _, rfl, rfl, rfl, ?_⟩
                refine yes_if ?_
                refine ⟨_, rfl, _, rfl, x1, x2, d1, rfl, Rp.same sm4 _ p1, Rp.same sm4 _ p2, ?_, fun H5 s5 => ?_⟩
                · have := dep_mem q1
                  have hd' : depL ds + 1 ≤ n + 1 := hd
                  omega
                · have eD : H5 Dd = some (.lst (acc.map V.bl)) := s5 _ _ (by rw [upd_ne (ne_of_none e1 nT)]; exact e1)
                  refine ⟨_, eD, by rw [List.length_map]; exact Nat.lt_of_lt_of_le (show acc.length < 100001 by omega) (by decide), ⟨⟨acc ++ [true], ?_, by rw [List.length_append, e2]; rfl, by rw [List.all_append, e3]; rfl⟩, fun c o e => ?_, hi⟩⟩
                  · rw [upd_same, List.map_append]; rfl
                  · have nc : c ≠ Dd := fun z => by rw [z, hD] at e; cases e
                    rw [upd_ne nc]
                    exact s5 _ _ (by rw [upd_ne (ne_of_none (sm _ _ e) nT)]; exact sm _ _ e)
              · rintro H3 ⟨⟨acc, e1, e2, e3⟩, sm, _⟩
                exact ⟨Dd, acc, rfl, SqL.of e1, by rw [e3]; exact k _ (s2.trans sm)⟩
          | tup ds =>
            obtain ⟨a, xs, rfl, S1, l1, r1⟩ := id h1
            obtain ⟨b, ys, rfl, S2, l2, r2⟩ := id h2
            have T1 := sameT s2 S1
            have T2 := sameT s2 S2
            have el : xs.length = ys.length := by rw [r1.len, r2.len]
            refine ⟨_, rfl, _, _, rfl, .inr T1, _, rfl, _, _, rfl, .inr T2, rfl, _, rfl, iteP (decide_eq_true (by rw [el])) ?_⟩
            refine ⟨_, rfl, _, rfl, a, b, xs, ys, rfl, .inr ⟨T1, T2, fun Dd hD => ?_⟩⟩
            cases n with
            | zero => exact absurd hd (by show ¬ (depL ds + 1 ≤ 0); omega)
            | succ n =>
              have nz : ∀ H', Same H H' → H' Dd = none → True := fun _ _ _ => trivial
              refine lc_it (walk_zipT (n := xs.length) (by rw [el, Nat.min_self])) (fun i H' => (∃ acc : List Bool, H' Dd = some (.lst (acc.map V.bl)) ∧ acc.length = i ∧ acc.all id = true) ∧ Same (upd H p (.tup [.ty "list", .ty "tuple"])) H' ∧ i ≤ xs.length)
                ⟨⟨[], upd_same, rfl, rfl⟩, sNew (Same.refl _) hD, Nat.zero_le _⟩ (fun i H' _ z => ⟨sameT (z.2.1) T1, sameT (z.2.1) T2⟩) ?_ ?_
              · rintro i x H3 H4 hi ⟨⟨acc, e1, e2, e3⟩, sm, _⟩ ⟨Tt, x1, x2, rfl, nT, rfl, g1, g2⟩
                obtain ⟨d1, q1, p1⟩ := r1.at_ g1
                obtain ⟨d2, q2, p2⟩ := r2.at_ g2
                have ed : d1 = d2 := Option.some.inj (q1.symm.trans q2)
                subst ed
                have sm4 : Same H (upd H3 Tt (.tup [x1, x2])) := (s2.trans sm).trans (sNew (Same.refl _) nT)
                refine ⟨Tt, [x1, x2], rfl, SqT.of upd_same, rfl, _, _, rfl, _, _, rfl, rfl, rfl, ?_⟩
                refine yes_if ?_
                refine ⟨_, rfl, _, rfl, x1, x2, d1, rfl, Rp.same sm4 _ p1, Rp.same sm4 _ p2, ?_, fun H5 s5 => ?_⟩
                · have := dep_mem q1
                  have hd' : depL ds + 1 ≤ n + 1 := hd
                  omega
                · have eD : H5 Dd = some (.lst (acc.map V.bl)) := s5 _ _ (by rw [upd_ne (ne_of_none e1 nT)]; exact e1)
                  refine ⟨_, eD, by rw [List.length_map]; exact Nat.lt_of_lt_of_le (show acc.length < 100001 by omega) (by decide), ⟨⟨acc ++ [true], ?_, by rw [List.length_append, e2]; rfl, by rw [List.all_append, e3]; rfl⟩, fun c o e => ?_, hi⟩⟩
                  · rw [upd_same, List.map_append]; rfl
                  · have nc : c ≠ Dd := fun z => by rw [z, hD] at e; cases e
                    rw [upd_ne nc]
                    exact s5 _ _ (by rw [upd_ne (ne_of_none (sm _ _ e) nT)]; exact sm _ _ e)
              · rintro H3 ⟨⟨acc, e1, e2, e3⟩, sm, _⟩
                exact ⟨Dd, acc, rfl, SqL.of e1, by rw [e3]; exact k _ (s2.trans sm)⟩
          | non => cases et
          | bl _ => cases et
          | int _ => cases et
          | str _ => cases et
        · refine iteN et ?_
          refine ⟨_, rfl, (by show 2 ≤ sizeLine; decide), fun q hq => ?_⟩
          have s3 := sNew (o := .tup [.ty "list", .ty "tuple"]) s2 hq
          have i1 := Rp.same s3 _ h1
          have i2 := Rp.same s3 _ h2
          refine ⟨_, _, _, _, _, _, rfl, upd_same, .cons (.ty _) (.cons (.ty _) .nil), tyX _ i1, kit_lt _, _, rfl, iteN et ?_⟩
          refine ⟨_, rfl, _, _, _, _, _, rfl, .ty _, tyX _ i2, kit_ty (kit_int _), _, rfl, _, _, _, _, _, rfl, .ty _, tyX _ i1, kit_ty (kit_int _), rfl, _, rfl, iteNS rfl ?_⟩
          refine ⟨_, rfl, _, _, _, _, _, rfl, .ty _, tyX _ i2, kit_ty (kit_str _), _, rfl, _, _, _, _, _, rfl, .ty _, tyX _ i1, kit_ty (kit_str _), rfl, _, rfl, iteNS rfl ?_⟩
          cases d with
          | int z =>
            obtain rfl : v = .int z := h1
            obtain rfl : u = .int z := h2
            exact ⟨_, rfl, _, rfl, rfl, eqT (k _ s3)⟩
          | str z =>
            obtain rfl : v = .str z := h1
            obtain rfl : u = .str z := h2
            exact ⟨_, rfl, _, rfl, rfl, eqT (k _ s3)⟩
          | non => exact absurd rfl en
          | bl _ => exact absurd rfl eb
          | lst _ => exact absurd rfl et
          | tup _ => exact absurd rfl et
theorem ok_same {f : Addr} {fd : FuncData} (F : Fun K "_law_same" "_law_same" s_law_same f fd) (T : TSm mg) (hb : Binds K fd ["_law_found", "_law_due"] []) (hm : mg "_law_same" = some (.ref f)) : ∀ n : Nat, FnOk P w K mg base CX0 (n + 1) f fd ["_law_found", "_law_due"] (spSame K n)
  | 0 => ok_same1 (k := 0) F T ⟨_, _, fn_false, hb, hm, F.kp⟩
  | n + 1 => ok_same1 (k := n + 1) F T ⟨_, _, ok_same F T hb hm n, hb, hm, F.kp⟩
end
end RF

namespace RF
open PySem L2 PyProof.Rows
def spRP : Sp := fun vs H Q _ => ∃ (n : Int), vs = [.int n] ∧ 0 ≤ n ∧ Bd 4000 n ∧ Q (.int (rt n)) H
/-- the floor of the slope times n, by the law -/
def lfl (d i j k n : Int) : Int := (i * n + flr d (j * n)) / k
def spLFl (K : PySem.W.Frag) : Sp := fun vs H Q _ => ∃ (d i j k n : Int) (v : V), vs = [.int d, v, .int n] ∧ Root d ∧ Rp K H v (.tup [.int i, .int j, .int k]) ∧ 0 < k ∧ k < 1073741824 ∧ Bd 900 i ∧ Bd 900 j ∧ Bd 900 n ∧ Q (.int (lfl d i j k n)) H
def spLSg : Sp := fun vs H Q _ => ∃ (d i j : Int), vs = [.int d, .int i, .int j] ∧ Root d ∧ Bd 900 i ∧ Bd 900 j ∧ Q (.int (sg d i j)) H
section
variable {P : Program} {w : World} {K : PySem.W.Frag} {mg : Str → Option Value} {base : Heap}
abbrev s_law_root_part : Stmt := top 38
abbrev n_law_root_part : List Str := ["_law_number", "_law_found", "_law_later"]
theorem sc_law_root_part : FnScope n_law_root_part ["_law_number"] (defScope s_law_root_part) := ⟨rfl, rfl, rfl, by decide +kernel, rfl, by decide +kernel, by decide +kernel⟩
theorem rp_start {n : Int} (h : 2 ≤ n) : (n + 1) / 2 = (n + n / n) / 2 ∧ n < (n + 1) * (n + 1) := by
  have e : n / n = 1 := Int.ediv_self (by omega)
  rw [e]
  refine ⟨rfl, ?_⟩
  have : n * 1 ≤ n * n := Int.mul_le_mul_of_nonneg_left (by omega) (by omega)
  have e2 : (n + 1) * (n + 1) = n * n + 2 * n + 1 := by grind
  omega
theorem rp_step {n x : Int} (hn : 0 ≤ n) (hx : 0 < x) : 0 ≤ (x + n / x) / 2 ∧ n < ((x + n / x) / 2 + 1) * ((x + n / x) / 2 + 1) := by
  have q0 : 0 ≤ n / x := Int.ediv_nonneg hn (by omega)
  have h1 := Int.mul_ediv_add_emod n x
  have h2 := Int.emod_lt_of_pos n hx
  have h3 : n < x * (n / x + 1) := by
    have : x * (n / x + 1) = x * (n / x) + x := by grind
    omega
  exact ⟨by omega, amgm x (n / x) _ n hx q0 h3 (by omega)⟩
theorem rp_end {n x : Int} (hx : 0 < x) (h : ¬ (x + n / x) / 2 < x) : x * x ≤ n := by
  have h1 := Int.mul_ediv_add_emod n x
  have h2 := Int.emod_nonneg n (show x ≠ 0 by omega)
  have h3 : x ≤ n / x := by omega
  have : x * x ≤ x * (n / x) := Int.mul_le_mul_of_nonneg_left h3 (by omega)
  omega
theorem rp_pos {n y : Int} (hn : 2 ≤ n) (h0 : 0 ≤ y) (h : n < (y + 1) * (y + 1)) : 0 < y := by
  rcases Int.lt_or_le 0 y with z | z
  · exact z
  · have : y = 0 := by omega
    subst this
    omega
theorem ok_rp {f : Addr} {fd : FuncData} {k : Nat} (F : Fun K "_law_root_part" "_law_root_part" s_law_root_part f fd) : FnOk P w K mg base CX0 (k + 1) f fd ["_law_number"] spRP := by
  refine F.ok sc_law_root_part (fun vs H Q E h => ?_) (fun cdv A outer s H vs Q E hr h => ?_)
  · obtain ⟨n, rfl, _⟩ := h
    rfl
  · obtain ⟨n, rfl, n0, bn, q⟩ := h
    have nd := sc_law_root_part.nd
    refine ⟨_, (pss_cons (ps_if (pt_cmpR op_lt (pv 0) pe_int (nomark _))
      (pss_one (ps_ret (pv 0)))
      pss_nil)
      (pss_cons (ps_set (i := 1) nd rfl (Or.inl rfl) (pv 0))
      (pss_cons (ps_set (i := 2) nd rfl (Or.inl rfl) (pe_op op_fdiv (pe_op op_add (pv 0) pe_int) pe_int))
      (pss_cons (ps_while PassesOwn.never (pt_cmpR op_lt (pv 2) (pv 1) (nomark _))
      (pss_cons (ps_set (i := 1) nd rfl (Or.inl rfl) (pv 2))
        (pss_one (ps_set (i := 2) nd rfl (Or.inl rfl) (pe_op op_fdiv (pe_op op_add (pv 1) (pe_op op_fdivW (pv 0) (pv 1))) pe_int)))))
      (pss_one (ps_ret (pv 1))))))), ?_⟩
    refine ⟨_, rfl, _, _, rfl, rfl, _, rfl, ite2 (fun h => ?_) (fun h => ?_)⟩
    · have hn : n < 2 := of_decide_eq_true h
      have : n = rt n := rt_uniq n0 n0 (by rcases (by omega : n = 0 ∨ n = 1) with z | z <;> rw [z] <;> decide) (by rcases (by omega : n = 0 ∨ n = 1) with z | z <;> rw [z] <;> decide)
      refine ⟨_, rfl, ?_⟩
      rw [← this] at q
      exact q
    · have hn : 2 ≤ n := by
        have : ¬ n < 2 := fun z => h (decide_eq_true z)
        omega
      obtain ⟨e0, e1⟩ := rp_start hn
      refine ⟨_, rfl, _, rfl, _, _, rfl, rfl, _, _, rfl, rfl, ⟨by decide, by decide⟩, ?_⟩
      refine while_by (fun σ H' => ∃ x : Int, σ = [some (.int n), some (.int x), some (.int ((x + n / x) / 2))] ∧ H' = H ∧ 0 < x ∧ x ≤ n ∧ n < (x + 1) * (x + 1)) (fun σ _ => match σ with | [_, some (.int x), _] => x.toNat | _ => 0)
        ⟨n, by rw [← e0]; rfl, rfl, by omega, Int.le_refl _, e1⟩ ?_ ?_
      · rintro σ H1 ⟨x, rfl, rfl, x0, xn, x1⟩
        refine ⟨_, rfl, _, rfl, _, _, rfl, rfl, _, rfl, ite2 (fun h => ?_) (fun h => ?_)⟩
        · have lt : (x + n / x) / 2 < x := of_decide_eq_true h
          obtain ⟨y0, y1⟩ := rp_step n0 x0
          have yp := rp_pos hn y0 y1
          refine ⟨_, rfl, _, rfl, _, rfl, _, rfl, _, _, rfl, rfl, ⟨yp, ?_⟩, _, _, rfl, rfl, _, _, rfl, rfl, ⟨by decide, by decide⟩, ⟨_, rfl, rfl, yp, by omega, y1⟩, ?_⟩
          · exact Nat.lt_of_lt_of_le ((bn.le (show ((x + n / x) / 2).natAbs ≤ n.natAbs by omega)).log (by decide)) (by decide)
          · show ((x + n / x) / 2).toNat < x.toNat
            omega
        · have nl : ¬ (x + n / x) / 2 < x := fun z => h (decide_eq_true z)
          have : x = rt n := rt_uniq n0 (by omega) (rp_end x0 nl) x1
          refine ⟨_, rfl, ?_⟩
          rw [this]
          exact q
      · rintro σ H1 Q1 Q2 hq ⟨v, e1, v2, e2, i, j, e3, e4, b, e5, q⟩
        exact ⟨v, e1, v2, e2, i, j, e3, e4, b, e5, hq _ _ q⟩
abbrev s_law_floor : Stmt := top 39
abbrev n_law_floor : List Str := ["_law_root_here", "_law_slope", "_law_number", "_law_factor", "_law_part"]
theorem sc_law_floor : FnScope n_law_floor ["_law_root_here", "_law_slope", "_law_number"] (defScope s_law_floor) := ⟨rfl, rfl, rfl, by decide +kernel, rfl, by decide +kernel, by decide +kernel⟩
theorem ok_lfl {f : Addr} {fd : FuncData} {k : Nat} (F : Fun K "_law_floor" "_law_floor" s_law_floor f fd) (D1 : Df P w K mg base k "_law_root_part" ["_law_number"] spRP) : FnOk P w K mg base CX0 (k + 1) f fd ["_law_root_here", "_law_slope", "_law_number"] (spLFl K) := by
  refine F.ok sc_law_floor (fun vs H Q E h => ?_) (fun cdv A outer s H vs Q E hr h => ?_)
  · obtain ⟨d, i, j, k, n, v, rfl, _⟩ := h
    rfl
  · obtain ⟨d, i, j, k, n, v, rfl, hd, hv, k0, k1, bi, bj, bn, q⟩ := h
    have nd := sc_law_floor.nd
    obtain ⟨a, xs, rfl, S, hl, x1, r1, rfl, p1, x2, r2, rfl, p2, x3, r3, rfl, p3, rfl⟩ := hv
    obtain rfl : x1 = .int i := p1
    obtain rfl : x2 = .int j := p2
    obtain rfl : x3 = .int k := p3
    refine ⟨_, (pss_cons (ps_set (i := 3) nd rfl (Or.inl rfl) (pe_op op_mulW (pe_ix ix_tup (pv 1) pe_int (fun _ _ => rfl)) (pv 2)))
      (pss_cons (ps_set (i := 4) nd rfl (Or.inl rfl) (pe_callD D1 hr (Nat.le_refl _) (pa_cons (pe_op op_mulW (pe_op op_mulW (pv 3) (pv 3)) (pv 0)) pa_nil)))
      (C8.pss_cut (ps_if (pt_cmpR op_lt (pv 3) pe_int (nomark _))
      (pss_one (ps_set (i := 4) nd rfl (Or.inl rfl) (pe_op op_sub (pe_un un_neg (pv 4)) pe_int)))
      pss_nil)
      (pss_one (ps_ret (pe_op op_fdiv (pe_op op_add (pe_op op_mulW (pe_ix ix_tup (pv 1) pe_int (fun _ _ => rfl)) (pv 2)) (pv 4)) (pe_ix ix_tup (pv 1) pe_int (fun _ _ => rfl)))))))), ?_⟩
    have bf : Bd 1800 (j * n) := bj.mul bn
    have b2 : Bd 3604 (j * n * (j * n) * d) := (bf.mul bf).mul (rootBd hd)
    refine ⟨_, rfl, a, _, _, _, rfl, rfl, S, rfl, _, rfl, _, _, rfl, rfl, mulOk bj bn (by decide) (by decide) (by decide), ?_⟩
    refine ⟨_, rfl, _, rfl, _, _, rfl, rfl, mulOk bf bf (by decide) (by decide) (by decide), _, rfl, _, _, rfl, rfl, mulOk (bf.mul bf) (rootBd hd) (by decide) (by decide) (by decide), _, rfl, ?_, b2.mono (by decide), ?_⟩
    · have := dff_nn hd (f := j * n)
      have e : j * n * (j * n) * d = d * (j * n) * (j * n) := by grind
      rw [e]
      exact this
    · rw [flr_ring]
      refine ⟨fun σ' H' => σ' = [some (.int d), some (.ref a), some (.int n), some (.int (j * n)), some (.int (flr d (j * n)))] ∧ H' = H, ?_, ?_⟩
      · refine ⟨_, rfl, _, _, rfl, rfl, _, rfl, ite2 (fun h => ?_) (fun h => ?_)⟩
        · have hy : j * n < 0 := of_decide_eq_true h
          refine ⟨_, rfl, _, rfl, _, _, rfl, rfl, ?_, rfl⟩
          unfold flr
          rw [if_pos hy]
          rfl
        · have hy : ¬ j * n < 0 := fun z => h (decide_eq_true z)
          refine ⟨?_, rfl⟩
          unfold flr
          rw [if_neg hy]
          rfl
      · rintro σ' H1 ⟨rfl, rfl⟩
        exact ⟨_, rfl, a, _, _, _, rfl, rfl, S, rfl, _, rfl, _, _, rfl, rfl, mulOk bi bn (by decide) (by decide) (by decide), _, rfl, _, _, rfl, rfl, _, rfl, a, _, _, _, rfl, rfl, S, rfl, _, _, rfl, rfl, ⟨k0, k1⟩, q⟩
abbrev n_law_sign : List Str := ["_law_root_here", "_law_i", "_law_j"]
end
end RF

namespace RF
open PySem L2 PyProof.Rows
theorem Kp.at_ {b a : Addr} {H H' : Hp} {o : HO} (k : Kp b H H') (B : Bag H b) (h : H a = some o) (n : ∀ xs, o ≠ .lst xs) : H' a = some o := by
  obtain ⟨xs, hb⟩ := B.some
  exact k a o (ne_of h hb (n xs)) h
theorem SV.kp {H H' : Hp} {C p b : Addr} {d i j k : Int} (B : Bag H b) (kp : Kp b H H') (h : SV H C p d i j k) : SV H' C p d i j k := by
  obtain ⟨k0, dx, t, h1, h2⟩ := h
  exact ⟨k0, dx, t, kp.at_ B h1 (fun _ z => by cases z), kp.at_ B h2 (fun _ z => by cases z)⟩
theorem SV.ins {H : Hp} {C p : Addr} {d i j k : Int} (h : SV H C p d i j k) : ∃ dx fs, H p = some (.ins C dx fs) ∧ ∀ m : Str, ¬ m = "_parts" → ¬ m = "_root" → fs.lookup m = none := by
  obtain ⟨_, dx, t, h1, _⟩ := h
  exact ⟨dx, _, h1, fun m a b => sfl_no _ _ a b⟩
theorem flr_bd {n : Nat} {d f : Int} (hd : Root d) (h : Bd n f) : Bd (n + 3) (flr d f) := by
  have r0 := rt_nn (d * f * f)
  have r1 := rt_le (dff_nn hd (f := f))
  have h4 : rt (d * f * f) ≤ 4 * ab f := by
    apply le_of_sq (by have := ab_nn f; omega)
    have e : (4 * ab f) * (4 * ab f) = 16 * (f * f) := by unfold ab; split <;> grind
    have : d * f * f ≤ 16 * (f * f) := by
      rw [dff]
      exact Int.mul_le_mul_of_nonneg_right (by have := hd.le; omega) (sq_nonneg f)
    omega
  have ha : ab f = (f.natAbs : Int) := by unfold ab; split <;> omega
  unfold Bd at *
  have hp : 2 ^ (n + 3) = 8 * 2 ^ n := by rw [Nat.pow_add]; omega
  unfold flr
  split <;> omega
/-- a method of the class at C, by its promise -/
structure Mt (P : Program) (w : World) (K : PySem.W.Frag) (mg : Str → Option Value) (base : Heap) (C : Addr) (k : Nat) (m : Str) (ps : List Str) (sp : Sp) : Prop where
  ex : ∃ (f : Addr) (fd : FuncData), FnOk P w K mg base CX0 k f fd ps sp ∧ Meth K C m f ∧ Binds K fd ps []
theorem pe_mt0 {X : Cx} {j k : Nat} {C : Addr} {m : Str} {ps : List Str} {sp : Sp} {o : Expr} {pos apos : Pos} {ta : TE} {pl : Sem Bool} (he : PE X o ta) (c : Cls X.K C) (M : Mt X.prog X.w X.K X.mg X.base C k m ps sp) (hr : Room j X.A) (hk : k ≤ j)
    (ht : eval (.Call (.Attribute o m apos) [] [] pos) X.env = (do
      let ov ← eval o X.env
      standAt apos.atName
      let (f, first) ← holding [ov] (getMethod ov m pl)
      callWith pos f first (backTo pos (starEach [] X.env)) (backToKw pos (keywordEach [] X.env))) := by rfl) : PE X (.Call (.Attribute o m apos) [] [] pos) (tMeth C m sp [] E0 ta tNil) := by
  obtain ⟨f, fd, G, hm, b⟩ := M.ex
  exact pe_meth0 he c hm G (hr.mono hk) b .nil pass0 ht
theorem pe_mt {X : Cx} {j k : Nat} {C : Addr} {m : Str} {ps : List Str} {sp : Sp} {o e : Expr} {es : List Expr} {pos apos : Pos} {ta : TE} {t : TA} {pl : Sem Bool} (he : PE X o ta) (c : Cls X.K C) (M : Mt X.prog X.w X.K X.mg X.base C k m ps sp) (hr : Room j X.A) (hk : k ≤ j) (ha : PA X (e :: es) t)
    (h1 : starEach (e :: es) X.env = (false, eval e X.env) :: starEach es X.env := by rfl) (h2 : (backTo pos (starEach es X.env)).any (·.1) = false := by rfl)
    (ht : eval (.Call (.Attribute o m apos) (e :: es) [] pos) X.env = (do
      let ov ← eval o X.env
      standAt apos.atName
      let (f, first) ← holding [ov] (getMethod ov m pl)
      callWith pos f first (backTo pos (starEach (e :: es) X.env)) (backToKw pos (keywordEach [] X.env))) := by rfl) : PE X (.Call (.Attribute o m apos) (e :: es) [] pos) (tMeth C m sp [] E0 ta t) := by
  obtain ⟨f, fd, G, hm, b⟩ := M.ex
  exact pe_meth he c hm G (hr.mono hk) b .nil pass0 ha h1 h2 ht
end RF

namespace RF
open PySem L2 PyProof.Rows
/-! ### max of a tuple of whole numbers -/
section
variable {prog : Program} {w : World} {A : Around} {E : Value → Shared → Prop} {s : Shared} {l : Addr} {xs : Array (Int × Tok)}
theorem max_tupI {Q : Value → Shared → Prop} (hh : A.handled = none) (hl : s.heap.IsTuple l (intItems xs)) (hne : 0 < xs.size)
    (h : ∀ v h' tk, (intItems xs)[argBest (fun i j => decide (numAt xs i > numAt xs j)) (xs.size - 1)]? = some v → (∀ b o, s.heap.get? b = some o → h'.get? b = some o) → Q v { s with heap := h', toks := tk }) :
    wpAny (model prog w) A (call (.builtin "max") [.ref l]) Q E s := by
  have hlt : l < s.heap.objs.size := by obtain ⟨_, e, _⟩ := hl; exact Heap.lt_size e
  have hpu : ∀ b ∈ [s.heap.objs.size, l], b < (s.heap.push { cls := .type "tuple_iterator", data := .fields #[.ref l, .int 0 0] }).objs.size := fun b hb => by
    rw [Heap.size_push]
    rcases List.mem_cons.mp hb with e | hb
    · rw [e]; exact Nat.lt_succ_self _
    · rcases List.mem_cons.mp hb with e | hb
      · rw [e]; exact Nat.lt_succ_of_lt hlt
      · cases hb
  refine call_max_walk (wpAny_pyIter_tuple hl ?_)
  refine ⟨_, _, _, _, _, _, _, rfl, Walks.tuple (A := A.in1) hh _ l (Nat.ne_of_lt hlt) (intItems xs), ⟨⟨_, Heap.get?_push_size _ rfl, rfl, rfl⟩, hl.push _⟩, hpu, by simpa [intItems] using hne, CmpOf.ints_gt (numAt xs) (fun _ _ => intItems_at), fun v h' tk hP hk => ?_⟩
  refine h v h' tk (by simpa [intItems] using hP) fun b o e => ?_
  refine hk b o (fun hm => ?_) (Heap.get?_push_of_some _ e)
  rcases List.mem_cons.mp hm with e1 | hm
  · exact absurd (e1 ▸ Heap.lt_size e) (Nat.lt_irrefl _)
  · cases hm
end
section
variable {X : Cx}
def rMaxT (K : PySem.W.Frag) : List V → Hp → VK → Prop := fun vs H Q => ∃ (a : Addr) (ns : List Int), vs = [V.ref a] ∧ SqT K H a (ns.map V.int) ∧ 0 < ns.length ∧ ∀ m, m ∈ ns → (∀ y, y ∈ ns → y ≤ m) → Q (.int m) H
theorem cr_maxT (hc : X.calm = true) : CallR X (.builtin "max") (rMaxT X.K) := by
  intro pins s σ H vs us Q I r h
  obtain ⟨a, ns, rfl, hs, hne, q⟩ := h
  obtain ⟨its, rv, hl, _⟩ := I.tuple hs
  rw [Vals.ref1 r]
  obtain ⟨xs, e⟩ := rv.ints.allInts.items
  have hn : numsOf (intItems xs).toList = ns := by rw [← e]; exact rv.ints.numsOf
  rw [nums_intItems] at hn
  subst hn
  rw [e] at hl
  have hsz : 0 < xs.size := by simpa using hne
  refine max_tupI (I.ok.hd hc) hl hsz fun v h' tk hv hk => ?_
  obtain ⟨t, rfl⟩ := intItems_at hv
  obtain ⟨h1, h2⟩ := argBest_gt (numAt xs) (xs.size - 1)
  refine ⟨.int _, H, I.kept hk, ⟨_, rfl⟩, q _ ?_ fun a ha => ?_⟩
  · rw [numAt_eq]; exact PySem.getD_mem (by rw [List.length_map, Array.length_toList]; omega)
  · obtain ⟨j, hj, rfl⟩ := PySem.mem_getD ha
    rw [List.length_map, Array.length_toList] at hj
    rw [← numAt_eq]; exact h2 j (by omega)

/-! ### a property of a class, by its promise -/
structure Pt (P : Program) (w : World) (K : PySem.W.Frag) (mg : Str → Option Value) (base : Heap) (C : Addr) (k : Nat) (m : Str) (sp : Sp) : Prop where
  ex : ∃ (p g : Addr) (fd : FuncData), PropOf K C m p g ∧ FnOk P w K mg base CX0 k g fd ["self"] sp ∧ Binds K fd ["self"] []
theorem pe_pt {j k : Nat} {C : Addr} {m : Str} {sp : Sp} {o : Expr} {pos : Pos} {ta : TE} (he : PE X o ta) (c : Cls X.K C) (M : Pt X.prog X.w X.K X.mg X.base C k m sp) (hr : Room j X.A) (hk : k + 1 ≤ j)
    (hab : attributeBase o m X.env (eval o X.env) = eval o X.env := by rfl) : PE X (.Attribute o m pos) (tProp C sp [] E0 ta) := by
  obtain ⟨p, g, fd, hp, F, b⟩ := M.ex
  exact pe_prop he c hp F (hr.mono hk) b .nil pass0 hab

/-! ### calls by keywords alone -/
/-- f(k = v, ..) -/
theorem pe_callN0 {CX : CXT} {k : Nat} {f : Addr} {fd : FuncData} {ps ks : List Str} {sp : Sp} {E : XK} {x : Str} {p pos : Pos} {kws : List Keyword} {tk : TA} {g : List Value → List Value → List Value} {gV : List V → List V → List V}
    (F : FnOk X.prog X.w X.K X.mg X.base CX k f fd ps sp) (hr : Room k X.A) (hg : Gl X x) (hm : X.mg x = some (.ref f)) (hk : PySem.W.keepIn X.K (.ref f) = true) (hb : KBn X.K fd ps 0 ks g gV) (hx : Passes CX X E) (hkw : PK X kws tk)
    (hall : (backToKw pos (keywordEach kws X.env)).all (·.1.isSome) = true := by rfl) (hks : (backToKw pos (keywordEach kws X.env)).filterMap (·.1) = ks := by rfl) (hdb : (x == ("__debug__" : Str)) = false := by decide)
    (hpl : ((backTo pos (starEach [] X.env)).any (·.1) || (backToKw pos (keywordEach kws X.env)).any (·.1.isNone)) = false := by rfl) :
    PE X (.Call (.Name x p) [] kws pos) (tCallN 0 ks.length sp gV E tNil tk) := by
  refine ⟨fun pins s σ H Q I h => ?_⟩
  refine wpAny_Call_Name_kw (ld_glob I hg hm ?_ hdb)
  refine PySem.W.callWith_KW0 (h₀ := X.base) I.ok.mod.kin hk hall ?_ hpl
  refine thn (hkw.run pos pins s σ H _ I h) fun ws s2 ⟨zs, H2, I2, rz, l1, l2, q2⟩ => ⟨I2.kIn, ?_⟩
  rw [hks]
  exact run_fnN (us := []) (vs := []) F hr hb hx I2 .nil rz l1 l2 q2
/-- a def that is called by keywords alone, by its promise -/
structure Dk (P : Program) (w : World) (K : PySem.W.Frag) (mg : Str → Option Value) (base : Heap) (k : Nat) (x : Str) (ps ks : List Str) (gV : List V → List V → List V) (sp : Sp) : Prop where
  ex : ∃ (f : Addr) (fd : FuncData) (g : List Value → List Value → List Value), FnOk P w K mg base CX0 k f fd ps sp ∧ KBn K fd ps 0 ks g gV ∧ mg x = some (.ref f) ∧ PySem.W.keepIn K (.ref f) = true
theorem pe_kD {j k : Nat} {ps ks : List Str} {sp : Sp} {x : Str} {p pos : Pos} {kws : List Keyword} {tk : TA} {gV : List V → List V → List V} (D : Dk X.prog X.w X.K X.mg X.base k x ps ks gV sp) (hr : Room j X.A) (hj : k ≤ j) (hkw : PK X kws tk) (hg : Gl X x := by rfl)
    (hall : (backToKw pos (keywordEach kws X.env)).all (·.1.isSome) = true := by rfl) (hks : (backToKw pos (keywordEach kws X.env)).filterMap (·.1) = ks := by rfl) (hdb : (x == ("__debug__" : Str)) = false := by decide)
    (hpl : ((backTo pos (starEach [] X.env)).any (·.1) || (backToKw pos (keywordEach kws X.env)).any (·.1.isNone)) = false := by rfl) :
    PE X (.Call (.Name x p) [] kws pos) (tCallN 0 ks.length sp gV E0 tNil tk) := by
  obtain ⟨f, fd, g, F, hb, hm, hk⟩ := D.ex
  exact pe_callN0 F (hr.mono hj) hg hm hk hb pass0 hkw hall hks hdb hpl
end
theorem Fun.kbn {K : PySem.W.Frag} {x qual : Str} {st : Stmt} {f : Addr} {fd : FuncData} {ps : List Str} (F : Fun K x qual st f fd) (n : Nat) (ks : List Str) (g : {α : Type} → List α → List α → List α)
    (hrel : ∀ {vs zs : List V} {us ws : List Value}, Vals vs us → Vals zs ws → Vals (g vs zs) (g us ws))
    (h : ∀ (kV doc pm : Value) (an : Option Addr) (cdv ct : Value) (us ws : List Value), us.length = n → ws.length = ks.length → bindArgs (PySem.W.fnOf x qual (defArgs st) (defBody st) (defScope st) .none kV doc pm an cdv ct) ⟨us, ks.zip ws⟩ = pure (ps.zip (g us ws))) :
    KBn K fd ps n ks (fun us ws => g us ws) (fun vs zs => g vs zs) := by
  obtain ⟨oc, od, kV, doc, pm, an, cdv, ct, osl, rfl, lk, hcd⟩ := F.ex
  exact ⟨fun s us ws _ l1 l2 => .of_eq (h kV doc pm an cdv ct us ws l1 l2), fun r1 r2 => hrel r1 r2⟩
end RF

namespace RF
/-! ### whether a + j r is below or above 0, by floors -/
theorem flr_zero (d : Int) : flr d 0 = 0 := by
  unfold flr
  rw [if_neg (by decide), show d * 0 * 0 = 0 by simp]
  have h := rt_le (n := 0) (by decide)
  have := rt_nn 0
  by_cases z : rt 0 = 0
  · exact z
  · have : 1 ≤ rt 0 := by omega
    have := Int.mul_le_mul this this (by decide) (by omega)
    omega
theorem flr_opp {d j : Int} (h : j ≠ 0) : flr d (-j) = -flr d j - 1 := by
  have e : d * -j * -j = d * j * j := by grind
  unfold flr
  rw [e]
  by_cases z : j < 0
  · rw [if_neg (by omega), if_pos z]; omega
  · rw [if_pos (by omega), if_neg z]
/-- 1 if j is 0 -/
def z01 (j : Int) : Int := if j = 0 then 1 else 0
theorem z01_neg (j : Int) : z01 (-j) = z01 j := by
  unfold z01
  by_cases h : j = 0
  · rw [if_pos h, if_pos (by omega)]
  · rw [if_neg h, if_neg (by omega)]
theorem kept_ge {d a j : Int} (hd : Root d) : (0 ≤ sg d a j) ↔ (flr d (-j) < a + z01 j) := by
  rw [sg_nonneg hd]
  unfold z01
  by_cases h : j = 0
  · subst h
    rw [if_pos rfl, show (-0 : Int) = 0 from rfl, flr_zero]
    omega
  · rw [if_neg h, flr_opp h]
    omega
theorem kept_le {d a j : Int} (hd : Root d) : (sg d a j ≤ 0) ↔ (flr d j < -a + z01 j) := by
  have h := kept_ge (d := d) (a := -a) (j := -j) hd
  rw [sg_neg, Int.neg_neg, z01_neg] at h
  rw [← h]
  omega
/-- the continued fractions: (i + r) / k -/
def tlI (d : Int) (n : Nat) : Int := if d = 13 then 3 else if d = 6 then 2 else 1
def tlK (d : Int) (n : Nat) : Int := if d = 2 then 1 else if (d = 3 ∨ d = 6) ∧ n % 2 = 1 then 1 else 2
theorem tlK_or (d : Int) (n : Nat) : tlK d n = 1 ∨ tlK d n = 2 := by
  unfold tlK
  split
  · exact .inl rfl
  · split
    · exact .inl rfl
    · exact .inr rfl
theorem tlI_bd (d : Int) (n : Nat) : 1 ≤ tlI d n ∧ tlI d n ≤ 3 := by
  unfold tlI
  split
  · omega
  · split <;> omega
/-- whether the pair is kept, by the sizes of sums -/
def kpt (d B u v : Int) (n : Nat) : Bool :=
  decide (0 ≤ sg d (tlK d n * u - tlI d n * v + tlK d n * B) (-1 * v)) && decide (sg d (tlK d n * u - tlI d n * v - tlK d n * B) (-1 * v) ≤ 0)
/-- the same, by floors -/
theorem kpt_fl {d B u v : Int} {n : Nat} (hd : Root d) :
    kpt d B u v n = (decide (flr d (-1 * v) < B * tlK d n - (tlK d n * u - tlI d n * v) + z01 (-1 * v)) && decide (flr d (-(-1 * v)) < B * tlK d n + (tlK d n * u - tlI d n * v) + z01 (-1 * v))) := by
  have e1 : B * tlK d n = tlK d n * B := Int.mul_comm _ _
  unfold kpt
  have h1 := kept_ge (a := tlK d n * u - tlI d n * v + tlK d n * B) (j := -1 * v) hd
  have h2 := kept_le (a := tlK d n * u - tlI d n * v - tlK d n * B) (j := -1 * v) hd
  rw [show -(tlK d n * u - tlI d n * v - tlK d n * B) = tlK d n * B - (tlK d n * u - tlI d n * v) by omega] at h2
  rw [show tlK d n * u - tlI d n * v + tlK d n * B = tlK d n * B + (tlK d n * u - tlI d n * v) by omega] at h1 ⊢
  rw [e1, decide_eq_decide.mpr h1, decide_eq_decide.mpr h2, Bool.and_comm]
/-- the number C -/
def tp (d : Int) : Int := if d = 13 then 3 else if d = 6 then 4 else if d = 5 then 1 else 2
def absum (fs : List Int) : Int := (fs.map ab).sum
def bnd (d : Int) (fs : List Int) : Int := 3 * tp d * absum fs
theorem absum_nn : ∀ fs : List Int, 0 ≤ absum fs
  | [] => by decide
  | f :: r => by
    have := absum_nn r
    have := ab_nn f
    show 0 ≤ ab f + absum r
    omega
theorem absum_le : ∀ fs : List Int, (∀ f ∈ fs, -5 ≤ f ∧ f ≤ 5) → absum fs ≤ 5 * fs.length
  | [], _ => by decide
  | f :: r, h => by
    have h1 := absum_le r fun x hx => h x (List.mem_cons_of_mem _ hx)
    have h2 := h f List.mem_cons_self
    have : ab f ≤ 5 := by unfold ab; split <;> omega
    show ab f + absum r ≤ 5 * ((r.length + 1 : Nat) : Int)
    omega
theorem tp_bd (d : Int) : 1 ≤ tp d ∧ tp d ≤ 4 := by
  unfold tp
  split
  · omega
  · split
    · omega
    · split <;> omega
theorem sg_zero (d : Int) : sg d 0 0 = 0 := by
  have : sgb d 0 0 = 0 := by unfold sgb; simp
  unfold sg
  rw [this, if_neg (by decide), if_neg (by decide)]
theorem kpt_at {d B : Int} {n : Nat} (hd : Root d) (hB : 0 ≤ B) : kpt d B B 0 n = true := by
  have k := tlK_or d n
  have kB : 0 ≤ tlK d n * B := Int.mul_nonneg (by omega) hB
  unfold kpt
  rw [show -1 * (0 : Int) = 0 from rfl, show tlI d n * 0 = 0 from Int.mul_zero _, show tlK d n * B - 0 - tlK d n * B = 0 by omega, sg_zero, Int.sub_zero]
  rw [decide_eq_true ((sg_nonneg hd).mpr (by rw [flr_zero]; omega)), decide_eq_true (Int.le_refl 0)]
  rfl
theorem kpt_off {d B : Int} {n : Nat} (hd : Root d) (hB : 0 ≤ B) : kpt d B (B + 1) 0 n = false := by
  have k := tlK_or d n
  unfold kpt
  have e : tlK d n * (B + 1) - tlI d n * 0 - tlK d n * B = tlK d n := by rw [Int.mul_add, Int.mul_zero]; omega
  have s1 : sg d (tlK d n) 0 = 1 := by rw [sg_pp hd (by omega) (by decide), if_pos (Or.inl (by omega))]
  rw [show -1 * (0 : Int) = 0 from rfl, e, s1, Bool.and_eq_false_iff]
  exact .inr (by decide)
end RF

namespace RF
def per (d : Int) : List Int := if d = 2 then [2] else if d = 3 then [1, 2] else if d = 5 then [1] else if d = 6 then [2, 4] else [3]
def ai (p : List Int) (i : Nat) : Int := p.getD (i % p.length) 0
theorem ai_add (p : List Int) (i : Nat) : ai p (i + p.length) = ai p i := by unfold ai; rw [Nat.add_mod_right]
theorem ai_pos {d : Int} (h : Root d) (i : Nat) : 1 ≤ ai (per d) i ∧ ai (per d) i ≤ 4 := by
  have h2 : i % 2 = 0 ∨ i % 2 = 1 := by omega
  rcases h with rfl | rfl | rfl | rfl | rfl <;> rcases h2 with e | e <;> simp [per, ai, e, Nat.mod_one]
def stp (p : List Int) : Nat → Int × Int
  | 0 => (0, 1)
  | n + 1 => ((stp p n).2, ai p n * (stp p n).2 + (stp p n).1)
def ptp (p : List Int) : Nat → Int × Int
  | 0 => (1, 0)
  | n + 1 => ((ptp p n).2, ai p n * (ptp p n).2 + (ptp p n).1)
def qn (p : List Int) (i : Nat) : Int := (stp p i).2
def pn (p : List Int) (i : Nat) : Int := (ptp p i).2
theorem stp_pos {p : List Int} (h : ∀ i, 1 ≤ ai p i) : ∀ i, 0 ≤ (stp p i).1 ∧ 1 ≤ (stp p i).2 ∧ (stp p i).1 ≤ (stp p i).2
  | 0 => by simp [stp]
  | n + 1 => by
    have ⟨a, b, c⟩ := stp_pos h n
    have h1 : 1 * (stp p n).2 ≤ ai p n * (stp p n).2 := Int.mul_le_mul_of_nonneg_right (h n) (by omega)
    refine ⟨?_, ?_, ?_⟩ <;> simp only [stp] <;> omega
theorem qn_pos {p : List Int} (h : ∀ i, 1 ≤ ai p i) (i : Nat) : 1 ≤ qn p i := (stp_pos h i).2.1
theorem qn_lt {p : List Int} (h : ∀ i, 1 ≤ ai p i) (i : Nat) : (i : Int) ≤ qn p i := by
  have : ∀ i : Nat, (i : Int) ≤ (stp p i).2 ∧ (1 ≤ i → 1 ≤ (stp p i).1) := by
    intro i
    induction i with
    | zero => simp [stp]
    | succ n ih =>
      have ⟨a, b, c⟩ := stp_pos h n
      have h1 : 1 * (stp p n).2 ≤ ai p n * (stp p n).2 := Int.mul_le_mul_of_nonneg_right (h n) (by omega)
      refine ⟨?_, fun _ => by simp only [stp]; omega⟩
      simp only [stp]
      rcases Nat.eq_zero_or_pos n with rfl | hp
      · simp; omega
      · have := ih.2 hp
        omega
  exact (this i).1
def bk (p : List Int) : Nat → Nat → Int × Int
  | _, 0 => (1, 0)
  | i, m + 1 => (ai p i * (bk p (i + 1) m).1 + (bk p (i + 1) m).2, (bk p (i + 1) m).1)
theorem bk_pos {p : List Int} (h : ∀ i, 1 ≤ ai p i) : ∀ m i, 1 ≤ (bk p i m).1 ∧ 0 ≤ (bk p i m).2 ∧ (1 ≤ m → 1 ≤ (bk p i m).2)
  | 0, i => by simp [bk]
  | m + 1, i => by
    have ⟨a, b, c⟩ := bk_pos h m (i + 1)
    have h1 : 1 * (bk p (i + 1) m).1 ≤ ai p i * (bk p (i + 1) m).1 := Int.mul_le_mul_of_nonneg_right (h i) (by omega)
    refine ⟨?_, ?_, fun _ => ?_⟩ <;> simp only [bk] <;> omega
theorem bk_le {p : List Int} (h : ∀ i, 1 ≤ ai p i) (m i : Nat) : (bk p i m).2 ≤ (bk p i m).1 := by
  cases m with
  | zero => simp [bk]
  | succ m =>
    have ⟨a, b, c⟩ := bk_pos h m (i + 1)
    have h1 : 1 * (bk p (i + 1) m).1 ≤ ai p i * (bk p (i + 1) m).1 := Int.mul_le_mul_of_nonneg_right (h i) (by omega)
    simp only [bk]; omega
/-- The form of a root at the even places and at the odd ones. -/
def frm (d : Int) (o : Nat) (x y : Int) : Int :=
  if d = 2 then (y + x) * (y + x) - 2 * (x * x)
  else if d = 5 then (2 * y + x) * (2 * y + x) - 5 * (x * x)
  else if d = 13 then (2 * y + 3 * x) * (2 * y + 3 * x) - 13 * (x * x)
  else if d = 3 then (if o = 0 then (y + x) * (y + x) - 3 * (x * x) else 2 * (y * y) + 2 * (x * y) - x * x)
  else (if o = 0 then (y + 2 * x) * (y + 2 * x) - 6 * (x * x) else 2 * (y * y) + 4 * (x * y) - x * x)
theorem frm_bk {d : Int} (hd : Root d) : ∀ m i, frm d (i % 2) (bk (per d) i m).1 (bk (per d) i m).2 * (if m % 2 = 0 then 1 else -1) < 0
  | 0, i => by
    have h2 : i % 2 = 0 ∨ i % 2 = 1 := by omega
    rcases hd with rfl | rfl | rfl | rfl | rfl <;> rcases h2 with e | e <;> simp [bk, frm, e]
  | m + 1, i => by
    have ih := frm_bk hd m (i + 1)
    have h2 : i % 2 = 0 ∨ i % 2 = 1 := by omega
    have h3 : m % 2 = 0 ∨ m % 2 = 1 := by omega
    generalize hx : (bk (per d) (i + 1) m).1 = x at ih
    generalize hy : (bk (per d) (i + 1) m).2 = y at ih
    simp only [bk, hx, hy]
    have e1 : frm d (i % 2) (ai (per d) i * x + y) x = - frm d ((i + 1) % 2) x y := by
      rcases hd with rfl | rfl | rfl | rfl | rfl
      · simp only [frm, ai, per, if_pos, List.length_cons, List.length_nil, Nat.zero_add, Nat.mod_one, List.getD_cons_zero]; grind
      · rcases h2 with e | e
        · have e' : (i + 1) % 2 = 1 := by omega
          simp [frm, ai, per, e, e']; grind
        · have e' : (i + 1) % 2 = 0 := by omega
          simp [frm, ai, per, e, e']; grind
      · simp [frm, ai, per, Nat.mod_one]; grind
      · rcases h2 with e | e
        · have e' : (i + 1) % 2 = 1 := by omega
          simp [frm, ai, per, e, e']; grind
        · have e' : (i + 1) % 2 = 0 := by omega
          simp [frm, ai, per, e, e']; grind
      · simp [frm, ai, per, Nat.mod_one]; grind
    rw [e1]
    rcases h3 with e | e
    · rw [if_pos e] at ih
      rw [if_neg (by omega)]; omega
    · rw [if_neg (by omega)] at ih
      rw [if_pos (by omega)]; omega
def sw (w : Nat → Int) : Nat → List Int → Int
  | _, [] => 0
  | i, d :: ds => d * w i + sw w (i + 1) ds
def Vs (p : List Int) : Int → Int → Nat → List Int → Int
  | _, _, _, [] => 0
  | x, y, i, d :: ds => d * y - Vs p y (x - ai p i * y) (i + 1) ds
def Bnd (p : List Int) : Nat → List Int → Prop
  | _, [] => True
  | i, d :: ds => (0 ≤ d ∧ d ≤ ai p i) ∧ Bnd p (i + 1) ds
theorem vs_bd {p : List Int} (h : ∀ i, 1 ≤ ai p i) : ∀ ds m i, Bnd p i ds → ds.length + 1 ≤ m → -(bk p i m).2 < Vs p (bk p i m).1 (bk p i m).2 i ds ∧ Vs p (bk p i m).1 (bk p i m).2 i ds < (bk p i m).1
  | [], m, i, _, hm => by
    have ⟨a, b, c⟩ := bk_pos h m i
    have := c (by simpa using hm)
    simp only [Vs]; omega
  | d :: ds, 0, i, _, hm => by simp at hm
  | d :: ds, m + 1, i, hB, hm => by
    have ⟨⟨d0, d1⟩, hB'⟩ := hB
    have ih := vs_bd h ds m (i + 1) hB' (by simpa using hm)
    have e : (bk p i (m + 1)).1 - ai p i * (bk p i (m + 1)).2 = (bk p (i + 1) m).2 := by simp only [bk]; omega
    have e2 : (bk p i (m + 1)).2 = (bk p (i + 1) m).1 := rfl
    simp only [Vs]
    rw [e, e2]
    have ⟨a, b, c⟩ := bk_pos h m (i + 1)
    have e3 : (bk p i (m + 1)).1 = ai p i * (bk p (i + 1) m).1 + (bk p (i + 1) m).2 := rfl
    rw [e3]
    have h1 : d * (bk p (i + 1) m).1 ≤ ai p i * (bk p (i + 1) m).1 := Int.mul_le_mul_of_nonneg_right d1 (by omega)
    have h2 : 0 ≤ d * (bk p (i + 1) m).1 := Int.mul_nonneg d0 (by omega)
    omega
/-- 0: all are zero; 1: the first place above 0 is even; -1: it is odd. -/
def lead : List Int → Int
  | [] => 0
  | d :: ds => if 0 < d then 1 else - lead ds
theorem vs_sg {p : List Int} (h : ∀ i, 1 ≤ ai p i) : ∀ ds m i, Bnd p i ds → ds.length + 1 ≤ m → (lead ds = 0 ∧ Vs p (bk p i m).1 (bk p i m).2 i ds = 0) ∨ (lead ds = 1 ∧ 0 < Vs p (bk p i m).1 (bk p i m).2 i ds) ∨ (lead ds = -1 ∧ Vs p (bk p i m).1 (bk p i m).2 i ds < 0)
  | [], m, i, _, hm => .inl ⟨rfl, rfl⟩
  | d :: ds, 0, i, _, hm => by simp at hm
  | d :: ds, m + 1, i, hB, hm => by
    have ⟨⟨d0, d1⟩, hB'⟩ := hB
    have ih := vs_sg h ds m (i + 1) hB' (by simpa using hm)
    have bd := vs_bd h ds m (i + 1) hB' (by simpa using hm)
    have e : (bk p i (m + 1)).1 - ai p i * (bk p i (m + 1)).2 = (bk p (i + 1) m).2 := by simp only [bk]; omega
    have e2 : (bk p i (m + 1)).2 = (bk p (i + 1) m).1 := rfl
    simp only [Vs, lead]
    rw [e, e2]
    have ⟨a, b, c⟩ := bk_pos h m (i + 1)
    by_cases hd : 0 < d
    · rw [if_pos hd]
      have h1 : 1 * (bk p (i + 1) m).1 ≤ d * (bk p (i + 1) m).1 := Int.mul_le_mul_of_nonneg_right (by omega) (by omega)
      refine .inr (.inl ⟨rfl, by omega⟩)
    · rw [if_neg hd]
      have : d = 0 := by omega
      subst this
      rw [Int.zero_mul]
      omega
theorem vs_lin {p : List Int} : ∀ ds (i : Nat) (e P Q : Int), Vs p (-e * ((stp p i).1 * P - (ptp p i).1 * Q)) (e * ((stp p i).2 * P - (ptp p i).2 * Q)) i ds = e * (sw (qn p) i ds * P - sw (pn p) i ds * Q)
  | [], i, e, P, Q => by simp [Vs, sw]
  | d :: ds, i, e, P, Q => by
    have ih := vs_lin (p := p) ds (i + 1) (-e) P Q
    simp only [Vs, sw]
    have e1 : -e * ((stp p i).1 * P - (ptp p i).1 * Q) - ai p i * (e * ((stp p i).2 * P - (ptp p i).2 * Q)) = -e * ((stp p (i + 1)).2 * P - (ptp p (i + 1)).2 * Q) := by
      simp only [stp, ptp]; grind
    have e2 : e * ((stp p i).2 * P - (ptp p i).2 * Q) = - -e * ((stp p (i + 1)).1 * P - (ptp p (i + 1)).1 * Q) := by
      simp only [stp, ptp]; grind
    rw [e1]
    have e3 : Vs p (e * ((stp p i).2 * P - (ptp p i).2 * Q)) (-e * ((stp p (i + 1)).2 * P - (ptp p (i + 1)).2 * Q)) (i + 1) ds = -e * (sw (qn p) (i + 1) ds * P - sw (pn p) (i + 1) ds * Q) := by
      rw [← ih, e2]
    rw [e3]
    simp only [qn, pn]; grind
theorem vs_tot {p : List Int} (ds : List Int) (P Q : Int) : Vs p Q P 0 ds = sw (qn p) 0 ds * P - sw (pn p) 0 ds * Q := by
  have := vs_lin (p := p) ds 0 1 P Q
  simp only [stp, ptp] at this
  have e1 : (-1 : Int) * (0 * P - 1 * Q) = Q := by omega
  have e2 : (1 : Int) * (1 * P - 0 * Q) = P := by omega
  rw [e1, e2, Int.one_mul] at this
  exact this
theorem sw_add (p : List Int) (ds : List Int) : ∀ i, sw (fun j => qn p (j + p.length)) i ds = (stp p p.length).2 * sw (qn p) i ds + (stp p p.length).1 * sw (pn p) i ds := by
  have h : ∀ j, stp p (j + p.length) = ((stp p p.length).2 * (stp p j).1 + (stp p p.length).1 * (ptp p j).1, (stp p p.length).2 * (stp p j).2 + (stp p p.length).1 * (ptp p j).2) := by
    intro j
    induction j with
    | zero => simp [stp, ptp]
    | succ n ih =>
      have e : n + 1 + p.length = (n + p.length) + 1 := by omega
      rw [e]
      simp only [stp, ptp, ih, ai_add]
      refine Prod.ext rfl ?_
      simp only []
      grind
  induction ds with
  | nil => intro i; simp [sw]
  | cons d ds ih =>
    intro i
    simp only [sw, ih (i + 1)]
    have : qn p (i + p.length) = (stp p p.length).2 * (stp p i).2 + (stp p p.length).1 * (ptp p i).2 := by unfold qn; rw [h]
    rw [this]; simp only [qn, pn]; grind
end RF

namespace RF
def bI (d : Int) : Int := if d = 6 then -2 else if d = 13 then -3 else -1
def bK (d : Int) : Int := if d = 5 then 2 else if d = 13 then 2 else 1
theorem frm0 {d : Int} (hd : Root d) (x y : Int) : frm d 0 x y = (bK d * y - bI d * x) * (bK d * y - bI d * x) - d * (x * x) := by
  rcases hd with rfl | rfl | rfl | rfl | rfl <;> simp [frm, bK, bI] <;> grind
theorem bK_pos {d : Int} (hd : Root d) : 1 ≤ bK d := by rcases hd with rfl | rfl | rfl | rfl | rfl <;> decide
theorem bI_neg {d : Int} (hd : Root d) : bI d ≤ -1 := by rcases hd with rfl | rfl | rfl | rfl | rfl <;> decide
theorem lead_zero {p : List Int} {w : Nat → Int} : ∀ ds i, Bnd p i ds → lead ds = 0 → sw w i ds = 0
  | [], _, _, _ => rfl
  | d :: ds, i, hB, h => by
    unfold lead at h
    by_cases hd : 0 < d
    · rw [if_pos hd] at h; omega
    · rw [if_neg hd] at h
      have : d = 0 := by have := hB.1.1; omega
      subst this
      simp only [sw, Int.zero_mul, Int.zero_add]
      exact lead_zero ds (i + 1) hB.2 (by omega)
theorem sw_nn {p : List Int} {w : Nat → Int} (hw : ∀ i, 0 ≤ w i) : ∀ ds i, Bnd p i ds → 0 ≤ sw w i ds
  | [], _, _ => by simp [sw]
  | d :: ds, i, hB => by
    have := Int.mul_nonneg hB.1.1 (hw i)
    have := sw_nn hw ds (i + 1) hB.2
    simp only [sw]; omega
theorem mul_sq (a b : Int) : (a * b) * (a * b) = (a * a) * (b * b) := by grind
theorem flb {d : Int} (hd : Root d) (ds : List Int) (hB : Bnd (per d) 0 ds) :
    sw (pn (per d)) 0 ds - (if lead ds = -1 then 1 else 0) = (bI d * sw (qn (per d)) 0 ds + rt (sw (qn (per d)) 0 ds * sw (qn (per d)) 0 ds * d)) / bK d := by
  have ha : ∀ i, 1 ≤ ai (per d) i := fun i => (ai_pos hd i).1
  have hk := bK_pos hd
  have hi := bI_neg hd
  have hdp := hd.pos
  by_cases h0 : lead ds = 0
  · rw [lead_zero ds 0 hB h0, lead_zero ds 0 hB h0, if_neg (by omega)]
    have : rt (0 * 0 * d) = 0 := by
      rw [show (0 * 0 * d : Int) = 0 by simp]
      exact (rt_uniq (by decide) (by decide) (by decide) (by decide)).symm
    rw [this]; simp
  · have n0 : 0 ≤ sw (qn (per d)) 0 ds := sw_nn (fun i => by have := qn_pos ha i; omega) ds 0 hB
    have key : ∀ m, ds.length + 1 ≤ m → (sw (pn (per d)) 0 ds - (if lead ds = -1 then 1 else 0)) * (bk (per d) 0 m).1 < sw (qn (per d)) 0 ds * (bk (per d) 0 m).2 ∧ sw (qn (per d)) 0 ds * (bk (per d) 0 m).2 < (sw (pn (per d)) 0 ds - (if lead ds = -1 then 1 else 0) + 1) * (bk (per d) 0 m).1 := by
      intro m hm
      have b1 := vs_bd ha ds m 0 hB hm
      have b2 := vs_sg ha ds m 0 hB hm
      rw [vs_tot] at b1 b2
      have le := bk_le ha m 0
      generalize (bk (per d) 0 m).1 = Q at *
      generalize (bk (per d) 0 m).2 = P at *
      generalize sw (pn (per d)) 0 ds = s at *
      generalize sw (qn (per d)) 0 ds = n at *
      rcases b2 with ⟨e, _⟩ | ⟨e, h⟩ | ⟨e, h⟩
      · exact absurd e h0
      · rw [e, if_neg (by decide)]
        rw [Int.sub_zero, Int.add_mul]
        omega
      · rw [e, if_pos rfl, Int.sub_mul, Int.sub_add_cancel]
        omega
    generalize sw (pn (per d)) 0 ds - (if lead ds = -1 then 1 else 0) = F at *
    generalize sw (qn (per d)) 0 ds = n at *
    have nn : 0 ≤ n * n * d := Int.mul_nonneg (Int.mul_nonneg n0 n0) (by omega)
    have t0 := rt_nn (n * n * d)
    have t1 := rt_le nn
    have t2 := rt_lt nn
    generalize rt (n * n * d) = t at *
    have h1 : bK d * F - bI d * n ≤ t := by
      refine Int.not_lt.mp fun hlt => ?_
      have ⟨k1, _⟩ := key (2 * (ds.length + 1)) (by omega)
      have f1 := frm_bk hd (2 * (ds.length + 1)) 0
      rw [if_pos (by omega), Nat.zero_mod, frm0 hd] at f1
      have ⟨q1, p0, _⟩ := bk_pos ha (2 * (ds.length + 1)) 0
      generalize (bk (per d) 0 (2 * (ds.length + 1))).1 = Q at *
      generalize (bk (per d) 0 (2 * (ds.length + 1))).2 = P at *
      generalize bK d = k at *
      generalize bI d = i at *
      have e1 : (k * F - i * n) * Q < n * (k * P - i * Q) := by
        have := Int.mul_lt_mul_of_pos_left k1 (show 0 < k by omega)
        have e : n * (k * P - i * Q) = k * (n * P) - i * n * Q := by grind
        have e' : (k * F - i * n) * Q = k * (F * Q) - i * n * Q := by grind
        omega
      have e2 : ((k * F - i * n) * Q) * ((k * F - i * n) * Q) < (n * (k * P - i * Q)) * (n * (k * P - i * Q)) := sq_lt (Int.mul_nonneg (by omega) (by omega)) e1
      rw [mul_sq, mul_sq] at e2
      have e3 : (n * n) * ((k * P - i * Q) * (k * P - i * Q)) ≤ (n * n) * (d * (Q * Q)) := Int.mul_le_mul_of_nonneg_left (by omega) (Int.mul_nonneg n0 n0)
      have e4 : (n * n) * (d * (Q * Q)) = (n * n * d) * (Q * Q) := by grind
      have e5 : (k * F - i * n) * (k * F - i * n) < n * n * d := Int.lt_of_mul_lt_mul_right (by omega) (sq_nonneg Q)
      have e6 : (t + 1) * (t + 1) ≤ (k * F - i * n) * (k * F - i * n) := sq_le (by omega) (by omega)
      omega
    have h2 : t < bK d * (F + 1) - bI d * n := by
      have ⟨_, k1⟩ := key (2 * (ds.length + 1) + 1) (by omega)
      have f1 := frm_bk hd (2 * (ds.length + 1) + 1) 0
      rw [if_neg (by omega), Nat.zero_mod, frm0 hd] at f1
      have ⟨q1, p0, _⟩ := bk_pos ha (2 * (ds.length + 1) + 1) 0
      generalize (bk (per d) 0 (2 * (ds.length + 1) + 1)).1 = Q at *
      generalize (bk (per d) 0 (2 * (ds.length + 1) + 1)).2 = P at *
      generalize bK d = k at *
      generalize bI d = i at *
      have e1 : n * (k * P - i * Q) < (k * (F + 1) - i * n) * Q := by
        have := Int.mul_lt_mul_of_pos_left k1 (show 0 < k by omega)
        have e : n * (k * P - i * Q) = k * (n * P) - i * n * Q := by grind
        have e' : (k * (F + 1) - i * n) * Q = k * ((F + 1) * Q) - i * n * Q := by grind
        omega
      have g0 : 0 ≤ k * P - i * Q := by
        have := Int.mul_nonneg (show 0 ≤ k by omega) p0
        have := Int.mul_nonneg (show 0 ≤ -i by omega) (show 0 ≤ Q by omega)
        rw [Int.neg_mul] at this
        omega
      have g1 := Int.mul_nonneg n0 g0
      have gp : 0 < k * (F + 1) - i * n := Int.not_le.mp fun hle => by
        have := Int.mul_nonneg (show 0 ≤ -(k * (F + 1) - i * n) by omega) (show 0 ≤ Q by omega)
        rw [Int.neg_mul] at this
        omega
      have e2 := sq_lt g1 e1
      rw [mul_sq, mul_sq] at e2
      have e3 : (n * n) * (d * (Q * Q)) ≤ (n * n) * ((k * P - i * Q) * (k * P - i * Q)) := Int.mul_le_mul_of_nonneg_left (by omega) (Int.mul_nonneg n0 n0)
      have e4 : (n * n) * (d * (Q * Q)) = (n * n * d) * (Q * Q) := by grind
      have e5 : n * n * d < (k * (F + 1) - i * n) * (k * (F + 1) - i * n) := Int.lt_of_mul_lt_mul_right (by omega) (sq_nonneg Q)
      exact lt_of_sq (by omega) (by omega)
    symm
    refine (Int.ediv_emod_unique (a := bI d * n + t) (b := bK d) (r := bI d * n + t - bK d * F) (q := F) (by omega)).mpr ⟨by omega, by omega, ?_⟩ |>.1
    rw [Int.mul_add] at h2; omega
/-- The digits of a number below q(m), the least place first. -/
def dg (p : List Int) : Nat → Int → List Int
  | 0, _ => []
  | m + 1, r => dg p m (r % qn p m) ++ [r / qn p m]
def Can (p : List Int) : Nat → Int → List Int → Prop
  | _, _, [] => True
  | i, lo, d :: ds => (0 ≤ d ∧ d ≤ ai p i ∧ (i = 0 ∨ lo ≠ 0 → d ≤ ai p i - 1)) ∧ Can p (i + 1) d ds
theorem can_bnd {p : List Int} : ∀ ds i lo, Can p i lo ds → Bnd p i ds
  | [], _, _, _ => trivial
  | _ :: ds, i, _, h => ⟨⟨h.1.1, h.1.2.1⟩, can_bnd ds (i + 1) _ h.2⟩
theorem can_snoc {p : List Int} {d : Int} : ∀ l i lo, Can p i lo l → (0 ≤ d ∧ d ≤ ai p (i + l.length) ∧ (i + l.length = 0 ∨ l.getLastD lo ≠ 0 → d ≤ ai p (i + l.length) - 1)) → Can p i lo (l ++ [d])
  | [], i, lo, _, h => ⟨by simpa using h, trivial⟩
  | c :: l, i, lo, hc, h => by
    refine ⟨hc.1, can_snoc l (i + 1) c hc.2 ?_⟩
    have e : i + (c :: l).length = i + 1 + l.length := by simp; omega
    rw [e] at h
    have e2 : (c :: l).getLastD lo = l.getLastD c := by cases l <;> rfl
    rw [e2] at h
    exact h
theorem sw_snoc {w : Nat → Int} {d : Int} : ∀ l i, sw w i (l ++ [d]) = sw w i l + d * w (i + l.length)
  | [], i => by simp [sw]
  | c :: l, i => by
    have e : i + (c :: l).length = i + 1 + l.length := by simp; omega
    rw [e]
    simp only [List.cons_append, sw, sw_snoc l (i + 1)]
    omega
theorem dg_len {p : List Int} : ∀ m r, (dg p m r).length = m
  | 0, _ => rfl
  | m + 1, r => by simp [dg, dg_len m]
theorem dg_ok {p : List Int} (h : ∀ i, 1 ≤ ai p i) : ∀ m r, 0 ≤ r → r < qn p m → Can p 0 0 (dg p m r) ∧ sw (qn p) 0 (dg p m r) = r
  | 0, r, r0, r1 => ⟨trivial, by
      have : qn p 0 = 1 := rfl
      simp only [dg, sw]; omega⟩
  | m + 1, r, r0, r1 => by
    have q1 := qn_pos h m
    have m0 := Int.emod_nonneg r (show qn p m ≠ 0 by omega)
    have m1 := Int.emod_lt_of_pos r (show 0 < qn p m by omega)
    have ⟨c, s⟩ := dg_ok h m (r % qn p m) m0 m1
    have de := Int.emod_add_mul_ediv r (qn p m)
    have d0 : 0 ≤ r / qn p m := Int.ediv_nonneg r0 (by omega)
    have ex : qn p (m + 1) = ai p m * qn p m + (stp p m).1 := rfl
    have st := stp_pos h m
    have st3 : (stp p m).1 ≤ qn p m := st.2.2
    have d1 : r / qn p m ≤ ai p m := by
      refine Int.not_lt.mp fun hl => ?_
      have := Int.mul_le_mul_of_nonneg_left (show ai p m + 1 ≤ r / qn p m by omega) (show 0 ≤ qn p m by omega)
      rw [Int.mul_add] at this
      have e : qn p m * ai p m = ai p m * qn p m := Int.mul_comm _ _
      omega
    refine ⟨can_snoc _ 0 0 c ?_, ?_⟩
    · rw [dg_len, Nat.zero_add]
      refine ⟨d0, d1, fun hh => ?_⟩
      refine Int.not_lt.mp fun hl => ?_
      have e : r / qn p m = ai p m := by omega
      rw [e] at de
      have e : qn p m * ai p m = ai p m * qn p m := Int.mul_comm _ _
      have lt : r % qn p m < (stp p m).1 := by omega
      cases m with
      | zero => simp only [stp] at lt; omega
      | succ k =>
        have e1 : (stp p (k + 1)).1 = qn p k := rfl
        rw [e1] at lt
        rcases hh with hh | hh
        · omega
        · refine hh ?_
          simp only [dg]
          rw [List.getLastD_concat]
          exact Int.ediv_eq_zero_of_lt m0 lt
    · simp only [dg]
      rw [sw_snoc, s, dg_len, Nat.zero_add]
      have e : qn p m * (r / qn p m) = r / qn p m * qn p m := Int.mul_comm _ _
      omega
end RF

namespace RF
theorem qn_mono1 {p : List Int} (h : ∀ i, 1 ≤ ai p i) (i : Nat) : qn p i ≤ qn p (i + 1) := (stp_pos h (i + 1)).2.2
theorem qn_mono {p : List Int} (h : ∀ i, 1 ≤ ai p i) {i j : Nat} (hij : i ≤ j) : qn p i ≤ qn p j := by
  induction j with
  | zero => have : i = 0 := by omega
            subst this; omega
  | succ j ih =>
    rcases Nat.lt_or_ge i (j + 1) with hl | hg
    · have := ih (by omega)
      have := qn_mono1 h j
      omega
    · have : i = j + 1 := by omega
      subst this; omega
theorem qn_dbl {p : List Int} (h : ∀ i, 1 ≤ ai p i) (i : Nat) : 2 * qn p i ≤ qn p (i + 2) := by
  have h1 : 1 * (stp p (i + 1)).2 ≤ ai p (i + 1) * (stp p (i + 1)).2 := Int.mul_le_mul_of_nonneg_right (h (i + 1)) (by have := (stp_pos h (i + 1)).2.1; omega)
  have e : qn p (i + 2) = ai p (i + 1) * (stp p (i + 1)).2 + (stp p i).2 := rfl
  have := qn_mono1 h i
  rw [e]
  unfold qn at *
  omega
theorem qn_pow {p : List Int} (h : ∀ i, 1 ≤ ai p i) : ∀ i : Nat, (2 : Int) ^ i ≤ qn p (2 * i)
  | 0 => by simp [qn, stp]
  | i + 1 => by
    have := qn_pow h i
    have := qn_dbl h (2 * i)
    rw [Int.pow_succ]
    have e : 2 * (i + 1) = 2 * i + 2 := by omega
    rw [e]; omega
theorem steps_le {p : List Int} (h : ∀ i, 1 ≤ ai p i) {n : Int} (hn : n < 2 ^ 133) {m : Nat} (hm : qn p m ≤ n) : m < 266 := by
  refine Nat.not_le.mp fun hl => ?_
  have h1 := qn_pow h 133
  have h2 := qn_mono h (show 2 * 133 ≤ m by omega)
  omega
theorem qn_bd {p : List Int} (h : ∀ i, 1 ≤ ai p i ∧ ai p i ≤ 4) (i : Nat) : qn p i ≤ 8 ^ i ∧ (stp p i).1 ≤ 8 ^ i := by
  induction i with
  | zero => simp [qn, stp]
  | succ i ih =>
    obtain ⟨a, b⟩ := ih
    have ⟨s1, s2, s3⟩ := stp_pos (fun i => (h i).1) i
    have h1 : ai p i * (stp p i).2 ≤ 4 * (stp p i).2 := Int.mul_le_mul_of_nonneg_right (h i).2 (by omega)
    have e : qn p (i + 1) = ai p i * (stp p i).2 + (stp p i).1 := rfl
    have e2 : (stp p (i + 1)).1 = (stp p i).2 := rfl
    rw [Int.pow_succ, e, e2]
    unfold qn at a
    omega
theorem qn_bd' {p : List Int} (h : ∀ i, 1 ≤ ai p i ∧ ai p i ≤ 4) {i : Nat} (hi : i ≤ 280) : Bd 841 (qn p i) := by
  have h1 := (qn_bd h i).1
  have h2 := qn_pos (fun i => (h i).1) i
  have h3 : (8 : Int) ^ i ≤ 8 ^ 280 := by exact_mod_cast Nat.pow_le_pow_right (by decide : 0 < 8) hi
  unfold Bd
  have h4 : ((qn p i).natAbs : Int) < 2 ^ 841 := by
    have : (8 : Int) ^ 280 < 2 ^ 841 := by decide +kernel
    omega
  exact_mod_cast h4
end RF

namespace RF
open PySem L2 PyProof.Rows
/-! ### a written dict with int keys: its values; tuples of the module -/
def IDct (K : PySem.W.Frag) (d : Addr) (i : Int) (v : V) : Prop :=
  ∃ es n ks u, K.lookup d = some ⟨.type "dict", none, .dict es n, #[]⟩ ∧ okE es.toList ks = true ∧ findBy Value.isInt es i = some u ∧ RelV v u
def rIxI (K : PySem.W.Frag) : R2 := fun x y H Q => ∃ p i v, x = .ref p ∧ y = .int i ∧ IDct K p i v ∧ Q v H
theorem ix_intd {X : Cx} : IxR X (rIxI X.K) := by
  intro value slice pins s σ H x y v u Q I rx ry h hs
  obtain ⟨p, i, r, rfl, rfl, ⟨es, n, ks, u0, hl, he, e, ru⟩, q⟩ := h
  obtain rfl : v = Value.ref p := rx
  obtain ⟨t, rfl⟩ := ry
  have hm : s.heap.MapOf (intKind X.prog X.w) p (fun k => findBy Value.isInt es k) := ⟨_, es, n, I.kIn _ _ hl, ⟨rfl, rfl, rfl⟩, rfl, fun e hh => by
    obtain ⟨k, t, _, e1, e2⟩ := okE_mem he e (Array.mem_toList_iff.mpr hh)
    exact ⟨k, by rw [e1]; show Value.isInt k (.int k t) = true; simp [Value.isInt], e2⟩, fun _ => rfl⟩
  exact tail_any hm.typeIs slot_dict_getitem.lookup (wpAny_getItem_of (k := i) (by show Value.isInt i (.int i t) = true; simp [Value.isInt]) hm e ⟨r, H, I.tok _, ru, q⟩) hs
def TupI (K : PySem.W.Frag) (t : Addr) (p : List Int) : Prop :=
  ∃ (o : Obj) (its : Array Value) (n : Nat), K.lookup t = some o ∧ o.cls = .type "tuple" ∧ o.data = .seq its n ∧ its.size ≤ sizeLine ∧ Vals (p.map V.int) its.toList
theorem TupI.sq {K : PySem.W.Frag} {H : Hp} {t : Addr} {p : List Int} (h : TupI K t p) : SqT K H t (p.map V.int) := .inr h
/-- a period: one to three parts, from 1 to 4 -/
structure Per (p : List Int) : Prop where
  len : 0 < p.length ∧ p.length ≤ 3
  bd : ∀ i, 1 ≤ ai p i ∧ ai p i ≤ 4
theorem Per.one {p : List Int} (h : Per p) (i : Nat) : 1 ≤ ai p i := (h.bd i).1
theorem ai_at {p : List Int} (h : Per p) (i : Nat) : (p.map V.int)[i % p.length]? = some (.int (ai p i)) := by
  have hl : i % p.length < p.length := Nat.mod_lt _ h.len.1
  rw [List.getElem?_map, List.getElem?_eq_getElem hl]
  unfold ai
  rw [List.getD_eq_getElem?_getD, List.getElem?_eq_getElem hl]
  rfl
theorem ai_atI {p : List Int} (h : Per p) (i : Nat) : atI (p.map V.int) ((i : Int) % (((p.map V.int).length : Nat) : Int)) = some (.int (ai p i)) := by
  rw [List.length_map, ← Int.natCast_emod]
  exact atI_nat (ai_at h i)
theorem sm_upd {H H1 : Hp} {a : Addr} {o : HO} (s : Same H H1) (h : H a = none) : Same H (upd H1 a o) := fun b u e => by
  have hne : b ≠ a := fun z => by rw [z, h] at e; cases e
  rw [upd_ne hne]
  exact s b u e
def spPart (K : PySem.W.Frag) : Sp := fun vs H Q _ => ∃ (t : Addr) (p : List Int) (i : Nat), vs = [.ref t, .int (i : Int)] ∧ TupI K t p ∧ Per p ∧ Q (.int (ai p i)) H
def qs (p : List Int) (m : Nat) : List V := (List.range m).map fun i => V.int (qn p i)
def spSteps (K : PySem.W.Frag) : Sp := fun vs H Q _ => ∃ (t : Addr) (p : List Int) (n : Int), vs = [.ref t, .int n] ∧ TupI K t p ∧ Per p ∧ 0 ≤ n ∧ n < 2 ^ 133 ∧
  ∀ m a H', m ≤ 266 → n < qn p m → H a = none → H' a = some (.lst (qs p m)) → Same H H' → Q (.ref a) H'
def spCan (K : PySem.W.Frag) : Sp := fun vs H Q _ => ∃ (t : Addr) (p : List Int) (i : Nat) (d lo : Int), vs = [.ref t, .int (i : Int), .int d, .int lo] ∧ TupI K t p ∧ Per p ∧
  Q (.bl (btw (.int d) 0 (if i = 0 ∨ lo ≠ 0 then ai p i - 1 else ai p i))) H
section
variable {P : Program} {w : World} {K : PySem.W.Frag} {mg : Str → Option Value} {base : Heap}
abbrev s_part_above : Stmt := top 24
abbrev n_part_above : List Str := ["period", "place"]
theorem sc_part_above : FnScope n_part_above ["period", "place"] (defScope s_part_above) := ⟨rfl, rfl, rfl, by decide +kernel, rfl, by decide +kernel, by decide +kernel⟩
theorem ok_part {f : Addr} {fd : FuncData} {k : Nat} (F : Fun K "_part_above" "_part_above" s_part_above f fd) (T : mg "len" = none) : FnOk P w K mg base CX0 (k + 1) f fd ["period", "place"] (spPart K) := by
  refine F.ok sc_part_above (fun vs H Q E h => ?_) (fun cdv A outer s H vs Q E hr h => ?_)
  · obtain ⟨t, p, i, rfl, _⟩ := h
    rfl
  · obtain ⟨t, p, i, rfl, hT, hp, q⟩ := h
    refine ⟨_, (pss_one (ps_ret (pe_ix ix_tup (pv 0) (pe_op op_mod (pv 1) (pe_callB call_len_seq (by rfl) T PySem.boot_len (pa_cons (pv 0) pa_nil))) (fun _ _ => rfl)))), ?_⟩
    have hl := hp.len
    exact ⟨_, rfl, _, rfl, _, rfl, t, _, rfl, .inr hT.sq, _, _, rfl, rfl, (by show (0 : Int) < (((p.map V.int).length : Nat) : Int); rw [List.length_map]; omega), t, _, _, _, rfl, rfl, hT.sq, ai_atI hp i, q⟩
abbrev s_steps_within : Stmt := top 26
abbrev n_steps_within : List Str := ["period", "number", "steps", "before", "here", "part"]
theorem sc_steps_within : FnScope n_steps_within ["period", "number"] (defScope s_steps_within) := ⟨rfl, rfl, rfl, by decide +kernel, rfl, by decide +kernel, by decide +kernel⟩
theorem qs_len (p : List Int) (m : Nat) : (qs p m).length = m := by simp [qs]
theorem qs_snoc (p : List Int) (m : Nat) : qs p m ++ [.int (qn p m)] = qs p (m + 1) := by simp [qs, List.range_succ]
theorem ok_steps {f : Addr} {fd : FuncData} {k : Nat} (F : Fun K "_steps_within" "_steps_within" s_steps_within f fd) (T : mg "len" = none) (D1 : Df P w K mg base k "_part_above" ["period", "place"] (spPart K)) : FnOk P w K mg base CX0 (k + 1) f fd ["period", "number"] (spSteps K) := by
  refine F.ok sc_steps_within (fun vs H Q E h => ?_) (fun cdv A outer s H vs Q E hr h => ?_)
  · obtain ⟨t, p, n, rfl, _⟩ := h
    rfl
  · obtain ⟨t, p, n, rfl, hT, hp, n0, n1, q⟩ := h
    have nd := sc_steps_within.nd
    refine ⟨_, (pss_cons (ps_set (i := 2) nd rfl (Or.inl rfl) (pe_lst pa_nil))
      (pss_cons (ps_asg (pe_tup (pa_cons pe_int (pa_cons pe_int pa_nil))) (pg_tup rfl (pgs_cons (pg_name (i := 3) nd rfl (Or.inl rfl)) (pgs_cons (pg_name (i := 4) nd rfl (Or.inl rfl)) pgs_nil))))
      (pss_cons (ps_while PassesOwn.never (pt_cmpR op_le (pv 4) (pv 1) (nomark _))
      (pss_cons (ps_set (i := 5) nd rfl (Or.inl rfl) (pe_callD D1 hr (Nat.le_refl _) (pa_cons (pv 0) (pa_cons (pe_callB call_len_seq (by rfl) T PySem.boot_len (pa_cons (pv 2) pa_nil)) pa_nil))))
        (pss_cons (ps_expr (pe_bm PySem.F.plainAttrs_list PySem.F.slot_list_append PySem.F.type_list_append mt_append (pv 2) (pa_cons (pv 4) pa_nil)))
        (pss_one (ps_par (i := 3) (j := 4) rfl nd rfl rfl (by decide) rfl rfl (pa_cons (pv 4) (pa_cons (pe_op op_add (pe_op op_mulW (pv 5) (pv 4)) (pv 3)) pa_nil)) (by kernel_rfl))))))
      (pss_one (ps_ret (pv 2)))))), ?_⟩
    refine ⟨by show 0 ≤ sizeLine; decide, fun a ha => ?_⟩
    refine ⟨by show 2 ≤ sizeLine; decide, fun b hb => ⟨b, _, rfl, SqT.of upd_same, rfl, _, _, rfl, _, _, rfl, rfl, ?_⟩⟩
    refine while_by (fun σ H' => ∃ (m : Nat) (v : Option V), σ = [some (.ref t), some (.int n), some (.ref a), some (.int (stp p m).1), some (.int (qn p m)), v] ∧ m ≤ 266 ∧ H' a = some (.lst (qs p m)) ∧ Same H H')
      (fun σ _ => match σ with | [_, _, _, some (.int x), some (.int y), _] => (2 * n + 2 - x - y).toNat | _ => 0)
      ⟨0, none, rfl, by decide, by rw [upd_ne (ne_new hb).symm, upd_same]; rfl, sNew (sNew (Same.refl _) ha) hb⟩ ?_ ?_
    · rintro σ H1 ⟨m, v, rfl, hm, h1, sm⟩
      have sp := stp_pos hp.one m
      refine ⟨_, rfl, _, rfl, _, _, rfl, rfl, _, rfl, ite2 (fun h => ?_) (fun h => ?_)⟩
      · have hle : qn p m ≤ n := of_decide_eq_true h
        have hm1 := steps_le hp.one n1 hle
        refine ⟨_, rfl, _, rfl, a, _, rfl, .inl (SqL.of h1), t, p, (qs p m).length, rfl, hT, hp, ?_⟩
        rw [qs_len]
        refine ⟨_, rfl, .inl ⟨rfl, _, SqL.of h1⟩, _, rfl, a, _, _, rfl, rfl, h1, by rw [qs_len, sizeLine_eq]; omega, ?_⟩
        rw [qs_snoc]
        refine ⟨_, rfl, _, rfl, _, rfl, _, _, rfl, rfl, mulOk (n := 3) (m := 841) (Nat.lt_of_le_of_lt (show (ai p m).natAbs ≤ 4 by have := hp.bd m; omega) (by decide)) (qn_bd' hp.bd (by omega)) (by decide) (by decide) (by decide), _, rfl, _, _, rfl, rfl, _, _, rfl, ?_⟩
        refine ⟨⟨m + 1, _, rfl, by omega, upd_same, ?_⟩, ?_⟩
        · exact sm_upd sm ha
        · show (2 * n + 2 - qn p m - (ai p m * qn p m + (stp p m).1)).toNat < (2 * n + 2 - (stp p m).1 - qn p m).toNat
          have : 1 * qn p m ≤ ai p m * qn p m := Int.mul_le_mul_of_nonneg_right (hp.one m) (by have := qn_pos hp.one m; omega)
          have := qn_pos hp.one m
          have e : (stp p m).2 = qn p m := rfl
          rw [e] at sp
          omega
      · have hgt : n < qn p m := by
          have : ¬ qn p m ≤ n := fun z => h (decide_eq_true z)
          omega
        exact ⟨_, rfl, q m a H1 hm hgt ha h1 sm⟩
    · rintro σ H1 Q1 Q2 hq ⟨v, e1, v2, e2, i, j, e3, e4, b, e5, q⟩
      exact ⟨v, e1, v2, e2, i, j, e3, e4, b, e5, hq _ _ q⟩
abbrev s_can_stand : Stmt := top 27
abbrev n_can_stand : List Str := ["period", "place", "digit", "lower", "most"]
theorem sc_can_stand : FnScope n_can_stand ["period", "place", "digit", "lower"] (defScope s_can_stand) := ⟨rfl, rfl, rfl, by decide +kernel, rfl, by decide +kernel, by decide +kernel⟩
theorem ok_can {f : Addr} {fd : FuncData} {k : Nat} (F : Fun K "can_stand" "can_stand" s_can_stand f fd) (D1 : Df P w K mg base k "_part_above" ["period", "place"] (spPart K)) (D2 : Df P w K mg base k "is_between" ["value", "low", "high"] (spBtw K)) :
    FnOk P w K mg base CX0 (k + 1) f fd ["period", "place", "digit", "lower"] (spCan K) := by
  refine F.ok sc_can_stand (fun vs H Q E h => ?_) (fun cdv A outer s H vs Q E hr h => ?_)
  · obtain ⟨t, p, i, d, lo, rfl, _⟩ := h
    rfl
  · obtain ⟨t, p, i, d, lo, rfl, hT, hp, q⟩ := h
    have nd := sc_can_stand.nd
    refine ⟨_, (pss_cons (ps_set (i := 4) nd rfl (Or.inl rfl) (pe_callD D1 hr (Nat.le_refl _) (pa_cons (pv 0) (pa_cons (pv 1) pa_nil))))
      (C8.pss_cut (ps_if (pw_or (pt_cmpR op_eq (pv 1) pe_int (nomark _)) (pw_or1 (pt_cmpR op_ne (pv 3) pe_int (nomark _)))).pt
      (pss_one (ps_set (i := 4) nd rfl (Or.inl rfl) (pe_op op_sub (pv 4) pe_int)))
      pss_nil)
      (pss_one (ps_ret (pe_callD D2 hr (Nat.le_refl _) (pa_cons (pv 2) (pa_cons pe_int (pa_cons (pv 4) pa_nil)))))))), ?_⟩
    refine ⟨_, rfl, _, rfl, t, p, i, rfl, hT, hp, ?_⟩
    refine ⟨fun σ' H' => σ' = [some (.ref t), some (.int (i : Int)), some (.int d), some (.int lo), some (.int (if i = 0 ∨ lo ≠ 0 then ai p i - 1 else ai p i))] ∧ H' = H, ?_, ?_⟩
    · refine ⟨_, rfl, rfl, _, rfl, ?_⟩
      by_cases h0 : i = 0
      · refine iteP (by subst h0; rfl) ?_
        refine ⟨_, rfl, _, _, rfl, rfl, ?_, rfl⟩
        rw [if_pos (Or.inl h0)]
        rfl
      · refine iteN (nd_of (fun z => h0 (by cases z; rfl))) ?_
        refine ⟨_, rfl, rfl, _, rfl, ?_⟩
        by_cases h1 : lo = 0
        · refine iteN (by subst h1; simp) ?_
          refine ⟨?_, rfl⟩
          rw [if_neg (by rintro (z | z); exact h0 z; exact z h1)]
          rfl
        · refine iteP (by simpa using h1) ?_
          refine ⟨_, rfl, _, _, rfl, rfl, ?_, rfl⟩
          rw [if_pos (Or.inr h1)]
          rfl
    · rintro σ' H1 ⟨rfl, rfl⟩
      exact ⟨_, rfl, _, rfl, _, .int d, _, _, rfl, rfl, q⟩
end
end RF

namespace RF
open PySem L2 PyProof.Rows
theorem kRQ : ¬ (("_root" : Str) = "_period") := by decide +kernel
def ffl (d : Int) (t : Addr) : List (Str × V) := putF "_period" (.ref t) (putF "_root" (.int d) [])
theorem ffl_root (d : Int) (t : Addr) : (ffl d t).lookup ("_root" : Str) = some (.int d) := by
  unfold ffl
  rw [lookup_putF, if_neg kRQ, lookup_putF, if_pos rfl]
theorem ffl_per (d : Int) (t : Addr) : (ffl d t).lookup ("_period" : Str) = some (.ref t) := by
  unfold ffl
  rw [lookup_putF, if_pos rfl]
theorem ffl_no (d : Int) (t : Addr) {m : Str} (h1 : ¬ m = "_period") (h2 : ¬ m = "_root") : (ffl d t).lookup m = none := by
  unfold ffl
  rw [lookup_putF, if_neg h1, lookup_putF, if_neg h2]
  all_goals rfl
/-- at p: the field of the root d -/
def FldAt (K : PySem.W.Frag) (H : Hp) (C p : Addr) (d : Int) : Prop := ∃ dx t, H p = some (.ins C dx (ffl d t)) ∧ TupI K t (per d)
theorem FldAt.same {K : PySem.W.Frag} {H H' : Hp} {C p : Addr} {d : Int} (s : Same H H') (h : FldAt K H C p d) : FldAt K H' C p d := by
  obtain ⟨dx, t, h1, h2⟩ := h
  exact ⟨dx, t, s _ _ h1, h2⟩
theorem FldAt.kp {K : PySem.W.Frag} {H H' : Hp} {C p b : Addr} {d : Int} (B : Bag H b) (kp : Kp b H H') (h : FldAt K H C p d) : FldAt K H' C p d := by
  obtain ⟨dx, t, h1, h2⟩ := h
  exact ⟨dx, t, kp.at_ B h1 (fun _ z => by cases z), h2⟩
theorem FldAt.ins {K : PySem.W.Frag} {H : Hp} {C p : Addr} {d : Int} (h : FldAt K H C p d) : ∃ dx fs, H p = some (.ins C dx fs) ∧ ∀ m : Str, ¬ m = "_period" → ¬ m = "_root" → fs.lookup m = none := by
  obtain ⟨dx, t, h1, _⟩ := h
  exact ⟨dx, _, h1, fun m a b => ffl_no _ _ a b⟩
theorem perOk {d : Int} (h : Root d) : Per (per d) := ⟨by rcases h with rfl | rfl | rfl | rfl | rfl <;> decide, ai_pos h⟩
structure TxF (K : PySem.W.Frag) (mg : Str → Option Value) (C : Addr) : Prop where
  cl : Cls K C
  nR : NoAttr K C "_root"
  nP : NoAttr K C "_period"
  mg : mg "Field" = some (.ref C)
def PerK (K : PySem.W.Frag) (pd : Addr) : Prop := ∀ d, Root d → ∃ t, IDct K pd d (.ref t) ∧ TupI K t (per d)
def BasK (K : PySem.W.Frag) (pd : Addr) : Prop := ∀ d, Root d → ∃ t, IDct K pd d (.ref t) ∧ TupI K t [bI d, 1, bK d]
def spFInit (K : PySem.W.Frag) (C : Addr) : Sp := fun vs H Q _ => ∃ (p dx : Addr) (d : Int), vs = [.ref p, .int d] ∧ H p = some (.ins C dx []) ∧ Root d ∧
  ∀ H', FldAt K H' C p d → (∀ b o, H b = some o → b ≠ p → H' b = some o) → Q .non H'
def spNum (K : PySem.W.Frag) : Sp := fun vs H Q _ => ∃ (v : V) (d : D), vs = [v] ∧ Rp K H v d ∧ Q (.bl (btw d 0 (10 ^ 40 - 1))) H
def spDigits (K : PySem.W.Frag) (C : Addr) : Sp := fun vs H Q _ => ∃ (p : Addr) (d n : Int), vs = [.ref p, .int n] ∧ FldAt K H C p d ∧ Root d ∧ 0 ≤ n ∧ n < 10 ^ 40 ∧
  ∀ m a H', m ≤ 266 → n < qn (per d) m → H a = none → H' a = some (.lst ((dg (per d) m n).map V.int)) → Same H H' → Q (.ref a) H'
def spValue (K : PySem.W.Frag) (C : Addr) : Sp := fun vs H Q _ => ∃ (p l : Addr) (d : Int) (ds : List Int), vs = [.ref p, .ref l] ∧ FldAt K H C p d ∧ Root d ∧ SqL K H l (ds.map V.int) ∧ Can (per d) 0 0 ds ∧ ds.length ≤ 280 ∧
  ∀ H', Same H H' → Q (.int (sw (qn (per d)) 0 ds)) H'
def spBase (K : PySem.W.Frag) (C CS : Addr) : Sp := fun vs H Q _ => ∃ (p : Addr) (d : Int), vs = [.ref p] ∧ FldAt K H C p d ∧ Root d ∧
  ∀ q H', H q = none → SV H' CS q d (bI d) 1 (bK d) → Same H H' → Q (.ref q) H'
section
variable {P : Program} {w : World} {K : PySem.W.Frag} {mg : Str → Option Value} {base : Heap}
abbrev s_is_number : Stmt := top 12
abbrev n_is_number : List Str := ["value"]
theorem sc_is_number : FnScope n_is_number ["value"] (defScope s_is_number) := ⟨rfl, rfl, rfl, by decide +kernel, rfl, by decide +kernel, by decide +kernel⟩
theorem ok_num {f : Addr} {fd : FuncData} {k : Nat} (F : Fun K "is_number" "is_number" s_is_number f fd) (D1 : Df P w K mg base k "is_between" ["value", "low", "high"] (spBtw K)) : FnOk P w K mg base CX0 (k + 1) f fd ["value"] (spNum K) := by
  refine F.ok sc_is_number (fun vs H Q E h => ?_) (fun cdv A outer s H vs Q E hr h => ?_)
  · obtain ⟨v, d, rfl, _⟩ := h
    rfl
  · obtain ⟨v, d, rfl, hv, q⟩ := h
    refine ⟨_, (pss_one (ps_ret (pe_callD D1 hr (Nat.le_refl _) (pa_cons (pv 0) (pa_cons pe_int (pa_cons (pe_op op_sub (pe_op op_pow pe_int pe_int) pe_int) pa_nil)))))), ?_⟩
    exact ⟨_, rfl, _, _, rfl, rfl, ⟨by decide, by decide, by decide⟩, _, _, rfl, rfl, v, d, _, _, rfl, hv, q⟩
abbrev sF (i : Nat) : Stmt := inClass (top 23) i
abbrev n_FInit : List Str := ["self", "root"]
theorem sc_FInit : FnScope n_FInit ["self", "root"] (defScope (sF 1)) := ⟨rfl, rfl, rfl, by decide +kernel, rfl, by decide +kernel, by decide +kernel⟩
theorem ok_FInit {f C pd : Addr} {fd : FuncData} {k : Nat} (F : Fun K "__init__" "Field.__init__" (sF 1) f fd) (T : TxF K mg C) (mP : mg "PERIODS" = some (.ref pd)) (hP : PerK K pd)
    (D1 : Df P w K mg base k "is_root" ["value"] (spIsRoot K)) : FnOk P w K mg base CX0 (k + 1) f fd ["self", "root"] (spFInit K C) := by
  refine F.ok sc_FInit (fun vs H Q E h => ?_) (fun cdv A outer s H vs Q E hr h => ?_)
  · obtain ⟨p, dx, d, rfl, _⟩ := h
    rfl
  · obtain ⟨p, dx, d, rfl, hp, hd, q⟩ := h
    have nd := sc_FInit.nd
    refine ⟨_, PSs.nox (pss_cons (ps_if (pt_not (pt_val (pe_callD D1 hr (Nat.le_refl _) (pa_cons (pv 1) pa_nil))))
      (pss_one ps_never)
      pss_nil)
      (pss_cons (ps_fld (pv 0) (pv 1) rfl)
      (pss_one (ps_fld (pv 0) (pe_ix ix_intd (pe_glob (v := .ref pd) (by rfl) mP rfl) (pv 1) (fun _ _ => rfl)) rfl)))), ?_⟩
    have er : rootD (.int d) = true := decide_eq_true (by unfold Root at hd; simp; omega)
    obtain ⟨t, it, tt⟩ := hP d hd
    refine ⟨_, rfl, _, .int d, rfl, rfl, _, rfl, ?_⟩
    rw [er]
    refine iteF ?_
    refine ⟨_, rfl, _, rfl, p, C, dx, [], rfl, hp, T.cl, T.nR, (by show 0 < 1000; decide), ?_⟩
    refine ⟨_, rfl, _, _, _, rfl, rfl, it, _, rfl, p, C, dx, _, rfl, upd_same, T.cl, T.nP, (Nat.lt_of_le_of_lt (length_putF _ _ _) (by decide)), ?_⟩
    refine q _ ⟨dx, t, upd_same, tt⟩ fun b o e nb => ?_
    rw [upd_ne nb, upd_ne nb]
    exact e
abbrev n_FBase : List Str := ["self"]
theorem sc_FBase : FnScope n_FBase ["self"] (defScope (sF 8)) := ⟨rfl, rfl, rfl, by decide +kernel, rfl, by decide +kernel, by decide +kernel⟩
abbrev n_FDig : List Str := ["self", "number", "found", "rest", "step", "digit"]
theorem sc_FDig : FnScope n_FDig ["self", "number"] (defScope (sF 9)) := ⟨rfl, rfl, rfl, by decide +kernel, rfl, by decide +kernel, by decide +kernel⟩
theorem qs_get {p : List Int} {m i : Nat} (h : i < m) : (qs p m)[i]? = some (.int (qn p i)) := by
  unfold qs
  rw [List.getElem?_map, List.getElem?_range h]
  rfl
end
end RF

namespace RF
open PySem L2 PyProof.Rows
theorem atI_back {α : Type} {xs : List α} {j : Nat} {v : α} (h1 : 1 ≤ j) (h2 : j ≤ xs.length) (h : xs[xs.length - j]? = some v) : atI xs (-(j : Int)) = some v := by
  have e : ixN xs.length (-(j : Int)) = some (xs.length - j) := by
    unfold ixN
    rw [if_neg (by omega), if_pos (by omega)]
    congr 1
    omega
  unfold atI
  rw [e]
  exact h
def spPeriod : Sp := fun vs H Q _ => ∃ (d : Int), vs = [.int d] ∧ Root d ∧ ∀ a H', H a = none → H' a = some (.lst ((per d).map V.int)) → Same H H' → Q (.ref a) H'
def spLSteps : Sp := fun vs H Q _ => ∃ (d : Int) (m : Nat), vs = [.int d, .int (m : Int)] ∧ Root d ∧ m ≤ 279 ∧ ∀ a H', H a = none → H' a = some (.lst (qs (per d) (m + 1))) → Same H H' → Q (.ref a) H'
section
variable {P : Program} {w : World} {K : PySem.W.Frag} {mg : Str → Option Value} {base : Heap}
abbrev s_law_period : Stmt := top 40
abbrev n_law_period : List Str := ["_law_root_here"]
theorem sc_law_period : FnScope n_law_period ["_law_root_here"] (defScope s_law_period) := ⟨rfl, rfl, rfl, by decide +kernel, rfl, by decide +kernel, by decide +kernel⟩
theorem ok_lper {f : Addr} {fd : FuncData} {k : Nat} (F : Fun K "_law_period" "_law_period" s_law_period f fd) : FnOk P w K mg base CX0 (k + 1) f fd ["_law_root_here"] spPeriod := by
  refine F.ok sc_law_period (fun vs H Q E h => ?_) (fun cdv A outer s H vs Q E hr h => ?_)
  · obtain ⟨d, rfl, _⟩ := h
    rfl
  · obtain ⟨d, rfl, hd, q⟩ := h
    refine ⟨_, (pss_one (ps_ret (pe_dget (hu_of hr) (pe_disp (pps_cons pe_int (pe_lst (pa_cons pe_int pa_nil)) (pps_cons pe_int (pe_lst (pa_cons pe_int (pa_cons pe_int pa_nil))) (pps_cons pe_int (pe_lst (pa_cons pe_int pa_nil)) (pps_cons pe_int (pe_lst (pa_cons pe_int (pa_cons pe_int pa_nil))) (pps_cons pe_int (pe_lst (pa_cons pe_int pa_nil)) pps_nil))))) (by rfl) (by rfl) (fun z => by cases z) (by decide)) (pv 0) (fun _ _ => rfl)))), ?_⟩
    refine fun b hb => ?_
    refine ⟨by show 1 ≤ sizeLine; decide, fun a1 h1 => ⟨by show 2 ≤ sizeLine; decide, fun a2 h2 => ⟨by show 1 ≤ sizeLine; decide, fun a3 h3 => ⟨by show 2 ≤ sizeLine; decide, fun a4 h4 => ⟨by show 1 ≤ sizeLine; decide, fun a5 h5 => ?_⟩⟩⟩⟩⟩
    have b1 : a1 ≠ b := ne_new h1
    have b2 : a2 ≠ b := ne_new (of_new h2)
    have b3 : a3 ≠ b := ne_new (of_new (of_new h3))
    have b4 : a4 ≠ b := ne_new (of_new (of_new (of_new h4)))
    have b5 : a5 ≠ b := ne_new (of_new (of_new (of_new (of_new h5))))
    refine ⟨by rw [upd_ne b5.symm, upd_ne b4.symm, upd_ne b3.symm, upd_ne b2.symm, upd_ne b1.symm, upd_same], [(Sum.inl 2, .ref a1), (Sum.inl 3, .ref a2), (Sum.inl 5, .ref a3), (Sum.inl 6, .ref a4), (Sum.inl 13, .ref a5)], rfl, by show 5 ≤ 15; decide, _, rfl, b, ?_⟩
    have sm5 : Same H (upd (upd (upd (upd (upd (upd H b (.dK [])) a1 (.lst [.int 2])) a2 (.lst [.int 1, .int 2])) a3 (.lst [.int 1])) a4 (.lst [.int 2, .int 4])) a5 (.lst [.int 3])) := sNew (sNew (sNew (sNew (sNew (sNew (Same.refl _) hb) h1) h2) h3) h4) h5
    have smp := sm_upd (o := .dK (mergeK [] [(Sum.inl 2, .ref a1), (Sum.inl 3, .ref a2), (Sum.inl 5, .ref a3), (Sum.inl 6, .ref a4), (Sum.inl 13, .ref a5)])) sm5 hb
    have n12 : a2 ≠ a1 := ne_new h2
    have n23 : a3 ≠ a2 := ne_new h3
    have n13 : a3 ≠ a1 := ne_new (of_new h3)
    have n34 : a4 ≠ a3 := ne_new h4
    have n24 : a4 ≠ a2 := ne_new (of_new h4)
    have n14 : a4 ≠ a1 := ne_new (of_new (of_new h4))
    have n45 : a5 ≠ a4 := ne_new h5
    have n35 : a5 ≠ a3 := ne_new (of_new h5)
    have n25 : a5 ≠ a2 := ne_new (of_new (of_new h5))
    have n15 : a5 ≠ a1 := ne_new (of_new (of_new (of_new h5)))
    rcases hd with rfl | rfl | rfl | rfl | rfl
    · exact ⟨.ref a1, rfl, .inl ⟨_, Sum.inl 2, .inl upd_same, rfl, rfl⟩, q a1 _ (of_new h1) (by rw [upd_ne b1, upd_ne n15.symm, upd_ne n14.symm, upd_ne n13.symm, upd_ne n12.symm, upd_same]; rfl) smp⟩
    · exact ⟨.ref a2, rfl, .inl ⟨_, Sum.inl 3, .inl upd_same, rfl, rfl⟩, q a2 _ (of_new (of_new h2)) (by rw [upd_ne b2, upd_ne n25.symm, upd_ne n24.symm, upd_ne n23.symm, upd_same]; rfl) smp⟩
    · exact ⟨.ref a3, rfl, .inl ⟨_, Sum.inl 5, .inl upd_same, rfl, rfl⟩, q a3 _ (of_new (of_new (of_new h3))) (by rw [upd_ne b3, upd_ne n35.symm, upd_ne n34.symm, upd_same]; rfl) smp⟩
    · exact ⟨.ref a4, rfl, .inl ⟨_, Sum.inl 6, .inl upd_same, rfl, rfl⟩, q a4 _ (of_new (of_new (of_new (of_new h4)))) (by rw [upd_ne b4, upd_ne n45.symm, upd_same]; rfl) smp⟩
    · exact ⟨.ref a5, rfl, .inl ⟨_, Sum.inl 13, .inl upd_same, rfl, rfl⟩, q a5 _ (of_new (of_new (of_new (of_new (of_new h5))))) (by rw [upd_ne b5, upd_same]; rfl) smp⟩
abbrev n_law_steps : List Str := ["_law_root_here", "_law_many", "_law_found", "_law_last", "_law_period_here", "_law_k"]
end
end RF

namespace RF
open PySem L2 PyProof.Rows
def spFRoot (K : PySem.W.Frag) (C : Addr) : Sp := fun vs H Q _ => ∃ (p : Addr) (d : Int), vs = [.ref p] ∧ FldAt K H C p d ∧ Q (.int d) H
def spFPer (K : PySem.W.Frag) (C : Addr) : Sp := fun vs H Q _ => ∃ (p : Addr) (d : Int), vs = [.ref p] ∧ FldAt K H C p d ∧ ∀ t, TupI K t (per d) → Q (.ref t) H
def spFTop (K : PySem.W.Frag) (C : Addr) : Sp := fun vs H Q _ => ∃ (p : Addr) (d : Int), vs = [.ref p] ∧ FldAt K H C p d ∧ Root d ∧ Q (.int (tp d)) H
/-- a list or a tuple of whole numbers -/
def Ints (K : PySem.W.Frag) (H : Hp) (a : Addr) (fs : List Int) : Prop := SqL K H a (fs.map V.int) ∨ SqT K H a (fs.map V.int)
theorem Ints.same {K : PySem.W.Frag} {H H' : Hp} {a : Addr} {fs : List Int} (s : Same H H') (h : Ints K H a fs) : Ints K H' a fs := h.elim (fun z => .inl (s.seq z)) fun z => .inr (sameT s z)
def Fac (fs : List Int) : Prop := fs.length ≤ 100 ∧ ∀ f ∈ fs, -5 ≤ f ∧ f ≤ 5
def spBnd (K : PySem.W.Frag) (C : Addr) : Sp := fun vs H Q _ => ∃ (p l : Addr) (d : Int) (fs : List Int), vs = [.ref p, .ref l] ∧ FldAt K H C p d ∧ Root d ∧ Ints K H l fs ∧ Fac fs ∧ ∀ H', Same H H' → Q (.int (bnd d fs)) H'
/-- the tails of the module -/
def TlsK (K : PySem.W.Frag) (td : Addr) : Prop := ∀ d, Root d → ∃ (t : Addr) (xs : List V), IDct K td d (.ref t) ∧ (∀ H, SqT K H t xs) ∧ xs.length = (per d).length ∧ ∀ n : Nat, ∃ ti, xs[n % (per d).length]? = some (.ref ti) ∧ ∀ H, SqT K H ti [.int (tlI d n), .int 1, .int (tlK d n)]
def spGap (K : PySem.W.Frag) (C : Addr) : Sp := fun vs H Q _ => ∃ (p t : Addr) (d u v : Int) (n : Nat), vs = [.ref p, .ref t, .int (n : Int)] ∧ FldAt K H C p d ∧ Root d ∧ SqT K H t [.int u, .int v] ∧ Bd 100 u ∧ Bd 100 v ∧
  ∀ x H', H x = none → H' x = some (.tup [.int (tlK d n * u - tlI d n * v), .int (-1 * v), .int (tlK d n)]) → Same H H' → Q (.ref x) H'
def spKept (K : PySem.W.Frag) (C : Addr) : Sp := fun vs H Q _ => ∃ (p l t : Addr) (d u v : Int) (fs : List Int) (n : Nat), vs = [.ref p, .ref l, .ref t, .int (n : Int)] ∧ FldAt K H C p d ∧ Root d ∧ Ints K H l fs ∧ Fac fs ∧ SqT K H t [.int u, .int v] ∧ Bd 100 u ∧ Bd 100 v ∧
  ∀ H', Same H H' → Q (.bl (kpt d (bnd d fs) u v n)) H'
section
variable {P : Program} {w : World} {K : PySem.W.Frag} {mg : Str → Option Value} {base : Heap}
theorem sc_FRoot : FnScope ["self"] ["self"] (defScope (sF 2)) := ⟨rfl, rfl, rfl, by decide +kernel, rfl, by decide +kernel, by decide +kernel⟩
theorem ok_FRoot {f C : Addr} {fd : FuncData} {k : Nat} (F : Fun K "root" "Field.root" (sF 2) f fd) (T : TxF K mg C) : FnOk P w K mg base CX0 (k + 1) f fd ["self"] (spFRoot K C) := by
  refine F.ok sc_FRoot (fun vs H Q E h => ?_) (fun cdv A outer s H vs Q E hr h => ?_)
  · obtain ⟨p, d, rfl, _⟩ := h
    rfl
  · obtain ⟨p, d, rfl, ⟨dx, t, hp, hT⟩, q⟩ := h
    exact ⟨_, (pss_one (ps_ret (pe_fld (pv 0) rfl))), _, rfl, p, C, dx, _, _, rfl, hp, T.cl, T.nR, ffl_root d t, q⟩
theorem sc_FPer : FnScope ["self"] ["self"] (defScope (sF 3)) := ⟨rfl, rfl, rfl, by decide +kernel, rfl, by decide +kernel, by decide +kernel⟩
theorem ok_FPer {f C : Addr} {fd : FuncData} {k : Nat} (F : Fun K "period" "Field.period" (sF 3) f fd) (T : TxF K mg C) : FnOk P w K mg base CX0 (k + 1) f fd ["self"] (spFPer K C) := by
  refine F.ok sc_FPer (fun vs H Q E h => ?_) (fun cdv A outer s H vs Q E hr h => ?_)
  · obtain ⟨p, d, rfl, _⟩ := h
    rfl
  · obtain ⟨p, d, rfl, ⟨dx, t, hp, hT⟩, q⟩ := h
    exact ⟨_, (pss_one (ps_ret (pe_fld (pv 0) rfl))), _, rfl, p, C, dx, _, _, rfl, hp, T.cl, T.nP, ffl_per d t, q t hT⟩
theorem sc_FTop : FnScope ["self"] ["self"] (defScope (sF 4)) := ⟨rfl, rfl, rfl, by decide +kernel, rfl, by decide +kernel, by decide +kernel⟩
theorem tp_max {d m : Int} (hd : Root d) (hm : m ∈ per d) (h : ∀ y, y ∈ per d → y ≤ m) : m = tp d := by
  rcases hd with rfl | rfl | rfl | rfl | rfl
  · have : m ∈ [(2 : Int)] := hm
    simp only [List.mem_cons, List.not_mem_nil, or_false] at this
    exact this
  · have e : m ∈ [(1 : Int), 2] := hm
    have := h 2 (show (2 : Int) ∈ [(1 : Int), 2] by simp)
    simp only [List.mem_cons, List.not_mem_nil, or_false] at e
    show m = 2
    omega
  · have : m ∈ [(1 : Int)] := hm
    simp only [List.mem_cons, List.not_mem_nil, or_false] at this
    exact this
  · have e : m ∈ [(2 : Int), 4] := hm
    have := h 4 (show (4 : Int) ∈ [(2 : Int), 4] by simp)
    simp only [List.mem_cons, List.not_mem_nil, or_false] at e
    show m = 4
    omega
  · have : m ∈ [(3 : Int)] := hm
    simp only [List.mem_cons, List.not_mem_nil, or_false] at this
    exact this
theorem ok_FTop {f C : Addr} {fd : FuncData} {k : Nat} (F : Fun K "top" "Field.top" (sF 4) f fd) (T : TxF K mg C) (T1 : mg "max" = none) : FnOk P w K mg base CX0 (k + 1) f fd ["self"] (spFTop K C) := by
  refine F.ok sc_FTop (fun vs H Q E h => ?_) (fun cdv A outer s H vs Q E hr h => ?_)
  · obtain ⟨p, d, rfl, _⟩ := h
    rfl
  · obtain ⟨p, d, rfl, ⟨dx, t, hp, hT⟩, hd, q⟩ := h
    refine ⟨_, (pss_one (ps_ret (pe_callB (cr_maxT rfl) (by rfl) T1 (by decide +kernel) (pa_cons (pe_fld (pv 0) rfl) pa_nil)))), ?_⟩
    refine ⟨_, rfl, p, C, dx, _, _, rfl, hp, T.cl, T.nP, ffl_per d t, t, per d, rfl, hT.sq, (perOk hd).len.1, fun m hm hle => ?_⟩
    rw [tp_max hd hm hle]
    exact q
abbrev s_bound : Stmt := top 30
abbrev n_bound : List Str := ["field", "factors", "factor"]
theorem sc_bound : FnScope n_bound ["field", "factors"] (defScope s_bound) := ⟨rfl, rfl, rfl, by decide +kernel, rfl, by decide +kernel, by decide +kernel⟩
theorem ab_get {fs : List Int} {i : Nat} {x : V} (h : (fs.map V.int)[i]? = some x) : ∃ f, x = .int f ∧ f ∈ fs ∧ (fs.take (i + 1)).map ab = (fs.take i).map ab ++ [ab f] := by
  rw [List.getElem?_map] at h
  have hi : i < fs.length := by
    refine Nat.not_le.mp fun z => ?_
    rw [List.getElem?_eq_none z] at h
    cases h
  rw [List.getElem?_eq_getElem hi] at h
  refine ⟨fs[i], (Option.some.inj h).symm, List.getElem_mem hi, ?_⟩
  rw [List.take_add_one, List.getElem?_eq_getElem hi, List.map_append]
  rfl
theorem ok_bound {f C : Addr} {fd : FuncData} {k : Nat} (F : Fun K "_bound" "_bound" s_bound f fd) (T : TxF K mg C) (T1 : mg "sum" = none) (T2 : mg "abs" = none) (M : Pt P w K mg base C k "top" (spFTop K C)) : FnOk P w K mg base CX0 (k + 2) f fd ["field", "factors"] (spBnd K C) := by
  refine F.ok sc_bound (fun vs H Q E h => ?_) (fun cdv A outer s H vs Q E hr h => ?_)
  · obtain ⟨p, l, d, fs, rfl, _⟩ := h
    rfl
  · obtain ⟨p, l, d, fs, rfl, hF, hd, hl, hfs, q⟩ := h
    have nd := sc_bound.nd
    obtain ⟨dx, t, hp, hT⟩ := id hF
    rcases hl with hl | hl
    · refine ⟨_, (pss_one (ps_ret (pe_op op_mulW (pe_op op_mulW pe_int (pe_pt (pv 0) T.cl M hr (Nat.le_refl _))) (pe_callB (cr_sum rfl) (by rfl) T1 (by decide +kernel) (pa_cons (pe_lc (own := [("factor", 2)]) (g := gName 2) (tt := tYes) (by rfl) nd (pi_list (pv 1)) (blkOk_by (own := [("factor", 2)]) (N := n_bound) (sc := defScope s_bound) (by decide +kernel)) (fun _ _ _ _ _ => (pg_name (i := 2) nd rfl (Or.inl rfl))) (fun _ _ _ _ _ => pts_nil) (fun _ _ _ _ _ => (pe_callB call_abs (by rfl) T2 (by decide +kernel) (pa_cons (pv 2) pa_nil)))) pa_nil))))), ?_⟩
      refine ⟨_, rfl, p, dx, _, rfl, hp, p, d, rfl, hF, hd, ?_⟩
      refine ⟨_, _, rfl, rfl, mulOk (n := 3) (m := 4) (by unfold Bd; decide) (by have := tp_bd d; unfold Bd; omega) (by decide) (by decide) (by decide), _, rfl, l, rfl, ⟨_, hl⟩, fun D nD => ?_⟩
      refine lc_list (K := K) (a := l) (xs := fs.map V.int) (fun i H' => H' D = some (.lst (((fs.take i).map ab).map V.int)) ∧ Same H H') ⟨upd_same, sNew (Same.refl _) nD⟩ (fun i H' _ h => h.2.seq hl) ?_ ?_
      · rintro i x H1 hx ⟨h1, sm⟩
        obtain ⟨f0, rfl, hf, et⟩ := ab_get hx
        refine ⟨rfl, yes_if ⟨_, rfl, _, rfl, _, h1, ?_, ?_, sm_upd sm nD⟩⟩
        · have : ((fs.take i).map ab).length ≤ fs.length := by rw [List.length_map, List.length_take]; omega
          rw [List.length_map, sizeLine_eq]
          have := hfs.1
          omega
        · rw [upd_same, et, List.map_append]
          rfl
      · rintro H1 ⟨h1, sm⟩
        rw [List.length_map, List.take_length] at h1
        refine ⟨D, _, rfl, SqL.of h1, ?_⟩
        have e1 := absum_le fs hfs.2
        have e2 := absum_nn fs
        have e3 := hfs.1
        have e4 := tp_bd d
        exact ⟨_, _, rfl, rfl, mulOk (n := 5) (m := 20) (by show Bd 5 (3 * tp d); unfold Bd; omega) (by show Bd 20 (absum fs); unfold Bd; omega) (by decide) (by decide) (by decide), q _ sm⟩
    · refine ⟨_, (pss_one (ps_ret (pe_op op_mulW (pe_op op_mulW pe_int (pe_pt (pv 0) T.cl M hr (Nat.le_refl _))) (pe_callB (cr_sum rfl) (by rfl) T1 (by decide +kernel) (pa_cons (pe_lc (own := [("factor", 2)]) (g := gName 2) (tt := tYes) (by rfl) nd (pi_tup (pv 1)) (blkOk_by (own := [("factor", 2)]) (N := n_bound) (sc := defScope s_bound) (by decide +kernel)) (fun _ _ _ _ _ => (pg_name (i := 2) nd rfl (Or.inl rfl))) (fun _ _ _ _ _ => pts_nil) (fun _ _ _ _ _ => (pe_callB call_abs (by rfl) T2 (by decide +kernel) (pa_cons (pv 2) pa_nil)))) pa_nil))))), ?_⟩
      refine ⟨_, rfl, p, dx, _, rfl, hp, p, d, rfl, hF, hd, ?_⟩
      refine ⟨_, _, rfl, rfl, mulOk (n := 3) (m := 4) (by unfold Bd; decide) (by have := tp_bd d; unfold Bd; omega) (by decide) (by decide) (by decide), _, rfl, l, rfl, ⟨_, hl⟩, fun D nD => ?_⟩
      refine lc_tup (K := K) (a := l) (xs := fs.map V.int) (fun i H' => H' D = some (.lst (((fs.take i).map ab).map V.int)) ∧ Same H H') ⟨upd_same, sNew (Same.refl _) nD⟩ (fun i H' _ h => sameT h.2 hl) ?_ ?_
      · rintro i x H1 hx ⟨h1, sm⟩
        obtain ⟨f0, rfl, hf, et⟩ := ab_get hx
        refine ⟨rfl, yes_if ⟨_, rfl, _, rfl, _, h1, ?_, ?_, sm_upd sm nD⟩⟩
        · have : ((fs.take i).map ab).length ≤ fs.length := by rw [List.length_map, List.length_take]; omega
          rw [List.length_map, sizeLine_eq]
          have := hfs.1
          omega
        · rw [upd_same, et, List.map_append]
          rfl
      · rintro H1 ⟨h1, sm⟩
        rw [List.length_map, List.take_length] at h1
        refine ⟨D, _, rfl, SqL.of h1, ?_⟩
        have e1 := absum_le fs hfs.2
        have e2 := absum_nn fs
        have e3 := hfs.1
        have e4 := tp_bd d
        exact ⟨_, _, rfl, rfl, mulOk (n := 5) (m := 20) (by show Bd 5 (3 * tp d); unfold Bd; omega) (by show Bd 20 (absum fs); unfold Bd; omega) (by decide) (by decide) (by decide), q _ sm⟩
abbrev s_gap : Stmt := top 31
abbrev n_gap : List Str := ["field", "pair", "place", "u", "v", "i", "j", "k"]
theorem sc_gap : FnScope n_gap ["field", "pair", "place"] (defScope s_gap) := ⟨rfl, rfl, rfl, by decide +kernel, rfl, by decide +kernel, by decide +kernel⟩
theorem ok_gap {f C td : Addr} {fd : FuncData} {k : Nat} (F : Fun K "_gap" "_gap" s_gap f fd) (T : TxF K mg C) (T1 : mg "len" = none) (mT : mg "TAILS" = some (.ref td)) (hT : TlsK K td) (M1 : Pt P w K mg base C k "root" (spFRoot K C)) (M2 : Pt P w K mg base C k "period" (spFPer K C)) :
    FnOk P w K mg base CX0 (k + 2) f fd ["field", "pair", "place"] (spGap K C) := by
  refine F.ok sc_gap (fun vs H Q E h => ?_) (fun cdv A outer s H vs Q E hr h => ?_)
  · obtain ⟨p, t, d, u, v, n, rfl, _⟩ := h
    rfl
  · obtain ⟨p, t, d, u, v, n, rfl, hF, hd, ht, bu, bv, q⟩ := h
    have nd := sc_gap.nd
    obtain ⟨dx, tt, hp, hTT⟩ := id hF
    obtain ⟨ta, xs, ia, sxs, lx, hx⟩ := hT d hd
    obtain ⟨ti, e1, sti⟩ := hx n
    refine ⟨_, (pss_cons (ps_asg (pv 1) (pg_tup rfl (pgs_cons (pg_name (i := 3) nd rfl (Or.inl rfl)) (pgs_cons (pg_name (i := 4) nd rfl (Or.inl rfl)) pgs_nil))))
      (pss_cons (ps_asg (pe_ix ix_tup (pe_ix ix_intd (pe_glob (v := .ref td) (by rfl) mT rfl) (pe_pt (pv 0) T.cl M1 hr (Nat.le_refl _)) (fun _ _ => rfl)) (pe_op op_mod (pv 2) (pe_callB call_len_seq (by rfl) T1 (by decide +kernel) (pa_cons (pe_pt (pv 0) T.cl M2 hr (Nat.le_refl _)) pa_nil))) (fun _ _ => rfl)) (pg_tup rfl (pgs_cons (pg_name (i := 5) nd rfl (Or.inl rfl)) (pgs_cons (pg_name (i := 6) nd rfl (Or.inl rfl)) (pgs_cons (pg_name (i := 7) nd rfl (Or.inl rfl)) pgs_nil)))))
      (pss_one (ps_ret (pe_tup (pa_cons (pe_op op_sub (pe_op op_mulW (pv 7) (pv 3)) (pe_op op_mulW (pv 5) (pv 4))) (pa_cons (pe_op op_mulW (pe_un un_neg (pv 6)) (pv 4)) (pa_cons (pv 7) pa_nil)))))))), ?_⟩
    refine ⟨_, rfl, t, _, rfl, ht, rfl, _, _, rfl, _, _, rfl, rfl, ?_⟩
    refine ⟨_, rfl, p, dx, _, rfl, hp, p, d, rfl, hF, ?_⟩
    have hper := (perOk hd).len
    have hat : atI xs ((n : Int) % (((per d).map V.int).length : Nat)) = some (.ref ti) := by
      rw [List.length_map, ← Int.natCast_emod]
      exact atI_nat e1
    have k0 := tlK_or d n
    have i0 := tlI_bd d n
    have bk : Bd 4 (tlK d n) := by unfold Bd; omega
    have bi : Bd 4 (tlI d n) := by unfold Bd; omega
    refine ⟨_, _, _, rfl, rfl, ia, _, rfl, _, rfl, p, dx, _, rfl, hp, p, d, rfl, hF, fun t2 hT2 => ⟨t2, _, rfl, .inr hT2.sq, _, _, rfl, rfl, (by rw [List.length_map]; omega), ta, _, _, _, rfl, rfl, sxs _, hat, ?_⟩⟩
    refine ⟨ti, _, rfl, sti _, rfl, _, _, rfl, _, _, rfl, _, _, rfl, rfl, ?_⟩
    refine ⟨_, rfl, _, rfl, _, _, rfl, rfl, mulOk bk bu (by decide) (by decide) (by decide), _, rfl, _, rfl, _, _, rfl, rfl, mulOk bi bv (by decide) (by decide) (by decide), _, _, rfl, rfl, ?_⟩
    refine ⟨_, rfl, _, rfl, _, rfl, _, _, rfl, rfl, mulOk (n := 1) (by unfold Bd; decide) bv (by decide) (by decide) (by decide), _, rfl, by show 3 ≤ sizeLine; decide, fun x nx => ?_⟩
    exact q x _ nx upd_same (sNew (Same.refl _) nx)
abbrev s_is_kept : Stmt := top 29
abbrev n_is_kept : List Str := ["field", "factors", "pair", "place", "i", "j", "k", "bound"]
theorem sc_is_kept : FnScope n_is_kept ["field", "factors", "pair", "place"] (defScope s_is_kept) := ⟨rfl, rfl, rfl, by decide +kernel, rfl, by decide +kernel, by decide +kernel⟩
theorem ok_kept {f C CS : Addr} {fd : FuncData} {k : Nat} (F : Fun K "is_kept" "is_kept" s_is_kept f fd) (T : TxF K mg C) (TS : TxS K mg CS) (M1 : Pt P w K mg base C (k + 1) "root" (spFRoot K C)) (M : MkS P w K mg base CS (k + 1)) (MS : Mt P w K mg base CS (k + 1) "sign" ["self"] (spSign CS))
    (D1 : Df P w K mg base (k + 2) "_gap" ["field", "pair", "place"] (spGap K C)) (D2 : Df P w K mg base (k + 2) "_bound" ["field", "factors"] (spBnd K C)) : FnOk P w K mg base CX0 (k + 3) f fd ["field", "factors", "pair", "place"] (spKept K C) := by
  refine F.ok sc_is_kept (fun vs H Q E h => ?_) (fun cdv A outer s H vs Q E hr h => ?_)
  · obtain ⟨p, l, t, d, u, v, fs, n, rfl, _⟩ := h
    rfl
  · obtain ⟨p, l, t, d, u, v, fs, n, rfl, hF, hd, hl, hfs, ht, bu, bv, q⟩ := h
    have nd := sc_is_kept.nd
    obtain ⟨fi, fdi, M0, G, _, ⟨_, r1, b1⟩, _⟩ := M.ex
    refine ⟨_, (pss_cons (ps_asg (pe_callD D1 hr (Nat.le_refl _) (pa_cons (pv 0) (pa_cons (pv 2) (pa_cons (pv 3) pa_nil)))) (pg_tup rfl (pgs_cons (pg_name (i := 4) nd rfl (Or.inl rfl)) (pgs_cons (pg_name (i := 5) nd rfl (Or.inl rfl)) (pgs_cons (pg_name (i := 6) nd rfl (Or.inl rfl)) pgs_nil)))))
      (pss_cons (ps_set (i := 7) nd rfl (Or.inl rfl) (pe_op op_mulW (pv 6) (pe_callD D2 hr (Nat.le_refl _) (pa_cons (pv 0) (pa_cons (pv 1) pa_nil)))))
      (pss_one (ps_ret (pe_and (pe_cmpR op_ge (pe_mt0 (pe_make M0 G hr rfl TS.mg b1 r1 pass0 (pa_cons (pe_pt (pv 0) T.cl M1 hr (Nat.le_refl _)) (pa_cons (pe_op op_add (pv 4) (pv 7)) (pa_cons (pv 5) pa_nil)))) TS.cl MS hr (Nat.le_succ _)) pe_int (nomark _)) (pe_one (pe_cmpR op_le (pe_mt0 (pe_make M0 G hr rfl TS.mg b1 r1 pass0 (pa_cons (pe_pt (pv 0) T.cl M1 hr (Nat.le_refl _)) (pa_cons (pe_op op_sub (pv 4) (pv 7)) (pa_cons (pv 5) pa_nil)))) TS.cl MS hr (Nat.le_succ _)) pe_int (nomark _)))))))), ?_⟩
    obtain ⟨dx, tt, hp, hTT⟩ := id hF
    refine ⟨_, rfl, _, rfl, _, rfl, p, t, d, u, v, n, rfl, hF, hd, ht, bu, bv, fun g H1 ng hg sm1 => ?_⟩
    refine ⟨g, _, rfl, SqT.of hg, rfl, _, _, rfl, _, _, rfl, _, _, rfl, rfl, ?_⟩
    have k0 := tlK_or d n
    have i0 := tlI_bd d n
    have bk : Bd 4 (tlK d n) := by unfold Bd; omega
    have bi : Bd 4 (tlI d n) := by unfold Bd; omega
    have e1 := absum_le fs hfs.2
    have e2 := absum_nn fs
    have e3 := hfs.1
    have e4 := tp_bd d
    have bB : Bd 40 (bnd d fs) := (show Bd 5 (3 * tp d) by unfold Bd; omega).mul (show Bd 20 (absum fs) by unfold Bd; omega) |>.mono (by decide)
    have bI : Bd 105 (tlK d n * u - tlI d n * v) := by
      have h1 := (bk.mul bu)
      have h2 := (bi.mul bv).neg
      have h3 := h1.add h2
      rw [← Int.sub_eq_add_neg] at h3
      exact h3
    have bJ : Bd 101 (-1 * v) := (show Bd 1 (-1) by unfold Bd; decide).mul bv
    have bkB : Bd 105 (tlK d n * bnd d fs) := (bk.mul bB).mono (by decide)
    refine ⟨_, rfl, _, rfl, _, rfl, p, l, d, fs, rfl, hF.same sm1, hd, hl.same sm1, hfs, fun H2 sm2 => ⟨_, _, rfl, rfl, mulOk bk bB (by decide) (by decide) (by decide), ?_⟩⟩
    have sm12 := sm1.trans sm2
    refine ⟨_, rfl, p, dx, _, rfl, sm12 _ _ hp, p, d, rfl, hF.same sm12, _, rfl, _, rfl, _, _, rfl, rfl, _, rfl, fun x1 d1 nx1 nd1 ne1 => ?_⟩
    refine ⟨x1, d1, d, _, _, 1, rfl, upd_same, hd, by decide, (bI.add bkB).mono (by decide), bJ.mono (by decide), (by unfold Bd; decide : Bd 1 1).mono (by decide), fun H3 S3 k3 => ⟨rfl, ?_⟩⟩
    have sm3 := Same.made nx1 nd1 k3
    have V3 : SV H3 CS x1 d (tlK d n * u - tlI d n * v + tlK d n * bnd d fs) (-1 * v) 1 := ⟨by decide, S3⟩
    obtain ⟨dxa, fsa, ha, na⟩ := V3.ins
    refine ⟨x1, dxa, fsa, rfl, ha, na "sign" (by decide +kernel) (by decide +kernel), x1, d, _, _, 1, rfl, V3, by decide, hd, (bI.add bkB).mono (by decide), bJ.mono (by decide), ?_⟩
    have sm13 := sm12.trans sm3
    by_cases h1 : 0 ≤ sg d (tlK d n * u - tlI d n * v + tlK d n * bnd d fs) (-1 * v)
    · refine ⟨_, _, rfl, rfl, _, rfl, iteP (decide_eq_true h1) ?_⟩
      refine ⟨_, rfl, p, dx, _, rfl, sm13 _ _ hp, p, d, rfl, hF.same sm13, _, rfl, _, rfl, _, _, rfl, rfl, _, rfl, fun x2 d2 nx2 nd2 ne2 => ?_⟩
      have bS : Bd 106 (tlK d n * u - tlI d n * v - tlK d n * bnd d fs) := by
        rw [Int.sub_eq_add_neg]
        exact bI.add bkB.neg
      refine ⟨x2, d2, d, _, _, 1, rfl, upd_same, hd, by decide, bS.mono (by decide), bJ.mono (by decide), (by unfold Bd; decide : Bd 1 1).mono (by decide), fun H4 S4 k4 => ⟨rfl, ?_⟩⟩
      have sm4 := Same.made nx2 nd2 k4
      have V4 : SV H4 CS x2 d (tlK d n * u - tlI d n * v - tlK d n * bnd d fs) (-1 * v) 1 := ⟨by decide, S4⟩
      obtain ⟨dxb, fsb, hb, nb⟩ := V4.ins
      refine ⟨x2, dxb, fsb, rfl, hb, nb "sign" (by decide +kernel) (by decide +kernel), x2, d, _, _, 1, rfl, V4, by decide, hd, bS.mono (by decide), bJ.mono (by decide), ?_⟩
      have qq := q H4 (sm13.trans sm4)
      unfold kpt at qq
      rw [decide_eq_true h1, Bool.true_and] at qq
      exact ⟨_, _, rfl, rfl, qq⟩
    · refine ⟨_, _, rfl, rfl, _, rfl, iteN (nd_of h1) ?_⟩
      have qq := q H3 sm13
      unfold kpt at qq
      rw [decide_eq_false h1, Bool.false_and] at qq
      exact qq
end
end RF

namespace RF
open PySem L2
/-! ### the bag at b with its cells at c, which stay there -/
def BagAt (H : Hp) (b c : Addr) : Prop := ∃ (ns : List Int) (i : Nat) (z r : Int), BagC H b c ns i z r
theorem Bag.here {H : Hp} {b : Addr} (B : Bag H b) : ∃ c, BagAt H b c := let ⟨c, ns, i, z, r, h⟩ := B; ⟨c, ns, i, z, r, h⟩
theorem BagAt.bag {H : Hp} {b c : Addr} (B : BagAt H b c) : Bag H b := let ⟨ns, i, z, r, h⟩ := B; ⟨c, ns, i, z, r, h⟩
theorem BagAt.atB {H : Hp} {b c : Addr} (B : BagAt H b c) : ∃ xs, H b = some (.lst xs) := B.bag.some
theorem BagAt.atC {H : Hp} {b c : Addr} (B : BagAt H b c) : ∃ xs, H c = some (.lst xs) := let ⟨_, _, _, _, h⟩ := B; ⟨_, h.cs⟩
theorem BagAt.same {H H' : Hp} {b c : Addr} (B : BagAt H b c) (s : Same H H') : BagAt H' b c := by
  obtain ⟨ns, i, z, r, h⟩ := B
  exact ⟨ns, i, z, r, h.ne, s _ _ h.at_, s _ _ h.cs, h.le, h.z0, h.r0, h.r1⟩
theorem BagAt.off {H : Hp} {b c p : Addr} (B : BagAt H b c) (h : H p = none) : p ≠ b ∧ p ≠ c := by
  obtain ⟨xs, hb⟩ := B.atB
  obtain ⟨ys, hc⟩ := B.atC
  exact ⟨(ne_of_none hb h).symm, (ne_of_none hc h).symm⟩
theorem BagAt.put {H : Hp} {b c p : Addr} {o : HO} (B : BagAt H b c) (h : p ≠ b ∧ p ≠ c) : BagAt (upd H p o) b c := by
  obtain ⟨ns, i, z, r, B⟩ := B
  exact ⟨ns, i, z, r, B.ne, by rw [upd_ne h.1.symm]; exact B.at_, by rw [upd_ne h.2.symm]; exact B.cs, B.le, B.z0, B.r0, B.r1⟩
theorem Kp.up {b p : Addr} {H H' : Hp} {o : HO} (k : Kp b H H') (h : H p = none) : Kp b H (L2.upd H' p o) := fun a u n e => by
  rw [upd_ne (ne_of_none e h)]
  exact k a u n e
theorem Kp.new {b p : Addr} {H H' : Hp} {o : HO} (k : Kp b H H') (h : H' p = none) : Kp b H (L2.upd H' p o) := k.trans (Kp.of (sNew (Same.refl _) h))
def spPullC : Sp := fun vs H Q _ => ∃ (b c : Addr) (k : Int), vs = [.ref b, .int k] ∧ BagAt H b c ∧ 0 < k ∧ k < 1073741824 ∧
  ∀ (d : Int) (H' : Hp), 0 ≤ d → d < k → BagAt H' b c → Kp b H H' → Q (.int d) H'
def spOfC (K : PySem.W.Frag) : Sp := fun vs H Q _ => ∃ (b c a : Addr) (xs : List V), vs = [.ref b, .ref a] ∧ BagAt H b c ∧ SqL K H a xs ∧ a ≠ b ∧ 0 < xs.length ∧ xs.length < 1000000 ∧
  ∀ (v : V) (H' : Hp), v ∈ xs → BagAt H' b c → Kp b H H' → Q v H'
def spRootC : Sp := fun vs H Q _ => ∃ (b c : Addr), vs = [.ref b] ∧ BagAt H b c ∧ ∀ (d : Int) (H' : Hp), d = 2 ∨ d = 3 ∨ d = 5 ∨ d = 6 ∨ d = 13 → BagAt H' b c → Kp b H H' → Q (.int d) H'
def spFarC : Sp := fun vs H Q _ => ∃ (b c : Addr) (k : Int), vs = [.ref b, .int k] ∧ BagAt H b c ∧ 0 < k ∧ k ≤ 1000 ∧ ∀ (n : Int) (H' : Hp), 0 ≤ n → n < 10 ^ k.toNat → BagAt H' b c → Kp b H H' → Q (.int n) H'
end RF

namespace RF
open PySem L2
section
variable {P : Program} {w : World} {K : PySem.W.Frag} {mg : Str → Option Value} {base : Heap}
theorem ok_pullC {f : Addr} {fd : FuncData} (F : Fun K "_law_pull" "_law_pull" sPull f fd) (T : TB mg) : FnOk P w K mg base CX0 1 f fd ["_law_bag_here", "_law_sides"] spPullC := by
  refine F.ok scPull (fun vs H Q E h => ?_) (fun cdv A outer s H vs Q E hr h => ?_)
  · obtain ⟨b, c, k, rfl, _⟩ := h
    rfl
  · obtain ⟨b, c, m, rfl, ⟨ns, i, z, r, B⟩, m0, m1, k⟩ := h
    have nd := scPull.nd
    -- the second half, from any bag
    refine ⟨_, C8.pss_cut (ps_if (pw_and (pt_cmpR op_eq (pe_ix ix_list (pv 0) pe_int (fun _ _ => rfl)) pe_int (nomark _)) (pw_and1 (pt_cmpR op_lt (pe_ix ix_list (pv 0) pe_int (fun _ _ => rfl)) (pe_callB call_len_seq (by rfl) T.len PySem.boot_len (pa_cons (pe_ix ix_list (pv 0) pe_int (fun _ _ => rfl)) pa_nil)) (nomark _)))).pt
        (pss_cons (ps_set (i := 2) nd rfl (Or.inl rfl) (pe_ix ix_list (pe_ix ix_list (pv 0) pe_int (fun _ _ => rfl)) (pe_ix ix_list (pv 0) pe_int (fun _ _ => rfl)) (fun _ _ => rfl)))
        (pss_cons (ps_asg (pe_op op_add (pe_ix ix_list (pv 0) pe_int (fun _ _ => rfl)) pe_int) (pg_sub (pv 0) pe_int set_list))
        (pss_one (ps_if (pt_cmpR op_ge (pe_callB call_abs (by rfl) T.abs (by decide +kernel) (pa_cons (pv 2) pa_nil)) (pe_op op_pow pe_int pe_int) (nomark _))
          (pss_one (ps_asg (pe_callB call_abs (by rfl) T.abs (by decide +kernel) (pa_cons (pv 2) pa_nil)) (pg_sub (pv 0) pe_int set_list)))
          (pss_one (ps_asg (pe_op op_mod (pe_callTy call_int1 (by rfl) T.int (by decide +kernel) (pa_cons (pe_op op_add (pe_op op_add (pe_op op_mul (pe_ix ix_list (pv 0) pe_int (fun _ _ => rfl)) pe_int) (pe_op op_mul (pe_op op_mod (pe_callTy call_int1 (by rfl) T.int (by decide +kernel) (pa_cons (pv 2) pa_nil)) pe_int) pe_int)) pe_int) pa_nil)) pe_int) (pg_sub (pv 0) pe_int set_list)))))))
        pss_nil)
      (C8.pss_cut (ps_if (pt_cmpR op_gt (pe_ix ix_list (pv 0) pe_int (fun _ _ => rfl)) pe_int (nomark _))
        (pss_cons (ps_set (i := 3) nd rfl (Or.inl rfl) (pe_op op_mod (pe_callTy call_int1 (by rfl) T.int (by decide +kernel) (pa_cons (pe_ix ix_list (pv 0) pe_int (fun _ _ => rfl)) pa_nil)) (pv 1)))
        (pss_cons (ps_asg (pe_op op_fdiv (pe_ix ix_list (pv 0) pe_int (fun _ _ => rfl)) (pv 1)) (pg_sub (pv 0) pe_int set_list))
        (pss_one (ps_ret (pv 3)))))
        pss_nil)
      (pss_cons (ps_set (i := 4) nd rfl (Or.inl rfl) (pe_op op_mod (pe_callTy call_int1 (by rfl) T.int (by decide +kernel) (pa_cons (pe_op op_mul (pe_ix ix_list (pv 0) pe_int (fun _ _ => rfl)) (pe_ix ix_list (pv 0) pe_int (fun _ _ => rfl))) pa_nil)) pe_int))
      (pss_cons (ps_asg (pe_op op_mod (pe_callTy call_int1 (by rfl) T.int (by decide +kernel) (pa_cons (pe_op op_add (pe_op op_add (pe_op op_mul (pv 4) pe_int) (pe_op op_mul (pe_ix ix_list (pv 0) pe_int (fun _ _ => rfl)) pe_int)) pe_int) pa_nil)) pe_int) (pg_sub (pv 0) pe_int set_list))
      (pss_one (ps_ret (pe_op op_mod (pe_callTy call_int1 (by rfl) T.int (by decide +kernel) (pa_cons (pe_op op_fdiv (pe_ix ix_list (pv 0) pe_int (fun _ _ => rfl)) pe_int) pa_nil)) (pv 1))))))), ?_⟩
    have hc : ∀ {H' : Hp} {i : Nat} {z r : Int}, BagC H' b c ns i z r → H' c = some (.lst (ns.map V.int)) := fun B => B.cs
    -- what follows the first if, from any bag
    refine ⟨fun σ' H' => ∃ v i z r, σ' = [some (.ref b), some (.int m), v, none, none] ∧ BagC H' b c ns i z r ∧ Kp b H H', ?_, ?_⟩
    · refine ⟨_, rfl, b, _, _, _, rfl, rfl, SqL.of B.at_, rfl, rfl, _, rfl, ?_⟩
      refine ite2 (fun ez => ?_) (fun _ => ?_)
      · refine ⟨_, rfl, b, _, _, _, rfl, rfl, SqL.of B.at_, rfl, _, rfl, b, _, _, _, rfl, rfl, SqL.of B.at_, rfl, c, _, rfl, .inl (SqL.of B.cs), _, _, rfl, rfl, _, rfl, ?_⟩
        refine ite2 (fun hl => ?_) (fun _ => ⟨_, _, _, _, rfl, B, Kp.refl _ _⟩)
        have hl' : i < ns.length := by
          have := of_decide_eq_true hl
          rw [List.length_map] at this
          omega
        obtain ⟨n, hn⟩ : ∃ n, ns[i]? = some n := ⟨_, List.getElem?_eq_getElem hl'⟩
        have hat : atI (ns.map V.int) (i : Int) = some (V.int n) := atI_nat (by rw [List.getElem?_map, hn]; rfl)
        refine ⟨_, rfl, b, _, _, _, rfl, rfl, SqL.of B.at_, rfl, _, rfl, b, _, _, _, rfl, rfl, SqL.of B.at_, rfl, c, _, _, _, rfl, rfl, SqL.of B.cs, hat, ?_⟩
        refine ⟨_, rfl, b, _, _, _, rfl, rfl, SqL.of B.at_, rfl, _, _, rfl, rfl, _, rfl, b, _, _, _, rfl, rfl, B.at_, rfl, ?_⟩
        have B1 := B.put (i' := i + 1) (z' := z) (r' := r) (o := .lst [.ref c, .int ((i : Int) + 1), .int z, .int r]) (by rw [Int.natCast_add]; rfl) hl' B.z0 B.r0 B.r1
        have k1 : Kp b H (upd H b (.lst [.ref c, .int ((i : Int) + 1), .int z, .int r])) := Kp.upd
        refine ⟨_, rfl, _, rfl, _, _, rfl, rfl, ⟨by decide, by decide, by decide⟩, _, _, rfl, rfl, _, rfl, ?_⟩
        refine ite2 (fun _ => ?_) (fun _ => ?_)
        · refine ⟨_, rfl, _, rfl, _, rfl, b, _, _, _, rfl, rfl, upd_same, rfl, ?_⟩
          exact ⟨_, _, _, _, rfl, B1.put rfl B1.le (by split <;> omega) B1.r0 B1.r1, k1.trans Kp.upd⟩
        · refine ⟨_, rfl, b, _, _, _, rfl, rfl, SqL.of B1.at_, rfl, _, _, rfl, rfl, .inr (by decide), _, rfl, .inl ⟨_, rfl, _, _, rfl, rfl, (by show (0 : Int) < 1000003; decide), _, _, rfl, rfl, .inr (by decide), _, _, rfl, rfl, _, _, rfl, rfl, .inl ⟨_, rfl, _, _, rfl, rfl, (by show (0 : Int) < 2147483647; decide), _, rfl, b, _, _, _, rfl, rfl, upd_same, rfl, ?_⟩⟩⟩
          exact ⟨_, _, _, _, rfl, B1.put rfl B1.le B1.z0 (emod_lo _ (by decide)) (emod_hi _ (by decide)), k1.trans Kp.upd⟩
      · exact ⟨_, _, _, _, rfl, B, Kp.refl _ _⟩
    · rintro σ' H1 ⟨v, i, z, r, rfl, B, kp⟩
      -- if bag[2] > 0
      refine ⟨fun σ' H' => σ' = [some (.ref b), some (.int m), v, none, none] ∧ H' = H1, ?_, ?_⟩
      · refine ⟨_, rfl, b, _, _, _, rfl, rfl, SqL.of B.at_, rfl, _, _, rfl, rfl, _, rfl, ?_⟩
        refine ite2 (fun hz => ?_) (fun _ => ⟨rfl, rfl⟩)
        refine ⟨_, rfl, b, _, _, _, rfl, rfl, SqL.of B.at_, rfl, .inl ⟨_, rfl, _, rfl, _, _, rfl, rfl, m0, ?_⟩⟩
        refine ⟨_, rfl, b, _, _, _, rfl, rfl, SqL.of B.at_, rfl, _, rfl, _, _, rfl, rfl, ⟨m0, m1⟩, _, rfl, b, _, _, _, rfl, rfl, B.at_, rfl, ?_⟩
        refine ⟨_, rfl, ?_⟩
        exact k _ _ (emod_lo _ m0) (emod_hi _ m0) ⟨ns, _, _, _, B.put rfl B.le (Int.ediv_nonneg B.z0 (Int.le_of_lt m0)) B.r0 B.r1⟩ (kp.trans Kp.upd)
      · rintro σ' H2 ⟨rfl, rfl⟩
        refine ⟨_, rfl, b, _, _, _, rfl, rfl, SqL.of B.at_, rfl, _, rfl, b, _, _, _, rfl, rfl, SqL.of B.at_, rfl, _, _, rfl, rfl, .inl ⟨by have := B.r0; omega, by have := B.r1; omega⟩, .inl ⟨_, rfl, _, _, rfl, rfl, (by show (0 : Int) < 2147483629; decide), ?_⟩⟩
        refine ⟨_, rfl, _, _, rfl, rfl, .inr (by decide), _, rfl, b, _, _, _, rfl, rfl, SqL.of B.at_, rfl, _, _, rfl, rfl, .inr (by decide), _, _, rfl, rfl, _, _, rfl, rfl, .inl ⟨_, rfl, _, _, rfl, rfl, (by show (0 : Int) < 2147483647; decide), _, rfl, b, _, _, _, rfl, rfl, B.at_, rfl, ?_⟩⟩
        refine ⟨_, rfl, b, _, _, _, rfl, rfl, SqL.of upd_same, rfl, _, _, rfl, rfl, ⟨by decide, by decide⟩, .inl ⟨_, rfl, _, rfl, _, _, rfl, rfl, m0, ?_⟩⟩
        exact k _ _ (emod_lo _ m0) (emod_hi _ m0) ⟨ns, _, _, _, B.put rfl B.le B.z0 (emod_lo _ (by decide)) (emod_hi _ (by decide))⟩ (kp.trans Kp.upd)
end
end RF

namespace RF
open PySem L2
section
variable {P : Program} {w : World} {K : PySem.W.Frag} {mg : Str → Option Value} {base : Heap}
theorem ok_ofC {f : Addr} {fd : FuncData} {k : Nat} (F : Fun K "_law_of" "_law_of" s_law_of f fd) (T : TB mg) (D1 : Df P w K mg base k "_law_pull" ["_law_bag_here", "_law_sides"] spPullC) : FnOk P w K mg base CX0 (k + 1) f fd ["_law_bag_here", "_law_some"] (spOfC K) := by
  refine F.ok sc_law_of (fun vs H Q E h => ?_) (fun cdv A outer s H vs Q E hr h => ?_)
  · obtain ⟨b, c, a, xs, rfl, _⟩ := h
    rfl
  · obtain ⟨b, c, a, xs, rfl, B, hS, nab, h0, h1, k⟩ := h
    refine ⟨_, (pss_one (ps_ret (pe_ix ix_list (pv 1) (pe_callD D1 hr (Nat.le_refl _) (pa_cons (pv 0) (pa_cons (pe_callB call_len_seq (by rfl) T.len PySem.boot_len (pa_cons (pv 1) pa_nil)) pa_nil))) (fun _ _ => rfl)))), ?_⟩
    refine ⟨_, rfl, _, rfl, _, rfl, a, _, rfl, .inl hS, b, c, _, rfl, B, by omega, by omega, fun d H' d0 d1 B' kp => ?_⟩
    obtain ⟨j, rfl⟩ : ∃ j : Nat, d = (j : Int) := ⟨d.toNat, by omega⟩
    have hj : j < xs.length := by omega
    exact ⟨a, xs, _, _, rfl, rfl, kp.seq nab hS, atI_nat (List.getElem?_eq_getElem hj), k _ _ (List.getElem_mem hj) B' kp⟩
theorem ok_rootC {f : Addr} {fd : FuncData} {k : Nat} (F : Fun K "_law_root" "_law_root" s_law_root f fd) (D1 : Df P w K mg base k "_law_of" ["_law_bag_here", "_law_some"] (spOfC K)) : FnOk P w K mg base CX0 (k + 1) f fd ["_law_bag_here"] spRootC := by
  refine F.ok sc_law_root (fun vs H Q E h => ?_) (fun cdv A outer s H vs Q E hr h => ?_)
  · obtain ⟨b, c, rfl, _⟩ := h
    rfl
  · obtain ⟨b, c, rfl, B, k⟩ := h
    refine ⟨_, (pss_one (ps_ret (pe_callD D1 hr (Nat.le_refl _) (pa_cons (pv 0) (pa_cons (pe_lst (pa_cons pe_int (pa_cons pe_int (pa_cons pe_int (pa_cons pe_int (pa_cons pe_int pa_nil)))))) pa_nil))))), ?_⟩
    refine ⟨_, rfl, by show 5 ≤ sizeLine; decide, fun p hp => ?_⟩
    obtain ⟨xs, hb⟩ := B.atB
    refine ⟨b, c, p, _, rfl, B.same (sNew (Same.refl _) hp), SqL.of upd_same, (ne_of_none hb hp).symm, by decide, by decide, fun v H' hv B' kp => ?_⟩
    have kp' : Kp b H H' := (Kp.of (sNew (Same.refl _) hp)).trans kp
    rcases List.mem_cons.mp hv with rfl | hv
    · exact k _ _ (by decide) B' kp'
    rcases List.mem_cons.mp hv with rfl | hv
    · exact k _ _ (by decide) B' kp'
    rcases List.mem_cons.mp hv with rfl | hv
    · exact k _ _ (by decide) B' kp'
    rcases List.mem_cons.mp hv with rfl | hv
    · exact k _ _ (by decide) B' kp'
    rcases List.mem_cons.mp hv with rfl | hv
    · exact k _ _ (by decide) B' kp'
    cases hv
theorem ok_farC {f : Addr} {fd : FuncData} {k : Nat} (F : Fun K "_law_far" "_law_far" s_law_far f fd) (T : mg "range" = none) (D1 : Df P w K mg base k "_law_pull" ["_law_bag_here", "_law_sides"] spPullC) : FnOk P w K mg base CX0 (k + 1) f fd ["_law_bag_here", "_law_figures"] spFarC := by
  refine F.ok sc_law_far (fun vs H Q E h => ?_) (fun cdv A outer s H vs Q E hr h => ?_)
  · obtain ⟨b, c, m, rfl, _⟩ := h
    rfl
  · obtain ⟨b, c, m, rfl, B, m0, m1, k⟩ := h
    have nd := sc_law_far.nd
    refine ⟨_, (pss_cons (ps_set (i := 2) nd rfl (Or.inl rfl) (pe_op op_add pe_int (pe_callD D1 hr (Nat.le_refl _) (pa_cons (pv 0) (pa_cons (pv 1) pa_nil)))))
      (pss_cons (ps_set (i := 3) nd rfl (Or.inl rfl) pe_int)
      (pss_cons (ps_for PassesOwn.never rfl (pi_range1 rfl T (pa_cons (pv 2) pa_nil)) (pg_name (i := 4) nd rfl (Or.inl rfl))
      (pss_one (ps_set (i := 3) nd rfl (Or.inl rfl) (pe_op op_add (pe_op op_mul (pv 3) pe_int) (pe_callD D1 hr (Nat.le_refl _) (pa_cons (pv 0) (pa_cons pe_int pa_nil)))))))
      (pss_one (ps_ret (pv 3)))))), ?_⟩
    refine ⟨_, rfl, _, rfl, b, c, _, rfl, B, m0, by omega, fun d H1 d0 d1 B1 kp1 => ⟨_, _, rfl, rfl, ?_⟩⟩
    refine ⟨_, rfl, _, rfl, by omega, by omega, for_range (n := (1 + d).toNat) (fun i σ H' => ∃ (n : Int) (v : Option V), σ = [some (.ref b), some (.int m), some (.int (1 + d)), some (.int n), v] ∧ 0 ≤ n ∧ n < 10 ^ i ∧ BagAt H' b c ∧ Kp b H H')
      ⟨0, none, rfl, by decide, by decide, B1, kp1⟩ ?_ ?_⟩
    · rintro i σ H2 hi ⟨n, v, rfl, n0, n1, B2, kp2⟩
      refine ⟨_, rfl, _, _, rfl, rfl, .inr (by decide), _, rfl, b, c, _, rfl, B2, by decide, by decide, fun e H3 e0 e1 B3 kp3 => ⟨_, _, rfl, rfl, ?_⟩⟩
      refine ⟨_, _, rfl, by omega, ?_, B3, kp2.trans kp3⟩
      rw [Int.pow_succ]
      omega
    · rintro σ H2 ⟨n, v, rfl, n0, n1, B2, kp2⟩
      refine ⟨_, rfl, k _ _ n0 (Int.lt_of_lt_of_le n1 ?_) B2 kp2⟩
      exact_mod_cast Nat.pow_le_pow_right (by decide : 0 < 10) (by omega : (1 + d).toNat ≤ m.toNat)
end
end RF

namespace RF
open PySem L2 PyProof.Rows
theorem at_upd {H : Hp} {b p : Addr} {o x : HO} (n : p ≠ b) (h : H p = some x) : upd H b o p = some x := by rw [upd_ne n]; exact h
theorem last_at {H : Hp} {p : Addr} {o : HO} (_ : H p = none) : upd H p o p = some o := upd_same
theorem none_back {H H1 : Hp} {p : Addr} (s : Same H H1) (h : H1 p = none) : H p = none := by
  cases e : H p with
  | none => rfl
  | some o => rw [s p o e] at h; cases h
theorem lflA (d j : Int) : lfl d 0 j 1 1 = flr d j := by
  unfold lfl
  simp
def spAtMost : Sp := fun vs H Q _ => ∃ (d i j k B : Int), vs = [.int d, .int i, .int j, .int k, .int B] ∧ Root d ∧ Bd 200 i ∧ Bd 200 j ∧ Bd 4 k ∧ Bd 50 B ∧ ∀ H', Same H H' → Q (.bl (decide (flr d j < B * k - i + z01 j) && decide (flr d (-j) < B * k + i + z01 j))) H'
def spTail : Sp := fun vs H Q _ => ∃ (d : Int) (n : Nat), vs = [.int d, .int (n : Int)] ∧ Root d ∧ ∀ x H', H x = none → H' x = some (.tup [.int (tlI d n), .int 1, .int (tlK d n)]) → Same H H' → Q (.ref x) H'
def spLBnd (K : PySem.W.Frag) : Sp := fun vs H Q _ => ∃ (l : Addr) (d : Int) (fs : List Int), vs = [.int d, .ref l] ∧ Root d ∧ SqL K H l (fs.map V.int) ∧ Fac fs ∧ ∀ H', Same H H' → Q (.int (bnd d fs)) H'
def spLKept (K : PySem.W.Frag) : Sp := fun vs H Q _ => ∃ (l : Addr) (d u v : Int) (fs : List Int) (n : Nat), vs = [.int d, .ref l, .int u, .int v, .int (n : Int)] ∧ Root d ∧ SqL K H l (fs.map V.int) ∧ Fac fs ∧ Bd 100 u ∧ Bd 100 v ∧ ∀ H', Same H H' → Q (.bl (kpt d (bnd d fs) u v n)) H'
def spFactors : Sp := fun vs H Q _ => ∃ (b c : Addr) (m : Nat), vs = [.ref b, .int (m : Int)] ∧ BagAt H b c ∧ m ≤ 100 ∧ ∀ a fs H', H a = none → H' a = some (.lst (fs.map V.int)) → Fac fs → BagAt H' b c → a ≠ b → a ≠ c → Kp b H H' → Q (.ref a) H'
section
variable {P : Program} {w : World} {K : PySem.W.Frag} {mg : Str → Option Value} {base : Heap}
abbrev s_law_tail : Stmt := top 43
abbrev n_law_tail : List Str := ["_law_root_here", "_law_place_z", "_law_tails"]
theorem sc_law_tail : FnScope n_law_tail ["_law_root_here", "_law_place_z"] (defScope s_law_tail) := ⟨rfl, rfl, rfl, by decide +kernel, rfl, by decide +kernel, by decide +kernel⟩
theorem ok_ltail {f : Addr} {fd : FuncData} {k : Nat} (F : Fun K "_law_tail" "_law_tail" s_law_tail f fd) (T1 : mg "len" = none) (T2 : mg "int" = none) : FnOk P w K mg base CX0 (k + 1) f fd ["_law_root_here", "_law_place_z"] spTail := by
  refine F.ok sc_law_tail (fun vs H Q E h => ?_) (fun cdv A outer s H vs Q E hr h => ?_)
  · obtain ⟨d, n, rfl, _⟩ := h
    rfl
  · obtain ⟨d, n, rfl, hd, q⟩ := h
    have nd := sc_law_tail.nd
    refine ⟨_, (pss_cons (ps_set (i := 2) nd rfl (Or.inl rfl) (pe_disp (pps_cons pe_int (pe_lst (pa_cons (pe_tup (pa_cons pe_int (pa_cons pe_int (pa_cons pe_int pa_nil)))) pa_nil)) (pps_cons pe_int (pe_lst (pa_cons (pe_tup (pa_cons pe_int (pa_cons pe_int (pa_cons pe_int pa_nil)))) (pa_cons (pe_tup (pa_cons pe_int (pa_cons pe_int (pa_cons pe_int pa_nil)))) pa_nil))) (pps_cons pe_int (pe_lst (pa_cons (pe_tup (pa_cons pe_int (pa_cons pe_int (pa_cons pe_int pa_nil)))) pa_nil)) (pps_cons pe_int (pe_lst (pa_cons (pe_tup (pa_cons pe_int (pa_cons pe_int (pa_cons pe_int pa_nil)))) (pa_cons (pe_tup (pa_cons pe_int (pa_cons pe_int (pa_cons pe_int pa_nil)))) pa_nil))) (pps_cons pe_int (pe_lst (pa_cons (pe_tup (pa_cons pe_int (pa_cons pe_int (pa_cons pe_int pa_nil)))) pa_nil)) pps_nil))))) (by rfl) (by rfl) (fun z => by cases z) (by decide)))
      (pss_one (ps_ret (pe_ix ix_list (pe_dget (hu_of hr) (pv 2) (pv 0) (fun _ _ => rfl)) (pe_op op_mod (pe_callTy call_int1 (by rfl) T2 (by decide +kernel) (pa_cons (pv 1) pa_nil)) (pe_callB call_len_seq (by rfl) T1 (by decide +kernel) (pa_cons (pe_dget (hu_of hr) (pv 2) (pv 0) (fun _ _ => rfl)) pa_nil))) (fun _ _ => rfl))))), ?_⟩
    refine fun b hb => ?_
    refine ⟨by show 3 ≤ sizeLine; decide, fun t2_0 ht2_0 => ⟨by show 1 ≤ sizeLine; decide, fun l2 hl2 => ⟨by show 3 ≤ sizeLine; decide, fun t3_0 ht3_0 => ⟨by show 3 ≤ sizeLine; decide, fun t3_1 ht3_1 => ⟨by show 2 ≤ sizeLine; decide, fun l3 hl3 => ⟨by show 3 ≤ sizeLine; decide, fun t5_0 ht5_0 => ⟨by show 1 ≤ sizeLine; decide, fun l5 hl5 => ⟨by show 3 ≤ sizeLine; decide, fun t6_0 ht6_0 => ⟨by show 3 ≤ sizeLine; decide, fun t6_1 ht6_1 => ⟨by show 2 ≤ sizeLine; decide, fun l6 hl6 => ⟨by show 3 ≤ sizeLine; decide, fun t13_0 ht13_0 => ⟨by show 1 ≤ sizeLine; decide, fun l13 hl13 => ?_⟩⟩⟩⟩⟩⟩⟩⟩⟩⟩⟩⟩
    have xt2_0 := (sNew (o := .lst [.ref t13_0]) (sNew (o := .tup [.int 3, .int 1, .int 2]) (sNew (o := .lst [.ref t6_0, .ref t6_1]) (sNew (o := .tup [.int 2, .int 1, .int 1]) (sNew (o := .tup [.int 2, .int 1, .int 2]) (sNew (o := .lst [.ref t5_0]) (sNew (o := .tup [.int 1, .int 1, .int 2]) (sNew (o := .lst [.ref t3_0, .ref t3_1]) (sNew (o := .tup [.int 1, .int 1, .int 1]) (sNew (o := .tup [.int 1, .int 1, .int 2]) (sNew (o := .lst [.ref t2_0]) (Same.refl _) hl2) ht3_0) ht3_1) hl3) ht5_0) hl5) ht6_0) ht6_1) hl6) ht13_0) hl13) t2_0 _ (last_at (o := .tup [.int 1, .int 1, .int 1]) ht2_0)
    have xl2 := (sNew (o := .lst [.ref t13_0]) (sNew (o := .tup [.int 3, .int 1, .int 2]) (sNew (o := .lst [.ref t6_0, .ref t6_1]) (sNew (o := .tup [.int 2, .int 1, .int 1]) (sNew (o := .tup [.int 2, .int 1, .int 2]) (sNew (o := .lst [.ref t5_0]) (sNew (o := .tup [.int 1, .int 1, .int 2]) (sNew (o := .lst [.ref t3_0, .ref t3_1]) (sNew (o := .tup [.int 1, .int 1, .int 1]) (sNew (o := .tup [.int 1, .int 1, .int 2]) (Same.refl _) ht3_0) ht3_1) hl3) ht5_0) hl5) ht6_0) ht6_1) hl6) ht13_0) hl13) l2 _ (last_at (o := .lst [.ref t2_0]) hl2)
    have xt3_0 := (sNew (o := .lst [.ref t13_0]) (sNew (o := .tup [.int 3, .int 1, .int 2]) (sNew (o := .lst [.ref t6_0, .ref t6_1]) (sNew (o := .tup [.int 2, .int 1, .int 1]) (sNew (o := .tup [.int 2, .int 1, .int 2]) (sNew (o := .lst [.ref t5_0]) (sNew (o := .tup [.int 1, .int 1, .int 2]) (sNew (o := .lst [.ref t3_0, .ref t3_1]) (sNew (o := .tup [.int 1, .int 1, .int 1]) (Same.refl _) ht3_1) hl3) ht5_0) hl5) ht6_0) ht6_1) hl6) ht13_0) hl13) t3_0 _ (last_at (o := .tup [.int 1, .int 1, .int 2]) ht3_0)
    have xt3_1 := (sNew (o := .lst [.ref t13_0]) (sNew (o := .tup [.int 3, .int 1, .int 2]) (sNew (o := .lst [.ref t6_0, .ref t6_1]) (sNew (o := .tup [.int 2, .int 1, .int 1]) (sNew (o := .tup [.int 2, .int 1, .int 2]) (sNew (o := .lst [.ref t5_0]) (sNew (o := .tup [.int 1, .int 1, .int 2]) (sNew (o := .lst [.ref t3_0, .ref t3_1]) (Same.refl _) hl3) ht5_0) hl5) ht6_0) ht6_1) hl6) ht13_0) hl13) t3_1 _ (last_at (o := .tup [.int 1, .int 1, .int 1]) ht3_1)
    have xl3 := (sNew (o := .lst [.ref t13_0]) (sNew (o := .tup [.int 3, .int 1, .int 2]) (sNew (o := .lst [.ref t6_0, .ref t6_1]) (sNew (o := .tup [.int 2, .int 1, .int 1]) (sNew (o := .tup [.int 2, .int 1, .int 2]) (sNew (o := .lst [.ref t5_0]) (sNew (o := .tup [.int 1, .int 1, .int 2]) (Same.refl _) ht5_0) hl5) ht6_0) ht6_1) hl6) ht13_0) hl13) l3 _ (last_at (o := .lst [.ref t3_0, .ref t3_1]) hl3)
    have xt5_0 := (sNew (o := .lst [.ref t13_0]) (sNew (o := .tup [.int 3, .int 1, .int 2]) (sNew (o := .lst [.ref t6_0, .ref t6_1]) (sNew (o := .tup [.int 2, .int 1, .int 1]) (sNew (o := .tup [.int 2, .int 1, .int 2]) (sNew (o := .lst [.ref t5_0]) (Same.refl _) hl5) ht6_0) ht6_1) hl6) ht13_0) hl13) t5_0 _ (last_at (o := .tup [.int 1, .int 1, .int 2]) ht5_0)
    have xl5 := (sNew (o := .lst [.ref t13_0]) (sNew (o := .tup [.int 3, .int 1, .int 2]) (sNew (o := .lst [.ref t6_0, .ref t6_1]) (sNew (o := .tup [.int 2, .int 1, .int 1]) (sNew (o := .tup [.int 2, .int 1, .int 2]) (Same.refl _) ht6_0) ht6_1) hl6) ht13_0) hl13) l5 _ (last_at (o := .lst [.ref t5_0]) hl5)
    have xt6_0 := (sNew (o := .lst [.ref t13_0]) (sNew (o := .tup [.int 3, .int 1, .int 2]) (sNew (o := .lst [.ref t6_0, .ref t6_1]) (sNew (o := .tup [.int 2, .int 1, .int 1]) (Same.refl _) ht6_1) hl6) ht13_0) hl13) t6_0 _ (last_at (o := .tup [.int 2, .int 1, .int 2]) ht6_0)
    have xt6_1 := (sNew (o := .lst [.ref t13_0]) (sNew (o := .tup [.int 3, .int 1, .int 2]) (sNew (o := .lst [.ref t6_0, .ref t6_1]) (Same.refl _) hl6) ht13_0) hl13) t6_1 _ (last_at (o := .tup [.int 2, .int 1, .int 1]) ht6_1)
    have xl6 := (sNew (o := .lst [.ref t13_0]) (sNew (o := .tup [.int 3, .int 1, .int 2]) (Same.refl _) ht13_0) hl13) l6 _ (last_at (o := .lst [.ref t6_0, .ref t6_1]) hl6)
    have xt13_0 := (sNew (o := .lst [.ref t13_0]) (Same.refl _) hl13) t13_0 _ (last_at (o := .tup [.int 3, .int 1, .int 2]) ht13_0)
    have xl13 := (Same.refl _) l13 _ (last_at (o := .lst [.ref t13_0]) hl13)
    have smf := (sNew (o := .lst [.ref t13_0]) (sNew (o := .tup [.int 3, .int 1, .int 2]) (sNew (o := .lst [.ref t6_0, .ref t6_1]) (sNew (o := .tup [.int 2, .int 1, .int 1]) (sNew (o := .tup [.int 2, .int 1, .int 2]) (sNew (o := .lst [.ref t5_0]) (sNew (o := .tup [.int 1, .int 1, .int 2]) (sNew (o := .lst [.ref t3_0, .ref t3_1]) (sNew (o := .tup [.int 1, .int 1, .int 1]) (sNew (o := .tup [.int 1, .int 1, .int 2]) (sNew (o := .lst [.ref t2_0]) (sNew (o := .tup [.int 1, .int 1, .int 1]) (sNew (o := .dK []) (Same.refl H) hb) ht2_0) hl2) ht3_0) ht3_1) hl3) ht5_0) hl5) ht6_0) ht6_1) hl6) ht13_0) hl13)
    have smb := (sNew (o := .lst [.ref t13_0]) (sNew (o := .tup [.int 3, .int 1, .int 2]) (sNew (o := .lst [.ref t6_0, .ref t6_1]) (sNew (o := .tup [.int 2, .int 1, .int 1]) (sNew (o := .tup [.int 2, .int 1, .int 2]) (sNew (o := .lst [.ref t5_0]) (sNew (o := .tup [.int 1, .int 1, .int 2]) (sNew (o := .lst [.ref t3_0, .ref t3_1]) (sNew (o := .tup [.int 1, .int 1, .int 1]) (sNew (o := .tup [.int 1, .int 1, .int 2]) (sNew (o := .lst [.ref t2_0]) (sNew (o := .tup [.int 1, .int 1, .int 1]) (Same.refl (upd H b (.dK []))) ht2_0) hl2) ht3_0) ht3_1) hl3) ht5_0) hl5) ht6_0) ht6_1) hl6) ht13_0) hl13)
    have xb := smb b _ upd_same
    have nt2_0 : t2_0 ≠ b := (ne_of_none ((Same.refl (upd H b (.dK []))) b _ upd_same) ht2_0).symm
    have ft2_0 : H t2_0 = none := none_back (sNew (o := .dK []) (Same.refl H) hb) ht2_0
    have nl2 : l2 ≠ b := (ne_of_none ((sNew (o := .tup [.int 1, .int 1, .int 1]) (Same.refl (upd H b (.dK []))) ht2_0) b _ upd_same) hl2).symm
    have fl2 : H l2 = none := none_back (sNew (o := .tup [.int 1, .int 1, .int 1]) (sNew (o := .dK []) (Same.refl H) hb) ht2_0) hl2
    have nt3_0 : t3_0 ≠ b := (ne_of_none ((sNew (o := .lst [.ref t2_0]) (sNew (o := .tup [.int 1, .int 1, .int 1]) (Same.refl (upd H b (.dK []))) ht2_0) hl2) b _ upd_same) ht3_0).symm
    have ft3_0 : H t3_0 = none := none_back (sNew (o := .lst [.ref t2_0]) (sNew (o := .tup [.int 1, .int 1, .int 1]) (sNew (o := .dK []) (Same.refl H) hb) ht2_0) hl2) ht3_0
    have nt3_1 : t3_1 ≠ b := (ne_of_none ((sNew (o := .tup [.int 1, .int 1, .int 2]) (sNew (o := .lst [.ref t2_0]) (sNew (o := .tup [.int 1, .int 1, .int 1]) (Same.refl (upd H b (.dK []))) ht2_0) hl2) ht3_0) b _ upd_same) ht3_1).symm
    have ft3_1 : H t3_1 = none := none_back (sNew (o := .tup [.int 1, .int 1, .int 2]) (sNew (o := .lst [.ref t2_0]) (sNew (o := .tup [.int 1, .int 1, .int 1]) (sNew (o := .dK []) (Same.refl H) hb) ht2_0) hl2) ht3_0) ht3_1
    have nl3 : l3 ≠ b := (ne_of_none ((sNew (o := .tup [.int 1, .int 1, .int 1]) (sNew (o := .tup [.int 1, .int 1, .int 2]) (sNew (o := .lst [.ref t2_0]) (sNew (o := .tup [.int 1, .int 1, .int 1]) (Same.refl (upd H b (.dK []))) ht2_0) hl2) ht3_0) ht3_1) b _ upd_same) hl3).symm
    have fl3 : H l3 = none := none_back (sNew (o := .tup [.int 1, .int 1, .int 1]) (sNew (o := .tup [.int 1, .int 1, .int 2]) (sNew (o := .lst [.ref t2_0]) (sNew (o := .tup [.int 1, .int 1, .int 1]) (sNew (o := .dK []) (Same.refl H) hb) ht2_0) hl2) ht3_0) ht3_1) hl3
    have nt5_0 : t5_0 ≠ b := (ne_of_none ((sNew (o := .lst [.ref t3_0, .ref t3_1]) (sNew (o := .tup [.int 1, .int 1, .int 1]) (sNew (o := .tup [.int 1, .int 1, .int 2]) (sNew (o := .lst [.ref t2_0]) (sNew (o := .tup [.int 1, .int 1, .int 1]) (Same.refl (upd H b (.dK []))) ht2_0) hl2) ht3_0) ht3_1) hl3) b _ upd_same) ht5_0).symm
    have ft5_0 : H t5_0 = none := none_back (sNew (o := .lst [.ref t3_0, .ref t3_1]) (sNew (o := .tup [.int 1, .int 1, .int 1]) (sNew (o := .tup [.int 1, .int 1, .int 2]) (sNew (o := .lst [.ref t2_0]) (sNew (o := .tup [.int 1, .int 1, .int 1]) (sNew (o := .dK []) (Same.refl H) hb) ht2_0) hl2) ht3_0) ht3_1) hl3) ht5_0
    have nl5 : l5 ≠ b := (ne_of_none ((sNew (o := .tup [.int 1, .int 1, .int 2]) (sNew (o := .lst [.ref t3_0, .ref t3_1]) (sNew (o := .tup [.int 1, .int 1, .int 1]) (sNew (o := .tup [.int 1, .int 1, .int 2]) (sNew (o := .lst [.ref t2_0]) (sNew (o := .tup [.int 1, .int 1, .int 1]) (Same.refl (upd H b (.dK []))) ht2_0) hl2) ht3_0) ht3_1) hl3) ht5_0) b _ upd_same) hl5).symm
    have fl5 : H l5 = none := none_back (sNew (o := .tup [.int 1, .int 1, .int 2]) (sNew (o := .lst [.ref t3_0, .ref t3_1]) (sNew (o := .tup [.int 1, .int 1, .int 1]) (sNew (o := .tup [.int 1, .int 1, .int 2]) (sNew (o := .lst [.ref t2_0]) (sNew (o := .tup [.int 1, .int 1, .int 1]) (sNew (o := .dK []) (Same.refl H) hb) ht2_0) hl2) ht3_0) ht3_1) hl3) ht5_0) hl5
    have nt6_0 : t6_0 ≠ b := (ne_of_none ((sNew (o := .lst [.ref t5_0]) (sNew (o := .tup [.int 1, .int 1, .int 2]) (sNew (o := .lst [.ref t3_0, .ref t3_1]) (sNew (o := .tup [.int 1, .int 1, .int 1]) (sNew (o := .tup [.int 1, .int 1, .int 2]) (sNew (o := .lst [.ref t2_0]) (sNew (o := .tup [.int 1, .int 1, .int 1]) (Same.refl (upd H b (.dK []))) ht2_0) hl2) ht3_0) ht3_1) hl3) ht5_0) hl5) b _ upd_same) ht6_0).symm
    have ft6_0 : H t6_0 = none := none_back (sNew (o := .lst [.ref t5_0]) (sNew (o := .tup [.int 1, .int 1, .int 2]) (sNew (o := .lst [.ref t3_0, .ref t3_1]) (sNew (o := .tup [.int 1, .int 1, .int 1]) (sNew (o := .tup [.int 1, .int 1, .int 2]) (sNew (o := .lst [.ref t2_0]) (sNew (o := .tup [.int 1, .int 1, .int 1]) (sNew (o := .dK []) (Same.refl H) hb) ht2_0) hl2) ht3_0) ht3_1) hl3) ht5_0) hl5) ht6_0
    have nt6_1 : t6_1 ≠ b := (ne_of_none ((sNew (o := .tup [.int 2, .int 1, .int 2]) (sNew (o := .lst [.ref t5_0]) (sNew (o := .tup [.int 1, .int 1, .int 2]) (sNew (o := .lst [.ref t3_0, .ref t3_1]) (sNew (o := .tup [.int 1, .int 1, .int 1]) (sNew (o := .tup [.int 1, .int 1, .int 2]) (sNew (o := .lst [.ref t2_0]) (sNew (o := .tup [.int 1, .int 1, .int 1]) (Same.refl (upd H b (.dK []))) ht2_0) hl2) ht3_0) ht3_1) hl3) ht5_0) hl5) ht6_0) b _ upd_same) ht6_1).symm
    have ft6_1 : H t6_1 = none := none_back (sNew (o := .tup [.int 2, .int 1, .int 2]) (sNew (o := .lst [.ref t5_0]) (sNew (o := .tup [.int 1, .int 1, .int 2]) (sNew (o := .lst [.ref t3_0, .ref t3_1]) (sNew (o := .tup [.int 1, .int 1, .int 1]) (sNew (o := .tup [.int 1, .int 1, .int 2]) (sNew (o := .lst [.ref t2_0]) (sNew (o := .tup [.int 1, .int 1, .int 1]) (sNew (o := .dK []) (Same.refl H) hb) ht2_0) hl2) ht3_0) ht3_1) hl3) ht5_0) hl5) ht6_0) ht6_1
    have nl6 : l6 ≠ b := (ne_of_none ((sNew (o := .tup [.int 2, .int 1, .int 1]) (sNew (o := .tup [.int 2, .int 1, .int 2]) (sNew (o := .lst [.ref t5_0]) (sNew (o := .tup [.int 1, .int 1, .int 2]) (sNew (o := .lst [.ref t3_0, .ref t3_1]) (sNew (o := .tup [.int 1, .int 1, .int 1]) (sNew (o := .tup [.int 1, .int 1, .int 2]) (sNew (o := .lst [.ref t2_0]) (sNew (o := .tup [.int 1, .int 1, .int 1]) (Same.refl (upd H b (.dK []))) ht2_0) hl2) ht3_0) ht3_1) hl3) ht5_0) hl5) ht6_0) ht6_1) b _ upd_same) hl6).symm
    have fl6 : H l6 = none := none_back (sNew (o := .tup [.int 2, .int 1, .int 1]) (sNew (o := .tup [.int 2, .int 1, .int 2]) (sNew (o := .lst [.ref t5_0]) (sNew (o := .tup [.int 1, .int 1, .int 2]) (sNew (o := .lst [.ref t3_0, .ref t3_1]) (sNew (o := .tup [.int 1, .int 1, .int 1]) (sNew (o := .tup [.int 1, .int 1, .int 2]) (sNew (o := .lst [.ref t2_0]) (sNew (o := .tup [.int 1, .int 1, .int 1]) (sNew (o := .dK []) (Same.refl H) hb) ht2_0) hl2) ht3_0) ht3_1) hl3) ht5_0) hl5) ht6_0) ht6_1) hl6
    have nt13_0 : t13_0 ≠ b := (ne_of_none ((sNew (o := .lst [.ref t6_0, .ref t6_1]) (sNew (o := .tup [.int 2, .int 1, .int 1]) (sNew (o := .tup [.int 2, .int 1, .int 2]) (sNew (o := .lst [.ref t5_0]) (sNew (o := .tup [.int 1, .int 1, .int 2]) (sNew (o := .lst [.ref t3_0, .ref t3_1]) (sNew (o := .tup [.int 1, .int 1, .int 1]) (sNew (o := .tup [.int 1, .int 1, .int 2]) (sNew (o := .lst [.ref t2_0]) (sNew (o := .tup [.int 1, .int 1, .int 1]) (Same.refl (upd H b (.dK []))) ht2_0) hl2) ht3_0) ht3_1) hl3) ht5_0) hl5) ht6_0) ht6_1) hl6) b _ upd_same) ht13_0).symm
    have ft13_0 : H t13_0 = none := none_back (sNew (o := .lst [.ref t6_0, .ref t6_1]) (sNew (o := .tup [.int 2, .int 1, .int 1]) (sNew (o := .tup [.int 2, .int 1, .int 2]) (sNew (o := .lst [.ref t5_0]) (sNew (o := .tup [.int 1, .int 1, .int 2]) (sNew (o := .lst [.ref t3_0, .ref t3_1]) (sNew (o := .tup [.int 1, .int 1, .int 1]) (sNew (o := .tup [.int 1, .int 1, .int 2]) (sNew (o := .lst [.ref t2_0]) (sNew (o := .tup [.int 1, .int 1, .int 1]) (sNew (o := .dK []) (Same.refl H) hb) ht2_0) hl2) ht3_0) ht3_1) hl3) ht5_0) hl5) ht6_0) ht6_1) hl6) ht13_0
    have nl13 : l13 ≠ b := (ne_of_none ((sNew (o := .tup [.int 3, .int 1, .int 2]) (sNew (o := .lst [.ref t6_0, .ref t6_1]) (sNew (o := .tup [.int 2, .int 1, .int 1]) (sNew (o := .tup [.int 2, .int 1, .int 2]) (sNew (o := .lst [.ref t5_0]) (sNew (o := .tup [.int 1, .int 1, .int 2]) (sNew (o := .lst [.ref t3_0, .ref t3_1]) (sNew (o := .tup [.int 1, .int 1, .int 1]) (sNew (o := .tup [.int 1, .int 1, .int 2]) (sNew (o := .lst [.ref t2_0]) (sNew (o := .tup [.int 1, .int 1, .int 1]) (Same.refl (upd H b (.dK []))) ht2_0) hl2) ht3_0) ht3_1) hl3) ht5_0) hl5) ht6_0) ht6_1) hl6) ht13_0) b _ upd_same) hl13).symm
    have fl13 : H l13 = none := none_back (sNew (o := .tup [.int 3, .int 1, .int 2]) (sNew (o := .lst [.ref t6_0, .ref t6_1]) (sNew (o := .tup [.int 2, .int 1, .int 1]) (sNew (o := .tup [.int 2, .int 1, .int 2]) (sNew (o := .lst [.ref t5_0]) (sNew (o := .tup [.int 1, .int 1, .int 2]) (sNew (o := .lst [.ref t3_0, .ref t3_1]) (sNew (o := .tup [.int 1, .int 1, .int 1]) (sNew (o := .tup [.int 1, .int 1, .int 2]) (sNew (o := .lst [.ref t2_0]) (sNew (o := .tup [.int 1, .int 1, .int 1]) (sNew (o := .dK []) (Same.refl H) hb) ht2_0) hl2) ht3_0) ht3_1) hl3) ht5_0) hl5) ht6_0) ht6_1) hl6) ht13_0) hl13
    refine ⟨xb, [(Sum.inl 2, .ref l2), (Sum.inl 3, .ref l3), (Sum.inl 5, .ref l5), (Sum.inl 6, .ref l6), (Sum.inl 13, .ref l13)], rfl, by show 5 ≤ 15; decide, ?_⟩
    have smp := sm_upd (o := .dK (mergeK [] [(Sum.inl 2, .ref l2), (Sum.inl 3, .ref l3), (Sum.inl 5, .ref l5), (Sum.inl 6, .ref l6), (Sum.inl 13, .ref l13)])) smf hb
    rcases hd with rfl | rfl | rfl | rfl | rfl
    · have h2 : n = n := rfl
      have hl := at_upd (o := (.dK (mergeK [] [(Sum.inl 2, .ref l2), (Sum.inl 3, .ref l3), (Sum.inl 5, .ref l5), (Sum.inl 6, .ref l6), (Sum.inl 13, .ref l13)]))) nl2 xl2
      have eI : tlI 2 n = 1 := by unfold tlI; simp
      have eK : tlK 2 n = 1 := by unfold tlK; simp [h2]
      have hat : atI [V.ref t2_0] ((n : Int) % ((1 : Nat) : Int)) = some (V.ref t2_0) := by rw [show ((n : Int) % ((1 : Nat) : Int)) = 0 from Int.emod_one _]; rfl
      have ht := at_upd (o := (.dK (mergeK [] [(Sum.inl 2, .ref l2), (Sum.inl 3, .ref l3), (Sum.inl 5, .ref l5), (Sum.inl 6, .ref l6), (Sum.inl 13, .ref l13)]))) nt2_0 xt2_0
      refine ⟨_, rfl, _, rfl, b, .ref l2, rfl, .inl ⟨_, Sum.inl 2, .inl upd_same, rfl, rfl⟩, _, rfl, .inl ⟨_, rfl, _, rfl, _, rfl, b, .ref l2, rfl, .inl ⟨_, Sum.inl 2, .inl upd_same, rfl, rfl⟩, l2, _, rfl, .inl (SqL.of hl), _, _, rfl, rfl, (by show (0 : Int) < 1; decide), l2, _, _, _, rfl, rfl, SqL.of hl, hat, q _ _ ft2_0 (by rw [eI, eK]; exact ht) smp⟩⟩

    · rcases (show n % 2 = 0 ∨ n % 2 = 1 by omega) with h2 | h2
      · have hl := at_upd (o := (.dK (mergeK [] [(Sum.inl 2, .ref l2), (Sum.inl 3, .ref l3), (Sum.inl 5, .ref l5), (Sum.inl 6, .ref l6), (Sum.inl 13, .ref l13)]))) nl3 xl3
        have eI : tlI 3 n = 1 := by unfold tlI; simp
        have eK : tlK 3 n = 2 := by unfold tlK; simp [h2]
        have hat : atI [V.ref t3_0, V.ref t3_1] ((n : Int) % ((2 : Nat) : Int)) = some (V.ref t3_0) := by rw [show ((n : Int) % ((2 : Nat) : Int)) = 0 by omega]; rfl
        have ht := at_upd (o := (.dK (mergeK [] [(Sum.inl 2, .ref l2), (Sum.inl 3, .ref l3), (Sum.inl 5, .ref l5), (Sum.inl 6, .ref l6), (Sum.inl 13, .ref l13)]))) nt3_0 xt3_0
        refine ⟨_, rfl, _, rfl, b, .ref l3, rfl, .inl ⟨_, Sum.inl 3, .inl upd_same, rfl, rfl⟩, _, rfl, .inl ⟨_, rfl, _, rfl, _, rfl, b, .ref l3, rfl, .inl ⟨_, Sum.inl 3, .inl upd_same, rfl, rfl⟩, l3, _, rfl, .inl (SqL.of hl), _, _, rfl, rfl, (by show (0 : Int) < 2; decide), l3, _, _, _, rfl, rfl, SqL.of hl, hat, q _ _ ft3_0 (by rw [eI, eK]; exact ht) smp⟩⟩

      · have hl := at_upd (o := (.dK (mergeK [] [(Sum.inl 2, .ref l2), (Sum.inl 3, .ref l3), (Sum.inl 5, .ref l5), (Sum.inl 6, .ref l6), (Sum.inl 13, .ref l13)]))) nl3 xl3
        have eI : tlI 3 n = 1 := by unfold tlI; simp
        have eK : tlK 3 n = 1 := by unfold tlK; simp [h2]
        have hat : atI [V.ref t3_0, V.ref t3_1] ((n : Int) % ((2 : Nat) : Int)) = some (V.ref t3_1) := by rw [show ((n : Int) % ((2 : Nat) : Int)) = 1 by omega]; rfl
        have ht := at_upd (o := (.dK (mergeK [] [(Sum.inl 2, .ref l2), (Sum.inl 3, .ref l3), (Sum.inl 5, .ref l5), (Sum.inl 6, .ref l6), (Sum.inl 13, .ref l13)]))) nt3_1 xt3_1
        refine ⟨_, rfl, _, rfl, b, .ref l3, rfl, .inl ⟨_, Sum.inl 3, .inl upd_same, rfl, rfl⟩, _, rfl, .inl ⟨_, rfl, _, rfl, _, rfl, b, .ref l3, rfl, .inl ⟨_, Sum.inl 3, .inl upd_same, rfl, rfl⟩, l3, _, rfl, .inl (SqL.of hl), _, _, rfl, rfl, (by show (0 : Int) < 2; decide), l3, _, _, _, rfl, rfl, SqL.of hl, hat, q _ _ ft3_1 (by rw [eI, eK]; exact ht) smp⟩⟩

    · have h2 : n = n := rfl
      have hl := at_upd (o := (.dK (mergeK [] [(Sum.inl 2, .ref l2), (Sum.inl 3, .ref l3), (Sum.inl 5, .ref l5), (Sum.inl 6, .ref l6), (Sum.inl 13, .ref l13)]))) nl5 xl5
      have eI : tlI 5 n = 1 := by unfold tlI; simp
      have eK : tlK 5 n = 2 := by unfold tlK; simp [h2]
      have hat : atI [V.ref t5_0] ((n : Int) % ((1 : Nat) : Int)) = some (V.ref t5_0) := by rw [show ((n : Int) % ((1 : Nat) : Int)) = 0 from Int.emod_one _]; rfl
      have ht := at_upd (o := (.dK (mergeK [] [(Sum.inl 2, .ref l2), (Sum.inl 3, .ref l3), (Sum.inl 5, .ref l5), (Sum.inl 6, .ref l6), (Sum.inl 13, .ref l13)]))) nt5_0 xt5_0
      refine ⟨_, rfl, _, rfl, b, .ref l5, rfl, .inl ⟨_, Sum.inl 5, .inl upd_same, rfl, rfl⟩, _, rfl, .inl ⟨_, rfl, _, rfl, _, rfl, b, .ref l5, rfl, .inl ⟨_, Sum.inl 5, .inl upd_same, rfl, rfl⟩, l5, _, rfl, .inl (SqL.of hl), _, _, rfl, rfl, (by show (0 : Int) < 1; decide), l5, _, _, _, rfl, rfl, SqL.of hl, hat, q _ _ ft5_0 (by rw [eI, eK]; exact ht) smp⟩⟩

    · rcases (show n % 2 = 0 ∨ n % 2 = 1 by omega) with h2 | h2
      · have hl := at_upd (o := (.dK (mergeK [] [(Sum.inl 2, .ref l2), (Sum.inl 3, .ref l3), (Sum.inl 5, .ref l5), (Sum.inl 6, .ref l6), (Sum.inl 13, .ref l13)]))) nl6 xl6
        have eI : tlI 6 n = 2 := by unfold tlI; simp
        have eK : tlK 6 n = 2 := by unfold tlK; simp [h2]
        have hat : atI [V.ref t6_0, V.ref t6_1] ((n : Int) % ((2 : Nat) : Int)) = some (V.ref t6_0) := by rw [show ((n : Int) % ((2 : Nat) : Int)) = 0 by omega]; rfl
        have ht := at_upd (o := (.dK (mergeK [] [(Sum.inl 2, .ref l2), (Sum.inl 3, .ref l3), (Sum.inl 5, .ref l5), (Sum.inl 6, .ref l6), (Sum.inl 13, .ref l13)]))) nt6_0 xt6_0
        refine ⟨_, rfl, _, rfl, b, .ref l6, rfl, .inl ⟨_, Sum.inl 6, .inl upd_same, rfl, rfl⟩, _, rfl, .inl ⟨_, rfl, _, rfl, _, rfl, b, .ref l6, rfl, .inl ⟨_, Sum.inl 6, .inl upd_same, rfl, rfl⟩, l6, _, rfl, .inl (SqL.of hl), _, _, rfl, rfl, (by show (0 : Int) < 2; decide), l6, _, _, _, rfl, rfl, SqL.of hl, hat, q _ _ ft6_0 (by rw [eI, eK]; exact ht) smp⟩⟩

      · have hl := at_upd (o := (.dK (mergeK [] [(Sum.inl 2, .ref l2), (Sum.inl 3, .ref l3), (Sum.inl 5, .ref l5), (Sum.inl 6, .ref l6), (Sum.inl 13, .ref l13)]))) nl6 xl6
        have eI : tlI 6 n = 2 := by unfold tlI; simp
        have eK : tlK 6 n = 1 := by unfold tlK; simp [h2]
        have hat : atI [V.ref t6_0, V.ref t6_1] ((n : Int) % ((2 : Nat) : Int)) = some (V.ref t6_1) := by rw [show ((n : Int) % ((2 : Nat) : Int)) = 1 by omega]; rfl
        have ht := at_upd (o := (.dK (mergeK [] [(Sum.inl 2, .ref l2), (Sum.inl 3, .ref l3), (Sum.inl 5, .ref l5), (Sum.inl 6, .ref l6), (Sum.inl 13, .ref l13)]))) nt6_1 xt6_1
        refine ⟨_, rfl, _, rfl, b, .ref l6, rfl, .inl ⟨_, Sum.inl 6, .inl upd_same, rfl, rfl⟩, _, rfl, .inl ⟨_, rfl, _, rfl, _, rfl, b, .ref l6, rfl, .inl ⟨_, Sum.inl 6, .inl upd_same, rfl, rfl⟩, l6, _, rfl, .inl (SqL.of hl), _, _, rfl, rfl, (by show (0 : Int) < 2; decide), l6, _, _, _, rfl, rfl, SqL.of hl, hat, q _ _ ft6_1 (by rw [eI, eK]; exact ht) smp⟩⟩

    · have h2 : n = n := rfl
      have hl := at_upd (o := (.dK (mergeK [] [(Sum.inl 2, .ref l2), (Sum.inl 3, .ref l3), (Sum.inl 5, .ref l5), (Sum.inl 6, .ref l6), (Sum.inl 13, .ref l13)]))) nl13 xl13
      have eI : tlI 13 n = 3 := by unfold tlI; simp
      have eK : tlK 13 n = 2 := by unfold tlK; simp [h2]
      have hat : atI [V.ref t13_0] ((n : Int) % ((1 : Nat) : Int)) = some (V.ref t13_0) := by rw [show ((n : Int) % ((1 : Nat) : Int)) = 0 from Int.emod_one _]; rfl
      have ht := at_upd (o := (.dK (mergeK [] [(Sum.inl 2, .ref l2), (Sum.inl 3, .ref l3), (Sum.inl 5, .ref l5), (Sum.inl 6, .ref l6), (Sum.inl 13, .ref l13)]))) nt13_0 xt13_0
      refine ⟨_, rfl, _, rfl, b, .ref l13, rfl, .inl ⟨_, Sum.inl 13, .inl upd_same, rfl, rfl⟩, _, rfl, .inl ⟨_, rfl, _, rfl, _, rfl, b, .ref l13, rfl, .inl ⟨_, Sum.inl 13, .inl upd_same, rfl, rfl⟩, l13, _, rfl, .inl (SqL.of hl), _, _, rfl, rfl, (by show (0 : Int) < 1; decide), l13, _, _, _, rfl, rfl, SqL.of hl, hat, q _ _ ft13_0 (by rw [eI, eK]; exact ht) smp⟩⟩

end
end RF

namespace RF
open PySem L2 PyProof.Rows
section
variable {P : Program} {w : World} {K : PySem.W.Frag} {mg : Str → Option Value} {base : Heap}
theorem z01_if (j : Int) : (if decide (V.int j = V.int 0) = true then (1 : Int) else 0) = z01 j := by
  unfold z01
  by_cases h : j = 0
  · subst h; rfl
  · rw [if_neg h, if_neg]
    intro z
    exact h (V.int.inj (of_decide_eq_true z))
abbrev s_law_at_most : Stmt := top 42
abbrev n_law_at_most : List Str := ["_law_root_here", "_law_i", "_law_j", "_law_k", "_law_bound_here", "_law_over", "_law_under"]
theorem sc_law_at_most : FnScope n_law_at_most ["_law_root_here", "_law_i", "_law_j", "_law_k", "_law_bound_here"] (defScope s_law_at_most) := ⟨rfl, rfl, rfl, by decide +kernel, rfl, by decide +kernel, by decide +kernel⟩
theorem ok_atmost {f : Addr} {fd : FuncData} {k : Nat} (F : Fun K "_law_at_most" "_law_at_most" s_law_at_most f fd) (T : mg "int" = none) (D1 : Df P w K mg base k "_law_floor" ["_law_root_here", "_law_slope", "_law_number"] (spLFl K)) :
    FnOk P w K mg base CX0 (k + 1) f fd ["_law_root_here", "_law_i", "_law_j", "_law_k", "_law_bound_here"] spAtMost := by
  refine F.ok sc_law_at_most (fun vs H Q E h => ?_) (fun cdv A outer s H vs Q E hr h => ?_)
  · obtain ⟨d, i, j, k, B, rfl, _⟩ := h
    rfl
  · obtain ⟨d, i, j, m, B, rfl, hd, bi, bj, bm, bB, q⟩ := h
    have nd := sc_law_at_most.nd
    refine ⟨_, (pss_cons (ps_par (i := 5) (j := 6) rfl nd rfl rfl (by decide) rfl rfl (pa_cons (pe_op op_sub (pe_op op_mulW (pv 4) (pv 3)) (pv 1)) (pa_cons (pe_op op_add (pe_op op_mulW (pv 4) (pv 3)) (pv 1)) pa_nil)) (by kernel_rfl))
      (pss_one (ps_ret (pe_and (pe_cmpR op_lt (pe_callD D1 hr (Nat.le_refl _) (pa_cons (pv 0) (pa_cons (pe_tup (pa_cons pe_int (pa_cons (pv 2) (pa_cons pe_int pa_nil)))) (pa_cons pe_int pa_nil)))) (pe_op op_add (pv 5) (pe_callTy call_int1 (by rfl) T (by decide +kernel) (pa_cons (pe_cmpR op_eq (pv 2) pe_int (nomark _)) pa_nil))) (nomark _)) (pe_one (pe_cmpR op_lt (pe_callD D1 hr (Nat.le_refl _) (pa_cons (pv 0) (pa_cons (pe_tup (pa_cons pe_int (pa_cons (pe_un un_neg (pv 2)) (pa_cons pe_int pa_nil)))) (pa_cons pe_int pa_nil)))) (pe_op op_add (pv 6) (pe_callTy call_int1 (by rfl) T (by decide +kernel) (pa_cons (pe_cmpR op_eq (pv 2) pe_int (nomark _)) pa_nil))) (nomark _))))))), ?_⟩
    refine ⟨_, rfl, _, rfl, _, _, rfl, rfl, mulOk bB bm (by decide) (by decide) (by decide), _, rfl, _, _, rfl, rfl, ?_⟩
    refine ⟨_, rfl, _, rfl, _, _, rfl, rfl, mulOk bB bm (by decide) (by decide) (by decide), _, rfl, _, _, rfl, rfl, _, _, rfl, ?_⟩
    have b1 : Bd 900 1 := (by unfold Bd; decide : Bd 1 1).mono (by decide)
    have b0 : Bd 900 0 := (by unfold Bd; decide : Bd 1 0).mono (by decide)
    refine ⟨_, rfl, _, rfl, by show 3 ≤ sizeLine; decide, fun t1 ht1 => ?_⟩
    have sm1 := sNew (o := .tup [.int 0, .int j, .int 1]) (Same.refl H) ht1
    refine ⟨d, 0, j, 1, 1, .ref t1, rfl, hd, ⟨t1, _, rfl, SqT.of upd_same, by show 3 ≤ 100000; decide, _, _, rfl, rfl, _, _, rfl, rfl, _, _, rfl, rfl, rfl⟩, by decide, by decide, b0, bj.mono (by decide), b1, ?_⟩
    rw [lflA]
    refine ⟨_, rfl, _, rfl, rfl, .inr ⟨_, rfl, _, _, rfl, rfl, _, _, rfl, rfl, _, rfl, ?_⟩⟩
    rw [z01_if]
    by_cases h1 : flr d j < B * m - i + z01 j
    · refine iteP (decide_eq_true h1) ?_
      refine ⟨_, rfl, _, rfl, _, rfl, by show 3 ≤ sizeLine; decide, fun t2 ht2 => ?_⟩
      have sm2 := sm1.trans (sNew (o := .tup [.int 0, .int (-j), .int 1]) (Same.refl _) ht2)
      refine ⟨d, 0, -j, 1, 1, .ref t2, rfl, hd, ⟨t2, _, rfl, SqT.of upd_same, by show 3 ≤ 100000; decide, _, _, rfl, rfl, _, _, rfl, rfl, _, _, rfl, rfl, rfl⟩, by decide, by decide, b0, bj.neg.mono (by decide), b1, ?_⟩
      rw [lflA]
      refine ⟨_, rfl, _, rfl, rfl, .inr ⟨_, rfl, _, _, rfl, rfl, _, _, rfl, rfl, ?_⟩⟩
      rw [z01_if]
      have qq := q _ sm2
      rw [decide_eq_true h1, Bool.true_and] at qq
      exact qq
    · refine iteN (nd_of h1) ?_
      have qq := q _ sm1
      rw [decide_eq_false h1, Bool.false_and] at qq
      exact qq
abbrev s_law_bound : Stmt := top 44
abbrev n_law_bound : List Str := ["_law_root_here", "_law_factors_z", "_law_factor"]
theorem sc_law_bound : FnScope n_law_bound ["_law_root_here", "_law_factors_z"] (defScope s_law_bound) := ⟨rfl, rfl, rfl, by decide +kernel, rfl, by decide +kernel, by decide +kernel⟩
theorem ok_lbnd {f : Addr} {fd : FuncData} {k : Nat} (F : Fun K "_law_bound" "_law_bound" s_law_bound f fd) (T1 : mg "max" = none) (T2 : mg "sum" = none) (T3 : mg "abs" = none) (D1 : Df P w K mg base k "_law_period" ["_law_root_here"] spPeriod) :
    FnOk P w K mg base CX0 (k + 1) f fd ["_law_root_here", "_law_factors_z"] (spLBnd K) := by
  refine F.ok sc_law_bound (fun vs H Q E h => ?_) (fun cdv A outer s H vs Q E hr h => ?_)
  · obtain ⟨l, d, fs, rfl, _⟩ := h
    rfl
  · obtain ⟨l, d, fs, rfl, hd, hl, hfs, q⟩ := h
    have nd := sc_law_bound.nd
    refine ⟨_, (pss_one (ps_ret (pe_op op_mulW (pe_op op_mulW pe_int (pe_callB (cr_max rfl) (by rfl) T1 (by decide +kernel) (pa_cons (pe_callD D1 hr (Nat.le_refl _) (pa_cons (pv 0) pa_nil)) pa_nil))) (pe_callB (cr_sum rfl) (by rfl) T2 (by decide +kernel) (pa_cons (pe_lc (own := [("_law_factor", 2)]) (g := gName 2) (tt := tYes) (by rfl) nd (pi_list (pv 1)) (blkOk_by (own := [("_law_factor", 2)]) (N := n_law_bound) (sc := defScope s_law_bound) (by decide +kernel)) (fun _ _ _ _ _ => (pg_name (i := 2) nd rfl (Or.inl rfl))) (fun _ _ _ _ _ => pts_nil) (fun _ _ _ _ _ => (pe_callB call_abs (by rfl) T3 (by decide +kernel) (pa_cons (pv 2) pa_nil)))) pa_nil))))), ?_⟩
    refine ⟨_, rfl, d, rfl, hd, fun a H1 na ha sm1 => ⟨a, per d, rfl, SqL.of ha, (perOk hd).len.1, fun m hm hle => ?_⟩⟩
    rw [tp_max hd hm hle]
    refine ⟨_, _, rfl, rfl, mulOk (n := 3) (m := 4) (by unfold Bd; decide) (by have := tp_bd d; unfold Bd; omega) (by decide) (by decide) (by decide), _, rfl, l, rfl, ⟨_, sm1.seq hl⟩, fun D nD => ?_⟩
    refine lc_list (K := K) (a := l) (xs := fs.map V.int) (fun i H' => H' D = some (.lst (((fs.take i).map ab).map V.int)) ∧ Same H1 H') ⟨upd_same, sNew (Same.refl _) nD⟩ (fun i H' _ h => h.2.seq (sm1.seq hl)) ?_ ?_
    · rintro i x H2 hx ⟨h1, sm⟩
      obtain ⟨f0, rfl, hf, et⟩ := ab_get hx
      refine ⟨rfl, yes_if ⟨_, rfl, _, rfl, _, h1, ?_, ?_, sm_upd sm nD⟩⟩
      · have : ((fs.take i).map ab).length ≤ fs.length := by rw [List.length_map, List.length_take]; omega
        rw [List.length_map, sizeLine_eq]
        have := hfs.1
        omega
      · rw [upd_same, et, List.map_append]
        rfl
    · rintro H2 ⟨h1, sm⟩
      rw [List.length_map, List.take_length] at h1
      refine ⟨D, _, rfl, SqL.of h1, ?_⟩
      have e1 := absum_le fs hfs.2
      have e2 := absum_nn fs
      have e3 := hfs.1
      have e4 := tp_bd d
      exact ⟨_, _, rfl, rfl, mulOk (n := 5) (m := 20) (by show Bd 5 (3 * tp d); unfold Bd; omega) (by show Bd 20 (absum fs); unfold Bd; omega) (by decide) (by decide) (by decide), q _ (sm1.trans sm)⟩
abbrev s_law_kept : Stmt := top 45
abbrev n_law_kept : List Str := ["_law_root_here", "_law_factors_z", "_law_u", "_law_v", "_law_place_z", "_law_i", "_law_j", "_law_k"]
theorem sc_law_kept : FnScope n_law_kept ["_law_root_here", "_law_factors_z", "_law_u", "_law_v", "_law_place_z"] (defScope s_law_kept) := ⟨rfl, rfl, rfl, by decide +kernel, rfl, by decide +kernel, by decide +kernel⟩
theorem ok_lkept {f : Addr} {fd : FuncData} {k : Nat} (F : Fun K "_law_kept" "_law_kept" s_law_kept f fd) (D1 : Df P w K mg base k "_law_tail" ["_law_root_here", "_law_place_z"] spTail) (D2 : Df P w K mg base k "_law_at_most" ["_law_root_here", "_law_i", "_law_j", "_law_k", "_law_bound_here"] spAtMost) (D3 : Df P w K mg base k "_law_bound" ["_law_root_here", "_law_factors_z"] (spLBnd K)) :
    FnOk P w K mg base CX0 (k + 1) f fd ["_law_root_here", "_law_factors_z", "_law_u", "_law_v", "_law_place_z"] (spLKept K) := by
  refine F.ok sc_law_kept (fun vs H Q E h => ?_) (fun cdv A outer s H vs Q E hr h => ?_)
  · obtain ⟨l, d, u, v, fs, n, rfl, _⟩ := h
    rfl
  · obtain ⟨l, d, u, v, fs, n, rfl, hd, hl, hfs, bu, bv, q⟩ := h
    have nd := sc_law_kept.nd
    refine ⟨_, (pss_cons (ps_asg (pe_callD D1 hr (Nat.le_refl _) (pa_cons (pv 0) (pa_cons (pv 4) pa_nil))) (pg_tup rfl (pgs_cons (pg_name (i := 5) nd rfl (Or.inl rfl)) (pgs_cons (pg_name (i := 6) nd rfl (Or.inl rfl)) (pgs_cons (pg_name (i := 7) nd rfl (Or.inl rfl)) pgs_nil)))))
      (pss_one (ps_ret (pe_callD D2 hr (Nat.le_refl _) (pa_cons (pv 0) (pa_cons (pe_op op_sub (pe_op op_mulW (pv 2) (pv 7)) (pe_op op_mulW (pv 3) (pv 5))) (pa_cons (pe_op op_mulW (pe_un un_neg (pv 3)) (pv 6)) (pa_cons (pv 7) (pa_cons (pe_callD D3 hr (Nat.le_refl _) (pa_cons (pv 0) (pa_cons (pv 1) pa_nil))) pa_nil))))))))), ?_⟩
    have k0 := tlK_or d n
    have i0 := tlI_bd d n
    have bk : Bd 3 (tlK d n) := by unfold Bd; omega
    have bi : Bd 4 (tlI d n) := by unfold Bd; omega
    have e1 := absum_le fs hfs.2
    have e2 := absum_nn fs
    have e3 := hfs.1
    have e4 := tp_bd d
    have bB : Bd 50 (bnd d fs) := (show Bd 5 (3 * tp d) by unfold Bd; omega).mul (show Bd 20 (absum fs) by unfold Bd; omega) |>.mono (by decide)
    have bI : Bd 200 (u * tlK d n - v * tlI d n) := by
      have h1 := (bu.mul bk).mono (show 103 ≤ 104 by decide)
      have h2 := (bv.mul bi).neg
      have h3 := h1.add h2
      rw [← Int.sub_eq_add_neg] at h3
      exact h3.mono (by decide)
    have bJ : Bd 200 (-v * 1) := (bv.neg.mul (show Bd 1 1 by unfold Bd; decide)).mono (by decide)
    refine ⟨_, rfl, _, rfl, d, n, rfl, hd, fun g H1 ng hg sm1 => ?_⟩
    refine ⟨g, _, rfl, SqT.of hg, rfl, _, _, rfl, _, _, rfl, _, _, rfl, rfl, ?_⟩
    refine ⟨_, rfl, _, rfl, _, rfl, _, _, rfl, rfl, mulOk bu bk (by decide) (by decide) (by decide), _, rfl, _, rfl, _, _, rfl, rfl, mulOk bv bi (by decide) (by decide) (by decide), _, _, rfl, rfl, ?_⟩
    refine ⟨_, rfl, _, rfl, _, rfl, _, _, rfl, rfl, mulOk bv.neg (show Bd 1 1 by unfold Bd; decide) (by decide) (by decide) (by decide), _, rfl, _, rfl, _, rfl, l, d, fs, rfl, hd, sm1.seq hl, hfs, fun H2 sm2 => ?_⟩
    refine ⟨d, u * tlK d n - v * tlI d n, -v * 1, tlK d n, bnd d fs, rfl, hd, bI, bJ, bk.mono (by decide), bB, fun H3 sm3 => ?_⟩
    have qq := q H3 ((sm1.trans sm2).trans sm3)
    rw [kpt_fl hd] at qq
    rw [show u * tlK d n - v * tlI d n = tlK d n * u - tlI d n * v by rw [Int.mul_comm u, Int.mul_comm v], show -v * 1 = -1 * v by omega]
    exact qq
end
end RF

namespace RF
open PySem L2 PyProof.Rows
section
variable {P : Program} {w : World} {K : PySem.W.Frag} {mg : Str → Option Value} {base : Heap}
abbrev s_law_factors : Stmt := top 46
abbrev n_law_factors : List Str := ["_law_bag_here", "_law_many", "_law_k"]
theorem sc_law_factors : FnScope n_law_factors ["_law_bag_here", "_law_many"] (defScope s_law_factors) := ⟨rfl, rfl, rfl, by decide +kernel, rfl, by decide +kernel, by decide +kernel⟩
theorem ok_lfac {f : Addr} {fd : FuncData} {k : Nat} (F : Fun K "_law_factors" "_law_factors" s_law_factors f fd) (T : mg "range" = none) (D1 : Df P w K mg base k "_law_of" ["_law_bag_here", "_law_some"] (spOfC K)) :
    FnOk P w K mg base CX0 (k + 1) f fd ["_law_bag_here", "_law_many"] spFactors := by
  refine F.ok sc_law_factors (fun vs H Q E h => ?_) (fun cdv A outer s H vs Q E hr h => ?_)
  · obtain ⟨b, c, m, rfl, _⟩ := h
    rfl
  · obtain ⟨b, c, m, rfl, B, hm, q⟩ := h
    have nd := sc_law_factors.nd
    refine ⟨_, (pss_one (ps_ret (pe_lc (own := [("_law_k", 2)]) (g := gName 2) (tt := tYes) (by rfl) nd (pi_range1 rfl T (pa_cons (pv 1) pa_nil)) (blkOk_by (own := [("_law_k", 2)]) (N := n_law_factors) (sc := defScope s_law_factors) (by decide +kernel)) (fun _ _ _ _ _ => (pg_name (i := 2) nd rfl (Or.inl rfl))) (fun _ _ _ _ _ => pts_nil) (fun _ _ _ _ _ => (pe_callD D1 hr (Nat.le_refl _) (pa_cons (pv 0) (pa_cons (pe_lst (pa_cons pe_int (pa_cons (pe_un un_neg pe_int) (pa_cons pe_int (pa_cons (pe_un un_neg pe_int) (pa_cons pe_int (pa_cons pe_int (pa_cons (pe_un un_neg pe_int) (pa_cons pe_int (pa_cons pe_int pa_nil)))))))))) pa_nil))))))), ?_⟩
    refine ⟨_, rfl, _, rfl, by omega, by omega, fun D nD => ?_⟩
    refine lc_range (n := m) (fun i H' => ∃ fs : List Int, H' D = some (.lst (fs.map V.int)) ∧ fs.length = i ∧ (∀ f ∈ fs, -5 ≤ f ∧ f ≤ 5) ∧ BagAt H' b c ∧ Kp b H H') ⟨[], upd_same, rfl, (fun f hf => by cases hf), B.put (B.off nD), (Kp.refl b H).up nD⟩ ?_ ?_
    · rintro i H1 hi ⟨fs, h1, hlen, hfs, B1, kp1⟩
      refine ⟨rfl, yes_if ?_⟩
      refine ⟨_, rfl, _, rfl, _, rfl, _, rfl, by show 9 ≤ sizeLine; decide, fun p hp => ?_⟩
      obtain ⟨xs, hb⟩ := B1.atB
      refine ⟨b, c, p, _, rfl, B1.same (sNew (Same.refl _) hp), SqL.of upd_same, (ne_of_none hb hp).symm, by show 0 < 9; decide, by show 9 < 1000000; decide, fun v H2 hv B2 kp2 => ?_⟩
      obtain ⟨f, rfl, hf⟩ : ∃ f : Int, v = .int f ∧ -5 ≤ f ∧ f ≤ 5 := by
        simp only [List.mem_cons, List.not_mem_nil, or_false] at hv
        rcases hv with rfl | rfl | rfl | rfl | rfl | rfl | rfl | rfl | rfl <;> exact ⟨_, rfl, by decide, by decide⟩
      have hD := B.off nD
      have h2 : H2 D = some (.lst (fs.map V.int)) := kp2 _ _ hD.1 (sNew (Same.refl _) hp _ _ h1)
      refine ⟨_, h2, by rw [List.length_map, sizeLine_eq]; omega, fs ++ [f], by rw [upd_same, List.map_append]; rfl, by rw [List.length_append, hlen]; rfl, fun g hg => ?_, B2.put hD, (kp1.trans ((Kp.of (sNew (Same.refl _) hp)).trans kp2)).up nD⟩
      rcases List.mem_append.mp hg with hg | hg
      · exact hfs g hg
      · rw [List.mem_singleton.mp hg]; exact hf
    · rintro H1 ⟨fs, h1, hlen, hfs, B1, kp1⟩
      have hD := B.off nD
      exact q D fs H1 nD h1 ⟨by omega, hfs⟩ B1 hD.1 hD.2 kp1
end
end RF

namespace RF
open PySem L2 PyProof.Rows
def kord {α : Type} (ws : List α) : List α := match ws with
  | [a, b, c, d] => [c, d, a, b]
  | _ => []
theorem kord_rel {zs : List V} {ws : List Value} (h : Vals zs ws) : Vals (kord zs) (kord ws) := by
  match zs, ws, h with
  | [], _, h => cases h; exact .nil
  | [_], _, h => cases h with | cons a h => cases h; exact .nil
  | [_, _], _, h => cases h with | cons a h => cases h with | cons b h => cases h; exact .nil
  | [_, _, _], _, h => cases h with | cons a h => cases h with | cons b h => cases h with | cons c h => cases h; exact .nil
  | [_, _, _, _], _, h => cases h with | cons a h => cases h with | cons b h => cases h with | cons c h => cases h with | cons d h => cases h; exact .cons c (.cons d (.cons a (.cons b .nil)))
  | _ :: _ :: _ :: _ :: _ :: _, _, h => cases h with | cons a h => cases h with | cons b h => cases h with | cons c h => cases h with | cons d h => cases h with | cons e h => exact .nil
abbrev n_law : List Str := ["_law_script", "_law_bag_here", "_law_turn", "_law_root_here", "_law_factors_z", "_law_place_z", "_law_bound_here", "_law_v", "_law_i", "_law_j", "_law_k", "_law_near", "_law_u", "_law_due", "_law_whole"]
theorem sc_law : FnScope n_law ["_law_script"] (defScope (top 47)) := ⟨rfl, rfl, rfl, by decide +kernel, rfl, by decide +kernel, by decide +kernel⟩
def spLaw (K : PySem.W.Frag) : Sp := fun vs H Q _ => ∃ (a : Addr) (ns : List Int), vs = [.ref a] ∧ SqL K H a (ns.map V.int) ∧ ns.length ≤ 63 ∧ ∀ H', Q (.bl true) H'
structure EnvK (P : Program) (w : World) (K : PySem.W.Frag) (mg : Str → Option Value) (base : Heap) (C : Addr) : Prop where
  bag : Df P w K mg base 9 "_law_bag" ["_law_script"] (spBag K)
  pull : Df P w K mg base 9 "_law_pull" ["_law_bag_here", "_law_sides"] spPullC
  of_ : Df P w K mg base 9 "_law_of" ["_law_bag_here", "_law_some"] (spOfC K)
  root : Df P w K mg base 9 "_law_root" ["_law_bag_here"] spRootC
  far : Df P w K mg base 9 "_law_far" ["_law_bag_here", "_law_figures"] spFarC
  same : Df P w K mg base 9 "_law_same" ["_law_found", "_law_due"] (spSame K 5)
  lfl : Df P w K mg base 9 "_law_floor" ["_law_root_here", "_law_slope", "_law_number"] (spLFl K)
  tail : Df P w K mg base 9 "_law_tail" ["_law_root_here", "_law_place_z"] spTail
  bound : Df P w K mg base 9 "_law_bound" ["_law_root_here", "_law_factors_z"] (spLBnd K)
  lkept : Df P w K mg base 9 "_law_kept" ["_law_root_here", "_law_factors_z", "_law_u", "_law_v", "_law_place_z"] (spLKept K)
  factors : Df P w K mg base 9 "_law_factors" ["_law_bag_here", "_law_many"] spFactors
  kept : Df P w K mg base 9 "is_kept" ["field", "factors", "pair", "place"] (spKept K C)
  keptK : Dk P w K mg base 9 "is_kept" ["field", "factors", "pair", "place"] ["pair", "place", "field", "factors"] (fun _ zs => kord zs) (spKept K C)
  T : TxF K mg C
  mkF : ∃ (f : Addr) (fd : FuncData), Mk K C f ∧ FnOk P w K mg base CX0 8 f fd ["self", "root"] (spFInit K C) ∧ Binds K fd ["self", "root"] []
  range : mg "range" = none
  tuple : mg "tuple" = none
section
variable {P : Program} {w : World} {K : PySem.W.Frag} {mg : Str → Option Value} {base : Heap}
theorem ok_law {f C : Addr} {fd : FuncData} (F : Fun K "law" "law" (top 47) f fd) (e : EnvK P w K mg base C) : FnOk P w K mg base CX0 10 f fd ["_law_script"] (spLaw K) := by
  refine F.ok sc_law (fun vs H Q E h => ?_) (fun cdv A outer s H vs Q E hr h => ?_)
  · obtain ⟨a, ns, rfl, _⟩ := h
    rfl
  · obtain ⟨a, ns, rfl, hS, hl, kk⟩ := h
    have nd := sc_law.nd
    obtain ⟨fi, fdi, M1, G, b1⟩ := e.mkF
    have T := e.T
    refine ⟨_, (pss_cons (ps_set (i := 1) nd rfl (Or.inl rfl) (pe_callD e.bag hr (by decide) (pa_cons (pv 0) pa_nil)))
      (pss_cons (ps_for PassesOwn.never rfl (pi_range1 rfl e.range (pa_cons pe_int pa_nil)) (pg_name (i := 2) nd rfl (Or.inl rfl))
      (pss_cons (ps_set (i := 3) nd rfl (Or.inl rfl) (pe_callD e.root hr (by decide) (pa_cons (pv 1) pa_nil)))
        (pss_cons (ps_par (i := 4) (j := 5) rfl nd rfl rfl (by decide) rfl rfl (pa_cons (pe_callD e.factors hr (by decide) (pa_cons (pv 1) (pa_cons (pe_callD e.pull hr (by decide) (pa_cons (pv 1) (pa_cons pe_int pa_nil))) pa_nil))) (pa_cons (pe_callD e.pull hr (by decide) (pa_cons (pv 1) (pa_cons pe_int pa_nil))) pa_nil)) (by kernel_rfl))
        (pss_cons (ps_set (i := 6) nd rfl (Or.inl rfl) (pe_callD e.bound hr (by decide) (pa_cons (pv 3) (pa_cons (pv 4) pa_nil))))
        (pss_cons (ps_set (i := 7) nd rfl (Or.inl rfl) (pe_callD e.of_ hr (by decide) (pa_cons (pv 1) (pa_cons (pe_lst (pa_cons pe_int (pa_cons pe_int (pa_cons (pe_un un_neg pe_int) (pa_cons (pe_callD e.pull hr (by decide) (pa_cons (pv 1) (pa_cons pe_int pa_nil))) (pa_cons (pe_un un_neg (pe_callD e.pull hr (by decide) (pa_cons (pv 1) (pa_cons pe_int pa_nil)))) (pa_cons (pe_callD e.far hr (by decide) (pa_cons (pv 1) (pa_cons pe_int pa_nil))) pa_nil))))))) pa_nil))))
        (pss_cons (ps_asg (pe_callD e.tail hr (by decide) (pa_cons (pv 3) (pa_cons (pv 5) pa_nil))) (pg_tup rfl (pgs_cons (pg_name (i := 8) nd rfl (Or.inl rfl)) (pgs_cons (pg_name (i := 9) nd rfl (Or.inl rfl)) (pgs_cons (pg_name (i := 10) nd rfl (Or.inl rfl)) pgs_nil)))))
        (pss_cons (ps_set (i := 11) nd rfl (Or.inl rfl) (pe_op op_fdiv (pe_op op_add (pe_op op_mulW (pv 7) (pv 8)) (pe_callD e.lfl hr (by decide) (pa_cons (pv 3) (pa_cons (pe_tup (pa_cons pe_int (pa_cons (pe_op op_mulW (pv 7) (pv 9)) (pa_cons pe_int pa_nil)))) (pa_cons pe_int pa_nil))))) (pv 10)))
        (pss_cons (ps_for PassesOwn.never rfl (pi_list (pe_lst (pa_cons (pe_op op_sub (pe_op op_sub (pv 11) (pv 6)) pe_int) (pa_cons (pe_op op_sub (pv 11) (pv 6)) (pa_cons (pe_op op_add (pe_op op_sub (pv 11) (pv 6)) pe_int) (pa_cons (pv 11) (pa_cons (pe_op op_add (pv 11) (pv 6)) (pa_cons (pe_op op_add (pe_op op_add (pv 11) (pv 6)) pe_int) pa_nil)))))))) (pg_name (i := 12) nd rfl (Or.inl rfl))
        (pss_cons (ps_set (i := 13) nd rfl (Or.inl rfl) (pe_callD e.lkept hr (by decide) (pa_cons (pv 3) (pa_cons (pv 4) (pa_cons (pv 12) (pa_cons (pv 7) (pa_cons (pv 5) pa_nil)))))))
          (pss_one (ps_if (pt_not (pt_val (pe_callD e.same hr (by decide) (pa_cons (pe_lst (pa_cons (pe_callD e.kept hr (by decide) (pa_cons (pe_make M1 G hr rfl T.mg b1 .nil pass0 (pa_cons (pv 3) pa_nil)) (pa_cons (pv 4) (pa_cons (pe_tup (pa_cons (pv 12) (pa_cons (pv 7) pa_nil))) (pa_cons (pv 5) pa_nil))))) (pa_cons (pe_kD e.keptK hr (by decide) (pk_cons (pe_tup (pa_cons (pv 12) (pa_cons (pv 7) pa_nil))) (pk_cons (pv 5) (pk_cons (pe_make M1 G hr rfl T.mg b1 .nil pass0 (pa_cons (pv 3) pa_nil)) (pk_cons (pe_callTy call_tuple_of (by rfl) e.tuple (by decide +kernel) (pa_cons (pv 4) pa_nil)) pk_nil))))) pa_nil))) (pa_cons (pe_lst (pa_cons (pv 13) (pa_cons (pv 13) pa_nil))) pa_nil)))))
          (pss_one ps_never)
          pss_nil))))
        (pss_cons (ps_set (i := 14) nd rfl (Or.inl rfl) (pe_lst (pa_cons (pe_callD e.kept hr (by decide) (pa_cons (pe_make M1 G hr rfl T.mg b1 .nil pass0 (pa_cons (pv 3) pa_nil)) (pa_cons (pv 4) (pa_cons (pe_tup (pa_cons (pv 6) (pa_cons pe_int pa_nil))) (pa_cons (pv 5) pa_nil))))) (pa_cons (pe_callD e.kept hr (by decide) (pa_cons (pe_make M1 G hr rfl T.mg b1 .nil pass0 (pa_cons (pv 3) pa_nil)) (pa_cons (pv 4) (pa_cons (pe_tup (pa_cons (pe_op op_add (pv 6) pe_int) (pa_cons pe_int pa_nil))) (pa_cons (pv 5) pa_nil))))) pa_nil))))
        (pss_one (ps_if (pt_cmpR (op_neD hr.units) (pv 14) (pe_lst (pa_cons pe_bl (pa_cons pe_bl pa_nil))) (nomark _))
        (pss_one ps_never)
        pss_nil)))))))))))
      (pss_one (ps_ret (pe_and (pe_cmpR op_isBl (pe_callD e.kept hr (by decide) (pa_cons (pe_make M1 G hr rfl T.mg b1 .nil pass0 (pa_cons pe_int pa_nil)) (pa_cons (pe_lst pa_nil) (pa_cons (pe_tup (pa_cons pe_int (pa_cons pe_int pa_nil))) (pa_cons pe_int pa_nil))))) pe_bl (nomark _)) (pe_one (pe_cmpR op_isBl (pe_callD e.kept hr (by decide) (pa_cons (pe_make M1 G hr rfl T.mg b1 .nil pass0 (pa_cons pe_int pa_nil)) (pa_cons (pe_lst pa_nil) (pa_cons (pe_tup (pa_cons pe_int (pa_cons pe_int pa_nil))) (pa_cons pe_int pa_nil))))) pe_bl (nomark _)))))))), ?_⟩
    refine ⟨_, rfl, a, ns, rfl, hS, hl, fun b H1 nb B1 sm1 => ?_⟩
    obtain ⟨c, B1⟩ := B1.here
    refine ⟨8, rfl, by decide, by decide, for_range (n := 8) (fun _ σ H' => ∃ v2 v3 v4 v5 v6 v7 v8 v9 v10 v11 v12 v13 v14 : Option V,
        σ = [some (.ref a), some (.ref b), v2, v3, v4, v5, v6, v7, v8, v9, v10, v11, v12, v13, v14] ∧ BagAt H' b c)
      ⟨none, none, none, none, none, none, none, none, none, none, none, none, none, rfl, B1⟩ ?_ ?_⟩
    · rintro i0 σ H2 hi0 ⟨v2, v3, v4, v5, v6, v7, v8, v9, v10, v11, v12, v13, v14, rfl, B2⟩
      -- root, factors, place
      refine ⟨_, rfl, b, c, rfl, B2, fun d H3 hd0 B3 kp3 => ?_⟩
      have hd : Root d := by unfold Root; omega
      refine ⟨_, rfl, _, rfl, b, c, 4, rfl, B3, by decide, by decide, fun m H4 m0 m1 B4 kp4 => ?_⟩
      obtain ⟨mm, rfl⟩ : ∃ mm : Nat, m = (mm : Int) := ⟨m.toNat, by omega⟩
      refine ⟨b, c, mm, rfl, B4, by omega, fun l fs H5 nl hl5 hfs B5 lb lc kp5 => ?_⟩
      refine ⟨_, rfl, b, c, 50, rfl, B5, by decide, by decide, fun n H6 n0 n1 B6 kp6 => ?_⟩
      obtain ⟨n, rfl⟩ : ∃ nn : Nat, n = (nn : Int) := ⟨n.toNat, by omega⟩
      have hl6 := kp6 _ _ lb hl5
      refine ⟨_, _, rfl, ?_⟩
      refine ⟨_, rfl, _, rfl, l, d, fs, rfl, hd, SqL.of hl6, hfs, fun H7 sm7 => ?_⟩
      have B7 := B6.same sm7
      have hl7 := sm7 _ _ hl6
      -- v
      refine ⟨_, rfl, _, rfl, _, rfl, b, c, 60, rfl, B7, by decide, by decide, fun x1 H8 x10 x11 B8 kp8 => ?_⟩
      refine ⟨_, rfl, b, c, 60, rfl, B8, by decide, by decide, fun x2 H9 x20 x21 B9 kp9 => ⟨_, rfl, ?_⟩⟩
      refine ⟨_, rfl, b, c, 12, rfl, B9, by decide, by decide, fun x3 H10 x30 x31 B10 kp10 => ⟨by show 6 ≤ sizeLine; decide, fun p hp => ?_⟩⟩
      refine ⟨b, c, p, _, rfl, B10.same (sNew (Same.refl _) hp), SqL.of upd_same, (B10.off hp).1, by show 0 < 6; decide, by show 6 < 1000000; decide, fun vv H11 hv B11 kp11 => ?_⟩
      have kp711 : Kp b H7 H11 := ((kp8.trans kp9).trans (kp10.trans (Kp.of (sNew (Same.refl _) hp)))).trans kp11
      have hl11 := kp711 _ _ lb hl7
      obtain ⟨v, rfl, bv⟩ : ∃ v : Int, vv = .int v ∧ Bd 42 v := by
        simp only [List.mem_cons, List.not_mem_nil, or_false] at hv
        rcases hv with rfl | rfl | rfl | rfl | rfl | rfl
        · exact ⟨_, rfl, by unfold Bd; decide⟩
        · exact ⟨_, rfl, by unfold Bd; decide⟩
        · exact ⟨_, rfl, by unfold Bd; decide⟩
        · exact ⟨_, rfl, by unfold Bd; omega⟩
        · exact ⟨_, rfl, by unfold Bd; omega⟩
        · exact ⟨_, rfl, by unfold Bd; simp at x31; omega⟩
      -- the tail
      refine ⟨_, rfl, _, rfl, d, n, rfl, hd, fun g H12 ng hg sm12 => ⟨g, _, rfl, SqT.of hg, rfl, _, _, rfl, _, _, rfl, _, _, rfl, rfl, ?_⟩⟩
      have B12 := B11.same sm12
      have hl12 := sm12 _ _ hl11
      have k0 := tlK_or d n
      have i0' := tlI_bd d n
      have bk : Bd 3 (tlK d n) := by unfold Bd; omega
      have bi : Bd 4 (tlI d n) := by unfold Bd; omega
      have bJ : Bd 43 (v * 1) := (bv.mul (show Bd 1 1 by unfold Bd; decide))
      refine ⟨_, rfl, _, rfl, _, _, rfl, rfl, mulOk bv bi (by decide) (by decide) (by decide), _, rfl, _, rfl, _, rfl, _, _, rfl, rfl, mulOk bv (show Bd 1 1 by unfold Bd; decide) (by decide) (by decide) (by decide), by show 3 ≤ sizeLine; decide, fun t3 ht3 => ?_⟩
      have b1' : Bd 900 1 := (by unfold Bd; decide : Bd 1 1).mono (by decide)
      have b0' : Bd 900 0 := (by unfold Bd; decide : Bd 1 0).mono (by decide)
      refine ⟨d, 0, v * 1, 1, 1, .ref t3, rfl, hd, ⟨t3, _, rfl, SqT.of upd_same, by show 3 ≤ 100000; decide, _, _, rfl, rfl, _, _, rfl, rfl, _, _, rfl, rfl, rfl⟩, by decide, by decide, b0', bJ.mono (by decide), b1', ?_⟩
      rw [lflA]
      refine ⟨_, _, rfl, rfl, _, rfl, _, _, rfl, rfl, ⟨by omega, by omega⟩, ?_⟩
      have bnear : Bd 60 ((v * tlI d n + flr d (v * 1)) / tlK d n) := by
        have h1 : Bd 46 (v * tlI d n) := bv.mul bi
        have h2 : Bd 46 (flr d (v * 1)) := flr_bd hd bJ
        have h3 := h1.add h2
        unfold Bd at *
        rcases k0 with h | h <;> rw [h] <;> omega
      obtain ⟨near, hnear⟩ : ∃ x, (v * tlI d n + flr d (v * 1)) / tlK d n = x := ⟨_, rfl⟩
      rw [hnear] at bnear
      have e1 := absum_le fs hfs.2
      have e2 := absum_nn fs
      have e3 := hfs.1
      have e4 := tp_bd d
      have B0 : 0 ≤ bnd d fs := Int.mul_nonneg (by omega) e2
      have bB : Bd 50 (bnd d fs) := (show Bd 5 (3 * tp d) by unfold Bd; omega).mul (show Bd 20 (absum fs) by unfold Bd; omega) |>.mono (by decide)
      have bus : ∀ u ∈ [near - bnd d fs - 1, near - bnd d fs, near - bnd d fs + 1, near, near + bnd d fs, near + bnd d fs + 1], Bd 100 u := fun u hu => by
        simp only [List.mem_cons, List.not_mem_nil, or_false] at hu
        unfold Bd at *
        rcases hu with rfl | rfl | rfl | rfl | rfl | rfl <;> omega
      refine ⟨_, rfl, _, rfl, _, _, rfl, rfl, _, _, rfl, rfl, _, rfl, _, rfl, _, _, rfl, rfl, _, rfl, _, rfl, _, _, rfl, rfl, _, _, rfl, rfl, _, rfl, _, rfl, _, rfl, _, _, rfl, rfl, _, rfl, _, rfl, _, _, rfl, rfl, _, _, rfl, rfl, by show 6 ≤ sizeLine; decide, fun ul hul => ⟨ul, rfl, ⟨_, SqL.of upd_same⟩, ?_⟩⟩
      generalize hus : [near - bnd d fs - 1, near - bnd d fs, near - bnd d fs + 1, near, near + bnd d fs, near + bnd d fs + 1] = us at bus
      have sm1213 := sNew (o := .lst (us.map V.int)) (sNew (o := .tup [.int 0, .int (v * 1), .int 1]) (Same.refl H12) ht3) hul
      have B13 := B12.same sm1213
      have hl13 := sm1213 _ _ hl12
      refine for_list (K := K) (a := ul) (xs := us.map V.int) (fun _ σ H' => ∃ w12 w13 : Option V,
        σ = [some (.ref a), some (.ref b), some (.int (0 + (i0 : Nat))), some (.int d), some (.ref l), some (.int (n : Nat)), some (.int (bnd d fs)), some (.int v), some (.int (tlI d n)), some (.int 1), some (.int (tlK d n)), some (.int near), w12, w13, v14] ∧ BagAt H' b c ∧ H' l = some (.lst (fs.map V.int)) ∧ H' ul = some (.lst (us.map V.int)))
        ⟨v12, v13, by subst hnear; rfl, by subst hus; subst hnear; exact B13, by subst hus; subst hnear; exact hl13, by subst hus; subst hnear; exact upd_same⟩ ?_ ?_ ?_
      · rintro i σ H' _ ⟨w12, w13, _, _, _, h⟩
        exact SqL.of h
      · rintro i x σ H14 hx ⟨w12, w13, rfl, B14, hl14, hul14⟩
        obtain ⟨u, rfl, hu⟩ : ∃ u, x = V.int u ∧ u ∈ us := by
          obtain ⟨u, hu, e⟩ := List.mem_map.mp (List.mem_of_getElem? hx)
          exact ⟨u, e.symm, hu⟩
        have bu := bus u hu
        refine ⟨_, rfl, _, rfl, _, rfl, _, rfl, _, rfl, l, d, u, v, fs, n, rfl, hd, SqL.of hl14, hfs, bu, bv.mono (by decide), fun H15 sm15 => ?_⟩
        have B15 := B14.same sm15
        have hl15 := sm15 _ _ hl14
        have hul15 := sm15 _ _ hul14
        -- by place
        refine ⟨_, rfl, fun x1 d1 nx1 nd1 ne1 => ⟨x1, d1, d, rfl, upd_same, hd, fun H16 F16 kq16 => ⟨rfl, ?_⟩⟩⟩
        have sm16 := Same.made nx1 nd1 kq16
        refine ⟨_, rfl, _, rfl, _, rfl, by show 2 ≤ sizeLine; decide, fun tp1 htp1 => ⟨_, rfl, ?_⟩⟩
        have sm17 := sm16.trans (sNew (o := .tup [.int u, .int v]) (Same.refl _) htp1)
        have F17 := F16.same (sNew (o := .tup [.int u, .int v]) (Same.refl _) htp1)
        refine ⟨x1, l, tp1, d, u, v, fs, n, rfl, F17, hd, .inl (SqL.of (sm17 _ _ hl15)), hfs, SqT.of upd_same, bu, bv.mono (by decide), fun H18 sm18 => ?_⟩
        -- by keyword
        have sm18' := sm17.trans sm18
        refine ⟨_, rfl, _, rfl, by show 2 ≤ sizeLine; decide, fun tp2 htp2 => ⟨_, rfl, _, rfl, fun x2 d2 nx2 nd2 ne2 => ⟨x2, d2, d, rfl, upd_same, hd, fun H20 F20 kq20 => ⟨rfl, ?_⟩⟩⟩⟩
        have sm19 := sNew (o := .tup [.int u, .int v]) (Same.refl _) htp2
        have sm20 := Same.made nx2 nd2 kq20
        have sm1820 := sm19.trans sm20
        have hl20 := sm1820 _ _ (sm18' _ _ hl15)
        refine ⟨_, rfl, l, _, rfl, .inl ⟨SqL.of hl20, fun lt hlt => ⟨rfl, rfl, ?_⟩⟩⟩
        have sm21 := sNew (o := .tup (fs.map V.int)) (Same.refl _) hlt
        refine ⟨x2, lt, tp2, d, u, v, fs, n, rfl, F20.same sm21, hd, .inr (SqT.of upd_same), hfs, SqT.of (sm21 _ _ (sm20 _ _ upd_same)), bu, bv.mono (by decide), fun H22 sm22 => ?_⟩
        have sm1822 := (sm1820.trans sm21).trans sm22
        refine ⟨by show 2 ≤ sizeLine; decide, fun la hla => ⟨_, rfl, _, rfl, by show 2 ≤ sizeLine; decide, fun lb' hlb => ?_⟩⟩
        have smab := sNew (o := .lst [.bl (kpt d (bnd d fs) u v n), .bl (kpt d (bnd d fs) u v n)]) (sNew (o := .lst [.bl (kpt d (bnd d fs) u v n), .bl (kpt d (bnd d fs) u v n)]) (Same.refl _) hla) hlb
        have rp : ∀ {H' : Hp} {z : Addr}, H' z = some (.lst [.bl (kpt d (bnd d fs) u v n), .bl (kpt d (bnd d fs) u v n)]) → Rp K H' (.ref z) (.lst [.bl (kpt d (bnd d fs) u v n), .bl (kpt d (bnd d fs) u v n)]) := fun hz => ⟨_, _, rfl, SqL.of hz, by show 2 ≤ 100000; decide, _, _, rfl, rfl, _, _, rfl, rfl, rfl⟩
        refine ⟨_, _, .lst [.bl (kpt d (bnd d fs) u v n), .bl (kpt d (bnd d fs) u v n)], rfl, rp (sNew (o := .lst [.bl (kpt d (bnd d fs) u v n), .bl (kpt d (bnd d fs) u v n)]) (Same.refl _) hlb _ _ upd_same), rp upd_same, by show 1 ≤ 5; decide, fun H25 sm25 => ⟨_, rfl, iteF ?_⟩⟩
        have smx := ((sm18'.trans sm1822).trans smab).trans sm25
        exact ⟨_, _, rfl, B15.same smx, smx _ _ hl15, smx _ _ hul15⟩
      · rintro σ H14 ⟨w12, w13, rfl, B14, hl14, hul14⟩
        -- the whole ones
        refine ⟨_, rfl, fun x1 d1 nx1 nd1 ne1 => ⟨x1, d1, d, rfl, upd_same, hd, fun H16 F16 kq16 => ⟨rfl, ?_⟩⟩⟩
        have sm16 := Same.made nx1 nd1 kq16
        refine ⟨_, rfl, _, rfl, by show 2 ≤ sizeLine; decide, fun tp1 htp1 => ⟨_, rfl, ?_⟩⟩
        have smt := sNew (o := .tup [.int (bnd d fs), .int 0]) (Same.refl _) htp1
        have sm17 := sm16.trans smt
        have z0 : Bd 100 0 := (show Bd 1 0 by unfold Bd; decide).mono (by decide)
        refine ⟨x1, l, tp1, d, bnd d fs, 0, fs, n, rfl, F16.same smt, hd, .inl (SqL.of (sm17 _ _ hl14)), hfs, SqT.of upd_same, bB.mono (by decide), z0, fun H18 sm18 => ?_⟩
        rw [kpt_at hd B0]
        have sm18' := sm17.trans sm18
        refine ⟨_, rfl, fun x2 d2 nx2 nd2 ne2 => ⟨x2, d2, d, rfl, upd_same, hd, fun H20 F20 kq20 => ⟨rfl, ?_⟩⟩⟩
        have sm20 := Same.made nx2 nd2 kq20
        refine ⟨_, rfl, _, rfl, _, _, rfl, rfl, by show 2 ≤ sizeLine; decide, fun tp2 htp2 => ⟨_, rfl, ?_⟩⟩
        have smt2 := sNew (o := .tup [.int (bnd d fs + 1), .int 0]) (Same.refl _) htp2
        have sm21 := sm20.trans smt2
        have bB1 : Bd 100 (bnd d fs + 1) := (bB.add (show Bd 50 1 by unfold Bd; decide)).mono (by decide)
        refine ⟨x2, l, tp2, d, bnd d fs + 1, 0, fs, n, rfl, F20.same smt2, hd, .inl (SqL.of (sm21 _ _ (sm18' _ _ hl14))), hfs, SqT.of upd_same, bB1, z0, fun H22 sm22 => ?_⟩
        rw [kpt_off hd B0]
        refine ⟨by show 2 ≤ sizeLine; decide, fun la hla => ?_⟩
        refine ⟨_, rfl, by show 2 ≤ sizeLine; decide, fun lb' hlb => ?_⟩
        have sma := sNew (o := .lst [.bl true, .bl false]) (Same.refl _) hla
        have smb := sNew (o := .lst [.bl true, .bl false]) (Same.refl _) hlb
        refine ⟨.list [.bool true, .bool false], .list [.bool true, .bool false], .lst (SqL.of (smb _ _ upd_same)) (.cons (.bl _) (.cons (.bl _) .nil)), .lst (SqL.of upd_same) (.cons (.bl _) (.cons (.bl _) .nil)), by decide, by decide, ?_⟩
        refine ⟨_, rfl, iteN (by decide) ?_⟩
        have smx := (((sm18'.trans sm21).trans sm22).trans sma).trans smb
        exact ⟨_, _, _, _, _, _, _, _, _, _, _, _, _, rfl, B14.same smx⟩
    · rintro σ H2 ⟨v2, v3, v4, v5, v6, v7, v8, v9, v10, v11, v12, v13, v14, rfl, B2⟩
      have r5 : Root 5 := .inr (.inr (.inl rfl))
      have z0 : Bd 100 0 := (show Bd 1 0 by unfold Bd; decide).mono (by decide)
      have z1 : Bd 100 1 := (show Bd 1 1 by unfold Bd; decide).mono (by decide)
      have hf0 : Fac [] := ⟨by decide, fun f hf => by cases hf⟩
      refine fun x1 d1 nx1 nd1 ne1 => ⟨x1, d1, 5, rfl, upd_same, r5, fun H3 F3 kq3 => ⟨rfl, ?_⟩⟩
      refine ⟨by show 0 ≤ sizeLine; decide, fun l1 hl1 => ⟨by show 2 ≤ sizeLine; decide, fun t1 ht1 => ?_⟩⟩
      have st1 := sNew (o := .tup [.int 0, .int 0]) (Same.refl _) ht1
      have sm4 := (sNew (o := .lst []) (Same.refl _) hl1).trans st1
      refine ⟨x1, l1, t1, 5, 0, 0, [], 3, rfl, F3.same sm4, r5, .inl (SqL.of (st1 _ _ upd_same)), hf0, SqT.of upd_same, z0, z0, fun H5 sm5 => ?_⟩
      refine ⟨true, true, by rw [show kpt 5 (bnd 5 []) 0 0 3 = true by decide], rfl, _, rfl, iteP (by decide) ?_⟩
      refine fun x2 d2 nx2 nd2 ne2 => ⟨x2, d2, 5, rfl, upd_same, r5, fun H6 F6 kq6 => ⟨rfl, ?_⟩⟩
      refine ⟨by show 0 ≤ sizeLine; decide, fun l2 hl2 => ⟨by show 2 ≤ sizeLine; decide, fun t2 ht2 => ?_⟩⟩
      have st2 := sNew (o := .tup [.int 0, .int 1]) (Same.refl _) ht2
      have sm7 := (sNew (o := .lst []) (Same.refl _) hl2).trans st2
      refine ⟨x2, l2, t2, 5, 0, 1, [], 3, rfl, F6.same sm7, r5, .inl (SqL.of (st2 _ _ upd_same)), hf0, SqT.of upd_same, z0, z1, fun H8 sm8 => ?_⟩
      exact ⟨false, false, by rw [show kpt 5 (bnd 5 []) 0 1 3 = false by decide], rfl, kk _⟩
end
end RF

namespace RF
open PySem L2 PyProof.Rows
def fI : List DictEntry → Int → Option Value
  | [], _ => none
  | c :: r, i => if Value.isInt i c.key = true then some c.val else fI r i
theorem find_fI : ∀ (l : List DictEntry) (i : Int), (l.find? fun c => Value.isInt i c.key).map (·.val) = fI l i
  | [], _ => rfl
  | c :: r, i => by
    rw [List.find?_cons]
    unfold fI
    cases h : Value.isInt i c.key
    · rw [if_neg (by decide)]
      exact find_fI r i
    · rw [if_pos rfl]; rfl
theorem findBy_fI (es : Array DictEntry) (i : Int) : findBy Value.isInt es i = fI es.toList i := by
  unfold findBy
  rw [← find_fI, ← List.find?_toArray]
theorem Df.mono {P : Program} {w : World} {K : PySem.W.Frag} {mg : Str → Option Value} {base : Heap} {j k : Nat} {x : Str} {ps : List Str} {sp : Sp} (D : Df P w K mg base j x ps sp) (h : j ≤ k) : Df P w K mg base k x ps sp := by
  obtain ⟨f, fd, G, b, m, kp⟩ := D.ex
  exact ⟨f, fd, G.mono h, b, m, kp⟩
theorem Pt.mono {P : Program} {w : World} {K : PySem.W.Frag} {mg : Str → Option Value} {base : Heap} {C : Addr} {j k : Nat} {x : Str} {sp : Sp} (D : Pt P w K mg base C j x sp) (h : j ≤ k) : Pt P w K mg base C k x sp := by
  obtain ⟨p, g, fd, hp, G, b⟩ := D.ex
  exact ⟨p, g, fd, hp, G.mono h, b⟩
theorem all_mk {l : PySem.W.OpenLaw} {w : World} {K : PySem.W.Frag} {h : Heap} {mg : Str → Option Value} {fa : Addr} (X : K.In h) (G : h.Ns mainGlobals mg) (hfa : mg "law" = some (.ref fa))
    {C CF pd td : Addr} {es et : Array DictEntry} {np nt : Nat}
    {f1 : Addr} {od1 an1 : Option Addr} {sl1 : Array (Option Value)} {oc1 kV1 dc1 pm1 cd1 ct1 : Value}
    {f2 : Addr} {od2 an2 : Option Addr} {sl2 : Array (Option Value)} {oc2 kV2 dc2 pm2 cd2 ct2 : Value}
    {f3 : Addr} {od3 an3 : Option Addr} {sl3 : Array (Option Value)} {oc3 kV3 dc3 pm3 cd3 ct3 : Value}
    {f4 : Addr} {od4 an4 : Option Addr} {sl4 : Array (Option Value)} {oc4 kV4 dc4 pm4 cd4 ct4 : Value}
    {f5 : Addr} {od5 an5 : Option Addr} {sl5 : Array (Option Value)} {oc5 kV5 dc5 pm5 cd5 ct5 : Value}
    {f6 : Addr} {od6 an6 : Option Addr} {sl6 : Array (Option Value)} {oc6 kV6 dc6 pm6 cd6 ct6 : Value}
    {f7 : Addr} {od7 an7 : Option Addr} {sl7 : Array (Option Value)} {oc7 kV7 dc7 pm7 cd7 ct7 : Value}
    {f8 : Addr} {od8 an8 : Option Addr} {sl8 : Array (Option Value)} {oc8 kV8 dc8 pm8 cd8 ct8 : Value}
    {f9 : Addr} {od9 an9 : Option Addr} {sl9 : Array (Option Value)} {oc9 kV9 dc9 pm9 cd9 ct9 : Value}
    {f10 : Addr} {od10 an10 : Option Addr} {sl10 : Array (Option Value)} {oc10 kV10 dc10 pm10 cd10 ct10 : Value}
    {f11 : Addr} {od11 an11 : Option Addr} {sl11 : Array (Option Value)} {oc11 kV11 dc11 pm11 cd11 ct11 : Value}
    {f12 : Addr} {od12 an12 : Option Addr} {sl12 : Array (Option Value)} {oc12 kV12 dc12 pm12 cd12 ct12 : Value}
    {f13 : Addr} {od13 an13 : Option Addr} {sl13 : Array (Option Value)} {oc13 kV13 dc13 pm13 cd13 ct13 : Value}
    {f14 : Addr} {od14 an14 : Option Addr} {sl14 : Array (Option Value)} {oc14 kV14 dc14 pm14 cd14 ct14 : Value}
    {f15 : Addr} {od15 an15 : Option Addr} {sl15 : Array (Option Value)} {oc15 kV15 dc15 pm15 cd15 ct15 : Value}
    {f16 : Addr} {od16 an16 : Option Addr} {sl16 : Array (Option Value)} {oc16 kV16 dc16 pm16 cd16 ct16 : Value}
    {f17 : Addr} {od17 an17 : Option Addr} {sl17 : Array (Option Value)} {oc17 kV17 dc17 pm17 cd17 ct17 : Value}
    {f18 : Addr} {od18 an18 : Option Addr} {sl18 : Array (Option Value)} {oc18 kV18 dc18 pm18 cd18 ct18 : Value}
    {f19 : Addr} {od19 an19 : Option Addr} {sl19 : Array (Option Value)} {oc19 kV19 dc19 pm19 cd19 ct19 : Value}
    {f20 : Addr} {od20 an20 : Option Addr} {sl20 : Array (Option Value)} {oc20 kV20 dc20 pm20 cd20 ct20 : Value}
    {f21 : Addr} {od21 an21 : Option Addr} {sl21 : Array (Option Value)} {oc21 kV21 dc21 pm21 cd21 ct21 : Value}
    {f22 : Addr} {od22 an22 : Option Addr} {sl22 : Array (Option Value)} {oc22 kV22 dc22 pm22 cd22 ct22 : Value}
    {f23 : Addr} {od23 an23 : Option Addr} {sl23 : Array (Option Value)} {oc23 kV23 dc23 pm23 cd23 ct23 : Value}
    {pfrt : Addr} {rsfrt : List Value}
    {f24 : Addr} {od24 an24 : Option Addr} {sl24 : Array (Option Value)} {oc24 kV24 dc24 pm24 cd24 ct24 : Value}
    {pfpe : Addr} {rsfpe : List Value}
    {f25 : Addr} {od25 an25 : Option Addr} {sl25 : Array (Option Value)} {oc25 kV25 dc25 pm25 cd25 ct25 : Value}
    {pftp : Addr} {rsftp : List Value}
    {f26 : Addr} {od26 an26 : Option Addr} {sl26 : Array (Option Value)} {oc26 kV26 dc26 pm26 cd26 ct26 : Value}
    {f27 T0 D0 : Addr} {oT : Obj} {tT : Tok} {nT : Nat} {t1 : Tok} {od27 an27 : Option Addr} {sl27 : Array (Option Value)} {oc27 dc27 pm27 cd27 ct27 : Value}
    {qp2 : Addr} {op2 : Obj} {np2 : Nat} {kp2_0 : Tok}
    {qp3 : Addr} {op3 : Obj} {np3 : Nat} {kp3_0 kp3_1 : Tok}
    {qp5 : Addr} {op5 : Obj} {np5 : Nat} {kp5_0 : Tok}
    {qp6 : Addr} {op6 : Obj} {np6 : Nat} {kp6_0 kp6_1 : Tok}
    {qp13 : Addr} {op13 : Obj} {np13 : Nat} {kp13_0 : Tok}
    {qt2 qt2_0 : Addr} {ot2 : Obj} {nt2 : Nat}
    {ot2_0 : Obj} {nt2_0 : Nat} {kt2_0_0 kt2_0_1 kt2_0_2 : Tok}
    {qt3 qt3_0 qt3_1 : Addr} {ot3 : Obj} {nt3 : Nat}
    {ot3_0 : Obj} {nt3_0 : Nat} {kt3_0_0 kt3_0_1 kt3_0_2 : Tok}
    {ot3_1 : Obj} {nt3_1 : Nat} {kt3_1_0 kt3_1_1 kt3_1_2 : Tok}
    {qt5 qt5_0 : Addr} {ot5 : Obj} {nt5 : Nat}
    {ot5_0 : Obj} {nt5_0 : Nat} {kt5_0_0 kt5_0_1 kt5_0_2 : Tok}
    {qt6 qt6_0 qt6_1 : Addr} {ot6 : Obj} {nt6 : Nat}
    {ot6_0 : Obj} {nt6_0 : Nat} {kt6_0_0 kt6_0_1 kt6_0_2 : Tok}
    {ot6_1 : Obj} {nt6_1 : Nat} {kt6_1_0 kt6_1_1 kt6_1_2 : Tok}
    {qt13 qt13_0 : Addr} {ot13 : Obj} {nt13 : Nat}
    {ot13_0 : Obj} {nt13_0 : Nat} {kt13_0_0 kt13_0_1 kt13_0_2 : Tok}
    (a1 : PySem.W.nsIn K mainGlobals "is_whole" = some (some (.ref f1)))
    (l1 : K.lookup f1 = some ⟨oc1, od1, .func (PySem.W.fnOf "is_whole" "is_whole" (defArgs (top 10)) (defBody (top 10)) (defScope (top 10)) .none kV1 dc1 pm1 an1 cd1 ct1), sl1⟩)
    (c1 : PySem.W.codeIn K cd1 "is_whole" = true)
    (k1 : PySem.W.keepIn K (.ref f1) = true)
    (a2 : PySem.W.nsIn K mainGlobals "is_between" = some (some (.ref f2)))
    (l2 : K.lookup f2 = some ⟨oc2, od2, .func (PySem.W.fnOf "is_between" "is_between" (defArgs (top 11)) (defBody (top 11)) (defScope (top 11)) .none kV2 dc2 pm2 an2 cd2 ct2), sl2⟩)
    (c2 : PySem.W.codeIn K cd2 "is_between" = true)
    (k2 : PySem.W.keepIn K (.ref f2) = true)
    (a3 : PySem.W.nsIn K mainGlobals "is_root" = some (some (.ref f3)))
    (l3 : K.lookup f3 = some ⟨oc3, od3, .func (PySem.W.fnOf "is_root" "is_root" (defArgs (top 13)) (defBody (top 13)) (defScope (top 13)) .none kV3 dc3 pm3 an3 cd3 ct3), sl3⟩)
    (c3 : PySem.W.codeIn K cd3 "is_root" = true)
    (k3 : PySem.W.keepIn K (.ref f3) = true)
    (a4 : PySem.W.nsIn K mainGlobals "is_kept" = some (some (.ref f4)))
    (l4 : K.lookup f4 = some ⟨oc4, od4, .func (PySem.W.fnOf "is_kept" "is_kept" (defArgs (top 29)) (defBody (top 29)) (defScope (top 29)) .none kV4 dc4 pm4 an4 cd4 ct4), sl4⟩)
    (c4 : PySem.W.codeIn K cd4 "is_kept" = true)
    (k4 : PySem.W.keepIn K (.ref f4) = true)
    (a5 : PySem.W.nsIn K mainGlobals "_bound" = some (some (.ref f5)))
    (l5 : K.lookup f5 = some ⟨oc5, od5, .func (PySem.W.fnOf "_bound" "_bound" (defArgs (top 30)) (defBody (top 30)) (defScope (top 30)) .none kV5 dc5 pm5 an5 cd5 ct5), sl5⟩)
    (c5 : PySem.W.codeIn K cd5 "_bound" = true)
    (k5 : PySem.W.keepIn K (.ref f5) = true)
    (a6 : PySem.W.nsIn K mainGlobals "_gap" = some (some (.ref f6)))
    (l6 : K.lookup f6 = some ⟨oc6, od6, .func (PySem.W.fnOf "_gap" "_gap" (defArgs (top 31)) (defBody (top 31)) (defScope (top 31)) .none kV6 dc6 pm6 an6 cd6 ct6), sl6⟩)
    (c6 : PySem.W.codeIn K cd6 "_gap" = true)
    (k6 : PySem.W.keepIn K (.ref f6) = true)
    (a7 : PySem.W.nsIn K mainGlobals "_law_bag" = some (some (.ref f7)))
    (l7 : K.lookup f7 = some ⟨oc7, od7, .func (PySem.W.fnOf "_law_bag" "_law_bag" (defArgs (top 33)) (defBody (top 33)) (defScope (top 33)) .none kV7 dc7 pm7 an7 cd7 ct7), sl7⟩)
    (c7 : PySem.W.codeIn K cd7 "_law_bag" = true)
    (k7 : PySem.W.keepIn K (.ref f7) = true)
    (a8 : PySem.W.nsIn K mainGlobals "_law_pull" = some (some (.ref f8)))
    (l8 : K.lookup f8 = some ⟨oc8, od8, .func (PySem.W.fnOf "_law_pull" "_law_pull" (defArgs (top 34)) (defBody (top 34)) (defScope (top 34)) .none kV8 dc8 pm8 an8 cd8 ct8), sl8⟩)
    (c8 : PySem.W.codeIn K cd8 "_law_pull" = true)
    (k8 : PySem.W.keepIn K (.ref f8) = true)
    (a9 : PySem.W.nsIn K mainGlobals "_law_of" = some (some (.ref f9)))
    (l9 : K.lookup f9 = some ⟨oc9, od9, .func (PySem.W.fnOf "_law_of" "_law_of" (defArgs (top 35)) (defBody (top 35)) (defScope (top 35)) .none kV9 dc9 pm9 an9 cd9 ct9), sl9⟩)
    (c9 : PySem.W.codeIn K cd9 "_law_of" = true)
    (k9 : PySem.W.keepIn K (.ref f9) = true)
    (a10 : PySem.W.nsIn K mainGlobals "_law_same" = some (some (.ref f10)))
    (l10 : K.lookup f10 = some ⟨oc10, od10, .func (PySem.W.fnOf "_law_same" "_law_same" (defArgs (top 36)) (defBody (top 36)) (defScope (top 36)) .none kV10 dc10 pm10 an10 cd10 ct10), sl10⟩)
    (c10 : PySem.W.codeIn K cd10 "_law_same" = true)
    (k10 : PySem.W.keepIn K (.ref f10) = true)
    (a11 : PySem.W.nsIn K mainGlobals "_law_far" = some (some (.ref f11)))
    (l11 : K.lookup f11 = some ⟨oc11, od11, .func (PySem.W.fnOf "_law_far" "_law_far" (defArgs (top 37)) (defBody (top 37)) (defScope (top 37)) .none kV11 dc11 pm11 an11 cd11 ct11), sl11⟩)
    (c11 : PySem.W.codeIn K cd11 "_law_far" = true)
    (k11 : PySem.W.keepIn K (.ref f11) = true)
    (a12 : PySem.W.nsIn K mainGlobals "_law_root_part" = some (some (.ref f12)))
    (l12 : K.lookup f12 = some ⟨oc12, od12, .func (PySem.W.fnOf "_law_root_part" "_law_root_part" (defArgs (top 38)) (defBody (top 38)) (defScope (top 38)) .none kV12 dc12 pm12 an12 cd12 ct12), sl12⟩)
    (c12 : PySem.W.codeIn K cd12 "_law_root_part" = true)
    (k12 : PySem.W.keepIn K (.ref f12) = true)
    (a13 : PySem.W.nsIn K mainGlobals "_law_floor" = some (some (.ref f13)))
    (l13 : K.lookup f13 = some ⟨oc13, od13, .func (PySem.W.fnOf "_law_floor" "_law_floor" (defArgs (top 39)) (defBody (top 39)) (defScope (top 39)) .none kV13 dc13 pm13 an13 cd13 ct13), sl13⟩)
    (c13 : PySem.W.codeIn K cd13 "_law_floor" = true)
    (k13 : PySem.W.keepIn K (.ref f13) = true)
    (a14 : PySem.W.nsIn K mainGlobals "_law_period" = some (some (.ref f14)))
    (l14 : K.lookup f14 = some ⟨oc14, od14, .func (PySem.W.fnOf "_law_period" "_law_period" (defArgs (top 40)) (defBody (top 40)) (defScope (top 40)) .none kV14 dc14 pm14 an14 cd14 ct14), sl14⟩)
    (c14 : PySem.W.codeIn K cd14 "_law_period" = true)
    (k14 : PySem.W.keepIn K (.ref f14) = true)
    (a15 : PySem.W.nsIn K mainGlobals "_law_root" = some (some (.ref f15)))
    (l15 : K.lookup f15 = some ⟨oc15, od15, .func (PySem.W.fnOf "_law_root" "_law_root" (defArgs (top 41)) (defBody (top 41)) (defScope (top 41)) .none kV15 dc15 pm15 an15 cd15 ct15), sl15⟩)
    (c15 : PySem.W.codeIn K cd15 "_law_root" = true)
    (k15 : PySem.W.keepIn K (.ref f15) = true)
    (a16 : PySem.W.nsIn K mainGlobals "_law_at_most" = some (some (.ref f16)))
    (l16 : K.lookup f16 = some ⟨oc16, od16, .func (PySem.W.fnOf "_law_at_most" "_law_at_most" (defArgs (top 42)) (defBody (top 42)) (defScope (top 42)) .none kV16 dc16 pm16 an16 cd16 ct16), sl16⟩)
    (c16 : PySem.W.codeIn K cd16 "_law_at_most" = true)
    (k16 : PySem.W.keepIn K (.ref f16) = true)
    (a17 : PySem.W.nsIn K mainGlobals "_law_tail" = some (some (.ref f17)))
    (l17 : K.lookup f17 = some ⟨oc17, od17, .func (PySem.W.fnOf "_law_tail" "_law_tail" (defArgs (top 43)) (defBody (top 43)) (defScope (top 43)) .none kV17 dc17 pm17 an17 cd17 ct17), sl17⟩)
    (c17 : PySem.W.codeIn K cd17 "_law_tail" = true)
    (k17 : PySem.W.keepIn K (.ref f17) = true)
    (a18 : PySem.W.nsIn K mainGlobals "_law_bound" = some (some (.ref f18)))
    (l18 : K.lookup f18 = some ⟨oc18, od18, .func (PySem.W.fnOf "_law_bound" "_law_bound" (defArgs (top 44)) (defBody (top 44)) (defScope (top 44)) .none kV18 dc18 pm18 an18 cd18 ct18), sl18⟩)
    (c18 : PySem.W.codeIn K cd18 "_law_bound" = true)
    (k18 : PySem.W.keepIn K (.ref f18) = true)
    (a19 : PySem.W.nsIn K mainGlobals "_law_kept" = some (some (.ref f19)))
    (l19 : K.lookup f19 = some ⟨oc19, od19, .func (PySem.W.fnOf "_law_kept" "_law_kept" (defArgs (top 45)) (defBody (top 45)) (defScope (top 45)) .none kV19 dc19 pm19 an19 cd19 ct19), sl19⟩)
    (c19 : PySem.W.codeIn K cd19 "_law_kept" = true)
    (k19 : PySem.W.keepIn K (.ref f19) = true)
    (a20 : PySem.W.nsIn K mainGlobals "_law_factors" = some (some (.ref f20)))
    (l20 : K.lookup f20 = some ⟨oc20, od20, .func (PySem.W.fnOf "_law_factors" "_law_factors" (defArgs (top 46)) (defBody (top 46)) (defScope (top 46)) .none kV20 dc20 pm20 an20 cd20 ct20), sl20⟩)
    (c20 : PySem.W.codeIn K cd20 "_law_factors" = true)
    (k20 : PySem.W.keepIn K (.ref f20) = true)
    (a21 : PySem.W.nsIn K mainGlobals "law" = some (some (.ref f21)))
    (l21 : K.lookup f21 = some ⟨oc21, od21, .func (PySem.W.fnOf "law" "law" (defArgs (top 47)) (defBody (top 47)) (defScope (top 47)) .none kV21 dc21 pm21 an21 cd21 ct21), sl21⟩)
    (c21 : PySem.W.codeIn K cd21 "law" = true)
    (k21 : PySem.W.keepIn K (.ref f21) = true)
    (aC : PySem.W.nsIn K mainGlobals "Surd" = some (some (.ref C)))
    (a22 : PySem.W.findIn K (.ref C) "sign" = some (some (.ref f22)))
    (i22 : PySem.W.isFn K (.ref f22) = true)
    (l22 : K.lookup f22 = some ⟨oc22, od22, .func (PySem.W.fnOf "sign" "Surd.sign" (defArgs (sS 4)) (defBody (sS 4)) (defScope (sS 4)) .none kV22 dc22 pm22 an22 cd22 ct22), sl22⟩)
    (c22 : PySem.W.codeIn K cd22 "Surd.sign" = true)
    (k22 : PySem.W.keepIn K (.ref f22) = true)
    (aF : PySem.W.nsIn K mainGlobals "Field" = some (some (.ref CF)))
    (a23 : PySem.W.findIn K (.ref CF) "__init__" = some (some (.ref f23)))
    (l23 : K.lookup f23 = some ⟨oc23, od23, .func (PySem.W.fnOf "__init__" "Field.__init__" (defArgs (sF 1)) (defBody (sF 1)) (defScope (sF 1)) .none kV23 dc23 pm23 an23 cd23 ct23), sl23⟩)
    (c23 : PySem.W.codeIn K cd23 "Field.__init__" = true)
    (k23 : PySem.W.keepIn K (.ref f23) = true)
    (i23 : PySem.W.isFn K (.ref f23) = true)
    (atfrt : PySem.W.findIn K (.ref CF) "root" = some (some (.ref pfrt)))
    (gefrt : PySem.W.specialIn K (.ref pfrt) "__get__" = some (some (.builtin "property.__get__")))
    (tkfrt : PySem.W.takesIn K (.ref pfrt) = some true)
    (a24 : PySem.W.recIn K pfrt "property" = some (.ref f24 :: rsfrt))
    (l24 : K.lookup f24 = some ⟨oc24, od24, .func (PySem.W.fnOf "root" "Field.root" (defArgs (sF 2)) (defBody (sF 2)) (defScope (sF 2)) .none kV24 dc24 pm24 an24 cd24 ct24), sl24⟩)
    (c24 : PySem.W.codeIn K cd24 "Field.root" = true)
    (k24 : PySem.W.keepIn K (.ref f24) = true)
    (atfpe : PySem.W.findIn K (.ref CF) "period" = some (some (.ref pfpe)))
    (gefpe : PySem.W.specialIn K (.ref pfpe) "__get__" = some (some (.builtin "property.__get__")))
    (tkfpe : PySem.W.takesIn K (.ref pfpe) = some true)
    (a25 : PySem.W.recIn K pfpe "property" = some (.ref f25 :: rsfpe))
    (l25 : K.lookup f25 = some ⟨oc25, od25, .func (PySem.W.fnOf "period" "Field.period" (defArgs (sF 3)) (defBody (sF 3)) (defScope (sF 3)) .none kV25 dc25 pm25 an25 cd25 ct25), sl25⟩)
    (c25 : PySem.W.codeIn K cd25 "Field.period" = true)
    (k25 : PySem.W.keepIn K (.ref f25) = true)
    (atftp : PySem.W.findIn K (.ref CF) "top" = some (some (.ref pftp)))
    (geftp : PySem.W.specialIn K (.ref pftp) "__get__" = some (some (.builtin "property.__get__")))
    (tkftp : PySem.W.takesIn K (.ref pftp) = some true)
    (a26 : PySem.W.recIn K pftp "property" = some (.ref f26 :: rsftp))
    (l26 : K.lookup f26 = some ⟨oc26, od26, .func (PySem.W.fnOf "top" "Field.top" (defArgs (sF 4)) (defBody (sF 4)) (defScope (sF 4)) .none kV26 dc26 pm26 an26 cd26 ct26), sl26⟩)
    (c26 : PySem.W.codeIn K cd26 "Field.top" = true)
    (k26 : PySem.W.keepIn K (.ref f26) = true)
    (a27 : PySem.W.findIn K (.ref C) "__init__" = some (some (.ref f27)))
    (i27 : PySem.W.isFn K (.ref f27) = true)
    (l27 : K.lookup f27 = some ⟨oc27, od27, .func (PySem.W.fnOf "__init__" "Surd.__init__" (defArgs (sS 0)) (defBody (sS 0)) (defScope (sS 0)) (.ref T0) (.ref D0) dc27 pm27 an27 cd27 ct27), sl27⟩)
    (c27 : PySem.W.codeIn K cd27 "Surd.__init__" = true)
    (k27 : PySem.W.keepIn K (.ref f27) = true)
    (lT : K.lookup T0 = some oT)
    (dT : oT.data = .seq #[.int 0 tT] nT)
    (kD : PySem.W.nsIn K D0 "k" = some (some (.int 1 t1)))
    (pg : PySem.W.plainGet K C Str.empty = true)
    (hdC : PySem.W.hasDictIn K C = true)
    (poC : PySem.W.plainOver K C = true)
    (saC : PySem.W.findIn K (.ref C) "__setattr__" = some (some (.builtin "object.__setattr__")))
    (mkC : PySem.W.makesIn K C = true)
    (kpC : PySem.W.keepIn K (.ref C) = true)
    (nRo : PySem.W.findIn K (.ref C) "_root" = some none)
    (nPa : PySem.W.findIn K (.ref C) "_parts" = some none)
    (pgF : PySem.W.plainGet K CF Str.empty = true)
    (hdF : PySem.W.hasDictIn K CF = true)
    (poF : PySem.W.plainOver K CF = true)
    (saF : PySem.W.findIn K (.ref CF) "__setattr__" = some (some (.builtin "object.__setattr__")))
    (mkF : PySem.W.makesIn K CF = true)
    (kpF : PySem.W.keepIn K (.ref CF) = true)
    (nRF : PySem.W.findIn K (.ref CF) "_root" = some none)
    (nPF : PySem.W.findIn K (.ref CF) "_period" = some none)
    (aP : PySem.W.nsIn K mainGlobals "PERIODS" = some (some (.ref pd)))
    (lP : K.lookup pd = some ⟨.type "dict", none, .dict es np, #[]⟩)
    (oP : okE es.toList [2, 3, 5, 6, 13] = true)
    (wP : (pd == sysModules) = false)
    (aT : PySem.W.nsIn K mainGlobals "TAILS" = some (some (.ref td)))
    (lTd : K.lookup td = some ⟨.type "dict", none, .dict et nt, #[]⟩)
    (oTd : okE et.toList [2, 3, 5, 6, 13] = true)
    (aG : PySem.W.nsIn K mainGlobals "gcd" = some (some (.builtin "math.gcd")))
    (gp2 : fI es.toList 2 = some (.ref qp2))
    (tlp2 : K.lookup qp2 = some op2)
    (tcp2 : op2.cls = .type "tuple")
    (tdp2 : op2.data = .seq #[.int (2) kp2_0] np2)
    (gp3 : fI es.toList 3 = some (.ref qp3))
    (tlp3 : K.lookup qp3 = some op3)
    (tcp3 : op3.cls = .type "tuple")
    (tdp3 : op3.data = .seq #[.int (1) kp3_0, .int (2) kp3_1] np3)
    (gp5 : fI es.toList 5 = some (.ref qp5))
    (tlp5 : K.lookup qp5 = some op5)
    (tcp5 : op5.cls = .type "tuple")
    (tdp5 : op5.data = .seq #[.int (1) kp5_0] np5)
    (gp6 : fI es.toList 6 = some (.ref qp6))
    (tlp6 : K.lookup qp6 = some op6)
    (tcp6 : op6.cls = .type "tuple")
    (tdp6 : op6.data = .seq #[.int (2) kp6_0, .int (4) kp6_1] np6)
    (gp13 : fI es.toList 13 = some (.ref qp13))
    (tlp13 : K.lookup qp13 = some op13)
    (tcp13 : op13.cls = .type "tuple")
    (tdp13 : op13.data = .seq #[.int (3) kp13_0] np13)
    (gt2 : fI et.toList 2 = some (.ref qt2))
    (tlt2 : K.lookup qt2 = some ot2)
    (tct2 : ot2.cls = .type "tuple")
    (tdt2 : ot2.data = .seq #[.ref qt2_0] nt2)
    (tlt2_0 : K.lookup qt2_0 = some ot2_0)
    (tct2_0 : ot2_0.cls = .type "tuple")
    (tdt2_0 : ot2_0.data = .seq #[.int (1) kt2_0_0, .int (1) kt2_0_1, .int (1) kt2_0_2] nt2_0)
    (gt3 : fI et.toList 3 = some (.ref qt3))
    (tlt3 : K.lookup qt3 = some ot3)
    (tct3 : ot3.cls = .type "tuple")
    (tdt3 : ot3.data = .seq #[.ref qt3_0, .ref qt3_1] nt3)
    (tlt3_0 : K.lookup qt3_0 = some ot3_0)
    (tct3_0 : ot3_0.cls = .type "tuple")
    (tdt3_0 : ot3_0.data = .seq #[.int (1) kt3_0_0, .int (1) kt3_0_1, .int (2) kt3_0_2] nt3_0)
    (tlt3_1 : K.lookup qt3_1 = some ot3_1)
    (tct3_1 : ot3_1.cls = .type "tuple")
    (tdt3_1 : ot3_1.data = .seq #[.int (1) kt3_1_0, .int (1) kt3_1_1, .int (1) kt3_1_2] nt3_1)
    (gt5 : fI et.toList 5 = some (.ref qt5))
    (tlt5 : K.lookup qt5 = some ot5)
    (tct5 : ot5.cls = .type "tuple")
    (tdt5 : ot5.data = .seq #[.ref qt5_0] nt5)
    (tlt5_0 : K.lookup qt5_0 = some ot5_0)
    (tct5_0 : ot5_0.cls = .type "tuple")
    (tdt5_0 : ot5_0.data = .seq #[.int (1) kt5_0_0, .int (1) kt5_0_1, .int (2) kt5_0_2] nt5_0)
    (gt6 : fI et.toList 6 = some (.ref qt6))
    (tlt6 : K.lookup qt6 = some ot6)
    (tct6 : ot6.cls = .type "tuple")
    (tdt6 : ot6.data = .seq #[.ref qt6_0, .ref qt6_1] nt6)
    (tlt6_0 : K.lookup qt6_0 = some ot6_0)
    (tct6_0 : ot6_0.cls = .type "tuple")
    (tdt6_0 : ot6_0.data = .seq #[.int (2) kt6_0_0, .int (1) kt6_0_1, .int (2) kt6_0_2] nt6_0)
    (tlt6_1 : K.lookup qt6_1 = some ot6_1)
    (tct6_1 : ot6_1.cls = .type "tuple")
    (tdt6_1 : ot6_1.data = .seq #[.int (2) kt6_1_0, .int (1) kt6_1_1, .int (1) kt6_1_2] nt6_1)
    (gt13 : fI et.toList 13 = some (.ref qt13))
    (tlt13 : K.lookup qt13 = some ot13)
    (tct13 : ot13.cls = .type "tuple")
    (tdt13 : ot13.data = .seq #[.ref qt13_0] nt13)
    (tlt13_0 : K.lookup qt13_0 = some ot13_0)
    (tct13_0 : ot13_0.cls = .type "tuple")
    (tdt13_0 : ot13_0.data = .seq #[.int (3) kt13_0_0, .int (1) kt13_0_1, .int (2) kt13_0_2] nt13_0)
    (z_list : PySem.W.nsIn K mainGlobals "list" = some none)
    (z_len : PySem.W.nsIn K mainGlobals "len" = some none)
    (z_abs : PySem.W.nsIn K mainGlobals "abs" = some none)
    (z_int : PySem.W.nsIn K mainGlobals "int" = some none)
    (z_range : PySem.W.nsIn K mainGlobals "range" = some none)
    (z_isinstance : PySem.W.nsIn K mainGlobals "isinstance" = some none)
    (z_bool : PySem.W.nsIn K mainGlobals "bool" = some none)
    (z_str : PySem.W.nsIn K mainGlobals "str" = some none)
    (z_tuple : PySem.W.nsIn K mainGlobals "tuple" = some none)
    (z_all : PySem.W.nsIn K mainGlobals "all" = some none)
    (z_zip : PySem.W.nsIn K mainGlobals "zip" = some none)
    (z_sum : PySem.W.nsIn K mainGlobals "sum" = some none)
    (z_max : PySem.W.nsIn K mainGlobals "max" = some none) :
    ∃ fd : FuncData, (∀ (s : Shared) (v : Value), BindsTo s fd ⟨[v], []⟩ [("_law_script", v)]) ∧ ∀ base : Heap, K.In base → base.Ns mainGlobals mg → FnOk l.prog w K mg base CX0 10 fa fd ["_law_script"] (spLaw K) := by
  have e := hfa.symm.trans (PySem.W.mg_of X G a21)
  cases e
  have F_whole := fun_mk (st := top 10) l1 c1 k1
  have b_whole := F_whole.binds (ps := ["value"]) fun _ _ _ _ _ _ us hl => match us, hl with | [_], _ => rfl
  have m_whole := PySem.W.mg_of X G a1
  have F_btw := fun_mk (st := top 11) l2 c2 k2
  have b_btw := F_btw.binds (ps := ["value", "low", "high"]) fun _ _ _ _ _ _ us hl => match us, hl with | [_, _, _], _ => rfl
  have m_btw := PySem.W.mg_of X G a2
  have F_isroot := fun_mk (st := top 13) l3 c3 k3
  have b_isroot := F_isroot.binds (ps := ["value"]) fun _ _ _ _ _ _ us hl => match us, hl with | [_], _ => rfl
  have m_isroot := PySem.W.mg_of X G a3
  have F_kept := fun_mk (st := top 29) l4 c4 k4
  have b_kept := F_kept.binds (ps := ["field", "factors", "pair", "place"]) fun _ _ _ _ _ _ us hl => match us, hl with | [_, _, _, _], _ => rfl
  have m_kept := PySem.W.mg_of X G a4
  have F_bound := fun_mk (st := top 30) l5 c5 k5
  have b_bound := F_bound.binds (ps := ["field", "factors"]) fun _ _ _ _ _ _ us hl => match us, hl with | [_, _], _ => rfl
  have m_bound := PySem.W.mg_of X G a5
  have F_gap := fun_mk (st := top 31) l6 c6 k6
  have b_gap := F_gap.binds (ps := ["field", "pair", "place"]) fun _ _ _ _ _ _ us hl => match us, hl with | [_, _, _], _ => rfl
  have m_gap := PySem.W.mg_of X G a6
  have F_bag := fun_mk (st := top 33) l7 c7 k7
  have b_bag := F_bag.binds (ps := ["_law_script"]) fun _ _ _ _ _ _ us hl => match us, hl with | [_], _ => rfl
  have m_bag := PySem.W.mg_of X G a7
  have F_pull := fun_mk (st := top 34) l8 c8 k8
  have b_pull := F_pull.binds (ps := ["_law_bag_here", "_law_sides"]) fun _ _ _ _ _ _ us hl => match us, hl with | [_, _], _ => rfl
  have m_pull := PySem.W.mg_of X G a8
  have F_of := fun_mk (st := top 35) l9 c9 k9
  have b_of := F_of.binds (ps := ["_law_bag_here", "_law_some"]) fun _ _ _ _ _ _ us hl => match us, hl with | [_, _], _ => rfl
  have m_of := PySem.W.mg_of X G a9
  have F_same := fun_mk (st := top 36) l10 c10 k10
  have b_same := F_same.binds (ps := ["_law_found", "_law_due"]) fun _ _ _ _ _ _ us hl => match us, hl with | [_, _], _ => rfl
  have m_same := PySem.W.mg_of X G a10
  have F_far := fun_mk (st := top 37) l11 c11 k11
  have b_far := F_far.binds (ps := ["_law_bag_here", "_law_figures"]) fun _ _ _ _ _ _ us hl => match us, hl with | [_, _], _ => rfl
  have m_far := PySem.W.mg_of X G a11
  have F_rp := fun_mk (st := top 38) l12 c12 k12
  have b_rp := F_rp.binds (ps := ["_law_number"]) fun _ _ _ _ _ _ us hl => match us, hl with | [_], _ => rfl
  have m_rp := PySem.W.mg_of X G a12
  have F_lfl := fun_mk (st := top 39) l13 c13 k13
  have b_lfl := F_lfl.binds (ps := ["_law_root_here", "_law_slope", "_law_number"]) fun _ _ _ _ _ _ us hl => match us, hl with | [_, _, _], _ => rfl
  have m_lfl := PySem.W.mg_of X G a13
  have F_lper := fun_mk (st := top 40) l14 c14 k14
  have b_lper := F_lper.binds (ps := ["_law_root_here"]) fun _ _ _ _ _ _ us hl => match us, hl with | [_], _ => rfl
  have m_lper := PySem.W.mg_of X G a14
  have F_root := fun_mk (st := top 41) l15 c15 k15
  have b_root := F_root.binds (ps := ["_law_bag_here"]) fun _ _ _ _ _ _ us hl => match us, hl with | [_], _ => rfl
  have m_root := PySem.W.mg_of X G a15
  have F_atm := fun_mk (st := top 42) l16 c16 k16
  have b_atm := F_atm.binds (ps := ["_law_root_here", "_law_i", "_law_j", "_law_k", "_law_bound_here"]) fun _ _ _ _ _ _ us hl => match us, hl with | [_, _, _, _, _], _ => rfl
  have m_atm := PySem.W.mg_of X G a16
  have F_ltl := fun_mk (st := top 43) l17 c17 k17
  have b_ltl := F_ltl.binds (ps := ["_law_root_here", "_law_place_z"]) fun _ _ _ _ _ _ us hl => match us, hl with | [_, _], _ => rfl
  have m_ltl := PySem.W.mg_of X G a17
  have F_lbn := fun_mk (st := top 44) l18 c18 k18
  have b_lbn := F_lbn.binds (ps := ["_law_root_here", "_law_factors_z"]) fun _ _ _ _ _ _ us hl => match us, hl with | [_, _], _ => rfl
  have m_lbn := PySem.W.mg_of X G a18
  have F_lkp := fun_mk (st := top 45) l19 c19 k19
  have b_lkp := F_lkp.binds (ps := ["_law_root_here", "_law_factors_z", "_law_u", "_law_v", "_law_place_z"]) fun _ _ _ _ _ _ us hl => match us, hl with | [_, _, _, _, _], _ => rfl
  have m_lkp := PySem.W.mg_of X G a19
  have F_fac := fun_mk (st := top 46) l20 c20 k20
  have b_fac := F_fac.binds (ps := ["_law_bag_here", "_law_many"]) fun _ _ _ _ _ _ us hl => match us, hl with | [_, _], _ => rfl
  have m_fac := PySem.W.mg_of X G a20
  have F_law := fun_mk (st := top 47) l21 c21 k21
  have b_law := F_law.binds (ps := ["_law_script"]) fun _ _ _ _ _ _ us hl => match us, hl with | [_], _ => rfl
  have m_law := PySem.W.mg_of X G a21
  have F_sign := fun_mk (st := sS 4) l22 c22 k22
  have b_sign := F_sign.binds (ps := ["self"]) fun _ _ _ _ _ _ us hl => match us, hl with | [_], _ => rfl
  have F_finit := fun_mk (st := sF 1) l23 c23 k23
  have b_finit := F_finit.binds (ps := ["self", "root"]) fun _ _ _ _ _ _ us hl => match us, hl with | [_, _], _ => rfl
  have F_frt := fun_mk (st := sF 2) l24 c24 k24
  have b_frt := F_frt.binds (ps := ["self"]) fun _ _ _ _ _ _ us hl => match us, hl with | [_], _ => rfl
  have F_fpe := fun_mk (st := sF 3) l25 c25 k25
  have b_fpe := F_fpe.binds (ps := ["self"]) fun _ _ _ _ _ _ us hl => match us, hl with | [_], _ => rfl
  have F_ftp := fun_mk (st := sF 4) l26 c26 k26
  have b_ftp := F_ftp.binds (ps := ["self"]) fun _ _ _ _ _ _ us hl => match us, hl with | [_], _ => rfl
  have n_list := PySem.W.mg_none_of X G z_list
  have n_len := PySem.W.mg_none_of X G z_len
  have n_abs := PySem.W.mg_none_of X G z_abs
  have n_int := PySem.W.mg_none_of X G z_int
  have n_range := PySem.W.mg_none_of X G z_range
  have n_isinstance := PySem.W.mg_none_of X G z_isinstance
  have n_bool := PySem.W.mg_none_of X G z_bool
  have n_str := PySem.W.mg_none_of X G z_str
  have n_tuple := PySem.W.mg_none_of X G z_tuple
  have n_all := PySem.W.mg_none_of X G z_all
  have n_zip := PySem.W.mg_none_of X G z_zip
  have n_sum := PySem.W.mg_none_of X G z_sum
  have n_max := PySem.W.mg_none_of X G z_max
  have m_P := PySem.W.mg_of X G aP
  have m_T := PySem.W.mg_of X G aT
  have m_G := PySem.W.mg_of X G aG
  have hPer : PerK K pd := fun d hd => by
    rcases hd with rfl | rfl | rfl | rfl | rfl
    · exact ⟨qp2, ⟨es, _, _, _, lP, oP, (findBy_fI _ _).trans gp2, rfl⟩, (⟨op2, _, np2, tlp2, tcp2, tdp2, by show 1 ≤ sizeLine; decide, .cons ⟨_, rfl⟩ (.nil)⟩ : TupI K qp2 [2])⟩
    · exact ⟨qp3, ⟨es, _, _, _, lP, oP, (findBy_fI _ _).trans gp3, rfl⟩, (⟨op3, _, np3, tlp3, tcp3, tdp3, by show 2 ≤ sizeLine; decide, .cons ⟨_, rfl⟩ (.cons ⟨_, rfl⟩ (.nil))⟩ : TupI K qp3 [1, 2])⟩
    · exact ⟨qp5, ⟨es, _, _, _, lP, oP, (findBy_fI _ _).trans gp5, rfl⟩, (⟨op5, _, np5, tlp5, tcp5, tdp5, by show 1 ≤ sizeLine; decide, .cons ⟨_, rfl⟩ (.nil)⟩ : TupI K qp5 [1])⟩
    · exact ⟨qp6, ⟨es, _, _, _, lP, oP, (findBy_fI _ _).trans gp6, rfl⟩, (⟨op6, _, np6, tlp6, tcp6, tdp6, by show 2 ≤ sizeLine; decide, .cons ⟨_, rfl⟩ (.cons ⟨_, rfl⟩ (.nil))⟩ : TupI K qp6 [2, 4])⟩
    · exact ⟨qp13, ⟨es, _, _, _, lP, oP, (findBy_fI _ _).trans gp13, rfl⟩, (⟨op13, _, np13, tlp13, tcp13, tdp13, by show 1 ≤ sizeLine; decide, .cons ⟨_, rfl⟩ (.nil)⟩ : TupI K qp13 [3])⟩
  have hTls : TlsK K td := fun d hd => by
    rcases hd with rfl | rfl | rfl | rfl | rfl
    · refine ⟨qt2, [.ref qt2_0], ⟨et, _, _, _, lTd, oTd, (findBy_fI _ _).trans gt2, rfl⟩, fun H => .inr ⟨ot2, _, nt2, tlt2, tct2, tdt2, by show 1 ≤ sizeLine; decide, .cons rfl (.nil)⟩, rfl, fun n => ?_⟩
      have eI : tlI 2 n = 1 := by unfold tlI; simp
      have eK : tlK 2 n = 1 := by unfold tlK; simp
      exact ⟨qt2_0, by rw [show n % (per 2).length = 0 from Nat.mod_one n]; rfl, fun H => by rw [eI, eK]; exact TupI.sq (⟨ot2_0, _, nt2_0, tlt2_0, tct2_0, tdt2_0, by show 3 ≤ sizeLine; decide, .cons ⟨_, rfl⟩ (.cons ⟨_, rfl⟩ (.cons ⟨_, rfl⟩ (.nil)))⟩ : TupI K qt2_0 [1, 1, 1])⟩
    · refine ⟨qt3, [.ref qt3_0, .ref qt3_1], ⟨et, _, _, _, lTd, oTd, (findBy_fI _ _).trans gt3, rfl⟩, fun H => .inr ⟨ot3, _, nt3, tlt3, tct3, tdt3, by show 2 ≤ sizeLine; decide, .cons rfl (.cons rfl (.nil))⟩, rfl, fun n => ?_⟩
      rcases (show n % 2 = 0 ∨ n % 2 = 1 by omega) with h2 | h2
      · have eI : tlI 3 n = 1 := by unfold tlI; simp
        have eK : tlK 3 n = 2 := by unfold tlK; simp [h2]
        exact ⟨qt3_0, by rw [show n % (per 3).length = 0 from h2]; rfl, fun H => by rw [eI, eK]; exact TupI.sq (⟨ot3_0, _, nt3_0, tlt3_0, tct3_0, tdt3_0, by show 3 ≤ sizeLine; decide, .cons ⟨_, rfl⟩ (.cons ⟨_, rfl⟩ (.cons ⟨_, rfl⟩ (.nil)))⟩ : TupI K qt3_0 [1, 1, 2])⟩
      · have eI : tlI 3 n = 1 := by unfold tlI; simp
        have eK : tlK 3 n = 1 := by unfold tlK; simp [h2]
        exact ⟨qt3_1, by rw [show n % (per 3).length = 1 from h2]; rfl, fun H => by rw [eI, eK]; exact TupI.sq (⟨ot3_1, _, nt3_1, tlt3_1, tct3_1, tdt3_1, by show 3 ≤ sizeLine; decide, .cons ⟨_, rfl⟩ (.cons ⟨_, rfl⟩ (.cons ⟨_, rfl⟩ (.nil)))⟩ : TupI K qt3_1 [1, 1, 1])⟩
    · refine ⟨qt5, [.ref qt5_0], ⟨et, _, _, _, lTd, oTd, (findBy_fI _ _).trans gt5, rfl⟩, fun H => .inr ⟨ot5, _, nt5, tlt5, tct5, tdt5, by show 1 ≤ sizeLine; decide, .cons rfl (.nil)⟩, rfl, fun n => ?_⟩
      have eI : tlI 5 n = 1 := by unfold tlI; simp
      have eK : tlK 5 n = 2 := by unfold tlK; simp
      exact ⟨qt5_0, by rw [show n % (per 5).length = 0 from Nat.mod_one n]; rfl, fun H => by rw [eI, eK]; exact TupI.sq (⟨ot5_0, _, nt5_0, tlt5_0, tct5_0, tdt5_0, by show 3 ≤ sizeLine; decide, .cons ⟨_, rfl⟩ (.cons ⟨_, rfl⟩ (.cons ⟨_, rfl⟩ (.nil)))⟩ : TupI K qt5_0 [1, 1, 2])⟩
    · refine ⟨qt6, [.ref qt6_0, .ref qt6_1], ⟨et, _, _, _, lTd, oTd, (findBy_fI _ _).trans gt6, rfl⟩, fun H => .inr ⟨ot6, _, nt6, tlt6, tct6, tdt6, by show 2 ≤ sizeLine; decide, .cons rfl (.cons rfl (.nil))⟩, rfl, fun n => ?_⟩
      rcases (show n % 2 = 0 ∨ n % 2 = 1 by omega) with h2 | h2
      · have eI : tlI 6 n = 2 := by unfold tlI; simp
        have eK : tlK 6 n = 2 := by unfold tlK; simp [h2]
        exact ⟨qt6_0, by rw [show n % (per 6).length = 0 from h2]; rfl, fun H => by rw [eI, eK]; exact TupI.sq (⟨ot6_0, _, nt6_0, tlt6_0, tct6_0, tdt6_0, by show 3 ≤ sizeLine; decide, .cons ⟨_, rfl⟩ (.cons ⟨_, rfl⟩ (.cons ⟨_, rfl⟩ (.nil)))⟩ : TupI K qt6_0 [2, 1, 2])⟩
      · have eI : tlI 6 n = 2 := by unfold tlI; simp
        have eK : tlK 6 n = 1 := by unfold tlK; simp [h2]
        exact ⟨qt6_1, by rw [show n % (per 6).length = 1 from h2]; rfl, fun H => by rw [eI, eK]; exact TupI.sq (⟨ot6_1, _, nt6_1, tlt6_1, tct6_1, tdt6_1, by show 3 ≤ sizeLine; decide, .cons ⟨_, rfl⟩ (.cons ⟨_, rfl⟩ (.cons ⟨_, rfl⟩ (.nil)))⟩ : TupI K qt6_1 [2, 1, 1])⟩
    · refine ⟨qt13, [.ref qt13_0], ⟨et, _, _, _, lTd, oTd, (findBy_fI _ _).trans gt13, rfl⟩, fun H => .inr ⟨ot13, _, nt13, tlt13, tct13, tdt13, by show 1 ≤ sizeLine; decide, .cons rfl (.nil)⟩, rfl, fun n => ?_⟩
      have eI : tlI 13 n = 3 := by unfold tlI; simp
      have eK : tlK 13 n = 2 := by unfold tlK; simp
      exact ⟨qt13_0, by rw [show n % (per 13).length = 0 from Nat.mod_one n]; rfl, fun H => by rw [eI, eK]; exact TupI.sq (⟨ot13_0, _, nt13_0, tlt13_0, tct13_0, tdt13_0, by show 3 ≤ sizeLine; decide, .cons ⟨_, rfl⟩ (.cons ⟨_, rfl⟩ (.cons ⟨_, rfl⟩ (.nil)))⟩ : TupI K qt13_0 [3, 1, 2])⟩
  have T : TxS K mg C := ⟨⟨pg, hdC, poC, saC⟩, nRo, nPa, PySem.W.mg_of X G aC⟩
  have TF : TxF K mg CF := ⟨⟨pgF, hdF, poF, saF⟩, nRF, nPF, PySem.W.mg_of X G aF⟩
  have FI : FunD K "__init__" "Surd.__init__" (defArgs (sS 0)) (defBody (sS 0)) (defScope (sS 0)) [.int 0] [("k", .int 1)] f27 (PySem.W.fnOf "__init__" "Surd.__init__" (defArgs (sS 0)) (defBody (sS 0)) (defScope (sS 0)) (.ref T0) (.ref D0) dc27 pm27 an27 cd27 ct27) :=
    ⟨⟨oc27, od27, .ref T0, .ref D0, dc27, pm27, an27, cd27, ct27, sl27, rfl, l27, c27, .inr ⟨by simp, T0, oT, [.int 0 tT], nT, rfl, lT, dT, .cons ⟨_, rfl⟩ .nil⟩, .inr ⟨D0, rfl, fun q hq => by
      obtain rfl : q = ((("k" : Str), V.int 1) : Str × V) := by simpa using hq
      exact ⟨_, kD, _, rfl⟩⟩⟩, k27⟩
  refine ⟨PySem.W.fnOf "law" "law" (defArgs (top 47)) (defBody (top 47)) (defScope (top 47)) .none kV21 dc21 pm21 an21 cd21 ct21, fun s v => .of_eq rfl, fun base _ _ => ?_⟩
  have D_whole : Df l.prog w K mg base 1 "is_whole" ["value"] (spWhole K) := ⟨_, _, ok_whole (k := 0) F_whole n_isinstance n_int n_bool, b_whole, m_whole, F_whole.kp⟩
  have D_isroot : Df l.prog w K mg base 2 "is_root" ["value"] (spIsRoot K) := ⟨_, _, ok_isroot F_isroot D_whole m_P ⟨wP, es, np, lP, oP⟩, b_isroot, m_isroot, F_isroot.kp⟩
  have TBm : TB mg := ⟨n_list, n_len, n_abs, n_int⟩
  have TSs : TSm mg := ⟨n_isinstance, n_bool, n_int, n_str, n_list, n_tuple, n_len, n_all, n_zip⟩
  have D_bag : Df l.prog w K mg base 1 "_law_bag" ["_law_script"] (spBag K) := ⟨_, _, ok_bag F_bag TBm, b_bag, m_bag, F_bag.kp⟩
  have D_pull : Df l.prog w K mg base 1 "_law_pull" ["_law_bag_here", "_law_sides"] spPullC := ⟨_, _, ok_pullC F_pull TBm, b_pull, m_pull, F_pull.kp⟩
  have D_of : Df l.prog w K mg base 2 "_law_of" ["_law_bag_here", "_law_some"] (spOfC K) := ⟨_, _, ok_ofC F_of TBm D_pull, b_of, m_of, F_of.kp⟩
  have D_root : Df l.prog w K mg base 3 "_law_root" ["_law_bag_here"] spRootC := ⟨_, _, ok_rootC F_root D_of, b_root, m_root, F_root.kp⟩
  have D_far : Df l.prog w K mg base 2 "_law_far" ["_law_bag_here", "_law_figures"] spFarC := ⟨_, _, ok_farC F_far n_range D_pull, b_far, m_far, F_far.kp⟩
  have D_same : Df l.prog w K mg base 6 "_law_same" ["_law_found", "_law_due"] (spSame K 5) := ⟨_, _, ok_same F_same TSs b_same m_same 5, b_same, m_same, F_same.kp⟩
  have D_rp : Df l.prog w K mg base 1 "_law_root_part" ["_law_number"] spRP := ⟨_, _, ok_rp (k := 0) F_rp, b_rp, m_rp, F_rp.kp⟩
  have D_lfl : Df l.prog w K mg base 2 "_law_floor" ["_law_root_here", "_law_slope", "_law_number"] (spLFl K) := ⟨_, _, ok_lfl F_lfl D_rp, b_lfl, m_lfl, F_lfl.kp⟩
  have D_lper : Df l.prog w K mg base 1 "_law_period" ["_law_root_here"] spPeriod := ⟨_, _, ok_lper (k := 0) F_lper, b_lper, m_lper, F_lper.kp⟩
  have D_ltl : Df l.prog w K mg base 3 "_law_tail" ["_law_root_here", "_law_place_z"] spTail := ⟨_, _, ok_ltail (k := 2) F_ltl n_len n_int, b_ltl, m_ltl, F_ltl.kp⟩
  have D_atm : Df l.prog w K mg base 3 "_law_at_most" ["_law_root_here", "_law_i", "_law_j", "_law_k", "_law_bound_here"] spAtMost := ⟨_, _, ok_atmost F_atm n_int D_lfl, b_atm, m_atm, F_atm.kp⟩
  have D_lbn : Df l.prog w K mg base 3 "_law_bound" ["_law_root_here", "_law_factors_z"] (spLBnd K) := ⟨_, _, ok_lbnd F_lbn n_max n_sum n_abs (D_lper.mono (show 1 ≤ 2 by decide)), b_lbn, m_lbn, F_lbn.kp⟩
  have D_lkp : Df l.prog w K mg base 4 "_law_kept" ["_law_root_here", "_law_factors_z", "_law_u", "_law_v", "_law_place_z"] (spLKept K) := ⟨_, _, ok_lkept F_lkp D_ltl D_atm D_lbn, b_lkp, m_lkp, F_lkp.kp⟩
  have D_fac : Df l.prog w K mg base 3 "_law_factors" ["_law_bag_here", "_law_many"] spFactors := ⟨_, _, ok_lfac F_fac n_range D_of, b_fac, m_fac, F_fac.kp⟩
  have GI := ok_SInit (P := l.prog) (w := w) (base := base) FI T m_G D_isroot
  have kb : KBn K (PySem.W.fnOf "__init__" "Surd.__init__" (defArgs (sS 0)) (defBody (sS 0)) (defScope (sS 0)) (.ref T0) (.ref D0) dc27 pm27 an27 cd27 ct27) ["self", "root", "i", "j", "k"] 4 ["k"] (fun us ws => us ++ ws) (fun vs zs => vs ++ zs) := by
    obtain ⟨its, mv, kb⟩ := FI.kbinds (ps := ["self", "root", "i", "j", "k"]) 4 ["k"] [] (fun us _ _ ws => us ++ ws) (by simp) (by simp) (fun q hq => by cases hq) (fun r1 _ _ r4 => r1.append r4)
      (fun T D doc pm an cdv ct us its mv ws h1 h2 h3 h4 => match us, its, mv, ws, h1, h2, h3, h4 with | [_, _, _, _], [_], [], [_], _, _, _, _ => ⟨_, rfl, rfl⟩)
    exact kb
  have b4 := FI.binds (ps := ["self", "root", "i", "j", "k"]) 4 1 (by simp) rfl (fun T D doc pm an cdv ct us its ks h1 h2 h3 => match us, its, ks, h1, h2, h3 with | [_, _, _, _], [_], [_], _, _, _ => ⟨_, rfl, _, _, _, _, _, _, rfl, rfl, rfl⟩) (by simp)
  have b3 := FI.binds (ps := ["self", "root", "i", "j", "k"]) 3 0 (by simp) rfl (fun T D doc pm an cdv ct us its ks h1 h2 h3 => match us, its, ks, h1, h2, h3 with | [_, _, _], [_], [_], _, _, _ => ⟨_, rfl, _, _, _, _, _, _, rfl, rfl, rfl⟩) (by simp)
  have M : MkS l.prog w K mg base C 3 := ⟨_, _, ⟨mkC, a27, i27, kpC⟩, GI, kb, b4, b3⟩
  have Gsig : Mt l.prog w K mg base C 3 "sign" ["self"] (spSign C) := ⟨_, _, (ok_SSign (P := l.prog) (w := w) (base := base) (k := 2) F_sign T n_abs), ⟨a22, i22, F_sign.kp⟩, b_sign⟩
  have Gfin := ok_FInit (P := l.prog) (w := w) (base := base) F_finit TF m_P hPer D_isroot
  have P_frt : Pt l.prog w K mg base CF 1 "root" (spFRoot K CF) := ⟨pfrt, f24, _, ⟨atfrt, gefrt, tkfrt, rsfrt, a24⟩, ok_FRoot (k := 0) F_frt TF, b_frt⟩
  have P_fpe : Pt l.prog w K mg base CF 1 "period" (spFPer K CF) := ⟨pfpe, f25, _, ⟨atfpe, gefpe, tkfpe, rsfpe, a25⟩, ok_FPer (k := 0) F_fpe TF, b_fpe⟩
  have P_ftp : Pt l.prog w K mg base CF 1 "top" (spFTop K CF) := ⟨pftp, f26, _, ⟨atftp, geftp, tkftp, rsftp, a26⟩, ok_FTop (k := 0) F_ftp TF n_max, b_ftp⟩
  have D_bound : Df l.prog w K mg base 4 "_bound" ["field", "factors"] (spBnd K CF) := ⟨_, _, ok_bound F_bound TF n_sum n_abs (P_ftp.mono (show 1 ≤ 2 by decide)), b_bound, m_bound, F_bound.kp⟩
  have D_gap : Df l.prog w K mg base 4 "_gap" ["field", "pair", "place"] (spGap K CF) := ⟨_, _, ok_gap F_gap TF n_len m_T hTls (P_frt.mono (show 1 ≤ 2 by decide)) (P_fpe.mono (show 1 ≤ 2 by decide)), b_gap, m_gap, F_gap.kp⟩
  have G_kept := ok_kept (P := l.prog) (w := w) (base := base) (k := 2) F_kept TF T (P_frt.mono (show 1 ≤ 3 by decide)) M Gsig D_gap D_bound
  have kb_kept : KBn K (PySem.W.fnOf "is_kept" "is_kept" (defArgs (top 29)) (defBody (top 29)) (defScope (top 29)) .none kV4 dc4 pm4 an4 cd4 ct4) ["field", "factors", "pair", "place"] 0 ["pair", "place", "field", "factors"] (fun us ws => kord ws) (fun vs zs => kord zs) :=
    RF.Fun.kbn F_kept 0 ["pair", "place", "field", "factors"] (fun us ws => kord ws) (fun _ r2 => kord_rel r2) (fun kV doc pm an cdv ct us ws h1 h2 => match us, ws, h1, h2 with | [], [_, _, _, _], _, _ => rfl)
  exact ok_law F_law ⟨D_bag.mono (by decide), D_pull.mono (by decide), D_of.mono (by decide), D_root.mono (by decide), D_far.mono (by decide), D_same.mono (by decide), D_lfl.mono (by decide), D_ltl.mono (by decide), D_lbn.mono (by decide), D_lkp.mono (by decide), D_fac.mono (by decide),
    ⟨_, _, G_kept.mono (by decide), b_kept, m_kept, F_kept.kp⟩, ⟨_, _, _, G_kept.mono (by decide), kb_kept, m_kept, F_kept.kp⟩, TF, ⟨_, _, ⟨mkF, a23, i23, kpF⟩, Gfin.mono (by decide), b_finit⟩, n_range, n_tuple⟩
theorem walk {l : PySem.W.OpenLaw} {q : Program} {loose : List Str} {XP : (Str → Option Value) → Heap → Prop} {YP : World → Heap → Prop} {d : DefRec} {K : Params → PySem.W.Frag} (hn : l.most = some 63) (hdf : d.params.defaults = [])
    (hY : ∀ (w : World) (h : Heap), YP w h → (K w.params).In h)
    (F : ∀ (w : World) (mg : Str → Option Value) (fa : Addr) (h : Heap), (K w.params).In h → h.Ns mainGlobals mg → mg d.name = some (.ref fa) →
      ∃ fd : FuncData, (∀ (s : Shared) (u : Value), BindsTo s fd ⟨[u], []⟩ [("_law_script", u)]) ∧ ∀ base : Heap, (K w.params).In base → base.Ns mainGlobals mg → FnOk l.prog w (K w.params) mg base CX0 10 fa fd ["_law_script"] (spLaw (K w.params))) :
    PySem.W.WalkO q loose XP YP l.row.toRowW d [] (fun f vs => PySem.call f vs) :=
  L2.walk_of (n := 63) (k := 10) (x := "_law_script") (CX := fun _ => CX0) (sp := fun w => spLaw (K w.params)) hn (by decide) hdf ⟨rfl, by decide, by decide⟩ hY F (fun _ _ a ns hl _ hS => ⟨a, ns, rfl, hS, hl, fun _ => rfl⟩) fun _ _ _ _ _ z => z
end RF

open PySem PySem.W PyProof.Rows
set_option maxRecDepth 100000 in
set_option maxHeartbeats 0 in
theorem PySem.Challenge.cw_rootfloor_k10_pairs_that_are_kept_holds : PySem.Challenge.rw_rootfloor_k10_pairs_that_are_kept.Holds := by
  w_on; o_law; k_head; (case hw => w_witness2)
  k_fill
  refine RF.walk (l := PySem.Challenge.rw_rootfloor_k10_pairs_that_are_kept) rfl rfl (fun w h Y => PySem.W.kIn_of Y) ?F
  case F =>
    intro w mg fa h KX G hmg
    refine' RF.all_mk KX G hmg ?a1 ?l1 ?c1 ?k1 ?a2 ?l2 ?c2 ?k2 ?a3 ?l3 ?c3 ?k3 ?a4 ?l4 ?c4 ?k4 ?a5 ?l5 ?c5 ?k5 ?a6 ?l6 ?c6 ?k6 ?a7 ?l7 ?c7 ?k7 ?a8 ?l8 ?c8 ?k8 ?a9 ?l9 ?c9 ?k9 ?a10 ?l10 ?c10 ?k10 ?a11 ?l11 ?c11 ?k11 ?a12 ?l12 ?c12 ?k12 ?a13 ?l13 ?c13 ?k13 ?a14 ?l14 ?c14 ?k14 ?a15 ?l15 ?c15 ?k15 ?a16 ?l16 ?c16 ?k16 ?a17 ?l17 ?c17 ?k17 ?a18 ?l18 ?c18 ?k18 ?a19 ?l19 ?c19 ?k19 ?a20 ?l20 ?c20 ?k20 ?a21 ?l21 ?c21 ?k21 ?aC ?a22 ?i22 ?l22 ?c22 ?k22 ?aF ?a23 ?l23 ?c23 ?k23 ?i23 ?atfrt ?gefrt ?tkfrt ?a24 ?l24 ?c24 ?k24 ?atfpe ?gefpe ?tkfpe ?a25 ?l25 ?c25 ?k25 ?atftp ?geftp ?tkftp ?a26 ?l26 ?c26 ?k26 ?a27 ?i27 ?l27 ?c27 ?k27 ?lT ?dT ?kD ?pg ?hdC ?poC ?saC ?mkC ?kpC ?nRo ?nPa ?pgF ?hdF ?poF ?saF ?mkF ?kpF ?nRF ?nPF ?aP ?lP ?oP ?wP ?aT ?lTd ?oTd ?aG ?gp2 ?tlp2 ?tcp2 ?tdp2 ?gp3 ?tlp3 ?tcp3 ?tdp3 ?gp5 ?tlp5 ?tcp5 ?tdp5 ?gp6 ?tlp6 ?tcp6 ?tdp6 ?gp13 ?tlp13 ?tcp13 ?tdp13 ?gt2 ?tlt2 ?tct2 ?tdt2 ?tlt2_0 ?tct2_0 ?tdt2_0 ?gt3 ?tlt3 ?tct3 ?tdt3 ?tlt3_0 ?tct3_0 ?tdt3_0 ?tlt3_1 ?tct3_1 ?tdt3_1 ?gt5 ?tlt5 ?tct5 ?tdt5 ?tlt5_0 ?tct5_0 ?tdt5_0 ?gt6 ?tlt6 ?tct6 ?tdt6 ?tlt6_0 ?tct6_0 ?tdt6_0 ?tlt6_1 ?tct6_1 ?tdt6_1 ?gt13 ?tlt13 ?tct13 ?tdt13 ?tlt13_0 ?tct13_0 ?tdt13_0 ?z_list ?z_len ?z_abs ?z_int ?z_range ?z_isinstance ?z_bool ?z_str ?z_tuple ?z_all ?z_zip ?z_sum ?z_max
    (case a1 => k_is)
    (case l1 => k_is)
    (case c1 => k_is)
    (case k1 => k_is)
    (case a2 => k_is)
    (case l2 => k_is)
    (case c2 => k_is)
    (case k2 => k_is)
    (case a3 => k_is)
    (case l3 => k_is)
    (case c3 => k_is)
    (case k3 => k_is)
    (case a4 => k_is)
    (case l4 => k_is)
    (case c4 => k_is)
    (case k4 => k_is)
    (case a5 => k_is)
    (case l5 => k_is)
    (case c5 => k_is)
    (case k5 => k_is)
    (case a6 => k_is)
    (case l6 => k_is)
    (case c6 => k_is)
    (case k6 => k_is)
    (case a7 => k_is)
    (case l7 => k_is)
    (case c7 => k_is)
    (case k7 => k_is)
    (case a8 => k_is)
    (case l8 => k_is)
    (case c8 => k_is)
    (case k8 => k_is)
    (case a9 => k_is)
    (case l9 => k_is)
    (case c9 => k_is)
    (case k9 => k_is)
    (case a10 => k_is)
    (case l10 => k_is)
    (case c10 => k_is)
    (case k10 => k_is)
    (case a11 => k_is)
    (case l11 => k_is)
    (case c11 => k_is)
    (case k11 => k_is)
    (case a12 => k_is)
    (case l12 => k_is)
    (case c12 => k_is)
    (case k12 => k_is)
    (case a13 => k_is)
    (case l13 => k_is)
    (case c13 => k_is)
    (case k13 => k_is)
    (case a14 => k_is)
    (case l14 => k_is)
    (case c14 => k_is)
    (case k14 => k_is)
    (case a15 => k_is)
    (case l15 => k_is)
    (case c15 => k_is)
    (case k15 => k_is)
    (case a16 => k_is)
    (case l16 => k_is)
    (case c16 => k_is)
    (case k16 => k_is)
    (case a17 => k_is)
    (case l17 => k_is)
    (case c17 => k_is)
    (case k17 => k_is)
    (case a18 => k_is)
    (case l18 => k_is)
    (case c18 => k_is)
    (case k18 => k_is)
    (case a19 => k_is)
    (case l19 => k_is)
    (case c19 => k_is)
    (case k19 => k_is)
    (case a20 => k_is)
    (case l20 => k_is)
    (case c20 => k_is)
    (case k20 => k_is)
    (case a21 => k_is)
    (case l21 => k_is)
    (case c21 => k_is)
    (case k21 => k_is)
    (case aC => k_is)
    (case a22 => k_is)
    (case i22 => k_is)
    (case l22 => k_is)
    (case c22 => k_is)
    (case k22 => k_is)
    (case aF => k_is)
    (case a23 => k_is)
    (case l23 => k_is)
    (case c23 => k_is)
    (case k23 => k_is)
    (case i23 => k_is)
    (case atfrt => k_is)
    (case gefrt => k_is)
    (case tkfrt => k_is)
    (case a24 => k_is)
    (case l24 => k_is)
    (case c24 => k_is)
    (case k24 => k_is)
    (case atfpe => k_is)
    (case gefpe => k_is)
    (case tkfpe => k_is)
    (case a25 => k_is)
    (case l25 => k_is)
    (case c25 => k_is)
    (case k25 => k_is)
    (case atftp => k_is)
    (case geftp => k_is)
    (case tkftp => k_is)
    (case a26 => k_is)
    (case l26 => k_is)
    (case c26 => k_is)
    (case k26 => k_is)
    (case a27 => k_is)
    (case i27 => k_is)
    (case l27 => k_is)
    (case c27 => k_is)
    (case k27 => k_is)
    (case lT => k_is)
    (case dT => first | rfl | decide +kernel)
    (case kD => k_is)
    (case pg => k_is)
    (case hdC => k_is)
    (case poC => k_is)
    (case saC => k_is)
    (case mkC => k_is)
    (case kpC => k_is)
    (case nRo => k_is)
    (case nPa => k_is)
    (case pgF => k_is)
    (case hdF => k_is)
    (case poF => k_is)
    (case saF => k_is)
    (case mkF => k_is)
    (case kpF => k_is)
    (case nRF => k_is)
    (case nPF => k_is)
    (case aP => k_is)
    (case lP => k_is)
    (case oP => first | rfl | decide +kernel)
    (case wP => first | rfl | decide +kernel)
    (case aT => k_is)
    (case lTd => k_is)
    (case oTd => first | rfl | decide +kernel)
    (case aG => k_is)
    (case gp2 => first | rfl | decide +kernel)
    (case tlp2 => first | rfl | decide +kernel)
    (case tcp2 => first | rfl | decide +kernel)
    (case tdp2 => first | rfl | decide +kernel)
    (case gp3 => first | rfl | decide +kernel)
    (case tlp3 => first | rfl | decide +kernel)
    (case tcp3 => first | rfl | decide +kernel)
    (case tdp3 => first | rfl | decide +kernel)
    (case gp5 => first | rfl | decide +kernel)
    (case tlp5 => first | rfl | decide +kernel)
    (case tcp5 => first | rfl | decide +kernel)
    (case tdp5 => first | rfl | decide +kernel)
    (case gp6 => first | rfl | decide +kernel)
    (case tlp6 => first | rfl | decide +kernel)
    (case tcp6 => first | rfl | decide +kernel)
    (case tdp6 => first | rfl | decide +kernel)
    (case gp13 => first | rfl | decide +kernel)
    (case tlp13 => first | rfl | decide +kernel)
    (case tcp13 => first | rfl | decide +kernel)
    (case tdp13 => first | rfl | decide +kernel)
    (case gt2 => first | rfl | decide +kernel)
    (case tlt2 => first | rfl | decide +kernel)
    (case tct2 => first | rfl | decide +kernel)
    (case tdt2 => first | rfl | decide +kernel)
    (case tlt2_0 => first | rfl | decide +kernel)
    (case tct2_0 => first | rfl | decide +kernel)
    (case tdt2_0 => first | rfl | decide +kernel)
    (case gt3 => first | rfl | decide +kernel)
    (case tlt3 => first | rfl | decide +kernel)
    (case tct3 => first | rfl | decide +kernel)
    (case tdt3 => first | rfl | decide +kernel)
    (case tlt3_0 => first | rfl | decide +kernel)
    (case tct3_0 => first | rfl | decide +kernel)
    (case tdt3_0 => first | rfl | decide +kernel)
    (case tlt3_1 => first | rfl | decide +kernel)
    (case tct3_1 => first | rfl | decide +kernel)
    (case tdt3_1 => first | rfl | decide +kernel)
    (case gt5 => first | rfl | decide +kernel)
    (case tlt5 => first | rfl | decide +kernel)
    (case tct5 => first | rfl | decide +kernel)
    (case tdt5 => first | rfl | decide +kernel)
    (case tlt5_0 => first | rfl | decide +kernel)
    (case tct5_0 => first | rfl | decide +kernel)
    (case tdt5_0 => first | rfl | decide +kernel)
    (case gt6 => first | rfl | decide +kernel)
    (case tlt6 => first | rfl | decide +kernel)
    (case tct6 => first | rfl | decide +kernel)
    (case tdt6 => first | rfl | decide +kernel)
    (case tlt6_0 => first | rfl | decide +kernel)
    (case tct6_0 => first | rfl | decide +kernel)
    (case tdt6_0 => first | rfl | decide +kernel)
    (case tlt6_1 => first | rfl | decide +kernel)
    (case tct6_1 => first | rfl | decide +kernel)
    (case tdt6_1 => first | rfl | decide +kernel)
    (case gt13 => first | rfl | decide +kernel)
    (case tlt13 => first | rfl | decide +kernel)
    (case tct13 => first | rfl | decide +kernel)
    (case tdt13 => first | rfl | decide +kernel)
    (case tlt13_0 => first | rfl | decide +kernel)
    (case tct13_0 => first | rfl | decide +kernel)
    (case tdt13_0 => first | rfl | decide +kernel)
    (case z_list => k_is)
    (case z_len => k_is)
    (case z_abs => k_is)
    (case z_int => k_is)
    (case z_range => k_is)
    (case z_isinstance => k_is)
    (case z_bool => k_is)
    (case z_str => k_is)
    (case z_tuple => k_is)
    (case z_all => k_is)
    (case z_zip => k_is)
    (case z_sum => k_is)
    (case z_max => k_is)

