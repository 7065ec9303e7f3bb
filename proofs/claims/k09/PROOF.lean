import PyProof.Rows.All
import Wide.All
import OpenK.AllK
import Wide.FinOn
import HandS.ForMost
import HandS.Gcd
import HandS.Wide
import HandS.Codes
import HandS.IsInst
import HandS.Zip
import HandS.Walk
import HandS.MakeKwOnly
import HandS.Property
import KE.KOpsOwn
import KE.KMathG
import HandS.OwnEq
import HandS.ClsMeth
import Flt.RightSqrt
import HandS.WideBits
import HandS.Style
import PySem.Challenge.RW_rootfloor_k09_floors_by_digits
set_option Elab.async false
set_option maxRecDepth 100000
set_option maxHeartbeats 8000000
namespace RF
open PySem L2

/-- all that is tracked stays, but what stands at b -/
def Kp (b : Addr) (H H' : Hp) : Prop := ∀ a o, a ≠ b → H a = some o → H' a = some o
theorem Kp.refl (b : Addr) (H : Hp) : Kp b H H := fun _ _ _ e => e
theorem Kp.trans {b : Addr} {H H1 H2 : Hp} (x : Kp b H H1) (y : Kp b H1 H2) : Kp b H H2 := fun a o n e => y a o n (x a o n e)
theorem Kp.upd {b : Addr} {H : Hp} {o : HO} : Kp b H (upd H b o) := fun a u n e => by rw [upd_ne n]; exact e
theorem Kp.of {b : Addr} {H H' : Hp} (s : Same H H') : Kp b H H' := fun a o _ e => s a o e

/-- the bag of a script: its cells, how many are taken, what is left of a great one, the state of the draws -/
structure BagC (H : Hp) (b c : Addr) (ns : List Int) (i : Nat) (z r : Int) : Prop where
  ne : b ≠ c
  at_ : H b = some (.lst [.ref c, .int i, .int z, .int r])
  cs : H c = some (.lst (ns.map V.int))
  le : i ≤ ns.length
  z0 : 0 ≤ z
  r0 : 0 ≤ r
  r1 : r < 2147483647
def Bag (H : Hp) (b : Addr) : Prop := ∃ (c : Addr) (ns : List Int) (i : Nat) (z r : Int), BagC H b c ns i z r
theorem BagC.put {H : Hp} {b c : Addr} {ns : List Int} {i i' : Nat} {z r z' r' : Int} {o : HO} (B : BagC H b c ns i z r) (ho : o = .lst [.ref c, .int i', .int z', .int r']) (hi : i' ≤ ns.length) (hz : 0 ≤ z') (h0 : 0 ≤ r') (h1 : r' < 2147483647) :
    BagC (upd H b o) b c ns i' z' r' := ⟨B.ne, by rw [upd_same, ho], by rw [upd_ne (Ne.symm B.ne)]; exact B.cs, hi, hz, h0, h1⟩
theorem Bag.some {H : Hp} {b : Addr} (B : Bag H b) : ∃ xs, H b = some (.lst xs) := let ⟨_, _, _, _, _, e⟩ := B; ⟨_, e.at_⟩
theorem Bag.same {H H' : Hp} {b : Addr} (B : Bag H b) (s : Same H H') : Bag H' b := by
  obtain ⟨c, ns, i, z, r, h⟩ := B
  exact ⟨c, ns, i, z, r, h.ne, s _ _ h.at_, s _ _ h.cs, h.le, h.z0, h.r0, h.r1⟩
theorem emod_lo (a : Int) {b : Int} (h : 0 < b) : 0 ≤ a % b := Int.emod_nonneg _ (by omega)
theorem emod_hi (a : Int) {b : Int} (h : 0 < b) : a % b < b := Int.emod_lt_of_pos _ h

/-- a draw: some number below the sides; the bag stays one, nothing else changes -/
def spPull : Sp := fun vs H Q _ => ∃ (b : Addr) (k : Int), vs = [.ref b, .int k] ∧ Bag H b ∧ 0 < k ∧ k < 1073741824 ∧
  ∀ (d : Int) (H' : Hp), 0 ≤ d → d < k → Bag H' b → Kp b H H' → Q (.int d) H'
def spBag (K : PySem.W.Frag) : Sp := fun vs H Q _ => ∃ (a : Addr) (ns : List Int), vs = [.ref a] ∧ SqL K H a (ns.map V.int) ∧ ns.length ≤ 63 ∧
  ∀ (b : Addr) (H' : Hp), H b = none → Bag H' b → Same H H' → Q (.ref b) H'
/-- a new object -/
theorem sNew {H H1 : Hp} {p : Addr} {o : HO} (s : Same H H1) (h : H1 p = none) : Same H (upd H1 p o) := fun a u e => by
  rw [upd_ne (ne_of_none (s a u e) h)]
  exact s a u e
theorem ne_new {H : Hp} {p q : Addr} {o : HO} (h : upd H p o q = none) : q ≠ p := fun z => by
  rw [z, upd_same] at h
  cases h
theorem of_new {H : Hp} {p q : Addr} {o : HO} (h : upd H p o q = none) : H q = none := by
  rw [upd_ne (ne_new h)] at h
  exact h

/-! ### data: what a value tells, with the lists and tuples in it -/
inductive D where
  | non | bl (b : Bool) | int (i : Int) | str (x : Str) | lst (ds : List D) | tup (ds : List D)
mutual
def Rp (K : PySem.W.Frag) (H : Hp) : V → D → Prop
  | v, .non => v = .non
  | v, .bl b => v = .bl b
  | v, .int i => v = .int i
  | v, .str x => v = .str x
  | v, .lst ds => ∃ a xs, v = .ref a ∧ SqL K H a xs ∧ xs.length ≤ 100000 ∧ Rps K H xs ds
  | v, .tup ds => ∃ a xs, v = .ref a ∧ SqT K H a xs ∧ xs.length ≤ 100000 ∧ Rps K H xs ds
def Rps (K : PySem.W.Frag) (H : Hp) : List V → List D → Prop
  | xs, [] => xs = []
  | xs, d :: ds => ∃ x r, xs = x :: r ∧ Rp K H x d ∧ Rps K H r ds
end
mutual
def dep : D → Nat
  | .lst ds => depL ds + 1
  | .tup ds => depL ds + 1
  | _ => 0
def depL : List D → Nat
  | [] => 0
  | d :: ds => max (dep d) (depL ds)
end
theorem sameT {K : PySem.W.Frag} {H H' : Hp} {a : Addr} {xs : List V} (e : Same H H') (h : SqT K H a xs) : SqT K H' a xs := by
  rcases h with (h | ⟨o, h⟩) | h
  · exact .inl (.inl (e _ _ h))
  · exact .inl (.inr ⟨o, e _ _ h⟩)
  · exact .inr h
mutual
theorem Rp.same {K : PySem.W.Frag} {H H' : Hp} (e : Same H H') : ∀ {v : V} (d : D), Rp K H v d → Rp K H' v d
  | _, .non, h => h
  | _, .bl _, h => h
  | _, .int _, h => h
  | _, .str _, h => h
  | _, .lst ds, h => by
    obtain ⟨a, xs, h1, h2, h3, h4⟩ := h
    exact ⟨a, xs, h1, e.seq h2, h3, Rps.same e ds h4⟩
  | _, .tup ds, h => by
    obtain ⟨a, xs, h1, h2, h3, h4⟩ := h
    exact ⟨a, xs, h1, sameT e h2, h3, Rps.same e ds h4⟩
theorem Rps.same {K : PySem.W.Frag} {H H' : Hp} (e : Same H H') : ∀ {xs : List V} (ds : List D), Rps K H xs ds → Rps K H' xs ds
  | _, [], h => h
  | _, d :: ds, h => by
    obtain ⟨x, r, h1, h2, h3⟩ := h
    exact ⟨x, r, h1, Rp.same e d h2, Rps.same e ds h3⟩
end
theorem Rps.len {K : PySem.W.Frag} {H : Hp} : ∀ {xs : List V} {ds : List D}, Rps K H xs ds → xs.length = ds.length
  | _, [], h => by rw [show _ = [] from h]; rfl
  | _, d :: ds, h => by
    obtain ⟨x, r, rfl, _, h3⟩ := h
    rw [List.length_cons, List.length_cons, Rps.len h3]
theorem Rps.at_ {K : PySem.W.Frag} {H : Hp} : ∀ {xs : List V} {ds : List D} {i : Nat} {x : V}, Rps K H xs ds → xs[i]? = some x → ∃ d, ds[i]? = some d ∧ Rp K H x d
  | _, [], i, x, h, e => by rw [show _ = [] from h] at e; simp at e
  | _, d :: ds, 0, x, h, e => by
    obtain ⟨y, r, rfl, h2, _⟩ := h
    cases e
    exact ⟨d, rfl, h2⟩
  | _, d :: ds, i + 1, x, h, e => by
    obtain ⟨y, r, rfl, _, h3⟩ := h
    obtain ⟨d', e1, e2⟩ := Rps.at_ (i := i) h3 e
    exact ⟨d', e1, e2⟩
theorem dep_mem : ∀ {ds : List D} {i : Nat} {d : D}, ds[i]? = some d → dep d ≤ depL ds
  | [], _, _, e => by simp at e
  | c :: ds, 0, d, e => by cases e; exact Nat.le_max_left ..
  | c :: ds, i + 1, d, e => Nat.le_trans (dep_mem (i := i) e) (Nat.le_max_right ..)

/-- the class of a datum's value -/
def tyD : D → String
  | .non => "NoneType" | .bl _ => "bool" | .int _ => "int" | .str _ => "str" | .lst _ => "list" | .tup _ => "tuple"
theorem tyL {K : PySem.W.Frag} {H : Hp} {a : Addr} {xs : List V} (h : SqL K H a xs) : TyX K H (.ref a) (.type "list") := by
  rcases h with (h | ⟨o, h⟩) | ⟨o, its, n, h, c, _⟩
  · exact .base (.lst h)
  · exact .base (.frz h)
  · exact .kList h c
theorem tyT {K : PySem.W.Frag} {H : Hp} {a : Addr} {xs : List V} (h : SqT K H a xs) : TyX K H (.ref a) (.type "tuple") := by
  rcases h with (h | ⟨o, h⟩) | ⟨o, its, n, h, c, _⟩
  · exact .base (.tup h)
  · exact .fTuple h
  · exact .kTuple h c
theorem tyX {K : PySem.W.Frag} {H : Hp} : ∀ {v : V} (d : D), Rp K H v d → TyX K H v (.type (tyD d))
  | _, .non, h => by rw [show _ = V.non from h]; exact .base .non
  | _, .bl _, h => by rw [show _ = V.bl _ from h]; exact .base (.bl _)
  | _, .int _, h => by rw [show _ = V.int _ from h]; exact .base (.int _)
  | _, .str _, h => by rw [show _ = V.str _ from h]; exact .base (.str _)
  | _, .lst ds, h => by obtain ⟨a, xs, rfl, h2, _⟩ := h; exact tyL h2
  | _, .tup ds, h => by obtain ⟨a, xs, rfl, h2, _⟩ := h; exact tyT h2

/-! ### a def that others call -/
structure Df (P : Program) (w : World) (K : PySem.W.Frag) (mg : Str → Option Value) (base : Heap) (k : Nat) (x : Str) (ps : List Str) (sp : Sp) : Prop where
  ex : ∃ (f : Addr) (fd : FuncData), FnOk P w K mg base CX0 k f fd ps sp ∧ Binds K fd ps [] ∧ mg x = some (.ref f) ∧ PySem.W.keepIn K (.ref f) = true
theorem fn_false {P : Program} {w : World} {K : PySem.W.Frag} {mg : Str → Option Value} {base : Heap} {CX : CXT} {k : Nat} {f : Addr} {fd : FuncData} {ps : List Str} : FnOk P w K mg base CX k f fd ps (fun _ _ _ _ => False) :=
  ⟨fun _ _ _ _ h => h.elim, fun _ _ _ _ _ _ _ _ _ _ _ _ _ h => h.elim⟩
theorem pe_callD {X : Cx} {j k : Nat} {x : Str} {ps : List Str} {sp : Sp} {p pos : Pos} {e : Expr} {es : List Expr} {t : TA} (F : Df X.prog X.w X.K X.mg X.base k x ps sp) (hr : Room j X.A) (hk : k ≤ j) (ha : PA X (e :: es) t)
    (hg : Gl X x := by rfl) (hdb : (x == ("__debug__" : Str)) = false := by decide)
    (he : starEach (e :: es) X.env = (false, eval e X.env) :: starEach es X.env := by rfl) (hpl : (backTo pos (starEach es X.env)).any (·.1) = false := by rfl) :
    PE X (.Call (.Name x p) (e :: es) [] pos) (tCall sp [] E0 t) := by
  obtain ⟨f, fd, G, b, m, kp⟩ := F.ex
  exact pe_call G (hr.mono hk) hg m kp b .nil pass0 ha hdb he hpl
/-- zip of two tuples -/
theorem walk_zipT {K : PySem.W.Frag} {a b : Addr} {xs ys : List V} {n : Nat} (hn : n = min xs.length ys.length) : Walk (RZ.ItzT K a b) n (fun H => SqT K H a xs ∧ SqT K H b ys) (YPair (fun i => xs[i]?) (fun i => ys[i]?)) := by
  subst hn
  refine ⟨fun i _ hi q => ?_, fun _ q => ⟨xs, ys, q.1, q.2, by omega⟩, fun i H v H' _ q y => ?_⟩
  · have h1 : i < xs.length := by omega
    have h2 : i < ys.length := by omega
    exact ⟨xs, ys, xs[i], ys[i], q.1, q.2, by simp [h1], by simp [h2]⟩
  · obtain ⟨T, x, z, h1, h2, h3, h4, h5⟩ := y
    exact ⟨T, x, z, h1, h2, h3, h4 xs q.1, h5 ys q.2⟩

/-- one datum, told twice: the law's own comparison gives True -/
def spSame (K : PySem.W.Frag) (n : Nat) : Sp := fun vs H Q _ => ∃ (v u : V) (d : D), vs = [v, u] ∧ Rp K H v d ∧ Rp K H u d ∧ dep d ≤ n ∧ ∀ H', Same H H' → Q (.bl true) H'
def spSameL (K : PySem.W.Frag) : Nat → Sp
  | 0 => fun _ _ _ _ => False
  | n + 1 => spSame K n
def spOf (K : PySem.W.Frag) : Sp := fun vs H Q _ => ∃ (b a : Addr) (xs : List V), vs = [.ref b, .ref a] ∧ Bag H b ∧ SqL K H a xs ∧ a ≠ b ∧ 0 < xs.length ∧ xs.length < 1000000 ∧
  ∀ (v : V) (H' : Hp), v ∈ xs → Bag H' b → Kp b H H' → Q v H'
def spRoot : Sp := fun vs H Q _ => ∃ (b : Addr), vs = [.ref b] ∧ Bag H b ∧ ∀ (d : Int) (H' : Hp), d = 2 ∨ d = 3 ∨ d = 5 ∨ d = 6 ∨ d = 13 → Bag H' b → Kp b H H' → Q (.int d) H'
def spFar : Sp := fun vs H Q _ => ∃ (b : Addr) (k : Int), vs = [.ref b, .int k] ∧ Bag H b ∧ 0 < k ∧ k ≤ 1000 ∧ ∀ (n : Int) (H' : Hp), 0 ≤ n → n < 10 ^ k.toNat → Bag H' b → Kp b H H' → Q (.int n) H'
theorem Kp.seq {K : PySem.W.Frag} {b a : Addr} {H H' : Hp} {xs : List V} (k : Kp b H H') (n : a ≠ b) (h : SqL K H a xs) : SqL K H' a xs := by
  rcases h with (h | ⟨o, h⟩) | h
  · exact .inl (.inl (k _ _ n h))
  · exact .inl (.inr ⟨o, k _ _ n h⟩)
  · exact .inr h

theorem iteP {c A B : Prop} [Decidable c] (hc : c) (h : A) : if c then A else B := by
  rw [if_pos hc]
  exact h
theorem iteN {c A B : Prop} [Decidable c] (hc : ¬ c) (h : B) : if c then A else B := by
  rw [if_neg hc]
  exact h
theorem nd_of {p : Prop} [Decidable p] (h : ¬ p) : ¬ decide p = true := fun z => h (of_decide_eq_true z)
theorem eqT {x : V} {Q : VK} {H : Hp} (h : Q (.bl true) H) : Q (.bl (decide (x = x))) H := by
  rw [decide_eq_true rfl]
  exact h
def isBool : D → Bool
  | .bl _ => true
  | _ => false
theorem kb_NoneType_bool : kitB "NoneType" "bool" = some false := by decide +kernel
theorem kb_bool_bool : kitB "bool" "bool" = some true := by decide +kernel
theorem kb_int_bool : kitB "int" "bool" = some false := by decide +kernel
theorem kb_str_bool : kitB "str" "bool" = some false := by decide +kernel
theorem kb_list_bool : kitB "list" "bool" = some false := by decide +kernel
theorem kb_tuple_bool : kitB "tuple" "bool" = some false := by decide +kernel
theorem kit_bool : ∀ d : D, kitB (tyD d) "bool" = some (isBool d)
  | .non => kb_NoneType_bool
  | .bl _ => kb_bool_bool
  | .int _ => kb_int_bool
  | .str _ => kb_str_bool
  | .lst _ => kb_list_bool
  | .tup _ => kb_tuple_bool
def isInt : D → Bool
  | .bl _ => true
  | .int _ => true
  | _ => false
theorem kb_NoneType_int : kitB "NoneType" "int" = some false := by decide +kernel
theorem kb_bool_int : kitB "bool" "int" = some true := by decide +kernel
theorem kb_int_int : kitB "int" "int" = some true := by decide +kernel
theorem kb_str_int : kitB "str" "int" = some false := by decide +kernel
theorem kb_list_int : kitB "list" "int" = some false := by decide +kernel
theorem kb_tuple_int : kitB "tuple" "int" = some false := by decide +kernel
theorem kit_int : ∀ d : D, kitB (tyD d) "int" = some (isInt d)
  | .non => kb_NoneType_int
  | .bl _ => kb_bool_int
  | .int _ => kb_int_int
  | .str _ => kb_str_int
  | .lst _ => kb_list_int
  | .tup _ => kb_tuple_int
def isStr : D → Bool
  | .str _ => true
  | _ => false
theorem kb_NoneType_str : kitB "NoneType" "str" = some false := by decide +kernel
theorem kb_bool_str : kitB "bool" "str" = some false := by decide +kernel
theorem kb_int_str : kitB "int" "str" = some false := by decide +kernel
theorem kb_str_str : kitB "str" "str" = some true := by decide +kernel
theorem kb_list_str : kitB "list" "str" = some false := by decide +kernel
theorem kb_tuple_str : kitB "tuple" "str" = some false := by decide +kernel
theorem kit_str : ∀ d : D, kitB (tyD d) "str" = some (isStr d)
  | .non => kb_NoneType_str
  | .bl _ => kb_bool_str
  | .int _ => kb_int_str
  | .str _ => kb_str_str
  | .lst _ => kb_list_str
  | .tup _ => kb_tuple_str
def isLst : D → Bool
  | .lst _ => true
  | _ => false
theorem kb_NoneType_list : kitB "NoneType" "list" = some false := by decide +kernel
theorem kb_bool_list : kitB "bool" "list" = some false := by decide +kernel
theorem kb_int_list : kitB "int" "list" = some false := by decide +kernel
theorem kb_str_list : kitB "str" "list" = some false := by decide +kernel
theorem kb_list_list : kitB "list" "list" = some true := by decide +kernel
theorem kb_tuple_list : kitB "tuple" "list" = some false := by decide +kernel
theorem kit_list : ∀ d : D, kitB (tyD d) "list" = some (isLst d)
  | .non => kb_NoneType_list
  | .bl _ => kb_bool_list
  | .int _ => kb_int_list
  | .str _ => kb_str_list
  | .lst _ => kb_list_list
  | .tup _ => kb_tuple_list
def isTup : D → Bool
  | .tup _ => true
  | _ => false
theorem kb_NoneType_tuple : kitB "NoneType" "tuple" = some false := by decide +kernel
theorem kb_bool_tuple : kitB "bool" "tuple" = some false := by decide +kernel
theorem kb_int_tuple : kitB "int" "tuple" = some false := by decide +kernel
theorem kb_str_tuple : kitB "str" "tuple" = some false := by decide +kernel
theorem kb_list_tuple : kitB "list" "tuple" = some false := by decide +kernel
theorem kb_tuple_tuple : kitB "tuple" "tuple" = some true := by decide +kernel
theorem kit_tuple : ∀ d : D, kitB (tyD d) "tuple" = some (isTup d)
  | .non => kb_NoneType_tuple
  | .bl _ => kb_bool_tuple
  | .int _ => kb_int_tuple
  | .str _ => kb_str_tuple
  | .lst _ => kb_list_tuple
  | .tup _ => kb_tuple_tuple
theorem kit_lt {K : PySem.W.Frag} (d : D) : PySem.W.kitAny K (.type (tyD d)) [.type "list", .type "tuple"] = some (isLst d || isTup d) := by
  refine kitAny_cons (kit_ty (kit_list d)) (fun e => ?_) (fun e => by rw [e]; rfl)
  rw [e, Bool.false_or]
  exact kitAny_cons (kit_ty (kit_tuple d)) (fun e => by rw [e]; rfl) (fun e => e)
structure TSm (mg : Str → Option Value) : Prop where
  isinstance : mg "isinstance" = none
  bool : mg "bool" = none
  int : mg "int" = none
  str : mg "str" = none
  list : mg "list" = none
  tuple : mg "tuple" = none
  len : mg "len" = none
  all : mg "all" = none
  zip : mg "zip" = none
theorem yes_if {σ : St} {H : Hp} {A B : Hp → Prop} (h : A H) : tYes σ H (fun b H3 => if b = true then A H3 else B H3) := by
  show (if true = true then A H else B H)
  rw [if_pos rfl]
  exact h
end RF

namespace RF
open PySem L2
/-! ### built-in functions of math -/
theorem args_gcd3 (a b c : Value) : argsOk "math.gcd" ⟨[a, b, c], []⟩ := by
  unfold argsOk
  kernel_rfl
theorem run_gcd3 (a : Int) (t : Tok) (b : Int) (u : Tok) (c : Int) (v : Tok) :
    Gives (Builtin.«math.gcd» ⟨[.int a t, .int b u, .int c v], []⟩) (.int (((((Nat.gcd 0 a.natAbs).gcd b.natAbs).gcd c.natAbs : Nat) : Int))) :=
  .of_wp fun M A E s Q h => by
    obtain ⟨hp, g, d, tk, os⟩ := s
    wp_walk
    exact ⟨_, rfl, h⟩

section
variable {X : Cx}
theorem vals3 {x y z : V} {us : List Value} (r : Vals [x, y, z] us) : ∃ u v w, us = [u, v, w] ∧ RelV x u ∧ RelV y v ∧ RelV z w := by
  cases r with
  | cons a r => cases r with
    | cons b r => cases r with
      | cons c r => cases r; exact ⟨_, _, _, rfl, a, b, c⟩
def rGcd3 : List V → Hp → VK → Prop := fun vs H Q => ∃ a b c : Int, vs = [.int a, .int b, .int c] ∧ Q (.int ((Nat.gcd (Nat.gcd a.natAbs b.natAbs) c.natAbs : Nat) : Int)) H
theorem cr_gcd3 : CallR X (.builtin "math.gcd") rGcd3 := by
  intro pins s σ H vs us Q I r h
  obtain ⟨a, b, c, rfl, q⟩ := h
  obtain ⟨u1, u2, u3, rfl, ⟨t1, rfl⟩, ⟨t2, rfl⟩, ⟨t3, rfl⟩⟩ := vals3 r
  have g := run_gcd3 a t1 b t2 c t3
  rw [Nat.gcd_zero_left] at g
  exact call_function_meets PySem.W.MGF.kind_gcd PySem.W.MGF.plain_gcd PySem.W.MGF.entry_gcd (args_gcd3 _ _ _) g.meets (show EP X pins σ Q _ _ from ⟨.int _, H, I.tok _, ⟨_, rfl⟩, q⟩)
def rIsqrt : List V → Hp → VK → Prop := fun vs H Q => ∃ a : Int, vs = [.int a] ∧ 0 ≤ a ∧ a.toNat.log2 < 13000 ∧ Q (.int ((Float64.isqrt a.toNat : Nat) : Int)) H
theorem cr_isqrt : CallR X (.builtin "math.isqrt") rIsqrt := by
  intro pins s σ H vs us Q I r h
  obtain ⟨a, rfl, h0, h1, q⟩ := h
  obtain ⟨u, rfl, t, rfl⟩ := vals1 r
  exact call_function_meets PySem.W.MGF.kind_isqrt PySem.W.MGF.plain_isqrt PySem.W.MGF.entry_isqrt (PySem.W.MGF.args_isqrt _) (PySem.W.mg_run_isqrt a t (by omega) (by omega) (by omega)).meets
    (show EP X pins σ Q _ _ from ⟨.int _, H, I.tok _, ⟨_, rfl⟩, q⟩)

/-! ### operators of an own class -/
/-- C has the operator as the def at f -/
structure OwnOp (K : PySem.W.Frag) (C f : Addr) (m : Str) : Prop where
  first : PySem.W.selfFirst K C = true
  at_ : PySem.W.findIn K (.ref C) m = some (some (.ref f))
  fn : PySem.W.isFn K (.ref f) = true
def rOwn2 (C : Addr) (sp : Sp) (E : XK) : R2 := fun x y H Q => ∃ a b dx dy fs gs, x = .ref a ∧ y = .ref b ∧ H a = some (.ins C dx fs) ∧ H b = some (.ins C dy gs) ∧ sp [.ref a, .ref b] H Q E
theorem notImpl {v : V} {u : Value} {P : Value → Shared → Prop} {s : Shared} (r : RelV v u) (h : P u s) : PySem.W.CmpBack P u s := by
  cases v with
  | non => cases r; exact h
  | bl _ => cases r; exact h
  | int _ => obtain ⟨t, rfl⟩ := r; exact h
  | str _ => obtain ⟨t, rfl⟩ := r; exact h
  | byt _ => obtain ⟨t, rfl⟩ := r; exact h
  | flt _ => obtain ⟨t, rfl⟩ := r; exact h
  | ref _ => cases r; exact h
  | ty _ => cases r; exact h
theorem op_own {CX : CXT} {op : Operator} {n : Nat} {C f : Addr} {sp : Sp} {E : XK} (F : FnR X.prog X.w X.K X.mg X.base CX n f sp) (hr : Room n X.A) (O : OwnOp X.K C f (PySem.dunder op.info.2)) (hx : Passes CX X E) : OpR X (binaryOp op) (rOwn2 C sp E) := by
  intro pins s σ H x y v u Q I rx ry h
  obtain ⟨a, b, dx, dy, fs, gs, rfl, rfl, ha, hb, q⟩ := h
  cases rx
  cases ry
  obtain ⟨mA, J, _⟩ := ins_get I.hok ha
  obtain ⟨mB, J', _⟩ := ins_get I.hok hb
  obtain ⟨od, J, _⟩ := J.look
  obtain ⟨od', J', _⟩ := J'.look
  obtain ⟨m, hF⟩ := I.fr
  refine PySem.W.binop_K hF I.ok.mod.kin J J'.type O.first O.at_ O.fn (wpAny_mono (wpAny_call (run_fnR (us := [.ref a, .ref b]) (vs := [.ref a, .ref b]) F hr hx I (.cons rfl (.cons rfl .nil)) q)) (fun r s' z => ?_) fun _ _ z => z)
  obtain ⟨v, H', I', rv, q'⟩ := id z
  exact notImpl rv z
def rOwn1 (C : Addr) (sp : Sp) (E : XK) : V → Hp → VK → Prop := fun x H Q => ∃ a dx fs, x = .ref a ∧ H a = some (.ins C dx fs) ∧ sp [.ref a] H Q E
theorem un_own_neg {CX : CXT} {n : Nat} {C f : Addr} {sp : Sp} {E : XK} (F : FnR X.prog X.w X.K X.mg X.base CX n f sp) (hr : Room n X.A) (O : OwnOp X.K C f "__neg__") (hx : Passes CX X E) : UnR X (unaryOp .USub) (rOwn1 C sp E) := by
  intro pins s σ H x v Q I rx h
  obtain ⟨a, dx, fs, rfl, ha, q⟩ := h
  cases rx
  obtain ⟨mA, J, _⟩ := ins_get I.hok ha
  obtain ⟨od, J, _⟩ := J.look
  obtain ⟨m, hF⟩ := I.fr
  exact PySem.W.ksp_neg hF I.ok.mod.kin J O.at_ O.fn (wpAny_call (run_fnR (us := [.ref a]) (vs := [.ref a]) F hr hx I (.cons rfl .nil) q))
/-- bool(x) of an instance with its own truth -/
def rOwnB (C : Addr) (sp : Sp) (E : XK) : List V → Hp → VK → Prop := fun vs H Q => ∃ a dx fs, vs = [.ref a] ∧ H a = some (.ins C dx fs) ∧ sp [.ref a] H (fun v H' => ∃ b, v = .bl b ∧ Q (.bl b) H') E
theorem tru_of {M : Model} {A : Around} {x : Value} {s : Shared} {Q0 Q : Bool → Shared → Prop} {E : Value → Shared → Prop} (hs : wpAny M A (truthy x) Q0 E s) (h : ∀ b s', Q0 b s' → Q b s') : wpAny M A (truthy x) Q E s := wpAny_mono hs h fun _ _ z => z
theorem new_bool_own (prog : Program) (w : World) (a : Addr) : MeetsIn prog w (Builtin.«bool.__new__» ⟨[.type "bool", .ref a], []⟩)
    (fun A R s => wpAny (model prog w) A.in1 (truthy (.ref a)) (fun b s' => R (.ok (.ret (.bool b))) s') (fun e s' => R (.error e) s') s) :=
  .of_wp fun A R s hs => by
    have f1 := F.conv_sub_bool
    obtain ⟨hp, g, d, tk, os⟩ := s
    repeat (any_goals (first | assumption | (with_reducible refine tru_of hs (fun b s' hq => ?_)) | wp_step))
    all_goals exact ⟨_, rfl, hq⟩
theorem call_bool_own {CX : CXT} {n : Nat} {C f : Addr} {sp : Sp} {E : XK} (G : FnR X.prog X.w X.K X.mg X.base CX n f sp) (hr : Room (n + 2) X.A) (hat : PySem.W.findIn X.K (.ref C) "__bool__" = some (some (.ref f))) (hfn : PySem.W.isFn X.K (.ref f) = true)
    (hx : Passes CX X E) : CallR X (.type "bool") (rOwnB C sp E) := by
  intro pins s σ H xs us Q I r h
  obtain ⟨a, dx, fs, rfl, ha, q⟩ := h
  obtain ⟨u, rfl, r1⟩ := vals1 r
  cases r1
  obtain ⟨mA, J, _⟩ := ins_get I.hok ha
  obtain ⟨od, J, _⟩ := J.look
  obtain ⟨m, hF⟩ := I.fr
  refine PySem.callType_newIn PySem.F.called_bool PySem.F.newNe_bool (PySem.F.typeCall_bool_1 _) (PySem.F.newCall_bool_1 _) (fun obj => PySem.F.args_object_init_2 obj _) PySem.F.entry_bool_new (new_bool_own X.prog X.w a) ?_
  refine PySem.W.truthy_K hF I.ok.mod.kin J hat hfn ?_
  refine wpAny_call (codeAny_mono (G _ X.stack s H [.ref a] [.ref a] _ E hr.in1.in1 I.env0.in1.in1 (.cons rfl .nil) q) fun r s' hq => ?_)
  cases r with
  | error e => exact hx pins σ H s e s' I hq
  | ok fl =>
    cases fl with
    | ret u =>
      obtain ⟨v, H', I', rv, b, rfl, q'⟩ := I.after hq
      cases rv
      exact ⟨rfl, .bl b, H', I', rfl, q'⟩
    | next => exact False.elim hq
    | brk => exact False.elim hq
    | cont => exact False.elim hq
/-- C.m is a staticmethod: its record at p, its def at g -/
structure SMet (K : PySem.W.Frag) (C : Addr) (mc : Value) (m : Str) (p g : Addr) : Prop where
  at_ : PySem.W.findCls K (.ref C) mc m = some (.get (.builtin "staticmethod.__get__") (.ref p) .none (.ref C))
  rc : ∃ rest, PySem.W.recIn K p "staticmethod" = some (.ref g :: rest)
  kp : PySem.W.keepIn K (.ref g) = true
def tSMeth (C : Addr) (sp : Sp) (E : XK) (ta : TE) (t : TA) : TE := fun σ H Q => ta σ H fun x H1 => x = .ref C ∧ t σ H1 fun vs H2 => sp vs H2 Q E
theorem pe_smeth {CX : CXT} {k : Nat} {C p g : Addr} {mc : Value} {sp : Sp} {E : XK} {o e : Expr} {es : List Expr} {m : Str} {pos apos : Pos} {ta : TE} {t : TA} {pl : Sem Bool} (he : PE X o ta) (r : ClX.CRead X.K C mc) (c : SMet X.K C mc m p g)
    (F : FnR X.prog X.w X.K X.mg X.base CX k g sp) (hr : Room k X.A) (hx : Passes CX X E) (ha : PA X (e :: es) t)
    (hst : starEach (e :: es) X.env = (false, eval e X.env) :: starEach es X.env := by rfl) (hpl : (backTo pos (starEach es X.env)).any (·.1) = false := by rfl)
    (ht : eval (.Call (.Attribute o m apos) (e :: es) [] pos) X.env = (do
      let ov ← eval o X.env
      standAt apos.atName
      let (f, first) ← holding [ov] (getMethod ov m pl)
      callWith pos f first (backTo pos (starEach (e :: es) X.env)) (backToKw pos (keywordEach [] X.env))) := by rfl) :
    PE X (.Call (.Attribute o m apos) (e :: es) [] pos) (tSMeth C sp E ta t) := by
  refine ⟨fun pins s σ H Q I h => ?_⟩
  refine PySem.W.methodCall_KW (pl := pl) (thn (he.run pins s σ H _ I h) fun u s1 ⟨x, H1, I1, rx, ex, q⟩ => ?_) ht
  subst ex
  obtain rfl : u = Value.ref C := rx
  obtain ⟨rest, hp⟩ := c.rc
  refine PySem.W.method_cls I1.kIn r.ga (PySem.W.cls_bind I1.kIn r.rd c.at_ (wpAny_call (PySem.W.sm_get (s := { s1 with toks := s1.toks + 1 }) I1.kIn hp (PySem.W.handed_on rfl ?_))))
  have I2 := I1.tok (s1.toks + 1)
  refine PySem.W.callWith_K (h₀ := X.base) I.ok.mod.kin c.kp (thn (ha.run pos pins _ σ H1 _ I2 q) fun us s3 ⟨vs, H2, I3, rv, q2⟩ => ⟨I3.kIn, ?_⟩) hst hpl
  exact wpAny_call (run_fnR F hr hx I3 rv q2)
end
end RF

namespace RF
theorem sq_nonneg (a : Int) : 0 ≤ a * a := by
  rcases Int.le_total 0 a with h | h
  · exact Int.mul_nonneg h h
  · exact Int.mul_nonneg_of_nonpos_of_nonpos h h
theorem sq_le {a b : Int} (ha : 0 ≤ a) (h : a ≤ b) : a * a ≤ b * b := Int.mul_le_mul h h ha (by omega)
theorem sq_lt {a b : Int} (ha : 0 ≤ a) (h : a < b) : a * a < b * b := by
  have h1 : a * a ≤ a * b := Int.mul_le_mul_of_nonneg_left (by omega) ha
  have h2 : a * b < b * b := Int.mul_lt_mul_of_pos_right h (by omega)
  omega
theorem le_of_sq {a b : Int} (hb : 0 ≤ b) (h : a * a ≤ b * b) : a ≤ b := by
  rcases Int.lt_or_le b a with z | z
  · have := sq_lt hb z
    omega
  · exact z
theorem lt_of_sq {a b : Int} (hb : 0 ≤ b) (h : a * a < b * b) : a < b := by
  rcases Int.lt_or_le a b with z | z
  · exact z
  · have := sq_le hb z
    omega
/-! ### square roots of integers -/
def rt (n : Int) : Int := ((PySem.Float64.isqrt n.toNat : Nat) : Int)
theorem rt_nn (n : Int) : 0 ≤ rt n := Int.natCast_nonneg _
theorem rt_le {n : Int} (h : 0 ≤ n) : rt n * rt n ≤ n := by
  have := (PySem.Float64.isqrt_spec n.toNat).1
  have e : ((PySem.Float64.isqrt n.toNat * PySem.Float64.isqrt n.toNat : Nat) : Int) ≤ ((n.toNat : Nat) : Int) := Int.ofNat_le.mpr this
  rw [Int.natCast_mul] at e
  unfold rt
  omega
theorem rt_lt {n : Int} (h : 0 ≤ n) : n < (rt n + 1) * (rt n + 1) := by
  have := (PySem.Float64.isqrt_spec n.toNat).2
  have e : ((n.toNat : Nat) : Int) < (((PySem.Float64.isqrt n.toNat + 1) * (PySem.Float64.isqrt n.toNat + 1) : Nat) : Int) := Int.ofNat_lt.mpr this
  rw [Int.natCast_mul, Int.natCast_add] at e
  unfold rt
  have e2 : ((n.toNat : Nat) : Int) = n := by omega
  rw [e2] at e
  exact e
theorem rt_uniq {n r : Int} (h : 0 ≤ n) (r0 : 0 ≤ r) (r1 : r * r ≤ n) (r2 : n < (r + 1) * (r + 1)) : r = rt n := by
  have a := rt_le h
  have b := rt_lt h
  have c := rt_nn n
  have h1 : r < rt n + 1 := lt_of_sq (by omega) (by omega)
  have h2 : rt n < r + 1 := lt_of_sq (by omega) (by omega)
  omega
/-! ### the roots -/
def Root (d : Int) : Prop := d = 2 ∨ d = 3 ∨ d = 5 ∨ d = 6 ∨ d = 13
theorem Root.pos {d : Int} (h : Root d) : 0 < d := by unfold Root at h; omega
theorem Root.le {d : Int} (h : Root d) : d ≤ 13 := by unfold Root at h; omega
theorem ex_mul (i : Int) {p : Int} (h : i % p = 0) : ∃ t, i = p * t := ⟨i / p, by
  have := Int.mul_ediv_add_emod i p
  rw [h] at this
  omega⟩
theorem dvd2 {i c : Int} (h : i * i = 2 * c) : ∃ t, i = 2 * t := ex_mul i (by
  have e : (i * i) % 2 = 0 := by omega
  rw [Int.mul_emod] at e
  have : i % 2 = 0 ∨ i % 2 = 1 := by omega
  rcases this with z | z
  · exact z
  · rw [z] at e; simp at e)
theorem dvd3 {i c : Int} (h : i * i = 3 * c) : ∃ t, i = 3 * t := ex_mul i (by
  have e : (i * i) % 3 = 0 := by omega
  rw [Int.mul_emod] at e
  have : i % 3 = 0 ∨ i % 3 = 1 ∨ i % 3 = 2 := by omega
  rcases this with z | z | z
  · exact z
  · rw [z] at e; simp at e
  · rw [z] at e; simp at e)
theorem dvd5 {i c : Int} (h : i * i = 5 * c) : ∃ t, i = 5 * t := ex_mul i (by
  have e : (i * i) % 5 = 0 := by omega
  rw [Int.mul_emod] at e
  have : i % 5 = 0 ∨ i % 5 = 1 ∨ i % 5 = 2 ∨ i % 5 = 3 ∨ i % 5 = 4 := by omega
  rcases this with z | z | z | z | z
  · exact z
  all_goals (rw [z] at e; simp at e))
theorem dvd13 {i c : Int} (h : i * i = 13 * c) : ∃ t, i = 13 * t := ex_mul i (by
  have e : (i * i) % 13 = 0 := by omega
  rw [Int.mul_emod] at e
  have : i % 13 = 0 ∨ i % 13 = 1 ∨ i % 13 = 2 ∨ i % 13 = 3 ∨ i % 13 = 4 ∨ i % 13 = 5 ∨ i % 13 = 6 ∨ i % 13 = 7 ∨ i % 13 = 8 ∨ i % 13 = 9 ∨ i % 13 = 10 ∨ i % 13 = 11 ∨ i % 13 = 12 := by omega
  rcases this with z | z | z | z | z | z | z | z | z | z | z | z | z
  · exact z
  all_goals (rw [z] at e; simp at e))
/-- one step down -/
theorem down {d i j : Int} (hd : Root d) (h : i * i = d * (j * j)) : ∃ p i' j' : Int, 2 ≤ p ∧ j = p * j' ∧ i' * i' = d * (j' * j') := by
  rcases hd with rfl | rfl | rfl | rfl | rfl
  · obtain ⟨t, rfl⟩ := dvd2 h
    obtain ⟨u, rfl⟩ := dvd2 (i := j) (c := t * t) (by grind)
    exact ⟨2, t, u, by omega, rfl, by grind⟩
  · obtain ⟨t, rfl⟩ := dvd3 h
    obtain ⟨u, rfl⟩ := dvd3 (i := j) (c := t * t) (by grind)
    exact ⟨3, t, u, by omega, rfl, by grind⟩
  · obtain ⟨t, rfl⟩ := dvd5 h
    obtain ⟨u, rfl⟩ := dvd5 (i := j) (c := t * t) (by grind)
    exact ⟨5, t, u, by omega, rfl, by grind⟩
  · obtain ⟨t, rfl⟩ := dvd3 (i := i) (c := 2 * (j * j)) (by grind)
    obtain ⟨u, rfl⟩ := dvd3 (i := j) (c := 2 * (t * t) - (j * j)) (by grind)
    exact ⟨3, t, u, by omega, rfl, by grind⟩
  · obtain ⟨t, rfl⟩ := dvd13 h
    obtain ⟨u, rfl⟩ := dvd13 (i := j) (c := t * t) (by grind)
    exact ⟨13, t, u, by omega, rfl, by grind⟩
theorem nonsq {d : Int} (hd : Root d) : ∀ (n : Nat) (i j : Int), j.natAbs ≤ n → i * i = d * (j * j) → j = 0
  | 0, i, j, hn, _ => by omega
  | n + 1, i, j, hn, h => by
    obtain ⟨p, i', j', hp, e, h'⟩ := down hd h
    rcases Int.lt_trichotomy j' 0 with z | z | z
    · have : j'.natAbs ≤ n := by
        have h1 : p * j' ≤ 2 * j' := by
          have := Int.mul_le_mul_of_nonpos_right hp (by omega : j' ≤ 0)
          omega
        omega
      have := nonsq hd n i' j' this h'
      omega
    · rw [e, z]; simp
    · have : j'.natAbs ≤ n := by
        have h1 : 2 * j' ≤ p * j' := Int.mul_le_mul_of_nonneg_right hp (by omega)
        omega
      have := nonsq hd n i' j' this h'
      omega
theorem irr {d i j : Int} (hd : Root d) (h : i * i = d * (j * j)) : j = 0 := nonsq hd j.natAbs i j (Nat.le_refl _) h
end RF

namespace RF
theorem ring1 (x s : Int) : (x + s) * (x + s) = (x - s) * (x - s) + 4 * (x * s) := by grind
theorem amgm (x q y n : Int) (hx : 0 < x) (hq : 0 ≤ q) (hn : n < x * (q + 1)) (hy : x + q ≤ 2 * y + 1) : n < (y + 1) * (y + 1) := by
  have h1 := ring1 x (q + 1)
  have h0 : 0 ≤ (x - (q + 1)) * (x - (q + 1)) := by
    rcases Int.le_total 0 (x - (q + 1)) with h | h
    · exact Int.mul_nonneg h h
    · exact Int.mul_nonneg_of_nonpos_of_nonpos h h
  have h2 : (x + (q + 1)) * (x + (q + 1)) ≤ (2 * (y + 1)) * (2 * (y + 1)) := Int.mul_le_mul (by omega) (by omega) (by omega) (by omega)
  have h3 : (2 * (y + 1)) * (2 * (y + 1)) = 4 * ((y + 1) * (y + 1)) := by grind
  omega
end RF

namespace RF
/-- the size of an integer, as abs gives it -/
def ab (i : Int) : Int := if i < 0 then -i else i
theorem ab_nn (i : Int) : 0 ≤ ab i := by unfold ab; split <;> omega
theorem ab_pos {i : Int} (h : 0 ≤ i) : ab i = i := by unfold ab; rw [if_neg (by omega)]
theorem ab_neg {i : Int} (h : i ≤ 0) : ab i = -i := by
  unfold ab
  split <;> omega
/-- i|i| + d j|j|: it has the sign of i + j r -/
def sgb (d i j : Int) : Int := i * ab i + d * j * ab j
def sg (d i j : Int) : Int := if 0 < sgb d i j then 1 else if sgb d i j < 0 then -1 else 0
/-- the floor of f times the root -/
def flr (d f : Int) : Int := if f < 0 then -rt (d * f * f) - 1 else rt (d * f * f)
theorem dff (d f : Int) : d * f * f = d * (f * f) := Int.mul_assoc d f f
theorem dff_nn {d f : Int} (hd : Root d) : 0 ≤ d * f * f := by
  rw [dff]
  exact Int.mul_nonneg (Int.le_of_lt hd.pos) (sq_nonneg f)
theorem keyL {d x y : Int} (hd : Root d) : 0 ≤ sgb d x y ↔ 0 ≤ x + flr d y := by
  have r0 := rt_nn (d * y * y)
  have r1 := rt_le (dff_nn hd (f := y))
  have r2 := rt_lt (dff_nn hd (f := y))
  have dn := dff_nn hd (f := y)
  generalize hr : rt (d * y * y) = r at *
  rcases Int.lt_or_le y 0 with hy | hy
  · have ef : flr d y = -r - 1 := by unfold flr; rw [if_pos hy, hr]
    have eb : sgb d x y = x * ab x - d * y * y := by unfold sgb; rw [ab_neg (Int.le_of_lt hy)]; grind
    rw [ef, eb]
    have ne : r * r ≠ d * y * y := fun e => by
      have := irr hd (i := r) (j := y) (by rw [e, dff])
      omega
    have lt : r * r < d * y * y := by omega
    have dp : 0 < d * y * y := by
      have := sq_nonneg r
      omega
    rcases Int.lt_or_le x 0 with hx | hx
    · rw [ab_neg (Int.le_of_lt hx)]
      have := sq_nonneg x
      have e : x * -x = -(x * x) := by grind
      omega
    · rw [ab_pos hx]
      constructor
      · intro h
        have : r < x := lt_of_sq hx (by omega)
        omega
      · intro h
        have : (r + 1) * (r + 1) ≤ x * x := sq_le (by omega) (by omega)
        omega
  · have ef : flr d y = r := by unfold flr; rw [if_neg (by omega), hr]
    have eb : sgb d x y = x * ab x + d * y * y := by unfold sgb; rw [ab_pos hy]
    rw [ef, eb]
    rcases Int.lt_or_le x 0 with hx | hx
    · rw [ab_neg (Int.le_of_lt hx)]
      have e : x * -x = -((-x) * (-x)) := by grind
      constructor
      · intro h
        have : -x < r + 1 := lt_of_sq (by omega) (by omega)
        omega
      · intro h
        have : (-x) * (-x) ≤ r * r := sq_le (by omega) (by omega)
        omega
    · rw [ab_pos hx]
      have := sq_nonneg x
      omega
theorem ab_mul {g i : Int} (hg : 0 ≤ g) : ab (g * i) = g * ab i := by
  rcases Int.lt_or_le i 0 with h | h
  · have : g * i ≤ 0 := Int.mul_nonpos_of_nonneg_of_nonpos hg (by omega)
    rw [ab_neg this, ab_neg (by omega)]
    grind
  · rw [ab_pos (Int.mul_nonneg hg h), ab_pos h]
theorem sgb_mul {d g i j : Int} (hg : 0 ≤ g) : sgb d (g * i) (g * j) = g * g * sgb d i j := by
  unfold sgb
  rw [ab_mul hg, ab_mul hg]
  grind
theorem sgb_neg {d i j : Int} : sgb d (-i) (-j) = -sgb d i j := by
  have h : ∀ i, ab (-i) = ab i := fun i => by unfold ab; split <;> split <;> omega
  unfold sgb
  rw [h, h]
  grind
theorem sg_mul {d g i j : Int} (hg : 0 < g) : sg d (g * i) (g * j) = sg d i j := by
  have hp : 0 < g * g := Int.mul_pos hg hg
  have e := sgb_mul (d := d) (i := i) (j := j) (Int.le_of_lt hg)
  unfold sg
  rw [e]
  rcases Int.lt_trichotomy (sgb d i j) 0 with h | h | h
  · have : g * g * sgb d i j < 0 := Int.mul_neg_of_pos_of_neg hp h
    rw [if_neg (by omega), if_pos this, if_neg (by omega), if_pos h]
  · rw [h]; simp
  · have : 0 < g * g * sgb d i j := Int.mul_pos hp h
    rw [if_pos this, if_pos h]
theorem sg_neg {d i j : Int} : sg d (-i) (-j) = -sg d i j := by
  have e := sgb_neg (d := d) (i := i) (j := j)
  unfold sg
  rw [e]
  rcases Int.lt_trichotomy (sgb d i j) 0 with h | h | h
  · rw [if_pos (by omega), if_neg (by omega), if_pos h]; rfl
  · rw [h]; rfl
  · rw [if_neg (by omega), if_pos (by omega), if_pos h]
/-- the law's own sign -/
theorem sg_pp {d i j : Int} (hd : Root d) (hi : 0 ≤ i) (hj : 0 ≤ j) : sg d i j = if 0 < i ∨ 0 < j then 1 else 0 := by
  have hp := hd.pos
  have e : sgb d i j = i * i + d * (j * j) := by unfold sgb; rw [ab_pos hi, ab_pos hj]; grind
  have a := sq_nonneg i
  have b := sq_nonneg j
  have b' : 0 ≤ d * (j * j) := Int.mul_nonneg (by omega) b
  unfold sg
  rw [e]
  by_cases h : 0 < i ∨ 0 < j
  · rw [if_pos h, if_pos]
    rcases h with h | h
    · have : 0 < i * i := Int.mul_pos h h
      omega
    · have : 0 < d * (j * j) := Int.mul_pos hp (Int.mul_pos h h)
      omega
  · have hi0 : i = 0 := by omega
    have hj0 : j = 0 := by omega
    rw [if_neg h, hi0, hj0]
    simp
theorem sg_nn {d i j : Int} (hd : Root d) (hi : i ≤ 0) (hj : j ≤ 0) (h : ¬ (0 ≤ i ∧ 0 ≤ j)) : sg d i j = -1 := by
  have e : sg d i j = -sg d (-i) (-j) := by rw [sg_neg]; omega
  rw [e, sg_pp hd (by omega) (by omega), if_pos (by omega)]
theorem sg_pn {d i j : Int} (hd : Root d) (hi : 0 < i) (hj : j < 0) : sg d i j = if j * j * d < i * i then 1 else -1 := by
  have e : sgb d i j = i * i - j * j * d := by unfold sgb; rw [ab_pos (by omega), ab_neg (by omega)]; grind
  have ne : i * i ≠ j * j * d := fun q => by
    have := irr hd (i := i) (j := j) (by rw [q]; grind)
    omega
  unfold sg
  rw [e]
  split <;> split <;> first | rfl | omega | skip
theorem sg_np {d i j : Int} (hd : Root d) (hi : i < 0) (hj : 0 < j) : sg d i j = if i * i < j * j * d then 1 else -1 := by
  have e : sgb d i j = j * j * d - i * i := by unfold sgb; rw [ab_pos (i := j) (by omega), ab_neg (i := i) (by omega)]; grind
  have ne : i * i ≠ j * j * d := fun q => by
    have := irr hd (i := i) (j := j) (by rw [q]; grind)
    omega
  unfold sg
  rw [e]
  split <;> split <;> first | rfl | omega | skip
theorem sg_nonneg {d i j : Int} (hd : Root d) : 0 ≤ sg d i j ↔ 0 ≤ i + flr d j := by
  rw [← keyL hd]
  unfold sg
  split
  · omega
  · split <;> omega
theorem flr_ring {d f : Int} : rt (f * f * d) = rt (d * f * f) := by rw [show f * f * d = d * f * f by grind]
end RF

namespace RF
/-! ### lowest terms -/
def gc (i j k : Int) : Int := ((Nat.gcd (Nat.gcd i.natAbs j.natAbs) k.natAbs : Nat) : Int)
def gs (i j k : Int) : Int := if k < 0 then -gc i j k else gc i j k
theorem gc_i (i j k : Int) : gc i j k ∣ i := Int.natAbs_dvd_natAbs.mp (by
  unfold gc
  rw [Int.natAbs_natCast]
  exact Nat.dvd_trans (Nat.gcd_dvd_left _ _) (Nat.gcd_dvd_left _ _))
theorem gc_j (i j k : Int) : gc i j k ∣ j := Int.natAbs_dvd_natAbs.mp (by
  unfold gc
  rw [Int.natAbs_natCast]
  exact Nat.dvd_trans (Nat.gcd_dvd_left _ _) (Nat.gcd_dvd_right _ _))
theorem gc_k (i j k : Int) : gc i j k ∣ k := Int.natAbs_dvd_natAbs.mp (by
  unfold gc
  rw [Int.natAbs_natCast]
  exact Nat.gcd_dvd_right _ _)
theorem gc_pos {i j k : Int} (h : k ≠ 0) : 0 < gc i j k := by
  have : 0 < Nat.gcd (Nat.gcd i.natAbs j.natAbs) k.natAbs := Nat.gcd_pos_of_pos_right _ (by omega)
  unfold gc
  omega
theorem gc_le {i j k : Int} (h : k ≠ 0) : gc i j k ≤ ab k := by
  have : Nat.gcd (Nat.gcd i.natAbs j.natAbs) k.natAbs ≤ k.natAbs := Nat.gcd_le_right _ (by omega)
  unfold gc ab
  split <;> omega
theorem gs_ne {i j k : Int} (h : k ≠ 0) : gs i j k ≠ 0 := by
  have := gc_pos (i := i) (j := j) h
  unfold gs
  split <;> omega
theorem gs_natAbs {i j k : Int} (h : k ≠ 0) : (gs i j k).natAbs ≤ k.natAbs := by
  have := gc_pos (i := i) (j := j) h
  have := gc_le (i := i) (j := j) h
  unfold gs
  unfold ab at this
  split <;> split at this <;> omega
def pI (i j k : Int) : Int := i.fdiv (gs i j k)
def pJ (i j k : Int) : Int := j.fdiv (gs i j k)
def pK (i j k : Int) : Int := k.fdiv (gs i j k)
theorem gs_dvd {i j k x : Int} (h : gc i j k ∣ x) : gs i j k ∣ x := by
  unfold gs
  split
  · exact Int.neg_dvd.mpr h
  · exact h
theorem fdiv_of {g x : Int} (hg : g ≠ 0) (h : g ∣ x) : x = g * x.fdiv g := by
  obtain ⟨t, rfl⟩ := h
  rw [Int.mul_fdiv_cancel_left t hg]
theorem pI_eq {i j k : Int} (h : k ≠ 0) : i = gs i j k * pI i j k := fdiv_of (gs_ne h) (gs_dvd (gc_i i j k))
theorem pJ_eq {i j k : Int} (h : k ≠ 0) : j = gs i j k * pJ i j k := fdiv_of (gs_ne h) (gs_dvd (gc_j i j k))
theorem pK_eq {i j k : Int} (h : k ≠ 0) : k = gs i j k * pK i j k := fdiv_of (gs_ne h) (gs_dvd (gc_k i j k))
theorem pK_pos {i j k : Int} (h : k ≠ 0) : 0 < pK i j k := by
  have e := pK_eq (i := i) (j := j) h
  have g0 := gc_pos (i := i) (j := j) h
  generalize pK i j k = t at *
  unfold gs at e
  split at e
  · rcases Int.lt_or_le 0 t with z | z
    · exact z
    · have : 0 ≤ -gc i j k * t := Int.mul_nonneg_of_nonpos_of_nonpos (by omega) z
      omega
  · rcases Int.lt_or_le 0 t with z | z
    · exact z
    · have : gc i j k * t ≤ 0 := Int.mul_nonpos_of_nonneg_of_nonpos (by omega) z
      omega
theorem nat_le_mul {g t : Int} (hg : g ≠ 0) : t.natAbs ≤ (g * t).natAbs := by
  rw [Int.natAbs_mul]
  exact Nat.le_mul_of_pos_left _ (by omega)
theorem pI_le {i j k : Int} (h : k ≠ 0) : (pI i j k).natAbs ≤ i.natAbs := by
  have e := pI_eq (i := i) (j := j) h
  have := nat_le_mul (g := gs i j k) (t := pI i j k) (gs_ne h)
  rw [← e] at this
  exact this
theorem pJ_le {i j k : Int} (h : k ≠ 0) : (pJ i j k).natAbs ≤ j.natAbs := by
  have e := pJ_eq (i := i) (j := j) h
  have := nat_le_mul (g := gs i j k) (t := pJ i j k) (gs_ne h)
  rw [← e] at this
  exact this
theorem pK_le {i j k : Int} (h : k ≠ 0) : (pK i j k).natAbs ≤ k.natAbs := by
  have e := pK_eq (i := i) (j := j) h
  have := nat_le_mul (g := gs i j k) (t := pK i j k) (gs_ne h)
  rw [← e] at this
  exact this
theorem gc_one {i j k : Int} (h : k ≠ 0) : gc (pI i j k) (pJ i j k) (pK i j k) = 1 := by
  have e1 : i.natAbs = (gs i j k).natAbs * (pI i j k).natAbs := by rw [← Int.natAbs_mul, ← pI_eq h]
  have e2 : j.natAbs = (gs i j k).natAbs * (pJ i j k).natAbs := by rw [← Int.natAbs_mul, ← pJ_eq h]
  have e3 : k.natAbs = (gs i j k).natAbs * (pK i j k).natAbs := by rw [← Int.natAbs_mul, ← pK_eq h]
  have eg : (gs i j k).natAbs = Nat.gcd (Nat.gcd i.natAbs j.natAbs) k.natAbs := by
    unfold gs gc
    split <;> omega
  have key : Nat.gcd (Nat.gcd i.natAbs j.natAbs) k.natAbs = (gs i j k).natAbs * Nat.gcd (Nat.gcd (pI i j k).natAbs (pJ i j k).natAbs) (pK i j k).natAbs := by
    conv => lhs; rw [e1, e2, e3]
    rw [Nat.gcd_mul_left, Nat.gcd_mul_left]
  rw [← eg] at key
  have gp : 0 < (gs i j k).natAbs := by have := gs_ne (i := i) (j := j) h; omega
  have : Nat.gcd (Nat.gcd (pI i j k).natAbs (pJ i j k).natAbs) (pK i j k).natAbs = 1 := by
    have q : (gs i j k).natAbs * 1 = (gs i j k).natAbs * Nat.gcd (Nat.gcd (pI i j k).natAbs (pJ i j k).natAbs) (pK i j k).natAbs := by omega
    exact (Nat.eq_of_mul_eq_mul_left gp q).symm
  unfold gc
  rw [this]
  rfl
theorem dvd_low {a b c a' b' c' : Int} (hg : gc a b c = 1) (h1 : a * c' = a' * c) (h2 : b * c' = b' * c) : c ∣ c' := by
  apply Int.natAbs_dvd_natAbs.mp
  have d1 : c.natAbs ∣ a.natAbs * c'.natAbs := by rw [← Int.natAbs_mul, h1, Int.natAbs_mul]; exact Nat.dvd_mul_left _ _
  have d2 : c.natAbs ∣ b.natAbs * c'.natAbs := by rw [← Int.natAbs_mul, h2, Int.natAbs_mul]; exact Nat.dvd_mul_left _ _
  have d3 : c.natAbs ∣ c.natAbs * c'.natAbs := Nat.dvd_mul_right _ _
  have d : c.natAbs ∣ Nat.gcd (Nat.gcd (a.natAbs * c'.natAbs) (b.natAbs * c'.natAbs)) (c.natAbs * c'.natAbs) := Nat.dvd_gcd (Nat.dvd_gcd d1 d2) d3
  rw [Nat.gcd_mul_right, Nat.gcd_mul_right] at d
  have : Nat.gcd (Nat.gcd a.natAbs b.natAbs) c.natAbs = 1 := by unfold gc at hg; omega
  rw [this, Nat.one_mul] at d
  exact d
theorem low_uniq {a b c a' b' c' : Int} (hc : 0 < c) (hc' : 0 < c') (hg : gc a b c = 1) (hg' : gc a' b' c' = 1) (h1 : a * c' = a' * c) (h2 : b * c' = b' * c) : a = a' ∧ b = b' ∧ c = c' := by
  have e : c = c' := Int.dvd_antisymm (by omega) (by omega) (dvd_low hg h1 h2) (dvd_low hg' h1.symm h2.symm)
  subst e
  exact ⟨Int.eq_of_mul_eq_mul_right (by omega) h1, Int.eq_of_mul_eq_mul_right (by omega) h2, rfl⟩
/-- equal numbers have equal parts -/
theorem parts_eq {i j k i' j' k' : Int} (h : k ≠ 0) (h' : k' ≠ 0) (h1 : i * k' = i' * k) (h2 : j * k' = j' * k) : pI i j k = pI i' j' k' ∧ pJ i j k = pJ i' j' k' ∧ pK i j k = pK i' j' k' := by
  have g := gs_ne (i := i) (j := j) h
  have g' := gs_ne (i := i') (j := j') h'
  have a1 := pI_eq (i := i) (j := j) h
  have a2 := pJ_eq (i := i) (j := j) h
  have a3 := pK_eq (i := i) (j := j) h
  have b1 := pI_eq (i := i') (j := j') h'
  have b2 := pJ_eq (i := i') (j := j') h'
  have b3 := pK_eq (i := i') (j := j') h'
  refine low_uniq (pK_pos h) (pK_pos h') (gc_one h) (gc_one h') ?_ ?_
  · have : gs i j k * gs i' j' k' ≠ 0 := Int.mul_ne_zero g g'
    apply Int.eq_of_mul_eq_mul_left this
    generalize gs i j k = s at *
    generalize gs i' j' k' = s' at *
    generalize pI i j k = x at *
    generalize pI i' j' k' = x' at *
    generalize pK i j k = z at *
    generalize pK i' j' k' = z' at *
    rw [a1, b1, a3, b3] at h1
    grind
  · have : gs i j k * gs i' j' k' ≠ 0 := Int.mul_ne_zero g g'
    apply Int.eq_of_mul_eq_mul_left this
    generalize gs i j k = s at *
    generalize gs i' j' k' = s' at *
    generalize pJ i j k = x at *
    generalize pJ i' j' k' = x' at *
    generalize pK i j k = z at *
    generalize pK i' j' k' = z' at *
    rw [a2, b2, a3, b3] at h2
    grind
/-- the sign of a number does not hang on how it is told -/
theorem sg_parts {d i j k : Int} (h : 0 < k) : sg d (pI i j k) (pJ i j k) = sg d i j := by
  have g := gs_ne (i := i) (j := j) (k := k) (by omega)
  have gp : 0 < gs i j k := by
    have := gc_pos (i := i) (j := j) (k := k) (by omega)
    unfold gs
    rw [if_neg (by omega)]
    exact this
  have e := sg_mul (d := d) (i := pI i j k) (j := pJ i j k) gp
  rw [← pI_eq (by omega), ← pJ_eq (by omega)] at e
  exact e.symm
end RF

namespace RF
open PySem L2 PyProof.Rows
/-! ### what a surd looks like -/
theorem kRP : ¬ (("_root" : Str) = "_parts") := by decide +kernel
def sfl (d : Int) (t : Addr) : List (Str × V) := putF "_parts" (.ref t) (putF "_root" (.int d) [])
theorem sfl_root (d : Int) (t : Addr) : (sfl d t).lookup ("_root" : Str) = some (.int d) := by
  unfold sfl
  rw [lookup_putF, if_neg kRP, lookup_putF, if_pos rfl]
theorem sfl_parts (d : Int) (t : Addr) : (sfl d t).lookup ("_parts" : Str) = some (.ref t) := by
  unfold sfl
  rw [lookup_putF, if_pos rfl]
theorem sfl_no (d : Int) (t : Addr) {m : Str} (h1 : ¬ m = "_parts") (h2 : ¬ m = "_root") : (sfl d t).lookup m = none := by
  unfold sfl
  rw [lookup_putF, if_neg h1, lookup_putF, if_neg h2]
  all_goals rfl
/-- at p: the surd of the root d with the parts i, j, k -/
def SurdAt (H : Hp) (C p : Addr) (d i j k : Int) : Prop := ∃ dx t, H p = some (.ins C dx (sfl d t)) ∧ H t = some (.tup [.int i, .int j, .int k])
theorem SurdAt.same {H H' : Hp} {C p : Addr} {d i j k : Int} (s : Same H H') (h : SurdAt H C p d i j k) : SurdAt H' C p d i j k := by
  obtain ⟨dx, t, h1, h2⟩ := h
  exact ⟨dx, t, s _ _ h1, s _ _ h2⟩
/-- below two to the n -/
def Bd (n : Nat) (i : Int) : Prop := i.natAbs < 2 ^ n
theorem Bd.mono {n m : Nat} {i : Int} (h : Bd n i) (hn : n ≤ m) : Bd m i := Nat.lt_of_lt_of_le h (Nat.pow_le_pow_right (by decide) hn)
theorem Bd.mul {n m : Nat} {i j : Int} (a : Bd n i) (b : Bd m j) : Bd (n + m) (i * j) := wide_lt a b
theorem Bd.add {n : Nat} {i j : Int} (a : Bd n i) (b : Bd n j) : Bd (n + 1) (i + j) := by
  unfold Bd at *
  rw [Nat.pow_succ]
  omega
theorem Bd.neg {n : Nat} {i : Int} (a : Bd n i) : Bd n (-i) := by
  unfold Bd at *
  omega
theorem Bd.le {n : Nat} {i j : Int} (a : Bd n i) (h : j.natAbs ≤ i.natAbs) : Bd n j := Nat.lt_of_le_of_lt h a
theorem Bd.ab {n : Nat} {i : Int} (a : Bd n i) : Bd n (if i < 0 then -i else i) := by
  unfold Bd at *
  split <;> omega
theorem Bd.log {n : Nat} {i : Int} (a : Bd n i) (h : 0 < n) : i.natAbs.log2 < n := PySem.Flt.log2_lt_of h a
theorem mulOk {n m : Nat} {i j : Int} (a : Bd n i) (b : Bd m j) (h0 : 0 < n) (h1 : 0 < m) (h : n + m ≤ 1000000) : CMulW i j := wide_mul a b h0 h1 h
theorem rootBd {d : Int} (h : Root d) : Bd 4 d := by
  unfold Bd
  unfold Root at h
  omega
/-- // by any great divisor but 0 -/
def CDivNW (_ j : Int) : Prop := j ≠ 0 ∧ j.natAbs.log2 < 9000
theorem op_fdivNW {X : Cx} : OpR X (binaryOp .FloorDiv) (rI CDivNW fun i j => .int (i.fdiv j)) := opI fun _ _ _ _ _ _ _ hc q => floordiv_int hc.1 q (.inl (PyProof.noPylong_of_log2 hc.2))

/-! ### a written dict with int keys -/
def okE : List DictEntry → List Int → Bool
  | [], [] => true
  | e :: es, k :: ks => (match e.key with | .int i _ => i == k | _ => false) && e.hash == hashInt k && okE es ks
  | _, _ => false
structure IntKeys (K : PySem.W.Frag) (d : Addr) (ks : List Int) : Prop where
  low : (d == sysModules) = false
  ex : ∃ es n, K.lookup d = some ⟨.type "dict", none, .dict es n, #[]⟩ ∧ okE es.toList ks = true
theorem okE_mem : ∀ {es : List DictEntry} {ks : List Int}, okE es ks = true → ∀ e ∈ es, ∃ k t, k ∈ ks ∧ e.key = .int k t ∧ e.hash = hashInt k
  | [], _, _, e, he => by cases he
  | c :: es, [], h, e, he => by simp [okE] at h
  | c :: es, k :: ks, h, e, he => by
    unfold okE at h
    simp only [Bool.and_eq_true, beq_iff_eq] at h
    obtain ⟨⟨h1, h2⟩, h3⟩ := h
    rcases List.mem_cons.mp he with rfl | he
    · split at h1
      · rename_i i t q
        exact ⟨k, t, List.mem_cons_self, by rw [q, beq_iff_eq.mp h1], h2⟩
      · cases h1
    · obtain ⟨k', t, a, b, c⟩ := okE_mem h3 e he
      exact ⟨k', t, List.mem_cons_of_mem _ a, b, c⟩
theorem okE_find : ∀ {es : List DictEntry} {ks : List Int} (i : Int), okE es ks = true → (es.find? fun e => Value.isInt i e.key).isSome = decide (i ∈ ks)
  | [], [], i, _ => by simp
  | [], k :: ks, i, h => by simp [okE] at h
  | c :: es, [], i, h => by simp [okE] at h
  | c :: es, k :: ks, i, h => by
    unfold okE at h
    simp only [Bool.and_eq_true, beq_iff_eq] at h
    obtain ⟨⟨h1, h2⟩, h3⟩ := h
    have ih := okE_find i h3
    split at h1
    · rename_i j t q
      have e : j = k := beq_iff_eq.mp h1
      rw [List.find?_cons]
      by_cases z : i = k
      · have : Value.isInt i c.key = true := by rw [q, e, z]; simp [Value.isInt]
        rw [this]
        simp [z]
      · have : Value.isInt i c.key = false := by
          rw [q, e]
          simp only [Value.isInt]
          exact beq_eq_false_iff_ne.mpr (fun w => z w.symm) |> fun h => by first | exact h | (rw [beq_eq_false_iff_ne]; exact z) | simpa using z
        rw [this]
        simp [ih, z]
    · cases h1
theorem op_in_intd {X : Cx} : OpR X (compareOp .In) (fun x y H Q => ∃ i d ks, x = .int i ∧ y = .ref d ∧ IntKeys X.K d ks ∧ Q (.bl (decide (i ∈ ks))) H) := by
  intro pins s σ H x y v u Q I rx ry h
  obtain ⟨i, d, ks, rfl, rfl, ⟨low, es, n, hl, he⟩, q⟩ := h
  obtain ⟨t, rfl⟩ := rx
  cases ry
  have hm : s.heap.MapOf (intKind X.prog X.w) d (fun k => findBy Value.isInt es k) := ⟨_, es, n, I.kIn _ _ hl, ⟨rfl, rfl, rfl⟩, rfl, fun e hh => by
    obtain ⟨k, t, _, e1, e2⟩ := okE_mem he e (Array.mem_toList_iff.mpr hh)
    exact ⟨k, by rw [e1]; show Value.isInt k (.int k t) = true; simp [Value.isInt], e2⟩, fun _ => rfl⟩
  refine wpAny_in_of (knd := intKind X.prog X.w) (k := i) (by show Value.isInt i (.int i t) = true; simp [Value.isInt]) low hm ?_
  have e : (findBy Value.isInt es i).isSome = decide (i ∈ ks) := by
    unfold findBy
    rw [Option.isSome_map, ← okE_find i he, ← List.find?_toArray]
  rw [e]
  exact ⟨.bl _, H, I.tok _, rfl, q⟩
end RF

namespace RF
open PySem L2
def top (i : Nat) : Stmt := PySem.Challenge.pw_rootfloor_k09_floors_by_digits.main.body.getD i (.Pass ⟨0, 0, 0, 0⟩)
abbrev sBag : Stmt := top 31
abbrev sPull : Stmt := top 32
structure TB (mg : Str → Option Value) : Prop where
  list : mg "list" = none
  len : mg "len" = none
  abs : mg "abs" = none
  int : mg "int" = none
section
variable {P : Program} {w : World} {K : PySem.W.Frag} {mg : Str → Option Value} {base : Heap}
theorem scBag : FnScope ["_law_script"] ["_law_script"] (defScope sBag) := ⟨rfl, rfl, rfl, by decide +kernel, rfl, by decide +kernel, by decide +kernel⟩
theorem ok_bag {f : Addr} {fd : FuncData} (F : Fun K "_law_bag" "_law_bag" sBag f fd) (T : TB mg) : FnOk P w K mg base CX0 1 f fd ["_law_script"] (spBag K) := by
  refine F.ok scBag (fun vs H Q E h => ?_) (fun cdv A outer s H vs Q E hr h => ?_)
  · obtain ⟨a, ns, rfl, _⟩ := h
    rfl
  · obtain ⟨a, ns, rfl, hS, hl, k⟩ := h
    refine ⟨_, pss_one (ps_ret (pe_lst (pa_cons (pe_callTy call_list_of (by rfl) T.list (by decide +kernel) (pa_cons (pe_slice sl_list (pv 0) po_none (po_some pe_int)) pa_nil)) (pa_cons pe_int (pa_cons pe_int (pa_cons pe_int pa_nil)))))), ?_⟩
    refine ⟨_, rfl, _, rfl, a, _, rfl, hS, fun p hp => ⟨p, _, rfl, .inl (SqL.of upd_same), fun l hl2 => ⟨by show 4 ≤ sizeLine; decide, fun q hq => ?_⟩⟩⟩
    obtain ⟨ms, e⟩ : ∃ ms : List Int, cutV (ns.map V.int) none (some 63) = ms.map V.int := ⟨_, by unfold cutV; rw [← List.map_drop, ← List.map_take]⟩
    have sm := sNew (o := .lst [.ref l, .int 0, .int 0, .int 3842]) (sNew (o := .lst (cutV (ns.map V.int) none (some 63))) (sNew (o := .lst (cutV (ns.map V.int) none (some 63))) (Same.refl H) hp) hl2) hq
    refine k q _ (of_new (of_new hq)) ⟨l, ms, 0, 0, 3842, ne_new hq, upd_same, ?_, Nat.zero_le _, Int.le_refl _, by decide, by decide⟩ sm
    rw [upd_ne (Ne.symm (ne_new hq)), upd_same, e]
abbrev nPull : List Str := ["_law_bag_here", "_law_sides", "_law_cell", "_law_digit", "_law_twice"]
theorem scPull : FnScope nPull ["_law_bag_here", "_law_sides"] (defScope sPull) := ⟨rfl, rfl, rfl, by decide +kernel, rfl, by decide +kernel, by decide +kernel⟩
theorem ok_pull {f : Addr} {fd : FuncData} (F : Fun K "_law_pull" "_law_pull" sPull f fd) (T : TB mg) : FnOk P w K mg base CX0 1 f fd ["_law_bag_here", "_law_sides"] spPull := by
  refine F.ok scPull (fun vs H Q E h => ?_) (fun cdv A outer s H vs Q E hr h => ?_)
  · obtain ⟨b, k, rfl, _⟩ := h
    rfl
  · obtain ⟨b, m, rfl, ⟨c, ns, i, z, r, B⟩, m0, m1, k⟩ := h
    have nd := scPull.nd
    -- the second half, from any bag
    refine ⟨_, C8.pss_cut (ps_if (pw_and (pt_cmpR op_eq (pe_ix ix_list (pv 0) pe_int (fun _ _ => rfl)) pe_int (nomark _)) (pw_and1 (pt_cmpR op_lt (pe_ix ix_list (pv 0) pe_int (fun _ _ => rfl)) (pe_callB call_len_seq (by rfl) T.len PySem.boot_len (pa_cons (pe_ix ix_list (pv 0) pe_int (fun _ _ => rfl)) pa_nil)) (nomark _)))).pt
        (pss_cons (ps_set (i := 2) nd rfl (Or.inl rfl) (pe_ix ix_list (pe_ix ix_list (pv 0) pe_int (fun _ _ => rfl)) (pe_ix ix_list (pv 0) pe_int (fun _ _ => rfl)) (fun _ _ => rfl)))
        (pss_cons (ps_asg (pe_op op_add (pe_ix ix_list (pv 0) pe_int (fun _ _ => rfl)) pe_int) (pg_sub (pv 0) pe_int set_list))
        (pss_one (ps_if (pt_cmpR op_ge (pe_callB call_abs (by rfl) T.abs (by decide +kernel) (pa_cons (pv 2) pa_nil)) (pe_op op_pow pe_int pe_int) (nomark _))
          (pss_one (ps_asg (pe_callB call_abs (by rfl) T.abs (by decide +kernel) (pa_cons (pv 2) pa_nil)) (pg_sub (pv 0) pe_int set_list)))
          (pss_one (ps_asg (pe_op op_mod (pe_callTy call_int1 (by rfl) T.int (by decide +kernel) (pa_cons (pe_op op_add (pe_op op_add (pe_op op_mul (pe_ix ix_list (pv 0) pe_int (fun _ _ => rfl)) pe_int) (pe_op op_mul (pe_op op_mod (pe_callTy call_int1 (by rfl) T.int (by decide +kernel) (pa_cons (pv 2) pa_nil)) pe_int) pe_int)) pe_int) pa_nil)) pe_int) (pg_sub (pv 0) pe_int set_list)))))))
        pss_nil)
      (C8.pss_cut (ps_if (pt_cmpR op_gt (pe_ix ix_list (pv 0) pe_int (fun _ _ => rfl)) pe_int (nomark _))
        (pss_cons (ps_set (i := 3) nd rfl (Or.inl rfl) (pe_op op_mod (pe_callTy call_int1 (by rfl) T.int (by decide +kernel) (pa_cons (pe_ix ix_list (pv 0) pe_int (fun _ _ => rfl)) pa_nil)) (pv 1)))
        (pss_cons (ps_asg (pe_op op_fdiv (pe_ix ix_list (pv 0) pe_int (fun _ _ => rfl)) (pv 1)) (pg_sub (pv 0) pe_int set_list))
        (pss_one (ps_ret (pv 3)))))
        pss_nil)
      (pss_cons (ps_set (i := 4) nd rfl (Or.inl rfl) (pe_op op_mod (pe_callTy call_int1 (by rfl) T.int (by decide +kernel) (pa_cons (pe_op op_mul (pe_ix ix_list (pv 0) pe_int (fun _ _ => rfl)) (pe_ix ix_list (pv 0) pe_int (fun _ _ => rfl))) pa_nil)) pe_int))
      (pss_cons (ps_asg (pe_op op_mod (pe_callTy call_int1 (by rfl) T.int (by decide +kernel) (pa_cons (pe_op op_add (pe_op op_add (pe_op op_mul (pv 4) pe_int) (pe_op op_mul (pe_ix ix_list (pv 0) pe_int (fun _ _ => rfl)) pe_int)) pe_int) pa_nil)) pe_int) (pg_sub (pv 0) pe_int set_list))
      (pss_one (ps_ret (pe_op op_mod (pe_callTy call_int1 (by rfl) T.int (by decide +kernel) (pa_cons (pe_op op_fdiv (pe_ix ix_list (pv 0) pe_int (fun _ _ => rfl)) pe_int) pa_nil)) (pv 1))))))), ?_⟩
    have hc : ∀ {H' : Hp} {i : Nat} {z r : Int}, BagC H' b c ns i z r → H' c = some (.lst (ns.map V.int)) := fun B => B.cs
    -- what follows the first if, from any bag
    refine ⟨fun σ' H' => ∃ v i z r, σ' = [some (.ref b), some (.int m), v, none, none] ∧ BagC H' b c ns i z r ∧ Kp b H H', ?_, ?_⟩
    · refine ⟨_, rfl, b, _, _, _, rfl, rfl, SqL.of B.at_, rfl, rfl, _, rfl, ?_⟩
      refine ite2 (fun ez => ?_) (fun _ => ?_)
      · refine ⟨_, rfl, b, _, _, _, rfl, rfl, SqL.of B.at_, rfl, _, rfl, b, _, _, _, rfl, rfl, SqL.of B.at_, rfl, c, _, rfl, .inl (SqL.of B.cs), _, _, rfl, rfl, _, rfl, ?_⟩
        refine ite2 (fun hl => ?_) (fun _ => ⟨_, _, _, _, rfl, B, Kp.refl _ _⟩)
        have hl' : i < ns.length := by
          have := of_decide_eq_true hl
          rw [List.length_map] at this
          omega
        obtain ⟨n, hn⟩ : ∃ n, ns[i]? = some n := ⟨_, List.getElem?_eq_getElem hl'⟩
        have hat : atI (ns.map V.int) (i : Int) = some (V.int n) := atI_nat (by rw [List.getElem?_map, hn]; rfl)
        refine ⟨_, rfl, b, _, _, _, rfl, rfl, SqL.of B.at_, rfl, _, rfl, b, _, _, _, rfl, rfl, SqL.of B.at_, rfl, c, _, _, _, rfl, rfl, SqL.of B.cs, hat, ?_⟩
        refine ⟨_, rfl, b, _, _, _, rfl, rfl, SqL.of B.at_, rfl, _, _, rfl, rfl, _, rfl, b, _, _, _, rfl, rfl, B.at_, rfl, ?_⟩
        have B1 := B.put (i' := i + 1) (z' := z) (r' := r) (o := .lst [.ref c, .int ((i : Int) + 1), .int z, .int r]) (by rw [Int.natCast_add]; rfl) hl' B.z0 B.r0 B.r1
        have k1 : Kp b H (upd H b (.lst [.ref c, .int ((i : Int) + 1), .int z, .int r])) := Kp.upd
        refine ⟨_, rfl, _, rfl, _, _, rfl, rfl, ⟨by decide, by decide, by decide⟩, _, _, rfl, rfl, _, rfl, ?_⟩
        refine ite2 (fun _ => ?_) (fun _ => ?_)
        · refine ⟨_, rfl, _, rfl, _, rfl, b, _, _, _, rfl, rfl, upd_same, rfl, ?_⟩
          exact ⟨_, _, _, _, rfl, B1.put rfl B1.le (by split <;> omega) B1.r0 B1.r1, k1.trans Kp.upd⟩
        · refine ⟨_, rfl, b, _, _, _, rfl, rfl, SqL.of B1.at_, rfl, _, _, rfl, rfl, .inr (by decide), _, rfl, .inl ⟨_, rfl, _, _, rfl, rfl, (by show (0 : Int) < 1000003; decide), _, _, rfl, rfl, .inr (by decide), _, _, rfl, rfl, _, _, rfl, rfl, .inl ⟨_, rfl, _, _, rfl, rfl, (by show (0 : Int) < 2147483647; decide), _, rfl, b, _, _, _, rfl, rfl, upd_same, rfl, ?_⟩⟩⟩
          exact ⟨_, _, _, _, rfl, B1.put rfl B1.le B1.z0 (emod_lo _ (by decide)) (emod_hi _ (by decide)), k1.trans Kp.upd⟩
      · exact ⟨_, _, _, _, rfl, B, Kp.refl _ _⟩
    · rintro σ' H1 ⟨v, i, z, r, rfl, B, kp⟩
      -- if bag[2] > 0
      refine ⟨fun σ' H' => σ' = [some (.ref b), some (.int m), v, none, none] ∧ H' = H1, ?_, ?_⟩
      · refine ⟨_, rfl, b, _, _, _, rfl, rfl, SqL.of B.at_, rfl, _, _, rfl, rfl, _, rfl, ?_⟩
        refine ite2 (fun hz => ?_) (fun _ => ⟨rfl, rfl⟩)
        refine ⟨_, rfl, b, _, _, _, rfl, rfl, SqL.of B.at_, rfl, .inl ⟨_, rfl, _, rfl, _, _, rfl, rfl, m0, ?_⟩⟩
        refine ⟨_, rfl, b, _, _, _, rfl, rfl, SqL.of B.at_, rfl, _, rfl, _, _, rfl, rfl, ⟨m0, m1⟩, _, rfl, b, _, _, _, rfl, rfl, B.at_, rfl, ?_⟩
        refine ⟨_, rfl, ?_⟩
        exact k _ _ (emod_lo _ m0) (emod_hi _ m0) ⟨c, ns, _, _, _, B.put rfl B.le (Int.ediv_nonneg B.z0 (Int.le_of_lt m0)) B.r0 B.r1⟩ (kp.trans Kp.upd)
      · rintro σ' H2 ⟨rfl, rfl⟩
        refine ⟨_, rfl, b, _, _, _, rfl, rfl, SqL.of B.at_, rfl, _, rfl, b, _, _, _, rfl, rfl, SqL.of B.at_, rfl, _, _, rfl, rfl, .inl ⟨by have := B.r0; omega, by have := B.r1; omega⟩, .inl ⟨_, rfl, _, _, rfl, rfl, (by show (0 : Int) < 2147483629; decide), ?_⟩⟩
        refine ⟨_, rfl, _, _, rfl, rfl, .inr (by decide), _, rfl, b, _, _, _, rfl, rfl, SqL.of B.at_, rfl, _, _, rfl, rfl, .inr (by decide), _, _, rfl, rfl, _, _, rfl, rfl, .inl ⟨_, rfl, _, _, rfl, rfl, (by show (0 : Int) < 2147483647; decide), _, rfl, b, _, _, _, rfl, rfl, B.at_, rfl, ?_⟩⟩
        refine ⟨_, rfl, b, _, _, _, rfl, rfl, SqL.of upd_same, rfl, _, _, rfl, rfl, ⟨by decide, by decide⟩, .inl ⟨_, rfl, _, rfl, _, _, rfl, rfl, m0, ?_⟩⟩
        exact k _ _ (emod_lo _ m0) (emod_hi _ m0) ⟨c, ns, _, _, _, B.put rfl B.le B.z0 (emod_lo _ (by decide)) (emod_hi _ (by decide))⟩ (kp.trans Kp.upd)
end
end RF

namespace RF
open PySem L2 PyProof.Rows
def whole : D → Bool
  | .int _ => true
  | _ => false
def btw (d : D) (lo hi : Int) : Bool := match d with
  | .int i => decide (lo ≤ i) && decide (i ≤ hi)
  | _ => false
def rootD : D → Bool
  | .int i => decide (i ∈ [2, 3, 5, 6, 13])
  | _ => false
def spWhole (K : PySem.W.Frag) : Sp := fun vs H Q _ => ∃ (v : V) (d : D), vs = [v] ∧ Rp K H v d ∧ Q (.bl (whole d)) H
def spBtw (K : PySem.W.Frag) : Sp := fun vs H Q _ => ∃ (v : V) (d : D) (lo hi : Int), vs = [v, .int lo, .int hi] ∧ Rp K H v d ∧ Q (.bl (btw d lo hi)) H
def spIsRoot (K : PySem.W.Frag) : Sp := fun vs H Q _ => ∃ (v : V) (d : D), vs = [v] ∧ Rp K H v d ∧ Q (.bl (rootD d)) H
section
variable {P : Program} {w : World} {K : PySem.W.Frag} {mg : Str → Option Value} {base : Heap}
abbrev s_is_whole : Stmt := top 11
abbrev n_is_whole : List Str := ["value"]
theorem sc_is_whole : FnScope n_is_whole ["value"] (defScope s_is_whole) := ⟨rfl, rfl, rfl, by decide +kernel, rfl, by decide +kernel, by decide +kernel⟩
theorem ok_whole {f : Addr} {fd : FuncData} {k : Nat} (F : Fun K "is_whole" "is_whole" s_is_whole f fd) (T1 : mg "isinstance" = none) (T2 : mg "int" = none) (T3 : mg "bool" = none) : FnOk P w K mg base CX0 (k + 1) f fd ["value"] (spWhole K) := by
  refine F.ok sc_is_whole (fun vs H Q E h => ?_) (fun cdv A outer s H vs Q E hr h => ?_)
  · obtain ⟨v, d, rfl, _⟩ := h
    rfl
  · obtain ⟨v, d, rfl, hv, q⟩ := h
    refine ⟨_, (pss_one (ps_ret (pe_and (pe_callB call_isi (by rfl) T1 (by decide +kernel) (pa_cons (pv 0) (pa_cons (pe_bltn (v := .ty "int") (by rfl) T2 (by decide +kernel) rfl) pa_nil))) (pe_one (pe_not (pe_callB call_isi (by rfl) T1 (by decide +kernel) (pa_cons (pv 0) (pa_cons (pe_bltn (v := .ty "bool") (by rfl) T3 (by decide +kernel) rfl) pa_nil)))))))), ?_⟩
    refine ⟨_, rfl, _, _, _, _, _, rfl, .ty _, tyX _ hv, kit_ty (kit_int _), _, rfl, ?_⟩
    by_cases hi : isInt d = true
    · refine iteP hi ⟨_, rfl, _, _, _, _, _, rfl, .ty _, tyX _ hv, kit_ty (kit_bool _), _, rfl, ?_⟩
      have e : (!isBool d) = whole d := by cases d <;> first | rfl | cases hi
      rw [e]
      exact q
    · refine iteN hi ?_
      have e : whole d = false := by cases d <;> first | rfl | exact absurd rfl hi
      rw [e] at q
      exact q
abbrev s_is_between : Stmt := top 12
abbrev n_is_between : List Str := ["value", "low", "high"]
theorem sc_is_between : FnScope n_is_between ["value", "low", "high"] (defScope s_is_between) := ⟨rfl, rfl, rfl, by decide +kernel, rfl, by decide +kernel, by decide +kernel⟩
theorem ok_btw {f : Addr} {fd : FuncData} {k : Nat} (F : Fun K "is_between" "is_between" s_is_between f fd) (D1 : Df P w K mg base k "is_whole" ["value"] (spWhole K)) : FnOk P w K mg base CX0 (k + 1) f fd ["value", "low", "high"] (spBtw K) := by
  refine F.ok sc_is_between (fun vs H Q E h => ?_) (fun cdv A outer s H vs Q E hr h => ?_)
  · obtain ⟨v, d, lo, hi, rfl, _⟩ := h
    rfl
  · obtain ⟨v, d, lo, hi, rfl, hv, q⟩ := h
    refine ⟨_, (pss_one (ps_ret (pe_and (pe_callD D1 hr (Nat.le_refl _) (pa_cons (pv 0) pa_nil)) (pe_one (pe_chain op_le op_le (pv 1) (pv 0) (pv 2)))))), ?_⟩
    refine ⟨_, rfl, v, d, rfl, hv, _, rfl, ?_⟩
    by_cases hi' : whole d = true
    · refine iteP hi' ?_
      cases d with
      | int i =>
        obtain rfl : v = .int i := hv
        refine ⟨_, rfl, _, rfl, _, _, rfl, rfl, _, rfl, ?_⟩
        by_cases h1 : lo ≤ i
        · refine iteP (decide_eq_true h1) ⟨_, rfl, _, _, rfl, rfl, ?_⟩
          have e : btw (.int i) lo hi = decide (i ≤ hi) := by show (decide (lo ≤ i) && decide (i ≤ hi)) = _; rw [decide_eq_true h1]; rfl
          rw [e] at q
          exact q
        · refine iteN (nd_of h1) ?_
          have e : btw (.int i) lo hi = false := by show (decide (lo ≤ i) && decide (i ≤ hi)) = _; rw [decide_eq_false h1]; rfl
          rw [e] at q
          exact q
      | _ => cases hi'
    · refine iteN hi' ?_
      have e : btw d lo hi = false := by cases d <;> first | rfl | exact absurd rfl hi'
      rw [e] at q
      exact q
abbrev s_is_root : Stmt := top 14
abbrev n_is_root : List Str := ["value"]
theorem sc_is_root : FnScope n_is_root ["value"] (defScope s_is_root) := ⟨rfl, rfl, rfl, by decide +kernel, rfl, by decide +kernel, by decide +kernel⟩
theorem ok_isroot {f : Addr} {fd : FuncData} {k : Nat} {pd : Addr} (F : Fun K "is_root" "is_root" s_is_root f fd) (D1 : Df P w K mg base k "is_whole" ["value"] (spWhole K)) (mP : mg "PERIODS" = some (.ref pd)) (kP : IntKeys K pd [2, 3, 5, 6, 13]) :
    FnOk P w K mg base CX0 (k + 1) f fd ["value"] (spIsRoot K) := by
  refine F.ok sc_is_root (fun vs H Q E h => ?_) (fun cdv A outer s H vs Q E hr h => ?_)
  · obtain ⟨v, d, rfl, _⟩ := h
    rfl
  · obtain ⟨v, d, rfl, hv, q⟩ := h
    refine ⟨_, (pss_one (ps_ret (pe_and (pe_callD D1 hr (Nat.le_refl _) (pa_cons (pv 0) pa_nil)) (pe_one (pe_cmpR op_in_intd (pv 0) (pe_glob (v := .ref pd) (by rfl) mP rfl) rfl))))), ?_⟩
    refine ⟨_, rfl, v, d, rfl, hv, _, rfl, ?_⟩
    by_cases hi' : whole d = true
    · refine iteP hi' ?_
      cases d with
      | int i =>
        obtain rfl : v = .int i := hv
        exact ⟨_, rfl, _, _, _, rfl, rfl, kP, q⟩
      | _ => cases hi'
    · refine iteN hi' ?_
      have e : rootD d = false := by cases d <;> first | rfl | exact absurd rfl hi'
      rw [e] at q
      exact q
end
end RF

namespace RF
open PySem L2 PyProof.Rows
/-- what is known of the class -/
structure TxS (K : PySem.W.Frag) (mg : Str → Option Value) (C : Addr) : Prop where
  cl : Cls K C
  nR : NoAttr K C "_root"
  nP : NoAttr K C "_parts"
  mg : mg "Surd" = some (.ref C)
def spSInit (C : Addr) : Sp := fun vs H Q _ => ∃ (p dx : Addr) (d i j k : Int), vs = [.ref p, .int d, .int i, .int j, .int k] ∧ H p = some (.ins C dx []) ∧ Root d ∧ k ≠ 0 ∧ Bd 1000 i ∧ Bd 1000 j ∧ Bd 1000 k ∧
  ∀ H', SurdAt H' C p d (pI i j k) (pJ i j k) (pK i j k) → (∀ b o, H b = some o → b ≠ p → H' b = some o) → Q .non H'
section
variable {P : Program} {w : World} {K : PySem.W.Frag} {mg : Str → Option Value} {base : Heap}
abbrev sS (i : Nat) : Stmt := inClass (top 21) i
abbrev n_SInit : List Str := ["self", "root", "i", "j", "k", "divisor"]
theorem sc_SInit : FnScope n_SInit ["self", "root", "i", "j", "k"] (defScope (sS 0)) := ⟨rfl, rfl, rfl, by decide +kernel, rfl, by decide +kernel, by decide +kernel⟩
theorem ok_SInit {f C : Addr} {fd : FuncData} {k : Nat} {dvs : List V} {kws : List (Str × V)} (F : FunD K "__init__" "Surd.__init__" (defArgs (sS 0)) (defBody (sS 0)) (defScope (sS 0)) dvs kws f fd) (T : TxS K mg C) (mG : mg "gcd" = some (.builtin "math.gcd"))
    (D1 : Df P w K mg base k "is_root" ["value"] (spIsRoot K)) : FnOk P w K mg base CX0 (k + 1) f fd ["self", "root", "i", "j", "k"] (spSInit C) := by
  refine F.ok sc_SInit (fun vs H Q E h => ?_) (fun cdv A outer s H vs Q E hr h => ?_)
  · obtain ⟨p, dx, d, i, j, k, rfl, _⟩ := h
    rfl
  · obtain ⟨p, dx, d, i, j, m, rfl, hp, hd, m0, bi, bj, bm, q⟩ := h
    have nd := sc_SInit.nd
    refine ⟨_, PSs.nox (pss_cons (ps_if (pt_not (pt_val (pe_callD D1 hr (Nat.le_refl _) (pa_cons (pv 1) pa_nil))))
      (pss_one ps_never)
      pss_nil)
      (pss_cons (ps_if (pt_cmpR op_eq (pv 4) pe_int (nomark _))
      (pss_one ps_never)
      pss_nil)
      (pss_cons (ps_set (i := 5) nd rfl (Or.inl rfl) (pe_callBfun cr_gcd3 (by rfl) mG (pa_cons (pv 2) (pa_cons (pv 3) (pa_cons (pv 4) pa_nil)))))
      (C8.pss_cut (ps_if (pt_cmpR op_lt (pv 4) pe_int (nomark _))
      (pss_one (ps_set (i := 5) nd rfl (Or.inl rfl) (pe_un un_neg (pv 5))))
      pss_nil)
      (pss_cons (ps_fld (pv 0) (pv 1) rfl)
      (pss_one (ps_fld (pv 0) (pe_tup (pa_cons (pe_op op_fdivNW (pv 2) (pv 5)) (pa_cons (pe_op op_fdivNW (pv 3) (pv 5)) (pa_cons (pe_op op_fdivNW (pv 4) (pv 5)) pa_nil)))) rfl))))))), ?_⟩
    have er : rootD (.int d) = true := decide_eq_true (by unfold Root at hd; simp; omega)
    refine ⟨_, rfl, _, .int d, rfl, rfl, _, rfl, ?_⟩
    rw [er]
    refine iteF ?_
    refine ⟨_, rfl, rfl, _, rfl, iteN (nd_of (fun z => m0 (by cases z; rfl))) ?_⟩
    refine ⟨_, rfl, _, rfl, _, rfl, _, _, _, rfl, ?_⟩
    refine ⟨fun σ' H' => σ' = [some (.ref p), some (.int d), some (.int i), some (.int j), some (.int m), some (.int (gs i j m))] ∧ H' = H, ?_, ?_⟩
    · refine ⟨_, rfl, _, _, rfl, rfl, _, rfl, ite2 (fun h => ?_) (fun h => ?_)⟩
      · refine ⟨_, rfl, _, rfl, ?_⟩
        have hm : m < 0 := of_decide_eq_true h
        refine ⟨?_, rfl⟩
        unfold gs
        rw [if_pos hm]
        rfl
      · have hm : ¬ m < 0 := fun z => h (decide_eq_true z)
        refine ⟨?_, rfl⟩
        unfold gs
        rw [if_neg hm]
        rfl
    · rintro σ' H1 ⟨rfl, rfl⟩
      have gn := gs_ne (i := i) (j := j) m0
      have gb : (gs i j m).natAbs.log2 < 9000 := Nat.lt_of_lt_of_le ((bm.le (gs_natAbs (i := i) (j := j) m0)).log (by decide)) (by decide)
      refine ⟨_, rfl, _, rfl, p, C, dx, [], rfl, hp, T.cl, T.nR, (by show 0 < 1000; decide), ?_⟩
      refine ⟨_, rfl, _, rfl, _, _, rfl, rfl, ⟨gn, gb⟩, _, rfl, _, rfl, _, _, rfl, rfl, ⟨gn, gb⟩, _, rfl, _, rfl, _, _, rfl, rfl, ⟨gn, gb⟩, (by show 3 ≤ sizeLine; decide), fun t ht => ?_⟩
      have npt : p ≠ t := (ne_new ht).symm
      refine ⟨_, rfl, p, C, dx, _, rfl, by rw [upd_ne npt, upd_same], T.cl, T.nP, (Nat.lt_of_le_of_lt (length_putF _ _ _) (by decide)), ?_⟩
      refine q _ ⟨dx, t, upd_same, ?_⟩ fun b o e nb => ?_
      · rw [upd_ne npt.symm, upd_same]; rfl
      · have e1 : upd H1 p (.ins C dx (putF "_root" (.int d) [])) b = some o := by rw [upd_ne nb]; exact e
        rw [upd_ne nb, upd_ne (ne_of_none e1 ht), upd_ne nb]
        exact e
end
end RF

namespace RF
open PySem L2 PyProof.Rows
/-- at p: the surd (i + j r) / k of the root d, in lowest terms -/
def SV (H : Hp) (C p : Addr) (d i j k : Int) : Prop := k ≠ 0 ∧ SurdAt H C p d (pI i j k) (pJ i j k) (pK i j k)
theorem SV.same {H H' : Hp} {C p : Addr} {d i j k : Int} (s : Same H H') (h : SV H C p d i j k) : SV H' C p d i j k := ⟨h.1, h.2.same s⟩
theorem SV.cong {H : Hp} {C p : Addr} {d i j k i' j' k' : Int} (h : SV H C p d i j k) (hk : k' ≠ 0) (h1 : i * k' = i' * k) (h2 : j * k' = j' * k) : SV H C p d i' j' k' := by
  obtain ⟨e1, e2, e3⟩ := parts_eq h.1 hk h1 h2
  exact ⟨hk, by rw [← e1, ← e2, ← e3]; exact h.2⟩
structure MkS (P : Program) (w : World) (K : PySem.W.Frag) (mg : Str → Option Value) (base : Heap) (C : Addr) (k : Nat) : Prop where
  ex : ∃ (f : Addr) (fd : FuncData), Mk K C f ∧ FnOk P w K mg base CX0 k f fd ["self", "root", "i", "j", "k"] (spSInit C) ∧ KBn K fd ["self", "root", "i", "j", "k"] 4 ["k"] (fun us ws => us ++ ws) (fun vs zs => vs ++ zs) ∧
    (∃ ds, Vals [.int 1] ds ∧ Binds K fd ["self", "root", "i", "j", "k"] ds) ∧ ∃ ds, Vals [.int 0, .int 1] ds ∧ Binds K fd ["self", "root", "i", "j", "k"] ds
def spSign (C : Addr) : Sp := fun vs H Q _ => ∃ (p : Addr) (d i j k : Int), vs = [.ref p] ∧ SV H C p d i j k ∧ 0 < k ∧ Root d ∧ Bd 900 i ∧ Bd 900 j ∧ Q (.int (sg d i j)) H
def flS (d i j k : Int) : Int := (pI i j k + flr d (pJ i j k)) / pK i j k
def spFlS (C : Addr) : Sp := fun vs H Q _ => ∃ (p : Addr) (d i j k : Int), vs = [.ref p] ∧ SV H C p d i j k ∧ Root d ∧ Bd 900 i ∧ Bd 900 j ∧ Bd 900 k ∧ Q (.int (flS d i j k)) H
def spNegS (C : Addr) : Sp := fun vs H Q _ => ∃ (p : Addr) (d i j k : Int), vs = [.ref p] ∧ SV H C p d i j k ∧ Root d ∧ Bd 900 i ∧ Bd 900 j ∧ Bd 900 k ∧
  ∀ (x : Addr) (H' : Hp), H x = none → SV H' C x d (-i) (-j) k → Same H H' → Q (.ref x) H'
def spAddS (C : Addr) : Sp := fun vs H Q _ => ∃ (p q : Addr) (d i j k i2 j2 k2 : Int), vs = [.ref p, .ref q] ∧ SV H C p d i j k ∧ SV H C q d i2 j2 k2 ∧ Root d ∧ Bd 400 i ∧ Bd 400 j ∧ Bd 400 k ∧ Bd 400 i2 ∧ Bd 400 j2 ∧ Bd 400 k2 ∧
  ∀ (x : Addr) (H' : Hp), H x = none → SV H' C x d (i * k2 + i2 * k) (j * k2 + j2 * k) (k * k2) → Same H H' → Q (.ref x) H'
def spSubS (C : Addr) : Sp := fun vs H Q _ => ∃ (p q : Addr) (d i j k i2 j2 k2 : Int), vs = [.ref p, .ref q] ∧ SV H C p d i j k ∧ SV H C q d i2 j2 k2 ∧ Root d ∧ Bd 400 i ∧ Bd 400 j ∧ Bd 400 k ∧ Bd 400 i2 ∧ Bd 400 j2 ∧ Bd 400 k2 ∧
  ∀ (x : Addr) (H' : Hp), H x = none → SV H' C x d (i * k2 - i2 * k) (j * k2 - j2 * k) (k * k2) → Same H H' → Q (.ref x) H'
def spCmpS (C : Addr) : Sp := fun vs H Q _ => ∃ (p q : Addr) (d i j k i2 j2 k2 : Int), vs = [.ref p, .ref q] ∧ SV H C p d i j k ∧ SV H C q d i2 j2 k2 ∧ 0 < k ∧ 0 < k2 ∧ Root d ∧ Bd 400 i ∧ Bd 400 j ∧ Bd 400 k ∧ Bd 400 i2 ∧ Bd 400 j2 ∧ Bd 400 k2 ∧
  ∀ (H' : Hp), Same H H' → Q (.int (sg d (i * k2 - i2 * k) (j * k2 - j2 * k))) H'
section
variable {P : Program} {w : World} {K : PySem.W.Frag} {mg : Str → Option Value} {base : Heap}
end
end RF

namespace RF
open PySem L2 PyProof.Rows
structure IsS (K : PySem.W.Frag) (mg : Str → Option Value) (C : Addr) : Prop where
  ha : PySem.W.findIn K (.ref C) "__class__" = some (some (.builtin "object.__class__"))
  hn : PySem.W.specialIn K (.builtin "object.__class__") "__get__" = some (some (.builtin "getset_descriptor.__get__"))
  htk : PySem.W.takesIn K (.builtin "object.__class__") = some true
  hm : PySem.W.mroIn K C (.type "object") = some true
  mi : mg "isinstance" = none
theorem tyS {K : PySem.W.Frag} {mg : Str → Option Value} {H : Hp} {C p dx : Addr} {fs : List (Str × V)} (J : IsS K mg C) (c : Cls K C) (h : H p = some (.ins C dx fs)) : TyX K H (.ref p) (.ref C) := .base (.ins h c J.ha J.hn J.htk J.hm)
theorem kitSelf {K : PySem.W.Frag} {C : Addr} : PySem.W.kitOne K (.ref C) (.ref C) = some true := by
  unfold PySem.W.kitOne
  rw [if_pos (by simp)]
section
variable {P : Program} {w : World} {K : PySem.W.Frag} {mg : Str → Option Value} {base : Heap}
def spBoolS (C : Addr) : Sp := fun vs H Q _ => ∃ (p : Addr) (d i j k : Int), vs = [.ref p] ∧ SV H C p d i j k ∧ 0 < k ∧ Root d ∧ Bd 900 i ∧ Bd 900 j ∧ Q (.bl (!decide (sg d i j = 0))) H
end
end RF

namespace RF
open PySem L2 PyProof.Rows
def slopeD : D → Bool
  | .tup [a, b, c] => btw a (-9) 9 && (btw b (-3) 3 && btw c 1 4)
  | _ => false
def spIsSlope (K : PySem.W.Frag) : Sp := fun vs H Q _ => ∃ (v : V) (d : D), vs = [v] ∧ Rp K H v d ∧ Q (.bl (slopeD d)) H
def spOfSlope (K : PySem.W.Frag) (C : Addr) : Sp := fun vs H Q _ => ∃ (d i j k : Int) (v : V), vs = [.int d, v] ∧ Root d ∧ Rp K H v (.tup [.int i, .int j, .int k]) ∧ slopeD (.tup [.int i, .int j, .int k]) = true ∧
  ∀ (x : Addr) (H' : Hp), H x = none → SV H' C x d i j k → Same H H' → Q (.ref x) H'
/-- the two surds are one number -/
def EqS (C : Addr) : Addr → Addr → Hp → Prop := fun a b H => ∃ d i j k, SV H C a d i j k ∧ SV H C b d i j k
section
variable {P : Program} {w : World} {K : PySem.W.Frag} {mg : Str → Option Value} {base : Heap}
theorem slope_ne3 {ds : List D} (h : ds.length ≠ 3) : slopeD (.tup ds) = false := by
  match ds, h with
  | [], _ => rfl
  | [_], _ => rfl
  | [_, _], _ => rfl
  | [_, _, _], h => exact absurd rfl h
  | _ :: _ :: _ :: _ :: _, _ => rfl
abbrev s_is_slope : Stmt := top 16
abbrev n_is_slope : List Str := ["value", "i", "j", "k"]
theorem sc_is_slope : FnScope n_is_slope ["value"] (defScope s_is_slope) := ⟨rfl, rfl, rfl, by decide +kernel, rfl, by decide +kernel, by decide +kernel⟩
theorem ok_isslope {f : Addr} {fd : FuncData} {k : Nat} (F : Fun K "is_slope" "is_slope" s_is_slope f fd) (T1 : mg "isinstance" = none) (T2 : mg "tuple" = none) (T3 : mg "len" = none)
    (D1 : Df P w K mg base k "is_between" ["value", "low", "high"] (spBtw K)) : FnOk P w K mg base CX0 (k + 1) f fd ["value"] (spIsSlope K) := by
  refine F.ok sc_is_slope (fun vs H Q E h => ?_) (fun cdv A outer s H vs Q E hr h => ?_)
  · obtain ⟨v, d, rfl, _⟩ := h
    rfl
  · obtain ⟨v, d, rfl, hv, q⟩ := h
    have nd := sc_is_slope.nd
    refine ⟨_, (pss_cons (ps_if (pw_or (pt_not (pt_val (pe_callB call_isi (by rfl) T1 (by decide +kernel) (pa_cons (pv 0) (pa_cons (pe_bltn (v := .ty "tuple") (by rfl) T2 (by decide +kernel) rfl) pa_nil))))) (pw_or1 (pt_cmpR op_ne (pe_callB call_len_seq (by rfl) T3 PySem.boot_len (pa_cons (pv 0) pa_nil)) pe_int (nomark _)))).pt
      (pss_one (ps_ret pe_bl))
      pss_nil)
      (pss_cons (ps_asg (pv 0) (pg_tup rfl (pgs_cons (pg_name (i := 1) nd rfl (Or.inl rfl)) (pgs_cons (pg_name (i := 2) nd rfl (Or.inl rfl)) (pgs_cons (pg_name (i := 3) nd rfl (Or.inl rfl)) pgs_nil)))))
      (pss_one (ps_ret (pe_and (pe_callD D1 hr (Nat.le_refl _) (pa_cons (pv 1) (pa_cons (pe_un un_neg pe_int) (pa_cons pe_int pa_nil)))) (pe_and (pe_callD D1 hr (Nat.le_refl _) (pa_cons (pv 2) (pa_cons (pe_un un_neg pe_int) (pa_cons pe_int pa_nil)))) (pe_one (pe_callD D1 hr (Nat.le_refl _) (pa_cons (pv 3) (pa_cons pe_int (pa_cons pe_int pa_nil))))))))))), ?_⟩
    refine ⟨_, rfl, _, _, _, _, _, rfl, .ty _, tyX _ hv, kit_ty (kit_tuple _), _, rfl, ?_⟩
    cases d with
    | tup ds =>
      obtain ⟨a, xs, rfl, S, hl, rr⟩ := id hv
      have el := rr.len
      refine iteF ⟨_, rfl, a, _, rfl, .inr S, rfl, _, rfl, ?_⟩
      by_cases h3 : ds.length = 3
      · have e3 : V.int (xs.length : Int) = V.int 3 := by rw [el, h3]; rfl
        rw [e3]
        refine iteNS rfl ?_
        match ds, h3 with
        | [d1, d2, d3], _ =>
          obtain ⟨x1, r1, rfl, p1, x2, r2, rfl, p2, x3, r3, rfl, p3, rfl⟩ := rr
          refine ⟨_, rfl, a, _, rfl, S, rfl, _, _, rfl, _, _, rfl, _, _, rfl, rfl, ?_⟩
          refine ⟨_, rfl, _, rfl, x1, d1, _, _, rfl, p1, _, rfl, ?_⟩
          by_cases h1 : btw d1 (-9) 9 = true
          · refine iteP h1 ⟨_, rfl, _, rfl, x2, d2, _, _, rfl, p2, _, rfl, ?_⟩
            by_cases h2 : btw d2 (-3) 3 = true
            · refine iteP h2 ⟨_, rfl, x3, d3, _, _, rfl, p3, ?_⟩
              have e : slopeD (.tup [d1, d2, d3]) = btw d3 1 4 := by show (btw d1 (-9) 9 && (btw d2 (-3) 3 && btw d3 1 4)) = _; rw [h1, h2]; rfl
              rw [e] at q
              exact q
            · refine iteN h2 ?_
              have e : slopeD (.tup [d1, d2, d3]) = false := by show (btw d1 (-9) 9 && (btw d2 (-3) 3 && btw d3 1 4)) = _; rw [Bool.eq_false_iff.mpr h2]; simp
              rw [e] at q
              exact q
          · refine iteN h1 ?_
            have e : slopeD (.tup [d1, d2, d3]) = false := by show (btw d1 (-9) 9 && (btw d2 (-3) 3 && btw d3 1 4)) = _; rw [Bool.eq_false_iff.mpr h1]; rfl
            rw [e] at q
            exact q
      · rw [slope_ne3 h3] at q
        refine iteP ?_ q
        have : ¬ V.int (xs.length : Int) = V.int 3 := fun z => h3 (by
          have := V.int.inj z
          omega)
        rw [decide_eq_false this]; rfl
    | non => exact iteT q
    | bl _ => exact iteT q
    | int _ => exact iteT q
    | str _ => exact iteT q
    | lst _ => exact iteT q
theorem bd9 {i lo hi : Int} (h : btw (.int i) lo hi = true) (h1 : -512 ≤ lo) (h2 : hi ≤ 511) : Bd 10 i := by
  have : (decide (lo ≤ i) && decide (i ≤ hi)) = true := h
  simp only [Bool.and_eq_true, decide_eq_true_eq] at this
  unfold Bd
  omega
abbrev n_OfS : List Str := ["root", "slope", "i", "j", "k"]
theorem sc_OfS : FnScope n_OfS ["root", "slope"] (defScope (sS 1)) := ⟨rfl, rfl, rfl, by decide +kernel, rfl, by decide +kernel, by decide +kernel⟩
theorem ok_OfS {f C : Addr} {fd : FuncData} {k : Nat} (F : Fun K "of_slope" "Surd.of_slope" (sS 1) f fd) (T : TxS K mg C) (D1 : Df P w K mg base (k + 1) "is_root" ["value"] (spIsRoot K)) (D2 : Df P w K mg base (k + 1) "is_slope" ["value"] (spIsSlope K))
    (M : MkS P w K mg base C k) : FnOk P w K mg base CX0 (k + 2) f fd ["root", "slope"] (spOfSlope K C) := by
  refine F.ok sc_OfS (fun vs H Q E h => ?_) (fun cdv A outer s H vs Q E hr h => ?_)
  · obtain ⟨d, i, j, k, v, rfl, _⟩ := h
    rfl
  · obtain ⟨d, i, j, k, v, rfl, hd, hv, hs, q⟩ := h
    have nd := sc_OfS.nd
    obtain ⟨fi, fdi, M1, G, kb, _, _⟩ := M.ex
    refine ⟨_, (pss_cons (ps_if (pt_not (pt_val (pe_callD D1 hr (Nat.le_refl _) (pa_cons (pv 0) pa_nil))))
      (pss_one ps_never)
      pss_nil)
      (pss_cons (ps_if (pt_not (pt_val (pe_callD D2 hr (Nat.le_refl _) (pa_cons (pv 1) pa_nil))))
      (pss_one ps_never)
      pss_nil)
      (pss_cons (ps_asg (pv 1) (pg_tup rfl (pgs_cons (pg_name (i := 2) nd rfl (Or.inl rfl)) (pgs_cons (pg_name (i := 3) nd rfl (Or.inl rfl)) (pgs_cons (pg_name (i := 4) nd rfl (Or.inl rfl)) pgs_nil)))))
      (pss_one (ps_ret (pe_makeK M1 G hr rfl T.mg kb pass0 (pa_cons (pv 0) (pa_cons (pv 2) (pa_cons (pv 3) pa_nil))) (pk_cons (pv 4) pk_nil))))))), ?_⟩
    have er : rootD (.int d) = true := decide_eq_true (by unfold Root at hd; simp; omega)
    have hs' : (btw (.int i) (-9) 9 && (btw (.int j) (-3) 3 && btw (.int k) 1 4)) = true := hs
    simp only [Bool.and_eq_true] at hs'
    obtain ⟨s1, s2, s3⟩ := hs'
    have k1 : 1 ≤ k := by
      have : (decide (1 ≤ k) && decide (k ≤ 4)) = true := s3
      simp only [Bool.and_eq_true, decide_eq_true_eq] at this
      exact this.1
    refine ⟨_, rfl, _, .int d, rfl, rfl, _, rfl, ?_⟩
    rw [er]
    refine iteF ⟨_, rfl, _, _, rfl, hv, _, rfl, ?_⟩
    rw [hs]
    refine iteF ?_
    obtain ⟨a, xs, rfl, S, hl, x1, r1, rfl, p1, x2, r2, rfl, p2, x3, r3, rfl, p3, rfl⟩ := hv
    obtain rfl : x1 = .int i := p1
    obtain rfl : x2 = .int j := p2
    obtain rfl : x3 = .int k := p3
    refine ⟨_, rfl, a, _, rfl, S, rfl, _, _, rfl, _, _, rfl, _, _, rfl, rfl, ?_⟩
    refine ⟨_, rfl, _, rfl, _, rfl, _, rfl, rfl, rfl, fun x dx nx ndx nex => ?_⟩
    refine ⟨x, dx, d, i, j, k, rfl, upd_same, hd, by omega, (bd9 s1 (by decide) (by decide)).mono (by decide), (bd9 s2 (by decide) (by decide)).mono (by decide), (bd9 s3 (by decide) (by decide)).mono (by decide), fun H' Sx kp' => ⟨rfl, ?_⟩⟩
    exact q x H' nx ⟨by omega, Sx⟩ (Same.made nx ndx kp')
end
end RF

namespace RF
open PySem L2
section
variable {P : Program} {w : World} {K : PySem.W.Frag} {mg : Str → Option Value} {base : Heap}
abbrev s_law_of : Stmt := top 33
abbrev n_law_of : List Str := ["_law_bag_here", "_law_some"]
theorem sc_law_of : FnScope n_law_of ["_law_bag_here", "_law_some"] (defScope s_law_of) := ⟨rfl, rfl, rfl, by decide +kernel, rfl, by decide +kernel, by decide +kernel⟩
theorem ok_of {f : Addr} {fd : FuncData} {k : Nat} (F : Fun K "_law_of" "_law_of" s_law_of f fd) (T : TB mg) (D1 : Df P w K mg base k "_law_pull" ["_law_bag_here", "_law_sides"] spPull) : FnOk P w K mg base CX0 (k + 1) f fd ["_law_bag_here", "_law_some"] (spOf K) := by
  refine F.ok sc_law_of (fun vs H Q E h => ?_) (fun cdv A outer s H vs Q E hr h => ?_)
  · obtain ⟨b, a, xs, rfl, _⟩ := h
    rfl
  · obtain ⟨b, a, xs, rfl, B, hS, nab, h0, h1, k⟩ := h
    refine ⟨_, (pss_one (ps_ret (pe_ix ix_list (pv 1) (pe_callD D1 hr (Nat.le_refl _) (pa_cons (pv 0) (pa_cons (pe_callB call_len_seq (by rfl) T.len PySem.boot_len (pa_cons (pv 1) pa_nil)) pa_nil))) (fun _ _ => rfl)))), ?_⟩
    refine ⟨_, rfl, _, rfl, _, rfl, a, _, rfl, .inl hS, b, _, rfl, B, by omega, by omega, fun d H' d0 d1 B' kp => ?_⟩
    obtain ⟨j, rfl⟩ : ∃ j : Nat, d = (j : Int) := ⟨d.toNat, by omega⟩
    have hj : j < xs.length := by omega
    exact ⟨a, xs, _, _, rfl, rfl, kp.seq nab hS, atI_nat (List.getElem?_eq_getElem hj), k _ _ (List.getElem_mem hj) B' kp⟩
abbrev s_law_root : Stmt := top 40
abbrev n_law_root : List Str := ["_law_bag_here"]
theorem sc_law_root : FnScope n_law_root ["_law_bag_here"] (defScope s_law_root) := ⟨rfl, rfl, rfl, by decide +kernel, rfl, by decide +kernel, by decide +kernel⟩
theorem ok_root {f : Addr} {fd : FuncData} {k : Nat} (F : Fun K "_law_root" "_law_root" s_law_root f fd) (D1 : Df P w K mg base k "_law_of" ["_law_bag_here", "_law_some"] (spOf K)) : FnOk P w K mg base CX0 (k + 1) f fd ["_law_bag_here"] spRoot := by
  refine F.ok sc_law_root (fun vs H Q E h => ?_) (fun cdv A outer s H vs Q E hr h => ?_)
  · obtain ⟨b, rfl, _⟩ := h
    rfl
  · obtain ⟨b, rfl, B, k⟩ := h
    refine ⟨_, (pss_one (ps_ret (pe_callD D1 hr (Nat.le_refl _) (pa_cons (pv 0) (pa_cons (pe_lst (pa_cons pe_int (pa_cons pe_int (pa_cons pe_int (pa_cons pe_int (pa_cons pe_int pa_nil)))))) pa_nil))))), ?_⟩
    refine ⟨_, rfl, by show 5 ≤ sizeLine; decide, fun p hp => ?_⟩
    obtain ⟨xs, hb⟩ := B.some
    refine ⟨b, p, _, rfl, B.same (sNew (Same.refl _) hp), SqL.of upd_same, (ne_of_none hb hp).symm, by decide, by decide, fun v H' hv B' kp => ?_⟩
    have kp' : Kp b H H' := (Kp.of (sNew (Same.refl _) hp)).trans kp
    rcases List.mem_cons.mp hv with rfl | hv
    · exact k _ _ (by decide) B' kp'
    rcases List.mem_cons.mp hv with rfl | hv
    · exact k _ _ (by decide) B' kp'
    rcases List.mem_cons.mp hv with rfl | hv
    · exact k _ _ (by decide) B' kp'
    rcases List.mem_cons.mp hv with rfl | hv
    · exact k _ _ (by decide) B' kp'
    rcases List.mem_cons.mp hv with rfl | hv
    · exact k _ _ (by decide) B' kp'
    cases hv
abbrev s_law_far : Stmt := top 35
abbrev n_law_far : List Str := ["_law_bag_here", "_law_figures", "_law_many", "_law_found", "_law_k"]
theorem sc_law_far : FnScope n_law_far ["_law_bag_here", "_law_figures"] (defScope s_law_far) := ⟨rfl, rfl, rfl, by decide +kernel, rfl, by decide +kernel, by decide +kernel⟩
theorem ok_far {f : Addr} {fd : FuncData} {k : Nat} (F : Fun K "_law_far" "_law_far" s_law_far f fd) (T : mg "range" = none) (D1 : Df P w K mg base k "_law_pull" ["_law_bag_here", "_law_sides"] spPull) : FnOk P w K mg base CX0 (k + 1) f fd ["_law_bag_here", "_law_figures"] spFar := by
  refine F.ok sc_law_far (fun vs H Q E h => ?_) (fun cdv A outer s H vs Q E hr h => ?_)
  · obtain ⟨b, m, rfl, _⟩ := h
    rfl
  · obtain ⟨b, m, rfl, B, m0, m1, k⟩ := h
    have nd := sc_law_far.nd
    refine ⟨_, (pss_cons (ps_set (i := 2) nd rfl (Or.inl rfl) (pe_op op_add pe_int (pe_callD D1 hr (Nat.le_refl _) (pa_cons (pv 0) (pa_cons (pv 1) pa_nil)))))
      (pss_cons (ps_set (i := 3) nd rfl (Or.inl rfl) pe_int)
      (pss_cons (ps_for PassesOwn.never rfl (pi_range1 rfl T (pa_cons (pv 2) pa_nil)) (pg_name (i := 4) nd rfl (Or.inl rfl))
      (pss_one (ps_set (i := 3) nd rfl (Or.inl rfl) (pe_op op_add (pe_op op_mul (pv 3) pe_int) (pe_callD D1 hr (Nat.le_refl _) (pa_cons (pv 0) (pa_cons pe_int pa_nil)))))))
      (pss_one (ps_ret (pv 3)))))), ?_⟩
    refine ⟨_, rfl, _, rfl, b, _, rfl, B, m0, by omega, fun d H1 d0 d1 B1 kp1 => ⟨_, _, rfl, rfl, ?_⟩⟩
    refine ⟨_, rfl, _, rfl, by omega, by omega, for_range (n := (1 + d).toNat) (fun i σ H' => ∃ (n : Int) (v : Option V), σ = [some (.ref b), some (.int m), some (.int (1 + d)), some (.int n), v] ∧ 0 ≤ n ∧ n < 10 ^ i ∧ Bag H' b ∧ Kp b H H')
      ⟨0, none, rfl, by decide, by decide, B1, kp1⟩ ?_ ?_⟩
    · rintro i σ H2 hi ⟨n, v, rfl, n0, n1, B2, kp2⟩
      refine ⟨_, rfl, _, _, rfl, rfl, .inr (by decide), _, rfl, b, _, rfl, B2, by decide, by decide, fun e H3 e0 e1 B3 kp3 => ⟨_, _, rfl, rfl, ?_⟩⟩
      refine ⟨_, _, rfl, by omega, ?_, B3, kp2.trans kp3⟩
      rw [Int.pow_succ]
      omega
    · rintro σ H2 ⟨n, v, rfl, n0, n1, B2, kp2⟩
      refine ⟨_, rfl, k _ _ n0 (Int.lt_of_lt_of_le n1 ?_) B2 kp2⟩
      exact_mod_cast Nat.pow_le_pow_right (by decide : 0 < 10) (by omega : (1 + d).toNat ≤ m.toNat)
end
end RF

namespace RF
open PySem L2
section
variable {P : Program} {w : World} {K : PySem.W.Frag} {mg : Str → Option Value} {base : Heap}
abbrev s_law_same : Stmt := top 34
abbrev n_law_same : List Str := ["_law_found", "_law_due", "_law_a", "_law_b"]
theorem sc_law_same : FnScope n_law_same ["_law_found", "_law_due"] (defScope s_law_same) := ⟨rfl, rfl, rfl, by decide +kernel, rfl, by decide +kernel, by decide +kernel⟩
theorem ok_same1 {f : Addr} {fd : FuncData} {k : Nat} {n : Nat} (F : Fun K "_law_same" "_law_same" s_law_same f fd) (T : TSm mg) (D1 : Df P w K mg base k "_law_same" ["_law_found", "_law_due"] (spSameL K n)) : FnOk P w K mg base CX0 (k + 1) f fd ["_law_found", "_law_due"] (spSame K n) := by
  refine F.ok sc_law_same (fun vs H Q E h => ?_) (fun cdv A outer s H vs Q E hr h => ?_)
  · obtain ⟨v, u, d, rfl, _⟩ := h
    rfl
  · obtain ⟨v, u, d, rfl, h1, h2, hd, k⟩ := h
    have nd := sc_law_same.nd
    refine ⟨_, (pss_cons (ps_if (pw_or (pt_cmpR op_isN (pv 1) pe_non (nomark _)) (pw_or1 (pt_cmpR op_isN (pv 0) pe_non (nomark _)))).pt
      (pss_one (ps_ret (pe_and (pe_cmpR op_isN (pv 1) pe_non (nomark _)) (pe_one (pe_cmpR op_isN (pv 0) pe_non (nomark _))))))
      pss_nil)
      (pss_cons (ps_if (pw_or (pt_val (pe_callB call_isi (by rfl) T.isinstance (by decide +kernel) (pa_cons (pv 1) (pa_cons (pe_bltn (v := .ty "bool") (by rfl) T.bool (by decide +kernel) rfl) pa_nil)))) (pw_or1 (pt_val (pe_callB call_isi (by rfl) T.isinstance (by decide +kernel) (pa_cons (pv 0) (pa_cons (pe_bltn (v := .ty "bool") (by rfl) T.bool (by decide +kernel) rfl) pa_nil)))))).pt
      (pss_one (ps_ret (pe_and (pe_callB call_isi (by rfl) T.isinstance (by decide +kernel) (pa_cons (pv 1) (pa_cons (pe_bltn (v := .ty "bool") (by rfl) T.bool (by decide +kernel) rfl) pa_nil))) (pe_and (pe_callB call_isi (by rfl) T.isinstance (by decide +kernel) (pa_cons (pv 0) (pa_cons (pe_bltn (v := .ty "bool") (by rfl) T.bool (by decide +kernel) rfl) pa_nil))) (pe_one (pe_cmpR op_eq (pv 0) (pv 1) (nomark _)))))))
      pss_nil)
      (pss_cons (ps_if (pw_or (pt_val (pe_callB call_isiT (by rfl) T.isinstance (by decide +kernel) (pa_cons (pv 1) (pa_cons (pe_tup (pa_cons (pe_bltn (v := .ty "list") (by rfl) T.list (by decide +kernel) rfl) (pa_cons (pe_bltn (v := .ty "tuple") (by rfl) T.tuple (by decide +kernel) rfl) pa_nil))) pa_nil)))) (pw_or1 (pt_val (pe_callB call_isiT (by rfl) T.isinstance (by decide +kernel) (pa_cons (pv 0) (pa_cons (pe_tup (pa_cons (pe_bltn (v := .ty "list") (by rfl) T.list (by decide +kernel) rfl) (pa_cons (pe_bltn (v := .ty "tuple") (by rfl) T.tuple (by decide +kernel) rfl) pa_nil))) pa_nil)))))).pt
      (pss_cons (ps_if (pw_or (pt_cmpR op_ne (pe_callB call_isi (by rfl) T.isinstance (by decide +kernel) (pa_cons (pv 1) (pa_cons (pe_bltn (v := .ty "list") (by rfl) T.list (by decide +kernel) rfl) pa_nil))) (pe_callB call_isi (by rfl) T.isinstance (by decide +kernel) (pa_cons (pv 0) (pa_cons (pe_bltn (v := .ty "list") (by rfl) T.list (by decide +kernel) rfl) pa_nil))) (nomark _)) (pw_or1 (pt_cmpR op_ne (pe_callB call_isi (by rfl) T.isinstance (by decide +kernel) (pa_cons (pv 1) (pa_cons (pe_bltn (v := .ty "tuple") (by rfl) T.tuple (by decide +kernel) rfl) pa_nil))) (pe_callB call_isi (by rfl) T.isinstance (by decide +kernel) (pa_cons (pv 0) (pa_cons (pe_bltn (v := .ty "tuple") (by rfl) T.tuple (by decide +kernel) rfl) pa_nil))) (nomark _)))).pt
        (pss_one (ps_ret pe_bl))
        pss_nil)
        (pss_one (ps_ret (pe_and (pe_cmpR op_eq (pe_callB call_len_seq (by rfl) T.len PySem.boot_len (pa_cons (pv 0) pa_nil)) (pe_callB call_len_seq (by rfl) T.len PySem.boot_len (pa_cons (pv 1) pa_nil)) (nomark _)) (pe_one (pe_callB (cr_all rfl) (by rfl) T.all (by decide +kernel) (pa_cons (pe_lc (own := [("_law_a", 2), ("_law_b", 3)]) (g := gTup K 2 (gCons (gName 2) (gCons (gName 3) gNil))) (tt := tYes) (by rfl) nd (RZ.pi_zipA (by rfl) T.zip (pa_cons (pv 0) (pa_cons (pv 1) pa_nil))) (blkOk_by (own := [("_law_a", 2), ("_law_b", 3)]) (N := n_law_same) (sc := defScope s_law_same) (by decide +kernel)) (fun _ _ _ _ _ => (pg_tup rfl (pgs_cons (pg_name (i := 2) nd rfl (Or.inl rfl)) (pgs_cons (pg_name (i := 3) nd rfl (Or.inl rfl)) pgs_nil)))) (fun _ _ _ _ _ => pts_nil) (fun _ _ _ _ _ => (pe_callD D1 hr (Nat.le_refl _) (pa_cons (pv 2) (pa_cons (pv 3) pa_nil))))) pa_nil)))))))
      pss_nil)
      (pss_cons (ps_if (pw_or (pt_cmpR op_ne (pe_callB call_isi (by rfl) T.isinstance (by decide +kernel) (pa_cons (pv 1) (pa_cons (pe_bltn (v := .ty "int") (by rfl) T.int (by decide +kernel) rfl) pa_nil))) (pe_callB call_isi (by rfl) T.isinstance (by decide +kernel) (pa_cons (pv 0) (pa_cons (pe_bltn (v := .ty "int") (by rfl) T.int (by decide +kernel) rfl) pa_nil))) (nomark _)) (pw_or1 (pt_cmpR op_ne (pe_callB call_isi (by rfl) T.isinstance (by decide +kernel) (pa_cons (pv 1) (pa_cons (pe_bltn (v := .ty "str") (by rfl) T.str (by decide +kernel) rfl) pa_nil))) (pe_callB call_isi (by rfl) T.isinstance (by decide +kernel) (pa_cons (pv 0) (pa_cons (pe_bltn (v := .ty "str") (by rfl) T.str (by decide +kernel) rfl) pa_nil))) (nomark _)))).pt
      (pss_one (ps_ret pe_bl))
      pss_nil)
      (pss_one (ps_ret (pe_cmpR op_eq (pv 0) (pv 1) (nomark _)))))))), ?_⟩
    by_cases en : d = .non
    · subst en
      obtain rfl : v = .non := h1
      obtain rfl : u = .non := h2
      refine ⟨_, rfl, rfl, _, rfl, iteP rfl (iteP rfl ?_)⟩
      exact ⟨_, rfl, rfl, _, rfl, iteP rfl ⟨_, rfl, rfl, k _ (Same.refl _)⟩⟩
    · have nv : ∀ x, Rp K H x d → ¬ x = V.non := fun x h z => by
        subst z
        cases d with
        | non => exact en rfl
        | bl _ => cases (show V.non = V.bl _ from h)
        | int _ => cases (show V.non = V.int _ from h)
        | str _ => cases (show V.non = V.str _ from h)
        | lst _ => obtain ⟨_, _, q, _⟩ := h; cases q
        | tup _ => obtain ⟨_, _, q, _⟩ := h; cases q
      refine ⟨_, rfl, rfl, _, rfl, iteN (nd_of (nv _ h2)) ⟨_, rfl, rfl, _, rfl, iteN (nd_of (nv _ h1)) ?_⟩⟩
      -- bool
      by_cases eb : isBool d = true
      · cases d with
        | bl b =>
          have g1 := h1
          have g2 := h2
          obtain rfl : v = .bl b := h1
          obtain rfl : u = .bl b := h2
          refine ⟨_, rfl, _, _, _, _, _, rfl, .ty _, tyX _ g2, kit_ty (kit_bool _), _, rfl, iteP rfl (iteP rfl ?_)⟩
          exact ⟨_, rfl, _, _, _, _, _, rfl, .ty _, tyX _ g2, kit_ty (kit_bool _), _, rfl, iteP rfl ⟨_, rfl, _, _, _, _, _, rfl, .ty _, tyX _ g1, kit_ty (kit_bool _), _, rfl, iteP rfl ⟨_, rfl, _, rfl, rfl, eqT (k _ (Same.refl _))⟩⟩⟩
        | non => cases eb
        | int _ => cases eb
        | str _ => cases eb
        | lst _ => cases eb
        | tup _ => cases eb
      · refine ⟨_, rfl, _, _, _, _, _, rfl, .ty _, tyX _ h2, kit_ty (kit_bool _), _, rfl, iteN eb ⟨_, rfl, _, _, _, _, _, rfl, .ty _, tyX _ h1, kit_ty (kit_bool _), _, rfl, iteN eb ?_⟩⟩
        -- lists and tuples
        refine ⟨_, rfl, (by show 2 ≤ sizeLine; decide), fun p hp => ?_⟩
        have s2 : Same H (upd H p (.tup [.ty "list", .ty "tuple"])) := sNew (Same.refl _) hp
        have j1 := Rp.same s2 _ h1
        have j2 := Rp.same s2 _ h2
        refine ⟨_, _, _, _, _, _, rfl, upd_same, .cons (.ty _) (.cons (.ty _) .nil), tyX _ j2, kit_lt _, _, rfl, ?_⟩
        by_cases et : (isLst d || isTup d) = true
        · refine iteP et (iteP rfl ?_)
          refine ⟨_, rfl, _, _, _, _, _, rfl, .ty _, tyX _ j2, kit_ty (kit_list _), _, rfl, _, _, _, _, _, rfl, .ty _, tyX _ j1, kit_ty (kit_list _), rfl, _, rfl, iteNS rfl ?_⟩
          refine ⟨_, rfl, _, _, _, _, _, rfl, .ty _, tyX _ j2, kit_ty (kit_tuple _), _, rfl, _, _, _, _, _, rfl, .ty _, tyX _ j1, kit_ty (kit_tuple _), rfl, _, rfl, iteNS rfl ?_⟩
          cases d with
          | lst ds =>
            obtain ⟨a, xs, rfl, S1, l1, r1⟩ := id h1
            obtain ⟨b, ys, rfl, S2, l2, r2⟩ := id h2
            have T1 := s2.seq S1
            have T2 := s2.seq S2
            have el : xs.length = ys.length := by rw [r1.len, r2.len]
            refine ⟨_, rfl, _, _, rfl, .inl T1, _, rfl, _, _, rfl, .inl T2, rfl, _, rfl, iteP (decide_eq_true (by rw [el])) ?_⟩
            refine ⟨_, rfl, _, rfl, a, b, xs, ys, rfl, .inl ⟨T1, T2, fun Dd hD => ?_⟩⟩
            cases n with
            | zero => exact absurd hd (by show ¬ (depL ds + 1 ≤ 0); omega)
            | succ n =>
              have nz : ∀ H', Same H H' → H' Dd = none → True := fun _ _ _ => trivial
              refine lc_it (walk_zip (n := xs.length) (by rw [el, Nat.min_self])) (fun i H' => (∃ acc : List Bool, H' Dd = some (.lst (acc.map V.bl)) ∧ acc.length = i ∧ acc.all id = true) ∧ Same (upd H p (.tup [.ty "list", .ty "tuple"])) H' ∧ i ≤ xs.length)
                ⟨⟨[], upd_same, rfl, rfl⟩, sNew (Same.refl _) hD, Nat.zero_le _⟩ (fun i H' _ z => ⟨(z.2.1).seq T1, (z.2.1).seq T2⟩) ?_ ?_
              · rintro i x H3 H4 hi ⟨⟨acc, e1, e2, e3⟩, sm, _⟩ ⟨Tt, x1, x2, rfl, nT, rfl, g1, g2⟩
                obtain ⟨d1, q1, p1⟩ := r1.at_ g1
                obtain ⟨d2, q2, p2⟩ := r2.at_ g2
                have ed : d1 = d2 := Option.some.inj (q1.symm.trans q2)
                subst ed
                have sm4 : Same H (upd H3 Tt (.tup [x1, x2])) := (s2.trans sm).trans (sNew (Same.refl _) nT)
                refine ⟨Tt, [x1, x2], rfl, SqT.of upd_same, rfl, _, _, rfl, _, _, rfl, rfl, rfl, ?_⟩
                refine yes_if ?_
                refine ⟨_, rfl, _, rfl, x1, x2, d1, rfl, Rp.same sm4 _ p1, Rp.same sm4 _ p2, ?_, fun H5 s5 => ?_⟩
                · have := dep_mem q1
                  have hd' : depL ds + 1 ≤ n + 1 := hd
                  omega
                · have eD : H5 Dd = some (.lst (acc.map V.bl)) := s5 _ _ (by rw [upd_ne (ne_of_none e1 nT)]; exact e1)
                  refine ⟨_, eD, by rw [List.length_map]; exact Nat.lt_of_lt_of_le (show acc.length < 100001 by omega) (by decide), ⟨⟨acc ++ [true], ?_, by rw [List.length_append, e2]; rfl, by rw [List.all_append, e3]; rfl⟩, fun c o e => ?_, hi⟩⟩
                  · rw [upd_same, List.map_append]; rfl
                  · have nc : c ≠ Dd := fun z => by rw [z, hD] at e; cases e
                    rw [upd_ne nc]
                    exact s5 _ _ (by rw [upd_ne (ne_of_none (sm _ _ e) nT)]; exact sm _ _ e)
              · rintro H3 ⟨⟨acc, e1, e2, e3⟩, sm, _⟩
                exact ⟨Dd, acc, rfl, SqL.of e1, by rw [e3]; exact k _ (s2.trans sm)⟩
          | tup ds =>
            obtain ⟨a, xs, rfl, S1, l1, r1⟩ := id h1
            obtain ⟨b, ys, rfl, S2, l2, r2⟩ := id h2
            have T1 := sameT s2 S1
            have T2 := sameT s2 S2
            have el : xs.length = ys.length := by rw [r1.len, r2.len]
            refine ⟨_, rfl, _, _, rfl, .inr T1, _, rfl, _, _, rfl, .inr T2, rfl, _, rfl, iteP (decide_eq_true (by rw [el])) ?_⟩
            refine ⟨_, rfl, _, rfl, a, b, xs, ys, rfl, .inr ⟨T1, T2, fun Dd hD => ?_⟩⟩
            cases n with
            | zero => exact absurd hd (by show ¬ (depL ds + 1 ≤ 0); omega)
            | succ n =>
              have nz : ∀ H', Same H H' → H' Dd = none → True := fun _ _ _ => trivial
              refine lc_it (walk_zipT (n := xs.length) (by rw [el, Nat.min_self])) (fun i H' => (∃ acc : List Bool, H' Dd = some (.lst (acc.map V.bl)) ∧ acc.length = i ∧ acc.all id = true) ∧ Same (upd H p (.tup [.ty "list", .ty "tuple"])) H' ∧ i ≤ xs.length)
                ⟨⟨[], upd_same, rfl, rfl⟩, sNew (Same.refl _) hD, Nat.zero_le _⟩ (fun i H' _ z => ⟨sameT (z.2.1) T1, sameT (z.2.1) T2⟩) ?_ ?_
              · rintro i x H3 H4 hi ⟨⟨acc, e1, e2, e3⟩, sm, _⟩ ⟨Tt, x1, x2, rfl, nT, rfl, g1, g2⟩
                obtain ⟨d1, q1, p1⟩ := r1.at_ g1
                obtain ⟨d2, q2, p2⟩ := r2.at_ g2
                have ed : d1 = d2 := Option.some.inj (q1.symm.trans q2)
                subst ed
                have sm4 : Same H (upd H3 Tt (.tup [x1, x2])) := (s2.trans sm).trans (sNew (Same.refl _) nT)
                refine ⟨Tt, [x1, x2], rfl, SqT.of upd_same, rfl, _, _, rfl, _, _, rfl, rfl, rfl, ?_⟩
                refine yes_if ?_
                refine ⟨_, rfl, _, rfl, x1, x2, d1, rfl, Rp.same sm4 _ p1, Rp.same sm4 _ p2, ?_, fun H5 s5 => ?_⟩
                · have := dep_mem q1
                  have hd' : depL ds + 1 ≤ n + 1 := hd
                  omega
                · have eD : H5 Dd = some (.lst (acc.map V.bl)) := s5 _ _ (by rw [upd_ne (ne_of_none e1 nT)]; exact e1)
                  refine ⟨_, eD, by rw [List.length_map]; exact Nat.lt_of_lt_of_le (show acc.length < 100001 by omega) (by decide), ⟨⟨acc ++ [true], ?_, by rw [List.length_append, e2]; rfl, by rw [List.all_append, e3]; rfl⟩, fun c o e => ?_, hi⟩⟩
                  · rw [upd_same, List.map_append]; rfl
                  · have nc : c ≠ Dd := fun z => by rw [z, hD] at e; cases e
                    rw [upd_ne nc]
                    exact s5 _ _ (by rw [upd_ne (ne_of_none (sm _ _ e) nT)]; exact sm _ _ e)
              · rintro H3 ⟨⟨acc, e1, e2, e3⟩, sm, _⟩
                exact ⟨Dd, acc, rfl, SqL.of e1, by rw [e3]; exact k _ (s2.trans sm)⟩
          | non => cases et
          | bl _ => cases et
          | int _ => cases et
          | str _ => cases et
        · refine iteN et ?_
          refine ⟨_, rfl, (by show 2 ≤ sizeLine; decide), fun q hq => ?_⟩
          have s3 := sNew (o := .tup [.ty "list", .ty "tuple"]) s2 hq
          have i1 := Rp.same s3 _ h1
          have i2 := Rp.same s3 _ h2
          refine ⟨_, _, _, _, _, _, rfl, upd_same, .cons (.ty _) (.cons (.ty _) .nil), tyX _ i1, kit_lt _, _, rfl, iteN et ?_⟩
          refine ⟨_, rfl, _, _, _, _, _, rfl, .ty _, tyX _ i2, kit_ty (kit_int _), _, rfl, _, _, _, _, _, rfl, .ty _, tyX _ i1, kit_ty (kit_int _), rfl, _, rfl, iteNS rfl ?_⟩
          refine ⟨_, rfl, _, _, _, _, _, rfl, .ty _, tyX _ i2, kit_ty (kit_str _), _, rfl, _, _, _, _, _, rfl, .ty _, tyX _ i1, kit_ty (kit_str _), rfl, _, rfl, iteNS rfl ?_⟩
          cases d with
          | int z =>
            obtain rfl : v = .int z := h1
            obtain rfl : u = .int z := h2
            exact ⟨_, rfl, _, rfl, rfl, eqT (k _ s3)⟩
          | str z =>
            obtain rfl : v = .str z := h1
            obtain rfl : u = .str z := h2
            exact ⟨_, rfl, _, rfl, rfl, eqT (k _ s3)⟩
          | non => exact absurd rfl en
          | bl _ => exact absurd rfl eb
          | lst _ => exact absurd rfl et
          | tup _ => exact absurd rfl et
theorem ok_same {f : Addr} {fd : FuncData} (F : Fun K "_law_same" "_law_same" s_law_same f fd) (T : TSm mg) (hb : Binds K fd ["_law_found", "_law_due"] []) (hm : mg "_law_same" = some (.ref f)) : ∀ n : Nat, FnOk P w K mg base CX0 (n + 1) f fd ["_law_found", "_law_due"] (spSame K n)
  | 0 => ok_same1 (k := 0) F T ⟨_, _, fn_false, hb, hm, F.kp⟩
  | n + 1 => ok_same1 (k := n + 1) F T ⟨_, _, ok_same F T hb hm n, hb, hm, F.kp⟩
end
end RF

namespace RF
open PySem L2 PyProof.Rows
def spRP : Sp := fun vs H Q _ => ∃ (n : Int), vs = [.int n] ∧ 0 ≤ n ∧ Bd 4000 n ∧ Q (.int (rt n)) H
/-- the floor of the slope times n, by the law -/
def lfl (d i j k n : Int) : Int := (i * n + flr d (j * n)) / k
def spLFl (K : PySem.W.Frag) : Sp := fun vs H Q _ => ∃ (d i j k n : Int) (v : V), vs = [.int d, v, .int n] ∧ Root d ∧ Rp K H v (.tup [.int i, .int j, .int k]) ∧ 0 < k ∧ k < 1073741824 ∧ Bd 900 i ∧ Bd 900 j ∧ Bd 900 n ∧ Q (.int (lfl d i j k n)) H
def spLSg : Sp := fun vs H Q _ => ∃ (d i j : Int), vs = [.int d, .int i, .int j] ∧ Root d ∧ Bd 900 i ∧ Bd 900 j ∧ Q (.int (sg d i j)) H
section
variable {P : Program} {w : World} {K : PySem.W.Frag} {mg : Str → Option Value} {base : Heap}
abbrev s_law_root_part : Stmt := top 36
abbrev n_law_root_part : List Str := ["_law_number", "_law_found", "_law_later"]
theorem sc_law_root_part : FnScope n_law_root_part ["_law_number"] (defScope s_law_root_part) := ⟨rfl, rfl, rfl, by decide +kernel, rfl, by decide +kernel, by decide +kernel⟩
theorem rp_start {n : Int} (h : 2 ≤ n) : (n + 1) / 2 = (n + n / n) / 2 ∧ n < (n + 1) * (n + 1) := by
  have e : n / n = 1 := Int.ediv_self (by omega)
  rw [e]
  refine ⟨rfl, ?_⟩
  have : n * 1 ≤ n * n := Int.mul_le_mul_of_nonneg_left (by omega) (by omega)
  have e2 : (n + 1) * (n + 1) = n * n + 2 * n + 1 := by grind
  omega
theorem rp_step {n x : Int} (hn : 0 ≤ n) (hx : 0 < x) : 0 ≤ (x + n / x) / 2 ∧ n < ((x + n / x) / 2 + 1) * ((x + n / x) / 2 + 1) := by
  have q0 : 0 ≤ n / x := Int.ediv_nonneg hn (by omega)
  have h1 := Int.mul_ediv_add_emod n x
  have h2 := Int.emod_lt_of_pos n hx
  have h3 : n < x * (n / x + 1) := by
    have : x * (n / x + 1) = x * (n / x) + x := by grind
    omega
  exact ⟨by omega, amgm x (n / x) _ n hx q0 h3 (by omega)⟩
theorem rp_end {n x : Int} (hx : 0 < x) (h : ¬ (x + n / x) / 2 < x) : x * x ≤ n := by
  have h1 := Int.mul_ediv_add_emod n x
  have h2 := Int.emod_nonneg n (show x ≠ 0 by omega)
  have h3 : x ≤ n / x := by omega
  have : x * x ≤ x * (n / x) := Int.mul_le_mul_of_nonneg_left h3 (by omega)
  omega
theorem rp_pos {n y : Int} (hn : 2 ≤ n) (h0 : 0 ≤ y) (h : n < (y + 1) * (y + 1)) : 0 < y := by
  rcases Int.lt_or_le 0 y with z | z
  · exact z
  · have : y = 0 := by omega
    subst this
    omega
theorem ok_rp {f : Addr} {fd : FuncData} {k : Nat} (F : Fun K "_law_root_part" "_law_root_part" s_law_root_part f fd) : FnOk P w K mg base CX0 (k + 1) f fd ["_law_number"] spRP := by
  refine F.ok sc_law_root_part (fun vs H Q E h => ?_) (fun cdv A outer s H vs Q E hr h => ?_)
  · obtain ⟨n, rfl, _⟩ := h
    rfl
  · obtain ⟨n, rfl, n0, bn, q⟩ := h
    have nd := sc_law_root_part.nd
    refine ⟨_, (pss_cons (ps_if (pt_cmpR op_lt (pv 0) pe_int (nomark _))
      (pss_one (ps_ret (pv 0)))
      pss_nil)
      (pss_cons (ps_set (i := 1) nd rfl (Or.inl rfl) (pv 0))
      (pss_cons (ps_set (i := 2) nd rfl (Or.inl rfl) (pe_op op_fdiv (pe_op op_add (pv 0) pe_int) pe_int))
      (pss_cons (ps_while PassesOwn.never (pt_cmpR op_lt (pv 2) (pv 1) (nomark _))
      (pss_cons (ps_set (i := 1) nd rfl (Or.inl rfl) (pv 2))
        (pss_one (ps_set (i := 2) nd rfl (Or.inl rfl) (pe_op op_fdiv (pe_op op_add (pv 1) (pe_op op_fdivW (pv 0) (pv 1))) pe_int)))))
      (pss_one (ps_ret (pv 1))))))), ?_⟩
    refine ⟨_, rfl, _, _, rfl, rfl, _, rfl, ite2 (fun h => ?_) (fun h => ?_)⟩
    · have hn : n < 2 := of_decide_eq_true h
      have : n = rt n := rt_uniq n0 n0 (by rcases (by omega : n = 0 ∨ n = 1) with z | z <;> rw [z] <;> decide) (by rcases (by omega : n = 0 ∨ n = 1) with z | z <;> rw [z] <;> decide)
      refine ⟨_, rfl, ?_⟩
      rw [← this] at q
      exact q
    · have hn : 2 ≤ n := by
        have : ¬ n < 2 := fun z => h (decide_eq_true z)
        omega
      obtain ⟨e0, e1⟩ := rp_start hn
      refine ⟨_, rfl, _, rfl, _, _, rfl, rfl, _, _, rfl, rfl, ⟨by decide, by decide⟩, ?_⟩
      refine while_by (fun σ H' => ∃ x : Int, σ = [some (.int n), some (.int x), some (.int ((x + n / x) / 2))] ∧ H' = H ∧ 0 < x ∧ x ≤ n ∧ n < (x + 1) * (x + 1)) (fun σ _ => match σ with | [_, some (.int x), _] => x.toNat | _ => 0)
        ⟨n, by rw [← e0]; rfl, rfl, by omega, Int.le_refl _, e1⟩ ?_ ?_
      · rintro σ H1 ⟨x, rfl, rfl, x0, xn, x1⟩
        refine ⟨_, rfl, _, rfl, _, _, rfl, rfl, _, rfl, ite2 (fun h => ?_) (fun h => ?_)⟩
        · have lt : (x + n / x) / 2 < x := of_decide_eq_true h
          obtain ⟨y0, y1⟩ := rp_step n0 x0
          have yp := rp_pos hn y0 y1
          refine ⟨_, rfl, _, rfl, _, rfl, _, rfl, _, _, rfl, rfl, ⟨yp, ?_⟩, _, _, rfl, rfl, _, _, rfl, rfl, ⟨by decide, by decide⟩, ⟨_, rfl, rfl, yp, by omega, y1⟩, ?_⟩
          · exact Nat.lt_of_lt_of_le ((bn.le (show ((x + n / x) / 2).natAbs ≤ n.natAbs by omega)).log (by decide)) (by decide)
          · show ((x + n / x) / 2).toNat < x.toNat
            omega
        · have nl : ¬ (x + n / x) / 2 < x := fun z => h (decide_eq_true z)
          have : x = rt n := rt_uniq n0 (by omega) (rp_end x0 nl) x1
          refine ⟨_, rfl, ?_⟩
          rw [this]
          exact q
      · rintro σ H1 Q1 Q2 hq ⟨v, e1, v2, e2, i, j, e3, e4, b, e5, q⟩
        exact ⟨v, e1, v2, e2, i, j, e3, e4, b, e5, hq _ _ q⟩
abbrev s_law_floor : Stmt := top 37
abbrev n_law_floor : List Str := ["_law_root_here", "_law_slope", "_law_number", "_law_factor", "_law_part"]
theorem sc_law_floor : FnScope n_law_floor ["_law_root_here", "_law_slope", "_law_number"] (defScope s_law_floor) := ⟨rfl, rfl, rfl, by decide +kernel, rfl, by decide +kernel, by decide +kernel⟩
theorem ok_lfl {f : Addr} {fd : FuncData} {k : Nat} (F : Fun K "_law_floor" "_law_floor" s_law_floor f fd) (D1 : Df P w K mg base k "_law_root_part" ["_law_number"] spRP) : FnOk P w K mg base CX0 (k + 1) f fd ["_law_root_here", "_law_slope", "_law_number"] (spLFl K) := by
  refine F.ok sc_law_floor (fun vs H Q E h => ?_) (fun cdv A outer s H vs Q E hr h => ?_)
  · obtain ⟨d, i, j, k, n, v, rfl, _⟩ := h
    rfl
  · obtain ⟨d, i, j, k, n, v, rfl, hd, hv, k0, k1, bi, bj, bn, q⟩ := h
    have nd := sc_law_floor.nd
    obtain ⟨a, xs, rfl, S, hl, x1, r1, rfl, p1, x2, r2, rfl, p2, x3, r3, rfl, p3, rfl⟩ := hv
    obtain rfl : x1 = .int i := p1
    obtain rfl : x2 = .int j := p2
    obtain rfl : x3 = .int k := p3
    refine ⟨_, (pss_cons (ps_set (i := 3) nd rfl (Or.inl rfl) (pe_op op_mulW (pe_ix ix_tup (pv 1) pe_int (fun _ _ => rfl)) (pv 2)))
      (pss_cons (ps_set (i := 4) nd rfl (Or.inl rfl) (pe_callD D1 hr (Nat.le_refl _) (pa_cons (pe_op op_mulW (pe_op op_mulW (pv 3) (pv 3)) (pv 0)) pa_nil)))
      (C8.pss_cut (ps_if (pt_cmpR op_lt (pv 3) pe_int (nomark _))
      (pss_one (ps_set (i := 4) nd rfl (Or.inl rfl) (pe_op op_sub (pe_un un_neg (pv 4)) pe_int)))
      pss_nil)
      (pss_one (ps_ret (pe_op op_fdiv (pe_op op_add (pe_op op_mulW (pe_ix ix_tup (pv 1) pe_int (fun _ _ => rfl)) (pv 2)) (pv 4)) (pe_ix ix_tup (pv 1) pe_int (fun _ _ => rfl)))))))), ?_⟩
    have bf : Bd 1800 (j * n) := bj.mul bn
    have b2 : Bd 3604 (j * n * (j * n) * d) := (bf.mul bf).mul (rootBd hd)
    refine ⟨_, rfl, a, _, _, _, rfl, rfl, S, rfl, _, rfl, _, _, rfl, rfl, mulOk bj bn (by decide) (by decide) (by decide), ?_⟩
    refine ⟨_, rfl, _, rfl, _, _, rfl, rfl, mulOk bf bf (by decide) (by decide) (by decide), _, rfl, _, _, rfl, rfl, mulOk (bf.mul bf) (rootBd hd) (by decide) (by decide) (by decide), _, rfl, ?_, b2.mono (by decide), ?_⟩
    · have := dff_nn hd (f := j * n)
      have e : j * n * (j * n) * d = d * (j * n) * (j * n) := by grind
      rw [e]
      exact this
    · rw [flr_ring]
      refine ⟨fun σ' H' => σ' = [some (.int d), some (.ref a), some (.int n), some (.int (j * n)), some (.int (flr d (j * n)))] ∧ H' = H, ?_, ?_⟩
      · refine ⟨_, rfl, _, _, rfl, rfl, _, rfl, ite2 (fun h => ?_) (fun h => ?_)⟩
        · have hy : j * n < 0 := of_decide_eq_true h
          refine ⟨_, rfl, _, rfl, _, _, rfl, rfl, ?_, rfl⟩
          unfold flr
          rw [if_pos hy]
          rfl
        · have hy : ¬ j * n < 0 := fun z => h (decide_eq_true z)
          refine ⟨?_, rfl⟩
          unfold flr
          rw [if_neg hy]
          rfl
      · rintro σ' H1 ⟨rfl, rfl⟩
        exact ⟨_, rfl, a, _, _, _, rfl, rfl, S, rfl, _, rfl, _, _, rfl, rfl, mulOk bi bn (by decide) (by decide) (by decide), _, rfl, _, _, rfl, rfl, _, rfl, a, _, _, _, rfl, rfl, S, rfl, _, _, rfl, rfl, ⟨k0, k1⟩, q⟩
end
end RF

namespace RF
open PySem L2 PyProof.Rows
theorem Kp.at_ {b a : Addr} {H H' : Hp} {o : HO} (k : Kp b H H') (B : Bag H b) (h : H a = some o) (n : ∀ xs, o ≠ .lst xs) : H' a = some o := by
  obtain ⟨xs, hb⟩ := B.some
  exact k a o (ne_of h hb (n xs)) h
theorem SV.kp {H H' : Hp} {C p b : Addr} {d i j k : Int} (B : Bag H b) (kp : Kp b H H') (h : SV H C p d i j k) : SV H' C p d i j k := by
  obtain ⟨k0, dx, t, h1, h2⟩ := h
  exact ⟨k0, dx, t, kp.at_ B h1 (fun _ z => by cases z), kp.at_ B h2 (fun _ z => by cases z)⟩
theorem SV.ins {H : Hp} {C p : Addr} {d i j k : Int} (h : SV H C p d i j k) : ∃ dx fs, H p = some (.ins C dx fs) ∧ ∀ m : Str, ¬ m = "_parts" → ¬ m = "_root" → fs.lookup m = none := by
  obtain ⟨_, dx, t, h1, _⟩ := h
  exact ⟨dx, _, h1, fun m a b => sfl_no _ _ a b⟩
theorem flr_bd {n : Nat} {d f : Int} (hd : Root d) (h : Bd n f) : Bd (n + 3) (flr d f) := by
  have r0 := rt_nn (d * f * f)
  have r1 := rt_le (dff_nn hd (f := f))
  have h4 : rt (d * f * f) ≤ 4 * ab f := by
    apply le_of_sq (by have := ab_nn f; omega)
    have e : (4 * ab f) * (4 * ab f) = 16 * (f * f) := by unfold ab; split <;> grind
    have : d * f * f ≤ 16 * (f * f) := by
      rw [dff]
      exact Int.mul_le_mul_of_nonneg_right (by have := hd.le; omega) (sq_nonneg f)
    omega
  have ha : ab f = (f.natAbs : Int) := by unfold ab; split <;> omega
  unfold Bd at *
  have hp : 2 ^ (n + 3) = 8 * 2 ^ n := by rw [Nat.pow_add]; omega
  unfold flr
  split <;> omega
/-- a method of the class at C, by its promise -/
structure Mt (P : Program) (w : World) (K : PySem.W.Frag) (mg : Str → Option Value) (base : Heap) (C : Addr) (k : Nat) (m : Str) (ps : List Str) (sp : Sp) : Prop where
  ex : ∃ (f : Addr) (fd : FuncData), FnOk P w K mg base CX0 k f fd ps sp ∧ Meth K C m f ∧ Binds K fd ps []
theorem pe_mt0 {X : Cx} {j k : Nat} {C : Addr} {m : Str} {ps : List Str} {sp : Sp} {o : Expr} {pos apos : Pos} {ta : TE} {pl : Sem Bool} (he : PE X o ta) (c : Cls X.K C) (M : Mt X.prog X.w X.K X.mg X.base C k m ps sp) (hr : Room j X.A) (hk : k ≤ j)
    (ht : eval (.Call (.Attribute o m apos) [] [] pos) X.env = (do
      let ov ← eval o X.env
      standAt apos.atName
      let (f, first) ← holding [ov] (getMethod ov m pl)
      callWith pos f first (backTo pos (starEach [] X.env)) (backToKw pos (keywordEach [] X.env))) := by rfl) : PE X (.Call (.Attribute o m apos) [] [] pos) (tMeth C m sp [] E0 ta tNil) := by
  obtain ⟨f, fd, G, hm, b⟩ := M.ex
  exact pe_meth0 he c hm G (hr.mono hk) b .nil pass0 ht
theorem pe_mt {X : Cx} {j k : Nat} {C : Addr} {m : Str} {ps : List Str} {sp : Sp} {o e : Expr} {es : List Expr} {pos apos : Pos} {ta : TE} {t : TA} {pl : Sem Bool} (he : PE X o ta) (c : Cls X.K C) (M : Mt X.prog X.w X.K X.mg X.base C k m ps sp) (hr : Room j X.A) (hk : k ≤ j) (ha : PA X (e :: es) t)
    (h1 : starEach (e :: es) X.env = (false, eval e X.env) :: starEach es X.env := by rfl) (h2 : (backTo pos (starEach es X.env)).any (·.1) = false := by rfl)
    (ht : eval (.Call (.Attribute o m apos) (e :: es) [] pos) X.env = (do
      let ov ← eval o X.env
      standAt apos.atName
      let (f, first) ← holding [ov] (getMethod ov m pl)
      callWith pos f first (backTo pos (starEach (e :: es) X.env)) (backToKw pos (keywordEach [] X.env))) := by rfl) : PE X (.Call (.Attribute o m apos) (e :: es) [] pos) (tMeth C m sp [] E0 ta t) := by
  obtain ⟨f, fd, G, hm, b⟩ := M.ex
  exact pe_meth he c hm G (hr.mono hk) b .nil pass0 ha h1 h2 ht
end RF

namespace RF
def per (d : Int) : List Int := if d = 2 then [2] else if d = 3 then [1, 2] else if d = 5 then [1] else if d = 6 then [2, 4] else [3]
def ai (p : List Int) (i : Nat) : Int := p.getD (i % p.length) 0
theorem ai_add (p : List Int) (i : Nat) : ai p (i + p.length) = ai p i := by unfold ai; rw [Nat.add_mod_right]
theorem ai_pos {d : Int} (h : Root d) (i : Nat) : 1 ≤ ai (per d) i ∧ ai (per d) i ≤ 4 := by
  have h2 : i % 2 = 0 ∨ i % 2 = 1 := by omega
  rcases h with rfl | rfl | rfl | rfl | rfl <;> rcases h2 with e | e <;> simp [per, ai, e, Nat.mod_one]
def stp (p : List Int) : Nat → Int × Int
  | 0 => (0, 1)
  | n + 1 => ((stp p n).2, ai p n * (stp p n).2 + (stp p n).1)
def ptp (p : List Int) : Nat → Int × Int
  | 0 => (1, 0)
  | n + 1 => ((ptp p n).2, ai p n * (ptp p n).2 + (ptp p n).1)
def qn (p : List Int) (i : Nat) : Int := (stp p i).2
def pn (p : List Int) (i : Nat) : Int := (ptp p i).2
theorem stp_pos {p : List Int} (h : ∀ i, 1 ≤ ai p i) : ∀ i, 0 ≤ (stp p i).1 ∧ 1 ≤ (stp p i).2 ∧ (stp p i).1 ≤ (stp p i).2
  | 0 => by simp [stp]
  | n + 1 => by
    have ⟨a, b, c⟩ := stp_pos h n
    have h1 : 1 * (stp p n).2 ≤ ai p n * (stp p n).2 := Int.mul_le_mul_of_nonneg_right (h n) (by omega)
    refine ⟨?_, ?_, ?_⟩ <;> simp only [stp] <;> omega
theorem qn_pos {p : List Int} (h : ∀ i, 1 ≤ ai p i) (i : Nat) : 1 ≤ qn p i := (stp_pos h i).2.1
theorem qn_lt {p : List Int} (h : ∀ i, 1 ≤ ai p i) (i : Nat) : (i : Int) ≤ qn p i := by
  have : ∀ i : Nat, (i : Int) ≤ (stp p i).2 ∧ (1 ≤ i → 1 ≤ (stp p i).1) := by
    intro i
    induction i with
    | zero => simp [stp]
    | succ n ih =>
      have ⟨a, b, c⟩ := stp_pos h n
      have h1 : 1 * (stp p n).2 ≤ ai p n * (stp p n).2 := Int.mul_le_mul_of_nonneg_right (h n) (by omega)
      refine ⟨?_, fun _ => by simp only [stp]; omega⟩
      simp only [stp]
      rcases Nat.eq_zero_or_pos n with rfl | hp
      · simp; omega
      · have := ih.2 hp
        omega
  exact (this i).1
def bk (p : List Int) : Nat → Nat → Int × Int
  | _, 0 => (1, 0)
  | i, m + 1 => (ai p i * (bk p (i + 1) m).1 + (bk p (i + 1) m).2, (bk p (i + 1) m).1)
theorem bk_pos {p : List Int} (h : ∀ i, 1 ≤ ai p i) : ∀ m i, 1 ≤ (bk p i m).1 ∧ 0 ≤ (bk p i m).2 ∧ (1 ≤ m → 1 ≤ (bk p i m).2)
  | 0, i => by simp [bk]
  | m + 1, i => by
    have ⟨a, b, c⟩ := bk_pos h m (i + 1)
    have h1 : 1 * (bk p (i + 1) m).1 ≤ ai p i * (bk p (i + 1) m).1 := Int.mul_le_mul_of_nonneg_right (h i) (by omega)
    refine ⟨?_, ?_, fun _ => ?_⟩ <;> simp only [bk] <;> omega
theorem bk_le {p : List Int} (h : ∀ i, 1 ≤ ai p i) (m i : Nat) : (bk p i m).2 ≤ (bk p i m).1 := by
  cases m with
  | zero => simp [bk]
  | succ m =>
    have ⟨a, b, c⟩ := bk_pos h m (i + 1)
    have h1 : 1 * (bk p (i + 1) m).1 ≤ ai p i * (bk p (i + 1) m).1 := Int.mul_le_mul_of_nonneg_right (h i) (by omega)
    simp only [bk]; omega
/-- The form of a root at the even places and at the odd ones. -/
def frm (d : Int) (o : Nat) (x y : Int) : Int :=
  if d = 2 then (y + x) * (y + x) - 2 * (x * x)
  else if d = 5 then (2 * y + x) * (2 * y + x) - 5 * (x * x)
  else if d = 13 then (2 * y + 3 * x) * (2 * y + 3 * x) - 13 * (x * x)
  else if d = 3 then (if o = 0 then (y + x) * (y + x) - 3 * (x * x) else 2 * (y * y) + 2 * (x * y) - x * x)
  else (if o = 0 then (y + 2 * x) * (y + 2 * x) - 6 * (x * x) else 2 * (y * y) + 4 * (x * y) - x * x)
theorem frm_bk {d : Int} (hd : Root d) : ∀ m i, frm d (i % 2) (bk (per d) i m).1 (bk (per d) i m).2 * (if m % 2 = 0 then 1 else -1) < 0
  | 0, i => by
    have h2 : i % 2 = 0 ∨ i % 2 = 1 := by omega
    rcases hd with rfl | rfl | rfl | rfl | rfl <;> rcases h2 with e | e <;> simp [bk, frm, e]
  | m + 1, i => by
    have ih := frm_bk hd m (i + 1)
    have h2 : i % 2 = 0 ∨ i % 2 = 1 := by omega
    have h3 : m % 2 = 0 ∨ m % 2 = 1 := by omega
    generalize hx : (bk (per d) (i + 1) m).1 = x at ih
    generalize hy : (bk (per d) (i + 1) m).2 = y at ih
    simp only [bk, hx, hy]
    have e1 : frm d (i % 2) (ai (per d) i * x + y) x = - frm d ((i + 1) % 2) x y := by
      rcases hd with rfl | rfl | rfl | rfl | rfl
      · simp only [frm, ai, per, if_pos, List.length_cons, List.length_nil, Nat.zero_add, Nat.mod_one, List.getD_cons_zero]; grind
      · rcases h2 with e | e
        · have e' : (i + 1) % 2 = 1 := by omega
          simp [frm, ai, per, e, e']; grind
        · have e' : (i + 1) % 2 = 0 := by omega
          simp [frm, ai, per, e, e']; grind
      · simp [frm, ai, per, Nat.mod_one]; grind
      · rcases h2 with e | e
        · have e' : (i + 1) % 2 = 1 := by omega
          simp [frm, ai, per, e, e']; grind
        · have e' : (i + 1) % 2 = 0 := by omega
          simp [frm, ai, per, e, e']; grind
      · simp [frm, ai, per, Nat.mod_one]; grind
    rw [e1]
    rcases h3 with e | e
    · rw [if_pos e] at ih
      rw [if_neg (by omega)]; omega
    · rw [if_neg (by omega)] at ih
      rw [if_pos (by omega)]; omega
def sw (w : Nat → Int) : Nat → List Int → Int
  | _, [] => 0
  | i, d :: ds => d * w i + sw w (i + 1) ds
def Vs (p : List Int) : Int → Int → Nat → List Int → Int
  | _, _, _, [] => 0
  | x, y, i, d :: ds => d * y - Vs p y (x - ai p i * y) (i + 1) ds
def Bnd (p : List Int) : Nat → List Int → Prop
  | _, [] => True
  | i, d :: ds => (0 ≤ d ∧ d ≤ ai p i) ∧ Bnd p (i + 1) ds
theorem vs_bd {p : List Int} (h : ∀ i, 1 ≤ ai p i) : ∀ ds m i, Bnd p i ds → ds.length + 1 ≤ m → -(bk p i m).2 < Vs p (bk p i m).1 (bk p i m).2 i ds ∧ Vs p (bk p i m).1 (bk p i m).2 i ds < (bk p i m).1
  | [], m, i, _, hm => by
    have ⟨a, b, c⟩ := bk_pos h m i
    have := c (by simpa using hm)
    simp only [Vs]; omega
  | d :: ds, 0, i, _, hm => by simp at hm
  | d :: ds, m + 1, i, hB, hm => by
    have ⟨⟨d0, d1⟩, hB'⟩ := hB
    have ih := vs_bd h ds m (i + 1) hB' (by simpa using hm)
    have e : (bk p i (m + 1)).1 - ai p i * (bk p i (m + 1)).2 = (bk p (i + 1) m).2 := by simp only [bk]; omega
    have e2 : (bk p i (m + 1)).2 = (bk p (i + 1) m).1 := rfl
    simp only [Vs]
    rw [e, e2]
    have ⟨a, b, c⟩ := bk_pos h m (i + 1)
    have e3 : (bk p i (m + 1)).1 = ai p i * (bk p (i + 1) m).1 + (bk p (i + 1) m).2 := rfl
    rw [e3]
    have h1 : d * (bk p (i + 1) m).1 ≤ ai p i * (bk p (i + 1) m).1 := Int.mul_le_mul_of_nonneg_right d1 (by omega)
    have h2 : 0 ≤ d * (bk p (i + 1) m).1 := Int.mul_nonneg d0 (by omega)
    omega
/-- 0: all are zero; 1: the first place above 0 is even; -1: it is odd. -/
def lead : List Int → Int
  | [] => 0
  | d :: ds => if 0 < d then 1 else - lead ds
theorem vs_sg {p : List Int} (h : ∀ i, 1 ≤ ai p i) : ∀ ds m i, Bnd p i ds → ds.length + 1 ≤ m → (lead ds = 0 ∧ Vs p (bk p i m).1 (bk p i m).2 i ds = 0) ∨ (lead ds = 1 ∧ 0 < Vs p (bk p i m).1 (bk p i m).2 i ds) ∨ (lead ds = -1 ∧ Vs p (bk p i m).1 (bk p i m).2 i ds < 0)
  | [], m, i, _, hm => .inl ⟨rfl, rfl⟩
  | d :: ds, 0, i, _, hm => by simp at hm
  | d :: ds, m + 1, i, hB, hm => by
    have ⟨⟨d0, d1⟩, hB'⟩ := hB
    have ih := vs_sg h ds m (i + 1) hB' (by simpa using hm)
    have bd := vs_bd h ds m (i + 1) hB' (by simpa using hm)
    have e : (bk p i (m + 1)).1 - ai p i * (bk p i (m + 1)).2 = (bk p (i + 1) m).2 := by simp only [bk]; omega
    have e2 : (bk p i (m + 1)).2 = (bk p (i + 1) m).1 := rfl
    simp only [Vs, lead]
    rw [e, e2]
    have ⟨a, b, c⟩ := bk_pos h m (i + 1)
    by_cases hd : 0 < d
    · rw [if_pos hd]
      have h1 : 1 * (bk p (i + 1) m).1 ≤ d * (bk p (i + 1) m).1 := Int.mul_le_mul_of_nonneg_right (by omega) (by omega)
      refine .inr (.inl ⟨rfl, by omega⟩)
    · rw [if_neg hd]
      have : d = 0 := by omega
      subst this
      rw [Int.zero_mul]
      omega
theorem vs_lin {p : List Int} : ∀ ds (i : Nat) (e P Q : Int), Vs p (-e * ((stp p i).1 * P - (ptp p i).1 * Q)) (e * ((stp p i).2 * P - (ptp p i).2 * Q)) i ds = e * (sw (qn p) i ds * P - sw (pn p) i ds * Q)
  | [], i, e, P, Q => by simp [Vs, sw]
  | d :: ds, i, e, P, Q => by
    have ih := vs_lin (p := p) ds (i + 1) (-e) P Q
    simp only [Vs, sw]
    have e1 : -e * ((stp p i).1 * P - (ptp p i).1 * Q) - ai p i * (e * ((stp p i).2 * P - (ptp p i).2 * Q)) = -e * ((stp p (i + 1)).2 * P - (ptp p (i + 1)).2 * Q) := by
      simp only [stp, ptp]; grind
    have e2 : e * ((stp p i).2 * P - (ptp p i).2 * Q) = - -e * ((stp p (i + 1)).1 * P - (ptp p (i + 1)).1 * Q) := by
      simp only [stp, ptp]; grind
    rw [e1]
    have e3 : Vs p (e * ((stp p i).2 * P - (ptp p i).2 * Q)) (-e * ((stp p (i + 1)).2 * P - (ptp p (i + 1)).2 * Q)) (i + 1) ds = -e * (sw (qn p) (i + 1) ds * P - sw (pn p) (i + 1) ds * Q) := by
      rw [← ih, e2]
    rw [e3]
    simp only [qn, pn]; grind
theorem vs_tot {p : List Int} (ds : List Int) (P Q : Int) : Vs p Q P 0 ds = sw (qn p) 0 ds * P - sw (pn p) 0 ds * Q := by
  have := vs_lin (p := p) ds 0 1 P Q
  simp only [stp, ptp] at this
  have e1 : (-1 : Int) * (0 * P - 1 * Q) = Q := by omega
  have e2 : (1 : Int) * (1 * P - 0 * Q) = P := by omega
  rw [e1, e2, Int.one_mul] at this
  exact this
theorem sw_add (p : List Int) (ds : List Int) : ∀ i, sw (fun j => qn p (j + p.length)) i ds = (stp p p.length).2 * sw (qn p) i ds + (stp p p.length).1 * sw (pn p) i ds := by
  have h : ∀ j, stp p (j + p.length) = ((stp p p.length).2 * (stp p j).1 + (stp p p.length).1 * (ptp p j).1, (stp p p.length).2 * (stp p j).2 + (stp p p.length).1 * (ptp p j).2) := by
    intro j
    induction j with
    | zero => simp [stp, ptp]
    | succ n ih =>
      have e : n + 1 + p.length = (n + p.length) + 1 := by omega
      rw [e]
      simp only [stp, ptp, ih, ai_add]
      refine Prod.ext rfl ?_
      simp only []
      grind
  induction ds with
  | nil => intro i; simp [sw]
  | cons d ds ih =>
    intro i
    simp only [sw, ih (i + 1)]
    have : qn p (i + p.length) = (stp p p.length).2 * (stp p i).2 + (stp p p.length).1 * (ptp p i).2 := by unfold qn; rw [h]
    rw [this]; simp only [qn, pn]; grind
end RF

namespace RF
def bI (d : Int) : Int := if d = 6 then -2 else if d = 13 then -3 else -1
def bK (d : Int) : Int := if d = 5 then 2 else if d = 13 then 2 else 1
theorem frm0 {d : Int} (hd : Root d) (x y : Int) : frm d 0 x y = (bK d * y - bI d * x) * (bK d * y - bI d * x) - d * (x * x) := by
  rcases hd with rfl | rfl | rfl | rfl | rfl <;> simp [frm, bK, bI] <;> grind
theorem bK_pos {d : Int} (hd : Root d) : 1 ≤ bK d := by rcases hd with rfl | rfl | rfl | rfl | rfl <;> decide
theorem bI_neg {d : Int} (hd : Root d) : bI d ≤ -1 := by rcases hd with rfl | rfl | rfl | rfl | rfl <;> decide
theorem lead_zero {p : List Int} {w : Nat → Int} : ∀ ds i, Bnd p i ds → lead ds = 0 → sw w i ds = 0
  | [], _, _, _ => rfl
  | d :: ds, i, hB, h => by
    unfold lead at h
    by_cases hd : 0 < d
    · rw [if_pos hd] at h; omega
    · rw [if_neg hd] at h
      have : d = 0 := by have := hB.1.1; omega
      subst this
      simp only [sw, Int.zero_mul, Int.zero_add]
      exact lead_zero ds (i + 1) hB.2 (by omega)
theorem sw_nn {p : List Int} {w : Nat → Int} (hw : ∀ i, 0 ≤ w i) : ∀ ds i, Bnd p i ds → 0 ≤ sw w i ds
  | [], _, _ => by simp [sw]
  | d :: ds, i, hB => by
    have := Int.mul_nonneg hB.1.1 (hw i)
    have := sw_nn hw ds (i + 1) hB.2
    simp only [sw]; omega
theorem mul_sq (a b : Int) : (a * b) * (a * b) = (a * a) * (b * b) := by grind
theorem flb {d : Int} (hd : Root d) (ds : List Int) (hB : Bnd (per d) 0 ds) :
    sw (pn (per d)) 0 ds - (if lead ds = -1 then 1 else 0) = (bI d * sw (qn (per d)) 0 ds + rt (sw (qn (per d)) 0 ds * sw (qn (per d)) 0 ds * d)) / bK d := by
  have ha : ∀ i, 1 ≤ ai (per d) i := fun i => (ai_pos hd i).1
  have hk := bK_pos hd
  have hi := bI_neg hd
  have hdp := hd.pos
  by_cases h0 : lead ds = 0
  · rw [lead_zero ds 0 hB h0, lead_zero ds 0 hB h0, if_neg (by omega)]
    have : rt (0 * 0 * d) = 0 := by
      rw [show (0 * 0 * d : Int) = 0 by simp]
      exact (rt_uniq (by decide) (by decide) (by decide) (by decide)).symm
    rw [this]; simp
  · have n0 : 0 ≤ sw (qn (per d)) 0 ds := sw_nn (fun i => by have := qn_pos ha i; omega) ds 0 hB
    have key : ∀ m, ds.length + 1 ≤ m → (sw (pn (per d)) 0 ds - (if lead ds = -1 then 1 else 0)) * (bk (per d) 0 m).1 < sw (qn (per d)) 0 ds * (bk (per d) 0 m).2 ∧ sw (qn (per d)) 0 ds * (bk (per d) 0 m).2 < (sw (pn (per d)) 0 ds - (if lead ds = -1 then 1 else 0) + 1) * (bk (per d) 0 m).1 := by
      intro m hm
      have b1 := vs_bd ha ds m 0 hB hm
      have b2 := vs_sg ha ds m 0 hB hm
      rw [vs_tot] at b1 b2
      have le := bk_le ha m 0
      generalize (bk (per d) 0 m).1 = Q at *
      generalize (bk (per d) 0 m).2 = P at *
      generalize sw (pn (per d)) 0 ds = s at *
      generalize sw (qn (per d)) 0 ds = n at *
      rcases b2 with ⟨e, _⟩ | ⟨e, h⟩ | ⟨e, h⟩
      · exact absurd e h0
      · rw [e, if_neg (by decide)]
        rw [Int.sub_zero, Int.add_mul]
        omega
      · rw [e, if_pos rfl, Int.sub_mul, Int.sub_add_cancel]
        omega
    generalize sw (pn (per d)) 0 ds - (if lead ds = -1 then 1 else 0) = F at *
    generalize sw (qn (per d)) 0 ds = n at *
    have nn : 0 ≤ n * n * d := Int.mul_nonneg (Int.mul_nonneg n0 n0) (by omega)
    have t0 := rt_nn (n * n * d)
    have t1 := rt_le nn
    have t2 := rt_lt nn
    generalize rt (n * n * d) = t at *
    have h1 : bK d * F - bI d * n ≤ t := by
      refine Int.not_lt.mp fun hlt => ?_
      have ⟨k1, _⟩ := key (2 * (ds.length + 1)) (by omega)
      have f1 := frm_bk hd (2 * (ds.length + 1)) 0
      rw [if_pos (by omega), Nat.zero_mod, frm0 hd] at f1
      have ⟨q1, p0, _⟩ := bk_pos ha (2 * (ds.length + 1)) 0
      generalize (bk (per d) 0 (2 * (ds.length + 1))).1 = Q at *
      generalize (bk (per d) 0 (2 * (ds.length + 1))).2 = P at *
      generalize bK d = k at *
      generalize bI d = i at *
      have e1 : (k * F - i * n) * Q < n * (k * P - i * Q) := by
        have := Int.mul_lt_mul_of_pos_left k1 (show 0 < k by omega)
        have e : n * (k * P - i * Q) = k * (n * P) - i * n * Q := by grind
        have e' : (k * F - i * n) * Q = k * (F * Q) - i * n * Q := by grind
        omega
      have e2 : ((k * F - i * n) * Q) * ((k * F - i * n) * Q) < (n * (k * P - i * Q)) * (n * (k * P - i * Q)) := sq_lt (Int.mul_nonneg (by omega) (by omega)) e1
      rw [mul_sq, mul_sq] at e2
      have e3 : (n * n) * ((k * P - i * Q) * (k * P - i * Q)) ≤ (n * n) * (d * (Q * Q)) := Int.mul_le_mul_of_nonneg_left (by omega) (Int.mul_nonneg n0 n0)
      have e4 : (n * n) * (d * (Q * Q)) = (n * n * d) * (Q * Q) := by grind
      have e5 : (k * F - i * n) * (k * F - i * n) < n * n * d := Int.lt_of_mul_lt_mul_right (by omega) (sq_nonneg Q)
      have e6 : (t + 1) * (t + 1) ≤ (k * F - i * n) * (k * F - i * n) := sq_le (by omega) (by omega)
      omega
    have h2 : t < bK d * (F + 1) - bI d * n := by
      have ⟨_, k1⟩ := key (2 * (ds.length + 1) + 1) (by omega)
      have f1 := frm_bk hd (2 * (ds.length + 1) + 1) 0
      rw [if_neg (by omega), Nat.zero_mod, frm0 hd] at f1
      have ⟨q1, p0, _⟩ := bk_pos ha (2 * (ds.length + 1) + 1) 0
      generalize (bk (per d) 0 (2 * (ds.length + 1) + 1)).1 = Q at *
      generalize (bk (per d) 0 (2 * (ds.length + 1) + 1)).2 = P at *
      generalize bK d = k at *
      generalize bI d = i at *
      have e1 : n * (k * P - i * Q) < (k * (F + 1) - i * n) * Q := by
        have := Int.mul_lt_mul_of_pos_left k1 (show 0 < k by omega)
        have e : n * (k * P - i * Q) = k * (n * P) - i * n * Q := by grind
        have e' : (k * (F + 1) - i * n) * Q = k * ((F + 1) * Q) - i * n * Q := by grind
        omega
      have g0 : 0 ≤ k * P - i * Q := by
        have := Int.mul_nonneg (show 0 ≤ k by omega) p0
        have := Int.mul_nonneg (show 0 ≤ -i by omega) (show 0 ≤ Q by omega)
        rw [Int.neg_mul] at this
        omega
      have g1 := Int.mul_nonneg n0 g0
      have gp : 0 < k * (F + 1) - i * n := Int.not_le.mp fun hle => by
        have := Int.mul_nonneg (show 0 ≤ -(k * (F + 1) - i * n) by omega) (show 0 ≤ Q by omega)
        rw [Int.neg_mul] at this
        omega
      have e2 := sq_lt g1 e1
      rw [mul_sq, mul_sq] at e2
      have e3 : (n * n) * (d * (Q * Q)) ≤ (n * n) * ((k * P - i * Q) * (k * P - i * Q)) := Int.mul_le_mul_of_nonneg_left (by omega) (Int.mul_nonneg n0 n0)
      have e4 : (n * n) * (d * (Q * Q)) = (n * n * d) * (Q * Q) := by grind
      have e5 : n * n * d < (k * (F + 1) - i * n) * (k * (F + 1) - i * n) := Int.lt_of_mul_lt_mul_right (by omega) (sq_nonneg Q)
      exact lt_of_sq (by omega) (by omega)
    symm
    refine (Int.ediv_emod_unique (a := bI d * n + t) (b := bK d) (r := bI d * n + t - bK d * F) (q := F) (by omega)).mpr ⟨by omega, by omega, ?_⟩ |>.1
    rw [Int.mul_add] at h2; omega
/-- The digits of a number below q(m), the least place first. -/
def dg (p : List Int) : Nat → Int → List Int
  | 0, _ => []
  | m + 1, r => dg p m (r % qn p m) ++ [r / qn p m]
def Can (p : List Int) : Nat → Int → List Int → Prop
  | _, _, [] => True
  | i, lo, d :: ds => (0 ≤ d ∧ d ≤ ai p i ∧ (i = 0 ∨ lo ≠ 0 → d ≤ ai p i - 1)) ∧ Can p (i + 1) d ds
theorem can_bnd {p : List Int} : ∀ ds i lo, Can p i lo ds → Bnd p i ds
  | [], _, _, _ => trivial
  | _ :: ds, i, _, h => ⟨⟨h.1.1, h.1.2.1⟩, can_bnd ds (i + 1) _ h.2⟩
theorem can_snoc {p : List Int} {d : Int} : ∀ l i lo, Can p i lo l → (0 ≤ d ∧ d ≤ ai p (i + l.length) ∧ (i + l.length = 0 ∨ l.getLastD lo ≠ 0 → d ≤ ai p (i + l.length) - 1)) → Can p i lo (l ++ [d])
  | [], i, lo, _, h => ⟨by simpa using h, trivial⟩
  | c :: l, i, lo, hc, h => by
    refine ⟨hc.1, can_snoc l (i + 1) c hc.2 ?_⟩
    have e : i + (c :: l).length = i + 1 + l.length := by simp; omega
    rw [e] at h
    have e2 : (c :: l).getLastD lo = l.getLastD c := by cases l <;> rfl
    rw [e2] at h
    exact h
theorem sw_snoc {w : Nat → Int} {d : Int} : ∀ l i, sw w i (l ++ [d]) = sw w i l + d * w (i + l.length)
  | [], i => by simp [sw]
  | c :: l, i => by
    have e : i + (c :: l).length = i + 1 + l.length := by simp; omega
    rw [e]
    simp only [List.cons_append, sw, sw_snoc l (i + 1)]
    omega
theorem dg_len {p : List Int} : ∀ m r, (dg p m r).length = m
  | 0, _ => rfl
  | m + 1, r => by simp [dg, dg_len m]
theorem dg_ok {p : List Int} (h : ∀ i, 1 ≤ ai p i) : ∀ m r, 0 ≤ r → r < qn p m → Can p 0 0 (dg p m r) ∧ sw (qn p) 0 (dg p m r) = r
  | 0, r, r0, r1 => ⟨trivial, by
      have : qn p 0 = 1 := rfl
      simp only [dg, sw]; omega⟩
  | m + 1, r, r0, r1 => by
    have q1 := qn_pos h m
    have m0 := Int.emod_nonneg r (show qn p m ≠ 0 by omega)
    have m1 := Int.emod_lt_of_pos r (show 0 < qn p m by omega)
    have ⟨c, s⟩ := dg_ok h m (r % qn p m) m0 m1
    have de := Int.emod_add_mul_ediv r (qn p m)
    have d0 : 0 ≤ r / qn p m := Int.ediv_nonneg r0 (by omega)
    have ex : qn p (m + 1) = ai p m * qn p m + (stp p m).1 := rfl
    have st := stp_pos h m
    have st3 : (stp p m).1 ≤ qn p m := st.2.2
    have d1 : r / qn p m ≤ ai p m := by
      refine Int.not_lt.mp fun hl => ?_
      have := Int.mul_le_mul_of_nonneg_left (show ai p m + 1 ≤ r / qn p m by omega) (show 0 ≤ qn p m by omega)
      rw [Int.mul_add] at this
      have e : qn p m * ai p m = ai p m * qn p m := Int.mul_comm _ _
      omega
    refine ⟨can_snoc _ 0 0 c ?_, ?_⟩
    · rw [dg_len, Nat.zero_add]
      refine ⟨d0, d1, fun hh => ?_⟩
      refine Int.not_lt.mp fun hl => ?_
      have e : r / qn p m = ai p m := by omega
      rw [e] at de
      have e : qn p m * ai p m = ai p m * qn p m := Int.mul_comm _ _
      have lt : r % qn p m < (stp p m).1 := by omega
      cases m with
      | zero => simp only [stp] at lt; omega
      | succ k =>
        have e1 : (stp p (k + 1)).1 = qn p k := rfl
        rw [e1] at lt
        rcases hh with hh | hh
        · omega
        · refine hh ?_
          simp only [dg]
          rw [List.getLastD_concat]
          exact Int.ediv_eq_zero_of_lt m0 lt
    · simp only [dg]
      rw [sw_snoc, s, dg_len, Nat.zero_add]
      have e : qn p m * (r / qn p m) = r / qn p m * qn p m := Int.mul_comm _ _
      omega
end RF

namespace RF
theorem qn_mono1 {p : List Int} (h : ∀ i, 1 ≤ ai p i) (i : Nat) : qn p i ≤ qn p (i + 1) := (stp_pos h (i + 1)).2.2
theorem qn_mono {p : List Int} (h : ∀ i, 1 ≤ ai p i) {i j : Nat} (hij : i ≤ j) : qn p i ≤ qn p j := by
  induction j with
  | zero => have : i = 0 := by omega
            subst this; omega
  | succ j ih =>
    rcases Nat.lt_or_ge i (j + 1) with hl | hg
    · have := ih (by omega)
      have := qn_mono1 h j
      omega
    · have : i = j + 1 := by omega
      subst this; omega
theorem qn_dbl {p : List Int} (h : ∀ i, 1 ≤ ai p i) (i : Nat) : 2 * qn p i ≤ qn p (i + 2) := by
  have h1 : 1 * (stp p (i + 1)).2 ≤ ai p (i + 1) * (stp p (i + 1)).2 := Int.mul_le_mul_of_nonneg_right (h (i + 1)) (by have := (stp_pos h (i + 1)).2.1; omega)
  have e : qn p (i + 2) = ai p (i + 1) * (stp p (i + 1)).2 + (stp p i).2 := rfl
  have := qn_mono1 h i
  rw [e]
  unfold qn at *
  omega
theorem qn_pow {p : List Int} (h : ∀ i, 1 ≤ ai p i) : ∀ i : Nat, (2 : Int) ^ i ≤ qn p (2 * i)
  | 0 => by simp [qn, stp]
  | i + 1 => by
    have := qn_pow h i
    have := qn_dbl h (2 * i)
    rw [Int.pow_succ]
    have e : 2 * (i + 1) = 2 * i + 2 := by omega
    rw [e]; omega
theorem steps_le {p : List Int} (h : ∀ i, 1 ≤ ai p i) {n : Int} (hn : n < 2 ^ 133) {m : Nat} (hm : qn p m ≤ n) : m < 266 := by
  refine Nat.not_le.mp fun hl => ?_
  have h1 := qn_pow h 133
  have h2 := qn_mono h (show 2 * 133 ≤ m by omega)
  omega
theorem qn_bd {p : List Int} (h : ∀ i, 1 ≤ ai p i ∧ ai p i ≤ 4) (i : Nat) : qn p i ≤ 8 ^ i ∧ (stp p i).1 ≤ 8 ^ i := by
  induction i with
  | zero => simp [qn, stp]
  | succ i ih =>
    obtain ⟨a, b⟩ := ih
    have ⟨s1, s2, s3⟩ := stp_pos (fun i => (h i).1) i
    have h1 : ai p i * (stp p i).2 ≤ 4 * (stp p i).2 := Int.mul_le_mul_of_nonneg_right (h i).2 (by omega)
    have e : qn p (i + 1) = ai p i * (stp p i).2 + (stp p i).1 := rfl
    have e2 : (stp p (i + 1)).1 = (stp p i).2 := rfl
    rw [Int.pow_succ, e, e2]
    unfold qn at a
    omega
theorem qn_bd' {p : List Int} (h : ∀ i, 1 ≤ ai p i ∧ ai p i ≤ 4) {i : Nat} (hi : i ≤ 280) : Bd 841 (qn p i) := by
  have h1 := (qn_bd h i).1
  have h2 := qn_pos (fun i => (h i).1) i
  have h3 : (8 : Int) ^ i ≤ 8 ^ 280 := by exact_mod_cast Nat.pow_le_pow_right (by decide : 0 < 8) hi
  unfold Bd
  have h4 : ((qn p i).natAbs : Int) < 2 ^ 841 := by
    have : (8 : Int) ^ 280 < 2 ^ 841 := by decide +kernel
    omega
  exact_mod_cast h4
end RF

namespace RF
open PySem L2 PyProof.Rows
/-! ### a written dict with int keys: its values; tuples of the module -/
def IDct (K : PySem.W.Frag) (d : Addr) (i : Int) (v : V) : Prop :=
  ∃ es n ks u, K.lookup d = some ⟨.type "dict", none, .dict es n, #[]⟩ ∧ okE es.toList ks = true ∧ findBy Value.isInt es i = some u ∧ RelV v u
def rIxI (K : PySem.W.Frag) : R2 := fun x y H Q => ∃ p i v, x = .ref p ∧ y = .int i ∧ IDct K p i v ∧ Q v H
theorem ix_intd {X : Cx} : IxR X (rIxI X.K) := by
  intro value slice pins s σ H x y v u Q I rx ry h hs
  obtain ⟨p, i, r, rfl, rfl, ⟨es, n, ks, u0, hl, he, e, ru⟩, q⟩ := h
  obtain rfl : v = Value.ref p := rx
  obtain ⟨t, rfl⟩ := ry
  have hm : s.heap.MapOf (intKind X.prog X.w) p (fun k => findBy Value.isInt es k) := ⟨_, es, n, I.kIn _ _ hl, ⟨rfl, rfl, rfl⟩, rfl, fun e hh => by
    obtain ⟨k, t, _, e1, e2⟩ := okE_mem he e (Array.mem_toList_iff.mpr hh)
    exact ⟨k, by rw [e1]; show Value.isInt k (.int k t) = true; simp [Value.isInt], e2⟩, fun _ => rfl⟩
  exact tail_any hm.typeIs slot_dict_getitem.lookup (wpAny_getItem_of (k := i) (by show Value.isInt i (.int i t) = true; simp [Value.isInt]) hm e ⟨r, H, I.tok _, ru, q⟩) hs
def TupI (K : PySem.W.Frag) (t : Addr) (p : List Int) : Prop :=
  ∃ (o : Obj) (its : Array Value) (n : Nat), K.lookup t = some o ∧ o.cls = .type "tuple" ∧ o.data = .seq its n ∧ its.size ≤ sizeLine ∧ Vals (p.map V.int) its.toList
theorem TupI.sq {K : PySem.W.Frag} {H : Hp} {t : Addr} {p : List Int} (h : TupI K t p) : SqT K H t (p.map V.int) := .inr h
/-- a period: one to three parts, from 1 to 4 -/
structure Per (p : List Int) : Prop where
  len : 0 < p.length ∧ p.length ≤ 3
  bd : ∀ i, 1 ≤ ai p i ∧ ai p i ≤ 4
theorem Per.one {p : List Int} (h : Per p) (i : Nat) : 1 ≤ ai p i := (h.bd i).1
theorem ai_at {p : List Int} (h : Per p) (i : Nat) : (p.map V.int)[i % p.length]? = some (.int (ai p i)) := by
  have hl : i % p.length < p.length := Nat.mod_lt _ h.len.1
  rw [List.getElem?_map, List.getElem?_eq_getElem hl]
  unfold ai
  rw [List.getD_eq_getElem?_getD, List.getElem?_eq_getElem hl]
  rfl
theorem ai_atI {p : List Int} (h : Per p) (i : Nat) : atI (p.map V.int) ((i : Int) % (((p.map V.int).length : Nat) : Int)) = some (.int (ai p i)) := by
  rw [List.length_map, ← Int.natCast_emod]
  exact atI_nat (ai_at h i)
theorem sm_upd {H H1 : Hp} {a : Addr} {o : HO} (s : Same H H1) (h : H a = none) : Same H (upd H1 a o) := fun b u e => by
  have hne : b ≠ a := fun z => by rw [z, h] at e; cases e
  rw [upd_ne hne]
  exact s b u e
def spPart (K : PySem.W.Frag) : Sp := fun vs H Q _ => ∃ (t : Addr) (p : List Int) (i : Nat), vs = [.ref t, .int (i : Int)] ∧ TupI K t p ∧ Per p ∧ Q (.int (ai p i)) H
def qs (p : List Int) (m : Nat) : List V := (List.range m).map fun i => V.int (qn p i)
def spSteps (K : PySem.W.Frag) : Sp := fun vs H Q _ => ∃ (t : Addr) (p : List Int) (n : Int), vs = [.ref t, .int n] ∧ TupI K t p ∧ Per p ∧ 0 ≤ n ∧ n < 2 ^ 133 ∧
  ∀ m a H', m ≤ 266 → n < qn p m → H a = none → H' a = some (.lst (qs p m)) → Same H H' → Q (.ref a) H'
def spCan (K : PySem.W.Frag) : Sp := fun vs H Q _ => ∃ (t : Addr) (p : List Int) (i : Nat) (d lo : Int), vs = [.ref t, .int (i : Int), .int d, .int lo] ∧ TupI K t p ∧ Per p ∧
  Q (.bl (btw (.int d) 0 (if i = 0 ∨ lo ≠ 0 then ai p i - 1 else ai p i))) H
section
variable {P : Program} {w : World} {K : PySem.W.Frag} {mg : Str → Option Value} {base : Heap}
abbrev s_part_above : Stmt := top 26
abbrev n_part_above : List Str := ["period", "place"]
theorem sc_part_above : FnScope n_part_above ["period", "place"] (defScope s_part_above) := ⟨rfl, rfl, rfl, by decide +kernel, rfl, by decide +kernel, by decide +kernel⟩
theorem ok_part {f : Addr} {fd : FuncData} {k : Nat} (F : Fun K "_part_above" "_part_above" s_part_above f fd) (T : mg "len" = none) : FnOk P w K mg base CX0 (k + 1) f fd ["period", "place"] (spPart K) := by
  refine F.ok sc_part_above (fun vs H Q E h => ?_) (fun cdv A outer s H vs Q E hr h => ?_)
  · obtain ⟨t, p, i, rfl, _⟩ := h
    rfl
  · obtain ⟨t, p, i, rfl, hT, hp, q⟩ := h
    refine ⟨_, (pss_one (ps_ret (pe_ix ix_tup (pv 0) (pe_op op_mod (pv 1) (pe_callB call_len_seq (by rfl) T PySem.boot_len (pa_cons (pv 0) pa_nil))) (fun _ _ => rfl)))), ?_⟩
    have hl := hp.len
    exact ⟨_, rfl, _, rfl, _, rfl, t, _, rfl, .inr hT.sq, _, _, rfl, rfl, (by show (0 : Int) < (((p.map V.int).length : Nat) : Int); rw [List.length_map]; omega), t, _, _, _, rfl, rfl, hT.sq, ai_atI hp i, q⟩
abbrev s_steps_within : Stmt := top 28
abbrev n_steps_within : List Str := ["period", "number", "steps", "before", "here", "part"]
theorem sc_steps_within : FnScope n_steps_within ["period", "number"] (defScope s_steps_within) := ⟨rfl, rfl, rfl, by decide +kernel, rfl, by decide +kernel, by decide +kernel⟩
theorem qs_len (p : List Int) (m : Nat) : (qs p m).length = m := by simp [qs]
theorem qs_snoc (p : List Int) (m : Nat) : qs p m ++ [.int (qn p m)] = qs p (m + 1) := by simp [qs, List.range_succ]
theorem ok_steps {f : Addr} {fd : FuncData} {k : Nat} (F : Fun K "_steps_within" "_steps_within" s_steps_within f fd) (T : mg "len" = none) (D1 : Df P w K mg base k "_part_above" ["period", "place"] (spPart K)) : FnOk P w K mg base CX0 (k + 1) f fd ["period", "number"] (spSteps K) := by
  refine F.ok sc_steps_within (fun vs H Q E h => ?_) (fun cdv A outer s H vs Q E hr h => ?_)
  · obtain ⟨t, p, n, rfl, _⟩ := h
    rfl
  · obtain ⟨t, p, n, rfl, hT, hp, n0, n1, q⟩ := h
    have nd := sc_steps_within.nd
    refine ⟨_, (pss_cons (ps_set (i := 2) nd rfl (Or.inl rfl) (pe_lst pa_nil))
      (pss_cons (ps_asg (pe_tup (pa_cons pe_int (pa_cons pe_int pa_nil))) (pg_tup rfl (pgs_cons (pg_name (i := 3) nd rfl (Or.inl rfl)) (pgs_cons (pg_name (i := 4) nd rfl (Or.inl rfl)) pgs_nil))))
      (pss_cons (ps_while PassesOwn.never (pt_cmpR op_le (pv 4) (pv 1) (nomark _))
      (pss_cons (ps_set (i := 5) nd rfl (Or.inl rfl) (pe_callD D1 hr (Nat.le_refl _) (pa_cons (pv 0) (pa_cons (pe_callB call_len_seq (by rfl) T PySem.boot_len (pa_cons (pv 2) pa_nil)) pa_nil))))
        (pss_cons (ps_expr (pe_bm PySem.F.plainAttrs_list PySem.F.slot_list_append PySem.F.type_list_append mt_append (pv 2) (pa_cons (pv 4) pa_nil)))
        (pss_one (ps_par (i := 3) (j := 4) rfl nd rfl rfl (by decide) rfl rfl (pa_cons (pv 4) (pa_cons (pe_op op_add (pe_op op_mulW (pv 5) (pv 4)) (pv 3)) pa_nil)) (by kernel_rfl))))))
      (pss_one (ps_ret (pv 2)))))), ?_⟩
    refine ⟨by show 0 ≤ sizeLine; decide, fun a ha => ?_⟩
    refine ⟨by show 2 ≤ sizeLine; decide, fun b hb => ⟨b, _, rfl, SqT.of upd_same, rfl, _, _, rfl, _, _, rfl, rfl, ?_⟩⟩
    refine while_by (fun σ H' => ∃ (m : Nat) (v : Option V), σ = [some (.ref t), some (.int n), some (.ref a), some (.int (stp p m).1), some (.int (qn p m)), v] ∧ m ≤ 266 ∧ H' a = some (.lst (qs p m)) ∧ Same H H')
      (fun σ _ => match σ with | [_, _, _, some (.int x), some (.int y), _] => (2 * n + 2 - x - y).toNat | _ => 0)
      ⟨0, none, rfl, by decide, by rw [upd_ne (ne_new hb).symm, upd_same]; rfl, sNew (sNew (Same.refl _) ha) hb⟩ ?_ ?_
    · rintro σ H1 ⟨m, v, rfl, hm, h1, sm⟩
      have sp := stp_pos hp.one m
      refine ⟨_, rfl, _, rfl, _, _, rfl, rfl, _, rfl, ite2 (fun h => ?_) (fun h => ?_)⟩
      · have hle : qn p m ≤ n := of_decide_eq_true h
        have hm1 := steps_le hp.one n1 hle
        refine ⟨_, rfl, _, rfl, a, _, rfl, .inl (SqL.of h1), t, p, (qs p m).length, rfl, hT, hp, ?_⟩
        rw [qs_len]
        refine ⟨_, rfl, .inl ⟨rfl, _, SqL.of h1⟩, _, rfl, a, _, _, rfl, rfl, h1, by rw [qs_len, sizeLine_eq]; omega, ?_⟩
        rw [qs_snoc]
        refine ⟨_, rfl, _, rfl, _, rfl, _, _, rfl, rfl, mulOk (n := 3) (m := 841) (Nat.lt_of_le_of_lt (show (ai p m).natAbs ≤ 4 by have := hp.bd m; omega) (by decide)) (qn_bd' hp.bd (by omega)) (by decide) (by decide) (by decide), _, rfl, _, _, rfl, rfl, _, _, rfl, ?_⟩
        refine ⟨⟨m + 1, _, rfl, by omega, upd_same, ?_⟩, ?_⟩
        · exact sm_upd sm ha
        · show (2 * n + 2 - qn p m - (ai p m * qn p m + (stp p m).1)).toNat < (2 * n + 2 - (stp p m).1 - qn p m).toNat
          have : 1 * qn p m ≤ ai p m * qn p m := Int.mul_le_mul_of_nonneg_right (hp.one m) (by have := qn_pos hp.one m; omega)
          have := qn_pos hp.one m
          have e : (stp p m).2 = qn p m := rfl
          rw [e] at sp
          omega
      · have hgt : n < qn p m := by
          have : ¬ qn p m ≤ n := fun z => h (decide_eq_true z)
          omega
        exact ⟨_, rfl, q m a H1 hm hgt ha h1 sm⟩
    · rintro σ H1 Q1 Q2 hq ⟨v, e1, v2, e2, i, j, e3, e4, b, e5, q⟩
      exact ⟨v, e1, v2, e2, i, j, e3, e4, b, e5, hq _ _ q⟩
abbrev s_can_stand : Stmt := top 29
abbrev n_can_stand : List Str := ["period", "place", "digit", "lower", "most"]
theorem sc_can_stand : FnScope n_can_stand ["period", "place", "digit", "lower"] (defScope s_can_stand) := ⟨rfl, rfl, rfl, by decide +kernel, rfl, by decide +kernel, by decide +kernel⟩
theorem ok_can {f : Addr} {fd : FuncData} {k : Nat} (F : Fun K "can_stand" "can_stand" s_can_stand f fd) (D1 : Df P w K mg base k "_part_above" ["period", "place"] (spPart K)) (D2 : Df P w K mg base k "is_between" ["value", "low", "high"] (spBtw K)) :
    FnOk P w K mg base CX0 (k + 1) f fd ["period", "place", "digit", "lower"] (spCan K) := by
  refine F.ok sc_can_stand (fun vs H Q E h => ?_) (fun cdv A outer s H vs Q E hr h => ?_)
  · obtain ⟨t, p, i, d, lo, rfl, _⟩ := h
    rfl
  · obtain ⟨t, p, i, d, lo, rfl, hT, hp, q⟩ := h
    have nd := sc_can_stand.nd
    refine ⟨_, (pss_cons (ps_set (i := 4) nd rfl (Or.inl rfl) (pe_callD D1 hr (Nat.le_refl _) (pa_cons (pv 0) (pa_cons (pv 1) pa_nil))))
      (C8.pss_cut (ps_if (pw_or (pt_cmpR op_eq (pv 1) pe_int (nomark _)) (pw_or1 (pt_cmpR op_ne (pv 3) pe_int (nomark _)))).pt
      (pss_one (ps_set (i := 4) nd rfl (Or.inl rfl) (pe_op op_sub (pv 4) pe_int)))
      pss_nil)
      (pss_one (ps_ret (pe_callD D2 hr (Nat.le_refl _) (pa_cons (pv 2) (pa_cons pe_int (pa_cons (pv 4) pa_nil)))))))), ?_⟩
    refine ⟨_, rfl, _, rfl, t, p, i, rfl, hT, hp, ?_⟩
    refine ⟨fun σ' H' => σ' = [some (.ref t), some (.int (i : Int)), some (.int d), some (.int lo), some (.int (if i = 0 ∨ lo ≠ 0 then ai p i - 1 else ai p i))] ∧ H' = H, ?_, ?_⟩
    · refine ⟨_, rfl, rfl, _, rfl, ?_⟩
      by_cases h0 : i = 0
      · refine iteP (by subst h0; rfl) ?_
        refine ⟨_, rfl, _, _, rfl, rfl, ?_, rfl⟩
        rw [if_pos (Or.inl h0)]
        rfl
      · refine iteN (nd_of (fun z => h0 (by cases z; rfl))) ?_
        refine ⟨_, rfl, rfl, _, rfl, ?_⟩
        by_cases h1 : lo = 0
        · refine iteN (by subst h1; simp) ?_
          refine ⟨?_, rfl⟩
          rw [if_neg (by rintro (z | z); exact h0 z; exact z h1)]
          rfl
        · refine iteP (by simpa using h1) ?_
          refine ⟨_, rfl, _, _, rfl, rfl, ?_, rfl⟩
          rw [if_pos (Or.inr h1)]
          rfl
    · rintro σ' H1 ⟨rfl, rfl⟩
      exact ⟨_, rfl, _, rfl, _, .int d, _, _, rfl, rfl, q⟩
end
end RF

namespace RF
open PySem L2 PyProof.Rows
theorem kRQ : ¬ (("_root" : Str) = "_period") := by decide +kernel
def ffl (d : Int) (t : Addr) : List (Str × V) := putF "_period" (.ref t) (putF "_root" (.int d) [])
theorem ffl_root (d : Int) (t : Addr) : (ffl d t).lookup ("_root" : Str) = some (.int d) := by
  unfold ffl
  rw [lookup_putF, if_neg kRQ, lookup_putF, if_pos rfl]
theorem ffl_per (d : Int) (t : Addr) : (ffl d t).lookup ("_period" : Str) = some (.ref t) := by
  unfold ffl
  rw [lookup_putF, if_pos rfl]
theorem ffl_no (d : Int) (t : Addr) {m : Str} (h1 : ¬ m = "_period") (h2 : ¬ m = "_root") : (ffl d t).lookup m = none := by
  unfold ffl
  rw [lookup_putF, if_neg h1, lookup_putF, if_neg h2]
  all_goals rfl
/-- at p: the field of the root d -/
def FldAt (K : PySem.W.Frag) (H : Hp) (C p : Addr) (d : Int) : Prop := ∃ dx t, H p = some (.ins C dx (ffl d t)) ∧ TupI K t (per d)
theorem FldAt.same {K : PySem.W.Frag} {H H' : Hp} {C p : Addr} {d : Int} (s : Same H H') (h : FldAt K H C p d) : FldAt K H' C p d := by
  obtain ⟨dx, t, h1, h2⟩ := h
  exact ⟨dx, t, s _ _ h1, h2⟩
theorem FldAt.kp {K : PySem.W.Frag} {H H' : Hp} {C p b : Addr} {d : Int} (B : Bag H b) (kp : Kp b H H') (h : FldAt K H C p d) : FldAt K H' C p d := by
  obtain ⟨dx, t, h1, h2⟩ := h
  exact ⟨dx, t, kp.at_ B h1 (fun _ z => by cases z), h2⟩
theorem FldAt.ins {K : PySem.W.Frag} {H : Hp} {C p : Addr} {d : Int} (h : FldAt K H C p d) : ∃ dx fs, H p = some (.ins C dx fs) ∧ ∀ m : Str, ¬ m = "_period" → ¬ m = "_root" → fs.lookup m = none := by
  obtain ⟨dx, t, h1, _⟩ := h
  exact ⟨dx, _, h1, fun m a b => ffl_no _ _ a b⟩
theorem perOk {d : Int} (h : Root d) : Per (per d) := ⟨by rcases h with rfl | rfl | rfl | rfl | rfl <;> decide, ai_pos h⟩
structure TxF (K : PySem.W.Frag) (mg : Str → Option Value) (C : Addr) : Prop where
  cl : Cls K C
  nR : NoAttr K C "_root"
  nP : NoAttr K C "_period"
  mg : mg "Field" = some (.ref C)
def PerK (K : PySem.W.Frag) (pd : Addr) : Prop := ∀ d, Root d → ∃ t, IDct K pd d (.ref t) ∧ TupI K t (per d)
def BasK (K : PySem.W.Frag) (pd : Addr) : Prop := ∀ d, Root d → ∃ t, IDct K pd d (.ref t) ∧ TupI K t [bI d, 1, bK d]
def spFInit (K : PySem.W.Frag) (C : Addr) : Sp := fun vs H Q _ => ∃ (p dx : Addr) (d : Int), vs = [.ref p, .int d] ∧ H p = some (.ins C dx []) ∧ Root d ∧
  ∀ H', FldAt K H' C p d → (∀ b o, H b = some o → b ≠ p → H' b = some o) → Q .non H'
def spNum (K : PySem.W.Frag) : Sp := fun vs H Q _ => ∃ (v : V) (d : D), vs = [v] ∧ Rp K H v d ∧ Q (.bl (btw d 0 (10 ^ 40 - 1))) H
def spDigits (K : PySem.W.Frag) (C : Addr) : Sp := fun vs H Q _ => ∃ (p : Addr) (d n : Int), vs = [.ref p, .int n] ∧ FldAt K H C p d ∧ Root d ∧ 0 ≤ n ∧ n < 10 ^ 40 ∧
  ∀ m a H', m ≤ 266 → n < qn (per d) m → H a = none → H' a = some (.lst ((dg (per d) m n).map V.int)) → Same H H' → Q (.ref a) H'
def spValue (K : PySem.W.Frag) (C : Addr) : Sp := fun vs H Q _ => ∃ (p l : Addr) (d : Int) (ds : List Int), vs = [.ref p, .ref l] ∧ FldAt K H C p d ∧ Root d ∧ SqL K H l (ds.map V.int) ∧ Can (per d) 0 0 ds ∧ ds.length ≤ 280 ∧
  ∀ H', Same H H' → Q (.int (sw (qn (per d)) 0 ds)) H'
def spBase (K : PySem.W.Frag) (C CS : Addr) : Sp := fun vs H Q _ => ∃ (p : Addr) (d : Int), vs = [.ref p] ∧ FldAt K H C p d ∧ Root d ∧
  ∀ q H', H q = none → SV H' CS q d (bI d) 1 (bK d) → Same H H' → Q (.ref q) H'
section
variable {P : Program} {w : World} {K : PySem.W.Frag} {mg : Str → Option Value} {base : Heap}
abbrev s_is_number : Stmt := top 13
abbrev n_is_number : List Str := ["value"]
theorem sc_is_number : FnScope n_is_number ["value"] (defScope s_is_number) := ⟨rfl, rfl, rfl, by decide +kernel, rfl, by decide +kernel, by decide +kernel⟩
theorem ok_num {f : Addr} {fd : FuncData} {k : Nat} (F : Fun K "is_number" "is_number" s_is_number f fd) (D1 : Df P w K mg base k "is_between" ["value", "low", "high"] (spBtw K)) : FnOk P w K mg base CX0 (k + 1) f fd ["value"] (spNum K) := by
  refine F.ok sc_is_number (fun vs H Q E h => ?_) (fun cdv A outer s H vs Q E hr h => ?_)
  · obtain ⟨v, d, rfl, _⟩ := h
    rfl
  · obtain ⟨v, d, rfl, hv, q⟩ := h
    refine ⟨_, (pss_one (ps_ret (pe_callD D1 hr (Nat.le_refl _) (pa_cons (pv 0) (pa_cons pe_int (pa_cons (pe_op op_sub (pe_op op_pow pe_int pe_int) pe_int) pa_nil)))))), ?_⟩
    exact ⟨_, rfl, _, _, rfl, rfl, ⟨by decide, by decide, by decide⟩, _, _, rfl, rfl, v, d, _, _, rfl, hv, q⟩
abbrev sF (i : Nat) : Stmt := inClass (top 25) i
abbrev n_FInit : List Str := ["self", "root"]
theorem sc_FInit : FnScope n_FInit ["self", "root"] (defScope (sF 1)) := ⟨rfl, rfl, rfl, by decide +kernel, rfl, by decide +kernel, by decide +kernel⟩
theorem ok_FInit {f C pd : Addr} {fd : FuncData} {k : Nat} (F : Fun K "__init__" "Field.__init__" (sF 1) f fd) (T : TxF K mg C) (mP : mg "PERIODS" = some (.ref pd)) (hP : PerK K pd)
    (D1 : Df P w K mg base k "is_root" ["value"] (spIsRoot K)) : FnOk P w K mg base CX0 (k + 1) f fd ["self", "root"] (spFInit K C) := by
  refine F.ok sc_FInit (fun vs H Q E h => ?_) (fun cdv A outer s H vs Q E hr h => ?_)
  · obtain ⟨p, dx, d, rfl, _⟩ := h
    rfl
  · obtain ⟨p, dx, d, rfl, hp, hd, q⟩ := h
    have nd := sc_FInit.nd
    refine ⟨_, PSs.nox (pss_cons (ps_if (pt_not (pt_val (pe_callD D1 hr (Nat.le_refl _) (pa_cons (pv 1) pa_nil))))
      (pss_one ps_never)
      pss_nil)
      (pss_cons (ps_fld (pv 0) (pv 1) rfl)
      (pss_one (ps_fld (pv 0) (pe_ix ix_intd (pe_glob (v := .ref pd) (by rfl) mP rfl) (pv 1) (fun _ _ => rfl)) rfl)))), ?_⟩
    have er : rootD (.int d) = true := decide_eq_true (by unfold Root at hd; simp; omega)
    obtain ⟨t, it, tt⟩ := hP d hd
    refine ⟨_, rfl, _, .int d, rfl, rfl, _, rfl, ?_⟩
    rw [er]
    refine iteF ?_
    refine ⟨_, rfl, _, rfl, p, C, dx, [], rfl, hp, T.cl, T.nR, (by show 0 < 1000; decide), ?_⟩
    refine ⟨_, rfl, _, _, _, rfl, rfl, it, _, rfl, p, C, dx, _, rfl, upd_same, T.cl, T.nP, (Nat.lt_of_le_of_lt (length_putF _ _ _) (by decide)), ?_⟩
    refine q _ ⟨dx, t, upd_same, tt⟩ fun b o e nb => ?_
    rw [upd_ne nb, upd_ne nb]
    exact e
abbrev n_FBase : List Str := ["self"]
theorem sc_FBase : FnScope n_FBase ["self"] (defScope (sF 8)) := ⟨rfl, rfl, rfl, by decide +kernel, rfl, by decide +kernel, by decide +kernel⟩
theorem qs_get {p : List Int} {m i : Nat} (h : i < m) : (qs p m)[i]? = some (.int (qn p i)) := by
  unfold qs
  rw [List.getElem?_map, List.getElem?_range h]
  rfl
abbrev s_digin : Stmt := top 27
abbrev n_digin : List Str := ["period", "number", "found", "rest", "step", "digit"]
theorem sc_digin : FnScope n_digin ["period", "number"] (defScope s_digin) := ⟨rfl, rfl, rfl, by decide +kernel, rfl, by decide +kernel, by decide +kernel⟩
def spDigin (K : PySem.W.Frag) : Sp := fun vs H Q _ => ∃ (t : Addr) (ls : List Int) (n : Int), vs = [.ref t, .int n] ∧ TupI K t ls ∧ Per ls ∧ 0 ≤ n ∧ n < 10 ^ 40 ∧
  ∀ m a H', m ≤ 266 → n < qn ls m → H a = none → H' a = some (.lst ((dg ls m n).map V.int)) → Same H H' → Q (.ref a) H'
theorem ok_digin {f : Addr} {fd : FuncData} {k : Nat} (F : Fun K "digits_in" "digits_in" s_digin f fd) (T1 : mg "reversed" = none) (T2 : mg "divmod" = none)
    (D2 : Df P w K mg base k "_steps_within" ["period", "number"] (spSteps K)) : FnOk P w K mg base CX0 (k + 1) f fd ["period", "number"] (spDigin K) := by
  refine F.ok sc_digin (fun vs H Q E h => ?_) (fun cdv A outer s H vs Q E hr h => ?_)
  · obtain ⟨t, ls, n, rfl, _⟩ := h
    rfl
  · obtain ⟨t, ls, n, rfl, hT, hpr, n0, n1, q⟩ := h
    have nd := sc_digin.nd
    refine ⟨_, PSs.nox (pss_cons (ps_set (i := 2) nd rfl (Or.inl rfl) (pe_lst pa_nil))
      (pss_cons (ps_set (i := 3) nd rfl (Or.inl rfl) (pv 1))
      (pss_cons (ps_for PassesOwn.never rfl (pi_reversed (by rfl) T1 (pa_cons (pe_callD D2 hr (Nat.le_refl _) (pa_cons (pv 0) (pa_cons (pv 1) pa_nil))) pa_nil)) (pg_name (i := 4) nd rfl (Or.inl rfl))
      (pss_cons (ps_asg (pe_callB call_divmodW (by rfl) T2 (by decide +kernel) (pa_cons (pv 3) (pa_cons (pv 4) pa_nil))) (pg_tup rfl (pgs_cons (pg_name (i := 5) nd rfl (Or.inl rfl)) (pgs_cons (pg_name (i := 3) nd rfl (Or.inl rfl)) pgs_nil))))
        (pss_one (ps_expr (pe_bm PySem.F.plainAttrs_list PySem.F.slot_list_append PySem.F.type_list_append mt_append (pv 2) (pa_cons (pv 5) pa_nil))))))
      (pss_one (ps_ret (pe_revL (pv 2))))))), ?_⟩
    refine ⟨by show 0 ≤ sizeLine; decide, fun a ha => ⟨_, rfl, ?_⟩⟩
    refine ⟨_, rfl, _, rfl, t, ls, n, rfl, hT, hpr, n0, by omega, fun m b H1 hm hlt nb hb sm => ?_⟩
    have n133 : n < 2 ^ 133 := by omega
    have hba : b ≠ a := ne_new nb
    have ha1 : H1 a = some (.lst []) := sm _ _ upd_same
    have sm0 : Same H H1 := (sNew (Same.refl _) ha).trans sm
    refine ⟨b, _, rfl, SqL.of hb, ?_⟩
    refine for_it (walk_rev (xs := qs (ls) m)) (fun i σ H' => ∃ (r : Int) (fs : List Int) (v4 v5 : Option V), σ = [some (.ref t), some (.int n), some (.ref a), some (.int r), v4, v5] ∧ H' a = some (.lst (fs.map V.int)) ∧ H' b = some (.lst (qs (ls) m)) ∧ Same H H' ∧ fs.length = i ∧ i ≤ m ∧ 0 ≤ r ∧ r < qn (ls) (m - i) ∧ r ≤ n ∧ dg (ls) m n = dg (ls) (m - i) r ++ fs.reverse)
      ⟨n, [], none, none, rfl, ha1, hb, sm0, rfl, Nat.zero_le _, n0, hlt, Int.le_refl _, by simp⟩ (fun i σ H' _ h => by obtain ⟨_, _, _, _, _, _, h, _⟩ := h; exact SqL.of h) ?_ ?_
    · rintro i x σ H2 H3 hi ⟨r, fs, v4, v5, rfl, h1, h2, sm2, hl, him, r0, r1, rn, e⟩ ⟨rfl, hx⟩
      rw [qs_len] at hi hx
      rw [qs_get (by omega)] at hx
      obtain rfl := Option.some.inj hx
      obtain ⟨j, rfl⟩ : ∃ j, m = i + 1 + j := ⟨m - (i + 1), by omega⟩
      have ej : i + 1 + j - 1 - i = j := by omega
      have ej2 : i + 1 + j - i = j + 1 := by omega
      have ej3 : i + 1 + j - (i + 1) = j := by omega
      rw [ej]
      rw [ej2] at r1 e
      have qp := qn_pos hpr.one j
      have b1 : r.natAbs < 2 ^ 133 := by
        have : ((r.natAbs : Nat) : Int) < 2 ^ 133 := by omega
        exact_mod_cast this
      refine ⟨_, rfl, _, rfl, _, _, rfl, divp_ok (by omega) (Nat.le_trans (PyProof.Rows.intBits_le b1) (by omega)), fun u hu => ?_⟩
      refine ⟨u, _, rfl, SqT.of upd_same, rfl, _, _, rfl, _, _, rfl, rfl, ?_⟩
      have nua : a ≠ u := fun z => by rw [← z, h1] at hu; cases hu
      have nub : b ≠ u := fun z => by rw [← z, h2] at hu; cases hu
      have h1' : upd H3 u (.tup [.int (r / qn (ls) j), .int (r % qn (ls) j)]) a = some (.lst (fs.map V.int)) := by rw [upd_ne nua]; exact h1
      refine ⟨_, rfl, .inl ⟨rfl, _, SqL.of h1'⟩, _, rfl, a, _, _, rfl, rfl, h1', by rw [List.length_map, sizeLine_eq]; omega, ?_⟩
      refine ⟨r % qn (ls) j, fs ++ [r / qn (ls) j], _, _, rfl, ?_, ?_, sm_upd (sNew sm2 hu) ha, by simp [hl], by omega, emod_lo _ (by omega), ?_, ?_, ?_⟩
      · rw [upd_same, List.map_append]; rfl
      · rw [upd_ne hba, upd_ne nub]; exact h2
      · rw [ej3]; exact emod_hi _ (by omega)
      · have := Int.emod_add_mul_ediv r (qn (ls) j)
        have := Int.mul_nonneg (show 0 ≤ qn (ls) j by omega) (Int.ediv_nonneg r0 (show 0 ≤ qn (ls) j by omega))
        omega
      · rw [e, ej3]; simp [dg]
    · rintro σ H2 ⟨r, fs, v4, v5, rfl, h1, h2, sm2, hl, him, r0, r1, rn, e⟩
      rw [qs_len, Nat.sub_self] at e
      refine ⟨_, rfl, a, _, rfl, SqL.of h1, fun z hz => ?_⟩
      have e2 : (fs.map V.int).reverse = (dg (ls) m n).map V.int := by rw [e]; simp [dg]
      rw [e2]
      exact q m z _ hm hlt (sm2.free hz) upd_same (sNew sm2 hz)
abbrev n_FDig : List Str := ["self", "number"]
theorem sc_FDig : FnScope n_FDig ["self", "number"] (defScope (sF 9)) := ⟨rfl, rfl, rfl, by decide +kernel, rfl, by decide +kernel, by decide +kernel⟩
theorem ok_FDig {f C : Addr} {fd : FuncData} {k : Nat} (F : Fun K "digits" "Field.digits" (sF 9) f fd) (T : TxF K mg C)
    (D1 : Df P w K mg base k "is_number" ["value"] (spNum K)) (D2 : Df P w K mg base k "digits_in" ["period", "number"] (spDigin K)) : FnOk P w K mg base CX0 (k + 1) f fd ["self", "number"] (spDigits K C) := by
  refine F.ok sc_FDig (fun vs H Q E h => ?_) (fun cdv A outer s H vs Q E hr h => ?_)
  · obtain ⟨p, d, n, rfl, _⟩ := h
    rfl
  · obtain ⟨p, d, n, rfl, hF, hd, n0, n1, q⟩ := h
    have nd := sc_FDig.nd
    obtain ⟨dx, t, hp, hT⟩ := hF
    have hpr := perOk hd
    refine ⟨_, PSs.nox (pss_cons (ps_if (pt_not (pt_val (pe_callD D1 hr (Nat.le_refl _) (pa_cons (pv 1) pa_nil))))
      (pss_one ps_never)
      pss_nil)
      (pss_one (ps_ret (pe_callD D2 hr (Nat.le_refl _) (pa_cons (pe_fld (pv 0) rfl) (pa_cons (pv 1) pa_nil)))))), ?_⟩
    have eb : btw (.int n) 0 (10 ^ 40 - 1) = true := by
      show (decide (0 ≤ n) && decide (n ≤ 10 ^ 40 - 1)) = true
      simp only [Bool.and_eq_true, decide_eq_true_eq]
      omega
    refine ⟨_, rfl, _, .int n, rfl, rfl, _, rfl, ?_⟩
    rw [eb]
    refine iteF ?_
    exact ⟨_, rfl, p, C, dx, _, _, rfl, hp, T.cl, T.nP, ffl_per d t, _, rfl, t, per d, n, rfl, hT, hpr, n0, n1, q⟩
end
end RF

namespace RF
open PySem L2 PyProof.Rows
section
variable {P : Program} {w : World} {K : PySem.W.Frag} {mg : Str → Option Value} {base : Heap}
abbrev n_FVal : List Str := ["self", "digits", "total", "before", "here", "lower", "place", "digit"]
theorem sc_FVal : FnScope n_FVal ["self", "digits"] (defScope (sF 10)) := ⟨rfl, rfl, rfl, by decide +kernel, rfl, by decide +kernel, by decide +kernel⟩
theorem drop_get {ds : List Int} {i : Nat} {x : V} (h : (ds.map V.int)[i]? = some x) : ∃ d, x = .int d ∧ ds.drop i = d :: ds.drop (i + 1) := by
  rw [List.getElem?_map] at h
  have hi : i < ds.length := by
    refine Nat.not_le.mp fun z => ?_
    rw [List.getElem?_eq_none z] at h
    cases h
  rw [List.getElem?_eq_getElem hi] at h
  exact ⟨ds[i], (Option.some.inj h).symm, List.drop_eq_getElem_cons hi⟩
theorem ok_FVal {f C : Addr} {fd : FuncData} {k : Nat} (F : Fun K "value" "Field.value" (sF 10) f fd) (T : TxF K mg C) (T1 : mg "enumerate" = none)
    (D1 : Df P w K mg base k "can_stand" ["period", "place", "digit", "lower"] (spCan K)) (D2 : Df P w K mg base k "_part_above" ["period", "place"] (spPart K)) : FnOk P w K mg base CX0 (k + 1) f fd ["self", "digits"] (spValue K C) := by
  refine F.ok sc_FVal (fun vs H Q E h => ?_) (fun cdv A outer s H vs Q E hr h => ?_)
  · obtain ⟨p, l, d, ds, rfl, _⟩ := h
    rfl
  · obtain ⟨p, l, d, ds, rfl, hF, hd, hl, hc, hlen, q⟩ := h
    have nd := sc_FVal.nd
    obtain ⟨dx, t, hp, hT⟩ := hF
    have hpr := perOk hd
    refine ⟨_, PSs.nox (pss_cons (ps_set (i := 2) nd rfl (Or.inl rfl) pe_int)
      (pss_cons (ps_asg (pe_tup (pa_cons pe_int (pa_cons pe_int pa_nil))) (pg_tup rfl (pgs_cons (pg_name (i := 3) nd rfl (Or.inl rfl)) (pgs_cons (pg_name (i := 4) nd rfl (Or.inl rfl)) pgs_nil))))
      (pss_cons (ps_set (i := 5) nd rfl (Or.inl rfl) pe_int)
      (pss_cons (ps_for PassesOwn.never rfl (pi_enum (by rfl) T1 (pa_cons (pv 1) pa_nil)) (pg_tup rfl (pgs_cons (pg_name (i := 6) nd rfl (Or.inl rfl)) (pgs_cons (pg_name (i := 7) nd rfl (Or.inl rfl)) pgs_nil)))
      (pss_cons (ps_if (pt_not (pt_val (pe_callD D1 hr (Nat.le_refl _) (pa_cons (pe_fld (pv 0) rfl) (pa_cons (pv 6) (pa_cons (pv 7) (pa_cons (pv 5) pa_nil)))))))
        (pss_one ps_never)
        pss_nil)
        (pss_cons (ps_set (i := 2) nd rfl (Or.inl rfl) (pe_op op_add (pv 2) (pe_op op_mulW (pv 7) (pv 4))))
        (pss_cons (ps_par (i := 3) (j := 4) rfl nd rfl rfl (by decide) rfl rfl (pa_cons (pv 4) (pa_cons (pe_op op_add (pe_op op_mulW (pe_callD D2 hr (Nat.le_refl _) (pa_cons (pe_fld (pv 0) rfl) (pa_cons (pv 6) pa_nil))) (pv 4)) (pv 3)) pa_nil)) (by kernel_rfl))
        (pss_one (ps_set (i := 5) nd rfl (Or.inl rfl) (pv 7)))))))
      (pss_one (ps_ret (pv 2))))))), ?_⟩
    refine ⟨by show 2 ≤ sizeLine; decide, fun b hb => ⟨b, _, rfl, SqT.of upd_same, rfl, _, _, rfl, _, _, rfl, rfl, ?_⟩⟩
    have sm0 := sNew (o := .tup [.int 0, .int 1]) (Same.refl H) hb
    refine ⟨_, rfl, l, _, rfl, sm0.seq hl, ?_⟩
    refine for_it (walk_enum (xs := ds.map V.int)) (fun i σ H' => ∃ (tot lo : Int) (v6 v7 : Option V), σ = [some (.ref p), some (.ref l), some (.int tot), some (.int (stp (per d) i).1), some (.int (qn (per d) i)), some (.int lo), v6, v7] ∧ tot + sw (qn (per d)) i (ds.drop i) = sw (qn (per d)) 0 ds ∧ Can (per d) i lo (ds.drop i) ∧ Same H H')
      ⟨0, 0, none, none, rfl, by simp, hc, sm0⟩ (fun i σ H' _ h => by obtain ⟨_, _, _, _, _, _, _, h⟩ := h; exact h.seq hl) ?_ ?_
    · rintro i x σ H2 H3 hi ⟨tot, lo, v6, v7, rfl, es, hcn, sm⟩ ⟨u, x1, x2, rfl, hu, rfl, e1, e2⟩
      rw [List.length_map] at hi
      obtain rfl := Option.some.inj e1
      obtain ⟨dg, rfl, ed⟩ := drop_get e2
      rw [ed] at hcn es
      have sm3 : Same H (upd H2 u (.tup [.int (i : Nat), .int dg])) := sNew sm hu
      have hp3 := sm3 _ _ hp
      obtain ⟨⟨d0, d1, d2⟩, hcn'⟩ := hcn
      refine ⟨u, _, rfl, SqT.of upd_same, rfl, _, _, rfl, _, _, rfl, rfl, ?_⟩
      refine ⟨_, rfl, p, C, dx, _, _, rfl, hp3, T.cl, T.nP, ffl_per d t, _, rfl, _, rfl, _, rfl, t, per d, i, dg, lo, rfl, hT, hpr, _, rfl, ?_⟩
      have eb : btw (.int dg) 0 (if i = 0 ∨ lo ≠ 0 then ai (per d) i - 1 else ai (per d) i) = true := by
        show (decide (0 ≤ dg) && decide (dg ≤ _)) = true
        simp only [Bool.and_eq_true, decide_eq_true_eq]
        refine ⟨d0, ?_⟩
        split
        · exact d2 (by assumption)
        · exact d1
      rw [eb]
      refine iteF ?_
      have bq := qn_bd' hpr.bd (show i ≤ 280 by omega)
      have b4 := hpr.bd i
      refine ⟨_, rfl, _, rfl, _, rfl, _, _, rfl, rfl, mulOk (n := 3) (m := 841) (Nat.lt_of_le_of_lt (show dg.natAbs ≤ 4 by omega) (by decide)) bq (by decide) (by decide) (by decide), _, _, rfl, rfl, ?_⟩
      refine ⟨_, rfl, _, rfl, p, C, dx, _, _, rfl, hp3, T.cl, T.nP, ffl_per d t, _, rfl, t, per d, i, rfl, hT, hpr, _, rfl, _, _, rfl, rfl, mulOk (n := 3) (m := 841) (Nat.lt_of_le_of_lt (show (ai (per d) i).natAbs ≤ 4 by omega) (by decide)) bq (by decide) (by decide) (by decide), _, rfl, _, _, rfl, rfl, _, _, rfl, ?_⟩
      refine ⟨_, rfl, _, _, _, _, rfl, ?_, hcn', sm3⟩
      rw [← es]
      simp only [sw]
      omega
    · rintro σ H2 ⟨tot, lo, v6, v7, rfl, es, hcn, sm⟩
      rw [List.length_map, List.drop_length] at es
      refine ⟨_, rfl, ?_⟩
      have : tot = sw (qn (per d)) 0 ds := by rw [← es]; simp [sw]
      rw [this]
      exact q _ sm
theorem ok_FBase {f C CS bd go po : Addr} {mc : Value} {fd : FuncData} {k : Nat} (F : Fun K "base" "Field.base" (sF 8) f fd) (T : TxF K mg C) (TS : TxS K mg CS) (mB : mg "BASES" = some (.ref bd)) (hB : BasK K bd)
    (GO : FnR P w K mg base CX0 k go (spOfSlope K CS)) (cr : ClX.CRead K CS mc) (sm0 : SMet K CS mc "of_slope" po go) : FnOk P w K mg base CX0 (k + 1) f fd ["self"] (spBase K C CS) := by
  refine F.ok sc_FBase (fun vs H Q E h => ?_) (fun cdv A outer s H vs Q E hr h => ?_)
  · obtain ⟨p, d, rfl, _⟩ := h
    rfl
  · obtain ⟨p, d, rfl, hF, hd, q⟩ := h
    have nd := sc_FBase.nd
    obtain ⟨dx, t, hp, hT⟩ := hF
    obtain ⟨tb, ib, tt⟩ := hB d hd
    refine ⟨_, (pss_one (ps_ret (pe_smeth (pe_glob (v := .ref CS) (by rfl) TS.mg rfl) cr sm0 GO hr pass0 (pa_cons (pe_fld (pv 0) rfl) (pa_cons (pe_ix ix_intd (pe_glob (v := .ref bd) (by rfl) mB rfl) (pe_fld (pv 0) rfl) (fun _ _ => rfl)) pa_nil))))), ?_⟩
    refine ⟨rfl, _, rfl, p, C, dx, _, _, rfl, hp, T.cl, T.nR, ffl_root d t, _, rfl, p, C, dx, _, _, rfl, hp, T.cl, T.nR, ffl_root d t, _, _, _, rfl, rfl, ib, d, bI d, 1, bK d, .ref tb, rfl, hd, ⟨tb, _, rfl, tt.sq, by show 3 ≤ 100000; decide, _, _, rfl, rfl, _, _, rfl, rfl, _, _, rfl, rfl, rfl⟩, ?_, fun x H' nx sv sm => q x H' nx sv sm⟩
    rcases hd with rfl | rfl | rfl | rfl | rfl <;> decide
end
end RF

namespace RF
open PySem L2 PyProof.Rows
theorem atI_back {α : Type} {xs : List α} {j : Nat} {v : α} (h1 : 1 ≤ j) (h2 : j ≤ xs.length) (h : xs[xs.length - j]? = some v) : atI xs (-(j : Int)) = some v := by
  have e : ixN xs.length (-(j : Int)) = some (xs.length - j) := by
    unfold ixN
    rw [if_neg (by omega), if_pos (by omega)]
    congr 1
    omega
  unfold atI
  rw [e]
  exact h
def spPeriod : Sp := fun vs H Q _ => ∃ (d : Int), vs = [.int d] ∧ Root d ∧ ∀ a H', H a = none → H' a = some (.lst ((per d).map V.int)) → Same H H' → Q (.ref a) H'
def spLSteps : Sp := fun vs H Q _ => ∃ (d : Int) (m : Nat), vs = [.int d, .int (m : Int)] ∧ Root d ∧ m ≤ 279 ∧ ∀ a H', H a = none → H' a = some (.lst (qs (per d) (m + 1))) → Same H H' → Q (.ref a) H'
section
variable {P : Program} {w : World} {K : PySem.W.Frag} {mg : Str → Option Value} {base : Heap}
abbrev s_law_period : Stmt := top 38
abbrev n_law_period : List Str := ["_law_root_here"]
theorem sc_law_period : FnScope n_law_period ["_law_root_here"] (defScope s_law_period) := ⟨rfl, rfl, rfl, by decide +kernel, rfl, by decide +kernel, by decide +kernel⟩
theorem ok_lper {f : Addr} {fd : FuncData} {k : Nat} (F : Fun K "_law_period" "_law_period" s_law_period f fd) : FnOk P w K mg base CX0 (k + 1) f fd ["_law_root_here"] spPeriod := by
  refine F.ok sc_law_period (fun vs H Q E h => ?_) (fun cdv A outer s H vs Q E hr h => ?_)
  · obtain ⟨d, rfl, _⟩ := h
    rfl
  · obtain ⟨d, rfl, hd, q⟩ := h
    refine ⟨_, (pss_one (ps_ret (pe_dget (hu_of hr) (pe_disp (pps_cons pe_int (pe_lst (pa_cons pe_int pa_nil)) (pps_cons pe_int (pe_lst (pa_cons pe_int (pa_cons pe_int pa_nil))) (pps_cons pe_int (pe_lst (pa_cons pe_int pa_nil)) (pps_cons pe_int (pe_lst (pa_cons pe_int (pa_cons pe_int pa_nil))) (pps_cons pe_int (pe_lst (pa_cons pe_int pa_nil)) pps_nil))))) (by rfl) (by rfl) (fun z => by cases z) (by decide)) (pv 0) (fun _ _ => rfl)))), ?_⟩
    refine fun b hb => ?_
    refine ⟨by show 1 ≤ sizeLine; decide, fun a1 h1 => ⟨by show 2 ≤ sizeLine; decide, fun a2 h2 => ⟨by show 1 ≤ sizeLine; decide, fun a3 h3 => ⟨by show 2 ≤ sizeLine; decide, fun a4 h4 => ⟨by show 1 ≤ sizeLine; decide, fun a5 h5 => ?_⟩⟩⟩⟩⟩
    have b1 : a1 ≠ b := ne_new h1
    have b2 : a2 ≠ b := ne_new (of_new h2)
    have b3 : a3 ≠ b := ne_new (of_new (of_new h3))
    have b4 : a4 ≠ b := ne_new (of_new (of_new (of_new h4)))
    have b5 : a5 ≠ b := ne_new (of_new (of_new (of_new (of_new h5))))
    refine ⟨by rw [upd_ne b5.symm, upd_ne b4.symm, upd_ne b3.symm, upd_ne b2.symm, upd_ne b1.symm, upd_same], [(Sum.inl 2, .ref a1), (Sum.inl 3, .ref a2), (Sum.inl 5, .ref a3), (Sum.inl 6, .ref a4), (Sum.inl 13, .ref a5)], rfl, by show 5 ≤ 15; decide, _, rfl, b, ?_⟩
    have sm5 : Same H (upd (upd (upd (upd (upd (upd H b (.dK [])) a1 (.lst [.int 2])) a2 (.lst [.int 1, .int 2])) a3 (.lst [.int 1])) a4 (.lst [.int 2, .int 4])) a5 (.lst [.int 3])) := sNew (sNew (sNew (sNew (sNew (sNew (Same.refl _) hb) h1) h2) h3) h4) h5
    have smp := sm_upd (o := .dK (mergeK [] [(Sum.inl 2, .ref a1), (Sum.inl 3, .ref a2), (Sum.inl 5, .ref a3), (Sum.inl 6, .ref a4), (Sum.inl 13, .ref a5)])) sm5 hb
    have n12 : a2 ≠ a1 := ne_new h2
    have n23 : a3 ≠ a2 := ne_new h3
    have n13 : a3 ≠ a1 := ne_new (of_new h3)
    have n34 : a4 ≠ a3 := ne_new h4
    have n24 : a4 ≠ a2 := ne_new (of_new h4)
    have n14 : a4 ≠ a1 := ne_new (of_new (of_new h4))
    have n45 : a5 ≠ a4 := ne_new h5
    have n35 : a5 ≠ a3 := ne_new (of_new h5)
    have n25 : a5 ≠ a2 := ne_new (of_new (of_new h5))
    have n15 : a5 ≠ a1 := ne_new (of_new (of_new (of_new h5)))
    rcases hd with rfl | rfl | rfl | rfl | rfl
    · exact ⟨.ref a1, rfl, .inl ⟨_, Sum.inl 2, .inl upd_same, rfl, rfl⟩, q a1 _ (of_new h1) (by rw [upd_ne b1, upd_ne n15.symm, upd_ne n14.symm, upd_ne n13.symm, upd_ne n12.symm, upd_same]; rfl) smp⟩
    · exact ⟨.ref a2, rfl, .inl ⟨_, Sum.inl 3, .inl upd_same, rfl, rfl⟩, q a2 _ (of_new (of_new h2)) (by rw [upd_ne b2, upd_ne n25.symm, upd_ne n24.symm, upd_ne n23.symm, upd_same]; rfl) smp⟩
    · exact ⟨.ref a3, rfl, .inl ⟨_, Sum.inl 5, .inl upd_same, rfl, rfl⟩, q a3 _ (of_new (of_new (of_new h3))) (by rw [upd_ne b3, upd_ne n35.symm, upd_ne n34.symm, upd_same]; rfl) smp⟩
    · exact ⟨.ref a4, rfl, .inl ⟨_, Sum.inl 6, .inl upd_same, rfl, rfl⟩, q a4 _ (of_new (of_new (of_new (of_new h4)))) (by rw [upd_ne b4, upd_ne n45.symm, upd_same]; rfl) smp⟩
    · exact ⟨.ref a5, rfl, .inl ⟨_, Sum.inl 13, .inl upd_same, rfl, rfl⟩, q a5 _ (of_new (of_new (of_new (of_new (of_new h5))))) (by rw [upd_ne b5, upd_same]; rfl) smp⟩
abbrev s_law_steps : Stmt := top 39
abbrev n_law_steps : List Str := ["_law_root_here", "_law_many", "_law_found", "_law_last", "_law_period_here", "_law_k"]
theorem sc_law_steps : FnScope n_law_steps ["_law_root_here", "_law_many"] (defScope s_law_steps) := ⟨rfl, rfl, rfl, by decide +kernel, rfl, by decide +kernel, by decide +kernel⟩
theorem ok_lst {f : Addr} {fd : FuncData} {k : Nat} (F : Fun K "_law_steps" "_law_steps" s_law_steps f fd) (T : TB mg) (T1 : mg "range" = none) (D1 : Df P w K mg base k "_law_period" ["_law_root_here"] spPeriod) : FnOk P w K mg base CX0 (k + 1) f fd ["_law_root_here", "_law_many"] spLSteps := by
  refine F.ok sc_law_steps (fun vs H Q E h => ?_) (fun cdv A outer s H vs Q E hr h => ?_)
  · obtain ⟨d, m, rfl, _⟩ := h
    rfl
  · obtain ⟨d, m, rfl, hd, hm, q⟩ := h
    have nd := sc_law_steps.nd
    have hpr := perOk hd
    refine ⟨_, (pss_cons (ps_par (i := 2) (j := 3) rfl nd rfl rfl (by decide) rfl rfl (pa_cons (pe_lst (pa_cons pe_int pa_nil)) (pa_cons pe_int pa_nil)) (by kernel_rfl))
      (pss_cons (ps_set (i := 4) nd rfl (Or.inl rfl) (pe_callD D1 hr (Nat.le_refl _) (pa_cons (pv 0) pa_nil)))
      (pss_cons (ps_for PassesOwn.never rfl (pi_range1 rfl T1 (pa_cons (pv 1) pa_nil)) (pg_name (i := 5) nd rfl (Or.inl rfl))
      (pss_cons (ps_expr (pe_bm PySem.F.plainAttrs_list PySem.F.slot_list_append PySem.F.type_list_append mt_append (pv 2) (pa_cons (pe_op op_add (pe_op op_mulW (pe_ix ix_list (pv 4) (pe_op op_mod (pe_callTy call_int1 (by rfl) T.int (by decide +kernel) (pa_cons (pv 5) pa_nil)) (pe_callB call_len_seq (by rfl) T.len (by decide +kernel) (pa_cons (pv 4) pa_nil))) (fun _ _ => rfl)) (pe_ix ix_list (pv 2) (pe_un un_neg pe_int) (fun _ _ => rfl))) (pv 3)) pa_nil)))
        (pss_one (ps_set (i := 3) nd rfl (Or.inl rfl) (pe_ix ix_list (pv 2) (pe_un un_neg pe_int) (fun _ _ => rfl))))))
      (pss_one (ps_ret (pv 2)))))), ?_⟩
    refine ⟨by show 1 ≤ sizeLine; decide, fun a ha => ⟨_, _, rfl, ?_⟩⟩
    refine ⟨_, rfl, d, rfl, hd, fun t H1 nt ht sm => ?_⟩
    have sm0 : Same H H1 := (sNew (Same.refl _) ha).trans sm
    have hta : t ≠ a := ne_new nt
    refine ⟨_, rfl, _, rfl, by omega, by omega, for_range (n := m) (fun i σ H' => ∃ v : Option V, σ = [some (.int d), some (.int (m : Int)), some (.ref a), some (.int (stp (per d) i).1), some (.ref t), v] ∧ H' a = some (.lst (qs (per d) (i + 1))) ∧ H' t = some (.lst ((per d).map V.int)) ∧ Same H H')
      ⟨none, rfl, by rw [sm a _ upd_same]; rfl, ht, sm0⟩ ?_ ?_⟩
    · rintro i σ H2 hi ⟨v, rfl, h1, h2, sm2⟩
      have hx1 : atI (qs (per d) (i + 1)) (-1) = some (.int (qn (per d) i)) := by
        rw [← qs_snoc]; exact atI_last _ _
      have hx2 : atI (qs (per d) (i + 1 + 1)) (-2) = some (.int (qn (per d) i)) := atI_back (j := 2) (by decide) (by rw [qs_len]; omega) (by rw [qs_len]; exact qs_get (by omega))
      have ei : (0 : Int) + ((i : Nat) : Int) = ((i : Nat) : Int) := by omega
      rw [ei]
      refine ⟨_, rfl, .inl ⟨rfl, _, SqL.of h1⟩, _, rfl, _, rfl, .inl ⟨_, rfl, _, rfl, t, _, rfl, .inl (SqL.of h2), _, _, rfl, rfl, (by show (0 : Int) < ((((per d).map V.int).length : Nat) : Int); rw [List.length_map]; have := hpr.len; omega), t, _, _, _, rfl, rfl, SqL.of h2, ai_atI hpr i, ?_⟩⟩
      refine ⟨_, rfl, _, rfl, a, _, _, _, rfl, rfl, SqL.of h1, hx1, _, _, rfl, rfl, mulOk (n := 3) (m := 841) (Nat.lt_of_le_of_lt (show (ai (per d) i).natAbs ≤ 4 by have := hpr.bd i; omega) (by decide)) (qn_bd' hpr.bd (by omega)) (by decide) (by decide) (by decide), _, rfl, _, _, rfl, rfl, a, _, _, rfl, rfl, h1, by rw [qs_len, sizeLine_eq]; omega, ?_⟩
      have e1 : ai (per d) i * qn (per d) i + (stp (per d) i).1 = qn (per d) (i + 1) := rfl
      dsimp only
      rw [e1, qs_snoc]
      refine ⟨_, rfl, _, rfl, a, _, _, _, rfl, rfl, SqL.of upd_same, hx2, ⟨_, rfl, upd_same, by rw [upd_ne hta]; exact h2, sm_upd sm2 ha⟩⟩
    · rintro σ H2 ⟨v, rfl, h1, h2, sm2⟩
      exact ⟨_, rfl, q a _ ha h1 sm2⟩
end
end RF

namespace RF
theorem ptp_bd {p : List Int} (h : ∀ i, 1 ≤ ai p i ∧ ai p i ≤ 4) (i : Nat) : 0 ≤ (ptp p i).1 ∧ 0 ≤ (ptp p i).2 ∧ (ptp p i).1 ≤ 8 ^ i ∧ (ptp p i).2 ≤ 8 ^ i := by
  induction i with
  | zero => simp [ptp]
  | succ i ih =>
    obtain ⟨a, b, c, d⟩ := ih
    have h1 : ai p i * (ptp p i).2 ≤ 4 * (ptp p i).2 := Int.mul_le_mul_of_nonneg_right (h i).2 b
    have h2 : 0 ≤ ai p i * (ptp p i).2 := Int.mul_nonneg (by have := (h i).1; omega) b
    simp only [ptp]
    rw [Int.pow_succ]
    omega
theorem pn_bd' {p : List Int} (h : ∀ i, 1 ≤ ai p i ∧ ai p i ≤ 4) {i : Nat} (hi : i ≤ 280) : Bd 841 (pn p i) := by
  obtain ⟨_, h2, _, h1⟩ := ptp_bd h i
  have h3 : (8 : Int) ^ i ≤ 8 ^ 280 := by exact_mod_cast Nat.pow_le_pow_right (by decide : 0 < 8) hi
  unfold Bd pn
  have h4 : (((ptp p i).2.natAbs : Nat) : Int) < 2 ^ 841 := by
    have : (8 : Int) ^ 280 < 2 ^ 841 := by decide +kernel
    omega
  exact_mod_cast h4
theorem pn_zero (p : List Int) : pn p 0 = 0 := rfl
theorem pn_one (p : List Int) : pn p 1 = 1 := by simp [pn, ptp]
theorem pn_step (p : List Int) (i : Nat) : ai p (i + 1) * pn p (i + 1) + pn p i = pn p (i + 2) := rfl
/-- the sum of a comprehension over places -/
theorem sw_sum (w : Nat → Int) : ∀ (ds : List Int) (i : Nat), ((List.range ds.length).map fun t => ds.getD t 0 * w (i + t)).sum = sw w i ds
  | [], _ => rfl
  | d :: ds, i => by
    rw [List.length_cons, List.range_succ_eq_map, List.map_cons, List.sum_cons, List.map_map]
    have e := sw_sum w ds (i + 1)
    have e2 : (List.map ((fun t => (d :: ds).getD t 0 * w (i + t)) ∘ Nat.succ) (List.range ds.length)) = List.map (fun t => ds.getD t 0 * w (i + 1 + t)) (List.range ds.length) := by
      apply List.map_congr_left
      intro t _
      show (d :: ds).getD (t + 1) 0 * w (i + (t + 1)) = _
      rw [List.getD_cons_succ, show i + (t + 1) = i + 1 + t by omega]
    rw [e2, e]
    simp [sw]
/-- the places above 0 -/
def fl : Nat → List Int → List Int
  | _, [] => []
  | i, d :: ds => if 0 < d then (i : Int) :: fl (i + 1) ds else fl (i + 1) ds
theorem fl_snoc {d : Int} : ∀ l i, fl i (l ++ [d]) = fl i l ++ (if 0 < d then [((i + l.length : Nat) : Int)] else [])
  | [], i => by simp [fl]
  | c :: l, i => by
    have e : i + (c :: l).length = i + 1 + l.length := by simp; omega
    rw [e]
    simp only [List.cons_append, fl, fl_snoc l (i + 1)]
    split <;> simp
theorem fl_lead : ∀ (ds : List Int) (i : Nat), (fl i ds = [] ∧ lead ds = 0) ∨ ∃ (j : Nat) (r : List Int), fl i ds = (j : Int) :: r ∧ i ≤ j ∧ (((j - i) % 2 = 0 ∧ lead ds = 1) ∨ ((j - i) % 2 = 1 ∧ lead ds = -1))
  | [], _ => .inl ⟨rfl, rfl⟩
  | d :: ds, i => by
    by_cases hd : 0 < d
    · exact .inr ⟨i, fl (i + 1) ds, by simp [fl, hd], by omega, .inl ⟨by omega, by simp [lead, hd]⟩⟩
    · have e1 : fl i (d :: ds) = fl (i + 1) ds := by simp [fl, hd]
      have e2 : lead (d :: ds) = - lead ds := by simp [lead, hd]
      rw [e1, e2]
      rcases fl_lead ds (i + 1) with ⟨a, b⟩ | ⟨j, r, a, b, c⟩
      · exact .inl ⟨a, by omega⟩
      · refine .inr ⟨j, r, a, by omega, ?_⟩
        rcases c with ⟨c, e⟩ | ⟨c, e⟩
        · exact .inr ⟨by omega, by omega⟩
        · exact .inl ⟨by omega, by omega⟩
theorem fl_len : ∀ (ds : List Int) (i : Nat), (fl i ds).length ≤ ds.length
  | [], _ => Nat.le_refl _
  | d :: ds, i => by
    have := fl_len ds (i + 1)
    unfold fl
    split <;> simp <;> omega
end RF

namespace RF
open PySem L2 PyProof.Rows
def spPartsS (C : Addr) : Sp := fun vs H Q _ => ∃ (p : Addr) (d i j k : Int), vs = [.ref p] ∧ SV H C p d i j k ∧ ∀ t, H t = some (.tup [.int (pI i j k), .int (pJ i j k), .int (pK i j k)]) → Q (.ref t) H
theorem shaped_ints (ns : List Int) : SeqAt.shaped (.list (ns.map PyData.int)) = true := by
  unfold SeqAt.shaped
  have h1 : PyData.canLayAll0 (ns.map PyData.int) = true := by
    induction ns with
    | nil => rfl
    | cons a r ih => simp only [List.map_cons, PyData.canLayAll0, ih, PyData.canLay0, Bool.and_self]
  have h2 : PyData.depthAll (ns.map PyData.int) ≤ 1 := by
    induction ns with
    | nil => simp [PyData.depthAll]
    | cons a r ih =>
      have := ih (by simp only [List.map_cons, PyData.canLayAll0, Bool.and_eq_true] at h1; exact h1.2)
      simp only [List.map_cons, PyData.depthAll, PyData.depth]
      omega
  simp only [PyData.canLay0, h1, Bool.true_and, PyData.depth]
  exact decide_eq_true (by omega)
theorem dp_ints {K : PySem.W.Frag} {H : Hp} : ∀ ns : List Int, DpAll K H (ns.map V.int) (ns.map PyData.int)
  | [] => .nil
  | a :: r => .cons (.int a) (dp_ints r)
theorem eqv_nil (ns : List Int) : PyData.eqv (.list (ns.map PyData.int)) (.list []) = ns.isEmpty := by cases ns <;> rfl
def ps (p : List Int) (m : Nat) : List V := (List.range m).map fun i => V.int (pn p i)
theorem ps_len (p : List Int) (m : Nat) : (ps p m).length = m := by simp [ps]
theorem ps_snoc (p : List Int) (m : Nat) : ps p m ++ [.int (pn p m)] = ps p (m + 1) := by simp [ps, List.range_succ]
theorem ps_get {p : List Int} {m i : Nat} (h : i < m) : (ps p m)[i]? = some (.int (pn p i)) := by
  unfold ps
  rw [List.getElem?_map, List.getElem?_range h]
  rfl
theorem ds_get {ds : List Int} {i : Nat} (h : i < ds.length) : (ds.map V.int)[i]? = some (.int (ds.getD i 0)) := by
  rw [List.getElem?_map, List.getElem?_eq_getElem h, List.getD_eq_getElem?_getD, List.getElem?_eq_getElem h]
  rfl
theorem bnd_get {p : List Int} : ∀ (ds : List Int) (i t : Nat), Bnd p i ds → t < ds.length → 0 ≤ ds.getD t 0 ∧ ds.getD t 0 ≤ ai p (i + t)
  | d :: ds, i, 0, h, _ => h.1
  | d :: ds, i, t + 1, h, hl => by
    rw [List.getD_cons_succ, show i + (t + 1) = i + 1 + t by omega]
    exact bnd_get ds (i + 1) t h.2 (by simpa using hl)
theorem atI_zero {α : Type} (v : α) (r : List α) : atI (v :: r) 0 = some v := atI_nat (xs := v :: r) (j := 0) rfl
theorem atI_zeroI (j : Int) (r : List Int) : atI (List.map V.int (j :: r)) 0 = some (.int j) := atI_zero _ _
theorem base_parts {d : Int} (h : Root d) : pI (bI d) 1 (bK d) = bI d ∧ pJ (bI d) 1 (bK d) = 1 ∧ pK (bI d) 1 (bK d) = bK d := by
  rcases h with rfl | rfl | rfl | rfl | rfl <;> decide +kernel
theorem per_len {d : Int} (h : Root d) : (per d).length = 1 ∨ (per d).length = 2 := by
  rcases h with rfl | rfl | rfl | rfl | rfl <;> decide
theorem bK_or {d : Int} (h : Root d) : bK d = 1 ∨ bK d = 2 := by
  rcases h with rfl | rfl | rfl | rfl | rfl <;> decide
theorem bI_bd {d : Int} (h : Root d) : Bd 2 (bI d) := by
  rcases h with rfl | rfl | rfl | rfl | rfl <;> (unfold Bd; decide)
theorem sw_sum0 (w : Nat → Int) (ds : List Int) : ((List.range ds.length).map fun t => ds.getD t 0 * w t).sum = sw w 0 ds := by
  have h := sw_sum w ds 0
  simp only [Nat.zero_add] at h
  exact h
theorem lfl0 (d j n : Int) (h : j = 1) (hn : 0 ≤ n) : lfl d 0 j 1 n = rt (n * n * d) := by
  subst h
  unfold lfl flr
  rw [Int.one_mul, if_neg (by omega), show d * n * n = n * n * d by grind]
  simp
section
variable {P : Program} {w : World} {K : PySem.W.Frag} {mg : Str → Option Value} {base : Heap}
abbrev n_SParts : List Str := ["self"]
theorem sc_SParts : FnScope n_SParts ["self"] (defScope (sS 3)) := ⟨rfl, rfl, rfl, by decide +kernel, rfl, by decide +kernel, by decide +kernel⟩
theorem ok_SParts {f C : Addr} {fd : FuncData} {k : Nat} (F : Fun K "parts" "Surd.parts" (sS 3) f fd) (T : TxS K mg C) : FnOk P w K mg base CX0 (k + 1) f fd ["self"] (spPartsS C) := by
  refine F.ok sc_SParts (fun vs H Q E h => ?_) (fun cdv A outer s H vs Q E hr h => ?_)
  · obtain ⟨p, d, i, j, k, rfl, _⟩ := h
    rfl
  · obtain ⟨p, d, i, j, k, rfl, ⟨_, dx, t, hp, ht⟩, q⟩ := h
    exact ⟨_, (pss_one (ps_ret (pe_fld (pv 0) rfl))), _, rfl, p, C, dx, _, _, rfl, hp, T.cl, T.nP, sfl_parts d t, q t ht⟩
end
abbrev n_law : List Str := ["_law_script", "_law_bag_here", "_law_turn", "_law_root_here", "_law_field", "_law_period_here", "_law_number", "_law_digits", "_law_length", "_law_steps_here", "_law_others", "_law_k", "_law_found", "_law_further", "_law_least", "_law_odd", "_law_i", "_law_j", "_law_due", "_law_last", "_law_at"]
theorem sc_law : FnScope n_law ["_law_script"] (defScope (top 41)) := ⟨rfl, rfl, rfl, by decide +kernel, rfl, by decide +kernel, by decide +kernel⟩
def spLaw (K : PySem.W.Frag) : Sp := fun vs H Q _ => ∃ (a : Addr) (ns : List Int), vs = [.ref a] ∧ SqL K H a (ns.map V.int) ∧ ns.length ≤ 63 ∧ ∀ H', Q (.bl true) H'
structure EnvK (P : Program) (w : World) (K : PySem.W.Frag) (mg : Str → Option Value) (base : Heap) (C CS : Addr) : Prop where
  bag : Df P w K mg base 9 "_law_bag" ["_law_script"] (spBag K)
  of_ : Df P w K mg base 9 "_law_of" ["_law_bag_here", "_law_some"] (spOf K)
  root : Df P w K mg base 9 "_law_root" ["_law_bag_here"] spRoot
  far : Df P w K mg base 9 "_law_far" ["_law_bag_here", "_law_figures"] spFar
  same : Df P w K mg base 9 "_law_same" ["_law_found", "_law_due"] (spSame K 5)
  lfl : Df P w K mg base 9 "_law_floor" ["_law_root_here", "_law_slope", "_law_number"] (spLFl K)
  per : Df P w K mg base 9 "_law_period" ["_law_root_here"] spPeriod
  steps : Df P w K mg base 9 "_law_steps" ["_law_root_here", "_law_many"] spLSteps
  T : TxF K mg C
  TS : TxS K mg CS
  mkF : ∃ (f : Addr) (fd : FuncData), Mk K C f ∧ FnOk P w K mg base CX0 8 f fd ["self", "root"] (spFInit K C) ∧ Binds K fd ["self", "root"] []
  digits : Mt P w K mg base C 9 "digits" ["self", "number"] (spDigits K C)
  value : Mt P w K mg base C 9 "value" ["self", "digits"] (spValue K C)
  base_ : Mt P w K mg base C 9 "base" ["self"] (spBase K C CS)
  parts : Mt P w K mg base CS 9 "parts" ["self"] (spPartsS CS)
  TB_ : TB mg
  range : mg "range" = none
  sum : mg "sum" = none
section
variable {P : Program} {w : World} {K : PySem.W.Frag} {mg : Str → Option Value} {base : Heap}
theorem ok_law {f C CS : Addr} {fd : FuncData} (F : Fun K "law" "law" (top 41) f fd) (e : EnvK P w K mg base C CS) : FnOk P w K mg base CX0 10 f fd ["_law_script"] (spLaw K) := by
  refine F.ok sc_law (fun vs H Q E h => ?_) (fun cdv A outer s H vs Q E hr h => ?_)
  · obtain ⟨a, ns, rfl, _⟩ := h
    rfl
  · obtain ⟨a, ns, rfl, hS, hl, kk⟩ := h
    have nd := sc_law.nd
    obtain ⟨fi, fdi, M1, G, b1⟩ := e.mkF
    have T := e.T
    have TS := e.TS
    have TB1 := e.TB_
    refine ⟨_, (pss_cons (ps_set (i := 1) nd rfl (Or.inl rfl) (pe_callD e.bag hr (by decide) (pa_cons (pv 0) pa_nil)))
      (pss_cons (ps_for PassesOwn.never rfl (pi_range1 rfl e.range (pa_cons pe_int pa_nil)) (pg_name (i := 2) nd rfl (Or.inl rfl))
      (pss_cons (ps_set (i := 3) nd rfl (Or.inl rfl) (pe_callD e.root hr (by decide) (pa_cons (pv 1) pa_nil)))
        (pss_cons (ps_par (i := 4) (j := 5) rfl nd rfl rfl (by decide) rfl rfl (pa_cons (pe_make M1 G hr rfl T.mg b1 .nil pass0 (pa_cons (pv 3) pa_nil)) (pa_cons (pe_callD e.per hr (by decide) (pa_cons (pv 3) pa_nil)) pa_nil)) (by kernel_rfl))
        (pss_cons (ps_set (i := 6) nd rfl (Or.inl rfl) (pe_callD e.of_ hr (by decide) (pa_cons (pv 1) (pa_cons (pe_lst (pa_cons pe_int (pa_cons (pe_callD e.far hr (by decide) (pa_cons (pv 1) (pa_cons pe_int pa_nil))) (pa_cons (pe_callD e.far hr (by decide) (pa_cons (pv 1) (pa_cons pe_int pa_nil))) (pa_cons (pe_callD e.far hr (by decide) (pa_cons (pv 1) (pa_cons pe_int pa_nil))) pa_nil))))) pa_nil))))
        (pss_cons (ps_asg (pe_tup (pa_cons (pe_mt (pv 4) T.cl e.digits hr (by decide) (pa_cons (pv 6) pa_nil)) (pa_cons (pe_callB call_len_seq (by rfl) TB1.len (by decide +kernel) (pa_cons (pv 5) pa_nil)) pa_nil))) (pg_tup rfl (pgs_cons (pg_name (i := 7) nd rfl (Or.inr rfl)) (pgs_cons (pg_name (i := 8) nd rfl (Or.inr rfl)) pgs_nil))))
        (pss_cons (ps_asg (pe_tup (pa_cons (pe_callD e.steps hr (by decide) (pa_cons (pv 3) (pa_cons (pe_op op_add (pe_op op_add (pe_callB call_len_seq (by rfl) TB1.len (by decide +kernel) (pa_cons (pv 7) pa_nil)) (pv 8)) pe_int) pa_nil))) (pa_cons (pe_lst (pa_cons pe_int (pa_cons pe_int pa_nil))) pa_nil))) (pg_tup rfl (pgs_cons (pg_name (i := 9) nd rfl (Or.inr rfl)) (pgs_cons (pg_name (i := 10) nd rfl (Or.inr rfl)) pgs_nil))))
        (pss_cons (ps_for PassesOwn.never rfl (pi_range2 rfl e.range (pa_cons pe_int (pa_cons (pe_op op_add (pe_callB call_len_seq (by rfl) TB1.len (by decide +kernel) (pa_cons (pv 7) pa_nil)) pe_int) pa_nil))) (pg_name (i := 11) nd rfl (Or.inl rfl))
        (pss_one (ps_expr (pe_bm PySem.F.plainAttrs_list PySem.F.slot_list_append PySem.F.type_list_append mt_append (pv 10) (pa_cons (pe_op op_add (pe_op op_mulW (pe_ix ix_list (pv 5) (pe_op op_mod (pe_callTy call_int1 (by rfl) TB1.int (by decide +kernel) (pa_cons (pe_op op_sub (pv 11) pe_int) pa_nil)) (pv 8)) (fun _ _ => rfl)) (pe_ix ix_list (pv 10) (pe_un un_neg pe_int) (fun _ _ => rfl))) (pe_ix ix_list (pv 10) (pe_un un_neg pe_int) (fun _ _ => rfl))) pa_nil)))))
        (pss_cons (ps_set (i := 12) nd rfl (Or.inl rfl) (pe_callB (cr_sum rfl) (by rfl) e.sum (by decide +kernel) (pa_cons (pe_lc (own := [("_law_at", 20)]) (g := gName 20) (tt := tYes) (te := tOp (rI CMulW fun i j => .int (i * j)) (tOp (rIxL K) (tVar 7) (tVar 20)) (tOp (rIxL K) (tVar 10) (tVar 20))) (by rfl) nd (pi_range1 rfl e.range (pa_cons (pe_callB call_len_seq (by rfl) TB1.len (by decide +kernel) (pa_cons (pv 7) pa_nil)) pa_nil)) (blkOk_by (own := [("_law_at", 20)]) (N := n_law) (sc := defScope (top 41)) (by decide +kernel)) (fun _ _ _ _ _ => (pg_name (i := 20) nd rfl (Or.inl rfl))) (fun _ _ _ _ _ => pts_nil) (fun _ _ _ _ _ => (pe_op op_mulW (pe_ix ix_list (pv 7) (pv 20) (fun _ _ => rfl)) (pe_ix ix_list (pv 10) (pv 20) (fun _ _ => rfl))))) pa_nil)))
        (pss_cons (ps_set (i := 13) nd rfl (Or.inl rfl) (pe_callB (cr_sum rfl) (by rfl) e.sum (by decide +kernel) (pa_cons (pe_lc (own := [("_law_at", 20)]) (g := gName 20) (tt := tYes) (te := tOp (rI CMulW fun i j => .int (i * j)) (tOp (rIxL K) (tVar 7) (tVar 20)) (tOp (rIxL K) (tVar 9) (tOp (rI0 fun i j => .int (i + j)) (tVar 20) (tVar 8)))) (by rfl) nd (pi_range1 rfl e.range (pa_cons (pe_callB call_len_seq (by rfl) TB1.len (by decide +kernel) (pa_cons (pv 7) pa_nil)) pa_nil)) (blkOk_by (own := [("_law_at", 20)]) (N := n_law) (sc := defScope (top 41)) (by decide +kernel)) (fun _ _ _ _ _ => (pg_name (i := 20) nd rfl (Or.inl rfl))) (fun _ _ _ _ _ => pts_nil) (fun _ _ _ _ _ => (pe_op op_mulW (pe_ix ix_list (pv 7) (pv 20) (fun _ _ => rfl)) (pe_ix ix_list (pv 9) (pe_op op_add (pv 20) (pv 8)) (fun _ _ => rfl))))) pa_nil)))
        (pss_cons ((ps_setLc (i := 14) (own := [("_law_at", 20)]) (g := gName 20) (tt := tTest (tOp (rI0 fun i j => .bl (decide (j < i))) (tOp (rIxL K) (tVar 7) (tVar 20)) (tC (.int 0)))) (te := tVar 20) (by rfl) nd rfl rfl (sw_true rfl rfl rfl (by decide +kernel)) (pi_range1 rfl e.range (pa_cons (pe_callB call_len_seq (by rfl) TB1.len (by decide +kernel) (pa_cons (pv 7) pa_nil)) pa_nil)) (blkOk_by (own := [("_law_at", 20)]) (N := n_law) (sc := defScope (top 41)) (by decide +kernel)) (fun _ _ _ _ _ => (pg_name (i := 20) nd rfl (Or.inl rfl))) (fun _ _ _ _ _ => (pts_one (pt_cmpR op_gt (pe_ix ix_list (pv 7) (pv 20) (fun _ _ => rfl)) pe_int (nomark _)))) (fun _ _ _ _ _ => (pv 20))))
        (pss_cons (ps_set (i := 15) nd rfl (Or.inl rfl) (pe_callTy call_int1 (by rfl) TB1.int (by decide +kernel) (pa_cons (pe_and (pe_cmpR (op_neD hr.units) (pv 14) (pe_lst pa_nil) (nomark _)) (pe_one (pe_cmpR op_eq (pe_op op_mod (pe_callTy call_int1 (by rfl) TB1.int (by decide +kernel) (pa_cons (pe_ix ix_list (pv 14) pe_int (fun _ _ => rfl)) pa_nil)) pe_int) pe_int (nomark _)))) pa_nil)))
        (pss_cons (ps_asg (pe_mt0 (pe_mt0 (pv 4) T.cl e.base_ hr (by decide)) TS.cl e.parts hr (by decide)) (pg_tup rfl (pgs_cons (pg_name (i := 16) nd rfl (Or.inl rfl)) (pgs_cons (pg_name (i := 17) nd rfl (Or.inl rfl)) (pgs_cons (pg_name (i := 11) nd rfl (Or.inl rfl)) pgs_nil)))))
        (pss_cons (ps_set (i := 18) nd rfl (Or.inl rfl) (pe_op op_fdiv (pe_op op_add (pe_op op_mulW (pv 16) (pv 6)) (pe_callD e.lfl hr (by decide) (pa_cons (pv 3) (pa_cons (pe_tup (pa_cons pe_int (pa_cons (pv 17) (pa_cons pe_int pa_nil)))) (pa_cons (pv 6) pa_nil))))) (pv 11)))
        (pss_cons (ps_if (pt_not (pt_val (pe_callD e.same hr (by decide) (pa_cons (pe_op op_sub (pv 12) (pv 15)) (pa_cons (pv 18) pa_nil)))))
        (pss_one ps_never)
        pss_nil)
        (pss_cons (ps_set (i := 19) nd rfl (Or.inl rfl) (pe_ifExp (pt_cmpR op_eq (pv 8) pe_int (nomark _)) pe_int (pe_ix ix_list (pv 9) (pe_op op_sub (pv 8) pe_int) (fun _ _ => rfl))))
        (pss_one (ps_if (pw_or (pt_cmpR op_ne (pv 13) (pe_op op_add (pe_op op_mulW (pe_ix ix_list (pv 9) (pv 8) (fun _ _ => rfl)) (pv 6)) (pe_op op_mulW (pv 19) (pv 12))) (nomark _)) (pw_or1 (pt_not (pt_val (pe_callD e.same hr (by decide) (pa_cons (pe_mt (pv 4) T.cl e.value hr (by decide) (pa_cons (pv 7) pa_nil)) (pa_cons (pv 6) pa_nil))))))).pt
        (pss_one ps_never)
        pss_nil)))))))))))))))))
      (pss_one (ps_ret pe_bl)))), ?_⟩
    refine ⟨_, rfl, a, ns, rfl, hS, hl, fun b H1 nb B1 sm1 => ?_⟩
    refine ⟨6, rfl, by decide, by decide, for_range (n := 6) (fun _ σ H' => ∃ v2 v3 v4 v5 v6 v7 v8 v9 v10 v11 v12 v13 v14 v15 v16 v17 v18 v19 v20 : Option V,
        σ = [some (.ref a), some (.ref b), v2, v3, v4, v5, v6, v7, v8, v9, v10, v11, v12, v13, v14, v15, v16, v17, v18, v19, v20] ∧ Bag H' b)
      ⟨none, none, none, none, none, none, none, none, none, none, none, none, none, none, none, none, none, none, none, rfl, B1⟩ ?_ ?_⟩
    · rintro i0 σ H2 hi0 ⟨v2, v3, v4, v5, v6, v7, v8, v9, v10, v11, v12, v13, v14, v15, v16, v17, v18, v19, v20, rfl, B2⟩
      -- root, field, period
      refine ⟨_, rfl, b, rfl, B2, fun d H3 hd0 B3 kp3 => ?_⟩
      have hd : Root d := by unfold Root; omega
      have hpr := perOk hd
      refine ⟨_, rfl, fun x dx nx ndx nex => ⟨x, dx, d, rfl, upd_same, hd, fun H4 F4 kq4 => ⟨rfl, ?_⟩⟩⟩
      have sm4 := Same.made nx ndx kq4
      have B4 := B3.same sm4
      refine ⟨_, rfl, d, rfl, hd, fun pl H5 npl hpl5 sm5 => ⟨_, _, rfl, ?_⟩⟩
      have B5 := B4.same sm5
      have F5 := F4.same sm5
      obtain ⟨_, hb4⟩ := B4.some
      have nplb : pl ≠ b := (ne_of_none hb4 npl).symm
      -- the number
      refine ⟨_, rfl, _, rfl, b, 1, rfl, B5, by decide, by decide, fun n1 H6 n10 n11 B6 kp6 => ?_⟩
      refine ⟨_, rfl, b, 3, rfl, B6, by decide, by decide, fun n2 H7 n20 n21 B7 kp7 => ?_⟩
      refine ⟨_, rfl, b, 40, rfl, B7, by decide, by decide, fun n3 H8 n30 n31 B8 kp8 => ⟨by show 4 ≤ sizeLine; decide, fun p3 hp3 => ?_⟩⟩
      obtain ⟨_, hb8⟩ := B8.some
      refine ⟨b, p3, _, rfl, B8.same (sNew (Same.refl _) hp3), SqL.of upd_same, (ne_of_none hb8 hp3).symm, by show 0 < 4; decide, by show 4 < 1000000; decide, fun v H9 hv B9 kp9 => ?_⟩
      obtain ⟨n, rfl, n0, n40⟩ : ∃ n, v = V.int n ∧ 0 ≤ n ∧ n < 10 ^ 40 := by
        simp only [List.mem_cons, List.not_mem_nil, or_false] at hv
        rcases hv with rfl | rfl | rfl | rfl
        · exact ⟨_, rfl, by omega, by omega⟩
        · exact ⟨_, rfl, n10, by simp at n11; omega⟩
        · exact ⟨_, rfl, n20, by simp at n21; omega⟩
        · exact ⟨_, rfl, n30, by simpa using n31⟩
      have kp59 : Kp b H5 H9 := ((kp6.trans kp7).trans (kp8.trans (Kp.of (sNew (Same.refl _) hp3)))).trans kp9
      have F9 := F5.kp B5 kp59
      have hpl9 : H9 pl = some (.lst ((per d).map V.int)) := kp59 _ _ nplb hpl5
      obtain ⟨dxf, fsf, hins, hno⟩ := F9.ins
      -- digits, length
      refine ⟨_, rfl, x, dxf, fsf, rfl, hins, hno "digits" (by decide +kernel) (by decide +kernel), _, rfl, x, d, n, rfl, F9, hd, n0, n40, fun m l H10 hm hlt nl hl10 sm10 => ?_⟩
      have hpl10 := sm10 _ _ hpl9
      refine ⟨_, rfl, pl, _, rfl, .inl (SqL.of hpl10), by show 2 ≤ sizeLine; decide, fun t1 ht1 => ⟨t1, _, rfl, SqT.of upd_same, rfl, _, _, rfl, _, _, rfl, rfl, ?_⟩⟩
      rw [List.length_map]
      have hL := hpr.len
      have hdl := dg_len (p := per d) m n
      obtain ⟨hcan, hsw⟩ := dg_ok hpr.one m n n0 hlt
      have hbnd := can_bnd _ _ _ hcan
      generalize dg (per d) m n = ds at *
      have smA := sNew (o := .tup [.ref l, .int ((per d).length : Nat)]) (Same.refl _) ht1
      have hl11 := smA _ _ hl10
      -- steps, others
      refine ⟨_, rfl, _, rfl, l, _, rfl, .inl (SqL.of hl11), _, rfl, _, _, rfl, rfl, _, _, rfl, rfl, d, m + (per d).length + 2, by rw [List.length_map, hdl]; rfl, hd, by omega, fun ls H12 nls hls sm12 => ?_⟩
      refine ⟨by show 2 ≤ sizeLine; decide, fun o ho => ⟨by show 2 ≤ sizeLine; decide, fun t2 ht2 => ⟨t2, _, rfl, SqT.of upd_same, rfl, _, _, rfl, _, _, rfl, rfl, ?_⟩⟩⟩
      have sm1012 : Same H10 H12 := smA.trans sm12
      have sm912 : Same H9 H12 := sm10.trans sm1012
      have hl12 := sm1012 _ _ hl10
      have hpl12 := sm1012 _ _ hpl10
      have F12 := F9.same sm912
      have B12 := B9.same sm912
      have ho14 : upd (upd H12 o (.lst [.int 0, .int 1])) t2 (.tup [.ref ls, .ref o]) o = some (.lst (ps (per d) (0 + 2))) := by
        rw [upd_ne (ne_new ht2).symm, upd_same]
        simp [ps, List.range_succ, pn_zero, pn_one]
      have sm1214 : Same H12 (upd (upd H12 o (.lst [.int 0, .int 1])) t2 (.tup [.ref ls, .ref o])) := sNew (sNew (Same.refl _) ho) ht2
      -- the other numbers
      refine ⟨_, rfl, l, _, rfl, .inl (SqL.of (sm1214 _ _ hl12)), _, _, rfl, rfl, 2, _, rfl, ⟨by decide, by decide, by rw [List.length_map, hdl]; omega, by rw [List.length_map, hdl]; omega⟩, ?_⟩
      have en : ((((ds.map V.int).length : Nat) : Int) + 2 - 2).toNat = m := by rw [List.length_map, hdl]; omega
      refine for_range (lo := 2) (n := ((((ds.map V.int).length : Nat) : Int) + 2 - 2).toNat) (fun i σ H' => ∃ v11 : Option V, σ = [some (.ref a), some (.ref b), some (.int (0 + (i0 : Nat))), some (.int d), some (.ref x), some (.ref pl), some (.int n), some (.ref l), some (.int ((per d).length : Nat)), some (.ref ls), some (.ref o), v11, v12, v13, v14, v15, v16, v17, v18, v19, v20] ∧ H' o = some (.lst (ps (per d) (i + 2))) ∧ Same H12 H')
        ⟨v11, rfl, ho14, sm1214⟩ ?_ ?_
      · rintro i σ H15 hi ⟨w11, rfl, ho15, sm15⟩
        rw [en] at hi
        have hat : atI ((per d).map V.int) ((2 + ((i : Nat) : Int) - 1) % (((per d).length : Nat) : Int)) = some (.int (ai (per d) (i + 1))) := by
          rw [show (2 + ((i : Nat) : Int) - 1) = ((i + 1 : Nat) : Int) by omega]
          have := ai_atI hpr (i + 1)
          rw [List.length_map] at this
          exact this
        have hx1 : atI (ps (per d) (i + 2)) (-1) = some (.int (pn (per d) (i + 1))) := by
          rw [← ps_snoc]; exact atI_last _ _
        have hx2 : atI (ps (per d) (i + 2)) (-2) = some (.int (pn (per d) i)) := atI_back (j := 2) (by decide) (by rw [ps_len]; omega) (by rw [ps_len]; exact ps_get (by omega))
        refine ⟨_, rfl, .inl ⟨rfl, _, SqL.of ho15⟩, _, rfl, _, rfl, _, _, rfl, rfl, .inl ⟨_, rfl, _, rfl, _, _, rfl, rfl, (by show (0 : Int) < (((per d).length : Nat) : Int); omega), pl, _, _, _, rfl, rfl, SqL.of (sm15 _ _ hpl12), hat, ?_⟩⟩
        refine ⟨_, rfl, _, rfl, o, _, _, _, rfl, rfl, SqL.of ho15, hx1, _, _, rfl, rfl, mulOk (n := 3) (m := 841) (Nat.lt_of_le_of_lt (show (ai (per d) (i + 1)).natAbs ≤ 4 by have := hpr.bd (i + 1); omega) (by decide)) (pn_bd' hpr.bd (by omega)) (by decide) (by decide) (by decide), _, rfl, _, rfl, o, _, _, _, rfl, rfl, SqL.of ho15, hx2, _, _, rfl, rfl, o, _, _, rfl, rfl, ho15, by rw [ps_len, sizeLine_eq]; omega, ?_⟩
        refine ⟨_, rfl, ?_, sm_upd sm15 ho⟩
        rw [upd_same]
        exact congrArg (fun l => some (HO.lst l)) (ps_snoc (per d) (i + 2))
      · rintro σ H15 ⟨w11, rfl, ho15, sm15⟩
        rw [en] at ho15
        have hl15 := sm15 _ _ hl12
        have hls15 := sm15 _ _ hls
        -- found
        refine ⟨_, rfl, l, _, rfl, .inl (SqL.of hl15), _, rfl, by rw [List.length_map, hdl]; omega, by rw [List.length_map, hdl]; omega, fun D hD => ?_⟩
        refine lc_range (n := (ds.map V.int).length) (fun i H' => H' D = some (.lst (((List.range i).map fun t => ds.getD t 0 * pn (per d) t).map V.int)) ∧ Same H15 H') ⟨upd_same, sNew (Same.refl _) hD⟩ ?_ ?_
        · rintro i H16 hi ⟨h1, sm16⟩
          rw [List.length_map] at hi
          rw [show (0 : Int) + ((i : Nat) : Int) = ((i : Nat) : Int) by omega]
          have hb := bnd_get ds 0 i hbnd hi
          have h4 := hpr.bd (0 + i)
          refine ⟨rfl, yes_if ?_⟩
          refine ⟨_, rfl, _, rfl, l, _, _, _, rfl, rfl, SqL.of (sm16 _ _ hl15), atI_nat (ds_get hi), _, rfl, _, rfl, o, _, _, _, rfl, rfl, SqL.of (sm16 _ _ ho15), atI_nat (ps_get (by omega)), _, _, rfl, rfl, mulOk (n := 3) (m := 841) (Nat.lt_of_le_of_lt (show (ds.getD i 0).natAbs ≤ 4 by omega) (by decide)) (pn_bd' hpr.bd (by omega)) (by decide) (by decide) (by decide), _, h1, by rw [List.length_map, List.length_map, List.length_range, sizeLine_eq]; omega, ?_, sm_upd sm16 hD⟩
          rw [upd_same, List.range_succ, List.map_append, List.map_append]
          rfl
        · rintro H16 ⟨h1, sm16⟩
          refine ⟨D, _, rfl, SqL.of h1, ?_⟩
          rw [List.length_map, sw_sum0]
          have hl16 := sm16 _ _ hl15
          have hls16 := sm16 _ _ hls15
          have sm1216 : Same H12 H16 := sm15.trans sm16
          have q27 : ∀ t, t < m → (qs (per d) (m + (per d).length + 2 + 1))[t + (per d).length]? = some (.int (qn (per d) (t + (per d).length))) := fun t ht => qs_get (by omega)
          -- further
          refine ⟨_, rfl, l, _, rfl, .inl (SqL.of hl16), _, rfl, by rw [List.length_map, hdl]; omega, by rw [List.length_map, hdl]; omega, fun D2 hD2 => ?_⟩
          refine lc_range (n := (ds.map V.int).length) (fun i H' => H' D2 = some (.lst (((List.range i).map fun t => ds.getD t 0 * qn (per d) (t + (per d).length)).map V.int)) ∧ Same H16 H') ⟨upd_same, sNew (Same.refl _) hD2⟩ ?_ ?_
          · rintro i H17 hi ⟨h1, sm17⟩
            rw [List.length_map] at hi
            rw [show (0 : Int) + ((i : Nat) : Int) = ((i : Nat) : Int) by omega]
            have hb := bnd_get ds 0 i hbnd hi
            have h4 := hpr.bd (0 + i)
            refine ⟨rfl, yes_if ?_⟩
            refine ⟨_, rfl, _, rfl, l, _, _, _, rfl, rfl, SqL.of (sm17 _ _ hl16), atI_nat (ds_get hi), _, rfl, _, rfl, _, rfl, _, _, rfl, rfl, ls, _, _, _, rfl, rfl, SqL.of (sm17 _ _ hls16), atI_nat (j := i + (per d).length) (q27 i (by omega)), _, _, rfl, rfl, mulOk (n := 3) (m := 841) (Nat.lt_of_le_of_lt (show (ds.getD i 0).natAbs ≤ 4 by omega) (by decide)) (qn_bd' hpr.bd (by omega)) (by decide) (by decide) (by decide), _, h1, by rw [List.length_map, List.length_map, List.length_range, sizeLine_eq]; omega, ?_, sm_upd sm17 hD2⟩
            rw [upd_same, List.range_succ, List.map_append, List.map_append]
            rfl
          · rintro H17 ⟨h2, sm17⟩
            refine ⟨D2, _, rfl, SqL.of h2, ?_⟩
            rw [List.length_map, sw_sum0 (fun t => qn (per d) (t + (per d).length)), sw_add, hsw]
            have hl17 := sm17 _ _ hl16
            have hls17 := sm17 _ _ hls16
            have sm1217 : Same H12 H17 := sm1216.trans sm17
            -- least
            refine ⟨_, rfl, l, _, rfl, .inl (SqL.of hl17), _, rfl, by rw [List.length_map, hdl]; omega, by rw [List.length_map, hdl]; omega, fun D3 hD3 => ?_⟩
            refine lc_range (n := (ds.map V.int).length) (fun i H' => H' D3 = some (.lst ((fl 0 (ds.take i)).map V.int)) ∧ Same H17 H') ⟨upd_same, sNew (Same.refl _) hD3⟩ ?_ ?_
            · rintro i H18 hi ⟨h1, sm18⟩
              rw [List.length_map] at hi
              rw [show (0 : Int) + ((i : Nat) : Int) = ((i : Nat) : Int) by omega]
              have et : ds.take (i + 1) = ds.take i ++ [ds.getD i 0] := by rw [List.take_add_one, List.getD_eq_getElem?_getD, List.getElem?_eq_getElem hi]; rfl
              have el : (ds.take i).length = i := by rw [List.length_take]; omega
              have hfl := fl_len (ds.take i) 0
              refine ⟨rfl, _, rfl, _, rfl, l, _, _, _, rfl, rfl, SqL.of (sm18 _ _ hl17), atI_nat (ds_get hi), _, _, rfl, rfl, _, rfl, ite2 (fun h => ?_) (fun h => ?_)⟩
              · have hp : 0 < ds.getD i 0 := of_decide_eq_true h
                refine ⟨_, rfl, _, h1, by rw [List.length_map, sizeLine_eq]; omega, ?_, sm_upd sm18 hD3⟩
                rw [upd_same, et, fl_snoc, if_pos hp, el, List.map_append, Nat.zero_add]
                rfl
              · have hp : ¬ 0 < ds.getD i 0 := fun z => h (decide_eq_true z)
                refine ⟨?_, sm18⟩
                rw [h1, et, fl_snoc, if_neg hp, List.append_nil]
            · rintro H18 ⟨h3, sm18⟩
              rw [List.length_map, List.take_length] at h3
              have sm1218 : Same H12 H18 := sm1217.trans sm18
              have hlead := fl_lead ds 0
              have hf := flb hd ds hbnd
              rw [hsw] at hf
              have bn : Bd 134 n := by
                unfold Bd
                have : ((n.natAbs : Nat) : Int) < 2 ^ 134 := by omega
                exact_mod_cast this
              have brt : Bd 137 (rt (n * n * d)) := by
                have h := flr_bd hd bn
                unfold flr at h
                rw [if_neg (by omega), show d * n * n = n * n * d by grind] at h
                exact h
              have bX : Bd 138 (bI d * n + rt (n * n * d)) := ((bI_bd hd).mul bn |>.mono (by decide)).add brt
              have bS : Bd 139 (sw (pn (per d)) 0 ds) := by
                unfold Bd at *
                have e2 : (2 : Nat) ^ 139 = 2 * 2 ^ 138 := by rw [show 139 = 138 + 1 by rfl, Nat.pow_succ, Nat.mul_comm]
                have e3 : (2 : Nat) ^ 138 > 10 := by decide
                rcases bK_or hd with hk | hk <;> rw [hk] at hf <;> split at hf <;> omega
              generalize hSe : sw (pn (per d)) 0 ds = S at *
              generalize hoe : (if lead ds = -1 then (1 : Int) else 0) = od at *
              have F19 : ∀ H', Same H18 H' → FldAt K H' C x d := fun H' s' => F12.same (sm1218.trans s')
              have hl18 := sm1218 _ _ hl12
              have hls18 := sm1218 _ _ hls
              have B18 := B12.same sm1218
              -- odd
              refine ⟨_, rfl, by show 0 ≤ sizeLine; decide, fun e0 he0 => ?_⟩
              have sm19 := sNew (o := .lst []) (Same.refl _) he0
              have h319 := sm19 _ _ h3
              refine ⟨.list ((fl 0 ds).map PyData.int), .list [], .lst (SqL.of h319) (dp_ints _), .lst (SqL.of upd_same) .nil, shaped_ints _, shaped_ints [], ?_⟩
              rw [eqv_nil]
              generalize hfl : fl 0 ds = fs at *
              refine ⟨_, rfl, ?_⟩
              rcases hlead with ⟨hnil, hle⟩ | ⟨j, r, hcons, _, hle⟩
              · subst hnil
                refine iteN (by decide) (.inr ⟨false, rfl, ?_⟩)
                have hov : (if (false : Bool) = true then (1 : Int) else 0) = od := by rw [← hoe, hle]; rfl
                rw [hov]
                obtain ⟨dxg, fsg, hinsg, hnog⟩ := (F19 _ sm19).ins
                refine ⟨_, rfl, x, dxg, fsg, rfl, hinsg, hnog "base" (by decide +kernel) (by decide +kernel), x, d, rfl, F19 _ sm19, hd, fun q H20 nq sv sm20 => ?_⟩
                obtain ⟨dxq, fsq, hinsq, hnoq⟩ := sv.ins
                have smq : Same H18 H20 := sm19.trans sm20
                obtain ⟨ep1, ep2, ep3⟩ := base_parts hd
                refine ⟨q, dxq, fsq, rfl, hinsq, hnoq "parts" (by decide +kernel) (by decide +kernel), q, d, bI d, 1, bK d, rfl, sv, fun tt htt => ?_⟩
                rw [ep1, ep2, ep3] at htt
                refine ⟨tt, _, rfl, SqT.of htt, rfl, _, _, rfl, _, _, rfl, _, _, rfl, rfl, ?_⟩
                -- due
                have hk := bK_pos hd
                have hk2 := bK_or hd
                refine ⟨_, rfl, _, rfl, _, _, rfl, rfl, mulOk (bI_bd hd) bn (by decide) (by decide) (by decide), _, rfl, _, rfl, by show 3 ≤ sizeLine; decide, fun t3 ht3 => ⟨_, rfl, ?_⟩⟩
                refine ⟨d, 0, 1, 1, n, .ref t3, rfl, hd, ⟨t3, _, rfl, SqT.of upd_same, by show 3 ≤ 100000; decide, _, _, rfl, rfl, _, _, rfl, rfl, _, _, rfl, rfl, rfl⟩, by decide, by decide, (by unfold Bd; decide : Bd 1 0).mono (by decide), (by unfold Bd; decide : Bd 1 1).mono (by decide), bn.mono (by decide), ?_⟩
                rw [lfl0 d 1 n rfl n0]
                refine ⟨_, _, rfl, rfl, _, rfl, _, _, rfl, rfl, ⟨by omega, by omega⟩, ?_⟩
                have sm21 := smq.trans (sNew (o := .tup [.int 0, .int 1, .int 1]) (Same.refl _) ht3)
                refine ⟨_, rfl, _, rfl, _, _, rfl, rfl, _, rfl, .int (S - od), .int ((bI d * n + rt (n * n * d)) / bK d), .int ((bI d * n + rt (n * n * d)) / bK d), rfl, congrArg V.int hf, rfl, by show 0 ≤ 5; decide, fun H22 sm22 => ⟨_, rfl, iteF ?_⟩⟩
                have sm1822 := sm21.trans sm22
                have hls22 := sm1822 _ _ hls18
                -- last
                refine ⟨_, rfl, rfl, _, rfl, ?_⟩
                rcases per_len hd with h12 | h12
                · refine iteP (decide_eq_true (by rw [h12]; rfl)) ?_
                  have hlv : (stp (per d) (per d).length).1 = 1 := by rw [h12]; rfl
                  have bLV : Bd 1 1 := by unfold Bd; decide
                  refine ⟨_, rfl, _, rfl, _, rfl, ls, _, _, _, rfl, rfl, SqL.of hls22, atI_nat (qs_get (show (per d).length < m + (per d).length + 2 + 1 by omega)), _, rfl, _, _, rfl, rfl, mulOk (qn_bd' hpr.bd (by omega)) bn (by decide) (by decide) (by decide), _, rfl, _, rfl, _, _, rfl, rfl, mulOk bLV bS (by decide) (by decide) (by decide), _, _, rfl, rfl, rfl, _, rfl, ?_⟩
                  have hAB : (stp (per d) (per d).length).2 * n + (stp (per d) (per d).length).1 * S = qn (per d) (per d).length * n + 1 * S := by rw [hlv]; rfl
                  refine iteN (by rw [hAB]; simp) ?_
                  have F22 := F19 _ sm1822
                  obtain ⟨dxv, fsv, hinsv, hnov⟩ := F22.ins
                  refine ⟨_, rfl, x, dxv, fsv, rfl, hinsv, hnov "value" (by decide +kernel) (by decide +kernel), _, rfl, x, l, d, ds, rfl, F22, hd, SqL.of (sm1822 _ _ hl18), hcan, by omega, fun H23 sm23 => ?_⟩
                  refine ⟨_, rfl, _, .int n, .int n, rfl, congrArg V.int hsw, rfl, by show 0 ≤ 5; decide, fun H24 sm24 => ⟨_, rfl, iteF ?_⟩⟩
                  exact ⟨_, _, _, _, _, _, _, _, _, _, _, _, _, _, _, _, _, _, _, rfl, B18.same ((sm1822.trans sm23).trans sm24)⟩
                · refine iteN (nd_of (fun z => by rw [h12] at z; cases z)) ?_
                  have hlv : (stp (per d) (per d).length).1 = qn (per d) 1 := by rw [h12]; rfl
                  have bLV : Bd 841 (qn (per d) 1) := qn_bd' hpr.bd (by decide)
                  have hatl : atI (qs (per d) (m + (per d).length + 2 + 1)) ((((per d).length : Nat) : Int) - 1) = some (.int (qn (per d) 1)) := by
                    rw [show (((per d).length : Nat) : Int) - 1 = ((1 : Nat) : Int) by rw [h12]; rfl]
                    exact atI_nat (qs_get (by omega))
                  refine ⟨_, rfl, _, rfl, _, _, rfl, rfl, ls, _, _, _, rfl, rfl, SqL.of hls22, hatl, ?_⟩
                  refine ⟨_, rfl, _, rfl, _, rfl, ls, _, _, _, rfl, rfl, SqL.of hls22, atI_nat (qs_get (show (per d).length < m + (per d).length + 2 + 1 by omega)), _, rfl, _, _, rfl, rfl, mulOk (qn_bd' hpr.bd (by omega)) bn (by decide) (by decide) (by decide), _, rfl, _, rfl, _, _, rfl, rfl, mulOk bLV bS (by decide) (by decide) (by decide), _, _, rfl, rfl, rfl, _, rfl, ?_⟩
                  have hAB : (stp (per d) (per d).length).2 * n + (stp (per d) (per d).length).1 * S = qn (per d) (per d).length * n + qn (per d) 1 * S := by rw [hlv]; rfl
                  refine iteN (by rw [hAB]; simp) ?_
                  have F22 := F19 _ sm1822
                  obtain ⟨dxv, fsv, hinsv, hnov⟩ := F22.ins
                  refine ⟨_, rfl, x, dxv, fsv, rfl, hinsv, hnov "value" (by decide +kernel) (by decide +kernel), _, rfl, x, l, d, ds, rfl, F22, hd, SqL.of (sm1822 _ _ hl18), hcan, by omega, fun H23 sm23 => ?_⟩
                  refine ⟨_, rfl, _, .int n, .int n, rfl, congrArg V.int hsw, rfl, by show 0 ≤ 5; decide, fun H24 sm24 => ⟨_, rfl, iteF ?_⟩⟩
                  exact ⟨_, _, _, _, _, _, _, _, _, _, _, _, _, _, _, _, _, _, _, rfl, B18.same ((sm1822.trans sm23).trans sm24)⟩
              · subst hcons
                refine iteP rfl ?_
                refine ⟨_, rfl, D3, _, _, _, rfl, rfl, SqL.of h319, atI_zeroI _ _, .inl ⟨_, rfl, _, _, rfl, rfl, (by show (0 : Int) < 2; decide), rfl, .inr ⟨decide (V.int ((j : Int) % 2) = V.int 1), rfl, ?_⟩⟩⟩
                have hov : (if (decide (V.int ((j : Int) % 2) = V.int 1)) = true then (1 : Int) else 0) = od := by
                  rw [← hoe]
                  rcases hle with ⟨h, hle⟩ | ⟨h, hle⟩
                  · rw [if_neg (show ¬ lead ds = -1 by rw [hle]; decide), if_neg]
                    intro z
                    have := of_decide_eq_true z
                    injection this
                    omega
                  · rw [if_pos hle, if_pos]
                    have : (j : Int) % 2 = 1 := by omega
                    rw [this]; rfl
                rw [hov]
                obtain ⟨dxg, fsg, hinsg, hnog⟩ := (F19 _ sm19).ins
                refine ⟨_, rfl, x, dxg, fsg, rfl, hinsg, hnog "base" (by decide +kernel) (by decide +kernel), x, d, rfl, F19 _ sm19, hd, fun q H20 nq sv sm20 => ?_⟩
                obtain ⟨dxq, fsq, hinsq, hnoq⟩ := sv.ins
                have smq : Same H18 H20 := sm19.trans sm20
                obtain ⟨ep1, ep2, ep3⟩ := base_parts hd
                refine ⟨q, dxq, fsq, rfl, hinsq, hnoq "parts" (by decide +kernel) (by decide +kernel), q, d, bI d, 1, bK d, rfl, sv, fun tt htt => ?_⟩
                rw [ep1, ep2, ep3] at htt
                refine ⟨tt, _, rfl, SqT.of htt, rfl, _, _, rfl, _, _, rfl, _, _, rfl, rfl, ?_⟩
                -- due
                have hk := bK_pos hd
                have hk2 := bK_or hd
                refine ⟨_, rfl, _, rfl, _, _, rfl, rfl, mulOk (bI_bd hd) bn (by decide) (by decide) (by decide), _, rfl, _, rfl, by show 3 ≤ sizeLine; decide, fun t3 ht3 => ⟨_, rfl, ?_⟩⟩
                refine ⟨d, 0, 1, 1, n, .ref t3, rfl, hd, ⟨t3, _, rfl, SqT.of upd_same, by show 3 ≤ 100000; decide, _, _, rfl, rfl, _, _, rfl, rfl, _, _, rfl, rfl, rfl⟩, by decide, by decide, (by unfold Bd; decide : Bd 1 0).mono (by decide), (by unfold Bd; decide : Bd 1 1).mono (by decide), bn.mono (by decide), ?_⟩
                rw [lfl0 d 1 n rfl n0]
                refine ⟨_, _, rfl, rfl, _, rfl, _, _, rfl, rfl, ⟨by omega, by omega⟩, ?_⟩
                have sm21 := smq.trans (sNew (o := .tup [.int 0, .int 1, .int 1]) (Same.refl _) ht3)
                refine ⟨_, rfl, _, rfl, _, _, rfl, rfl, _, rfl, .int (S - od), .int ((bI d * n + rt (n * n * d)) / bK d), .int ((bI d * n + rt (n * n * d)) / bK d), rfl, congrArg V.int hf, rfl, by show 0 ≤ 5; decide, fun H22 sm22 => ⟨_, rfl, iteF ?_⟩⟩
                have sm1822 := sm21.trans sm22
                have hls22 := sm1822 _ _ hls18
                -- last
                refine ⟨_, rfl, rfl, _, rfl, ?_⟩
                rcases per_len hd with h12 | h12
                · refine iteP (decide_eq_true (by rw [h12]; rfl)) ?_
                  have hlv : (stp (per d) (per d).length).1 = 1 := by rw [h12]; rfl
                  have bLV : Bd 1 1 := by unfold Bd; decide
                  refine ⟨_, rfl, _, rfl, _, rfl, ls, _, _, _, rfl, rfl, SqL.of hls22, atI_nat (qs_get (show (per d).length < m + (per d).length + 2 + 1 by omega)), _, rfl, _, _, rfl, rfl, mulOk (qn_bd' hpr.bd (by omega)) bn (by decide) (by decide) (by decide), _, rfl, _, rfl, _, _, rfl, rfl, mulOk bLV bS (by decide) (by decide) (by decide), _, _, rfl, rfl, rfl, _, rfl, ?_⟩
                  have hAB : (stp (per d) (per d).length).2 * n + (stp (per d) (per d).length).1 * S = qn (per d) (per d).length * n + 1 * S := by rw [hlv]; rfl
                  refine iteN (by rw [hAB]; simp) ?_
                  have F22 := F19 _ sm1822
                  obtain ⟨dxv, fsv, hinsv, hnov⟩ := F22.ins
                  refine ⟨_, rfl, x, dxv, fsv, rfl, hinsv, hnov "value" (by decide +kernel) (by decide +kernel), _, rfl, x, l, d, ds, rfl, F22, hd, SqL.of (sm1822 _ _ hl18), hcan, by omega, fun H23 sm23 => ?_⟩
                  refine ⟨_, rfl, _, .int n, .int n, rfl, congrArg V.int hsw, rfl, by show 0 ≤ 5; decide, fun H24 sm24 => ⟨_, rfl, iteF ?_⟩⟩
                  exact ⟨_, _, _, _, _, _, _, _, _, _, _, _, _, _, _, _, _, _, _, rfl, B18.same ((sm1822.trans sm23).trans sm24)⟩
                · refine iteN (nd_of (fun z => by rw [h12] at z; cases z)) ?_
                  have hlv : (stp (per d) (per d).length).1 = qn (per d) 1 := by rw [h12]; rfl
                  have bLV : Bd 841 (qn (per d) 1) := qn_bd' hpr.bd (by decide)
                  have hatl : atI (qs (per d) (m + (per d).length + 2 + 1)) ((((per d).length : Nat) : Int) - 1) = some (.int (qn (per d) 1)) := by
                    rw [show (((per d).length : Nat) : Int) - 1 = ((1 : Nat) : Int) by rw [h12]; rfl]
                    exact atI_nat (qs_get (by omega))
                  refine ⟨_, rfl, _, rfl, _, _, rfl, rfl, ls, _, _, _, rfl, rfl, SqL.of hls22, hatl, ?_⟩
                  refine ⟨_, rfl, _, rfl, _, rfl, ls, _, _, _, rfl, rfl, SqL.of hls22, atI_nat (qs_get (show (per d).length < m + (per d).length + 2 + 1 by omega)), _, rfl, _, _, rfl, rfl, mulOk (qn_bd' hpr.bd (by omega)) bn (by decide) (by decide) (by decide), _, rfl, _, rfl, _, _, rfl, rfl, mulOk bLV bS (by decide) (by decide) (by decide), _, _, rfl, rfl, rfl, _, rfl, ?_⟩
                  have hAB : (stp (per d) (per d).length).2 * n + (stp (per d) (per d).length).1 * S = qn (per d) (per d).length * n + qn (per d) 1 * S := by rw [hlv]; rfl
                  refine iteN (by rw [hAB]; simp) ?_
                  have F22 := F19 _ sm1822
                  obtain ⟨dxv, fsv, hinsv, hnov⟩ := F22.ins
                  refine ⟨_, rfl, x, dxv, fsv, rfl, hinsv, hnov "value" (by decide +kernel) (by decide +kernel), _, rfl, x, l, d, ds, rfl, F22, hd, SqL.of (sm1822 _ _ hl18), hcan, by omega, fun H23 sm23 => ?_⟩
                  refine ⟨_, rfl, _, .int n, .int n, rfl, congrArg V.int hsw, rfl, by show 0 ≤ 5; decide, fun H24 sm24 => ⟨_, rfl, iteF ?_⟩⟩
                  exact ⟨_, _, _, _, _, _, _, _, _, _, _, _, _, _, _, _, _, _, _, rfl, B18.same ((sm1822.trans sm23).trans sm24)⟩
    · rintro σ H2 ⟨v2, v3, v4, v5, v6, v7, v8, v9, v10, v11, v12, v13, v14, v15, v16, v17, v18, v19, v20, rfl, B2⟩
      exact kk _
end
end RF

namespace RF
open PySem L2 PyProof.Rows
def fI : List DictEntry → Int → Option Value
  | [], _ => none
  | c :: r, i => if Value.isInt i c.key = true then some c.val else fI r i
theorem find_fI : ∀ (l : List DictEntry) (i : Int), (l.find? fun c => Value.isInt i c.key).map (·.val) = fI l i
  | [], _ => rfl
  | c :: r, i => by
    rw [List.find?_cons]
    unfold fI
    cases h : Value.isInt i c.key
    · rw [if_neg (by decide)]
      exact find_fI r i
    · rw [if_pos rfl]; rfl
theorem findBy_fI (es : Array DictEntry) (i : Int) : findBy Value.isInt es i = fI es.toList i := by
  unfold findBy
  rw [← find_fI, ← List.find?_toArray]
theorem Df.mono {P : Program} {w : World} {K : PySem.W.Frag} {mg : Str → Option Value} {base : Heap} {j k : Nat} {x : Str} {ps : List Str} {sp : Sp} (D : Df P w K mg base j x ps sp) (h : j ≤ k) : Df P w K mg base k x ps sp := by
  obtain ⟨f, fd, G, b, m, kp⟩ := D.ex
  exact ⟨f, fd, G.mono h, b, m, kp⟩
theorem all_mk {l : PySem.W.OpenLaw} {w : World} {K : PySem.W.Frag} {h : Heap} {mg : Str → Option Value} {fa : Addr} (X : K.In h) (G : h.Ns mainGlobals mg) (hfa : mg "law" = some (.ref fa))
    {C CF pd bd po : Addr} {rs : List Value} {es eb : Array DictEntry} {np nq : Nat}
    {f1 : Addr} {od1 an1 : Option Addr} {sl1 : Array (Option Value)} {oc1 kV1 dc1 pm1 cd1 ct1 : Value}
    {f2 : Addr} {od2 an2 : Option Addr} {sl2 : Array (Option Value)} {oc2 kV2 dc2 pm2 cd2 ct2 : Value}
    {f3 : Addr} {od3 an3 : Option Addr} {sl3 : Array (Option Value)} {oc3 kV3 dc3 pm3 cd3 ct3 : Value}
    {f4 : Addr} {od4 an4 : Option Addr} {sl4 : Array (Option Value)} {oc4 kV4 dc4 pm4 cd4 ct4 : Value}
    {f5 : Addr} {od5 an5 : Option Addr} {sl5 : Array (Option Value)} {oc5 kV5 dc5 pm5 cd5 ct5 : Value}
    {f6 : Addr} {od6 an6 : Option Addr} {sl6 : Array (Option Value)} {oc6 kV6 dc6 pm6 cd6 ct6 : Value}
    {f7 : Addr} {od7 an7 : Option Addr} {sl7 : Array (Option Value)} {oc7 kV7 dc7 pm7 cd7 ct7 : Value}
    {f8 : Addr} {od8 an8 : Option Addr} {sl8 : Array (Option Value)} {oc8 kV8 dc8 pm8 cd8 ct8 : Value}
    {f9 : Addr} {od9 an9 : Option Addr} {sl9 : Array (Option Value)} {oc9 kV9 dc9 pm9 cd9 ct9 : Value}
    {f10 : Addr} {od10 an10 : Option Addr} {sl10 : Array (Option Value)} {oc10 kV10 dc10 pm10 cd10 ct10 : Value}
    {f11 : Addr} {od11 an11 : Option Addr} {sl11 : Array (Option Value)} {oc11 kV11 dc11 pm11 cd11 ct11 : Value}
    {f12 : Addr} {od12 an12 : Option Addr} {sl12 : Array (Option Value)} {oc12 kV12 dc12 pm12 cd12 ct12 : Value}
    {f13 : Addr} {od13 an13 : Option Addr} {sl13 : Array (Option Value)} {oc13 kV13 dc13 pm13 cd13 ct13 : Value}
    {f14 : Addr} {od14 an14 : Option Addr} {sl14 : Array (Option Value)} {oc14 kV14 dc14 pm14 cd14 ct14 : Value}
    {f15 : Addr} {od15 an15 : Option Addr} {sl15 : Array (Option Value)} {oc15 kV15 dc15 pm15 cd15 ct15 : Value}
    {f16 : Addr} {od16 an16 : Option Addr} {sl16 : Array (Option Value)} {oc16 kV16 dc16 pm16 cd16 ct16 : Value}
    {f17 : Addr} {od17 an17 : Option Addr} {sl17 : Array (Option Value)} {oc17 kV17 dc17 pm17 cd17 ct17 : Value}
    {f18 : Addr} {od18 an18 : Option Addr} {sl18 : Array (Option Value)} {oc18 kV18 dc18 pm18 cd18 ct18 : Value}
    {f19 : Addr} {od19 an19 : Option Addr} {sl19 : Array (Option Value)} {oc19 kV19 dc19 pm19 cd19 ct19 : Value}
    {f20 : Addr} {od20 an20 : Option Addr} {sl20 : Array (Option Value)} {oc20 kV20 dc20 pm20 cd20 ct20 : Value}
    {f21 : Addr} {od21 an21 : Option Addr} {sl21 : Array (Option Value)} {oc21 kV21 dc21 pm21 cd21 ct21 : Value}
    {f22 : Addr} {od22 an22 : Option Addr} {sl22 : Array (Option Value)} {oc22 kV22 dc22 pm22 cd22 ct22 : Value}
    {f23 : Addr} {od23 an23 : Option Addr} {sl23 : Array (Option Value)} {oc23 kV23 dc23 pm23 cd23 ct23 : Value}
    {f24 : Addr} {od24 an24 : Option Addr} {sl24 : Array (Option Value)} {oc24 kV24 dc24 pm24 cd24 ct24 : Value}
    {f25 : Addr} {od25 an25 : Option Addr} {sl25 : Array (Option Value)} {oc25 kV25 dc25 pm25 cd25 ct25 : Value}
    {f26 T0 D0 : Addr} {oT : Obj} {tT : Tok} {nT : Nat} {t1 : Tok} {od26 an26 : Option Addr} {sl26 : Array (Option Value)} {oc26 dc26 pm26 cd26 ct26 : Value}
    {f27 : Addr} {od27 an27 : Option Addr} {sl27 : Array (Option Value)} {oc27 kV27 dc27 pm27 cd27 ct27 : Value}
    {qp2 : Addr} {op2 : Obj} {np2 : Nat} {kp2_0 : Tok}
    {qp3 : Addr} {op3 : Obj} {np3 : Nat} {kp3_0 kp3_1 : Tok}
    {qp5 : Addr} {op5 : Obj} {np5 : Nat} {kp5_0 : Tok}
    {qp6 : Addr} {op6 : Obj} {np6 : Nat} {kp6_0 kp6_1 : Tok}
    {qp13 : Addr} {op13 : Obj} {np13 : Nat} {kp13_0 : Tok}
    {qb2 : Addr} {ob2 : Obj} {nb2 : Nat} {kb2_0 kb2_1 kb2_2 : Tok}
    {qb3 : Addr} {ob3 : Obj} {nb3 : Nat} {kb3_0 kb3_1 kb3_2 : Tok}
    {qb5 : Addr} {ob5 : Obj} {nb5 : Nat} {kb5_0 kb5_1 kb5_2 : Tok}
    {qb6 : Addr} {ob6 : Obj} {nb6 : Nat} {kb6_0 kb6_1 kb6_2 : Tok}
    {qb13 : Addr} {ob13 : Obj} {nb13 : Nat} {kb13_0 kb13_1 kb13_2 : Tok}
    (a1 : PySem.W.nsIn K mainGlobals "is_whole" = some (some (.ref f1)))
    (l1 : K.lookup f1 = some ⟨oc1, od1, .func (PySem.W.fnOf "is_whole" "is_whole" (defArgs (top 11)) (defBody (top 11)) (defScope (top 11)) .none kV1 dc1 pm1 an1 cd1 ct1), sl1⟩)
    (c1 : PySem.W.codeIn K cd1 "is_whole" = true)
    (k1 : PySem.W.keepIn K (.ref f1) = true)
    (a2 : PySem.W.nsIn K mainGlobals "is_between" = some (some (.ref f2)))
    (l2 : K.lookup f2 = some ⟨oc2, od2, .func (PySem.W.fnOf "is_between" "is_between" (defArgs (top 12)) (defBody (top 12)) (defScope (top 12)) .none kV2 dc2 pm2 an2 cd2 ct2), sl2⟩)
    (c2 : PySem.W.codeIn K cd2 "is_between" = true)
    (k2 : PySem.W.keepIn K (.ref f2) = true)
    (a3 : PySem.W.nsIn K mainGlobals "is_number" = some (some (.ref f3)))
    (l3 : K.lookup f3 = some ⟨oc3, od3, .func (PySem.W.fnOf "is_number" "is_number" (defArgs (top 13)) (defBody (top 13)) (defScope (top 13)) .none kV3 dc3 pm3 an3 cd3 ct3), sl3⟩)
    (c3 : PySem.W.codeIn K cd3 "is_number" = true)
    (k3 : PySem.W.keepIn K (.ref f3) = true)
    (a4 : PySem.W.nsIn K mainGlobals "is_root" = some (some (.ref f4)))
    (l4 : K.lookup f4 = some ⟨oc4, od4, .func (PySem.W.fnOf "is_root" "is_root" (defArgs (top 14)) (defBody (top 14)) (defScope (top 14)) .none kV4 dc4 pm4 an4 cd4 ct4), sl4⟩)
    (c4 : PySem.W.codeIn K cd4 "is_root" = true)
    (k4 : PySem.W.keepIn K (.ref f4) = true)
    (a5 : PySem.W.nsIn K mainGlobals "is_slope" = some (some (.ref f5)))
    (l5 : K.lookup f5 = some ⟨oc5, od5, .func (PySem.W.fnOf "is_slope" "is_slope" (defArgs (top 16)) (defBody (top 16)) (defScope (top 16)) .none kV5 dc5 pm5 an5 cd5 ct5), sl5⟩)
    (c5 : PySem.W.codeIn K cd5 "is_slope" = true)
    (k5 : PySem.W.keepIn K (.ref f5) = true)
    (a6 : PySem.W.nsIn K mainGlobals "_part_above" = some (some (.ref f6)))
    (l6 : K.lookup f6 = some ⟨oc6, od6, .func (PySem.W.fnOf "_part_above" "_part_above" (defArgs (top 26)) (defBody (top 26)) (defScope (top 26)) .none kV6 dc6 pm6 an6 cd6 ct6), sl6⟩)
    (c6 : PySem.W.codeIn K cd6 "_part_above" = true)
    (k6 : PySem.W.keepIn K (.ref f6) = true)
    (a7 : PySem.W.nsIn K mainGlobals "_steps_within" = some (some (.ref f7)))
    (l7 : K.lookup f7 = some ⟨oc7, od7, .func (PySem.W.fnOf "_steps_within" "_steps_within" (defArgs (top 28)) (defBody (top 28)) (defScope (top 28)) .none kV7 dc7 pm7 an7 cd7 ct7), sl7⟩)
    (c7 : PySem.W.codeIn K cd7 "_steps_within" = true)
    (k7 : PySem.W.keepIn K (.ref f7) = true)
    (a8 : PySem.W.nsIn K mainGlobals "digits_in" = some (some (.ref f8)))
    (l8 : K.lookup f8 = some ⟨oc8, od8, .func (PySem.W.fnOf "digits_in" "digits_in" (defArgs (top 27)) (defBody (top 27)) (defScope (top 27)) .none kV8 dc8 pm8 an8 cd8 ct8), sl8⟩)
    (c8 : PySem.W.codeIn K cd8 "digits_in" = true)
    (k8 : PySem.W.keepIn K (.ref f8) = true)
    (a9 : PySem.W.nsIn K mainGlobals "can_stand" = some (some (.ref f9)))
    (l9 : K.lookup f9 = some ⟨oc9, od9, .func (PySem.W.fnOf "can_stand" "can_stand" (defArgs (top 29)) (defBody (top 29)) (defScope (top 29)) .none kV9 dc9 pm9 an9 cd9 ct9), sl9⟩)
    (c9 : PySem.W.codeIn K cd9 "can_stand" = true)
    (k9 : PySem.W.keepIn K (.ref f9) = true)
    (a10 : PySem.W.nsIn K mainGlobals "_law_bag" = some (some (.ref f10)))
    (l10 : K.lookup f10 = some ⟨oc10, od10, .func (PySem.W.fnOf "_law_bag" "_law_bag" (defArgs (top 31)) (defBody (top 31)) (defScope (top 31)) .none kV10 dc10 pm10 an10 cd10 ct10), sl10⟩)
    (c10 : PySem.W.codeIn K cd10 "_law_bag" = true)
    (k10 : PySem.W.keepIn K (.ref f10) = true)
    (a11 : PySem.W.nsIn K mainGlobals "_law_pull" = some (some (.ref f11)))
    (l11 : K.lookup f11 = some ⟨oc11, od11, .func (PySem.W.fnOf "_law_pull" "_law_pull" (defArgs (top 32)) (defBody (top 32)) (defScope (top 32)) .none kV11 dc11 pm11 an11 cd11 ct11), sl11⟩)
    (c11 : PySem.W.codeIn K cd11 "_law_pull" = true)
    (k11 : PySem.W.keepIn K (.ref f11) = true)
    (a12 : PySem.W.nsIn K mainGlobals "_law_of" = some (some (.ref f12)))
    (l12 : K.lookup f12 = some ⟨oc12, od12, .func (PySem.W.fnOf "_law_of" "_law_of" (defArgs (top 33)) (defBody (top 33)) (defScope (top 33)) .none kV12 dc12 pm12 an12 cd12 ct12), sl12⟩)
    (c12 : PySem.W.codeIn K cd12 "_law_of" = true)
    (k12 : PySem.W.keepIn K (.ref f12) = true)
    (a13 : PySem.W.nsIn K mainGlobals "_law_same" = some (some (.ref f13)))
    (l13 : K.lookup f13 = some ⟨oc13, od13, .func (PySem.W.fnOf "_law_same" "_law_same" (defArgs (top 34)) (defBody (top 34)) (defScope (top 34)) .none kV13 dc13 pm13 an13 cd13 ct13), sl13⟩)
    (c13 : PySem.W.codeIn K cd13 "_law_same" = true)
    (k13 : PySem.W.keepIn K (.ref f13) = true)
    (a14 : PySem.W.nsIn K mainGlobals "_law_far" = some (some (.ref f14)))
    (l14 : K.lookup f14 = some ⟨oc14, od14, .func (PySem.W.fnOf "_law_far" "_law_far" (defArgs (top 35)) (defBody (top 35)) (defScope (top 35)) .none kV14 dc14 pm14 an14 cd14 ct14), sl14⟩)
    (c14 : PySem.W.codeIn K cd14 "_law_far" = true)
    (k14 : PySem.W.keepIn K (.ref f14) = true)
    (a15 : PySem.W.nsIn K mainGlobals "_law_root_part" = some (some (.ref f15)))
    (l15 : K.lookup f15 = some ⟨oc15, od15, .func (PySem.W.fnOf "_law_root_part" "_law_root_part" (defArgs (top 36)) (defBody (top 36)) (defScope (top 36)) .none kV15 dc15 pm15 an15 cd15 ct15), sl15⟩)
    (c15 : PySem.W.codeIn K cd15 "_law_root_part" = true)
    (k15 : PySem.W.keepIn K (.ref f15) = true)
    (a16 : PySem.W.nsIn K mainGlobals "_law_floor" = some (some (.ref f16)))
    (l16 : K.lookup f16 = some ⟨oc16, od16, .func (PySem.W.fnOf "_law_floor" "_law_floor" (defArgs (top 37)) (defBody (top 37)) (defScope (top 37)) .none kV16 dc16 pm16 an16 cd16 ct16), sl16⟩)
    (c16 : PySem.W.codeIn K cd16 "_law_floor" = true)
    (k16 : PySem.W.keepIn K (.ref f16) = true)
    (a17 : PySem.W.nsIn K mainGlobals "_law_period" = some (some (.ref f17)))
    (l17 : K.lookup f17 = some ⟨oc17, od17, .func (PySem.W.fnOf "_law_period" "_law_period" (defArgs (top 38)) (defBody (top 38)) (defScope (top 38)) .none kV17 dc17 pm17 an17 cd17 ct17), sl17⟩)
    (c17 : PySem.W.codeIn K cd17 "_law_period" = true)
    (k17 : PySem.W.keepIn K (.ref f17) = true)
    (a18 : PySem.W.nsIn K mainGlobals "_law_steps" = some (some (.ref f18)))
    (l18 : K.lookup f18 = some ⟨oc18, od18, .func (PySem.W.fnOf "_law_steps" "_law_steps" (defArgs (top 39)) (defBody (top 39)) (defScope (top 39)) .none kV18 dc18 pm18 an18 cd18 ct18), sl18⟩)
    (c18 : PySem.W.codeIn K cd18 "_law_steps" = true)
    (k18 : PySem.W.keepIn K (.ref f18) = true)
    (a19 : PySem.W.nsIn K mainGlobals "_law_root" = some (some (.ref f19)))
    (l19 : K.lookup f19 = some ⟨oc19, od19, .func (PySem.W.fnOf "_law_root" "_law_root" (defArgs (top 40)) (defBody (top 40)) (defScope (top 40)) .none kV19 dc19 pm19 an19 cd19 ct19), sl19⟩)
    (c19 : PySem.W.codeIn K cd19 "_law_root" = true)
    (k19 : PySem.W.keepIn K (.ref f19) = true)
    (a20 : PySem.W.nsIn K mainGlobals "law" = some (some (.ref f20)))
    (l20 : K.lookup f20 = some ⟨oc20, od20, .func (PySem.W.fnOf "law" "law" (defArgs (top 41)) (defBody (top 41)) (defScope (top 41)) .none kV20 dc20 pm20 an20 cd20 ct20), sl20⟩)
    (c20 : PySem.W.codeIn K cd20 "law" = true)
    (k20 : PySem.W.keepIn K (.ref f20) = true)
    (aC : PySem.W.nsIn K mainGlobals "Surd" = some (some (.ref C)))
    (a21 : PySem.W.findIn K (.ref C) "parts" = some (some (.ref f21)))
    (i21 : PySem.W.isFn K (.ref f21) = true)
    (l21 : K.lookup f21 = some ⟨oc21, od21, .func (PySem.W.fnOf "parts" "Surd.parts" (defArgs (sS 3)) (defBody (sS 3)) (defScope (sS 3)) .none kV21 dc21 pm21 an21 cd21 ct21), sl21⟩)
    (c21 : PySem.W.codeIn K cd21 "Surd.parts" = true)
    (k21 : PySem.W.keepIn K (.ref f21) = true)
    (aF : PySem.W.nsIn K mainGlobals "Field" = some (some (.ref CF)))
    (a22 : PySem.W.findIn K (.ref CF) "__init__" = some (some (.ref f22)))
    (l22 : K.lookup f22 = some ⟨oc22, od22, .func (PySem.W.fnOf "__init__" "Field.__init__" (defArgs (sF 1)) (defBody (sF 1)) (defScope (sF 1)) .none kV22 dc22 pm22 an22 cd22 ct22), sl22⟩)
    (c22 : PySem.W.codeIn K cd22 "Field.__init__" = true)
    (k22 : PySem.W.keepIn K (.ref f22) = true)
    (i22 : PySem.W.isFn K (.ref f22) = true)
    (a23 : PySem.W.findIn K (.ref CF) "digits" = some (some (.ref f23)))
    (l23 : K.lookup f23 = some ⟨oc23, od23, .func (PySem.W.fnOf "digits" "Field.digits" (defArgs (sF 9)) (defBody (sF 9)) (defScope (sF 9)) .none kV23 dc23 pm23 an23 cd23 ct23), sl23⟩)
    (c23 : PySem.W.codeIn K cd23 "Field.digits" = true)
    (k23 : PySem.W.keepIn K (.ref f23) = true)
    (i23 : PySem.W.isFn K (.ref f23) = true)
    (a24 : PySem.W.findIn K (.ref CF) "value" = some (some (.ref f24)))
    (l24 : K.lookup f24 = some ⟨oc24, od24, .func (PySem.W.fnOf "value" "Field.value" (defArgs (sF 10)) (defBody (sF 10)) (defScope (sF 10)) .none kV24 dc24 pm24 an24 cd24 ct24), sl24⟩)
    (c24 : PySem.W.codeIn K cd24 "Field.value" = true)
    (k24 : PySem.W.keepIn K (.ref f24) = true)
    (i24 : PySem.W.isFn K (.ref f24) = true)
    (a25 : PySem.W.findIn K (.ref CF) "base" = some (some (.ref f25)))
    (l25 : K.lookup f25 = some ⟨oc25, od25, .func (PySem.W.fnOf "base" "Field.base" (defArgs (sF 8)) (defBody (sF 8)) (defScope (sF 8)) .none kV25 dc25 pm25 an25 cd25 ct25), sl25⟩)
    (c25 : PySem.W.codeIn K cd25 "Field.base" = true)
    (k25 : PySem.W.keepIn K (.ref f25) = true)
    (i25 : PySem.W.isFn K (.ref f25) = true)
    (a26 : PySem.W.findIn K (.ref C) "__init__" = some (some (.ref f26)))
    (i26 : PySem.W.isFn K (.ref f26) = true)
    (l26 : K.lookup f26 = some ⟨oc26, od26, .func (PySem.W.fnOf "__init__" "Surd.__init__" (defArgs (sS 0)) (defBody (sS 0)) (defScope (sS 0)) (.ref T0) (.ref D0) dc26 pm26 an26 cd26 ct26), sl26⟩)
    (c26 : PySem.W.codeIn K cd26 "Surd.__init__" = true)
    (k26 : PySem.W.keepIn K (.ref f26) = true)
    (lT : K.lookup T0 = some oT)
    (dT : oT.data = .seq #[.int 0 tT] nT)
    (kD : PySem.W.nsIn K D0 "k" = some (some (.int 1 t1)))
    (sm : PySem.W.findCls K (.ref C) (.type "type") "of_slope" = some (.get (.builtin "staticmethod.__get__") (.ref po) .none (.ref C)))
    (a27 : PySem.W.recIn K po "staticmethod" = some (.ref f27 :: rs))
    (l27 : K.lookup f27 = some ⟨oc27, od27, .func (PySem.W.fnOf "of_slope" "Surd.of_slope" (defArgs (sS 1)) (defBody (sS 1)) (defScope (sS 1)) .none kV27 dc27 pm27 an27 cd27 ct27), sl27⟩)
    (c27 : PySem.W.codeIn K cd27 "Surd.of_slope" = true)
    (k27 : PySem.W.keepIn K (.ref f27) = true)
    (rd : PySem.W.readsIn K C (.type "type") = true)
    (gaC : PySem.W.specialIn K (.ref C) "__getattribute__" = some (some (.builtin "type.__getattribute__")))
    (pg : PySem.W.plainGet K C Str.empty = true)
    (hdC : PySem.W.hasDictIn K C = true)
    (poC : PySem.W.plainOver K C = true)
    (saC : PySem.W.findIn K (.ref C) "__setattr__" = some (some (.builtin "object.__setattr__")))
    (mkC : PySem.W.makesIn K C = true)
    (kpC : PySem.W.keepIn K (.ref C) = true)
    (nRo : PySem.W.findIn K (.ref C) "_root" = some none)
    (nPa : PySem.W.findIn K (.ref C) "_parts" = some none)
    (pgF : PySem.W.plainGet K CF Str.empty = true)
    (hdF : PySem.W.hasDictIn K CF = true)
    (poF : PySem.W.plainOver K CF = true)
    (saF : PySem.W.findIn K (.ref CF) "__setattr__" = some (some (.builtin "object.__setattr__")))
    (mkF : PySem.W.makesIn K CF = true)
    (kpF : PySem.W.keepIn K (.ref CF) = true)
    (nRF : PySem.W.findIn K (.ref CF) "_root" = some none)
    (nPF : PySem.W.findIn K (.ref CF) "_period" = some none)
    (aP : PySem.W.nsIn K mainGlobals "PERIODS" = some (some (.ref pd)))
    (lP : K.lookup pd = some ⟨.type "dict", none, .dict es np, #[]⟩)
    (oP : okE es.toList [2, 3, 5, 6, 13] = true)
    (wP : (pd == sysModules) = false)
    (aB : PySem.W.nsIn K mainGlobals "BASES" = some (some (.ref bd)))
    (lB : K.lookup bd = some ⟨.type "dict", none, .dict eb nq, #[]⟩)
    (oB : okE eb.toList [2, 3, 5, 6, 13] = true)
    (aG : PySem.W.nsIn K mainGlobals "gcd" = some (some (.builtin "math.gcd")))
    (gp2 : fI es.toList 2 = some (.ref qp2))
    (tlp2 : K.lookup qp2 = some op2)
    (tcp2 : op2.cls = .type "tuple")
    (tdp2 : op2.data = .seq #[.int (2) kp2_0] np2)
    (gp3 : fI es.toList 3 = some (.ref qp3))
    (tlp3 : K.lookup qp3 = some op3)
    (tcp3 : op3.cls = .type "tuple")
    (tdp3 : op3.data = .seq #[.int (1) kp3_0, .int (2) kp3_1] np3)
    (gp5 : fI es.toList 5 = some (.ref qp5))
    (tlp5 : K.lookup qp5 = some op5)
    (tcp5 : op5.cls = .type "tuple")
    (tdp5 : op5.data = .seq #[.int (1) kp5_0] np5)
    (gp6 : fI es.toList 6 = some (.ref qp6))
    (tlp6 : K.lookup qp6 = some op6)
    (tcp6 : op6.cls = .type "tuple")
    (tdp6 : op6.data = .seq #[.int (2) kp6_0, .int (4) kp6_1] np6)
    (gp13 : fI es.toList 13 = some (.ref qp13))
    (tlp13 : K.lookup qp13 = some op13)
    (tcp13 : op13.cls = .type "tuple")
    (tdp13 : op13.data = .seq #[.int (3) kp13_0] np13)
    (gb2 : fI eb.toList 2 = some (.ref qb2))
    (tlb2 : K.lookup qb2 = some ob2)
    (tcb2 : ob2.cls = .type "tuple")
    (tdb2 : ob2.data = .seq #[.int (-1) kb2_0, .int (1) kb2_1, .int (1) kb2_2] nb2)
    (gb3 : fI eb.toList 3 = some (.ref qb3))
    (tlb3 : K.lookup qb3 = some ob3)
    (tcb3 : ob3.cls = .type "tuple")
    (tdb3 : ob3.data = .seq #[.int (-1) kb3_0, .int (1) kb3_1, .int (1) kb3_2] nb3)
    (gb5 : fI eb.toList 5 = some (.ref qb5))
    (tlb5 : K.lookup qb5 = some ob5)
    (tcb5 : ob5.cls = .type "tuple")
    (tdb5 : ob5.data = .seq #[.int (-1) kb5_0, .int (1) kb5_1, .int (2) kb5_2] nb5)
    (gb6 : fI eb.toList 6 = some (.ref qb6))
    (tlb6 : K.lookup qb6 = some ob6)
    (tcb6 : ob6.cls = .type "tuple")
    (tdb6 : ob6.data = .seq #[.int (-2) kb6_0, .int (1) kb6_1, .int (1) kb6_2] nb6)
    (gb13 : fI eb.toList 13 = some (.ref qb13))
    (tlb13 : K.lookup qb13 = some ob13)
    (tcb13 : ob13.cls = .type "tuple")
    (tdb13 : ob13.data = .seq #[.int (-3) kb13_0, .int (1) kb13_1, .int (2) kb13_2] nb13)
    (z_list : PySem.W.nsIn K mainGlobals "list" = some none)
    (z_len : PySem.W.nsIn K mainGlobals "len" = some none)
    (z_abs : PySem.W.nsIn K mainGlobals "abs" = some none)
    (z_int : PySem.W.nsIn K mainGlobals "int" = some none)
    (z_range : PySem.W.nsIn K mainGlobals "range" = some none)
    (z_isinstance : PySem.W.nsIn K mainGlobals "isinstance" = some none)
    (z_bool : PySem.W.nsIn K mainGlobals "bool" = some none)
    (z_str : PySem.W.nsIn K mainGlobals "str" = some none)
    (z_tuple : PySem.W.nsIn K mainGlobals "tuple" = some none)
    (z_all : PySem.W.nsIn K mainGlobals "all" = some none)
    (z_zip : PySem.W.nsIn K mainGlobals "zip" = some none)
    (z_sum : PySem.W.nsIn K mainGlobals "sum" = some none)
    (z_reversed : PySem.W.nsIn K mainGlobals "reversed" = some none)
    (z_divmod : PySem.W.nsIn K mainGlobals "divmod" = some none)
    (z_enumerate : PySem.W.nsIn K mainGlobals "enumerate" = some none) :
    ∃ fd : FuncData, (∀ (s : Shared) (v : Value), BindsTo s fd ⟨[v], []⟩ [("_law_script", v)]) ∧ ∀ base : Heap, K.In base → base.Ns mainGlobals mg → FnOk l.prog w K mg base CX0 10 fa fd ["_law_script"] (spLaw K) := by
  have e := hfa.symm.trans (PySem.W.mg_of X G a20)
  cases e
  have F_whole := fun_mk (st := top 11) l1 c1 k1
  have b_whole := F_whole.binds (ps := ["value"]) fun _ _ _ _ _ _ us hl => match us, hl with | [_], _ => rfl
  have m_whole := PySem.W.mg_of X G a1
  have F_btw := fun_mk (st := top 12) l2 c2 k2
  have b_btw := F_btw.binds (ps := ["value", "low", "high"]) fun _ _ _ _ _ _ us hl => match us, hl with | [_, _, _], _ => rfl
  have m_btw := PySem.W.mg_of X G a2
  have F_num := fun_mk (st := top 13) l3 c3 k3
  have b_num := F_num.binds (ps := ["value"]) fun _ _ _ _ _ _ us hl => match us, hl with | [_], _ => rfl
  have m_num := PySem.W.mg_of X G a3
  have F_isroot := fun_mk (st := top 14) l4 c4 k4
  have b_isroot := F_isroot.binds (ps := ["value"]) fun _ _ _ _ _ _ us hl => match us, hl with | [_], _ => rfl
  have m_isroot := PySem.W.mg_of X G a4
  have F_isslope := fun_mk (st := top 16) l5 c5 k5
  have b_isslope := F_isslope.binds (ps := ["value"]) fun _ _ _ _ _ _ us hl => match us, hl with | [_], _ => rfl
  have m_isslope := PySem.W.mg_of X G a5
  have F_part := fun_mk (st := top 26) l6 c6 k6
  have b_part := F_part.binds (ps := ["period", "place"]) fun _ _ _ _ _ _ us hl => match us, hl with | [_, _], _ => rfl
  have m_part := PySem.W.mg_of X G a6
  have F_stw := fun_mk (st := top 28) l7 c7 k7
  have b_stw := F_stw.binds (ps := ["period", "number"]) fun _ _ _ _ _ _ us hl => match us, hl with | [_, _], _ => rfl
  have m_stw := PySem.W.mg_of X G a7
  have F_digin := fun_mk (st := top 27) l8 c8 k8
  have b_digin := F_digin.binds (ps := ["period", "number"]) fun _ _ _ _ _ _ us hl => match us, hl with | [_, _], _ => rfl
  have m_digin := PySem.W.mg_of X G a8
  have F_can := fun_mk (st := top 29) l9 c9 k9
  have b_can := F_can.binds (ps := ["period", "place", "digit", "lower"]) fun _ _ _ _ _ _ us hl => match us, hl with | [_, _, _, _], _ => rfl
  have m_can := PySem.W.mg_of X G a9
  have F_bag := fun_mk (st := top 31) l10 c10 k10
  have b_bag := F_bag.binds (ps := ["_law_script"]) fun _ _ _ _ _ _ us hl => match us, hl with | [_], _ => rfl
  have m_bag := PySem.W.mg_of X G a10
  have F_pull := fun_mk (st := top 32) l11 c11 k11
  have b_pull := F_pull.binds (ps := ["_law_bag_here", "_law_sides"]) fun _ _ _ _ _ _ us hl => match us, hl with | [_, _], _ => rfl
  have m_pull := PySem.W.mg_of X G a11
  have F_of := fun_mk (st := top 33) l12 c12 k12
  have b_of := F_of.binds (ps := ["_law_bag_here", "_law_some"]) fun _ _ _ _ _ _ us hl => match us, hl with | [_, _], _ => rfl
  have m_of := PySem.W.mg_of X G a12
  have F_same := fun_mk (st := top 34) l13 c13 k13
  have b_same := F_same.binds (ps := ["_law_found", "_law_due"]) fun _ _ _ _ _ _ us hl => match us, hl with | [_, _], _ => rfl
  have m_same := PySem.W.mg_of X G a13
  have F_far := fun_mk (st := top 35) l14 c14 k14
  have b_far := F_far.binds (ps := ["_law_bag_here", "_law_figures"]) fun _ _ _ _ _ _ us hl => match us, hl with | [_, _], _ => rfl
  have m_far := PySem.W.mg_of X G a14
  have F_rp := fun_mk (st := top 36) l15 c15 k15
  have b_rp := F_rp.binds (ps := ["_law_number"]) fun _ _ _ _ _ _ us hl => match us, hl with | [_], _ => rfl
  have m_rp := PySem.W.mg_of X G a15
  have F_lfl := fun_mk (st := top 37) l16 c16 k16
  have b_lfl := F_lfl.binds (ps := ["_law_root_here", "_law_slope", "_law_number"]) fun _ _ _ _ _ _ us hl => match us, hl with | [_, _, _], _ => rfl
  have m_lfl := PySem.W.mg_of X G a16
  have F_lper := fun_mk (st := top 38) l17 c17 k17
  have b_lper := F_lper.binds (ps := ["_law_root_here"]) fun _ _ _ _ _ _ us hl => match us, hl with | [_], _ => rfl
  have m_lper := PySem.W.mg_of X G a17
  have F_lst := fun_mk (st := top 39) l18 c18 k18
  have b_lst := F_lst.binds (ps := ["_law_root_here", "_law_many"]) fun _ _ _ _ _ _ us hl => match us, hl with | [_, _], _ => rfl
  have m_lst := PySem.W.mg_of X G a18
  have F_root := fun_mk (st := top 40) l19 c19 k19
  have b_root := F_root.binds (ps := ["_law_bag_here"]) fun _ _ _ _ _ _ us hl => match us, hl with | [_], _ => rfl
  have m_root := PySem.W.mg_of X G a19
  have F_law := fun_mk (st := top 41) l20 c20 k20
  have b_law := F_law.binds (ps := ["_law_script"]) fun _ _ _ _ _ _ us hl => match us, hl with | [_], _ => rfl
  have m_law := PySem.W.mg_of X G a20
  have F_parts := fun_mk (st := sS 3) l21 c21 k21
  have b_parts := F_parts.binds (ps := ["self"]) fun _ _ _ _ _ _ us hl => match us, hl with | [_], _ => rfl
  have F_finit := fun_mk (st := sF 1) l22 c22 k22
  have b_finit := F_finit.binds (ps := ["self", "root"]) fun _ _ _ _ _ _ us hl => match us, hl with | [_, _], _ => rfl
  have F_digits := fun_mk (st := sF 9) l23 c23 k23
  have b_digits := F_digits.binds (ps := ["self", "number"]) fun _ _ _ _ _ _ us hl => match us, hl with | [_, _], _ => rfl
  have F_value := fun_mk (st := sF 10) l24 c24 k24
  have b_value := F_value.binds (ps := ["self", "digits"]) fun _ _ _ _ _ _ us hl => match us, hl with | [_, _], _ => rfl
  have F_base := fun_mk (st := sF 8) l25 c25 k25
  have b_base := F_base.binds (ps := ["self"]) fun _ _ _ _ _ _ us hl => match us, hl with | [_], _ => rfl
  have F_ofs := fun_mk (st := sS 1) l27 c27 k27
  have b_ofs := F_ofs.binds (ps := ["root", "slope"]) fun _ _ _ _ _ _ us hl => match us, hl with | [_, _], _ => rfl
  have n_list := PySem.W.mg_none_of X G z_list
  have n_len := PySem.W.mg_none_of X G z_len
  have n_abs := PySem.W.mg_none_of X G z_abs
  have n_int := PySem.W.mg_none_of X G z_int
  have n_range := PySem.W.mg_none_of X G z_range
  have n_isinstance := PySem.W.mg_none_of X G z_isinstance
  have n_bool := PySem.W.mg_none_of X G z_bool
  have n_str := PySem.W.mg_none_of X G z_str
  have n_tuple := PySem.W.mg_none_of X G z_tuple
  have n_all := PySem.W.mg_none_of X G z_all
  have n_zip := PySem.W.mg_none_of X G z_zip
  have n_sum := PySem.W.mg_none_of X G z_sum
  have n_reversed := PySem.W.mg_none_of X G z_reversed
  have n_divmod := PySem.W.mg_none_of X G z_divmod
  have n_enumerate := PySem.W.mg_none_of X G z_enumerate
  have m_P := PySem.W.mg_of X G aP
  have m_B := PySem.W.mg_of X G aB
  have m_G := PySem.W.mg_of X G aG
  have hPer : PerK K pd := fun d hd => by
    rcases hd with rfl | rfl | rfl | rfl | rfl
    · exact ⟨qp2, ⟨es, _, _, _, lP, oP, (findBy_fI _ _).trans gp2, rfl⟩, (⟨op2, _, np2, tlp2, tcp2, tdp2, by show 1 ≤ sizeLine; decide, .cons ⟨_, rfl⟩ (.nil)⟩ : TupI K qp2 [2])⟩
    · exact ⟨qp3, ⟨es, _, _, _, lP, oP, (findBy_fI _ _).trans gp3, rfl⟩, (⟨op3, _, np3, tlp3, tcp3, tdp3, by show 2 ≤ sizeLine; decide, .cons ⟨_, rfl⟩ (.cons ⟨_, rfl⟩ (.nil))⟩ : TupI K qp3 [1, 2])⟩
    · exact ⟨qp5, ⟨es, _, _, _, lP, oP, (findBy_fI _ _).trans gp5, rfl⟩, (⟨op5, _, np5, tlp5, tcp5, tdp5, by show 1 ≤ sizeLine; decide, .cons ⟨_, rfl⟩ (.nil)⟩ : TupI K qp5 [1])⟩
    · exact ⟨qp6, ⟨es, _, _, _, lP, oP, (findBy_fI _ _).trans gp6, rfl⟩, (⟨op6, _, np6, tlp6, tcp6, tdp6, by show 2 ≤ sizeLine; decide, .cons ⟨_, rfl⟩ (.cons ⟨_, rfl⟩ (.nil))⟩ : TupI K qp6 [2, 4])⟩
    · exact ⟨qp13, ⟨es, _, _, _, lP, oP, (findBy_fI _ _).trans gp13, rfl⟩, (⟨op13, _, np13, tlp13, tcp13, tdp13, by show 1 ≤ sizeLine; decide, .cons ⟨_, rfl⟩ (.nil)⟩ : TupI K qp13 [3])⟩
  have hBas : BasK K bd := fun d hd => by
    rcases hd with rfl | rfl | rfl | rfl | rfl
    · exact ⟨qb2, ⟨eb, _, _, _, lB, oB, (findBy_fI _ _).trans gb2, rfl⟩, (⟨ob2, _, nb2, tlb2, tcb2, tdb2, by show 3 ≤ sizeLine; decide, .cons ⟨_, rfl⟩ (.cons ⟨_, rfl⟩ (.cons ⟨_, rfl⟩ (.nil)))⟩ : TupI K qb2 [-1, 1, 1])⟩
    · exact ⟨qb3, ⟨eb, _, _, _, lB, oB, (findBy_fI _ _).trans gb3, rfl⟩, (⟨ob3, _, nb3, tlb3, tcb3, tdb3, by show 3 ≤ sizeLine; decide, .cons ⟨_, rfl⟩ (.cons ⟨_, rfl⟩ (.cons ⟨_, rfl⟩ (.nil)))⟩ : TupI K qb3 [-1, 1, 1])⟩
    · exact ⟨qb5, ⟨eb, _, _, _, lB, oB, (findBy_fI _ _).trans gb5, rfl⟩, (⟨ob5, _, nb5, tlb5, tcb5, tdb5, by show 3 ≤ sizeLine; decide, .cons ⟨_, rfl⟩ (.cons ⟨_, rfl⟩ (.cons ⟨_, rfl⟩ (.nil)))⟩ : TupI K qb5 [-1, 1, 2])⟩
    · exact ⟨qb6, ⟨eb, _, _, _, lB, oB, (findBy_fI _ _).trans gb6, rfl⟩, (⟨ob6, _, nb6, tlb6, tcb6, tdb6, by show 3 ≤ sizeLine; decide, .cons ⟨_, rfl⟩ (.cons ⟨_, rfl⟩ (.cons ⟨_, rfl⟩ (.nil)))⟩ : TupI K qb6 [-2, 1, 1])⟩
    · exact ⟨qb13, ⟨eb, _, _, _, lB, oB, (findBy_fI _ _).trans gb13, rfl⟩, (⟨ob13, _, nb13, tlb13, tcb13, tdb13, by show 3 ≤ sizeLine; decide, .cons ⟨_, rfl⟩ (.cons ⟨_, rfl⟩ (.cons ⟨_, rfl⟩ (.nil)))⟩ : TupI K qb13 [-3, 1, 2])⟩
  have T : TxS K mg C := ⟨⟨pg, hdC, poC, saC⟩, nRo, nPa, PySem.W.mg_of X G aC⟩
  have TF : TxF K mg CF := ⟨⟨pgF, hdF, poF, saF⟩, nRF, nPF, PySem.W.mg_of X G aF⟩
  have FI : FunD K "__init__" "Surd.__init__" (defArgs (sS 0)) (defBody (sS 0)) (defScope (sS 0)) [.int 0] [("k", .int 1)] f26 (PySem.W.fnOf "__init__" "Surd.__init__" (defArgs (sS 0)) (defBody (sS 0)) (defScope (sS 0)) (.ref T0) (.ref D0) dc26 pm26 an26 cd26 ct26) :=
    ⟨⟨oc26, od26, .ref T0, .ref D0, dc26, pm26, an26, cd26, ct26, sl26, rfl, l26, c26, .inr ⟨by simp, T0, oT, [.int 0 tT], nT, rfl, lT, dT, .cons ⟨_, rfl⟩ .nil⟩, .inr ⟨D0, rfl, fun q hq => by
      obtain rfl : q = ((("k" : Str), V.int 1) : Str × V) := by simpa using hq
      exact ⟨_, kD, _, rfl⟩⟩⟩, k26⟩
  refine ⟨PySem.W.fnOf "law" "law" (defArgs (top 41)) (defBody (top 41)) (defScope (top 41)) .none kV20 dc20 pm20 an20 cd20 ct20, fun s v => .of_eq rfl, fun base _ _ => ?_⟩
  have D_whole : Df l.prog w K mg base 1 "is_whole" ["value"] (spWhole K) := ⟨_, _, ok_whole (k := 0) F_whole n_isinstance n_int n_bool, b_whole, m_whole, F_whole.kp⟩
  have D_btw : Df l.prog w K mg base 2 "is_between" ["value", "low", "high"] (spBtw K) := ⟨_, _, ok_btw F_btw D_whole, b_btw, m_btw, F_btw.kp⟩
  have D_num : Df l.prog w K mg base 3 "is_number" ["value"] (spNum K) := ⟨_, _, ok_num F_num D_btw, b_num, m_num, F_num.kp⟩
  have D_isroot : Df l.prog w K mg base 2 "is_root" ["value"] (spIsRoot K) := ⟨_, _, ok_isroot F_isroot D_whole m_P ⟨wP, es, np, lP, oP⟩, b_isroot, m_isroot, F_isroot.kp⟩
  have D_isslope : Df l.prog w K mg base 3 "is_slope" ["value"] (spIsSlope K) := ⟨_, _, ok_isslope F_isslope n_isinstance n_tuple n_len D_btw, b_isslope, m_isslope, F_isslope.kp⟩
  have D_part : Df l.prog w K mg base 1 "_part_above" ["period", "place"] (spPart K) := ⟨_, _, ok_part (k := 0) F_part n_len, b_part, m_part, F_part.kp⟩
  have D_stw : Df l.prog w K mg base 2 "_steps_within" ["period", "number"] (spSteps K) := ⟨_, _, ok_steps F_stw n_len D_part, b_stw, m_stw, F_stw.kp⟩
  have D_can : Df l.prog w K mg base 3 "can_stand" ["period", "place", "digit", "lower"] (spCan K) := ⟨_, _, ok_can F_can (D_part.mono (by decide)) D_btw, b_can, m_can, F_can.kp⟩
  have TBm : TB mg := ⟨n_list, n_len, n_abs, n_int⟩
  have TSs : TSm mg := ⟨n_isinstance, n_bool, n_int, n_str, n_list, n_tuple, n_len, n_all, n_zip⟩
  have D_bag : Df l.prog w K mg base 1 "_law_bag" ["_law_script"] (spBag K) := ⟨_, _, ok_bag F_bag TBm, b_bag, m_bag, F_bag.kp⟩
  have D_pull : Df l.prog w K mg base 1 "_law_pull" ["_law_bag_here", "_law_sides"] spPull := ⟨_, _, ok_pull F_pull TBm, b_pull, m_pull, F_pull.kp⟩
  have D_of : Df l.prog w K mg base 2 "_law_of" ["_law_bag_here", "_law_some"] (spOf K) := ⟨_, _, ok_of F_of TBm D_pull, b_of, m_of, F_of.kp⟩
  have D_root : Df l.prog w K mg base 3 "_law_root" ["_law_bag_here"] spRoot := ⟨_, _, ok_root F_root D_of, b_root, m_root, F_root.kp⟩
  have D_far : Df l.prog w K mg base 2 "_law_far" ["_law_bag_here", "_law_figures"] spFar := ⟨_, _, ok_far F_far n_range D_pull, b_far, m_far, F_far.kp⟩
  have D_same : Df l.prog w K mg base 6 "_law_same" ["_law_found", "_law_due"] (spSame K 5) := ⟨_, _, ok_same F_same TSs b_same m_same 5, b_same, m_same, F_same.kp⟩
  have D_rp : Df l.prog w K mg base 1 "_law_root_part" ["_law_number"] spRP := ⟨_, _, ok_rp (k := 0) F_rp, b_rp, m_rp, F_rp.kp⟩
  have D_lfl : Df l.prog w K mg base 2 "_law_floor" ["_law_root_here", "_law_slope", "_law_number"] (spLFl K) := ⟨_, _, ok_lfl F_lfl D_rp, b_lfl, m_lfl, F_lfl.kp⟩
  have D_lper : Df l.prog w K mg base 1 "_law_period" ["_law_root_here"] spPeriod := ⟨_, _, ok_lper (k := 0) F_lper, b_lper, m_lper, F_lper.kp⟩
  have D_lst : Df l.prog w K mg base 2 "_law_steps" ["_law_root_here", "_law_many"] spLSteps := ⟨_, _, ok_lst F_lst TBm n_range D_lper, b_lst, m_lst, F_lst.kp⟩
  have GI := ok_SInit (P := l.prog) (w := w) (base := base) FI T m_G D_isroot
  have kb : KBn K (PySem.W.fnOf "__init__" "Surd.__init__" (defArgs (sS 0)) (defBody (sS 0)) (defScope (sS 0)) (.ref T0) (.ref D0) dc26 pm26 an26 cd26 ct26) ["self", "root", "i", "j", "k"] 4 ["k"] (fun us ws => us ++ ws) (fun vs zs => vs ++ zs) := by
    obtain ⟨its, mv, kb⟩ := FI.kbinds (ps := ["self", "root", "i", "j", "k"]) 4 ["k"] [] (fun us _ _ ws => us ++ ws) (by simp) (by simp) (fun q hq => by cases hq) (fun r1 _ _ r4 => r1.append r4)
      (fun T D doc pm an cdv ct us its mv ws h1 h2 h3 h4 => match us, its, mv, ws, h1, h2, h3, h4 with | [_, _, _, _], [_], [], [_], _, _, _, _ => ⟨_, rfl, rfl⟩)
    exact kb
  have b4 := FI.binds (ps := ["self", "root", "i", "j", "k"]) 4 1 (by simp) rfl (fun T D doc pm an cdv ct us its ks h1 h2 h3 => match us, its, ks, h1, h2, h3 with | [_, _, _, _], [_], [_], _, _, _ => ⟨_, rfl, _, _, _, _, _, _, rfl, rfl, rfl⟩) (by simp)
  have b3 := FI.binds (ps := ["self", "root", "i", "j", "k"]) 3 0 (by simp) rfl (fun T D doc pm an cdv ct us its ks h1 h2 h3 => match us, its, ks, h1, h2, h3 with | [_, _, _], [_], [_], _, _, _ => ⟨_, rfl, _, _, _, _, _, _, rfl, rfl, rfl⟩) (by simp)
  have M : MkS l.prog w K mg base C 3 := ⟨_, _, ⟨mkC, a26, i26, kpC⟩, GI, kb, b4, b3⟩
  have Gofs := ok_OfS (P := l.prog) (w := w) (base := base) F_ofs T (D_isroot.mono (by decide)) (D_isslope.mono (by decide)) M
  have Rofs : FnR l.prog w K mg base CX0 5 f27 (spOfSlope K C) := (Gofs.raw b_ofs .nil).imp fun vs H Q E z => by rw [List.append_nil]; exact z
  have Gfin := ok_FInit (P := l.prog) (w := w) (base := base) F_finit TF m_P hPer D_isroot
  have D_digin : Df l.prog w K mg base 3 "digits_in" ["period", "number"] (spDigin K) := ⟨_, _, ok_digin F_digin n_reversed n_divmod D_stw, b_digin, m_digin, F_digin.kp⟩
  have Gdig := ok_FDig (P := l.prog) (w := w) (base := base) F_digits TF D_num D_digin
  have Gval := ok_FVal (P := l.prog) (w := w) (base := base) F_value TF n_enumerate D_can (D_part.mono (by decide))
  have Gbas := ok_FBase (P := l.prog) (w := w) (base := base) F_base TF T m_B hBas Rofs ⟨rd, gaC⟩ ⟨sm, ⟨_, a27⟩, F_ofs.kp⟩
  have Gpar := ok_SParts (P := l.prog) (w := w) (base := base) (k := 0) F_parts T
  exact ok_law F_law ⟨D_bag.mono (by decide), D_of.mono (by decide), D_root.mono (by decide), D_far.mono (by decide), D_same.mono (by decide), D_lfl.mono (by decide), D_lper.mono (by decide), D_lst.mono (by decide), TF, T,
    ⟨_, _, ⟨mkF, a22, i22, kpF⟩, Gfin.mono (by decide), b_finit⟩, ⟨_, _, Gdig.mono (by decide), ⟨a23, i23, F_digits.kp⟩, b_digits⟩, ⟨_, _, Gval.mono (by decide), ⟨a24, i24, F_value.kp⟩, b_value⟩, ⟨_, _, Gbas.mono (by decide), ⟨a25, i25, F_base.kp⟩, b_base⟩,
    ⟨_, _, Gpar.mono (by decide), ⟨a21, i21, F_parts.kp⟩, b_parts⟩, TBm, n_range, n_sum⟩
theorem walk {l : PySem.W.OpenLaw} {q : Program} {loose : List Str} {XP : (Str → Option Value) → Heap → Prop} {YP : World → Heap → Prop} {d : DefRec} {K : Params → PySem.W.Frag} (hn : l.most = some 63) (hdf : d.params.defaults = [])
    (hY : ∀ (w : World) (h : Heap), YP w h → (K w.params).In h)
    (F : ∀ (w : World) (mg : Str → Option Value) (fa : Addr) (h : Heap), (K w.params).In h → h.Ns mainGlobals mg → mg d.name = some (.ref fa) →
      ∃ fd : FuncData, (∀ (s : Shared) (u : Value), BindsTo s fd ⟨[u], []⟩ [("_law_script", u)]) ∧ ∀ base : Heap, (K w.params).In base → base.Ns mainGlobals mg → FnOk l.prog w (K w.params) mg base CX0 10 fa fd ["_law_script"] (spLaw (K w.params))) :
    PySem.W.WalkO q loose XP YP l.row.toRowW d [] (fun f vs => PySem.call f vs) :=
  L2.walk_of (n := 63) (k := 10) (x := "_law_script") (CX := fun _ => CX0) (sp := fun w => spLaw (K w.params)) hn (by decide) hdf ⟨rfl, by decide, by decide⟩ hY F (fun _ _ a ns hl _ hS => ⟨a, ns, rfl, hS, hl, fun _ => rfl⟩) fun _ _ _ _ _ z => z
end RF

open PySem PySem.W PyProof.Rows
set_option maxRecDepth 100000 in
set_option maxHeartbeats 0 in
theorem PySem.Challenge.cw_rootfloor_k09_floors_by_digits_holds : PySem.Challenge.rw_rootfloor_k09_floors_by_digits.Holds := by
  w_on; o_law; k_head; (case hw => w_witness2)
  k_fill
  refine RF.walk (l := PySem.Challenge.rw_rootfloor_k09_floors_by_digits) rfl rfl (fun w h Y => PySem.W.kIn_of Y) ?F
  case F =>
    intro w mg fa h KX G hmg
    refine' RF.all_mk KX G hmg ?a1 ?l1 ?c1 ?k1 ?a2 ?l2 ?c2 ?k2 ?a3 ?l3 ?c3 ?k3 ?a4 ?l4 ?c4 ?k4 ?a5 ?l5 ?c5 ?k5 ?a6 ?l6 ?c6 ?k6 ?a7 ?l7 ?c7 ?k7 ?a8 ?l8 ?c8 ?k8 ?a9 ?l9 ?c9 ?k9 ?a10 ?l10 ?c10 ?k10 ?a11 ?l11 ?c11 ?k11 ?a12 ?l12 ?c12 ?k12 ?a13 ?l13 ?c13 ?k13 ?a14 ?l14 ?c14 ?k14 ?a15 ?l15 ?c15 ?k15 ?a16 ?l16 ?c16 ?k16 ?a17 ?l17 ?c17 ?k17 ?a18 ?l18 ?c18 ?k18 ?a19 ?l19 ?c19 ?k19 ?a20 ?l20 ?c20 ?k20 ?aC ?a21 ?i21 ?l21 ?c21 ?k21 ?aF ?a22 ?l22 ?c22 ?k22 ?i22 ?a23 ?l23 ?c23 ?k23 ?i23 ?a24 ?l24 ?c24 ?k24 ?i24 ?a25 ?l25 ?c25 ?k25 ?i25 ?a26 ?i26 ?l26 ?c26 ?k26 ?lT ?dT ?kD ?sm ?a27 ?l27 ?c27 ?k27 ?rd ?gaC ?pg ?hdC ?poC ?saC ?mkC ?kpC ?nRo ?nPa ?pgF ?hdF ?poF ?saF ?mkF ?kpF ?nRF ?nPF ?aP ?lP ?oP ?wP ?aB ?lB ?oB ?aG ?gp2 ?tlp2 ?tcp2 ?tdp2 ?gp3 ?tlp3 ?tcp3 ?tdp3 ?gp5 ?tlp5 ?tcp5 ?tdp5 ?gp6 ?tlp6 ?tcp6 ?tdp6 ?gp13 ?tlp13 ?tcp13 ?tdp13 ?gb2 ?tlb2 ?tcb2 ?tdb2 ?gb3 ?tlb3 ?tcb3 ?tdb3 ?gb5 ?tlb5 ?tcb5 ?tdb5 ?gb6 ?tlb6 ?tcb6 ?tdb6 ?gb13 ?tlb13 ?tcb13 ?tdb13 ?z_list ?z_len ?z_abs ?z_int ?z_range ?z_isinstance ?z_bool ?z_str ?z_tuple ?z_all ?z_zip ?z_sum ?z_reversed ?z_divmod ?z_enumerate
    (case a1 => k_is)
    (case l1 => k_is)
    (case c1 => k_is)
    (case k1 => k_is)
    (case a2 => k_is)
    (case l2 => k_is)
    (case c2 => k_is)
    (case k2 => k_is)
    (case a3 => k_is)
    (case l3 => k_is)
    (case c3 => k_is)
    (case k3 => k_is)
    (case a4 => k_is)
    (case l4 => k_is)
    (case c4 => k_is)
    (case k4 => k_is)
    (case a5 => k_is)
    (case l5 => k_is)
    (case c5 => k_is)
    (case k5 => k_is)
    (case a6 => k_is)
    (case l6 => k_is)
    (case c6 => k_is)
    (case k6 => k_is)
    (case a7 => k_is)
    (case l7 => k_is)
    (case c7 => k_is)
    (case k7 => k_is)
    (case a8 => k_is)
    (case l8 => k_is)
    (case c8 => k_is)
    (case k8 => k_is)
    (case a9 => k_is)
    (case l9 => k_is)
    (case c9 => k_is)
    (case k9 => k_is)
    (case a10 => k_is)
    (case l10 => k_is)
    (case c10 => k_is)
    (case k10 => k_is)
    (case a11 => k_is)
    (case l11 => k_is)
    (case c11 => k_is)
    (case k11 => k_is)
    (case a12 => k_is)
    (case l12 => k_is)
    (case c12 => k_is)
    (case k12 => k_is)
    (case a13 => k_is)
    (case l13 => k_is)
    (case c13 => k_is)
    (case k13 => k_is)
    (case a14 => k_is)
    (case l14 => k_is)
    (case c14 => k_is)
    (case k14 => k_is)
    (case a15 => k_is)
    (case l15 => k_is)
    (case c15 => k_is)
    (case k15 => k_is)
    (case a16 => k_is)
    (case l16 => k_is)
    (case c16 => k_is)
    (case k16 => k_is)
    (case a17 => k_is)
    (case l17 => k_is)
    (case c17 => k_is)
    (case k17 => k_is)
    (case a18 => k_is)
    (case l18 => k_is)
    (case c18 => k_is)
    (case k18 => k_is)
    (case a19 => k_is)
    (case l19 => k_is)
    (case c19 => k_is)
    (case k19 => k_is)
    (case a20 => k_is)
    (case l20 => k_is)
    (case c20 => k_is)
    (case k20 => k_is)
    (case aC => k_is)
    (case a21 => k_is)
    (case i21 => k_is)
    (case l21 => k_is)
    (case c21 => k_is)
    (case k21 => k_is)
    (case aF => k_is)
    (case a22 => k_is)
    (case l22 => k_is)
    (case c22 => k_is)
    (case k22 => k_is)
    (case i22 => k_is)
    (case a23 => k_is)
    (case l23 => k_is)
    (case c23 => k_is)
    (case k23 => k_is)
    (case i23 => k_is)
    (case a24 => k_is)
    (case l24 => k_is)
    (case c24 => k_is)
    (case k24 => k_is)
    (case i24 => k_is)
    (case a25 => k_is)
    (case l25 => k_is)
    (case c25 => k_is)
    (case k25 => k_is)
    (case i25 => k_is)
    (case a26 => k_is)
    (case i26 => k_is)
    (case l26 => k_is)
    (case c26 => k_is)
    (case k26 => k_is)
    (case lT => k_is)
    (case dT => first | rfl | decide +kernel)
    (case kD => k_is)
    (case sm => k_is)
    (case a27 => k_is)
    (case l27 => k_is)
    (case c27 => k_is)
    (case k27 => k_is)
    (case rd => k_is)
    (case gaC => k_is)
    (case pg => k_is)
    (case hdC => k_is)
    (case poC => k_is)
    (case saC => k_is)
    (case mkC => k_is)
    (case kpC => k_is)
    (case nRo => k_is)
    (case nPa => k_is)
    (case pgF => k_is)
    (case hdF => k_is)
    (case poF => k_is)
    (case saF => k_is)
    (case mkF => k_is)
    (case kpF => k_is)
    (case nRF => k_is)
    (case nPF => k_is)
    (case aP => k_is)
    (case lP => k_is)
    (case oP => first | rfl | decide +kernel)
    (case wP => first | rfl | decide +kernel)
    (case aB => k_is)
    (case lB => k_is)
    (case oB => first | rfl | decide +kernel)
    (case aG => k_is)
    (case gp2 => first | rfl | decide +kernel)
    (case tlp2 => k_is)
    (case tcp2 => first | rfl | decide +kernel)
    (case tdp2 => first | rfl | decide +kernel)
    (case gp3 => first | rfl | decide +kernel)
    (case tlp3 => k_is)
    (case tcp3 => first | rfl | decide +kernel)
    (case tdp3 => first | rfl | decide +kernel)
    (case gp5 => first | rfl | decide +kernel)
    (case tlp5 => k_is)
    (case tcp5 => first | rfl | decide +kernel)
    (case tdp5 => first | rfl | decide +kernel)
    (case gp6 => first | rfl | decide +kernel)
    (case tlp6 => k_is)
    (case tcp6 => first | rfl | decide +kernel)
    (case tdp6 => first | rfl | decide +kernel)
    (case gp13 => first | rfl | decide +kernel)
    (case tlp13 => k_is)
    (case tcp13 => first | rfl | decide +kernel)
    (case tdp13 => first | rfl | decide +kernel)
    (case gb2 => first | rfl | decide +kernel)
    (case tlb2 => k_is)
    (case tcb2 => first | rfl | decide +kernel)
    (case tdb2 => first | rfl | decide +kernel)
    (case gb3 => first | rfl | decide +kernel)
    (case tlb3 => k_is)
    (case tcb3 => first | rfl | decide +kernel)
    (case tdb3 => first | rfl | decide +kernel)
    (case gb5 => first | rfl | decide +kernel)
    (case tlb5 => k_is)
    (case tcb5 => first | rfl | decide +kernel)
    (case tdb5 => first | rfl | decide +kernel)
    (case gb6 => first | rfl | decide +kernel)
    (case tlb6 => k_is)
    (case tcb6 => first | rfl | decide +kernel)
    (case tdb6 => first | rfl | decide +kernel)
    (case gb13 => first | rfl | decide +kernel)
    (case tlb13 => k_is)
    (case tcb13 => first | rfl | decide +kernel)
    (case tdb13 => first | rfl | decide +kernel)
    (case z_list => k_is)
    (case z_len => k_is)
    (case z_abs => k_is)
    (case z_int => k_is)
    (case z_range => k_is)
    (case z_isinstance => k_is)
    (case z_bool => k_is)
    (case z_str => k_is)
    (case z_tuple => k_is)
    (case z_all => k_is)
    (case z_zip => k_is)
    (case z_sum => k_is)
    (case z_reversed => k_is)
    (case z_divmod => k_is)
    (case z_enumerate => k_is)

