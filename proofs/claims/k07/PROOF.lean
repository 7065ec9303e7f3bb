import PyProof.Rows.All
import Wide.All
import OpenK.AllK
import Wide.FinOn
import HandS.ForMost
import HandS.Gcd
import HandS.Wide
import HandS.Codes
import HandS.IsInst
import HandS.Zip
import HandS.Walk
import HandS.MakeKwOnly
import HandS.Property
import KE.KOpsOwn
import KE.KMathG
import HandS.OwnEq
import HandS.ClsMeth
import Flt.RightSqrt
import HandS.WideBits
import HandS.Style
import HandS.SortRule
import KE.SortCalls
import HandS.Conv
import PySem.Challenge.RW_rootfloor_k07_whole_each_number_has_one
set_option Elab.async false
set_option maxRecDepth 100000
set_option maxHeartbeats 8000000
namespace RF
open PySem L2

/-- all that is tracked stays, but what stands at b -/
def Kp (b : Addr) (H H' : Hp) : Prop := ∀ a o, a ≠ b → H a = some o → H' a = some o
theorem Kp.refl (b : Addr) (H : Hp) : Kp b H H := fun _ _ _ e => e
theorem Kp.trans {b : Addr} {H H1 H2 : Hp} (x : Kp b H H1) (y : Kp b H1 H2) : Kp b H H2 := fun a o n e => y a o n (x a o n e)
theorem Kp.upd {b : Addr} {H : Hp} {o : HO} : Kp b H (upd H b o) := fun a u n e => by rw [upd_ne n]; exact e
theorem Kp.of {b : Addr} {H H' : Hp} (s : Same H H') : Kp b H H' := fun a o _ e => s a o e

/-- the bag of a script: its cells, how many are taken, what is left of a great one, the state of the draws -/
structure BagC (H : Hp) (b c : Addr) (ns : List Int) (i : Nat) (z r : Int) : Prop where
  ne : b ≠ c
  at_ : H b = some (.lst [.ref c, .int i, .int z, .int r])
  cs : H c = some (.lst (ns.map V.int))
  le : i ≤ ns.length
  z0 : 0 ≤ z
  r0 : 0 ≤ r
  r1 : r < 2147483647
def Bag (H : Hp) (b : Addr) : Prop := ∃ (c : Addr) (ns : List Int) (i : Nat) (z r : Int), BagC H b c ns i z r
theorem BagC.put {H : Hp} {b c : Addr} {ns : List Int} {i i' : Nat} {z r z' r' : Int} {o : HO} (B : BagC H b c ns i z r) (ho : o = .lst [.ref c, .int i', .int z', .int r']) (hi : i' ≤ ns.length) (hz : 0 ≤ z') (h0 : 0 ≤ r') (h1 : r' < 2147483647) :
    BagC (upd H b o) b c ns i' z' r' := ⟨B.ne, by rw [upd_same, ho], by rw [upd_ne (Ne.symm B.ne)]; exact B.cs, hi, hz, h0, h1⟩
theorem Bag.some {H : Hp} {b : Addr} (B : Bag H b) : ∃ xs, H b = some (.lst xs) := let ⟨_, _, _, _, _, e⟩ := B; ⟨_, e.at_⟩
theorem Bag.same {H H' : Hp} {b : Addr} (B : Bag H b) (s : Same H H') : Bag H' b := by
  obtain ⟨c, ns, i, z, r, h⟩ := B
  exact ⟨c, ns, i, z, r, h.ne, s _ _ h.at_, s _ _ h.cs, h.le, h.z0, h.r0, h.r1⟩
theorem emod_lo (a : Int) {b : Int} (h : 0 < b) : 0 ≤ a % b := Int.emod_nonneg _ (by omega)
theorem emod_hi (a : Int) {b : Int} (h : 0 < b) : a % b < b := Int.emod_lt_of_pos _ h

/-- a draw: some number below the sides; the bag stays one, nothing else changes -/
def spPull : Sp := fun vs H Q _ => ∃ (b : Addr) (k : Int), vs = [.ref b, .int k] ∧ Bag H b ∧ 0 < k ∧ k < 1073741824 ∧
  ∀ (d : Int) (H' : Hp), 0 ≤ d → d < k → Bag H' b → Kp b H H' → Q (.int d) H'
def spBag (K : PySem.W.Frag) : Sp := fun vs H Q _ => ∃ (a : Addr) (ns : List Int), vs = [.ref a] ∧ SqL K H a (ns.map V.int) ∧ ns.length ≤ 63 ∧
  ∀ (b : Addr) (H' : Hp), H b = none → Bag H' b → Same H H' → Q (.ref b) H'
/-- a new object -/
theorem sNew {H H1 : Hp} {p : Addr} {o : HO} (s : Same H H1) (h : H1 p = none) : Same H (upd H1 p o) := fun a u e => by
  rw [upd_ne (ne_of_none (s a u e) h)]
  exact s a u e
theorem ne_new {H : Hp} {p q : Addr} {o : HO} (h : upd H p o q = none) : q ≠ p := fun z => by
  rw [z, upd_same] at h
  cases h
theorem of_new {H : Hp} {p q : Addr} {o : HO} (h : upd H p o q = none) : H q = none := by
  rw [upd_ne (ne_new h)] at h
  exact h

/-! ### data: what a value tells, with the lists and tuples in it -/
inductive D where
  | non | bl (b : Bool) | int (i : Int) | str (x : Str) | lst (ds : List D) | tup (ds : List D)
mutual
def Rp (K : PySem.W.Frag) (H : Hp) : V → D → Prop
  | v, .non => v = .non
  | v, .bl b => v = .bl b
  | v, .int i => v = .int i
  | v, .str x => v = .str x
  | v, .lst ds => ∃ a xs, v = .ref a ∧ SqL K H a xs ∧ xs.length ≤ 100000 ∧ Rps K H xs ds
  | v, .tup ds => ∃ a xs, v = .ref a ∧ SqT K H a xs ∧ xs.length ≤ 100000 ∧ Rps K H xs ds
def Rps (K : PySem.W.Frag) (H : Hp) : List V → List D → Prop
  | xs, [] => xs = []
  | xs, d :: ds => ∃ x r, xs = x :: r ∧ Rp K H x d ∧ Rps K H r ds
end
mutual
def dep : D → Nat
  | .lst ds => depL ds + 1
  | .tup ds => depL ds + 1
  | _ => 0
def depL : List D → Nat
  | [] => 0
  | d :: ds => max (dep d) (depL ds)
end
theorem sameT {K : PySem.W.Frag} {H H' : Hp} {a : Addr} {xs : List V} (e : Same H H') (h : SqT K H a xs) : SqT K H' a xs := by
  rcases h with (h | ⟨o, h⟩) | h
  · exact .inl (.inl (e _ _ h))
  · exact .inl (.inr ⟨o, e _ _ h⟩)
  · exact .inr h
mutual
theorem Rp.same {K : PySem.W.Frag} {H H' : Hp} (e : Same H H') : ∀ {v : V} (d : D), Rp K H v d → Rp K H' v d
  | _, .non, h => h
  | _, .bl _, h => h
  | _, .int _, h => h
  | _, .str _, h => h
  | _, .lst ds, h => by
    obtain ⟨a, xs, h1, h2, h3, h4⟩ := h
    exact ⟨a, xs, h1, e.seq h2, h3, Rps.same e ds h4⟩
  | _, .tup ds, h => by
    obtain ⟨a, xs, h1, h2, h3, h4⟩ := h
    exact ⟨a, xs, h1, sameT e h2, h3, Rps.same e ds h4⟩
theorem Rps.same {K : PySem.W.Frag} {H H' : Hp} (e : Same H H') : ∀ {xs : List V} (ds : List D), Rps K H xs ds → Rps K H' xs ds
  | _, [], h => h
  | _, d :: ds, h => by
    obtain ⟨x, r, h1, h2, h3⟩ := h
    exact ⟨x, r, h1, Rp.same e d h2, Rps.same e ds h3⟩
end
theorem Rps.len {K : PySem.W.Frag} {H : Hp} : ∀ {xs : List V} {ds : List D}, Rps K H xs ds → xs.length = ds.length
  | _, [], h => by rw [show _ = [] from h]; rfl
  | _, d :: ds, h => by
    obtain ⟨x, r, rfl, _, h3⟩ := h
    rw [List.length_cons, List.length_cons, Rps.len h3]
theorem Rps.at_ {K : PySem.W.Frag} {H : Hp} : ∀ {xs : List V} {ds : List D} {i : Nat} {x : V}, Rps K H xs ds → xs[i]? = some x → ∃ d, ds[i]? = some d ∧ Rp K H x d
  | _, [], i, x, h, e => by rw [show _ = [] from h] at e; simp at e
  | _, d :: ds, 0, x, h, e => by
    obtain ⟨y, r, rfl, h2, _⟩ := h
    cases e
    exact ⟨d, rfl, h2⟩
  | _, d :: ds, i + 1, x, h, e => by
    obtain ⟨y, r, rfl, _, h3⟩ := h
    obtain ⟨d', e1, e2⟩ := Rps.at_ (i := i) h3 e
    exact ⟨d', e1, e2⟩
theorem dep_mem : ∀ {ds : List D} {i : Nat} {d : D}, ds[i]? = some d → dep d ≤ depL ds
  | [], _, _, e => by simp at e
  | c :: ds, 0, d, e => by cases e; exact Nat.le_max_left ..
  | c :: ds, i + 1, d, e => Nat.le_trans (dep_mem (i := i) e) (Nat.le_max_right ..)

/-- the class of a datum's value -/
def tyD : D → String
  | .non => "NoneType" | .bl _ => "bool" | .int _ => "int" | .str _ => "str" | .lst _ => "list" | .tup _ => "tuple"
theorem tyL {K : PySem.W.Frag} {H : Hp} {a : Addr} {xs : List V} (h : SqL K H a xs) : TyX K H (.ref a) (.type "list") := by
  rcases h with (h | ⟨o, h⟩) | ⟨o, its, n, h, c, _⟩
  · exact .base (.lst h)
  · exact .base (.frz h)
  · exact .kList h c
theorem tyT {K : PySem.W.Frag} {H : Hp} {a : Addr} {xs : List V} (h : SqT K H a xs) : TyX K H (.ref a) (.type "tuple") := by
  rcases h with (h | ⟨o, h⟩) | ⟨o, its, n, h, c, _⟩
  · exact .base (.tup h)
  · exact .fTuple h
  · exact .kTuple h c
theorem tyX {K : PySem.W.Frag} {H : Hp} : ∀ {v : V} (d : D), Rp K H v d → TyX K H v (.type (tyD d))
  | _, .non, h => by rw [show _ = V.non from h]; exact .base .non
  | _, .bl _, h => by rw [show _ = V.bl _ from h]; exact .base (.bl _)
  | _, .int _, h => by rw [show _ = V.int _ from h]; exact .base (.int _)
  | _, .str _, h => by rw [show _ = V.str _ from h]; exact .base (.str _)
  | _, .lst ds, h => by obtain ⟨a, xs, rfl, h2, _⟩ := h; exact tyL h2
  | _, .tup ds, h => by obtain ⟨a, xs, rfl, h2, _⟩ := h; exact tyT h2

/-! ### a def that others call -/
structure Df (P : Program) (w : World) (K : PySem.W.Frag) (mg : Str → Option Value) (base : Heap) (k : Nat) (x : Str) (ps : List Str) (sp : Sp) : Prop where
  ex : ∃ (f : Addr) (fd : FuncData), FnOk P w K mg base CX0 k f fd ps sp ∧ Binds K fd ps [] ∧ mg x = some (.ref f) ∧ PySem.W.keepIn K (.ref f) = true
theorem fn_false {P : Program} {w : World} {K : PySem.W.Frag} {mg : Str → Option Value} {base : Heap} {CX : CXT} {k : Nat} {f : Addr} {fd : FuncData} {ps : List Str} : FnOk P w K mg base CX k f fd ps (fun _ _ _ _ => False) :=
  ⟨fun _ _ _ _ h => h.elim, fun _ _ _ _ _ _ _ _ _ _ _ _ _ h => h.elim⟩
theorem pe_callD {X : Cx} {j k : Nat} {x : Str} {ps : List Str} {sp : Sp} {p pos : Pos} {e : Expr} {es : List Expr} {t : TA} (F : Df X.prog X.w X.K X.mg X.base k x ps sp) (hr : Room j X.A) (hk : k ≤ j) (ha : PA X (e :: es) t)
    (hg : Gl X x := by rfl) (hdb : (x == ("__debug__" : Str)) = false := by decide)
    (he : starEach (e :: es) X.env = (false, eval e X.env) :: starEach es X.env := by rfl) (hpl : (backTo pos (starEach es X.env)).any (·.1) = false := by rfl) :
    PE X (.Call (.Name x p) (e :: es) [] pos) (tCall sp [] E0 t) := by
  obtain ⟨f, fd, G, b, m, kp⟩ := F.ex
  exact pe_call G (hr.mono hk) hg m kp b .nil pass0 ha hdb he hpl
/-- zip of two tuples -/
theorem walk_zipT {K : PySem.W.Frag} {a b : Addr} {xs ys : List V} {n : Nat} (hn : n = min xs.length ys.length) : Walk (RZ.ItzT K a b) n (fun H => SqT K H a xs ∧ SqT K H b ys) (YPair (fun i => xs[i]?) (fun i => ys[i]?)) := by
  subst hn
  refine ⟨fun i _ hi q => ?_, fun _ q => ⟨xs, ys, q.1, q.2, by omega⟩, fun i H v H' _ q y => ?_⟩
  · have h1 : i < xs.length := by omega
    have h2 : i < ys.length := by omega
    exact ⟨xs, ys, xs[i], ys[i], q.1, q.2, by simp [h1], by simp [h2]⟩
  · obtain ⟨T, x, z, h1, h2, h3, h4, h5⟩ := y
    exact ⟨T, x, z, h1, h2, h3, h4 xs q.1, h5 ys q.2⟩

/-- one datum, told twice: the law's own comparison gives True -/
def spSame (K : PySem.W.Frag) (n : Nat) : Sp := fun vs H Q _ => ∃ (v u : V) (d : D), vs = [v, u] ∧ Rp K H v d ∧ Rp K H u d ∧ dep d ≤ n ∧ ∀ H', Same H H' → Q (.bl true) H'
def spSameL (K : PySem.W.Frag) : Nat → Sp
  | 0 => fun _ _ _ _ => False
  | n + 1 => spSame K n
def spOf (K : PySem.W.Frag) : Sp := fun vs H Q _ => ∃ (b a : Addr) (xs : List V), vs = [.ref b, .ref a] ∧ Bag H b ∧ SqL K H a xs ∧ a ≠ b ∧ 0 < xs.length ∧ xs.length < 1000000 ∧
  ∀ (v : V) (H' : Hp), v ∈ xs → Bag H' b → Kp b H H' → Q v H'
def spRoot : Sp := fun vs H Q _ => ∃ (b : Addr), vs = [.ref b] ∧ Bag H b ∧ ∀ (d : Int) (H' : Hp), d = 2 ∨ d = 3 ∨ d = 5 ∨ d = 6 ∨ d = 13 → Bag H' b → Kp b H H' → Q (.int d) H'
def spFar : Sp := fun vs H Q _ => ∃ (b : Addr) (k : Int), vs = [.ref b, .int k] ∧ Bag H b ∧ 0 < k ∧ k ≤ 1000 ∧ ∀ (n : Int) (H' : Hp), 0 ≤ n → n < 10 ^ k.toNat → Bag H' b → Kp b H H' → Q (.int n) H'
theorem Kp.seq {K : PySem.W.Frag} {b a : Addr} {H H' : Hp} {xs : List V} (k : Kp b H H') (n : a ≠ b) (h : SqL K H a xs) : SqL K H' a xs := by
  rcases h with (h | ⟨o, h⟩) | h
  · exact .inl (.inl (k _ _ n h))
  · exact .inl (.inr ⟨o, k _ _ n h⟩)
  · exact .inr h

theorem iteP {c A B : Prop} [Decidable c] (hc : c) (h : A) : if c then A else B := by
  rw [if_pos hc]
  exact h
theorem iteN {c A B : Prop} [Decidable c] (hc : ¬ c) (h : B) : if c then A else B := by
  rw [if_neg hc]
  exact h
theorem nd_of {p : Prop} [Decidable p] (h : ¬ p) : ¬ decide p = true := fun z => h (of_decide_eq_true z)
theorem eqT {x : V} {Q : VK} {H : Hp} (h : Q (.bl true) H) : Q (.bl (decide (x = x))) H := by
  rw [decide_eq_true rfl]
  exact h
def isBool : D → Bool
  | .bl _ => true
  | _ => false
theorem kb_NoneType_bool : kitB "NoneType" "bool" = some false := by decide +kernel
theorem kb_bool_bool : kitB "bool" "bool" = some true := by decide +kernel
theorem kb_int_bool : kitB "int" "bool" = some false := by decide +kernel
theorem kb_str_bool : kitB "str" "bool" = some false := by decide +kernel
theorem kb_list_bool : kitB "list" "bool" = some false := by decide +kernel
theorem kb_tuple_bool : kitB "tuple" "bool" = some false := by decide +kernel
theorem kit_bool : ∀ d : D, kitB (tyD d) "bool" = some (isBool d)
  | .non => kb_NoneType_bool
  | .bl _ => kb_bool_bool
  | .int _ => kb_int_bool
  | .str _ => kb_str_bool
  | .lst _ => kb_list_bool
  | .tup _ => kb_tuple_bool
def isInt : D → Bool
  | .bl _ => true
  | .int _ => true
  | _ => false
theorem kb_NoneType_int : kitB "NoneType" "int" = some false := by decide +kernel
theorem kb_bool_int : kitB "bool" "int" = some true := by decide +kernel
theorem kb_int_int : kitB "int" "int" = some true := by decide +kernel
theorem kb_str_int : kitB "str" "int" = some false := by decide +kernel
theorem kb_list_int : kitB "list" "int" = some false := by decide +kernel
theorem kb_tuple_int : kitB "tuple" "int" = some false := by decide +kernel
theorem kit_int : ∀ d : D, kitB (tyD d) "int" = some (isInt d)
  | .non => kb_NoneType_int
  | .bl _ => kb_bool_int
  | .int _ => kb_int_int
  | .str _ => kb_str_int
  | .lst _ => kb_list_int
  | .tup _ => kb_tuple_int
def isStr : D → Bool
  | .str _ => true
  | _ => false
theorem kb_NoneType_str : kitB "NoneType" "str" = some false := by decide +kernel
theorem kb_bool_str : kitB "bool" "str" = some false := by decide +kernel
theorem kb_int_str : kitB "int" "str" = some false := by decide +kernel
theorem kb_str_str : kitB "str" "str" = some true := by decide +kernel
theorem kb_list_str : kitB "list" "str" = some false := by decide +kernel
theorem kb_tuple_str : kitB "tuple" "str" = some false := by decide +kernel
theorem kit_str : ∀ d : D, kitB (tyD d) "str" = some (isStr d)
  | .non => kb_NoneType_str
  | .bl _ => kb_bool_str
  | .int _ => kb_int_str
  | .str _ => kb_str_str
  | .lst _ => kb_list_str
  | .tup _ => kb_tuple_str
def isLst : D → Bool
  | .lst _ => true
  | _ => false
theorem kb_NoneType_list : kitB "NoneType" "list" = some false := by decide +kernel
theorem kb_bool_list : kitB "bool" "list" = some false := by decide +kernel
theorem kb_int_list : kitB "int" "list" = some false := by decide +kernel
theorem kb_str_list : kitB "str" "list" = some false := by decide +kernel
theorem kb_list_list : kitB "list" "list" = some true := by decide +kernel
theorem kb_tuple_list : kitB "tuple" "list" = some false := by decide +kernel
theorem kit_list : ∀ d : D, kitB (tyD d) "list" = some (isLst d)
  | .non => kb_NoneType_list
  | .bl _ => kb_bool_list
  | .int _ => kb_int_list
  | .str _ => kb_str_list
  | .lst _ => kb_list_list
  | .tup _ => kb_tuple_list
def isTup : D → Bool
  | .tup _ => true
  | _ => false
theorem kb_NoneType_tuple : kitB "NoneType" "tuple" = some false := by decide +kernel
theorem kb_bool_tuple : kitB "bool" "tuple" = some false := by decide +kernel
theorem kb_int_tuple : kitB "int" "tuple" = some false := by decide +kernel
theorem kb_str_tuple : kitB "str" "tuple" = some false := by decide +kernel
theorem kb_list_tuple : kitB "list" "tuple" = some false := by decide +kernel
theorem kb_tuple_tuple : kitB "tuple" "tuple" = some true := by decide +kernel
theorem kit_tuple : ∀ d : D, kitB (tyD d) "tuple" = some (isTup d)
  | .non => kb_NoneType_tuple
  | .bl _ => kb_bool_tuple
  | .int _ => kb_int_tuple
  | .str _ => kb_str_tuple
  | .lst _ => kb_list_tuple
  | .tup _ => kb_tuple_tuple
theorem kit_lt {K : PySem.W.Frag} (d : D) : PySem.W.kitAny K (.type (tyD d)) [.type "list", .type "tuple"] = some (isLst d || isTup d) := by
  refine kitAny_cons (kit_ty (kit_list d)) (fun e => ?_) (fun e => by rw [e]; rfl)
  rw [e, Bool.false_or]
  exact kitAny_cons (kit_ty (kit_tuple d)) (fun e => by rw [e]; rfl) (fun e => e)
structure TSm (mg : Str → Option Value) : Prop where
  isinstance : mg "isinstance" = none
  bool : mg "bool" = none
  int : mg "int" = none
  str : mg "str" = none
  list : mg "list" = none
  tuple : mg "tuple" = none
  len : mg "len" = none
  all : mg "all" = none
  zip : mg "zip" = none
theorem yes_if {σ : St} {H : Hp} {A B : Hp → Prop} (h : A H) : tYes σ H (fun b H3 => if b = true then A H3 else B H3) := by
  show (if true = true then A H else B H)
  rw [if_pos rfl]
  exact h
end RF

namespace RF
open PySem L2
/-! ### built-in functions of math -/
theorem args_gcd3 (a b c : Value) : argsOk "math.gcd" ⟨[a, b, c], []⟩ := by
  unfold argsOk
  kernel_rfl
theorem run_gcd3 (a : Int) (t : Tok) (b : Int) (u : Tok) (c : Int) (v : Tok) :
    Gives (Builtin.«math.gcd» ⟨[.int a t, .int b u, .int c v], []⟩) (.int (((((Nat.gcd 0 a.natAbs).gcd b.natAbs).gcd c.natAbs : Nat) : Int))) :=
  .of_wp fun M A E s Q h => by
    obtain ⟨hp, g, d, tk, os⟩ := s
    wp_walk
    exact ⟨_, rfl, h⟩

section
variable {X : Cx}
theorem vals3 {x y z : V} {us : List Value} (r : Vals [x, y, z] us) : ∃ u v w, us = [u, v, w] ∧ RelV x u ∧ RelV y v ∧ RelV z w := by
  cases r with
  | cons a r => cases r with
    | cons b r => cases r with
      | cons c r => cases r; exact ⟨_, _, _, rfl, a, b, c⟩
def rGcd3 : List V → Hp → VK → Prop := fun vs H Q => ∃ a b c : Int, vs = [.int a, .int b, .int c] ∧ Q (.int ((Nat.gcd (Nat.gcd a.natAbs b.natAbs) c.natAbs : Nat) : Int)) H
theorem cr_gcd3 : CallR X (.builtin "math.gcd") rGcd3 := by
  intro pins s σ H vs us Q I r h
  obtain ⟨a, b, c, rfl, q⟩ := h
  obtain ⟨u1, u2, u3, rfl, ⟨t1, rfl⟩, ⟨t2, rfl⟩, ⟨t3, rfl⟩⟩ := vals3 r
  have g := run_gcd3 a t1 b t2 c t3
  rw [Nat.gcd_zero_left] at g
  exact call_function_meets PySem.W.MGF.kind_gcd PySem.W.MGF.plain_gcd PySem.W.MGF.entry_gcd (args_gcd3 _ _ _) g.meets (show EP X pins σ Q _ _ from ⟨.int _, H, I.tok _, ⟨_, rfl⟩, q⟩)
def rIsqrt : List V → Hp → VK → Prop := fun vs H Q => ∃ a : Int, vs = [.int a] ∧ 0 ≤ a ∧ a.toNat.log2 < 13000 ∧ Q (.int ((Float64.isqrt a.toNat : Nat) : Int)) H
theorem cr_isqrt : CallR X (.builtin "math.isqrt") rIsqrt := by
  intro pins s σ H vs us Q I r h
  obtain ⟨a, rfl, h0, h1, q⟩ := h
  obtain ⟨u, rfl, t, rfl⟩ := vals1 r
  exact call_function_meets PySem.W.MGF.kind_isqrt PySem.W.MGF.plain_isqrt PySem.W.MGF.entry_isqrt (PySem.W.MGF.args_isqrt _) (PySem.W.mg_run_isqrt a t (by omega) (by omega) (by omega)).meets
    (show EP X pins σ Q _ _ from ⟨.int _, H, I.tok _, ⟨_, rfl⟩, q⟩)

/-! ### operators of an own class -/
/-- C has the operator as the def at f -/
structure OwnOp (K : PySem.W.Frag) (C f : Addr) (m : Str) : Prop where
  first : PySem.W.selfFirst K C = true
  at_ : PySem.W.findIn K (.ref C) m = some (some (.ref f))
  fn : PySem.W.isFn K (.ref f) = true
def rOwn2 (C : Addr) (sp : Sp) (E : XK) : R2 := fun x y H Q => ∃ a b dx dy fs gs, x = .ref a ∧ y = .ref b ∧ H a = some (.ins C dx fs) ∧ H b = some (.ins C dy gs) ∧ sp [.ref a, .ref b] H Q E
theorem notImpl {v : V} {u : Value} {P : Value → Shared → Prop} {s : Shared} (r : RelV v u) (h : P u s) : PySem.W.CmpBack P u s := by
  cases v with
  | non => cases r; exact h
  | bl _ => cases r; exact h
  | int _ => obtain ⟨t, rfl⟩ := r; exact h
  | str _ => obtain ⟨t, rfl⟩ := r; exact h
  | byt _ => obtain ⟨t, rfl⟩ := r; exact h
  | flt _ => obtain ⟨t, rfl⟩ := r; exact h
  | ref _ => cases r; exact h
  | ty _ => cases r; exact h
theorem op_own {CX : CXT} {op : Operator} {n : Nat} {C f : Addr} {sp : Sp} {E : XK} (F : FnR X.prog X.w X.K X.mg X.base CX n f sp) (hr : Room n X.A) (O : OwnOp X.K C f (PySem.dunder op.info.2)) (hx : Passes CX X E) : OpR X (binaryOp op) (rOwn2 C sp E) := by
  intro pins s σ H x y v u Q I rx ry h
  obtain ⟨a, b, dx, dy, fs, gs, rfl, rfl, ha, hb, q⟩ := h
  cases rx
  cases ry
  obtain ⟨mA, J, _⟩ := ins_get I.hok ha
  obtain ⟨mB, J', _⟩ := ins_get I.hok hb
  obtain ⟨od, J, _⟩ := J.look
  obtain ⟨od', J', _⟩ := J'.look
  obtain ⟨m, hF⟩ := I.fr
  refine PySem.W.binop_K hF I.ok.mod.kin J J'.type O.first O.at_ O.fn (wpAny_mono (wpAny_call (run_fnR (us := [.ref a, .ref b]) (vs := [.ref a, .ref b]) F hr hx I (.cons rfl (.cons rfl .nil)) q)) (fun r s' z => ?_) fun _ _ z => z)
  obtain ⟨v, H', I', rv, q'⟩ := id z
  exact notImpl rv z
def rOwn1 (C : Addr) (sp : Sp) (E : XK) : V → Hp → VK → Prop := fun x H Q => ∃ a dx fs, x = .ref a ∧ H a = some (.ins C dx fs) ∧ sp [.ref a] H Q E
theorem un_own_neg {CX : CXT} {n : Nat} {C f : Addr} {sp : Sp} {E : XK} (F : FnR X.prog X.w X.K X.mg X.base CX n f sp) (hr : Room n X.A) (O : OwnOp X.K C f "__neg__") (hx : Passes CX X E) : UnR X (unaryOp .USub) (rOwn1 C sp E) := by
  intro pins s σ H x v Q I rx h
  obtain ⟨a, dx, fs, rfl, ha, q⟩ := h
  cases rx
  obtain ⟨mA, J, _⟩ := ins_get I.hok ha
  obtain ⟨od, J, _⟩ := J.look
  obtain ⟨m, hF⟩ := I.fr
  exact PySem.W.ksp_neg hF I.ok.mod.kin J O.at_ O.fn (wpAny_call (run_fnR (us := [.ref a]) (vs := [.ref a]) F hr hx I (.cons rfl .nil) q))
/-- bool(x) of an instance with its own truth -/
def rOwnB (C : Addr) (sp : Sp) (E : XK) : List V → Hp → VK → Prop := fun vs H Q => ∃ a dx fs, vs = [.ref a] ∧ H a = some (.ins C dx fs) ∧ sp [.ref a] H (fun v H' => ∃ b, v = .bl b ∧ Q (.bl b) H') E
theorem tru_of {M : Model} {A : Around} {x : Value} {s : Shared} {Q0 Q : Bool → Shared → Prop} {E : Value → Shared → Prop} (hs : wpAny M A (truthy x) Q0 E s) (h : ∀ b s', Q0 b s' → Q b s') : wpAny M A (truthy x) Q E s := wpAny_mono hs h fun _ _ z => z
theorem new_bool_own (prog : Program) (w : World) (a : Addr) : MeetsIn prog w (Builtin.«bool.__new__» ⟨[.type "bool", .ref a], []⟩)
    (fun A R s => wpAny (model prog w) A.in1 (truthy (.ref a)) (fun b s' => R (.ok (.ret (.bool b))) s') (fun e s' => R (.error e) s') s) :=
  .of_wp fun A R s hs => by
    have f1 := F.conv_sub_bool
    obtain ⟨hp, g, d, tk, os⟩ := s
    repeat (any_goals (first | assumption | (with_reducible refine tru_of hs (fun b s' hq => ?_)) | wp_step))
    all_goals exact ⟨_, rfl, hq⟩
theorem call_bool_own {CX : CXT} {n : Nat} {C f : Addr} {sp : Sp} {E : XK} (G : FnR X.prog X.w X.K X.mg X.base CX n f sp) (hr : Room (n + 2) X.A) (hat : PySem.W.findIn X.K (.ref C) "__bool__" = some (some (.ref f))) (hfn : PySem.W.isFn X.K (.ref f) = true)
    (hx : Passes CX X E) : CallR X (.type "bool") (rOwnB C sp E) := by
  intro pins s σ H xs us Q I r h
  obtain ⟨a, dx, fs, rfl, ha, q⟩ := h
  obtain ⟨u, rfl, r1⟩ := vals1 r
  cases r1
  obtain ⟨mA, J, _⟩ := ins_get I.hok ha
  obtain ⟨od, J, _⟩ := J.look
  obtain ⟨m, hF⟩ := I.fr
  refine PySem.callType_newIn PySem.F.called_bool PySem.F.newNe_bool (PySem.F.typeCall_bool_1 _) (PySem.F.newCall_bool_1 _) (fun obj => PySem.F.args_object_init_2 obj _) PySem.F.entry_bool_new (new_bool_own X.prog X.w a) ?_
  refine PySem.W.truthy_K hF I.ok.mod.kin J hat hfn ?_
  refine wpAny_call (codeAny_mono (G _ X.stack s H [.ref a] [.ref a] _ E hr.in1.in1 I.env0.in1.in1 (.cons rfl .nil) q) fun r s' hq => ?_)
  cases r with
  | error e => exact hx pins σ H s e s' I hq
  | ok fl =>
    cases fl with
    | ret u =>
      obtain ⟨v, H', I', rv, b, rfl, q'⟩ := I.after hq
      cases rv
      exact ⟨rfl, .bl b, H', I', rfl, q'⟩
    | next => exact False.elim hq
    | brk => exact False.elim hq
    | cont => exact False.elim hq
/-- C.m is a staticmethod: its record at p, its def at g -/
structure SMet (K : PySem.W.Frag) (C : Addr) (mc : Value) (m : Str) (p g : Addr) : Prop where
  at_ : PySem.W.findCls K (.ref C) mc m = some (.get (.builtin "staticmethod.__get__") (.ref p) .none (.ref C))
  rc : ∃ rest, PySem.W.recIn K p "staticmethod" = some (.ref g :: rest)
  kp : PySem.W.keepIn K (.ref g) = true
def tSMeth (C : Addr) (sp : Sp) (E : XK) (ta : TE) (t : TA) : TE := fun σ H Q => ta σ H fun x H1 => x = .ref C ∧ t σ H1 fun vs H2 => sp vs H2 Q E
theorem pe_smeth {CX : CXT} {k : Nat} {C p g : Addr} {mc : Value} {sp : Sp} {E : XK} {o e : Expr} {es : List Expr} {m : Str} {pos apos : Pos} {ta : TE} {t : TA} {pl : Sem Bool} (he : PE X o ta) (r : ClX.CRead X.K C mc) (c : SMet X.K C mc m p g)
    (F : FnR X.prog X.w X.K X.mg X.base CX k g sp) (hr : Room k X.A) (hx : Passes CX X E) (ha : PA X (e :: es) t)
    (hst : starEach (e :: es) X.env = (false, eval e X.env) :: starEach es X.env := by rfl) (hpl : (backTo pos (starEach es X.env)).any (·.1) = false := by rfl)
    (ht : eval (.Call (.Attribute o m apos) (e :: es) [] pos) X.env = (do
      let ov ← eval o X.env
      standAt apos.atName
      let (f, first) ← holding [ov] (getMethod ov m pl)
      callWith pos f first (backTo pos (starEach (e :: es) X.env)) (backToKw pos (keywordEach [] X.env))) := by rfl) :
    PE X (.Call (.Attribute o m apos) (e :: es) [] pos) (tSMeth C sp E ta t) := by
  refine ⟨fun pins s σ H Q I h => ?_⟩
  refine PySem.W.methodCall_KW (pl := pl) (thn (he.run pins s σ H _ I h) fun u s1 ⟨x, H1, I1, rx, ex, q⟩ => ?_) ht
  subst ex
  obtain rfl : u = Value.ref C := rx
  obtain ⟨rest, hp⟩ := c.rc
  refine PySem.W.method_cls I1.kIn r.ga (PySem.W.cls_bind I1.kIn r.rd c.at_ (wpAny_call (PySem.W.sm_get (s := { s1 with toks := s1.toks + 1 }) I1.kIn hp (PySem.W.handed_on rfl ?_))))
  have I2 := I1.tok (s1.toks + 1)
  refine PySem.W.callWith_K (h₀ := X.base) I.ok.mod.kin c.kp (thn (ha.run pos pins _ σ H1 _ I2 q) fun us s3 ⟨vs, H2, I3, rv, q2⟩ => ⟨I3.kIn, ?_⟩) hst hpl
  exact wpAny_call (run_fnR F hr hx I3 rv q2)
end
end RF

namespace RF
theorem sq_nonneg (a : Int) : 0 ≤ a * a := by
  rcases Int.le_total 0 a with h | h
  · exact Int.mul_nonneg h h
  · exact Int.mul_nonneg_of_nonpos_of_nonpos h h
theorem sq_le {a b : Int} (ha : 0 ≤ a) (h : a ≤ b) : a * a ≤ b * b := Int.mul_le_mul h h ha (by omega)
theorem sq_lt {a b : Int} (ha : 0 ≤ a) (h : a < b) : a * a < b * b := by
  have h1 : a * a ≤ a * b := Int.mul_le_mul_of_nonneg_left (by omega) ha
  have h2 : a * b < b * b := Int.mul_lt_mul_of_pos_right h (by omega)
  omega
theorem le_of_sq {a b : Int} (hb : 0 ≤ b) (h : a * a ≤ b * b) : a ≤ b := by
  rcases Int.lt_or_le b a with z | z
  · have := sq_lt hb z
    omega
  · exact z
theorem lt_of_sq {a b : Int} (hb : 0 ≤ b) (h : a * a < b * b) : a < b := by
  rcases Int.lt_or_le a b with z | z
  · exact z
  · have := sq_le hb z
    omega
/-! ### square roots of integers -/
def rt (n : Int) : Int := ((PySem.Float64.isqrt n.toNat : Nat) : Int)
theorem rt_nn (n : Int) : 0 ≤ rt n := Int.natCast_nonneg _
theorem rt_le {n : Int} (h : 0 ≤ n) : rt n * rt n ≤ n := by
  have := (PySem.Float64.isqrt_spec n.toNat).1
  have e : ((PySem.Float64.isqrt n.toNat * PySem.Float64.isqrt n.toNat : Nat) : Int) ≤ ((n.toNat : Nat) : Int) := Int.ofNat_le.mpr this
  rw [Int.natCast_mul] at e
  unfold rt
  omega
theorem rt_lt {n : Int} (h : 0 ≤ n) : n < (rt n + 1) * (rt n + 1) := by
  have := (PySem.Float64.isqrt_spec n.toNat).2
  have e : ((n.toNat : Nat) : Int) < (((PySem.Float64.isqrt n.toNat + 1) * (PySem.Float64.isqrt n.toNat + 1) : Nat) : Int) := Int.ofNat_lt.mpr this
  rw [Int.natCast_mul, Int.natCast_add] at e
  unfold rt
  have e2 : ((n.toNat : Nat) : Int) = n := by omega
  rw [e2] at e
  exact e
theorem rt_uniq {n r : Int} (h : 0 ≤ n) (r0 : 0 ≤ r) (r1 : r * r ≤ n) (r2 : n < (r + 1) * (r + 1)) : r = rt n := by
  have a := rt_le h
  have b := rt_lt h
  have c := rt_nn n
  have h1 : r < rt n + 1 := lt_of_sq (by omega) (by omega)
  have h2 : rt n < r + 1 := lt_of_sq (by omega) (by omega)
  omega
/-! ### the roots -/
def Root (d : Int) : Prop := d = 2 ∨ d = 3 ∨ d = 5 ∨ d = 6 ∨ d = 13
theorem Root.pos {d : Int} (h : Root d) : 0 < d := by unfold Root at h; omega
theorem Root.le {d : Int} (h : Root d) : d ≤ 13 := by unfold Root at h; omega
theorem ex_mul (i : Int) {p : Int} (h : i % p = 0) : ∃ t, i = p * t := ⟨i / p, by
  have := Int.mul_ediv_add_emod i p
  rw [h] at this
  omega⟩
theorem dvd2 {i c : Int} (h : i * i = 2 * c) : ∃ t, i = 2 * t := ex_mul i (by
  have e : (i * i) % 2 = 0 := by omega
  rw [Int.mul_emod] at e
  have : i % 2 = 0 ∨ i % 2 = 1 := by omega
  rcases this with z | z
  · exact z
  · rw [z] at e; simp at e)
theorem dvd3 {i c : Int} (h : i * i = 3 * c) : ∃ t, i = 3 * t := ex_mul i (by
  have e : (i * i) % 3 = 0 := by omega
  rw [Int.mul_emod] at e
  have : i % 3 = 0 ∨ i % 3 = 1 ∨ i % 3 = 2 := by omega
  rcases this with z | z | z
  · exact z
  · rw [z] at e; simp at e
  · rw [z] at e; simp at e)
theorem dvd5 {i c : Int} (h : i * i = 5 * c) : ∃ t, i = 5 * t := ex_mul i (by
  have e : (i * i) % 5 = 0 := by omega
  rw [Int.mul_emod] at e
  have : i % 5 = 0 ∨ i % 5 = 1 ∨ i % 5 = 2 ∨ i % 5 = 3 ∨ i % 5 = 4 := by omega
  rcases this with z | z | z | z | z
  · exact z
  all_goals (rw [z] at e; simp at e))
theorem dvd13 {i c : Int} (h : i * i = 13 * c) : ∃ t, i = 13 * t := ex_mul i (by
  have e : (i * i) % 13 = 0 := by omega
  rw [Int.mul_emod] at e
  have : i % 13 = 0 ∨ i % 13 = 1 ∨ i % 13 = 2 ∨ i % 13 = 3 ∨ i % 13 = 4 ∨ i % 13 = 5 ∨ i % 13 = 6 ∨ i % 13 = 7 ∨ i % 13 = 8 ∨ i % 13 = 9 ∨ i % 13 = 10 ∨ i % 13 = 11 ∨ i % 13 = 12 := by omega
  rcases this with z | z | z | z | z | z | z | z | z | z | z | z | z
  · exact z
  all_goals (rw [z] at e; simp at e))
/-- one step down -/
theorem down {d i j : Int} (hd : Root d) (h : i * i = d * (j * j)) : ∃ p i' j' : Int, 2 ≤ p ∧ j = p * j' ∧ i' * i' = d * (j' * j') := by
  rcases hd with rfl | rfl | rfl | rfl | rfl
  · obtain ⟨t, rfl⟩ := dvd2 h
    obtain ⟨u, rfl⟩ := dvd2 (i := j) (c := t * t) (by grind)
    exact ⟨2, t, u, by omega, rfl, by grind⟩
  · obtain ⟨t, rfl⟩ := dvd3 h
    obtain ⟨u, rfl⟩ := dvd3 (i := j) (c := t * t) (by grind)
    exact ⟨3, t, u, by omega, rfl, by grind⟩
  · obtain ⟨t, rfl⟩ := dvd5 h
    obtain ⟨u, rfl⟩ := dvd5 (i := j) (c := t * t) (by grind)
    exact ⟨5, t, u, by omega, rfl, by grind⟩
  · obtain ⟨t, rfl⟩ := dvd3 (i := i) (c := 2 * (j * j)) (by grind)
    obtain ⟨u, rfl⟩ := dvd3 (i := j) (c := 2 * (t * t) - (j * j)) (by grind)
    exact ⟨3, t, u, by omega, rfl, by grind⟩
  · obtain ⟨t, rfl⟩ := dvd13 h
    obtain ⟨u, rfl⟩ := dvd13 (i := j) (c := t * t) (by grind)
    exact ⟨13, t, u, by omega, rfl, by grind⟩
theorem nonsq {d : Int} (hd : Root d) : ∀ (n : Nat) (i j : Int), j.natAbs ≤ n → i * i = d * (j * j) → j = 0
  | 0, i, j, hn, _ => by omega
  | n + 1, i, j, hn, h => by
    obtain ⟨p, i', j', hp, e, h'⟩ := down hd h
    rcases Int.lt_trichotomy j' 0 with z | z | z
    · have : j'.natAbs ≤ n := by
        have h1 : p * j' ≤ 2 * j' := by
          have := Int.mul_le_mul_of_nonpos_right hp (by omega : j' ≤ 0)
          omega
        omega
      have := nonsq hd n i' j' this h'
      omega
    · rw [e, z]; simp
    · have : j'.natAbs ≤ n := by
        have h1 : 2 * j' ≤ p * j' := Int.mul_le_mul_of_nonneg_right hp (by omega)
        omega
      have := nonsq hd n i' j' this h'
      omega
theorem irr {d i j : Int} (hd : Root d) (h : i * i = d * (j * j)) : j = 0 := nonsq hd j.natAbs i j (Nat.le_refl _) h
end RF

namespace RF
theorem ring1 (x s : Int) : (x + s) * (x + s) = (x - s) * (x - s) + 4 * (x * s) := by grind
theorem amgm (x q y n : Int) (hx : 0 < x) (hq : 0 ≤ q) (hn : n < x * (q + 1)) (hy : x + q ≤ 2 * y + 1) : n < (y + 1) * (y + 1) := by
  have h1 := ring1 x (q + 1)
  have h0 : 0 ≤ (x - (q + 1)) * (x - (q + 1)) := by
    rcases Int.le_total 0 (x - (q + 1)) with h | h
    · exact Int.mul_nonneg h h
    · exact Int.mul_nonneg_of_nonpos_of_nonpos h h
  have h2 : (x + (q + 1)) * (x + (q + 1)) ≤ (2 * (y + 1)) * (2 * (y + 1)) := Int.mul_le_mul (by omega) (by omega) (by omega) (by omega)
  have h3 : (2 * (y + 1)) * (2 * (y + 1)) = 4 * ((y + 1) * (y + 1)) := by grind
  omega
end RF

namespace RF
/-- the size of an integer, as abs gives it -/
def ab (i : Int) : Int := if i < 0 then -i else i
theorem ab_nn (i : Int) : 0 ≤ ab i := by unfold ab; split <;> omega
theorem ab_pos {i : Int} (h : 0 ≤ i) : ab i = i := by unfold ab; rw [if_neg (by omega)]
theorem ab_neg {i : Int} (h : i ≤ 0) : ab i = -i := by
  unfold ab
  split <;> omega
/-- i|i| + d j|j|: it has the sign of i + j r -/
def sgb (d i j : Int) : Int := i * ab i + d * j * ab j
def sg (d i j : Int) : Int := if 0 < sgb d i j then 1 else if sgb d i j < 0 then -1 else 0
/-- the floor of f times the root -/
def flr (d f : Int) : Int := if f < 0 then -rt (d * f * f) - 1 else rt (d * f * f)
theorem dff (d f : Int) : d * f * f = d * (f * f) := Int.mul_assoc d f f
theorem dff_nn {d f : Int} (hd : Root d) : 0 ≤ d * f * f := by
  rw [dff]
  exact Int.mul_nonneg (Int.le_of_lt hd.pos) (sq_nonneg f)
theorem keyL {d x y : Int} (hd : Root d) : 0 ≤ sgb d x y ↔ 0 ≤ x + flr d y := by
  have r0 := rt_nn (d * y * y)
  have r1 := rt_le (dff_nn hd (f := y))
  have r2 := rt_lt (dff_nn hd (f := y))
  have dn := dff_nn hd (f := y)
  generalize hr : rt (d * y * y) = r at *
  rcases Int.lt_or_le y 0 with hy | hy
  · have ef : flr d y = -r - 1 := by unfold flr; rw [if_pos hy, hr]
    have eb : sgb d x y = x * ab x - d * y * y := by unfold sgb; rw [ab_neg (Int.le_of_lt hy)]; grind
    rw [ef, eb]
    have ne : r * r ≠ d * y * y := fun e => by
      have := irr hd (i := r) (j := y) (by rw [e, dff])
      omega
    have lt : r * r < d * y * y := by omega
    have dp : 0 < d * y * y := by
      have := sq_nonneg r
      omega
    rcases Int.lt_or_le x 0 with hx | hx
    · rw [ab_neg (Int.le_of_lt hx)]
      have := sq_nonneg x
      have e : x * -x = -(x * x) := by grind
      omega
    · rw [ab_pos hx]
      constructor
      · intro h
        have : r < x := lt_of_sq hx (by omega)
        omega
      · intro h
        have : (r + 1) * (r + 1) ≤ x * x := sq_le (by omega) (by omega)
        omega
  · have ef : flr d y = r := by unfold flr; rw [if_neg (by omega), hr]
    have eb : sgb d x y = x * ab x + d * y * y := by unfold sgb; rw [ab_pos hy]
    rw [ef, eb]
    rcases Int.lt_or_le x 0 with hx | hx
    · rw [ab_neg (Int.le_of_lt hx)]
      have e : x * -x = -((-x) * (-x)) := by grind
      constructor
      · intro h
        have : -x < r + 1 := lt_of_sq (by omega) (by omega)
        omega
      · intro h
        have : (-x) * (-x) ≤ r * r := sq_le (by omega) (by omega)
        omega
    · rw [ab_pos hx]
      have := sq_nonneg x
      omega
theorem ab_mul {g i : Int} (hg : 0 ≤ g) : ab (g * i) = g * ab i := by
  rcases Int.lt_or_le i 0 with h | h
  · have : g * i ≤ 0 := Int.mul_nonpos_of_nonneg_of_nonpos hg (by omega)
    rw [ab_neg this, ab_neg (by omega)]
    grind
  · rw [ab_pos (Int.mul_nonneg hg h), ab_pos h]
theorem sgb_mul {d g i j : Int} (hg : 0 ≤ g) : sgb d (g * i) (g * j) = g * g * sgb d i j := by
  unfold sgb
  rw [ab_mul hg, ab_mul hg]
  grind
theorem sgb_neg {d i j : Int} : sgb d (-i) (-j) = -sgb d i j := by
  have h : ∀ i, ab (-i) = ab i := fun i => by unfold ab; split <;> split <;> omega
  unfold sgb
  rw [h, h]
  grind
theorem sg_mul {d g i j : Int} (hg : 0 < g) : sg d (g * i) (g * j) = sg d i j := by
  have hp : 0 < g * g := Int.mul_pos hg hg
  have e := sgb_mul (d := d) (i := i) (j := j) (Int.le_of_lt hg)
  unfold sg
  rw [e]
  rcases Int.lt_trichotomy (sgb d i j) 0 with h | h | h
  · have : g * g * sgb d i j < 0 := Int.mul_neg_of_pos_of_neg hp h
    rw [if_neg (by omega), if_pos this, if_neg (by omega), if_pos h]
  · rw [h]; simp
  · have : 0 < g * g * sgb d i j := Int.mul_pos hp h
    rw [if_pos this, if_pos h]
theorem sg_neg {d i j : Int} : sg d (-i) (-j) = -sg d i j := by
  have e := sgb_neg (d := d) (i := i) (j := j)
  unfold sg
  rw [e]
  rcases Int.lt_trichotomy (sgb d i j) 0 with h | h | h
  · rw [if_pos (by omega), if_neg (by omega), if_pos h]; rfl
  · rw [h]; rfl
  · rw [if_neg (by omega), if_pos (by omega), if_pos h]
/-- the law's own sign -/
theorem sg_pp {d i j : Int} (hd : Root d) (hi : 0 ≤ i) (hj : 0 ≤ j) : sg d i j = if 0 < i ∨ 0 < j then 1 else 0 := by
  have hp := hd.pos
  have e : sgb d i j = i * i + d * (j * j) := by unfold sgb; rw [ab_pos hi, ab_pos hj]; grind
  have a := sq_nonneg i
  have b := sq_nonneg j
  have b' : 0 ≤ d * (j * j) := Int.mul_nonneg (by omega) b
  unfold sg
  rw [e]
  by_cases h : 0 < i ∨ 0 < j
  · rw [if_pos h, if_pos]
    rcases h with h | h
    · have : 0 < i * i := Int.mul_pos h h
      omega
    · have : 0 < d * (j * j) := Int.mul_pos hp (Int.mul_pos h h)
      omega
  · have hi0 : i = 0 := by omega
    have hj0 : j = 0 := by omega
    rw [if_neg h, hi0, hj0]
    simp
theorem sg_nn {d i j : Int} (hd : Root d) (hi : i ≤ 0) (hj : j ≤ 0) (h : ¬ (0 ≤ i ∧ 0 ≤ j)) : sg d i j = -1 := by
  have e : sg d i j = -sg d (-i) (-j) := by rw [sg_neg]; omega
  rw [e, sg_pp hd (by omega) (by omega), if_pos (by omega)]
theorem sg_pn {d i j : Int} (hd : Root d) (hi : 0 < i) (hj : j < 0) : sg d i j = if j * j * d < i * i then 1 else -1 := by
  have e : sgb d i j = i * i - j * j * d := by unfold sgb; rw [ab_pos (by omega), ab_neg (by omega)]; grind
  have ne : i * i ≠ j * j * d := fun q => by
    have := irr hd (i := i) (j := j) (by rw [q]; grind)
    omega
  unfold sg
  rw [e]
  split <;> split <;> first | rfl | omega | skip
theorem sg_np {d i j : Int} (hd : Root d) (hi : i < 0) (hj : 0 < j) : sg d i j = if i * i < j * j * d then 1 else -1 := by
  have e : sgb d i j = j * j * d - i * i := by unfold sgb; rw [ab_pos (i := j) (by omega), ab_neg (i := i) (by omega)]; grind
  have ne : i * i ≠ j * j * d := fun q => by
    have := irr hd (i := i) (j := j) (by rw [q]; grind)
    omega
  unfold sg
  rw [e]
  split <;> split <;> first | rfl | omega | skip
theorem sg_nonneg {d i j : Int} (hd : Root d) : 0 ≤ sg d i j ↔ 0 ≤ i + flr d j := by
  rw [← keyL hd]
  unfold sg
  split
  · omega
  · split <;> omega
theorem flr_ring {d f : Int} : rt (f * f * d) = rt (d * f * f) := by rw [show f * f * d = d * f * f by grind]
end RF

namespace RF
/-! ### lowest terms -/
def gc (i j k : Int) : Int := ((Nat.gcd (Nat.gcd i.natAbs j.natAbs) k.natAbs : Nat) : Int)
def gs (i j k : Int) : Int := if k < 0 then -gc i j k else gc i j k
theorem gc_i (i j k : Int) : gc i j k ∣ i := Int.natAbs_dvd_natAbs.mp (by
  unfold gc
  rw [Int.natAbs_natCast]
  exact Nat.dvd_trans (Nat.gcd_dvd_left _ _) (Nat.gcd_dvd_left _ _))
theorem gc_j (i j k : Int) : gc i j k ∣ j := Int.natAbs_dvd_natAbs.mp (by
  unfold gc
  rw [Int.natAbs_natCast]
  exact Nat.dvd_trans (Nat.gcd_dvd_left _ _) (Nat.gcd_dvd_right _ _))
theorem gc_k (i j k : Int) : gc i j k ∣ k := Int.natAbs_dvd_natAbs.mp (by
  unfold gc
  rw [Int.natAbs_natCast]
  exact Nat.gcd_dvd_right _ _)
theorem gc_pos {i j k : Int} (h : k ≠ 0) : 0 < gc i j k := by
  have : 0 < Nat.gcd (Nat.gcd i.natAbs j.natAbs) k.natAbs := Nat.gcd_pos_of_pos_right _ (by omega)
  unfold gc
  omega
theorem gc_le {i j k : Int} (h : k ≠ 0) : gc i j k ≤ ab k := by
  have : Nat.gcd (Nat.gcd i.natAbs j.natAbs) k.natAbs ≤ k.natAbs := Nat.gcd_le_right _ (by omega)
  unfold gc ab
  split <;> omega
theorem gs_ne {i j k : Int} (h : k ≠ 0) : gs i j k ≠ 0 := by
  have := gc_pos (i := i) (j := j) h
  unfold gs
  split <;> omega
theorem gs_natAbs {i j k : Int} (h : k ≠ 0) : (gs i j k).natAbs ≤ k.natAbs := by
  have := gc_pos (i := i) (j := j) h
  have := gc_le (i := i) (j := j) h
  unfold gs
  unfold ab at this
  split <;> split at this <;> omega
def pI (i j k : Int) : Int := i.fdiv (gs i j k)
def pJ (i j k : Int) : Int := j.fdiv (gs i j k)
def pK (i j k : Int) : Int := k.fdiv (gs i j k)
theorem gs_dvd {i j k x : Int} (h : gc i j k ∣ x) : gs i j k ∣ x := by
  unfold gs
  split
  · exact Int.neg_dvd.mpr h
  · exact h
theorem fdiv_of {g x : Int} (hg : g ≠ 0) (h : g ∣ x) : x = g * x.fdiv g := by
  obtain ⟨t, rfl⟩ := h
  rw [Int.mul_fdiv_cancel_left t hg]
theorem pI_eq {i j k : Int} (h : k ≠ 0) : i = gs i j k * pI i j k := fdiv_of (gs_ne h) (gs_dvd (gc_i i j k))
theorem pJ_eq {i j k : Int} (h : k ≠ 0) : j = gs i j k * pJ i j k := fdiv_of (gs_ne h) (gs_dvd (gc_j i j k))
theorem pK_eq {i j k : Int} (h : k ≠ 0) : k = gs i j k * pK i j k := fdiv_of (gs_ne h) (gs_dvd (gc_k i j k))
theorem pK_pos {i j k : Int} (h : k ≠ 0) : 0 < pK i j k := by
  have e := pK_eq (i := i) (j := j) h
  have g0 := gc_pos (i := i) (j := j) h
  generalize pK i j k = t at *
  unfold gs at e
  split at e
  · rcases Int.lt_or_le 0 t with z | z
    · exact z
    · have : 0 ≤ -gc i j k * t := Int.mul_nonneg_of_nonpos_of_nonpos (by omega) z
      omega
  · rcases Int.lt_or_le 0 t with z | z
    · exact z
    · have : gc i j k * t ≤ 0 := Int.mul_nonpos_of_nonneg_of_nonpos (by omega) z
      omega
theorem nat_le_mul {g t : Int} (hg : g ≠ 0) : t.natAbs ≤ (g * t).natAbs := by
  rw [Int.natAbs_mul]
  exact Nat.le_mul_of_pos_left _ (by omega)
theorem pI_le {i j k : Int} (h : k ≠ 0) : (pI i j k).natAbs ≤ i.natAbs := by
  have e := pI_eq (i := i) (j := j) h
  have := nat_le_mul (g := gs i j k) (t := pI i j k) (gs_ne h)
  rw [← e] at this
  exact this
theorem pJ_le {i j k : Int} (h : k ≠ 0) : (pJ i j k).natAbs ≤ j.natAbs := by
  have e := pJ_eq (i := i) (j := j) h
  have := nat_le_mul (g := gs i j k) (t := pJ i j k) (gs_ne h)
  rw [← e] at this
  exact this
theorem pK_le {i j k : Int} (h : k ≠ 0) : (pK i j k).natAbs ≤ k.natAbs := by
  have e := pK_eq (i := i) (j := j) h
  have := nat_le_mul (g := gs i j k) (t := pK i j k) (gs_ne h)
  rw [← e] at this
  exact this
theorem gc_one {i j k : Int} (h : k ≠ 0) : gc (pI i j k) (pJ i j k) (pK i j k) = 1 := by
  have e1 : i.natAbs = (gs i j k).natAbs * (pI i j k).natAbs := by rw [← Int.natAbs_mul, ← pI_eq h]
  have e2 : j.natAbs = (gs i j k).natAbs * (pJ i j k).natAbs := by rw [← Int.natAbs_mul, ← pJ_eq h]
  have e3 : k.natAbs = (gs i j k).natAbs * (pK i j k).natAbs := by rw [← Int.natAbs_mul, ← pK_eq h]
  have eg : (gs i j k).natAbs = Nat.gcd (Nat.gcd i.natAbs j.natAbs) k.natAbs := by
    unfold gs gc
    split <;> omega
  have key : Nat.gcd (Nat.gcd i.natAbs j.natAbs) k.natAbs = (gs i j k).natAbs * Nat.gcd (Nat.gcd (pI i j k).natAbs (pJ i j k).natAbs) (pK i j k).natAbs := by
    conv => lhs; rw [e1, e2, e3]
    rw [Nat.gcd_mul_left, Nat.gcd_mul_left]
  rw [← eg] at key
  have gp : 0 < (gs i j k).natAbs := by have := gs_ne (i := i) (j := j) h; omega
  have : Nat.gcd (Nat.gcd (pI i j k).natAbs (pJ i j k).natAbs) (pK i j k).natAbs = 1 := by
    have q : (gs i j k).natAbs * 1 = (gs i j k).natAbs * Nat.gcd (Nat.gcd (pI i j k).natAbs (pJ i j k).natAbs) (pK i j k).natAbs := by omega
    exact (Nat.eq_of_mul_eq_mul_left gp q).symm
  unfold gc
  rw [this]
  rfl
theorem dvd_low {a b c a' b' c' : Int} (hg : gc a b c = 1) (h1 : a * c' = a' * c) (h2 : b * c' = b' * c) : c ∣ c' := by
  apply Int.natAbs_dvd_natAbs.mp
  have d1 : c.natAbs ∣ a.natAbs * c'.natAbs := by rw [← Int.natAbs_mul, h1, Int.natAbs_mul]; exact Nat.dvd_mul_left _ _
  have d2 : c.natAbs ∣ b.natAbs * c'.natAbs := by rw [← Int.natAbs_mul, h2, Int.natAbs_mul]; exact Nat.dvd_mul_left _ _
  have d3 : c.natAbs ∣ c.natAbs * c'.natAbs := Nat.dvd_mul_right _ _
  have d : c.natAbs ∣ Nat.gcd (Nat.gcd (a.natAbs * c'.natAbs) (b.natAbs * c'.natAbs)) (c.natAbs * c'.natAbs) := Nat.dvd_gcd (Nat.dvd_gcd d1 d2) d3
  rw [Nat.gcd_mul_right, Nat.gcd_mul_right] at d
  have : Nat.gcd (Nat.gcd a.natAbs b.natAbs) c.natAbs = 1 := by unfold gc at hg; omega
  rw [this, Nat.one_mul] at d
  exact d
theorem low_uniq {a b c a' b' c' : Int} (hc : 0 < c) (hc' : 0 < c') (hg : gc a b c = 1) (hg' : gc a' b' c' = 1) (h1 : a * c' = a' * c) (h2 : b * c' = b' * c) : a = a' ∧ b = b' ∧ c = c' := by
  have e : c = c' := Int.dvd_antisymm (by omega) (by omega) (dvd_low hg h1 h2) (dvd_low hg' h1.symm h2.symm)
  subst e
  exact ⟨Int.eq_of_mul_eq_mul_right (by omega) h1, Int.eq_of_mul_eq_mul_right (by omega) h2, rfl⟩
/-- equal numbers have equal parts -/
theorem parts_eq {i j k i' j' k' : Int} (h : k ≠ 0) (h' : k' ≠ 0) (h1 : i * k' = i' * k) (h2 : j * k' = j' * k) : pI i j k = pI i' j' k' ∧ pJ i j k = pJ i' j' k' ∧ pK i j k = pK i' j' k' := by
  have g := gs_ne (i := i) (j := j) h
  have g' := gs_ne (i := i') (j := j') h'
  have a1 := pI_eq (i := i) (j := j) h
  have a2 := pJ_eq (i := i) (j := j) h
  have a3 := pK_eq (i := i) (j := j) h
  have b1 := pI_eq (i := i') (j := j') h'
  have b2 := pJ_eq (i := i') (j := j') h'
  have b3 := pK_eq (i := i') (j := j') h'
  refine low_uniq (pK_pos h) (pK_pos h') (gc_one h) (gc_one h') ?_ ?_
  · have : gs i j k * gs i' j' k' ≠ 0 := Int.mul_ne_zero g g'
    apply Int.eq_of_mul_eq_mul_left this
    generalize gs i j k = s at *
    generalize gs i' j' k' = s' at *
    generalize pI i j k = x at *
    generalize pI i' j' k' = x' at *
    generalize pK i j k = z at *
    generalize pK i' j' k' = z' at *
    rw [a1, b1, a3, b3] at h1
    grind
  · have : gs i j k * gs i' j' k' ≠ 0 := Int.mul_ne_zero g g'
    apply Int.eq_of_mul_eq_mul_left this
    generalize gs i j k = s at *
    generalize gs i' j' k' = s' at *
    generalize pJ i j k = x at *
    generalize pJ i' j' k' = x' at *
    generalize pK i j k = z at *
    generalize pK i' j' k' = z' at *
    rw [a2, b2, a3, b3] at h2
    grind
/-- the sign of a number does not hang on how it is told -/
theorem sg_parts {d i j k : Int} (h : 0 < k) : sg d (pI i j k) (pJ i j k) = sg d i j := by
  have g := gs_ne (i := i) (j := j) (k := k) (by omega)
  have gp : 0 < gs i j k := by
    have := gc_pos (i := i) (j := j) (k := k) (by omega)
    unfold gs
    rw [if_neg (by omega)]
    exact this
  have e := sg_mul (d := d) (i := pI i j k) (j := pJ i j k) gp
  rw [← pI_eq (by omega), ← pJ_eq (by omega)] at e
  exact e.symm
end RF

namespace RF
open PySem L2 PyProof.Rows
/-! ### what a surd looks like -/
theorem kRP : ¬ (("_root" : Str) = "_parts") := by decide +kernel
def sfl (d : Int) (t : Addr) : List (Str × V) := putF "_parts" (.ref t) (putF "_root" (.int d) [])
theorem sfl_root (d : Int) (t : Addr) : (sfl d t).lookup ("_root" : Str) = some (.int d) := by
  unfold sfl
  rw [lookup_putF, if_neg kRP, lookup_putF, if_pos rfl]
theorem sfl_parts (d : Int) (t : Addr) : (sfl d t).lookup ("_parts" : Str) = some (.ref t) := by
  unfold sfl
  rw [lookup_putF, if_pos rfl]
theorem sfl_no (d : Int) (t : Addr) {m : Str} (h1 : ¬ m = "_parts") (h2 : ¬ m = "_root") : (sfl d t).lookup m = none := by
  unfold sfl
  rw [lookup_putF, if_neg h1, lookup_putF, if_neg h2]
  all_goals rfl
/-- at p: the surd of the root d with the parts i, j, k -/
def SurdAt (H : Hp) (C p : Addr) (d i j k : Int) : Prop := ∃ dx t, H p = some (.ins C dx (sfl d t)) ∧ H t = some (.tup [.int i, .int j, .int k])
theorem SurdAt.same {H H' : Hp} {C p : Addr} {d i j k : Int} (s : Same H H') (h : SurdAt H C p d i j k) : SurdAt H' C p d i j k := by
  obtain ⟨dx, t, h1, h2⟩ := h
  exact ⟨dx, t, s _ _ h1, s _ _ h2⟩
/-- below two to the n -/
def Bd (n : Nat) (i : Int) : Prop := i.natAbs < 2 ^ n
theorem Bd.mono {n m : Nat} {i : Int} (h : Bd n i) (hn : n ≤ m) : Bd m i := Nat.lt_of_lt_of_le h (Nat.pow_le_pow_right (by decide) hn)
theorem Bd.mul {n m : Nat} {i j : Int} (a : Bd n i) (b : Bd m j) : Bd (n + m) (i * j) := wide_lt a b
theorem Bd.add {n : Nat} {i j : Int} (a : Bd n i) (b : Bd n j) : Bd (n + 1) (i + j) := by
  unfold Bd at *
  rw [Nat.pow_succ]
  omega
theorem Bd.neg {n : Nat} {i : Int} (a : Bd n i) : Bd n (-i) := by
  unfold Bd at *
  omega
theorem Bd.le {n : Nat} {i j : Int} (a : Bd n i) (h : j.natAbs ≤ i.natAbs) : Bd n j := Nat.lt_of_le_of_lt h a
theorem Bd.ab {n : Nat} {i : Int} (a : Bd n i) : Bd n (if i < 0 then -i else i) := by
  unfold Bd at *
  split <;> omega
theorem Bd.log {n : Nat} {i : Int} (a : Bd n i) (h : 0 < n) : i.natAbs.log2 < n := PySem.Flt.log2_lt_of h a
theorem mulOk {n m : Nat} {i j : Int} (a : Bd n i) (b : Bd m j) (h0 : 0 < n) (h1 : 0 < m) (h : n + m ≤ 1000000) : CMulW i j := wide_mul a b h0 h1 h
theorem rootBd {d : Int} (h : Root d) : Bd 4 d := by
  unfold Bd
  unfold Root at h
  omega
/-- // by any great divisor but 0 -/
def CDivNW (_ j : Int) : Prop := j ≠ 0 ∧ j.natAbs.log2 < 9000
theorem op_fdivNW {X : Cx} : OpR X (binaryOp .FloorDiv) (rI CDivNW fun i j => .int (i.fdiv j)) := opI fun _ _ _ _ _ _ _ hc q => floordiv_int hc.1 q (.inl (PyProof.noPylong_of_log2 hc.2))

/-! ### a written dict with int keys -/
def okE : List DictEntry → List Int → Bool
  | [], [] => true
  | e :: es, k :: ks => (match e.key with | .int i _ => i == k | _ => false) && e.hash == hashInt k && okE es ks
  | _, _ => false
structure IntKeys (K : PySem.W.Frag) (d : Addr) (ks : List Int) : Prop where
  low : (d == sysModules) = false
  ex : ∃ es n, K.lookup d = some ⟨.type "dict", none, .dict es n, #[]⟩ ∧ okE es.toList ks = true
theorem okE_mem : ∀ {es : List DictEntry} {ks : List Int}, okE es ks = true → ∀ e ∈ es, ∃ k t, k ∈ ks ∧ e.key = .int k t ∧ e.hash = hashInt k
  | [], _, _, e, he => by cases he
  | c :: es, [], h, e, he => by simp [okE] at h
  | c :: es, k :: ks, h, e, he => by
    unfold okE at h
    simp only [Bool.and_eq_true, beq_iff_eq] at h
    obtain ⟨⟨h1, h2⟩, h3⟩ := h
    rcases List.mem_cons.mp he with rfl | he
    · split at h1
      · rename_i i t q
        exact ⟨k, t, List.mem_cons_self, by rw [q, beq_iff_eq.mp h1], h2⟩
      · cases h1
    · obtain ⟨k', t, a, b, c⟩ := okE_mem h3 e he
      exact ⟨k', t, List.mem_cons_of_mem _ a, b, c⟩
theorem okE_find : ∀ {es : List DictEntry} {ks : List Int} (i : Int), okE es ks = true → (es.find? fun e => Value.isInt i e.key).isSome = decide (i ∈ ks)
  | [], [], i, _ => by simp
  | [], k :: ks, i, h => by simp [okE] at h
  | c :: es, [], i, h => by simp [okE] at h
  | c :: es, k :: ks, i, h => by
    unfold okE at h
    simp only [Bool.and_eq_true, beq_iff_eq] at h
    obtain ⟨⟨h1, h2⟩, h3⟩ := h
    have ih := okE_find i h3
    split at h1
    · rename_i j t q
      have e : j = k := beq_iff_eq.mp h1
      rw [List.find?_cons]
      by_cases z : i = k
      · have : Value.isInt i c.key = true := by rw [q, e, z]; simp [Value.isInt]
        rw [this]
        simp [z]
      · have : Value.isInt i c.key = false := by
          rw [q, e]
          simp only [Value.isInt]
          exact beq_eq_false_iff_ne.mpr (fun w => z w.symm) |> fun h => by first | exact h | (rw [beq_eq_false_iff_ne]; exact z) | simpa using z
        rw [this]
        simp [ih, z]
    · cases h1
theorem op_in_intd {X : Cx} : OpR X (compareOp .In) (fun x y H Q => ∃ i d ks, x = .int i ∧ y = .ref d ∧ IntKeys X.K d ks ∧ Q (.bl (decide (i ∈ ks))) H) := by
  intro pins s σ H x y v u Q I rx ry h
  obtain ⟨i, d, ks, rfl, rfl, ⟨low, es, n, hl, he⟩, q⟩ := h
  obtain ⟨t, rfl⟩ := rx
  cases ry
  have hm : s.heap.MapOf (intKind X.prog X.w) d (fun k => findBy Value.isInt es k) := ⟨_, es, n, I.kIn _ _ hl, ⟨rfl, rfl, rfl⟩, rfl, fun e hh => by
    obtain ⟨k, t, _, e1, e2⟩ := okE_mem he e (Array.mem_toList_iff.mpr hh)
    exact ⟨k, by rw [e1]; show Value.isInt k (.int k t) = true; simp [Value.isInt], e2⟩, fun _ => rfl⟩
  refine wpAny_in_of (knd := intKind X.prog X.w) (k := i) (by show Value.isInt i (.int i t) = true; simp [Value.isInt]) low hm ?_
  have e : (findBy Value.isInt es i).isSome = decide (i ∈ ks) := by
    unfold findBy
    rw [Option.isSome_map, ← okE_find i he, ← List.find?_toArray]
  rw [e]
  exact ⟨.bl _, H, I.tok _, rfl, q⟩
end RF

namespace RF
open PySem L2
def top (i : Nat) : Stmt := PySem.Challenge.pw_rootfloor_k07_whole_each_number_has_one.main.body.getD i (.Pass ⟨0, 0, 0, 0⟩)
abbrev sBag : Stmt := top 20
abbrev sPull : Stmt := top 21
structure TB (mg : Str → Option Value) : Prop where
  list : mg "list" = none
  len : mg "len" = none
  abs : mg "abs" = none
  int : mg "int" = none
section
variable {P : Program} {w : World} {K : PySem.W.Frag} {mg : Str → Option Value} {base : Heap}
theorem scBag : FnScope ["_law_script"] ["_law_script"] (defScope sBag) := ⟨rfl, rfl, rfl, by decide +kernel, rfl, by decide +kernel, by decide +kernel⟩
theorem ok_bag {f : Addr} {fd : FuncData} (F : Fun K "_law_bag" "_law_bag" sBag f fd) (T : TB mg) : FnOk P w K mg base CX0 1 f fd ["_law_script"] (spBag K) := by
  refine F.ok scBag (fun vs H Q E h => ?_) (fun cdv A outer s H vs Q E hr h => ?_)
  · obtain ⟨a, ns, rfl, _⟩ := h
    rfl
  · obtain ⟨a, ns, rfl, hS, hl, k⟩ := h
    refine ⟨_, pss_one (ps_ret (pe_lst (pa_cons (pe_callTy call_list_of (by rfl) T.list (by decide +kernel) (pa_cons (pe_slice sl_list (pv 0) po_none (po_some pe_int)) pa_nil)) (pa_cons pe_int (pa_cons pe_int (pa_cons pe_int pa_nil)))))), ?_⟩
    refine ⟨_, rfl, _, rfl, a, _, rfl, hS, fun p hp => ⟨p, _, rfl, .inl (SqL.of upd_same), fun l hl2 => ⟨by show 4 ≤ sizeLine; decide, fun q hq => ?_⟩⟩⟩
    obtain ⟨ms, e⟩ : ∃ ms : List Int, cutV (ns.map V.int) none (some 63) = ms.map V.int := ⟨_, by unfold cutV; rw [← List.map_drop, ← List.map_take]⟩
    have sm := sNew (o := .lst [.ref l, .int 0, .int 0, .int 3842]) (sNew (o := .lst (cutV (ns.map V.int) none (some 63))) (sNew (o := .lst (cutV (ns.map V.int) none (some 63))) (Same.refl H) hp) hl2) hq
    refine k q _ (of_new (of_new hq)) ⟨l, ms, 0, 0, 3842, ne_new hq, upd_same, ?_, Nat.zero_le _, Int.le_refl _, by decide, by decide⟩ sm
    rw [upd_ne (Ne.symm (ne_new hq)), upd_same, e]
abbrev nPull : List Str := ["_law_bag_here", "_law_sides", "_law_cell", "_law_digit", "_law_twice"]
theorem scPull : FnScope nPull ["_law_bag_here", "_law_sides"] (defScope sPull) := ⟨rfl, rfl, rfl, by decide +kernel, rfl, by decide +kernel, by decide +kernel⟩
theorem ok_pull {f : Addr} {fd : FuncData} (F : Fun K "_law_pull" "_law_pull" sPull f fd) (T : TB mg) : FnOk P w K mg base CX0 1 f fd ["_law_bag_here", "_law_sides"] spPull := by
  refine F.ok scPull (fun vs H Q E h => ?_) (fun cdv A outer s H vs Q E hr h => ?_)
  · obtain ⟨b, k, rfl, _⟩ := h
    rfl
  · obtain ⟨b, m, rfl, ⟨c, ns, i, z, r, B⟩, m0, m1, k⟩ := h
    have nd := scPull.nd
    -- the second half, from any bag
    refine ⟨_, C8.pss_cut (ps_if (pw_and (pt_cmpR op_eq (pe_ix ix_list (pv 0) pe_int (fun _ _ => rfl)) pe_int (nomark _)) (pw_and1 (pt_cmpR op_lt (pe_ix ix_list (pv 0) pe_int (fun _ _ => rfl)) (pe_callB call_len_seq (by rfl) T.len PySem.boot_len (pa_cons (pe_ix ix_list (pv 0) pe_int (fun _ _ => rfl)) pa_nil)) (nomark _)))).pt
        (pss_cons (ps_set (i := 2) nd rfl (Or.inl rfl) (pe_ix ix_list (pe_ix ix_list (pv 0) pe_int (fun _ _ => rfl)) (pe_ix ix_list (pv 0) pe_int (fun _ _ => rfl)) (fun _ _ => rfl)))
        (pss_cons (ps_asg (pe_op op_add (pe_ix ix_list (pv 0) pe_int (fun _ _ => rfl)) pe_int) (pg_sub (pv 0) pe_int set_list))
        (pss_one (ps_if (pt_cmpR op_ge (pe_callB call_abs (by rfl) T.abs (by decide +kernel) (pa_cons (pv 2) pa_nil)) (pe_op op_pow pe_int pe_int) (nomark _))
          (pss_one (ps_asg (pe_callB call_abs (by rfl) T.abs (by decide +kernel) (pa_cons (pv 2) pa_nil)) (pg_sub (pv 0) pe_int set_list)))
          (pss_one (ps_asg (pe_op op_mod (pe_callTy call_int1 (by rfl) T.int (by decide +kernel) (pa_cons (pe_op op_add (pe_op op_add (pe_op op_mul (pe_ix ix_list (pv 0) pe_int (fun _ _ => rfl)) pe_int) (pe_op op_mul (pe_op op_mod (pe_callTy call_int1 (by rfl) T.int (by decide +kernel) (pa_cons (pv 2) pa_nil)) pe_int) pe_int)) pe_int) pa_nil)) pe_int) (pg_sub (pv 0) pe_int set_list)))))))
        pss_nil)
      (C8.pss_cut (ps_if (pt_cmpR op_gt (pe_ix ix_list (pv 0) pe_int (fun _ _ => rfl)) pe_int (nomark _))
        (pss_cons (ps_set (i := 3) nd rfl (Or.inl rfl) (pe_op op_mod (pe_callTy call_int1 (by rfl) T.int (by decide +kernel) (pa_cons (pe_ix ix_list (pv 0) pe_int (fun _ _ => rfl)) pa_nil)) (pv 1)))
        (pss_cons (ps_asg (pe_op op_fdiv (pe_ix ix_list (pv 0) pe_int (fun _ _ => rfl)) (pv 1)) (pg_sub (pv 0) pe_int set_list))
        (pss_one (ps_ret (pv 3)))))
        pss_nil)
      (pss_cons (ps_set (i := 4) nd rfl (Or.inl rfl) (pe_op op_mod (pe_callTy call_int1 (by rfl) T.int (by decide +kernel) (pa_cons (pe_op op_mul (pe_ix ix_list (pv 0) pe_int (fun _ _ => rfl)) (pe_ix ix_list (pv 0) pe_int (fun _ _ => rfl))) pa_nil)) pe_int))
      (pss_cons (ps_asg (pe_op op_mod (pe_callTy call_int1 (by rfl) T.int (by decide +kernel) (pa_cons (pe_op op_add (pe_op op_add (pe_op op_mul (pv 4) pe_int) (pe_op op_mul (pe_ix ix_list (pv 0) pe_int (fun _ _ => rfl)) pe_int)) pe_int) pa_nil)) pe_int) (pg_sub (pv 0) pe_int set_list))
      (pss_one (ps_ret (pe_op op_mod (pe_callTy call_int1 (by rfl) T.int (by decide +kernel) (pa_cons (pe_op op_fdiv (pe_ix ix_list (pv 0) pe_int (fun _ _ => rfl)) pe_int) pa_nil)) (pv 1))))))), ?_⟩
    have hc : ∀ {H' : Hp} {i : Nat} {z r : Int}, BagC H' b c ns i z r → H' c = some (.lst (ns.map V.int)) := fun B => B.cs
    -- what follows the first if, from any bag
    refine ⟨fun σ' H' => ∃ v i z r, σ' = [some (.ref b), some (.int m), v, none, none] ∧ BagC H' b c ns i z r ∧ Kp b H H', ?_, ?_⟩
    · refine ⟨_, rfl, b, _, _, _, rfl, rfl, SqL.of B.at_, rfl, rfl, _, rfl, ?_⟩
      refine ite2 (fun ez => ?_) (fun _ => ?_)
      · refine ⟨_, rfl, b, _, _, _, rfl, rfl, SqL.of B.at_, rfl, _, rfl, b, _, _, _, rfl, rfl, SqL.of B.at_, rfl, c, _, rfl, .inl (SqL.of B.cs), _, _, rfl, rfl, _, rfl, ?_⟩
        refine ite2 (fun hl => ?_) (fun _ => ⟨_, _, _, _, rfl, B, Kp.refl _ _⟩)
        have hl' : i < ns.length := by
          have := of_decide_eq_true hl
          rw [List.length_map] at this
          omega
        obtain ⟨n, hn⟩ : ∃ n, ns[i]? = some n := ⟨_, List.getElem?_eq_getElem hl'⟩
        have hat : atI (ns.map V.int) (i : Int) = some (V.int n) := atI_nat (by rw [List.getElem?_map, hn]; rfl)
        refine ⟨_, rfl, b, _, _, _, rfl, rfl, SqL.of B.at_, rfl, _, rfl, b, _, _, _, rfl, rfl, SqL.of B.at_, rfl, c, _, _, _, rfl, rfl, SqL.of B.cs, hat, ?_⟩
        refine ⟨_, rfl, b, _, _, _, rfl, rfl, SqL.of B.at_, rfl, _, _, rfl, rfl, _, rfl, b, _, _, _, rfl, rfl, B.at_, rfl, ?_⟩
        have B1 := B.put (i' := i + 1) (z' := z) (r' := r) (o := .lst [.ref c, .int ((i : Int) + 1), .int z, .int r]) (by rw [Int.natCast_add]; rfl) hl' B.z0 B.r0 B.r1
        have k1 : Kp b H (upd H b (.lst [.ref c, .int ((i : Int) + 1), .int z, .int r])) := Kp.upd
        refine ⟨_, rfl, _, rfl, _, _, rfl, rfl, ⟨by decide, by decide, by decide⟩, _, _, rfl, rfl, _, rfl, ?_⟩
        refine ite2 (fun _ => ?_) (fun _ => ?_)
        · refine ⟨_, rfl, _, rfl, _, rfl, b, _, _, _, rfl, rfl, upd_same, rfl, ?_⟩
          exact ⟨_, _, _, _, rfl, B1.put rfl B1.le (by split <;> omega) B1.r0 B1.r1, k1.trans Kp.upd⟩
        · refine ⟨_, rfl, b, _, _, _, rfl, rfl, SqL.of B1.at_, rfl, _, _, rfl, rfl, .inr (by decide), _, rfl, .inl ⟨_, rfl, _, _, rfl, rfl, (by show (0 : Int) < 1000003; decide), _, _, rfl, rfl, .inr (by decide), _, _, rfl, rfl, _, _, rfl, rfl, .inl ⟨_, rfl, _, _, rfl, rfl, (by show (0 : Int) < 2147483647; decide), _, rfl, b, _, _, _, rfl, rfl, upd_same, rfl, ?_⟩⟩⟩
          exact ⟨_, _, _, _, rfl, B1.put rfl B1.le B1.z0 (emod_lo _ (by decide)) (emod_hi _ (by decide)), k1.trans Kp.upd⟩
      · exact ⟨_, _, _, _, rfl, B, Kp.refl _ _⟩
    · rintro σ' H1 ⟨v, i, z, r, rfl, B, kp⟩
      -- if bag[2] > 0
      refine ⟨fun σ' H' => σ' = [some (.ref b), some (.int m), v, none, none] ∧ H' = H1, ?_, ?_⟩
      · refine ⟨_, rfl, b, _, _, _, rfl, rfl, SqL.of B.at_, rfl, _, _, rfl, rfl, _, rfl, ?_⟩
        refine ite2 (fun hz => ?_) (fun _ => ⟨rfl, rfl⟩)
        refine ⟨_, rfl, b, _, _, _, rfl, rfl, SqL.of B.at_, rfl, .inl ⟨_, rfl, _, rfl, _, _, rfl, rfl, m0, ?_⟩⟩
        refine ⟨_, rfl, b, _, _, _, rfl, rfl, SqL.of B.at_, rfl, _, rfl, _, _, rfl, rfl, ⟨m0, m1⟩, _, rfl, b, _, _, _, rfl, rfl, B.at_, rfl, ?_⟩
        refine ⟨_, rfl, ?_⟩
        exact k _ _ (emod_lo _ m0) (emod_hi _ m0) ⟨c, ns, _, _, _, B.put rfl B.le (Int.ediv_nonneg B.z0 (Int.le_of_lt m0)) B.r0 B.r1⟩ (kp.trans Kp.upd)
      · rintro σ' H2 ⟨rfl, rfl⟩
        refine ⟨_, rfl, b, _, _, _, rfl, rfl, SqL.of B.at_, rfl, _, rfl, b, _, _, _, rfl, rfl, SqL.of B.at_, rfl, _, _, rfl, rfl, .inl ⟨by have := B.r0; omega, by have := B.r1; omega⟩, .inl ⟨_, rfl, _, _, rfl, rfl, (by show (0 : Int) < 2147483629; decide), ?_⟩⟩
        refine ⟨_, rfl, _, _, rfl, rfl, .inr (by decide), _, rfl, b, _, _, _, rfl, rfl, SqL.of B.at_, rfl, _, _, rfl, rfl, .inr (by decide), _, _, rfl, rfl, _, _, rfl, rfl, .inl ⟨_, rfl, _, _, rfl, rfl, (by show (0 : Int) < 2147483647; decide), _, rfl, b, _, _, _, rfl, rfl, B.at_, rfl, ?_⟩⟩
        refine ⟨_, rfl, b, _, _, _, rfl, rfl, SqL.of upd_same, rfl, _, _, rfl, rfl, ⟨by decide, by decide⟩, .inl ⟨_, rfl, _, rfl, _, _, rfl, rfl, m0, ?_⟩⟩
        exact k _ _ (emod_lo _ m0) (emod_hi _ m0) ⟨c, ns, _, _, _, B.put rfl B.le B.z0 (emod_lo _ (by decide)) (emod_hi _ (by decide))⟩ (kp.trans Kp.upd)
end
end RF

namespace RF
open PySem L2 PyProof.Rows
def whole : D → Bool
  | .int _ => true
  | _ => false
def btw (d : D) (lo hi : Int) : Bool := match d with
  | .int i => decide (lo ≤ i) && decide (i ≤ hi)
  | _ => false
def rootD : D → Bool
  | .int i => decide (i ∈ [2, 3, 5, 6, 13])
  | _ => false
def spWhole (K : PySem.W.Frag) : Sp := fun vs H Q _ => ∃ (v : V) (d : D), vs = [v] ∧ Rp K H v d ∧ Q (.bl (whole d)) H
def spBtw (K : PySem.W.Frag) : Sp := fun vs H Q _ => ∃ (v : V) (d : D) (lo hi : Int), vs = [v, .int lo, .int hi] ∧ Rp K H v d ∧ Q (.bl (btw d lo hi)) H
def spIsRoot (K : PySem.W.Frag) : Sp := fun vs H Q _ => ∃ (v : V) (d : D), vs = [v] ∧ Rp K H v d ∧ Q (.bl (rootD d)) H
section
variable {P : Program} {w : World} {K : PySem.W.Frag} {mg : Str → Option Value} {base : Heap}
abbrev s_is_whole : Stmt := top 8
abbrev n_is_whole : List Str := ["value"]
theorem sc_is_whole : FnScope n_is_whole ["value"] (defScope s_is_whole) := ⟨rfl, rfl, rfl, by decide +kernel, rfl, by decide +kernel, by decide +kernel⟩
theorem ok_whole {f : Addr} {fd : FuncData} {k : Nat} (F : Fun K "is_whole" "is_whole" s_is_whole f fd) (T1 : mg "isinstance" = none) (T2 : mg "int" = none) (T3 : mg "bool" = none) : FnOk P w K mg base CX0 (k + 1) f fd ["value"] (spWhole K) := by
  refine F.ok sc_is_whole (fun vs H Q E h => ?_) (fun cdv A outer s H vs Q E hr h => ?_)
  · obtain ⟨v, d, rfl, _⟩ := h
    rfl
  · obtain ⟨v, d, rfl, hv, q⟩ := h
    refine ⟨_, (pss_one (ps_ret (pe_and (pe_callB call_isi (by rfl) T1 (by decide +kernel) (pa_cons (pv 0) (pa_cons (pe_bltn (v := .ty "int") (by rfl) T2 (by decide +kernel) rfl) pa_nil))) (pe_one (pe_not (pe_callB call_isi (by rfl) T1 (by decide +kernel) (pa_cons (pv 0) (pa_cons (pe_bltn (v := .ty "bool") (by rfl) T3 (by decide +kernel) rfl) pa_nil)))))))), ?_⟩
    refine ⟨_, rfl, _, _, _, _, _, rfl, .ty _, tyX _ hv, kit_ty (kit_int _), _, rfl, ?_⟩
    by_cases hi : isInt d = true
    · refine iteP hi ⟨_, rfl, _, _, _, _, _, rfl, .ty _, tyX _ hv, kit_ty (kit_bool _), _, rfl, ?_⟩
      have e : (!isBool d) = whole d := by cases d <;> first | rfl | cases hi
      rw [e]
      exact q
    · refine iteN hi ?_
      have e : whole d = false := by cases d <;> first | rfl | exact absurd rfl hi
      rw [e] at q
      exact q
abbrev s_is_between : Stmt := top 9
abbrev n_is_between : List Str := ["value", "low", "high"]
theorem sc_is_between : FnScope n_is_between ["value", "low", "high"] (defScope s_is_between) := ⟨rfl, rfl, rfl, by decide +kernel, rfl, by decide +kernel, by decide +kernel⟩
theorem ok_btw {f : Addr} {fd : FuncData} {k : Nat} (F : Fun K "is_between" "is_between" s_is_between f fd) (D1 : Df P w K mg base k "is_whole" ["value"] (spWhole K)) : FnOk P w K mg base CX0 (k + 1) f fd ["value", "low", "high"] (spBtw K) := by
  refine F.ok sc_is_between (fun vs H Q E h => ?_) (fun cdv A outer s H vs Q E hr h => ?_)
  · obtain ⟨v, d, lo, hi, rfl, _⟩ := h
    rfl
  · obtain ⟨v, d, lo, hi, rfl, hv, q⟩ := h
    refine ⟨_, (pss_one (ps_ret (pe_and (pe_callD D1 hr (Nat.le_refl _) (pa_cons (pv 0) pa_nil)) (pe_one (pe_chain op_le op_le (pv 1) (pv 0) (pv 2)))))), ?_⟩
    refine ⟨_, rfl, v, d, rfl, hv, _, rfl, ?_⟩
    by_cases hi' : whole d = true
    · refine iteP hi' ?_
      cases d with
      | int i =>
        obtain rfl : v = .int i := hv
        refine ⟨_, rfl, _, rfl, _, _, rfl, rfl, _, rfl, ?_⟩
        by_cases h1 : lo ≤ i
        · refine iteP (decide_eq_true h1) ⟨_, rfl, _, _, rfl, rfl, ?_⟩
          have e : btw (.int i) lo hi = decide (i ≤ hi) := by show (decide (lo ≤ i) && decide (i ≤ hi)) = _; rw [decide_eq_true h1]; rfl
          rw [e] at q
          exact q
        · refine iteN (nd_of h1) ?_
          have e : btw (.int i) lo hi = false := by show (decide (lo ≤ i) && decide (i ≤ hi)) = _; rw [decide_eq_false h1]; rfl
          rw [e] at q
          exact q
      | _ => cases hi'
    · refine iteN hi' ?_
      have e : btw d lo hi = false := by cases d <;> first | rfl | exact absurd rfl hi'
      rw [e] at q
      exact q
abbrev s_is_root : Stmt := top 11
abbrev n_is_root : List Str := ["value"]
theorem sc_is_root : FnScope n_is_root ["value"] (defScope s_is_root) := ⟨rfl, rfl, rfl, by decide +kernel, rfl, by decide +kernel, by decide +kernel⟩
theorem ok_isroot {f : Addr} {fd : FuncData} {k : Nat} {pd : Addr} (F : Fun K "is_root" "is_root" s_is_root f fd) (D1 : Df P w K mg base k "is_whole" ["value"] (spWhole K)) (mP : mg "PERIODS" = some (.ref pd)) (kP : IntKeys K pd [2, 3, 5, 6, 13]) :
    FnOk P w K mg base CX0 (k + 1) f fd ["value"] (spIsRoot K) := by
  refine F.ok sc_is_root (fun vs H Q E h => ?_) (fun cdv A outer s H vs Q E hr h => ?_)
  · obtain ⟨v, d, rfl, _⟩ := h
    rfl
  · obtain ⟨v, d, rfl, hv, q⟩ := h
    refine ⟨_, (pss_one (ps_ret (pe_and (pe_callD D1 hr (Nat.le_refl _) (pa_cons (pv 0) pa_nil)) (pe_one (pe_cmpR op_in_intd (pv 0) (pe_glob (v := .ref pd) (by rfl) mP rfl) rfl))))), ?_⟩
    refine ⟨_, rfl, v, d, rfl, hv, _, rfl, ?_⟩
    by_cases hi' : whole d = true
    · refine iteP hi' ?_
      cases d with
      | int i =>
        obtain rfl : v = .int i := hv
        exact ⟨_, rfl, _, _, _, rfl, rfl, kP, q⟩
      | _ => cases hi'
    · refine iteN hi' ?_
      have e : rootD d = false := by cases d <;> first | rfl | exact absurd rfl hi'
      rw [e] at q
      exact q
end
end RF

namespace RF
open PySem L2
section
variable {P : Program} {w : World} {K : PySem.W.Frag} {mg : Str → Option Value} {base : Heap}
abbrev s_law_of : Stmt := top 22
abbrev n_law_of : List Str := ["_law_bag_here", "_law_some"]
theorem sc_law_of : FnScope n_law_of ["_law_bag_here", "_law_some"] (defScope s_law_of) := ⟨rfl, rfl, rfl, by decide +kernel, rfl, by decide +kernel, by decide +kernel⟩
theorem ok_of {f : Addr} {fd : FuncData} {k : Nat} (F : Fun K "_law_of" "_law_of" s_law_of f fd) (T : TB mg) (D1 : Df P w K mg base k "_law_pull" ["_law_bag_here", "_law_sides"] spPull) : FnOk P w K mg base CX0 (k + 1) f fd ["_law_bag_here", "_law_some"] (spOf K) := by
  refine F.ok sc_law_of (fun vs H Q E h => ?_) (fun cdv A outer s H vs Q E hr h => ?_)
  · obtain ⟨b, a, xs, rfl, _⟩ := h
    rfl
  · obtain ⟨b, a, xs, rfl, B, hS, nab, h0, h1, k⟩ := h
    refine ⟨_, (pss_one (ps_ret (pe_ix ix_list (pv 1) (pe_callD D1 hr (Nat.le_refl _) (pa_cons (pv 0) (pa_cons (pe_callB call_len_seq (by rfl) T.len PySem.boot_len (pa_cons (pv 1) pa_nil)) pa_nil))) (fun _ _ => rfl)))), ?_⟩
    refine ⟨_, rfl, _, rfl, _, rfl, a, _, rfl, .inl hS, b, _, rfl, B, by omega, by omega, fun d H' d0 d1 B' kp => ?_⟩
    obtain ⟨j, rfl⟩ : ∃ j : Nat, d = (j : Int) := ⟨d.toNat, by omega⟩
    have hj : j < xs.length := by omega
    exact ⟨a, xs, _, _, rfl, rfl, kp.seq nab hS, atI_nat (List.getElem?_eq_getElem hj), k _ _ (List.getElem_mem hj) B' kp⟩
abbrev s_law_root : Stmt := top 27
abbrev n_law_root : List Str := ["_law_bag_here"]
theorem sc_law_root : FnScope n_law_root ["_law_bag_here"] (defScope s_law_root) := ⟨rfl, rfl, rfl, by decide +kernel, rfl, by decide +kernel, by decide +kernel⟩
theorem ok_root {f : Addr} {fd : FuncData} {k : Nat} (F : Fun K "_law_root" "_law_root" s_law_root f fd) (D1 : Df P w K mg base k "_law_of" ["_law_bag_here", "_law_some"] (spOf K)) : FnOk P w K mg base CX0 (k + 1) f fd ["_law_bag_here"] spRoot := by
  refine F.ok sc_law_root (fun vs H Q E h => ?_) (fun cdv A outer s H vs Q E hr h => ?_)
  · obtain ⟨b, rfl, _⟩ := h
    rfl
  · obtain ⟨b, rfl, B, k⟩ := h
    refine ⟨_, (pss_one (ps_ret (pe_callD D1 hr (Nat.le_refl _) (pa_cons (pv 0) (pa_cons (pe_lst (pa_cons pe_int (pa_cons pe_int (pa_cons pe_int (pa_cons pe_int (pa_cons pe_int pa_nil)))))) pa_nil))))), ?_⟩
    refine ⟨_, rfl, by show 5 ≤ sizeLine; decide, fun p hp => ?_⟩
    obtain ⟨xs, hb⟩ := B.some
    refine ⟨b, p, _, rfl, B.same (sNew (Same.refl _) hp), SqL.of upd_same, (ne_of_none hb hp).symm, by decide, by decide, fun v H' hv B' kp => ?_⟩
    have kp' : Kp b H H' := (Kp.of (sNew (Same.refl _) hp)).trans kp
    rcases List.mem_cons.mp hv with rfl | hv
    · exact k _ _ (by decide) B' kp'
    rcases List.mem_cons.mp hv with rfl | hv
    · exact k _ _ (by decide) B' kp'
    rcases List.mem_cons.mp hv with rfl | hv
    · exact k _ _ (by decide) B' kp'
    rcases List.mem_cons.mp hv with rfl | hv
    · exact k _ _ (by decide) B' kp'
    rcases List.mem_cons.mp hv with rfl | hv
    · exact k _ _ (by decide) B' kp'
    cases hv
abbrev n_law_far : List Str := ["_law_bag_here", "_law_figures", "_law_many", "_law_found", "_law_k"]
end
end RF

namespace RF
open PySem L2
section
variable {P : Program} {w : World} {K : PySem.W.Frag} {mg : Str → Option Value} {base : Heap}
abbrev s_law_same : Stmt := top 23
abbrev n_law_same : List Str := ["_law_found", "_law_due", "_law_a", "_law_b"]
theorem sc_law_same : FnScope n_law_same ["_law_found", "_law_due"] (defScope s_law_same) := ⟨rfl, rfl, rfl, by decide +kernel, rfl, by decide +kernel, by decide +kernel⟩
theorem ok_same1 {f : Addr} {fd : FuncData} {k : Nat} {n : Nat} (F : Fun K "_law_same" "_law_same" s_law_same f fd) (T : TSm mg) (D1 : Df P w K mg base k "_law_same" ["_law_found", "_law_due"] (spSameL K n)) : FnOk P w K mg base CX0 (k + 1) f fd ["_law_found", "_law_due"] (spSame K n) := by
  refine F.ok sc_law_same (fun vs H Q E h => ?_) (fun cdv A outer s H vs Q E hr h => ?_)
  · obtain ⟨v, u, d, rfl, _⟩ := h
    rfl
  · obtain ⟨v, u, d, rfl, h1, h2, hd, k⟩ := h
    have nd := sc_law_same.nd
    refine ⟨_, (pss_cons (ps_if (pw_or (pt_cmpR op_isN (pv 1) pe_non (nomark _)) (pw_or1 (pt_cmpR op_isN (pv 0) pe_non (nomark _)))).pt
      (pss_one (ps_ret (pe_and (pe_cmpR op_isN (pv 1) pe_non (nomark _)) (pe_one (pe_cmpR op_isN (pv 0) pe_non (nomark _))))))
      pss_nil)
      (pss_cons (ps_if (pw_or (pt_val (pe_callB call_isi (by rfl) T.isinstance (by decide +kernel) (pa_cons (pv 1) (pa_cons (pe_bltn (v := .ty "bool") (by rfl) T.bool (by decide +kernel) rfl) pa_nil)))) (pw_or1 (pt_val (pe_callB call_isi (by rfl) T.isinstance (by decide +kernel) (pa_cons (pv 0) (pa_cons (pe_bltn (v := .ty "bool") (by rfl) T.bool (by decide +kernel) rfl) pa_nil)))))).pt
      (pss_one (ps_ret (pe_and (pe_callB call_isi (by rfl) T.isinstance (by decide +kernel) (pa_cons (pv 1) (pa_cons (pe_bltn (v := .ty "bool") (by rfl) T.bool (by decide +kernel) rfl) pa_nil))) (pe_and (pe_callB call_isi (by rfl) T.isinstance (by decide +kernel) (pa_cons (pv 0) (pa_cons (pe_bltn (v := .ty "bool") (by rfl) T.bool (by decide +kernel) rfl) pa_nil))) (pe_one (pe_cmpR op_eq (pv 0) (pv 1) (nomark _)))))))
      pss_nil)
      (pss_cons (ps_if (pw_or (pt_val (pe_callB call_isiT (by rfl) T.isinstance (by decide +kernel) (pa_cons (pv 1) (pa_cons (pe_tup (pa_cons (pe_bltn (v := .ty "list") (by rfl) T.list (by decide +kernel) rfl) (pa_cons (pe_bltn (v := .ty "tuple") (by rfl) T.tuple (by decide +kernel) rfl) pa_nil))) pa_nil)))) (pw_or1 (pt_val (pe_callB call_isiT (by rfl) T.isinstance (by decide +kernel) (pa_cons (pv 0) (pa_cons (pe_tup (pa_cons (pe_bltn (v := .ty "list") (by rfl) T.list (by decide +kernel) rfl) (pa_cons (pe_bltn (v := .ty "tuple") (by rfl) T.tuple (by decide +kernel) rfl) pa_nil))) pa_nil)))))).pt
      (pss_cons (ps_if (pw_or (pt_cmpR op_ne (pe_callB call_isi (by rfl) T.isinstance (by decide +kernel) (pa_cons (pv 1) (pa_cons (pe_bltn (v := .ty "list") (by rfl) T.list (by decide +kernel) rfl) pa_nil))) (pe_callB call_isi (by rfl) T.isinstance (by decide +kernel) (pa_cons (pv 0) (pa_cons (pe_bltn (v := .ty "list") (by rfl) T.list (by decide +kernel) rfl) pa_nil))) (nomark _)) (pw_or1 (pt_cmpR op_ne (pe_callB call_isi (by rfl) T.isinstance (by decide +kernel) (pa_cons (pv 1) (pa_cons (pe_bltn (v := .ty "tuple") (by rfl) T.tuple (by decide +kernel) rfl) pa_nil))) (pe_callB call_isi (by rfl) T.isinstance (by decide +kernel) (pa_cons (pv 0) (pa_cons (pe_bltn (v := .ty "tuple") (by rfl) T.tuple (by decide +kernel) rfl) pa_nil))) (nomark _)))).pt
        (pss_one (ps_ret pe_bl))
        pss_nil)
        (pss_one (ps_ret (pe_and (pe_cmpR op_eq (pe_callB call_len_seq (by rfl) T.len PySem.boot_len (pa_cons (pv 0) pa_nil)) (pe_callB call_len_seq (by rfl) T.len PySem.boot_len (pa_cons (pv 1) pa_nil)) (nomark _)) (pe_one (pe_callB (cr_all rfl) (by rfl) T.all (by decide +kernel) (pa_cons (pe_lc (own := [("_law_a", 2), ("_law_b", 3)]) (g := gTup K 2 (gCons (gName 2) (gCons (gName 3) gNil))) (tt := tYes) (by rfl) nd (RZ.pi_zipA (by rfl) T.zip (pa_cons (pv 0) (pa_cons (pv 1) pa_nil))) (blkOk_by (own := [("_law_a", 2), ("_law_b", 3)]) (N := n_law_same) (sc := defScope s_law_same) (by decide +kernel)) (fun _ _ _ _ _ => (pg_tup rfl (pgs_cons (pg_name (i := 2) nd rfl (Or.inl rfl)) (pgs_cons (pg_name (i := 3) nd rfl (Or.inl rfl)) pgs_nil)))) (fun _ _ _ _ _ => pts_nil) (fun _ _ _ _ _ => (pe_callD D1 hr (Nat.le_refl _) (pa_cons (pv 2) (pa_cons (pv 3) pa_nil))))) pa_nil)))))))
      pss_nil)
      (pss_cons (ps_if (pw_or (pt_cmpR op_ne (pe_callB call_isi (by rfl) T.isinstance (by decide +kernel) (pa_cons (pv 1) (pa_cons (pe_bltn (v := .ty "int") (by rfl) T.int (by decide +kernel) rfl) pa_nil))) (pe_callB call_isi (by rfl) T.isinstance (by decide +kernel) (pa_cons (pv 0) (pa_cons (pe_bltn (v := .ty "int") (by rfl) T.int (by decide +kernel) rfl) pa_nil))) (nomark _)) (pw_or1 (pt_cmpR op_ne (pe_callB call_isi (by rfl) T.isinstance (by decide +kernel) (pa_cons (pv 1) (pa_cons (pe_bltn (v := .ty "str") (by rfl) T.str (by decide +kernel) rfl) pa_nil))) (pe_callB call_isi (by rfl) T.isinstance (by decide +kernel) (pa_cons (pv 0) (pa_cons (pe_bltn (v := .ty "str") (by rfl) T.str (by decide +kernel) rfl) pa_nil))) (nomark _)))).pt
      (pss_one (ps_ret pe_bl))
      pss_nil)
      (pss_one (ps_ret (pe_cmpR op_eq (pv 0) (pv 1) (nomark _)))))))), ?_⟩
    by_cases en : d = .non
    · subst en
      obtain rfl : v = .non := h1
      obtain rfl : u = .non := h2
      refine ⟨_, rfl, rfl, _, rfl, iteP rfl (iteP rfl ?_)⟩
      exact ⟨_, rfl, rfl, _, rfl, iteP rfl ⟨_, rfl, rfl, k _ (Same.refl _)⟩⟩
    · have nv : ∀ x, Rp K H x d → ¬ x = V.non := fun x h z => by
        subst z
        cases d with
        | non => exact en rfl
        | bl _ => cases (show V.non = V.bl _ from h)
        | int _ => cases (show V.non = V.int _ from h)
        | str _ => cases (show V.non = V.str _ from h)
        | lst _ => obtain ⟨_, _, q, _⟩ := h; cases q
        | tup _ => obtain ⟨_, _, q, _⟩ := h; cases q
      refine ⟨_, rfl, rfl, _, rfl, iteN (nd_of (nv _ h2)) ⟨_, rfl, rfl, _, rfl, iteN (nd_of (nv _ h1)) ?_⟩⟩
      -- bool
      by_cases eb : isBool d = true
      · cases d with
        | bl b =>
          have g1 := h1
          have g2 := h2
          obtain rfl : v = .bl b := h1
          obtain rfl : u = .bl b := h2
          refine ⟨_, rfl, _, _, _, _, _, rfl, .ty _, tyX _ g2, kit_ty (kit_bool _), _, rfl, iteP rfl (iteP rfl ?_)⟩
          exact ⟨_, rfl, _, _, _, _, _, rfl, .ty _, tyX _ g2, kit_ty (kit_bool _), _, rfl, iteP rfl ⟨_, rfl, _, _, _, _, _, rfl, .ty _, tyX _ g1, kit_ty (kit_bool _), _, rfl, iteP rfl ⟨_, rfl, _, rfl, rfl, eqT (k _ (Same.refl _))⟩⟩⟩
        | non => cases eb
        | int _ => cases eb
        | str _ => cases eb
        | lst _ => cases eb
        | tup _ => cases eb
      · refine ⟨_, rfl, _, _, _, _, _, rfl, .ty _, tyX _ h2, kit_ty (kit_bool _), _, rfl, iteN eb ⟨_, rfl, _, _, _, _, _, rfl, .ty _, tyX _ h1, kit_ty (kit_bool _), _, rfl, iteN eb ?_⟩⟩
        -- lists and tuples
        refine ⟨_, rfl, (by show 2 ≤ sizeLine; decide), fun p hp => ?_⟩
        have s2 : Same H (upd H p (.tup [.ty "list", .ty "tuple"])) := sNew (Same.refl _) hp
        have j1 := Rp.same s2 _ h1
        have j2 := Rp.same s2 _ h2
        refine ⟨_, _, _, _, _, _, rfl, upd_same, .cons (.ty _) (.cons (.ty _) .nil), tyX _ j2, kit_lt _, _, rfl, ?_⟩
        by_cases et : (isLst d || isTup d) = true
        · refine iteP et (iteP rfl ?_)
          refine ⟨_, rfl, _, _, _, _, _, rfl, .ty _, tyX _ j2, kit_ty (kit_list _), _, rfl, _, _, _, _, _, rfl, .ty _, tyX _ j1, kit_ty (kit_list _), rfl, _, rfl, iteNS rfl ?_⟩
          refine ⟨_, rfl, _, _, _, _, _, rfl, .ty _, tyX _ j2, kit_ty (kit_tuple _), _, rfl, _, _, _, _, _, rfl, .ty _, tyX _ j1, kit_ty (kit_tuple _), rfl, _, rfl, iteNS rfl ?_⟩
          cases d with
          | lst ds =>
            obtain ⟨a, xs, rfl, S1, l1, r1⟩ := id h1
            obtain ⟨b, ys, rfl, S2, l2, r2⟩ := id h2
            have T1 := s2.seq S1
            have T2 := s2.seq S2
            have el : xs.length = ys.length := by rw [r1.len, r2.len]
            refine ⟨_, rfl, _, _, rfl, .inl T1, _, rfl, _, _, rfl, .inl T2, rfl, _, rfl, iteP (decide_eq_true (by rw [el])) ?_⟩
            refine ⟨_, rfl, _, rfl, a, b, xs, ys, rfl, .inl ⟨T1, T2, fun Dd hD => ?_⟩⟩
            cases n with
            | zero => exact absurd hd (by show ¬ (depL ds + 1 ≤ 0); omega)
            | succ n =>
              have nz : ∀ H', Same H H' → H' Dd = none → True := fun _ _ _ => trivial
              refine lc_it (walk_zip (n := xs.length) (by rw [el, Nat.min_self])) (fun i H' => (∃ acc : List Bool, H' Dd = some (.lst (acc.map V.bl)) ∧ acc.length = i ∧ acc.all id = true) ∧ Same (upd H p (.tup [.ty "list", .ty "tuple"])) H' ∧ i ≤ xs.length)
                ⟨⟨[], upd_same, rfl, rfl⟩, sNew (Same.refl _) hD, Nat.zero_le _⟩ (fun i H' _ z => ⟨(z.2.1).seq T1, (z.2.1).seq T2⟩) ?_ ?_
              · rintro i x H3 H4 hi ⟨⟨acc, e1, e2, e3⟩, sm, _⟩ ⟨Tt, x1, x2, rfl, nT, rfl, g1, g2⟩
                obtain ⟨d1, q1, p1⟩ := r1.at_ g1
                obtain ⟨d2, q2, p2⟩ := r2.at_ g2
                have ed : d1 = d2 := Option.some.inj (q1.symm.trans q2)
                subst ed
                have sm4 : Same H (upd H3 Tt (.tup [x1, x2])) := (s2.trans sm).trans (sNew (Same.refl _) nT)
                refine ⟨Tt, [x1, x2], rfl, SqT.of upd_same, rfl, _, _, rfl, _, _, rfl, rfl, rfl, ?_⟩
                refine yes_if ?_
                refine ⟨_, rfl, _, rfl, x1, x2, d1, rfl, Rp.same sm4 _ p1, Rp.same sm4 _ p2, ?_, fun H5 s5 => ?_⟩
                · have := dep_mem q1
                  have hd' : depL ds + 1 ≤ n + 1 := hd
                  omega
                · have eD : H5 Dd = some (.lst (acc.map V.bl)) := s5 _ _ (by rw [upd_ne (ne_of_none e1 nT)]; exact e1)
                  refine ⟨_, eD, by rw [List.length_map]; exact Nat.lt_of_lt_of_le (show acc.length < 100001 by omega) (by decide), ⟨⟨acc ++ [true], ?_, by rw [List.length_append, e2]; rfl, by rw [List.all_append, e3]; rfl⟩, fun c o e => ?_, hi⟩⟩
                  · rw [upd_same, List.map_append]; rfl
                  · have nc : c ≠ Dd := fun z => by rw [z, hD] at e; cases e
                    rw [upd_ne nc]
                    exact s5 _ _ (by rw [upd_ne (ne_of_none (sm _ _ e) nT)]; exact sm _ _ e)
              · rintro H3 ⟨⟨acc, e1, e2, e3⟩, sm, _⟩
                exact ⟨Dd, acc, rfl, SqL.of e1, by rw [e3]; exact k _ (s2.trans sm)⟩
          | tup ds =>
            obtain ⟨a, xs, rfl, S1, l1, r1⟩ := id h1
            obtain ⟨b, ys, rfl, S2, l2, r2⟩ := id h2
            have T1 := sameT s2 S1
            have T2 := sameT s2 S2
            have el : xs.length = ys.length := by rw [r1.len, r2.len]
            refine ⟨_, rfl, _, _, rfl, .inr T1, _, rfl, _, _, rfl, .inr T2, rfl, _, rfl, iteP (decide_eq_true (by rw [el])) ?_⟩
            refine ⟨_, rfl, _, rfl, a, b, xs, ys, rfl, .inr ⟨T1, T2, fun Dd hD => ?_⟩⟩
            cases n with
            | zero => exact absurd hd (by show ¬ (depL ds + 1 ≤ 0); omega)
            | succ n =>
              have nz : ∀ H', Same H H' → H' Dd = none → True := fun _ _ _ => trivial
              refine lc_it (walk_zipT (n := xs.length) (by rw [el, Nat.min_self])) (fun i H' => (∃ acc : List Bool, H' Dd = some (.lst (acc.map V.bl)) ∧ acc.length = i ∧ acc.all id = true) ∧ Same (upd H p (.tup [.ty "list", .ty "tuple"])) H' ∧ i ≤ xs.length)
                ⟨⟨[], upd_same, rfl, rfl⟩, sNew (Same.refl _) hD, Nat.zero_le _⟩ (fun i H' _ z => ⟨sameT (z.2.1) T1, sameT (z.2.1) T2⟩) ?_ ?_
              · rintro i x H3 H4 hi ⟨⟨acc, e1, e2, e3⟩, sm, _⟩ ⟨Tt, x1, x2, rfl, nT, rfl, g1, g2⟩
                obtain ⟨d1, q1, p1⟩ := r1.at_ g1
                obtain ⟨d2, q2, p2⟩ := r2.at_ g2
                have ed : d1 = d2 := Option.some.inj (q1.symm.trans q2)
                subst ed
                have sm4 : Same H (upd H3 Tt (.tup [x1, x2])) := (s2.trans sm).trans (sNew (Same.refl _) nT)
                refine ⟨Tt, [x1, x2], rfl, SqT.of upd_same, rfl, _, _, rfl, _, _, rfl, rfl, rfl, ?_⟩
                refine yes_if ?_
                refine ⟨_, rfl, _, rfl, x1, x2, d1, rfl, Rp.same sm4 _ p1, Rp.same sm4 _ p2, ?_, fun H5 s5 => ?_⟩
                · have := dep_mem q1
                  have hd' : depL ds + 1 ≤ n + 1 := hd
                  omega
                · have eD : H5 Dd = some (.lst (acc.map V.bl)) := s5 _ _ (by rw [upd_ne (ne_of_none e1 nT)]; exact e1)
                  refine ⟨_, eD, by rw [List.length_map]; exact Nat.lt_of_lt_of_le (show acc.length < 100001 by omega) (by decide), ⟨⟨acc ++ [true], ?_, by rw [List.length_append, e2]; rfl, by rw [List.all_append, e3]; rfl⟩, fun c o e => ?_, hi⟩⟩
                  · rw [upd_same, List.map_append]; rfl
                  · have nc : c ≠ Dd := fun z => by rw [z, hD] at e; cases e
                    rw [upd_ne nc]
                    exact s5 _ _ (by rw [upd_ne (ne_of_none (sm _ _ e) nT)]; exact sm _ _ e)
              · rintro H3 ⟨⟨acc, e1, e2, e3⟩, sm, _⟩
                exact ⟨Dd, acc, rfl, SqL.of e1, by rw [e3]; exact k _ (s2.trans sm)⟩
          | non => cases et
          | bl _ => cases et
          | int _ => cases et
          | str _ => cases et
        · refine iteN et ?_
          refine ⟨_, rfl, (by show 2 ≤ sizeLine; decide), fun q hq => ?_⟩
          have s3 := sNew (o := .tup [.ty "list", .ty "tuple"]) s2 hq
          have i1 := Rp.same s3 _ h1
          have i2 := Rp.same s3 _ h2
          refine ⟨_, _, _, _, _, _, rfl, upd_same, .cons (.ty _) (.cons (.ty _) .nil), tyX _ i1, kit_lt _, _, rfl, iteN et ?_⟩
          refine ⟨_, rfl, _, _, _, _, _, rfl, .ty _, tyX _ i2, kit_ty (kit_int _), _, rfl, _, _, _, _, _, rfl, .ty _, tyX _ i1, kit_ty (kit_int _), rfl, _, rfl, iteNS rfl ?_⟩
          refine ⟨_, rfl, _, _, _, _, _, rfl, .ty _, tyX _ i2, kit_ty (kit_str _), _, rfl, _, _, _, _, _, rfl, .ty _, tyX _ i1, kit_ty (kit_str _), rfl, _, rfl, iteNS rfl ?_⟩
          cases d with
          | int z =>
            obtain rfl : v = .int z := h1
            obtain rfl : u = .int z := h2
            exact ⟨_, rfl, _, rfl, rfl, eqT (k _ s3)⟩
          | str z =>
            obtain rfl : v = .str z := h1
            obtain rfl : u = .str z := h2
            exact ⟨_, rfl, _, rfl, rfl, eqT (k _ s3)⟩
          | non => exact absurd rfl en
          | bl _ => exact absurd rfl eb
          | lst _ => exact absurd rfl et
          | tup _ => exact absurd rfl et
theorem ok_same {f : Addr} {fd : FuncData} (F : Fun K "_law_same" "_law_same" s_law_same f fd) (T : TSm mg) (hb : Binds K fd ["_law_found", "_law_due"] []) (hm : mg "_law_same" = some (.ref f)) : ∀ n : Nat, FnOk P w K mg base CX0 (n + 1) f fd ["_law_found", "_law_due"] (spSame K n)
  | 0 => ok_same1 (k := 0) F T ⟨_, _, fn_false, hb, hm, F.kp⟩
  | n + 1 => ok_same1 (k := n + 1) F T ⟨_, _, ok_same F T hb hm n, hb, hm, F.kp⟩
end
end RF

namespace RF
open PySem L2 PyProof.Rows
theorem Kp.at_ {b a : Addr} {H H' : Hp} {o : HO} (k : Kp b H H') (B : Bag H b) (h : H a = some o) (n : ∀ xs, o ≠ .lst xs) : H' a = some o := by
  obtain ⟨xs, hb⟩ := B.some
  exact k a o (ne_of h hb (n xs)) h
/-- a method of the class at C, by its promise -/
structure Mt (P : Program) (w : World) (K : PySem.W.Frag) (mg : Str → Option Value) (base : Heap) (C : Addr) (k : Nat) (m : Str) (ps : List Str) (sp : Sp) : Prop where
  ex : ∃ (f : Addr) (fd : FuncData), FnOk P w K mg base CX0 k f fd ps sp ∧ Meth K C m f ∧ Binds K fd ps []
theorem pe_mt0 {X : Cx} {j k : Nat} {C : Addr} {m : Str} {ps : List Str} {sp : Sp} {o : Expr} {pos apos : Pos} {ta : TE} {pl : Sem Bool} (he : PE X o ta) (c : Cls X.K C) (M : Mt X.prog X.w X.K X.mg X.base C k m ps sp) (hr : Room j X.A) (hk : k ≤ j)
    (ht : eval (.Call (.Attribute o m apos) [] [] pos) X.env = (do
      let ov ← eval o X.env
      standAt apos.atName
      let (f, first) ← holding [ov] (getMethod ov m pl)
      callWith pos f first (backTo pos (starEach [] X.env)) (backToKw pos (keywordEach [] X.env))) := by rfl) : PE X (.Call (.Attribute o m apos) [] [] pos) (tMeth C m sp [] E0 ta tNil) := by
  obtain ⟨f, fd, G, hm, b⟩ := M.ex
  exact pe_meth0 he c hm G (hr.mono hk) b .nil pass0 ht
theorem pe_mt {X : Cx} {j k : Nat} {C : Addr} {m : Str} {ps : List Str} {sp : Sp} {o e : Expr} {es : List Expr} {pos apos : Pos} {ta : TE} {t : TA} {pl : Sem Bool} (he : PE X o ta) (c : Cls X.K C) (M : Mt X.prog X.w X.K X.mg X.base C k m ps sp) (hr : Room j X.A) (hk : k ≤ j) (ha : PA X (e :: es) t)
    (h1 : starEach (e :: es) X.env = (false, eval e X.env) :: starEach es X.env := by rfl) (h2 : (backTo pos (starEach es X.env)).any (·.1) = false := by rfl)
    (ht : eval (.Call (.Attribute o m apos) (e :: es) [] pos) X.env = (do
      let ov ← eval o X.env
      standAt apos.atName
      let (f, first) ← holding [ov] (getMethod ov m pl)
      callWith pos f first (backTo pos (starEach (e :: es) X.env)) (backToKw pos (keywordEach [] X.env))) := by rfl) : PE X (.Call (.Attribute o m apos) (e :: es) [] pos) (tMeth C m sp [] E0 ta t) := by
  obtain ⟨f, fd, G, hm, b⟩ := M.ex
  exact pe_meth he c hm G (hr.mono hk) b .nil pass0 ha h1 h2 ht
end RF

namespace RF
def per (d : Int) : List Int := if d = 2 then [2] else if d = 3 then [1, 2] else if d = 5 then [1] else if d = 6 then [2, 4] else [3]
def ai (p : List Int) (i : Nat) : Int := p.getD (i % p.length) 0
theorem ai_add (p : List Int) (i : Nat) : ai p (i + p.length) = ai p i := by unfold ai; rw [Nat.add_mod_right]
theorem ai_pos {d : Int} (h : Root d) (i : Nat) : 1 ≤ ai (per d) i ∧ ai (per d) i ≤ 4 := by
  have h2 : i % 2 = 0 ∨ i % 2 = 1 := by omega
  rcases h with rfl | rfl | rfl | rfl | rfl <;> rcases h2 with e | e <;> simp [per, ai, e, Nat.mod_one]
def stp (p : List Int) : Nat → Int × Int
  | 0 => (0, 1)
  | n + 1 => ((stp p n).2, ai p n * (stp p n).2 + (stp p n).1)
def ptp (p : List Int) : Nat → Int × Int
  | 0 => (1, 0)
  | n + 1 => ((ptp p n).2, ai p n * (ptp p n).2 + (ptp p n).1)
def qn (p : List Int) (i : Nat) : Int := (stp p i).2
def pn (p : List Int) (i : Nat) : Int := (ptp p i).2
theorem stp_pos {p : List Int} (h : ∀ i, 1 ≤ ai p i) : ∀ i, 0 ≤ (stp p i).1 ∧ 1 ≤ (stp p i).2 ∧ (stp p i).1 ≤ (stp p i).2
  | 0 => by simp [stp]
  | n + 1 => by
    have ⟨a, b, c⟩ := stp_pos h n
    have h1 : 1 * (stp p n).2 ≤ ai p n * (stp p n).2 := Int.mul_le_mul_of_nonneg_right (h n) (by omega)
    refine ⟨?_, ?_, ?_⟩ <;> simp only [stp] <;> omega
theorem qn_pos {p : List Int} (h : ∀ i, 1 ≤ ai p i) (i : Nat) : 1 ≤ qn p i := (stp_pos h i).2.1
theorem qn_lt {p : List Int} (h : ∀ i, 1 ≤ ai p i) (i : Nat) : (i : Int) ≤ qn p i := by
  have : ∀ i : Nat, (i : Int) ≤ (stp p i).2 ∧ (1 ≤ i → 1 ≤ (stp p i).1) := by
    intro i
    induction i with
    | zero => simp [stp]
    | succ n ih =>
      have ⟨a, b, c⟩ := stp_pos h n
      have h1 : 1 * (stp p n).2 ≤ ai p n * (stp p n).2 := Int.mul_le_mul_of_nonneg_right (h n) (by omega)
      refine ⟨?_, fun _ => by simp only [stp]; omega⟩
      simp only [stp]
      rcases Nat.eq_zero_or_pos n with rfl | hp
      · simp; omega
      · have := ih.2 hp
        omega
  exact (this i).1
def bk (p : List Int) : Nat → Nat → Int × Int
  | _, 0 => (1, 0)
  | i, m + 1 => (ai p i * (bk p (i + 1) m).1 + (bk p (i + 1) m).2, (bk p (i + 1) m).1)
theorem bk_pos {p : List Int} (h : ∀ i, 1 ≤ ai p i) : ∀ m i, 1 ≤ (bk p i m).1 ∧ 0 ≤ (bk p i m).2 ∧ (1 ≤ m → 1 ≤ (bk p i m).2)
  | 0, i => by simp [bk]
  | m + 1, i => by
    have ⟨a, b, c⟩ := bk_pos h m (i + 1)
    have h1 : 1 * (bk p (i + 1) m).1 ≤ ai p i * (bk p (i + 1) m).1 := Int.mul_le_mul_of_nonneg_right (h i) (by omega)
    refine ⟨?_, ?_, fun _ => ?_⟩ <;> simp only [bk] <;> omega
theorem bk_le {p : List Int} (h : ∀ i, 1 ≤ ai p i) (m i : Nat) : (bk p i m).2 ≤ (bk p i m).1 := by
  cases m with
  | zero => simp [bk]
  | succ m =>
    have ⟨a, b, c⟩ := bk_pos h m (i + 1)
    have h1 : 1 * (bk p (i + 1) m).1 ≤ ai p i * (bk p (i + 1) m).1 := Int.mul_le_mul_of_nonneg_right (h i) (by omega)
    simp only [bk]; omega
/-- The form of a root at the even places and at the odd ones. -/
def frm (d : Int) (o : Nat) (x y : Int) : Int :=
  if d = 2 then (y + x) * (y + x) - 2 * (x * x)
  else if d = 5 then (2 * y + x) * (2 * y + x) - 5 * (x * x)
  else if d = 13 then (2 * y + 3 * x) * (2 * y + 3 * x) - 13 * (x * x)
  else if d = 3 then (if o = 0 then (y + x) * (y + x) - 3 * (x * x) else 2 * (y * y) + 2 * (x * y) - x * x)
  else (if o = 0 then (y + 2 * x) * (y + 2 * x) - 6 * (x * x) else 2 * (y * y) + 4 * (x * y) - x * x)
theorem frm_bk {d : Int} (hd : Root d) : ∀ m i, frm d (i % 2) (bk (per d) i m).1 (bk (per d) i m).2 * (if m % 2 = 0 then 1 else -1) < 0
  | 0, i => by
    have h2 : i % 2 = 0 ∨ i % 2 = 1 := by omega
    rcases hd with rfl | rfl | rfl | rfl | rfl <;> rcases h2 with e | e <;> simp [bk, frm, e]
  | m + 1, i => by
    have ih := frm_bk hd m (i + 1)
    have h2 : i % 2 = 0 ∨ i % 2 = 1 := by omega
    have h3 : m % 2 = 0 ∨ m % 2 = 1 := by omega
    generalize hx : (bk (per d) (i + 1) m).1 = x at ih
    generalize hy : (bk (per d) (i + 1) m).2 = y at ih
    simp only [bk, hx, hy]
    have e1 : frm d (i % 2) (ai (per d) i * x + y) x = - frm d ((i + 1) % 2) x y := by
      rcases hd with rfl | rfl | rfl | rfl | rfl
      · simp only [frm, ai, per, if_pos, List.length_cons, List.length_nil, Nat.zero_add, Nat.mod_one, List.getD_cons_zero]; grind
      · rcases h2 with e | e
        · have e' : (i + 1) % 2 = 1 := by omega
          simp [frm, ai, per, e, e']; grind
        · have e' : (i + 1) % 2 = 0 := by omega
          simp [frm, ai, per, e, e']; grind
      · simp [frm, ai, per, Nat.mod_one]; grind
      · rcases h2 with e | e
        · have e' : (i + 1) % 2 = 1 := by omega
          simp [frm, ai, per, e, e']; grind
        · have e' : (i + 1) % 2 = 0 := by omega
          simp [frm, ai, per, e, e']; grind
      · simp [frm, ai, per, Nat.mod_one]; grind
    rw [e1]
    rcases h3 with e | e
    · rw [if_pos e] at ih
      rw [if_neg (by omega)]; omega
    · rw [if_neg (by omega)] at ih
      rw [if_pos (by omega)]; omega
def sw (w : Nat → Int) : Nat → List Int → Int
  | _, [] => 0
  | i, d :: ds => d * w i + sw w (i + 1) ds
def Vs (p : List Int) : Int → Int → Nat → List Int → Int
  | _, _, _, [] => 0
  | x, y, i, d :: ds => d * y - Vs p y (x - ai p i * y) (i + 1) ds
def Bnd (p : List Int) : Nat → List Int → Prop
  | _, [] => True
  | i, d :: ds => (0 ≤ d ∧ d ≤ ai p i) ∧ Bnd p (i + 1) ds
theorem vs_bd {p : List Int} (h : ∀ i, 1 ≤ ai p i) : ∀ ds m i, Bnd p i ds → ds.length + 1 ≤ m → -(bk p i m).2 < Vs p (bk p i m).1 (bk p i m).2 i ds ∧ Vs p (bk p i m).1 (bk p i m).2 i ds < (bk p i m).1
  | [], m, i, _, hm => by
    have ⟨a, b, c⟩ := bk_pos h m i
    have := c (by simpa using hm)
    simp only [Vs]; omega
  | d :: ds, 0, i, _, hm => by simp at hm
  | d :: ds, m + 1, i, hB, hm => by
    have ⟨⟨d0, d1⟩, hB'⟩ := hB
    have ih := vs_bd h ds m (i + 1) hB' (by simpa using hm)
    have e : (bk p i (m + 1)).1 - ai p i * (bk p i (m + 1)).2 = (bk p (i + 1) m).2 := by simp only [bk]; omega
    have e2 : (bk p i (m + 1)).2 = (bk p (i + 1) m).1 := rfl
    simp only [Vs]
    rw [e, e2]
    have ⟨a, b, c⟩ := bk_pos h m (i + 1)
    have e3 : (bk p i (m + 1)).1 = ai p i * (bk p (i + 1) m).1 + (bk p (i + 1) m).2 := rfl
    rw [e3]
    have h1 : d * (bk p (i + 1) m).1 ≤ ai p i * (bk p (i + 1) m).1 := Int.mul_le_mul_of_nonneg_right d1 (by omega)
    have h2 : 0 ≤ d * (bk p (i + 1) m).1 := Int.mul_nonneg d0 (by omega)
    omega
/-- 0: all are zero; 1: the first place above 0 is even; -1: it is odd. -/
def lead : List Int → Int
  | [] => 0
  | d :: ds => if 0 < d then 1 else - lead ds
theorem vs_sg {p : List Int} (h : ∀ i, 1 ≤ ai p i) : ∀ ds m i, Bnd p i ds → ds.length + 1 ≤ m → (lead ds = 0 ∧ Vs p (bk p i m).1 (bk p i m).2 i ds = 0) ∨ (lead ds = 1 ∧ 0 < Vs p (bk p i m).1 (bk p i m).2 i ds) ∨ (lead ds = -1 ∧ Vs p (bk p i m).1 (bk p i m).2 i ds < 0)
  | [], m, i, _, hm => .inl ⟨rfl, rfl⟩
  | d :: ds, 0, i, _, hm => by simp at hm
  | d :: ds, m + 1, i, hB, hm => by
    have ⟨⟨d0, d1⟩, hB'⟩ := hB
    have ih := vs_sg h ds m (i + 1) hB' (by simpa using hm)
    have bd := vs_bd h ds m (i + 1) hB' (by simpa using hm)
    have e : (bk p i (m + 1)).1 - ai p i * (bk p i (m + 1)).2 = (bk p (i + 1) m).2 := by simp only [bk]; omega
    have e2 : (bk p i (m + 1)).2 = (bk p (i + 1) m).1 := rfl
    simp only [Vs, lead]
    rw [e, e2]
    have ⟨a, b, c⟩ := bk_pos h m (i + 1)
    by_cases hd : 0 < d
    · rw [if_pos hd]
      have h1 : 1 * (bk p (i + 1) m).1 ≤ d * (bk p (i + 1) m).1 := Int.mul_le_mul_of_nonneg_right (by omega) (by omega)
      refine .inr (.inl ⟨rfl, by omega⟩)
    · rw [if_neg hd]
      have : d = 0 := by omega
      subst this
      rw [Int.zero_mul]
      omega
theorem vs_lin {p : List Int} : ∀ ds (i : Nat) (e P Q : Int), Vs p (-e * ((stp p i).1 * P - (ptp p i).1 * Q)) (e * ((stp p i).2 * P - (ptp p i).2 * Q)) i ds = e * (sw (qn p) i ds * P - sw (pn p) i ds * Q)
  | [], i, e, P, Q => by simp [Vs, sw]
  | d :: ds, i, e, P, Q => by
    have ih := vs_lin (p := p) ds (i + 1) (-e) P Q
    simp only [Vs, sw]
    have e1 : -e * ((stp p i).1 * P - (ptp p i).1 * Q) - ai p i * (e * ((stp p i).2 * P - (ptp p i).2 * Q)) = -e * ((stp p (i + 1)).2 * P - (ptp p (i + 1)).2 * Q) := by
      simp only [stp, ptp]; grind
    have e2 : e * ((stp p i).2 * P - (ptp p i).2 * Q) = - -e * ((stp p (i + 1)).1 * P - (ptp p (i + 1)).1 * Q) := by
      simp only [stp, ptp]; grind
    rw [e1]
    have e3 : Vs p (e * ((stp p i).2 * P - (ptp p i).2 * Q)) (-e * ((stp p (i + 1)).2 * P - (ptp p (i + 1)).2 * Q)) (i + 1) ds = -e * (sw (qn p) (i + 1) ds * P - sw (pn p) (i + 1) ds * Q) := by
      rw [← ih, e2]
    rw [e3]
    simp only [qn, pn]; grind
theorem vs_tot {p : List Int} (ds : List Int) (P Q : Int) : Vs p Q P 0 ds = sw (qn p) 0 ds * P - sw (pn p) 0 ds * Q := by
  have := vs_lin (p := p) ds 0 1 P Q
  simp only [stp, ptp] at this
  have e1 : (-1 : Int) * (0 * P - 1 * Q) = Q := by omega
  have e2 : (1 : Int) * (1 * P - 0 * Q) = P := by omega
  rw [e1, e2, Int.one_mul] at this
  exact this
theorem sw_add (p : List Int) (ds : List Int) : ∀ i, sw (fun j => qn p (j + p.length)) i ds = (stp p p.length).2 * sw (qn p) i ds + (stp p p.length).1 * sw (pn p) i ds := by
  have h : ∀ j, stp p (j + p.length) = ((stp p p.length).2 * (stp p j).1 + (stp p p.length).1 * (ptp p j).1, (stp p p.length).2 * (stp p j).2 + (stp p p.length).1 * (ptp p j).2) := by
    intro j
    induction j with
    | zero => simp [stp, ptp]
    | succ n ih =>
      have e : n + 1 + p.length = (n + p.length) + 1 := by omega
      rw [e]
      simp only [stp, ptp, ih, ai_add]
      refine Prod.ext rfl ?_
      simp only []
      grind
  induction ds with
  | nil => intro i; simp [sw]
  | cons d ds ih =>
    intro i
    simp only [sw, ih (i + 1)]
    have : qn p (i + p.length) = (stp p p.length).2 * (stp p i).2 + (stp p p.length).1 * (ptp p i).2 := by unfold qn; rw [h]
    rw [this]; simp only [qn, pn]; grind
end RF

namespace RF
def bI (d : Int) : Int := if d = 6 then -2 else if d = 13 then -3 else -1
def bK (d : Int) : Int := if d = 5 then 2 else if d = 13 then 2 else 1
theorem frm0 {d : Int} (hd : Root d) (x y : Int) : frm d 0 x y = (bK d * y - bI d * x) * (bK d * y - bI d * x) - d * (x * x) := by
  rcases hd with rfl | rfl | rfl | rfl | rfl <;> simp [frm, bK, bI] <;> grind
theorem bK_pos {d : Int} (hd : Root d) : 1 ≤ bK d := by rcases hd with rfl | rfl | rfl | rfl | rfl <;> decide
theorem bI_neg {d : Int} (hd : Root d) : bI d ≤ -1 := by rcases hd with rfl | rfl | rfl | rfl | rfl <;> decide
theorem lead_zero {p : List Int} {w : Nat → Int} : ∀ ds i, Bnd p i ds → lead ds = 0 → sw w i ds = 0
  | [], _, _, _ => rfl
  | d :: ds, i, hB, h => by
    unfold lead at h
    by_cases hd : 0 < d
    · rw [if_pos hd] at h; omega
    · rw [if_neg hd] at h
      have : d = 0 := by have := hB.1.1; omega
      subst this
      simp only [sw, Int.zero_mul, Int.zero_add]
      exact lead_zero ds (i + 1) hB.2 (by omega)
theorem sw_nn {p : List Int} {w : Nat → Int} (hw : ∀ i, 0 ≤ w i) : ∀ ds i, Bnd p i ds → 0 ≤ sw w i ds
  | [], _, _ => by simp [sw]
  | d :: ds, i, hB => by
    have := Int.mul_nonneg hB.1.1 (hw i)
    have := sw_nn hw ds (i + 1) hB.2
    simp only [sw]; omega
theorem mul_sq (a b : Int) : (a * b) * (a * b) = (a * a) * (b * b) := by grind
theorem flb {d : Int} (hd : Root d) (ds : List Int) (hB : Bnd (per d) 0 ds) :
    sw (pn (per d)) 0 ds - (if lead ds = -1 then 1 else 0) = (bI d * sw (qn (per d)) 0 ds + rt (sw (qn (per d)) 0 ds * sw (qn (per d)) 0 ds * d)) / bK d := by
  have ha : ∀ i, 1 ≤ ai (per d) i := fun i => (ai_pos hd i).1
  have hk := bK_pos hd
  have hi := bI_neg hd
  have hdp := hd.pos
  by_cases h0 : lead ds = 0
  · rw [lead_zero ds 0 hB h0, lead_zero ds 0 hB h0, if_neg (by omega)]
    have : rt (0 * 0 * d) = 0 := by
      rw [show (0 * 0 * d : Int) = 0 by simp]
      exact (rt_uniq (by decide) (by decide) (by decide) (by decide)).symm
    rw [this]; simp
  · have n0 : 0 ≤ sw (qn (per d)) 0 ds := sw_nn (fun i => by have := qn_pos ha i; omega) ds 0 hB
    have key : ∀ m, ds.length + 1 ≤ m → (sw (pn (per d)) 0 ds - (if lead ds = -1 then 1 else 0)) * (bk (per d) 0 m).1 < sw (qn (per d)) 0 ds * (bk (per d) 0 m).2 ∧ sw (qn (per d)) 0 ds * (bk (per d) 0 m).2 < (sw (pn (per d)) 0 ds - (if lead ds = -1 then 1 else 0) + 1) * (bk (per d) 0 m).1 := by
      intro m hm
      have b1 := vs_bd ha ds m 0 hB hm
      have b2 := vs_sg ha ds m 0 hB hm
      rw [vs_tot] at b1 b2
      have le := bk_le ha m 0
      generalize (bk (per d) 0 m).1 = Q at *
      generalize (bk (per d) 0 m).2 = P at *
      generalize sw (pn (per d)) 0 ds = s at *
      generalize sw (qn (per d)) 0 ds = n at *
      rcases b2 with ⟨e, _⟩ | ⟨e, h⟩ | ⟨e, h⟩
      · exact absurd e h0
      · rw [e, if_neg (by decide)]
        rw [Int.sub_zero, Int.add_mul]
        omega
      · rw [e, if_pos rfl, Int.sub_mul, Int.sub_add_cancel]
        omega
    generalize sw (pn (per d)) 0 ds - (if lead ds = -1 then 1 else 0) = F at *
    generalize sw (qn (per d)) 0 ds = n at *
    have nn : 0 ≤ n * n * d := Int.mul_nonneg (Int.mul_nonneg n0 n0) (by omega)
    have t0 := rt_nn (n * n * d)
    have t1 := rt_le nn
    have t2 := rt_lt nn
    generalize rt (n * n * d) = t at *
    have h1 : bK d * F - bI d * n ≤ t := by
      refine Int.not_lt.mp fun hlt => ?_
      have ⟨k1, _⟩ := key (2 * (ds.length + 1)) (by omega)
      have f1 := frm_bk hd (2 * (ds.length + 1)) 0
      rw [if_pos (by omega), Nat.zero_mod, frm0 hd] at f1
      have ⟨q1, p0, _⟩ := bk_pos ha (2 * (ds.length + 1)) 0
      generalize (bk (per d) 0 (2 * (ds.length + 1))).1 = Q at *
      generalize (bk (per d) 0 (2 * (ds.length + 1))).2 = P at *
      generalize bK d = k at *
      generalize bI d = i at *
      have e1 : (k * F - i * n) * Q < n * (k * P - i * Q) := by
        have := Int.mul_lt_mul_of_pos_left k1 (show 0 < k by omega)
        have e : n * (k * P - i * Q) = k * (n * P) - i * n * Q := by grind
        have e' : (k * F - i * n) * Q = k * (F * Q) - i * n * Q := by grind
        omega
      have e2 : ((k * F - i * n) * Q) * ((k * F - i * n) * Q) < (n * (k * P - i * Q)) * (n * (k * P - i * Q)) := sq_lt (Int.mul_nonneg (by omega) (by omega)) e1
      rw [mul_sq, mul_sq] at e2
      have e3 : (n * n) * ((k * P - i * Q) * (k * P - i * Q)) ≤ (n * n) * (d * (Q * Q)) := Int.mul_le_mul_of_nonneg_left (by omega) (Int.mul_nonneg n0 n0)
      have e4 : (n * n) * (d * (Q * Q)) = (n * n * d) * (Q * Q) := by grind
      have e5 : (k * F - i * n) * (k * F - i * n) < n * n * d := Int.lt_of_mul_lt_mul_right (by omega) (sq_nonneg Q)
      have e6 : (t + 1) * (t + 1) ≤ (k * F - i * n) * (k * F - i * n) := sq_le (by omega) (by omega)
      omega
    have h2 : t < bK d * (F + 1) - bI d * n := by
      have ⟨_, k1⟩ := key (2 * (ds.length + 1) + 1) (by omega)
      have f1 := frm_bk hd (2 * (ds.length + 1) + 1) 0
      rw [if_neg (by omega), Nat.zero_mod, frm0 hd] at f1
      have ⟨q1, p0, _⟩ := bk_pos ha (2 * (ds.length + 1) + 1) 0
      generalize (bk (per d) 0 (2 * (ds.length + 1) + 1)).1 = Q at *
      generalize (bk (per d) 0 (2 * (ds.length + 1) + 1)).2 = P at *
      generalize bK d = k at *
      generalize bI d = i at *
      have e1 : n * (k * P - i * Q) < (k * (F + 1) - i * n) * Q := by
        have := Int.mul_lt_mul_of_pos_left k1 (show 0 < k by omega)
        have e : n * (k * P - i * Q) = k * (n * P) - i * n * Q := by grind
        have e' : (k * (F + 1) - i * n) * Q = k * ((F + 1) * Q) - i * n * Q := by grind
        omega
      have g0 : 0 ≤ k * P - i * Q := by
        have := Int.mul_nonneg (show 0 ≤ k by omega) p0
        have := Int.mul_nonneg (show 0 ≤ -i by omega) (show 0 ≤ Q by omega)
        rw [Int.neg_mul] at this
        omega
      have g1 := Int.mul_nonneg n0 g0
      have gp : 0 < k * (F + 1) - i * n := Int.not_le.mp fun hle => by
        have := Int.mul_nonneg (show 0 ≤ -(k * (F + 1) - i * n) by omega) (show 0 ≤ Q by omega)
        rw [Int.neg_mul] at this
        omega
      have e2 := sq_lt g1 e1
      rw [mul_sq, mul_sq] at e2
      have e3 : (n * n) * (d * (Q * Q)) ≤ (n * n) * ((k * P - i * Q) * (k * P - i * Q)) := Int.mul_le_mul_of_nonneg_left (by omega) (Int.mul_nonneg n0 n0)
      have e4 : (n * n) * (d * (Q * Q)) = (n * n * d) * (Q * Q) := by grind
      have e5 : n * n * d < (k * (F + 1) - i * n) * (k * (F + 1) - i * n) := Int.lt_of_mul_lt_mul_right (by omega) (sq_nonneg Q)
      exact lt_of_sq (by omega) (by omega)
    symm
    refine (Int.ediv_emod_unique (a := bI d * n + t) (b := bK d) (r := bI d * n + t - bK d * F) (q := F) (by omega)).mpr ⟨by omega, by omega, ?_⟩ |>.1
    rw [Int.mul_add] at h2; omega
/-- The digits of a number below q(m), the least place first. -/
def dg (p : List Int) : Nat → Int → List Int
  | 0, _ => []
  | m + 1, r => dg p m (r % qn p m) ++ [r / qn p m]
def Can (p : List Int) : Nat → Int → List Int → Prop
  | _, _, [] => True
  | i, lo, d :: ds => (0 ≤ d ∧ d ≤ ai p i ∧ (i = 0 ∨ lo ≠ 0 → d ≤ ai p i - 1)) ∧ Can p (i + 1) d ds
theorem can_bnd {p : List Int} : ∀ ds i lo, Can p i lo ds → Bnd p i ds
  | [], _, _, _ => trivial
  | _ :: ds, i, _, h => ⟨⟨h.1.1, h.1.2.1⟩, can_bnd ds (i + 1) _ h.2⟩
theorem can_snoc {p : List Int} {d : Int} : ∀ l i lo, Can p i lo l → (0 ≤ d ∧ d ≤ ai p (i + l.length) ∧ (i + l.length = 0 ∨ l.getLastD lo ≠ 0 → d ≤ ai p (i + l.length) - 1)) → Can p i lo (l ++ [d])
  | [], i, lo, _, h => ⟨by simpa using h, trivial⟩
  | c :: l, i, lo, hc, h => by
    refine ⟨hc.1, can_snoc l (i + 1) c hc.2 ?_⟩
    have e : i + (c :: l).length = i + 1 + l.length := by simp; omega
    rw [e] at h
    have e2 : (c :: l).getLastD lo = l.getLastD c := by cases l <;> rfl
    rw [e2] at h
    exact h
theorem sw_snoc {w : Nat → Int} {d : Int} : ∀ l i, sw w i (l ++ [d]) = sw w i l + d * w (i + l.length)
  | [], i => by simp [sw]
  | c :: l, i => by
    have e : i + (c :: l).length = i + 1 + l.length := by simp; omega
    rw [e]
    simp only [List.cons_append, sw, sw_snoc l (i + 1)]
    omega
theorem dg_len {p : List Int} : ∀ m r, (dg p m r).length = m
  | 0, _ => rfl
  | m + 1, r => by simp [dg, dg_len m]
theorem dg_ok {p : List Int} (h : ∀ i, 1 ≤ ai p i) : ∀ m r, 0 ≤ r → r < qn p m → Can p 0 0 (dg p m r) ∧ sw (qn p) 0 (dg p m r) = r
  | 0, r, r0, r1 => ⟨trivial, by
      have : qn p 0 = 1 := rfl
      simp only [dg, sw]; omega⟩
  | m + 1, r, r0, r1 => by
    have q1 := qn_pos h m
    have m0 := Int.emod_nonneg r (show qn p m ≠ 0 by omega)
    have m1 := Int.emod_lt_of_pos r (show 0 < qn p m by omega)
    have ⟨c, s⟩ := dg_ok h m (r % qn p m) m0 m1
    have de := Int.emod_add_mul_ediv r (qn p m)
    have d0 : 0 ≤ r / qn p m := Int.ediv_nonneg r0 (by omega)
    have ex : qn p (m + 1) = ai p m * qn p m + (stp p m).1 := rfl
    have st := stp_pos h m
    have st3 : (stp p m).1 ≤ qn p m := st.2.2
    have d1 : r / qn p m ≤ ai p m := by
      refine Int.not_lt.mp fun hl => ?_
      have := Int.mul_le_mul_of_nonneg_left (show ai p m + 1 ≤ r / qn p m by omega) (show 0 ≤ qn p m by omega)
      rw [Int.mul_add] at this
      have e : qn p m * ai p m = ai p m * qn p m := Int.mul_comm _ _
      omega
    refine ⟨can_snoc _ 0 0 c ?_, ?_⟩
    · rw [dg_len, Nat.zero_add]
      refine ⟨d0, d1, fun hh => ?_⟩
      refine Int.not_lt.mp fun hl => ?_
      have e : r / qn p m = ai p m := by omega
      rw [e] at de
      have e : qn p m * ai p m = ai p m * qn p m := Int.mul_comm _ _
      have lt : r % qn p m < (stp p m).1 := by omega
      cases m with
      | zero => simp only [stp] at lt; omega
      | succ k =>
        have e1 : (stp p (k + 1)).1 = qn p k := rfl
        rw [e1] at lt
        rcases hh with hh | hh
        · omega
        · refine hh ?_
          simp only [dg]
          rw [List.getLastD_concat]
          exact Int.ediv_eq_zero_of_lt m0 lt
    · simp only [dg]
      rw [sw_snoc, s, dg_len, Nat.zero_add]
      have e : qn p m * (r / qn p m) = r / qn p m * qn p m := Int.mul_comm _ _
      omega
end RF

namespace RF
theorem qn_mono1 {p : List Int} (h : ∀ i, 1 ≤ ai p i) (i : Nat) : qn p i ≤ qn p (i + 1) := (stp_pos h (i + 1)).2.2
theorem qn_mono {p : List Int} (h : ∀ i, 1 ≤ ai p i) {i j : Nat} (hij : i ≤ j) : qn p i ≤ qn p j := by
  induction j with
  | zero => have : i = 0 := by omega
            subst this; omega
  | succ j ih =>
    rcases Nat.lt_or_ge i (j + 1) with hl | hg
    · have := ih (by omega)
      have := qn_mono1 h j
      omega
    · have : i = j + 1 := by omega
      subst this; omega
theorem qn_dbl {p : List Int} (h : ∀ i, 1 ≤ ai p i) (i : Nat) : 2 * qn p i ≤ qn p (i + 2) := by
  have h1 : 1 * (stp p (i + 1)).2 ≤ ai p (i + 1) * (stp p (i + 1)).2 := Int.mul_le_mul_of_nonneg_right (h (i + 1)) (by have := (stp_pos h (i + 1)).2.1; omega)
  have e : qn p (i + 2) = ai p (i + 1) * (stp p (i + 1)).2 + (stp p i).2 := rfl
  have := qn_mono1 h i
  rw [e]
  unfold qn at *
  omega
theorem qn_pow {p : List Int} (h : ∀ i, 1 ≤ ai p i) : ∀ i : Nat, (2 : Int) ^ i ≤ qn p (2 * i)
  | 0 => by simp [qn, stp]
  | i + 1 => by
    have := qn_pow h i
    have := qn_dbl h (2 * i)
    rw [Int.pow_succ]
    have e : 2 * (i + 1) = 2 * i + 2 := by omega
    rw [e]; omega
theorem steps_le {p : List Int} (h : ∀ i, 1 ≤ ai p i) {n : Int} (hn : n < 2 ^ 133) {m : Nat} (hm : qn p m ≤ n) : m < 266 := by
  refine Nat.not_le.mp fun hl => ?_
  have h1 := qn_pow h 133
  have h2 := qn_mono h (show 2 * 133 ≤ m by omega)
  omega
theorem qn_bd {p : List Int} (h : ∀ i, 1 ≤ ai p i ∧ ai p i ≤ 4) (i : Nat) : qn p i ≤ 8 ^ i ∧ (stp p i).1 ≤ 8 ^ i := by
  induction i with
  | zero => simp [qn, stp]
  | succ i ih =>
    obtain ⟨a, b⟩ := ih
    have ⟨s1, s2, s3⟩ := stp_pos (fun i => (h i).1) i
    have h1 : ai p i * (stp p i).2 ≤ 4 * (stp p i).2 := Int.mul_le_mul_of_nonneg_right (h i).2 (by omega)
    have e : qn p (i + 1) = ai p i * (stp p i).2 + (stp p i).1 := rfl
    have e2 : (stp p (i + 1)).1 = (stp p i).2 := rfl
    rw [Int.pow_succ, e, e2]
    unfold qn at a
    omega
theorem qn_bd' {p : List Int} (h : ∀ i, 1 ≤ ai p i ∧ ai p i ≤ 4) {i : Nat} (hi : i ≤ 280) : Bd 841 (qn p i) := by
  have h1 := (qn_bd h i).1
  have h2 := qn_pos (fun i => (h i).1) i
  have h3 : (8 : Int) ^ i ≤ 8 ^ 280 := by exact_mod_cast Nat.pow_le_pow_right (by decide : 0 < 8) hi
  unfold Bd
  have h4 : ((qn p i).natAbs : Int) < 2 ^ 841 := by
    have : (8 : Int) ^ 280 < 2 ^ 841 := by decide +kernel
    omega
  exact_mod_cast h4
end RF

namespace RF
open PySem L2 PyProof.Rows
/-! ### a written dict with int keys: its values; tuples of the module -/
def IDct (K : PySem.W.Frag) (d : Addr) (i : Int) (v : V) : Prop :=
  ∃ es n ks u, K.lookup d = some ⟨.type "dict", none, .dict es n, #[]⟩ ∧ okE es.toList ks = true ∧ findBy Value.isInt es i = some u ∧ RelV v u
def rIxI (K : PySem.W.Frag) : R2 := fun x y H Q => ∃ p i v, x = .ref p ∧ y = .int i ∧ IDct K p i v ∧ Q v H
theorem ix_intd {X : Cx} : IxR X (rIxI X.K) := by
  intro value slice pins s σ H x y v u Q I rx ry h hs
  obtain ⟨p, i, r, rfl, rfl, ⟨es, n, ks, u0, hl, he, e, ru⟩, q⟩ := h
  obtain rfl : v = Value.ref p := rx
  obtain ⟨t, rfl⟩ := ry
  have hm : s.heap.MapOf (intKind X.prog X.w) p (fun k => findBy Value.isInt es k) := ⟨_, es, n, I.kIn _ _ hl, ⟨rfl, rfl, rfl⟩, rfl, fun e hh => by
    obtain ⟨k, t, _, e1, e2⟩ := okE_mem he e (Array.mem_toList_iff.mpr hh)
    exact ⟨k, by rw [e1]; show Value.isInt k (.int k t) = true; simp [Value.isInt], e2⟩, fun _ => rfl⟩
  exact tail_any hm.typeIs slot_dict_getitem.lookup (wpAny_getItem_of (k := i) (by show Value.isInt i (.int i t) = true; simp [Value.isInt]) hm e ⟨r, H, I.tok _, ru, q⟩) hs
def TupI (K : PySem.W.Frag) (t : Addr) (p : List Int) : Prop :=
  ∃ (o : Obj) (its : Array Value) (n : Nat), K.lookup t = some o ∧ o.cls = .type "tuple" ∧ o.data = .seq its n ∧ its.size ≤ sizeLine ∧ Vals (p.map V.int) its.toList
theorem TupI.sq {K : PySem.W.Frag} {H : Hp} {t : Addr} {p : List Int} (h : TupI K t p) : SqT K H t (p.map V.int) := .inr h
/-- a period: one to three parts, from 1 to 4 -/
structure Per (p : List Int) : Prop where
  len : 0 < p.length ∧ p.length ≤ 3
  bd : ∀ i, 1 ≤ ai p i ∧ ai p i ≤ 4
theorem Per.one {p : List Int} (h : Per p) (i : Nat) : 1 ≤ ai p i := (h.bd i).1
theorem ai_at {p : List Int} (h : Per p) (i : Nat) : (p.map V.int)[i % p.length]? = some (.int (ai p i)) := by
  have hl : i % p.length < p.length := Nat.mod_lt _ h.len.1
  rw [List.getElem?_map, List.getElem?_eq_getElem hl]
  unfold ai
  rw [List.getD_eq_getElem?_getD, List.getElem?_eq_getElem hl]
  rfl
theorem ai_atI {p : List Int} (h : Per p) (i : Nat) : atI (p.map V.int) ((i : Int) % (((p.map V.int).length : Nat) : Int)) = some (.int (ai p i)) := by
  rw [List.length_map, ← Int.natCast_emod]
  exact atI_nat (ai_at h i)
theorem sm_upd {H H1 : Hp} {a : Addr} {o : HO} (s : Same H H1) (h : H a = none) : Same H (upd H1 a o) := fun b u e => by
  have hne : b ≠ a := fun z => by rw [z, h] at e; cases e
  rw [upd_ne hne]
  exact s b u e
def spPart (K : PySem.W.Frag) : Sp := fun vs H Q _ => ∃ (t : Addr) (p : List Int) (i : Nat), vs = [.ref t, .int (i : Int)] ∧ TupI K t p ∧ Per p ∧ Q (.int (ai p i)) H
def qs (p : List Int) (m : Nat) : List V := (List.range m).map fun i => V.int (qn p i)
def spSteps (K : PySem.W.Frag) : Sp := fun vs H Q _ => ∃ (t : Addr) (p : List Int) (n : Int), vs = [.ref t, .int n] ∧ TupI K t p ∧ Per p ∧ 0 ≤ n ∧ n < 2 ^ 133 ∧
  ∀ m a H', m ≤ 266 → n < qn p m → (∀ j, m = j + 1 → qn p j ≤ n) → H a = none → H' a = some (.lst (qs p m)) → Same H H' → Q (.ref a) H'
def spCan (K : PySem.W.Frag) : Sp := fun vs H Q _ => ∃ (t : Addr) (p : List Int) (i : Nat) (d lo : Int), vs = [.ref t, .int (i : Int), .int d, .int lo] ∧ TupI K t p ∧ Per p ∧
  Q (.bl (btw (.int d) 0 (if i = 0 ∨ lo ≠ 0 then ai p i - 1 else ai p i))) H
section
variable {P : Program} {w : World} {K : PySem.W.Frag} {mg : Str → Option Value} {base : Heap}
abbrev s_part_above : Stmt := top 15
abbrev n_part_above : List Str := ["period", "place"]
theorem sc_part_above : FnScope n_part_above ["period", "place"] (defScope s_part_above) := ⟨rfl, rfl, rfl, by decide +kernel, rfl, by decide +kernel, by decide +kernel⟩
theorem ok_part {f : Addr} {fd : FuncData} {k : Nat} (F : Fun K "_part_above" "_part_above" s_part_above f fd) (T : mg "len" = none) : FnOk P w K mg base CX0 (k + 1) f fd ["period", "place"] (spPart K) := by
  refine F.ok sc_part_above (fun vs H Q E h => ?_) (fun cdv A outer s H vs Q E hr h => ?_)
  · obtain ⟨t, p, i, rfl, _⟩ := h
    rfl
  · obtain ⟨t, p, i, rfl, hT, hp, q⟩ := h
    refine ⟨_, (pss_one (ps_ret (pe_ix ix_tup (pv 0) (pe_op op_mod (pv 1) (pe_callB call_len_seq (by rfl) T PySem.boot_len (pa_cons (pv 0) pa_nil))) (fun _ _ => rfl)))), ?_⟩
    have hl := hp.len
    exact ⟨_, rfl, _, rfl, _, rfl, t, _, rfl, .inr hT.sq, _, _, rfl, rfl, (by show (0 : Int) < (((p.map V.int).length : Nat) : Int); rw [List.length_map]; omega), t, _, _, _, rfl, rfl, hT.sq, ai_atI hp i, q⟩
abbrev s_steps_within : Stmt := top 17
abbrev n_steps_within : List Str := ["period", "number", "steps", "before", "here", "part"]
theorem sc_steps_within : FnScope n_steps_within ["period", "number"] (defScope s_steps_within) := ⟨rfl, rfl, rfl, by decide +kernel, rfl, by decide +kernel, by decide +kernel⟩
theorem qs_len (p : List Int) (m : Nat) : (qs p m).length = m := by simp [qs]
theorem qs_snoc (p : List Int) (m : Nat) : qs p m ++ [.int (qn p m)] = qs p (m + 1) := by simp [qs, List.range_succ]
theorem ok_steps {f : Addr} {fd : FuncData} {k : Nat} (F : Fun K "_steps_within" "_steps_within" s_steps_within f fd) (T : mg "len" = none) (D1 : Df P w K mg base k "_part_above" ["period", "place"] (spPart K)) : FnOk P w K mg base CX0 (k + 1) f fd ["period", "number"] (spSteps K) := by
  refine F.ok sc_steps_within (fun vs H Q E h => ?_) (fun cdv A outer s H vs Q E hr h => ?_)
  · obtain ⟨t, p, n, rfl, _⟩ := h
    rfl
  · obtain ⟨t, p, n, rfl, hT, hp, n0, n1, q⟩ := h
    have nd := sc_steps_within.nd
    refine ⟨_, (pss_cons (ps_set (i := 2) nd rfl (Or.inl rfl) (pe_lst pa_nil))
      (pss_cons (ps_asg (pe_tup (pa_cons pe_int (pa_cons pe_int pa_nil))) (pg_tup rfl (pgs_cons (pg_name (i := 3) nd rfl (Or.inl rfl)) (pgs_cons (pg_name (i := 4) nd rfl (Or.inl rfl)) pgs_nil))))
      (pss_cons (ps_while PassesOwn.never (pt_cmpR op_le (pv 4) (pv 1) (nomark _))
      (pss_cons (ps_set (i := 5) nd rfl (Or.inl rfl) (pe_callD D1 hr (Nat.le_refl _) (pa_cons (pv 0) (pa_cons (pe_callB call_len_seq (by rfl) T PySem.boot_len (pa_cons (pv 2) pa_nil)) pa_nil))))
        (pss_cons (ps_expr (pe_bm PySem.F.plainAttrs_list PySem.F.slot_list_append PySem.F.type_list_append mt_append (pv 2) (pa_cons (pv 4) pa_nil)))
        (pss_one (ps_par (i := 3) (j := 4) rfl nd rfl rfl (by decide) rfl rfl (pa_cons (pv 4) (pa_cons (pe_op op_add (pe_op op_mulW (pv 5) (pv 4)) (pv 3)) pa_nil)) (by kernel_rfl))))))
      (pss_one (ps_ret (pv 2)))))), ?_⟩
    refine ⟨by show 0 ≤ sizeLine; decide, fun a ha => ?_⟩
    refine ⟨by show 2 ≤ sizeLine; decide, fun b hb => ⟨b, _, rfl, SqT.of upd_same, rfl, _, _, rfl, _, _, rfl, rfl, ?_⟩⟩
    refine while_by (fun σ H' => ∃ (m : Nat) (v : Option V), σ = [some (.ref t), some (.int n), some (.ref a), some (.int (stp p m).1), some (.int (qn p m)), v] ∧ m ≤ 266 ∧ H' a = some (.lst (qs p m)) ∧ Same H H' ∧ (∀ j, m = j + 1 → qn p j ≤ n))
      (fun σ _ => match σ with | [_, _, _, some (.int x), some (.int y), _] => (2 * n + 2 - x - y).toNat | _ => 0)
      ⟨0, none, rfl, by decide, by rw [upd_ne (ne_new hb).symm, upd_same]; rfl, sNew (sNew (Same.refl _) ha) hb, fun _ z => by omega⟩ ?_ ?_
    · rintro σ H1 ⟨m, v, rfl, hm, h1, sm, hmi⟩
      have sp := stp_pos hp.one m
      refine ⟨_, rfl, _, rfl, _, _, rfl, rfl, _, rfl, ite2 (fun h => ?_) (fun h => ?_)⟩
      · have hle : qn p m ≤ n := of_decide_eq_true h
        have hm1 := steps_le hp.one n1 hle
        refine ⟨_, rfl, _, rfl, a, _, rfl, .inl (SqL.of h1), t, p, (qs p m).length, rfl, hT, hp, ?_⟩
        rw [qs_len]
        refine ⟨_, rfl, .inl ⟨rfl, _, SqL.of h1⟩, _, rfl, a, _, _, rfl, rfl, h1, by rw [qs_len, sizeLine_eq]; omega, ?_⟩
        rw [qs_snoc]
        refine ⟨_, rfl, _, rfl, _, rfl, _, _, rfl, rfl, mulOk (n := 3) (m := 841) (Nat.lt_of_le_of_lt (show (ai p m).natAbs ≤ 4 by have := hp.bd m; omega) (by decide)) (qn_bd' hp.bd (by omega)) (by decide) (by decide) (by decide), _, rfl, _, _, rfl, rfl, _, _, rfl, ?_⟩
        refine ⟨⟨m + 1, _, rfl, by omega, upd_same, ?_, fun j ej => ?_⟩, ?_⟩
        · exact sm_upd sm ha
        · obtain rfl : m = j := by omega
          exact hle
        · show (2 * n + 2 - qn p m - (ai p m * qn p m + (stp p m).1)).toNat < (2 * n + 2 - (stp p m).1 - qn p m).toNat
          have : 1 * qn p m ≤ ai p m * qn p m := Int.mul_le_mul_of_nonneg_right (hp.one m) (by have := qn_pos hp.one m; omega)
          have := qn_pos hp.one m
          have e : (stp p m).2 = qn p m := rfl
          rw [e] at sp
          omega
      · have hgt : n < qn p m := by
          have : ¬ qn p m ≤ n := fun z => h (decide_eq_true z)
          omega
        exact ⟨_, rfl, q m a H1 hm hgt hmi ha h1 sm⟩
    · rintro σ H1 Q1 Q2 hq ⟨v, e1, v2, e2, i, j, e3, e4, b, e5, q⟩
      exact ⟨v, e1, v2, e2, i, j, e3, e4, b, e5, hq _ _ q⟩
abbrev s_can_stand : Stmt := top 18
abbrev n_can_stand : List Str := ["period", "place", "digit", "lower", "most"]
theorem sc_can_stand : FnScope n_can_stand ["period", "place", "digit", "lower"] (defScope s_can_stand) := ⟨rfl, rfl, rfl, by decide +kernel, rfl, by decide +kernel, by decide +kernel⟩
theorem ok_can {f : Addr} {fd : FuncData} {k : Nat} (F : Fun K "can_stand" "can_stand" s_can_stand f fd) (D1 : Df P w K mg base k "_part_above" ["period", "place"] (spPart K)) (D2 : Df P w K mg base k "is_between" ["value", "low", "high"] (spBtw K)) :
    FnOk P w K mg base CX0 (k + 1) f fd ["period", "place", "digit", "lower"] (spCan K) := by
  refine F.ok sc_can_stand (fun vs H Q E h => ?_) (fun cdv A outer s H vs Q E hr h => ?_)
  · obtain ⟨t, p, i, d, lo, rfl, _⟩ := h
    rfl
  · obtain ⟨t, p, i, d, lo, rfl, hT, hp, q⟩ := h
    have nd := sc_can_stand.nd
    refine ⟨_, (pss_cons (ps_set (i := 4) nd rfl (Or.inl rfl) (pe_callD D1 hr (Nat.le_refl _) (pa_cons (pv 0) (pa_cons (pv 1) pa_nil))))
      (C8.pss_cut (ps_if (pw_or (pt_cmpR op_eq (pv 1) pe_int (nomark _)) (pw_or1 (pt_cmpR op_ne (pv 3) pe_int (nomark _)))).pt
      (pss_one (ps_set (i := 4) nd rfl (Or.inl rfl) (pe_op op_sub (pv 4) pe_int)))
      pss_nil)
      (pss_one (ps_ret (pe_callD D2 hr (Nat.le_refl _) (pa_cons (pv 2) (pa_cons pe_int (pa_cons (pv 4) pa_nil)))))))), ?_⟩
    refine ⟨_, rfl, _, rfl, t, p, i, rfl, hT, hp, ?_⟩
    refine ⟨fun σ' H' => σ' = [some (.ref t), some (.int (i : Int)), some (.int d), some (.int lo), some (.int (if i = 0 ∨ lo ≠ 0 then ai p i - 1 else ai p i))] ∧ H' = H, ?_, ?_⟩
    · refine ⟨_, rfl, rfl, _, rfl, ?_⟩
      by_cases h0 : i = 0
      · refine iteP (by subst h0; rfl) ?_
        refine ⟨_, rfl, _, _, rfl, rfl, ?_, rfl⟩
        rw [if_pos (Or.inl h0)]
        rfl
      · refine iteN (nd_of (fun z => h0 (by cases z; rfl))) ?_
        refine ⟨_, rfl, rfl, _, rfl, ?_⟩
        by_cases h1 : lo = 0
        · refine iteN (by subst h1; simp) ?_
          refine ⟨?_, rfl⟩
          rw [if_neg (by rintro (z | z); exact h0 z; exact z h1)]
          rfl
        · refine iteP (by simpa using h1) ?_
          refine ⟨_, rfl, _, _, rfl, rfl, ?_, rfl⟩
          rw [if_pos (Or.inr h1)]
          rfl
    · rintro σ' H1 ⟨rfl, rfl⟩
      exact ⟨_, rfl, _, rfl, _, .int d, _, _, rfl, rfl, q⟩
end
end RF

namespace RF
open PySem L2 PyProof.Rows
theorem kRQ : ¬ (("_root" : Str) = "_period") := by decide +kernel
def ffl (d : Int) (t : Addr) : List (Str × V) := putF "_period" (.ref t) (putF "_root" (.int d) [])
theorem ffl_root (d : Int) (t : Addr) : (ffl d t).lookup ("_root" : Str) = some (.int d) := by
  unfold ffl
  rw [lookup_putF, if_neg kRQ, lookup_putF, if_pos rfl]
theorem ffl_per (d : Int) (t : Addr) : (ffl d t).lookup ("_period" : Str) = some (.ref t) := by
  unfold ffl
  rw [lookup_putF, if_pos rfl]
theorem ffl_no (d : Int) (t : Addr) {m : Str} (h1 : ¬ m = "_period") (h2 : ¬ m = "_root") : (ffl d t).lookup m = none := by
  unfold ffl
  rw [lookup_putF, if_neg h1, lookup_putF, if_neg h2]
  all_goals rfl
/-- at p: the field of the root d -/
def FldAt (K : PySem.W.Frag) (H : Hp) (C p : Addr) (d : Int) : Prop := ∃ dx t, H p = some (.ins C dx (ffl d t)) ∧ TupI K t (per d)
theorem FldAt.same {K : PySem.W.Frag} {H H' : Hp} {C p : Addr} {d : Int} (s : Same H H') (h : FldAt K H C p d) : FldAt K H' C p d := by
  obtain ⟨dx, t, h1, h2⟩ := h
  exact ⟨dx, t, s _ _ h1, h2⟩
theorem FldAt.kp {K : PySem.W.Frag} {H H' : Hp} {C p b : Addr} {d : Int} (B : Bag H b) (kp : Kp b H H') (h : FldAt K H C p d) : FldAt K H' C p d := by
  obtain ⟨dx, t, h1, h2⟩ := h
  exact ⟨dx, t, kp.at_ B h1 (fun _ z => by cases z), h2⟩
theorem FldAt.ins {K : PySem.W.Frag} {H : Hp} {C p : Addr} {d : Int} (h : FldAt K H C p d) : ∃ dx fs, H p = some (.ins C dx fs) ∧ ∀ m : Str, ¬ m = "_period" → ¬ m = "_root" → fs.lookup m = none := by
  obtain ⟨dx, t, h1, _⟩ := h
  exact ⟨dx, _, h1, fun m a b => ffl_no _ _ a b⟩
theorem perOk {d : Int} (h : Root d) : Per (per d) := ⟨by rcases h with rfl | rfl | rfl | rfl | rfl <;> decide, ai_pos h⟩
structure TxF (K : PySem.W.Frag) (mg : Str → Option Value) (C : Addr) : Prop where
  cl : Cls K C
  nR : NoAttr K C "_root"
  nP : NoAttr K C "_period"
  mg : mg "Field" = some (.ref C)
def PerK (K : PySem.W.Frag) (pd : Addr) : Prop := ∀ d, Root d → ∃ t, IDct K pd d (.ref t) ∧ TupI K t (per d)
def spFInit (K : PySem.W.Frag) (C : Addr) : Sp := fun vs H Q _ => ∃ (p dx : Addr) (d : Int), vs = [.ref p, .int d] ∧ H p = some (.ins C dx []) ∧ Root d ∧
  ∀ H', FldAt K H' C p d → (∀ b o, H b = some o → b ≠ p → H' b = some o) → Q .non H'
def spNum (K : PySem.W.Frag) : Sp := fun vs H Q _ => ∃ (v : V) (d : D), vs = [v] ∧ Rp K H v d ∧ Q (.bl (btw d 0 (10 ^ 40 - 1))) H
def spDigits (K : PySem.W.Frag) (C : Addr) : Sp := fun vs H Q _ => ∃ (p : Addr) (d n : Int), vs = [.ref p, .int n] ∧ FldAt K H C p d ∧ Root d ∧ 0 ≤ n ∧ n < 10 ^ 40 ∧
  ∀ m a H', m ≤ 266 → n < qn (per d) m → (∀ j, m = j + 1 → qn (per d) j ≤ n) → H a = none → H' a = some (.lst ((dg (per d) m n).map V.int)) → Same H H' → Q (.ref a) H'
def spValue (K : PySem.W.Frag) (C : Addr) : Sp := fun vs H Q _ => ∃ (p l : Addr) (d : Int) (ds : List Int), vs = [.ref p, .ref l] ∧ FldAt K H C p d ∧ Root d ∧ SqL K H l (ds.map V.int) ∧ Can (per d) 0 0 ds ∧ ds.length ≤ 280 ∧
  ∀ H', Same H H' → Q (.int (sw (qn (per d)) 0 ds)) H'
section
variable {P : Program} {w : World} {K : PySem.W.Frag} {mg : Str → Option Value} {base : Heap}
abbrev s_is_number : Stmt := top 10
abbrev n_is_number : List Str := ["value"]
theorem sc_is_number : FnScope n_is_number ["value"] (defScope s_is_number) := ⟨rfl, rfl, rfl, by decide +kernel, rfl, by decide +kernel, by decide +kernel⟩
theorem ok_num {f : Addr} {fd : FuncData} {k : Nat} (F : Fun K "is_number" "is_number" s_is_number f fd) (D1 : Df P w K mg base k "is_between" ["value", "low", "high"] (spBtw K)) : FnOk P w K mg base CX0 (k + 1) f fd ["value"] (spNum K) := by
  refine F.ok sc_is_number (fun vs H Q E h => ?_) (fun cdv A outer s H vs Q E hr h => ?_)
  · obtain ⟨v, d, rfl, _⟩ := h
    rfl
  · obtain ⟨v, d, rfl, hv, q⟩ := h
    refine ⟨_, (pss_one (ps_ret (pe_callD D1 hr (Nat.le_refl _) (pa_cons (pv 0) (pa_cons pe_int (pa_cons (pe_op op_sub (pe_op op_pow pe_int pe_int) pe_int) pa_nil)))))), ?_⟩
    exact ⟨_, rfl, _, _, rfl, rfl, ⟨by decide, by decide, by decide⟩, _, _, rfl, rfl, v, d, _, _, rfl, hv, q⟩
abbrev sF (i : Nat) : Stmt := inClass (top 14) i
abbrev n_FInit : List Str := ["self", "root"]
theorem sc_FInit : FnScope n_FInit ["self", "root"] (defScope (sF 1)) := ⟨rfl, rfl, rfl, by decide +kernel, rfl, by decide +kernel, by decide +kernel⟩
theorem ok_FInit {f C pd : Addr} {fd : FuncData} {k : Nat} (F : Fun K "__init__" "Field.__init__" (sF 1) f fd) (T : TxF K mg C) (mP : mg "PERIODS" = some (.ref pd)) (hP : PerK K pd)
    (D1 : Df P w K mg base k "is_root" ["value"] (spIsRoot K)) : FnOk P w K mg base CX0 (k + 1) f fd ["self", "root"] (spFInit K C) := by
  refine F.ok sc_FInit (fun vs H Q E h => ?_) (fun cdv A outer s H vs Q E hr h => ?_)
  · obtain ⟨p, dx, d, rfl, _⟩ := h
    rfl
  · obtain ⟨p, dx, d, rfl, hp, hd, q⟩ := h
    have nd := sc_FInit.nd
    refine ⟨_, PSs.nox (pss_cons (ps_if (pt_not (pt_val (pe_callD D1 hr (Nat.le_refl _) (pa_cons (pv 1) pa_nil))))
      (pss_one ps_never)
      pss_nil)
      (pss_cons (ps_fld (pv 0) (pv 1) rfl)
      (pss_one (ps_fld (pv 0) (pe_ix ix_intd (pe_glob (v := .ref pd) (by rfl) mP rfl) (pv 1) (fun _ _ => rfl)) rfl)))), ?_⟩
    have er : rootD (.int d) = true := decide_eq_true (by unfold Root at hd; simp; omega)
    obtain ⟨t, it, tt⟩ := hP d hd
    refine ⟨_, rfl, _, .int d, rfl, rfl, _, rfl, ?_⟩
    rw [er]
    refine iteF ?_
    refine ⟨_, rfl, _, rfl, p, C, dx, [], rfl, hp, T.cl, T.nR, (by show 0 < 1000; decide), ?_⟩
    refine ⟨_, rfl, _, _, _, rfl, rfl, it, _, rfl, p, C, dx, _, rfl, upd_same, T.cl, T.nP, (Nat.lt_of_le_of_lt (length_putF _ _ _) (by decide)), ?_⟩
    refine q _ ⟨dx, t, upd_same, tt⟩ fun b o e nb => ?_
    rw [upd_ne nb, upd_ne nb]
    exact e
theorem qs_get {p : List Int} {m i : Nat} (h : i < m) : (qs p m)[i]? = some (.int (qn p i)) := by
  unfold qs
  rw [List.getElem?_map, List.getElem?_range h]
  rfl
abbrev s_digin : Stmt := top 16
abbrev n_digin : List Str := ["period", "number", "found", "rest", "step", "digit"]
theorem sc_digin : FnScope n_digin ["period", "number"] (defScope s_digin) := ⟨rfl, rfl, rfl, by decide +kernel, rfl, by decide +kernel, by decide +kernel⟩
def spDigin (K : PySem.W.Frag) : Sp := fun vs H Q _ => ∃ (t : Addr) (ls : List Int) (n : Int), vs = [.ref t, .int n] ∧ TupI K t ls ∧ Per ls ∧ 0 ≤ n ∧ n < 10 ^ 40 ∧
  ∀ m a H', m ≤ 266 → n < qn ls m → (∀ j, m = j + 1 → qn ls j ≤ n) → H a = none → H' a = some (.lst ((dg ls m n).map V.int)) → Same H H' → Q (.ref a) H'
theorem ok_digin {f : Addr} {fd : FuncData} {k : Nat} (F : Fun K "digits_in" "digits_in" s_digin f fd) (T1 : mg "reversed" = none) (T2 : mg "divmod" = none)
    (D2 : Df P w K mg base k "_steps_within" ["period", "number"] (spSteps K)) : FnOk P w K mg base CX0 (k + 1) f fd ["period", "number"] (spDigin K) := by
  refine F.ok sc_digin (fun vs H Q E h => ?_) (fun cdv A outer s H vs Q E hr h => ?_)
  · obtain ⟨t, ls, n, rfl, _⟩ := h
    rfl
  · obtain ⟨t, ls, n, rfl, hT, hpr, n0, n1, q⟩ := h
    have nd := sc_digin.nd
    refine ⟨_, PSs.nox (pss_cons (ps_set (i := 2) nd rfl (Or.inl rfl) (pe_lst pa_nil))
      (pss_cons (ps_set (i := 3) nd rfl (Or.inl rfl) (pv 1))
      (pss_cons (ps_for PassesOwn.never rfl (pi_reversed (by rfl) T1 (pa_cons (pe_callD D2 hr (Nat.le_refl _) (pa_cons (pv 0) (pa_cons (pv 1) pa_nil))) pa_nil)) (pg_name (i := 4) nd rfl (Or.inl rfl))
      (pss_cons (ps_asg (pe_callB call_divmodW (by rfl) T2 (by decide +kernel) (pa_cons (pv 3) (pa_cons (pv 4) pa_nil))) (pg_tup rfl (pgs_cons (pg_name (i := 5) nd rfl (Or.inl rfl)) (pgs_cons (pg_name (i := 3) nd rfl (Or.inl rfl)) pgs_nil))))
        (pss_one (ps_expr (pe_bm PySem.F.plainAttrs_list PySem.F.slot_list_append PySem.F.type_list_append mt_append (pv 2) (pa_cons (pv 5) pa_nil))))))
      (pss_one (ps_ret (pe_revL (pv 2))))))), ?_⟩
    refine ⟨by show 0 ≤ sizeLine; decide, fun a ha => ⟨_, rfl, ?_⟩⟩
    refine ⟨_, rfl, _, rfl, t, ls, n, rfl, hT, hpr, n0, by omega, fun m b H1 hm hlt hmi nb hb sm => ?_⟩
    have n133 : n < 2 ^ 133 := by omega
    have hba : b ≠ a := ne_new nb
    have ha1 : H1 a = some (.lst []) := sm _ _ upd_same
    have sm0 : Same H H1 := (sNew (Same.refl _) ha).trans sm
    refine ⟨b, _, rfl, SqL.of hb, ?_⟩
    refine for_it (walk_rev (xs := qs (ls) m)) (fun i σ H' => ∃ (r : Int) (fs : List Int) (v4 v5 : Option V), σ = [some (.ref t), some (.int n), some (.ref a), some (.int r), v4, v5] ∧ H' a = some (.lst (fs.map V.int)) ∧ H' b = some (.lst (qs (ls) m)) ∧ Same H H' ∧ fs.length = i ∧ i ≤ m ∧ 0 ≤ r ∧ r < qn (ls) (m - i) ∧ r ≤ n ∧ dg (ls) m n = dg (ls) (m - i) r ++ fs.reverse)
      ⟨n, [], none, none, rfl, ha1, hb, sm0, rfl, Nat.zero_le _, n0, hlt, Int.le_refl _, by simp⟩ (fun i σ H' _ h => by obtain ⟨_, _, _, _, _, _, h, _⟩ := h; exact SqL.of h) ?_ ?_
    · rintro i x σ H2 H3 hi ⟨r, fs, v4, v5, rfl, h1, h2, sm2, hl, him, r0, r1, rn, e⟩ ⟨rfl, hx⟩
      rw [qs_len] at hi hx
      rw [qs_get (by omega)] at hx
      obtain rfl := Option.some.inj hx
      obtain ⟨j, rfl⟩ : ∃ j, m = i + 1 + j := ⟨m - (i + 1), by omega⟩
      have ej : i + 1 + j - 1 - i = j := by omega
      have ej2 : i + 1 + j - i = j + 1 := by omega
      have ej3 : i + 1 + j - (i + 1) = j := by omega
      rw [ej]
      rw [ej2] at r1 e
      have qp := qn_pos hpr.one j
      have b1 : r.natAbs < 2 ^ 133 := by
        have : ((r.natAbs : Nat) : Int) < 2 ^ 133 := by omega
        exact_mod_cast this
      refine ⟨_, rfl, _, rfl, _, _, rfl, divp_ok (by omega) (Nat.le_trans (PyProof.Rows.intBits_le b1) (by omega)), fun u hu => ?_⟩
      refine ⟨u, _, rfl, SqT.of upd_same, rfl, _, _, rfl, _, _, rfl, rfl, ?_⟩
      have nua : a ≠ u := fun z => by rw [← z, h1] at hu; cases hu
      have nub : b ≠ u := fun z => by rw [← z, h2] at hu; cases hu
      have h1' : upd H3 u (.tup [.int (r / qn (ls) j), .int (r % qn (ls) j)]) a = some (.lst (fs.map V.int)) := by rw [upd_ne nua]; exact h1
      refine ⟨_, rfl, .inl ⟨rfl, _, SqL.of h1'⟩, _, rfl, a, _, _, rfl, rfl, h1', by rw [List.length_map, sizeLine_eq]; omega, ?_⟩
      refine ⟨r % qn (ls) j, fs ++ [r / qn (ls) j], _, _, rfl, ?_, ?_, sm_upd (sNew sm2 hu) ha, by simp [hl], by omega, emod_lo _ (by omega), ?_, ?_, ?_⟩
      · rw [upd_same, List.map_append]; rfl
      · rw [upd_ne hba, upd_ne nub]; exact h2
      · rw [ej3]; exact emod_hi _ (by omega)
      · have := Int.emod_add_mul_ediv r (qn (ls) j)
        have := Int.mul_nonneg (show 0 ≤ qn (ls) j by omega) (Int.ediv_nonneg r0 (show 0 ≤ qn (ls) j by omega))
        omega
      · rw [e, ej3]; simp [dg]
    · rintro σ H2 ⟨r, fs, v4, v5, rfl, h1, h2, sm2, hl, him, r0, r1, rn, e⟩
      rw [qs_len, Nat.sub_self] at e
      refine ⟨_, rfl, a, _, rfl, SqL.of h1, fun z hz => ?_⟩
      have e2 : (fs.map V.int).reverse = (dg (ls) m n).map V.int := by rw [e]; simp [dg]
      rw [e2]
      exact q m z _ hm hlt hmi (sm2.free hz) upd_same (sNew sm2 hz)
abbrev n_FDig : List Str := ["self", "number"]
theorem sc_FDig : FnScope n_FDig ["self", "number"] (defScope (sF 9)) := ⟨rfl, rfl, rfl, by decide +kernel, rfl, by decide +kernel, by decide +kernel⟩
theorem ok_FDig {f C : Addr} {fd : FuncData} {k : Nat} (F : Fun K "digits" "Field.digits" (sF 9) f fd) (T : TxF K mg C)
    (D1 : Df P w K mg base k "is_number" ["value"] (spNum K)) (D2 : Df P w K mg base k "digits_in" ["period", "number"] (spDigin K)) : FnOk P w K mg base CX0 (k + 1) f fd ["self", "number"] (spDigits K C) := by
  refine F.ok sc_FDig (fun vs H Q E h => ?_) (fun cdv A outer s H vs Q E hr h => ?_)
  · obtain ⟨p, d, n, rfl, _⟩ := h
    rfl
  · obtain ⟨p, d, n, rfl, hF, hd, n0, n1, q⟩ := h
    have nd := sc_FDig.nd
    obtain ⟨dx, t, hp, hT⟩ := hF
    have hpr := perOk hd
    refine ⟨_, PSs.nox (pss_cons (ps_if (pt_not (pt_val (pe_callD D1 hr (Nat.le_refl _) (pa_cons (pv 1) pa_nil))))
      (pss_one ps_never)
      pss_nil)
      (pss_one (ps_ret (pe_callD D2 hr (Nat.le_refl _) (pa_cons (pe_fld (pv 0) rfl) (pa_cons (pv 1) pa_nil)))))), ?_⟩
    have eb : btw (.int n) 0 (10 ^ 40 - 1) = true := by
      show (decide (0 ≤ n) && decide (n ≤ 10 ^ 40 - 1)) = true
      simp only [Bool.and_eq_true, decide_eq_true_eq]
      omega
    refine ⟨_, rfl, _, .int n, rfl, rfl, _, rfl, ?_⟩
    rw [eb]
    refine iteF ?_
    exact ⟨_, rfl, p, C, dx, _, _, rfl, hp, T.cl, T.nP, ffl_per d t, _, rfl, t, per d, n, rfl, hT, hpr, n0, n1, q⟩
end
end RF

namespace RF
open PySem L2 PyProof.Rows
section
variable {P : Program} {w : World} {K : PySem.W.Frag} {mg : Str → Option Value} {base : Heap}
abbrev n_FVal : List Str := ["self", "digits", "total", "before", "here", "lower", "place", "digit"]
theorem sc_FVal : FnScope n_FVal ["self", "digits"] (defScope (sF 10)) := ⟨rfl, rfl, rfl, by decide +kernel, rfl, by decide +kernel, by decide +kernel⟩
theorem drop_get {ds : List Int} {i : Nat} {x : V} (h : (ds.map V.int)[i]? = some x) : ∃ d, x = .int d ∧ ds.drop i = d :: ds.drop (i + 1) := by
  rw [List.getElem?_map] at h
  have hi : i < ds.length := by
    refine Nat.not_le.mp fun z => ?_
    rw [List.getElem?_eq_none z] at h
    cases h
  rw [List.getElem?_eq_getElem hi] at h
  exact ⟨ds[i], (Option.some.inj h).symm, List.drop_eq_getElem_cons hi⟩
theorem ok_FVal {f C : Addr} {fd : FuncData} {k : Nat} (F : Fun K "value" "Field.value" (sF 10) f fd) (T : TxF K mg C) (T1 : mg "enumerate" = none)
    (D1 : Df P w K mg base k "can_stand" ["period", "place", "digit", "lower"] (spCan K)) (D2 : Df P w K mg base k "_part_above" ["period", "place"] (spPart K)) : FnOk P w K mg base CX0 (k + 1) f fd ["self", "digits"] (spValue K C) := by
  refine F.ok sc_FVal (fun vs H Q E h => ?_) (fun cdv A outer s H vs Q E hr h => ?_)
  · obtain ⟨p, l, d, ds, rfl, _⟩ := h
    rfl
  · obtain ⟨p, l, d, ds, rfl, hF, hd, hl, hc, hlen, q⟩ := h
    have nd := sc_FVal.nd
    obtain ⟨dx, t, hp, hT⟩ := hF
    have hpr := perOk hd
    refine ⟨_, PSs.nox (pss_cons (ps_set (i := 2) nd rfl (Or.inl rfl) pe_int)
      (pss_cons (ps_asg (pe_tup (pa_cons pe_int (pa_cons pe_int pa_nil))) (pg_tup rfl (pgs_cons (pg_name (i := 3) nd rfl (Or.inl rfl)) (pgs_cons (pg_name (i := 4) nd rfl (Or.inl rfl)) pgs_nil))))
      (pss_cons (ps_set (i := 5) nd rfl (Or.inl rfl) pe_int)
      (pss_cons (ps_for PassesOwn.never rfl (pi_enum (by rfl) T1 (pa_cons (pv 1) pa_nil)) (pg_tup rfl (pgs_cons (pg_name (i := 6) nd rfl (Or.inl rfl)) (pgs_cons (pg_name (i := 7) nd rfl (Or.inl rfl)) pgs_nil)))
      (pss_cons (ps_if (pt_not (pt_val (pe_callD D1 hr (Nat.le_refl _) (pa_cons (pe_fld (pv 0) rfl) (pa_cons (pv 6) (pa_cons (pv 7) (pa_cons (pv 5) pa_nil)))))))
        (pss_one ps_never)
        pss_nil)
        (pss_cons (ps_set (i := 2) nd rfl (Or.inl rfl) (pe_op op_add (pv 2) (pe_op op_mulW (pv 7) (pv 4))))
        (pss_cons (ps_par (i := 3) (j := 4) rfl nd rfl rfl (by decide) rfl rfl (pa_cons (pv 4) (pa_cons (pe_op op_add (pe_op op_mulW (pe_callD D2 hr (Nat.le_refl _) (pa_cons (pe_fld (pv 0) rfl) (pa_cons (pv 6) pa_nil))) (pv 4)) (pv 3)) pa_nil)) (by kernel_rfl))
        (pss_one (ps_set (i := 5) nd rfl (Or.inl rfl) (pv 7)))))))
      (pss_one (ps_ret (pv 2))))))), ?_⟩
    refine ⟨by show 2 ≤ sizeLine; decide, fun b hb => ⟨b, _, rfl, SqT.of upd_same, rfl, _, _, rfl, _, _, rfl, rfl, ?_⟩⟩
    have sm0 := sNew (o := .tup [.int 0, .int 1]) (Same.refl H) hb
    refine ⟨_, rfl, l, _, rfl, sm0.seq hl, ?_⟩
    refine for_it (walk_enum (xs := ds.map V.int)) (fun i σ H' => ∃ (tot lo : Int) (v6 v7 : Option V), σ = [some (.ref p), some (.ref l), some (.int tot), some (.int (stp (per d) i).1), some (.int (qn (per d) i)), some (.int lo), v6, v7] ∧ tot + sw (qn (per d)) i (ds.drop i) = sw (qn (per d)) 0 ds ∧ Can (per d) i lo (ds.drop i) ∧ Same H H')
      ⟨0, 0, none, none, rfl, by simp, hc, sm0⟩ (fun i σ H' _ h => by obtain ⟨_, _, _, _, _, _, _, h⟩ := h; exact h.seq hl) ?_ ?_
    · rintro i x σ H2 H3 hi ⟨tot, lo, v6, v7, rfl, es, hcn, sm⟩ ⟨u, x1, x2, rfl, hu, rfl, e1, e2⟩
      rw [List.length_map] at hi
      obtain rfl := Option.some.inj e1
      obtain ⟨dg, rfl, ed⟩ := drop_get e2
      rw [ed] at hcn es
      have sm3 : Same H (upd H2 u (.tup [.int (i : Nat), .int dg])) := sNew sm hu
      have hp3 := sm3 _ _ hp
      obtain ⟨⟨d0, d1, d2⟩, hcn'⟩ := hcn
      refine ⟨u, _, rfl, SqT.of upd_same, rfl, _, _, rfl, _, _, rfl, rfl, ?_⟩
      refine ⟨_, rfl, p, C, dx, _, _, rfl, hp3, T.cl, T.nP, ffl_per d t, _, rfl, _, rfl, _, rfl, t, per d, i, dg, lo, rfl, hT, hpr, _, rfl, ?_⟩
      have eb : btw (.int dg) 0 (if i = 0 ∨ lo ≠ 0 then ai (per d) i - 1 else ai (per d) i) = true := by
        show (decide (0 ≤ dg) && decide (dg ≤ _)) = true
        simp only [Bool.and_eq_true, decide_eq_true_eq]
        refine ⟨d0, ?_⟩
        split
        · exact d2 (by assumption)
        · exact d1
      rw [eb]
      refine iteF ?_
      have bq := qn_bd' hpr.bd (show i ≤ 280 by omega)
      have b4 := hpr.bd i
      refine ⟨_, rfl, _, rfl, _, rfl, _, _, rfl, rfl, mulOk (n := 3) (m := 841) (Nat.lt_of_le_of_lt (show dg.natAbs ≤ 4 by omega) (by decide)) bq (by decide) (by decide) (by decide), _, _, rfl, rfl, ?_⟩
      refine ⟨_, rfl, _, rfl, p, C, dx, _, _, rfl, hp3, T.cl, T.nP, ffl_per d t, _, rfl, t, per d, i, rfl, hT, hpr, _, rfl, _, _, rfl, rfl, mulOk (n := 3) (m := 841) (Nat.lt_of_le_of_lt (show (ai (per d) i).natAbs ≤ 4 by omega) (by decide)) bq (by decide) (by decide) (by decide), _, rfl, _, _, rfl, rfl, _, _, rfl, ?_⟩
      refine ⟨_, rfl, _, _, _, _, rfl, ?_, hcn', sm3⟩
      rw [← es]
      simp only [sw]
      omega
    · rintro σ H2 ⟨tot, lo, v6, v7, rfl, es, hcn, sm⟩
      rw [List.length_map, List.drop_length] at es
      refine ⟨_, rfl, ?_⟩
      have : tot = sw (qn (per d)) 0 ds := by rw [← es]; simp [sw]
      rw [this]
      exact q _ sm
end
end RF

namespace RF
open PySem L2 PyProof.Rows
theorem atI_back {α : Type} {xs : List α} {j : Nat} {v : α} (h1 : 1 ≤ j) (h2 : j ≤ xs.length) (h : xs[xs.length - j]? = some v) : atI xs (-(j : Int)) = some v := by
  have e : ixN xs.length (-(j : Int)) = some (xs.length - j) := by
    unfold ixN
    rw [if_neg (by omega), if_pos (by omega)]
    congr 1
    omega
  unfold atI
  rw [e]
  exact h
def spPeriod : Sp := fun vs H Q _ => ∃ (d : Int), vs = [.int d] ∧ Root d ∧ ∀ a H', H a = none → H' a = some (.lst ((per d).map V.int)) → Same H H' → Q (.ref a) H'
def spLSteps : Sp := fun vs H Q _ => ∃ (d : Int) (m : Nat), vs = [.int d, .int (m : Int)] ∧ Root d ∧ m ≤ 279 ∧ ∀ a H', H a = none → H' a = some (.lst (qs (per d) (m + 1))) → Same H H' → Q (.ref a) H'
section
variable {P : Program} {w : World} {K : PySem.W.Frag} {mg : Str → Option Value} {base : Heap}
abbrev s_law_period : Stmt := top 24
abbrev n_law_period : List Str := ["_law_root_here"]
theorem sc_law_period : FnScope n_law_period ["_law_root_here"] (defScope s_law_period) := ⟨rfl, rfl, rfl, by decide +kernel, rfl, by decide +kernel, by decide +kernel⟩
theorem ok_lper {f : Addr} {fd : FuncData} {k : Nat} (F : Fun K "_law_period" "_law_period" s_law_period f fd) : FnOk P w K mg base CX0 (k + 1) f fd ["_law_root_here"] spPeriod := by
  refine F.ok sc_law_period (fun vs H Q E h => ?_) (fun cdv A outer s H vs Q E hr h => ?_)
  · obtain ⟨d, rfl, _⟩ := h
    rfl
  · obtain ⟨d, rfl, hd, q⟩ := h
    refine ⟨_, (pss_one (ps_ret (pe_dget (hu_of hr) (pe_disp (pps_cons pe_int (pe_lst (pa_cons pe_int pa_nil)) (pps_cons pe_int (pe_lst (pa_cons pe_int (pa_cons pe_int pa_nil))) (pps_cons pe_int (pe_lst (pa_cons pe_int pa_nil)) (pps_cons pe_int (pe_lst (pa_cons pe_int (pa_cons pe_int pa_nil))) (pps_cons pe_int (pe_lst (pa_cons pe_int pa_nil)) pps_nil))))) (by rfl) (by rfl) (fun z => by cases z) (by decide)) (pv 0) (fun _ _ => rfl)))), ?_⟩
    refine fun b hb => ?_
    refine ⟨by show 1 ≤ sizeLine; decide, fun a1 h1 => ⟨by show 2 ≤ sizeLine; decide, fun a2 h2 => ⟨by show 1 ≤ sizeLine; decide, fun a3 h3 => ⟨by show 2 ≤ sizeLine; decide, fun a4 h4 => ⟨by show 1 ≤ sizeLine; decide, fun a5 h5 => ?_⟩⟩⟩⟩⟩
    have b1 : a1 ≠ b := ne_new h1
    have b2 : a2 ≠ b := ne_new (of_new h2)
    have b3 : a3 ≠ b := ne_new (of_new (of_new h3))
    have b4 : a4 ≠ b := ne_new (of_new (of_new (of_new h4)))
    have b5 : a5 ≠ b := ne_new (of_new (of_new (of_new (of_new h5))))
    refine ⟨by rw [upd_ne b5.symm, upd_ne b4.symm, upd_ne b3.symm, upd_ne b2.symm, upd_ne b1.symm, upd_same], [(Sum.inl 2, .ref a1), (Sum.inl 3, .ref a2), (Sum.inl 5, .ref a3), (Sum.inl 6, .ref a4), (Sum.inl 13, .ref a5)], rfl, by show 5 ≤ 15; decide, _, rfl, b, ?_⟩
    have sm5 : Same H (upd (upd (upd (upd (upd (upd H b (.dK [])) a1 (.lst [.int 2])) a2 (.lst [.int 1, .int 2])) a3 (.lst [.int 1])) a4 (.lst [.int 2, .int 4])) a5 (.lst [.int 3])) := sNew (sNew (sNew (sNew (sNew (sNew (Same.refl _) hb) h1) h2) h3) h4) h5
    have smp := sm_upd (o := .dK (mergeK [] [(Sum.inl 2, .ref a1), (Sum.inl 3, .ref a2), (Sum.inl 5, .ref a3), (Sum.inl 6, .ref a4), (Sum.inl 13, .ref a5)])) sm5 hb
    have n12 : a2 ≠ a1 := ne_new h2
    have n23 : a3 ≠ a2 := ne_new h3
    have n13 : a3 ≠ a1 := ne_new (of_new h3)
    have n34 : a4 ≠ a3 := ne_new h4
    have n24 : a4 ≠ a2 := ne_new (of_new h4)
    have n14 : a4 ≠ a1 := ne_new (of_new (of_new h4))
    have n45 : a5 ≠ a4 := ne_new h5
    have n35 : a5 ≠ a3 := ne_new (of_new h5)
    have n25 : a5 ≠ a2 := ne_new (of_new (of_new h5))
    have n15 : a5 ≠ a1 := ne_new (of_new (of_new (of_new h5)))
    rcases hd with rfl | rfl | rfl | rfl | rfl
    · exact ⟨.ref a1, rfl, .inl ⟨_, Sum.inl 2, .inl upd_same, rfl, rfl⟩, q a1 _ (of_new h1) (by rw [upd_ne b1, upd_ne n15.symm, upd_ne n14.symm, upd_ne n13.symm, upd_ne n12.symm, upd_same]; rfl) smp⟩
    · exact ⟨.ref a2, rfl, .inl ⟨_, Sum.inl 3, .inl upd_same, rfl, rfl⟩, q a2 _ (of_new (of_new h2)) (by rw [upd_ne b2, upd_ne n25.symm, upd_ne n24.symm, upd_ne n23.symm, upd_same]; rfl) smp⟩
    · exact ⟨.ref a3, rfl, .inl ⟨_, Sum.inl 5, .inl upd_same, rfl, rfl⟩, q a3 _ (of_new (of_new (of_new h3))) (by rw [upd_ne b3, upd_ne n35.symm, upd_ne n34.symm, upd_same]; rfl) smp⟩
    · exact ⟨.ref a4, rfl, .inl ⟨_, Sum.inl 6, .inl upd_same, rfl, rfl⟩, q a4 _ (of_new (of_new (of_new (of_new h4)))) (by rw [upd_ne b4, upd_ne n45.symm, upd_same]; rfl) smp⟩
    · exact ⟨.ref a5, rfl, .inl ⟨_, Sum.inl 13, .inl upd_same, rfl, rfl⟩, q a5 _ (of_new (of_new (of_new (of_new (of_new h5))))) (by rw [upd_ne b5, upd_same]; rfl) smp⟩
abbrev s_law_steps : Stmt := top 25
abbrev n_law_steps : List Str := ["_law_root_here", "_law_many", "_law_found", "_law_last", "_law_period_here", "_law_k"]
theorem sc_law_steps : FnScope n_law_steps ["_law_root_here", "_law_many"] (defScope s_law_steps) := ⟨rfl, rfl, rfl, by decide +kernel, rfl, by decide +kernel, by decide +kernel⟩
theorem ok_lst {f : Addr} {fd : FuncData} {k : Nat} (F : Fun K "_law_steps" "_law_steps" s_law_steps f fd) (T : TB mg) (T1 : mg "range" = none) (D1 : Df P w K mg base k "_law_period" ["_law_root_here"] spPeriod) : FnOk P w K mg base CX0 (k + 1) f fd ["_law_root_here", "_law_many"] spLSteps := by
  refine F.ok sc_law_steps (fun vs H Q E h => ?_) (fun cdv A outer s H vs Q E hr h => ?_)
  · obtain ⟨d, m, rfl, _⟩ := h
    rfl
  · obtain ⟨d, m, rfl, hd, hm, q⟩ := h
    have nd := sc_law_steps.nd
    have hpr := perOk hd
    refine ⟨_, (pss_cons (ps_par (i := 2) (j := 3) rfl nd rfl rfl (by decide) rfl rfl (pa_cons (pe_lst (pa_cons pe_int pa_nil)) (pa_cons pe_int pa_nil)) (by kernel_rfl))
      (pss_cons (ps_set (i := 4) nd rfl (Or.inl rfl) (pe_callD D1 hr (Nat.le_refl _) (pa_cons (pv 0) pa_nil)))
      (pss_cons (ps_for PassesOwn.never rfl (pi_range1 rfl T1 (pa_cons (pv 1) pa_nil)) (pg_name (i := 5) nd rfl (Or.inl rfl))
      (pss_cons (ps_expr (pe_bm PySem.F.plainAttrs_list PySem.F.slot_list_append PySem.F.type_list_append mt_append (pv 2) (pa_cons (pe_op op_add (pe_op op_mulW (pe_ix ix_list (pv 4) (pe_op op_mod (pe_callTy call_int1 (by rfl) T.int (by decide +kernel) (pa_cons (pv 5) pa_nil)) (pe_callB call_len_seq (by rfl) T.len (by decide +kernel) (pa_cons (pv 4) pa_nil))) (fun _ _ => rfl)) (pe_ix ix_list (pv 2) (pe_un un_neg pe_int) (fun _ _ => rfl))) (pv 3)) pa_nil)))
        (pss_one (ps_set (i := 3) nd rfl (Or.inl rfl) (pe_ix ix_list (pv 2) (pe_un un_neg pe_int) (fun _ _ => rfl))))))
      (pss_one (ps_ret (pv 2)))))), ?_⟩
    refine ⟨by show 1 ≤ sizeLine; decide, fun a ha => ⟨_, _, rfl, ?_⟩⟩
    refine ⟨_, rfl, d, rfl, hd, fun t H1 nt ht sm => ?_⟩
    have sm0 : Same H H1 := (sNew (Same.refl _) ha).trans sm
    have hta : t ≠ a := ne_new nt
    refine ⟨_, rfl, _, rfl, by omega, by omega, for_range (n := m) (fun i σ H' => ∃ v : Option V, σ = [some (.int d), some (.int (m : Int)), some (.ref a), some (.int (stp (per d) i).1), some (.ref t), v] ∧ H' a = some (.lst (qs (per d) (i + 1))) ∧ H' t = some (.lst ((per d).map V.int)) ∧ Same H H')
      ⟨none, rfl, by rw [sm a _ upd_same]; rfl, ht, sm0⟩ ?_ ?_⟩
    · rintro i σ H2 hi ⟨v, rfl, h1, h2, sm2⟩
      have hx1 : atI (qs (per d) (i + 1)) (-1) = some (.int (qn (per d) i)) := by
        rw [← qs_snoc]; exact atI_last _ _
      have hx2 : atI (qs (per d) (i + 1 + 1)) (-2) = some (.int (qn (per d) i)) := atI_back (j := 2) (by decide) (by rw [qs_len]; omega) (by rw [qs_len]; exact qs_get (by omega))
      have ei : (0 : Int) + ((i : Nat) : Int) = ((i : Nat) : Int) := by omega
      rw [ei]
      refine ⟨_, rfl, .inl ⟨rfl, _, SqL.of h1⟩, _, rfl, _, rfl, .inl ⟨_, rfl, _, rfl, t, _, rfl, .inl (SqL.of h2), _, _, rfl, rfl, (by show (0 : Int) < ((((per d).map V.int).length : Nat) : Int); rw [List.length_map]; have := hpr.len; omega), t, _, _, _, rfl, rfl, SqL.of h2, ai_atI hpr i, ?_⟩⟩
      refine ⟨_, rfl, _, rfl, a, _, _, _, rfl, rfl, SqL.of h1, hx1, _, _, rfl, rfl, mulOk (n := 3) (m := 841) (Nat.lt_of_le_of_lt (show (ai (per d) i).natAbs ≤ 4 by have := hpr.bd i; omega) (by decide)) (qn_bd' hpr.bd (by omega)) (by decide) (by decide) (by decide), _, rfl, _, _, rfl, rfl, a, _, _, rfl, rfl, h1, by rw [qs_len, sizeLine_eq]; omega, ?_⟩
      have e1 : ai (per d) i * qn (per d) i + (stp (per d) i).1 = qn (per d) (i + 1) := rfl
      dsimp only
      rw [e1, qs_snoc]
      refine ⟨_, rfl, _, rfl, a, _, _, _, rfl, rfl, SqL.of upd_same, hx2, ⟨_, rfl, upd_same, by rw [upd_ne hta]; exact h2, sm_upd sm2 ha⟩⟩
    · rintro σ H2 ⟨v, rfl, h1, h2, sm2⟩
      exact ⟨_, rfl, q a _ ha h1 sm2⟩
end
end RF

namespace RF
/-! ### the lists that can stand, all of one length -/
/-- the digit d behind a list whose last digit is lo, at place i, as the law asks it -/
def lcan (p : List Int) (i : Nat) (d lo : Int) : Bool := decide (0 ≤ d ∧ (d < ai p i ∨ (i ≠ 0 ∧ d = ai p i ∧ lo = 0)))
def dgs (p : List Int) (i : Nat) (s : List Int) : List Int := ([0, 1, 2, 3, 4] : List Int).filter fun d => lcan p i d (s.getLastD 0)
def nxt (p : List Int) (i : Nat) (s : List Int) : List (List Int) := (dgs p i s).map fun d => s ++ [d]
def LL (p : List Int) : Nat → List (List Int)
  | 0 => [[]]
  | i + 1 => (LL p i).flatMap (nxt p i)
def vl (p : List Int) (s : List Int) : Int := sw (qn p) 0 s
theorem can_unsnoc {p : List Int} {d : Int} : ∀ l i lo, Can p i lo (l ++ [d]) → Can p i lo l ∧ 0 ≤ d ∧ d ≤ ai p (i + l.length) ∧ (i + l.length = 0 ∨ l.getLastD lo ≠ 0 → d ≤ ai p (i + l.length) - 1)
  | [], i, lo, h => ⟨trivial, by simpa using h.1⟩
  | c :: l, i, lo, h => by
    obtain ⟨h1, h2⟩ := h
    obtain ⟨a, b⟩ := can_unsnoc l (i + 1) c h2
    have e : i + (c :: l).length = i + 1 + l.length := by simp; omega
    have e2 : (c :: l).getLastD lo = l.getLastD c := by cases l <;> rfl
    rw [e, e2]
    exact ⟨⟨h1, a⟩, b⟩
theorem LL_can {p : List Int} : ∀ i s, s ∈ LL p i → s.length = i ∧ Can p 0 0 s
  | 0, s, h => by
    simp only [LL, List.mem_singleton] at h
    subst h
    exact ⟨rfl, trivial⟩
  | i + 1, s, h => by
    simp only [LL, List.mem_flatMap, nxt, dgs, List.mem_map, List.mem_filter] at h
    obtain ⟨t, ht, d, ⟨_, hd⟩, rfl⟩ := h
    obtain ⟨l1, l2⟩ := LL_can i t ht
    have hd := of_decide_eq_true hd
    refine ⟨by simp [l1], can_snoc t 0 0 l2 ?_⟩
    rw [Nat.zero_add, l1]
    refine ⟨hd.1, by omega, fun hh => ?_⟩
    rcases hh with hh | hh <;> omega
theorem LL_all {p : List Int} (h4 : ∀ i, ai p i ≤ 4) : ∀ i s, s.length = i → Can p 0 0 s → s ∈ LL p i
  | 0, s, hl, _ => by
    cases s with
    | nil => simp [LL]
    | cons _ _ => simp at hl
  | i + 1, s, hl, hc => by
    obtain ⟨t, d, rfl⟩ : ∃ t d, s = t ++ [d] := ⟨s.dropLast, s.getLast (by intro z; rw [z] at hl; simp at hl), (List.dropLast_concat_getLast _).symm⟩
    have l1 : t.length = i := by simpa using hl
    obtain ⟨c1, d0, d1, d2⟩ := can_unsnoc t 0 0 hc
    rw [Nat.zero_add, l1] at d1 d2
    have := h4 i
    simp only [LL, List.mem_flatMap, nxt, dgs, List.mem_map, List.mem_filter]
    refine ⟨t, LL_all h4 i t l1 c1, d, ⟨?_, ?_⟩, rfl⟩
    · simp only [List.mem_cons, List.not_mem_nil, or_false]
      omega
    · unfold lcan
      refine decide_eq_true ⟨d0, ?_⟩
      by_cases hh : i = 0 ∨ t.getLastD 0 ≠ 0
      · exact .inl (by have := d2 hh; omega)
      · by_cases he : d = ai p i
        · refine .inr ⟨by omega, he, ?_⟩
          exact Classical.not_not.mp fun z => hh (.inr z)
        · exact .inl (by omega)
theorem LL_nodup {p : List Int} : ∀ i, (LL p i).Nodup
  | 0 => by simp [LL]
  | i + 1 => by
    unfold LL List.Nodup
    rw [List.pairwise_flatMap]
    refine ⟨fun s _ => ?_, ?_⟩
    · unfold nxt
      rw [List.pairwise_map]
      have hd : (dgs p i s).Pairwise fun a b => a ≠ b := List.Pairwise.filter _ (show ([0, 1, 2, 3, 4] : List Int).Pairwise (fun a b => a ≠ b) by decide)
      refine hd.imp ?_
      intro a b h z
      have := List.append_cancel_left z
      exact h (by simpa using this)
    · refine List.Pairwise.imp (R := (· ≠ ·)) (fun {a b} h x hx y hy z => h ?_) (LL_nodup i)
      unfold nxt at hx hy
      rw [List.mem_map] at hx hy
      obtain ⟨d, _, rfl⟩ := hx
      obtain ⟨e, _, rfl⟩ := hy
      exact (List.append_inj' z rfl).1
theorem vl_nn {p : List Int} (h : ∀ i, 1 ≤ ai p i) {s : List Int} (hc : Can p 0 0 s) : 0 ≤ vl p s := sw_nn (fun i => by have := qn_pos h i; omega) _ _ (can_bnd _ _ _ hc)
theorem vl_snoc {p : List Int} {d : Int} (l : List Int) : vl p (l ++ [d]) = vl p l + d * qn p l.length := by
  unfold vl
  rw [sw_snoc, Nat.zero_add]
theorem vl_lt {p : List Int} (h : ∀ i, 1 ≤ ai p i) : ∀ n s, s.length = n → Can p 0 0 s → vl p s < qn p n ∧ (∀ t, s = t ++ [0] → vl p s < (stp p n).1)
  | 0, s, hl, _ => by
    cases s with
    | nil => exact ⟨by have := qn_pos h 0; simp [vl, sw]; omega, fun t z => by simp at z⟩
    | cons _ _ => simp at hl
  | n + 1, s, hl, hc => by
    obtain ⟨t, d, rfl⟩ : ∃ t d, s = t ++ [d] := ⟨s.dropLast, s.getLast (by intro z; rw [z] at hl; simp at hl), (List.dropLast_concat_getLast _).symm⟩
    have l1 : t.length = n := by simpa using hl
    obtain ⟨c1, d0, d1, d2⟩ := can_unsnoc t 0 0 hc
    rw [Nat.zero_add, l1] at d1 d2
    obtain ⟨v1, v2⟩ := vl_lt h n t l1 c1
    have ex : qn p (n + 1) = ai p n * qn p n + (stp p n).1 := rfl
    have ex2 : (stp p (n + 1)).1 = qn p n := rfl
    have q1 := qn_pos h n
    have s1 := stp_pos h n
    rw [vl_snoc, l1, ex, ex2]
    refine ⟨?_, fun u z => ?_⟩
    · by_cases hh : d ≤ ai p n - 1
      · have := Int.mul_le_mul_of_nonneg_right hh (show 0 ≤ qn p n by omega)
        rw [Int.sub_mul] at this
        omega
      · have e : d = ai p n := by omega
        have z : ¬ (n = 0 ∨ t.getLastD 0 ≠ 0) := fun z => hh (d2 z)
        have n0 : n ≠ 0 := fun q => z (.inl q)
        have t0 : t.getLastD 0 = 0 := Classical.not_not.mp fun q => z (.inr q)
        obtain ⟨u, c, rfl⟩ : ∃ u c, t = u ++ [c] := ⟨t.dropLast, t.getLast (by intro z; rw [z] at l1; simp at l1; omega), (List.dropLast_concat_getLast _).symm⟩
        rw [List.getLastD_concat] at t0
        subst t0
        have := v2 u rfl
        rw [e]
        omega
    · obtain ⟨_, e⟩ := List.append_inj' z rfl
      have e : d = 0 := by simpa using e
      rw [e]
      omega
/-! ### by the greatest place -/
def lexI : List Int → List Int → Bool
  | [], [] => false
  | [], _ :: _ => true
  | _ :: _, [] => false
  | a :: r, b :: t => if a = b then lexI r t else decide (a < b)
theorem lexI_tri : ∀ u v, lexI u v = false → lexI v u = false → u = v
  | [], [], _, _ => rfl
  | [], _ :: _, h, _ => by simp [lexI] at h
  | _ :: _, [], _, h => by simp [lexI] at h
  | a :: r, b :: t, h1, h2 => by
    unfold lexI at h1 h2
    by_cases e : a = b
    · subst e
      rw [if_pos rfl] at h1 h2
      rw [lexI_tri r t h1 h2]
    · rw [if_neg e] at h1
      rw [if_neg (Ne.symm e)] at h2
      simp only [decide_eq_false_iff_not] at h1 h2
      omega
theorem lex_vl {p : List Int} (h : ∀ i, 1 ≤ ai p i) : ∀ n u v, u.length = n → v.length = n → Can p 0 0 u.reverse → Can p 0 0 v.reverse → (lexI u v = true ↔ vl p u.reverse < vl p v.reverse)
  | 0, u, v, hu, hv, _, _ => by
    cases u with
    | nil =>
      cases v with
      | nil => simp [lexI]
      | cons _ _ => simp at hv
    | cons _ _ => simp at hu
  | n + 1, u, v, hu, hv, cu, cv => by
    cases u with
    | nil => simp at hu
    | cons a r =>
      cases v with
      | nil => simp at hv
      | cons b t =>
        have lr : r.length = n := by simpa using hu
        have lt : t.length = n := by simpa using hv
        rw [List.reverse_cons] at cu cv
        obtain ⟨c1, a0, _⟩ := can_unsnoc _ 0 0 cu
        obtain ⟨c2, b0, _⟩ := can_unsnoc _ 0 0 cv
        rw [List.reverse_cons, List.reverse_cons, vl_snoc, vl_snoc, List.length_reverse, List.length_reverse, lr, lt]
        have v1 := (vl_lt h n r.reverse (by simp [lr]) c1).1
        have v2 := (vl_lt h n t.reverse (by simp [lt]) c2).1
        have n1 := vl_nn h c1
        have n2 := vl_nn h c2
        have q1 := qn_pos h n
        unfold lexI
        by_cases e : a = b
        · subst e
          rw [if_pos rfl, lex_vl h n r t lr lt c1 c2]
          omega
        · rw [if_neg e, decide_eq_true_eq]
          rcases Int.lt_or_gt_of_ne e with g | g
          · have := Int.mul_le_mul_of_nonneg_right (show a + 1 ≤ b by omega) (show 0 ≤ qn p n by omega)
            rw [Int.add_mul] at this
            omega
          · have := Int.mul_le_mul_of_nonneg_right (show b + 1 ≤ a by omega) (show 0 ≤ qn p n by omega)
            rw [Int.add_mul] at this
            omega
theorem vl_inj {p : List Int} (h : ∀ i, 1 ≤ ai p i) {n : Nat} {u v : List Int} (hu : u.length = n) (hv : v.length = n) (cu : Can p 0 0 u) (cv : Can p 0 0 v) (e : vl p u = vl p v) : u = v := by
  have k1 := lex_vl h n u.reverse v.reverse (by simp [hu]) (by simp [hv]) (by simpa using cu) (by simpa using cv)
  have k2 := lex_vl h n v.reverse u.reverse (by simp [hv]) (by simp [hu]) (by simpa using cv) (by simpa using cu)
  rw [List.reverse_reverse, List.reverse_reverse] at k1 k2
  have := lexI_tri u.reverse v.reverse (by
    cases hh : lexI u.reverse v.reverse
    · rfl
    · have := k1.mp hh; omega) (by
    cases hh : lexI v.reverse u.reverse
    · rfl
    · have := k2.mp hh; omega)
  have := congrArg List.reverse this
  simpa using this
theorem rng_of : ∀ (N : Nat) (lo : Int) (W : List Int), W.Pairwise (· < ·) → (∀ n, n ∈ W ↔ lo ≤ n ∧ n < lo + N) → W = (List.range N).map fun (i : Nat) => lo + (i : Int)
  | 0, lo, W, _, h => by
    cases W with
    | nil => rfl
    | cons x r => have := (h x).mp (by simp); omega
  | N + 1, lo, W, hp, h => by
    cases W with
    | nil => have := (h lo).mpr (by omega); simp at this
    | cons x r =>
      have hx := (h x).mp (by simp)
      rw [List.pairwise_cons] at hp
      have e : x = lo := by
        have := (h lo).mpr (by omega)
        rcases List.mem_cons.mp this with z | z
        · exact z.symm
        · have := hp.1 _ z; omega
      subst e
      have := rng_of N (x + 1) r hp.2 fun n => by
        refine ⟨fun hn => ?_, fun hn => ?_⟩
        · have := (h n).mp (by simp [hn])
          have := hp.1 _ hn
          omega
        · have := (h n).mpr (by omega)
          rcases List.mem_cons.mp this with z | z
          · omega
          · exact z
      rw [this, List.range_succ_eq_map, List.map_cons, List.map_map]
      congr 1
      · simp
      · refine List.map_congr_left fun i _ => ?_
        show x + 1 + (i : Int) = x + ((i + 1 : Nat) : Int)
        omega
theorem dg_vl {p : List Int} (h : ∀ i, 1 ≤ ai p i) {m : Nat} {s : List Int} (hl : s.length = m) (hc : Can p 0 0 s) : dg p m (vl p s) = s := by
  have v1 := (vl_lt h m s hl hc).1
  have v0 := vl_nn h hc
  have ⟨c, e⟩ := dg_ok h m (vl p s) v0 v1
  exact vl_inj h (dg_len _ _) hl c hc e
/-- sorted by the greatest place: the digits of 0, 1, 2 and so on -/
theorem sorted_dg {p : List Int} (h : ∀ i, 1 ≤ ai p i ∧ ai p i ≤ 4) {m : Nat} {Y : List (List Int)} (hY : Y.Perm ((LL p m).map List.reverse)) (hs : Y.Pairwise fun x y => lexI y x = false) :
    Y.map List.reverse = (List.range (qn p m).toNat).map fun (n : Nat) => dg p m (n : Int) := by
  have h1 := fun i => (h i).1
  have hm : ∀ y, y ∈ Y ↔ y.reverse ∈ LL p m := fun y => by
    rw [hY.mem_iff, List.mem_map]
    exact ⟨fun ⟨z, hz, e⟩ => by rw [← e, List.reverse_reverse]; exact hz, fun hz => ⟨_, hz, List.reverse_reverse _⟩⟩
  have nd : Y.Nodup := hY.nodup_iff.mpr (by
    unfold List.Nodup
    rw [List.pairwise_map]
    exact List.Pairwise.imp (fun hh z => hh (List.reverse_inj.mp z)) (LL_nodup m))
  have both : Y.Pairwise fun x y => lexI y x = false ∧ x ≠ y := hs.and nd
  have hW : (Y.map fun y => vl p y.reverse).Pairwise (· < ·) := by
    rw [List.pairwise_map]
    refine List.Pairwise.imp_of_mem (fun {x y} hx hy hh => ?_) both
    obtain ⟨l1, c1⟩ := LL_can m _ ((hm x).mp hx)
    obtain ⟨l2, c2⟩ := LL_can m _ ((hm y).mp hy)
    have k := lex_vl h1 m y x (by simpa using l2) (by simpa using l1) c2 c1
    rw [hh.1] at k
    have k : ¬ vl p y.reverse < vl p x.reverse := fun z => absurd (k.mpr z) (by decide)
    have ne : vl p x.reverse ≠ vl p y.reverse := fun z => hh.2 (List.reverse_inj.mp (vl_inj h1 l1 l2 c1 c2 z))
    omega
  have q1 := qn_pos h1 m
  have hr := rng_of (qn p m).toNat 0 _ hW fun n => by
    rw [List.mem_map]
    refine ⟨fun ⟨y, hy, e⟩ => ?_, fun hn => ?_⟩
    · obtain ⟨l1, c1⟩ := LL_can m _ ((hm y).mp hy)
      have := (vl_lt h1 m _ l1 c1).1
      have := vl_nn h1 c1
      omega
    · have ⟨c, e⟩ := dg_ok h1 m n (by omega) (by omega)
      refine ⟨(dg p m n).reverse, (hm _).mpr ?_, ?_⟩
      · rw [List.reverse_reverse]
        exact LL_all (fun i => (h i).2) m _ (dg_len _ _) c
      · rw [List.reverse_reverse]; exact e
  have e : Y.map List.reverse = (Y.map fun y => vl p y.reverse).map (dg p m) := by
    rw [List.map_map]
    refine List.map_congr_left fun y hy => ?_
    obtain ⟨l1, c1⟩ := LL_can m _ ((hm y).mp hy)
    exact (dg_vl h1 l1 c1).symm
  rw [e, hr, List.map_map]
  refine List.map_congr_left fun n _ => ?_
  simp
/-! ### zeros at the end -/
theorem dg_more {p : List Int} (h : ∀ i, 1 ≤ ai p i) {n : Int} {m : Nat} (h0 : 0 ≤ n) (hn : n < qn p m) : ∀ k, dg p (m + k) n = dg p m n ++ List.replicate k 0
  | 0 => by simp
  | k + 1 => by
    have q : qn p m ≤ qn p (m + k) := qn_mono h (by omega)
    have e1 : n % qn p (m + k) = n := Int.emod_eq_of_lt h0 (by omega)
    have e2 : n / qn p (m + k) = 0 := Int.ediv_eq_zero_of_lt h0 (by omega)
    show dg p (m + k + 1) n = _
    simp only [dg]
    rw [e1, e2, dg_more h h0 hn k, List.append_assoc, List.replicate_succ']
theorem dg_top {p : List Int} (h : ∀ i, 1 ≤ ai p i) {n : Int} {m : Nat} (hm : qn p m ≤ n) : (dg p (m + 1) n).getLastD 0 ≠ 0 := by
  simp only [dg]
  rw [List.getLastD_concat]
  have q := qn_pos h m
  have := (Int.le_ediv_iff_mul_le (show 0 < qn p m by omega)).mpr (show 1 * qn p m ≤ n by omega)
  omega
theorem drop_zero : ∀ (t : List Int) (k a : Nat), a < t.length → t.getLastD 0 ≠ 0 → (t ++ List.replicate k 0).drop a ≠ List.replicate (t.length + k - a) 0
  | t, k, a, ha, ht, e => by
    obtain ⟨u, c, rfl⟩ : ∃ u c, t = u ++ [c] := ⟨t.dropLast, t.getLast (by intro z; rw [z] at ha; simp at ha), (List.dropLast_concat_getLast _).symm⟩
    rw [List.getLastD_concat] at ht
    have hm : c ∈ (u ++ [c] ++ List.replicate k 0).drop a := by
      rw [List.append_assoc, List.drop_append_of_le_length (by simp at ha; omega)]
      simp
    rw [e, List.mem_replicate] at hm
    exact ht hm.2
theorem trail {t : List Int} {k : Nat} (ht : t = [] ∨ t.getLastD 0 ≠ 0) : ((List.range (t ++ List.replicate k 0).length).filter fun a => decide ((t ++ List.replicate k 0).drop a = List.replicate ((t ++ List.replicate k 0).length - a) 0)).length = k := by
  have hl : (t ++ List.replicate k (0 : Int)).length = t.length + k := by simp
  rw [hl, List.range_add, List.filter_append, List.length_append]
  have e1 : (List.range t.length).filter (fun a => decide ((t ++ List.replicate k 0).drop a = List.replicate (t.length + k - a) 0)) = [] := by
    rw [List.filter_eq_nil_iff]
    intro a ha z
    rw [List.mem_range] at ha
    rcases ht with e | e
    · rw [e] at ha; simp at ha
    · exact drop_zero t k a ha e (of_decide_eq_true z)
  have e2 : ((List.range k).map (t.length + ·)).filter (fun a => decide ((t ++ List.replicate k 0).drop a = List.replicate (t.length + k - a) 0)) = (List.range k).map (t.length + ·) := by
    rw [List.filter_eq_self]
    intro a ha
    rw [List.mem_map] at ha
    obtain ⟨j, _, rfl⟩ := ha
    refine decide_eq_true ?_
    rw [List.drop_append, List.drop_eq_nil_of_le (by omega), List.drop_replicate, List.nil_append]
    congr 1
    omega
  rw [e1, e2]
  simp
end RF

namespace RF
open PySem L2 PyProof.Rows
open PySem.W (dataLt alike alikeAll toks_all_cons keyToks keyToksAll)
/-! ### lists of ints as keys -/
def pI' (ns : List Int) : List PyData := ns.map PyData.int
theorem alike_ints : ∀ ns ms : List Int, alikeAll (pI' ns) (pI' ms) = true
  | [], _ => by simp [pI', alikeAll]
  | _ :: _, [] => by simp [pI', alikeAll]
  | a :: r, b :: t => by
    have := alike_ints r t
    simp [pI', alikeAll, alike] at this ⊢
    exact this
theorem lex_ints : ∀ ns ms : List Int, lexLt itemOrd (keyToksAll (pI' ns)) (keyToksAll (pI' ms)) = lexI ns ms
  | [], [] => by simp [pI', lexI, keyToksAll, lex_irrefl]
  | [], b :: t => by
    show PyProof.Rows.lexLt itemOrd (keyToksAll []) (keyToksAll (PyData.int b :: pI' t)) = true
    rw [toks_all_cons]; simp only [keyToksAll]; rw [lex_diff (by simp)]
    simp [itemLt]
  | a :: r, [] => by
    show PyProof.Rows.lexLt itemOrd (keyToksAll (PyData.int a :: pI' r)) (keyToksAll []) = false
    rw [toks_all_cons]; simp only [keyToksAll]; rw [lex_diff (by simp)]
    simp [itemLt]
  | a :: r, b :: t => by
    show PyProof.Rows.lexLt itemOrd (keyToksAll (PyData.int a :: pI' r)) (keyToksAll (PyData.int b :: pI' t)) = _
    unfold lexI
    by_cases e : a = b
    · rw [if_pos e, PySem.W.dataLt_all_yes (by simp [alike]) (by rw [e]; simp [PyData.eqv])]
      exact lex_ints r t
    · rw [if_neg e, PySem.W.dataLt_all_no (by simp [alike]) (by simp [PyData.eqv, e])]
      exact PySem.W.dataLt_int a b
theorem dataLt_ints (ns ms : List Int) : dataLt (.list (pI' ns)) (.list (pI' ms)) = lexI ns ms := (PySem.W.dataLt_list _ _).trans (lex_ints ns ms)
theorem lexI_asym : ∀ u v, lexI u v = true → lexI v u = false
  | [], [], h => by simp [lexI] at h
  | [], _ :: _, _ => by simp [lexI]
  | _ :: _, [], h => by simp [lexI] at h
  | a :: r, b :: t, h => by
    unfold lexI at h ⊢
    by_cases e : a = b
    · rw [if_pos e] at h
      rw [if_pos e.symm]
      exact lexI_asym r t h
    · rw [if_neg e] at h
      rw [if_neg (Ne.symm e)]
      simp only [decide_eq_true_eq, decide_eq_false_iff_not] at h ⊢
      omega
theorem lexI_tr : ∀ x y z, lexI y x = false → lexI z y = false → lexI z x = false
  | [], [], [], _, _ => by simp [lexI]
  | [], [], _ :: _, _, _ => by simp [lexI]
  | [], _ :: _, [], _, h => by simp [lexI] at h
  | [], _ :: _, _ :: _, _, _ => by simp [lexI]
  | _ :: _, [], _, h, _ => by simp [lexI] at h
  | _ :: _, _ :: _, [], _, h => by simp [lexI] at h
  | a :: r, b :: t, c :: q, h1, h2 => by
    unfold lexI at h1 h2 ⊢
    by_cases e1 : b = a
    · rw [if_pos e1] at h1
      by_cases e2 : c = b
      · rw [if_pos e2] at h2
        rw [if_pos (e2.trans e1)]
        exact lexI_tr r t q h1 h2
      · rw [if_neg e2] at h2
        rw [if_neg (by omega)]
        simp only [decide_eq_false_iff_not] at h2 ⊢
        omega
    · rw [if_neg e1] at h1
      by_cases e2 : c = b
      · rw [if_pos e2] at h2
        rw [if_neg (by omega)]
        simp only [decide_eq_false_iff_not] at h1 ⊢
        omega
      · rw [if_neg e2] at h2
        simp only [decide_eq_false_iff_not] at h1 h2
        rw [if_neg (by omega)]
        simp only [decide_eq_false_iff_not]
        omega
/-- v is a list of the ints ns -/
def IsLi (h : Heap) (v : Value) (ns : List Int) : Prop := ∃ (l : Addr) (o : Obj) (its : Array Value) (n : Nat), v = .ref l ∧ h.get? l = some o ∧ o.cls = .type "list" ∧ o.data = .seq its n ∧ Vals (ns.map V.int) its.toList
theorem reads_ints {h : Heap} : ∀ (ns : List Int) (us : List Value), Vals (ns.map V.int) us → ∃ as, ReadsAll h us (pI' ns) as
  | [], _, .nil => ⟨_, .nil⟩
  | n :: ns, _, .cons ⟨t, e⟩ r => by
    obtain ⟨as, q⟩ := reads_ints ns _ r
    subst e
    exact ⟨_, .cons (.int n t) q⟩
theorem IsLi.reads {h : Heap} {v : Value} {ns : List Int} (i : IsLi h v ns) : ∃ as, Reads h v (.list (pI' ns)) as := by
  obtain ⟨l, o, its, n, rfl, h1, h2, h3, h4⟩ := i
  obtain ⟨as, q⟩ := reads_ints (h := h) ns _ h4
  exact ⟨_, .list h1 h2 h3 q⟩
theorem vals_inj : ∀ (ns ms : List Int) (us : List Value), Vals (ns.map V.int) us → Vals (ms.map V.int) us → ns = ms
  | [], [], _, _, _ => rfl
  | [], _ :: _, _, .nil, h => by cases h
  | _ :: _, [], _, .cons _ _, h => by cases h
  | n :: ns, m :: ms, _, .cons ⟨t, e⟩ r, .cons ⟨t', e'⟩ r' => by
    rw [e] at e'
    cases e'
    rw [vals_inj ns ms _ r r']
theorem IsLi.inj {h : Heap} {v : Value} {ns ms : List Int} (i : IsLi h v ns) (j : IsLi h v ms) : ns = ms := by
  obtain ⟨l, o, its, n, rfl, h1, h2, h3, h4⟩ := i
  obtain ⟨l', o', its', n', e, g1, g2, g3, g4⟩ := j
  cases e
  rw [h1] at g1
  cases g1
  rw [h3] at g3
  cases g3
  exact vals_inj _ _ _ h4 g4
theorem depth_ints (ns : List Int) : (PyData.list (pI' ns)).depth ≤ 1 := by
  have : PyData.depthAll (pI' ns) = 0 := by
    induction ns with
    | nil => rfl
    | cons a r ih => simp [pI', PyData.depthAll, PyData.depth] at ih ⊢; exact ih
  simp [PyData.depth, this]
section
variable {prog : Program} {w : World} {A : Around} {s : Shared}
theorem lists_sortable {a : Addr} {vs : List Value} {k : Value → List Int} (hl : 2 ≤ vs.length) (hu : A.units + 1 < cLine) (hp : ∀ v ∈ vs, IsLi s.heap v (k v) ∧ v ≠ .ref a) : SrtO.SortableO prog w A s a vs fun v u => lexI (k v) (k u) := by
  intro h' keep
  have hp' : ∀ v ∈ vs, IsLi h' v (k v) := fun v hm => by
    obtain ⟨⟨l, o, its, n, rfl, h1, h2, h3, h4⟩, ne⟩ := hp v hm
    exact ⟨l, o, its, n, rfl, keep l o (fun z => ne (by rw [z])) h1, h2, h3, h4⟩
  refine ⟨oneType', fun Q E hq => ?_, ?_⟩
  · refine PySem.W.kas_kind (T := .type "list") hl (fun v hv => ?_) (by decide) (by decide) hq
    obtain ⟨l, o, its, n, rfl, h1, h2, h3, h4⟩ := hp' v hv
    rw [← h2]
    exact (PySem.W.Looks.ld h1).andThen .now
  · intro p q hm hn
    obtain ⟨as, r1⟩ := (hp' p.1 hm).reads
    obtain ⟨bs, r2⟩ := (hp' q.1 hn).reads
    show wpAny (model prog w) A (oneLt' true p.1 q.1) _ _ _
    have d1 := depth_ints (k p.1)
    refine PySem.W.oneLt_alike (fun _ xs z => by cases z) r1 r2 (by simp only [alike]; exact alike_ints _ _) (by intro z; cases z) (by omega) ?_
    exact ⟨rfl, dataLt_ints _ _⟩
end
/-- sorted(xs), xs a list of lists of ints: a new list of the same lists, in order -/
def rSortLI (K : PySem.W.Frag) : List V → Hp → VK → Prop := fun vs H Q => ∃ (a : Addr) (ps : List (V × List Int)), vs = [.ref a] ∧ SqL K H a (ps.map (·.1)) ∧ (∀ p ∈ ps, ∃ t, p.1 = .ref t ∧ SqL K H t (p.2.map V.int)) ∧
  ∀ (qs : List (V × List Int)) d, qs.Perm ps → qs.Pairwise (fun x y => lexI y.2 x.2 = false) → H d = none → Q (.ref d) (upd H d (.lst (qs.map (·.1))))
theorem swo_lexI (k : Value → List Int) : SrtO.Swo fun v u => lexI (k v) (k u) := ⟨fun x y => lexI_asym _ _, fun x y z => lexI_tr _ _ _⟩
theorem cr_sortedLI {X : Cx} (hu : X.A.units + 64 < cLine) : CallR X (.builtin "sorted") (rSortLI X.K) := by
  intro pins s σ H vs us Q I r h
  obtain ⟨a, ps, rfl, hs, hx, q⟩ := h
  obtain ⟨its, rv, hl, hz⟩ := I.list hs
  obtain ⟨u, rfl, ru⟩ := vals1 r
  obtain rfl : u = Value.ref a := ru
  obtain ⟨e1, e2⟩ := refs_back rv fun x m => by
    obtain ⟨p, hp, rfl⟩ := List.mem_map.mp m
    obtain ⟨t, e, _⟩ := hx p hp
    exact ⟨t, e⟩
  -- what each item holds
  have hit : ∀ v ∈ its, ∃ ns, (backV v, ns) ∈ ps ∧ IsLi s.heap v ns := fun v hv => by
    have : backV v ∈ ps.map (·.1) := by rw [e1]; exact List.mem_map.mpr ⟨v, hv, rfl⟩
    obtain ⟨p, hp, ep⟩ := List.mem_map.mp this
    obtain ⟨t, et, hq⟩ := hx p hp
    obtain ⟨b, rfl⟩ := e2 v hv
    have et2 : V.ref b = V.ref t := ep.symm.trans et
    obtain rfl : b = t := V.ref.inj et2
    obtain ⟨ws, r2, hpl, _⟩ := I.list hq
    obtain ⟨o, n, g1, g2, g3, g4⟩ := hpl
    exact ⟨p.2, by rw [← ep]; exact hp, b, o, ws.toArray, n, rfl, g1, g2, by first | exact g4 | exact g3, by simpa using r2⟩
  let k : Value → List Int := fun v => open Classical in if z : ∃ ns, IsLi s.heap v ns then z.choose else []
  have hk : ∀ v ns, IsLi s.heap v ns → k v = ns := fun v ns i => by
    have z : ∃ ns, IsLi s.heap v ns := ⟨ns, i⟩
    have e : k v = z.choose := dif_pos z
    rw [e]
    exact z.choose_spec.inj i
  have hz' : its.length ≤ sizeLine := by rw [← rv.length]; exact hz
  have eps : ps = its.map fun v => (backV v, k v) := by
    have key : ∀ (us : List Value) (qs : List (V × List Int)), qs.map (·.1) = us.map backV → (∀ p ∈ qs, ∀ t, p.1 = .ref t → IsLi s.heap (.ref t) p.2) → (∀ u ∈ us, ∃ b, u = .ref b) → qs = us.map fun v => (backV v, k v) := by
      intro us
      induction us with
      | nil =>
        intro qs h1 _ _
        simpa using h1
      | cons u us ih =>
        intro qs h1 h2 h3
        cases qs with
        | nil => simp at h1
        | cons p qs =>
          rw [List.map_cons, List.map_cons] at h1
          obtain ⟨f1, f2⟩ := List.cons.inj h1
          obtain ⟨b, rfl⟩ := h3 u (by simp)
          have hb : p.1 = .ref b := f1
          have := hk _ _ (h2 p (by simp) b hb)
          rw [List.map_cons, ← ih qs f2 (fun p hp => h2 p (by simp [hp])) (fun u hu => h3 u (by simp [hu])), this, ← f1]
    refine key its ps e1 (fun p hp t et => ?_) e2
    obtain ⟨t', et', hq⟩ := hx p hp
    rw [et] at et'
    cases et'
    obtain ⟨ws, r2, hpl, _⟩ := I.list hq
    obtain ⟨o, n, g1, g2, g3, g4⟩ := hpl
    exact ⟨t, o, ws.toArray, n, rfl, g1, g2, by first | exact g4 | exact g3, by simpa using r2⟩
  refine SrtO.sorted_ord (swo_lexI k) hl.isList hz' (fun h2 h₁ b hb kk => ?_) fun out ho hst => ?_
  · refine lists_sortable (s := { s with heap := h₁ }) h2 (by show X.A.units + 2 + 1 < cLine; omega) fun v hv => ?_
    obtain ⟨ns, _, i⟩ := hit v hv
    rw [hk v ns i]
    obtain ⟨l, o, ws, n, rfl, h1, h2, h3, h4⟩ := i
    exact ⟨⟨l, o, ws, n, rfl, (kk l o h1).2, h2, h3, h4⟩, fun z => (kk l o h1).1 (Value.ref.inj z)⟩
  · obtain ⟨n, hn⟩ := sortedAll_at s.heap its out.toArray
    have hs1 : (out.map fun v => (backV v, k v)).Perm ps := by
      rw [eps]
      exact hst.perm.map _
    have h3 : ∀ u ∈ out, ∃ a, u = Value.ref a := fun u hu => e2 u (hst.perm.mem_iff.mp hu)
    have e4 : (out.map fun v => (backV v, k v)).map (·.1) = out.map backV := by rw [List.map_map]; rfl
    have hlen : (out.map backV).length ≤ sizeLine := by rw [List.length_map, hst.perm.length_eq]; exact hz'
    have hd : s.heap.objs.size ≤ s.heap.objs.size + 1 := Nat.le_succ _
    refine ⟨.ref (s.heap.objs.size + 1), upd H (s.heap.objs.size + 1) (.lst (out.map backV)), I.laid (t' := s.toks) (fun b o e => sortedAll_old e) hd ⟨hlen, out, n, vals_back h3, hn⟩, rfl, ?_⟩
    rw [← e4]
    exact q _ _ hs1 (List.pairwise_map.mpr ho) (I.hok.fresh hd)
end RF

namespace RF
open PySem L2 PyProof.Rows
def spStep (K : PySem.W.Frag) (C : Addr) : Sp := fun vs H Q _ => ∃ (p : Addr) (d : Int) (m : Nat), vs = [.ref p, .int (m : Int)] ∧ FldAt K H C p d ∧ Root d ∧ m ≤ 280 ∧ ∀ H', Same H H' → Q (.int (qn (per d) m)) H'
def spLCan : Sp := fun vs H Q _ => ∃ (d : Int) (i : Nat) (x lo : Int), vs = [.int d, .int (i : Int), .int x, .int lo] ∧ Root d ∧ ∀ H', Same H H' → Q (.bl (lcan (per d) i x lo)) H'
section
variable {P : Program} {w : World} {K : PySem.W.Frag} {mg : Str → Option Value} {base : Heap}
abbrev n_FStep : List Str := ["self", "place", "before", "here", "below"]
theorem sc_FStep : FnScope n_FStep ["self", "place"] (defScope (sF 6)) := ⟨rfl, rfl, rfl, by decide +kernel, rfl, by decide +kernel, by decide +kernel⟩
theorem ok_FStep {f C : Addr} {fd : FuncData} {k : Nat} {tk : Tok} (F : Fun K "step" "Field.step" (sF 6) f fd) (T : TxF K mg C) (T1 : mg "range" = none) (mM : mg "MOST_PLACE" = some (.int 1000 tk))
    (D1 : Df P w K mg base k "is_between" ["value", "low", "high"] (spBtw K)) (D2 : Df P w K mg base k "_part_above" ["period", "place"] (spPart K)) : FnOk P w K mg base CX0 (k + 1) f fd ["self", "place"] (spStep K C) := by
  refine F.ok sc_FStep (fun vs H Q E h => ?_) (fun cdv A outer s H vs Q E hr h => ?_)
  · obtain ⟨p, d, m, rfl, _⟩ := h
    rfl
  · obtain ⟨p, d, m, rfl, hF, hd, hm, q⟩ := h
    have nd := sc_FStep.nd
    obtain ⟨dx, t, hp, hT⟩ := hF
    have hpr := perOk hd
    refine ⟨_, PSs.nox (pss_cons (ps_if (pt_not (pt_val (pe_callD D1 hr (Nat.le_refl _) (pa_cons (pv 1) (pa_cons pe_int (pa_cons (pe_glob (v := .int 1000) (by rfl) mM ⟨_, rfl⟩) pa_nil))))))
      (pss_one ps_never)
      pss_nil)
      (pss_cons (ps_asg (pe_tup (pa_cons pe_int (pa_cons pe_int pa_nil))) (pg_tup rfl (pgs_cons (pg_name (i := 2) nd rfl (Or.inl rfl)) (pgs_cons (pg_name (i := 3) nd rfl (Or.inl rfl)) pgs_nil))))
      (pss_cons (ps_for PassesOwn.never rfl (pi_range1 rfl T1 (pa_cons (pv 1) pa_nil)) (pg_name (i := 4) nd rfl (Or.inl rfl))
      (pss_one (ps_par (i := 2) (j := 3) rfl nd rfl rfl (by decide) rfl rfl (pa_cons (pv 3) (pa_cons (pe_op op_add (pe_op op_mulW (pe_callD D2 hr (Nat.le_refl _) (pa_cons (pe_fld (pv 0) rfl) (pa_cons (pv 4) pa_nil))) (pv 3)) (pv 2)) pa_nil)) (by kernel_rfl))))
      (pss_one (ps_ret (pv 3)))))), ?_⟩
    have eb : btw (.int (m : Int)) 0 1000 = true := by
      show (decide (0 ≤ (m : Int)) && decide ((m : Int) ≤ 1000)) = true
      simp only [Bool.and_eq_true, decide_eq_true_eq]
      omega
    refine ⟨_, rfl, _, .int (m : Int), _, _, rfl, rfl, _, rfl, ?_⟩
    rw [eb]
    refine iteF ?_
    refine ⟨by show 2 ≤ sizeLine; decide, fun b hb => ⟨b, _, rfl, SqT.of upd_same, rfl, _, _, rfl, _, _, rfl, rfl, ?_⟩⟩
    have sm0 := sNew (o := .tup [.int 0, .int 1]) (Same.refl H) hb
    refine ⟨_, rfl, _, rfl, by omega, by omega, for_range (n := m) (fun i σ H' => ∃ v : Option V, σ = [some (.ref p), some (.int (m : Int)), some (.int (stp (per d) i).1), some (.int (qn (per d) i)), v] ∧ Same H H')
      ⟨none, rfl, sm0⟩ ?_ ?_⟩
    · rintro i σ H2 hi ⟨v, rfl, sm⟩
      have hp3 := sm _ _ hp
      rw [show (0 : Int) + ((i : Nat) : Int) = ((i : Nat) : Int) by omega]
      have bq := qn_bd' hpr.bd (show i ≤ 280 by omega)
      have b4 := hpr.bd i
      refine ⟨_, rfl, _, rfl, p, C, dx, _, _, rfl, hp3, T.cl, T.nP, ffl_per d t, _, rfl, t, per d, i, rfl, hT, hpr, _, rfl, _, _, rfl, rfl, mulOk (n := 3) (m := 841) (Nat.lt_of_le_of_lt (show (ai (per d) i).natAbs ≤ 4 by omega) (by decide)) bq (by decide) (by decide) (by decide), _, rfl, _, _, rfl, rfl, _, _, rfl, ?_⟩
      exact ⟨_, rfl, sm⟩
    · rintro σ H2 ⟨v, rfl, sm⟩
      exact ⟨_, rfl, q _ sm⟩
abbrev n_law_can : List Str := ["_law_root_here", "_law_place", "_law_digit", "_law_before", "_law_period_here", "_law_most"]
theorem sc_law_can : FnScope n_law_can ["_law_root_here", "_law_place", "_law_digit", "_law_before"] (defScope (top 26)) := ⟨rfl, rfl, rfl, by decide +kernel, rfl, by decide +kernel, by decide +kernel⟩
theorem ok_lcan {f : Addr} {fd : FuncData} {k : Nat} (F : Fun K "_law_can" "_law_can" (top 26) f fd) (T : TB mg) (D1 : Df P w K mg base k "_law_period" ["_law_root_here"] spPeriod) : FnOk P w K mg base CX0 (k + 1) f fd ["_law_root_here", "_law_place", "_law_digit", "_law_before"] spLCan := by
  refine F.ok sc_law_can (fun vs H Q E h => ?_) (fun cdv A outer s H vs Q E hr h => ?_)
  · obtain ⟨d, i, x, lo, rfl, _⟩ := h
    rfl
  · obtain ⟨d, i, x, lo, rfl, hd, q⟩ := h
    have nd := sc_law_can.nd
    have hpr := perOk hd
    refine ⟨_, (pss_cons (ps_set (i := 4) nd rfl (Or.inl rfl) (pe_callD D1 hr (Nat.le_refl _) (pa_cons (pv 0) pa_nil)))
      (pss_cons (ps_set (i := 5) nd rfl (Or.inl rfl) (pe_ix ix_list (pv 4) (pe_op op_mod (pe_callTy call_int1 (by rfl) T.int (by decide +kernel) (pa_cons (pv 1) pa_nil)) (pe_callB call_len_seq (by rfl) T.len (by decide +kernel) (pa_cons (pv 4) pa_nil))) (fun _ _ => rfl)))
      (pss_cons (ps_if (pt_cmpR op_eq (pv 1) pe_int (nomark _))
      (pss_one (ps_ret (pe_chain op_le op_lt pe_int (pv 2) (pv 5))))
      pss_nil)
      (pss_one (ps_ret (pe_or (pe_chain op_le op_lt pe_int (pv 2) (pv 5)) (pe_one (pe_and (pe_cmpR op_eq (pv 2) (pv 5) (nomark _)) (pe_one (pe_cmpR op_eq (pv 3) pe_int (nomark _))))))))))), ?_⟩
    refine ⟨_, rfl, d, rfl, hd, fun t H2 nt h2 sm => ?_⟩
    refine ⟨_, rfl, _, rfl, .inl ⟨_, rfl, _, rfl, t, _, rfl, .inl (SqL.of h2), _, _, rfl, rfl, (by show (0 : Int) < ((((per d).map V.int).length : Nat) : Int); rw [List.length_map]; have := hpr.len; omega), t, _, _, _, rfl, rfl, SqL.of h2, ai_atI hpr i, ?_⟩⟩
    have fin : ∀ b : Bool, b = lcan (per d) i x lo → Q (.bl b) H2 := fun b e => by rw [e]; exact q _ sm
    refine ⟨_, rfl, rfl, _, rfl, ite2 (fun h => ?_) (fun h => ?_)⟩
    · have hi : i = 0 := by
        have := of_decide_eq_true h
        injection this
        omega
      refine ⟨_, rfl, _, _, rfl, rfl, _, rfl, ite2 (fun h => ?_) (fun h => ?_)⟩
      · have h := of_decide_eq_true h
        refine ⟨_, rfl, _, _, rfl, rfl, fin _ ?_⟩
        unfold lcan
        refine decide_eq_decide.mpr ⟨fun z => ⟨h, .inl z⟩, fun z => by rcases z.2 with z | z; exact z; exact absurd hi z.1⟩
      · refine fin _ ?_
        have h : ¬ 0 ≤ x := fun z => h (decide_eq_true z)
        exact (decide_eq_false fun z => h z.1).symm
    · have hi : i ≠ 0 := fun z => h (by subst z; rfl)
      have rest : ¬ (0 ≤ x ∧ x < ai (per d) i) → ∀ H3, H3 = H2 → (if decide (V.int x = V.int (ai (per d) i)) = true then Q (.bl (decide (V.int lo = V.int 0))) H3 else Q (.bl false) H3) := fun hn H3 e => by
        subst e
        refine ite2 (fun h => ?_) (fun h => ?_)
        · have h : x = ai (per d) i := V.int.inj (of_decide_eq_true h)
          refine fin _ ?_
          have h1 := hpr.bd i
          unfold lcan
          refine decide_eq_decide.mpr ⟨fun z => ⟨by omega, .inr ⟨hi, h, V.int.inj z⟩⟩, fun z => ?_⟩
          rcases z.2 with z | z
          · omega
          · rw [z.2.2]
        · have h : x ≠ ai (per d) i := fun z => h (by rw [z]; exact decide_eq_true rfl)
          refine fin _ ?_
          refine (decide_eq_false fun z => ?_).symm
          rcases z.2 with y | y
          · exact hn ⟨z.1, y⟩
          · exact h y.2.1
      refine ⟨_, rfl, _, _, rfl, rfl, _, rfl, ite2 (fun h => ?_) (fun h => ?_)⟩
      · have h := of_decide_eq_true h
        refine ⟨_, rfl, _, _, rfl, rfl, _, rfl, ite2 (fun h2 => ?_) (fun h2 => ?_)⟩
        · have h2 := of_decide_eq_true h2
          exact fin true (decide_eq_true ⟨h, .inl h2⟩).symm
        · refine ⟨_, rfl, _, rfl, rfl, _, rfl, ?_⟩
          have := rest (fun z => h2 (decide_eq_true z.2)) H2 rfl
          by_cases hh : decide (V.int x = V.int (ai (per d) i)) = true
          · rw [if_pos hh] at this ⊢
            exact ⟨_, rfl, rfl, this⟩
          · rw [if_neg hh] at this ⊢
            exact this
      · refine ⟨_, rfl, iteF ⟨_, rfl, _, rfl, rfl, _, rfl, ?_⟩⟩
        have := rest (fun z => h (decide_eq_true z.1)) H2 rfl
        by_cases hh : decide (V.int x = V.int (ai (per d) i)) = true
        · rw [if_pos hh] at this ⊢
          exact ⟨_, rfl, rfl, this⟩
        · rw [if_neg hh] at this ⊢
          exact this
end
end RF

namespace RF
open PySem L2 PyProof.Rows
/-! ### lists of lists -/
def El (H : Hp) (D : Addr) (p : V × List Int) : Prop := ∃ t, p.1 = .ref t ∧ t ≠ D ∧ H t = some (.lst (p.2.map V.int))
theorem El.same {H H' : Hp} {D : Addr} {p : V × List Int} (s : Same H H') (h : El H D p) : El H' D p := by
  obtain ⟨t, e, n, q⟩ := h
  exact ⟨t, e, n, s _ _ q⟩
theorem El.upd {H : Hp} {D : Addr} {o : HO} {p : V × List Int} (h : El H D p) : El (upd H D o) D p := by
  obtain ⟨t, e, n, q⟩ := h
  exact ⟨t, e, n, by rw [upd_ne n]; exact q⟩
structure Els (H : Hp) (a : Addr) (ps : List (V × List Int)) : Prop where
  at_ : H a = some (.lst (ps.map (·.1)))
  el : ∀ p ∈ ps, ∃ D, El H D p
theorem Els.same {H H' : Hp} {a : Addr} {ps : List (V × List Int)} (s : Same H H') (h : Els H a ps) : Els H' a ps := ⟨s _ _ h.at_, fun p hp => by
  obtain ⟨D, q⟩ := h.el p hp
  exact ⟨D, q.same s⟩⟩
theorem Els.get {H : Hp} {a : Addr} {ps : List (V × List Int)} {i : Nat} {x : V} (h : Els H a ps) (e : (ps.map (·.1))[i]? = some x) : ∃ t s, x = .ref t ∧ ps[i]? = some (.ref t, s) ∧ H t = some (.lst (s.map V.int)) := by
  rw [List.getElem?_map] at e
  cases hp : ps[i]? with
  | none => rw [hp] at e; cases e
  | some p =>
    rw [hp] at e
    have e : p.1 = x := Option.some.inj e
    obtain ⟨D, t, e1, _, q⟩ := h.el p (List.mem_of_getElem? hp)
    refine ⟨t, p.2, by rw [← e, e1], ?_, q⟩
    rw [← e1]
theorem take_get {α : Type} {l : List α} {i : Nat} {x : α} (h : l[i]? = some x) : l.take (i + 1) = l.take i ++ [x] := by
  rw [List.take_add_one, h]
  rfl
theorem shaped_ints (ns : List Int) : SeqAt.shaped (.list (ns.map PyData.int)) = true := by
  unfold SeqAt.shaped
  have h1 : PyData.canLayAll0 (ns.map PyData.int) = true := by
    induction ns with
    | nil => rfl
    | cons a r ih => simp only [List.map_cons, PyData.canLayAll0, ih, PyData.canLay0, Bool.and_self]
  have h2 := depth_ints ns
  unfold pI' at h2
  simp only [PyData.canLay0, h1, Bool.true_and]
  exact decide_eq_true (by omega)
theorem dp_ints {K : PySem.W.Frag} {H : Hp} : ∀ ns : List Int, DpAll K H (ns.map V.int) (ns.map PyData.int)
  | [] => .nil
  | a :: r => .cons (.int a) (dp_ints r)
theorem eqv_ints : ∀ ns ms : List Int, PyData.eqv (.list (ns.map PyData.int)) (.list (ms.map PyData.int)) = decide (ns = ms)
  | [], [] => rfl
  | [], _ :: _ => by simp [PyData.eqv, PyData.eqvAll]
  | _ :: _, [] => by simp [PyData.eqv, PyData.eqvAll]
  | a :: r, b :: t => by
    have ih := eqv_ints r t
    simp only [PyData.eqv] at ih
    simp only [List.map_cons, PyData.eqv, PyData.eqvAll, ih]
    by_cases e : a = b <;> by_cases f : r = t <;> simp [e, f]
theorem rps_ints {K : PySem.W.Frag} {H : Hp} : ∀ ns : List Int, Rps K H (ns.map V.int) (ns.map D.int)
  | [] => rfl
  | a :: r => ⟨_, _, rfl, rfl, rps_ints r⟩
theorem dep_ints : ∀ ns : List Int, depL (ns.map D.int) = 0
  | [] => rfl
  | a :: r => by simp [depL, dep, dep_ints r]
theorem lastD_at {s : List Int} (h : s ≠ []) : atI (s.map V.int) (-1) = some (.int (s.getLastD 0)) := by
  obtain ⟨t, c, rfl⟩ : ∃ t c, s = t ++ [c] := ⟨s.dropLast, s.getLast h, (List.dropLast_concat_getLast _).symm⟩
  rw [List.getLastD_concat, List.map_append]
  exact atI_last _ _
theorem LL_len {p : List Int} (h : ∀ i, 1 ≤ ai p i ∧ ai p i ≤ 4) (i : Nat) : (LL p i).length = (qn p i).toNat := by
  have hp := List.mergeSort_perm ((LL p i).map List.reverse) fun x y => !lexI y x
  have hs := List.pairwise_mergeSort (le := fun x y => !lexI y x) (fun a b c h1 h2 => by
      simp only [Bool.not_eq_true'] at h1 h2 ⊢
      exact lexI_tr a b c h1 h2) (fun a b => by
      cases hh : lexI b a
      · simp
      · simp [lexI_asym b a hh]) ((LL p i).map List.reverse)
  have := sorted_dg h hp (hs.imp fun hh => by simpa using hh)
  have e := congrArg List.length this
  rw [List.length_map, List.length_map, List.length_range, hp.length_eq, List.length_map] at e
  exact e
theorem flat_le {α β : Type} (f : α → List β) (l : List α) (j : Nat) : ((l.take j).flatMap f).length ≤ (l.flatMap f).length := by
  conv => rhs; rw [← List.take_append_drop j l, List.flatMap_append, List.length_append]
  omega
theorem dgs_five (p : List Int) (i : Nat) (s : List Int) : ((List.range 5).map fun (k : Nat) => (k : Int)).filter (fun d => lcan p i d (s.getLastD 0)) = dgs p i s := rfl
theorem dgs_le (p : List Int) (i : Nat) (s : List Int) (k : Nat) : ((((List.range k).map fun (k : Nat) => (k : Int)).filter fun d => lcan p i d (s.getLastD 0)).map fun d => s ++ [d]).length ≤ k := by
  rw [List.length_map]
  refine Nat.le_trans (List.length_filter_le _ _) ?_
  simp
theorem range_snocI (k : Nat) : ((List.range (k + 1)).map fun (k : Nat) => (k : Int)) = ((List.range k).map fun (k : Nat) => (k : Int)) ++ [(k : Int)] := by
  rw [List.range_succ, List.map_append]
  rfl
theorem cut_from {ds : List Int} {k : Nat} (h : k ≤ ds.length) : cutV (ds.map V.int) (some (k : Int)) none = (ds.drop k).map V.int := by
  unfold cutV
  rw [HT.sIx_none, HT.sIx_nat, List.length_map, Nat.min_eq_left h, ← List.map_drop, List.take_of_length_le (by rw [List.length_map, List.length_drop]; omega)]
theorem cut_to {ds : List Int} {k : Nat} (h : k ≤ ds.length) : cutV (ds.map V.int) none (some (k : Int)) = (ds.take k).map V.int := by
  unfold cutV
  rw [HT.sIx_none, HT.sIx_nat, List.length_map, Nat.min_eq_left h, List.drop_zero, Nat.sub_zero, ← List.map_take]
theorem rep_zero {k : Int} {n : Nat} (h : k.toNat = n) : (List.replicate k.toNat [V.int 0]).flatten = (List.replicate n (0 : Int)).map V.int := by
  rw [h]
  induction n generalizing k with
  | zero => rfl
  | succ n ih =>
    have := @ih (n : Int) (by omega)
    rw [List.replicate_succ, List.flatten_cons, this, List.replicate_succ, List.map_cons]
    rfl
end RF

namespace RF
open PySem L2 PyProof.Rows
abbrev n_law : List Str := ["_law_script", "_law_bag_here", "_law_turn", "_law_root_here", "_law_field", "_law_places", "_law_room", "_law_lists", "_law_place", "_law_longer", "_law_some", "_law_before", "_law_number", "_law_many", "_law_digit", "_law_at"]
theorem sc_law : FnScope n_law ["_law_script"] (defScope (top 28)) := ⟨rfl, rfl, rfl, by decide +kernel, rfl, by decide +kernel, by decide +kernel⟩
def spLaw (K : PySem.W.Frag) : Sp := fun vs H Q _ => ∃ (a : Addr) (ns : List Int), vs = [.ref a] ∧ SqL K H a (ns.map V.int) ∧ ns.length ≤ 63 ∧ ∀ H', Q (.bl true) H'
structure EnvK (P : Program) (w : World) (K : PySem.W.Frag) (mg : Str → Option Value) (base : Heap) (C : Addr) : Prop where
  bag : Df P w K mg base 9 "_law_bag" ["_law_script"] (spBag K)
  pull : Df P w K mg base 9 "_law_pull" ["_law_bag_here", "_law_sides"] spPull
  root : Df P w K mg base 9 "_law_root" ["_law_bag_here"] spRoot
  same : Df P w K mg base 9 "_law_same" ["_law_found", "_law_due"] (spSame K 5)
  can : Df P w K mg base 9 "_law_can" ["_law_root_here", "_law_place", "_law_digit", "_law_before"] spLCan
  steps : Df P w K mg base 9 "_law_steps" ["_law_root_here", "_law_many"] spLSteps
  T : TxF K mg C
  mkF : ∃ (f : Addr) (fd : FuncData), Mk K C f ∧ FnOk P w K mg base CX0 8 f fd ["self", "root"] (spFInit K C) ∧ Binds K fd ["self", "root"] []
  digits : Mt P w K mg base C 9 "digits" ["self", "number"] (spDigits K C)
  value : Mt P w K mg base C 9 "value" ["self", "digits"] (spValue K C)
  step : Mt P w K mg base C 9 "step" ["self", "place"] (spStep K C)
  TB_ : TB mg
  range : mg "range" = none
  sorted : mg "sorted" = none
section
variable {P : Program} {w : World} {K : PySem.W.Frag} {mg : Str → Option Value} {base : Heap}
theorem tcEq {σ : L2.St} {H : Hp} {Q : VK} {i j : Int} (h : i = j) (q : Q (.int j) H) : tC (.int i) σ H Q := by
  rw [h]
  exact q
theorem ne_s {s : List Int} (h : (!decide (s = [])) = true) : s ≠ [] := fun z => by
  subst z
  simp at h
theorem zero_s {s : List Int} (h : ¬ (!decide (s = [])) = true) : (0 : Int) = s.getLastD 0 := by
  have : s = [] := by simpa using h
  subst this
  rfl
theorem ok_law {f C : Addr} {fd : FuncData} (F : Fun K "law" "law" (top 28) f fd) (e : EnvK P w K mg base C) : FnOk P w K mg base CX0 10 f fd ["_law_script"] (spLaw K) := by
  refine F.ok sc_law (fun vs H Q E h => ?_) (fun cdv A outer s H vs Q E hr h => ?_)
  · obtain ⟨a, ns, rfl, _⟩ := h
    rfl
  · obtain ⟨a, ns, rfl, hS, hl, kk⟩ := h
    have nd := sc_law.nd
    obtain ⟨fi, fdi, M1, G, b1⟩ := e.mkF
    have T := e.T
    have TB1 := e.TB_
    refine ⟨_, (pss_cons (ps_set (i := 1) nd rfl (Or.inl rfl) (pe_callD e.bag hr (by decide) (pa_cons (pv 0) pa_nil)))
      (pss_cons (ps_for PassesOwn.never rfl (pi_range1 rfl e.range (pa_cons pe_int pa_nil)) (pg_name (i := 2) nd rfl (Or.inl rfl))
      (pss_cons (ps_set (i := 3) nd rfl (Or.inr rfl) (pe_callD e.root hr (by decide) (pa_cons (pv 1) pa_nil)))
        (pss_cons (ps_asg (pe_tup (pa_cons (pe_make M1 G hr rfl T.mg b1 .nil pass0 (pa_cons (pv 3) pa_nil)) (pa_cons pe_int pa_nil))) (pg_tup rfl (pgs_cons (pg_name (i := 4) nd rfl (Or.inr rfl)) (pgs_cons (pg_name (i := 5) nd rfl (Or.inl rfl)) pgs_nil))))
        (pss_cons (ps_set (i := 6) nd rfl (Or.inl rfl) (pe_op op_add pe_int (pe_callD e.pull hr (by decide) (pa_cons (pv 1) (pa_cons pe_int pa_nil)))))
        (pss_cons (ps_while PassesOwn.never (pt_cmpR op_le (pe_ix ix_list (pe_callD e.steps hr (by decide) (pa_cons (pv 3) (pa_cons (pe_op op_add (pv 5) pe_int) pa_nil))) (pe_un un_neg pe_int) (fun _ _ => rfl)) (pv 6) (nomark _))
        (pss_one (ps_set (i := 5) nd rfl (Or.inl rfl) (pe_op op_add (pv 5) pe_int))))
        (pss_cons (ps_set (i := 7) nd rfl (Or.inl rfl) (pe_lst (pa_cons (pe_lst pa_nil) pa_nil)))
        (pss_cons (ps_for PassesOwn.never rfl (pi_range1 rfl e.range (pa_cons (pv 5) pa_nil)) (pg_name (i := 8) nd rfl (Or.inr rfl))
        (pss_cons (ps_set (i := 9) nd rfl (Or.inl rfl) (pe_lst pa_nil))
          (pss_cons (ps_for PassesOwn.never rfl (pi_list (pv 7)) (pg_name (i := 10) nd rfl (Or.inr rfl))
          (pss_cons (ps_set (i := 11) nd rfl (Or.inr rfl) (pe_ifExp (pt_cmpR (op_neD hr.units) (pv 10) (pe_lst pa_nil) (nomark _)) (pe_ix ix_list (pv 10) (pe_un un_neg pe_int) (fun _ _ => rfl)) pe_int))
            (pss_one (ps_set (i := 9) nd rfl (Or.inl rfl) (pe_op op_cat (pv 9) (pe_lc (own := [("_law_digit", 14)]) (g := gName 14) (tt := tB (tCall spLCan [] E0 (tCons (tVar 3) (tCons (tVar 8) (tCons (tVar 14) (tCons (tVar 11) tNil)))))) (te := tOp rCat (tVar 10) (tLst (tCons (tVar 14) tNil))) (by rfl) nd (pi_range1 rfl e.range (pa_cons pe_int pa_nil)) (blkOk_by (own := [("_law_digit", 14)]) (N := n_law) (sc := defScope (top 28)) (by decide +kernel)) (fun _ _ _ _ _ => (pg_name (i := 14) nd rfl (Or.inl rfl))) (fun _ _ _ _ _ => (pts_one (pt_val (pe_callD e.can hr (by decide) (pa_cons (pv 3) (pa_cons (pv 8) (pa_cons (pv 14) (pa_cons (pv 11) pa_nil)))))))) (fun _ _ _ _ _ => (pe_op op_cat (pv 10) (pe_lst (pa_cons (pv 14) pa_nil))))))))))
          (pss_one (ps_set (i := 7) nd rfl (Or.inl rfl) (pv 9))))))
        (pss_cons (ps_setLc (i := 7) (own := [("_law_some", 10)]) (g := gName 10) (tt := tYes) (te := tRevL K (tVar 10)) (by rfl) nd rfl rfl (sw_true rfl rfl rfl (by decide +kernel)) (pi_list (pe_callB (cr_sortedLI hr.units) (by rfl) e.sorted (by decide +kernel) (pa_cons (pe_lc (own := [("_law_some", 10)]) (g := gName 10) (tt := tYes) (te := tRevL K (tVar 10)) (by rfl) nd (pi_list (pv 7)) (blkOk_by (own := [("_law_some", 10)]) (N := n_law) (sc := defScope (top 28)) (by decide +kernel)) (fun _ _ _ _ _ => (pg_name (i := 10) nd rfl (Or.inl rfl))) (fun _ _ _ _ _ => pts_nil) (fun _ _ _ _ _ => (pe_revL (pv 10)))) pa_nil))) (blkOk_by (own := [("_law_some", 10)]) (N := n_law) (sc := defScope (top 28)) (by decide +kernel)) (fun _ _ _ _ _ => (pg_name (i := 10) nd rfl (Or.inl rfl))) (fun _ _ _ _ _ => pts_nil) (fun _ _ _ _ _ => (pe_revL (pv 10))))
        (pss_cons (ps_if (pt_not (pt_val (pe_callD e.same hr (by decide) (pa_cons (pe_lc (own := [("_law_some", 10)]) (g := gName 10) (tt := tYes) (te := tMeth C "value" (spValue K C) [] E0 (tVar 4) (tCons (tVar 10) tNil)) (by rfl) nd (pi_list (pv 7)) (blkOk_by (own := [("_law_some", 10)]) (N := n_law) (sc := defScope (top 28)) (by decide +kernel)) (fun _ _ _ _ _ => (pg_name (i := 10) nd rfl (Or.inl rfl))) (fun _ _ _ _ _ => pts_nil) (fun _ _ _ _ _ => (pe_mt (pv 4) T.cl e.value hr (by decide) (pa_cons (pv 10) pa_nil)))) (pa_cons (pe_listRg rfl (by rfl) TB1.list (prg_1 (by rfl) e.range (pe_callB call_len_seq (by rfl) TB1.len (by decide +kernel) (pa_cons (pv 7) pa_nil)))) pa_nil)))))
        (pss_one (ps_ret pe_bl))
        pss_nil)
        (pss_cons (ps_if (pt_cmpR op_ne (pe_callB call_len_seq (by rfl) TB1.len (by decide +kernel) (pa_cons (pv 7) pa_nil)) (pe_mt (pv 4) T.cl e.step hr (by decide) (pa_cons (pv 5) pa_nil)) (nomark _))
        (pss_one (ps_ret pe_bl))
        pss_nil)
        (pss_one (ps_for PassesOwn.never rfl (pi_range1 rfl e.range (pa_cons (pe_callB call_len_seq (by rfl) TB1.len (by decide +kernel) (pa_cons (pv 7) pa_nil)) pa_nil)) (pg_name (i := 12) nd rfl (Or.inl rfl))
        (pss_cons (ps_set (i := 10) nd rfl (Or.inr rfl) (pe_ix ix_list (pv 7) (pv 12) (fun _ _ => rfl)))
          (pss_cons (ps_set (i := 13) nd rfl (Or.inl rfl) (pe_op op_sub (pe_callB call_len_seq (by rfl) TB1.len (by decide +kernel) (pa_cons (pv 10) pa_nil)) (pe_callB call_len_seq (by rfl) TB1.len (by decide +kernel) (pa_cons (pe_lc (own := [("_law_at", 15)]) (g := gName 15) (tt := tTest (tOp (rEqD K) (tSl (rSlL K) (tVar 10) (tPart (tVar 15)) tNoPart) (tOp rRep (tLst (tCons (tC (.int 0)) tNil)) (tOp (rI0 fun i j => .int (i - j)) (tCB (fun xs H Q => ∃ p ys, xs = [.ref p] ∧ (SqL K H p ys ∨ SqT K H p ys) ∧ Q (.int ys.length) H) (tCons (tVar 10) tNil)) (tVar 15))))) (te := tVar 15) (by rfl) nd (pi_range1 rfl e.range (pa_cons (pe_callB call_len_seq (by rfl) TB1.len (by decide +kernel) (pa_cons (pv 10) pa_nil)) pa_nil)) (blkOk_by (own := [("_law_at", 15)]) (N := n_law) (sc := defScope (top 28)) (by decide +kernel)) (fun _ _ _ _ _ => (pg_name (i := 15) nd rfl (Or.inl rfl))) (fun _ _ _ _ _ => (pts_one (pt_cmpR (op_eqD hr.units) (pe_slice sl_list (pv 10) (po_some (pv 15)) po_none) (pe_op op_rep (pe_lst (pa_cons pe_int pa_nil)) (pe_op op_sub (pe_callB call_len_seq (by rfl) TB1.len (by decide +kernel) (pa_cons (pv 10) pa_nil)) (pv 15))) (nomark _)))) (fun _ _ _ _ _ => (pv 15))) pa_nil))))
          (pss_one (ps_if (pt_cmpR (op_neD hr.units) (pe_mt (pv 4) T.cl e.digits hr (by decide) (pa_cons (pv 12) pa_nil)) (pe_slice sl_list (pv 10) po_none (po_some (pv 13))) (nomark _))
          (pss_one (ps_ret pe_bl))
          pss_nil))))))))))))))))
      (pss_one (ps_ret pe_bl)))), ?_⟩
    refine ⟨_, rfl, a, ns, rfl, hS, hl, fun b H1 nb B1 sm1 => ?_⟩
    refine ⟨2, rfl, by decide, by decide, for_range (n := 2) (fun _ σ H' => ∃ v2 v3 v4 v5 v6 v7 v8 v9 v10 v11 v12 v13 v14 v15 : Option V,
        σ = [some (.ref a), some (.ref b), v2, v3, v4, v5, v6, v7, v8, v9, v10, v11, v12, v13, v14, v15] ∧ Bag H' b)
      ⟨none, none, none, none, none, none, none, none, none, none, none, none, none, none, rfl, B1⟩ ?_ ?_⟩
    · rintro i0 σ H2 hi0 ⟨v2, v3, v4, v5, v6, v7, v8, v9, v10, v11, v12, v13, v14, v15, rfl, B2⟩
      -- root, field, places
      refine ⟨_, rfl, b, rfl, B2, fun d H3 hd0 B3 kp3 => ?_⟩
      have hd : Root d := by unfold Root; omega
      have hpr := perOk hd
      refine ⟨_, rfl, fun x dx nx ndx nex => ⟨x, dx, d, rfl, upd_same, hd, fun H4 F4 kq4 => ⟨rfl, ?_⟩⟩⟩
      have sm4 := Same.made nx ndx kq4
      have B4 := B3.same sm4
      refine ⟨by show 2 ≤ sizeLine; decide, fun t1 ht1 => ⟨t1, _, rfl, SqT.of upd_same, rfl, _, _, rfl, _, _, rfl, rfl, ?_⟩⟩
      have smA := sNew (o := .tup [.ref x, .int 1]) (Same.refl H4) ht1
      have B5 := B4.same smA
      have F5 := F4.same smA
      -- room
      refine ⟨_, rfl, b, 300, rfl, B5, by decide, by decide, fun r H6 r0 r1 B6 kp6 => ⟨_, _, rfl, rfl, ?_⟩⟩
      have F6 := F5.kp B5 kp6
      -- places
      refine while_by (fun σ H' => ∃ m : Nat, σ = [some (.ref a), some (.ref b), some (.int (0 + (i0 : Nat))), some (.int d), some (.ref x), some (.int (m : Int)), some (.int (2 + r)), v7, v8, v9, v10, v11, v12, v13, v14, v15] ∧ 1 ≤ m ∧ (m = 1 ∨ qn (per d) m ≤ 2 + r) ∧ Same H6 H')
        (fun σ _ => match σ with | [_, _, _, _, _, some (.int x), _, _, _, _, _, _, _, _, _, _] => (300 - x).toNat | _ => 0)
        ⟨1, rfl, Nat.le_refl _, .inl rfl, Same.refl _⟩ ?_ ?_
      · rintro σ H7 ⟨m, rfl, hm1, hmq, sm7⟩
        have hm2 : m ≤ 266 := by
          rcases hmq with z | z
          · omega
          · have := steps_le hpr.one (show 2 + r < 2 ^ 133 by omega) z
            omega
        refine ⟨_, rfl, _, rfl, _, _, rfl, rfl, d, m + 1, rfl, hd, by omega, fun ls H8 nls hls sm8 => ?_⟩
        have hx1 : atI (qs (per d) (m + 1 + 1)) (-1) = some (.int (qn (per d) (m + 1))) := by
          rw [← qs_snoc]; exact atI_last _ _
        refine ⟨_, rfl, ls, _, _, _, rfl, rfl, SqL.of hls, hx1, _, rfl, _, _, rfl, rfl, _, rfl, ite2 (fun h => ?_) (fun h => ?_)⟩
        · have hle : qn (per d) (m + 1) ≤ 2 + r := of_decide_eq_true h
          refine ⟨_, rfl, _, _, rfl, rfl, ⟨m + 1, rfl, by omega, .inr hle, sm7.trans sm8⟩, ?_⟩
          show (300 - ((m : Int) + 1)).toNat < (300 - (m : Int)).toNat
          omega
        · have hqm : 1 ≤ qn (per d) m ∧ qn (per d) m ≤ 400 := by
            refine ⟨qn_pos hpr.one m, ?_⟩
            rcases hmq with z | z
            · have := (qn_bd hpr.bd m).1
              rw [z] at this ⊢
              omega
            · omega
          have sm6 := sm7.trans sm8
          have B8 := B6.same sm6
          have F8 := F6.same sm6
          clear hls hx1 nls sm7 sm8 hmq h
          -- the lists, place by place
          refine ⟨by show 0 ≤ sizeLine; decide, fun l0 hl0 => ⟨by show 1 ≤ sizeLine; decide, fun l1 hl1 => ?_⟩⟩
          have smS : Same H8 (upd (upd H8 l0 (.lst [])) l1 (.lst [.ref l0])) := sNew (sNew (Same.refl _) hl0) hl1
          have n01 : l0 ≠ l1 := fun z => by rw [z, upd_same] at hl1; cases hl1
          refine ⟨_, rfl, _, rfl, by omega, by omega, for_range (n := m) (fun i σ H' => ∃ (v8 v9 v10 v11 : Option V) (a' : Addr) (ps : List (V × List Int)), σ = [some (.ref a), some (.ref b), some (.int (0 + (i0 : Nat))), some (.int d), some (.ref x), some (.int (m : Int)), some (.int (2 + r)), some (.ref a'), v8, v9, v10, v11, v12, v13, v14, v15] ∧ Els H' a' ps ∧ ps.map (·.2) = LL (per d) i ∧ Same H8 H')
            ⟨v8, v9, v10, v11, l1, [(.ref l0, [])], rfl, ⟨upd_same, fun p hp => by
              rw [List.mem_singleton] at hp
              subst hp
              exact ⟨l1, l0, rfl, n01, by rw [upd_ne n01, upd_same]; rfl⟩⟩, rfl, smS⟩ ?_ ?_⟩
          · rintro i σ H9 hi ⟨v8, v9, v10, v11, a', ps, rfl, hE, hps, sm9⟩
            rw [show (0 : Int) + ((i : Nat) : Int) = ((i : Nat) : Int) by omega]
            have hbd : (LL (per d) (i + 1)).length ≤ 400 := by
              rw [LL_len hpr.bd]
              have := qn_mono hpr.one (show i + 1 ≤ m by omega)
              omega
            refine ⟨by show 0 ≤ sizeLine; decide, fun c0 hc0 => ?_⟩
            have smC := sNew (o := .lst []) (Same.refl H9) hc0
            refine ⟨_, rfl, a', rfl, ⟨ps.map (·.1), SqL.of (hE.same smC).at_⟩, for_list (K := K) (a := a') (xs := ps.map (·.1)) (fun j σ H' => ∃ (v10 v11 : Option V) (c : Addr) (qs : List (V × List Int)), σ = [some (.ref a), some (.ref b), some (.int (0 + (i0 : Nat))), some (.int d), some (.ref x), some (.int (m : Int)), some (.int (2 + r)), some (.ref a'), some (.int (i : Int)), some (.ref c), v10, v11, v12, v13, v14, v15] ∧ Els H' c qs ∧ qs.map (·.2) = ((LL (per d) i).take j).flatMap (nxt (per d) i) ∧ Same H9 H')
              ⟨v10, v11, c0, [], rfl, ⟨upd_same, fun p hp => by simp at hp⟩, rfl, smC⟩ (fun j σ H' _ hh => by
                obtain ⟨_, _, _, _, _, _, _, q⟩ := hh
                exact SqL.of (hE.same q).at_) ?_ ?_⟩
            · rintro j y σ H10 hy ⟨v10, v11, c, qs, rfl, hQ, hqs, sm10⟩
              obtain ⟨t, s, rfl, hpj, ht⟩ := (hE.same sm10).get hy
              have hLj : (LL (per d) i)[j]? = some s := by
                rw [← hps, List.getElem?_map, hpj]
                rfl
              obtain ⟨sl, sc⟩ := LL_can i s (List.mem_of_getElem? hLj)
              refine ⟨_, rfl, by show 0 ≤ sizeLine; decide, fun e0 he0 => ?_⟩
              have smE := sNew (o := .lst []) (Same.refl H10) he0
              refine ⟨.list (s.map PyData.int), .list [], .lst (SqL.of (smE _ _ ht)) (dp_ints _), .lst (SqL.of upd_same) .nil, shaped_ints _, shaped_ints [], ?_⟩
              rw [show PyData.eqv (.list (s.map PyData.int)) (.list []) = decide (s = []) from eqv_ints s []]
              refine ⟨_, rfl, ite2 (fun hh => ⟨_, rfl, _, rfl, t, _, _, _, rfl, rfl, SqL.of (smE _ _ ht), lastD_at (ne_s hh), ?_⟩) (fun hh => tcEq (zero_s hh) ?_)⟩
              all_goals
                generalize hlo : s.getLastD 0 = lo
                refine ⟨_, rfl, 5, rfl, by decide, by decide, fun D hD => ?_⟩
                refine lc_range (n := 5) (fun k H' => ∃ rs : List (V × List Int), H' D = some (.lst (rs.map (·.1))) ∧ (∀ p ∈ rs, El H' D p) ∧ rs.map (·.2) = (((List.range k).map fun (k : Nat) => (k : Int)).filter fun d' => lcan (per d) i d' lo).map (fun d' => s ++ [d']) ∧ Same H10 H')
                  ⟨[], upd_same, fun p hp => by simp at hp, rfl, sNew smE hD⟩ ?_ ?_
                · rintro k H11 hk ⟨rs, h1, h2, h3, sm11⟩
                  rw [show (0 : Int) + ((k : Nat) : Int) = ((k : Nat) : Int) by omega]
                  refine ⟨rfl, ?_⟩
                  refine ⟨_, rfl, _, rfl, _, rfl, _, rfl, d, i, (k : Int), lo, rfl, hd, fun H12 sm12 => ⟨_, rfl, ?_⟩⟩
                  by_cases hc : lcan (per d) i (k : Int) lo = true
                  · refine iteP hc ?_
                    refine ⟨_, rfl, _, rfl, by show 1 ≤ sizeLine; decide, fun u hu => ?_⟩
                    have smU := sNew (o := .lst [.int (k : Int)]) (Same.refl H12) hu
                    have sm10u := (sm11.trans sm12).trans smU
                    refine ⟨t, u, _, _, rfl, rfl, sm10u _ _ ht, upd_same, by rw [List.length_map, sl, sizeLine_eq]; show i + 1 ≤ _; omega, fun p hp => ?_⟩
                    have smP := sNew (o := .lst (s.map V.int ++ [.int (k : Int)])) smU hp
                    have hDp := smP _ _ (sm12 _ _ h1)
                    have nDp : p ≠ D := fun z => by rw [z] at hp; rw [smU _ _ (sm12 _ _ h1)] at hp; cases hp
                    have lrs : rs.length ≤ k := by
                      have := congrArg List.length h3
                      rw [List.length_map] at this
                      rw [this, List.length_map]
                      refine Nat.le_trans (List.length_filter_le _ _) ?_
                      simp
                    refine ⟨_, hDp, by rw [List.length_map, sizeLine_eq]; omega, rs ++ [(.ref p, s ++ [(k : Int)])], ?_, fun r hr => ?_, ?_, ?_⟩
                    · rw [upd_same, List.map_append]
                      rfl
                    · rcases List.mem_append.mp hr with z | z
                      · exact ((h2 r z).same (sm12.trans smP)).upd
                      · rw [List.mem_singleton] at z
                        subst z
                        refine ⟨p, rfl, nDp, ?_⟩
                        rw [upd_ne nDp, upd_same, List.map_append]
                        rfl
                    · rw [List.map_append, h3, range_snocI, List.filter_append, List.map_append]
                      congr 1
                      simp [List.filter_cons, hc]
                    · exact sm_upd (((sm11.trans sm12)).trans smP) (smE.free hD)
                  · refine iteN hc ⟨rs, sm12 _ _ h1, fun r hr => (h2 r hr).same sm12, ?_, sm11.trans sm12⟩
                    rw [h3, range_snocI, List.filter_append, List.map_append]
                    simp [List.filter_cons, hc]
                · rintro H11 ⟨rs, h1, h2, h3, sm11⟩
                  have h3 : rs.map (·.2) = nxt (per d) i s := by rw [h3, ← hlo]; rfl
                  have hc11 := sm11 _ _ hQ.at_
                  have lall : ((LL (per d) i).take (j + 1)).flatMap (nxt (per d) i) = qs.map (·.2) ++ rs.map (·.2) := by
                    rw [take_get hLj, List.flatMap_append, hqs, h3]
                    simp
                  have lle := flat_le (nxt (per d) i) (LL (per d) i) (j + 1)
                  rw [lall, List.length_append, List.length_map, List.length_map] at lle
                  have lle2 : qs.length + rs.length ≤ 400 := Nat.le_trans lle hbd
                  refine ⟨c, D, _, _, rfl, rfl, hc11, h1, by rw [List.length_map, List.length_map, sizeLine_eq]; omega, fun p hp => ?_⟩
                  have smP := sNew (o := .lst (qs.map (·.1) ++ rs.map (·.1))) (Same.refl H11) hp
                  refine ⟨_, _, p, qs ++ rs, rfl, ⟨by rw [upd_same, List.map_append], fun r hr => ?_⟩, by rw [List.map_append, lall], sm10.trans (sm11.trans smP)⟩
                  rcases List.mem_append.mp hr with z | z
                  · obtain ⟨D', q⟩ := hQ.el r z
                    exact ⟨D', (q.same sm11).same smP⟩
                  · exact ⟨D, (h2 r z).same smP⟩
            · rintro σ H10 ⟨v10, v11, c, qs, rfl, hQ, hqs, sm10⟩
              rw [List.length_map, show ps.length = (LL (per d) i).length by rw [← hps, List.length_map], List.take_length] at hqs
              exact ⟨_, rfl, _, _, _, _, c, qs, rfl, hQ, hqs, sm9.trans sm10⟩
          · rintro σ H9 ⟨v8, v9, v10, v11, a', ps, rfl, hE, hps, sm9⟩
            -- sorted by the greatest place
            have sm69 : Same H6 H9 := sm6.trans sm9
            have F9 := F8.same sm9
            refine ⟨_, rfl, a', rfl, ⟨ps.map (·.1), SqL.of hE.at_⟩, fun D1 hD1 => ?_⟩
            refine lc_list (K := K) (a := a') (xs := ps.map (·.1)) (fun j H' => ∃ qs : List (V × List Int), H' D1 = some (.lst (qs.map (·.1))) ∧ (∀ p ∈ qs, El H' D1 p) ∧ qs.map (·.2) = ((LL (per d) m).take j).map List.reverse ∧ Same H9 H')
              ⟨[], upd_same, fun p hp => by simp at hp, rfl, sNew (Same.refl _) hD1⟩ (fun j H' _ hh => by
                obtain ⟨_, _, _, _, q⟩ := hh
                exact SqL.of (hE.same q).at_) ?_ ?_
            · rintro j y H10 hy ⟨qs, h1, h2, h3, sm10⟩
              obtain ⟨t, s, rfl, hpj, ht⟩ := (hE.same sm10).get hy
              have hLj : (LL (per d) m)[j]? = some s := by
                rw [← hps, List.getElem?_map, hpj]
                rfl
              have hjl : j < (LL (per d) m).length := (List.getElem?_eq_some_iff.mp hLj).1
              refine ⟨rfl, yes_if ?_⟩
              refine ⟨_, rfl, t, _, rfl, SqL.of ht, fun p hp => ?_⟩
              have smP := sNew (o := .lst (s.map V.int).reverse) (Same.refl H10) hp
              have nDp : p ≠ D1 := fun z => by rw [z] at hp; rw [h1] at hp; cases hp
              have lqs : qs.length ≤ 400 := by
                have := congrArg List.length h3
                rw [List.length_map, List.length_map, List.length_take] at this
                rw [LL_len hpr.bd] at this
                omega
              refine ⟨_, smP _ _ h1, by rw [List.length_map, sizeLine_eq]; omega, qs ++ [(.ref p, s.reverse)], by rw [upd_same, List.map_append]; rfl, fun r hr => ?_, ?_, sm_upd (sm10.trans smP) hD1⟩
              · rcases List.mem_append.mp hr with z | z
                · exact ((h2 r z).same smP).upd
                · rw [List.mem_singleton] at z
                  subst z
                  exact ⟨p, rfl, nDp, by rw [upd_ne nDp, upd_same, List.map_reverse]⟩
              · rw [List.map_append, h3, take_get hLj, List.map_append]
                rfl
            · rintro H10 ⟨qs, h1, h2, h3, sm10⟩
              rw [List.length_map, show ps.length = (LL (per d) m).length by rw [← hps, List.length_map], List.take_length] at h3
              refine ⟨D1, qs, rfl, SqL.of h1, fun p hp => by
                obtain ⟨t, e1, _, q⟩ := h2 p hp
                exact ⟨t, e1, SqL.of q⟩, fun zs d0 hperm hsort hd0' => ?_⟩
              have smZ := sNew (o := .lst (zs.map (·.1))) (Same.refl H10) hd0'
              have hZ : Els (upd H10 d0 (.lst (zs.map (·.1)))) d0 zs := ⟨upd_same, fun p hp => ⟨D1, (h2 p (hperm.mem_iff.mp hp)).same smZ⟩⟩
              have hdg := sorted_dg hpr.bd (m := m) (Y := zs.map (·.2)) (by rw [← h3]; exact hperm.map _) (List.pairwise_map.mpr hsort)
              generalize hNe : (qn (per d) m).toNat = N at hdg
              have hNq : (N : Int) = qn (per d) m := by omega
              have hlz : zs.length = N := by
                have := congrArg List.length hdg
                simpa using this
              refine ⟨d0, rfl, ⟨zs.map (·.1), SqL.of upd_same⟩, fun D2 hD2 => ?_⟩
              refine lc_list (K := K) (a := d0) (xs := zs.map (·.1)) (fun j H' => ∃ rs : List (V × List Int), H' D2 = some (.lst (rs.map (·.1))) ∧ (∀ p ∈ rs, El H' D2 p) ∧ rs.map (·.2) = (zs.take j).map (fun z => z.2.reverse) ∧ Same (upd H10 d0 (.lst (zs.map (·.1)))) H')
                ⟨[], upd_same, fun p hp => by simp at hp, rfl, sNew (Same.refl _) hD2⟩ (fun j H' _ hh => by
                  obtain ⟨_, _, _, _, q⟩ := hh
                  exact SqL.of (hZ.same q).at_) ?_ ?_
              · rintro j y H11 hy ⟨rs, g1, g2, g3, sm11⟩
                obtain ⟨t, s, rfl, hpj, ht⟩ := (hZ.same sm11).get hy
                refine ⟨rfl, yes_if ?_⟩
                refine ⟨_, rfl, t, _, rfl, SqL.of ht, fun p hp => ?_⟩
                have smP := sNew (o := .lst (s.map V.int).reverse) (Same.refl H11) hp
                have nDp : p ≠ D2 := fun z => by rw [z] at hp; rw [g1] at hp; cases hp
                have lrs : rs.length ≤ 400 := by
                  have := congrArg List.length g3
                  rw [List.length_map, List.length_map, List.length_take] at this
                  omega
                refine ⟨_, smP _ _ g1, by rw [List.length_map, sizeLine_eq]; omega, rs ++ [(.ref p, s.reverse)], by rw [upd_same, List.map_append]; rfl, fun r hr => ?_, ?_, sm_upd (sm11.trans smP) hD2⟩
                · rcases List.mem_append.mp hr with z | z
                  · exact ((g2 r z).same smP).upd
                  · rw [List.mem_singleton] at z
                    subst z
                    exact ⟨p, rfl, nDp, by rw [upd_ne nDp, upd_same, List.map_reverse]⟩
                · rw [List.map_append, g3, take_get hpj, List.map_append]
                  rfl
              · rintro H12 ⟨rs, g1, g2, g3, sm12⟩
                rw [List.length_map, List.take_length] at g3
                have hrs : rs.map (·.2) = (List.range N).map fun (n : Nat) => dg (per d) m (n : Int) := by
                  rw [g3, ← hdg, List.map_map]
                  rfl
                have hlr : rs.length = N := by
                  have := congrArg List.length hrs
                  simpa using this
                have hR : Els H12 D2 rs := ⟨g1, fun p hp => ⟨D2, g2 p hp⟩⟩
                have sm612 : Same H6 H12 := sm69.trans (sm10.trans (smZ.trans sm12))
                have F12 := F6.same sm612
                have B12 := B6.same sm612
                have getR : ∀ (H' : Hp) (j : Nat), Same H12 H' → j < N → ∃ t, (rs.map (·.1))[j]? = some (.ref t) ∧ H' t = some (.lst ((dg (per d) m (j : Int)).map V.int)) := fun H' j s' hj => by
                  obtain ⟨y, hy⟩ : ∃ y, (rs.map (·.1))[j]? = some y := ⟨_, List.getElem?_eq_getElem (by rw [List.length_map]; omega)⟩
                  obtain ⟨t, s, rfl, hpj, ht⟩ := (hR.same s').get hy
                  have e1 : (rs.map (·.2))[j]? = some s := by
                    rw [List.getElem?_map, hpj]
                    rfl
                  rw [hrs, List.getElem?_map, List.getElem?_range hj] at e1
                  have e1 : dg (per d) m (j : Int) = s := Option.some.inj e1
                  exact ⟨t, hy, by rw [e1]; exact ht⟩
                clear hE hps sm9 hZ g3 g2 h1 h2 h3 hperm hsort
                -- the values
                refine ⟨_, rfl, D2, rfl, ⟨rs.map (·.1), SqL.of g1⟩, fun D3 hD3 => ?_⟩
                refine lc_list (K := K) (a := D2) (xs := rs.map (·.1)) (fun j H' => H' D3 = some (.lst (((List.range j).map fun (k : Nat) => (k : Int)).map V.int)) ∧ Same H12 H')
                  ⟨upd_same, sNew (Same.refl _) hD3⟩ (fun j H' _ hh => SqL.of (hR.same hh.2).at_) ?_ ?_
                · rintro j y H13 hy ⟨k1, sm13⟩
                  have hj : j < N := by
                    have := (List.getElem?_eq_some_iff.mp hy).1
                    rw [List.length_map] at this
                    omega
                  obtain ⟨t, ht1, ht⟩ := getR H13 j sm13 hj
                  rw [hy] at ht1
                  obtain rfl : y = .ref t := Option.some.inj ht1
                  have ⟨hcan, hsw⟩ := dg_ok hpr.one m (j : Int) (by omega) (by omega)
                  have F13 := F12.same sm13
                  obtain ⟨dxv, fsv, hinsv, hnov⟩ := F13.ins
                  refine ⟨rfl, yes_if ?_⟩
                  refine ⟨_, rfl, x, dxv, fsv, rfl, hinsv, hnov "value" (by decide +kernel) (by decide +kernel), _, rfl, x, t, d, _, rfl, F13, hd, SqL.of ht, hcan, by rw [dg_len]; omega, fun H14 sm14 => ?_⟩
                  rw [hsw]
                  refine ⟨_, sm14 _ _ k1, by rw [List.length_map, List.length_map, List.length_range, sizeLine_eq]; omega, by rw [upd_same, range_snocI, List.map_append]; rfl, sm_upd (sm13.trans sm14) hD3⟩
                · rintro H13 ⟨k1, sm13⟩
                  rw [List.length_map, hlr] at k1
                  have g13 := sm13 _ _ g1
                  refine ⟨_, rfl, D2, _, rfl, .inl (SqL.of g13), _, rfl, RgOk.of_le (by omega) (by rw [List.length_map]; omega) (by omega) (by omega), fun q hq => ?_⟩
                  rw [show rgV 0 (((rs.map (·.1)).length : Nat) : Int) = ((List.range N).map fun (k : Nat) => (k : Int)).map V.int by
                    rw [List.length_map, hlr]
                    unfold rgV
                    rw [List.map_map, show ((N : Int) - 0).toNat = N by omega]
                    refine List.map_congr_left fun k _ => ?_
                    show V.int (0 + (k : Int)) = V.int (k : Int)
                    rw [Int.zero_add]]
                  have smQ := sNew (o := .lst (((List.range N).map fun (k : Nat) => (k : Int)).map V.int)) (Same.refl H13) hq
                  refine ⟨_, _, .lst (((List.range N).map fun (k : Nat) => (k : Int)).map D.int), rfl, ⟨D3, _, rfl, SqL.of (smQ _ _ k1), by rw [List.length_map, List.length_map, List.length_range]; omega, rps_ints _⟩, ⟨q, _, rfl, SqL.of upd_same, by rw [List.length_map, List.length_map, List.length_range]; omega, rps_ints _⟩, by show depL _ + 1 ≤ 5; rw [dep_ints]; decide, fun H14 sm14 => ⟨_, rfl, iteF ?_⟩⟩
                  have sm1214 := (sm13.trans smQ).trans sm14
                  -- how many
                  have F14 := F12.same sm1214
                  obtain ⟨dxs, fss, hinss, hnos⟩ := F14.ins
                  refine ⟨_, rfl, D2, _, rfl, .inl (SqL.of (sm1214 _ _ g1)), ?_⟩
                  rw [List.length_map, hlr]
                  refine ⟨_, rfl, x, dxs, fss, rfl, hinss, hnos "step" (by decide +kernel) (by decide +kernel), _, rfl, x, d, m, rfl, F14, hd, by omega, fun H15 sm15 => ?_⟩
                  refine ⟨rfl, _, rfl, iteN (by rw [hNq]; simp) ?_⟩
                  have sm1215 := sm1214.trans sm15
                  -- the digits
                  refine ⟨_, rfl, D2, _, rfl, .inl (SqL.of (sm1215 _ _ g1)), _, rfl, by rw [List.length_map]; omega, by rw [List.length_map]; omega, ?_⟩
                  refine for_range (n := (rs.map (·.1)).length) (fun _ σ H' => ∃ v10 v11 v12 v13 : Option V, ∃ v8 v9 : Option V, σ = [some (.ref a), some (.ref b), some (.int (0 + (i0 : Nat))), some (.int d), some (.ref x), some (.int (m : Int)), some (.int (2 + r)), some (.ref D2), v8, v9, v10, v11, v12, v13, v14, v15] ∧ Same H12 H')
                    ⟨v10, v11, v12, v13, v8, v9, rfl, sm1215⟩ ?_ ?_
                  · rintro n σ H16 hn ⟨v10, v11, v12, v13, v8, v9, rfl, sm16⟩
                    rw [List.length_map, hlr] at hn
                    rw [show (0 : Int) + ((n : Nat) : Int) = ((n : Nat) : Int) by omega]
                    obtain ⟨t, hyt, ht⟩ := getR H16 n sm16 hn
                    have hnq : (n : Int) < qn (per d) m := by omega
                    have hdl := dg_len (p := per d) m (n : Int)
                    generalize hds : dg (per d) m (n : Int) = ds at ht hdl
                    refine ⟨_, rfl, _, rfl, D2, _, _, _, rfl, rfl, SqL.of (sm16 _ _ g1), atI_nat hyt, ?_⟩
                    -- how many digits behind the last zero
                    refine ⟨_, rfl, t, _, rfl, .inl (SqL.of ht), _, rfl, t, _, rfl, .inl (SqL.of ht), _, rfl, by rw [List.length_map]; omega, by rw [List.length_map]; omega, fun D4 hD4 => ?_⟩
                    refine lc_range (n := (ds.map V.int).length) (fun k H' => H' D4 = some (.lst (((List.range k).filter fun j => decide (ds.drop j = List.replicate (ds.length - j) 0)).map fun (j : Nat) => V.int (j : Int))) ∧ Same H16 H')
                      ⟨upd_same, sNew (Same.refl _) hD4⟩ ?_ ?_
                    · rintro k H17 hk ⟨h1, sm17⟩
                      rw [List.length_map] at hk
                      rw [show (0 : Int) + ((k : Nat) : Int) = ((k : Nat) : Int) by omega]
                      have ht17 := sm17 _ _ ht
                      refine ⟨rfl, ?_⟩
                      refine ⟨_, rfl, _, rfl, _, rfl, t, _, rfl, SqL.of ht17, fun p1 hp1 => ?_⟩
                      rw [cut_from (by omega)]
                      refine ⟨by show 1 ≤ sizeLine; decide, fun p2 hp2 => ?_⟩
                      have s1 := sNew (o := .lst ((ds.drop k).map V.int)) (Same.refl H17) hp1
                      have s2 := sNew (o := .lst [.int 0]) s1 hp2
                      refine ⟨_, rfl, t, _, rfl, .inl (SqL.of (s2 _ _ ht17)), _, rfl, _, _, rfl, rfl, p2, _, _, rfl, rfl, upd_same, by rw [List.length_map]; omega, by rw [List.length_map]; omega, by rw [List.length_map, sizeLine_eq]; show 1 * _ ≤ _; omega, fun p3 hp3 => ?_⟩
                      rw [rep_zero (n := ds.length - k) (by rw [List.length_map]; omega)]
                      have s3 := sNew (o := .lst ((List.replicate (ds.length - k) (0 : Int)).map V.int)) s2 hp3
                      have n12 : p1 ≠ p2 := fun z => by rw [z, upd_same] at hp2; cases hp2
                      have h1' : upd (upd (upd H17 p1 (.lst ((ds.drop k).map V.int))) p2 (.lst [.int 0])) p3 (.lst ((List.replicate (ds.length - k) (0 : Int)).map V.int)) p1 = some (.lst ((ds.drop k).map V.int)) := by
                        have n13 : p1 ≠ p3 := fun z => by rw [z, upd_ne (fun y => by rw [z] at n12; exact n12 y), upd_same] at hp3; cases hp3
                        rw [upd_ne n13, upd_ne n12, upd_same]
                      refine ⟨.list ((ds.drop k).map PyData.int), .list ((List.replicate (ds.length - k) (0 : Int)).map PyData.int), .lst (SqL.of h1') (dp_ints _), .lst (SqL.of upd_same) (dp_ints _), shaped_ints _, shaped_ints _, ?_⟩
                      rw [eqv_ints]
                      refine ⟨_, rfl, ?_⟩
                      have hfl := List.length_filter_le (fun j => decide (ds.drop j = List.replicate (ds.length - j) 0)) (List.range k)
                      rw [List.length_range] at hfl
                      by_cases hc : ds.drop k = List.replicate (ds.length - k) 0
                      · refine iteP (decide_eq_true hc) ?_
                        refine ⟨_, rfl, _, s3 _ _ h1, by rw [List.length_map, sizeLine_eq]; omega, ?_, sm_upd (sm17.trans s3) hD4⟩
                        rw [upd_same, List.range_succ, List.filter_append, List.map_append]
                        simp [hc]
                      · refine iteN (nd_of hc) ⟨?_, sm17.trans s3⟩
                        rw [s3 _ _ h1, List.range_succ, List.filter_append, List.map_append]
                        simp [hc]
                    · rintro H17 ⟨h1, sm17⟩
                      rw [List.length_map] at h1
                      have sm1217 := sm16.trans sm17
                      have F17 := F12.same sm1217
                      obtain ⟨dxd, fsd, hinsd, hnod⟩ := F17.ins
                      refine ⟨D4, _, rfl, .inl (SqL.of h1), _, _, rfl, rfl, ?_⟩
                      refine ⟨_, rfl, x, dxd, fsd, rfl, hinsd, hnod "digits" (by decide +kernel) (by decide +kernel), _, rfl, x, d, (n : Int), rfl, F17, hd, by omega, by omega, fun m' l H18 hm' hlt hmin nl hl18 sm18 => ?_⟩
                      have hmm : m' ≤ m := by
                        cases m' with
                        | zero => exact Nat.zero_le _
                        | succ j =>
                          have h0 := hmin j rfl
                          by_cases hh : j < m
                          · omega
                          · have := qn_mono hpr.one (show m ≤ j by omega)
                            omega
                      have e1 : ds = dg (per d) m' (n : Int) ++ List.replicate (m - m') 0 := by
                        have := dg_more hpr.one (show (0 : Int) ≤ (n : Int) by omega) hlt (m - m')
                        rw [← this, ← hds, show m' + (m - m') = m by omega]
                      have e2 : dg (per d) m' (n : Int) = [] ∨ (dg (per d) m' (n : Int)).getLastD 0 ≠ 0 := by
                        cases m' with
                        | zero => exact .inl rfl
                        | succ j => exact .inr (dg_top hpr.one (hmin j rfl))
                      have e3 := trail (k := m - m') e2
                      rw [← e1] at e3
                      have hl' := dg_len (p := per d) m' (n : Int)
                      have e4 : ((ds.map V.int).length : Int) - (((((List.range ds.length).filter fun j => decide (ds.drop j = List.replicate (ds.length - j) 0)).map fun (j : Nat) => V.int (j : Int)).length : Nat) : Int) = ((m' : Nat) : Int) := by
                        rw [List.length_map, List.length_map, e3, hdl]
                        omega
                      refine ⟨_, rfl, _, rfl, _, rfl, t, _, rfl, SqL.of (sm18 _ _ (sm17 _ _ ht)), fun p hp => ?_⟩
                      rw [e4, cut_to (by omega)]
                      have e5 : ds.take m' = dg (per d) m' (n : Int) := by
                        rw [e1, List.take_append_of_le_length (by omega), List.take_of_length_le (by omega)]
                      rw [e5]
                      have s4 := sNew (o := .lst ((dg (per d) m' (n : Int)).map V.int)) (Same.refl H18) hp
                      refine ⟨.list ((dg (per d) m' (n : Int)).map PyData.int), .list ((dg (per d) m' (n : Int)).map PyData.int), .lst (SqL.of (s4 _ _ hl18)) (dp_ints _), .lst (SqL.of upd_same) (dp_ints _), shaped_ints _, shaped_ints _, ?_⟩
                      rw [eqv_ints, decide_eq_true rfl]
                      refine ⟨_, rfl, iteN (by decide) ?_⟩
                      exact ⟨_, _, _, _, _, _, rfl, sm1217.trans (sm18.trans s4)⟩
                  · rintro σ H16 ⟨v10, v11, v12, v13, v8, v9, rfl, sm16⟩
                    exact ⟨_, _, _, _, _, _, _, _, _, _, _, _, _, _, rfl, B12.same sm16⟩
      · rintro σ H Q Q' hq ⟨u3, e3, u5, e5, i, j, ea, eb, d', m', evs, hd', hm', q⟩
        refine ⟨u3, e3, u5, e5, i, j, ea, eb, d', m', evs, hd', hm', fun a' H' h1 h2 h3 => ?_⟩
        obtain ⟨z1, y1, z2, y2, z3, z4, y3, y4, y5, y6, z5, y7, z6, z7, y8, y9, z8, y10, q'⟩ := q a' H' h1 h2 h3
        exact ⟨z1, y1, z2, y2, z3, z4, y3, y4, y5, y6, z5, y7, z6, z7, y8, y9, z8, y10, hq _ _ q'⟩
    · rintro σ H2 ⟨v2, v3, v4, v5, v6, v7, v8, v9, v10, v11, v12, v13, v14, v15, rfl, B2⟩
      exact kk _
end
end RF

namespace RF
open PySem L2 PyProof.Rows
def fI : List DictEntry → Int → Option Value
  | [], _ => none
  | c :: r, i => if Value.isInt i c.key = true then some c.val else fI r i
theorem find_fI : ∀ (l : List DictEntry) (i : Int), (l.find? fun c => Value.isInt i c.key).map (·.val) = fI l i
  | [], _ => rfl
  | c :: r, i => by
    rw [List.find?_cons]
    unfold fI
    cases h : Value.isInt i c.key
    · rw [if_neg (by decide)]
      exact find_fI r i
    · rw [if_pos rfl]; rfl
theorem findBy_fI (es : Array DictEntry) (i : Int) : findBy Value.isInt es i = fI es.toList i := by
  unfold findBy
  rw [← find_fI, ← List.find?_toArray]
theorem Df.mono {P : Program} {w : World} {K : PySem.W.Frag} {mg : Str → Option Value} {base : Heap} {j k : Nat} {x : Str} {ps : List Str} {sp : Sp} (D : Df P w K mg base j x ps sp) (h : j ≤ k) : Df P w K mg base k x ps sp := by
  obtain ⟨f, fd, G, b, m, kp⟩ := D.ex
  exact ⟨f, fd, G.mono h, b, m, kp⟩
theorem all_mk {l : PySem.W.OpenLaw} {w : World} {K : PySem.W.Frag} {h : Heap} {mg : Str → Option Value} {fa : Addr} (X : K.In h) (G : h.Ns mainGlobals mg) (hfa : mg "law" = some (.ref fa))
    {CF pd : Addr} {es : Array DictEntry} {np : Nat}
    {f1 : Addr} {od1 an1 : Option Addr} {sl1 : Array (Option Value)} {oc1 kV1 dc1 pm1 cd1 ct1 : Value}
    {f2 : Addr} {od2 an2 : Option Addr} {sl2 : Array (Option Value)} {oc2 kV2 dc2 pm2 cd2 ct2 : Value}
    {f3 : Addr} {od3 an3 : Option Addr} {sl3 : Array (Option Value)} {oc3 kV3 dc3 pm3 cd3 ct3 : Value}
    {f4 : Addr} {od4 an4 : Option Addr} {sl4 : Array (Option Value)} {oc4 kV4 dc4 pm4 cd4 ct4 : Value}
    {f5 : Addr} {od5 an5 : Option Addr} {sl5 : Array (Option Value)} {oc5 kV5 dc5 pm5 cd5 ct5 : Value}
    {f6 : Addr} {od6 an6 : Option Addr} {sl6 : Array (Option Value)} {oc6 kV6 dc6 pm6 cd6 ct6 : Value}
    {f7 : Addr} {od7 an7 : Option Addr} {sl7 : Array (Option Value)} {oc7 kV7 dc7 pm7 cd7 ct7 : Value}
    {f8 : Addr} {od8 an8 : Option Addr} {sl8 : Array (Option Value)} {oc8 kV8 dc8 pm8 cd8 ct8 : Value}
    {f9 : Addr} {od9 an9 : Option Addr} {sl9 : Array (Option Value)} {oc9 kV9 dc9 pm9 cd9 ct9 : Value}
    {f10 : Addr} {od10 an10 : Option Addr} {sl10 : Array (Option Value)} {oc10 kV10 dc10 pm10 cd10 ct10 : Value}
    {f11 : Addr} {od11 an11 : Option Addr} {sl11 : Array (Option Value)} {oc11 kV11 dc11 pm11 cd11 ct11 : Value}
    {f12 : Addr} {od12 an12 : Option Addr} {sl12 : Array (Option Value)} {oc12 kV12 dc12 pm12 cd12 ct12 : Value}
    {f13 : Addr} {od13 an13 : Option Addr} {sl13 : Array (Option Value)} {oc13 kV13 dc13 pm13 cd13 ct13 : Value}
    {f14 : Addr} {od14 an14 : Option Addr} {sl14 : Array (Option Value)} {oc14 kV14 dc14 pm14 cd14 ct14 : Value}
    {f15 : Addr} {od15 an15 : Option Addr} {sl15 : Array (Option Value)} {oc15 kV15 dc15 pm15 cd15 ct15 : Value}
    {f16 : Addr} {od16 an16 : Option Addr} {sl16 : Array (Option Value)} {oc16 kV16 dc16 pm16 cd16 ct16 : Value}
    {f17 : Addr} {od17 an17 : Option Addr} {sl17 : Array (Option Value)} {oc17 kV17 dc17 pm17 cd17 ct17 : Value}
    {f18 : Addr} {od18 an18 : Option Addr} {sl18 : Array (Option Value)} {oc18 kV18 dc18 pm18 cd18 ct18 : Value}
    {f19 : Addr} {od19 an19 : Option Addr} {sl19 : Array (Option Value)} {oc19 kV19 dc19 pm19 cd19 ct19 : Value}
    {f20 : Addr} {od20 an20 : Option Addr} {sl20 : Array (Option Value)} {oc20 kV20 dc20 pm20 cd20 ct20 : Value}
    {f21 : Addr} {od21 an21 : Option Addr} {sl21 : Array (Option Value)} {oc21 kV21 dc21 pm21 cd21 ct21 : Value}
    {tMP : Tok}
    {qp2 : Addr} {op2 : Obj} {np2 : Nat} {kp2_0 : Tok}
    {qp3 : Addr} {op3 : Obj} {np3 : Nat} {kp3_0 kp3_1 : Tok}
    {qp5 : Addr} {op5 : Obj} {np5 : Nat} {kp5_0 : Tok}
    {qp6 : Addr} {op6 : Obj} {np6 : Nat} {kp6_0 kp6_1 : Tok}
    {qp13 : Addr} {op13 : Obj} {np13 : Nat} {kp13_0 : Tok}
    (a1 : PySem.W.nsIn K mainGlobals "is_whole" = some (some (.ref f1)))
    (l1 : K.lookup f1 = some ⟨oc1, od1, .func (PySem.W.fnOf "is_whole" "is_whole" (defArgs (top 8)) (defBody (top 8)) (defScope (top 8)) .none kV1 dc1 pm1 an1 cd1 ct1), sl1⟩)
    (c1 : PySem.W.codeIn K cd1 "is_whole" = true)
    (k1 : PySem.W.keepIn K (.ref f1) = true)
    (a2 : PySem.W.nsIn K mainGlobals "is_between" = some (some (.ref f2)))
    (l2 : K.lookup f2 = some ⟨oc2, od2, .func (PySem.W.fnOf "is_between" "is_between" (defArgs (top 9)) (defBody (top 9)) (defScope (top 9)) .none kV2 dc2 pm2 an2 cd2 ct2), sl2⟩)
    (c2 : PySem.W.codeIn K cd2 "is_between" = true)
    (k2 : PySem.W.keepIn K (.ref f2) = true)
    (a3 : PySem.W.nsIn K mainGlobals "is_number" = some (some (.ref f3)))
    (l3 : K.lookup f3 = some ⟨oc3, od3, .func (PySem.W.fnOf "is_number" "is_number" (defArgs (top 10)) (defBody (top 10)) (defScope (top 10)) .none kV3 dc3 pm3 an3 cd3 ct3), sl3⟩)
    (c3 : PySem.W.codeIn K cd3 "is_number" = true)
    (k3 : PySem.W.keepIn K (.ref f3) = true)
    (a4 : PySem.W.nsIn K mainGlobals "is_root" = some (some (.ref f4)))
    (l4 : K.lookup f4 = some ⟨oc4, od4, .func (PySem.W.fnOf "is_root" "is_root" (defArgs (top 11)) (defBody (top 11)) (defScope (top 11)) .none kV4 dc4 pm4 an4 cd4 ct4), sl4⟩)
    (c4 : PySem.W.codeIn K cd4 "is_root" = true)
    (k4 : PySem.W.keepIn K (.ref f4) = true)
    (a5 : PySem.W.nsIn K mainGlobals "_part_above" = some (some (.ref f5)))
    (l5 : K.lookup f5 = some ⟨oc5, od5, .func (PySem.W.fnOf "_part_above" "_part_above" (defArgs (top 15)) (defBody (top 15)) (defScope (top 15)) .none kV5 dc5 pm5 an5 cd5 ct5), sl5⟩)
    (c5 : PySem.W.codeIn K cd5 "_part_above" = true)
    (k5 : PySem.W.keepIn K (.ref f5) = true)
    (a6 : PySem.W.nsIn K mainGlobals "_steps_within" = some (some (.ref f6)))
    (l6 : K.lookup f6 = some ⟨oc6, od6, .func (PySem.W.fnOf "_steps_within" "_steps_within" (defArgs (top 17)) (defBody (top 17)) (defScope (top 17)) .none kV6 dc6 pm6 an6 cd6 ct6), sl6⟩)
    (c6 : PySem.W.codeIn K cd6 "_steps_within" = true)
    (k6 : PySem.W.keepIn K (.ref f6) = true)
    (a7 : PySem.W.nsIn K mainGlobals "digits_in" = some (some (.ref f7)))
    (l7 : K.lookup f7 = some ⟨oc7, od7, .func (PySem.W.fnOf "digits_in" "digits_in" (defArgs (top 16)) (defBody (top 16)) (defScope (top 16)) .none kV7 dc7 pm7 an7 cd7 ct7), sl7⟩)
    (c7 : PySem.W.codeIn K cd7 "digits_in" = true)
    (k7 : PySem.W.keepIn K (.ref f7) = true)
    (a8 : PySem.W.nsIn K mainGlobals "can_stand" = some (some (.ref f8)))
    (l8 : K.lookup f8 = some ⟨oc8, od8, .func (PySem.W.fnOf "can_stand" "can_stand" (defArgs (top 18)) (defBody (top 18)) (defScope (top 18)) .none kV8 dc8 pm8 an8 cd8 ct8), sl8⟩)
    (c8 : PySem.W.codeIn K cd8 "can_stand" = true)
    (k8 : PySem.W.keepIn K (.ref f8) = true)
    (a9 : PySem.W.nsIn K mainGlobals "_law_bag" = some (some (.ref f9)))
    (l9 : K.lookup f9 = some ⟨oc9, od9, .func (PySem.W.fnOf "_law_bag" "_law_bag" (defArgs (top 20)) (defBody (top 20)) (defScope (top 20)) .none kV9 dc9 pm9 an9 cd9 ct9), sl9⟩)
    (c9 : PySem.W.codeIn K cd9 "_law_bag" = true)
    (k9 : PySem.W.keepIn K (.ref f9) = true)
    (a10 : PySem.W.nsIn K mainGlobals "_law_pull" = some (some (.ref f10)))
    (l10 : K.lookup f10 = some ⟨oc10, od10, .func (PySem.W.fnOf "_law_pull" "_law_pull" (defArgs (top 21)) (defBody (top 21)) (defScope (top 21)) .none kV10 dc10 pm10 an10 cd10 ct10), sl10⟩)
    (c10 : PySem.W.codeIn K cd10 "_law_pull" = true)
    (k10 : PySem.W.keepIn K (.ref f10) = true)
    (a11 : PySem.W.nsIn K mainGlobals "_law_of" = some (some (.ref f11)))
    (l11 : K.lookup f11 = some ⟨oc11, od11, .func (PySem.W.fnOf "_law_of" "_law_of" (defArgs (top 22)) (defBody (top 22)) (defScope (top 22)) .none kV11 dc11 pm11 an11 cd11 ct11), sl11⟩)
    (c11 : PySem.W.codeIn K cd11 "_law_of" = true)
    (k11 : PySem.W.keepIn K (.ref f11) = true)
    (a12 : PySem.W.nsIn K mainGlobals "_law_same" = some (some (.ref f12)))
    (l12 : K.lookup f12 = some ⟨oc12, od12, .func (PySem.W.fnOf "_law_same" "_law_same" (defArgs (top 23)) (defBody (top 23)) (defScope (top 23)) .none kV12 dc12 pm12 an12 cd12 ct12), sl12⟩)
    (c12 : PySem.W.codeIn K cd12 "_law_same" = true)
    (k12 : PySem.W.keepIn K (.ref f12) = true)
    (a13 : PySem.W.nsIn K mainGlobals "_law_period" = some (some (.ref f13)))
    (l13 : K.lookup f13 = some ⟨oc13, od13, .func (PySem.W.fnOf "_law_period" "_law_period" (defArgs (top 24)) (defBody (top 24)) (defScope (top 24)) .none kV13 dc13 pm13 an13 cd13 ct13), sl13⟩)
    (c13 : PySem.W.codeIn K cd13 "_law_period" = true)
    (k13 : PySem.W.keepIn K (.ref f13) = true)
    (a14 : PySem.W.nsIn K mainGlobals "_law_steps" = some (some (.ref f14)))
    (l14 : K.lookup f14 = some ⟨oc14, od14, .func (PySem.W.fnOf "_law_steps" "_law_steps" (defArgs (top 25)) (defBody (top 25)) (defScope (top 25)) .none kV14 dc14 pm14 an14 cd14 ct14), sl14⟩)
    (c14 : PySem.W.codeIn K cd14 "_law_steps" = true)
    (k14 : PySem.W.keepIn K (.ref f14) = true)
    (a15 : PySem.W.nsIn K mainGlobals "_law_can" = some (some (.ref f15)))
    (l15 : K.lookup f15 = some ⟨oc15, od15, .func (PySem.W.fnOf "_law_can" "_law_can" (defArgs (top 26)) (defBody (top 26)) (defScope (top 26)) .none kV15 dc15 pm15 an15 cd15 ct15), sl15⟩)
    (c15 : PySem.W.codeIn K cd15 "_law_can" = true)
    (k15 : PySem.W.keepIn K (.ref f15) = true)
    (a16 : PySem.W.nsIn K mainGlobals "_law_root" = some (some (.ref f16)))
    (l16 : K.lookup f16 = some ⟨oc16, od16, .func (PySem.W.fnOf "_law_root" "_law_root" (defArgs (top 27)) (defBody (top 27)) (defScope (top 27)) .none kV16 dc16 pm16 an16 cd16 ct16), sl16⟩)
    (c16 : PySem.W.codeIn K cd16 "_law_root" = true)
    (k16 : PySem.W.keepIn K (.ref f16) = true)
    (a17 : PySem.W.nsIn K mainGlobals "law" = some (some (.ref f17)))
    (l17 : K.lookup f17 = some ⟨oc17, od17, .func (PySem.W.fnOf "law" "law" (defArgs (top 28)) (defBody (top 28)) (defScope (top 28)) .none kV17 dc17 pm17 an17 cd17 ct17), sl17⟩)
    (c17 : PySem.W.codeIn K cd17 "law" = true)
    (k17 : PySem.W.keepIn K (.ref f17) = true)
    (aF : PySem.W.nsIn K mainGlobals "Field" = some (some (.ref CF)))
    (a18 : PySem.W.findIn K (.ref CF) "__init__" = some (some (.ref f18)))
    (l18 : K.lookup f18 = some ⟨oc18, od18, .func (PySem.W.fnOf "__init__" "Field.__init__" (defArgs (sF 1)) (defBody (sF 1)) (defScope (sF 1)) .none kV18 dc18 pm18 an18 cd18 ct18), sl18⟩)
    (c18 : PySem.W.codeIn K cd18 "Field.__init__" = true)
    (k18 : PySem.W.keepIn K (.ref f18) = true)
    (i18 : PySem.W.isFn K (.ref f18) = true)
    (a19 : PySem.W.findIn K (.ref CF) "digits" = some (some (.ref f19)))
    (l19 : K.lookup f19 = some ⟨oc19, od19, .func (PySem.W.fnOf "digits" "Field.digits" (defArgs (sF 9)) (defBody (sF 9)) (defScope (sF 9)) .none kV19 dc19 pm19 an19 cd19 ct19), sl19⟩)
    (c19 : PySem.W.codeIn K cd19 "Field.digits" = true)
    (k19 : PySem.W.keepIn K (.ref f19) = true)
    (i19 : PySem.W.isFn K (.ref f19) = true)
    (a20 : PySem.W.findIn K (.ref CF) "value" = some (some (.ref f20)))
    (l20 : K.lookup f20 = some ⟨oc20, od20, .func (PySem.W.fnOf "value" "Field.value" (defArgs (sF 10)) (defBody (sF 10)) (defScope (sF 10)) .none kV20 dc20 pm20 an20 cd20 ct20), sl20⟩)
    (c20 : PySem.W.codeIn K cd20 "Field.value" = true)
    (k20 : PySem.W.keepIn K (.ref f20) = true)
    (i20 : PySem.W.isFn K (.ref f20) = true)
    (a21 : PySem.W.findIn K (.ref CF) "step" = some (some (.ref f21)))
    (l21 : K.lookup f21 = some ⟨oc21, od21, .func (PySem.W.fnOf "step" "Field.step" (defArgs (sF 6)) (defBody (sF 6)) (defScope (sF 6)) .none kV21 dc21 pm21 an21 cd21 ct21), sl21⟩)
    (c21 : PySem.W.codeIn K cd21 "Field.step" = true)
    (k21 : PySem.W.keepIn K (.ref f21) = true)
    (i21 : PySem.W.isFn K (.ref f21) = true)
    (aM : PySem.W.nsIn K mainGlobals "MOST_PLACE" = some (some (.int 1000 tMP)))
    (pgF : PySem.W.plainGet K CF Str.empty = true)
    (hdF : PySem.W.hasDictIn K CF = true)
    (poF : PySem.W.plainOver K CF = true)
    (saF : PySem.W.findIn K (.ref CF) "__setattr__" = some (some (.builtin "object.__setattr__")))
    (mkF : PySem.W.makesIn K CF = true)
    (kpF : PySem.W.keepIn K (.ref CF) = true)
    (nRF : PySem.W.findIn K (.ref CF) "_root" = some none)
    (nPF : PySem.W.findIn K (.ref CF) "_period" = some none)
    (aP : PySem.W.nsIn K mainGlobals "PERIODS" = some (some (.ref pd)))
    (lP : K.lookup pd = some ⟨.type "dict", none, .dict es np, #[]⟩)
    (oP : okE es.toList [2, 3, 5, 6, 13] = true)
    (wP : (pd == sysModules) = false)
    (gp2 : fI es.toList 2 = some (.ref qp2))
    (tlp2 : K.lookup qp2 = some op2)
    (tcp2 : op2.cls = .type "tuple")
    (tdp2 : op2.data = .seq #[.int (2) kp2_0] np2)
    (gp3 : fI es.toList 3 = some (.ref qp3))
    (tlp3 : K.lookup qp3 = some op3)
    (tcp3 : op3.cls = .type "tuple")
    (tdp3 : op3.data = .seq #[.int (1) kp3_0, .int (2) kp3_1] np3)
    (gp5 : fI es.toList 5 = some (.ref qp5))
    (tlp5 : K.lookup qp5 = some op5)
    (tcp5 : op5.cls = .type "tuple")
    (tdp5 : op5.data = .seq #[.int (1) kp5_0] np5)
    (gp6 : fI es.toList 6 = some (.ref qp6))
    (tlp6 : K.lookup qp6 = some op6)
    (tcp6 : op6.cls = .type "tuple")
    (tdp6 : op6.data = .seq #[.int (2) kp6_0, .int (4) kp6_1] np6)
    (gp13 : fI es.toList 13 = some (.ref qp13))
    (tlp13 : K.lookup qp13 = some op13)
    (tcp13 : op13.cls = .type "tuple")
    (tdp13 : op13.data = .seq #[.int (3) kp13_0] np13)
    (z_list : PySem.W.nsIn K mainGlobals "list" = some none)
    (z_len : PySem.W.nsIn K mainGlobals "len" = some none)
    (z_abs : PySem.W.nsIn K mainGlobals "abs" = some none)
    (z_int : PySem.W.nsIn K mainGlobals "int" = some none)
    (z_range : PySem.W.nsIn K mainGlobals "range" = some none)
    (z_isinstance : PySem.W.nsIn K mainGlobals "isinstance" = some none)
    (z_bool : PySem.W.nsIn K mainGlobals "bool" = some none)
    (z_str : PySem.W.nsIn K mainGlobals "str" = some none)
    (z_tuple : PySem.W.nsIn K mainGlobals "tuple" = some none)
    (z_all : PySem.W.nsIn K mainGlobals "all" = some none)
    (z_zip : PySem.W.nsIn K mainGlobals "zip" = some none)
    (z_sorted : PySem.W.nsIn K mainGlobals "sorted" = some none)
    (z_reversed : PySem.W.nsIn K mainGlobals "reversed" = some none)
    (z_divmod : PySem.W.nsIn K mainGlobals "divmod" = some none)
    (z_enumerate : PySem.W.nsIn K mainGlobals "enumerate" = some none) :
    ∃ fd : FuncData, (∀ (s : Shared) (v : Value), BindsTo s fd ⟨[v], []⟩ [("_law_script", v)]) ∧ ∀ base : Heap, K.In base → base.Ns mainGlobals mg → FnOk l.prog w K mg base CX0 10 fa fd ["_law_script"] (spLaw K) := by
  have e := hfa.symm.trans (PySem.W.mg_of X G a17)
  cases e
  have F_whole := fun_mk (st := top 8) l1 c1 k1
  have b_whole := F_whole.binds (ps := ["value"]) fun _ _ _ _ _ _ us hl => match us, hl with | [_], _ => rfl
  have m_whole := PySem.W.mg_of X G a1
  have F_btw := fun_mk (st := top 9) l2 c2 k2
  have b_btw := F_btw.binds (ps := ["value", "low", "high"]) fun _ _ _ _ _ _ us hl => match us, hl with | [_, _, _], _ => rfl
  have m_btw := PySem.W.mg_of X G a2
  have F_num := fun_mk (st := top 10) l3 c3 k3
  have b_num := F_num.binds (ps := ["value"]) fun _ _ _ _ _ _ us hl => match us, hl with | [_], _ => rfl
  have m_num := PySem.W.mg_of X G a3
  have F_isroot := fun_mk (st := top 11) l4 c4 k4
  have b_isroot := F_isroot.binds (ps := ["value"]) fun _ _ _ _ _ _ us hl => match us, hl with | [_], _ => rfl
  have m_isroot := PySem.W.mg_of X G a4
  have F_part := fun_mk (st := top 15) l5 c5 k5
  have b_part := F_part.binds (ps := ["period", "place"]) fun _ _ _ _ _ _ us hl => match us, hl with | [_, _], _ => rfl
  have m_part := PySem.W.mg_of X G a5
  have F_stw := fun_mk (st := top 17) l6 c6 k6
  have b_stw := F_stw.binds (ps := ["period", "number"]) fun _ _ _ _ _ _ us hl => match us, hl with | [_, _], _ => rfl
  have m_stw := PySem.W.mg_of X G a6
  have F_digin := fun_mk (st := top 16) l7 c7 k7
  have b_digin := F_digin.binds (ps := ["period", "number"]) fun _ _ _ _ _ _ us hl => match us, hl with | [_, _], _ => rfl
  have m_digin := PySem.W.mg_of X G a7
  have F_can := fun_mk (st := top 18) l8 c8 k8
  have b_can := F_can.binds (ps := ["period", "place", "digit", "lower"]) fun _ _ _ _ _ _ us hl => match us, hl with | [_, _, _, _], _ => rfl
  have m_can := PySem.W.mg_of X G a8
  have F_bag := fun_mk (st := top 20) l9 c9 k9
  have b_bag := F_bag.binds (ps := ["_law_script"]) fun _ _ _ _ _ _ us hl => match us, hl with | [_], _ => rfl
  have m_bag := PySem.W.mg_of X G a9
  have F_pull := fun_mk (st := top 21) l10 c10 k10
  have b_pull := F_pull.binds (ps := ["_law_bag_here", "_law_sides"]) fun _ _ _ _ _ _ us hl => match us, hl with | [_, _], _ => rfl
  have m_pull := PySem.W.mg_of X G a10
  have F_of := fun_mk (st := top 22) l11 c11 k11
  have b_of := F_of.binds (ps := ["_law_bag_here", "_law_some"]) fun _ _ _ _ _ _ us hl => match us, hl with | [_, _], _ => rfl
  have m_of := PySem.W.mg_of X G a11
  have F_same := fun_mk (st := top 23) l12 c12 k12
  have b_same := F_same.binds (ps := ["_law_found", "_law_due"]) fun _ _ _ _ _ _ us hl => match us, hl with | [_, _], _ => rfl
  have m_same := PySem.W.mg_of X G a12
  have F_lper := fun_mk (st := top 24) l13 c13 k13
  have b_lper := F_lper.binds (ps := ["_law_root_here"]) fun _ _ _ _ _ _ us hl => match us, hl with | [_], _ => rfl
  have m_lper := PySem.W.mg_of X G a13
  have F_lst := fun_mk (st := top 25) l14 c14 k14
  have b_lst := F_lst.binds (ps := ["_law_root_here", "_law_many"]) fun _ _ _ _ _ _ us hl => match us, hl with | [_, _], _ => rfl
  have m_lst := PySem.W.mg_of X G a14
  have F_lcan := fun_mk (st := top 26) l15 c15 k15
  have b_lcan := F_lcan.binds (ps := ["_law_root_here", "_law_place", "_law_digit", "_law_before"]) fun _ _ _ _ _ _ us hl => match us, hl with | [_, _, _, _], _ => rfl
  have m_lcan := PySem.W.mg_of X G a15
  have F_root := fun_mk (st := top 27) l16 c16 k16
  have b_root := F_root.binds (ps := ["_law_bag_here"]) fun _ _ _ _ _ _ us hl => match us, hl with | [_], _ => rfl
  have m_root := PySem.W.mg_of X G a16
  have F_law := fun_mk (st := top 28) l17 c17 k17
  have b_law := F_law.binds (ps := ["_law_script"]) fun _ _ _ _ _ _ us hl => match us, hl with | [_], _ => rfl
  have m_law := PySem.W.mg_of X G a17
  have F_finit := fun_mk (st := sF 1) l18 c18 k18
  have b_finit := F_finit.binds (ps := ["self", "root"]) fun _ _ _ _ _ _ us hl => match us, hl with | [_, _], _ => rfl
  have F_digits := fun_mk (st := sF 9) l19 c19 k19
  have b_digits := F_digits.binds (ps := ["self", "number"]) fun _ _ _ _ _ _ us hl => match us, hl with | [_, _], _ => rfl
  have F_value := fun_mk (st := sF 10) l20 c20 k20
  have b_value := F_value.binds (ps := ["self", "digits"]) fun _ _ _ _ _ _ us hl => match us, hl with | [_, _], _ => rfl
  have F_step := fun_mk (st := sF 6) l21 c21 k21
  have b_step := F_step.binds (ps := ["self", "place"]) fun _ _ _ _ _ _ us hl => match us, hl with | [_, _], _ => rfl
  have n_list := PySem.W.mg_none_of X G z_list
  have n_len := PySem.W.mg_none_of X G z_len
  have n_abs := PySem.W.mg_none_of X G z_abs
  have n_int := PySem.W.mg_none_of X G z_int
  have n_range := PySem.W.mg_none_of X G z_range
  have n_isinstance := PySem.W.mg_none_of X G z_isinstance
  have n_bool := PySem.W.mg_none_of X G z_bool
  have n_str := PySem.W.mg_none_of X G z_str
  have n_tuple := PySem.W.mg_none_of X G z_tuple
  have n_all := PySem.W.mg_none_of X G z_all
  have n_zip := PySem.W.mg_none_of X G z_zip
  have n_sorted := PySem.W.mg_none_of X G z_sorted
  have n_reversed := PySem.W.mg_none_of X G z_reversed
  have n_divmod := PySem.W.mg_none_of X G z_divmod
  have n_enumerate := PySem.W.mg_none_of X G z_enumerate
  have m_P := PySem.W.mg_of X G aP
  have m_M := PySem.W.mg_of X G aM
  have hPer : PerK K pd := fun d hd => by
    rcases hd with rfl | rfl | rfl | rfl | rfl
    · exact ⟨qp2, ⟨es, _, _, _, lP, oP, (findBy_fI _ _).trans gp2, rfl⟩, (⟨op2, _, np2, tlp2, tcp2, tdp2, by show 1 ≤ sizeLine; decide, .cons ⟨_, rfl⟩ (.nil)⟩ : TupI K qp2 [2])⟩
    · exact ⟨qp3, ⟨es, _, _, _, lP, oP, (findBy_fI _ _).trans gp3, rfl⟩, (⟨op3, _, np3, tlp3, tcp3, tdp3, by show 2 ≤ sizeLine; decide, .cons ⟨_, rfl⟩ (.cons ⟨_, rfl⟩ (.nil))⟩ : TupI K qp3 [1, 2])⟩
    · exact ⟨qp5, ⟨es, _, _, _, lP, oP, (findBy_fI _ _).trans gp5, rfl⟩, (⟨op5, _, np5, tlp5, tcp5, tdp5, by show 1 ≤ sizeLine; decide, .cons ⟨_, rfl⟩ (.nil)⟩ : TupI K qp5 [1])⟩
    · exact ⟨qp6, ⟨es, _, _, _, lP, oP, (findBy_fI _ _).trans gp6, rfl⟩, (⟨op6, _, np6, tlp6, tcp6, tdp6, by show 2 ≤ sizeLine; decide, .cons ⟨_, rfl⟩ (.cons ⟨_, rfl⟩ (.nil))⟩ : TupI K qp6 [2, 4])⟩
    · exact ⟨qp13, ⟨es, _, _, _, lP, oP, (findBy_fI _ _).trans gp13, rfl⟩, (⟨op13, _, np13, tlp13, tcp13, tdp13, by show 1 ≤ sizeLine; decide, .cons ⟨_, rfl⟩ (.nil)⟩ : TupI K qp13 [3])⟩
  have TF : TxF K mg CF := ⟨⟨pgF, hdF, poF, saF⟩, nRF, nPF, PySem.W.mg_of X G aF⟩
  refine ⟨PySem.W.fnOf "law" "law" (defArgs (top 28)) (defBody (top 28)) (defScope (top 28)) .none kV17 dc17 pm17 an17 cd17 ct17, fun s v => .of_eq rfl, fun base _ _ => ?_⟩
  have D_whole : Df l.prog w K mg base 1 "is_whole" ["value"] (spWhole K) := ⟨_, _, ok_whole (k := 0) F_whole n_isinstance n_int n_bool, b_whole, m_whole, F_whole.kp⟩
  have D_btw : Df l.prog w K mg base 2 "is_between" ["value", "low", "high"] (spBtw K) := ⟨_, _, ok_btw F_btw D_whole, b_btw, m_btw, F_btw.kp⟩
  have D_num : Df l.prog w K mg base 3 "is_number" ["value"] (spNum K) := ⟨_, _, ok_num F_num D_btw, b_num, m_num, F_num.kp⟩
  have D_isroot : Df l.prog w K mg base 2 "is_root" ["value"] (spIsRoot K) := ⟨_, _, ok_isroot F_isroot D_whole m_P ⟨wP, es, np, lP, oP⟩, b_isroot, m_isroot, F_isroot.kp⟩
  have D_part : Df l.prog w K mg base 1 "_part_above" ["period", "place"] (spPart K) := ⟨_, _, ok_part (k := 0) F_part n_len, b_part, m_part, F_part.kp⟩
  have D_stw : Df l.prog w K mg base 2 "_steps_within" ["period", "number"] (spSteps K) := ⟨_, _, ok_steps F_stw n_len D_part, b_stw, m_stw, F_stw.kp⟩
  have D_can : Df l.prog w K mg base 3 "can_stand" ["period", "place", "digit", "lower"] (spCan K) := ⟨_, _, ok_can F_can (D_part.mono (by decide)) D_btw, b_can, m_can, F_can.kp⟩
  have TBm : TB mg := ⟨n_list, n_len, n_abs, n_int⟩
  have TSs : TSm mg := ⟨n_isinstance, n_bool, n_int, n_str, n_list, n_tuple, n_len, n_all, n_zip⟩
  have D_bag : Df l.prog w K mg base 1 "_law_bag" ["_law_script"] (spBag K) := ⟨_, _, ok_bag F_bag TBm, b_bag, m_bag, F_bag.kp⟩
  have D_pull : Df l.prog w K mg base 1 "_law_pull" ["_law_bag_here", "_law_sides"] spPull := ⟨_, _, ok_pull F_pull TBm, b_pull, m_pull, F_pull.kp⟩
  have D_of : Df l.prog w K mg base 2 "_law_of" ["_law_bag_here", "_law_some"] (spOf K) := ⟨_, _, ok_of F_of TBm D_pull, b_of, m_of, F_of.kp⟩
  have D_root : Df l.prog w K mg base 3 "_law_root" ["_law_bag_here"] spRoot := ⟨_, _, ok_root F_root D_of, b_root, m_root, F_root.kp⟩
  have D_same : Df l.prog w K mg base 6 "_law_same" ["_law_found", "_law_due"] (spSame K 5) := ⟨_, _, ok_same F_same TSs b_same m_same 5, b_same, m_same, F_same.kp⟩
  have D_lper : Df l.prog w K mg base 1 "_law_period" ["_law_root_here"] spPeriod := ⟨_, _, ok_lper (k := 0) F_lper, b_lper, m_lper, F_lper.kp⟩
  have D_lst : Df l.prog w K mg base 2 "_law_steps" ["_law_root_here", "_law_many"] spLSteps := ⟨_, _, ok_lst F_lst TBm n_range D_lper, b_lst, m_lst, F_lst.kp⟩
  have Gfin := ok_FInit (P := l.prog) (w := w) (base := base) F_finit TF m_P hPer D_isroot
  have D_digin : Df l.prog w K mg base 3 "digits_in" ["period", "number"] (spDigin K) := ⟨_, _, ok_digin F_digin n_reversed n_divmod D_stw, b_digin, m_digin, F_digin.kp⟩
  have Gdig := ok_FDig (P := l.prog) (w := w) (base := base) F_digits TF D_num D_digin
  have Gval := ok_FVal (P := l.prog) (w := w) (base := base) F_value TF n_enumerate D_can (D_part.mono (by decide))
  have Gst := ok_FStep (P := l.prog) (w := w) (base := base) F_step TF n_range m_M D_btw (D_part.mono (by decide))
  have D_lcan : Df l.prog w K mg base 2 "_law_can" ["_law_root_here", "_law_place", "_law_digit", "_law_before"] spLCan := ⟨_, _, ok_lcan F_lcan TBm D_lper, b_lcan, m_lcan, F_lcan.kp⟩
  exact ok_law F_law ⟨D_bag.mono (by decide), D_pull.mono (by decide), D_root.mono (by decide), D_same.mono (by decide), D_lcan.mono (by decide), D_lst.mono (by decide), TF,
    ⟨_, _, ⟨mkF, a18, i18, kpF⟩, Gfin.mono (by decide), b_finit⟩, ⟨_, _, Gdig.mono (by decide), ⟨a19, i19, F_digits.kp⟩, b_digits⟩, ⟨_, _, Gval.mono (by decide), ⟨a20, i20, F_value.kp⟩, b_value⟩, ⟨_, _, Gst.mono (by decide), ⟨a21, i21, F_step.kp⟩, b_step⟩, TBm, n_range, n_sorted⟩
theorem walk {l : PySem.W.OpenLaw} {q : Program} {loose : List Str} {XP : (Str → Option Value) → Heap → Prop} {YP : World → Heap → Prop} {d : DefRec} {K : Params → PySem.W.Frag} (hn : l.most = some 63) (hdf : d.params.defaults = [])
    (hY : ∀ (w : World) (h : Heap), YP w h → (K w.params).In h)
    (F : ∀ (w : World) (mg : Str → Option Value) (fa : Addr) (h : Heap), (K w.params).In h → h.Ns mainGlobals mg → mg d.name = some (.ref fa) →
      ∃ fd : FuncData, (∀ (s : Shared) (u : Value), BindsTo s fd ⟨[u], []⟩ [("_law_script", u)]) ∧ ∀ base : Heap, (K w.params).In base → base.Ns mainGlobals mg → FnOk l.prog w (K w.params) mg base CX0 10 fa fd ["_law_script"] (spLaw (K w.params))) :
    PySem.W.WalkO q loose XP YP l.row.toRowW d [] (fun f vs => PySem.call f vs) :=
  L2.walk_of (n := 63) (k := 10) (x := "_law_script") (CX := fun _ => CX0) (sp := fun w => spLaw (K w.params)) hn (by decide) hdf ⟨rfl, by decide, by decide⟩ hY F (fun _ _ a ns hl _ hS => ⟨a, ns, rfl, hS, hl, fun _ => rfl⟩) fun _ _ _ _ _ z => z
end RF

open PySem PySem.W PyProof.Rows
set_option maxRecDepth 100000 in
set_option maxHeartbeats 0 in
theorem PySem.Challenge.cw_rootfloor_k07_whole_each_number_has_one_holds : PySem.Challenge.rw_rootfloor_k07_whole_each_number_has_one.Holds := by
  w_on; o_law; k_head; (case hw => w_witness2)
  k_fill
  refine RF.walk (l := PySem.Challenge.rw_rootfloor_k07_whole_each_number_has_one) rfl rfl (fun w h Y => PySem.W.kIn_of Y) ?F
  case F =>
    intro w mg fa h KX G hmg
    refine' RF.all_mk KX G hmg ?a1 ?l1 ?c1 ?k1 ?a2 ?l2 ?c2 ?k2 ?a3 ?l3 ?c3 ?k3 ?a4 ?l4 ?c4 ?k4 ?a5 ?l5 ?c5 ?k5 ?a6 ?l6 ?c6 ?k6 ?a7 ?l7 ?c7 ?k7 ?a8 ?l8 ?c8 ?k8 ?a9 ?l9 ?c9 ?k9 ?a10 ?l10 ?c10 ?k10 ?a11 ?l11 ?c11 ?k11 ?a12 ?l12 ?c12 ?k12 ?a13 ?l13 ?c13 ?k13 ?a14 ?l14 ?c14 ?k14 ?a15 ?l15 ?c15 ?k15 ?a16 ?l16 ?c16 ?k16 ?a17 ?l17 ?c17 ?k17 ?aF ?a18 ?l18 ?c18 ?k18 ?i18 ?a19 ?l19 ?c19 ?k19 ?i19 ?a20 ?l20 ?c20 ?k20 ?i20 ?a21 ?l21 ?c21 ?k21 ?i21 ?aM ?pgF ?hdF ?poF ?saF ?mkF ?kpF ?nRF ?nPF ?aP ?lP ?oP ?wP ?gp2 ?tlp2 ?tcp2 ?tdp2 ?gp3 ?tlp3 ?tcp3 ?tdp3 ?gp5 ?tlp5 ?tcp5 ?tdp5 ?gp6 ?tlp6 ?tcp6 ?tdp6 ?gp13 ?tlp13 ?tcp13 ?tdp13 ?z_list ?z_len ?z_abs ?z_int ?z_range ?z_isinstance ?z_bool ?z_str ?z_tuple ?z_all ?z_zip ?z_sorted ?z_reversed ?z_divmod ?z_enumerate
    (case a1 => k_is)
    (case l1 => k_is)
    (case c1 => k_is)
    (case k1 => k_is)
    (case a2 => k_is)
    (case l2 => k_is)
    (case c2 => k_is)
    (case k2 => k_is)
    (case a3 => k_is)
    (case l3 => k_is)
    (case c3 => k_is)
    (case k3 => k_is)
    (case a4 => k_is)
    (case l4 => k_is)
    (case c4 => k_is)
    (case k4 => k_is)
    (case a5 => k_is)
    (case l5 => k_is)
    (case c5 => k_is)
    (case k5 => k_is)
    (case a6 => k_is)
    (case l6 => k_is)
    (case c6 => k_is)
    (case k6 => k_is)
    (case a7 => k_is)
    (case l7 => k_is)
    (case c7 => k_is)
    (case k7 => k_is)
    (case a8 => k_is)
    (case l8 => k_is)
    (case c8 => k_is)
    (case k8 => k_is)
    (case a9 => k_is)
    (case l9 => k_is)
    (case c9 => k_is)
    (case k9 => k_is)
    (case a10 => k_is)
    (case l10 => k_is)
    (case c10 => k_is)
    (case k10 => k_is)
    (case a11 => k_is)
    (case l11 => k_is)
    (case c11 => k_is)
    (case k11 => k_is)
    (case a12 => k_is)
    (case l12 => k_is)
    (case c12 => k_is)
    (case k12 => k_is)
    (case a13 => k_is)
    (case l13 => k_is)
    (case c13 => k_is)
    (case k13 => k_is)
    (case a14 => k_is)
    (case l14 => k_is)
    (case c14 => k_is)
    (case k14 => k_is)
    (case a15 => k_is)
    (case l15 => k_is)
    (case c15 => k_is)
    (case k15 => k_is)
    (case a16 => k_is)
    (case l16 => k_is)
    (case c16 => k_is)
    (case k16 => k_is)
    (case a17 => k_is)
    (case l17 => k_is)
    (case c17 => k_is)
    (case k17 => k_is)
    (case aF => k_is)
    (case a18 => k_is)
    (case l18 => k_is)
    (case c18 => k_is)
    (case k18 => k_is)
    (case i18 => k_is)
    (case a19 => k_is)
    (case l19 => k_is)
    (case c19 => k_is)
    (case k19 => k_is)
    (case i19 => k_is)
    (case a20 => k_is)
    (case l20 => k_is)
    (case c20 => k_is)
    (case k20 => k_is)
    (case i20 => k_is)
    (case a21 => k_is)
    (case l21 => k_is)
    (case c21 => k_is)
    (case k21 => k_is)
    (case i21 => k_is)
    (case aM => k_is)
    (case pgF => k_is)
    (case hdF => k_is)
    (case poF => k_is)
    (case saF => k_is)
    (case mkF => k_is)
    (case kpF => k_is)
    (case nRF => k_is)
    (case nPF => k_is)
    (case aP => k_is)
    (case lP => k_is)
    (case oP => first | rfl | decide +kernel)
    (case wP => first | rfl | decide +kernel)
    (case gp2 => first | rfl | decide +kernel)
    (case tlp2 => k_is)
    (case tcp2 => first | rfl | decide +kernel)
    (case tdp2 => first | rfl | decide +kernel)
    (case gp3 => first | rfl | decide +kernel)
    (case tlp3 => k_is)
    (case tcp3 => first | rfl | decide +kernel)
    (case tdp3 => first | rfl | decide +kernel)
    (case gp5 => first | rfl | decide +kernel)
    (case tlp5 => k_is)
    (case tcp5 => first | rfl | decide +kernel)
    (case tdp5 => first | rfl | decide +kernel)
    (case gp6 => first | rfl | decide +kernel)
    (case tlp6 => k_is)
    (case tcp6 => first | rfl | decide +kernel)
    (case tdp6 => first | rfl | decide +kernel)
    (case gp13 => first | rfl | decide +kernel)
    (case tlp13 => k_is)
    (case tcp13 => first | rfl | decide +kernel)
    (case tdp13 => first | rfl | decide +kernel)
    (case z_list => k_is)
    (case z_len => k_is)
    (case z_abs => k_is)
    (case z_int => k_is)
    (case z_range => k_is)
    (case z_isinstance => k_is)
    (case z_bool => k_is)
    (case z_str => k_is)
    (case z_tuple => k_is)
    (case z_all => k_is)
    (case z_zip => k_is)
    (case z_sorted => k_is)
    (case z_reversed => k_is)
    (case z_divmod => k_is)
    (case z_enumerate => k_is)

