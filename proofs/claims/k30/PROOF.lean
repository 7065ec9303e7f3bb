import PyProof.Rows.All
import Wide.All
import OpenK.AllK
import Wide.FinOn
import HandS.ForMost
import HandS.Gcd
import HandS.Wide
import HandS.Codes
import HandS.IsInst
import HandS.Zip
import HandS.Walk
import HandS.MakeKwOnly
import HandS.Property
import HandS.List
import HandS.Text
import HandS.TupAny
import HandS.Iter
import HandS.Style
import HandS.Deep
import HandS.Flow
import HandS.WideBits
import HandS.FStr
import HandS.SortInts
import HandS.StrMore
import HandS.Rev
import KE.KOpsOwn
import KE.KMathG
import HandS.OwnEq
import HandS.ClsMeth
import Flt.RightSqrt
import HandS.Defaults
import HandS.Flt
import PySem.Challenge.RW_rootfloor_k30_texts_of_terms_and_slopes
set_option Elab.async false
set_option maxRecDepth 100000
set_option maxHeartbeats 8000000
namespace RF
open PySem L2

/-- all that is tracked stays, but what stands at b -/
def Kp (b : Addr) (H H' : Hp) : Prop := ∀ a o, a ≠ b → H a = some o → H' a = some o
theorem Kp.refl (b : Addr) (H : Hp) : Kp b H H := fun _ _ _ e => e
theorem Kp.trans {b : Addr} {H H1 H2 : Hp} (x : Kp b H H1) (y : Kp b H1 H2) : Kp b H H2 := fun a o n e => y a o n (x a o n e)
theorem Kp.upd {b : Addr} {H : Hp} {o : HO} : Kp b H (upd H b o) := fun a u n e => by rw [upd_ne n]; exact e
theorem Kp.of {b : Addr} {H H' : Hp} (s : Same H H') : Kp b H H' := fun a o _ e => s a o e

/-- the bag of a script: its cells, how many are taken, what is left of a great one, the state of the draws -/
structure BagC (H : Hp) (b c : Addr) (ns : List Int) (i : Nat) (z r : Int) : Prop where
  ne : b ≠ c
  at_ : H b = some (.lst [.ref c, .int i, .int z, .int r])
  cs : H c = some (.lst (ns.map V.int))
  le : i ≤ ns.length
  z0 : 0 ≤ z
  r0 : 0 ≤ r
  r1 : r < 2147483647
def Bag (H : Hp) (b : Addr) : Prop := ∃ (c : Addr) (ns : List Int) (i : Nat) (z r : Int), BagC H b c ns i z r
theorem BagC.put {H : Hp} {b c : Addr} {ns : List Int} {i i' : Nat} {z r z' r' : Int} {o : HO} (B : BagC H b c ns i z r) (ho : o = .lst [.ref c, .int i', .int z', .int r']) (hi : i' ≤ ns.length) (hz : 0 ≤ z') (h0 : 0 ≤ r') (h1 : r' < 2147483647) :
    BagC (upd H b o) b c ns i' z' r' := ⟨B.ne, by rw [upd_same, ho], by rw [upd_ne (Ne.symm B.ne)]; exact B.cs, hi, hz, h0, h1⟩
theorem Bag.some {H : Hp} {b : Addr} (B : Bag H b) : ∃ xs, H b = some (.lst xs) := let ⟨_, _, _, _, _, e⟩ := B; ⟨_, e.at_⟩
theorem Bag.same {H H' : Hp} {b : Addr} (B : Bag H b) (s : Same H H') : Bag H' b := by
  obtain ⟨c, ns, i, z, r, h⟩ := B
  exact ⟨c, ns, i, z, r, h.ne, s _ _ h.at_, s _ _ h.cs, h.le, h.z0, h.r0, h.r1⟩
theorem emod_lo (a : Int) {b : Int} (h : 0 < b) : 0 ≤ a % b := Int.emod_nonneg _ (by omega)
theorem emod_hi (a : Int) {b : Int} (h : 0 < b) : a % b < b := Int.emod_lt_of_pos _ h

/-- a draw: some number below the sides; the bag stays one, nothing else changes -/
def spPull : Sp := fun vs H Q _ => ∃ (b : Addr) (k : Int), vs = [.ref b, .int k] ∧ Bag H b ∧ 0 < k ∧ k < 1073741824 ∧
  ∀ (d : Int) (H' : Hp), 0 ≤ d → d < k → Bag H' b → Kp b H H' → Q (.int d) H'
def spBag (K : PySem.W.Frag) : Sp := fun vs H Q _ => ∃ (a : Addr) (ns : List Int), vs = [.ref a] ∧ SqL K H a (ns.map V.int) ∧ ns.length ≤ 63 ∧
  ∀ (b : Addr) (H' : Hp), H b = none → Bag H' b → Same H H' → Q (.ref b) H'
/-- a new object -/
theorem sNew {H H1 : Hp} {p : Addr} {o : HO} (s : Same H H1) (h : H1 p = none) : Same H (upd H1 p o) := fun a u e => by
  rw [upd_ne (ne_of_none (s a u e) h)]
  exact s a u e
theorem ne_new {H : Hp} {p q : Addr} {o : HO} (h : upd H p o q = none) : q ≠ p := fun z => by
  rw [z, upd_same] at h
  cases h
theorem of_new {H : Hp} {p q : Addr} {o : HO} (h : upd H p o q = none) : H q = none := by
  rw [upd_ne (ne_new h)] at h
  exact h

/-! ### data: what a value tells, with the lists and tuples in it -/
inductive D where
  | non | bl (b : Bool) | int (i : Int) | str (x : Str) | lst (ds : List D) | tup (ds : List D)
mutual
def Rp (K : PySem.W.Frag) (H : Hp) : V → D → Prop
  | v, .non => v = .non
  | v, .bl b => v = .bl b
  | v, .int i => v = .int i
  | v, .str x => v = .str x
  | v, .lst ds => ∃ a xs, v = .ref a ∧ SqL K H a xs ∧ xs.length ≤ 100000 ∧ Rps K H xs ds
  | v, .tup ds => ∃ a xs, v = .ref a ∧ SqT K H a xs ∧ xs.length ≤ 100000 ∧ Rps K H xs ds
def Rps (K : PySem.W.Frag) (H : Hp) : List V → List D → Prop
  | xs, [] => xs = []
  | xs, d :: ds => ∃ x r, xs = x :: r ∧ Rp K H x d ∧ Rps K H r ds
end
mutual
def dep : D → Nat
  | .lst ds => depL ds + 1
  | .tup ds => depL ds + 1
  | _ => 0
def depL : List D → Nat
  | [] => 0
  | d :: ds => max (dep d) (depL ds)
end
theorem sameT {K : PySem.W.Frag} {H H' : Hp} {a : Addr} {xs : List V} (e : Same H H') (h : SqT K H a xs) : SqT K H' a xs := by
  rcases h with (h | ⟨o, h⟩) | h
  · exact .inl (.inl (e _ _ h))
  · exact .inl (.inr ⟨o, e _ _ h⟩)
  · exact .inr h
mutual
theorem Rp.same {K : PySem.W.Frag} {H H' : Hp} (e : Same H H') : ∀ {v : V} (d : D), Rp K H v d → Rp K H' v d
  | _, .non, h => h
  | _, .bl _, h => h
  | _, .int _, h => h
  | _, .str _, h => h
  | _, .lst ds, h => by
    obtain ⟨a, xs, h1, h2, h3, h4⟩ := h
    exact ⟨a, xs, h1, e.seq h2, h3, Rps.same e ds h4⟩
  | _, .tup ds, h => by
    obtain ⟨a, xs, h1, h2, h3, h4⟩ := h
    exact ⟨a, xs, h1, sameT e h2, h3, Rps.same e ds h4⟩
theorem Rps.same {K : PySem.W.Frag} {H H' : Hp} (e : Same H H') : ∀ {xs : List V} (ds : List D), Rps K H xs ds → Rps K H' xs ds
  | _, [], h => h
  | _, d :: ds, h => by
    obtain ⟨x, r, h1, h2, h3⟩ := h
    exact ⟨x, r, h1, Rp.same e d h2, Rps.same e ds h3⟩
end
theorem Rps.len {K : PySem.W.Frag} {H : Hp} : ∀ {xs : List V} {ds : List D}, Rps K H xs ds → xs.length = ds.length
  | _, [], h => by rw [show _ = [] from h]; rfl
  | _, d :: ds, h => by
    obtain ⟨x, r, rfl, _, h3⟩ := h
    rw [List.length_cons, List.length_cons, Rps.len h3]
theorem Rps.at_ {K : PySem.W.Frag} {H : Hp} : ∀ {xs : List V} {ds : List D} {i : Nat} {x : V}, Rps K H xs ds → xs[i]? = some x → ∃ d, ds[i]? = some d ∧ Rp K H x d
  | _, [], i, x, h, e => by rw [show _ = [] from h] at e; simp at e
  | _, d :: ds, 0, x, h, e => by
    obtain ⟨y, r, rfl, h2, _⟩ := h
    cases e
    exact ⟨d, rfl, h2⟩
  | _, d :: ds, i + 1, x, h, e => by
    obtain ⟨y, r, rfl, _, h3⟩ := h
    obtain ⟨d', e1, e2⟩ := Rps.at_ (i := i) h3 e
    exact ⟨d', e1, e2⟩
theorem dep_mem : ∀ {ds : List D} {i : Nat} {d : D}, ds[i]? = some d → dep d ≤ depL ds
  | [], _, _, e => by simp at e
  | c :: ds, 0, d, e => by cases e; exact Nat.le_max_left ..
  | c :: ds, i + 1, d, e => Nat.le_trans (dep_mem (i := i) e) (Nat.le_max_right ..)

/-- the class of a datum's value -/
def tyD : D → String
  | .non => "NoneType" | .bl _ => "bool" | .int _ => "int" | .str _ => "str" | .lst _ => "list" | .tup _ => "tuple"
theorem tyL {K : PySem.W.Frag} {H : Hp} {a : Addr} {xs : List V} (h : SqL K H a xs) : TyX K H (.ref a) (.type "list") := by
  rcases h with (h | ⟨o, h⟩) | ⟨o, its, n, h, c, _⟩
  · exact .base (.lst h)
  · exact .base (.frz h)
  · exact .kList h c
theorem tyT {K : PySem.W.Frag} {H : Hp} {a : Addr} {xs : List V} (h : SqT K H a xs) : TyX K H (.ref a) (.type "tuple") := by
  rcases h with (h | ⟨o, h⟩) | ⟨o, its, n, h, c, _⟩
  · exact .base (.tup h)
  · exact .fTuple h
  · exact .kTuple h c
theorem tyX {K : PySem.W.Frag} {H : Hp} : ∀ {v : V} (d : D), Rp K H v d → TyX K H v (.type (tyD d))
  | _, .non, h => by rw [show _ = V.non from h]; exact .base .non
  | _, .bl _, h => by rw [show _ = V.bl _ from h]; exact .base (.bl _)
  | _, .int _, h => by rw [show _ = V.int _ from h]; exact .base (.int _)
  | _, .str _, h => by rw [show _ = V.str _ from h]; exact .base (.str _)
  | _, .lst ds, h => by obtain ⟨a, xs, rfl, h2, _⟩ := h; exact tyL h2
  | _, .tup ds, h => by obtain ⟨a, xs, rfl, h2, _⟩ := h; exact tyT h2

/-! ### a def that others call -/
structure Df (P : Program) (w : World) (K : PySem.W.Frag) (mg : Str → Option Value) (base : Heap) (k : Nat) (x : Str) (ps : List Str) (sp : Sp) : Prop where
  ex : ∃ (f : Addr) (fd : FuncData), FnOk P w K mg base CX0 k f fd ps sp ∧ Binds K fd ps [] ∧ mg x = some (.ref f) ∧ PySem.W.keepIn K (.ref f) = true
theorem fn_false {P : Program} {w : World} {K : PySem.W.Frag} {mg : Str → Option Value} {base : Heap} {CX : CXT} {k : Nat} {f : Addr} {fd : FuncData} {ps : List Str} : FnOk P w K mg base CX k f fd ps (fun _ _ _ _ => False) :=
  ⟨fun _ _ _ _ h => h.elim, fun _ _ _ _ _ _ _ _ _ _ _ _ _ h => h.elim⟩
theorem pe_callD {X : Cx} {j k : Nat} {x : Str} {ps : List Str} {sp : Sp} {p pos : Pos} {e : Expr} {es : List Expr} {t : TA} (F : Df X.prog X.w X.K X.mg X.base k x ps sp) (hr : Room j X.A) (hk : k ≤ j) (ha : PA X (e :: es) t)
    (hg : Gl X x := by rfl) (hdb : (x == ("__debug__" : Str)) = false := by decide)
    (he : starEach (e :: es) X.env = (false, eval e X.env) :: starEach es X.env := by rfl) (hpl : (backTo pos (starEach es X.env)).any (·.1) = false := by rfl) :
    PE X (.Call (.Name x p) (e :: es) [] pos) (tCall sp [] E0 t) := by
  obtain ⟨f, fd, G, b, m, kp⟩ := F.ex
  exact pe_call G (hr.mono hk) hg m kp b .nil pass0 ha hdb he hpl
/-- zip of two tuples -/
theorem walk_zipT {K : PySem.W.Frag} {a b : Addr} {xs ys : List V} {n : Nat} (hn : n = min xs.length ys.length) : Walk (RZ.ItzT K a b) n (fun H => SqT K H a xs ∧ SqT K H b ys) (YPair (fun i => xs[i]?) (fun i => ys[i]?)) := by
  subst hn
  refine ⟨fun i _ hi q => ?_, fun _ q => ⟨xs, ys, q.1, q.2, by omega⟩, fun i H v H' _ q y => ?_⟩
  · have h1 : i < xs.length := by omega
    have h2 : i < ys.length := by omega
    exact ⟨xs, ys, xs[i], ys[i], q.1, q.2, by simp [h1], by simp [h2]⟩
  · obtain ⟨T, x, z, h1, h2, h3, h4, h5⟩ := y
    exact ⟨T, x, z, h1, h2, h3, h4 xs q.1, h5 ys q.2⟩

/-- one datum, told twice: the law's own comparison gives True -/
def spSame (K : PySem.W.Frag) (n : Nat) : Sp := fun vs H Q _ => ∃ (v u : V) (d : D), vs = [v, u] ∧ Rp K H v d ∧ Rp K H u d ∧ dep d ≤ n ∧ ∀ H', Same H H' → Q (.bl true) H'
def spSameL (K : PySem.W.Frag) : Nat → Sp
  | 0 => fun _ _ _ _ => False
  | n + 1 => spSame K n
def spOf (K : PySem.W.Frag) : Sp := fun vs H Q _ => ∃ (b a : Addr) (xs : List V), vs = [.ref b, .ref a] ∧ Bag H b ∧ SqL K H a xs ∧ a ≠ b ∧ 0 < xs.length ∧ xs.length < 1000000 ∧
  ∀ (v : V) (H' : Hp), v ∈ xs → Bag H' b → Kp b H H' → Q v H'
def spRoot : Sp := fun vs H Q _ => ∃ (b : Addr), vs = [.ref b] ∧ Bag H b ∧ ∀ (d : Int) (H' : Hp), d = 2 ∨ d = 3 ∨ d = 5 ∨ d = 6 ∨ d = 13 → Bag H' b → Kp b H H' → Q (.int d) H'
def spFar : Sp := fun vs H Q _ => ∃ (b : Addr) (k : Int), vs = [.ref b, .int k] ∧ Bag H b ∧ 0 < k ∧ k ≤ 1000 ∧ ∀ (n : Int) (H' : Hp), 0 ≤ n → n < 10 ^ k.toNat → Bag H' b → Kp b H H' → Q (.int n) H'
theorem Kp.seq {K : PySem.W.Frag} {b a : Addr} {H H' : Hp} {xs : List V} (k : Kp b H H') (n : a ≠ b) (h : SqL K H a xs) : SqL K H' a xs := by
  rcases h with (h | ⟨o, h⟩) | h
  · exact .inl (.inl (k _ _ n h))
  · exact .inl (.inr ⟨o, k _ _ n h⟩)
  · exact .inr h

theorem iteP {c A B : Prop} [Decidable c] (hc : c) (h : A) : if c then A else B := by
  rw [if_pos hc]
  exact h
theorem iteN {c A B : Prop} [Decidable c] (hc : ¬ c) (h : B) : if c then A else B := by
  rw [if_neg hc]
  exact h
theorem nd_of {p : Prop} [Decidable p] (h : ¬ p) : ¬ decide p = true := fun z => h (of_decide_eq_true z)
theorem eqT {x : V} {Q : VK} {H : Hp} (h : Q (.bl true) H) : Q (.bl (decide (x = x))) H := by
  rw [decide_eq_true rfl]
  exact h
def isBool : D → Bool
  | .bl _ => true
  | _ => false
theorem kb_NoneType_bool : kitB "NoneType" "bool" = some false := by decide +kernel
theorem kb_bool_bool : kitB "bool" "bool" = some true := by decide +kernel
theorem kb_int_bool : kitB "int" "bool" = some false := by decide +kernel
theorem kb_str_bool : kitB "str" "bool" = some false := by decide +kernel
theorem kb_list_bool : kitB "list" "bool" = some false := by decide +kernel
theorem kb_tuple_bool : kitB "tuple" "bool" = some false := by decide +kernel
theorem kit_bool : ∀ d : D, kitB (tyD d) "bool" = some (isBool d)
  | .non => kb_NoneType_bool
  | .bl _ => kb_bool_bool
  | .int _ => kb_int_bool
  | .str _ => kb_str_bool
  | .lst _ => kb_list_bool
  | .tup _ => kb_tuple_bool
def isInt : D → Bool
  | .bl _ => true
  | .int _ => true
  | _ => false
theorem kb_NoneType_int : kitB "NoneType" "int" = some false := by decide +kernel
theorem kb_bool_int : kitB "bool" "int" = some true := by decide +kernel
theorem kb_int_int : kitB "int" "int" = some true := by decide +kernel
theorem kb_str_int : kitB "str" "int" = some false := by decide +kernel
theorem kb_list_int : kitB "list" "int" = some false := by decide +kernel
theorem kb_tuple_int : kitB "tuple" "int" = some false := by decide +kernel
theorem kit_int : ∀ d : D, kitB (tyD d) "int" = some (isInt d)
  | .non => kb_NoneType_int
  | .bl _ => kb_bool_int
  | .int _ => kb_int_int
  | .str _ => kb_str_int
  | .lst _ => kb_list_int
  | .tup _ => kb_tuple_int
def isStr : D → Bool
  | .str _ => true
  | _ => false
theorem kb_NoneType_str : kitB "NoneType" "str" = some false := by decide +kernel
theorem kb_bool_str : kitB "bool" "str" = some false := by decide +kernel
theorem kb_int_str : kitB "int" "str" = some false := by decide +kernel
theorem kb_str_str : kitB "str" "str" = some true := by decide +kernel
theorem kb_list_str : kitB "list" "str" = some false := by decide +kernel
theorem kb_tuple_str : kitB "tuple" "str" = some false := by decide +kernel
theorem kit_str : ∀ d : D, kitB (tyD d) "str" = some (isStr d)
  | .non => kb_NoneType_str
  | .bl _ => kb_bool_str
  | .int _ => kb_int_str
  | .str _ => kb_str_str
  | .lst _ => kb_list_str
  | .tup _ => kb_tuple_str
def isLst : D → Bool
  | .lst _ => true
  | _ => false
theorem kb_NoneType_list : kitB "NoneType" "list" = some false := by decide +kernel
theorem kb_bool_list : kitB "bool" "list" = some false := by decide +kernel
theorem kb_int_list : kitB "int" "list" = some false := by decide +kernel
theorem kb_str_list : kitB "str" "list" = some false := by decide +kernel
theorem kb_list_list : kitB "list" "list" = some true := by decide +kernel
theorem kb_tuple_list : kitB "tuple" "list" = some false := by decide +kernel
theorem kit_list : ∀ d : D, kitB (tyD d) "list" = some (isLst d)
  | .non => kb_NoneType_list
  | .bl _ => kb_bool_list
  | .int _ => kb_int_list
  | .str _ => kb_str_list
  | .lst _ => kb_list_list
  | .tup _ => kb_tuple_list
def isTup : D → Bool
  | .tup _ => true
  | _ => false
theorem kb_NoneType_tuple : kitB "NoneType" "tuple" = some false := by decide +kernel
theorem kb_bool_tuple : kitB "bool" "tuple" = some false := by decide +kernel
theorem kb_int_tuple : kitB "int" "tuple" = some false := by decide +kernel
theorem kb_str_tuple : kitB "str" "tuple" = some false := by decide +kernel
theorem kb_list_tuple : kitB "list" "tuple" = some false := by decide +kernel
theorem kb_tuple_tuple : kitB "tuple" "tuple" = some true := by decide +kernel
theorem kit_tuple : ∀ d : D, kitB (tyD d) "tuple" = some (isTup d)
  | .non => kb_NoneType_tuple
  | .bl _ => kb_bool_tuple
  | .int _ => kb_int_tuple
  | .str _ => kb_str_tuple
  | .lst _ => kb_list_tuple
  | .tup _ => kb_tuple_tuple
theorem kit_lt {K : PySem.W.Frag} (d : D) : PySem.W.kitAny K (.type (tyD d)) [.type "list", .type "tuple"] = some (isLst d || isTup d) := by
  refine kitAny_cons (kit_ty (kit_list d)) (fun e => ?_) (fun e => by rw [e]; rfl)
  rw [e, Bool.false_or]
  exact kitAny_cons (kit_ty (kit_tuple d)) (fun e => by rw [e]; rfl) (fun e => e)
structure TSm (mg : Str → Option Value) : Prop where
  isinstance : mg "isinstance" = none
  bool : mg "bool" = none
  int : mg "int" = none
  str : mg "str" = none
  list : mg "list" = none
  tuple : mg "tuple" = none
  len : mg "len" = none
  all : mg "all" = none
  zip : mg "zip" = none
theorem yes_if {σ : St} {H : Hp} {A B : Hp → Prop} (h : A H) : tYes σ H (fun b H3 => if b = true then A H3 else B H3) := by
  show (if true = true then A H else B H)
  rw [if_pos rfl]
  exact h
end RF

namespace RF
open PySem L2
/-! ### the bag at b with its cells at c, which stay there -/
def BagAt (H : Hp) (b c : Addr) : Prop := ∃ (ns : List Int) (i : Nat) (z r : Int), BagC H b c ns i z r
theorem Bag.here {H : Hp} {b : Addr} (B : Bag H b) : ∃ c, BagAt H b c := let ⟨c, ns, i, z, r, h⟩ := B; ⟨c, ns, i, z, r, h⟩
theorem BagAt.bag {H : Hp} {b c : Addr} (B : BagAt H b c) : Bag H b := let ⟨ns, i, z, r, h⟩ := B; ⟨c, ns, i, z, r, h⟩
theorem BagAt.atB {H : Hp} {b c : Addr} (B : BagAt H b c) : ∃ xs, H b = some (.lst xs) := B.bag.some
theorem BagAt.atC {H : Hp} {b c : Addr} (B : BagAt H b c) : ∃ xs, H c = some (.lst xs) := let ⟨_, _, _, _, h⟩ := B; ⟨_, h.cs⟩
theorem BagAt.same {H H' : Hp} {b c : Addr} (B : BagAt H b c) (s : Same H H') : BagAt H' b c := by
  obtain ⟨ns, i, z, r, h⟩ := B
  exact ⟨ns, i, z, r, h.ne, s _ _ h.at_, s _ _ h.cs, h.le, h.z0, h.r0, h.r1⟩
theorem BagAt.off {H : Hp} {b c p : Addr} (B : BagAt H b c) (h : H p = none) : p ≠ b ∧ p ≠ c := by
  obtain ⟨xs, hb⟩ := B.atB
  obtain ⟨ys, hc⟩ := B.atC
  exact ⟨(ne_of_none hb h).symm, (ne_of_none hc h).symm⟩
theorem BagAt.put {H : Hp} {b c p : Addr} {o : HO} (B : BagAt H b c) (h : p ≠ b ∧ p ≠ c) : BagAt (upd H p o) b c := by
  obtain ⟨ns, i, z, r, B⟩ := B
  exact ⟨ns, i, z, r, B.ne, by rw [upd_ne h.1.symm]; exact B.at_, by rw [upd_ne h.2.symm]; exact B.cs, B.le, B.z0, B.r0, B.r1⟩
theorem Kp.up {b p : Addr} {H H' : Hp} {o : HO} (k : Kp b H H') (h : H p = none) : Kp b H (L2.upd H' p o) := fun a u n e => by
  rw [upd_ne (ne_of_none e h)]
  exact k a u n e
theorem Kp.new {b p : Addr} {H H' : Hp} {o : HO} (k : Kp b H H') (h : H' p = none) : Kp b H (L2.upd H' p o) := k.trans (Kp.of (sNew (Same.refl _) h))
def spPullC : Sp := fun vs H Q _ => ∃ (b c : Addr) (k : Int), vs = [.ref b, .int k] ∧ BagAt H b c ∧ 0 < k ∧ k < 1073741824 ∧
  ∀ (d : Int) (H' : Hp), 0 ≤ d → d < k → BagAt H' b c → Kp b H H' → Q (.int d) H'
def spOfC (K : PySem.W.Frag) : Sp := fun vs H Q _ => ∃ (b c a : Addr) (xs : List V), vs = [.ref b, .ref a] ∧ BagAt H b c ∧ SqL K H a xs ∧ a ≠ b ∧ 0 < xs.length ∧ xs.length < 1000000 ∧
  ∀ (v : V) (H' : Hp), v ∈ xs → BagAt H' b c → Kp b H H' → Q v H'
def spRootC : Sp := fun vs H Q _ => ∃ (b c : Addr), vs = [.ref b] ∧ BagAt H b c ∧ ∀ (d : Int) (H' : Hp), d = 2 ∨ d = 3 ∨ d = 5 ∨ d = 6 ∨ d = 13 → BagAt H' b c → Kp b H H' → Q (.int d) H'
def spFarC : Sp := fun vs H Q _ => ∃ (b c : Addr) (k : Int), vs = [.ref b, .int k] ∧ BagAt H b c ∧ 0 < k ∧ k ≤ 1000 ∧ ∀ (n : Int) (H' : Hp), 0 ≤ n → n < 10 ^ k.toNat → BagAt H' b c → Kp b H H' → Q (.int n) H'
end RF

set_option autoImplicit false
/-! Q0: data, hidden heaps, states of slots -/
namespace Q
open PySem L2
open RF (Kp BagAt)

inductive D where
  | non | bl (b : Bool) | int (i : Int) | str (x : Str) | lst (ds : List D) | tup (ds : List D)
  | raw (v : V) | bag
  | obj (c : Str) (ns : List Str) (ds : List D)
  | dic (ks : List Key) (ds : List D)
/-- where data are read: the written part, the module's names, the bag and its cells -/
structure Bk where
  K : PySem.W.Frag
  mg : Str → Option Value
  bag : Addr
  cel : Addr
mutual
def Rp (B : Bk) (H : Hp) : V → D → Prop
  | v, .non => v = .non
  | v, .bl b => v = .bl b
  | v, .int i => v = .int i
  | v, .str x => v = .str x
  | v, .lst ds => ∃ a xs, v = .ref a ∧ H a = some (.lst xs) ∧ xs.length ≤ 1000000 ∧ Rps B H xs ds
  | v, .tup ds => ∃ a xs, v = .ref a ∧ SqT B.K H a xs ∧ xs.length ≤ 1000000 ∧ Rps B H xs ds
  | v, .raw u => v = u
  | v, .bag => v = .ref B.bag
  | v, .obj c ns ds => ∃ a C dx fs, v = .ref a ∧ B.mg c = some (.ref C) ∧ H a = some (.ins C dx fs) ∧ fs.map (·.1) = ns ∧ Rps B H (fs.map (·.2)) ds
  | v, .dic ks ds => ∃ a kvs, v = .ref a ∧ H a = some (.dK kvs) ∧ kvs.length ≤ 1000000 ∧ kvs.map (·.1) = ks ∧ Rps B H (kvs.map (·.2)) ds
def Rps (B : Bk) (H : Hp) : List V → List D → Prop
  | xs, [] => xs = []
  | xs, d :: ds => ∃ x r, xs = x :: r ∧ Rp B H x d ∧ Rps B H r ds
end
theorem sameT {K : PySem.W.Frag} {H H' : Hp} {a : Addr} {xs : List V} (e : Same H H') (h : SqT K H a xs) : SqT K H' a xs := by
  rcases h with (h | ⟨o, h⟩) | h
  · exact .inl (.inl (e _ _ h))
  · exact .inl (.inr ⟨o, e _ _ h⟩)
  · exact .inr h
mutual
theorem Rp.same {B : Bk} {H H' : Hp} (e : Same H H') : ∀ {v : V} (d : D), Rp B H v d → Rp B H' v d
  | _, .non, h => h
  | _, .bl _, h => h
  | _, .int _, h => h
  | _, .str _, h => h
  | _, .raw _, h => h
  | _, .bag, h => h
  | _, .lst ds, h => by
    obtain ⟨a, xs, h1, h2, h3, h4⟩ := h
    exact ⟨a, xs, h1, e _ _ h2, h3, Rps.same e ds h4⟩
  | _, .tup ds, h => by
    obtain ⟨a, xs, h1, h2, h3, h4⟩ := h
    exact ⟨a, xs, h1, sameT e h2, h3, Rps.same e ds h4⟩
  | _, .obj c ns ds, h => by
    obtain ⟨a, C, dx, fs, h1, h2, h3, h4, h5⟩ := h
    exact ⟨a, C, dx, fs, h1, h2, e _ _ h3, h4, Rps.same e ds h5⟩
  | _, .dic ks ds, h => by
    obtain ⟨a, kvs, h1, h2, h3, h4, h5⟩ := h
    exact ⟨a, kvs, h1, e _ _ h2, h3, h4, Rps.same e ds h5⟩
theorem Rps.same {B : Bk} {H H' : Hp} (e : Same H H') : ∀ {xs : List V} (ds : List D), Rps B H xs ds → Rps B H' xs ds
  | _, [], h => h
  | _, d :: ds, h => by
    obtain ⟨x, r, h1, h2, h3⟩ := h
    exact ⟨x, r, h1, Rp.same e d h2, Rps.same e ds h3⟩
end
section
variable {B : Bk} {H : Hp}
theorem Rps.nil : Rps B H [] [] := rfl
theorem Rps.cons {x : V} {xs : List V} {d : D} {ds : List D} (h : Rp B H x d) (g : Rps B H xs ds) : Rps B H (x :: xs) (d :: ds) := ⟨x, xs, rfl, h, g⟩
theorem Rps.len : ∀ {xs : List V} {ds : List D}, Rps B H xs ds → xs.length = ds.length
  | _, [], h => by rw [show _ = [] from h]; rfl
  | _, d :: ds, h => by
    obtain ⟨x, r, rfl, _, h3⟩ := h
    rw [List.length_cons, List.length_cons, Rps.len h3]
theorem Rps.at_ : ∀ {xs : List V} {ds : List D} {i : Nat} {x : V}, Rps B H xs ds → xs[i]? = some x → ∃ d, ds[i]? = some d ∧ Rp B H x d
  | _, [], i, x, h, e => by rw [show _ = [] from h] at e; simp at e
  | _, d :: ds, 0, x, h, e => by
    obtain ⟨y, r, rfl, h2, _⟩ := h
    cases e
    exact ⟨d, rfl, h2⟩
  | _, d :: ds, i + 1, x, h, e => by
    obtain ⟨y, r, rfl, _, h3⟩ := h
    obtain ⟨d', e1, e2⟩ := Rps.at_ (i := i) h3 e
    exact ⟨d', e1, e2⟩
theorem Rps.of : ∀ {xs : List V} {ds : List D} {i : Nat} {d : D}, Rps B H xs ds → ds[i]? = some d → ∃ x, xs[i]? = some x ∧ Rp B H x d
  | xs, [], i, d, h, e => by simp at e
  | xs, c :: ds, 0, d, h, e => by
    obtain ⟨x, r, rfl, h2, _⟩ := h
    cases e
    exact ⟨x, rfl, h2⟩
  | xs, c :: ds, i + 1, d, h, e => by
    obtain ⟨x, r, rfl, _, h3⟩ := h
    obtain ⟨y, e1, e2⟩ := Rps.of (i := i) h3 e
    exact ⟨y, e1, e2⟩
theorem Rps.app : ∀ {xs ys : List V} {ds es : List D}, Rps B H xs ds → Rps B H ys es → Rps B H (xs ++ ys) (ds ++ es)
  | xs, ys, [], es, h, g => by rw [show xs = [] from h]; exact g
  | xs, ys, d :: ds, es, h, g => by
    obtain ⟨x, r, rfl, h2, h3⟩ := h
    exact ⟨x, r ++ ys, rfl, h2, Rps.app h3 g⟩
theorem Rps.take : ∀ {xs : List V} {ds : List D} (n : Nat), Rps B H xs ds → Rps B H (xs.take n) (ds.take n)
  | xs, ds, 0, h => by rw [List.take_zero, List.take_zero]; rfl
  | xs, [], n + 1, h => by rw [show xs = [] from h]; rfl
  | xs, d :: ds, n + 1, h => by
    obtain ⟨x, r, rfl, h2, h3⟩ := h
    exact ⟨x, r.take n, rfl, h2, Rps.take n h3⟩
theorem Rps.drop : ∀ {xs : List V} {ds : List D} (n : Nat), Rps B H xs ds → Rps B H (xs.drop n) (ds.drop n)
  | xs, ds, 0, h => h
  | xs, [], n + 1, h => by rw [show xs = [] from h]; rfl
  | xs, d :: ds, n + 1, h => by
    obtain ⟨x, r, rfl, h2, h3⟩ := h
    exact Rps.drop n h3
theorem Rps.rev : ∀ {xs : List V} {ds : List D}, Rps B H xs ds → Rps B H xs.reverse ds.reverse
  | xs, [], h => by rw [show xs = [] from h]; rfl
  | xs, d :: ds, h => by
    obtain ⟨x, r, rfl, h2, h3⟩ := h
    rw [List.reverse_cons, List.reverse_cons]
    exact (Rps.rev h3).app (Rps.cons h2 Rps.nil)
theorem Rps.set {x : V} {d : D} (hx : Rp B H x d) : ∀ {xs : List V} {ds : List D} (n : Nat), Rps B H xs ds → Rps B H (xs.set n x) (ds.set n d)
  | xs, [], n, h => by rw [show xs = [] from h]; rfl
  | xs, c :: ds, 0, h => by
    obtain ⟨y, r, rfl, h2, h3⟩ := h
    exact ⟨x, r, rfl, hx, h3⟩
  | xs, c :: ds, n + 1, h => by
    obtain ⟨y, r, rfl, h2, h3⟩ := h
    exact ⟨y, r.set n x, rfl, h2, Rps.set hx n h3⟩
theorem Rps.snoc {xs : List V} {ds : List D} {x : V} {d : D} (h : Rps B H xs ds) (g : Rp B H x d) : Rps B H (xs ++ [x]) (ds ++ [d]) := h.app (.cons g .nil)
theorem Rps.rep {xs : List V} {ds : List D} (h : Rps B H xs ds) : ∀ k : Nat, Rps B H (List.replicate k xs).flatten (List.replicate k ds).flatten
  | 0 => rfl
  | k + 1 => by
    rw [List.replicate_succ, List.replicate_succ, List.flatten_cons, List.flatten_cons]
    exact h.app (Rps.rep h k)
theorem Rps.dropLast {xs : List V} {ds : List D} (h : Rps B H xs ds) : Rps B H xs.dropLast ds.dropLast := by
  rw [List.dropLast_eq_take, List.dropLast_eq_take, h.len]
  exact h.take _
end
/-- the part of a list that a slice tells -/
def cutD (ds : List D) (lo hi : Option Int) : List D := (ds.drop (HT.sIx ds.length 0 lo)).take (HT.sIx ds.length ds.length hi - HT.sIx ds.length 0 lo)
theorem Rps.cut {B : Bk} {H : Hp} {xs : List V} {ds : List D} (h : Rps B H xs ds) (lo hi : Option Int) : Rps B H (cutV xs lo hi) (cutD ds lo hi) := by
  unfold cutV cutD
  rw [h.len]
  exact Rps.take _ (Rps.drop _ h)

/-! ### hidden addresses -/
def hid (S : List Addr) (H : Hp) : Hp := fun a => if a ∈ S then none else H a
theorem hid_ne {S : List Addr} {a : Addr} {H : Hp} (h : a ∉ S) : hid S H a = H a := if_neg h
theorem hid_in {S : List Addr} {a : Addr} {H : Hp} (h : a ∈ S) : hid S H a = none := if_pos h
theorem hid_same {S : List Addr} {H : Hp} : Same (hid S H) H := fun a o e => by
  unfold hid at e
  split at e
  · cases e
  · exact e
theorem hid_some {S : List Addr} {H : Hp} {a : Addr} {o : HO} (e : hid S H a = some o) : a ∉ S ∧ H a = some o := by
  unfold hid at e
  split at e
  · cases e
  · rename_i h
    exact ⟨h, e⟩
theorem hid_to {S S' : List Addr} {H H' : Hp} (h : ∀ a o, a ∉ S → H a = some o → a ∉ S' ∧ H' a = some o) : Same (hid S H) (hid S' H') := fun a o e => by
  obtain ⟨h1, h2⟩ := hid_some e
  obtain ⟨h3, h4⟩ := h a o h1 h2
  rw [hid_ne h3]
  exact h4
theorem hid_le {S S' : List Addr} {H : Hp} (h : ∀ s ∈ S', s ∈ S) : Same (hid S H) (hid S' H) := hid_to fun a o n e => ⟨fun m => n (h a m), e⟩
theorem hid_mono {S : List Addr} {H H' : Hp} (s : Same H H') : Same (hid S H) (hid S H') := hid_to fun a o n e => ⟨n, s a o e⟩
theorem hid_upd {S : List Addr} {p : Addr} {H : Hp} {o : HO} (hp : p ∈ S) : hid S (upd H p o) = hid S H := by
  funext a
  unfold hid
  split
  · rfl
  · rename_i h
    exact upd_ne fun z => h (z ▸ hp)
/-- a new address: hidden or not, what is told stays -/
theorem hid_new {S : List Addr} {p : Addr} {H : Hp} {o : HO} (hp : H p = none) : Same (hid S H) (hid S (upd H p o)) := hid_to fun a u n e => ⟨n, by rw [upd_ne (ne_of_none e hp)]; exact e⟩
theorem hid_newS {S : List Addr} {p : Addr} {H : Hp} {o : HO} (hp : H p = none) : Same (hid S H) (hid (p :: S) (upd H p o)) := hid_to fun a u n e =>
  ⟨fun m => (List.mem_cons.mp m).elim (ne_of_none e hp) n, by rw [upd_ne (ne_of_none e hp)]; exact e⟩

/-! ### slots -/
/-- what is known of a slot: data that nobody changes, or a list of one's own -/
inductive Sl where
  | fz (d : D)
  | ol (ds : List D)
def Sl.toD : Sl → D
  | .fz d => d
  | .ol ds => .lst ds
def Sl.own : Sl → Bool
  | .fz _ => false
  | .ol _ => true
/-- an exception: its class, the names and values of its attributes -/
structure Exc where
  c : Str
  ns : List Str
  ds : List D
structure Cxt where
  B : Bk
  /-- the bag may be drawn from -/
  ub : Bool
  /-- hidden from the start on -/
  Oc : List Addr
  H0 : Hp
  xe : Exc → Prop
abbrev Ev := List (Option Sl)
def SlOk (C : Cxt) (S : List Addr) (H : Hp) (v : V) : Sl → Prop
  | .fz d => Rp C.B (hid S H) v d
  | .ol ds => ∃ a xs, v = .ref a ∧ a ∈ S ∧ C.H0 a = none ∧ H a = some (.lst xs) ∧ xs.length ≤ 1000000 ∧ Rps C.B (hid S H) xs ds
/-- what a piece of code may change -/
structure Chg (ub : Bool) (B : Bk) (H H' : Hp) : Prop where
  keep : ∀ a o, (ub = true → a ≠ B.bag) → H a = some o → H' a = some o
  bag : ub = true → BagAt H' B.bag B.cel
theorem Chg.same {B : Bk} {H H' : Hp} (s : Same H H') : Chg false B H H' := ⟨fun a o _ e => s a o e, fun z => by cases z⟩
theorem Chg.pure {B : Bk} {H H' : Hp} (c : Chg false B H H') : Same H H' := fun a o e => c.keep a o (fun z => by cases z) e
theorem Chg.there {ub : Bool} {B : Bk} {H H' : Hp} (c : Chg ub B H H') {a : Addr} (h : H a ≠ none) : H' a ≠ none := fun z => by
  by_cases u : ub = true ∧ a = B.bag
  · obtain ⟨xs, e⟩ := (c.bag u.1).atB
    rw [u.2, e] at z
    cases z
  · cases e : H a with
    | none => exact h e
    | some o =>
      rw [c.keep a o (fun hu q => u ⟨hu, q⟩) e] at z
      cases z
structure Sta (C : Cxt) (ρ : Ev) (σ : St) (H : Hp) (S : List Addr) : Prop where
  wd : Chg C.ub C.B C.H0 H
  sub : ∀ a ∈ C.Oc, a ∈ S
  own : ∀ a ∈ S, a ∈ C.Oc ∨ C.H0 a = none
  al : ∀ a ∈ S, H a ≠ none
  al0 : ∀ a ∈ C.Oc, C.H0 a ≠ none
  bagO : C.ub = true → C.B.bag ∈ C.Oc ∧ C.B.cel ∈ C.Oc
  len : ρ.length = σ.length
  sl : ∀ (i : Nat) (s : Sl), ρ[i]? = some (some s) → ∃ v, σ[i]? = some (some v) ∧ SlOk C S H v s
  ap : ∀ (i j : Nat) (s t : Sl) (v : V), ρ[i]? = some (some s) → ρ[j]? = some (some t) → s.own = true → t.own = true → σ[i]? = some (some v) → σ[j]? = some (some v) → i = j
theorem SlOk.to {C : Cxt} {S S' : List Addr} {H H' : Hp} {v : V} {s : Sl} (h : SlOk C S H v s) (k : Same (hid S H) (hid S' H')) (l : ∀ a, v = .ref a → s.own = true → a ∈ S → C.H0 a = none → ∀ xs, H a = some (.lst xs) → a ∈ S' ∧ H' a = some (.lst xs)) : SlOk C S' H' v s := by
  cases s with
  | fz d => exact Rp.same k d h
  | ol ds =>
    obtain ⟨a, xs, h1, h2, h3, h4, h5, h6⟩ := h
    obtain ⟨m, e⟩ := l a h1 rfl h2 h3 xs h4
    exact ⟨a, xs, h1, m, h3, e, h5, Rps.same k ds h6⟩
section
variable {C : Cxt} {ρ : Ev} {σ : St} {H H' : Hp} {S S' : List Addr} {s : Sl} {v : V}
theorem Sta.off (st : Sta C ρ σ H S) {a : Addr} (h : C.H0 a = none) : a ∉ C.Oc := fun m => st.al0 a m h
theorem Sta.nbag (st : Sta C ρ σ H S) {a : Addr} (h : C.H0 a = none) : C.ub = true → a ≠ C.B.bag := fun u e => st.off h (e ▸ (st.bagO u).1)
/-- the heap, the hidden addresses change; the slots' facts are carried over -/
theorem Sta.to (st : Sta C ρ σ H S) (c : Chg C.ub C.B C.H0 H') (sub : ∀ a ∈ C.Oc, a ∈ S') (own : ∀ a ∈ S', a ∈ C.Oc ∨ C.H0 a = none) (al : ∀ a ∈ S', H' a ≠ none) (k : Same (hid S H) (hid S' H'))
    (l : ∀ (i : Nat) (ds : List D) (a : Addr), ρ[i]? = some (some (.ol ds)) → σ[i]? = some (some (.ref a)) → a ∈ S → C.H0 a = none → ∀ xs, H a = some (.lst xs) → a ∈ S' ∧ H' a = some (.lst xs)) : Sta C ρ σ H' S' :=
  ⟨c, sub, own, al, st.al0, st.bagO, st.len, fun i s e => by
    obtain ⟨v, h1, h2⟩ := st.sl i s e
    refine ⟨v, h1, h2.to k fun a ea eo => ?_⟩
    subst ea
    cases s with
    | fz d => cases eo
    | ol ds => exact l i ds a e h1, st.ap⟩
/-- code that keeps to its promise has run -/
theorem Sta.chg {ub : Bool} (st : Sta C ρ σ H S) (hu : ub = true → C.ub = true) (c : Chg ub C.B H H') : Sta C ρ σ H' S := by
  have kp : ∀ a o, (C.ub = true → a ≠ C.B.bag) → H a = some o → H' a = some o := fun a o n e => c.keep a o (fun u => n (hu u)) e
  have bg : C.ub = true → BagAt H' C.B.bag C.B.cel := fun u => by
    cases ub with
    | true => exact c.bag rfl
    | false => exact (st.wd.bag u).same c.pure
  refine st.to ⟨fun a o n e => kp a o n (st.wd.keep a o n e), bg⟩ st.sub st.own (fun a m => c.there (st.al a m)) (hid_to fun a o n e => ⟨n, kp a o (fun u z => n (z ▸ st.sub _ (st.bagO u).1)) e⟩) fun i ds a e h m h0 xs hx => ⟨m, kp a _ (st.nbag h0) hx⟩
theorem Sta.same (st : Sta C ρ σ H S) (s : Same H H') : Sta C ρ σ H' S := st.chg (ub := false) (fun z => by cases z) (Chg.same s)
/-- a new object that stands open -/
theorem Sta.new (st : Sta C ρ σ H S) {p : Addr} {o : HO} (hp : H p = none) : Sta C ρ σ (upd H p o) S := st.same fun a u e => by rw [upd_ne (ne_of_none e hp)]; exact e
theorem Sta.fresh (st : Sta C ρ σ H S) {p : Addr} (hp : H p = none) : C.H0 p = none := by
  cases e : C.H0 p with
  | none => rfl
  | some o =>
    by_cases u : C.ub = true ∧ p = C.B.bag
    · obtain ⟨xs, q⟩ := (st.wd.bag u.1).atB
      rw [u.2, q] at hp
      cases hp
    · rw [st.wd.keep p o (fun hu q => u ⟨hu, q⟩) e] at hp
      cases hp
theorem Sta.notS (st : Sta C ρ σ H S) {p : Addr} (hp : H p = none) : p ∉ S := fun m => st.al p m hp
/-- a new object that is hidden -/
theorem Sta.newS (st : Sta C ρ σ H S) {p : Addr} {o : HO} (hp : H p = none) : Sta C ρ σ (upd H p o) (p :: S) := by
  have st' := st.new (o := o) hp
  refine st.to st'.wd (fun a m => List.mem_cons_of_mem _ (st.sub a m)) (fun a m => ?_) (fun a m => ?_) (hid_newS hp) fun i ds a e h m h0 xs hx => ⟨List.mem_cons_of_mem _ m, by rw [upd_ne (ne_of_none hx hp)]; exact hx⟩
  · rcases List.mem_cons.mp m with rfl | m
    · exact .inr (st.fresh hp)
    · exact st.own a m
  · rcases List.mem_cons.mp m with rfl | m
    · rw [upd_same]; exact fun z => nomatch z
    · exact st'.al a m
theorem Sta.get (st : Sta C ρ σ H S) {i : Nat} (e : ρ[i]? = some (some s)) : ∃ v, σ[i]? = some (some v) ∧ SlOk C S H v s := st.sl i s e
theorem Sta.push (st : Sta C ρ σ H S) (ok : SlOk C S H v s) (n : s.own = true → ∀ (i : Nat) (t : Sl), ρ[i]? = some (some t) → t.own = true → σ[i]? ≠ some (some v)) : Sta C (ρ ++ [some s]) (σ ++ [some v]) H S := by
  have hl := st.len
  refine ⟨st.wd, st.sub, st.own, st.al, st.al0, st.bagO, by simp [hl], fun i t e => ?_, fun i j t u x e1 e2 o1 o2 q1 q2 => ?_⟩
  · by_cases hi : i < ρ.length
    · rw [List.getElem?_append_left hi] at e
      obtain ⟨w, q, k⟩ := st.sl i t e
      exact ⟨w, by rw [List.getElem?_append_left (hl ▸ hi)]; exact q, k⟩
    · have : i = ρ.length := by
        have := (List.getElem?_eq_some_iff.mp e).1
        simp at this
        omega
      subst this
      rw [List.getElem?_append_right (Nat.le_refl _), Nat.sub_self] at e
      cases e
      exact ⟨v, by rw [hl, List.getElem?_append_right (Nat.le_refl _), Nat.sub_self]; rfl, ok⟩
  · have lt : ∀ {k : Nat} {z : Sl}, (ρ ++ [some s])[k]? = some (some z) → k < ρ.length ∨ (k = ρ.length ∧ z = s) := fun {k z} e => by
      by_cases hk : k < ρ.length
      · exact .inl hk
      · have : k = ρ.length := by
          have := (List.getElem?_eq_some_iff.mp e).1
          simp at this
          omega
        subst this
        rw [List.getElem?_append_right (Nat.le_refl _), Nat.sub_self] at e
        cases e
        exact .inr ⟨rfl, rfl⟩
    have vl : (σ ++ [some v])[ρ.length]? = some (some v) := by rw [hl, List.getElem?_append_right (Nat.le_refl _), Nat.sub_self]; rfl
    rcases lt e1 with h1 | ⟨h1, rfl⟩
    · rw [List.getElem?_append_left h1] at e1
      rw [List.getElem?_append_left (hl ▸ h1)] at q1
      rcases lt e2 with h2 | ⟨h2, rfl⟩
      · rw [List.getElem?_append_left h2] at e2
        rw [List.getElem?_append_left (hl ▸ h2)] at q2
        exact st.ap i j t u x e1 e2 o1 o2 q1 q2
      · subst h2
        rw [vl] at q2
        cases q2
        exact absurd q1 (n o2 i t e1 o1)
    · subst h1
      rw [vl] at q1
      cases q1
      rcases lt e2 with h2 | ⟨h2, rfl⟩
      · rw [List.getElem?_append_left h2] at e2
        rw [List.getElem?_append_left (hl ▸ h2)] at q2
        exact absurd q2 (n o1 j u e2 o2)
      · exact h2.symm
theorem Sta.pushF (st : Sta C ρ σ H S) {d : D} (ok : Rp C.B (hid S H) v d) : Sta C (ρ ++ [some (.fz d)]) (σ ++ [some v]) H S := st.push (s := .fz d) ok fun z => by cases z
/-- a new list of one's own -/
theorem Sta.pushL (st : Sta C ρ σ H S) {p : Addr} {xs : List V} {ds : List D} (hp : H p = none) (hl : xs.length ≤ 1000000) (h : Rps C.B (hid S H) xs ds) :
    Sta C (ρ ++ [some (.ol ds)]) (σ ++ [some (.ref p)]) (upd H p (.lst xs)) (p :: S) := by
  refine (st.newS hp).push ⟨p, xs, rfl, List.mem_cons_self, st.fresh hp, upd_same, hl, Rps.same (hid_newS hp) ds h⟩ fun _ i t e o q => ?_
  obtain ⟨w, e1, e2⟩ := st.sl i t e
  rw [e1] at q
  cases q
  cases t with
  | fz d => cases o
  | ol es =>
    obtain ⟨a, ys, h1, h2, h3, h4, _⟩ := e2
    cases h1
    rw [hp] at h4
    cases h4
/-- a list that a callee has made -/
theorem Sta.pushR (st : Sta C ρ σ H S) {ub : Bool} (hu : ub = true → C.ub = true) (c : Chg ub C.B H H') {p : Addr} {xs : List V} {ds : List D} (hp : H p = none) (hp' : H' p = some (.lst xs)) (hl : xs.length ≤ 1000000) (h : Rps C.B (hid (p :: S) H') xs ds) :
    Sta C (ρ ++ [some (.ol ds)]) (σ ++ [some (.ref p)]) H' (p :: S) := by
  have st' := st.chg hu c
  have ns := st.notS hp
  refine (st.to (S' := p :: S) st'.wd (fun a m => List.mem_cons_of_mem _ (st.sub a m)) (fun a m => ?_) (fun a m => ?_) (hid_to fun a o n e => ⟨fun m => ?_, ?_⟩) (fun i ds a e h m h0 xs hx => ⟨List.mem_cons_of_mem _ m, ?_⟩)).push ⟨p, xs, rfl, List.mem_cons_self, st.fresh hp, hp', hl, h⟩ fun _ i t e o q => ?_
  · rcases List.mem_cons.mp m with rfl | m
    · exact .inr (st.fresh hp)
    · exact st.own a m
  · rcases List.mem_cons.mp m with rfl | m
    · rw [hp']; exact fun z => nomatch z
    · exact st'.al a m
  · rcases List.mem_cons.mp m with rfl | m
    · rw [hp] at e; cases e
    · exact n m
  · exact c.keep a o (fun u z => n (z ▸ st.sub _ (st.bagO (hu u)).1)) e
  · exact c.keep a _ (fun u => st.nbag h0 (hu u)) hx
  · obtain ⟨w, e1, e2⟩ := st.sl i t e
    rw [e1] at q
    cases q
    cases t with
    | fz d => cases o
    | ol es =>
      obtain ⟨a, ys, h1, h2, h3, h4, _⟩ := e2
      cases h1
      rw [hp] at h4
      cases h4
theorem Sta.drop {ρ' : Ev} {σ' : St} (st : Sta C (ρ ++ ρ') (σ ++ σ') H S) (hl : ρ.length = σ.length) : Sta C ρ σ H S := by
  refine ⟨st.wd, st.sub, st.own, st.al, st.al0, st.bagO, hl, fun i t e => ?_, fun i j t u x e1 e2 o1 o2 q1 q2 => ?_⟩
  · have hi := (List.getElem?_eq_some_iff.mp e).1
    obtain ⟨w, q, k⟩ := st.sl i t (by rw [List.getElem?_append_left hi]; exact e)
    rw [List.getElem?_append_left (hl ▸ hi)] at q
    exact ⟨w, q, k⟩
  · have h1 := (List.getElem?_eq_some_iff.mp e1).1
    have h2 := (List.getElem?_eq_some_iff.mp e2).1
    exact st.ap i j t u x (by rw [List.getElem?_append_left h1]; exact e1) (by rw [List.getElem?_append_left h2]; exact e2) o1 o2 (by rw [List.getElem?_append_left (hl ▸ h1)]; exact q1) (by rw [List.getElem?_append_left (hl ▸ h2)]; exact q2)
theorem Sta.last (st : Sta C (ρ ++ [some s]) (σ ++ [some v]) H S) (hl : ρ.length = σ.length) : SlOk C S H v s := by
  obtain ⟨w, q, k⟩ := st.sl ρ.length s (by rw [List.getElem?_append_right (Nat.le_refl _), Nat.sub_self]; rfl)
  rw [hl, List.getElem?_append_right (Nat.le_refl _), Nat.sub_self] at q
  cases q
  exact k
/-- a slot is forgotten, or what it holds is told otherwise -/
theorem Sta.put (st : Sta C ρ σ H S) (i : Nat) (o : Option Sl) (h : ∀ s : Sl, o = some s → ∃ v, σ[i]? = some (some v) ∧ SlOk C S H v s) (n : ∀ (s : Sl) (v : V), o = some s → s.own = true → σ[i]? = some (some v) → ∀ (j : Nat) (t : Sl), j ≠ i → ρ[j]? = some (some t) → t.own = true → σ[j]? ≠ some (some v)) : Sta C (ρ.set i o) σ H S := by
  refine ⟨st.wd, st.sub, st.own, st.al, st.al0, st.bagO, by rw [List.length_set]; exact st.len, fun j t e => ?_, fun j k t u x e1 e2 o1 o2 q1 q2 => ?_⟩
  · by_cases hj : i = j
    · subst hj
      by_cases hi : i < ρ.length
      · rw [List.getElem?_set_self hi] at e
        cases e
        exact h t rfl
      · rw [List.getElem?_eq_none (by simpa using hi)] at e; cases e
    · rw [List.getElem?_set_ne hj] at e
      exact st.sl j t e
  · by_cases hj : i = j
    · by_cases hk : i = k
      · omega
      · subst hj
        rw [List.getElem?_set_ne hk] at e2
        have hi : i < ρ.length := by have := (List.getElem?_eq_some_iff.mp e1).1; simpa using this
        rw [List.getElem?_set_self hi] at e1
        cases e1
        exact absurd q2 (n t x rfl o1 q1 k u (Ne.symm hk) e2 o2)
    · rw [List.getElem?_set_ne hj] at e1
      by_cases hk : i = k
      · subst hk
        have hi : i < ρ.length := by have := (List.getElem?_eq_some_iff.mp e2).1; simpa using this
        rw [List.getElem?_set_self hi] at e2
        cases e2
        exact absurd q1 (n u x rfl o2 q2 j t (Ne.symm hj) e1 o1)
      · rw [List.getElem?_set_ne hk] at e2
        exact st.ap j k t u x e1 e2 o1 o2 q1 q2
theorem Sta.forget (st : Sta C ρ σ H S) (i : Nat) : Sta C (ρ.set i none) σ H S := st.put i none (fun _ z => by cases z) fun _ _ z => by cases z
/-- a slot that is forgotten may hold anything -/
theorem Sta.blind (st : Sta C ρ σ H S) {i : Nat} (e : ∀ s : Sl, ρ[i]? ≠ some (some s)) (o : Option V) : Sta C ρ (σ.set i o) H S := by
  refine ⟨st.wd, st.sub, st.own, st.al, st.al0, st.bagO, by rw [List.length_set]; exact st.len, fun j t q => ?_, fun j k t u x e1 e2 o1 o2 q1 q2 => ?_⟩
  · have hj : i ≠ j := fun z => e t (z ▸ q)
    rw [List.getElem?_set_ne hj]
    exact st.sl j t q
  · have hj : i ≠ j := fun z => e t (z ▸ e1)
    have hk : i ≠ k := fun z => e u (z ▸ e2)
    rw [List.getElem?_set_ne hj] at q1
    rw [List.getElem?_set_ne hk] at q2
    exact st.ap j k t u x e1 e2 o1 o2 q1 q2
theorem set_none (ρ : Ev) (i : Nat) : ∀ s : Sl, (ρ.set i none)[i]? ≠ some (some s) := fun s e => by
  by_cases hi : i < ρ.length
  · rw [List.getElem?_set_self hi] at e; cases e
  · rw [List.getElem?_eq_none (by simpa using hi)] at e; cases e
/-- a list of one's own is given up: from now on nobody changes it -/
theorem Sta.freeze (st : Sta C ρ σ H S) {i : Nat} {ds : List D} (e : ρ[i]? = some (some (.ol ds))) : ∃ S', Sta C (ρ.set i (some (.fz (.lst ds)))) σ H S' := by
  obtain ⟨v, q, a, xs, rfl, m, h0, hx, hl, hr⟩ := st.sl i _ e
  have sub : ∀ b ∈ S.filter (fun b => decide (b ≠ a)), b ∈ S := fun b hb => (List.mem_filter.mp hb).1
  have nm : a ∉ S.filter (fun b => decide (b ≠ a)) := fun hm => by simpa using (List.mem_filter.mp hm).2
  have st1 : Sta C (ρ.set i none) σ H (S.filter (fun b => decide (b ≠ a))) := by
    refine (st.forget i).to st.wd (fun b hb => List.mem_filter.mpr ⟨st.sub b hb, ?_⟩) (fun b hb => st.own b (sub b hb)) (fun b hb => st.al b (sub b hb)) (hid_le sub) fun j es b ej qj mb h0b ys hy => ⟨List.mem_filter.mpr ⟨mb, ?_⟩, hy⟩
    · refine decide_eq_true fun z => st.off h0 (z ▸ hb)
    · refine decide_eq_true fun z => ?_
      subst z
      by_cases hij : i = j
      · subst hij
        exact set_none ρ i _ ej
      · rw [List.getElem?_set_ne hij] at ej
        exact hij (st.ap i j _ _ _ e ej rfl rfl q qj)
  refine ⟨S.filter (fun b => decide (b ≠ a)), ?_⟩
  have st2 := st1.put i (some (.fz (.lst ds))) (fun s z => by
    cases z
    exact ⟨.ref a, q, a, xs, rfl, by rw [hid_ne nm]; exact hx, hl, Rps.same (hid_le sub) ds hr⟩) fun s v z o => by cases z; cases o
  rw [List.set_set] at st2
  exact st2
/-- .. whatever it is -/
theorem Sta.toD (st : Sta C ρ σ H S) {i : Nat} (e : ρ[i]? = some (some s)) : ∃ S', Sta C (ρ.set i (some (.fz s.toD))) σ H S' := by
  cases s with
  | ol ds => exact st.freeze e
  | fz d =>
    refine ⟨S, ?_⟩
    have : ρ.set i (some (.fz d)) = ρ := by
      obtain ⟨h, q⟩ := List.getElem?_eq_some_iff.mp e
      rw [← q]
      exact List.set_getElem_self h
    show Sta C (ρ.set i (some (.fz d))) σ H S
    rw [this]
    exact st
/-- a list of one's own is changed -/
theorem Sta.write (st : Sta C ρ σ H S) {i : Nat} {ds es : List D} {a : Addr} {ys : List V} (e : ρ[i]? = some (some (.ol ds))) (q : σ[i]? = some (some (.ref a))) (hl : ys.length ≤ 1000000) (h : Rps C.B (hid S H) ys es) :
    Sta C (ρ.set i (some (.ol es))) σ (upd H a (.lst ys)) S := by
  obtain ⟨v, q', b, xs, rfl, m, h0, hx, _, _⟩ := st.sl i _ e
  rw [q] at q'
  cases q'
  have st1 : Sta C (ρ.set i none) σ (upd H a (.lst ys)) S := by
    refine (st.forget i).to ⟨fun b o n z => ?_, fun u => ?_⟩ st.sub st.own (fun b hb => ?_) (by rw [hid_upd m]; exact Same.refl _) fun j es b ej qj mb h0b zs hz => ⟨mb, ?_⟩
    · have hne : b ≠ a := fun w => by rw [w, h0] at z; cases z
      rw [upd_ne hne]
      exact st.wd.keep b o n z
    · refine (st.wd.bag u).put ⟨st.nbag h0 u, fun w => st.off h0 (w ▸ (st.bagO u).2)⟩
    · by_cases hb' : b = a
      · rw [hb', upd_same]; exact fun z => nomatch z
      · rw [upd_ne hb']; exact st.al b hb
    · have hne : b ≠ a := fun w => by
        subst w
        by_cases hij : i = j
        · subst hij
          exact set_none ρ i _ ej
        · rw [List.getElem?_set_ne hij] at ej
          exact hij (st.ap i j _ _ _ e ej rfl rfl q qj)
      rw [upd_ne hne]
      exact hz
  have st2 := st1.put i (some (.ol es)) (fun s z => by
    cases z
    exact ⟨.ref a, q, a, ys, rfl, m, h0, upd_same, hl, by rw [hid_upd m]; exact h⟩) fun s v z _ qv j t hj ej to => by
      rw [q] at qv
      cases qv
      rw [List.getElem?_set_ne (Ne.symm hj)] at ej
      exact fun w => hj (st.ap j i _ _ _ ej e to rfl w q)
  rw [List.set_set] at st2
  exact st2
end
end Q


set_option autoImplicit false
set_option linter.all false
/-! Q1: what is told of expressions, tests, arguments; operators -/
namespace Q
open PySem L2

abbrev WE := Ev → (Sl → Ev → Prop) → Prop
abbrev WT := Ev → (Bool → Ev → Prop) → Prop
abbrev WA := Ev → (List D → Ev → Prop) → Prop
/-- a reading keeps to what is told by w -/
def OkE (C : Cxt) (t : TE) (w : WE) : Prop := ∀ (ρ ρx : Ev) (σ σx : St) (H : Hp) (S : List Addr) (k : Sl → Ev → Prop) (Q : VK), ρ.length = σ.length → Sta C (ρ ++ ρx) (σ ++ σx) H S → w ρ k →
  (∀ (s : Sl) (ρ' : Ev) (v : V) (H' : Hp) (S' : List Addr), ρ'.length = σ.length → Sta C ((ρ' ++ ρx) ++ [some s]) ((σ ++ σx) ++ [some v]) H' S' → k s ρ' → Q v H') → t σ H Q
/-- .. a value that is used at once -/
def OkB (C : Cxt) (t : TE) (w : WE) : Prop := ∀ (ρ ρx : Ev) (σ σx : St) (H : Hp) (S : List Addr) (k : Sl → Ev → Prop) (Q : VK), ρ.length = σ.length → Sta C (ρ ++ ρx) (σ ++ σx) H S → w ρ k →
  (∀ (s : Sl) (ρ' : Ev) (v : V) (H' : Hp) (S' : List Addr), ρ'.length = σ.length → Sta C (ρ' ++ ρx) (σ ++ σx) H' S' → SlOk C S' H' v s → k s ρ' → Q v H') → t σ H Q
def OkT (C : Cxt) (t : TT) (w : WT) : Prop := ∀ (ρ ρx : Ev) (σ σx : St) (H : Hp) (S : List Addr) (k : Bool → Ev → Prop) (Q : Bool → Hp → Prop), ρ.length = σ.length → Sta C (ρ ++ ρx) (σ ++ σx) H S → w ρ k →
  (∀ (b : Bool) (ρ' : Ev) (H' : Hp) (S' : List Addr), ρ'.length = σ.length → Sta C (ρ' ++ ρx) (σ ++ σx) H' S' → k b ρ' → Q b H') → t σ H Q
def fzs (ds : List D) : Ev := ds.map fun d => some (.fz d)
def OkA (C : Cxt) (t : TA) (w : WA) : Prop := ∀ (ρ ρx : Ev) (σ σx : St) (H : Hp) (S : List Addr) (k : List D → Ev → Prop) (Q : List V → Hp → Prop), ρ.length = σ.length → Sta C (ρ ++ ρx) (σ ++ σx) H S → w ρ k →
  (∀ (ds : List D) (ρ' : Ev) (vs : List V) (H' : Hp) (S' : List Addr), ρ'.length = σ.length → Sta C ((ρ' ++ ρx) ++ fzs ds) ((σ ++ σx) ++ vs.map some) H' S' → k ds ρ' → Q vs H') → t σ H Q
structure PD (X : Cx) (C : Cxt) (e : Expr) (t : TE) (w : WE) : Prop where
  pe : PE X e t
  ok : OkE C t w
structure PB (X : Cx) (C : Cxt) (e : Expr) (t : TE) (w : WE) : Prop where
  pe : PE X e t
  ok : OkB C t w
structure QT (X : Cx) (C : Cxt) (e : Expr) (t : TT) (w : WT) : Prop where
  pt : PT X e t
  ok : OkT C t w
structure QW (X : Cx) (C : Cxt) (e : Expr) (t : TT) (w : WT) : Prop where
  pw : PW X e t
  ok : OkT C t w
structure QA (X : Cx) (C : Cxt) (es : List Expr) (t : TA) (w : WA) : Prop where
  pa : PA X es t
  ok : OkA C t w
structure Fit (X : Cx) (C : Cxt) : Prop where
  K : C.B.K = X.K
  mg : C.B.mg = X.mg

section
variable {X : Cx} {C : Cxt} {e a bx : Expr} {t ta tb : TE} {w wa wb : WE} {pos : Pos}
theorem OkE.b (h : OkE C t w) : OkB C t w := fun ρ ρx σ σx H S k Q hl st hw q => h ρ ρx σ σx H S k Q hl st hw fun s ρ' v H' S' hl' st' hk => by
  have e := st'.len
  simp only [List.length_append] at e
  exact q s ρ' v H' S' hl' (st'.drop (by simp only [List.length_append, List.length_cons, List.length_nil] at *; omega)) (st'.last (by simp only [List.length_append, List.length_cons, List.length_nil] at *; omega)) hk
theorem PD.b (h : PD X C e t w) : PB X C e t w := ⟨h.pe, h.ok.b⟩
theorem app_set {α : Type} (l r : List α) (i : Nat) (x : α) (h : i < l.length) : (l ++ r).set i x = l.set i x ++ r := List.set_append_left _ _ h
theorem lt_of_get {α : Type} {l : List α} {i : Nat} {x : α} (h : l[i]? = some x) : i < l.length := (List.getElem?_eq_some_iff.mp h).1
theorem get_app {α : Type} {l r : List α} {i : Nat} {x : α} (h : l[i]? = some x) : (l ++ r)[i]? = some x := by rw [List.getElem?_append_left (lt_of_get h)]; exact h
theorem of_get_app {α : Type} {l r : List α} {i : Nat} {x : α} (h : (l ++ r)[i]? = some x) (hi : i < l.length) : l[i]? = some x := by rw [List.getElem?_append_left hi] at h; exact h

/-! ### names, constants -/
def wVar (i : Nat) : WE := fun ρ k => match ρ[i]? with
  | some (some (.fz d)) => k (.fz d) ρ
  | some (some (.ol ds)) => k (.fz (.lst ds)) (ρ.set i (some (.fz (.lst ds))))
  | _ => False
theorem ok_var (i : Nat) : OkE C (tVar i) (wVar i) := by
  intro ρ ρx σ σx H S k Q hl st hw q
  unfold wVar at hw
  split at hw
  · rename_i d e
    obtain ⟨v, h1, h2⟩ := st.get (get_app e)
    have hi : i < σ.length := hl ▸ lt_of_get e
    exact ⟨v, of_get_app h1 hi, q (.fz d) ρ v H S hl (st.pushF h2) hw⟩
  · rename_i ds e
    obtain ⟨S', st'⟩ := st.freeze (get_app (r := ρx) e)
    rw [app_set _ _ _ _ (lt_of_get e)] at st'
    have e' : (ρ.set i (some (.fz (.lst ds))))[i]? = some (some (.fz (.lst ds))) := List.getElem?_set_self (lt_of_get e)
    obtain ⟨v, h1, h2⟩ := st'.get (get_app e')
    have hi : i < σ.length := hl ▸ lt_of_get e
    exact ⟨v, of_get_app h1 hi, q (.fz (.lst ds)) _ v H S' (by rw [List.length_set]; exact hl) (st'.pushF h2) hw⟩
  · exact hw.elim
theorem pd_var {i : Nat} (h : PE X e (tVar i)) : PD X C e (tVar i) (wVar i) := ⟨h, ok_var i⟩
/-- what a name holds, used at once -/
def wBor (i : Nat) : WE := fun ρ k => match ρ[i]? with
  | some (some s) => k s ρ
  | _ => False
theorem pb_var {i : Nat} (h : PE X e (tVar i)) : PB X C e (tVar i) (wBor i) := ⟨h, by
  intro ρ ρx σ σx H S k Q hl st hw q
  unfold wBor at hw
  split at hw
  · rename_i s e
    obtain ⟨v, h1, h2⟩ := st.get (get_app e)
    exact ⟨v, of_get_app h1 (hl ▸ lt_of_get e), q s ρ v H S hl st h2 hw⟩
  · exact hw.elim⟩
/-- what a name holds, taken away from it -/
def wMv (i : Nat) : WE := fun ρ k => match ρ[i]? with
  | some (some s) => k s (ρ.set i none)
  | _ => False
theorem pd_mv {i : Nat} (h : PE X e (tVar i)) : PD X C e (tVar i) (wMv i) := ⟨h, by
  intro ρ ρx σ σx H S k Q hl st hw q
  unfold wMv at hw
  split at hw
  · rename_i s e
    have e0 := get_app (r := ρx) e
    obtain ⟨v, h1, h2⟩ := st.get e0
    have st' := st.forget i
    have hi : i < ρ.length := lt_of_get e
    refine ⟨v, of_get_app h1 (hl ▸ hi), q s (ρ.set i none) v H S (by rw [List.length_set]; exact hl) ?_ hw⟩
    rw [← app_set _ _ _ _ hi]
    refine st'.push h2 fun o j t ej to qj => ?_
    by_cases hij : i = j
    · subst hij
      exact set_none _ _ _ ej
    · rw [List.getElem?_set_ne hij] at ej
      exact hij (st.ap i j s t v e0 ej o to h1 qj)
  · exact hw.elim⟩
def wC (d : D) : WE := fun ρ k => k (.fz d) ρ
theorem ok_c {v : V} {d : D} (h : ∀ H, Rp C.B H v d) : OkE C (tC v) (wC d) := fun ρ ρx σ σx H S k Q hl st hw q => q (.fz d) ρ v H S hl (st.pushF (h _)) hw
theorem pd_c {v : V} {d : D} (h : PE X e (tC v)) (hr : ∀ H, Rp C.B H v d) : PD X C e (tC v) (wC d) := ⟨h, ok_c hr⟩
theorem pd_int {i : Int} {j pos} : PD X C (.Constant (.int i) j pos) (tC (.int i)) (wC (.int i)) := pd_c pe_int fun _ => rfl
theorem pd_bl {i : Bool} {j pos} : PD X C (.Constant (.bool i) j pos) (tC (.bl i)) (wC (.bl i)) := pd_c pe_bl fun _ => rfl
theorem pd_str {i : Str} {j pos} : PD X C (.Constant (.str i) j pos) (tC (.str i)) (wC (.str i)) := pd_c pe_str fun _ => rfl
theorem pd_non {j pos} : PD X C (.Constant .none j pos) (tC .non) (wC .non) := pd_c pe_non fun _ => rfl

/-! ### operators by values -/
abbrev P2 := Sl → Sl → (Sl → Prop) → Prop
/-- a relation keeps to what is told of it -/
def Lift2 (C : Cxt) (r : R2) (p : P2) : Prop := ∀ (ρ : Ev) (σ : St) (H : Hp) (S : List Addr) (x y : Sl) (vx vy : V) (k : Sl → Prop) (Q : VK), Sta C ρ σ H S → SlOk C S H vx x → SlOk C S H vy y → p x y k →
  (∀ (s : Sl) (v : V) (H' : Hp) (S' : List Addr), Sta C (ρ ++ [some s]) (σ ++ [some v]) H' S' → k s → Q v H') → r vx vy H Q
def wOp (p : P2) (wa wb : WE) : WE := fun ρ k => wa ρ fun x ρ1 => wb ρ1 fun y ρ2 => p (.fz x.toD) y fun z => k z ρ2
theorem Sta.popLast {ρ : Ev} {σ : St} {H : Hp} {S : List Addr} {s : Sl} {v : V} (st : Sta C (ρ ++ [some s]) (σ ++ [some v]) H S) : Sta C ρ σ H S := st.drop (by have := st.len; simp at this; exact this)
/-- the last slot as data that nobody changes -/
theorem Sta.lastD {ρ : Ev} {σ : St} {H : Hp} {S : List Addr} {s : Sl} {v : V} (st : Sta C (ρ ++ [some s]) (σ ++ [some v]) H S) : ∃ S', Sta C (ρ ++ [some (.fz s.toD)]) (σ ++ [some v]) H S' := by
  obtain ⟨S', h⟩ := st.toD (i := ρ.length) (s := s) (by rw [List.getElem?_append_right (Nat.le_refl _), Nat.sub_self]; rfl)
  refine ⟨S', ?_⟩
  rw [List.set_append_right _ _ (Nat.le_refl _), Nat.sub_self] at h
  exact h
/-- what stands below the last but one -/
theorem Sta.pop2 {ρ : Ev} {σ : St} {H : Hp} {S : List Addr} {s t : Sl} {v u : V} (st : Sta C ((ρ ++ [some s]) ++ [some t]) ((σ ++ [some v]) ++ [some u]) H S) : Sta C ρ σ H S := st.popLast.popLast
theorem ok_op {r : R2} {p : P2} (h : Lift2 C r p) (ha : OkE C ta wa) (hb : OkB C tb wb) : OkE C (tOp r ta tb) (wOp p wa wb) := by
  intro ρ ρx σ σx H S k Q hl st hw q
  refine ha ρ ρx σ σx H S _ _ hl st hw fun x ρ1 vx H1 S1 hl1 st1 hw1 => ?_
  obtain ⟨S1', st1⟩ := st1.lastD
  rw [List.append_assoc, List.append_assoc] at st1
  refine hb ρ1 (ρx ++ [some (.fz x.toD)]) σ (σx ++ [some vx]) H1 S1' _ _ hl1 st1 hw1 fun y ρ2 vy H2 S2 hl2 st2 oky hp => ?_
  rw [← List.append_assoc, ← List.append_assoc] at st2
  have lx : (ρ2 ++ ρx).length = (σ ++ σx).length := by have := st2.len; simp only [List.length_append, List.length_cons, List.length_nil] at *; omega
  refine h (ρ2 ++ ρx) (σ ++ σx) H2 S2 (.fz x.toD) y vx vy _ Q st2.popLast (st2.last lx) oky hp fun z v H' S' st' hk => ?_
  exact q z ρ2 v H' S' hl2 st' hk
/-- the left one a name: it is looked at behind the right one -/
def wOpV (p : P2) (i : Nat) (wb : WE) : WE := fun ρ k => (∃ s, ρ[i]? = some (some s)) ∧ wb ρ fun y ρ1 => match ρ1[i]? with
  | some (some x) => p x y fun z => k z ρ1
  | _ => False
theorem ok_opV {r : R2} {p : P2} (h : Lift2 C r p) {i : Nat} (hb : OkB C tb wb) : OkE C (tOp r (tVar i) tb) (wOpV p i wb) := by
  intro ρ ρx σ σx H S k Q hl st hw q
  obtain ⟨⟨s0, e0⟩, hw⟩ := hw
  obtain ⟨v, h1, _⟩ := st.get (get_app e0)
  have hi : i < σ.length := hl ▸ lt_of_get e0
  refine ⟨v, of_get_app h1 hi, ?_⟩
  refine hb ρ ρx σ σx H S _ _ hl st hw fun y ρ1 vy H1 S1 hl1 st1 oky hp => ?_
  split at hp
  · rename_i x e1
    obtain ⟨v', h2, okx⟩ := st1.get (get_app e1)
    rw [h1] at h2
    cases h2
    exact h (ρ1 ++ ρx) (σ ++ σx) H1 S1 x y v vy _ Q st1 okx oky hp fun z v' H' S' st' hk => q z ρ1 v' H' S' hl1 st' hk
  · exact hp.elim
theorem pd_op {op : Operator} {r : R2} {p : P2} (ho : OpR X (binaryOp op) r) (h : Lift2 C r p) (ha : PD X C a ta wa) (hb : PB X C bx tb wb) : PD X C (.BinOp a op bx pos) (tOp r ta tb) (wOp p wa wb) := ⟨pe_op ho ha.pe hb.pe, ok_op h ha.ok hb.ok⟩
theorem pd_opV {op : Operator} {r : R2} {p : P2} (ho : OpR X (binaryOp op) r) (h : Lift2 C r p) {i : Nat} (ha : PE X a (tVar i)) (hb : PB X C bx tb wb) : PD X C (.BinOp a op bx pos) (tOp r (tVar i) tb) (wOpV p i wb) := ⟨pe_op ho ha hb.pe, ok_opV h hb.ok⟩
theorem pd_cmp {op : CmpOp} {r : R2} {p : P2} (ho : OpR X (compareOp op) r) (h : Lift2 C r p) (ha : PD X C a ta wa) (hb : PB X C bx tb wb) (hm : behindInMarks op bx = false) : PD X C (.Compare a [op] [bx] pos) (tOp r ta tb) (wOp p wa wb) := ⟨pe_cmpR ho ha.pe hb.pe hm, ok_op h ha.ok hb.ok⟩
theorem pd_cmpV {op : CmpOp} {r : R2} {p : P2} (ho : OpR X (compareOp op) r) (h : Lift2 C r p) {i : Nat} (ha : PE X a (tVar i)) (hb : PB X C bx tb wb) (hm : behindInMarks op bx = false) : PD X C (.Compare a [op] [bx] pos) (tOp r (tVar i) tb) (wOpV p i wb) := ⟨pe_cmpR ho ha hb.pe hm, ok_opV h hb.ok⟩
theorem pd_ix {r : R2} {p : P2} (ho : IxR X r) (h : Lift2 C r p) (ha : PD X C a ta wa) (hb : PB X C bx tb wb) (hs : PlainIx bx) : PD X C (.Subscript a bx pos) (tOp r ta tb) (wOp p wa wb) := ⟨pe_ix ho ha.pe hb.pe hs, ok_op h ha.ok hb.ok⟩
theorem pd_ixV {r : R2} {p : P2} (ho : IxR X r) (h : Lift2 C r p) {i : Nat} (ha : PE X a (tVar i)) (hb : PB X C bx tb wb) (hs : PlainIx bx) : PD X C (.Subscript a bx pos) (tOp r (tVar i) tb) (wOpV p i wb) := ⟨pe_ix ho ha hb.pe hs, ok_opV h hb.ok⟩
/-- one operand -/
abbrev P1 := Sl → (Sl → Prop) → Prop
def Lift1 (C : Cxt) (r : V → Hp → VK → Prop) (p : P1) : Prop := ∀ (ρ : Ev) (σ : St) (H : Hp) (S : List Addr) (x : Sl) (vx : V) (k : Sl → Prop) (Q : VK), Sta C ρ σ H S → SlOk C S H vx x → p x k →
  (∀ (s : Sl) (v : V) (H' : Hp) (S' : List Addr), Sta C (ρ ++ [some s]) (σ ++ [some v]) H' S' → k s → Q v H') → r vx H Q
def wUn (p : P1) (wa : WE) : WE := fun ρ k => wa ρ fun x ρ1 => p x fun z => k z ρ1
theorem ok_un {r : V → Hp → VK → Prop} {p : P1} (h : Lift1 C r p) (ha : OkB C ta wa) : OkE C (tUn r ta) (wUn p wa) := by
  intro ρ ρx σ σx H S k Q hl st hw q
  refine ha ρ ρx σ σx H S _ _ hl st hw fun x ρ1 vx H1 S1 hl1 st1 okx hp => ?_
  exact h (ρ1 ++ ρx) (σ ++ σx) H1 S1 x vx _ Q st1 okx hp fun z v H' S' st' hk => q z ρ1 v H' S' hl1 st' hk
theorem pd_un {op : UnaryOp} {r : V → Hp → VK → Prop} {p : P1} (ho : UnR X (unaryOp op) r) (h : Lift1 C r p) (ha : PB X C a ta wa) : PD X C (.UnaryOp op a pos) (tUn r ta) (wUn p wa) := ⟨pe_un ho ha.pe, ok_un h ha.ok⟩

/-! ### arguments -/
theorem qa_nil : QA X C [] tNil (fun ρ k => k [] ρ) := ⟨pa_nil, fun ρ ρx σ σx H S k Q hl st hw q => q [] ρ [] H S hl (by simpa [fzs] using st) hw⟩
def wCons (wa : WE) (wr : WA) : WA := fun ρ k => wa ρ fun x ρ1 => wr ρ1 fun ds ρ2 => k (x.toD :: ds) ρ2
theorem ok_cons {tr : TA} {wr : WA} (ha : OkE C ta wa) (hr : OkA C tr wr) : OkA C (tCons ta tr) (wCons wa wr) := by
  intro ρ ρx σ σx H S k Q hl st hw q
  refine ha ρ ρx σ σx H S _ _ hl st hw fun x ρ1 vx H1 S1 hl1 st1 hw1 => ?_
  obtain ⟨S1', st1⟩ := st1.lastD
  rw [List.append_assoc, List.append_assoc] at st1
  refine hr ρ1 (ρx ++ [some (.fz x.toD)]) σ (σx ++ [some vx]) H1 S1' _ _ hl1 st1 hw1 fun ds ρ2 vs H2 S2 hl2 st2 hk => ?_
  refine q (x.toD :: ds) ρ2 (vx :: vs) H2 S2 hl2 ?_ hk
  simpa [fzs] using st2
theorem qa_cons {es : List Expr} {tr : TA} {wr : WA} (ha : PD X C e t w) (hr : QA X C es tr wr) (hs : starEach (e :: es) X.env = (false, eval e X.env) :: starEach es X.env := by rfl) : QA X C (e :: es) (tCons t tr) (wCons w wr) :=
  ⟨pa_cons ha.pe hr.pa hs, ok_cons ha.ok hr.ok⟩
/-- the arguments' values -/
theorem Sta.args {H : Hp} {S : List Addr} : ∀ {ds : List D} {vs : List V} {ρ : Ev} {σ : St}, ρ.length = σ.length → Sta C (ρ ++ fzs ds) (σ ++ vs.map some) H S → Rps C.B (hid S H) vs ds
  | [], vs, ρ, σ, hl, st => by
    have := st.len
    simp [fzs, hl] at this
    rw [this]; rfl
  | d :: ds, [], ρ, σ, hl, st => by
    have := st.len
    simp [fzs, hl] at this
  | d :: ds, v :: vs, ρ, σ, hl, st => by
    have e1 : ρ ++ fzs (d :: ds) = (ρ ++ ([some (Sl.fz d)] : Ev)) ++ fzs ds := by simp [fzs]
    have e2 : σ ++ (v :: vs).map some = (σ ++ [some v]) ++ vs.map some := by simp
    rw [e1, e2] at st
    have hl' : (ρ ++ ([some (Sl.fz d)] : Ev)).length = (σ ++ [some v]).length := by simp [hl]
    exact ⟨v, vs, rfl, (st.drop hl').last hl, st.args hl'⟩
/-- what comes of arguments -/
abbrev PN := List D → (Sl → Prop) → Prop
def LiftN (C : Cxt) (r : List V → Hp → VK → Prop) (p : PN) : Prop := ∀ (ρ : Ev) (σ : St) (H : Hp) (S : List Addr) (ds : List D) (vs : List V) (k : Sl → Prop) (Q : VK), Sta C ρ σ H S → Rps C.B (hid S H) vs ds → p ds k →
  (∀ (s : Sl) (v : V) (H' : Hp) (S' : List Addr), Sta C (ρ ++ [some s]) (σ ++ [some v]) H' S' → k s → Q v H') → r vs H Q
def wArg (p : PN) (wa : WA) : WE := fun ρ k => wa ρ fun ds ρ1 => p ds fun z => k z ρ1
theorem ok_arg {r : List V → Hp → VK → Prop} {p : PN} {ta : TA} {wa : WA} (h : LiftN C r p) (ha : OkA C ta wa) : OkE C (tCB r ta) (wArg p wa) := by
  intro ρ ρx σ σx H S k Q hl st hw q
  refine ha ρ ρx σ σx H S _ _ hl st hw fun ds ρ1 vs H1 S1 hl1 st1 hp => ?_
  have lx : (ρ1 ++ ρx).length = (σ ++ σx).length := by have := st.len; simp only [List.length_append] at *; omega
  exact h (ρ1 ++ ρx) (σ ++ σx) H1 S1 ds vs _ Q (st1.drop lx) (st1.args lx) hp fun z v H' S' st' hk => q z ρ1 v H' S' hl1 st' hk
theorem pd_callB {es : List Expr} {x : Str} {id : String} {p0 : Pos} {r : List V → Hp → VK → Prop} {p : PN} {ta : TA} {wa : WA} (hc : CallR X (.builtin id) r) (h : LiftN C r p) (hg : Gl X x) (hm : X.mg x = none) (hv : bootBuiltins x = some (.builtin id)) (ha : QA X C (e :: es) ta wa)
    (hn : x ≠ "__name__" := by decide) (hdb : (x == ("__debug__" : Str)) = false := by decide) (he : starEach (e :: es) X.env = (false, eval e X.env) :: starEach es X.env := by rfl) (hpl : (backTo pos (starEach es X.env)).any (·.1) = false := by rfl) :
    PD X C (.Call (.Name x p0) (e :: es) [] pos) (tCB r ta) (wArg p wa) := ⟨pe_callB hc hg hm hv ha.pa hn hdb he hpl, ok_arg h ha.ok⟩
theorem pd_callTy {es : List Expr} {x : Str} {T : String} {p0 : Pos} {r : List V → Hp → VK → Prop} {p : PN} {ta : TA} {wa : WA} (hc : CallR X (.type T) r) (h : LiftN C r p) (hg : Gl X x) (hm : X.mg x = none) (hv : bootBuiltins x = some (.type T)) (ha : QA X C (e :: es) ta wa)
    (hn : x ≠ "__name__" := by decide) (hdb : (x == ("__debug__" : Str)) = false := by decide) (he : starEach (e :: es) X.env = (false, eval e X.env) :: starEach es X.env := by rfl) (hpl : (backTo pos (starEach es X.env)).any (·.1) = false := by rfl) :
    PD X C (.Call (.Name x p0) (e :: es) [] pos) (tCB r ta) (wArg p wa) := ⟨pe_callTy hc hg hm hv ha.pa hn hdb he hpl, ok_arg h ha.ok⟩
/-- one argument, which may be a list of one's own -/
theorem ok_arg1 {r : List V → Hp → VK → Prop} {p : P1} (h : Lift1 C (fun v H Q => r [v] H Q) p) (ha : OkB C ta wa) : OkE C (tCB r (tCons ta tNil)) (wUn p wa) := by
  show OkE C (tUn (fun v H Q => r [v] H Q) ta) (wUn p wa)
  exact ok_un h ha
theorem pd_callB1 {x : Str} {id : String} {p0 : Pos} {r : List V → Hp → VK → Prop} {p : P1} (hc : CallR X (.builtin id) r) (h : Lift1 C (fun v H Q => r [v] H Q) p) (hg : Gl X x) (hm : X.mg x = none) (hv : bootBuiltins x = some (.builtin id)) (ha : PB X C e t w)
    (hn : x ≠ "__name__" := by decide) (hdb : (x == ("__debug__" : Str)) = false := by decide) (he : starEach [e] X.env = (false, eval e X.env) :: starEach [] X.env := by rfl) (hpl : (backTo pos (starEach [] X.env)).any (·.1) = false := by rfl) :
    PD X C (.Call (.Name x p0) [e] [] pos) (tCB r (tCons t tNil)) (wUn p w) := ⟨pe_callB hc hg hm hv (pa_cons ha.pe pa_nil he) hn hdb he hpl, ok_arg1 h ha.ok⟩
theorem pd_callTy1 {x : Str} {T : String} {p0 : Pos} {r : List V → Hp → VK → Prop} {p : P1} (hc : CallR X (.type T) r) (h : Lift1 C (fun v H Q => r [v] H Q) p) (hg : Gl X x) (hm : X.mg x = none) (hv : bootBuiltins x = some (.type T)) (ha : PB X C e t w)
    (hn : x ≠ "__name__" := by decide) (hdb : (x == ("__debug__" : Str)) = false := by decide) (he : starEach [e] X.env = (false, eval e X.env) :: starEach [] X.env := by rfl) (hpl : (backTo pos (starEach [] X.env)).any (·.1) = false := by rfl) :
    PD X C (.Call (.Name x p0) [e] [] pos) (tCB r (tCons t tNil)) (wUn p w) := ⟨pe_callTy hc hg hm hv (pa_cons ha.pe pa_nil he) hn hdb he hpl, ok_arg1 h ha.ok⟩

/-! ### tests, and, or, not -/
def wYes (w : WE) : WT := fun ρ k => w ρ fun x ρ1 => match x with
  | .fz (.bl b) => k b ρ1
  | _ => False
theorem ok_tst (h : OkB C t w) : OkT C (tTest t) (wYes w) := by
  intro ρ ρx σ σx H S k Q hl st hw q
  refine h ρ ρx σ σx H S _ _ hl st hw fun x ρ1 v H1 S1 hl1 st1 ok hk => ?_
  split at hk
  · rename_i b
    obtain rfl : v = .bl b := ok
    exact ⟨b, rfl, q b ρ1 H1 S1 hl1 st1 hk⟩
  · exact hk.elim
theorem qt_val (h : PB X C e t w) (he : ∀ whole, isTrue e X.env whole = (do let v ← whole; standAt e.pos; holding [v] (truthy v)) := by intro _; rfl) : QT X C e (tB t) (wYes w) := ⟨pt_val h.pe he, ok_tst h.ok⟩
theorem qt_cmp {op : CmpOp} {r : R2} {p : P2} (ho : OpR X (compareOp op) r) (h : Lift2 C r p) (ha : PD X C a ta wa) (hb : PB X C bx tb wb) (hm : behindInMarks op bx = false) : QT X C (.Compare a [op] [bx] pos) (tTest (tOp r ta tb)) (wYes (wOp p wa wb)) :=
  ⟨pt_cmpR ho ha.pe hb.pe hm, ok_tst (ok_op h ha.ok hb.ok).b⟩
theorem qt_cmpV {op : CmpOp} {r : R2} {p : P2} (ho : OpR X (compareOp op) r) (h : Lift2 C r p) {i : Nat} (ha : PE X a (tVar i)) (hb : PB X C bx tb wb) (hm : behindInMarks op bx = false) : QT X C (.Compare a [op] [bx] pos) (tTest (tOp r (tVar i) tb)) (wYes (wOpV p i wb)) :=
  ⟨pt_cmpR ho ha hb.pe hm, ok_tst (ok_opV h hb.ok).b⟩
/-- truth -/
def truP : Sl → (Bool → Prop) → Prop
  | .fz .non, k => k false
  | .fz (.bl b), k => k b
  | .fz (.int i), k => k (i != 0)
  | .fz (.str y), k => y.length ≤ sizeLine ∧ k ((y.length : Int) != 0)
  | .fz (.lst ds), k => k (!ds.isEmpty)
  | .fz (.tup ds), k => k (!ds.isEmpty)
  | .fz (.dic ks _), k => k (!ks.isEmpty)
  | .ol ds, k => k (!ds.isEmpty)
  | _, _ => False
theorem empty_of {xs : List V} {ds : List D} {B : Bk} {H : Hp} (h : Rps B H xs ds) : xs.isEmpty = ds.isEmpty := by
  have := h.len
  cases xs <;> cases ds <;> simp_all
theorem tru_of {S : List Addr} {H : Hp} {v : V} {s : Sl} {k : Bool → Prop} (ok : SlOk C S H v s) (h : truP s k) : ∃ b, TruV C.B.K v H b ∧ k b := by
  cases s with
  | ol ds =>
    obtain ⟨a, xs, rfl, _, _, e, _, r⟩ := ok
    exact ⟨_, .inl ⟨xs, SqL.of e, rfl⟩, by rw [empty_of r]; exact h⟩
  | fz d =>
    cases d with
    | non => obtain rfl : v = .non := ok; exact ⟨_, rfl, h⟩
    | bl b => obtain rfl : v = .bl b := ok; exact ⟨_, rfl, h⟩
    | int i => obtain rfl : v = .int i := ok; exact ⟨_, rfl, h⟩
    | str y => obtain rfl : v = .str y := ok; exact ⟨_, ⟨h.1, rfl⟩, h.2⟩
    | lst ds =>
      obtain ⟨a, xs, rfl, e, _, r⟩ := ok
      exact ⟨_, .inl ⟨xs, SqL.of (hid_some e).2, rfl⟩, by rw [empty_of r]; exact h⟩
    | tup ds =>
      obtain ⟨a, xs, rfl, e, _, r⟩ := ok
      exact ⟨_, .inr (.inl ⟨xs, sameT hid_same e, rfl⟩), by rw [empty_of r]; exact h⟩
    | dic ks ds =>
      obtain ⟨a, kvs, rfl, e, _, rfl, r⟩ := ok
      refine ⟨_, .inr (.inr ⟨kvs, (hid_some e).2, rfl⟩), ?_⟩
      have : kvs.isEmpty = (kvs.map (·.1)).isEmpty := by cases kvs <;> rfl
      rw [this]; exact h
    | raw _ => exact h.elim
    | bag => exact h.elim
    | obj _ _ _ => exact h.elim
def wTru (w : WE) : WT := fun ρ k => w ρ fun x ρ1 => truP x fun b => k b ρ1
def tTru (K : PySem.W.Frag) (t : TE) : TT := fun σ H Q => t σ H fun x H' => ∃ k, TruV K x H' k ∧ Q k H'
theorem qt_truth (F : Fit X C) (h : PB X C e t w) (he : ∀ whole, isTrue e X.env whole = (do let v ← whole; standAt e.pos; holding [v] (truthy v)) := by intro _; rfl) : QT X C e (tTru X.K t) (wTru w) := by
  refine ⟨pt_truth h.pe he, ?_⟩
  intro ρ ρx σ σx H S k Q hl st hw q
  refine h.ok ρ ρx σ σx H S _ _ hl st hw fun x ρ1 v H1 S1 hl1 st1 ok hk => ?_
  obtain ⟨b, h1, h2⟩ := tru_of ok hk
  rw [F.K] at h1
  exact ⟨b, h1, q b ρ1 H1 S1 hl1 st1 h2⟩
theorem qt_w {tt : TT} {w : WT} (h : QW X C e tt w) : QT X C e tt w := ⟨h.pw.pt, h.ok⟩
def wAnd (u w : WT) : WT := fun ρ k => u ρ fun c ρ1 => if c = true then w ρ1 k else k false ρ1
def wOr (u w : WT) : WT := fun ρ k => u ρ fun c ρ1 => if c = true then k true ρ1 else w ρ1 k
theorem ok_and {t1 t2 : TT} {w1 w2 : WT} (h1 : OkT C t1 w1) (h2 : OkT C t2 w2) : OkT C (tAnd t1 t2) (wAnd w1 w2) := by
  intro ρ ρx σ σx H S k Q hl st hw q
  refine h1 ρ ρx σ σx H S _ _ hl st hw fun c ρ1 H1 S1 hl1 st1 hk => ?_
  cases c with
  | true => exact h2 ρ1 ρx σ σx H1 S1 k Q hl1 st1 hk q
  | false => exact q false ρ1 H1 S1 hl1 st1 hk
theorem ok_or {t1 t2 : TT} {w1 w2 : WT} (h1 : OkT C t1 w1) (h2 : OkT C t2 w2) : OkT C (tOr t1 t2) (wOr w1 w2) := by
  intro ρ ρx σ σx H S k Q hl st hw q
  refine h1 ρ ρx σ σx H S _ _ hl st hw fun c ρ1 H1 S1 hl1 st1 hk => ?_
  cases c with
  | true => exact q true ρ1 H1 S1 hl1 st1 hk
  | false => exact h2 ρ1 ρx σ σx H1 S1 k Q hl1 st1 hk q
theorem qw_and1 {tt : TT} {w : WT} (h : QT X C e tt w) : QW X C (.BoolOp .And [e] pos) tt w := ⟨pw_and1 h.pt, h.ok⟩
theorem qw_or1 {tt : TT} {w : WT} (h : QT X C e tt w) : QW X C (.BoolOp .Or [e] pos) tt w := ⟨pw_or1 h.pt, h.ok⟩
theorem qw_and {t1 t2 : TT} {w1 w2 : WT} {rest : List Expr} (h : QT X C e t1 w1) (g : QW X C (.BoolOp .And (a :: rest) pos) t2 w2) : QW X C (.BoolOp .And (e :: a :: rest) pos) (tAnd t1 t2) (wAnd w1 w2) := ⟨pw_and h.pt g.pw, ok_and h.ok g.ok⟩
theorem qw_or {t1 t2 : TT} {w1 w2 : WT} {rest : List Expr} (h : QT X C e t1 w1) (g : QW X C (.BoolOp .Or (a :: rest) pos) t2 w2) : QW X C (.BoolOp .Or (e :: a :: rest) pos) (tOr t1 t2) (wOr w1 w2) := ⟨pw_or h.pt g.pw, ok_or h.ok g.ok⟩
def wNot (w : WT) : WT := fun ρ k => w ρ fun c ρ1 => k (!c) ρ1
theorem qt_not {tt : TT} {w : WT} (h : QT X C e tt w) : QT X C (.UnaryOp .Not e pos) (tNot tt) (wNot w) := ⟨pt_not h.pt, fun ρ ρx σ σx H S k Q hl st hw q => h.ok ρ ρx σ σx H S _ _ hl st hw fun c ρ1 H1 S1 hl1 st1 hk => q (!c) ρ1 H1 S1 hl1 st1 hk⟩
/-- a if c else b -/
def wIf (c : WT) (wa wb : WE) : WE := fun ρ k => c ρ fun b ρ1 => if b = true then wa ρ1 k else wb ρ1 k
theorem pd_if {c : Expr} {tc : TT} {wc : WT} (hc : QT X C c tc wc) (ha : PD X C a ta wa) (hb : PD X C bx tb wb) : PD X C (.IfExp c a bx pos) (tIf tc ta tb) (wIf wc wa wb) := ⟨pe_ifExp hc.pt ha.pe hb.pe, by
  intro ρ ρx σ σx H S k Q hl st hw q
  refine hc.ok ρ ρx σ σx H S _ _ hl st hw fun c ρ1 H1 S1 hl1 st1 hk => ?_
  cases c with
  | true => exact ha.ok ρ1 ρx σ σx H1 S1 k Q hl1 st1 hk q
  | false => exact hb.ok ρ1 ρx σ σx H1 S1 k Q hl1 st1 hk q⟩
/-- and, or of truth values -/
def wAndV (wa wb : WE) : WE := fun ρ k => wa ρ fun x ρ1 => match x with
  | .fz (.bl c) => if c = true then wb ρ1 k else k (.fz (.bl false)) ρ1
  | _ => False
def wOrV (wa wb : WE) : WE := fun ρ k => wa ρ fun x ρ1 => match x with
  | .fz (.bl c) => if c = true then k (.fz (.bl true)) ρ1 else wb ρ1 k
  | _ => False
theorem pd_one {op} (h : PD X C e t w) : PD X C (.BoolOp op [e] pos) t w := ⟨pe_one h.pe, h.ok⟩
theorem pd_and {rest : List Expr} (ha : PB X C a ta wa) (hb : PD X C (.BoolOp .And (bx :: rest) pos) tb wb) : PD X C (.BoolOp .And (a :: bx :: rest) pos) (tAndV ta tb) (wAndV wa wb) := ⟨pe_and ha.pe hb.pe, by
  intro ρ ρx σ σx H S k Q hl st hw q
  refine ha.ok ρ ρx σ σx H S _ _ hl st hw fun x ρ1 v H1 S1 hl1 st1 ok hk => ?_
  split at hk
  · rename_i c
    obtain rfl : v = .bl c := ok
    refine ⟨c, rfl, ?_⟩
    cases c with
    | true => exact hb.ok ρ1 ρx σ σx H1 S1 k Q hl1 st1 hk q
    | false => exact q (.fz (.bl false)) ρ1 _ H1 S1 hl1 (st1.pushF rfl) hk
  · exact hk.elim⟩
theorem pd_or {rest : List Expr} (ha : PB X C a ta wa) (hb : PD X C (.BoolOp .Or (bx :: rest) pos) tb wb) : PD X C (.BoolOp .Or (a :: bx :: rest) pos) (tOrV ta tb) (wOrV wa wb) := ⟨pe_or ha.pe hb.pe, by
  intro ρ ρx σ σx H S k Q hl st hw q
  refine ha.ok ρ ρx σ σx H S _ _ hl st hw fun x ρ1 v H1 S1 hl1 st1 ok hk => ?_
  split at hk
  · rename_i c
    obtain rfl : v = .bl c := ok
    refine ⟨c, rfl, ?_⟩
    cases c with
    | true => exact q (.fz (.bl true)) ρ1 _ H1 S1 hl1 (st1.pushF rfl) hk
    | false => exact hb.ok ρ1 ρx σ σx H1 S1 k Q hl1 st1 hk q
  · exact hk.elim⟩
/-- not e as a value, by truth -/
def wNotV (w : WE) : WE := fun ρ k => w ρ fun x ρ1 => truP x fun b => k (.fz (.bl (!b))) ρ1
theorem pd_not (F : Fit X C) (h : PB X C e t w) : PD X C (.UnaryOp .Not e pos) (tNotT X.K t) (wNotV w) := ⟨pe_notT h.pe, by
  intro ρ ρx σ σx H S k Q hl st hw q
  refine h.ok ρ ρx σ σx H S _ _ hl st hw fun x ρ1 v H1 S1 hl1 st1 ok hk => ?_
  obtain ⟨b, h1, h2⟩ := tru_of ok hk
  rw [F.K] at h1
  exact ⟨b, h1, q (.fz (.bl (!b))) ρ1 _ H1 S1 hl1 (st1.pushF rfl) h2⟩⟩
/-- a < b < c -/
def wChain (p p' : P2) (wa wb wc : WE) : WE := fun ρ k => wa ρ fun x ρ1 => wb ρ1 fun y ρ2 => p (.fz x.toD) (.fz y.toD) fun z => match z with
  | .fz (.bl b) => if b = true then wc ρ2 fun u ρ3 => p' (.fz y.toD) u fun z' => k z' ρ3 else k (.fz (.bl false)) ρ2
  | _ => False
end
end Q

set_option autoImplicit false
set_option linter.all false
/-! Q2: operators, built-in functions -/
namespace Q
open PySem L2
section
variable {C : Cxt} {S : List Addr} {H : Hp} {v : V} {s : Sl}
theorem SlOk.non (h : SlOk C S H v s) (e : s.toD = .non) : v = .non := by cases s <;> cases e; exact h
theorem SlOk.bl {b : Bool} (h : SlOk C S H v s) (e : s.toD = .bl b) : v = .bl b := by cases s <;> cases e; exact h
theorem SlOk.int {i : Int} (h : SlOk C S H v s) (e : s.toD = .int i) : v = .int i := by cases s <;> cases e; exact h
theorem SlOk.str {x : Str} (h : SlOk C S H v s) (e : s.toD = .str x) : v = .str x := by cases s <;> cases e; exact h
theorem SlOk.lst {ds : List D} (h : SlOk C S H v s) (e : s.toD = .lst ds) : ∃ a xs, v = .ref a ∧ H a = some (.lst xs) ∧ xs.length ≤ 1000000 ∧ Rps C.B (hid S H) xs ds := by
  cases s with
  | fz d => cases e; obtain ⟨a, xs, h1, h2, h3, h4⟩ := h; exact ⟨a, xs, h1, (hid_some h2).2, h3, h4⟩
  | ol es => cases e; obtain ⟨a, xs, h1, _, _, h2, h3, h4⟩ := h; exact ⟨a, xs, h1, h2, h3, h4⟩
theorem SlOk.tup {ds : List D} (h : SlOk C S H v s) (e : s.toD = .tup ds) : ∃ a xs, v = .ref a ∧ SqT C.B.K H a xs ∧ xs.length ≤ 1000000 ∧ Rps C.B (hid S H) xs ds := by
  cases s with
  | fz d => cases e; obtain ⟨a, xs, h1, h2, h3, h4⟩ := h; exact ⟨a, xs, h1, sameT hid_same h2, h3, h4⟩
  | ol es => cases e
/-- .. in the heap as it stands -/
theorem SlOk.rp (h : SlOk C S H v s) : Rp C.B H v s.toD := by
  cases s with
  | fz d => exact Rp.same hid_same d h
  | ol ds => obtain ⟨a, xs, h1, _, _, h2, h3, h4⟩ := h; exact ⟨a, xs, h1, h2, h3, Rps.same hid_same ds h4⟩
end
theorem lim_line {n : Nat} (h : n ≤ 1000000) : n ≤ sizeLine := by rw [sizeLine_eq]; omega
theorem lim_lt {n : Nat} (h : n < 1000000) : n < sizeLine := by rw [sizeLine_eq]; omega
/-- the answer of an operator -/
abbrev Ans (C : Cxt) (ρ : Ev) (σ : St) (k : Sl → Prop) (Q : VK) : Prop := ∀ (s : Sl) (v : V) (H' : Hp) (S' : List Addr), Sta C (ρ ++ [some s]) (σ ++ [some v]) H' S' → k s → Q v H'
section
variable {C : Cxt} {ρ : Ev} {σ : St} {H : Hp} {S : List Addr} {k : Sl → Prop} {Q : VK}
theorem ans_int (st : Sta C ρ σ H S) (q : Ans C ρ σ k Q) {i : Int} (h : k (.fz (.int i))) : Q (.int i) H := q _ _ H S (st.pushF (d := .int i) rfl) h
theorem ans_bl (st : Sta C ρ σ H S) (q : Ans C ρ σ k Q) {i : Bool} (h : k (.fz (.bl i))) : Q (.bl i) H := q _ _ H S (st.pushF (d := .bl i) rfl) h
theorem ans_str (st : Sta C ρ σ H S) (q : Ans C ρ σ k Q) {i : Str} (h : k (.fz (.str i))) : Q (.str i) H := q _ _ H S (st.pushF (d := .str i) rfl) h
theorem ans_non (st : Sta C ρ σ H S) (q : Ans C ρ σ k Q) (h : k (.fz .non)) : Q .non H := q _ _ H S (st.pushF (d := .non) rfl) h
theorem ans_fz (st : Sta C ρ σ H S) (q : Ans C ρ σ k Q) {v : V} {d : D} (r : Rp C.B (hid S H) v d) (h : k (.fz d)) : Q v H := q _ _ H S (st.pushF r) h
theorem ans_ol (st : Sta C ρ σ H S) (q : Ans C ρ σ k Q) {xs : List V} {ds : List D} (hl : xs.length ≤ 1000000) (r : Rps C.B (hid S H) xs ds) (h : k (.ol ds)) (p : Addr) (hp : H p = none) : Q (.ref p) (upd H p (.lst xs)) :=
  q _ _ _ _ (st.pushL hp hl r) h
theorem ans_tup (st : Sta C ρ σ H S) (q : Ans C ρ σ k Q) {xs : List V} {ds : List D} (hl : xs.length ≤ 1000000) (r : Rps C.B (hid S H) xs ds) (h : k (.fz (.tup ds))) (p : Addr) (hp : H p = none) : Q (.ref p) (upd H p (.tup xs)) := by
  refine q (.fz (.tup ds)) _ _ _ ((st.new hp).pushF (d := .tup ds) ⟨p, xs, rfl, SqT.of ?_, hl, Rps.same (hid_new hp) ds r⟩) h
  rw [hid_ne (st.notS hp), upd_same]
end

/-! ### + - * // % ** - -/
def pAdd : P2 := fun x y k => match x.toD, y.toD with
  | .int i, .int j => k (.fz (.int (i + j)))
  | .str a, .str b => a.length + b.length ≤ sizeLine ∧ k (.fz (.str (a ++ b)))
  | .lst xs, .lst ys => xs.length + ys.length ≤ 1000000 ∧ k (.ol (xs ++ ys))
  | .tup xs, .tup ys => xs.length + ys.length ≤ 1000000 ∧ k (.fz (.tup (xs ++ ys)))
  | _, _ => False
def rAddA (K : PySem.W.Frag) : R2 := fun x y H Q => rI0 (fun i j => .int (i + j)) x y H Q ∨ (∃ i j, x = .str i ∧ y = .str j ∧ i.length + j.length ≤ sizeLine ∧ Q (.str (i ++ j)) H) ∨ rCat x y H Q ∨ rCatA K x y H Q
theorem op_addA {X : Cx} : OpR X (binaryOp .Add) (rAddA X.K) := op_add.or (op_add_str.or (op_cat.or op_catA))
theorem l_add {X : Cx} {C : Cxt} (F : Fit X C) : Lift2 C (rAddA X.K) pAdd := by
  intro ρ σ H S x y vx vy k Q st ox oy h q
  unfold pAdd at h
  split at h
  · rename_i i j e1 e2
    exact .inl ⟨i, j, ox.int e1, oy.int e2, ans_int st q h⟩
  · rename_i a b e1 e2
    exact .inr (.inl ⟨a, b, ox.str e1, oy.str e2, h.1, ans_str st q h.2⟩)
  · rename_i xs ys e1 e2
    obtain ⟨a, us, rfl, h1, h2, h3⟩ := ox.lst e1
    obtain ⟨b, ws, rfl, g1, g2, g3⟩ := oy.lst e2
    have l1 := h3.len
    have l2 := g3.len
    refine .inr (.inr (.inl ⟨a, b, us, ws, rfl, rfl, h1, g1, lim_line (by omega), fun p hp => ?_⟩))
    exact ans_ol st q (by rw [List.length_append]; omega) (h3.app g3) h.2 p hp
  · rename_i xs ys e1 e2
    obtain ⟨a, us, rfl, h1, h2, h3⟩ := ox.tup e1
    obtain ⟨b, ws, rfl, g1, g2, g3⟩ := oy.tup e2
    have l1 := h3.len
    have l2 := g3.len
    rw [F.K] at h1 g1
    refine .inr (.inr (.inr ⟨a, b, us, ws, rfl, rfl, h1, g1, lim_line (by omega), fun z => ?_, fun z z' => ?_, fun z z' p hp => ?_⟩))
    · subst z
      have : xs = [] := List.eq_nil_of_length_eq_zero (by simpa using l1.symm)
      subst this
      cases y with
      | ol _ => cases e2
      | fz d => cases e2; exact ans_fz st q oy h.2
    · subst z'
      have : ys = [] := List.eq_nil_of_length_eq_zero (by simpa using l2.symm)
      subst this
      rw [List.append_nil] at h
      cases x with
      | ol _ => cases e1
      | fz d => cases e1; exact ans_fz st q ox h.2
    · exact ans_tup st q (by rw [List.length_append]; omega) (h3.app g3) h.2 p hp
  · exact h.elim
def pI2 (P : Int → Int → Prop) (g : Int → Int → D) : P2 := fun x y k => match x.toD, y.toD with
  | .int i, .int j => P i j ∧ k (.fz (g i j))
  | _, _ => False
theorem l_I {C : Cxt} {P P' : Int → Int → Prop} {g : Int → Int → Int} (hp : ∀ i j, P i j → P' i j) : Lift2 C (rI P' fun i j => .int (g i j)) (pI2 P fun i j => .int (g i j)) := by
  intro ρ σ H S x y vx vy k Q st ox oy h q
  unfold pI2 at h
  split at h
  · rename_i i j e1 e2
    exact ⟨i, j, ox.int e1, oy.int e2, hp _ _ h.1, ans_int st q h.2⟩
  · exact h.elim
def pSub : P2 := fun x y k => match x.toD, y.toD with
  | .int i, .int j => k (.fz (.int (i - j)))
  | _, _ => False
theorem l_sub {C : Cxt} : Lift2 C (rI0 fun i j => .int (i - j)) pSub := by
  intro ρ σ H S x y vx vy k Q st ox oy h q
  unfold pSub at h
  split at h
  · rename_i i j e1 e2
    exact ⟨i, j, ox.int e1, oy.int e2, ans_int st q h⟩
  · exact h.elim
/-- a product: numbers together below 2 ^ 27 bits; a list some times -/
def pMul : P2 := fun x y k => match x.toD, y.toD with
  | .int i, .int j => CMulX i j ∧ k (.fz (.int (i * j)))
  | .lst xs, .int j => (j < 2 ^ 62 ∧ -(2 ^ 62) < j) ∧ xs.length * j.toNat ≤ 1000000 ∧ k (.ol (List.replicate j.toNat xs).flatten)
  | _, _ => False
theorem op_mulA {X : Cx} : OpR X (binaryOp .Mult) (fun x y H Q => rI CMulX (fun i j => .int (i * j)) x y H Q ∨ rRep x y H Q) := op_mulX.or op_rep
theorem l_mul {C : Cxt} : Lift2 C (fun x y H Q => rI CMulX (fun i j => .int (i * j)) x y H Q ∨ rRep x y H Q) pMul := by
  intro ρ σ H S x y vx vy k Q st ox oy h q
  unfold pMul at h
  split at h
  · rename_i i j e1 e2
    exact .inl ⟨i, j, ox.int e1, oy.int e2, h.1, ans_int st q h.2⟩
  · rename_i xs j e1 e2
    obtain ⟨a, us, rfl, h1, h2, h3⟩ := ox.lst e1
    obtain rfl := oy.int e2
    have l1 := h3.len
    have e : us.length * j.toNat ≤ 1000000 := by rw [l1]; exact h.2.1
    refine .inr ⟨a, j, us, rfl, rfl, h1, by omega, by omega, lim_line e, fun p hp => ?_⟩
    refine ans_ol st q ?_ (h3.rep _) h.2.2 p hp
    rw [List.length_flatten, List.map_replicate, List.sum_replicate_nat, Nat.mul_comm]
    exact e
  · exact h.elim
/-- // by any divisor below 2 ^ 9000 in size -/
def DivOk (j : Int) : Prop := j ≠ 0 ∧ j.natAbs.log2 < 9000
theorem noPy {j : Int} (h : DivOk j) : ∀ i : Int, Builtin.divisionGoesByPylong i j = false := fun i => PyProof.noPylong_of_log2 h.2
theorem op_fdivA {X : Cx} : OpR X (binaryOp .FloorDiv) (rI (fun _ j => DivOk j) fun i j => .int (i.fdiv j)) := opI fun i j _ _ _ _ _ hc q => PyProof.Rows.floordiv_int hc.1 q (.inl (PyProof.noPylong_of_log2 hc.2))
abbrev pFdiv : P2 := pI2 (fun _ j => DivOk j) fun i j => .int (i.fdiv j)
theorem l_fdiv {C : Cxt} : Lift2 C (rI (fun _ j => DivOk j) fun i j => .int (i.fdiv j)) pFdiv := l_I fun _ _ h => h
abbrev pMod : P2 := pI2 (fun _ j => j ≠ 0) fun i j => .int (i.fmod j)
theorem l_mod {C : Cxt} : Lift2 C (rI (fun _ j => j ≠ 0) fun i j => .int (i.fmod j)) pMod := l_I fun _ _ h => h
abbrev pPow : P2 := pI2 CPow fun i j => .int (i ^ j.toNat)
theorem l_pow {C : Cxt} : Lift2 C (rI CPow fun i j => .int (i ^ j.toNat)) pPow := l_I fun _ _ h => h
def pNeg : P1 := fun x k => match x.toD with
  | .int i => k (.fz (.int (-i)))
  | _ => False
theorem l_neg {C : Cxt} : Lift1 C (rU fun i => .int (-i)) pNeg := by
  intro ρ σ H S x vx k Q st ox h q
  unfold pNeg at h
  split at h
  · rename_i i e
    exact ⟨i, ox.int e, ans_int st q h⟩
  · exact h.elim

/-! ### comparisons -/
/-- of numbers or of texts -/
def pOrd (f : Int → Int → Bool) (g : List Nat → List Nat → Bool) : P2 := fun x y k => match x.toD, y.toD with
  | .int i, .int j => k (.fz (.bl (f i j)))
  | .str a, .str b => k (.fz (.bl (g a.cps.toList b.cps.toList)))
  | _, _ => False
def rOrd (f : Int → Int → Bool) (g : List Nat → List Nat → Bool) : R2 := fun x y H Q => rI0 (fun i j => .bl (f i j)) x y H Q ∨ ∃ i j, x = .str i ∧ y = .str j ∧ Q (.bl (g i.cps.toList j.cps.toList)) H
theorem l_ord {C : Cxt} {f : Int → Int → Bool} {g : List Nat → List Nat → Bool} : Lift2 C (rOrd f g) (pOrd f g) := by
  intro ρ σ H S x y vx vy k Q st ox oy h q
  unfold pOrd at h
  split at h
  · rename_i i j e1 e2
    exact .inl ⟨i, j, ox.int e1, oy.int e2, ans_bl st q h⟩
  · rename_i a b e1 e2
    exact .inr ⟨a, b, ox.str e1, oy.str e2, ans_bl st q h⟩
  · exact h.elim
abbrev fLt (i j : Int) : Bool := decide (i < j)
abbrev fLe (i j : Int) : Bool := decide (i ≤ j)
abbrev fGt (i j : Int) : Bool := decide (j < i)
abbrev fGe (i j : Int) : Bool := decide (j ≤ i)
abbrev gLt (i j : List Nat) : Bool := decide (i < j)
abbrev gLe (i j : List Nat) : Bool := !decide (j < i)
abbrev gGt (i j : List Nat) : Bool := decide (j < i)
abbrev gGe (i j : List Nat) : Bool := !decide (i < j)
abbrev pLt : P2 := pOrd fLt gLt
abbrev pLe : P2 := pOrd fLe gLe
abbrev pGt : P2 := pOrd fGt gGt
abbrev pGe : P2 := pOrd fGe gGe
theorem op_ltA {X : Cx} : OpR X (compareOp .Lt) (rOrd fLt gLt) := op_lt.or op_lt_str
theorem op_leA {X : Cx} : OpR X (compareOp .LtE) (rOrd fLe gLe) := op_le.or op_le_str
theorem op_gtA {X : Cx} : OpR X (compareOp .Gt) (rOrd fGt gGt) := op_gt.or op_gt_str
theorem op_geA {X : Cx} : OpR X (compareOp .GtE) (rOrd fGe gGe) := op_ge.or op_ge_str
mutual
/-- data without objects, dicts, other values -/
def plain : D → Bool
  | .non => true
  | .bl _ => true
  | .int _ => true
  | .str x => PyData.strOk x
  | .lst ds => plains ds
  | .tup ds => plains ds
  | _ => false
def plains : List D → Bool
  | [] => true
  | d :: ds => plain d && plains ds
end
mutual
def dep : D → Nat
  | .lst ds => depL ds + 1
  | .tup ds => depL ds + 1
  | _ => 0
def depL : List D → Nat
  | [] => 0
  | d :: ds => max (dep d) (depL ds)
end
mutual
def toP : D → PyData
  | .bl b => .bool b
  | .int i => .int i
  | .str x => .str x
  | .lst ds => .list (toPs ds)
  | .tup ds => .tuple (toPs ds)
  | _ => .none
def toPs : List D → List PyData
  | [] => []
  | d :: ds => toP d :: toPs ds
end
mutual
theorem dp_of {B : Bk} {H : Hp} : ∀ {v : V} (d : D), Rp B H v d → plain d = true → Dp B.K H v (toP d)
  | _, .non, h, _ => by rw [show _ = V.non from h]; exact .non
  | _, .bl _, h, _ => by rw [show _ = V.bl _ from h]; exact .bl _
  | _, .int _, h, _ => by rw [show _ = V.int _ from h]; exact .int _
  | _, .str _, h, _ => by rw [show _ = V.str _ from h]; exact .str _
  | _, .lst ds, h, p => by obtain ⟨a, xs, rfl, h2, _, h4⟩ := h; exact .lst (SqL.of h2) (dps_of ds h4 p)
  | _, .tup ds, h, p => by obtain ⟨a, xs, rfl, h2, _, h4⟩ := h; exact .tup h2 (dps_of ds h4 p)
  | _, .raw _, _, p => by cases p
  | _, .bag, _, p => by cases p
  | _, .obj _ _ _, _, p => by cases p
  | _, .dic _ _, _, p => by cases p
theorem dps_of {B : Bk} {H : Hp} : ∀ {xs : List V} (ds : List D), Rps B H xs ds → plains ds = true → DpAll B.K H xs (toPs ds)
  | _, [], h, _ => by rw [show _ = [] from h]; exact .nil
  | _, d :: ds, h, p => by
    obtain ⟨x, r, rfl, h2, h3⟩ := h
    have p : (plain d && plains ds) = true := p
    rw [Bool.and_eq_true] at p
    exact .cons (dp_of d h2 p.1) (dps_of ds h3 p.2)
end
mutual
theorem lay_of : ∀ (d : D), plain d = true → (toP d).canLay0 = true
  | .non, _ => rfl
  | .bl _, _ => rfl
  | .int _, _ => rfl
  | .str _, p => p
  | .lst ds, p => by show PyData.canLay0 (.list (toPs ds)) = true; unfold PyData.canLay0; exact lays_of ds p
  | .tup ds, p => by show PyData.canLay0 (.tuple (toPs ds)) = true; unfold PyData.canLay0; exact lays_of ds p
  | .raw _, p => by cases p
  | .bag, p => by cases p
  | .obj _ _ _, p => by cases p
  | .dic _ _, p => by cases p
theorem lays_of : ∀ (ds : List D), plains ds = true → PyData.canLayAll0 (toPs ds) = true
  | [], _ => rfl
  | d :: ds, p => by
    have p : (plain d && plains ds) = true := p
    rw [Bool.and_eq_true] at p
    show PyData.canLayAll0 (toP d :: toPs ds) = true
    unfold PyData.canLayAll0
    rw [lay_of d p.1, lays_of ds p.2]
    rfl
end
mutual
theorem pdep_of : ∀ (d : D), (toP d).depth = dep d
  | .non => rfl
  | .bl _ => rfl
  | .int _ => rfl
  | .str _ => rfl
  | .lst ds => by show PyData.depth (.list (toPs ds)) = depL ds + 1; unfold PyData.depth; rw [pdeps_of ds]
  | .tup ds => by show PyData.depth (.tuple (toPs ds)) = depL ds + 1; unfold PyData.depth; rw [pdeps_of ds]
  | .raw _ => rfl
  | .bag => rfl
  | .obj _ _ _ => rfl
  | .dic _ _ => rfl
theorem pdeps_of : ∀ (ds : List D), PyData.depthAll (toPs ds) = depL ds
  | [] => rfl
  | d :: ds => by show PyData.depthAll (toP d :: toPs ds) = max (dep d) (depL ds); unfold PyData.depthAll; rw [pdep_of d, pdeps_of ds]
end
def okD (d : D) : Prop := plain d = true ∧ dep d ≤ 60
theorem shaped_of {d : D} (h : okD d) : SeqAt.shaped (toP d) = true := by
  unfold SeqAt.shaped
  rw [lay_of d h.1, pdep_of, decide_eq_true (by have := h.2; omega)]
  rfl
def eqD (x y : D) : Bool := PyData.eqv (toP x) (toP y)
/-- what == takes as it is -/
def scalD : D → D → Bool
  | .non, .non => true | .non, .int _ => true | .int _, .non => true | .non, .bl _ => true | .bl _, .non => true | .non, .str _ => true | .str _, .non => true
  | .int _, .int _ => true | .bl _, .bl _ => true | .str _, .str _ => true
  | .int _, .str _ => true | .str _, .int _ => true | .bl _, .str _ => true | .str _, .bl _ => true
  | _, _ => false
def pEqF (f : Bool → Bool) : P2 := fun x y k => (scalD x.toD y.toD = false → okD x.toD ∧ okD y.toD) ∧ k (.fz (.bl (f (eqD x.toD y.toD))))
abbrev pEq : P2 := pEqF id
abbrev pNe : P2 := pEqF not
theorem SlOk.dp {C : Cxt} {S : List Addr} {H : Hp} {v : V} {s : Sl} (h : SlOk C S H v s) (p : okD s.toD) : Dp C.B.K H v (toP s.toD) := dp_of _ h.rp p.1
theorem scal_V {B : Bk} {H : Hp} {v u : V} {d e : D} (h : Rp B H v d) (g : Rp B H u e) (z : scalD d e = true) : scal v u = true ∧ decide (v = u) = eqD d e := by
  cases d <;> first
    | (cases z; done)
    | (unfold Rp at h
       subst h
       cases e <;> first
         | (cases z; done)
         | (unfold Rp at g
            subst g
            refine ⟨rfl, ?_⟩
            simp only [eqD, toP, PyData.eqv]
            first
              | rfl
              | (simp; done)
              | exact (Bool.beq_eq_decide_eq _ _).symm
              | (rw [Bool.eq_iff_iff]; simp; done))
         | skip)
    | skip
def rEqA (K : PySem.W.Frag) : R2 := fun x y H Q => rEq x y H Q ∨ rEqD K x y H Q
def rNeA (K : PySem.W.Frag) : R2 := fun x y H Q => rNe x y H Q ∨ rNeD K x y H Q
theorem op_eqA {X : Cx} (hu : X.A.units + 64 < cLine) : OpR X (compareOp .Eq) (rEqA X.K) := op_eq.or (op_eqD hu)
theorem op_neA {X : Cx} (hu : X.A.units + 64 < cLine) : OpR X (compareOp .NotEq) (rNeA X.K) := op_ne.or (op_neD hu)
theorem l_eq {X : Cx} {C : Cxt} (F : Fit X C) : Lift2 C (rEqA X.K) pEq := by
  intro ρ σ H S x y vx vy k Q st ox oy h q
  rw [← F.K]
  cases z : scalD x.toD y.toD with
  | true =>
    obtain ⟨z1, z2⟩ := scal_V ox.rp oy.rp z
    exact .inl ⟨z1, by rw [z2]; exact ans_bl st q h.2⟩
  | false =>
    obtain ⟨h1, h2⟩ := h.1 z
    exact .inr ⟨_, _, ox.dp h1, oy.dp h2, shaped_of h1, shaped_of h2, ans_bl st q h.2⟩
theorem l_ne {X : Cx} {C : Cxt} (F : Fit X C) : Lift2 C (rNeA X.K) pNe := by
  intro ρ σ H S x y vx vy k Q st ox oy h q
  rw [← F.K]
  cases z : scalD x.toD y.toD with
  | true =>
    obtain ⟨z1, z2⟩ := scal_V ox.rp oy.rp z
    exact .inl ⟨z1, by rw [z2]; exact ans_bl st q h.2⟩
  | false =>
    obtain ⟨h1, h2⟩ := h.1 z
    exact .inr ⟨_, _, ox.dp h1, oy.dp h2, shaped_of h1, shaped_of h2, ans_bl st q h.2⟩
/-- in a list of data, in a tuple of scalars, a sign in a text -/
def D.flat : D → Bool
  | .non => true
  | .bl _ => true
  | .int _ => true
  | .str _ => true
  | _ => false
def inD (x : D) (ds : List D) : Bool := ds.any fun z => eqD z x
def pIn (f : Bool → Bool) : P2 := fun x y k => match y.toD with
  | .lst ds => okD x.toD ∧ okD (.lst ds) ∧ k (.fz (.bl (f (inD x.toD ds))))
  | .tup ds => x.toD.flat = true ∧ ds.all D.flat = true ∧ k (.fz (.bl (f (inD x.toD ds))))
  | .str z => match x.toD with
    | .str c => c.length = 1 ∧ k (.fz (.bl (f (decide (c.cps.getD 0 0 ∈ z.cps.toList)))))
    | _ => False
  | _ => False
theorem toPs_map : ∀ ds : List D, toPs ds = ds.map toP
  | [] => rfl
  | d :: ds => by rw [toPs, toPs_map ds]; rfl
theorem flat_V {B : Bk} {H : Hp} {v : V} {d : D} (h : Rp B H v d) (f : d.flat = true) : flatV v = true := by
  cases d <;> first
    | (cases f; done)
    | (unfold Rp at h
       subst h
       rfl)
theorem flats_V {B : Bk} {H : Hp} : ∀ {xs : List V} {ds : List D}, Rps B H xs ds → ds.all D.flat = true → xs.all flatV = true
  | _, [], h, _ => by rw [show _ = [] from h]; rfl
  | _, d :: ds, h, f => by
    obtain ⟨x, r, rfl, h2, h3⟩ := h
    rw [List.all_cons, Bool.and_eq_true] at f
    rw [List.all_cons, flat_V h2 f.1, flats_V h3 f.2]
    rfl
theorem eqV_D {B : Bk} {H : Hp} {v u : V} {d e : D} (h : Rp B H v d) (g : Rp B H u e) (f : d.flat = true) (f' : e.flat = true) : eqV v u = eqD d e := by
  cases d <;> first
    | (cases f; done)
    | (unfold Rp at h
       subst h
       cases e <;> first
         | (cases f'; done)
         | (unfold Rp at g
            subst g
            simp only [eqD, toP, PyData.eqv, eqV]))
theorem inV_D {B : Bk} {H : Hp} {v : V} {d : D} (h : Rp B H v d) (f : d.flat = true) : ∀ {xs : List V} {ds : List D}, Rps B H xs ds → ds.all D.flat = true → inV v xs = inD d ds
  | _, [], g, _ => by rw [show _ = [] from g]; rfl
  | _, e :: ds, g, f' => by
    obtain ⟨x, r, rfl, h2, h3⟩ := g
    rw [List.all_cons, Bool.and_eq_true] at f'
    show (eqV x v || inV v r) = (eqD e d || inD d ds)
    rw [eqV_D h2 h f'.1 f, inV_D h f h3 f'.2]
end Q

set_option autoImplicit false
set_option linter.all false
/-! Q3: in, is, subscripts, slices, built-in functions, methods of texts -/
namespace Q
open PySem L2
/-! ### in, is -/
def rInA (K : PySem.W.Frag) : R2 := fun x y H Q => rInD K x y H Q ∨ rIn K false x y H Q ∨ ∃ (c : Nat) (z : Str), x = .str ⟨#[c]⟩ ∧ y = .str z ∧ Q (.bl (decide (c ∈ z.cps.toList))) H
def rNotInA (K : PySem.W.Frag) : R2 := fun x y H Q => rNotInD K x y H Q ∨ rIn K true x y H Q ∨ ∃ (c : Nat) (z : Str), x = .str ⟨#[c]⟩ ∧ y = .str z ∧ Q (.bl (!decide (c ∈ z.cps.toList))) H
theorem op_inA {X : Cx} (hu : X.A.units + 65 < cLine) : OpR X (compareOp .In) (rInA X.K) := (op_inD hu).or (op_in_seq.or op_in_sign)
theorem op_notInA {X : Cx} (hu : X.A.units + 65 < cLine) : OpR X (compareOp .NotIn) (rNotInA X.K) := (op_notInD hu).or (op_notIn_seq.or op_notIn_sign)
theorem any_toPs (d : D) : ∀ ds : List D, (toPs ds).any (fun z => PyData.eqv z (toP d)) = inD d ds
  | [] => rfl
  | e :: ds => by
    show (PyData.eqv (toP e) (toP d) || (toPs ds).any _) = (eqD e d || inD d ds)
    rw [any_toPs d ds]
    rfl
theorem sign_of {c : Str} (h : c.length = 1) : c = ⟨#[c.cps.getD 0 0]⟩ := by
  obtain ⟨⟨l⟩⟩ := c
  cases l with
  | nil => cases h
  | cons x l =>
    cases l with
    | nil => rfl
    | cons y l =>
      exfalso
      have : (x :: y :: l).length = 1 := h
      simp at this
theorem l_in {X : Cx} {C : Cxt} (F : Fit X C) : Lift2 C (rInA X.K) (pIn id) := by
  intro ρ σ H S x y vx vy k Q st ox oy h q
  rw [← F.K]
  unfold pIn at h
  split at h
  · rename_i ds e
    refine .inl ⟨toP x.toD, toPs ds, ox.dp h.1, ?_, shaped_of h.1, ?_, ?_⟩
    · have := oy.dp (e ▸ h.2.1); rw [e] at this; exact this
    · exact shaped_of (d := .lst ds) h.2.1
    · rw [any_toPs]; exact ans_bl st q h.2.2
  · rename_i ds e
    obtain ⟨b, us, rfl, g1, g2, g3⟩ := oy.tup e
    refine .inr (.inl ⟨b, us, rfl, .inr g1, flat_V ox.rp h.1, flats_V g3 h.2.1, ?_⟩)
    rw [inV_D (Rp.same (hid_same (S := [])) _ (by rw [show hid [] H = H from by funext a; rfl]; exact ox.rp)) h.1 (Rps.same hid_same _ g3) h.2.1]
    exact ans_bl st q h.2.2
  · rename_i z e
    split at h
    · rename_i c e'
      rw [ox.str e', oy.str e]
      refine .inr (.inr ⟨c.cps.getD 0 0, z, congrArg V.str (sign_of h.1), rfl, ans_bl st q h.2⟩)
    · exact h.elim
  · exact h.elim
theorem l_notIn {X : Cx} {C : Cxt} (F : Fit X C) : Lift2 C (rNotInA X.K) (pIn not) := by
  intro ρ σ H S x y vx vy k Q st ox oy h q
  rw [← F.K]
  unfold pIn at h
  split at h
  · rename_i ds e
    refine .inl ⟨toP x.toD, toPs ds, ox.dp h.1, ?_, shaped_of h.1, ?_, ?_⟩
    · have := oy.dp (e ▸ h.2.1); rw [e] at this; exact this
    · exact shaped_of (d := .lst ds) h.2.1
    · rw [any_toPs]; exact ans_bl st q h.2.2
  · rename_i ds e
    obtain ⟨b, us, rfl, g1, g2, g3⟩ := oy.tup e
    refine .inr (.inl ⟨b, us, rfl, .inr g1, flat_V ox.rp h.1, flats_V g3 h.2.1, ?_⟩)
    rw [inV_D (Rp.same (hid_same (S := [])) _ (by rw [show hid [] H = H from by funext a; rfl]; exact ox.rp)) h.1 (Rps.same hid_same _ g3) h.2.1]
    exact ans_bl st q h.2.2
  · rename_i z e
    split at h
    · rename_i c e'
      rw [ox.str e', oy.str e]
      refine .inr (.inr ⟨c.cps.getD 0 0, z, congrArg V.str (sign_of h.1), rfl, ans_bl st q h.2⟩)
    · exact h.elim
  · exact h.elim
def isNon : D → Bool
  | .non => true
  | _ => false
def D.told : D → Bool
  | .raw _ => false
  | _ => true
def pIs (f : Bool → Bool) : P2 := fun x y k => match y.toD with
  | .non => x.toD.told = true ∧ k (.fz (.bl (f (isNon x.toD))))
  | .bl b => match x.toD with
    | .bl a => k (.fz (.bl (f (decide (a = b)))))
    | _ => False
  | _ => False
theorem non_V {B : Bk} {H : Hp} {v : V} {d : D} (h : Rp B H v d) (t : d.told = true) : decide (v = .non) = isNon d := by
  cases d with
  | raw _ => cases t
  | non => rw [show v = _ from h]; rfl
  | bl _ => rw [show v = _ from h]; rfl
  | int _ => rw [show v = _ from h]; rfl
  | str _ => rw [show v = _ from h]; rfl
  | bag => rw [show v = _ from h]; rfl
  | lst _ => obtain ⟨a, _, rfl, _⟩ := h; rfl
  | tup _ => obtain ⟨a, _, rfl, _⟩ := h; rfl
  | obj _ _ _ => obtain ⟨a, _, _, _, rfl, _⟩ := h; rfl
  | dic _ _ => obtain ⟨a, _, rfl, _⟩ := h; rfl
def rIsA : R2 := fun x y H Q => (y = .non ∧ Q (.bl (decide (x = .non))) H) ∨ rIsB x y H Q
def rNotIsA : R2 := fun x y H Q => (y = .non ∧ Q (.bl (!decide (x = .non))) H) ∨ rNotB x y H Q
theorem op_isA {X : Cx} : OpR X (compareOp .Is) rIsA := op_isN.or op_isBl
theorem op_isNotA {X : Cx} : OpR X (compareOp .IsNot) rNotIsA := op_notN.or op_notBl
theorem l_is {C : Cxt} : Lift2 C rIsA (pIs id) := by
  intro ρ σ H S x y vx vy k Q st ox oy h q
  unfold pIs at h
  split at h
  · rename_i e
    refine .inl ⟨oy.non e, ?_⟩
    rw [non_V ox.rp h.1]
    exact ans_bl st q h.2
  · rename_i b e
    split at h
    · rename_i a e'
      exact .inr ⟨a, b, ox.bl e', oy.bl e, ans_bl st q h⟩
    · exact h.elim
  · exact h.elim
theorem l_isNot {C : Cxt} : Lift2 C rNotIsA (pIs not) := by
  intro ρ σ H S x y vx vy k Q st ox oy h q
  unfold pIs at h
  split at h
  · rename_i e
    refine .inl ⟨oy.non e, ?_⟩
    rw [non_V ox.rp h.1]
    exact ans_bl st q h.2
  · rename_i b e
    split at h
    · rename_i a e'
      exact .inr ⟨a, b, ox.bl e', oy.bl e, ans_bl st q h⟩
    · exact h.elim
  · exact h.elim

/-! ### subscripts, slices -/
def pIx : P2 := fun x y k => match x.toD, y.toD with
  | .lst ds, .int i => ∃ d, atI ds i = some d ∧ k (.fz d)
  | .tup ds, .int i => ∃ d, atI ds i = some d ∧ k (.fz d)
  | .str z, .int i => z.length ≤ sizeLine ∧ ∃ c, atI z.cps.toList i = some c ∧ k (.fz (.str ⟨#[c]⟩))
  | _, _ => False
theorem atI_of {B : Bk} {H : Hp} {xs : List V} {ds : List D} {i : Int} {d : D} (r : Rps B H xs ds) (h : atI ds i = some d) : ∃ x, atI xs i = some x ∧ Rp B H x d := by
  unfold atI at *
  rw [r.len]
  cases e : ixN ds.length i with
  | none => rw [e] at h; cases h
  | some j =>
    rw [e] at h
    exact r.of h
theorem l_ix {X : Cx} {C : Cxt} (F : Fit X C) : Lift2 C (rIx X.K) pIx := by
  intro ρ σ H S x y vx vy k Q st ox oy h q
  rw [← F.K]
  unfold pIx at h
  split at h
  · rename_i ds i e1 e2
    obtain ⟨d, h1, h2⟩ := h
    obtain ⟨a, us, rfl, g1, _, g3⟩ := ox.lst e1
    obtain ⟨u, u1, u2⟩ := atI_of g3 h1
    exact .inl ⟨a, us, i, u, rfl, oy.int e2, SqL.of g1, u1, ans_fz st q u2 h2⟩
  · rename_i ds i e1 e2
    obtain ⟨d, h1, h2⟩ := h
    obtain ⟨a, us, rfl, g1, _, g3⟩ := ox.tup e1
    obtain ⟨u, u1, u2⟩ := atI_of g3 h1
    exact .inr (.inl ⟨a, us, i, u, rfl, oy.int e2, g1, u1, ans_fz st q u2 h2⟩)
  · rename_i z i e1 e2
    obtain ⟨h0, c, h1, h2⟩ := h
    exact .inr (.inr ⟨z, i, c, ox.str e1, oy.int e2, h0, h1, ans_str st q h2⟩)
  · exact h.elim
/-- a part of a slice: nothing, or a number -/
structure QO (X : Cx) (C : Cxt) (e : Option Expr) (t : TO) (w : Ev → (Option Int → Ev → Prop) → Prop) : Prop where
  po : PO X e t
  ok : ∀ (ρ ρx : Ev) (σ σx : St) (H : Hp) (S : List Addr) (k : Option Int → Ev → Prop) (Q : Option Int → Hp → Prop), ρ.length = σ.length → Sta C (ρ ++ ρx) (σ ++ σx) H S → w ρ k →
    (∀ (o : Option Int) (ρ' : Ev) (H' : Hp) (S' : List Addr), ρ'.length = σ.length → Sta C (ρ' ++ ρx) (σ ++ σx) H' S' → k o ρ' → Q o H') → t σ H Q
section
variable {X : Cx} {C : Cxt} {e a bx : Expr} {t ta tb : TE} {w wa wb : WE} {pos : Pos}
theorem qo_none : QO X C none tNoPart (fun ρ k => k none ρ) := ⟨po_none, fun ρ ρx σ σx H S k Q hl st hw q => q none ρ H S hl st hw⟩
def wPart (w : WE) : Ev → (Option Int → Ev → Prop) → Prop := fun ρ k => w ρ fun x ρ1 => match x.toD with
  | .int i => k (some i) ρ1
  | _ => False
theorem qo_some (h : PB X C e t w) : QO X C (some e) (tPart t) (wPart w) := ⟨po_some h.pe, by
  intro ρ ρx σ σx H S k Q hl st hw q
  refine h.ok ρ ρx σ σx H S _ _ hl st hw fun x ρ1 v H1 S1 hl1 st1 ok hk => ?_
  split at hk
  · rename_i i e
    exact ⟨i, ok.int e, q (some i) ρ1 H1 S1 hl1 st1 hk⟩
  · exact hk.elim⟩
/-- x[lo:hi] -/
def pSl (x : Sl) (lo hi : Option Int) (k : Sl → Prop) : Prop := match x.toD with
  | .lst ds => k (.ol (cutD ds lo hi))
  | .tup ds => k (.fz (.tup (cutD ds lo hi)))
  | .str z => z.length ≤ sizeLine ∧ k (.fz (.str (cutS z lo hi)))
  | _ => False
def rSlAll (K : PySem.W.Frag) : V → Option Int → Option Int → Hp → VK → Prop := fun x lo hi H Q => rSlL K x lo hi H Q ∨ rSlA K x lo hi H Q ∨ rSlS x lo hi H Q
theorem sl_all : SlR X (rSlAll X.K) := sl_list.or (sl_tupA.or sl_str)
theorem cut_whole {ds : List D} {lo hi : Option Int} (h : HT.sIx ds.length 0 lo = 0 ∧ HT.sIx ds.length ds.length hi = ds.length) : cutD ds lo hi = ds := by
  unfold cutD
  rw [h.1, h.2, List.drop_zero, Nat.sub_zero, List.take_length]
theorem l_sl (F : Fit X C) {ρ : Ev} {σ : St} {H : Hp} {S : List Addr} {x : Sl} {vx : V} {lo hi : Option Int} {k : Sl → Prop} {Q : VK} (st : Sta C ρ σ H S) (ox : SlOk C S H vx x) (h : pSl x lo hi k) (q : Ans C ρ σ k Q) : rSlAll X.K vx lo hi H Q := by
  rw [← F.K]
  unfold pSl at h
  split at h
  · rename_i ds e
    obtain ⟨a, us, rfl, g1, g2, g3⟩ := ox.lst e
    exact .inl ⟨a, us, rfl, SqL.of g1, fun p hp => ans_ol st q (Nat.le_trans (cutV_length _ _ _) g2) (g3.cut lo hi) h p hp⟩
  · rename_i ds e
    obtain ⟨a, us, rfl, g1, g2, g3⟩ := ox.tup e
    refine .inr (.inl ⟨a, us, rfl, g1, fun z => ?_, fun _ p hp => ?_⟩)
    · rw [g3.len] at z
      rw [cut_whole z] at h
      cases x with
      | ol _ => cases e
      | fz d => cases e; exact ans_fz st q ox h
    · exact ans_tup st q (Nat.le_trans (cutV_length _ _ _) g2) (g3.cut lo hi) h p hp
  · rename_i z e
    exact .inr (.inr ⟨z, ox.str e, h.1, ans_str st q h.2⟩)
  · exact h.elim
def wSl (w : WE) (wl wh : Ev → (Option Int → Ev → Prop) → Prop) : WE := fun ρ k => w ρ fun x ρ1 => wl ρ1 fun lo ρ2 => wh ρ2 fun hi ρ3 => pSl (.fz x.toD) lo hi fun z => k z ρ3
theorem pd_sl {lo hi : Option Expr} {tl th : TO} {wl wh : Ev → (Option Int → Ev → Prop) → Prop} {p2 : Pos} (F : Fit X C) (he : PD X C e t w) (hl : QO X C lo tl wl) (hh : QO X C hi th wh) : PD X C (.Subscript e (.Slice lo hi none p2) pos) (tSl (rSlAll X.K) t tl th) (wSl w wl wh) := ⟨pe_slice sl_all he.pe hl.po hh.po, by
  intro ρ ρx σ σx H S k Q hlen st hw q
  refine he.ok ρ ρx σ σx H S _ _ hlen st hw fun x ρ1 vx H1 S1 hl1 st1 hw1 => ?_
  obtain ⟨S1', st1⟩ := st1.lastD
  rw [List.append_assoc, List.append_assoc] at st1
  refine hl.ok ρ1 (ρx ++ [some (.fz x.toD)]) σ (σx ++ [some vx]) H1 S1' _ _ hl1 st1 hw1 fun o1 ρ2 H2 S2 hl2 st2 hw2 => ?_
  refine hh.ok ρ2 (ρx ++ [some (.fz x.toD)]) σ (σx ++ [some vx]) H2 S2 _ _ hl2 st2 hw2 fun o2 ρ3 H3 S3 hl3 st3 hp => ?_
  rw [← List.append_assoc, ← List.append_assoc] at st3
  have lx : (ρ3 ++ ρx).length = (σ ++ σx).length := by have := st3.len; simp only [List.length_append, List.length_cons, List.length_nil] at *; omega
  exact l_sl F st3.popLast (st3.last lx) hp fun z v H' S' st' hk => q z ρ3 v H' S' hl3 st' hk⟩
def wSlV (i : Nat) (wl wh : Ev → (Option Int → Ev → Prop) → Prop) : WE := fun ρ k => (∃ s, ρ[i]? = some (some s)) ∧ wl ρ fun lo ρ2 => wh ρ2 fun hi ρ3 => match ρ3[i]? with
  | some (some x) => pSl x lo hi fun z => k z ρ3
  | _ => False
theorem pd_slV {lo hi : Option Expr} {tl th : TO} {wl wh : Ev → (Option Int → Ev → Prop) → Prop} {p2 : Pos} (F : Fit X C) {i : Nat} (he : PE X e (tVar i)) (hl : QO X C lo tl wl) (hh : QO X C hi th wh) : PD X C (.Subscript e (.Slice lo hi none p2) pos) (tSl (rSlAll X.K) (tVar i) tl th) (wSlV i wl wh) := ⟨pe_slice sl_all he hl.po hh.po, by
  intro ρ ρx σ σx H S k Q hlen st hw q
  obtain ⟨⟨s0, e0⟩, hw⟩ := hw
  obtain ⟨v, h1, _⟩ := st.get (get_app e0)
  refine ⟨v, of_get_app h1 (hlen ▸ lt_of_get e0), ?_⟩
  refine hl.ok ρ ρx σ σx H S _ _ hlen st hw fun o1 ρ2 H2 S2 hl2 st2 hw2 => ?_
  refine hh.ok ρ2 ρx σ σx H2 S2 _ _ hl2 st2 hw2 fun o2 ρ3 H3 S3 hl3 st3 hp => ?_
  split at hp
  · rename_i x e1
    obtain ⟨v', h2, okx⟩ := st3.get (get_app e1)
    rw [h1] at h2
    cases h2
    exact l_sl F st3 okx hp fun z v H' S' st' hk => q z ρ3 v H' S' hl3 st' hk
  · exact hp.elim⟩
/-- x[::-1] of a list -/
def pRev : P1 := fun x k => match x.toD with
  | .lst ds => k (.ol ds.reverse)
  | _ => False
theorem pd_rev (F : Fit X C) {n : Nat} {p1 p2 p3 pos : Pos} (he : PB X C e t w) : PD X C (.Subscript e (.Slice none none (some (.UnaryOp .USub (.Constant (.int 1) n p1) p2)) p3) pos) (tRevL X.K t) (wUn pRev w) := ⟨pe_revL he.pe, by
  refine ok_un (r := fun x H1 Q => ∃ a xs, x = .ref a ∧ SqL X.K H1 a xs ∧ ∀ p, H1 p = none → Q (.ref p) (upd H1 p (.lst xs.reverse))) ?_ he.ok
  intro ρ σ H S x vx k Q st ox h q
  unfold pRev at h
  split at h
  · rename_i ds e
    obtain ⟨a, us, rfl, g1, g2, g3⟩ := ox.lst e
    exact ⟨a, us, rfl, SqL.of g1, fun p hp => ans_ol st q (by rw [List.length_reverse]; exact g2) g3.rev h p hp⟩
  · exact h.elim⟩
end

/-! ### built-in functions of one argument -/
def pLen : P1 := fun x k => match x.toD with
  | .lst ds => k (.fz (.int ds.length))
  | .tup ds => k (.fz (.int ds.length))
  | .str z => z.length ≤ sizeLine ∧ k (.fz (.int z.length))
  | .dic ks _ => k (.fz (.int ks.length))
  | _ => False

def rLenA (K : PySem.W.Frag) : List V → Hp → VK → Prop := fun xs H Q => ∃ x n, xs = [x] ∧ LenV K x H n ∧ Q (.int n) H
def rLen2 (K : PySem.W.Frag) : List V → Hp → VK → Prop := fun xs H Q => rLenA K xs H Q ∨ ∃ d kvs, xs = [.ref d] ∧ H d = some (.dK kvs) ∧ Q (.int kvs.length) H
section
variable {X : Cx} {C : Cxt}
theorem len_V {C : Cxt} {S : List Addr} {H : Hp} {v : V} {s : Sl} {k : Sl → Prop} (ok : SlOk C S H v s) (h : pLen s k) : (∃ n : Nat, LenV C.B.K v H n ∧ k (.fz (.int n))) ∨ ∃ (d : Addr) (kvs : List (Key × V)), v = .ref d ∧ H d = some (.dK kvs) ∧ k (.fz (.int kvs.length)) := by
  unfold pLen at h
  split at h
  · rename_i ds e
    obtain ⟨a, us, rfl, g1, g2, g3⟩ := ok.lst e
    exact .inl ⟨us.length, .inl ⟨us, SqL.of g1, rfl⟩, by rw [g3.len]; exact h⟩
  · rename_i ds e
    obtain ⟨a, us, rfl, g1, g2, g3⟩ := ok.tup e
    exact .inl ⟨us.length, .inr ⟨us, g1, rfl⟩, by rw [g3.len]; exact h⟩
  · rename_i z e
    rw [ok.str e]
    exact .inl ⟨z.length, ⟨h.1, rfl⟩, h.2⟩
  · rename_i ks ds e
    have r := ok.rp
    rw [e] at r
    obtain ⟨a, kvs, rfl, g1, _, rfl, _⟩ := r
    rw [List.length_map] at h
    exact .inr ⟨a, kvs, rfl, g1, h⟩
  · exact h.elim
theorem l_len (F : Fit X C) : Lift1 C (fun v H Q => rLen2 X.K [v] H Q) pLen := by
  intro ρ σ H S x vx k Q st ox h q
  rcases len_V ox h with ⟨n, h1, h2⟩ | ⟨d, kvs, rfl, h1, h2⟩
  · rw [F.K] at h1
    exact .inl ⟨vx, n, rfl, h1, ans_int st q h2⟩
  · exact .inr ⟨d, kvs, rfl, h1, ans_int st q h2⟩
def pAbs : P1 := fun x k => match x.toD with
  | .int i => k (.fz (.int (if i < 0 then -i else i)))
  | _ => False
theorem l_abs : Lift1 C (fun v H Q => ∃ i, [v] = [V.int i] ∧ Q (.int (if i < 0 then -i else i)) H) pAbs := by
  intro ρ σ H S x vx k Q st ox h q
  unfold pAbs at h
  split at h
  · rename_i i e
    exact ⟨i, by rw [ox.int e], ans_int st q h⟩
  · exact h.elim
def pInt : P1 := fun x k => match x.toD with
  | .int i => k (.fz (.int i))
  | .bl b => k (.fz (.int (if b then 1 else 0)))
  | .str z => z.length ≤ 640 ∧ ∃ n, PySem.intText? z = some n ∧ k (.fz (.int n))
  | _ => False
def rIntA : List V → Hp → VK → Prop := fun xs H Q => ((∃ i, xs = [.int i] ∧ Q (.int i) H) ∨ ∃ k, xs = [.bl k] ∧ Q (.int (if k then 1 else 0)) H) ∨ ∃ a n, xs = [.str a] ∧ PySem.intText? a = some n ∧ a.length ≤ 640 ∧ Q (.int n) H
theorem call_intA : CallR X (.type "int") rIntA := call_int1.or call_int_str
theorem l_int : Lift1 C (fun v H Q => rIntA [v] H Q) pInt := by
  intro ρ σ H S x vx k Q st ox h q
  unfold pInt at h
  split at h
  · rename_i i e
    exact .inl (.inl ⟨i, by rw [ox.int e], ans_int st q h⟩)
  · rename_i b e
    exact .inl (.inr ⟨b, by rw [ox.bl e], ans_int st q h⟩)
  · rename_i z e
    obtain ⟨h0, n, h1, h2⟩ := h
    exact .inr ⟨z, n, by rw [ox.str e], h1, h0, ans_int st q h2⟩
  · exact h.elim
def pBool : P1 := fun x k => match x.toD with
  | .int i => k (.fz (.bl (i != 0)))
  | .bl b => k (.fz (.bl b))
  | _ => False
def rBoolA : List V → Hp → VK → Prop := fun xs H Q => (∃ i, xs = [.int i] ∧ Q (.bl (i != 0)) H) ∨ ∃ k, xs = [.bl k] ∧ Q (.bl k) H
theorem l_bool : Lift1 C (fun v H Q => rBoolA [v] H Q) pBool := by
  intro ρ σ H S x vx k Q st ox h q
  unfold pBool at h
  split at h
  · rename_i i e
    exact .inl ⟨i, by rw [ox.int e], ans_bl st q h⟩
  · rename_i b e
    exact .inr ⟨b, by rw [ox.bl e], ans_bl st q h⟩
  · exact h.elim
/-- str of a number -/
def tS (i : Int) : Str := Str.ofString (toString i)
def pStr : P1 := fun x k => match x.toD with
  | .int i => i.natAbs.log2 < 1920 ∧ k (.fz (.str (tS i)))
  | _ => False
theorem l_str : Lift1 C (fun v H Q => ∃ i, [v] = [V.int i] ∧ i.natAbs.log2 < 1920 ∧ Q (.str (toString i)) H) pStr := by
  intro ρ σ H S x vx k Q st ox h q
  unfold pStr at h
  split at h
  · rename_i i e
    exact ⟨i, by rw [ox.int e], h.1, ans_str st q h.2⟩
  · exact h.elim
def pList : P1 := fun x k => match x.toD with
  | .lst ds => k (.ol ds)
  | .tup ds => k (.ol ds)
  | _ => False
def rListA (K : PySem.W.Frag) : List V → Hp → VK → Prop := fun xs H Q => ∃ p ys, xs = [.ref p] ∧ (SqL K H p ys ∨ SqT K H p ys) ∧ ∀ l, H l = none → Q (.ref l) (upd H l (.lst ys))
theorem l_list (F : Fit X C) : Lift1 C (fun v H Q => rListA X.K [v] H Q) pList := by
  intro ρ σ H S x vx k Q st ox h q
  rw [← F.K]
  unfold pList at h
  split at h
  · rename_i ds e
    obtain ⟨a, us, rfl, g1, g2, g3⟩ := ox.lst e
    exact ⟨a, us, rfl, .inl (SqL.of g1), fun p hp => ans_ol st q g2 g3 h p hp⟩
  · rename_i ds e
    obtain ⟨a, us, rfl, g1, g2, g3⟩ := ox.tup e
    exact ⟨a, us, rfl, .inr g1, fun p hp => ans_ol st q g2 g3 h p hp⟩
  · exact h.elim
def pTuple : P1 := fun x k => match x.toD with
  | .lst ds => k (.fz (.tup ds))
  | .tup ds => k (.fz (.tup ds))
  | _ => False
def rTupleA (K : PySem.W.Frag) : List V → Hp → VK → Prop := fun xs H Q => ∃ p ys, xs = [.ref p] ∧ ((SqL K H p ys ∧ ∀ l, H l = none → Q (.ref l) (upd H l (.tup ys))) ∨ (SqT K H p ys ∧ Q (.ref p) H))
theorem l_tuple (F : Fit X C) : Lift1 C (fun v H Q => rTupleA X.K [v] H Q) pTuple := by
  intro ρ σ H S x vx k Q st ox h q
  rw [← F.K]
  unfold pTuple at h
  split at h
  · rename_i ds e
    obtain ⟨a, us, rfl, g1, g2, g3⟩ := ox.lst e
    exact ⟨a, us, rfl, .inl ⟨SqL.of g1, fun p hp => ans_tup st q g2 g3 h p hp⟩⟩
  · rename_i ds e
    cases x with
    | ol _ => cases e
    | fz d =>
      cases e
      obtain ⟨a, us, rfl, g1, g2, g3⟩ := id ox
      exact ⟨a, us, rfl, .inr ⟨sameT hid_same g1, ans_fz st q ox h⟩⟩
  · exact h.elim
/-- the numbers of data -/
def intsD : List D → Option (List Int)
  | [] => some []
  | .int i :: ds => (intsD ds).map (i :: ·)
  | _ :: _ => none
theorem ints_V {B : Bk} {H : Hp} : ∀ {xs : List V} {ds : List D} {ns : List Int}, Rps B H xs ds → intsD ds = some ns → xs = ns.map V.int
  | _, [], _, h, e => by cases e; exact h
  | _, d :: ds, ns, h, e => by
    obtain ⟨x, r, rfl, h2, h3⟩ := h
    cases d with
    | int i =>
      unfold intsD at e
      cases q : intsD ds with
      | none => rw [q] at e; cases e
      | some ms =>
        rw [q] at e
        cases e
        rw [ints_V h3 q, show x = V.int i from h2]
        rfl
    | _ => cases e
theorem ints_map (ns : List Int) : intsD (ns.map D.int) = some ns := by
  induction ns with
  | nil => rfl
  | cons n ns ih => show (intsD (ns.map D.int)).map (n :: ·) = _; rw [ih]; rfl
def blsD : List D → Option (List Bool)
  | [] => some []
  | .bl i :: ds => (blsD ds).map (i :: ·)
  | _ :: _ => none
theorem bls_V {B : Bk} {H : Hp} : ∀ {xs : List V} {ds : List D} {ns : List Bool}, Rps B H xs ds → blsD ds = some ns → xs = ns.map V.bl
  | _, [], _, h, e => by cases e; exact h
  | _, d :: ds, ns, h, e => by
    obtain ⟨x, r, rfl, h2, h3⟩ := h
    cases d with
    | bl i =>
      unfold blsD at e
      cases q : blsD ds with
      | none => rw [q] at e; cases e
      | some ms =>
        rw [q] at e
        cases e
        rw [bls_V h3 q, show x = V.bl i from h2]
        rfl
    | _ => cases e
theorem bls_map (ns : List Bool) : blsD (ns.map D.bl) = some ns := by
  induction ns with
  | nil => rfl
  | cons n ns ih => show (blsD (ns.map D.bl)).map (n :: ·) = _; rw [ih]; rfl
def strsD : List D → Option (List Str)
  | [] => some []
  | .str i :: ds => (strsD ds).map (i :: ·)
  | _ :: _ => none
theorem strs_V {B : Bk} {H : Hp} : ∀ {xs : List V} {ds : List D} {ns : List Str}, Rps B H xs ds → strsD ds = some ns → xs = ns.map V.str
  | _, [], _, h, e => by cases e; exact h
  | _, d :: ds, ns, h, e => by
    obtain ⟨x, r, rfl, h2, h3⟩ := h
    cases d with
    | str i =>
      unfold strsD at e
      cases q : strsD ds with
      | none => rw [q] at e; cases e
      | some ms =>
        rw [q] at e
        cases e
        rw [strs_V h3 q, show x = V.str i from h2]
        rfl
    | _ => cases e
theorem strs_map (ns : List Str) : strsD (ns.map D.str) = some ns := by
  induction ns with
  | nil => rfl
  | cons n ns ih => show (strsD (ns.map D.str)).map (n :: ·) = _; rw [ih]; rfl
theorem Rps.ints {B : Bk} {H : Hp} : ∀ ns : List Int, Rps B H (ns.map V.int) (ns.map D.int)
  | [] => rfl
  | n :: ns => ⟨_, _, rfl, rfl, Rps.ints ns⟩
theorem Rps.strs {B : Bk} {H : Hp} : ∀ ns : List Str, Rps B H (ns.map V.str) (ns.map D.str)
  | [] => rfl
  | n :: ns => ⟨_, _, rfl, rfl, Rps.strs ns⟩
/-- of a list of numbers -/
def pNums (P : List Int → (Sl → Prop) → Prop) : P1 := fun x k => match x.toD with
  | .lst ds => ∃ ns, intsD ds = some ns ∧ P ns k
  | _ => False
def pSum : P1 := pNums fun ns k => k (.fz (.int ns.sum))
theorem l_sum (F : Fit X C) : Lift1 C (fun v H Q => rSum X.K [v] H Q) pSum := by
  intro ρ σ H S x vx k Q st ox h q
  rw [← F.K]
  unfold pSum pNums at h
  split at h
  · rename_i ds e
    obtain ⟨ns, h1, h2⟩ := h
    obtain ⟨a, us, rfl, g1, g2, g3⟩ := ox.lst e
    obtain rfl := ints_V g3 h1
    exact ⟨a, ns, rfl, SqL.of g1, ans_int st q h2⟩
  · exact h.elim
def pMaxL : P1 := pNums fun ns k => 0 < ns.length ∧ ∀ m, m ∈ ns → (∀ y, y ∈ ns → y ≤ m) → k (.fz (.int m))
theorem l_maxL (F : Fit X C) : Lift1 C (fun v H Q => rMax X.K [v] H Q) pMaxL := by
  intro ρ σ H S x vx k Q st ox h q
  rw [← F.K]
  unfold pMaxL pNums at h
  split at h
  · rename_i ds e
    obtain ⟨ns, h1, h0, h2⟩ := h
    obtain ⟨a, us, rfl, g1, g2, g3⟩ := ox.lst e
    obtain rfl := ints_V g3 h1
    exact ⟨a, ns, rfl, SqL.of g1, h0, fun m hm hy => ans_int st q (h2 m hm hy)⟩
  · exact h.elim
/-- all, any of a list of truth values -/
def pBls (f : List Bool → Bool) : P1 := fun x k => match x.toD with
  | .lst ds => ∃ bs, blsD ds = some bs ∧ k (.fz (.bl (f bs)))
  | _ => False
abbrev pAll : P1 := pBls fun bs => bs.all id
abbrev pAny : P1 := pBls fun bs => bs.any id
theorem l_all (F : Fit X C) : Lift1 C (fun v H Q => rAll X.K [v] H Q) pAll := by
  intro ρ σ H S x vx k Q st ox h q
  rw [← F.K]
  unfold pAll pBls at h
  split at h
  · rename_i ds e
    obtain ⟨ns, h1, h2⟩ := h
    obtain ⟨a, us, rfl, g1, g2, g3⟩ := ox.lst e
    obtain rfl := bls_V g3 h1
    exact ⟨a, ns, rfl, SqL.of g1, ans_bl st q h2⟩
  · exact h.elim
theorem l_any (F : Fit X C) : Lift1 C (fun v H Q => rAny X.K [v] H Q) pAny := by
  intro ρ σ H S x vx k Q st ox h q
  rw [← F.K]
  unfold pAny pBls at h
  split at h
  · rename_i ds e
    obtain ⟨ns, h1, h2⟩ := h
    obtain ⟨a, us, rfl, g1, g2, g3⟩ := ox.lst e
    obtain rfl := bls_V g3 h1
    exact ⟨a, ns, rfl, SqL.of g1, ans_bl st q h2⟩
  · exact h.elim
/-- sorted: of numbers, of at most 63 texts -/
def pSorted : P1 := fun x k => match x.toD with
  | .lst ds => (∃ ns, intsD ds = some ns ∧ ∀ ms : List Int, ms.Perm ns → ms.Pairwise (· ≤ ·) → k (.ol (ms.map .int))) ∨ ∃ ss, strsD ds = some ss ∧ ss.length < 64 ∧ ∀ ms : List Str, ms.Perm ss → PyProof.Rows.sortedS ms = true → k (.ol (ms.map .str))
  | _ => False
def rSortA (K : PySem.W.Frag) : List V → Hp → VK → Prop := fun vs H Q => rSortedI K vs H Q ∨ rSortedS K vs H Q
theorem cr_sortA : CallR X (.builtin "sorted") (rSortA X.K) := cr_sortedI.or cr_sortedS
theorem l_sorted (F : Fit X C) : Lift1 C (fun v H Q => rSortA X.K [v] H Q) pSorted := by
  intro ρ σ H S x vx k Q st ox h q
  rw [← F.K]
  unfold pSorted at h
  split at h
  · rename_i ds e
    obtain ⟨a, us, rfl, g1, g2, g3⟩ := ox.lst e
    rcases h with ⟨ns, h1, h2⟩ | ⟨ss, h1, h0, h2⟩
    · obtain rfl := ints_V g3 h1
      refine .inl ⟨a, ns, rfl, SqL.of g1, fun ms p h3 h4 hp => ans_ol st q ?_ (Rps.ints ms) (h2 ms h3 h4) p hp⟩
      rw [List.length_map, h3.length_eq]
      simpa using g2
    · obtain rfl := strs_V g3 h1
      refine .inr ⟨a, ss, rfl, SqL.of g1, h0, fun ms p h3 h4 hp => ans_ol st q ?_ (Rps.strs ms) (h2 ms h3 h4) p hp⟩
      rw [List.length_map, h3.length_eq]
      simpa using g2
  · exact h.elim

/-! ### .. of two -/
def pI2N (P : Int → Int → Prop) (g : Int → Int → Int) : PN := fun ds k => match ds with
  | [.int i, .int j] => P i j ∧ k (.fz (.int (g i j)))
  | _ => False
theorem rps1 {B : Bk} {H : Hp} {vs : List V} {d : D} (h : Rps B H vs [d]) : ∃ v, vs = [v] ∧ Rp B H v d := by
  obtain ⟨x, r, rfl, h2, h3⟩ := h
  rw [show r = [] from h3]
  exact ⟨x, rfl, h2⟩
theorem rps2 {B : Bk} {H : Hp} {vs : List V} {d e : D} (h : Rps B H vs [d, e]) : ∃ v u, vs = [v, u] ∧ Rp B H v d ∧ Rp B H u e := by
  obtain ⟨x, r, rfl, h2, h3⟩ := h
  obtain ⟨u, rfl, h4⟩ := rps1 h3
  exact ⟨x, u, rfl, h2, h4⟩
theorem rps3 {B : Bk} {H : Hp} {vs : List V} {d e f : D} (h : Rps B H vs [d, e, f]) : ∃ v u w, vs = [v, u, w] ∧ Rp B H v d ∧ Rp B H u e ∧ Rp B H w f := by
  obtain ⟨x, r, rfl, h2, h3⟩ := h
  obtain ⟨u, w, rfl, h4, h5⟩ := rps2 h3
  exact ⟨x, u, w, rfl, h2, h4, h5⟩
theorem l_I2N {P : Int → Int → Prop} {g : Int → Int → Int} {r : List V → Hp → VK → Prop} (hr : ∀ i j H Q, P i j → Q (.int (g i j)) H → r [.int i, .int j] H Q) : LiftN C r (pI2N P g) := by
  intro ρ σ H S ds vs k Q st rr h q
  unfold pI2N at h
  split at h
  · rename_i i j
    obtain ⟨v, u, rfl, h1, h2⟩ := rps2 rr
    rw [show v = _ from h1, show u = _ from h2]
    exact hr i j H Q h.1 (ans_int st q h.2)
  · exact h.elim
abbrev pMax2 : PN := pI2N (fun _ _ => True) fun i j => if j > i then j else i
abbrev pMin2 : PN := pI2N (fun _ _ => True) fun i j => if j < i then j else i
theorem l_max2 : LiftN C (fun xs H Q => ∃ i j, xs = [.int i, .int j] ∧ Q (.int (if j > i then j else i)) H) pMax2 := l_I2N fun i j H Q _ h => ⟨i, j, rfl, h⟩
theorem l_min2 : LiftN C (fun xs H Q => ∃ i j, xs = [.int i, .int j] ∧ Q (.int (if j < i then j else i)) H) pMin2 := l_I2N fun i j H Q _ h => ⟨i, j, rfl, h⟩
def pDivmod : PN := fun ds k => match ds with
  | [.int i, .int j] => CDivP i j ∧ k (.fz (.tup [.int (i / j), .int (i % j)]))
  | _ => False
theorem l_divmod : LiftN C (fun xs H Q => ∃ i j, xs = [.int i, .int j] ∧ CDivP i j ∧ ∀ p, H p = none → Q (.ref p) (upd H p (.tup [.int (i / j), .int (i % j)]))) pDivmod := by
  intro ρ σ H S ds vs k Q st rr h q
  unfold pDivmod at h
  split at h
  · rename_i i j
    obtain ⟨v, u, rfl, h1, h2⟩ := rps2 rr
    rw [show v = _ from h1, show u = _ from h2]
    exact ⟨i, j, rfl, h.1, fun p hp => ans_tup st q (by show 2 ≤ 1000000; decide) (Rps.ints [i / j, i % j]) h.2 p hp⟩
  · exact h.elim
end
end Q

set_option autoImplicit false
set_option linter.all false
/-! Q4: statements, targets, loops -/
namespace Q
open PySem L2
structure En where
  nx : Ev → Prop
  rt : Sl → Prop
  bk : Ev → Prop := fun _ => False
  ct : Ev → Prop := fun _ => False
abbrev WS := En → Ev → Prop
/-- what is wanted by the layer follows from what is told -/
structure Fol (C : Cxt) (ρx : Ev) (σx : St) (E : En) (D : Ends) : Prop where
  nx : ∀ (ρ : Ev) (σ : St) (H : Hp) (S : List Addr), ρ.length = σ.length → Sta C (ρ ++ ρx) (σ ++ σx) H S → E.nx ρ → D.nx σ H
  rt : ∀ (ρ : Ev) (σ : St) (H : Hp) (S : List Addr) (s : Sl) (v : V), ρ.length = σ.length → Sta C ((ρ ++ ρx) ++ [some s]) ((σ ++ σx) ++ [some v]) H S → E.rt s → D.rt v H
  bk : ∀ (ρ : Ev) (σ : St) (H : Hp) (S : List Addr), ρ.length = σ.length → Sta C (ρ ++ ρx) (σ ++ σx) H S → E.bk ρ → D.bk σ H
  ct : ∀ (ρ : Ev) (σ : St) (H : Hp) (S : List Addr), ρ.length = σ.length → Sta C (ρ ++ ρx) (σ ++ σx) H S → E.ct ρ → D.ct σ H
def OkS (C : Cxt) (t : TS) (w : WS) : Prop := ∀ (ρ ρx : Ev) (σ σx : St) (H : Hp) (S : List Addr) (E : En) (D : Ends), ρ.length = σ.length → Sta C (ρ ++ ρx) (σ ++ σx) H S → w E ρ → Fol C ρx σx E D → t D σ H
structure QS (X : Cx) (C : Cxt) (st : Stmt) (t : TS) (w : WS) : Prop where
  ps : PS X st t
  ok : OkS C t w
structure QSs (X : Cx) (C : Cxt) (st : List Stmt) (t : TS) (w : WS) : Prop where
  ps : PSs X st t
  ok : OkS C t w
section
variable {X : Cx} {C : Cxt} {e a bx : Expr} {t ta tb : TE} {w wa wb : WE} {pos : Pos} {st : Stmt} {sts : List Stmt} {t1 t2 : TS} {w1 w2 : WS}
theorem qss_nil : QSs X C [] tNext (fun E ρ => E.nx ρ) := ⟨pss_nil, fun ρ ρx σ σx H S E D hl st h f => f.nx ρ σ H S hl st h⟩
def wSeq (w1 w2 : WS) : WS := fun E ρ => w1 { E with nx := w2 E } ρ
theorem ok_seq (h1 : OkS C t1 w1) (h2 : OkS C t2 w2) : OkS C (tSeq t1 t2) (wSeq w1 w2) := fun ρ ρx σ σx H S E D hl st h f =>
  h1 ρ ρx σ σx H S _ _ hl st h ⟨fun ρ' σ' H' S' hl' st' h' => h2 ρ' ρx σ' σx H' S' E D hl' st' h' f, f.rt, f.bk, f.ct⟩
theorem qss_cons (h1 : QS X C st t1 w1) (h2 : QSs X C sts t2 w2) : QSs X C (st :: sts) (tSeq t1 t2) (wSeq w1 w2) := ⟨pss_cons h1.ps h2.ps, ok_seq h1.ok h2.ok⟩
theorem qss_one (h : QS X C st t1 w1) : QSs X C [st] t1 w1 := ⟨pss_one h.ps, h.ok⟩
theorem qs_pass : QS X C (.Pass pos) tNext (fun E ρ => E.nx ρ) := ⟨ps_pass, fun ρ ρx σ σx H S E D hl st h f => f.nx ρ σ H S hl st h⟩
theorem qs_break : QS X C (.Break pos) tBreak (fun E ρ => E.bk ρ) := ⟨ps_break, fun ρ ρx σ σx H S E D hl st h f => f.bk ρ σ H S hl st h⟩
theorem qs_continue : QS X C (.Continue pos) tCont (fun E ρ => E.ct ρ) := ⟨ps_continue, fun ρ ρx σ σx H S E D hl st h f => f.ct ρ σ H S hl st h⟩
theorem qs_never : QS X C st tNever (fun _ _ => False) := ⟨ps_never, fun _ _ _ _ _ _ _ _ _ _ h _ => h.elim⟩
def wDrop (w : WE) : WS := fun E ρ => w ρ fun _ ρ1 => E.nx ρ1
theorem qs_expr (h : PD X C e t w) (hs : swapsWith e none pos.line X.env = pure false := by rfl) : QS X C (.Expr e pos) (tDrop t) (wDrop w) := ⟨ps_expr h.pe hs, fun ρ ρx σ σx H S E D hl st hw f =>
  h.ok ρ ρx σ σx H S _ _ hl st hw fun s ρ' v H' S' hl' st' hk => f.nx ρ' σ H' S' hl' st'.popLast hk⟩
def wRet (w : WE) : WS := fun E ρ => w ρ fun s _ => E.rt s
theorem qs_ret (h : PD X C e t w) : QS X C (.Return (some e) pos) (tRet t) (wRet w) := ⟨ps_ret h.pe, fun ρ ρx σ σx H S E D hl st hw f =>
  h.ok ρ ρx σ σx H S _ _ hl st hw fun s ρ' v H' S' hl' st' hk => f.rt ρ' σ H' S' s v hl' st' hk⟩
theorem qs_retN : QS X C (.Return none pos) tRetN (fun E _ => E.rt (.fz .non)) := ⟨ps_retN, fun ρ ρx σ σx H S E D hl st hw f => f.rt ρ σ H S (.fz .non) .non hl (st.pushF (d := .non) rfl) hw⟩
def wIfS (c : WT) (w1 w2 : WS) : WS := fun E ρ => c ρ fun b ρ1 => if b = true then w1 E ρ1 else w2 E ρ1
theorem qs_if {c : Expr} {tc : TT} {wc : WT} {p q : List Stmt} (hc : QT X C c tc wc) (h1 : QSs X C p t1 w1) (h2 : QSs X C q t2 w2) : QS X C (.If c p q pos) (tIfS tc t1 t2) (wIfS wc w1 w2) := ⟨ps_if hc.pt h1.ps h2.ps, by
  intro ρ ρx σ σx H S E D hl st hw f
  refine hc.ok ρ ρx σ σx H S _ _ hl st hw fun b ρ1 H1 S1 hl1 st1 hk => ?_
  cases b with
  | true => exact h1.ok ρ1 ρx σ σx H1 S1 E D hl1 st1 hk f
  | false => exact h2.ok ρ1 ρx σ σx H1 S1 E D hl1 st1 hk f⟩

/-! ### targets -/
abbrev WG := Sl → Ev → (Ev → Prop) → Prop
/-- the slots at is may change -/
def At (is : List Nat) (σ σ' : St) : Prop := σ'.length = σ.length ∧ ∀ j : Nat, j ∉ is → σ'[j]? = σ[j]?
/-- a value that no slot holds as its own -/
def Apt (ρ : Ev) (σ : St) (s : Sl) (v : V) : Prop := s.own = true → ∀ (i : Nat) (t : Sl), ρ[i]? = some (some t) → t.own = true → σ[i]? ≠ some (some v)
def OkG (C : Cxt) (is : List Nat) (g : TG) (w : WG) : Prop := ∀ (ρ ρx : Ev) (σ σx : St) (H : Hp) (S : List Addr) (s : Sl) (v : V) (k : Ev → Prop) (Q : St → Hp → Prop), ρ.length = σ.length → Sta C (ρ ++ ρx) (σ ++ σx) H S → SlOk C S H v s → Apt (ρ ++ ρx) (σ ++ σx) s v → w s ρ k →
  (∀ (ρ' : Ev) (σ' : St) (H' : Hp) (S' : List Addr), ρ'.length = σ'.length → At is σ σ' → Sta C (ρ' ++ ρx) (σ' ++ σx) H' S' → k ρ' → Q σ' H') → g v σ H Q
structure QG (X : Cx) (C : Cxt) (is : List Nat) (tg : Expr) (g : TG) (w : WG) : Prop where
  pg : PG X tg g
  ok : OkG C is g w
theorem Sta.apt {ρ : Ev} {σ : St} {H : Hp} {S : List Addr} {s : Sl} {v : V} (st : Sta C (ρ ++ [some s]) (σ ++ [some v]) H S) : Apt ρ σ s v := fun o i t ei to q => by
  have l := st.popLast.len
  have := st.ap i ρ.length t s v (get_app ei) (by rw [List.getElem?_append_right (Nat.le_refl _), Nat.sub_self]; rfl) to o (get_app q) (by rw [l, List.getElem?_append_right (Nat.le_refl _), Nat.sub_self]; rfl)
  have := lt_of_get ei
  omega
theorem Sta.assign {ρ ρx : Ev} {σ σx : St} {H : Hp} {S : List Addr} {s : Sl} {v : V} (hl : ρ.length = σ.length) (st : Sta C (ρ ++ ρx) (σ ++ σx) H S) (ok : SlOk C S H v s) (ap : Apt (ρ ++ ρx) (σ ++ σx) s v) (i : Nat) : Sta C (ρ.set i (some s) ++ ρx) (σ.set i (some v) ++ σx) H S := by
  by_cases hi : i < ρ.length
  · have hi' : i < σ.length := hl ▸ hi
    have st1 := (st.forget i).blind (set_none _ _) (some v)
    have vi : ((σ ++ σx).set i (some v))[i]? = some (some v) := List.getElem?_set_self (by rw [List.length_append]; omega)
    have st2 := st1.put i (some s) (fun t z => by cases z; exact ⟨v, vi, ok⟩) fun t u z o q j r hj ej ro qj => ?_
    · rw [List.set_set, app_set _ _ _ _ hi, app_set _ _ _ _ hi'] at st2
      exact st2
    · cases z
      rw [vi] at q
      cases q
      rw [List.getElem?_set_ne (Ne.symm hj)] at ej qj
      exact ap o j r ej ro qj
  · rw [List.set_eq_of_length_le (by omega), List.set_eq_of_length_le (by omega)]
    exact st
theorem At.set (σ : St) (i : Nat) (o : Option V) : At [i] σ (σ.set i o) := ⟨by simp, fun j hj => by rw [List.getElem?_set_ne (fun z => hj (by simp [z]))]⟩
theorem At.trans {is js : List Nat} {σ σ' σ'' : St} (a : At is σ σ') (b : At js σ' σ'') : At (is ++ js) σ σ'' := ⟨b.1.trans a.1, fun j hj => by
  rw [b.2 j (fun z => hj (List.mem_append_right _ z)), a.2 j (fun z => hj (List.mem_append_left _ z))]⟩
theorem At.refl (σ : St) : At [] σ σ := ⟨rfl, fun _ _ => rfl⟩
def wNm (i : Nat) : WG := fun s ρ k => k (ρ.set i (some s))
theorem ok_nm (i : Nat) : OkG C [i] (gName i) (wNm i) := fun ρ ρx σ σx H S s v k Q hl st ok ap hw q =>
  q _ _ H S (by simp [hl]) (At.set σ i _) (st.assign hl ok ap i) hw
theorem qg_name {i : Nat} {tg : Expr} (h : PG X tg (gName i)) : QG X C [i] tg (gName i) (wNm i) := ⟨h, ok_nm i⟩
abbrev WGs := List D → Ev → (Ev → Prop) → Prop
def OkGs (C : Cxt) (is : List Nat) (g : TGs) (w : WGs) : Prop := ∀ (ρ ρx : Ev) (σ σx : St) (H : Hp) (S : List Addr) (ds : List D) (vs : List V) (k : Ev → Prop) (Q : St → Hp → Prop), ρ.length = σ.length → ρx.length = σx.length → Sta C (ρ ++ (ρx ++ fzs ds)) (σ ++ (σx ++ vs.map some)) H S → w ds ρ k →
  (∀ (ρ' : Ev) (σ' : St) (H' : Hp) (S' : List Addr), ρ'.length = σ'.length → At is σ σ' → Sta C (ρ' ++ ρx) (σ' ++ σx) H' S' → k ρ' → Q σ' H') → g vs σ H Q
structure QGs (X : Cx) (C : Cxt) (is : List Nat) (tg : List Expr) (g : TGs) (w : WGs) : Prop where
  pg : PGs X tg g
  ok : OkGs C is g w
theorem qgs_nil : QGs X C [] [] gNil (fun ds ρ k => ds = [] ∧ k ρ) := ⟨pgs_nil, fun ρ ρx σ σx H S ds vs k Q hl hx st hw q => by
  obtain ⟨rfl, hw⟩ := hw
  have l := st.len
  simp [fzs, hl, hx] at l
  subst l
  exact ⟨rfl, q ρ σ H S hl (At.refl σ) (by simpa [fzs] using st) hw⟩⟩
def wGCons (g : WG) (r : WGs) : WGs := fun ds ρ k => match ds with
  | d :: ds => g (.fz d) ρ fun ρ1 => r ds ρ1 k
  | [] => False
theorem qgs_cons {es : List Expr} {is js : List Nat} {g : TG} {gs : TGs} {u : WG} {us : WGs} (h : QG X C is e g u) (r : QGs X C js es gs us)
    (ha : (assignEach (e :: es) X.env).map (·.2) = assign e X.env :: (assignEach es X.env).map (·.2) := by rfl) : QGs X C (is ++ js) (e :: es) (gCons g gs) (wGCons u us) := ⟨pgs_cons h.pg r.pg ha, fun ρ ρx σ σx H S ds vs k Q hl hx st hw q => by
  cases ds with
  | nil => exact hw.elim
  | cons d ds =>
    have l := st.len
    simp only [fzs, List.length_append, List.length_map, List.length_cons, hl, hx] at l
    cases vs with
    | nil => simp at l
    | cons v vs =>
      obtain ⟨w', e1, ok⟩ := st.get (i := ρ.length + ρx.length) (s := .fz d) (by rw [List.getElem?_append_right (by omega), List.getElem?_append_right (by omega)]; simp [fzs])
      have e1' : some (some v) = some (some w') := by
        rw [← e1, hl, hx, List.getElem?_append_right (by omega), List.getElem?_append_right (by omega)]
        simp
      cases e1'
      refine ⟨v, vs, rfl, ?_⟩
      refine h.ok ρ (ρx ++ fzs (d :: ds)) σ (σx ++ (v :: vs).map some) H S (.fz d) v _ _ hl st ok (fun z => by cases z) hw fun ρ1 σ1 H1 S1 hl1 a1 st1 hw1 => ?_
      refine r.ok ρ1 (ρx ++ [some (.fz d)]) σ1 (σx ++ [some v]) H1 S1 ds vs k Q hl1 (by simp [hx]) (by simpa [fzs] using st1) hw1 fun ρ2 σ2 H2 S2 hl2 a2 st2 hk => ?_
      refine q ρ2 σ2 H2 S2 hl2 (a1.trans a2) ?_ hk
      have := st2
      rw [← List.append_assoc, ← List.append_assoc] at this
      exact this.popLast⟩
/-- a, b = a tuple -/
def wTg (n : Nat) (us : WGs) : WG := fun s ρ k => match s.toD with
  | .tup ds => ds.length = n ∧ us ds ρ k
  | _ => False
theorem Sta.pushs {ρ : Ev} {σ : St} {H : Hp} {S : List Addr} (st : Sta C ρ σ H S) : ∀ {ds : List D} {vs : List V}, Rps C.B (hid S H) vs ds → Sta C (ρ ++ fzs ds) (σ ++ vs.map some) H S := by
  intro ds
  induction ds generalizing ρ σ with
  | nil => intro vs h; rw [show vs = [] from h]; simpa [fzs] using st
  | cons d ds ih =>
    intro vs h
    obtain ⟨x, r, rfl, h2, h3⟩ := h
    have := ih (st.pushF h2) h3
    simpa [fzs] using this
theorem qg_tup (F : Fit X C) {es : List Expr} {n : Nat} {is : List Nat} {gs : TGs} {us : WGs} {kt : Nat} (hc : X.calm = true) (h : QGs X C is es gs us) (h1 : (assignEach es X.env).length = n := by rfl) (h2 : (assignEach es X.env).findIdx? (·.1) = none := by rfl) :
    QG X C is (.Tuple es kt pos) (gTup X.K n gs) (wTg n us) := ⟨pg_tup hc h.pg h1 h2, fun ρ ρx σ σx H S s v k Q hl st ok ap hww q => by
  unfold wTg at hww
  split at hww
  · rename_i ds e
    obtain ⟨a, xs, rfl, g1, g2, g3⟩ := ok.tup e
    rw [F.K] at g1
    refine ⟨a, xs, rfl, g1, by rw [g3.len]; exact hww.1, ?_⟩
    have lx := st.len
    simp only [List.length_append] at lx
    refine h.ok ρ ρx σ σx H S ds xs k Q hl (by omega) ?_ hww.2 q
    rw [← List.append_assoc, ← List.append_assoc]
    exact st.pushs g3
  · exact hww.elim⟩
def wAsg (w : WE) (g : WG) : WS := fun E ρ => w ρ fun s ρ1 => g s ρ1 E.nx
theorem ok_asg {is : List Nat} {g : TG} {u : WG} (h : OkE C t w) (hg : OkG C is g u) : OkS C (tAsg t g) (wAsg w u) := fun ρ ρx σ σx H S E D hl st hw f =>
  h ρ ρx σ σx H S _ _ hl st hw fun s ρ1 v H1 S1 hl1 st1 hk => by
    have lx : (ρ1 ++ ρx).length = (σ ++ σx).length := by have := st.len; simp only [List.length_append] at *; omega
    exact hg ρ1 ρx σ σx H1 S1 s v _ _ hl1 st1.popLast (st1.last lx) st1.apt hk fun ρ2 σ2 H2 S2 hl2 _ st2 h2 => f.nx ρ2 σ2 H2 S2 hl2 st2 h2
theorem qs_asg {is : List Nat} {tg : Expr} {g : TG} {u : WG} (he : PD X C e t w) (hg : QG X C is tg g u) (hs : swapsWithSole [tg] e pos.line X.env = pure false := by rfl) (hw : swappedStores [tg] e X.env = pure none := by rfl)
    (h1 : (assignEach [tg] X.env).map (·.2) = [assign tg X.env] := by rfl) : QS X C (.Assign [tg] e pos) (tAsg t g) (wAsg w u) := ⟨ps_asg he.pe hg.pg hs hw h1, ok_asg he.ok hg.ok⟩
abbrev wSet (i : Nat) (w : WE) : WS := wAsg w (wNm i)
theorem qs_set {i : Nat} {x : Str} {pos' : Pos} (hN : X.N.Nodup) (hi : X.N[i]? = some x) (hx : Loc X.env.scope x) (he : PD X C e t w) (hs : swapsWith e (some (.Name x pos')) pos.line X.env = pure false := by rfl) (hf : X.fn x = true ∨ X.env.scope.names.lookup x = some .local := by first | exact .inl rfl | exact .inr rfl | assumption) :
    QS X C (.Assign [.Name x pos'] e pos) (tAsg t (gName i)) (wSet i w) := ⟨ps_set hN hi hx he.pe hs hf, ok_asg he.ok (ok_nm i)⟩
/-- a, b = e1, e2 of names -/
def wPar (i j : Nat) (wa wb : WE) : WS := fun E ρ => wa ρ fun s ρ1 => wb ρ1 fun u ρ2 => E.nx ((ρ2.set i (some s)).set j (some u))
theorem qs_par {i j : Nat} {x y : Str} {px py pt : Pos} {kt k2 : Nat} {pt2 : Pos} (hc : X.calm = true) (hN : X.N.Nodup) (hi : X.N[i]? = some x) (hj : X.N[j]? = some y) (hij : i ≠ j) (hx : X.env.scope.names.lookup x = some .local) (hy : X.env.scope.names.lookup y = some .local)
    (ha : PD X C a ta wa) (hb : PD X C bx tb wb) (hsw : swappedStores [.Tuple [.Name x px, .Name y py] kt pt] (.Tuple [a, bx] k2 pt2) X.env = pure (some [x, y]))
    (h1 : starEach [a, bx] X.env = (false, eval a X.env) :: starEach [bx] X.env := by rfl) (h2 : starEach [bx] X.env = (false, eval bx X.env) :: starEach [] X.env := by rfl)
    (hs : swapsWithSole [.Tuple [.Name x px, .Name y py] kt pt] (.Tuple [a, bx] k2 pt2) pos.line X.env = pure false := by rfl) :
    QS X C (.Assign [.Tuple [.Name x px, .Name y py] kt pt] (.Tuple [a, bx] k2 pt2) pos) (tPar i j (tCons ta (tCons tb tNil))) (wPar i j wa wb) := ⟨ps_par hc hN hi hj hij hx hy (pa_cons ha.pe (pa_cons hb.pe pa_nil h2) h1) hsw hs, by
  intro ρ ρx σ σx H S E D hl st hw f
  refine ha.ok ρ ρx σ σx H S _ _ hl st hw fun s ρ1 v H1 S1 hl1 st1 hw1 => ?_
  rw [List.append_assoc, List.append_assoc] at st1
  refine hb.ok ρ1 (ρx ++ [some s]) σ (σx ++ [some v]) H1 S1 _ _ hl1 st1 hw1 fun u ρ2 w' H2 S2 hl2 st2 hk => ?_
  refine ⟨v, w', rfl, ?_⟩
  rw [← List.append_assoc, ← List.append_assoc] at st2
  have l2 : (ρ2 ++ ρx).length = (σ ++ σx).length := by have := st2.len; simp only [List.length_append, List.length_cons, List.length_nil] at *; omega
  have l3 : ((ρ2 ++ ρx) ++ [some s]).length = ((σ ++ σx) ++ [some v]).length := by simp only [List.length_append, List.length_cons, List.length_nil] at *; omega
  -- the second one first
  have ok2 := st2.last l3
  have ap2 := st2.apt
  have st3 := st2.popLast
  have ok1 := st3.last l2
  have ap1 := st3.apt
  have st4 := st3.popLast
  have s1 := st4.assign hl2 ok1 ap1 i
  have nvu : s.own = true → u.own = true → v ≠ w' := fun o1 o2 z => ap2 o2 (ρ2 ++ ρx).length s (by rw [List.getElem?_append_right (Nat.le_refl _), Nat.sub_self]; rfl) o1 (by rw [l2, List.getElem?_append_right (Nat.le_refl _), Nat.sub_self, z]; rfl)
  have s2 := s1.assign (by simp [hl2]) ok2 (fun o k t ek to q => by
    by_cases hi' : i < ρ2.length
    · by_cases hk' : k = i
      · subst hk'
        rw [List.getElem?_append_left (by rw [List.length_set]; exact hi'), List.getElem?_set_self hi'] at ek
        cases ek
        rw [List.getElem?_append_left (by rw [List.length_set]; exact hl2 ▸ hi'), List.getElem?_set_self (hl2 ▸ hi')] at q
        cases q
        exact nvu to o rfl
      · rw [← app_set _ _ _ _ hi', List.getElem?_set_ne (Ne.symm hk')] at ek
        rw [← app_set _ _ _ _ (hl2 ▸ hi'), List.getElem?_set_ne (Ne.symm hk')] at q
        exact ap2 o k t (get_app ek) to (get_app q)
    · rw [List.set_eq_of_length_le (by omega)] at ek
      rw [List.set_eq_of_length_le (by omega)] at q
      exact ap2 o k t (get_app ek) to (get_app q)) j
  exact f.nx _ _ H2 S2 (by simp [hl2]) s2 hk⟩
/-- x += e of numbers -/
def wAug (i : Nat) (g : Int → Int → Int) (w : WE) : WS := fun E ρ => (∃ s, ρ[i]? = some (some s)) ∧ w ρ fun y ρ1 => match ρ1[i]?, y.toD with
  | some (some (.fz (.int a))), .int b => E.nx (ρ1.set i (some (.fz (.int (g a b)))))
  | _, _ => False
theorem qs_aug {i : Nat} {x : Str} {op : Operator} {pos' : Pos} {g : Int → Int → Int} (hN : X.N.Nodup) (hi : X.N[i]? = some x) (hx : Loc X.env.scope x) (he : PD X C e t w) (ho : PIp X op (ipI g)) (hf : X.fn x = true ∨ X.env.scope.names.lookup x = some .local := by first | exact .inl rfl | exact .inr rfl | assumption) :
    QS X C (.AugAssign (.Name x pos') op e pos) (tAug i t (ipI g)) (wAug i g w) := ⟨ps_aug hN hi hx he.pe ho hf, by
  intro ρ ρx σ σx H S E D hl st hw f
  obtain ⟨⟨s0, e0⟩, hw⟩ := hw
  obtain ⟨v, h1, _⟩ := st.get (get_app e0)
  refine ⟨v, of_get_app h1 (hl ▸ lt_of_get e0), ?_⟩
  refine he.ok ρ ρx σ σx H S _ _ hl st hw fun y ρ1 u H1 S1 hl1 st1 hk => ?_
  split at hk
  · rename_i a b e1 e2
    have lx : (ρ1 ++ ρx).length = (σ ++ σx).length := by have := st1.len; simp only [List.length_append, List.length_cons, List.length_nil] at *; omega
    have st2 := st1.popLast
    obtain ⟨v', h2, okx⟩ := st2.get (get_app e1)
    rw [h1] at h2
    cases h2
    obtain rfl : v = .int a := okx
    refine ⟨a, b, rfl, (st1.last lx).int e2, ?_⟩
    exact f.nx _ _ H1 S1 (by simp [hl1]) (st2.assign hl1 (s := .fz (.int (g a b))) (v := .int (g a b)) rfl (fun z => by cases z) i) hk
  · exact hk.elim⟩

/-! ### lists of one's own -/
/-- x.append(e) -/
def wApp (i : Nat) (w : WE) : WE := fun ρ k => (∃ ds, ρ[i]? = some (some (.ol ds))) ∧ w ρ fun y ρ1 => match ρ1[i]? with
  | some (some (.ol ds)) => ds.length < 1000000 ∧ k (.fz .non) (ρ1.set i (some (.ol (ds ++ [y.toD]))))
  | _ => False
theorem pd_append {i : Nat} {es0 : Expr} (he : PD X C e t w) {tt : TE} (hp : PE X es0 tt) (htt : tt = tBM X.K "list" rAppend (tVar i) (tCons t tNil)) : PD X C es0 tt (wApp i w) := ⟨hp, by
  subst htt
  intro ρ ρx σ σx H S k Q hl st hw q
  obtain ⟨⟨ds0, e0⟩, hw⟩ := hw
  obtain ⟨v, h1, a, xs, rfl, m, h0, hx, hlen, hr⟩ := st.get (get_app e0)
  refine ⟨.ref a, of_get_app h1 (hl ▸ lt_of_get e0), Or.inl ⟨rfl, xs, SqL.of hx⟩, ?_⟩
  refine he.ok ρ ρx σ σx H S _ _ hl st hw fun y ρ1 u H1 S1 hl1 st1 hk => ?_
  split at hk
  · rename_i ds e1
    obtain ⟨S1', st1'⟩ := st1.lastD
    have lx : (ρ1 ++ ρx).length = (σ ++ σx).length := by have := st1.len; simp only [List.length_append, List.length_cons, List.length_nil] at *; omega
    have oky := st1'.last lx
    have st2 := st1'.popLast
    obtain ⟨v', h2, b, ys, rfl, m', h0', hy, hlen', hr'⟩ := st2.get (get_app e1)
    rw [h1] at h2
    cases h2
    have ly := hr'.len
    refine ⟨a, ys, u, rfl, rfl, hy, lim_lt (by omega), ?_⟩
    have st3 := st2.write (es := ds ++ [y.toD]) (ys := ys ++ [u]) (get_app e1) h1 (by rw [List.length_append]; show ys.length + 1 ≤ _; omega) (hr'.snoc oky)
    rw [app_set _ _ _ _ (lt_of_get e1)] at st3
    exact q (.fz .non) _ .non _ S1' (by simp [hl1]) (st3.pushF (d := .non) rfl) hk.2
  · exact hk.elim⟩
/-- x.pop() -/
def wPop (i : Nat) : WE := fun ρ k => match ρ[i]? with
  | some (some (.ol ds)) => ∃ d, ds.getLast? = some d ∧ k (.fz d) (ρ.set i (some (.ol ds.dropLast)))
  | _ => False
theorem pd_pop {i : Nat} {es0 : Expr} {tt : TE} (hp : PE X es0 tt) (htt : tt = tBM0 X.K "list" rPop (tVar i)) : PD X C es0 tt (wPop i) := ⟨hp, by
  subst htt
  intro ρ ρx σ σx H S k Q hl st hw q
  unfold wPop at hw
  split at hw
  · rename_i ds e1
    obtain ⟨d, hd, hk⟩ := hw
    obtain ⟨v, h1, a, ys, rfl, m, h0, hy, hlen, hr⟩ := st.get (get_app e1)
    have ly := hr.len
    rw [List.getLast?_eq_getElem?] at hd
    obtain ⟨y, hy1, hy2⟩ := hr.of hd
    refine ⟨.ref a, of_get_app h1 (hl ▸ lt_of_get e1), Or.inl ⟨rfl, ys, SqL.of hy⟩, a, ys, y, rfl, rfl, hy, by rw [ly]; exact hy1, ?_⟩
    have st2 := st.pushF hy2
    have e2 : ((ρ ++ ρx) ++ [some (Sl.fz d)])[i]? = some (some (.ol ds)) := get_app (get_app e1)
    have h2 : ((σ ++ σx) ++ [some y])[i]? = some (some (.ref a)) := get_app h1
    have st3 := st2.write (es := ds.dropLast) (ys := ys.dropLast) e2 h2 (by rw [List.length_dropLast]; omega) hr.dropLast
    have hi := lt_of_get e1
    rw [app_set _ _ _ _ (by rw [List.length_append]; omega), app_set _ _ _ _ hi] at st3
    exact q (.fz d) _ y _ S (by simp [hl]) st3 hk
  · exact hw.elim⟩
/-- x.extend(e) of a list -/
def wExt (i : Nat) (w : WE) : WE := fun ρ k => (∃ ds, ρ[i]? = some (some (.ol ds))) ∧ w ρ fun y ρ1 => match ρ1[i]?, y.toD with
  | some (some (.ol ds)), .lst es => ds.length + es.length ≤ 1000000 ∧ k (.fz .non) (ρ1.set i (some (.ol (ds ++ es))))
  | _, _ => False
theorem pd_extend {i : Nat} {es0 : Expr} (he : PD X C e t w) {tt : TE} (hp : PE X es0 tt) (htt : tt = tBM X.K "list" rExtend (tVar i) (tCons t tNil)) : PD X C es0 tt (wExt i w) := ⟨hp, by
  subst htt
  intro ρ ρx σ σx H S k Q hl st hw q
  obtain ⟨⟨ds0, e0⟩, hw⟩ := hw
  obtain ⟨v, h1, a, xs, rfl, m, h0, hx, hlen, hr⟩ := st.get (get_app e0)
  refine ⟨.ref a, of_get_app h1 (hl ▸ lt_of_get e0), Or.inl ⟨rfl, xs, SqL.of hx⟩, ?_⟩
  refine he.ok ρ ρx σ σx H S _ _ hl st hw fun y ρ1 u H1 S1 hl1 st1 hk => ?_
  split at hk
  · rename_i ds es e1 e2
    obtain ⟨S1', st1'⟩ := st1.lastD
    have lx : (ρ1 ++ ρx).length = (σ ++ σx).length := by have := st1.len; simp only [List.length_append, List.length_cons, List.length_nil] at *; omega
    obtain ⟨c, zs, rfl, z1, z2, z3⟩ := (st1'.last lx).lst (show (Sl.fz y.toD).toD = .lst es from e2)
    have st2 := st1'.popLast
    obtain ⟨v', h2, b, ys, rfl, m', h0', hy, hlen', hr'⟩ := st2.get (get_app e1)
    rw [h1] at h2
    cases h2
    have ly := hr'.len
    have lz := z3.len
    refine ⟨a, c, ys, zs, rfl, rfl, hy, z1, lim_line (by omega), ?_⟩
    have st3 := st2.write (es := ds ++ es) (ys := ys ++ zs) (get_app e1) h1 (by rw [List.length_append]; omega) (hr'.app z3)
    rw [app_set _ _ _ _ (lt_of_get e1)] at st3
    exact q (.fz .non) _ .non _ S1' (by simp [hl1]) (st3.pushF (d := .non) rfl) hk.2
  · exact hk.elim⟩
/-- x[i] = .. of a list of one's own -/
def wSub (i : Nat) (w : WE) : WG := fun s ρ k => (∃ ds, ρ[i]? = some (some (.ol ds))) ∧ w ρ fun y ρ1 => match ρ1[i]?, y.toD with
  | some (some (.ol ds)), .int n => ∃ j, ixN ds.length n = some j ∧ k (ρ1.set i (some (.ol (ds.set j s.toD))))
  | _, _ => False
theorem qg_sub {i : Nat} {tg : Expr} {g : TG} (hp : PG X tg g) (hg : g = gSub (tVar i) t rSetL) (he : OkB C t w) : QG X C [] tg g (wSub i w) := ⟨hp, by
  subst hg
  intro ρ ρx σ σx H S s v k Q hl st ok ap hw q
  obtain ⟨⟨ds0, e0⟩, hw⟩ := hw
  obtain ⟨va, h1, a, xs, rfl, m, h0, hx, hlen, hr⟩ := st.get (get_app e0)
  refine ⟨.ref a, of_get_app h1 (hl ▸ lt_of_get e0), ?_⟩
  -- the value as data
  obtain ⟨S0, st0⟩ := (st.push ok ap).lastD
  rw [List.append_assoc, List.append_assoc] at st0
  refine he ρ (ρx ++ [some (.fz s.toD)]) σ (σx ++ [some v]) H S0 _ _ hl st0 hw fun y ρ1 u H1 S1 hl1 st1 oky hk => ?_
  split at hk
  · rename_i ds n e1 e2
    obtain ⟨j, hj, hk⟩ := hk
    rw [← List.append_assoc, ← List.append_assoc] at st1
    have lx : (ρ1 ++ ρx).length = (σ ++ σx).length := by have := st1.len; simp only [List.length_append, List.length_cons, List.length_nil] at *; omega
    have okv := st1.last lx
    have st2 := st1.popLast
    obtain ⟨v', h2, b, ys, rfl, m', h0', hy, hlen', hr'⟩ := st2.get (get_app e1)
    rw [h1] at h2
    cases h2
    refine ⟨a, ys, n, j, rfl, oky.int e2, hy, by rw [hr'.len]; exact hj, ?_⟩
    have st3 := st2.write (es := ds.set j s.toD) (ys := ys.set j v) (get_app e1) h1 (by rw [List.length_set]; exact hlen') (Rps.set okv j hr')
    rw [app_set _ _ _ _ (lt_of_get e1)] at st3
    exact q _ σ _ S1 (by simp [hl1]) (At.refl σ) st3 hk
  · exact hk.elim⟩
end
end Q

set_option autoImplicit false
set_option linter.all false
/-! Q5: what is walked; for, while, comprehensions -/
namespace Q
open PySem L2
abbrev WI := Ev → (List D → Ev → Prop) → Prop
/-- an iterator that walks data, which the slots ρh hold -/
structure ItOk (C : Cxt) (J : It) (ρh : Ev) (σh : St) (ds : List D) : Prop where
  go : ∀ (ρ : Ev) (σ : St) (H : Hp) (S : List Addr) (i : Nat), ρ.length = σ.length → Sta C (ρ ++ ρh) (σ ++ σh) H S → i < ds.length → J.go i H
  stop : ∀ (ρ : Ev) (σ : St) (H : Hp) (S : List Addr), ρ.length = σ.length → Sta C (ρ ++ ρh) (σ ++ σh) H S → J.stop ds.length H
  keep : ∀ (i : Nat) (H : Hp) (x : V) (H' : Hp), J.yld i H x H' → Same H H'
  yld : ∀ (ρ : Ev) (σ : St) (H H' : Hp) (S : List Addr) (i : Nat) (x : V) (d : D), ρ.length = σ.length → Sta C (ρ ++ ρh) (σ ++ σh) H S → ds[i]? = some d → J.yld i H x H' → Sta C (ρ ++ ρh) (σ ++ σh) H' S ∧ Rp C.B (hid S H') x d
theorem ItOk.yldA {C : Cxt} {J : It} {ρh : Ev} {σh : St} {ds : List D} (it : ItOk C J ρh σh ds) {ρ : Ev} {σ : St} {H H' : Hp} {S : List Addr} {i : Nat} {x : V} {d : D} {o : Option Sl} {p : Option V} (hl : ρ.length = σ.length) (hh : ρh.length = σh.length) (st : Sta C ((ρ ++ ρh) ++ [o]) ((σ ++ σh) ++ [p]) H S) (hd : ds[i]? = some d) (y : J.yld i H x H') :
    Sta C ((ρ ++ ρh) ++ [o]) ((σ ++ σh) ++ [p]) H' S ∧ Rp C.B (hid S H') x d := by
  have l : (ρ ++ ρh).length = (σ ++ σh).length := by simp only [List.length_append]; omega
  obtain ⟨h1, h2⟩ := it.yld ρ σ H H' S i x d hl (st.drop l) hd y
  exact ⟨st.same (it.keep i H x H' y), h2⟩
def OkI (C : Cxt) (t : TI) (w : WI) : Prop := ∀ (ρ ρx : Ev) (σ σx : St) (H : Hp) (S : List Addr) (k : List D → Ev → Prop) (R : It → Hp → Prop), ρ.length = σ.length → Sta C (ρ ++ ρx) (σ ++ σx) H S → w ρ k →
  (∀ (ds : List D) (ρ' ρh : Ev) (σh : St) (J : It) (H' : Hp) (S' : List Addr), ρ'.length = σ.length → ρh.length = σh.length → Sta C ((ρ' ++ ρx) ++ ρh) ((σ ++ σx) ++ σh) H' S' → ItOk C J ρh σh ds → k ds ρ' → R J H') → t σ H R
structure QI (X : Cx) (C : Cxt) (tg iter : Expr) (t : TI) (w : WI) : Prop where
  pi : PI X tg iter t
  ok : OkI C t w
section
variable {X : Cx} {C : Cxt} {e a bx tg : Expr} {t ta tb : TE} {w wa wb : WE} {pos : Pos}
theorem split_at {α : Type} {l : List α} {i : Nat} (h : i < l.length) : ∃ x, l[i]? = some x := ⟨_, List.getElem?_eq_getElem h⟩
/-- a held list stands still -/
theorem Sta.held {ρ : Ev} {σ : St} {H : Hp} {S : List Addr} {d : D} {v : V} (hl : ρ.length = σ.length) (st : Sta C (ρ ++ [some (.fz d)]) (σ ++ [some v]) H S) : Rp C.B (hid S H) v d := st.last hl
theorem itok_list {K : PySem.W.Frag} {a : Addr} {ds : List D} : ItOk C (Itl K a) [some (.fz (.lst ds))] [some (.ref a)] ds := by
  have get : ∀ {ρ : Ev} {σ : St} {H : Hp} {S : List Addr}, ρ.length = σ.length → Sta C (ρ ++ [some (.fz (.lst ds))]) (σ ++ [some (.ref a)]) H S → ∃ xs, H a = some (.lst xs) ∧ Rps C.B (hid S H) xs ds := fun hl st => by
    obtain ⟨b, xs, e, h2, _, h4⟩ := st.held hl
    cases e
    exact ⟨xs, (hid_some h2).2, h4⟩
  refine ⟨fun ρ σ H S i hl st hi => ?_, fun ρ σ H S hl st => ?_, fun i H x H' y => by rw [y.1]; exact Same.refl _, fun ρ σ H H' S i x d hl st hd y => ?_⟩
  · obtain ⟨xs, h1, h2⟩ := get hl st
    have := h2.len
    exact (walk_list (K := K)).goes i H (by omega) (SqL.of h1)
  · obtain ⟨xs, h1, h2⟩ := get hl st
    rw [← h2.len]
    exact (walk_list (K := K)).stops H (SqL.of h1)
  · obtain ⟨xs, h1, h2⟩ := get hl st
    have hi := lt_of_get hd
    have := h2.len
    obtain ⟨rfl, hx⟩ := (walk_list (K := K)).yields i H x H' (by omega) (SqL.of h1) y
    obtain ⟨d', e1, e2⟩ := h2.at_ hx
    rw [hd] at e1
    cases e1
    exact ⟨st, e2⟩
theorem itok_tup {a : Addr} {ds : List D} : ItOk C (Itt C.B.K a) [some (.fz (.tup ds))] [some (.ref a)] ds := by
  have get : ∀ {ρ : Ev} {σ : St} {H : Hp} {S : List Addr}, ρ.length = σ.length → Sta C (ρ ++ [some (.fz (.tup ds))]) (σ ++ [some (.ref a)]) H S → ∃ xs, SqT C.B.K H a xs ∧ Rps C.B (hid S H) xs ds := fun hl st => by
    obtain ⟨b, xs, e, h2, _, h4⟩ := st.held hl
    cases e
    exact ⟨xs, sameT hid_same h2, h4⟩
  refine ⟨fun ρ σ H S i hl st hi => ?_, fun ρ σ H S hl st => ?_, fun i H x H' y => by rw [y.1]; exact Same.refl _, fun ρ σ H H' S i x d hl st hd y => ?_⟩
  · obtain ⟨xs, h1, h2⟩ := get hl st
    have := h2.len
    exact walk_tup.goes i H (by omega) h1
  · obtain ⟨xs, h1, h2⟩ := get hl st
    rw [← h2.len]
    exact walk_tup.stops H h1
  · obtain ⟨xs, h1, h2⟩ := get hl st
    have hi := lt_of_get hd
    have := h2.len
    obtain ⟨rfl, hx⟩ := walk_tup.yields i H x H' (by omega) h1 y
    obtain ⟨d', e1, e2⟩ := h2.at_ hx
    rw [hd] at e1
    cases e1
    exact ⟨st, e2⟩
/-- over a list -/
def wList (w : WE) : WI := fun ρ k => w ρ fun s ρ1 => match s.toD with
  | .lst ds => k ds ρ1
  | _ => False
theorem qi_list (h : PD X C e t w) : QI X C tg e (iList X.K t) (wList w) := ⟨pi_list h.pe, by
  intro ρ ρx σ σx H S k R hl st hw q
  refine h.ok ρ ρx σ σx H S _ _ hl st hw fun s ρ1 v H1 S1 hl1 st1 hk => ?_
  obtain ⟨S1', st1'⟩ := st1.lastD
  split at hk
  · rename_i ds e1
    rw [e1] at st1'
    have lx : (ρ1 ++ ρx).length = (σ ++ σx).length := by have := st1.len; simp only [List.length_append, List.length_cons, List.length_nil] at *; omega
    obtain ⟨a, xs, rfl, g1, _, _⟩ := (st1'.last lx).lst rfl
    exact ⟨a, rfl, ⟨xs, SqL.of g1⟩, q ds ρ1 _ _ _ H1 S1' hl1 rfl st1' itok_list hk⟩
  · exact hk.elim⟩
/-- over a tuple -/
def wTupI (w : WE) : WI := fun ρ k => w ρ fun s ρ1 => match s.toD with
  | .tup ds => k ds ρ1
  | _ => False
theorem qi_tup (F : Fit X C) (h : PD X C e t w) : QI X C tg e (iTup X.K t) (wTupI w) := ⟨pi_tup h.pe, by
  intro ρ ρx σ σx H S k R hl st hw q
  refine h.ok ρ ρx σ σx H S _ _ hl st hw fun s ρ1 v H1 S1 hl1 st1 hk => ?_
  obtain ⟨S1', st1'⟩ := st1.lastD
  split at hk
  · rename_i ds e1
    rw [e1] at st1'
    have lx : (ρ1 ++ ρx).length = (σ ++ σx).length := by have := st1.len; simp only [List.length_append, List.length_cons, List.length_nil] at *; omega
    obtain ⟨a, xs, rfl, g1, _, _⟩ := (st1'.last lx).tup rfl
    have it : ItOk C (Itt C.B.K a) [some (.fz (.tup ds))] [some (.ref a)] ds := itok_tup
    rw [F.K] at g1 it
    exact ⟨a, rfl, ⟨xs, g1⟩, q ds ρ1 _ _ _ H1 S1' hl1 rfl st1' it hk⟩
  · exact hk.elim⟩
/-- over a range -/
def rng (lo : Int) (n : Nat) : List D := (List.range n).map fun i => D.int (lo + (i : Nat))
theorem rng_get {lo : Int} {n i : Nat} {d : D} (h : (rng lo n)[i]? = some d) : i < n ∧ d = .int (lo + (i : Nat)) := by
  unfold rng at h
  rw [List.getElem?_map] at h
  obtain ⟨j, h1, h2⟩ := Option.map_eq_some_iff.mp h
  have := lt_of_get h1
  rw [List.length_range] at this
  rw [List.getElem?_range this] at h1
  cases h1
  exact ⟨this, h2.symm⟩
theorem itok_range {lo : Int} {n : Nat} : ItOk C (Itr lo n) [] [] (rng lo n) := by
  have ln : (rng lo n).length = n := by simp [rng]
  refine ⟨fun ρ σ H S i hl st hi => ?_, fun ρ σ H S hl st => ?_, fun i H x H' y => by rw [y.1]; exact Same.refl _, fun ρ σ H H' S i x d hl st hd y => ?_⟩
  · exact (walk_range (lo := lo)).goes i H (ln ▸ hi) trivial
  · rw [ln]; exact (walk_range (lo := lo)).stops H trivial
  · obtain ⟨hi, rfl⟩ := rng_get hd
    obtain ⟨rfl, rfl⟩ := (walk_range (lo := lo)).yields i H x H' hi trivial y
    exact ⟨st, rfl⟩
def wRng1 (wa : WA) : WI := fun ρ k => wa ρ fun ds ρ1 => match ds with
  | [.int j] => (-(2 ^ 62) ≤ j ∧ j < 2 ^ 62) ∧ k (rng 0 j.toNat) ρ1
  | _ => False
def wRng2 (wa : WA) : WI := fun ρ k => wa ρ fun ds ρ1 => match ds with
  | [.int i, .int j] => (-(2 ^ 62) ≤ i ∧ i < 2 ^ 62 ∧ -(2 ^ 62) ≤ j ∧ j < 2 ^ 62) ∧ k (rng i (j - i).toNat) ρ1
  | _ => False
theorem args_of {ρ ρx : Ev} {σ σx : St} {H : Hp} {S : List Addr} {ds : List D} {vs : List V} (lx : (ρ ++ ρx).length = (σ ++ σx).length) (st : Sta C ((ρ ++ ρx) ++ fzs ds) ((σ ++ σx) ++ vs.map some) H S) : Sta C (ρ ++ ρx) (σ ++ σx) H S ∧ Rps C.B (hid S H) vs ds := ⟨st.drop lx, st.args lx⟩
theorem qi_range1 {p : Pos} {ta : TA} {wa : WA} (hg : Gl X "range") (hm : X.mg "range" = none) (ha : QA X C [e] ta wa) (hs : starEach [e] X.env = [(false, eval e X.env)] := by rfl) : QI X C tg (.Call (.Name "range" p) [e] [] pos) (iRng1 ta) (wRng1 wa) := ⟨pi_range1 hg hm ha.pa hs, by
  intro ρ ρx σ σx H S k R hl st hw q
  refine ha.ok ρ ρx σ σx H S _ _ hl st hw fun ds ρ1 vs H1 S1 hl1 st1 hk => ?_
  have lx : (ρ1 ++ ρx).length = (σ ++ σx).length := by have := st.len; simp only [List.length_append] at *; omega
  obtain ⟨st2, r⟩ := args_of lx st1
  split at hk
  · rename_i j
    obtain ⟨v, rfl, h1⟩ := rps1 r
    rw [show v = _ from h1]
    exact ⟨j, rfl, hk.1.1, hk.1.2, q _ ρ1 [] [] _ H1 S1 hl1 rfl (by simpa using st2) itok_range hk.2⟩
  · exact hk.elim⟩
theorem qi_range2 {p : Pos} {ta : TA} {wa : WA} (hg : Gl X "range") (hm : X.mg "range" = none) (ha : QA X C [e, a] ta wa) (hs : starEach [e, a] X.env = [(false, eval e X.env), (false, eval a X.env)] := by rfl) (hs2 : starEach [a] X.env = [(false, eval a X.env)] := by rfl) : QI X C tg (.Call (.Name "range" p) [e, a] [] pos) (iRng2 ta) (wRng2 wa) := ⟨pi_range2 hg hm ha.pa hs hs2, by
  intro ρ ρx σ σx H S k R hl st hw q
  refine ha.ok ρ ρx σ σx H S _ _ hl st hw fun ds ρ1 vs H1 S1 hl1 st1 hk => ?_
  have lx : (ρ1 ++ ρx).length = (σ ++ σx).length := by have := st.len; simp only [List.length_append] at *; omega
  obtain ⟨st2, r⟩ := args_of lx st1
  split at hk
  · rename_i i j
    obtain ⟨v, u, rfl, h1, h2⟩ := rps2 r
    rw [show v = _ from h1, show u = _ from h2]
    exact ⟨i, j, rfl, hk.1, q _ ρ1 [] [] _ H1 S1 hl1 rfl (by simpa using st2) itok_range hk.2⟩
  · exact hk.elim⟩

/-! ### for -/
def loopW (g : WG) (body : WS) : List D → En → Ev → Prop
  | [], E, ρ => E.nx ρ
  | d :: ds, E, ρ => g (.fz d) ρ fun ρ1 => body { E with nx := loopW g body ds E, ct := loopW g body ds E, bk := E.nx } ρ1
def wFor (wi : WI) (g : WG) (body : WS) : WS := fun E ρ => wi ρ fun ds ρ1 => loopW g body ds E ρ1
theorem ok_for {is : List Nat} {ti : TI} {wi : WI} {g : TG} {u : WG} {tb : TS} {b : WS} (hi : OkI C ti wi) (hg : OkG C is g u) (hb : OkS C tb b) : OkS C (tFor ti g tb) (wFor wi u b) := by
  intro ρ ρx σ σx H S E D hl st hw f
  refine hi ρ ρx σ σx H S _ _ hl st hw fun ds ρ1 ρh σh J H1 S1 hl1 hh st1 it hk => ?_
  have lx : (ρ1 ++ ρx).length = (σ ++ σx).length := by have := st1.len; simp only [List.length_append] at *; omega
  have lxx : ρx.length = σx.length := by simp only [List.length_append] at lx; omega
  refine ⟨fun i m σ' H' => m = ds.length - i ∧ i ≤ ds.length ∧ ∃ ρ' S', ρ'.length = σ'.length ∧ Sta C ((ρ' ++ ρx) ++ ρh) ((σ' ++ σx) ++ σh) H' S' ∧ loopW u b (ds.drop i) E ρ', ⟨ds.length, by simp, Nat.zero_le _, ρ1, S1, hl1, st1, hk⟩, ?_⟩
  rintro i m σ' H' ⟨rfl, him, ρ', S', hl', st', hk'⟩
  have lx' : (ρ' ++ ρx).length = (σ' ++ σx).length := by simp only [List.length_append]; omega
  by_cases hlt : i < ds.length
  · obtain ⟨d, hd⟩ := split_at hlt
    rw [List.drop_eq_getElem_cons hlt] at hk'
    have ed : ds[i] = d := by rw [List.getElem?_eq_getElem hlt] at hd; exact Option.some.inj hd
    rw [ed] at hk'
    refine .inr ⟨it.go _ _ H' S' i lx' st' hlt, fun σ2 H2 => ∃ ρ2 S2, ρ2.length = σ2.length ∧ Sta C ((ρ2 ++ ρx) ++ ρh) ((σ2 ++ σx) ++ σh) H2 S2 ∧ loopW u b (ds.drop (i + 1)) E ρ2, fun σ2 H2 h2 => ⟨ds.length - (i + 1), by omega, rfl, hlt, h2⟩, fun x H2 y => ?_⟩
    obtain ⟨st2, r2⟩ := it.yld _ _ H' H2 S' i x d lx' st' hd y
    rw [List.append_assoc, List.append_assoc] at st2
    refine hg ρ' (ρx ++ ρh) σ' (σx ++ σh) H2 S' (.fz d) x _ _ hl' st2 r2 (fun z => by cases z) hk' fun ρ3 σ3 H3 S3 hl3 _ st3 hb3 => ?_
    refine hb ρ3 (ρx ++ ρh) σ3 (σx ++ σh) H3 S3 _ _ hl3 st3 hb3 ⟨fun ρ4 σ4 H4 S4 hl4 st4 h4 => ?_, fun ρ4 σ4 H4 S4 s v hl4 st4 h4 => ?_, fun ρ4 σ4 H4 S4 hl4 st4 h4 => ?_, fun ρ4 σ4 H4 S4 hl4 st4 h4 => ?_⟩
    · exact ⟨ρ4, S4, hl4, by rw [List.append_assoc, List.append_assoc]; exact st4, h4⟩
    · -- the held slots are dropped from below the value
      have ok := st4.last (by simp only [List.length_append]; omega)
      have ap := st4.apt
      have st5 := st4.popLast
      rw [← List.append_assoc, ← List.append_assoc] at st5
      have l5 : (ρ4 ++ ρx).length = (σ4 ++ σx).length := by simp only [List.length_append]; omega
      refine f.rt ρ4 σ4 H4 S4 s v hl4 ((st5.drop l5).push ok fun o k t ek to q => ?_) h4
      refine ap o k t ?_ to ?_
      · rw [← List.append_assoc]; exact get_app ek
      · rw [← List.append_assoc]; exact get_app q
    · rw [← List.append_assoc, ← List.append_assoc] at st4
      exact f.nx ρ4 σ4 H4 S4 hl4 (st4.drop (by simp only [List.length_append]; omega)) h4
    · exact ⟨ρ4, S4, hl4, by rw [List.append_assoc, List.append_assoc]; exact st4, h4⟩
  · have e : i = ds.length := by omega
    subst e
    rw [List.drop_length] at hk'
    exact .inl ⟨it.stop _ _ H' S' lx' st', f.nx ρ' σ' H' S' hl' (st'.drop lx') hk'⟩
theorem qs_for {is : List Nat} {iter : Expr} {body : List Stmt} {ti : TI} {wi : WI} {g : TG} {u : WG} {tb : TS} {b : WS} (hp : PassesOwn (model X.prog X.w) X.A X.env X.xe) (hc : X.calm = true) (hi : QI X C tg iter ti wi) (hg : QG X C is tg g u) (hb : QSs X C body tb b) (hs : ∀ x, foldedSetIterable iter X.env x = pure x := by intro _; rfl) :
    QS X C (.For tg iter body [] pos) (tFor ti g tb) (wFor wi u b) := ⟨ps_for hp hc hi.pi hg.pg hb.ps hs, ok_for hi.ok hg.ok hb.ok⟩

/-! ### while -/
def whW (c : WT) (body : WS) : Nat → En → Ev → Prop
  | 0, _, _ => False
  | n + 1, E, ρ => c ρ fun b ρ1 => if b = true then body { E with nx := whW c body n E, ct := whW c body n E, bk := E.nx } ρ1 else E.nx ρ1
def wWhile (c : WT) (body : WS) : WS := fun E ρ => ∃ n, whW c body n E ρ
theorem qs_while {c : Expr} {body : List Stmt} {tc : TT} {wc : WT} {tb : TS} {b : WS} (hp : PassesOwn (model X.prog X.w) X.A X.env X.xe) (hc : QT X C c tc wc) (hb : QSs X C body tb b) : QS X C (.While c body [] pos) (tWhile tc tb) (wWhile wc b) := ⟨ps_while hp hc.pt hb.ps, by
  intro ρ ρx σ σx H S E D hl st hw f
  obtain ⟨n, hw⟩ := hw
  refine ⟨fun m σ' H' => ∃ ρ' S', ρ'.length = σ'.length ∧ Sta C (ρ' ++ ρx) (σ' ++ σx) H' S' ∧ whW wc b m E ρ', ⟨n, ρ, S, hl, st, hw⟩, ?_⟩
  rintro m σ' H' ⟨ρ', S', hl', st', hk⟩
  cases m with
  | zero => exact hk.elim
  | succ m =>
    refine hc.ok ρ' ρx σ' σx H' S' _ _ hl' st' hk fun c ρ1 H1 S1 hl1 st1 hk1 => ?_
    cases c with
    | true =>
      refine ⟨fun σ2 H2 => ∃ ρ2 S2, ρ2.length = σ2.length ∧ Sta C (ρ2 ++ ρx) (σ2 ++ σx) H2 S2 ∧ whW wc b m E ρ2, fun σ2 H2 h => ⟨m, Nat.lt_succ_self _, h⟩, ?_⟩
      refine hb.ok ρ1 ρx σ' σx H1 S1 _ _ hl1 st1 hk1 ⟨fun ρ4 σ4 H4 S4 hl4 st4 h4 => ⟨ρ4, S4, hl4, st4, h4⟩, f.rt, fun ρ4 σ4 H4 S4 hl4 st4 h4 => f.nx ρ4 σ4 H4 S4 hl4 st4 h4, fun ρ4 σ4 H4 S4 hl4 st4 h4 => ⟨ρ4, S4, hl4, st4, h4⟩⟩
    | false => exact f.nx ρ1 σ' H1 S1 hl1 st1 hk1⟩

/-! ### comprehensions -/
def wipeE (ρ : Ev) : List Nat → Ev
  | [] => ρ
  | v :: vs => (wipeE ρ vs).set v none
theorem wipeE_len (ρ : Ev) : ∀ vs : List Nat, (wipeE ρ vs).length = ρ.length
  | [] => rfl
  | v :: vs => by unfold wipeE; rw [List.length_set, wipeE_len ρ vs]
theorem Sta.wipe {ρ ρx : Ev} {σ σx : St} {H : Hp} {S : List Addr} (hl : ρ.length = σ.length) (st : Sta C (ρ ++ ρx) (σ ++ σx) H S) : ∀ vs : List Nat, Sta C (wipeE ρ vs ++ ρx) (L2.wipe σ vs ++ σx) H S
  | [] => st
  | v :: vs => by
    have ih := Sta.wipe hl st vs
    unfold wipeE L2.wipe
    by_cases hv : v < ρ.length
    · have h1 : v < (wipeE ρ vs).length := by rw [wipeE_len]; exact hv
      have h2 : v < (L2.wipe σ vs).length := by rw [wipe_length]; omega
      have := (ih.forget v).blind (set_none _ _) none
      rw [app_set _ _ _ _ h1, app_set _ _ _ _ h2] at this
      exact this
    · rw [List.set_eq_of_length_le (by rw [wipeE_len]; omega), List.set_eq_of_length_le (by rw [wipe_length]; omega)]
      exact ih
/-- .. where the slots keep what they hold -/
theorem Sta.wipeF {ρ ρx : Ev} {σ σx : St} {H : Hp} {S : List Addr} (st : Sta C (ρ ++ ρx) (σ ++ σx) H S) : ∀ vs : List Nat, Sta C (wipeE ρ vs ++ ρx) (σ ++ σx) H S
  | [] => st
  | v :: vs => by
    have ih := Sta.wipeF st vs
    unfold wipeE
    by_cases hv : v < ρ.length
    · have h1 : v < (wipeE ρ vs).length := by rw [wipeE_len]; exact hv
      have := ih.forget v
      rw [app_set _ _ _ _ h1] at this
      exact this
    · rw [List.set_eq_of_length_le (by rw [wipeE_len]; omega)]
      exact ih
theorem wipe_get (σ : St) (j : Nat) : ∀ vs : List Nat, (L2.wipe σ vs)[j]? = if j ∈ vs ∧ j < σ.length then some none else σ[j]?
  | [] => by simp [L2.wipe]
  | v :: vs => by
    unfold L2.wipe
    by_cases hj : v = j
    · subst hj
      by_cases hv : v < σ.length
      · rw [List.getElem?_set_self (by rw [wipe_length]; exact hv), if_pos ⟨List.mem_cons_self, hv⟩]
      · rw [List.set_eq_of_length_le (by rw [wipe_length]; omega), wipe_get σ v vs, if_neg (fun z => hv z.2), if_neg (fun z => hv z.2)]
    · rw [List.getElem?_set_ne hj, wipe_get σ j vs]
      by_cases hm : j ∈ vs ∧ j < σ.length
      · rw [if_pos hm, if_pos ⟨List.mem_cons_of_mem _ hm.1, hm.2⟩]
      · rw [if_neg hm, if_neg (fun z => hm ⟨(List.mem_cons.mp z.1).resolve_left (Ne.symm hj), z.2⟩)]
theorem wipe_at {is vs : List Nat} {σ σ' : St} (a : At is σ σ') (h : ∀ i ∈ is, i ∈ vs) : L2.wipe σ' vs = L2.wipe σ vs := by
  apply List.ext_getElem?
  intro j
  rw [wipe_get, wipe_get, a.1]
  by_cases hj : j ∈ vs ∧ j < σ.length
  · rw [if_pos hj, if_pos hj]
  · rw [if_neg hj, if_neg hj]
    by_cases hm : j ∈ is
    · have : ¬ j < σ.length := fun z => hj ⟨h j hm, z⟩
      have := a.1
      rw [List.getElem?_eq_none (by omega), List.getElem?_eq_none (by omega)]
    · exact a.2 j hm
theorem wipe_idem (σ : St) (vs : List Nat) : L2.wipe (L2.wipe σ vs) vs = L2.wipe σ vs := by
  apply List.ext_getElem?
  intro j
  rw [wipe_get, wipe_get, wipe_length]
  by_cases hj : j ∈ vs ∧ j < σ.length
  · rw [if_pos hj, if_pos hj]
  · rw [if_neg hj, if_neg hj]
/-- the turns of a comprehension: what is made so far -/
def lcW (vs : List Nat) (g : WG) (c : WT) (we : WE) : List D → List D → Ev → (List D → Ev → Prop) → Prop
  | [], acc, ρ, k => k acc ρ
  | d :: ds, acc, ρ, k => g (.fz d) ρ fun ρ1 => c ρ1 fun b ρ2 => if b = true then we ρ2 fun s ρ3 => acc.length < 1000000 ∧ lcW vs g c we ds (acc ++ [s.toD]) (wipeE ρ3 vs) k else lcW vs g c we ds acc (wipeE ρ2 vs) k
def wLc (vs : List Nat) (wi : WI) (g : WG) (c : WT) (we : WE) : WE := fun ρ k => wi ρ fun ds ρ1 => lcW vs g c we ds [] (wipeE ρ1 vs) fun acc ρ2 => k (.ol acc) ρ2
theorem Sta.agree {ρ : Ev} {σ σ' : St} {H : Hp} {S : List Addr} (st : Sta C ρ σ H S) (hl : σ'.length = σ.length) (h : ∀ (i : Nat) (s : Sl), ρ[i]? = some (some s) → σ'[i]? = σ[i]?) : Sta C ρ σ' H S :=
  ⟨st.wd, st.sub, st.own, st.al, st.al0, st.bagO, st.len.trans hl.symm, fun i s e => by rw [h i s e]; exact st.sl i s e, fun i j s t v e1 e2 o1 o2 q1 q2 => st.ap i j s t v e1 e2 o1 o2 (by rw [← h i s e1]; exact q1) (by rw [← h j t e2]; exact q2)⟩
theorem wipeE_get (ρ : Ev) {v : Nat} : ∀ {vs : List Nat}, v ∈ vs → ∀ s, (wipeE ρ vs)[v]? ≠ some (some s)
  | [], h, _ => by cases h
  | u :: vs, h, s => by
    unfold wipeE
    by_cases hu : u = v
    · subst hu; exact set_none _ _ s
    · rw [List.getElem?_set_ne hu]
      exact wipeE_get ρ ((List.mem_cons.mp h).resolve_left (Ne.symm hu)) s
/-- from the wiped slots to those as they stand -/
theorem Sta.unwipe {ρ ρx : Ev} {σ σx : St} {H : Hp} {S : List Addr} {vs : List Nat} (hl : ρ.length = σ.length) (st : Sta C (ρ ++ ρx) (L2.wipe σ vs ++ σx) H S) (hn : ∀ v ∈ vs, ∀ s, ρ[v]? ≠ some (some s)) : Sta C (ρ ++ ρx) (σ ++ σx) H S := by
  refine st.agree (by simp [wipe_length]) fun i s e => ?_
  by_cases hi : i < ρ.length
  · have e' := of_get_app e hi
    rw [List.getElem?_append_left (by omega), List.getElem?_append_left (by rw [wipe_length]; omega), wipe_get, if_neg]
    exact fun z => hn i z.1 s e'
  · rw [List.getElem?_append_right (by omega), List.getElem?_append_right (by rw [wipe_length]; omega), wipe_length]
theorem ok_lc {is vs : List Nat} {ti : TI} {wi : WI} {g : TG} {u : WG} {tt : TT} {wt : WT} (hi : OkI C ti wi) (hg : OkG C is g u) (ht : OkT C tt wt) (he : OkE C t w) (hv : ∀ i ∈ is, i ∈ vs) : OkE C (tLc ti g tt t vs) (wLc vs wi u wt w) := by
  intro ρ ρx σ σx H S k Qd hl st hw q
  refine hi ρ ρx σ σx H S _ _ hl st hw fun ds ρ1 ρh σh J H1 S1 hl1 hh st1 it hk D hD => ?_
  have lx : (ρ1 ++ ρx).length = (σ ++ σx).length := by have := st1.len; simp only [List.length_append] at *; omega
  have lxx : ρx.length = σx.length := by simp only [List.length_append] at lx; omega
  have re : ∀ (ρ' : Ev) (a : List Q.D), ((ρ' ++ ρx) ++ ρh) ++ [some (.ol a)] = ρ' ++ (ρx ++ ρh ++ [some (.ol a)]) := fun ρ' a => by simp only [List.append_assoc]
  have rs : ∀ σ' : St, ((σ' ++ σx) ++ σh) ++ [some (.ref D)] = σ' ++ (σx ++ σh ++ [some (.ref D)]) := fun σ' => by simp only [List.append_assoc]
  refine ⟨fun i m H' => m = ds.length - i ∧ i ≤ ds.length ∧ ∃ acc ρ' S', ρ'.length = σ.length ∧ (∀ v ∈ vs, ∀ s, ρ'[v]? ≠ some (some s)) ∧ Sta C (ρ' ++ (ρx ++ ρh ++ [some (.ol acc)])) (L2.wipe σ vs ++ (σx ++ σh ++ [some (.ref D)])) H' S' ∧ lcW vs u wt w (ds.drop i) acc ρ' (fun acc ρ2 => k (.ol acc) ρ2), ⟨ds.length, by simp, Nat.zero_le _, [], wipeE ρ1 vs, D :: S1, by rw [wipeE_len]; exact hl1, fun v m s => wipeE_get ρ1 m s, ?_, hk⟩, ?_⟩
  · have := st1.pushL (ds := []) (xs := []) hD (Nat.zero_le _) Rps.nil
    rw [re, rs] at this
    exact this.wipe hl1 vs
  · rintro i m H' ⟨rfl, him, acc, ρ', S', hl', hn, stw, hk'⟩
    have lx' : (ρ' ++ ρx).length = (L2.wipe σ vs ++ σx).length := by simp only [List.length_append, wipe_length]; omega
    have lh' : ((ρ' ++ ρx) ++ ρh).length = ((L2.wipe σ vs ++ σx) ++ σh).length := by simp only [List.length_append, wipe_length] at *; omega
    have stl := stw
    rw [← re, ← rs] at stl
    by_cases hlt : i < ds.length
    · obtain ⟨d, hd⟩ := split_at hlt
      rw [List.drop_eq_getElem_cons hlt] at hk'
      have ed : ds[i] = d := by rw [List.getElem?_eq_getElem hlt] at hd; exact Option.some.inj hd
      rw [ed] at hk'
      refine .inr ⟨it.go _ _ H' S' i lx' stl.popLast hlt, fun H2 => ∃ acc ρ2 S2, ρ2.length = σ.length ∧ (∀ v ∈ vs, ∀ s, ρ2[v]? ≠ some (some s)) ∧ Sta C (ρ2 ++ (ρx ++ ρh ++ [some (.ol acc)])) (L2.wipe σ vs ++ (σx ++ σh ++ [some (.ref D)])) H2 S2 ∧ lcW vs u wt w (ds.drop (i + 1)) acc ρ2 (fun acc ρ2 => k (.ol acc) ρ2), fun H2 h2 => ⟨ds.length - (i + 1), by omega, rfl, hlt, h2⟩, fun x H2 y => ?_⟩
      -- the item: the heap may have a new pair
      obtain ⟨st2, r2⟩ := it.yldA (ρ := ρ' ++ ρx) (σ := L2.wipe σ vs ++ σx) lx' hh stl hd y
      rw [re, rs] at st2
      refine hg ρ' (ρx ++ ρh ++ [some (.ol acc)]) (L2.wipe σ vs) (σx ++ σh ++ [some (.ref D)]) H2 S' (.fz d) x _ _ (by rw [wipe_length]; exact hl') st2 r2 (fun z => by cases z) hk' fun ρ3 σ3 H3 S3 hl3 a3 st3 hk3 => ?_
      have ew : L2.wipe σ3 vs = L2.wipe σ vs := by rw [wipe_at a3 hv, wipe_idem]
      have l3 : σ3.length = σ.length := by rw [a3.1, wipe_length]
      refine ⟨ew, ?_⟩
      refine ht ρ3 (ρx ++ ρh ++ [some (.ol acc)]) σ3 (σx ++ σh ++ [some (.ref D)]) H3 S3 _ _ hl3 st3 hk3 fun b ρ4 H4 S4 hl4 st4 hk4 => ?_
      cases b with
      | false =>
        refine ⟨acc, wipeE ρ4 vs, S4, by rw [wipeE_len]; omega, fun v m s => wipeE_get ρ4 m s, ?_, hk4⟩
        have := st4.wipe hl4 vs
        rw [ew] at this
        exact this
      | true =>
        refine he ρ4 (ρx ++ ρh ++ [some (.ol acc)]) σ3 (σx ++ σh ++ [some (.ref D)]) H4 S4 _ _ hl4 st4 hk4 fun s ρ5 v H5 S5 hl5 st5 hk5 => ?_
        obtain ⟨S5', st5'⟩ := st5.lastD
        have l5 : (ρ5 ++ (ρx ++ ρh ++ [some (Sl.ol acc)])).length = (σ3 ++ (σx ++ σh ++ [some (V.ref D)])).length := by simp only [List.length_append, List.length_cons, List.length_nil] at *; omega
        have okv := st5'.last l5
        have st6 := st5'.popLast
        have e6 : (ρ5 ++ (ρx ++ ρh ++ [some (.ol acc)]))[ρ5.length + ρx.length + ρh.length]? = some (some (.ol acc)) := by
          rw [← re, List.getElem?_append_right (by simp only [List.length_append]; omega)]
          simp only [List.length_append]
          rw [show ρ5.length + ρx.length + ρh.length - (ρ5.length + ρx.length + ρh.length) = 0 from by omega]
          rfl
        have q6 : (σ3 ++ (σx ++ σh ++ [some (V.ref D)]))[ρ5.length + ρx.length + ρh.length]? = some (some (.ref D)) := by
          rw [← rs, List.getElem?_append_right (by simp only [List.length_append]; omega)]
          simp only [List.length_append]
          rw [show ρ5.length + ρx.length + ρh.length - (σ3.length + σx.length + σh.length) = 0 from by omega]
          rfl
        obtain ⟨v', h2, b, ys, rfl, m', h0', hy, hlen', hr'⟩ := st6.get e6
        rw [q6] at h2
        cases h2
        have ly := hr'.len
        refine ⟨ys, hy, lim_lt (by omega), ?_⟩
        have st7 := st6.write (es := acc ++ [s.toD]) (ys := ys ++ [v]) e6 q6 (by rw [List.length_append]; show ys.length + 1 ≤ _; omega) (hr'.snoc okv)
        have e7 : (ρ5 ++ (ρx ++ ρh ++ [some (Sl.ol acc)])).set (ρ5.length + ρx.length + ρh.length) (some (.ol (acc ++ [s.toD]))) = ρ5 ++ (ρx ++ ρh ++ [some (.ol (acc ++ [s.toD]))]) := by
          rw [← re, ← re, List.set_append_right _ _ (by simp only [List.length_append]; omega)]
          simp only [List.length_append]
          rw [show ρ5.length + ρx.length + ρh.length - (ρ5.length + ρx.length + ρh.length) = 0 from by omega]
          rfl
        rw [e7] at st7
        refine ⟨acc ++ [s.toD], wipeE ρ5 vs, S5', by rw [wipeE_len]; omega, fun v m s => wipeE_get ρ5 m s, ?_, hk5.2⟩
        have := st7.wipe hl5 vs
        rw [ew] at this
        exact this
    · have e : i = ds.length := by omega
      subst e
      rw [List.drop_length] at hk'
      refine .inl ⟨it.stop _ _ H' S' lx' stl.popLast, ?_⟩
      have stf := stw.unwipe hl' hn
      rw [← re, ← rs] at stf
      have lf : (ρ' ++ ρx).length = (σ ++ σx).length := by simp only [List.length_append]; omega
      have lhf : ((ρ' ++ ρx) ++ ρh).length = ((σ ++ σx) ++ σh).length := by simp only [List.length_append] at *; omega
      refine q (.ol acc) ρ' (.ref D) H' S' hl' ((stf.popLast.drop lf).push (stf.last lhf) fun o j t ej to z => ?_) hk'
      exact stf.apt o j t (get_app ej) to (get_app z)
theorem pd_lc {scope : Scope} {own : List (Str × Nat)} {is : List Nat} {iter elt : Expr} {ifs : List Expr} {ti : TI} {wi : WI} {g : TG} {u : WG} {tt : TT} {wt : WT} (hc : X.calm = true) (hN : X.N.Nodup) (hi : QI X C tg iter ti wi) (ok : BlkOk X.N X.env.scope scope own)
    (hg : ∀ (s : Shared) (H : Hp) (Cl : Addr) (cl : List (Str × Addr)) (fp : List Addr), QG (X.blk s H scope (compEnvC scope cl Cl X.env) fp) C is tg g u) (ht : ∀ (s : Shared) (H : Hp) (Cl : Addr) (cl : List (Str × Addr)) (fp : List Addr), PTs (X.blk s H scope (compEnvC scope cl Cl X.env) fp) ifs tt) (ht' : OkT C tt wt)
    (he : ∀ (s : Shared) (H : Hp) (Cl : Addr) (cl : List (Str × Addr)) (fp : List Addr), PD (X.blk s H scope (compEnvC scope cl Cl X.env) fp) C elt t w) (hv : ∀ i ∈ is, i ∈ own.map (·.2)) (hs : ∀ x, foldedSetIterable iter X.env x = pure x := by intro _; rfl) (h0 : OkG C is g u) (h1 : OkE C t w) :
    PD X C (.ListComp elt [⟨tg, iter, ifs, 0⟩] scope pos) (tLc ti g tt t (own.map (·.2))) (wLc (own.map (·.2)) wi u wt w) := ⟨pe_lc hc hN hi.pi ok (fun s H Cl cl fp => (hg s H Cl cl fp).pg) ht (fun s H Cl cl fp => (he s H Cl cl fp).pe) hs, ok_lc hi.ok h0 ht' h1 hv⟩

/-! ### enumerate, zip, reversed, the signs of a text -/
theorem Sta.newTup {ρ : Ev} {σ : St} {H : Hp} {S : List Addr} (st : Sta C ρ σ H S) {T : Addr} {xs : List V} {ds : List D} (hT : H T = none) (hl : xs.length ≤ 1000000) (r : Rps C.B (hid S H) xs ds) : Sta C ρ σ (upd H T (.tup xs)) S ∧ Rp C.B (hid S (upd H T (.tup xs))) (.ref T) (.tup ds) :=
  ⟨st.new hT, T, xs, rfl, SqT.of (by rw [hid_ne (st.notS hT), upd_same]), hl, Rps.same (hid_new hT) ds r⟩
def enumD (ds : List D) : List D := (List.range ds.length).zipWith (fun i d => D.tup [.int (i : Nat), d]) ds
theorem enumD_len (ds : List D) : (enumD ds).length = ds.length := by simp [enumD]
theorem enumD_get {ds : List D} {i : Nat} {d : D} (h : (enumD ds)[i]? = some d) : ∃ x, ds[i]? = some x ∧ d = .tup [.int (i : Nat), x] := by
  unfold enumD at h
  rw [List.getElem?_zipWith] at h
  have hi : i < ds.length := by
    cases e : ds[i]? with
    | none => rw [e] at h; cases q : (List.range ds.length)[i]? <;> rw [q] at h <;> cases h
    | some x => exact lt_of_get e
  rw [List.getElem?_range hi, List.getElem?_eq_getElem hi] at h
  cases h
  exact ⟨_, List.getElem?_eq_getElem hi, rfl⟩
theorem itok_enum {K : PySem.W.Frag} {a : Addr} {ds : List D} : ItOk C (Ite K a) [some (.fz (.lst ds))] [some (.ref a)] (enumD ds) := by
  have get : ∀ {ρ : Ev} {σ : St} {H : Hp} {S : List Addr}, ρ.length = σ.length → Sta C (ρ ++ [some (.fz (.lst ds))]) (σ ++ [some (.ref a)]) H S → ∃ xs, H a = some (.lst xs) ∧ Rps C.B (hid S H) xs ds := fun hl st => by
    obtain ⟨b, xs, e, h2, _, h4⟩ := st.held hl
    cases e
    exact ⟨xs, (hid_some h2).2, h4⟩
  refine ⟨fun ρ σ H S i hl st hi => ?_, fun ρ σ H S hl st => ?_, fun i H x H' y => ?_, fun ρ σ H H' S i x d hl st hd y => ?_⟩
  · obtain ⟨xs, h1, h2⟩ := get hl st
    rw [enumD_len, ← h2.len] at hi
    exact (walk_enum (K := K)).goes i H hi (SqL.of h1)
  · obtain ⟨xs, h1, h2⟩ := get hl st
    rw [enumD_len, ← h2.len]
    exact (walk_enum (K := K)).stops H (SqL.of h1)
  · obtain ⟨T, x, h1, h2, rfl, h4⟩ := y
    exact fun b o e => by rw [upd_ne (ne_of_none e h2)]; exact e
  · obtain ⟨xs, h1, h2⟩ := get hl st
    obtain ⟨z, hz, rfl⟩ := enumD_get hd
    have hi := lt_of_get hz
    have := h2.len
    obtain ⟨T, y1, y2, rfl, hT, rfl, e1, e2⟩ := (walk_enum (K := K)).yields i H x H' (by omega) (SqL.of h1) y
    cases e1
    obtain ⟨d', e3, e4⟩ := h2.at_ e2
    rw [hz] at e3
    cases e3
    exact st.newTup hT (by show 2 ≤ 1000000; decide) (.cons rfl (.cons e4 .nil))
def wEnum (w : WE) : WI := fun ρ k => w ρ fun s ρ1 => match s.toD with
  | .lst ds => k (enumD ds) ρ1
  | _ => False
theorem sets1 {ρ : Ev} {σ : St} {s : Sl} {v : V} : ρ ++ fzs [s.toD] = ρ ++ [some (Sl.fz s.toD)] ∧ σ ++ [v].map some = σ ++ [some v] := ⟨rfl, rfl⟩
theorem qi_enum (F : Fit X C) {p tpos : Pos} {elts : List Expr} {kk : Nat} (hg : Gl X "enumerate") (hm : X.mg "enumerate" = none) (ha : PD X C e t w) (hs : starEach [e] X.env = (false, eval e X.env) :: starEach [] X.env := by rfl) : QI X C (.Tuple elts kk tpos) (.Call (.Name "enumerate" p) [e] [] pos) (iEnum X.K (tCons t tNil)) (wEnum w) := ⟨pi_enum hg hm (pa_cons ha.pe pa_nil hs) hs, by
  intro ρ ρx σ σx H S k R hl st hw q
  refine ha.ok ρ ρx σ σx H S _ _ hl st hw fun s ρ1 v H1 S1 hl1 st1 hk => ?_
  obtain ⟨S1', st1'⟩ := st1.lastD
  split at hk
  · rename_i ds e1
    rw [e1] at st1'
    have lx : (ρ1 ++ ρx).length = (σ ++ σx).length := by have := st1.len; simp only [List.length_append, List.length_cons, List.length_nil] at *; omega
    obtain ⟨a, xs, rfl, g1, _, _⟩ := (st1'.last lx).lst rfl
    exact ⟨a, xs, rfl, SqL.of g1, q _ ρ1 _ _ _ H1 S1' hl1 rfl st1' itok_enum hk⟩
  · exact hk.elim⟩
def zipD (ds es : List D) : List D := ds.zipWith (fun d e => D.tup [d, e]) es
theorem zipD_len (ds es : List D) : (zipD ds es).length = min ds.length es.length := by simp [zipD]
theorem zipD_get {ds es : List D} {i : Nat} {d : D} (h : (zipD ds es)[i]? = some d) : ∃ x y, ds[i]? = some x ∧ es[i]? = some y ∧ d = .tup [x, y] := by
  unfold zipD at h
  rw [List.getElem?_zipWith] at h
  cases e : ds[i]? with
  | none => rw [e] at h; cases h
  | some x =>
    cases f : es[i]? with
    | none => rw [e, f] at h; cases h
    | some y => rw [e, f] at h; cases h; exact ⟨x, y, rfl, rfl, rfl⟩
theorem Sta.held2 {ρ : Ev} {σ : St} {H : Hp} {S : List Addr} {d d' : D} {v v' : V} (hl : ρ.length = σ.length) (st : Sta C (ρ ++ [some (.fz d), some (.fz d')]) (σ ++ [some v, some v']) H S) : Rp C.B (hid S H) v d ∧ Rp C.B (hid S H) v' d' := by
  have e1 : ρ ++ [some (Sl.fz d), some (.fz d')] = (ρ ++ [some (.fz d)]) ++ [some (.fz d')] := by simp
  have e2 : σ ++ [some v, some v'] = (σ ++ [some v]) ++ [some v'] := by simp
  rw [e1, e2] at st
  exact ⟨st.popLast.held hl, st.held (by simp [hl])⟩
theorem itok_zip {K : PySem.W.Frag} {a b : Addr} {ds es : List D} : ItOk C (Itz K a b) [some (.fz (.lst ds)), some (.fz (.lst es))] [some (.ref a), some (.ref b)] (zipD ds es) := by
  have get : ∀ {ρ : Ev} {σ : St} {H : Hp} {S : List Addr}, ρ.length = σ.length → Sta C (ρ ++ [some (.fz (.lst ds)), some (.fz (.lst es))]) (σ ++ [some (.ref a), some (.ref b)]) H S → ∃ xs ys, H a = some (.lst xs) ∧ H b = some (.lst ys) ∧ Rps C.B (hid S H) xs ds ∧ Rps C.B (hid S H) ys es := fun hl st => by
    obtain ⟨⟨b', xs, e, h2, _, h4⟩, ⟨b2, ys, e', g2, _, g4⟩⟩ := st.held2 hl
    cases e
    cases e'
    exact ⟨xs, ys, (hid_some h2).2, (hid_some g2).2, h4, g4⟩
  refine ⟨fun ρ σ H S i hl st hi => ?_, fun ρ σ H S hl st => ?_, fun i H x H' y => ?_, fun ρ σ H H' S i x d hl st hd y => ?_⟩
  · obtain ⟨xs, ys, h1, h2, h3, h4⟩ := get hl st
    rw [zipD_len, ← h3.len, ← h4.len] at hi
    exact (walk_zip (K := K) rfl).goes i H hi ⟨SqL.of h1, SqL.of h2⟩
  · obtain ⟨xs, ys, h1, h2, h3, h4⟩ := get hl st
    rw [zipD_len, ← h3.len, ← h4.len]
    exact (walk_zip (K := K) rfl).stops H ⟨SqL.of h1, SqL.of h2⟩
  · obtain ⟨T, x, z, h1, h2, rfl, h4⟩ := y
    exact fun b o e => by rw [upd_ne (ne_of_none e h2)]; exact e
  · obtain ⟨xs, ys, h1, h2, h3, h4⟩ := get hl st
    obtain ⟨z, u, hz, hu, rfl⟩ := zipD_get hd
    have l1 := lt_of_get hz
    have l2 := lt_of_get hu
    have := h3.len
    have := h4.len
    obtain ⟨T, y1, y2, rfl, hT, rfl, e1, e2⟩ := (walk_zip (K := K) rfl).yields i H x H' (by omega) ⟨SqL.of h1, SqL.of h2⟩ y
    obtain ⟨d', e3, e4⟩ := h3.at_ e1
    rw [hz] at e3
    cases e3
    obtain ⟨d'', e5, e6⟩ := h4.at_ e2
    rw [hu] at e5
    cases e5
    exact st.newTup hT (by show 2 ≤ 1000000; decide) (.cons e4 (.cons e6 .nil))
theorem itok_zipT {a b : Addr} {ds es : List D} : ItOk C (RZ.ItzT C.B.K a b) [some (.fz (.tup ds)), some (.fz (.tup es))] [some (.ref a), some (.ref b)] (zipD ds es) := by
  have get : ∀ {ρ : Ev} {σ : St} {H : Hp} {S : List Addr}, ρ.length = σ.length → Sta C (ρ ++ [some (.fz (.tup ds)), some (.fz (.tup es))]) (σ ++ [some (.ref a), some (.ref b)]) H S → ∃ xs ys, SqT C.B.K H a xs ∧ SqT C.B.K H b ys ∧ Rps C.B (hid S H) xs ds ∧ Rps C.B (hid S H) ys es := fun hl st => by
    obtain ⟨⟨b', xs, e, h2, _, h4⟩, ⟨b2, ys, e', g2, _, g4⟩⟩ := st.held2 hl
    cases e
    cases e'
    exact ⟨xs, ys, sameT hid_same h2, sameT hid_same g2, h4, g4⟩
  refine ⟨fun ρ σ H S i hl st hi => ?_, fun ρ σ H S hl st => ?_, fun i H x H' y => ?_, fun ρ σ H H' S i x d hl st hd y => ?_⟩
  · obtain ⟨xs, ys, h1, h2, h3, h4⟩ := get hl st
    rw [zipD_len, ← h3.len, ← h4.len] at hi
    exact (RF.walk_zipT rfl).goes i H hi ⟨h1, h2⟩
  · obtain ⟨xs, ys, h1, h2, h3, h4⟩ := get hl st
    rw [zipD_len, ← h3.len, ← h4.len]
    exact (RF.walk_zipT rfl).stops H ⟨h1, h2⟩
  · obtain ⟨T, x, z, h1, h2, rfl, h4⟩ := y
    exact fun b o e => by rw [upd_ne (ne_of_none e h2)]; exact e
  · obtain ⟨xs, ys, h1, h2, h3, h4⟩ := get hl st
    obtain ⟨z, u, hz, hu, rfl⟩ := zipD_get hd
    have l1 := lt_of_get hz
    have l2 := lt_of_get hu
    have := h3.len
    have := h4.len
    obtain ⟨T, y1, y2, rfl, hT, rfl, e1, e2⟩ := (RF.walk_zipT rfl).yields i H x H' (by omega) ⟨h1, h2⟩ y
    obtain ⟨d', e3, e4⟩ := h3.at_ e1
    rw [hz] at e3
    cases e3
    obtain ⟨d'', e5, e6⟩ := h4.at_ e2
    rw [hu] at e5
    cases e5
    exact st.newTup hT (by show 2 ≤ 1000000; decide) (.cons e4 (.cons e6 .nil))
def wZip (wa : WA) : WI := fun ρ k => wa ρ fun ds ρ1 => match ds with
  | [.lst xs, .lst ys] => k (zipD xs ys) ρ1
  | [.tup xs, .tup ys] => k (zipD xs ys) ρ1
  | _ => False
theorem qi_zip (F : Fit X C) {ta : TA} {wa : WA} {p tpos : Pos} {elts : List Expr} {kk : Nat} (hg : Gl X "zip") (hm : X.mg "zip" = none) (ha : QA X C [e, a] ta wa) (hs : starEach [e, a] X.env = (false, eval e X.env) :: starEach [a] X.env := by rfl) (hpl : (backTo pos (starEach [a] X.env)).any (·.1) = false := by rfl) :
    QI X C (.Tuple elts kk tpos) (.Call (.Name "zip" p) [e, a] [] pos) (RZ.iZipA X.K ta) (wZip wa) := ⟨RZ.pi_zipA hg hm ha.pa hs hpl, by
  intro ρ ρx σ σx H S k R hl st hw q
  refine ha.ok ρ ρx σ σx H S _ _ hl st hw fun ds ρ1 vs H1 S1 hl1 st1 hk => ?_
  have lx : (ρ1 ++ ρx).length = (σ ++ σx).length := by have := st.len; simp only [List.length_append] at *; omega
  obtain ⟨st2, r⟩ := args_of lx st1
  split at hk
  · rename_i xs ys
    obtain ⟨v, u, rfl, h1, h2⟩ := rps2 r
    obtain ⟨a, us, rfl, g1, _, _⟩ := id h1
    obtain ⟨b, ws, rfl, g2, _, _⟩ := id h2
    exact ⟨a, b, us, ws, rfl, .inl ⟨SqL.of (hid_some g1).2, SqL.of (hid_some g2).2, q _ ρ1 [some (.fz (.lst xs)), some (.fz (.lst ys))] [some (.ref a), some (.ref b)] _ H1 S1 hl1 rfl (by simpa [fzs] using st1) itok_zip hk⟩⟩
  · rename_i xs ys
    obtain ⟨v, u, rfl, h1, h2⟩ := rps2 r
    obtain ⟨a, us, rfl, g1, _, _⟩ := id h1
    obtain ⟨b, ws, rfl, g2, _, _⟩ := id h2
    have it : ItOk C (RZ.ItzT C.B.K a b) [some (.fz (.tup xs)), some (.fz (.tup ys))] [some (.ref a), some (.ref b)] (zipD xs ys) := itok_zipT
    rw [F.K] at g1 g2 it
    exact ⟨a, b, us, ws, rfl, .inr ⟨sameT hid_same g1, sameT hid_same g2, q _ ρ1 _ _ _ H1 S1 hl1 rfl (by simpa [fzs] using st1) it hk⟩⟩
  · exact hk.elim⟩
theorem itok_rev {K : PySem.W.Frag} {a : Addr} {ds : List D} : ItOk C (Itv K a ds.length) [some (.fz (.lst ds))] [some (.ref a)] ds.reverse := by
  have get : ∀ {ρ : Ev} {σ : St} {H : Hp} {S : List Addr}, ρ.length = σ.length → Sta C (ρ ++ [some (.fz (.lst ds))]) (σ ++ [some (.ref a)]) H S → ∃ xs, xs.length = ds.length ∧ H a = some (.lst xs) ∧ Rps C.B (hid S H) xs ds := fun hl st => by
    obtain ⟨b, xs, e, h2, _, h4⟩ := st.held hl
    cases e
    exact ⟨xs, h4.len, (hid_some h2).2, h4⟩
  refine ⟨fun ρ σ H S i hl st hi => ?_, fun ρ σ H S hl st => ?_, fun i H x H' y => by rw [y.1]; exact Same.refl _, fun ρ σ H H' S i x d hl st hd y => ?_⟩
  · obtain ⟨xs, h0, h1, h2⟩ := get hl st
    rw [List.length_reverse, ← h0] at hi
    rw [← h0]
    exact (walk_rev (K := K)).goes i H hi (SqL.of h1)
  · obtain ⟨xs, h0, h1, h2⟩ := get hl st
    rw [List.length_reverse, ← h0]
    exact (walk_rev (K := K)).stops H (SqL.of h1)
  · obtain ⟨xs, h0, h1, h2⟩ := get hl st
    have hi := lt_of_get hd
    rw [List.length_reverse] at hi
    rw [← h0] at y
    obtain ⟨rfl, hx⟩ := (walk_rev (K := K)).yields i H x H' (by omega) (SqL.of h1) y
    obtain ⟨d', e1, e2⟩ := h2.at_ hx
    rw [List.getElem?_reverse (by omega), ← h0, e1] at hd
    cases hd
    exact ⟨st, e2⟩
def wRevI (w : WE) : WI := fun ρ k => w ρ fun s ρ1 => match s.toD with
  | .lst ds => k ds.reverse ρ1
  | _ => False
theorem qi_rev {p : Pos} (hg : Gl X "reversed") (hm : X.mg "reversed" = none) (ha : PD X C e t w) (hs : starEach [e] X.env = (false, eval e X.env) :: starEach [] X.env := by rfl) : QI X C tg (.Call (.Name "reversed" p) [e] [] pos) (iRev X.K (tCons t tNil)) (wRevI w) := ⟨pi_reversed hg hm (pa_cons ha.pe pa_nil hs) hs, by
  intro ρ ρx σ σx H S k R hl st hw q
  refine ha.ok ρ ρx σ σx H S _ _ hl st hw fun s ρ1 v H1 S1 hl1 st1 hk => ?_
  obtain ⟨S1', st1'⟩ := st1.lastD
  split at hk
  · rename_i ds e1
    rw [e1] at st1'
    have lx : (ρ1 ++ ρx).length = (σ ++ σx).length := by have := st1.len; simp only [List.length_append, List.length_cons, List.length_nil] at *; omega
    obtain ⟨a, xs, rfl, g1, _, g3⟩ := (st1'.last lx).lst rfl
    have it : ItOk C (Itv X.K a ds.length) [some (.fz (.lst ds))] [some (.ref a)] ds.reverse := itok_rev
    rw [← g3.len] at it
    exact ⟨a, xs, rfl, SqL.of g1, q _ ρ1 _ _ _ H1 S1' hl1 rfl st1' it hk⟩
  · exact hk.elim⟩
/-- the signs of a text -/
def signsD (z : Str) : List D := z.cps.toList.map fun c => .str ⟨#[c]⟩
theorem itok_str {z : Str} : ItOk C (Its z) [] [] (signsD z) := by
  have ln : (signsD z).length = z.cps.size := by simp [signsD]
  refine ⟨fun ρ σ H S i hl st hi => ?_, fun ρ σ H S hl st => ?_, fun i H x H' y => by rw [y.1]; exact Same.refl _, fun ρ σ H H' S i x d hl st hd y => ?_⟩
  · exact walk_str.goes i H (ln ▸ hi) trivial
  · rw [ln]; exact walk_str.stops H trivial
  · have hi : i < z.cps.size := ln ▸ lt_of_get hd
    obtain ⟨rfl, c, hc, rfl⟩ := walk_str.yields i H x H' hi trivial y
    refine ⟨st, ?_⟩
    unfold signsD at hd
    rw [List.getElem?_map, Array.getElem?_toList, hc] at hd
    cases hd
    rfl
def wStrI (w : WE) : WI := fun ρ k => w ρ fun s ρ1 => match s.toD with
  | .str z => k (signsD z) ρ1
  | _ => False
theorem qi_str (h : PD X C e t w) : QI X C tg e (iStr t) (wStrI w) := ⟨pi_str h.pe, by
  intro ρ ρx σ σx H S k R hl st hw q
  refine h.ok ρ ρx σ σx H S _ _ hl st hw fun s ρ1 v H1 S1 hl1 st1 hk => ?_
  split at hk
  · rename_i z e1
    have lx : (ρ1 ++ ρx).length = (σ ++ σx).length := by have := st1.len; simp only [List.length_append, List.length_cons, List.length_nil] at *; omega
    exact ⟨z, (st1.last lx).str e1, q _ ρ1 [] [] _ H1 S1 hl1 rfl (by simpa using st1.popLast) itok_str hk⟩
  · exact hk.elim⟩
end
end Q


set_option autoImplicit false
set_option linter.all false
/-! Q6: what a def promises over data; calls -/
namespace Q
open PySem L2
open RF (Df pe_callD BagAt)
open PyProof.Rows (envOfC)
abbrev Ph := List D → (Sl → Prop) → (Exc → Prop) → Prop
def ExcOk (B : Bk) (S : List Addr) (H : Hp) (e : Exc) (cls : Value) (d : Option Addr) : Prop := ∃ (Cl dd : Addr) (fs : List (Str × V)), B.mg e.c = some (.ref Cl) ∧ cls = .ref Cl ∧ d = some dd ∧ H dd = some (.xd fs) ∧ fs.map (·.1) = e.ns ∧ Rps B (hid S H) (fs.map (·.2)) e.ds
def RetOk (B : Bk) (S : List Addr) (H H' : Hp) (v : V) : Sl → Prop
  | .fz d => Rp B (hid S H') v d
  | .ol ds => ∃ a xs, v = .ref a ∧ H a = none ∧ H' a = some (.lst xs) ∧ xs.length ≤ 1000000 ∧ Rps B (hid (a :: S) H') xs ds
def spD (K : PySem.W.Frag) (mg : Str → Option Value) (ub : Bool) (Φ : Ph) : Sp := fun vs H Q E => ∃ (B : Bk) (S : List Addr) (ds : List D) (k : Sl → Prop) (xk : Exc → Prop), B.K = K ∧ B.mg = mg ∧ (∀ a ∈ S, H a ≠ none) ∧ (ub = true → BagAt H B.bag B.cel ∧ B.bag ∈ S ∧ B.cel ∈ S) ∧
  Rps B (hid S H) vs ds ∧ Φ ds k xk ∧ (∀ s v H', Chg ub B H H' → RetOk B S H H' v s → k s → Q v H') ∧ (∀ e cls d H', Chg ub B H H' → ExcOk B S H' e cls d → xk e → E cls d H')
def startE (N : List Str) (ds : List D) : Ev := fzs ds ++ List.replicate (N.length - ds.length) none
theorem Sta.nones {C : Cxt} {ρ : Ev} {σ : St} {H : Hp} {S : List Addr} (st : Sta C ρ σ H S) (n : Nat) : Sta C (ρ ++ List.replicate n none) (σ ++ List.replicate n none) H S := by
  have hl := st.len
  have cut : ∀ (i : Nat) (s : Sl), (ρ ++ List.replicate n none)[i]? = some (some s) → i < ρ.length ∧ ρ[i]? = some (some s) := fun i s e => by
    by_cases hi : i < ρ.length
    · exact ⟨hi, of_get_app e hi⟩
    · rw [List.getElem?_append_right (by omega), List.getElem?_replicate] at e
      split at e <;> cases e
  refine ⟨st.wd, st.sub, st.own, st.al, st.al0, st.bagO, by simp [hl], fun i s e => ?_, fun i j s t v e1 e2 o1 o2 q1 q2 => ?_⟩
  · obtain ⟨hi, e⟩ := cut i s e
    obtain ⟨v, q, k⟩ := st.sl i s e
    exact ⟨v, get_app q, k⟩
  · obtain ⟨hi, e1⟩ := cut i s e1
    obtain ⟨hj, e2⟩ := cut j t e2
    exact st.ap i j s t v e1 e2 o1 o2 (of_get_app q1 (hl ▸ hi)) (of_get_app q2 (hl ▸ hj))
theorem Sta.begin {B : Bk} {ub : Bool} {S : List Addr} {H : Hp} {xk : Exc → Prop} (al : ∀ a ∈ S, H a ≠ none) (bg : ub = true → BagAt H B.bag B.cel ∧ B.bag ∈ S ∧ B.cel ∈ S) : Sta ⟨B, ub, S, H, xk⟩ [] [] H S :=
  ⟨⟨fun _ _ _ e => e, fun u => (bg u).1⟩, fun _ m => m, fun _ m => .inl m, al, al, fun u => (bg u).2, rfl, fun i s e => by simp at e, fun i j s t v e => by simp at e⟩
/-- what is handed back -/
theorem Sta.ret {C : Cxt} {ρ : Ev} {σ : St} {H : Hp} {S : List Addr} {s : Sl} {v : V} (st : Sta C ρ σ H S) (ok : SlOk C S H v s) : RetOk C.B C.Oc C.H0 H v s := by
  cases s with
  | fz d => exact Rp.same (hid_le st.sub) d ok
  | ol ds =>
    obtain ⟨a, xs, h1, h2, h3, h4, h5, h6⟩ := ok
    refine ⟨a, xs, h1, h3, h4, h5, Rps.same (hid_le fun b m => ?_) ds h6⟩
    rcases List.mem_cons.mp m with rfl | m
    · exact h2
    · exact st.sub b m
/-- a def that raises nothing, by its body -/
theorem fn_pd {P : Program} {wd : World} {K : PySem.W.Frag} {mg : Str → Option Value} {base : Heap} {x qual : Str} {st : Stmt} {f : Addr} {fd : FuncData} {N ps : List Str} {j : Nat} {ub : Bool} {Φ : Ph} (F : Fun K x qual st f fd) (Sc : FnScope N ps (defScope st)) (len : ∀ ds k xk, Φ ds k xk → ds.length = ps.length)
    (hbody : ∀ (cdv : Value) (A : Around) (outer : List Env) (s : Shared) (H : Hp) (E : XK) (C : Cxt) (ds : List D) (k : Sl → Prop) (xk : Exc → Prop), Room j (A.deeper (envOfC qual (defScope st) s.heap.objs.size f cdv)) → Fit (cxOf CX0 P wd K mg base N qual (defScope st) f cdv A outer s H E).nox C → C.ub = ub → Φ ds k xk →
      ∃ t w, QSs (cxOf CX0 P wd K mg base N qual (defScope st) f cdv A outer s H E).nox C (defBody st) t w ∧ w { nx := fun _ => k (.fz .non), rt := k } (startE N ds)) : FnOk P wd K mg base CX0 (j + 1) f fd ps (spD K mg ub Φ) := by
  refine F.ok Sc (fun vs H Q E h => ?_) (fun cdv A outer s H vs Q E hr h => ?_)
  · obtain ⟨B, S, ds, k, xk, _, _, _, _, r, φ, _⟩ := h
    rw [r.len]
    exact len _ _ _ φ
  · obtain ⟨B, S, ds, k, xk, e1, e2, al, bg, r, φ, q, _⟩ := h
    obtain ⟨t, w, hb, hw⟩ := hbody cdv A outer s H E ⟨B, ub, S, H, xk⟩ ds k xk hr ⟨e1, e2⟩ rfl φ
    refine ⟨t, hb.ps, ?_⟩
    have ln := len _ _ _ φ
    have s1 := ((Sta.begin (xk := xk) al bg).pushs r).nones (N.length - ds.length)
    have e3 : ([] ++ fzs ds) ++ List.replicate (N.length - ds.length) none = startE N ds ++ [] := by simp [startE]
    have e4 : ([] ++ vs.map some) ++ List.replicate (N.length - ds.length) none = L2.start N vs ++ [] := by simp [L2.start, r.len]
    rw [e3, e4] at s1
    refine hb.ok (startE N ds) [] (L2.start N vs) [] H S _ _ (by have := s1.len; simpa using this) s1 hw ⟨fun ρ σ H' S' hl st' h' => ?_, fun ρ σ H' S' s v hl st' h' => ?_, fun _ _ _ _ _ _ h => h.elim, fun _ _ _ _ _ _ h => h.elim⟩
    · exact q (.fz .non) .non H' st'.wd rfl h'
    · exact q s v H' st'.wd (st'.popLast.ret (st'.last (by simpa using hl))) h'
/-- what comes of a call -/
theorem l_call {K : PySem.W.Frag} {mg : Str → Option Value} {C : Cxt} {ub : Bool} {Φ : Ph} (hK : C.B.K = K) (hmg : C.B.mg = mg) (hu : ub = true → C.ub = true) (E : XK) : LiftN C (fun vs H Q => spD K mg ub Φ vs H Q E) (fun ds k => Φ ds k fun _ => False) := by
  intro ρ σ H S ds vs k Q st r φ q
  refine ⟨C.B, S, ds, k, fun _ => False, hK, hmg, st.al, fun u => ⟨st.wd.bag (hu u), st.sub _ (st.bagO (hu u)).1, st.sub _ (st.bagO (hu u)).2⟩, r, φ, fun s v H' c rt hk => ?_, fun e cls d H' _ _ z => z.elim⟩
  cases s with
  | fz d => exact q (.fz d) v H' S ((st.chg hu c).pushF rt) hk
  | ol es =>
    obtain ⟨a, xs, rfl, h1, h2, h3, h4⟩ := rt
    exact q (.ol es) _ H' _ (st.pushR hu c h1 h2 h3 h4) hk
section
variable {X : Cx} {C : Cxt} {e a bx : Expr} {es : List Expr} {t ta tb : TE} {w wa wb : WE} {pos p : Pos} {j k : Nat} {x : Str} {ps : List Str} {ub : Bool} {Φ : Ph}
def pCall (Φ : Ph) : PN := fun ds k => Φ ds k fun _ => False
theorem pd_call (Fi : Fit X C) (F : Df X.prog X.w X.K X.mg X.base k x ps (spD X.K X.mg ub Φ)) (hr : Room j X.A) (hk : k ≤ j) {ta : TA} {wa : WA} (ha : QA X C (e :: es) ta wa) (hu : ub = true → C.ub = true := by intro h; first | (cases h; done) | assumption)
    (hg : Gl X x := by rfl) (hdb : (x == ("__debug__" : Str)) = false := by decide)
    (he : starEach (e :: es) X.env = (false, eval e X.env) :: starEach es X.env := by rfl) (hpl : (backTo pos (starEach es X.env)).any (·.1) = false := by rfl) :
    PD X C (.Call (.Name x p) (e :: es) [] pos) (tCall (spD X.K X.mg ub Φ) [] L2.E0 ta) (wArg (pCall Φ) wa) := ⟨pe_callD F hr hk ha.pa hg hdb he hpl, by
  have h := l_call (Φ := Φ) Fi.K Fi.mg hu L2.E0
  have := ok_arg h ha.ok
  intro ρ ρx σ σx H S k Q hl st hw q
  have h2 := this ρ ρx σ σx H S k Q hl st hw q
  refine (show (ta σ H fun vs H1 => spD X.K X.mg ub Φ (vs ++ []) H1 Q L2.E0) from ?_)
  simp only [List.append_nil]
  exact h2⟩
end
/-- a weaker promise -/
theorem spD_imp {P : Program} {wd : World} {K : PySem.W.Frag} {mg : Str → Option Value} {base : Heap} {CX : CXT} {k : Nat} {f : Addr} {fd : FuncData} {ps : List Str} {ub : Bool} {Φ Ψ : Ph} (F : FnOk P wd K mg base CX k f fd ps (spD K mg ub Φ)) (h : ∀ ds k xk, Ψ ds k xk → Φ ds k xk) : FnOk P wd K mg base CX k f fd ps (spD K mg ub Ψ) :=
  F.imp fun vs H Q E ⟨B, S, ds, k, xk, h1, h2, h3, h4, h5, h6, h7⟩ => ⟨B, S, ds, k, xk, h1, h2, h3, h4, h5, h _ _ _ h6, h7⟩
end Q

set_option autoImplicit false
set_option linter.all false
/-! Q7: f-strings, methods of texts, displays, chains, more of calls -/
namespace Q
open PySem L2
section
variable {X : Cx} {C : Cxt} {e a bx : Expr} {es : List Expr} {t ta tb : TE} {w wa wb : WE} {pos p : Pos}
/-! ### f-strings -/
def pFmt : P1 := fun x k => match x.toD with
  | .str y => y.length ≤ sizeLine ∧ k (.fz (.str y))
  | .int i => i.natAbs.log2 < 1920 ∧ k (.fz (.str (tS i)))
  | _ => False
theorem pd_fmt (h : PB X C e t w) : PD X C (.FormattedValue e (-1) none pos) (tFmt t) (wUn pFmt w) := ⟨pe_fmt h.pe, by
  refine ok_un (r := fun x H1 Q => (∃ y : Str, x = .str y ∧ y.length ≤ sizeLine ∧ Q (.str y) H1) ∨ ∃ i : Int, x = .int i ∧ i.natAbs.log2 < 1920 ∧ Q (.str (toString i)) H1) ?_ h.ok
  intro ρ σ H S x vx k Q st ox h q
  unfold pFmt at h
  split at h
  · rename_i y e
    exact .inl ⟨y, ox.str e, h.1, ans_str st q h.2⟩
  · rename_i i e
    exact .inr ⟨i, ox.int e, h.1, ans_str st q h.2⟩
  · exact h.elim⟩
inductive QJ (X : Cx) (C : Cxt) : List Expr → List TE → List WE → Prop where
  | nil : QJ X C [] [] []
  | cons {e : Expr} {t : TE} {w : WE} {es : List Expr} {ts : List TE} {ws : List WE} (h : PD X C e t w) (r : QJ X C es ts ws) : QJ X C (e :: es) (t :: ts) (w :: ws)
theorem QJ.pj {es : List Expr} {ts : List TE} {ws : List WE} (h : QJ X C es ts ws) : PJ X es ts := by
  induction h with
  | nil => exact .nil
  | cons h r ih => exact .cons h.pe ih
def wJs : List WE → Str → Ev → (Str → Ev → Prop) → Prop
  | [], acc, ρ, k => k acc ρ
  | w :: ws, acc, ρ, k => w ρ fun s ρ1 => match s.toD with
    | .str y => (acc ++ y).length ≤ sizeLine ∧ wJs ws (acc ++ y) ρ1 k
    | _ => False
theorem ok_js {es : List Expr} {ts : List TE} {ws : List WE} (h : QJ X C es ts ws) : ∀ (acc : Str) (ρ ρx : Ev) (σ σx : St) (H : Hp) (S : List Addr) (k : Str → Ev → Prop) (Q : Str → Hp → Prop), ρ.length = σ.length → Sta C (ρ ++ ρx) (σ ++ σx) H S → wJs ws acc ρ k →
    (∀ (out : Str) (ρ' : Ev) (H' : Hp) (S' : List Addr), ρ'.length = σ.length → Sta C (ρ' ++ ρx) (σ ++ σx) H' S' → k out ρ' → Q out H') → tJs ts acc σ H Q := by
  induction h with
  | nil => intro acc ρ ρx σ σx H S k Q hl st hw q; exact q acc ρ H S hl st hw
  | cons h r ih =>
    intro acc ρ ρx σ σx H S k Q hl st hw q
    refine h.ok ρ ρx σ σx H S _ _ hl st hw fun s ρ1 v H1 S1 hl1 st1 hk => ?_
    split at hk
    · rename_i y e1
      have lx : (ρ1 ++ ρx).length = (σ ++ σx).length := by have := st1.len; simp only [List.length_append, List.length_cons, List.length_nil] at *; omega
      exact ⟨y, (st1.last lx).str e1, hk.1, ih (acc ++ y) ρ1 ρx σ σx H1 S1 k Q hl1 st1.popLast hk.2 q⟩
    · exact hk.elim
def wJoin (ws : List WE) : WE := fun ρ k => wJs ws Str.empty ρ fun out ρ1 => k (.fz (.str out)) ρ1
theorem pd_joined {v1 v2 : Expr} {rest : List Expr} {ts : List TE} {ws : List WE} (h : QJ X C (v1 :: v2 :: rest) ts ws) : PD X C (.JoinedStr (v1 :: v2 :: rest) pos) (fun σ H Q => tJs ts Str.empty σ H fun out H1 => Q (.str out) H1) (wJoin ws) := ⟨pe_joined h.pj, fun ρ ρx σ σx H S k Q hl st hw q =>
  ok_js h Str.empty ρ ρx σ σx H S _ _ hl st hw fun out ρ' H' S' hl' st' hk => q (.fz (.str out)) ρ' _ H' S' hl' (st'.pushF rfl) hk⟩
theorem pd_joined1 (h : PD X C e t w) : PD X C (.JoinedStr [e] pos) t w := ⟨pe_joined1 h.pe, h.ok⟩

/-! ### methods of texts -/
def wM1 (p : PN) (wo we : WE) : WE := fun ρ k => wo ρ fun x ρ1 => (∃ z, x.toD = .str z) ∧ we ρ1 fun y ρ2 => p [x.toD, y.toD] fun z => k z ρ2
theorem ok_m1 {r : V → List V → Hp → VK → Prop} {p : PN} (h : LiftN C (fun vs H Q => match vs with | [x, y] => r x [y] H Q | _ => False) p) (ho : OkE C ta wa) (he : OkE C tb wb) : OkE C (tM1 r ta tb) (wM1 p wa wb) := by
  intro ρ ρx σ σx H S k Q hl st hw q
  refine ho ρ ρx σ σx H S _ _ hl st hw fun x ρ1 vx H1 S1 hl1 st1 hw1 => ?_
  obtain ⟨⟨z, ez⟩, hw1⟩ := hw1
  obtain ⟨S1', st1⟩ := st1.lastD
  have lx1 : (ρ1 ++ ρx).length = (σ ++ σx).length := by have := st1.len; simp only [List.length_append, List.length_cons, List.length_nil] at *; omega
  refine ⟨⟨z, (st1.last lx1).str ez⟩, ?_⟩
  rw [List.append_assoc, List.append_assoc] at st1
  refine he ρ1 (ρx ++ [some (.fz x.toD)]) σ (σx ++ [some vx]) H1 S1' _ _ hl1 st1 hw1 fun y ρ2 vy H2 S2 hl2 st2 hp => ?_
  obtain ⟨S2', st2⟩ := st2.lastD
  have l2 : (ρ2 ++ ρx).length = (σ ++ σx).length := by have := st2.len; simp only [List.length_append, List.length_cons, List.length_nil] at *; omega
  have e1 : (ρ2 ++ (ρx ++ [some (Sl.fz x.toD)])) ++ [some (.fz y.toD)] = (ρ2 ++ ρx) ++ fzs [x.toD, y.toD] := by simp [fzs]
  have e2 : (σ ++ (σx ++ [some vx])) ++ [some vy] = (σ ++ σx) ++ [vx, vy].map some := by simp
  rw [e1, e2] at st2
  exact h (ρ2 ++ ρx) (σ ++ σx) H2 S2' _ _ _ Q (st2.drop l2) (st2.args l2) hp fun z v H' S' st' hk => q z ρ2 v H' S' hl2 st' hk
/-- a.join(list of texts) -/
def pJoin : PN := fun ds k => match ds with
  | [.str a, .lst es] => ∃ ys, strsD es = some ys ∧ (ys.map (·.length)).sum + ys.length * a.length ≤ 16777216 ∧ k (.fz (.str (Txt.join a ys)))
  | [.str a, .tup es] => ∃ ys, strsD es = some ys ∧ (ys.map (·.length)).sum + ys.length * a.length ≤ 16777216 ∧ k (.fz (.str (Txt.join a ys)))
  | _ => False
theorem pd_join (F : Fit X C) {apos : Pos} (ho : PD X C e ta wa) (he : PD X C a tb wb) (hs : starEach [a] X.env = [(false, eval a X.env)] := by rfl) (hbase : attributeBase e "join" X.env (eval e X.env) = eval e X.env := by rfl) (hline : (apos.endLine == pos.line) = true := by rfl) :
    PD X C (.Call (.Attribute e "join" apos) [a] [] pos) (tM1 (fun x xs H Q => ∃ a p, ∃ ys : List Str, x = .str a ∧ xs = [.ref p] ∧ (SqL X.K H p (ys.map V.str) ∨ SqT X.K H p (ys.map V.str)) ∧
      (ys.map (·.length)).sum + ys.length * a.length ≤ 16777216 ∧ Q (.str (Txt.join a ys)) H) ta tb) (wM1 pJoin wa wb) := ⟨pe_join ho.pe he.pe hs hbase hline, by
  refine ok_m1 ?_ ho.ok he.ok
  intro ρ σ H S ds vs k Q st rr h q
  unfold pJoin at h
  split at h
  · rename_i z es
    obtain ⟨ys, h1, h2, h3⟩ := h
    obtain ⟨v, u, rfl, r1, r2⟩ := rps2 rr
    obtain ⟨b, us, rfl, g1, g2, g3⟩ := r2
    obtain rfl := strs_V g3 h1
    exact ⟨z, b, ys, r1, rfl, .inl (SqL.of (hid_some g1).2), h2, ans_str st q h3⟩
  · rename_i z es
    obtain ⟨ys, h1, h2, h3⟩ := h
    obtain ⟨v, u, rfl, r1, r2⟩ := rps2 rr
    obtain ⟨b, us, rfl, g1, g2, g3⟩ := r2
    obtain rfl := strs_V g3 h1
    rw [F.K] at g1
    exact ⟨z, b, ys, r1, rfl, .inr (sameT hid_same g1), h2, ans_str st q h3⟩
  · exact h.elim⟩
/-- a.zfill(n) -/
def pZfill : PN := fun ds k => match ds with
  | [.str a, .int i] => PadOk i = true ∧ k (.fz (.str (Txt.zfill a i)))
  | _ => False
theorem l_zfill : LiftN C (fun vs H Q => match vs with | [x, y] => (fun x xs H Q => ∃ (a : Str) (i : Int), x = V.str a ∧ xs = [V.int i] ∧ PadOk i = true ∧ Q (V.str (Txt.zfill a i)) H) x [y] H Q | _ => False) pZfill := by
  intro ρ σ H S ds vs k Q st rr h q
  unfold pZfill at h
  split at h
  · rename_i z i
    obtain ⟨v, u, rfl, r1, r2⟩ := rps2 rr
    exact ⟨z, i, r1, by rw [show u = _ from r2], h.1, ans_str st q h.2⟩
  · exact h.elim
theorem pd_m1 {id : String} {name : Str} {apos : Pos} {r : V → List V → Hp → VK → Prop} {p : PN} (slot : PySem.Slot "str" name id) (ty : typeOf (.builtin id) = pure (.type "method_descriptor")) (rule : MtR X id r) (h : LiftN C (fun vs H Q => match vs with | [x, y] => r x [y] H Q | _ => False) p) (ho : PD X C e ta wa) (he : PD X C a tb wb)
    (hs : starEach [a] X.env = [(false, eval a X.env)] := by rfl) (hbase : attributeBase e name X.env (eval e X.env) = eval e X.env := by rfl) (hline : (apos.endLine == pos.line) = true := by rfl) :
    PD X C (.Call (.Attribute e name apos) [a] [] pos) (tM1 r ta tb) (wM1 p wa wb) := ⟨pe_m1 slot ty rule ho.pe he.pe hs hbase hline, ok_m1 h ho.ok he.ok⟩

/-! ### displays -/
def pTupN : PN := fun ds k => ds.length ≤ 1000000 ∧ k (.fz (.tup ds))
def pLstN : PN := fun ds k => ds.length ≤ 1000000 ∧ k (.ol ds)
theorem l_tupN : LiftN C (fun xs H Q => xs.length ≤ sizeLine ∧ ∀ p, H p = none → Q (.ref p) (upd H p (.tup xs))) pTupN := fun ρ σ H S ds vs k Q st rr h q =>
  have l := rr.len
  ⟨lim_line (by have := h.1; omega), fun p hp => ans_tup st q (by have := h.1; omega) rr h.2 p hp⟩
theorem l_lstN : LiftN C (fun xs H Q => xs.length ≤ sizeLine ∧ ∀ p, H p = none → Q (.ref p) (upd H p (.lst xs))) pLstN := fun ρ σ H S ds vs k Q st rr h q =>
  have l := rr.len
  ⟨lim_line (by have := h.1; omega), fun p hp => ans_ol st q (by have := h.1; omega) rr h.2 p hp⟩
theorem pd_tup {x1} {ta : TA} {wa : WA} (h : QA X C es ta wa) : PD X C (.Tuple es x1 pos) (tTup ta) (wArg pTupN wa) := ⟨pe_tup h.pa, ok_arg l_tupN h.ok⟩
theorem pd_lst {ta : TA} {wa : WA} (h : QA X C es ta wa) : PD X C (.List es pos) (tLst ta) (wArg pLstN wa) := ⟨pe_lst h.pa, ok_arg l_lstN h.ok⟩

/-! ### a < b < c -/
theorem ok_chain {r r' : R2} {p p' : P2} {tc : TE} {wc : WE} (h : Lift2 C r p) (h' : Lift2 C r' p') (ha : OkE C ta wa) (hb : OkE C tb wb) (hc : OkB C tc wc) : OkE C (tChain r r' ta tb tc) (wChain p p' wa wb wc) := by
  intro ρ ρx σ σx H S k Q hl st hw q
  refine ha ρ ρx σ σx H S _ _ hl st hw fun x ρ1 vx H1 S1 hl1 st1 hw1 => ?_
  obtain ⟨S1', st1⟩ := st1.lastD
  rw [List.append_assoc, List.append_assoc] at st1
  refine hb ρ1 (ρx ++ [some (.fz x.toD)]) σ (σx ++ [some vx]) H1 S1' _ _ hl1 st1 hw1 fun y ρ2 vy H2 S2 hl2 st2 hp => ?_
  obtain ⟨S2', st2⟩ := st2.lastD
  have l2 : (ρ2 ++ ρx).length = (σ ++ σx).length := by have := st2.len; simp only [List.length_append, List.length_cons, List.length_nil] at *; omega
  have l3 : (ρ2 ++ (ρx ++ [some (Sl.fz x.toD)])).length = (σ ++ (σx ++ [some vx])).length := by simp only [List.length_append, List.length_cons, List.length_nil] at *; omega
  have oky := st2.last l3
  have okx : SlOk C S2' H2 vx (.fz x.toD) := by
    have := st2.popLast
    rw [← List.append_assoc, ← List.append_assoc] at this
    exact this.last l2
  refine h _ _ H2 S2' (.fz x.toD) (.fz y.toD) vx vy _ _ st2 okx oky hp fun z v H3 S3 st3 hk => ?_
  split at hk
  · rename_i b
    have l4 : ((ρ2 ++ (ρx ++ [some (Sl.fz x.toD)])) ++ [some (Sl.fz y.toD)]).length = ((σ ++ (σx ++ [some vx])) ++ [some vy]).length := by simp only [List.length_append, List.length_cons, List.length_nil] at *; omega
    obtain rfl : v = .bl b := st3.last l4
    refine ⟨b, rfl, ?_⟩
    have st4 := st3.popLast
    cases b with
    | true =>
      rw [List.append_assoc ρ2, List.append_assoc σ] at st4
      refine hc ρ2 _ σ _ H3 S3 _ _ hl2 st4 hk fun u ρ3 vu H4 S4 hl4 st5 oku hp' => ?_
      have f1 : ρ3 ++ ((ρx ++ [some (Sl.fz x.toD)]) ++ [some (Sl.fz y.toD)]) = (ρ3 ++ (ρx ++ [some (Sl.fz x.toD)])) ++ [some (Sl.fz y.toD)] := by simp only [List.append_assoc]
      have f2 : σ ++ ((σx ++ [some vx]) ++ [some vy]) = (σ ++ (σx ++ [some vx])) ++ [some vy] := by simp only [List.append_assoc]
      rw [f1, f2] at st5
      have l5 : (ρ3 ++ (ρx ++ [some (Sl.fz x.toD)])).length = (σ ++ (σx ++ [some vx])).length := by simp only [List.length_append, List.length_cons, List.length_nil] at *; omega
      have oky' := st5.last l5
      have st6 := st5.popLast
      rw [← List.append_assoc, ← List.append_assoc] at st6
      exact h' _ _ H4 S4 (.fz y.toD) u vy vu _ _ st6.popLast oky' oku hp' fun z' v' H5 S5 st7 hk' => q z' ρ3 v' H5 S5 hl4 st7 hk'
    | false =>
      have st5 := st4.popLast
      rw [← List.append_assoc, ← List.append_assoc] at st5
      exact q (.fz (.bl false)) ρ2 _ H3 S3 hl2 (st5.popLast.pushF rfl) hk
  · exact hk.elim
theorem pd_chain {op op' : CmpOp} {r r' : R2} {p p' : P2} {c : Expr} {tc : TE} {wc : WE} (ho : OpR X (compareOp op) r) (ho' : OpR X (compareOp op') r') (h : Lift2 C r p) (h' : Lift2 C r' p') (ha : PD X C a ta wa) (hb : PD X C bx tb wb) (hc : PB X C c tc wc)
    (hm : lastMarks [op, op'] [bx, c] = false := by with_unfolding_all rfl) : PD X C (.Compare a [op, op'] [bx, c] pos) (tChain r r' ta tb tc) (wChain p p' wa wb wc) := ⟨pe_chain ho ho' ha.pe hb.pe hc.pe hm, ok_chain h h' ha.ok hb.ok hc.ok⟩
theorem qt_chain {op op' : CmpOp} {r r' : R2} {p p' : P2} {c : Expr} {tc : TE} {wc : WE} (ho : OpR X (compareOp op) r) (ho' : OpR X (compareOp op') r') (h : Lift2 C r p) (h' : Lift2 C r' p') (ha : PD X C a ta wa) (hb : PD X C bx tb wb) (hc : PB X C c tc wc)
    (hm : lastMarks [op, op'] [bx, c] = false := by with_unfolding_all rfl) : QT X C (.Compare a [op, op'] [bx, c] pos) (tTest (tChain r r' ta tb tc)) (wYes (wChain p p' wa wb wc)) := ⟨pt_chain ho ho' ha.pe hb.pe hc.pe hm, ok_tst (ok_chain h h' ha.ok hb.ok hc.ok).b⟩

/-! ### isinstance by a built-in class -/
def tyN : D → Option String
  | .non => some "NoneType"
  | .bl _ => some "bool"
  | .int _ => some "int"
  | .str _ => some "str"
  | .lst _ => some "list"
  | .tup _ => some "tuple"
  | .dic _ _ => some "dict"
  | _ => none
/-- whether a value of the first class is one of the second -/
def isiB (a b : String) : Bool := a == b || (a == "bool" && b == "int")
def isiT : List (String × String) := (["NoneType", "bool", "int", "str", "list", "tuple", "dict"]).flatMap fun a => ["bool", "int", "str", "list", "tuple"].map fun b => (a, b)
theorem isi_all : ∀ p ∈ isiT, kitB p.1 p.2 = some (isiB p.1 p.2) := by decide +kernel
theorem isi_ok {d : D} {a b : String} (h : tyN d = some a) (hb : b ∈ ["bool", "int", "str", "list", "tuple"]) : kitB a b = some (isiB a b) := by
  refine isi_all (a, b) ?_
  unfold isiT
  rw [List.mem_flatMap]
  refine ⟨a, ?_, List.mem_map.mpr ⟨b, hb, rfl⟩⟩
  cases d <;> cases h <;> decide
theorem ty_of {B : Bk} {H : Hp} {v : V} {d : D} {a : String} (h : Rp B H v d) (e : tyN d = some a) : TyX B.K H v (.type a) := by
  cases d with
  | non => cases e; rw [show v = _ from h]; exact .base .non
  | bl _ => cases e; rw [show v = _ from h]; exact .base (.bl _)
  | int _ => cases e; rw [show v = _ from h]; exact .base (.int _)
  | str _ => cases e; rw [show v = _ from h]; exact .base (.str _)
  | lst _ => cases e; obtain ⟨a, xs, rfl, h2, _⟩ := h; exact .base (.lst h2)
  | tup _ => cases e; obtain ⟨a, xs, rfl, h2, _⟩ := h; exact RF.tyT h2
  | dic _ _ => cases e; obtain ⟨a, xs, rfl, h2, _⟩ := h; exact .base (.dK h2)
  | raw _ => cases e
  | bag => cases e
  | obj _ _ _ => cases e
def pIsi : PN := fun ds k => match ds with
  | [d, .raw (.ty n)] => n ∈ ["bool", "int", "str", "list", "tuple"] ∧ ∃ a, tyN d = some a ∧ k (.fz (.bl (isiB a n)))
  | _ => False
theorem l_isi (F : Fit X C) : LiftN C (rIsi X.K) pIsi := by
  intro ρ σ H S ds vs k Q st rr h q
  rw [← F.K]
  unfold pIsi at h
  split at h
  · rename_i d n
    obtain ⟨hn, a, h1, h2⟩ := h
    obtain ⟨v, u, rfl, r1, r2⟩ := rps2 rr
    rw [show u = _ from r2]
    exact ⟨v, .ty n, .type a, .type n, isiB a n, rfl, .ty n, ty_of (Rp.same hid_same _ r1) h1, kit_ty (isi_ok h1 hn), ans_bl st q h2⟩
  · exact h.elim
/-- a built-in class as a value -/
theorem pd_ty {x : Str} {n : String} (hg : Gl X x) (hm : X.mg x = none) (hv : bootBuiltins x = some (.type n)) (hn : x ≠ "__name__" := by decide) (hd : (x == ("__debug__" : Str)) = false := by decide) : PD X C (.Name x pos) (tC (.ty n)) (wC (.raw (.ty n))) := pd_c (pe_bltn (v := .ty n) hg hm hv rfl hn hd) fun _ => rfl
end
end Q

set_option autoImplicit false
set_option linter.all false
/-! Q8: the rules in the form in which derivations use them -/
namespace Q
open PySem L2
section
variable {X : Cx} {C : Cxt} {e a bx o tg : Expr} {es : List Expr} {t ta tb : TE} {w wa wb : WE} {pos p apos : Pos} {i : Nat}
theorem Fit.blk (F : Fit X C) {s : Shared} {H : Hp} {sc : Scope} {ce : Env} {fp : List Addr} : Fit (X.blk s H sc ce fp) C := ⟨F.K, F.mg⟩
theorem call_len2 : CallR X (.builtin "len") (rLen2 X.K) := call_len.or call_lenD
theorem pd_app (ho : PE X o (tVar i)) (he : PD X C e t w) (hbase : attributeBase o "append" X.env (eval o X.env) = eval o X.env := by rfl)
    (hfew : ((backTo pos (starEach [e] X.env)).all (fun x => !x.1) && (backToKw pos (keywordEach [] X.env)).all (fun x => x.1.isSome)
      && decide ([e].length + ([] : List Keyword).length + (if ([] : List Keyword).isEmpty then 0 else 1) < 30)) = true := by rfl)
    (hline : (apos.endLine == pos.line) = true := by rfl) (hs : starEach [e] X.env = (false, eval e X.env) :: starEach [] X.env := by rfl) (hplain : (backTo pos (starEach [] X.env)).any (·.1) = false := by rfl) :
    PD X C (.Call (.Attribute o "append" apos) [e] [] pos) (tBM X.K "list" rAppend (tVar i) (tCons t tNil)) (wApp i w) :=
  pd_append he (pe_bm PySem.F.plainAttrs_list PySem.F.slot_list_append PySem.F.type_list_append mt_append ho (pa_cons he.pe pa_nil hs) hbase hfew hline hs hplain) rfl
theorem pd_ext (ho : PE X o (tVar i)) (he : PD X C e t w) (hbase : attributeBase o "extend" X.env (eval o X.env) = eval o X.env := by rfl)
    (hfew : ((backTo pos (starEach [e] X.env)).all (fun x => !x.1) && (backToKw pos (keywordEach [] X.env)).all (fun x => x.1.isSome)
      && decide ([e].length + ([] : List Keyword).length + (if ([] : List Keyword).isEmpty then 0 else 1) < 30)) = true := by rfl)
    (hline : (apos.endLine == pos.line) = true := by rfl) (hs : starEach [e] X.env = (false, eval e X.env) :: starEach [] X.env := by rfl) (hplain : (backTo pos (starEach [] X.env)).any (·.1) = false := by rfl) :
    PD X C (.Call (.Attribute o "extend" apos) [e] [] pos) (tBM X.K "list" rExtend (tVar i) (tCons t tNil)) (wExt i w) :=
  pd_extend he (pe_bm PySem.F.plainAttrs_list PySem.F.slot_list_extend PySem.F.type_list_extend mt_extend ho (pa_cons he.pe pa_nil hs) hbase hfew hline hs hplain) rfl
theorem pd_popm (ho : PE X o (tVar i)) (hbase : attributeBase o "pop" X.env (eval o X.env) = eval o X.env := by rfl) (hline : (apos.endLine == pos.line) = true := by rfl) :
    PD X C (.Call (.Attribute o "pop" apos) [] [] pos) (tBM0 X.K "list" rPop (tVar i)) (wPop i) :=
  pd_pop (pe_bm0 PySem.F.plainAttrs_list PySem.F.slot_list_pop PySem.F.type_list_pop mt_pop ho hbase hline) rfl
/-! ### tests of a comprehension -/
structure QTs (X : Cx) (C : Cxt) (es : List Expr) (t : TT) (w : WT) : Prop where
  pts : PTs X es t
  ok : OkT C t w
theorem qts_nil : QTs X C [] tYes (fun ρ k => k true ρ) := ⟨pts_nil, fun ρ ρx σ σx H S k Q hl st hw q => q true ρ H S hl st hw⟩
theorem qts_one {tt : TT} {wt : WT} (h : QT X C e tt wt) : QTs X C [e] tt wt := ⟨pts_one h.pt, h.ok⟩
abbrev BX (X : Cx) (scope : Scope) (s : Shared) (H : Hp) (Cl : Addr) (cl : List (Str × Addr)) (fp : List Addr) : Cx := X.blk s H scope (compEnvC scope cl Cl X.env) fp
abbrev Dep (α : Type) := Shared → Hp → Addr → List (Str × Addr) → List Addr → α
theorem pd_comp {scope : Scope} {own : List (Str × Nat)} {is : List Nat} {iter elt : Expr} {ifs : List Expr} {ti : TI} {wi : WI} {g : Dep TG} {u : WG} {tt : Dep TT} {wt : WT} {t : Dep TE} (hc : X.calm = true) (hN : X.N.Nodup) (hi : QI X C tg iter ti wi) (ok : BlkOk X.N X.env.scope scope own)
    (hg : ∀ s H Cl cl fp, QG (BX X scope s H Cl cl fp) C is tg (g s H Cl cl fp) u) (ht : ∀ s H Cl cl fp, QTs (BX X scope s H Cl cl fp) C ifs (tt s H Cl cl fp) wt) (he : ∀ s H Cl cl fp, PD (BX X scope s H Cl cl fp) C elt (t s H Cl cl fp) w)
    (hv : ∀ i ∈ is, i ∈ own.map (·.2) := by decide) (eg : ∀ s H Cl cl fp, g s H Cl cl fp = g X.s_0 X.H_0 0 [] [] := by intros; rfl) (et : ∀ s H Cl cl fp, tt s H Cl cl fp = tt X.s_0 X.H_0 0 [] [] := by intros; rfl) (ee : ∀ s H Cl cl fp, t s H Cl cl fp = t X.s_0 X.H_0 0 [] [] := by intros; rfl)
    (hs : ∀ x, foldedSetIterable iter X.env x = pure x := by intro _; rfl) :
    PD X C (.ListComp elt [⟨tg, iter, ifs, 0⟩] scope pos) (tLc ti (g X.s_0 X.H_0 0 [] []) (tt X.s_0 X.H_0 0 [] []) (t X.s_0 X.H_0 0 [] []) (own.map (·.2))) (wLc (own.map (·.2)) wi u wt w) :=
  ⟨pe_lc hc hN hi.pi ok (fun s H Cl cl fp => eg s H Cl cl fp ▸ (hg s H Cl cl fp).pg) (fun s H Cl cl fp => et s H Cl cl fp ▸ (ht s H Cl cl fp).pts) (fun s H Cl cl fp => ee s H Cl cl fp ▸ (he s H Cl cl fp).pe) hs,
    ok_lc hi.ok (hg X.s_0 X.H_0 0 [] []).ok (ht X.s_0 X.H_0 0 [] []).ok (he X.s_0 X.H_0 0 [] []).ok hv⟩
/-- name = [..] -/
theorem qs_setLc {y : Str} {py spos : Pos} {scope : Scope} {own : List (Str × Nat)} {is : List Nat} {iter elt : Expr} {ifs : List Expr} {ti : TI} {wi : WI} {g : Dep TG} {u : WG} {tt : Dep TT} {wt : WT} {t : Dep TE} (hc : X.calm = true) (hN : X.N.Nodup) (hy : X.N[i]? = some y) (hyl : X.env.scope.names.lookup y = some .local)
    (hsw : swapsWith (.ListComp elt [⟨tg, iter, ifs, 0⟩] scope pos) (some (.Name y py)) spos.line X.env = pure true) (hi : QI X C tg iter ti wi) (ok : BlkOk X.N X.env.scope scope own)
    (hg : ∀ s H Cl cl fp, QG (BX X scope s H Cl cl fp) C is tg (g s H Cl cl fp) u) (ht : ∀ s H Cl cl fp, QTs (BX X scope s H Cl cl fp) C ifs (tt s H Cl cl fp) wt) (he : ∀ s H Cl cl fp, PD (BX X scope s H Cl cl fp) C elt (t s H Cl cl fp) w)
    (hv : ∀ i ∈ is, i ∈ own.map (·.2) := by decide) (eg : ∀ s H Cl cl fp, g s H Cl cl fp = g X.s_0 X.H_0 0 [] [] := by intros; rfl) (et : ∀ s H Cl cl fp, tt s H Cl cl fp = tt X.s_0 X.H_0 0 [] [] := by intros; rfl) (ee : ∀ s H Cl cl fp, t s H Cl cl fp = t X.s_0 X.H_0 0 [] [] := by intros; rfl)
    (hs : ∀ x, foldedSetIterable iter X.env x = pure x := by intro _; rfl) :
    QS X C (.Assign [.Name y py] (.ListComp elt [⟨tg, iter, ifs, 0⟩] scope pos) spos) (tAsg (tLc ti (g X.s_0 X.H_0 0 [] []) (tt X.s_0 X.H_0 0 [] []) (t X.s_0 X.H_0 0 [] []) (own.map (·.2))) (gName i)) (wSet i (wLc (own.map (·.2)) wi u wt w)) :=
  ⟨ps_setLc hc hN hy hyl hsw hi.pi ok (fun s H Cl cl fp => eg s H Cl cl fp ▸ (hg s H Cl cl fp).pg) (fun s H Cl cl fp => et s H Cl cl fp ▸ (ht s H Cl cl fp).pts) (fun s H Cl cl fp => ee s H Cl cl fp ▸ (he s H Cl cl fp).pe) hs,
    ok_asg (ok_lc hi.ok (hg X.s_0 X.H_0 0 [] []).ok (ht X.s_0 X.H_0 0 [] []).ok (he X.s_0 X.H_0 0 [] []).ok hv) (ok_nm i)⟩
/-! ### calls by keywords -/
structure QK (X : Cx) (C : Cxt) (kws : List Keyword) (t : TA) (w : WA) : Prop where
  pk : PK X kws t
  ok : OkA C t w
theorem qk_nil : QK X C [] tNil (fun ρ k => k [] ρ) := ⟨pk_nil, qa_nil (X := X).ok⟩
theorem qk_cons {kws : List Keyword} {tr : TA} {wr : WA} {nm : Option Str} {kpos : Pos} (ha : PD X C e t w) (hr : QK X C kws tr wr) : QK X C (⟨nm, e, kpos⟩ :: kws) (tCons t tr) (wCons w wr) := ⟨pk_cons ha.pe hr.pk, ok_cons ha.ok hr.ok⟩
end
end Q

namespace RF
open PySem L2
/-! ### built-in functions of math -/
theorem args_gcd3 (a b c : Value) : argsOk "math.gcd" ⟨[a, b, c], []⟩ := by
  unfold argsOk
  kernel_rfl
theorem run_gcd3 (a : Int) (t : Tok) (b : Int) (u : Tok) (c : Int) (v : Tok) :
    Gives (Builtin.«math.gcd» ⟨[.int a t, .int b u, .int c v], []⟩) (.int (((((Nat.gcd 0 a.natAbs).gcd b.natAbs).gcd c.natAbs : Nat) : Int))) :=
  .of_wp fun M A E s Q h => by
    obtain ⟨hp, g, d, tk, os⟩ := s
    wp_walk
    exact ⟨_, rfl, h⟩

section
variable {X : Cx}
theorem vals3 {x y z : V} {us : List Value} (r : Vals [x, y, z] us) : ∃ u v w, us = [u, v, w] ∧ RelV x u ∧ RelV y v ∧ RelV z w := by
  cases r with
  | cons a r => cases r with
    | cons b r => cases r with
      | cons c r => cases r; exact ⟨_, _, _, rfl, a, b, c⟩
def rGcd3 : List V → Hp → VK → Prop := fun vs H Q => ∃ a b c : Int, vs = [.int a, .int b, .int c] ∧ Q (.int ((Nat.gcd (Nat.gcd a.natAbs b.natAbs) c.natAbs : Nat) : Int)) H
theorem cr_gcd3 : CallR X (.builtin "math.gcd") rGcd3 := by
  intro pins s σ H vs us Q I r h
  obtain ⟨a, b, c, rfl, q⟩ := h
  obtain ⟨u1, u2, u3, rfl, ⟨t1, rfl⟩, ⟨t2, rfl⟩, ⟨t3, rfl⟩⟩ := vals3 r
  have g := run_gcd3 a t1 b t2 c t3
  rw [Nat.gcd_zero_left] at g
  exact call_function_meets PySem.W.MGF.kind_gcd PySem.W.MGF.plain_gcd PySem.W.MGF.entry_gcd (args_gcd3 _ _ _) g.meets (show EP X pins σ Q _ _ from ⟨.int _, H, I.tok _, ⟨_, rfl⟩, q⟩)
def rIsqrt : List V → Hp → VK → Prop := fun vs H Q => ∃ a : Int, vs = [.int a] ∧ 0 ≤ a ∧ a.toNat.log2 < 13000 ∧ Q (.int ((Float64.isqrt a.toNat : Nat) : Int)) H
theorem cr_isqrt : CallR X (.builtin "math.isqrt") rIsqrt := by
  intro pins s σ H vs us Q I r h
  obtain ⟨a, rfl, h0, h1, q⟩ := h
  obtain ⟨u, rfl, t, rfl⟩ := vals1 r
  exact call_function_meets PySem.W.MGF.kind_isqrt PySem.W.MGF.plain_isqrt PySem.W.MGF.entry_isqrt (PySem.W.MGF.args_isqrt _) (PySem.W.mg_run_isqrt a t (by omega) (by omega) (by omega)).meets
    (show EP X pins σ Q _ _ from ⟨.int _, H, I.tok _, ⟨_, rfl⟩, q⟩)

/-! ### operators of an own class -/
/-- C has the operator as the def at f -/
structure OwnOp (K : PySem.W.Frag) (C f : Addr) (m : Str) : Prop where
  first : PySem.W.selfFirst K C = true
  at_ : PySem.W.findIn K (.ref C) m = some (some (.ref f))
  fn : PySem.W.isFn K (.ref f) = true
def rOwn2 (C : Addr) (sp : Sp) (E : XK) : R2 := fun x y H Q => ∃ a b dx dy fs gs, x = .ref a ∧ y = .ref b ∧ H a = some (.ins C dx fs) ∧ H b = some (.ins C dy gs) ∧ sp [.ref a, .ref b] H Q E
theorem notImpl {v : V} {u : Value} {P : Value → Shared → Prop} {s : Shared} (r : RelV v u) (h : P u s) : PySem.W.CmpBack P u s := by
  cases v with
  | non => cases r; exact h
  | bl _ => cases r; exact h
  | int _ => obtain ⟨t, rfl⟩ := r; exact h
  | str _ => obtain ⟨t, rfl⟩ := r; exact h
  | byt _ => obtain ⟨t, rfl⟩ := r; exact h
  | flt _ => obtain ⟨t, rfl⟩ := r; exact h
  | ref _ => cases r; exact h
  | ty _ => cases r; exact h
theorem op_own {CX : CXT} {op : Operator} {n : Nat} {C f : Addr} {sp : Sp} {E : XK} (F : FnR X.prog X.w X.K X.mg X.base CX n f sp) (hr : Room n X.A) (O : OwnOp X.K C f (PySem.dunder op.info.2)) (hx : Passes CX X E) : OpR X (binaryOp op) (rOwn2 C sp E) := by
  intro pins s σ H x y v u Q I rx ry h
  obtain ⟨a, b, dx, dy, fs, gs, rfl, rfl, ha, hb, q⟩ := h
  cases rx
  cases ry
  obtain ⟨mA, J, _⟩ := ins_get I.hok ha
  obtain ⟨mB, J', _⟩ := ins_get I.hok hb
  obtain ⟨od, J, _⟩ := J.look
  obtain ⟨od', J', _⟩ := J'.look
  obtain ⟨m, hF⟩ := I.fr
  refine PySem.W.binop_K hF I.ok.mod.kin J J'.type O.first O.at_ O.fn (wpAny_mono (wpAny_call (run_fnR (us := [.ref a, .ref b]) (vs := [.ref a, .ref b]) F hr hx I (.cons rfl (.cons rfl .nil)) q)) (fun r s' z => ?_) fun _ _ z => z)
  obtain ⟨v, H', I', rv, q'⟩ := id z
  exact notImpl rv z
def rOwn1 (C : Addr) (sp : Sp) (E : XK) : V → Hp → VK → Prop := fun x H Q => ∃ a dx fs, x = .ref a ∧ H a = some (.ins C dx fs) ∧ sp [.ref a] H Q E
theorem un_own_neg {CX : CXT} {n : Nat} {C f : Addr} {sp : Sp} {E : XK} (F : FnR X.prog X.w X.K X.mg X.base CX n f sp) (hr : Room n X.A) (O : OwnOp X.K C f "__neg__") (hx : Passes CX X E) : UnR X (unaryOp .USub) (rOwn1 C sp E) := by
  intro pins s σ H x v Q I rx h
  obtain ⟨a, dx, fs, rfl, ha, q⟩ := h
  cases rx
  obtain ⟨mA, J, _⟩ := ins_get I.hok ha
  obtain ⟨od, J, _⟩ := J.look
  obtain ⟨m, hF⟩ := I.fr
  exact PySem.W.ksp_neg hF I.ok.mod.kin J O.at_ O.fn (wpAny_call (run_fnR (us := [.ref a]) (vs := [.ref a]) F hr hx I (.cons rfl .nil) q))
/-- bool(x) of an instance with its own truth -/
def rOwnB (C : Addr) (sp : Sp) (E : XK) : List V → Hp → VK → Prop := fun vs H Q => ∃ a dx fs, vs = [.ref a] ∧ H a = some (.ins C dx fs) ∧ sp [.ref a] H (fun v H' => ∃ b, v = .bl b ∧ Q (.bl b) H') E
theorem tru_of {M : Model} {A : Around} {x : Value} {s : Shared} {Q0 Q : Bool → Shared → Prop} {E : Value → Shared → Prop} (hs : wpAny M A (truthy x) Q0 E s) (h : ∀ b s', Q0 b s' → Q b s') : wpAny M A (truthy x) Q E s := wpAny_mono hs h fun _ _ z => z
theorem new_bool_own (prog : Program) (w : World) (a : Addr) : MeetsIn prog w (Builtin.«bool.__new__» ⟨[.type "bool", .ref a], []⟩)
    (fun A R s => wpAny (model prog w) A.in1 (truthy (.ref a)) (fun b s' => R (.ok (.ret (.bool b))) s') (fun e s' => R (.error e) s') s) :=
  .of_wp fun A R s hs => by
    have f1 := F.conv_sub_bool
    obtain ⟨hp, g, d, tk, os⟩ := s
    repeat (any_goals (first | assumption | (with_reducible refine tru_of hs (fun b s' hq => ?_)) | wp_step))
    all_goals exact ⟨_, rfl, hq⟩
theorem call_bool_own {CX : CXT} {n : Nat} {C f : Addr} {sp : Sp} {E : XK} (G : FnR X.prog X.w X.K X.mg X.base CX n f sp) (hr : Room (n + 2) X.A) (hat : PySem.W.findIn X.K (.ref C) "__bool__" = some (some (.ref f))) (hfn : PySem.W.isFn X.K (.ref f) = true)
    (hx : Passes CX X E) : CallR X (.type "bool") (rOwnB C sp E) := by
  intro pins s σ H xs us Q I r h
  obtain ⟨a, dx, fs, rfl, ha, q⟩ := h
  obtain ⟨u, rfl, r1⟩ := vals1 r
  cases r1
  obtain ⟨mA, J, _⟩ := ins_get I.hok ha
  obtain ⟨od, J, _⟩ := J.look
  obtain ⟨m, hF⟩ := I.fr
  refine PySem.callType_newIn PySem.F.called_bool PySem.F.newNe_bool (PySem.F.typeCall_bool_1 _) (PySem.F.newCall_bool_1 _) (fun obj => PySem.F.args_object_init_2 obj _) PySem.F.entry_bool_new (new_bool_own X.prog X.w a) ?_
  refine PySem.W.truthy_K hF I.ok.mod.kin J hat hfn ?_
  refine wpAny_call (codeAny_mono (G _ X.stack s H [.ref a] [.ref a] _ E hr.in1.in1 I.env0.in1.in1 (.cons rfl .nil) q) fun r s' hq => ?_)
  cases r with
  | error e => exact hx pins σ H s e s' I hq
  | ok fl =>
    cases fl with
    | ret u =>
      obtain ⟨v, H', I', rv, b, rfl, q'⟩ := I.after hq
      cases rv
      exact ⟨rfl, .bl b, H', I', rfl, q'⟩
    | next => exact False.elim hq
    | brk => exact False.elim hq
    | cont => exact False.elim hq
/-- C.m is a staticmethod: its record at p, its def at g -/
structure SMet (K : PySem.W.Frag) (C : Addr) (mc : Value) (m : Str) (p g : Addr) : Prop where
  at_ : PySem.W.findCls K (.ref C) mc m = some (.get (.builtin "staticmethod.__get__") (.ref p) .none (.ref C))
  rc : ∃ rest, PySem.W.recIn K p "staticmethod" = some (.ref g :: rest)
  kp : PySem.W.keepIn K (.ref g) = true
def tSMeth (C : Addr) (sp : Sp) (E : XK) (ta : TE) (t : TA) : TE := fun σ H Q => ta σ H fun x H1 => x = .ref C ∧ t σ H1 fun vs H2 => sp vs H2 Q E
theorem pe_smeth {CX : CXT} {k : Nat} {C p g : Addr} {mc : Value} {sp : Sp} {E : XK} {o e : Expr} {es : List Expr} {m : Str} {pos apos : Pos} {ta : TE} {t : TA} {pl : Sem Bool} (he : PE X o ta) (r : ClX.CRead X.K C mc) (c : SMet X.K C mc m p g)
    (F : FnR X.prog X.w X.K X.mg X.base CX k g sp) (hr : Room k X.A) (hx : Passes CX X E) (ha : PA X (e :: es) t)
    (hst : starEach (e :: es) X.env = (false, eval e X.env) :: starEach es X.env := by rfl) (hpl : (backTo pos (starEach es X.env)).any (·.1) = false := by rfl)
    (ht : eval (.Call (.Attribute o m apos) (e :: es) [] pos) X.env = (do
      let ov ← eval o X.env
      standAt apos.atName
      let (f, first) ← holding [ov] (getMethod ov m pl)
      callWith pos f first (backTo pos (starEach (e :: es) X.env)) (backToKw pos (keywordEach [] X.env))) := by rfl) :
    PE X (.Call (.Attribute o m apos) (e :: es) [] pos) (tSMeth C sp E ta t) := by
  refine ⟨fun pins s σ H Q I h => ?_⟩
  refine PySem.W.methodCall_KW (pl := pl) (thn (he.run pins s σ H _ I h) fun u s1 ⟨x, H1, I1, rx, ex, q⟩ => ?_) ht
  subst ex
  obtain rfl : u = Value.ref C := rx
  obtain ⟨rest, hp⟩ := c.rc
  refine PySem.W.method_cls I1.kIn r.ga (PySem.W.cls_bind I1.kIn r.rd c.at_ (wpAny_call (PySem.W.sm_get (s := { s1 with toks := s1.toks + 1 }) I1.kIn hp (PySem.W.handed_on rfl ?_))))
  have I2 := I1.tok (s1.toks + 1)
  refine PySem.W.callWith_K (h₀ := X.base) I.ok.mod.kin c.kp (thn (ha.run pos pins _ σ H1 _ I2 q) fun us s3 ⟨vs, H2, I3, rv, q2⟩ => ⟨I3.kIn, ?_⟩) hst hpl
  exact wpAny_call (run_fnR F hr hx I3 rv q2)
end
end RF

namespace RF
theorem sq_nonneg (a : Int) : 0 ≤ a * a := by
  rcases Int.le_total 0 a with h | h
  · exact Int.mul_nonneg h h
  · exact Int.mul_nonneg_of_nonpos_of_nonpos h h
theorem sq_le {a b : Int} (ha : 0 ≤ a) (h : a ≤ b) : a * a ≤ b * b := Int.mul_le_mul h h ha (by omega)
theorem sq_lt {a b : Int} (ha : 0 ≤ a) (h : a < b) : a * a < b * b := by
  have h1 : a * a ≤ a * b := Int.mul_le_mul_of_nonneg_left (by omega) ha
  have h2 : a * b < b * b := Int.mul_lt_mul_of_pos_right h (by omega)
  omega
theorem le_of_sq {a b : Int} (hb : 0 ≤ b) (h : a * a ≤ b * b) : a ≤ b := by
  rcases Int.lt_or_le b a with z | z
  · have := sq_lt hb z
    omega
  · exact z
theorem lt_of_sq {a b : Int} (hb : 0 ≤ b) (h : a * a < b * b) : a < b := by
  rcases Int.lt_or_le a b with z | z
  · exact z
  · have := sq_le hb z
    omega
/-! ### square roots of integers -/
def rt (n : Int) : Int := ((PySem.Float64.isqrt n.toNat : Nat) : Int)
theorem rt_nn (n : Int) : 0 ≤ rt n := Int.natCast_nonneg _
theorem rt_le {n : Int} (h : 0 ≤ n) : rt n * rt n ≤ n := by
  have := (PySem.Float64.isqrt_spec n.toNat).1
  have e : ((PySem.Float64.isqrt n.toNat * PySem.Float64.isqrt n.toNat : Nat) : Int) ≤ ((n.toNat : Nat) : Int) := Int.ofNat_le.mpr this
  rw [Int.natCast_mul] at e
  unfold rt
  omega
theorem rt_lt {n : Int} (h : 0 ≤ n) : n < (rt n + 1) * (rt n + 1) := by
  have := (PySem.Float64.isqrt_spec n.toNat).2
  have e : ((n.toNat : Nat) : Int) < (((PySem.Float64.isqrt n.toNat + 1) * (PySem.Float64.isqrt n.toNat + 1) : Nat) : Int) := Int.ofNat_lt.mpr this
  rw [Int.natCast_mul, Int.natCast_add] at e
  unfold rt
  have e2 : ((n.toNat : Nat) : Int) = n := by omega
  rw [e2] at e
  exact e
theorem rt_uniq {n r : Int} (h : 0 ≤ n) (r0 : 0 ≤ r) (r1 : r * r ≤ n) (r2 : n < (r + 1) * (r + 1)) : r = rt n := by
  have a := rt_le h
  have b := rt_lt h
  have c := rt_nn n
  have h1 : r < rt n + 1 := lt_of_sq (by omega) (by omega)
  have h2 : rt n < r + 1 := lt_of_sq (by omega) (by omega)
  omega
/-! ### the roots -/
def Root (d : Int) : Prop := d = 2 ∨ d = 3 ∨ d = 5 ∨ d = 6 ∨ d = 13
theorem Root.pos {d : Int} (h : Root d) : 0 < d := by unfold Root at h; omega
theorem Root.le {d : Int} (h : Root d) : d ≤ 13 := by unfold Root at h; omega
theorem ex_mul (i : Int) {p : Int} (h : i % p = 0) : ∃ t, i = p * t := ⟨i / p, by
  have := Int.mul_ediv_add_emod i p
  rw [h] at this
  omega⟩
theorem dvd2 {i c : Int} (h : i * i = 2 * c) : ∃ t, i = 2 * t := ex_mul i (by
  have e : (i * i) % 2 = 0 := by omega
  rw [Int.mul_emod] at e
  have : i % 2 = 0 ∨ i % 2 = 1 := by omega
  rcases this with z | z
  · exact z
  · rw [z] at e; simp at e)
theorem dvd3 {i c : Int} (h : i * i = 3 * c) : ∃ t, i = 3 * t := ex_mul i (by
  have e : (i * i) % 3 = 0 := by omega
  rw [Int.mul_emod] at e
  have : i % 3 = 0 ∨ i % 3 = 1 ∨ i % 3 = 2 := by omega
  rcases this with z | z | z
  · exact z
  · rw [z] at e; simp at e
  · rw [z] at e; simp at e)
theorem dvd5 {i c : Int} (h : i * i = 5 * c) : ∃ t, i = 5 * t := ex_mul i (by
  have e : (i * i) % 5 = 0 := by omega
  rw [Int.mul_emod] at e
  have : i % 5 = 0 ∨ i % 5 = 1 ∨ i % 5 = 2 ∨ i % 5 = 3 ∨ i % 5 = 4 := by omega
  rcases this with z | z | z | z | z
  · exact z
  all_goals (rw [z] at e; simp at e))
theorem dvd13 {i c : Int} (h : i * i = 13 * c) : ∃ t, i = 13 * t := ex_mul i (by
  have e : (i * i) % 13 = 0 := by omega
  rw [Int.mul_emod] at e
  have : i % 13 = 0 ∨ i % 13 = 1 ∨ i % 13 = 2 ∨ i % 13 = 3 ∨ i % 13 = 4 ∨ i % 13 = 5 ∨ i % 13 = 6 ∨ i % 13 = 7 ∨ i % 13 = 8 ∨ i % 13 = 9 ∨ i % 13 = 10 ∨ i % 13 = 11 ∨ i % 13 = 12 := by omega
  rcases this with z | z | z | z | z | z | z | z | z | z | z | z | z
  · exact z
  all_goals (rw [z] at e; simp at e))
/-- one step down -/
theorem down {d i j : Int} (hd : Root d) (h : i * i = d * (j * j)) : ∃ p i' j' : Int, 2 ≤ p ∧ j = p * j' ∧ i' * i' = d * (j' * j') := by
  rcases hd with rfl | rfl | rfl | rfl | rfl
  · obtain ⟨t, rfl⟩ := dvd2 h
    obtain ⟨u, rfl⟩ := dvd2 (i := j) (c := t * t) (by grind)
    exact ⟨2, t, u, by omega, rfl, by grind⟩
  · obtain ⟨t, rfl⟩ := dvd3 h
    obtain ⟨u, rfl⟩ := dvd3 (i := j) (c := t * t) (by grind)
    exact ⟨3, t, u, by omega, rfl, by grind⟩
  · obtain ⟨t, rfl⟩ := dvd5 h
    obtain ⟨u, rfl⟩ := dvd5 (i := j) (c := t * t) (by grind)
    exact ⟨5, t, u, by omega, rfl, by grind⟩
  · obtain ⟨t, rfl⟩ := dvd3 (i := i) (c := 2 * (j * j)) (by grind)
    obtain ⟨u, rfl⟩ := dvd3 (i := j) (c := 2 * (t * t) - (j * j)) (by grind)
    exact ⟨3, t, u, by omega, rfl, by grind⟩
  · obtain ⟨t, rfl⟩ := dvd13 h
    obtain ⟨u, rfl⟩ := dvd13 (i := j) (c := t * t) (by grind)
    exact ⟨13, t, u, by omega, rfl, by grind⟩
theorem nonsq {d : Int} (hd : Root d) : ∀ (n : Nat) (i j : Int), j.natAbs ≤ n → i * i = d * (j * j) → j = 0
  | 0, i, j, hn, _ => by omega
  | n + 1, i, j, hn, h => by
    obtain ⟨p, i', j', hp, e, h'⟩ := down hd h
    rcases Int.lt_trichotomy j' 0 with z | z | z
    · have : j'.natAbs ≤ n := by
        have h1 : p * j' ≤ 2 * j' := by
          have := Int.mul_le_mul_of_nonpos_right hp (by omega : j' ≤ 0)
          omega
        omega
      have := nonsq hd n i' j' this h'
      omega
    · rw [e, z]; simp
    · have : j'.natAbs ≤ n := by
        have h1 : 2 * j' ≤ p * j' := Int.mul_le_mul_of_nonneg_right hp (by omega)
        omega
      have := nonsq hd n i' j' this h'
      omega
theorem irr {d i j : Int} (hd : Root d) (h : i * i = d * (j * j)) : j = 0 := nonsq hd j.natAbs i j (Nat.le_refl _) h
end RF

namespace RF
theorem ring1 (x s : Int) : (x + s) * (x + s) = (x - s) * (x - s) + 4 * (x * s) := by grind
theorem amgm (x q y n : Int) (hx : 0 < x) (hq : 0 ≤ q) (hn : n < x * (q + 1)) (hy : x + q ≤ 2 * y + 1) : n < (y + 1) * (y + 1) := by
  have h1 := ring1 x (q + 1)
  have h0 : 0 ≤ (x - (q + 1)) * (x - (q + 1)) := by
    rcases Int.le_total 0 (x - (q + 1)) with h | h
    · exact Int.mul_nonneg h h
    · exact Int.mul_nonneg_of_nonpos_of_nonpos h h
  have h2 : (x + (q + 1)) * (x + (q + 1)) ≤ (2 * (y + 1)) * (2 * (y + 1)) := Int.mul_le_mul (by omega) (by omega) (by omega) (by omega)
  have h3 : (2 * (y + 1)) * (2 * (y + 1)) = 4 * ((y + 1) * (y + 1)) := by grind
  omega
end RF

namespace RF
/-- the size of an integer, as abs gives it -/
def ab (i : Int) : Int := if i < 0 then -i else i
theorem ab_nn (i : Int) : 0 ≤ ab i := by unfold ab; split <;> omega
theorem ab_pos {i : Int} (h : 0 ≤ i) : ab i = i := by unfold ab; rw [if_neg (by omega)]
theorem ab_neg {i : Int} (h : i ≤ 0) : ab i = -i := by
  unfold ab
  split <;> omega
/-- i|i| + d j|j|: it has the sign of i + j r -/
def sgb (d i j : Int) : Int := i * ab i + d * j * ab j
def sg (d i j : Int) : Int := if 0 < sgb d i j then 1 else if sgb d i j < 0 then -1 else 0
/-- the floor of f times the root -/
def flr (d f : Int) : Int := if f < 0 then -rt (d * f * f) - 1 else rt (d * f * f)
theorem dff (d f : Int) : d * f * f = d * (f * f) := Int.mul_assoc d f f
theorem dff_nn {d f : Int} (hd : Root d) : 0 ≤ d * f * f := by
  rw [dff]
  exact Int.mul_nonneg (Int.le_of_lt hd.pos) (sq_nonneg f)
theorem keyL {d x y : Int} (hd : Root d) : 0 ≤ sgb d x y ↔ 0 ≤ x + flr d y := by
  have r0 := rt_nn (d * y * y)
  have r1 := rt_le (dff_nn hd (f := y))
  have r2 := rt_lt (dff_nn hd (f := y))
  have dn := dff_nn hd (f := y)
  generalize hr : rt (d * y * y) = r at *
  rcases Int.lt_or_le y 0 with hy | hy
  · have ef : flr d y = -r - 1 := by unfold flr; rw [if_pos hy, hr]
    have eb : sgb d x y = x * ab x - d * y * y := by unfold sgb; rw [ab_neg (Int.le_of_lt hy)]; grind
    rw [ef, eb]
    have ne : r * r ≠ d * y * y := fun e => by
      have := irr hd (i := r) (j := y) (by rw [e, dff])
      omega
    have lt : r * r < d * y * y := by omega
    have dp : 0 < d * y * y := by
      have := sq_nonneg r
      omega
    rcases Int.lt_or_le x 0 with hx | hx
    · rw [ab_neg (Int.le_of_lt hx)]
      have := sq_nonneg x
      have e : x * -x = -(x * x) := by grind
      omega
    · rw [ab_pos hx]
      constructor
      · intro h
        have : r < x := lt_of_sq hx (by omega)
        omega
      · intro h
        have : (r + 1) * (r + 1) ≤ x * x := sq_le (by omega) (by omega)
        omega
  · have ef : flr d y = r := by unfold flr; rw [if_neg (by omega), hr]
    have eb : sgb d x y = x * ab x + d * y * y := by unfold sgb; rw [ab_pos hy]
    rw [ef, eb]
    rcases Int.lt_or_le x 0 with hx | hx
    · rw [ab_neg (Int.le_of_lt hx)]
      have e : x * -x = -((-x) * (-x)) := by grind
      constructor
      · intro h
        have : -x < r + 1 := lt_of_sq (by omega) (by omega)
        omega
      · intro h
        have : (-x) * (-x) ≤ r * r := sq_le (by omega) (by omega)
        omega
    · rw [ab_pos hx]
      have := sq_nonneg x
      omega
theorem ab_mul {g i : Int} (hg : 0 ≤ g) : ab (g * i) = g * ab i := by
  rcases Int.lt_or_le i 0 with h | h
  · have : g * i ≤ 0 := Int.mul_nonpos_of_nonneg_of_nonpos hg (by omega)
    rw [ab_neg this, ab_neg (by omega)]
    grind
  · rw [ab_pos (Int.mul_nonneg hg h), ab_pos h]
theorem sgb_mul {d g i j : Int} (hg : 0 ≤ g) : sgb d (g * i) (g * j) = g * g * sgb d i j := by
  unfold sgb
  rw [ab_mul hg, ab_mul hg]
  grind
theorem sgb_neg {d i j : Int} : sgb d (-i) (-j) = -sgb d i j := by
  have h : ∀ i, ab (-i) = ab i := fun i => by unfold ab; split <;> split <;> omega
  unfold sgb
  rw [h, h]
  grind
theorem sg_mul {d g i j : Int} (hg : 0 < g) : sg d (g * i) (g * j) = sg d i j := by
  have hp : 0 < g * g := Int.mul_pos hg hg
  have e := sgb_mul (d := d) (i := i) (j := j) (Int.le_of_lt hg)
  unfold sg
  rw [e]
  rcases Int.lt_trichotomy (sgb d i j) 0 with h | h | h
  · have : g * g * sgb d i j < 0 := Int.mul_neg_of_pos_of_neg hp h
    rw [if_neg (by omega), if_pos this, if_neg (by omega), if_pos h]
  · rw [h]; simp
  · have : 0 < g * g * sgb d i j := Int.mul_pos hp h
    rw [if_pos this, if_pos h]
theorem sg_neg {d i j : Int} : sg d (-i) (-j) = -sg d i j := by
  have e := sgb_neg (d := d) (i := i) (j := j)
  unfold sg
  rw [e]
  rcases Int.lt_trichotomy (sgb d i j) 0 with h | h | h
  · rw [if_pos (by omega), if_neg (by omega), if_pos h]; rfl
  · rw [h]; rfl
  · rw [if_neg (by omega), if_pos (by omega), if_pos h]
/-- the law's own sign -/
theorem sg_pp {d i j : Int} (hd : Root d) (hi : 0 ≤ i) (hj : 0 ≤ j) : sg d i j = if 0 < i ∨ 0 < j then 1 else 0 := by
  have hp := hd.pos
  have e : sgb d i j = i * i + d * (j * j) := by unfold sgb; rw [ab_pos hi, ab_pos hj]; grind
  have a := sq_nonneg i
  have b := sq_nonneg j
  have b' : 0 ≤ d * (j * j) := Int.mul_nonneg (by omega) b
  unfold sg
  rw [e]
  by_cases h : 0 < i ∨ 0 < j
  · rw [if_pos h, if_pos]
    rcases h with h | h
    · have : 0 < i * i := Int.mul_pos h h
      omega
    · have : 0 < d * (j * j) := Int.mul_pos hp (Int.mul_pos h h)
      omega
  · have hi0 : i = 0 := by omega
    have hj0 : j = 0 := by omega
    rw [if_neg h, hi0, hj0]
    simp
theorem sg_nn {d i j : Int} (hd : Root d) (hi : i ≤ 0) (hj : j ≤ 0) (h : ¬ (0 ≤ i ∧ 0 ≤ j)) : sg d i j = -1 := by
  have e : sg d i j = -sg d (-i) (-j) := by rw [sg_neg]; omega
  rw [e, sg_pp hd (by omega) (by omega), if_pos (by omega)]
theorem sg_pn {d i j : Int} (hd : Root d) (hi : 0 < i) (hj : j < 0) : sg d i j = if j * j * d < i * i then 1 else -1 := by
  have e : sgb d i j = i * i - j * j * d := by unfold sgb; rw [ab_pos (by omega), ab_neg (by omega)]; grind
  have ne : i * i ≠ j * j * d := fun q => by
    have := irr hd (i := i) (j := j) (by rw [q]; grind)
    omega
  unfold sg
  rw [e]
  split <;> split <;> first | rfl | omega | skip
theorem sg_np {d i j : Int} (hd : Root d) (hi : i < 0) (hj : 0 < j) : sg d i j = if i * i < j * j * d then 1 else -1 := by
  have e : sgb d i j = j * j * d - i * i := by unfold sgb; rw [ab_pos (i := j) (by omega), ab_neg (i := i) (by omega)]; grind
  have ne : i * i ≠ j * j * d := fun q => by
    have := irr hd (i := i) (j := j) (by rw [q]; grind)
    omega
  unfold sg
  rw [e]
  split <;> split <;> first | rfl | omega | skip
theorem sg_nonneg {d i j : Int} (hd : Root d) : 0 ≤ sg d i j ↔ 0 ≤ i + flr d j := by
  rw [← keyL hd]
  unfold sg
  split
  · omega
  · split <;> omega
theorem flr_ring {d f : Int} : rt (f * f * d) = rt (d * f * f) := by rw [show f * f * d = d * f * f by grind]
end RF

namespace RF
/-! ### lowest terms -/
def gc (i j k : Int) : Int := ((Nat.gcd (Nat.gcd i.natAbs j.natAbs) k.natAbs : Nat) : Int)
def gs (i j k : Int) : Int := if k < 0 then -gc i j k else gc i j k
theorem gc_i (i j k : Int) : gc i j k ∣ i := Int.natAbs_dvd_natAbs.mp (by
  unfold gc
  rw [Int.natAbs_natCast]
  exact Nat.dvd_trans (Nat.gcd_dvd_left _ _) (Nat.gcd_dvd_left _ _))
theorem gc_j (i j k : Int) : gc i j k ∣ j := Int.natAbs_dvd_natAbs.mp (by
  unfold gc
  rw [Int.natAbs_natCast]
  exact Nat.dvd_trans (Nat.gcd_dvd_left _ _) (Nat.gcd_dvd_right _ _))
theorem gc_k (i j k : Int) : gc i j k ∣ k := Int.natAbs_dvd_natAbs.mp (by
  unfold gc
  rw [Int.natAbs_natCast]
  exact Nat.gcd_dvd_right _ _)
theorem gc_pos {i j k : Int} (h : k ≠ 0) : 0 < gc i j k := by
  have : 0 < Nat.gcd (Nat.gcd i.natAbs j.natAbs) k.natAbs := Nat.gcd_pos_of_pos_right _ (by omega)
  unfold gc
  omega
theorem gc_le {i j k : Int} (h : k ≠ 0) : gc i j k ≤ ab k := by
  have : Nat.gcd (Nat.gcd i.natAbs j.natAbs) k.natAbs ≤ k.natAbs := Nat.gcd_le_right _ (by omega)
  unfold gc ab
  split <;> omega
theorem gs_ne {i j k : Int} (h : k ≠ 0) : gs i j k ≠ 0 := by
  have := gc_pos (i := i) (j := j) h
  unfold gs
  split <;> omega
theorem gs_natAbs {i j k : Int} (h : k ≠ 0) : (gs i j k).natAbs ≤ k.natAbs := by
  have := gc_pos (i := i) (j := j) h
  have := gc_le (i := i) (j := j) h
  unfold gs
  unfold ab at this
  split <;> split at this <;> omega
def pI (i j k : Int) : Int := i.fdiv (gs i j k)
def pJ (i j k : Int) : Int := j.fdiv (gs i j k)
def pK (i j k : Int) : Int := k.fdiv (gs i j k)
theorem gs_dvd {i j k x : Int} (h : gc i j k ∣ x) : gs i j k ∣ x := by
  unfold gs
  split
  · exact Int.neg_dvd.mpr h
  · exact h
theorem fdiv_of {g x : Int} (hg : g ≠ 0) (h : g ∣ x) : x = g * x.fdiv g := by
  obtain ⟨t, rfl⟩ := h
  rw [Int.mul_fdiv_cancel_left t hg]
theorem pI_eq {i j k : Int} (h : k ≠ 0) : i = gs i j k * pI i j k := fdiv_of (gs_ne h) (gs_dvd (gc_i i j k))
theorem pJ_eq {i j k : Int} (h : k ≠ 0) : j = gs i j k * pJ i j k := fdiv_of (gs_ne h) (gs_dvd (gc_j i j k))
theorem pK_eq {i j k : Int} (h : k ≠ 0) : k = gs i j k * pK i j k := fdiv_of (gs_ne h) (gs_dvd (gc_k i j k))
theorem pK_pos {i j k : Int} (h : k ≠ 0) : 0 < pK i j k := by
  have e := pK_eq (i := i) (j := j) h
  have g0 := gc_pos (i := i) (j := j) h
  generalize pK i j k = t at *
  unfold gs at e
  split at e
  · rcases Int.lt_or_le 0 t with z | z
    · exact z
    · have : 0 ≤ -gc i j k * t := Int.mul_nonneg_of_nonpos_of_nonpos (by omega) z
      omega
  · rcases Int.lt_or_le 0 t with z | z
    · exact z
    · have : gc i j k * t ≤ 0 := Int.mul_nonpos_of_nonneg_of_nonpos (by omega) z
      omega
theorem nat_le_mul {g t : Int} (hg : g ≠ 0) : t.natAbs ≤ (g * t).natAbs := by
  rw [Int.natAbs_mul]
  exact Nat.le_mul_of_pos_left _ (by omega)
theorem pI_le {i j k : Int} (h : k ≠ 0) : (pI i j k).natAbs ≤ i.natAbs := by
  have e := pI_eq (i := i) (j := j) h
  have := nat_le_mul (g := gs i j k) (t := pI i j k) (gs_ne h)
  rw [← e] at this
  exact this
theorem pJ_le {i j k : Int} (h : k ≠ 0) : (pJ i j k).natAbs ≤ j.natAbs := by
  have e := pJ_eq (i := i) (j := j) h
  have := nat_le_mul (g := gs i j k) (t := pJ i j k) (gs_ne h)
  rw [← e] at this
  exact this
theorem pK_le {i j k : Int} (h : k ≠ 0) : (pK i j k).natAbs ≤ k.natAbs := by
  have e := pK_eq (i := i) (j := j) h
  have := nat_le_mul (g := gs i j k) (t := pK i j k) (gs_ne h)
  rw [← e] at this
  exact this
theorem gc_one {i j k : Int} (h : k ≠ 0) : gc (pI i j k) (pJ i j k) (pK i j k) = 1 := by
  have e1 : i.natAbs = (gs i j k).natAbs * (pI i j k).natAbs := by rw [← Int.natAbs_mul, ← pI_eq h]
  have e2 : j.natAbs = (gs i j k).natAbs * (pJ i j k).natAbs := by rw [← Int.natAbs_mul, ← pJ_eq h]
  have e3 : k.natAbs = (gs i j k).natAbs * (pK i j k).natAbs := by rw [← Int.natAbs_mul, ← pK_eq h]
  have eg : (gs i j k).natAbs = Nat.gcd (Nat.gcd i.natAbs j.natAbs) k.natAbs := by
    unfold gs gc
    split <;> omega
  have key : Nat.gcd (Nat.gcd i.natAbs j.natAbs) k.natAbs = (gs i j k).natAbs * Nat.gcd (Nat.gcd (pI i j k).natAbs (pJ i j k).natAbs) (pK i j k).natAbs := by
    conv => lhs; rw [e1, e2, e3]
    rw [Nat.gcd_mul_left, Nat.gcd_mul_left]
  rw [← eg] at key
  have gp : 0 < (gs i j k).natAbs := by have := gs_ne (i := i) (j := j) h; omega
  have : Nat.gcd (Nat.gcd (pI i j k).natAbs (pJ i j k).natAbs) (pK i j k).natAbs = 1 := by
    have q : (gs i j k).natAbs * 1 = (gs i j k).natAbs * Nat.gcd (Nat.gcd (pI i j k).natAbs (pJ i j k).natAbs) (pK i j k).natAbs := by omega
    exact (Nat.eq_of_mul_eq_mul_left gp q).symm
  unfold gc
  rw [this]
  rfl
theorem dvd_low {a b c a' b' c' : Int} (hg : gc a b c = 1) (h1 : a * c' = a' * c) (h2 : b * c' = b' * c) : c ∣ c' := by
  apply Int.natAbs_dvd_natAbs.mp
  have d1 : c.natAbs ∣ a.natAbs * c'.natAbs := by rw [← Int.natAbs_mul, h1, Int.natAbs_mul]; exact Nat.dvd_mul_left _ _
  have d2 : c.natAbs ∣ b.natAbs * c'.natAbs := by rw [← Int.natAbs_mul, h2, Int.natAbs_mul]; exact Nat.dvd_mul_left _ _
  have d3 : c.natAbs ∣ c.natAbs * c'.natAbs := Nat.dvd_mul_right _ _
  have d : c.natAbs ∣ Nat.gcd (Nat.gcd (a.natAbs * c'.natAbs) (b.natAbs * c'.natAbs)) (c.natAbs * c'.natAbs) := Nat.dvd_gcd (Nat.dvd_gcd d1 d2) d3
  rw [Nat.gcd_mul_right, Nat.gcd_mul_right] at d
  have : Nat.gcd (Nat.gcd a.natAbs b.natAbs) c.natAbs = 1 := by unfold gc at hg; omega
  rw [this, Nat.one_mul] at d
  exact d
theorem low_uniq {a b c a' b' c' : Int} (hc : 0 < c) (hc' : 0 < c') (hg : gc a b c = 1) (hg' : gc a' b' c' = 1) (h1 : a * c' = a' * c) (h2 : b * c' = b' * c) : a = a' ∧ b = b' ∧ c = c' := by
  have e : c = c' := Int.dvd_antisymm (by omega) (by omega) (dvd_low hg h1 h2) (dvd_low hg' h1.symm h2.symm)
  subst e
  exact ⟨Int.eq_of_mul_eq_mul_right (by omega) h1, Int.eq_of_mul_eq_mul_right (by omega) h2, rfl⟩
/-- equal numbers have equal parts -/
theorem parts_eq {i j k i' j' k' : Int} (h : k ≠ 0) (h' : k' ≠ 0) (h1 : i * k' = i' * k) (h2 : j * k' = j' * k) : pI i j k = pI i' j' k' ∧ pJ i j k = pJ i' j' k' ∧ pK i j k = pK i' j' k' := by
  have g := gs_ne (i := i) (j := j) h
  have g' := gs_ne (i := i') (j := j') h'
  have a1 := pI_eq (i := i) (j := j) h
  have a2 := pJ_eq (i := i) (j := j) h
  have a3 := pK_eq (i := i) (j := j) h
  have b1 := pI_eq (i := i') (j := j') h'
  have b2 := pJ_eq (i := i') (j := j') h'
  have b3 := pK_eq (i := i') (j := j') h'
  refine low_uniq (pK_pos h) (pK_pos h') (gc_one h) (gc_one h') ?_ ?_
  · have : gs i j k * gs i' j' k' ≠ 0 := Int.mul_ne_zero g g'
    apply Int.eq_of_mul_eq_mul_left this
    generalize gs i j k = s at *
    generalize gs i' j' k' = s' at *
    generalize pI i j k = x at *
    generalize pI i' j' k' = x' at *
    generalize pK i j k = z at *
    generalize pK i' j' k' = z' at *
    rw [a1, b1, a3, b3] at h1
    grind
  · have : gs i j k * gs i' j' k' ≠ 0 := Int.mul_ne_zero g g'
    apply Int.eq_of_mul_eq_mul_left this
    generalize gs i j k = s at *
    generalize gs i' j' k' = s' at *
    generalize pJ i j k = x at *
    generalize pJ i' j' k' = x' at *
    generalize pK i j k = z at *
    generalize pK i' j' k' = z' at *
    rw [a2, b2, a3, b3] at h2
    grind
/-- the sign of a number does not hang on how it is told -/
theorem sg_parts {d i j k : Int} (h : 0 < k) : sg d (pI i j k) (pJ i j k) = sg d i j := by
  have g := gs_ne (i := i) (j := j) (k := k) (by omega)
  have gp : 0 < gs i j k := by
    have := gc_pos (i := i) (j := j) (k := k) (by omega)
    unfold gs
    rw [if_neg (by omega)]
    exact this
  have e := sg_mul (d := d) (i := pI i j k) (j := pJ i j k) gp
  rw [← pI_eq (by omega), ← pJ_eq (by omega)] at e
  exact e.symm
end RF

namespace RF
open PySem L2 PyProof.Rows
/-! ### what a surd looks like -/
theorem kRP : ¬ (("_root" : Str) = "_parts") := by decide +kernel
def sfl (d : Int) (t : Addr) : List (Str × V) := putF "_parts" (.ref t) (putF "_root" (.int d) [])
theorem sfl_root (d : Int) (t : Addr) : (sfl d t).lookup ("_root" : Str) = some (.int d) := by
  unfold sfl
  rw [lookup_putF, if_neg kRP, lookup_putF, if_pos rfl]
theorem sfl_parts (d : Int) (t : Addr) : (sfl d t).lookup ("_parts" : Str) = some (.ref t) := by
  unfold sfl
  rw [lookup_putF, if_pos rfl]
theorem sfl_no (d : Int) (t : Addr) {m : Str} (h1 : ¬ m = "_parts") (h2 : ¬ m = "_root") : (sfl d t).lookup m = none := by
  unfold sfl
  rw [lookup_putF, if_neg h1, lookup_putF, if_neg h2]
  all_goals rfl
/-- at p: the surd of the root d with the parts i, j, k -/
def SurdAt (H : Hp) (C p : Addr) (d i j k : Int) : Prop := ∃ dx t, H p = some (.ins C dx (sfl d t)) ∧ H t = some (.tup [.int i, .int j, .int k])
theorem SurdAt.same {H H' : Hp} {C p : Addr} {d i j k : Int} (s : Same H H') (h : SurdAt H C p d i j k) : SurdAt H' C p d i j k := by
  obtain ⟨dx, t, h1, h2⟩ := h
  exact ⟨dx, t, s _ _ h1, s _ _ h2⟩
/-- below two to the n -/
def Bd (n : Nat) (i : Int) : Prop := i.natAbs < 2 ^ n
theorem Bd.mono {n m : Nat} {i : Int} (h : Bd n i) (hn : n ≤ m) : Bd m i := Nat.lt_of_lt_of_le h (Nat.pow_le_pow_right (by decide) hn)
theorem Bd.mul {n m : Nat} {i j : Int} (a : Bd n i) (b : Bd m j) : Bd (n + m) (i * j) := wide_lt a b
theorem Bd.add {n : Nat} {i j : Int} (a : Bd n i) (b : Bd n j) : Bd (n + 1) (i + j) := by
  unfold Bd at *
  rw [Nat.pow_succ]
  omega
theorem Bd.neg {n : Nat} {i : Int} (a : Bd n i) : Bd n (-i) := by
  unfold Bd at *
  omega
theorem Bd.le {n : Nat} {i j : Int} (a : Bd n i) (h : j.natAbs ≤ i.natAbs) : Bd n j := Nat.lt_of_le_of_lt h a
theorem Bd.ab {n : Nat} {i : Int} (a : Bd n i) : Bd n (if i < 0 then -i else i) := by
  unfold Bd at *
  split <;> omega
theorem Bd.log {n : Nat} {i : Int} (a : Bd n i) (h : 0 < n) : i.natAbs.log2 < n := PySem.Flt.log2_lt_of h a
theorem mulOk {n m : Nat} {i j : Int} (a : Bd n i) (b : Bd m j) (h0 : 0 < n) (h1 : 0 < m) (h : n + m ≤ 1000000) : CMulW i j := wide_mul a b h0 h1 h
theorem rootBd {d : Int} (h : Root d) : Bd 4 d := by
  unfold Bd
  unfold Root at h
  omega
/-- // by any great divisor but 0 -/
def CDivNW (_ j : Int) : Prop := j ≠ 0 ∧ j.natAbs.log2 < 9000
theorem op_fdivNW {X : Cx} : OpR X (binaryOp .FloorDiv) (rI CDivNW fun i j => .int (i.fdiv j)) := opI fun _ _ _ _ _ _ _ hc q => floordiv_int hc.1 q (.inl (PyProof.noPylong_of_log2 hc.2))

/-! ### a written dict with int keys -/
def okE : List DictEntry → List Int → Bool
  | [], [] => true
  | e :: es, k :: ks => (match e.key with | .int i _ => i == k | _ => false) && e.hash == hashInt k && okE es ks
  | _, _ => false
structure IntKeys (K : PySem.W.Frag) (d : Addr) (ks : List Int) : Prop where
  low : (d == sysModules) = false
  ex : ∃ es n, K.lookup d = some ⟨.type "dict", none, .dict es n, #[]⟩ ∧ okE es.toList ks = true
theorem okE_mem : ∀ {es : List DictEntry} {ks : List Int}, okE es ks = true → ∀ e ∈ es, ∃ k t, k ∈ ks ∧ e.key = .int k t ∧ e.hash = hashInt k
  | [], _, _, e, he => by cases he
  | c :: es, [], h, e, he => by simp [okE] at h
  | c :: es, k :: ks, h, e, he => by
    unfold okE at h
    simp only [Bool.and_eq_true, beq_iff_eq] at h
    obtain ⟨⟨h1, h2⟩, h3⟩ := h
    rcases List.mem_cons.mp he with rfl | he
    · split at h1
      · rename_i i t q
        exact ⟨k, t, List.mem_cons_self, by rw [q, beq_iff_eq.mp h1], h2⟩
      · cases h1
    · obtain ⟨k', t, a, b, c⟩ := okE_mem h3 e he
      exact ⟨k', t, List.mem_cons_of_mem _ a, b, c⟩
theorem okE_find : ∀ {es : List DictEntry} {ks : List Int} (i : Int), okE es ks = true → (es.find? fun e => Value.isInt i e.key).isSome = decide (i ∈ ks)
  | [], [], i, _ => by simp
  | [], k :: ks, i, h => by simp [okE] at h
  | c :: es, [], i, h => by simp [okE] at h
  | c :: es, k :: ks, i, h => by
    unfold okE at h
    simp only [Bool.and_eq_true, beq_iff_eq] at h
    obtain ⟨⟨h1, h2⟩, h3⟩ := h
    have ih := okE_find i h3
    split at h1
    · rename_i j t q
      have e : j = k := beq_iff_eq.mp h1
      rw [List.find?_cons]
      by_cases z : i = k
      · have : Value.isInt i c.key = true := by rw [q, e, z]; simp [Value.isInt]
        rw [this]
        simp [z]
      · have : Value.isInt i c.key = false := by
          rw [q, e]
          simp only [Value.isInt]
          exact beq_eq_false_iff_ne.mpr (fun w => z w.symm) |> fun h => by first | exact h | (rw [beq_eq_false_iff_ne]; exact z) | simpa using z
        rw [this]
        simp [ih, z]
    · cases h1
theorem op_in_intd {X : Cx} : OpR X (compareOp .In) (fun x y H Q => ∃ i d ks, x = .int i ∧ y = .ref d ∧ IntKeys X.K d ks ∧ Q (.bl (decide (i ∈ ks))) H) := by
  intro pins s σ H x y v u Q I rx ry h
  obtain ⟨i, d, ks, rfl, rfl, ⟨low, es, n, hl, he⟩, q⟩ := h
  obtain ⟨t, rfl⟩ := rx
  cases ry
  have hm : s.heap.MapOf (intKind X.prog X.w) d (fun k => findBy Value.isInt es k) := ⟨_, es, n, I.kIn _ _ hl, ⟨rfl, rfl, rfl⟩, rfl, fun e hh => by
    obtain ⟨k, t, _, e1, e2⟩ := okE_mem he e (Array.mem_toList_iff.mpr hh)
    exact ⟨k, by rw [e1]; show Value.isInt k (.int k t) = true; simp [Value.isInt], e2⟩, fun _ => rfl⟩
  refine wpAny_in_of (knd := intKind X.prog X.w) (k := i) (by show Value.isInt i (.int i t) = true; simp [Value.isInt]) low hm ?_
  have e : (findBy Value.isInt es i).isSome = decide (i ∈ ks) := by
    unfold findBy
    rw [Option.isSome_map, ← okE_find i he, ← List.find?_toArray]
  rw [e]
  exact ⟨.bl _, H, I.tok _, rfl, q⟩
end RF

namespace RF
open PySem L2
def isS (x : Str) : D → Bool
  | .str y => decide (y = x)
  | _ => false
/-! ### data that has no part at some addresses -/
def hid (S : List Addr) (H : Hp) : Hp := fun a => if a ∈ S then none else H a
theorem hid_ne {S : List Addr} {a : Addr} {H : Hp} (h : a ∉ S) : hid S H a = H a := if_neg h
theorem hid_same {S : List Addr} {H : Hp} : Same (hid S H) H := fun a o e => by
  unfold hid at e
  split at e
  · cases e
  · exact e
theorem hid_le {S S' : List Addr} {H : Hp} (h : ∀ s ∈ S', s ∈ S) : Same (hid S H) (hid S' H) := fun a o e => by
  unfold hid at *
  split at e
  · cases e
  · rename_i n
    rw [if_neg (fun m => n (h a m))]
    exact e
theorem hid_mono {S : List Addr} {H H' : Hp} (s : Same H H') : Same (hid S H) (hid S H') := fun a o e => by
  unfold hid at *
  split at e
  · cases e
  · rename_i h
    rw [if_neg h]
    exact s a o e
theorem hid_kp {S : List Addr} {b : Addr} {H H' : Hp} (hb : b ∈ S) (k : Kp b H H') : Same (hid S H) (hid S H') := fun a o e => by
  unfold hid at *
  split at e
  · cases e
  · rename_i h
    rw [if_neg h]
    exact k a o (fun z => h (z ▸ hb)) e
theorem hid_upd {S : List Addr} {p : Addr} {H : Hp} {o : HO} (hp : p ∈ S) : hid S (upd H p o) = hid S H := by
  funext a
  unfold hid
  split
  · rfl
  · rename_i h
    exact upd_ne fun z => h (z ▸ hp)
def R (K : PySem.W.Frag) (S : List Addr) (H : Hp) (v : V) (d : D) : Prop := Rp K (hid S H) v d
def Rs (K : PySem.W.Frag) (S : List Addr) (H : Hp) (xs : List V) (ds : List D) : Prop := Rps K (hid S H) xs ds
/-- all of S is there -/
def Alloc (S : List Addr) (H : Hp) : Prop := ∀ s ∈ S, H s ≠ none
theorem Alloc.off {S : List Addr} {H : Hp} {p : Addr} (h : Alloc S H) (e : H p = none) : p ∉ S := fun m => h p m e
theorem Alloc.same {S : List Addr} {H H' : Hp} (h : Alloc S H) (s : Same H H') : Alloc S H' := fun a m z => by
  cases e : H a with
  | none => exact h a m e
  | some o => rw [s a o e] at z; cases z
theorem Alloc.kp {S : List Addr} {b : Addr} {H H' : Hp} (h : Alloc S H) (k : Kp b H H') (hb : H' b ≠ none) : Alloc S H' := fun a m z => by
  by_cases hab : a = b
  · subst hab; exact hb z
  · cases e : H a with
    | none => exact h a m e
    | some o => rw [k a o hab e] at z; cases z
theorem Alloc.cons {S : List Addr} {H : Hp} {p : Addr} (h : Alloc S H) (e : H p ≠ none) : Alloc (p :: S) H := fun a m => by
  rcases List.mem_cons.mp m with rfl | m
  · exact e
  · exact h a m
section
variable {K : PySem.W.Frag} {S S' : List Addr} {b : Addr} {H H' : Hp} {v : V} {d : D} {xs : List V} {ds : List D}
theorem R.rp (h : R K S H v d) : Rp K H v d := Rp.same hid_same d h
theorem R.same (h : R K S H v d) (s : Same H H') : R K S H' v d := Rp.same (hid_mono s) d h
theorem R.kp (h : R K S H v d) (hb : b ∈ S) (k : Kp b H H') : R K S H' v d := Rp.same (hid_kp hb k) d h
theorem R.le (h : R K S H v d) (l : ∀ s ∈ S', s ∈ S) : R K S' H v d := Rp.same (hid_le l) d h
theorem R.upd {p : Addr} {o : HO} (h : R K S H v d) (hp : p ∈ S) : R K S (L2.upd H p o) v d := by unfold R; rw [hid_upd hp]; exact h
theorem Rs.rps (h : Rs K S H xs ds) : Rps K H xs ds := Rps.same hid_same ds h
theorem Rs.same (h : Rs K S H xs ds) (s : Same H H') : Rs K S H' xs ds := Rps.same (hid_mono s) ds h
theorem Rs.kp (h : Rs K S H xs ds) (hb : b ∈ S) (k : Kp b H H') : Rs K S H' xs ds := Rps.same (hid_kp hb k) ds h
theorem Rs.le (h : Rs K S H xs ds) (l : ∀ s ∈ S', s ∈ S) : Rs K S' H xs ds := Rps.same (hid_le l) ds h
theorem Rs.upd {p : Addr} {o : HO} (h : Rs K S H xs ds) (hp : p ∈ S) : Rs K S (L2.upd H p o) xs ds := by unfold Rs; rw [hid_upd hp]; exact h
theorem R.tup {p : Addr} (n : p ∉ S) (e : H p = some (.tup xs)) (l : xs.length ≤ 100000) (h : Rs K S H xs ds) : R K S H (.ref p) (.tup ds) :=
  ⟨p, xs, rfl, SqT.of (by rw [hid_ne n]; exact e), l, h⟩
theorem R.lst {p : Addr} (n : p ∉ S) (e : H p = some (.lst xs)) (l : xs.length ≤ 100000) (h : Rs K S H xs ds) : R K S H (.ref p) (.lst ds) :=
  ⟨p, xs, rfl, SqL.of (by rw [hid_ne n]; exact e), l, h⟩
theorem Rs.nil : Rs K S H [] [] := rfl
theorem Rs.cons {x : V} {e : D} (h1 : R K S H x e) (h2 : Rs K S H xs ds) : Rs K S H (x :: xs) (e :: ds) := ⟨x, xs, rfl, h1, h2⟩
/-- a new tuple of what is there -/
theorem R.newT {p : Addr} (a : Alloc S H) (e : H p = none) (l : xs.length ≤ 100000) (h : Rs K S H xs ds) : R K S (L2.upd H p (.tup xs)) (.ref p) (.tup ds) :=
  R.tup (a.off e) upd_same l (h.same (sNew (Same.refl _) e))
theorem R.newL {p : Addr} (a : Alloc S H) (e : H p = none) (l : xs.length ≤ 100000) (h : Rs K S H xs ds) : R K S (L2.upd H p (.lst xs)) (.ref p) (.lst ds) :=
  R.lst (a.off e) upd_same l (h.same (sNew (Same.refl _) e))
theorem R.int (i : Int) : R K S H (.int i) (.int i) := rfl
theorem R.str (x : Str) : R K S H (.str x) (.str x) := rfl
theorem R.bl (x : Bool) : R K S H (.bl x) (.bl x) := rfl
theorem R.non : R K S H .non .non := rfl
end
theorem Rps.app {K : PySem.W.Frag} {H : Hp} : ∀ {xs ys : List V} {ds es : List D}, Rps K H xs ds → Rps K H ys es → Rps K H (xs ++ ys) (ds ++ es)
  | xs, ys, [], es, h, g => by rw [show xs = [] from h]; exact g
  | xs, ys, d :: ds, es, h, g => by
    obtain ⟨x, r, rfl, h2, h3⟩ := h
    exact ⟨x, r ++ ys, rfl, h2, Rps.app h3 g⟩
theorem Rs.app {K : PySem.W.Frag} {S : List Addr} {H : Hp} {xs ys : List V} {ds es : List D} (h : Rs K S H xs ds) (g : Rs K S H ys es) : Rs K S H (xs ++ ys) (ds ++ es) := Rps.app h g
theorem Rps.take {K : PySem.W.Frag} {H : Hp} : ∀ {xs : List V} {ds : List D} (n : Nat), Rps K H xs ds → Rps K H (xs.take n) (ds.take n)
  | xs, ds, 0, h => by rw [List.take_zero, List.take_zero]; rfl
  | xs, [], n + 1, h => by rw [show xs = [] from h]; rfl
  | xs, d :: ds, n + 1, h => by
    obtain ⟨x, r, rfl, h2, h3⟩ := h
    exact ⟨x, r.take n, rfl, h2, Rps.take n h3⟩
theorem Rps.drop {K : PySem.W.Frag} {H : Hp} : ∀ {xs : List V} {ds : List D} (n : Nat), Rps K H xs ds → Rps K H (xs.drop n) (ds.drop n)
  | xs, ds, 0, h => h
  | xs, [], n + 1, h => by rw [show xs = [] from h]; rfl
  | xs, d :: ds, n + 1, h => by
    obtain ⟨x, r, rfl, h2, h3⟩ := h
    exact Rps.drop n h3
theorem Rps.of {K : PySem.W.Frag} {H : Hp} : ∀ {xs : List V} {ds : List D} {i : Nat} {d : D}, Rps K H xs ds → ds[i]? = some d → ∃ x, xs[i]? = some x ∧ Rp K H x d
  | xs, [], i, d, h, e => by simp at e
  | xs, c :: ds, 0, d, h, e => by
    obtain ⟨x, r, rfl, h2, _⟩ := h
    cases e
    exact ⟨x, rfl, h2⟩
  | xs, c :: ds, i + 1, d, h, e => by
    obtain ⟨x, r, rfl, _, h3⟩ := h
    obtain ⟨y, e1, e2⟩ := Rps.of (i := i) h3 e
    exact ⟨y, e1, e2⟩
/-- the part of a list that a slice tells -/
def cutD (ds : List D) (lo hi : Option Int) : List D := (ds.drop (HT.sIx ds.length 0 lo)).take (HT.sIx ds.length ds.length hi - HT.sIx ds.length 0 lo)
theorem Rps.cut {K : PySem.W.Frag} {H : Hp} {xs : List V} {ds : List D} (h : Rps K H xs ds) (lo hi : Option Int) : Rps K H (cutV xs lo hi) (cutD ds lo hi) := by
  unfold cutV cutD
  rw [h.len]
  exact Rps.take _ (Rps.drop _ h)
theorem Rs.cut {K : PySem.W.Frag} {S : List Addr} {H : Hp} {xs : List V} {ds : List D} (h : Rs K S H xs ds) (lo hi : Option Int) : Rs K S H (cutV xs lo hi) (cutD ds lo hi) := Rps.cut h lo hi
theorem cutD_mem {ds : List D} {lo hi : Option Int} {d : D} (h : d ∈ cutD ds lo hi) : d ∈ ds := List.mem_of_mem_drop (List.mem_of_mem_take h)
theorem cutD_len (ds : List D) (lo hi : Option Int) : (cutD ds lo hi).length ≤ ds.length := by
  unfold cutD
  rw [List.length_take, List.length_drop]
  omega
/-! ### words, terms -/
def letD (c : Nat) : Bool := decide (97 ≤ c) && decide (c ≤ 122)
def noVars : List Str := ["all", "and", "not", "or", "r"]
def wordS (x : Str) (lo hi : Int) : Bool := decide (lo ≤ (x.length : Int)) && (decide ((x.length : Int) ≤ hi) && x.cps.toList.all letD)
def varS (x : Str) : Bool := wordS x 1 3 && !noVars.contains x
def varD : D → Bool
  | .str x => varS x
  | _ => false
theorem sm_up2 {H H1 : Hp} {a : Addr} {o : HO} (s : Same H H1) (h : H a = none) : Same H (upd H1 a o) := fun b u e => by
  have hne : b ≠ a := fun z => by rw [z, h] at e; cases e
  rw [upd_ne hne]
  exact s b u e
end RF

namespace RF
open PySem L2
/-! ### texts: plain facts -/
theorem sx {a b : Str} (h : a.cps = b.cps) : a = b := by cases a; cases b; exact congrArg Str.mk h
theorem cps_app (a b : Str) : (a ++ b).cps = a.cps ++ b.cps := rfl
theorem s_assoc (a b c : Str) : a ++ b ++ c = a ++ (b ++ c) := sx (by rw [cps_app, cps_app, cps_app, cps_app, Array.append_assoc])
theorem e_app (a : Str) : Str.empty ++ a = a := sx (by rw [cps_app]; exact Array.empty_append)
theorem app_e (a : Str) : a ++ Str.empty = a := sx (by rw [cps_app]; exact Array.append_empty)
theorem len_app (a b : Str) : (a ++ b).length = a.length + b.length := Array.size_append
theorem emp_eq : ("" : Str) = Str.empty := by decide +kernel
theorem foldl_cps (g : Str) : ∀ (l : List Str) (a : Array Nat), l.foldl (fun acc p => acc ++ g.cps ++ p.cps) a = a ++ l.foldl (fun acc p => acc ++ g.cps ++ p.cps) #[]
  | [], a => by simp
  | x :: l, a => by
    rw [List.foldl_cons, List.foldl_cons, foldl_cps g l (a ++ g.cps ++ x.cps), foldl_cps g l (#[] ++ g.cps ++ x.cps)]
    simp [Array.append_assoc]
theorem join_nil (a : Str) : Txt.join a [] = Str.empty := rfl
theorem join_one (a x : Str) : Txt.join a [x] = x := rfl
/-- a text behind a joined list of texts -/
theorem join_snoc (x : Str) (l : List Str) : Txt.join Str.empty (l ++ [x]) = Txt.join Str.empty l ++ x := by
  cases l with
  | nil => exact (e_app x).symm
  | cons y l =>
    refine sx ?_
    show List.foldl _ y.cps (l ++ [x]) = List.foldl _ y.cps l ++ x.cps
    rw [List.foldl_append]
    show List.foldl (fun acc p => acc ++ Str.empty.cps ++ p.cps) y.cps l ++ Str.empty.cps ++ x.cps = _
    rw [show Str.empty.cps = (#[] : Array Nat) from rfl, Array.append_empty]
theorem join_len (a : Str) : ∀ l : List Str, (Txt.join a l).length ≤ (l.map (·.length)).sum + l.length * a.length
  | [] => Nat.zero_le _
  | y :: l => by
    have h : ∀ (l : List Str) (z : Array Nat), (l.foldl (fun acc p => acc ++ a.cps ++ p.cps) z).size = z.size + ((l.map (·.length)).sum + l.length * a.length) := by
      intro l
      induction l with
      | nil => intro z; simp
      | cons x l ih =>
        intro z
        rw [List.foldl_cons, ih, Array.size_append, Array.size_append, List.map_cons, List.sum_cons, List.length_cons, Nat.add_mul]
        show z.size + a.length + x.length + _ = _
        omega
    show (List.foldl _ y.cps l).size ≤ _
    rw [h, List.map_cons, List.sum_cons, List.length_cons, Nat.add_mul]
    show y.length + _ ≤ _
    omega
/-! ### the texts of slopes, terms and sayings -/
def aI (i : Int) : Int := if i < 0 then -i else i
def tS (i : Int) : Str := Str.ofString (toString i)
def szS (j : Int) : Str := if aI j = 1 then "" else tS (aI j)
def sm0 (i j : Int) : Str := if j = 0 then tS i else (if j < 0 then ("-" : Str) else "") ++ szS j ++ "r"
def sumS (i j : Int) : Str := if i ≠ 0 ∧ j ≠ 0 then tS i ++ (if j < 0 then ("-" : Str) else "+") ++ szS j ++ "r" else sm0 i j
def stp (i j k : Int) : Str := if k = 1 then sumS i j else if i ≠ 0 ∧ j ≠ 0 then "(" ++ sumS i j ++ ")/" ++ tS k else sumS i j ++ "/" ++ tS k
def mulP (j : Int) : Str := if j = 1 then "r" else if j = -1 then "-r" else Str.empty ++ tS j ++ "r"
def sumP (i j : Int) : Str := if j = 0 then tS i else if i = 0 then mulP j else Str.empty ++ tS i ++ (if j > 0 then ("+" : Str) else "") ++ mulP j
def SlB (i j k : Int) : Prop := (-9 ≤ i ∧ i ≤ 9) ∧ (-3 ≤ j ∧ j ≤ 3) ∧ (1 ≤ k ∧ k ≤ 4)
theorem fin_of {lo hi : Int} {n : Nat} (P : Int → Prop) (hn : hi - lo < n) (h : ∀ a : Fin n, P (lo + a.val)) (i : Int) (h0 : lo ≤ i) (h1 : i ≤ hi) : P i := by
  have := h ⟨(i - lo).toNat, by omega⟩
  have e : lo + ((i - lo).toNat : Int) = i := by omega
  rw [← e]
  exact this
theorem sum_all : ∀ a : Fin 19, ∀ b : Fin 7, sumP (-9 + a.val) (-3 + b.val) = sumS (-9 + a.val) (-3 + b.val) ∧ (sumS (-9 + a.val) (-3 + b.val)).length ≤ 12 := by decide +kernel
theorem sum_ok {i j : Int} (hi : -9 ≤ i ∧ i ≤ 9) (hj : -3 ≤ j ∧ j ≤ 3) : sumP i j = sumS i j ∧ (sumS i j).length ≤ 12 :=
  fin_of (lo := -9) (hi := 9) (n := 19) (fun i => sumP i j = sumS i j ∧ (sumS i j).length ≤ 12) (by decide)
    (fun a => fin_of (lo := -3) (hi := 3) (n := 7) (fun j => sumP (-9 + a.val) j = sumS (-9 + a.val) j ∧ (sumS (-9 + a.val) j).length ≤ 12) (by decide) (fun b => sum_all a b) j hj.1 hj.2) i hi.1 hi.2
theorem tS_all : ∀ a : Fin 1003, (tS a.val).length ≤ 4 ∧ 0 < (tS a.val).length ∧ tS (-(a.val : Int)) = (if a.val = 0 then ("" : Str) else "-") ++ tS a.val := by decide +kernel
theorem tS_ok {i : Int} (h : -1002 ≤ i ∧ i ≤ 1002) : (tS (aI i)).length ≤ 4 ∧ 0 < (tS (aI i)).length ∧ tS i = (if i < 0 then ("-" : Str) else "") ++ tS (aI i) := by
  by_cases hn : i < 0
  · have := tS_all ⟨(-i).toNat, by omega⟩
    simp only [] at this
    rw [show ((-i).toNat : Int) = -i by omega, if_neg (by omega : ¬ (-i).toNat = 0), Int.neg_neg] at this
    rw [aI, if_pos hn, if_pos hn]
    exact this
  · have := tS_all ⟨i.toNat, by omega⟩
    simp only [] at this
    rw [show (i.toNat : Int) = i by omega] at this
    rw [aI, if_neg hn, if_neg hn]
    refine ⟨this.1, this.2.1, ?_⟩
    rw [emp_eq, e_app]
theorem tS_len {i : Int} (h : -1002 ≤ i ∧ i ≤ 1002) : (tS i).length ≤ 5 := by
  have := tS_ok h
  rw [this.2.2, len_app]
  have e : (if i < 0 then ("-" : Str) else "").length ≤ 1 := by split <;> decide +kernel
  omega
theorem stp_len {i j k : Int} (h : SlB i j k) : (stp i j k).length ≤ 30 := by
  have h1 := (sum_ok h.1 h.2.1).2
  have h2 := tS_len (i := k) (by have := h.2.2; omega)
  unfold stp
  split
  · omega
  · split
    · rw [len_app, len_app, len_app]
      have : (("(" : Str)).length = 1 := by decide +kernel
      have : ((")/" : Str)).length = 2 := by decide +kernel
      omega
    · rw [len_app, len_app]
      have : (("/" : Str)).length = 1 := by decide +kernel
      omega
/-! ### terms, as they are drawn -/
def nms : List Str := ["x", "abc", "b", "y", "zz", "u", "v", "w"]
def NmS (x : Str) : Prop := x ∈ nms
theorem NmS.ok {x : Str} (h : NmS x) : 0 < x.length ∧ x.length ≤ 3 ∧ PyData.strOk x = true :=
  (by decide +kernel : ∀ x ∈ nms, 0 < x.length ∧ x.length ≤ 3 ∧ PyData.strOk x = true) x h
def GTh (f : D → Prop) (t : D) : Prop := (∃ x, t = .str x ∧ NmS x) ∨ ∃ i j k u, t = .tup [.str "floor", .tup [.int i, .int j, .int k], u] ∧ SlB i j k ∧ f u
def GIt (f : D → Prop) (it : D) : Prop := ∃ fa t, it = .tup [.int fa, t] ∧ (-9 ≤ fa ∧ fa ≤ 9) ∧ GTh f t
def GTm (f : D → Prop) (d : D) : Prop := ∃ its c, d = .tup [.tup its, .int c] ∧ its.length ≤ 4 ∧ (-1001 ≤ c ∧ c ≤ 1001) ∧ ∀ it ∈ its, GIt f it
def gP : Nat → D → Prop
  | 0 => fun _ => False
  | n + 1 => GTm (gP n)
/-- a term with floors at most n deep -/
abbrev Gt (n : Nat) : D → Prop := GTm (gP n)
theorem GTm.mono {f g : D → Prop} (h : ∀ d, f d → g d) {d : D} (x : GTm f d) : GTm g d := by
  obtain ⟨its, c, e, l, b, y⟩ := x
  refine ⟨its, c, e, l, b, fun it m => ?_⟩
  obtain ⟨fa, t, e1, b1, z⟩ := y it m
  refine ⟨fa, t, e1, b1, ?_⟩
  rcases z with z | ⟨i, j, k, u, e2, b2, z⟩
  · exact .inl z
  · exact .inr ⟨i, j, k, u, e2, b2, h u z⟩
theorem gP_succ : ∀ n d, gP n d → gP (n + 1) d
  | 0, _, h => h.elim
  | n + 1, _, h => GTm.mono (gP_succ n) h
theorem gP_le {n m : Nat} (h : n ≤ m) {d : D} (x : gP n d) : gP m d := by
  induction h with
  | refl => exact x
  | step _ ih => exact gP_succ _ _ ih
def thW (tm : D → Str) : D → Str
  | .str x => x
  | .tup [_, .tup [.int i, .int j, .int k], u] => "floor(" ++ stp i j k ++ ", " ++ tm u ++ ")"
  | _ => ""
def itW (tm : D → Str) (fa : Int) (t : D) : Str := if aI fa = 1 then thW tm t else tS (aI fa) ++ "*" ++ thW tm t
def stepT (acc : Str) (p : Int × Str) : Str := if acc = "" then (if p.1 < 0 then "-" ++ p.2 else p.2) else acc ++ (if p.1 < 0 then (" - " : Str) else " + ") ++ p.2
def prW (tm : D → Str) : D → Int × Str
  | .tup [.int fa, t] => (fa, itW tm fa t)
  | _ => (0, "")
def pcs (tm : D → Str) (its : List D) (c : Int) : List (Int × Str) := its.map (prW tm) ++ (if c ≠ 0 ∨ its.length = 0 then [(c, tS (aI c))] else [])
def tmW (tm : D → Str) : D → Str
  | .tup [.tup its, .int c] => (pcs tm its c).foldl stepT ""
  | _ => ""
def tP : Nat → D → Str
  | 0 => fun _ => ""
  | n + 1 => tmW (tP n)
abbrev tmT (n : Nat) : D → Str := tmW (tP n)
def lP : Nat → Nat
  | 0 => 20
  | n + 1 => 4 * (lP n + 60) + 20
theorem thW_len {f : D → Prop} {tm : D → Str} {n : Nat} (h : ∀ d, f d → (tm d).length ≤ n) {t : D} (g : GTh f t) : (thW tm t).length ≤ n + 45 ∧ 0 < (thW tm t).length := by
  rcases g with ⟨x, rfl, h1⟩ | ⟨i, j, k, u, rfl, b, y⟩
  · show x.length ≤ _ ∧ 0 < x.length
    have := h1.ok
    omega
  · show ("floor(" ++ stp i j k ++ ", " ++ tm u ++ ")" : Str).length ≤ _ ∧ 0 < ("floor(" ++ stp i j k ++ ", " ++ tm u ++ ")" : Str).length
    rw [len_app, len_app, len_app, len_app]
    have e1 : (("floor(" : Str)).length = 6 := by decide +kernel
    have e2 : ((", " : Str)).length = 2 := by decide +kernel
    have e3 : ((")" : Str)).length = 1 := by decide +kernel
    have := stp_len b
    have := h u y
    omega
theorem itW_len {f : D → Prop} {tm : D → Str} {n : Nat} (h : ∀ d, f d → (tm d).length ≤ n) {t : D} {fa : Int} (g : GTh f t) (b : -9 ≤ fa ∧ fa ≤ 9) : (itW tm fa t).length ≤ n + 50 ∧ 0 < (itW tm fa t).length := by
  have h1 := thW_len h g
  have h2 := (tS_ok (i := fa) (by omega)).1
  unfold itW
  split
  · omega
  · rw [len_app, len_app]
    have e1 : (("*" : Str)).length = 1 := by decide +kernel
    omega
theorem stepT_len (acc : Str) (p : Int × Str) : (stepT acc p).length ≤ acc.length + 3 + p.2.length ∧ (0 < p.2.length → 0 < (stepT acc p).length) := by
  have e1 : (("-" : Str)).length = 1 := by decide +kernel
  have e2 : ((" - " : Str)).length = 3 := by decide +kernel
  have e3 : ((" + " : Str)).length = 3 := by decide +kernel
  unfold stepT
  split
  · split
    · rw [len_app]; omega
    · omega
  · rw [len_app, len_app]
    split <;> omega
theorem fold_len {n : Nat} : ∀ (l : List (Int × Str)) (a : Str), (∀ p ∈ l, p.2.length ≤ n) → (l.foldl stepT a).length ≤ a.length + l.length * (n + 3)
  | [], a, _ => by simp
  | p :: l, a, h => by
    have h1 := fold_len l (stepT a p) fun q m => h q (List.mem_cons_of_mem _ m)
    have h2 := (stepT_len a p).1
    have h3 := h p List.mem_cons_self
    rw [List.foldl_cons, List.length_cons, Nat.add_mul]
    omega
theorem fold_pos (l : List (Int × Str)) (h : ∀ p ∈ l, 0 < p.2.length) (hl : l ≠ []) : 0 < (l.foldl stepT "").length := by
  obtain ⟨l', p, rfl⟩ : ∃ l' p, l = l' ++ [p] := ⟨_, _, (List.dropLast_concat_getLast hl).symm⟩
  rw [List.foldl_append]
  exact (stepT_len _ _).2 (h p (List.mem_append_right _ List.mem_cons_self))
theorem ne_emp {a : Str} (h : 0 < a.length) : a ≠ "" := fun z => by
  subst z
  exact absurd h (by decide +kernel)
theorem pcs_ok {f : D → Prop} {tm : D → Str} {n : Nat} (h : ∀ d, f d → (tm d).length ≤ n) {its : List D} {c : Int} (hc : -1001 ≤ c ∧ c ≤ 1001) (g : ∀ it ∈ its, GIt f it) :
    ∀ p ∈ pcs tm its c, p.2.length ≤ n + 50 ∧ 0 < p.2.length ∧ (-1001 ≤ p.1 ∧ p.1 ≤ 1001) := by
  intro p hp
  rcases List.mem_append.mp hp with m | m
  · obtain ⟨it, hi, rfl⟩ := List.mem_map.mp m
    obtain ⟨fa, t, rfl, b, gt⟩ := g it hi
    have := itW_len h gt b
    show (itW tm fa t).length ≤ _ ∧ 0 < (itW tm fa t).length ∧ (-1001 ≤ fa ∧ fa ≤ 1001)
    omega
  · split at m
    · rw [List.mem_singleton.mp m]
      have := tS_ok (i := c) (by omega)
      show (tS (aI c)).length ≤ _ ∧ 0 < (tS (aI c)).length ∧ (-1001 ≤ c ∧ c ≤ 1001)
      omega
    · cases m
theorem pcs_len {tm : D → Str} {its : List D} {c : Int} (h : its.length ≤ 4) : (pcs tm its c).length ≤ 5 := by
  unfold pcs
  rw [List.length_append, List.length_map]
  split <;> simp <;> omega
theorem tP_len : ∀ (n : Nat) (d : D), gP n d → (tP n d).length ≤ lP n
  | 0, _, h => h.elim
  | n + 1, d, h => by
    obtain ⟨its, c, rfl, l, b, y⟩ := h
    have p := pcs_ok (tP_len n) b y
    have q := pcs_len (tm := tP n) (c := c) l
    show ((pcs (tP n) its c).foldl stepT "").length ≤ 4 * (lP n + 60) + 20
    -- at most four things and a constant
    have r : ((its.map (prW (tP n))).foldl stepT "").length ≤ 4 * (lP n + 53) := by
      have := fold_len (n := lP n + 50) (its.map (prW (tP n))) "" fun q m => (p q (List.mem_append_left _ m)).1
      rw [List.length_map] at this
      have e : (("" : Str)).length = 0 := by decide +kernel
      have m := Nat.mul_le_mul_right (lP n + 50 + 3) l
      omega
    unfold pcs
    rw [List.foldl_append]
    split
    · show (stepT _ (c, tS (aI c))).length ≤ _
      have := (stepT_len ((its.map (prW (tP n))).foldl stepT "") (c, tS (aI c))).1
      have t := (tS_ok (i := c) (by omega)).1
      have t' : (tS (aI c)).length = ((c, tS (aI c)) : Int × Str).2.length := rfl
      omega
    · show (((its.map (prW (tP n))).foldl stepT "")).length ≤ _
      omega
theorem tm_len {n : Nat} {d : D} (h : Gt n d) : (tmT n d).length ≤ lP (n + 1) := tP_len (n + 1) d h
end RF

set_option autoImplicit false
set_option linter.all false
/-! Un: reading what is told -/
namespace Q
open PySem L2
theorem un65 {k : Nat} {A : Around} (r : Room k A) : A.units + 65 < cLine := by have := r.un; omega
/-- what the built-in names are: none of the module's -/
structure TN (mg : Str → Option Value) : Prop where
  abs : mg "abs" = none
  divmod : mg "divmod" = none
  str : mg "str" = none
  int : mg "int" = none
  len : mg "len" = none
  list : mg "list" = none
  tuple : mg "tuple" = none
  bool : mg "bool" = none
  isinstance : mg "isinstance" = none
  range : mg "range" = none
  enumerate : mg "enumerate" = none
  zip : mg "zip" = none
  reversed : mg "reversed" = none
  sorted : mg "sorted" = none
  sum : mg "sum" = none
  all : mg "all" = none
  any : mg "any" = none
  max : mg "max" = none
  min : mg "min" = none
theorem eqD_int (a b : Int) : eqD (.int a) (.int b) = decide (a = b) := by
  show (a == b) = _
  exact Bool.beq_eq_decide_eq _ _
theorem eqD_str (a b : Str) : eqD (.str a) (.str b) = decide (a = b) := by
  show (a == b) = _
  exact Bool.beq_eq_decide_eq _ _
theorem scal_ii (a b : Int) : scalD (.int a) (.int b) = true := rfl
theorem scal_ss (a b : Str) : scalD (.str a) (.str b) = true := rfl
theorem get_s {α : Type} (a : α) (l : List α) (n : Nat) : (a :: l)[n + 1]? = l[n]? := List.getElem?_cons_succ
theorem get_z {α : Type} (a : α) (l : List α) : (a :: l)[0]? = some a := List.getElem?_cons_zero
theorem iteBT {A B : Prop} : (if true = true then A else B) = A := if_pos rfl
theorem iteBF {A B : Prop} : (if false = true then A else B) = B := if_neg (by decide)
theorem iteD {p : Prop} [Decidable p] {A B : Prop} : (if decide p = true then A else B) = if p then A else B := by
  by_cases h : p
  · rw [if_pos (decide_eq_true h), if_pos h]
  · rw [if_neg (by rw [decide_eq_false h]; decide), if_neg h]
theorem iteN' {b : Bool} {A B : Prop} : (if (!b) = true then A else B) = if b = true then B else A := by cases b <;> rfl
end Q

set_option autoImplicit false
set_option linter.all false
/-! Q9: turns by what holds before each -/
namespace Q
open PySem L2
theorem loop_ind {g : WG} {body : WS} {E : En} (I : List D → Ev → Prop) (h0 : ∀ ρ, I [] ρ → E.nx ρ)
    (hs : ∀ (d : D) (ds : List D) (ρ : Ev) (N : Ev → Prop), I (d :: ds) ρ → (∀ ρ', I ds ρ' → N ρ') → g (.fz d) ρ fun ρ1 => body { nx := N, rt := E.rt, bk := E.nx, ct := N } ρ1) :
    ∀ (ds : List D) (ρ : Ev), I ds ρ → loopW g body ds E ρ
  | [], ρ, h => h0 ρ h
  | d :: ds, ρ, h => hs d ds ρ (loopW g body ds E) h fun ρ' h' => loop_ind I h0 hs ds ρ' h'
theorem lc_ind {vs : List Nat} {g : WG} {c : WT} {we : WE} {k : List D → Ev → Prop} (I : List D → List D → Ev → Prop) (h0 : ∀ acc ρ, I [] acc ρ → k acc ρ)
    (hs : ∀ (d : D) (ds acc : List D) (ρ : Ev) (N : List D → Ev → Prop), I (d :: ds) acc ρ → (∀ acc' ρ', I ds acc' ρ' → N acc' ρ') →
      g (.fz d) ρ fun ρ1 => c ρ1 fun b ρ2 => if b = true then we ρ2 fun s ρ3 => acc.length < 1000000 ∧ N (acc ++ [s.toD]) (wipeE ρ3 vs) else N acc (wipeE ρ2 vs)) :
    ∀ (ds acc : List D) (ρ : Ev), I ds acc ρ → lcW vs g c we ds acc ρ k
  | [], acc, ρ, h => h0 acc ρ h
  | d :: ds, acc, ρ, h => hs d ds acc ρ (fun acc ρ => lcW vs g c we ds acc ρ k) h fun acc' ρ' h' => lc_ind I h0 hs ds acc' ρ' h'
theorem loop_at {g : WG} {body : WS} {E : En} {ds0 : List D} {ρ0 : Ev} (I : Ev → List D → Ev → Prop) (h : I ρ0 ds0 ρ0) (h0 : ∀ ρ, I ρ0 [] ρ → E.nx ρ)
    (hs : ∀ (d : D) (ds : List D) (ρ : Ev) (N : Ev → Prop), I ρ0 (d :: ds) ρ → (∀ ρ', I ρ0 ds ρ' → N ρ') → g (.fz d) ρ fun ρ1 => body { nx := N, rt := E.rt, bk := E.nx, ct := N } ρ1) : loopW g body ds0 E ρ0 :=
  loop_ind (I ρ0) h0 hs ds0 ρ0 h
/-- what enumerate tells, from a number on -/
def enF : Nat → List D → List D
  | _, [] => []
  | n, d :: ds => .tup [.int n, d] :: enF (n + 1) ds
theorem enF_eq : ∀ (n : Nat) (ds : List D), enF n ds = (List.range' n ds.length).zipWith (fun i d => D.tup [.int (i : Nat), d]) ds
  | _, [] => rfl
  | n, d :: ds => by
    rw [enF, enF_eq (n + 1) ds, List.length_cons, List.range'_succ]
    rfl
theorem enumD_eq (ds : List D) : enumD ds = enF 0 ds := by
  rw [enF_eq]
  unfold enumD
  rw [List.range_eq_range']
theorem wh_ind {c : WT} {body : WS} {E : En} (I : Nat → Ev → Prop)
    (hs : ∀ (n : Nat) (ρ : Ev) (N : Ev → Prop), I n ρ → (∀ m, m < n → ∀ ρ', I m ρ' → N ρ') → c ρ fun b ρ1 => if b = true then body { nx := N, rt := E.rt, bk := E.nx, ct := N } ρ1 else E.nx ρ1) (n : Nat) (ρ : Ev) (h : I n ρ) :
    ∃ m, whW c body m E ρ := by
  have key : ∀ (F n : Nat) (ρ : Ev), n < F → I n ρ → whW c body F E ρ := by
    intro F
    induction F with
    | zero => intro n ρ hn; omega
    | succ F ih =>
      intro n ρ hn h
      exact hs n ρ (whW c body F E) h fun m hm ρ' h' => ih m ρ' (by omega) h'
  exact ⟨n + 1, key (n + 1) n ρ (Nat.lt_succ_self _) h⟩
theorem lc_fix {vs : List Nat} {g : WG} {c : WT} {we : WE} {k : List D → Ev → Prop} {ρ0 : Ev} {ds0 acc0 : List D} (I : List D → List D → Prop) (h : I ds0 acc0) (h0 : ∀ acc, I [] acc → k acc ρ0)
    (hs : ∀ (d : D) (ds acc : List D) (N : List D → Ev → Prop), I (d :: ds) acc → (∀ acc', I ds acc' → N acc' ρ0) →
      g (.fz d) ρ0 fun ρ1 => c ρ1 fun b ρ2 => if b = true then we ρ2 fun s ρ3 => acc.length < 1000000 ∧ N (acc ++ [s.toD]) (wipeE ρ3 vs) else N acc (wipeE ρ2 vs)) : lcW vs g c we ds0 acc0 ρ0 k :=
  lc_ind (fun ds acc ρ => ρ = ρ0 ∧ I ds acc) (fun acc ρ h => h.1 ▸ h0 acc h.2) (fun d ds acc ρ N h hN => by obtain ⟨rfl, h⟩ := h; exact hs d ds acc N h fun acc' h' => hN acc' _ ⟨rfl, h'⟩) ds0 acc0 ρ0 ⟨rfl, h⟩
/-- a list made item by item, each by a rule -/
theorem lc_map {vs : List Nat} {g : WG} {c : WT} {we : WE} {k : List D → Ev → Prop} (f : D → D) (ρ0 : Ev) (total : List D) (hl : total.length ≤ 1000000) (hk : k (total.map f) ρ0)
    (hs : ∀ (d : D) (N : List D → Ev → Prop) (acc : List D), d ∈ total → N (acc ++ [f d]) ρ0 → acc.length < 1000000 →
      g (.fz d) ρ0 fun ρ1 => c ρ1 fun b ρ2 => if b = true then we ρ2 fun s ρ3 => acc.length < 1000000 ∧ N (acc ++ [s.toD]) (wipeE ρ3 vs) else N acc (wipeE ρ2 vs)) : lcW vs g c we total [] ρ0 k := by
  refine lc_ind (fun ds acc ρ => ρ = ρ0 ∧ ∃ pre, total = pre ++ ds ∧ acc = pre.map f) (fun acc ρ h => ?_) (fun d ds acc ρ N h hN => ?_) total [] ρ0 ⟨rfl, [], rfl, rfl⟩
  · obtain ⟨rfl, pre, e, rfl⟩ := h
    rw [List.append_nil] at e
    rw [← e]
    exact hk
  · obtain ⟨rfl, pre, e, rfl⟩ := h
    refine hs d N _ (by rw [e]; simp) (hN _ _ ⟨rfl, pre ++ [d], by rw [e]; simp, by simp⟩) ?_
    rw [List.length_map]
    have : total.length = pre.length + (ds.length + 1) := by rw [e]; simp
    omega
/-! ### seals: what stands behind a call or a test is not read yet -/
structure Tag {α : Sort _} (k : α) : Type where
def CL (Φ : Ph) (ds : List D) (k : Sl → Prop) (_ : Tag k) : Prop := Φ ds k fun _ => False
theorem CL_of (Φ : Ph) (ds : List D) (k : Sl → Prop) : pCall Φ ds k = CL Φ ds k ⟨⟩ := rfl
def IT (p A B : Prop) (_ : Tag A) (_ : Tag B) : Prop := (p → A) ∧ (¬ p → B)
theorem IT_of (p : Prop) [Decidable p] (A B : Prop) : (if p then A else B) = IT p A B ⟨⟩ ⟨⟩ := by
  by_cases h : p
  · rw [if_pos h]; exact propext ⟨fun a => ⟨fun _ => a, fun z => absurd h z⟩, fun z => z.1 h⟩
  · rw [if_neg h]; exact propext ⟨fun a => ⟨fun z => absurd z h, fun _ => a⟩, fun z => z.2 h⟩
theorem IT_t (A B : Prop) {a : Tag A} {b : Tag B} : IT (true = true) A B a b = A := propext ⟨fun z => z.1 rfl, fun a => ⟨fun _ => a, fun z => absurd rfl z⟩⟩
theorem IT_f (A B : Prop) {a : Tag A} {b : Tag B} : IT (false = true) A B a b = B := propext ⟨fun z => z.2 (by decide), fun a => ⟨fun z => absurd z (by decide), fun _ => a⟩⟩
theorem IT_T (A B : Prop) {a : Tag A} {b : Tag B} : IT True A B a b = A := propext ⟨fun z => z.1 trivial, fun a => ⟨fun _ => a, fun z => absurd trivial z⟩⟩
theorem IT_F (A B : Prop) {a : Tag A} {b : Tag B} : IT False A B a b = B := propext ⟨fun z => z.2 id, fun a => ⟨fun z => z.elim, fun _ => a⟩⟩
theorem IT_d (p : Prop) [Decidable p] (A B : Prop) {a : Tag A} {b : Tag B} : IT (decide p = true) A B a b = IT p A B a b := by rw [decide_eq_true_eq]
theorem IT_n (c : Bool) (A B : Prop) {a : Tag A} {b : Tag B} : IT ((!c) = true) A B a b = IT (c = true) B A b a := by
  cases c
  · exact propext ⟨fun z => ⟨fun h => absurd h (by decide), fun _ => z.1 rfl⟩, fun z => ⟨fun _ => z.2 (by decide), fun h => absurd rfl h⟩⟩
  · exact propext ⟨fun z => ⟨fun _ => z.2 (by decide), fun h => absurd rfl h⟩, fun z => ⟨fun h => absurd h (by decide), fun _ => z.1 rfl⟩⟩
theorem IT_not (p A B : Prop) {a : Tag A} {b : Tag B} : IT (¬ p) A B a b = IT p B A b a := propext ⟨fun z => ⟨fun h => z.2 fun n => n h, fun h => z.1 h⟩, fun z => ⟨fun h => z.2 h, fun h => by
  by_cases q : p
  · exact z.1 q
  · exact absurd q h⟩⟩
theorem IT.pos {p A B : Prop} {a : Tag A} {b : Tag B} (h : p) (k : A) : IT p A B a b := ⟨fun _ => k, fun z => absurd h z⟩
theorem IT.neg {p A B : Prop} {a : Tag A} {b : Tag B} (h : ¬ p) (k : B) : IT p A B a b := ⟨fun z => absurd z h, fun _ => k⟩
def LC (vs : List Nat) (g : WG) (c : WT) (we : WE) (ds acc : List D) (ρ : Ev) (k : List D → Ev → Prop) (_ : Tag k) : Prop := lcW vs g c we ds acc ρ k
theorem LC_of (vs : List Nat) (g : WG) (c : WT) (we : WE) (ds acc : List D) (ρ : Ev) (k : List D → Ev → Prop) : lcW vs g c we ds acc ρ k = LC vs g c we ds acc ρ k ⟨⟩ := rfl
def LP (g : WG) (body : WS) (ds : List D) (E : En) (ρ : Ev) (_ : Tag E) : Prop := loopW g body ds E ρ
theorem LP_of (g : WG) (body : WS) (ds : List D) (E : En) (ρ : Ev) : loopW g body ds E ρ = LP g body ds E ρ ⟨⟩ := rfl
def WH (c : WT) (body : WS) (E : En) (ρ : Ev) (_ : Tag E) : Prop := ∃ n, whW c body n E ρ
theorem WH_of (c : WT) (body : WS) (E : En) (ρ : Ev) : wWhile c body E ρ = WH c body E ρ ⟨⟩ := rfl
/-! ### isinstance -/
theorem isi_NoneType_bool : isiB "NoneType" "bool" = false := by decide
theorem isi_NoneType_int : isiB "NoneType" "int" = false := by decide
theorem isi_NoneType_str : isiB "NoneType" "str" = false := by decide
theorem isi_NoneType_list : isiB "NoneType" "list" = false := by decide
theorem isi_NoneType_tuple : isiB "NoneType" "tuple" = false := by decide
theorem isi_bool_bool : isiB "bool" "bool" = true := by decide
theorem isi_bool_int : isiB "bool" "int" = true := by decide
theorem isi_bool_str : isiB "bool" "str" = false := by decide
theorem isi_bool_list : isiB "bool" "list" = false := by decide
theorem isi_bool_tuple : isiB "bool" "tuple" = false := by decide
theorem isi_int_bool : isiB "int" "bool" = false := by decide
theorem isi_int_int : isiB "int" "int" = true := by decide
theorem isi_int_str : isiB "int" "str" = false := by decide
theorem isi_int_list : isiB "int" "list" = false := by decide
theorem isi_int_tuple : isiB "int" "tuple" = false := by decide
theorem isi_str_bool : isiB "str" "bool" = false := by decide
theorem isi_str_int : isiB "str" "int" = false := by decide
theorem isi_str_str : isiB "str" "str" = true := by decide
theorem isi_str_list : isiB "str" "list" = false := by decide
theorem isi_str_tuple : isiB "str" "tuple" = false := by decide
theorem isi_list_bool : isiB "list" "bool" = false := by decide
theorem isi_list_int : isiB "list" "int" = false := by decide
theorem isi_list_str : isiB "list" "str" = false := by decide
theorem isi_list_list : isiB "list" "list" = true := by decide
theorem isi_list_tuple : isiB "list" "tuple" = false := by decide
theorem isi_tuple_bool : isiB "tuple" "bool" = false := by decide
theorem isi_tuple_int : isiB "tuple" "int" = false := by decide
theorem isi_tuple_str : isiB "tuple" "str" = false := by decide
theorem isi_tuple_list : isiB "tuple" "list" = false := by decide
theorem isi_tuple_tuple : isiB "tuple" "tuple" = true := by decide
theorem isi_dict_bool : isiB "dict" "bool" = false := by decide
theorem isi_dict_int : isiB "dict" "int" = false := by decide
theorem isi_dict_str : isiB "dict" "str" = false := by decide
theorem isi_dict_list : isiB "dict" "list" = false := by decide
theorem isi_dict_tuple : isiB "dict" "tuple" = false := by decide
theorem mi_bool : ("bool" ∈ ["bool", "int", "str", "list", "tuple"]) = True := eq_true (by decide)
theorem mi_int : ("int" ∈ ["bool", "int", "str", "list", "tuple"]) = True := eq_true (by decide)
theorem mi_str : ("str" ∈ ["bool", "int", "str", "list", "tuple"]) = True := eq_true (by decide)
theorem mi_list : ("list" ∈ ["bool", "int", "str", "list", "tuple"]) = True := eq_true (by decide)
theorem mi_tuple : ("tuple" ∈ ["bool", "int", "str", "list", "tuple"]) = True := eq_true (by decide)
/-! ### subscripts of displays -/
theorem ati0 {α : Type} (a : α) (l : List α) : atI (a :: l) 0 = some a := atI_nat (j := 0) rfl
theorem ati1 {α : Type} (a b : α) (l : List α) : atI (a :: b :: l) 1 = some b := atI_nat (j := 1) rfl
theorem ati2 {α : Type} (a b c : α) (l : List α) : atI (a :: b :: c :: l) 2 = some c := atI_nat (j := 2) rfl
theorem ati3 {α : Type} (a b c d : α) (l : List α) : atI (a :: b :: c :: d :: l) 3 = some d := atI_nat (j := 3) rfl
theorem ati4 {α : Type} (a b c d e : α) (l : List α) : atI (a :: b :: c :: d :: e :: l) 4 = some e := atI_nat (j := 4) rfl
/-! ### cuts: what holds behind a piece is told by hand -/
section
variable {X : Cx} {C : Cxt} {e a bx : Expr} {t ta tb : TE} {w wa wb : WE} {pos : Pos} {st : Stmt} {sts : List Stmt} {t1 t2 : TS} {w1 w2 : WS} {i : Nat}
def wCut (w1 w2 : WS) : WS := fun E ρ => ∃ R : Ev → Prop, w1 { E with nx := R } ρ ∧ ∀ ρ', R ρ' → w2 E ρ'
theorem ok_cut (h1 : OkS C t1 w1) (h2 : OkS C t2 w2) : OkS C (tSeq t1 t2) (wCut w1 w2) := fun ρ ρx σ σx H S E D hl st h f => by
  obtain ⟨R, g1, g2⟩ := h
  exact h1 ρ ρx σ σx H S _ _ hl st g1 ⟨fun ρ' σ' H' S' hl' st' h' => h2 ρ' ρx σ' σx H' S' E D hl' st' (g2 ρ' h') f, f.rt, f.bk, f.ct⟩
theorem qss_cut (h1 : QS X C st t1 w1) (h2 : QSs X C sts t2 w2) : QSs X C (st :: sts) (tSeq t1 t2) (wCut w1 w2) := ⟨pss_cons h1.ps h2.ps, ok_cut h1.ok h2.ok⟩
/-- a test that can be told without its steps -/
def wIfC (c : WT) (w1 w2 : WS) : WS := fun E ρ => ∃ (p : Prop) (ρ' : Ev), (c ρ fun b ρ1 => ρ1 = ρ' ∧ (b = true ↔ p)) ∧ IT p (w1 E ρ') (w2 E ρ') ⟨⟩ ⟨⟩
theorem qs_ifC {c : Expr} {tc : TT} {wc : WT} {p q : List Stmt} (hc : QT X C c tc wc) (h1 : QSs X C p t1 w1) (h2 : QSs X C q t2 w2) : QS X C (.If c p q pos) (tIfS tc t1 t2) (wIfC wc w1 w2) := ⟨ps_if hc.pt h1.ps h2.ps, by
  intro ρ ρx σ σx H S E D hl st hw f
  obtain ⟨p, ρ', g, hT, hF⟩ := hw
  refine hc.ok ρ ρx σ σx H S _ _ hl st g fun b ρ1 H1 S1 hl1 st1 hk => ?_
  obtain ⟨rfl, hk⟩ := hk
  cases b with
  | true => exact h1.ok ρ1 ρx σ σx H1 S1 E D hl1 st1 (hT (hk.mp rfl)) f
  | false => exact h2.ok ρ1 ρx σ σx H1 S1 E D hl1 st1 (hF fun z => by have := hk.mpr z; cases this) f⟩
/-- a value that can be told without its steps -/
def wSetC (i : Nat) (w : WE) : WS := fun E ρ => ∃ (v : Sl) (ρ' : Ev), (w ρ fun s ρ1 => s = v ∧ ρ1 = ρ') ∧ E.nx (ρ'.set i (some v))
theorem ok_setC (h : OkE C t w) : OkS C (tAsg t (gName i)) (wSetC i w) := fun ρ ρx σ σx H S E D hl st hw f => by
  obtain ⟨v, ρ', g, hk⟩ := hw
  refine h ρ ρx σ σx H S _ _ hl st g fun s ρ1 u H1 S1 hl1 st1 hk' => ?_
  obtain ⟨rfl, rfl⟩ := hk'
  have lx : (ρ1 ++ ρx).length = (σ ++ σx).length := by have := st.len; simp only [List.length_append] at *; omega
  exact ok_nm i ρ1 ρx σ σx H1 S1 s u E.nx _ hl1 st1.popLast (st1.last lx) st1.apt hk fun ρ2 σ2 H2 S2 hl2 _ st2 h2 => f.nx ρ2 σ2 H2 S2 hl2 st2 h2
theorem qs_setC {x : Str} {pos' : Pos} (hN : X.N.Nodup) (hi : X.N[i]? = some x) (hx : Loc X.env.scope x) (he : PD X C e t w) (hs : swapsWith e (some (.Name x pos')) pos.line X.env = pure false := by rfl) (hf : X.fn x = true ∨ X.env.scope.names.lookup x = some .local := by first | exact .inl rfl | exact .inr rfl | assumption) :
    QS X C (.Assign [.Name x pos'] e pos) (tAsg t (gName i)) (wSetC i w) := ⟨ps_set hN hi hx he.pe hs hf, ok_setC he.ok⟩
def CT (w1 w2 : WS) (E : En) (ρ : Ev) (_ : Tag E) : Prop := wCut w1 w2 E ρ
theorem CT_of (w1 w2 : WS) (E : En) (ρ : Ev) : wCut w1 w2 E ρ = CT w1 w2 E ρ ⟨⟩ := rfl
def IC (c : WT) (w1 w2 : WS) (E : En) (ρ : Ev) (_ : Tag E) : Prop := wIfC c w1 w2 E ρ
theorem IC_of (c : WT) (w1 w2 : WS) (E : En) (ρ : Ev) : wIfC c w1 w2 E ρ = IC c w1 w2 E ρ ⟨⟩ := rfl
def SC (i : Nat) (w : WE) (E : En) (ρ : Ev) (_ : Tag E) : Prop := wSetC i w E ρ
theorem SC_of (i : Nat) (w : WE) (E : En) (ρ : Ev) : wSetC i w E ρ = SC i w E ρ ⟨⟩ := rfl
theorem cut {w1 w2 : WS} {E : En} {ρ : Ev} {a : Tag E} (R : Ev → Prop) (h1 : w1 { E with nx := R } ρ) (h2 : ∀ ρ', R ρ' → w2 E ρ') : CT w1 w2 E ρ a := ⟨R, h1, h2⟩
/-- .. where one knows the slots -/
theorem cut1 {w1 w2 : WS} {E : En} {ρ : Ev} {a : Tag E} (ρ' : Ev) (h1 : w1 { E with nx := fun r => r = ρ' } ρ) (h2 : w2 E ρ') : CT w1 w2 E ρ a := ⟨_, h1, fun _ e => e ▸ h2⟩
theorem cutS {w1 w2 : WS} {E : En} {ρ : Ev} {a : Tag E} (i : Nat) (v : Sl) (h1 : w1 { E with nx := fun r => r = ρ.set i (some v) } ρ) (h2 : w2 E (ρ.set i (some v))) : CT w1 w2 E ρ a := cut1 _ h1 h2
theorem ifC {c : WT} {w1 w2 : WS} {E : En} {ρ : Ev} {a : Tag E} (p : Prop) (h : c ρ fun b ρ1 => ρ1 = ρ ∧ (b = true ↔ p)) (h1 : p → w1 E ρ) (h2 : ¬ p → w2 E ρ) : IC c w1 w2 E ρ a := ⟨p, ρ, h, h1, h2⟩
theorem setC {w : WE} {E : En} {ρ : Ev} {a : Tag E} (v : Sl) (h : w ρ fun s ρ1 => s = v ∧ ρ1 = ρ) (h2 : E.nx (ρ.set i (some v))) : SC i w E ρ a := ⟨v, ρ, h, h2⟩
end
/-! ### defs that call themselves -/
def below (Φ : Nat → Ph) (n : Nat) : Ph := fun ds k e => ∃ m, m < n ∧ Φ m ds k e
section
variable {P : Program} {wd : World} {K : PySem.W.Frag} {mg : Str → Option Value} {base : Heap} {f : Addr} {fd : FuncData} {ps : List Str} {ub : Bool}
theorem fn_no {k : Nat} {Φ : Ph} (h : ∀ ds κ e, ¬ Φ ds κ e) : FnOk P wd K mg base CX0 k f fd ps (spD K mg ub Φ) :=
  ⟨fun vs H Q E ⟨B, S, ds, κ, xk, _, _, _, _, _, φ, _⟩ => absurd φ (h _ _ _), fun A outer s H args us vs Q E hr e0 hb rv ⟨B, S, ds, κ, xk, _, _, _, _, _, φ, _⟩ => absurd φ (h _ _ _)⟩
theorem rec_fn {Φ : Nat → Ph} (k c : Nat) (mono : ∀ m n, m ≤ n → ∀ ds κ e, Φ m ds κ e → Φ n ds κ e)
    (step : ∀ n j, k ≤ j → FnOk P wd K mg base CX0 j f fd ps (spD K mg ub (below Φ n)) → FnOk P wd K mg base CX0 (j + c) f fd ps (spD K mg ub (Φ n))) :
    ∀ n : Nat, FnOk P wd K mg base CX0 (k + c * n + c) f fd ps (spD K mg ub (Φ n))
  | 0 => step 0 _ (by omega) (fn_no fun ds κ e ⟨m, hm, _⟩ => absurd hm (Nat.not_lt_zero _))
  | n + 1 => step (n + 1) _ (by omega) (spD_imp (Nat.mul_succ c n ▸ Nat.add_assoc k (c * n) c ▸ rec_fn k c mono step n) fun ds κ e ⟨m, hm, z⟩ => mono m n (by omega) ds κ e z)
end
theorem dmono {P : Program} {wd : World} {K : PySem.W.Frag} {mg : Str → Option Value} {base : Heap} {j k : Nat} {x : Str} {ps : List Str} {sp : Sp} (D : RF.Df P wd K mg base j x ps sp) (h : j ≤ k) : RF.Df P wd K mg base k x ps sp := by
  obtain ⟨f, fd, F, b, m, kp⟩ := D
  exact ⟨f, fd, F.mono h, b, m, kp⟩
/-- .. with a weaker promise -/
theorem dimp {P : Program} {wd : World} {K : PySem.W.Frag} {mg : Str → Option Value} {base : Heap} {k : Nat} {x : Str} {ps : List Str} {ub : Bool} {Φ Ψ : Ph} (D : RF.Df P wd K mg base k x ps (spD K mg ub Φ)) (h : ∀ ds κ e, Ψ ds κ e → Φ ds κ e) : RF.Df P wd K mg base k x ps (spD K mg ub Ψ) := by
  obtain ⟨f, fd, F, b, m, kp⟩ := D
  exact ⟨f, fd, spD_imp F h, b, m, kp⟩
/-! ### words -/
theorem ofS_inj (a b : String) : (Str.ofString a = Str.ofString b) = (a = b) := propext ⟨fun h => by
  have := congrArg TL.tl h
  rw [TL.tl_ofString, TL.tl_ofString] at this
  exact String.toList_inj.mp (List.map_inj_right (fun x y z => Char.toNat_inj.mp z) |>.mp this), fun h => h ▸ rfl⟩
theorem inD_nil (d : D) : inD d [] = false := rfl
theorem inD_cons (d e : D) (ds : List D) : inD d (e :: ds) = (eqD e d || inD d ds) := rfl
theorem cutD1 (d : D) (ds : List D) : cutD (d :: ds) (some 1) none = ds := by
  unfold cutD
  have e1 : HT.sIx (d :: ds).length 0 (some 1) = 1 := by
    unfold HT.sIx
    simp
  have e2 : HT.sIx (d :: ds).length (d :: ds).length none = ds.length + 1 := rfl
  rw [e1, e2, List.drop_succ_cons, List.drop_zero, Nat.add_sub_cancel, List.take_length]
theorem cutD_take (ds : List D) (n : Nat) : cutD ds none (some (n : Int)) = ds.take n := by
  unfold cutD
  rw [HT.sIx_nat, HT.sIx_none, List.drop_zero, Nat.sub_zero]
  by_cases h : n ≤ ds.length
  · rw [Nat.min_eq_left h]
  · rw [Nat.min_eq_right (by omega), List.take_length, List.take_of_length_le (by omega)]
theorem cutD_drop (ds : List D) (n : Nat) : cutD ds (some (n : Int)) none = ds.drop n := by
  unfold cutD
  rw [HT.sIx_nat, HT.sIx_none]
  by_cases h : n ≤ ds.length
  · rw [Nat.min_eq_left h, List.take_of_length_le (by rw [List.length_drop]; omega)]
  · rw [Nat.min_eq_right (by omega), List.drop_length, List.drop_eq_nil_of_le (by omega), List.take_nil]
theorem cutD_all (ds : List D) : cutD ds none none = ds := by
  unfold cutD
  rw [HT.sIx_none, HT.sIx_none, List.drop_zero, Nat.sub_zero, List.take_length]
/-- a product of numbers of the usual sizes -/
theorem mul_ok {i j : Int} (hi : i.natAbs < 2 ^ 1000) (hj : j.natAbs < 2 ^ 1000) : CMulX i j := mulx_ok hi hj (by decide)
theorem lt_2k {i : Int} (h : -1000000000 ≤ i ∧ i ≤ 1000000000) : i.natAbs < 2 ^ 1000 := Nat.lt_of_le_of_lt (m := 1000000000) (by omega) (by decide +kernel)
end Q

set_option autoImplicit false
set_option linter.all false
/-! Qi: isinstance of one of two classes -/
namespace Q
open PySem L2
def pIsi2 (n m : String) : P1 := fun x k => ∃ a, tyN x.toD = some a ∧ k (.fz (.bl (isiB a n || isiB a m)))
theorem ok_isi2 {X : Cx} {C : Cxt} (F : Fit X C) {n m : String} (hn : n ∈ ["bool", "int", "str", "list", "tuple"]) (hm : m ∈ ["bool", "int", "str", "list", "tuple"]) {ta : TE} {wa : WE} (ha : OkE C ta wa) :
    OkE C (tCB (rIsiT X.K) (tCons ta (tCons (tTup (tCons (tC (.ty n)) (tCons (tC (.ty m)) tNil))) tNil))) (wUn (pIsi2 n m) wa) := by
  intro ρ ρx σ σx H S k Q hl st hw q
  refine ha ρ ρx σ σx H S _ _ hl st hw fun x ρ1 vx H1 S1 hl1 st1 hk => ?_
  obtain ⟨a, h1, h2⟩ := hk
  refine ⟨lim_line (by show 2 ≤ 1000000; decide), fun p hp => ?_⟩
  have lx : (ρ1 ++ ρx).length = (σ ++ σx).length := by have := st1.len; simp only [List.length_append, List.length_cons, List.length_nil] at *; omega
  have st2 := st1.new (o := .tup [.ty n, .ty m]) hp
  have r := (st2.last lx).rp
  rw [← F.K]
  refine ⟨vx, p, _, .type a, [.type n, .type m], isiB a n || isiB a m, rfl, upd_same, .cons (.ty n) (.cons (.ty m) .nil), ty_of r h1, ?_, ans_bl (st2.drop lx) (fun s v H' S' st' hk' => q s ρ1 v H' S' hl1 st' hk') h2⟩
  refine kitAny_cons (kit_ty (isi_ok h1 hn)) (fun e => ?_) (fun e => by rw [e]; rfl)
  rw [e, Bool.false_or]
  exact kitAny_cons (kit_ty (isi_ok h1 hm)) (fun e => by rw [e]; rfl) (fun e => e)
theorem eqD_bl (a b : Bool) : eqD (.bl a) (.bl b) = decide (a = b) := by cases a <;> cases b <;> rfl
theorem eqD_tt : eqD (.bl true) (.bl true) = true := rfl
theorem eqD_ff : eqD (.bl false) (.bl false) = true := rfl
theorem eqD_tf : eqD (.bl true) (.bl false) = false := rfl
theorem eqD_ft : eqD (.bl false) (.bl true) = false := rfl
theorem bls_true : ∀ l : List D, blsD (l.map fun _ => D.bl true) = some (l.map fun _ => true)
  | [] => rfl
  | d :: l => by
    show (blsD (l.map fun _ => D.bl true)).map _ = _
    rw [bls_true l]
    rfl
theorem zip_self : ∀ (l : List D) (d : D), d ∈ zipD l l → ∃ x ∈ l, d = .tup [x, x]
  | x :: l, d, h => by
    rcases List.mem_cons.mp h with rfl | h
    · exact ⟨x, List.mem_cons_self, rfl⟩
    · obtain ⟨y, hy, e⟩ := zip_self l d h
      exact ⟨y, List.mem_cons_of_mem _ hy, e⟩
theorem zip_len : ∀ l : List D, (zipD l l).length = l.length
  | [] => rfl
  | x :: l => by show (zipD l l).length + 1 = _; rw [zip_len l]; rfl
theorem pd_isi2 {X : Cx} {C : Cxt} (F : Fit X C) {a : Expr} {ta : TE} {wa : WE} {y z : Str} {n m : String} {p0 p1 p2 p3 pos : Pos} {kk : Nat} (hg : Gl X "isinstance") (hm : X.mg "isinstance" = none) (ha : PD X C a ta wa)
    (gy : Gl X y) (my : X.mg y = none) (vy : bootBuiltins y = some (.type n)) (gz : Gl X z) (mz : X.mg z = none) (vz : bootBuiltins z = some (.type m))
    (hn : n ∈ ["bool", "int", "str", "list", "tuple"] := by decide) (hk : m ∈ ["bool", "int", "str", "list", "tuple"] := by decide)
    (ny : y ≠ "__name__" := by decide) (dy : (y == ("__debug__" : Str)) = false := by decide) (nz : z ≠ "__name__" := by decide) (dz : (z == ("__debug__" : Str)) = false := by decide)
    (he : starEach [a, .Tuple [.Name y p1, .Name z p2] kk p3] X.env = (false, eval a X.env) :: starEach [.Tuple [.Name y p1, .Name z p2] kk p3] X.env := by rfl) :
    PD X C (.Call (.Name "isinstance" p0) [a, .Tuple [.Name y p1, .Name z p2] kk p3] [] pos) (tCB (rIsiT X.K) (tCons ta (tCons (tTup (tCons (tC (.ty n)) (tCons (tC (.ty m)) tNil))) tNil))) (wUn (pIsi2 n m) wa) :=
  ⟨pe_callB call_isiT hg hm (by decide +kernel) (pa_cons ha.pe (pa_cons (pe_tup (pa_cons (pe_bltn gy my vy rfl ny dy) (pa_cons (pe_bltn gz mz vz rfl nz dz) pa_nil))) pa_nil) he) (by decide) (by decide) he rfl, ok_isi2 F hn hk ha.ok⟩
end Q

namespace RF
open PySem L2 PyProof.Rows
/-! ### max of a tuple of whole numbers -/
section
variable {prog : Program} {w : World} {A : Around} {E : Value → Shared → Prop} {s : Shared} {l : Addr} {xs : Array (Int × Tok)}
theorem max_tupI {Q : Value → Shared → Prop} (hh : A.handled = none) (hl : s.heap.IsTuple l (intItems xs)) (hne : 0 < xs.size)
    (h : ∀ v h' tk, (intItems xs)[argBest (fun i j => decide (numAt xs i > numAt xs j)) (xs.size - 1)]? = some v → (∀ b o, s.heap.get? b = some o → h'.get? b = some o) → Q v { s with heap := h', toks := tk }) :
    wpAny (model prog w) A (call (.builtin "max") [.ref l]) Q E s := by
  have hlt : l < s.heap.objs.size := by obtain ⟨_, e, _⟩ := hl; exact Heap.lt_size e
  have hpu : ∀ b ∈ [s.heap.objs.size, l], b < (s.heap.push { cls := .type "tuple_iterator", data := .fields #[.ref l, .int 0 0] }).objs.size := fun b hb => by
    rw [Heap.size_push]
    rcases List.mem_cons.mp hb with e | hb
    · rw [e]; exact Nat.lt_succ_self _
    · rcases List.mem_cons.mp hb with e | hb
      · rw [e]; exact Nat.lt_succ_of_lt hlt
      · cases hb
  refine call_max_walk (wpAny_pyIter_tuple hl ?_)
  refine ⟨_, _, _, _, _, _, _, rfl, Walks.tuple (A := A.in1) hh _ l (Nat.ne_of_lt hlt) (intItems xs), ⟨⟨_, Heap.get?_push_size _ rfl, rfl, rfl⟩, hl.push _⟩, hpu, by simpa [intItems] using hne, CmpOf.ints_gt (numAt xs) (fun _ _ => intItems_at), fun v h' tk hP hk => ?_⟩
  refine h v h' tk (by simpa [intItems] using hP) fun b o e => ?_
  refine hk b o (fun hm => ?_) (Heap.get?_push_of_some _ e)
  rcases List.mem_cons.mp hm with e1 | hm
  · exact absurd (e1 ▸ Heap.lt_size e) (Nat.lt_irrefl _)
  · cases hm
end
section
variable {X : Cx}
def rMaxT (K : PySem.W.Frag) : List V → Hp → VK → Prop := fun vs H Q => ∃ (a : Addr) (ns : List Int), vs = [V.ref a] ∧ SqT K H a (ns.map V.int) ∧ 0 < ns.length ∧ ∀ m, m ∈ ns → (∀ y, y ∈ ns → y ≤ m) → Q (.int m) H
theorem cr_maxT (hc : X.calm = true) : CallR X (.builtin "max") (rMaxT X.K) := by
  intro pins s σ H vs us Q I r h
  obtain ⟨a, ns, rfl, hs, hne, q⟩ := h
  obtain ⟨its, rv, hl, _⟩ := I.tuple hs
  rw [Vals.ref1 r]
  obtain ⟨xs, e⟩ := rv.ints.allInts.items
  have hn : numsOf (intItems xs).toList = ns := by rw [← e]; exact rv.ints.numsOf
  rw [nums_intItems] at hn
  subst hn
  rw [e] at hl
  have hsz : 0 < xs.size := by simpa using hne
  refine max_tupI (I.ok.hd hc) hl hsz fun v h' tk hv hk => ?_
  obtain ⟨t, rfl⟩ := intItems_at hv
  obtain ⟨h1, h2⟩ := argBest_gt (numAt xs) (xs.size - 1)
  refine ⟨.int _, H, I.kept hk, ⟨_, rfl⟩, q _ ?_ fun a ha => ?_⟩
  · rw [numAt_eq]; exact PySem.getD_mem (by rw [List.length_map, Array.length_toList]; omega)
  · obtain ⟨j, hj, rfl⟩ := PySem.mem_getD ha
    rw [List.length_map, Array.length_toList] at hj
    rw [← numAt_eq]; exact h2 j (by omega)

/-! ### a property of a class, by its promise -/
structure Pt (P : Program) (w : World) (K : PySem.W.Frag) (mg : Str → Option Value) (base : Heap) (C : Addr) (k : Nat) (m : Str) (sp : Sp) : Prop where
  ex : ∃ (p g : Addr) (fd : FuncData), PropOf K C m p g ∧ FnOk P w K mg base CX0 k g fd ["self"] sp ∧ Binds K fd ["self"] []
theorem pe_pt {j k : Nat} {C : Addr} {m : Str} {sp : Sp} {o : Expr} {pos : Pos} {ta : TE} (he : PE X o ta) (c : Cls X.K C) (M : Pt X.prog X.w X.K X.mg X.base C k m sp) (hr : Room j X.A) (hk : k + 1 ≤ j)
    (hab : attributeBase o m X.env (eval o X.env) = eval o X.env := by rfl) : PE X (.Attribute o m pos) (tProp C sp [] E0 ta) := by
  obtain ⟨p, g, fd, hp, F, b⟩ := M.ex
  exact pe_prop he c hp F (hr.mono hk) b .nil pass0 hab

/-! ### calls by keywords alone -/
/-- f(k = v, ..) -/
theorem pe_callN0 {CX : CXT} {k : Nat} {f : Addr} {fd : FuncData} {ps ks : List Str} {sp : Sp} {E : XK} {x : Str} {p pos : Pos} {kws : List Keyword} {tk : TA} {g : List Value → List Value → List Value} {gV : List V → List V → List V}
    (F : FnOk X.prog X.w X.K X.mg X.base CX k f fd ps sp) (hr : Room k X.A) (hg : Gl X x) (hm : X.mg x = some (.ref f)) (hk : PySem.W.keepIn X.K (.ref f) = true) (hb : KBn X.K fd ps 0 ks g gV) (hx : Passes CX X E) (hkw : PK X kws tk)
    (hall : (backToKw pos (keywordEach kws X.env)).all (·.1.isSome) = true := by rfl) (hks : (backToKw pos (keywordEach kws X.env)).filterMap (·.1) = ks := by rfl) (hdb : (x == ("__debug__" : Str)) = false := by decide)
    (hpl : ((backTo pos (starEach [] X.env)).any (·.1) || (backToKw pos (keywordEach kws X.env)).any (·.1.isNone)) = false := by rfl) :
    PE X (.Call (.Name x p) [] kws pos) (tCallN 0 ks.length sp gV E tNil tk) := by
  refine ⟨fun pins s σ H Q I h => ?_⟩
  refine wpAny_Call_Name_kw (ld_glob I hg hm ?_ hdb)
  refine PySem.W.callWith_KW0 (h₀ := X.base) I.ok.mod.kin hk hall ?_ hpl
  refine thn (hkw.run pos pins s σ H _ I h) fun ws s2 ⟨zs, H2, I2, rz, l1, l2, q2⟩ => ⟨I2.kIn, ?_⟩
  rw [hks]
  exact run_fnN (us := []) (vs := []) F hr hb hx I2 .nil rz l1 l2 q2
/-- a def that is called by keywords alone, by its promise -/
structure Dk (P : Program) (w : World) (K : PySem.W.Frag) (mg : Str → Option Value) (base : Heap) (k : Nat) (x : Str) (ps ks : List Str) (gV : List V → List V → List V) (sp : Sp) : Prop where
  ex : ∃ (f : Addr) (fd : FuncData) (g : List Value → List Value → List Value), FnOk P w K mg base CX0 k f fd ps sp ∧ KBn K fd ps 0 ks g gV ∧ mg x = some (.ref f) ∧ PySem.W.keepIn K (.ref f) = true
theorem pe_kD {j k : Nat} {ps ks : List Str} {sp : Sp} {x : Str} {p pos : Pos} {kws : List Keyword} {tk : TA} {gV : List V → List V → List V} (D : Dk X.prog X.w X.K X.mg X.base k x ps ks gV sp) (hr : Room j X.A) (hj : k ≤ j) (hkw : PK X kws tk) (hg : Gl X x := by rfl)
    (hall : (backToKw pos (keywordEach kws X.env)).all (·.1.isSome) = true := by rfl) (hks : (backToKw pos (keywordEach kws X.env)).filterMap (·.1) = ks := by rfl) (hdb : (x == ("__debug__" : Str)) = false := by decide)
    (hpl : ((backTo pos (starEach [] X.env)).any (·.1) || (backToKw pos (keywordEach kws X.env)).any (·.1.isNone)) = false := by rfl) :
    PE X (.Call (.Name x p) [] kws pos) (tCallN 0 ks.length sp gV E0 tNil tk) := by
  obtain ⟨f, fd, g, F, hb, hm, hk⟩ := D.ex
  exact pe_callN0 F (hr.mono hj) hg hm hk hb pass0 hkw hall hks hdb hpl
end
theorem Fun.kbn {K : PySem.W.Frag} {x qual : Str} {st : Stmt} {f : Addr} {fd : FuncData} {ps : List Str} (F : Fun K x qual st f fd) (n : Nat) (ks : List Str) (g : {α : Type} → List α → List α → List α)
    (hrel : ∀ {vs zs : List V} {us ws : List Value}, Vals vs us → Vals zs ws → Vals (g vs zs) (g us ws))
    (h : ∀ (kV doc pm : Value) (an : Option Addr) (cdv ct : Value) (us ws : List Value), us.length = n → ws.length = ks.length → bindArgs (PySem.W.fnOf x qual (defArgs st) (defBody st) (defScope st) .none kV doc pm an cdv ct) ⟨us, ks.zip ws⟩ = pure (ps.zip (g us ws))) :
    KBn K fd ps n ks (fun us ws => g us ws) (fun vs zs => g vs zs) := by
  obtain ⟨oc, od, kV, doc, pm, an, cdv, ct, osl, rfl, lk, hcd⟩ := F.ex
  exact ⟨fun s us ws _ l1 l2 => .of_eq (h kV doc pm an cdv ct us ws l1 l2), fun r1 r2 => hrel r1 r2⟩
end RF

set_option autoImplicit false
set_option linter.all false
/-! Qk: calls with keywords -/
namespace Q
open PySem L2
/-- a def that is called with n values and the keywords ks, by its promise -/
structure Dk (P : Program) (w : World) (K : PySem.W.Frag) (mg : Str → Option Value) (base : Heap) (k : Nat) (x : Str) (ps : List Str) (n : Nat) (ks : List Str) (gV : List V → List V → List V) (sp : Sp) : Prop where
  ex : ∃ (f : Addr) (fd : FuncData) (g : List Value → List Value → List Value), FnOk P w K mg base CX0 k f fd ps sp ∧ KBn K fd ps n ks g gV ∧ mg x = some (.ref f) ∧ PySem.W.keepIn K (.ref f) = true
theorem Dk.mono {P : Program} {w : World} {K : PySem.W.Frag} {mg : Str → Option Value} {base : Heap} {j k n : Nat} {x : Str} {ps ks : List Str} {gV : List V → List V → List V} {sp : Sp} (D : Dk P w K mg base j x ps n ks gV sp) (h : j ≤ k) : Dk P w K mg base k x ps n ks gV sp := by
  obtain ⟨f, fd, g, F, b⟩ := D
  exact ⟨f, fd, g, F.mono h, b⟩
section
variable {X : Cx} {C : Cxt} {e : Expr} {es : List Expr} {ta tk : TA} {wa wk : WA} {pos p : Pos} {j k n : Nat} {x : Str} {ps ks : List Str} {ub : Bool} {Φ : Ph} {kws : List Keyword}
def wKw (n m : Nat) (g : List D → List D → List D) (p : PN) (wa wk : WA) : WE := fun ρ k => wa ρ fun ds ρ1 => wk ρ1 fun es ρ2 => ds.length = n ∧ es.length = m ∧ p (g ds es) fun z => k z ρ2
theorem ok_kw {r : List V → Hp → VK → Prop} {p : PN} {m : Nat} {gV : List V → List V → List V} {g : List D → List D → List D} (hg : ∀ (B : Bk) (H : Hp) (vs zs : List V) (ds es : List D), Rps B H vs ds → Rps B H zs es → ds.length = n → es.length = m → Rps B H (gV vs zs) (g ds es)) (h : LiftN C r p) (ha : OkA C ta wa) (hk : OkA C tk wk) :
    OkE C (fun σ H Q => ta σ H fun vs H1 => tk σ H1 fun zs H2 => vs.length = n ∧ zs.length = m ∧ r (gV vs zs) H2 Q) (wKw n m g p wa wk) := by
  intro ρ ρx σ σx H S k Q hl st hw q
  refine ha ρ ρx σ σx H S _ _ hl st hw fun ds ρ1 vs H1 S1 hl1 st1 hw1 => ?_
  have lx : (ρ1 ++ ρx).length = (σ ++ σx).length := by have := st.len; simp only [List.length_append] at *; omega
  refine hk ρ1 (ρx ++ fzs ds) σ (σx ++ vs.map some) H1 S1 _ _ hl1 (by rw [← List.append_assoc, ← List.append_assoc]; exact st1) hw1 fun es ρ2 zs H2 S2 hl2 st2 hp => ?_
  obtain ⟨l1, l2, hp⟩ := hp
  have lx2 : (ρ2 ++ ρx).length = (σ ++ σx).length := by have := st.len; simp only [List.length_append] at *; omega
  have ly : (ρ2 ++ (ρx ++ fzs ds)).length = (σ ++ (σx ++ vs.map some)).length := by
    have := st1.len
    simp only [List.length_append] at *
    omega
  have rz := st2.args ly
  have st3 := st2.drop ly
  rw [← List.append_assoc, ← List.append_assoc] at st3
  have rv := st3.args lx2
  refine ⟨rv.len.trans l1, rz.len.trans l2, h (ρ2 ++ ρx) (σ ++ σx) H2 S2 _ _ _ Q (st3.drop lx2) (hg _ _ _ _ _ _ rv rz l1 l2) hp fun z v H' S' st' hk => q z ρ2 v H' S' hl2 st' hk⟩
theorem pd_callK (Fi : Fit X C) {gV : List V → List V → List V} {g : List D → List D → List D} (hG : ∀ (B : Bk) (H : Hp) (vs zs : List V) (ds es : List D), Rps B H vs ds → Rps B H zs es → ds.length = n → es.length = ks.length → Rps B H (gV vs zs) (g ds es))
    (F : Dk X.prog X.w X.K X.mg X.base k x ps n ks gV (spD X.K X.mg ub Φ)) (hr : Room j X.A) (hk : k ≤ j) (ha : QA X C (e :: es) ta wa) (hkw : QK X C kws tk wk) (hu : ub = true → C.ub = true := by intro h; first | (cases h; done) | assumption)
    (hg : Gl X x := by rfl) (hall : (backToKw pos (keywordEach kws X.env)).all (·.1.isSome) = true := by rfl) (hks : (backToKw pos (keywordEach kws X.env)).filterMap (·.1) = ks := by rfl) (hdb : (x == ("__debug__" : Str)) = false := by decide)
    (he : starEach (e :: es) X.env = (false, eval e X.env) :: starEach es X.env := by rfl) (hpl : ((backTo pos (starEach (e :: es) X.env)).any (·.1) || (backToKw pos (keywordEach kws X.env)).any (·.1.isNone)) = false := by rfl) :
    PD X C (.Call (.Name x p) (e :: es) kws pos) (tCallN n ks.length (spD X.K X.mg ub Φ) gV L2.E0 ta tk) (wKw n ks.length g (pCall Φ) wa wk) := by
  obtain ⟨f, fd, gg, G, hb, hm, hkp⟩ := F.ex
  exact ⟨pe_callN G (hr.mono hk) hg hm hkp hb pass0 ha.pa hkw.pk hall hks hdb he hpl, ok_kw hG (l_call (Φ := Φ) Fi.K Fi.mg hu L2.E0) ha.ok hkw.ok⟩
theorem pd_callK0 (Fi : Fit X C) {gV : List V → List V → List V} {g : List D → List D → List D} (hG : ∀ (B : Bk) (H : Hp) (vs zs : List V) (ds es : List D), Rps B H vs ds → Rps B H zs es → ds.length = 0 → es.length = ks.length → Rps B H (gV vs zs) (g ds es))
    (F : Dk X.prog X.w X.K X.mg X.base k x ps 0 ks gV (spD X.K X.mg ub Φ)) (hr : Room j X.A) (hk : k ≤ j) (hkw : QK X C kws tk wk) (hu : ub = true → C.ub = true := by intro h; first | (cases h; done) | assumption)
    (hg : Gl X x := by rfl) (hall : (backToKw pos (keywordEach kws X.env)).all (·.1.isSome) = true := by rfl) (hks : (backToKw pos (keywordEach kws X.env)).filterMap (·.1) = ks := by rfl) (hdb : (x == ("__debug__" : Str)) = false := by decide)
    (hpl : ((backTo pos (starEach [] X.env)).any (·.1) || (backToKw pos (keywordEach kws X.env)).any (·.1.isNone)) = false := by rfl) :
    PD X C (.Call (.Name x p) [] kws pos) (tCallN 0 ks.length (spD X.K X.mg ub Φ) gV L2.E0 tNil tk) (wKw 0 ks.length g (pCall Φ) (fun ρ k => k [] ρ) wk) := by
  obtain ⟨f, fd, gg, G, hb, hm, hkp⟩ := F.ex
  exact ⟨RF.pe_callN0 G (hr.mono hk) hg hm hkp hb pass0 hkw.pk hall hks hdb hpl, ok_kw hG (l_call (Φ := Φ) Fi.K Fi.mg hu L2.E0) (qa_nil (X := X)).ok hkw.ok⟩
/-- keywords alone, in the def's own order -/
theorem pd_kOwn (Fi : Fit X C) (F : Dk X.prog X.w X.K X.mg X.base k x ps 0 ks (fun _ zs => zs) (spD X.K X.mg ub Φ)) (hr : Room j X.A) (hk : k ≤ j) (hkw : QK X C kws tk wk) (hu : ub = true → C.ub = true := by intro h; first | (cases h; done) | assumption)
    (hg : Gl X x := by rfl) (hall : (backToKw pos (keywordEach kws X.env)).all (·.1.isSome) = true := by rfl) (hks : (backToKw pos (keywordEach kws X.env)).filterMap (·.1) = ks := by rfl) (hdb : (x == ("__debug__" : Str)) = false := by decide)
    (hpl : ((backTo pos (starEach [] X.env)).any (·.1) || (backToKw pos (keywordEach kws X.env)).any (·.1.isNone)) = false := by rfl) :
    PD X C (.Call (.Name x p) [] kws pos) (tCallN 0 ks.length (spD X.K X.mg ub Φ) (fun _ zs => zs) L2.E0 tNil tk) (wKw 0 ks.length (fun _ zs => zs) (pCall Φ) (fun ρ k => k [] ρ) wk) :=
  pd_callK0 Fi (fun _ _ _ _ _ _ _ h _ _ => h) F hr hk hkw hu hg hall hks hdb hpl
/-- all in the def's own order -/
theorem app_rps {B : Bk} {H : Hp} : ∀ {vs zs : List V} {ds es : List D}, Rps B H vs ds → Rps B H zs es → Rps B H (vs ++ zs) (ds ++ es)
  | _, _, [], _, h, h2 => by rw [show _ = ([] : List V) from h]; exact h2
  | _, _, d :: ds, _, h, h2 => by
    obtain ⟨x, r, rfl, h3, h4⟩ := h
    exact ⟨x, r ++ _, rfl, h3, app_rps h4 h2⟩
end
/-- a def that is called with defaults, by its promise -/
structure Dv (P : Program) (w : World) (K : PySem.W.Frag) (mg : Str → Option Value) (base : Heap) (k : Nat) (x : Str) (ps : List Str) (dvs : List V) (sp : Sp) : Prop where
  ex : ∃ (f : Addr) (fd : FuncData) (ds : List Value), FnOk P w K mg base CX0 k f fd ps sp ∧ Binds K fd ps ds ∧ Vals dvs ds ∧ mg x = some (.ref f) ∧ PySem.W.keepIn K (.ref f) = true
theorem Dv.mono {P : Program} {w : World} {K : PySem.W.Frag} {mg : Str → Option Value} {base : Heap} {j k : Nat} {x : Str} {ps : List Str} {dvs : List V} {sp : Sp} (D : Dv P w K mg base j x ps dvs sp) (h : j ≤ k) : Dv P w K mg base k x ps dvs sp := by
  obtain ⟨f, fd, ds, F, b⟩ := D
  exact ⟨f, fd, ds, F.mono h, b⟩
def pCallV (dd : List D) (Φ : Ph) : PN := fun ds k => pCall Φ (ds ++ dd) k
theorem pd_callV {X : Cx} {C : Cxt} {e : Expr} {es : List Expr} {ta : TA} {wa : WA} {pos p : Pos} {j k : Nat} {x : Str} {ps : List Str} {ub : Bool} {Φ : Ph} {dvs : List V} {dd : List D} (Fi : Fit X C) (F : Dv X.prog X.w X.K X.mg X.base k x ps dvs (spD X.K X.mg ub Φ)) (hdd : ∀ B H, Rps B H dvs dd) (hr : Room j X.A) (hk : k ≤ j) (ha : QA X C (e :: es) ta wa)
    (hu : ub = true → C.ub = true := by intro h; first | (cases h; done) | assumption) (hg : Gl X x := by rfl) (hdb : (x == ("__debug__" : Str)) = false := by decide)
    (he : starEach (e :: es) X.env = (false, eval e X.env) :: starEach es X.env := by rfl) (hpl : (backTo pos (starEach es X.env)).any (·.1) = false := by rfl) :
    PD X C (.Call (.Name x p) (e :: es) [] pos) (tCall (spD X.K X.mg ub Φ) dvs L2.E0 ta) (wArg (pCallV dd Φ) wa) := by
  obtain ⟨f, fd, ds, G, hb, hd, hm, hkp⟩ := F.ex
  refine ⟨pe_call G (hr.mono hk) hg hm hkp hb hd pass0 ha.pa hdb he hpl, ?_⟩
  have h : LiftN C (fun vs H Q => spD X.K X.mg ub Φ (vs ++ dvs) H Q L2.E0) (pCallV dd Φ) := fun ρ σ H S ds vs k Q st r φ q =>
    l_call (Φ := Φ) Fi.K Fi.mg hu L2.E0 ρ σ H S (ds ++ dd) (vs ++ dvs) k Q st (app_rps r (hdd _ _)) φ q
  exact ok_arg h ha.ok
theorem kw_app {n m : Nat} (B : Bk) (H : Hp) (vs zs : List V) (ds es : List D) (h1 : Rps B H vs ds) (h2 : Rps B H zs es) (_ : ds.length = n) (_ : es.length = m) : Rps B H ((fun vs zs => vs ++ zs) vs zs) ((fun ds es => ds ++ es) ds es) := app_rps h1 h2
end Q

set_option autoImplicit false
set_option linter.all false
/-! Tx: texts: plain facts; texts of numbers, slopes -/
namespace Q
open PySem L2
open RF (sx cps_app s_assoc e_app app_e len_app emp_eq join_nil join_one join_snoc join_len)
theorem tS_neg {i : Int} (h : i < 0) : tS i = "-" ++ tS (-i) := by
  obtain ⟨n, rfl⟩ : ∃ n : Nat, i = Int.negSucc n := ⟨(-i - 1).toNat, by omega⟩
  show Str.ofString (toString (Int.negSucc n)) = Str.ofString "-" ++ Str.ofString (toString (-(Int.negSucc n)))
  rw [Int.neg_negSucc]
  have e : toString (Int.negSucc n) = "-" ++ toString ((n + 1 : Nat) : Int) := rfl
  rw [e]
  refine TL.ext_tl ?_
  rw [TL.tl_append, TL.tl_ofString, TL.tl_ofString, TL.tl_ofString]
  simp
theorem tS_nat (n : Nat) : (tS n).length = (TL.numL n).length := by rw [TL.len_tl, show tS (n : Int) = Str.ofString (toString ((n : Nat) : Int)) from rfl, TL.tl_num]
theorem tS_len0 {i : Int} {k : Nat} (h0 : 0 ≤ i) (hk : 0 < k) (h : i < 10 ^ k) : (tS i).length ≤ k := by
  obtain ⟨n, rfl⟩ : ∃ n : Nat, i = n := ⟨i.toNat, by omega⟩
  rw [tS_nat]
  exact TL.numL_len hk (by exact_mod_cast h)
theorem tS_len {i : Int} {k : Nat} (hk : 0 < k) (h : i.natAbs < 10 ^ k) : (tS i).length ≤ k + 1 := by
  have h' : ((i.natAbs : Nat) : Int) < 10 ^ k := by exact_mod_cast h
  by_cases hi : i < 0
  · rw [tS_neg hi, len_app]
    have := tS_len0 (i := -i) (k := k) (by omega) hk (by omega)
    have : (Str.ofString "-").length = 1 := by decide +kernel
    omega
  · have := tS_len0 (i := i) (k := k) (by omega) hk (by omega)
    omega
theorem tS_pos (i : Int) : 0 < (tS i).length := by
  have h : ∀ n : Nat, 0 < (tS (n : Int)).length := fun n => by
    rw [tS_nat]
    exact List.length_pos_iff.2 (TL.numL_ne n)
  by_cases hi : i < 0
  · rw [tS_neg hi, len_app]
    have : (Str.ofString "-").length = 1 := by decide +kernel
    omega
  · have := h i.toNat
    rw [Int.toNat_of_nonneg (by omega)] at this
    exact this
theorem log_lt {n k : Nat} (h : n < 2 ^ k) (hk : 0 < k) : n.log2 < k := PySem.Flt.log2_lt_of hk h
/-- a number of at most so many figures -/
abbrev Fig (k : Nat) (i : Int) : Prop := i.natAbs < 10 ^ k
theorem fig_log {i : Int} (h : Fig 60 i) : i.natAbs.log2 < 1920 := Nat.lt_of_lt_of_le (log_lt (k := 200) (Nat.lt_of_lt_of_le h (by decide +kernel)) (by decide)) (by decide)
theorem fig_le {k m : Nat} {i : Int} (h : Fig k i) (hk : k ≤ m) : Fig m i := Nat.lt_of_lt_of_le h (Nat.pow_le_pow_right (by decide) hk)
def aI (i : Int) : Int := if i < 0 then -i else i
theorem aI_fold (i : Int) : (if i < 0 then -i else i) = aI i := rfl
theorem aI_nat (i : Int) : aI i = (i.natAbs : Nat) := by unfold aI; split <;> omega
theorem aI_fig {k : Nat} {i : Int} (h : Fig k i) : Fig k (aI i) := by rw [aI_nat]; exact h
theorem tS_sgn (i : Int) : tS i = (if i < 0 then Str.ofString "-" else Str.empty) ++ tS (aI i) := by
  unfold aI
  split
  · rename_i h; exact tS_neg h
  · rw [e_app]
/-! ### the texts of slopes -/
def szS (j : Int) : Str := if aI j = 1 then Str.empty else tS (aI j)
/-- j r, j not 0 -/
def mulS (j : Int) : Str := (if j < 0 then Str.ofString "-" else Str.empty) ++ szS j ++ Str.ofString "r"
def sumS (i j : Int) : Str := if j = 0 then tS i else if i = 0 then mulS j else tS i ++ (if 0 < j then Str.ofString "+" else Str.empty) ++ mulS j
def stS (i j k : Int) : Str := if k = 1 then sumS i j else if i ≠ 0 ∧ j ≠ 0 then Str.ofString "(" ++ sumS i j ++ Str.ofString ")/" ++ tS k else sumS i j ++ Str.ofString "/" ++ tS k
theorem l_dash : (Str.ofString "-").length = 1 := by decide +kernel
theorem l_plus : (Str.ofString "+").length = 1 := by decide +kernel
theorem l_r : (Str.ofString "r").length = 1 := by decide +kernel
theorem l_emp : Str.empty.length = 0 := rfl
theorem l_lp : (Str.ofString "(").length = 1 := by decide +kernel
theorem l_rpd : (Str.ofString ")/").length = 2 := by decide +kernel
theorem l_slash : (Str.ofString "/").length = 1 := by decide +kernel
theorem mulS_len {k : Nat} (hk : 0 < k) {j : Int} (h : Fig k j) : (mulS j).length ≤ k + 3 := by
  have := tS_len hk (aI_fig h)
  unfold mulS szS
  rw [len_app, len_app, l_r]
  split <;> split <;> simp only [l_dash, l_emp] <;> omega
theorem sumS_len {k : Nat} (hk : 0 < k) {i j : Int} (hi : Fig k i) (hj : Fig k j) : (sumS i j).length ≤ 2 * k + 6 := by
  have := tS_len hk hi
  have := mulS_len hk hj
  unfold sumS
  split
  · omega
  · split
    · omega
    · rw [len_app, len_app]
      split <;> simp only [l_plus, l_emp] <;> omega
theorem stS_len {k : Nat} (hk : 0 < k) {i j m : Int} (hi : Fig k i) (hj : Fig k j) (hm : Fig k m) : (stS i j m).length ≤ 3 * k + 13 := by
  have := sumS_len hk hi hj
  have := tS_len hk hm
  unfold stS
  split
  · omega
  · split <;> simp only [len_app, l_lp, l_rpd, l_slash] <;> omega
theorem mulS_one : mulS 1 = Str.ofString "r" := by decide +kernel
theorem mulS_m1 : mulS (-1) = Str.ofString "-r" := by decide +kernel
theorem aI_one {j : Int} (h1 : j ≠ 1) (h2 : j ≠ -1) : ¬ aI j = 1 := by
  unfold aI
  split <;> omega
theorem mulS_else {j : Int} (h1 : j ≠ 1) (h2 : j ≠ -1) : mulS j = tS j ++ Str.ofString "r" := by
  unfold mulS szS
  rw [if_neg (aI_one h1 h2), tS_sgn j]
theorem tx_app2 (a b : Str) : Str.empty ++ a ++ b = a ++ b := by rw [e_app]
theorem line_of {n : Nat} (h : n ≤ 16000000) : n ≤ sizeLine := by rw [sizeLine_eq]; omega
theorem sumS_neg {i j : Int} (hi : i ≠ 0) (hj : j < 0) : sumS i j = tS i ++ Str.ofString "-" ++ szS j ++ Str.ofString "r" := by
  unfold sumS mulS
  rw [if_neg (by omega), if_neg hi, if_neg (by omega), if_pos hj, app_e]
  simp only [s_assoc]
theorem sumS_pos {i j : Int} (hi : i ≠ 0) (h0 : j ≠ 0) (hj : ¬ j < 0) : sumS i j = tS i ++ Str.ofString "+" ++ szS j ++ Str.ofString "r" := by
  unfold sumS mulS
  rw [if_neg h0, if_neg hi, if_pos (by omega), if_neg hj, e_app]
  simp only [s_assoc]
theorem sumS_else {i j : Int} (h : ¬ (i ≠ 0 ∧ j ≠ 0)) : sumS i j = if j = 0 then tS i else mulS j := by
  unfold sumS
  by_cases hj : j = 0
  · rw [if_pos hj, if_pos hj]
  · rw [if_neg hj, if_neg hj, if_pos (by omega)]
end Q

set_option autoImplicit false
set_option linter.all false
/-! St: methods of texts with more values; texts by their signs -/
namespace Q
open PySem L2
section
variable {X : Cx} {C : Cxt} {e a : Expr} {es : List Expr} {te : TE} {we : WE} {ta : TA} {wa : WA} {pos : Pos}
def wMN (p : PN) (wo : WE) (wa : WA) : WE := fun ρ k => wo ρ fun x ρ1 => (∃ z, x.toD = .str z) ∧ wa ρ1 fun ds ρ2 => p (x.toD :: ds) fun z => k z ρ2
theorem ok_mN {r : V → List V → Hp → VK → Prop} {p : PN} (h : LiftN C (fun vs H Q => match vs with | x :: xs => r x xs H Q | _ => False) p) (ho : OkE C te we) (ha : OkA C ta wa) : OkE C (tBM X.K "str" r te ta) (wMN p we wa) := by
  intro ρ ρx σ σx H S k Q hl st hw q
  refine ho ρ ρx σ σx H S _ _ hl st hw fun x ρ1 vx H1 S1 hl1 st1 hw1 => ?_
  obtain ⟨⟨z, ez⟩, hw1⟩ := hw1
  obtain ⟨S1', st1⟩ := st1.lastD
  have lx1 : (ρ1 ++ ρx).length = (σ ++ σx).length := by have := st1.len; simp only [List.length_append, List.length_cons, List.length_nil] at *; omega
  have ev := (st1.last lx1).str ez
  refine ⟨by subst ev; rfl, ?_⟩
  rw [List.append_assoc, List.append_assoc] at st1
  refine ha ρ1 (ρx ++ [some (Sl.fz x.toD)]) σ (σx ++ [some vx]) H1 S1' _ _ hl1 st1 hw1 fun ds ρ2 vs H2 S2 hl2 st2 hp => ?_
  have ly : (ρ2 ++ (ρx ++ [some (Sl.fz x.toD)])).length = (σ ++ (σx ++ [some vx])).length := by
    simp only [List.length_append, List.length_cons, List.length_nil] at *
    omega
  have rz := st2.args ly
  have st3 := st2.drop ly
  rw [← List.append_assoc, ← List.append_assoc] at st3
  have lx2 : (ρ2 ++ ρx).length = (σ ++ σx).length := by simp only [List.length_append, List.length_cons, List.length_nil] at *; omega
  have ox := (st3.last lx2)
  exact h (ρ2 ++ ρx) (σ ++ σx) H2 S2 (x.toD :: ds) (vx :: vs) _ Q (st3.drop lx2) ⟨vx, vs, rfl, ox, rz⟩ hp fun z v H' S' st' hk => q z ρ2 v H' S' hl2 st' hk
theorem pd_mN {id : String} {name : Str} {apos : Pos} {r : V → List V → Hp → VK → Prop} {p : PN} (slot : PySem.Slot "str" name id) (ty : typeOf (.builtin id) = pure (.type "method_descriptor")) (rule : MtR X id r) (h : LiftN C (fun vs H Q => match vs with | x :: xs => r x xs H Q | _ => False) p) (ho : PD X C e te we) (ha : QA X C (a :: es) ta wa)
    (hbase : attributeBase e name X.env (eval e X.env) = eval e X.env := by rfl)
    (hfew : ((backTo pos (starEach (a :: es) X.env)).all (fun x => !x.1) && (backToKw pos (keywordEach [] X.env)).all (fun x => x.1.isSome)
      && decide ((a :: es).length + ([] : List Keyword).length + (if ([] : List Keyword).isEmpty then 0 else 1) < 30)) = true := by rfl)
    (hline : (apos.endLine == pos.line) = true := by rfl) (hs : starEach (a :: es) X.env = (false, eval a X.env) :: starEach es X.env := by rfl) (hplain : (backTo pos (starEach es X.env)).any (·.1) = false := by rfl) :
    PD X C (.Call (.Attribute e name apos) (a :: es) [] pos) (tBM X.K "str" r te ta) (wMN p we wa) := ⟨pe_bm PySem.F.plainAttrs_str slot ty rule ho.pe ha.pa hbase hfew hline hs hplain, ok_mN h ho.ok ha.ok⟩
/-- a method that tells of two texts (and a place) -/
def pSS (g : Str → Str → D) (c : Str → Str → Prop) : PN := fun ds k => match ds with
  | [.str a, .str b] => c a b ∧ k (.fz (g a b))
  | _ => False
def pSSI (g : Str → Str → Int → D) : PN := fun ds k => match ds with
  | [.str a, .str b, .int i] => k (.fz (g a b i))
  | _ => False
abbrev pStarts : PN := pSS (fun a b => .bl (Txt.startswith a b)) fun _ _ => True
abbrev pEnds : PN := pSS (fun a b => .bl (Txt.endswith a b)) fun _ _ => True
abbrev pRfind : PN := pSS (fun a b => .int (Txt.rfind a b)) fun _ _ => True
abbrev pStripC : PN := pSS (fun a b => .str (Txt.stripChars a b)) fun a _ => a.length ≤ sizeLine
abbrev pParts : PN := pSS (fun a b => .tup [.str (Txt.partition a b).1, .str (Txt.partition a b).2.1, .str (Txt.partition a b).2.2]) fun a b => (b.length == 0) = false ∧ a.length ≤ sizeLine
abbrev pStarts3 : PN := pSSI fun a b i => .bl (Txt.startswith3 a b i)
abbrev pFind3 : PN := pSSI fun a b i => .int (Txt.find3 a b i)
theorem l_starts : LiftN C (fun vs H Q => match vs with | x :: xs => (fun x xs H Q => ∃ a b, x = V.str a ∧ xs = [V.str b] ∧ Q (V.bl (Txt.startswith a b)) H) x xs H Q | _ => False) pStarts := by
  intro ρ σ H S ds vs k Q st rr h q
  unfold pStarts pSS at h
  split at h
  · rename_i a b
    obtain ⟨v, u, rfl, r1, r2⟩ := rps2 rr
    exact ⟨a, b, r1, by rw [show u = _ from r2], ans_bl st q h.2⟩
  · exact h.elim
theorem l_ends : LiftN C (fun vs H Q => match vs with | x :: xs => (fun x xs H Q => ∃ a b, x = V.str a ∧ xs = [V.str b] ∧ Q (V.bl (Txt.endswith a b)) H) x xs H Q | _ => False) pEnds := by
  intro ρ σ H S ds vs k Q st rr h q
  unfold pEnds pSS at h
  split at h
  · rename_i a b
    obtain ⟨v, u, rfl, r1, r2⟩ := rps2 rr
    exact ⟨a, b, r1, by rw [show u = _ from r2], ans_bl st q h.2⟩
  · exact h.elim
theorem l_rfind : LiftN C (fun vs H Q => match vs with | x :: xs => (fun x xs H Q => ∃ a b, x = V.str a ∧ xs = [V.str b] ∧ Q (V.int (Txt.rfind a b)) H) x xs H Q | _ => False) pRfind := by
  intro ρ σ H S ds vs k Q st rr h q
  unfold pRfind pSS at h
  split at h
  · rename_i a b
    obtain ⟨v, u, rfl, r1, r2⟩ := rps2 rr
    exact ⟨a, b, r1, by rw [show u = _ from r2], ans_int st q h.2⟩
  · exact h.elim
theorem l_stripC : LiftN C (fun vs H Q => match vs with | x :: xs => (fun x xs H Q => ∃ a b, x = V.str a ∧ xs = [V.str b] ∧ a.length ≤ sizeLine ∧ Q (V.str (Txt.stripChars a b)) H) x xs H Q | _ => False) pStripC := by
  intro ρ σ H S ds vs k Q st rr h q
  unfold pStripC pSS at h
  split at h
  · rename_i a b
    obtain ⟨v, u, rfl, r1, r2⟩ := rps2 rr
    exact ⟨a, b, r1, by rw [show u = _ from r2], h.1, ans_str st q h.2⟩
  · exact h.elim
theorem l_parts : LiftN C (fun vs H Q => match vs with | x :: xs => (fun x xs H Q => ∃ a b, x = V.str a ∧ xs = [V.str b] ∧ (b.length == 0) = false ∧ a.length ≤ sizeLine ∧
    ∀ p, H p = none → Q (.ref p) (upd H p (.tup [.str (Txt.partition a b).1, .str (Txt.partition a b).2.1, .str (Txt.partition a b).2.2]))) x xs H Q | _ => False) pParts := by
  intro ρ σ H S ds vs k Q st rr h q
  unfold pParts pSS at h
  split at h
  · rename_i a b
    obtain ⟨v, u, rfl, r1, r2⟩ := rps2 rr
    exact ⟨a, b, r1, by rw [show u = _ from r2], h.1.1, h.1.2, fun p hp => ans_tup (xs := [V.str (Txt.partition a b).1, V.str (Txt.partition a b).2.1, V.str (Txt.partition a b).2.2]) st q (by show 3 ≤ 1000000; decide) (show Rps C.B (hid S H) _ [D.str (Txt.partition a b).1, D.str (Txt.partition a b).2.1, D.str (Txt.partition a b).2.2] from ⟨_, _, rfl, rfl, _, _, rfl, rfl, _, _, rfl, rfl, rfl⟩) h.2 p hp⟩
  · exact h.elim
theorem l_starts3 : LiftN C (fun vs H Q => match vs with | x :: xs => (fun x xs H Q => ∃ (a b : Str) (i : Int), x = V.str a ∧ xs = [V.str b, V.int i] ∧ Q (V.bl (Txt.startswith3 a b i)) H) x xs H Q | _ => False) pStarts3 := by
  intro ρ σ H S ds vs k Q st rr h q
  unfold pStarts3 pSSI at h
  split at h
  · rename_i a b i
    obtain ⟨v, u, z, rfl, r1, r2, r3⟩ := rps3 rr
    exact ⟨a, b, i, r1, by rw [show u = _ from r2, show z = _ from r3], ans_bl st q h⟩
  · exact h.elim
theorem l_find3 : LiftN C (fun vs H Q => match vs with | x :: xs => (fun x xs H Q => ∃ (a b : Str) (i : Int), x = V.str a ∧ xs = [V.str b, V.int i] ∧ Q (V.int (Txt.find3 a b i)) H) x xs H Q | _ => False) pFind3 := by
  intro ρ σ H S ds vs k Q st rr h q
  unfold pFind3 pSSI at h
  split at h
  · rename_i a b i
    obtain ⟨v, u, z, rfl, r1, r2, r3⟩ := rps3 rr
    exact ⟨a, b, i, r1, by rw [show u = _ from r2, show z = _ from r3], ans_int st q h⟩
  · exact h.elim
/-- max of three -/
def mx3 (a b c : Int) : Int := if c > (if b > a then b else a) then c else (if b > a then b else a)
def pMax3 : PN := fun ds k => match ds with
  | [.int a, .int b, .int c] => k (.fz (.int (mx3 a b c)))
  | _ => False
theorem l_max3 : LiftN C (rNuC3 nuMax3) pMax3 := by
  intro ρ σ H S ds vs k Q st rr h q
  unfold pMax3 at h
  split at h
  · rename_i a b c
    obtain ⟨v, u, z, rfl, r1, r2, r3⟩ := rps3 rr
    rw [show v = _ from r1, show u = _ from r2, show z = _ from r3]
    refine ⟨_, _, _, .int (mx3 a b c), rfl, ?_, ans_int st q h⟩
    unfold nuMax3 nuMax2 mx3
    have e : ∀ i j : Int, nuLt (V.int i) (V.int j) = some (decide (i < j)) := fun _ _ => rfl
    rw [e]
    by_cases h1 : a < b
    · simp only [decide_eq_true h1, Option.map_some, Option.bind_some, if_true, e]
      by_cases h2 : b < c
      · simp [h1, h2]
      · simp [h1, h2]
    · simp only [decide_eq_false h1, Option.map_some, Option.bind_some, Bool.false_eq_true, if_false, e]
      by_cases h2 : a < c
      · simp [h1, h2]
      · simp [h1, h2]
  · exact h.elim
end
end Q

set_option autoImplicit false
set_option linter.all false
/-! Tm: terms and sayings, their data, their texts -/
namespace Q
open PySem L2
open RF (sx cps_app s_assoc e_app app_e len_app emp_eq join_nil join_one join_snoc join_len)
/-- the items of a term from the first on, its constant at the end -/
inductive Tm where
  | con (c : Int)
  | nm (f : Int) (x : Str) (r : Tm)
  | fl (f i j k : Int) (t r : Tm)
def Tm.c : Tm → Int
  | .con c => c
  | .nm _ _ r => r.c
  | .fl _ _ _ _ _ r => r.c
def Tm.its : Tm → List D
  | .con _ => []
  | .nm f x r => .tup [.int f, .str x] :: r.its
  | .fl f i j k t r => .tup [.int f, .tup [.str "floor", .tup [.int i, .int j, .int k], .tup [.tup t.its, .int t.c]]] :: r.its
def Tm.d (t : Tm) : D := .tup [.tup t.its, .int t.c]
def itS (size : Int) (x : Str) : Str := if size = 1 then x else tS size ++ Str.ofString "*" ++ x
def hdP (f : Int) (x : Str) : Str := if f < 0 then Str.ofString "-" ++ x else x
def tlP (f : Int) (x : Str) : Str := if f < 0 then Str.ofString " - " ++ x else Str.ofString " + " ++ x
def catP : List (Int × Str) → Str
  | [] => Str.empty
  | (f, x) :: r => tlP f x ++ catP r
def jnP : List (Int × Str) → Str
  | [] => Str.empty
  | (f, x) :: r => hdP f x ++ catP r
def endP (c : Int) (ps : List (Int × Str)) : List (Int × Str) := if c ≠ 0 ∨ ps = [] then ps ++ [(c, tS (aI c))] else ps
def flS (s u : Str) : Str := Str.ofString "floor(" ++ s ++ Str.ofString ", " ++ u ++ Str.ofString ")"
def Tm.pcs : Tm → List (Int × Str)
  | .con _ => []
  | .nm f x r => (f, itS (aI f) x) :: r.pcs
  | .fl f i j k t r => (f, itS (aI f) (flS (stS i j k) (jnP (endP t.c t.pcs)))) :: r.pcs
def Tm.tx (t : Tm) : Str := jnP (endP t.c t.pcs)
def Tm.sz : Tm → Nat
  | .con _ => 70
  | .nm _ x r => 70 + x.length + r.sz
  | .fl _ _ _ _ t r => 300 + t.sz + r.sz
/-- floors within one another -/
def Tm.dp : Tm → Nat
  | .con _ => 0
  | .nm _ _ r => r.dp
  | .fl _ _ _ _ t r => max (t.dp + 1) r.dp
def Tm.cnt : Tm → Nat
  | .con _ => 0
  | .nm _ _ r => r.cnt + 1
  | .fl _ _ _ _ _ r => r.cnt + 1
/-- numbers of at most 60 figures, names that are not empty -/
def Tm.ok : Tm → Prop
  | .con c => Fig 60 c
  | .nm f x r => Fig 60 f ∧ (0 < x.length ∧ PyData.strOk x = true) ∧ r.ok
  | .fl f i j k t r => Fig 60 f ∧ Fig 60 i ∧ Fig 60 j ∧ Fig 60 k ∧ t.ok ∧ r.ok
theorem Tm.its_len : ∀ t : Tm, t.its.length = t.cnt
  | .con _ => rfl
  | .nm _ _ r => by show r.its.length + 1 = r.cnt + 1; rw [r.its_len]
  | .fl _ _ _ _ _ r => by show r.its.length + 1 = r.cnt + 1; rw [r.its_len]
theorem Tm.pcs_len : ∀ t : Tm, t.pcs.length = t.cnt
  | .con _ => rfl
  | .nm _ _ r => by show r.pcs.length + 1 = r.cnt + 1; rw [r.pcs_len]
  | .fl _ _ _ _ _ r => by show r.pcs.length + 1 = r.cnt + 1; rw [r.pcs_len]
theorem Tm.cnt_sz : ∀ t : Tm, 70 * t.cnt + 70 ≤ t.sz
  | .con _ => Nat.le_refl _
  | .nm _ _ r => by have := r.cnt_sz; simp only [Tm.cnt, Tm.sz]; omega
  | .fl _ _ _ _ _ r => by have := r.cnt_sz; simp only [Tm.cnt, Tm.sz]; omega
theorem Tm.c_ok : ∀ {t : Tm}, t.ok → Fig 60 t.c
  | .con _, h => h
  | .nm _ _ r, h => Tm.c_ok (t := r) h.2.2
  | .fl _ _ _ _ _ r, h => Tm.c_ok (t := r) h.2.2.2.2.2
theorem l_star : (Str.ofString "*").length = 1 := by decide +kernel
theorem l_sp1 : (Str.ofString " - ").length = 3 := by decide +kernel
theorem l_sp2 : (Str.ofString " + ").length = 3 := by decide +kernel
theorem l_flo : (Str.ofString "floor(").length = 6 := by decide +kernel
theorem l_com : (Str.ofString ", ").length = 2 := by decide +kernel
theorem l_rp : (Str.ofString ")").length = 1 := by decide +kernel
theorem itS_len {f : Int} {x : Str} (h : Fig 60 f) : (itS f x).length ≤ 62 + x.length := by
  have := tS_len (by decide) h
  unfold itS
  split
  · omega
  · rw [len_app, len_app, l_star]; omega
theorem tlP_len (f : Int) (x : Str) : (tlP f x).length = 3 + x.length := by unfold tlP; split <;> simp only [len_app, l_sp1, l_sp2]
theorem hdP_len (f : Int) (x : Str) : (hdP f x).length ≤ 1 + x.length := by
  unfold hdP
  split
  · rw [len_app, l_dash]; omega
  · omega
theorem flS_len (s u : Str) : (flS s u).length = 9 + s.length + u.length := by unfold flS; simp only [len_app, l_flo, l_com, l_rp]; omega
theorem jn_le_cat : ∀ ps : List (Int × Str), (jnP ps).length ≤ (catP ps).length
  | [] => Nat.le_refl _
  | (f, x) :: r => by
    have := hdP_len f x
    have := tlP_len f x
    simp only [jnP, catP, len_app]
    omega
theorem cat_snoc (f : Int) (x : Str) : ∀ ps : List (Int × Str), catP (ps ++ [(f, x)]) = catP ps ++ tlP f x
  | [] => by simp only [catP, List.nil_append, e_app, app_e]
  | (g, y) :: r => by simp only [catP, List.cons_append, cat_snoc f x r, s_assoc]
theorem cat_app : ∀ ps qs : List (Int × Str), catP (ps ++ qs) = catP ps ++ catP qs
  | [], qs => by simp only [catP, List.nil_append, e_app]
  | (g, y) :: r, qs => by simp only [catP, List.cons_append, cat_app r qs, s_assoc]
theorem end_len {c : Int} {ps : List (Int × Str)} (h : Fig 60 c) : (catP (endP c ps)).length ≤ (catP ps).length + 65 := by
  have := tS_len (by decide) (aI_fig h)
  unfold endP
  split
  · rw [cat_snoc, len_app, tlP_len]; omega
  · omega
theorem Tm.cat_len : ∀ {t : Tm}, t.ok → (catP t.pcs).length + 70 ≤ t.sz
  | .con _, _ => by simp only [Tm.pcs, catP, l_emp, Tm.sz]; omega
  | .nm f x r, h => by
    have := Tm.cat_len (t := r) h.2.2
    have := itS_len (x := x) (aI_fig h.1)
    simp only [Tm.pcs, catP, len_app, tlP_len, Tm.sz]
    omega
  | .fl f i j k t r, h => by
    obtain ⟨h1, h2, h3, h4, h5, h6⟩ := h
    have := Tm.cat_len (t := r) h6
    have := Tm.cat_len (t := t) h5
    have := stS_len (by decide) h2 h3 h4
    have := end_len (ps := t.pcs) (Tm.c_ok h5)
    have := jn_le_cat (endP t.c t.pcs)
    have e := flS_len (stS i j k) (jnP (endP t.c t.pcs))
    have := itS_len (x := flS (stS i j k) (jnP (endP t.c t.pcs))) (aI_fig h1)
    simp only [Tm.pcs, catP, len_app, tlP_len, Tm.sz]
    omega
theorem Tm.tx_len {t : Tm} (h : t.ok) : t.tx.length ≤ t.sz := by
  have := Tm.cat_len h
  have := end_len (ps := t.pcs) (Tm.c_ok h)
  have := jn_le_cat (endP t.c t.pcs)
  show (jnP (endP t.c t.pcs)).length ≤ _
  omega
def pdD (ps : List (Int × Str)) : List D := ps.map fun p => .tup [.int p.1, .str p.2]
theorem Tm.plain : ∀ {t : Tm}, t.ok → plains t.its = true
  | .con _, _ => rfl
  | .nm f x r, h => by
    show (((true && (PyData.strOk x && true)) && plains r.its)) = true
    rw [h.2.1.2, Tm.plain (t := r) h.2.2]
    rfl
  | .fl f i j k t r, h => by
    obtain ⟨_, _, _, _, h5, h6⟩ := h
    have e1 := Tm.plain (t := t) h5
    have e2 := Tm.plain (t := r) h6
    have e3 : PyData.strOk ("floor" : Str) = true := by decide +kernel
    show plains (_ :: r.its) = true
    simp only [plains, Q.plain, e1, e2, e3, Bool.and_self]
theorem Tm.deep : ∀ t : Tm, depL t.its ≤ 4 * t.dp + 1
  | .con _ => Nat.zero_le _
  | .nm f x r => by
    have := Tm.deep r
    show max (dep (.tup [.int f, .str x])) (depL r.its) ≤ 4 * r.dp + 1
    simp only [dep, depL]
    omega
  | .fl f i j k t r => by
    have h1 := Tm.deep r
    have h2 := Tm.deep t
    show max (dep _) (depL r.its) ≤ 4 * max (t.dp + 1) r.dp + 1
    simp only [dep, depL]
    omega
theorem Tm.okD {t : Tm} (h : t.ok) (hd : t.dp ≤ 14) : okD (.tup t.its) := ⟨Tm.plain h, by have := t.deep; show depL t.its + 1 ≤ 60; omega⟩
theorem Tm.emp (t : Tm) : eqD (.tup t.its) (.tup []) = decide (t.pcs = []) := by
  cases t <;> rfl
/-- every piece has a text -/
theorem Tm.pcs_ne : ∀ {t : Tm}, t.ok → ∀ p ∈ t.pcs, 0 < p.2.length
  | .con _, _, p, m => by cases m
  | .nm f x r, h, p, m => by
    rcases List.mem_cons.mp m with rfl | m
    · show 0 < (itS (aI f) x).length
      have := h.2.1.1
      unfold itS
      split
      · omega
      · rw [len_app]; omega
    · exact Tm.pcs_ne (t := r) h.2.2 p m
  | .fl f i j k t r, h, p, m => by
    obtain ⟨_, _, _, _, _, h6⟩ := h
    rcases List.mem_cons.mp m with rfl | m
    · show 0 < (itS (aI f) (flS _ _)).length
      have := flS_len (stS i j k) (jnP (endP t.c t.pcs))
      unfold itS
      split
      · omega
      · rw [len_app]; omega
    · exact Tm.pcs_ne (t := r) h6 p m
/-- the pieces as they are put together -/
def jnT : List (Int × Str) → List Str
  | [] => []
  | (f, x) :: r => hdP f x :: r.map fun p => tlP p.1 p.2
theorem jnT_snoc (ps : List (Int × Str)) (f : Int) (x : Str) : jnT (ps ++ [(f, x)]) = jnT ps ++ [if ps = [] then hdP f x else tlP f x] := by
  cases ps with
  | nil => rfl
  | cons p r => simp [jnT]
theorem jnT_len (ps : List (Int × Str)) : (jnT ps).length = ps.length := by cases ps <;> simp [jnT]
theorem jnT_join (ps : List (Int × Str)) : Txt.join Str.empty (jnT ps) = jnP ps := by
  have cat : ∀ (r : List (Int × Str)) (l : List Str), Txt.join Str.empty (l ++ r.map fun p => tlP p.1 p.2) = Txt.join Str.empty l ++ catP r := by
    intro r
    induction r with
    | nil => intro l; simp only [List.map_nil, List.append_nil, catP, app_e]
    | cons p r ih =>
      intro l
      have := ih (l ++ [tlP p.1 p.2])
      rw [List.append_assoc] at this
      rw [List.map_cons]
      rw [show l ++ tlP p.1 p.2 :: List.map (fun p => tlP p.1 p.2) r = l ++ ([tlP p.1 p.2] ++ List.map (fun p => tlP p.1 p.2) r) from rfl, this, join_snoc, s_assoc]
      rfl
  cases ps with
  | nil => exact join_nil _
  | cons p r =>
    have := cat r [hdP p.1 p.2]
    rw [join_one] at this
    exact this
theorem jnT_sum : ∀ ps : List (Int × Str), ((jnT ps).map (·.length)).sum ≤ (catP ps).length
  | [] => Nat.zero_le _
  | p :: r => by
    have cat : ∀ r : List (Int × Str), ((r.map fun p => tlP p.1 p.2).map (·.length)).sum = (catP r).length := by
      intro r
      induction r with
      | nil => rfl
      | cons p r ih => simp only [List.map_cons, List.sum_cons, ih, catP, len_app]
    have h1 := hdP_len p.1 p.2
    have h2 := tlP_len p.1 p.2
    have h3 := cat r
    show ((hdP p.1 p.2 :: r.map fun p => tlP p.1 p.2).map (·.length)).sum ≤ (tlP p.1 p.2 ++ catP r).length
    rw [List.map_cons, List.sum_cons, h3, len_app]
    omega
theorem endP_cnt (c : Int) (ps : List (Int × Str)) : (endP c ps).length ≤ ps.length + 1 := by
  unfold endP
  split
  · simp
  · omega
/-! ### sayings -/
mutual
inductive Sy where
  | eq (l : Bool) (a b : Tm)
  | un (a : Tm) (i j k : Int) (b : Tm)
  | lv (a : Tm) (m r : Int)
  | us (x : Str) (ys : List Str)
  | nt (s : Sy)
  | qf (all : Bool) (x : Str) (s : Sy)
  | gr (o : Bool) (ps : Sys)
inductive Sys where
  | nil
  | cons (s : Sy) (r : Sys)
end
mutual
def Sy.d : Sy → D
  | .eq l a b => .tup [.str (if l then "less" else "equal"), a.d, b.d]
  | .un a i j k b => .tup [.str "under", a.d, .tup [.int i, .int j, .int k], b.d]
  | .lv a m r => .tup [.str "leaves", a.d, .int m, .int r]
  | .us x ys => .tup [.str "use", .str x, .tup (ys.map .str)]
  | .nt s => .tup [.str "not", s.d]
  | .qf a x s => .tup [.str (if a then "all" else "some"), .str x, s.d]
  | .gr o ps => .tup (.str (if o then "or" else "and") :: ps.ds)
def Sys.ds : Sys → List D
  | .nil => []
  | .cons s r => s.d :: r.ds
end
def leS (a b : Tm) (l : Bool) : Str := a.tx ++ (if l then Str.ofString " < " else Str.ofString " = ") ++ b.tx
def unS (a : Tm) (i j k : Int) (b : Tm) : Str := Str.ofString "under(" ++ a.tx ++ Str.ofString ", " ++ stS i j k ++ Str.ofString ", " ++ b.tx ++ Str.ofString ")"
def lvS (a : Tm) (m r : Int) : Str := Str.ofString "leaves(" ++ a.tx ++ Str.ofString ", " ++ tS m ++ Str.ofString ", " ++ tS r ++ Str.ofString ")"
def usS (x : Str) (ys : List Str) : Str := x ++ Str.ofString "(" ++ Txt.join ", " ys ++ Str.ofString ")"
def glS (o : Bool) : Str := if o then Str.ofString " or " else Str.ofString " and "
mutual
def Sy.tx : Sy → Str
  | .eq l a b => leS a b l
  | .un a i j k b => unS a i j k b
  | .lv a m r => lvS a m r
  | .us x ys => usS x ys
  | .nt s => Str.ofString "not " ++ s.tx
  | .qf a x s => (if a then Str.ofString "all" else Str.ofString "some") ++ Str.ofString " " ++ x ++ Str.ofString " " ++ s.tx
  | .gr o ps => Str.ofString "(" ++ Txt.join (glS o) ps.txs ++ Str.ofString ")"
def Sys.txs : Sys → List Str
  | .nil => []
  | .cons s r => s.tx :: r.txs
end
def namesL (ys : List Str) : Nat := (ys.map (·.length)).sum + 2 * ys.length
mutual
def Sy.sz : Sy → Nat
  | .eq _ a b => a.sz + b.sz + 3
  | .un a _ _ _ b => a.sz + b.sz + 300
  | .lv a _ _ => a.sz + 150
  | .us x ys => x.length + namesL ys + 10
  | .nt s => s.sz + 10
  | .qf _ x s => x.length + s.sz + 10
  | .gr _ ps => ps.sz + 10
def Sys.sz : Sys → Nat
  | .nil => 0
  | .cons s r => s.sz + r.sz + 12
end
mutual
def Sy.ok : Sy → Prop
  | .eq _ a b => a.ok ∧ b.ok
  | .un a i j k b => a.ok ∧ Fig 60 i ∧ Fig 60 j ∧ Fig 60 k ∧ b.ok
  | .lv a m r => a.ok ∧ Fig 60 m ∧ Fig 60 r
  | .us _ _ => True
  | .nt s => s.ok
  | .qf _ _ s => s.ok
  | .gr _ ps => ps.ok
def Sys.ok : Sys → Prop
  | .nil => True
  | .cons s r => s.ok ∧ r.ok
end
mutual
/-- the floors of a saying's terms -/
def Sy.tdp : Sy → Nat
  | .eq _ a b => max a.dp b.dp
  | .un a _ _ _ b => max a.dp b.dp
  | .lv a _ _ => a.dp
  | .us _ _ => 0
  | .nt s => s.tdp
  | .qf _ _ s => s.tdp
  | .gr _ ps => ps.tdp
def Sys.tdp : Sys → Nat
  | .nil => 0
  | .cons s r => max s.tdp r.tdp
end
mutual
/-- sayings within one another -/
def Sy.dp : Sy → Nat
  | .nt s => s.dp + 1
  | .qf _ _ s => s.dp + 1
  | .gr _ ps => ps.dp + 1
  | _ => 0
def Sys.dp : Sys → Nat
  | .nil => 0
  | .cons s r => max s.dp r.dp
end
def Sys.len : Sys → Nat
  | .nil => 0
  | .cons _ r => r.len + 1
theorem Sys.ds_len : ∀ ps : Sys, ps.ds.length = ps.len
  | .nil => rfl
  | .cons s r => by show r.ds.length + 1 = r.len + 1; rw [Sys.ds_len r]
theorem Sys.txs_len : ∀ ps : Sys, ps.txs.length = ps.len
  | .nil => rfl
  | .cons s r => by show r.txs.length + 1 = r.len + 1; rw [Sys.txs_len r]
theorem Sys.len_sz : ∀ ps : Sys, 12 * ps.len ≤ ps.sz
  | .nil => Nat.le_refl _
  | .cons s r => by have := Sys.len_sz r; simp only [Sys.len, Sys.sz]; omega
theorem l_le : (Str.ofString " < ").length = 3 := by decide +kernel
theorem l_equ : (Str.ofString " = ").length = 3 := by decide +kernel
theorem l_und : (Str.ofString "under(").length = 6 := by decide +kernel
theorem l_lea : (Str.ofString "leaves(").length = 7 := by decide +kernel
theorem l_not : (Str.ofString "not ").length = 4 := by decide +kernel
theorem l_allS : (Str.ofString "all").length = 3 := by decide +kernel
theorem l_some : (Str.ofString "some").length = 4 := by decide +kernel
theorem l_spc : (Str.ofString " ").length = 1 := by decide +kernel
theorem l_ors : (Str.ofString " or ").length = 4 := by decide +kernel
theorem l_ands : (Str.ofString " and ").length = 5 := by decide +kernel
theorem glS_len (o : Bool) : (glS o).length ≤ 5 := by cases o <;> simp only [glS, l_ands, l_ors, if_true, if_false] <;> decide +kernel
mutual
theorem Sy.tx_len : ∀ {s : Sy}, s.ok → s.tx.length ≤ s.sz
  | .eq l a b, h => by
    have := Tm.tx_len h.1
    have := Tm.tx_len h.2
    simp only [Sy.tx, Sy.sz, leS, len_app]
    split <;> simp only [l_le, l_equ] <;> omega
  | .un a i j k b, h => by
    obtain ⟨h1, h2, h3, h4, h5⟩ := h
    have := Tm.tx_len h1
    have := Tm.tx_len h5
    have := stS_len (by decide) h2 h3 h4
    simp only [Sy.tx, Sy.sz, unS, len_app, l_und, l_com, l_rp]
    omega
  | .lv a m r, h => by
    obtain ⟨h1, h2, h3⟩ := h
    have := Tm.tx_len h1
    have := tS_len (by decide) h2
    have := tS_len (by decide) h3
    simp only [Sy.tx, Sy.sz, lvS, len_app, l_lea, l_com, l_rp]
    omega
  | .us x ys, _ => by
    have := join_len (Str.ofString ", ") ys
    rw [l_com] at this
    simp only [Sy.tx, Sy.sz, usS, len_app, l_lp, l_rp, namesL]
    omega
  | .nt s, h => by
    have := Sy.tx_len (s := s) h
    simp only [Sy.tx, Sy.sz, len_app, l_not]
    omega
  | .qf a x s, h => by
    have := Sy.tx_len (s := s) h
    simp only [Sy.tx, Sy.sz, len_app, l_spc]
    split <;> simp only [l_allS, l_some] <;> omega
  | .gr o ps, h => by
    have h1 := Sys.txs_sum (ps := ps) h
    have h2 := join_len (glS o) ps.txs
    have h3 := glS_len o
    have h4 : ps.txs.length * (glS o).length ≤ ps.txs.length * 5 := Nat.mul_le_mul_left _ h3
    simp only [Sy.tx, Sy.sz, len_app, l_lp, l_rp]
    omega
theorem Sys.txs_sum : ∀ {ps : Sys}, ps.ok → (ps.txs.map (·.length)).sum + ps.txs.length * 5 ≤ ps.sz
  | .nil, _ => Nat.le_refl _
  | .cons s r, h => by
    have := Sy.tx_len (s := s) h.1
    have := Sys.txs_sum (ps := r) h.2
    simp only [Sys.txs, Sys.sz, List.map_cons, List.sum_cons, List.length_cons]
    omega
end
end Q

set_option autoImplicit false
set_option linter.all false
/-! Gn: what the laws draw: terms, sayings -/
namespace Q
open PySem L2
open RF (sx cps_app s_assoc e_app app_e len_app emp_eq join_nil join_one join_snoc join_len)
/-- a slope as it is drawn -/
def SlB (i j m : Int) : Prop := (-9 ≤ i ∧ i ≤ 9) ∧ (-3 ≤ j ∧ j ≤ 3) ∧ 1 ≤ m ∧ m ≤ 4
def lowS (x : Str) : Prop := ∀ c ∈ x.cps.toList, 97 ≤ c ∧ c ≤ 122
theorem low_ok {x : Str} (h : lowS x) : PyData.strOk x = true := by
  unfold PyData.strOk
  rw [Array.all_eq_true']
  intro c hc
  have := h c (by simpa using hc)
  exact decide_eq_true (by omega)
/-- a word as it is drawn -/
def NmB (x : Str) : Prop := (4 ≤ x.length ∧ x.length ≤ 8) ∧ lowS x ∧ x ≠ Str.ofString "some" ∧ x ≠ Str.ofString "floor" ∧ x ≠ Str.ofString "under" ∧ x ≠ Str.ofString "leaves"
/-- names of variables as they are handed about -/
def NsB (ns : List Str) : Prop := ns.length ≤ 1000 ∧ ∀ x ∈ ns, lowS x ∧ 0 < x.length ∧ x.length ≤ 8
theorem NsB.plain {ns : List Str} (h : NsB ns) : okD (.lst (ns.map .str)) := by
  have key : ∀ l : List Str, (∀ x ∈ l, lowS x) → plains (l.map D.str) = true := by
    intro l
    induction l with
    | nil => intro _; rfl
    | cons x l ih =>
      intro hl
      show (PyData.strOk x && plains (l.map D.str)) = true
      rw [low_ok (hl x List.mem_cons_self), ih fun y hy => hl y (List.mem_cons_of_mem _ hy)]
      rfl
  have dp : ∀ l : List Str, depL (l.map D.str) = 0 := by
    intro l
    induction l with
    | nil => rfl
    | cons x l ih => show max 0 (depL (l.map D.str)) = 0; rw [ih]; rfl
  exact ⟨key ns fun x hx => (h.2 x hx).1, by show depL (ns.map D.str) + 1 ≤ 60; rw [dp]; decide⟩
theorem eqL_nil (l : List D) : eqD (.lst l) (.lst []) = l.isEmpty := by cases l <;> rfl
theorem emp_okL : okD (.lst []) := ⟨rfl, by decide⟩
/-- terms with floors at most so deep -/
def GenT (ns : List Str) : Nat → Tm → Prop
  | _, .con c => -1000 ≤ c ∧ c ≤ 1000
  | n, .nm f x r => (f ≠ 0 ∧ -9 ≤ f ∧ f ≤ 9) ∧ x ∈ ns ∧ GenT ns n r
  | n, .fl f i j k t r => (f ≠ 0 ∧ -9 ≤ f ∧ f ≤ 9) ∧ SlB i j k ∧ 0 < n ∧ (GenT ns (n - 1) t ∧ t.cnt ≤ 4) ∧ GenT ns n r
def GenC (ns : List Str) (n : Nat) (t : Tm) : Prop := GenT ns n t ∧ t.cnt ≤ 4
/-- an item -/
inductive It where
  | nm (f : Int) (x : Str)
  | fl (f i j k : Int) (t : Tm)
def It.d : It → D
  | .nm f x => .tup [.int f, .str x]
  | .fl f i j k t => .tup [.int f, .tup [.str "floor", .tup [.int i, .int j, .int k], t.d]]
def It.gen (ns : List Str) (n : Nat) : It → Prop
  | .nm f x => (f ≠ 0 ∧ -9 ≤ f ∧ f ≤ 9) ∧ x ∈ ns
  | .fl f i j k t => (f ≠ 0 ∧ -9 ≤ f ∧ f ≤ 9) ∧ SlB i j k ∧ 0 < n ∧ GenC ns (n - 1) t
def mkT : List It → Int → Tm
  | [], c => .con c
  | .nm f x :: l, c => .nm f x (mkT l c)
  | .fl f i j k t :: l, c => .fl f i j k t (mkT l c)
theorem mkT_its : ∀ (l : List It) (c : Int), (mkT l c).its = l.map It.d
  | [], _ => rfl
  | .nm f x :: l, c => by show _ :: (mkT l c).its = _; rw [mkT_its l c]; rfl
  | .fl f i j k t :: l, c => by show _ :: (mkT l c).its = _; rw [mkT_its l c]; rfl
theorem mkT_c : ∀ (l : List It) (c : Int), (mkT l c).c = c
  | [], _ => rfl
  | .nm f x :: l, c => mkT_c l c
  | .fl f i j k t :: l, c => mkT_c l c
theorem mkT_d (l : List It) (c : Int) : (mkT l c).d = .tup [.tup (l.map It.d), .int c] := by unfold Tm.d; rw [mkT_its, mkT_c]
theorem mkT_cnt : ∀ (l : List It) (c : Int), (mkT l c).cnt = l.length
  | [], _ => rfl
  | .nm f x :: l, c => by show (mkT l c).cnt + 1 = _; rw [mkT_cnt l c]; rfl
  | .fl f i j k t :: l, c => by show (mkT l c).cnt + 1 = _; rw [mkT_cnt l c]; rfl
theorem mkT_gen {ns : List Str} {n : Nat} {c : Int} (hc : -1000 ≤ c ∧ c ≤ 1000) : ∀ {l : List It}, (∀ x ∈ l, x.gen ns n) → GenT ns n (mkT l c)
  | [], _ => hc
  | .nm f x :: l, h => ⟨(h _ List.mem_cons_self).1, (h _ List.mem_cons_self).2, mkT_gen hc fun y hy => h y (List.mem_cons_of_mem _ hy)⟩
  | .fl f i j k t :: l, h => by
    obtain ⟨h1, h2, h3, h4⟩ := h _ List.mem_cons_self
    exact ⟨h1, h2, h3, h4, mkT_gen hc fun y hy => h y (List.mem_cons_of_mem _ hy)⟩
theorem fig_small {i : Int} (h : -100000 ≤ i ∧ i ≤ 100000) : Fig 60 i := Nat.lt_of_le_of_lt (m := 100000) (by omega) (by decide +kernel)
theorem SlB.fig {i j m : Int} (h : SlB i j m) : Fig 60 i ∧ Fig 60 j ∧ Fig 60 m := by
  obtain ⟨⟨h1, h2⟩, ⟨h3, h4⟩, h5, h6⟩ := h
  exact ⟨fig_small (by omega), fig_small (by omega), fig_small (by omega)⟩
theorem GenT.ok {ns : List Str} (hn : NsB ns) : ∀ {n : Nat} {t : Tm}, GenT ns n t → t.ok
  | _, .con c, h => fig_small (by have := h.1; have := h.2; omega)
  | n, .nm f x r, h => by
    obtain ⟨⟨h0, h1, h2⟩, h3, h4⟩ := h
    exact ⟨fig_small (by omega), ⟨(hn.2 x h3).2.1, low_ok (hn.2 x h3).1⟩, GenT.ok hn (t := r) h4⟩
  | n, .fl f i j k t r, h => by
    obtain ⟨⟨h0, h1, h2⟩, h3, _, h4, h5⟩ := h
    exact ⟨fig_small (by omega), h3.fig.1, h3.fig.2.1, h3.fig.2.2, GenT.ok hn (t := t) h4.1, GenT.ok hn (t := r) h5⟩
theorem GenT.dp {ns : List Str} : ∀ {n : Nat} {t : Tm}, GenT ns n t → t.dp ≤ n
  | _, .con c, h => Nat.zero_le _
  | n, .nm f x r, h => GenT.dp (t := r) h.2.2
  | n, .fl f i j k t r, h => by
    obtain ⟨_, _, h0, h4, h5⟩ := h
    have := GenT.dp (t := t) h4.1
    have := GenT.dp (t := r) h5
    simp only [Tm.dp]
    omega
theorem GenT.mono {ns : List Str} : ∀ {m n : Nat} {t : Tm}, GenT ns m t → m ≤ n → GenT ns n t
  | _, _, .con c, h, _ => h
  | m, n, .nm f x r, h, hn => ⟨h.1, h.2.1, GenT.mono (t := r) h.2.2 hn⟩
  | m, n, .fl f i j k t r, h, hn => by
    obtain ⟨h1, h2, h3, h4, h5⟩ := h
    exact ⟨h1, h2, by omega, ⟨GenT.mono (t := t) h4.1 (by omega), h4.2⟩, GenT.mono (t := r) h5 hn⟩
/-- how large a term can be -/
def szB : Nat → Nat
  | 0 => 70 + 4 * 78
  | n + 1 => 70 + 4 * (300 + szB n)
theorem szB_ge (n : Nat) : 382 ≤ szB n := by cases n <;> simp only [szB] <;> omega
theorem GenT.sz {ns : List Str} (hn : NsB ns) : ∀ {n : Nat} {t : Tm}, GenT ns n t → t.cnt ≤ 4 → t.sz ≤ szB n
  | n, t, h, hc => by
    have key : ∀ (t : Tm), GenT ns n t → t.sz ≤ 70 + t.cnt * (match n with | 0 => 78 | m + 1 => 300 + szB m) := by
      intro t
      induction t with
      | con c => intro _; simp only [Tm.sz, Tm.cnt]; omega
      | nm f x r ih =>
        intro h
        have h1 := ih h.2.2
        have h2 := (hn.2 x h.2.1).2.2
        simp only [Tm.sz, Tm.cnt, Nat.succ_mul]
        cases n with
        | zero => simp only [] at h1 ⊢; omega
        | succ m => have := szB_ge m; simp only [] at h1 ⊢; omega
      | fl f i j k t r iht ihr =>
        intro h
        obtain ⟨_, _, h0, h4, h5⟩ := h
        have h1 := ihr h5
        simp only [Tm.sz, Tm.cnt, Nat.succ_mul]
        cases n with
        | zero => omega
        | succ m =>
          have h2 := GenT.sz hn (n := m) h4.1 h4.2
          simp only [] at h1 ⊢
          omega
    have h1 := key t h
    cases n with
    | zero => simp only [] at h1; simp only [szB]; omega
    | succ m =>
      have : t.cnt * (300 + szB m) ≤ 4 * (300 + szB m) := Nat.mul_le_mul_right _ hc
      simp only [] at h1
      simp only [szB]
      omega
theorem szB_mono {m n : Nat} (h : m ≤ n) : szB m ≤ szB n := by
  have step : ∀ n, szB n ≤ szB (n + 1) := by
    intro n
    induction n with
    | zero => simp only [szB]; omega
    | succ n ih => simp only [szB] at ih ⊢; omega
  induction h with
  | refl => exact Nat.le_refl _
  | step _ ih => exact Nat.le_trans ih (step _)
/-! ### sayings -/
mutual
/-- sayings over the free names, the names that may be bound, so deep -/
def GenS : List Str → List Str → Nat → Sy → Prop
  | ns, _, _, .eq _ a b => GenC ns 3 a ∧ GenC ns 1 b
  | ns, _, _, .un a i j k b => GenC ns 3 a ∧ SlB i j k ∧ GenC ns 1 b
  | ns, _, _, .lv a m r => GenC ns 3 a ∧ (2 ≤ m ∧ m ≤ 9) ∧ 0 ≤ r ∧ r < m
  | ns, _, _, .us x ys => NmB x ∧ ys.length ≤ 3 ∧ ∀ y ∈ ys, y ∈ ns
  | ns, bs, n, .nt s => 0 < n ∧ GenS ns bs (n - 1) s
  | ns, bs, n, .qf _ x s => 0 < n ∧ bs ≠ [] ∧ x = bs.headD Str.empty ∧ GenS (ns ++ [x]) bs.tail (n - 1) s
  | ns, bs, n, .gr _ ps => 0 < n ∧ (2 ≤ ps.len ∧ ps.len ≤ 3) ∧ GenSs ns bs (n - 1) ps
def GenSs : List Str → List Str → Nat → Sys → Prop
  | _, _, _, .nil => True
  | ns, bs, n, .cons s r => GenS ns bs n s ∧ GenSs ns bs n r
end
def NbB (ns bs : List Str) : Prop := NsB (ns ++ bs)
theorem NbB.l {ns bs : List Str} (h : NbB ns bs) : NsB ns := ⟨by have := h.1; rw [List.length_append] at this; omega, fun x hx => h.2 x (List.mem_append_left _ hx)⟩
theorem NbB.r {ns bs : List Str} (h : NbB ns bs) : NsB bs := ⟨by have := h.1; rw [List.length_append] at this; omega, fun x hx => h.2 x (List.mem_append_right _ hx)⟩
theorem NbB.step {ns bs : List Str} (h : NbB ns bs) (hb : bs ≠ []) : NbB (ns ++ [bs.headD Str.empty]) bs.tail := by
  cases bs with
  | nil => exact absurd rfl hb
  | cons b bs => show NsB ((ns ++ [b]) ++ bs); rw [List.append_assoc]; exact h
mutual
theorem GenS.ok : ∀ {ns bs : List Str} {n : Nat} {s : Sy}, NbB ns bs → GenS ns bs n s → s.ok
  | ns, bs, n, .eq _ a b, hn, h => ⟨GenT.ok hn.l h.1.1, GenT.ok hn.l h.2.1⟩
  | ns, bs, n, .un a i j k b, hn, h => ⟨GenT.ok hn.l h.1.1, h.2.1.fig.1, h.2.1.fig.2.1, h.2.1.fig.2.2, GenT.ok hn.l h.2.2.1⟩
  | ns, bs, n, .lv a m r, hn, h => by
    obtain ⟨h1, h2, h3, h4⟩ := h
    exact ⟨GenT.ok hn.l h1.1, fig_small (by omega), fig_small (by omega)⟩
  | ns, bs, n, .us x ys, hn, h => trivial
  | ns, bs, n, .nt s, hn, h => GenS.ok (s := s) hn h.2
  | ns, bs, n, .qf _ x s, hn, h => by
    obtain ⟨_, h1, rfl, h3⟩ := h
    exact GenS.ok (s := s) (hn.step h1) h3
  | ns, bs, n, .gr _ ps, hn, h => GenSs.ok (ps := ps) hn h.2.2
theorem GenSs.ok : ∀ {ns bs : List Str} {n : Nat} {ps : Sys}, NbB ns bs → GenSs ns bs n ps → ps.ok
  | _, _, _, .nil, _, _ => trivial
  | ns, bs, n, .cons s r, hn, h => ⟨GenS.ok (s := s) hn h.1, GenSs.ok (ps := r) hn h.2⟩
end
mutual
theorem GenS.dp : ∀ {ns bs : List Str} {n : Nat} {s : Sy}, GenS ns bs n s → s.dp ≤ n ∧ s.tdp ≤ 3
  | ns, bs, n, .eq _ a b, h => ⟨Nat.zero_le _, by have := h.1.1.dp; have := h.2.1.dp; simp only [Sy.tdp]; omega⟩
  | ns, bs, n, .un a i j k b, h => ⟨Nat.zero_le _, by have := h.1.1.dp; have := h.2.2.1.dp; simp only [Sy.tdp]; omega⟩
  | ns, bs, n, .lv a m r, h => ⟨Nat.zero_le _, h.1.1.dp⟩
  | ns, bs, n, .us x ys, h => ⟨Nat.zero_le _, Nat.zero_le _⟩
  | ns, bs, n, .nt s, h => by have := GenS.dp (s := s) h.2; have := h.1; simp only [Sy.dp, Sy.tdp]; omega
  | ns, bs, n, .qf _ x s, h => by
    obtain ⟨h0, h1, rfl, h3⟩ := h
    have := GenS.dp (s := s) h3
    simp only [Sy.dp, Sy.tdp]; omega
  | ns, bs, n, .gr _ ps, h => by have := GenSs.dp (ps := ps) h.2.2; have := h.1; simp only [Sy.dp, Sy.tdp]; omega
theorem GenSs.dp : ∀ {ns bs : List Str} {n : Nat} {ps : Sys}, GenSs ns bs n ps → ps.dp ≤ n ∧ ps.tdp ≤ 3
  | _, _, _, .nil, _ => ⟨Nat.zero_le _, Nat.zero_le _⟩
  | ns, bs, n, .cons s r, h => by
    have := GenS.dp (s := s) h.1
    have := GenSs.dp (ps := r) h.2
    simp only [Sys.dp, Sys.tdp]; omega
end
/-- how large a saying can be -/
def ssB : Nat → Nat
  | 0 => 200000
  | n + 1 => 3 * ssB n + 100
mutual
theorem GenS.sz : ∀ {ns bs : List Str} {n : Nat} {s : Sy}, NbB ns bs → GenS ns bs n s → s.sz ≤ ssB n
  | ns, bs, n, .eq _ a b, hn, h => by
    have h1 := GenT.sz hn.l h.1.1 h.1.2
    have h2 := GenT.sz hn.l h.2.1 h.2.2
    have h3 := ssB_ge n
    have e3 : szB 3 = 51118 := by decide
    have e1 : szB 1 = 2798 := by decide
    simp only [Sy.sz]; omega
  | ns, bs, n, .un a i j k b, hn, h => by
    have h1 := GenT.sz hn.l h.1.1 h.1.2
    have h2 := GenT.sz hn.l h.2.2.1 h.2.2.2
    have h3 := ssB_ge n
    have e3 : szB 3 = 51118 := by decide
    have e1 : szB 1 = 2798 := by decide
    simp only [Sy.sz]; omega
  | ns, bs, n, .lv a m r, hn, h => by
    have h1 := GenT.sz hn.l h.1.1 h.1.2
    have h3 := ssB_ge n
    have e3 : szB 3 = 51118 := by decide
    simp only [Sy.sz]; omega
  | ns, bs, n, .us x ys, hn, h => by
    obtain ⟨h1, h2, h4⟩ := h
    have h3 := ssB_ge n
    have key : ∀ l : List Str, (∀ y ∈ l, y ∈ ns) → (l.map (·.length)).sum ≤ 8 * l.length := by
      intro l
      induction l with
      | nil => intro _; exact Nat.le_refl _
      | cons y l ih =>
        intro hl
        have g1 := ih fun z hz => hl z (List.mem_cons_of_mem _ hz)
        have g2 := (hn.l.2 y (hl y List.mem_cons_self)).2.2
        simp only [List.map_cons, List.sum_cons, List.length_cons]
        omega
    have := key ys h4
    have := h1.1.2
    simp only [Sy.sz, namesL]; omega
  | ns, bs, n, .nt s, hn, h => by
    have h1 := GenS.sz (s := s) hn h.2
    obtain ⟨m, rfl⟩ : ∃ m, n = m + 1 := ⟨n - 1, by have := h.1; omega⟩
    have h3 := ssB_ge m
    simp only [Sy.sz, ssB, Nat.add_sub_cancel] at *; omega
  | ns, bs, n, .qf _ x s, hn, h => by
    obtain ⟨h0, h1, e, h3⟩ := h
    obtain ⟨m, rfl⟩ : ∃ m, n = m + 1 := ⟨n - 1, by omega⟩
    subst e
    have h4 := GenS.sz (s := s) (hn.step h1) h3
    have h5 := ssB_ge m
    have h6 : (bs.headD Str.empty).length ≤ 8 := by
      cases bs with
      | nil => exact absurd rfl h1
      | cons b bs => exact (hn.r.2 b List.mem_cons_self).2.2
    simp only [Sy.sz, ssB, Nat.add_sub_cancel] at *; omega
  | ns, bs, n, .gr _ ps, hn, h => by
    obtain ⟨h0, ⟨_, h1⟩, h2⟩ := h
    obtain ⟨m, rfl⟩ : ∃ m, n = m + 1 := ⟨n - 1, by omega⟩
    have h4 := GenSs.sz (ps := ps) hn h2
    have : ps.len * (ssB m + 12) ≤ 3 * (ssB m + 12) := Nat.mul_le_mul_right _ h1
    simp only [Sy.sz, ssB, Nat.add_sub_cancel] at *; omega
theorem GenSs.sz : ∀ {ns bs : List Str} {n : Nat} {ps : Sys}, NbB ns bs → GenSs ns bs n ps → ps.sz ≤ ps.len * (ssB n + 12)
  | _, _, _, .nil, _, _ => Nat.zero_le _
  | ns, bs, n, .cons s r, hn, h => by
    have h1 := GenS.sz (s := s) hn h.1
    have h2 := GenSs.sz (ps := r) hn h.2
    simp only [Sys.sz, Sys.len, Nat.succ_mul]
    omega
theorem ssB_ge : ∀ n : Nat, 200000 ≤ ssB n
  | 0 => Nat.le_refl _
  | n + 1 => by have := ssB_ge n; simp only [ssB]; omega
end
theorem ssB_3 : ssB 3 = 5401300 := by decide
/-! ### words by their signs -/
def wd (l : List Nat) : Str := ⟨l.toArray⟩
def sgn (c : Nat) : Str := ⟨#[c]⟩
theorem wd_snoc (l : List Nat) (c : Nat) : wd (l ++ [c]) = wd l ++ sgn c := sx (by rw [cps_app]; simp [wd, sgn])
theorem join_chars : ∀ l : List Nat, Txt.join Str.empty (l.map sgn) = wd l := by
  have key : ∀ n, ∀ l : List Nat, l.length = n → Txt.join Str.empty (l.map sgn) = wd l := by
    intro n
    induction n with
    | zero => intro l hl; rw [List.eq_nil_of_length_eq_zero hl]; rfl
    | succ n ih =>
      intro l hl
      obtain ⟨a, c, rfl⟩ : ∃ a c, l = a ++ [c] := by
        cases h : l.reverse with
        | nil => rw [List.reverse_eq_nil_iff] at h; rw [h] at hl; cases hl
        | cons c r => exact ⟨r.reverse, c, by rw [← List.reverse_reverse l, h, List.reverse_cons]⟩
      rw [List.map_append, List.map_singleton, join_snoc, ih a (by simpa using hl), wd_snoc]
  exact fun l => key _ l rfl
theorem wd_len (l : List Nat) : (wd l).length = l.length := by simp [wd, Str.length]
theorem wd_low {l : List Nat} (h : ∀ c ∈ l, 97 ≤ c ∧ c ≤ 122) : lowS (wd l) := fun c hc => h c (by simpa [wd] using hc)
theorem sgn_len (c : Nat) : (sgn c).length = 1 := rfl
theorem sum_sgn (l : List Nat) : ((l.map sgn).map (·.length)).sum = l.length := by
  induction l with
  | nil => rfl
  | cons c l ih => rw [List.map_cons, List.map_cons, List.sum_cons, ih, sgn_len, List.length_cons, Nat.add_comm]
theorem rng_len (lo : Int) (n : Nat) : (rng lo n).length = n := by simp [rng]
end Q

set_option autoImplicit false
set_option linter.all false
/-! Gm: sayings in lists, what stands in them -/
namespace Q
open PySem L2
def mkS : List Sy → Sys
  | [] => .nil
  | s :: l => .cons s (mkS l)
theorem mkS_ds : ∀ l : List Sy, (mkS l).ds = l.map Sy.d
  | [] => rfl
  | s :: l => by show s.d :: (mkS l).ds = _; rw [mkS_ds l]; rfl
theorem mkS_len : ∀ l : List Sy, (mkS l).len = l.length
  | [] => rfl
  | s :: l => by show (mkS l).len + 1 = _; rw [mkS_len l]; rfl
theorem mkS_gen {ns bs : List Str} {n : Nat} : ∀ {l : List Sy}, (∀ x ∈ l, GenS ns bs n x) → GenSs ns bs n (mkS l)
  | [], _ => trivial
  | s :: l, h => ⟨h _ List.mem_cons_self, mkS_gen fun y hy => h y (List.mem_cons_of_mem _ hy)⟩
def Sys.ls : Sys → List Sy
  | .nil => []
  | .cons s r => s :: r.ls
theorem Sys.ds_ls : ∀ ps : Sys, ps.ds = ps.ls.map Sy.d
  | .nil => rfl
  | .cons s r => by show s.d :: r.ds = _; rw [Sys.ds_ls r]; rfl
theorem Sys.ls_len : ∀ ps : Sys, ps.ls.length = ps.len
  | .nil => rfl
  | .cons s r => by show r.ls.length + 1 = r.len + 1; rw [Sys.ls_len r]
/-- the sayings that stand in one -/
def Sy.inn : Sy → List Sy
  | .nt s => [s]
  | .qf _ _ s => [s]
  | .gr _ ps => ps.ls
  | _ => []
mutual
/-- how many sayings -/
def Sy.cnt : Sy → Nat
  | .nt s => s.cnt + 1
  | .qf _ _ s => s.cnt + 1
  | .gr _ ps => ps.cnt + 1
  | _ => 1
def Sys.cnt : Sys → Nat
  | .nil => 0
  | .cons s r => s.cnt + r.cnt
end
theorem Sys.cnt_ls : ∀ ps : Sys, ps.cnt = (ps.ls.map Sy.cnt).sum
  | .nil => rfl
  | .cons s r => by show s.cnt + r.cnt = _; rw [Sys.cnt_ls r]; rfl
theorem Sy.cnt_inn (s : Sy) : s.cnt = (s.inn.map Sy.cnt).sum + 1 := by
  cases s with
  | nt s => simp [Sy.cnt, Sy.inn]
  | qf a x s => simp [Sy.cnt, Sy.inn]
  | gr o ps => simp [Sy.cnt, Sy.inn, Sys.cnt_ls]
  | eq => rfl
  | un => rfl
  | lv => rfl
  | us => rfl
theorem Sy.cnt_pos (s : Sy) : 0 < s.cnt := by rw [Sy.cnt_inn]; omega
theorem cnt_len : ∀ l : List Sy, l.length ≤ (l.map Sy.cnt).sum
  | [] => Nat.le_refl _
  | s :: l => by have := cnt_len l; have := s.cnt_pos; simp only [List.length_cons, List.map_cons, List.sum_cons]; omega
def cntB : Nat → Nat
  | 0 => 1
  | n + 1 => 3 * cntB n + 1
theorem cntB_pos : ∀ n, 1 ≤ cntB n
  | 0 => Nat.le_refl _
  | n + 1 => by simp only [cntB]; omega
mutual
theorem GenS.cnt : ∀ {ns bs : List Str} {n : Nat} {s : Sy}, GenS ns bs n s → s.cnt ≤ cntB n
  | _, _, n, .eq _ _ _, _ => cntB_pos n
  | _, _, n, .un _ _ _ _ _, _ => cntB_pos n
  | _, _, n, .lv _ _ _, _ => cntB_pos n
  | _, _, n, .us _ _, _ => cntB_pos n
  | ns, bs, n, .nt s, h => by
    have h1 := GenS.cnt (s := s) h.2
    obtain ⟨m, rfl⟩ : ∃ m, n = m + 1 := ⟨n - 1, by have := h.1; omega⟩
    simp only [Sy.cnt, cntB, Nat.add_sub_cancel] at *; omega
  | ns, bs, n, .qf _ x s, h => by
    obtain ⟨h0, _, _, h3⟩ := h
    have h1 := GenS.cnt (s := s) h3
    obtain ⟨m, rfl⟩ : ∃ m, n = m + 1 := ⟨n - 1, by omega⟩
    simp only [Sy.cnt, cntB, Nat.add_sub_cancel] at *; omega
  | ns, bs, n, .gr _ ps, h => by
    obtain ⟨h0, ⟨_, h1⟩, h2⟩ := h
    have h4 := GenSs.cnt (ps := ps) h2
    obtain ⟨m, rfl⟩ : ∃ m, n = m + 1 := ⟨n - 1, by omega⟩
    have : ps.len * cntB m ≤ 3 * cntB m := Nat.mul_le_mul_right _ h1
    simp only [Sy.cnt, cntB, Nat.add_sub_cancel] at *; omega
theorem GenSs.cnt : ∀ {ns bs : List Str} {n : Nat} {ps : Sys}, GenSs ns bs n ps → ps.cnt ≤ ps.len * cntB n
  | _, _, _, .nil, _ => Nat.zero_le _
  | ns, bs, n, .cons s r, h => by
    have h1 := GenS.cnt (s := s) h.1
    have h2 := GenSs.cnt (ps := r) h.2
    simp only [Sys.cnt, Sys.len, Nat.succ_mul]; omega
end
mutual
theorem GenS.mono : ∀ {ns bs : List Str} {m n : Nat} {s : Sy}, GenS ns bs m s → m ≤ n → GenS ns bs n s
  | _, _, _, _, .eq _ _ _, h, _ => h
  | _, _, _, _, .un _ _ _ _ _, h, _ => h
  | _, _, _, _, .lv _ _ _, h, _ => h
  | _, _, _, _, .us _ _, h, _ => h
  | ns, bs, m, n, .nt s, h, hm => ⟨Nat.lt_of_lt_of_le h.1 hm, GenS.mono (s := s) h.2 (by omega)⟩
  | ns, bs, m, n, .qf _ x s, h, hm => by
    obtain ⟨h0, h1, h2, h3⟩ := h
    exact ⟨by omega, h1, h2, GenS.mono (s := s) h3 (by omega)⟩
  | ns, bs, m, n, .gr _ ps, h, hm => by
    obtain ⟨h0, h1, h2⟩ := h
    exact ⟨by omega, h1, GenSs.mono (ps := ps) h2 (by omega)⟩
theorem GenSs.mono : ∀ {ns bs : List Str} {m n : Nat} {ps : Sys}, GenSs ns bs m ps → m ≤ n → GenSs ns bs n ps
  | _, _, _, _, .nil, _, _ => trivial
  | ns, bs, m, n, .cons s r, h, hm => ⟨GenS.mono (s := s) h.1 hm, GenSs.mono (ps := r) h.2 hm⟩
end
/-! ### plain -/
def Sy.pln (s : Sy) : Prop := plain s.d = true ∧ dep s.d ≤ 40
theorem ok_eqw (l : Bool) : PyData.strOk (if l then "less" else "equal" : Str) = true := by cases l <;> decide +kernel
theorem ok_qfw (l : Bool) : PyData.strOk (if l then "all" else "some" : Str) = true := by cases l <;> decide +kernel
theorem ok_grw (l : Bool) : PyData.strOk (if l then "or" else "and" : Str) = true := by cases l <;> decide +kernel
theorem Tm.plainD {t : Tm} (h : t.ok) : Q.plain t.d = true := by
  have := Tm.plain h
  simp only [Tm.d, Q.plain, plains, this, Bool.and_self]
theorem Tm.depD (t : Tm) : dep t.d ≤ 4 * t.dp + 3 := by
  have := t.deep
  simp only [Tm.d, dep, depL]; omega
theorem strs_plain : ∀ {l : List Str}, (∀ x ∈ l, PyData.strOk x = true) → plains (l.map D.str) = true
  | [], _ => rfl
  | x :: l, h => by
    show (PyData.strOk x && plains (l.map D.str)) = true
    rw [h x List.mem_cons_self, strs_plain fun y hy => h y (List.mem_cons_of_mem _ hy)]
    rfl
theorem strs_dep : ∀ l : List Str, depL (l.map D.str) = 0
  | [] => rfl
  | x :: l => by show max 0 (depL (l.map D.str)) = 0; rw [strs_dep l]; rfl
mutual
theorem GenS.plain : ∀ {ns bs : List Str} {n : Nat} {s : Sy}, NbB ns bs → GenS ns bs n s → Q.plain s.d = true ∧ dep s.d ≤ 17 + n
  | ns, bs, n, .eq l a b, hn, h => by
    have h1 := Tm.plainD (h.1.1.ok hn.l)
    have h2 := Tm.plainD (h.2.1.ok hn.l)
    have h3 := a.depD
    have h4 := b.depD
    have h5 := h.1.1.dp
    have h6 := h.2.1.dp
    simp only [Sy.d, Q.plain, plains, dep, depL, h1, h2, ok_eqw, Bool.and_self, true_and]; omega
  | ns, bs, n, .un a i j k b, hn, h => by
    obtain ⟨g1, g2, g3⟩ := h
    have h1 := Tm.plainD (g1.1.ok hn.l)
    have h2 := Tm.plainD (g3.1.ok hn.l)
    have h3 := a.depD
    have h4 := b.depD
    have h5 := g1.1.dp
    have h6 := g3.1.dp
    have e3 : PyData.strOk ("under" : Str) = true := by decide +kernel
    simp only [Sy.d, Q.plain, plains, dep, depL, h1, h2, e3, Bool.and_self, true_and]; omega
  | ns, bs, n, .lv a m r, hn, h => by
    obtain ⟨g1, g2, g3⟩ := h
    have h1 := Tm.plainD (g1.1.ok hn.l)
    have h3 := a.depD
    have h5 := g1.1.dp
    have e3 : PyData.strOk ("leaves" : Str) = true := by decide +kernel
    simp only [Sy.d, Q.plain, plains, dep, depL, h1, e3, Bool.and_self, true_and]; omega
  | ns, bs, n, .us x ys, hn, h => by
    obtain ⟨g1, g2, g3⟩ := h
    have e3 : PyData.strOk ("use" : Str) = true := by decide +kernel
    have e4 : PyData.strOk x = true := low_ok g1.2.1
    have e5 : plains (ys.map D.str) = true := strs_plain fun y hy => low_ok (hn.l.2 y (g3 y hy)).1
    have e6 := strs_dep ys
    simp only [Sy.d, Q.plain, plains, dep, depL, e3, e4, e5, e6, Bool.and_self, true_and]; omega
  | ns, bs, n, .nt s, hn, h => by
    have h1 := GenS.plain (s := s) hn h.2
    have h0 := h.1
    have e3 : PyData.strOk ("not" : Str) = true := by decide +kernel
    simp only [Sy.d, Q.plain, plains, dep, depL, e3, h1.1, Bool.and_self, true_and]; omega
  | ns, bs, n, .qf a x s, hn, h => by
    obtain ⟨h0, h1, e, h3⟩ := h
    subst e
    have h4 := GenS.plain (s := s) (hn.step h1) h3
    have h6 : PyData.strOk (bs.headD Str.empty) = true := by
      cases bs with
      | nil => exact absurd rfl h1
      | cons b bs => exact low_ok (hn.r.2 b List.mem_cons_self).1
    simp only [Sy.d, Q.plain, plains, dep, depL, ok_qfw, h6, h4.1, Bool.and_self, true_and]; omega
  | ns, bs, n, .gr o ps, hn, h => by
    obtain ⟨h0, _, h2⟩ := h
    have h4 := GenSs.plain (ps := ps) hn h2
    simp only [Sy.d, Q.plain, plains, dep, depL, ok_grw, h4.1, Bool.and_self, true_and]; omega
theorem GenSs.plain : ∀ {ns bs : List Str} {n : Nat} {ps : Sys}, NbB ns bs → GenSs ns bs n ps → plains ps.ds = true ∧ depL ps.ds ≤ 17 + n
  | _, _, _, .nil, _, _ => ⟨rfl, Nat.zero_le _⟩
  | ns, bs, n, .cons s r, hn, h => by
    have h1 := GenS.plain (s := s) hn h.1
    have h2 := GenSs.plain (ps := r) hn h.2
    simp only [Sys.ds, plains, depL, h1.1, h2.1, Bool.and_self, true_and]; omega
end
theorem plains_mem : ∀ {ds : List D}, plains ds = true → ∀ d ∈ ds, plain d = true
  | [], _, d, h => by cases h
  | e :: ds, hp, d, h => by
    have hp : (plain e && plains ds) = true := hp
    rw [Bool.and_eq_true] at hp
    rcases List.mem_cons.mp h with rfl | h
    · exact hp.1
    · exact plains_mem hp.2 d h
theorem depL_mem : ∀ {ds : List D} {d : D}, d ∈ ds → dep d ≤ depL ds
  | e :: ds, d, h => by
    rcases List.mem_cons.mp h with rfl | h
    · exact Nat.le_max_left _ _
    · exact Nat.le_trans (depL_mem h) (Nat.le_max_right _ _)
theorem plains_of : ∀ {ds : List D}, (∀ d ∈ ds, plain d = true) → plains ds = true
  | [], _ => rfl
  | e :: ds, h => by
    show (plain e && plains ds) = true
    rw [h e List.mem_cons_self, plains_of fun d hd => h d (List.mem_cons_of_mem _ hd)]
    rfl
theorem depL_of {n : Nat} : ∀ {ds : List D}, (∀ d ∈ ds, dep d ≤ n) → depL ds ≤ n
  | [], _ => Nat.zero_le _
  | e :: ds, h => Nat.max_le.mpr ⟨h e List.mem_cons_self, depL_of fun d hd => h d (List.mem_cons_of_mem _ hd)⟩
theorem inn_pln {s : Sy} (h : s.pln) : ∀ t ∈ s.inn, t.pln := by
  intro t ht
  obtain ⟨hp, hd⟩ := h
  cases s with
  | nt s =>
    rw [show t = s from List.mem_singleton.mp ht]
    have hp : (PyData.strOk _ && (plain s.d && true)) = true := hp
    rw [Bool.and_true, Bool.and_eq_true] at hp
    exact ⟨hp.2, by simp only [Sy.d, dep, depL] at hd; omega⟩
  | qf a x s =>
    rw [show t = s from List.mem_singleton.mp ht]
    have hp : (PyData.strOk _ && (PyData.strOk _ && (plain s.d && true))) = true := hp
    rw [Bool.and_true, Bool.and_eq_true, Bool.and_eq_true] at hp
    exact ⟨hp.2.2, by simp only [Sy.d, dep, depL] at hd; omega⟩
  | gr o ps =>
    have ht : t ∈ ps.ls := ht
    have hm : t.d ∈ ps.ds := by rw [Sys.ds_ls]; exact List.mem_map_of_mem ht
    have hp : (PyData.strOk _ && plains ps.ds) = true := hp
    rw [Bool.and_eq_true] at hp
    have hd : depL (_ :: ps.ds) + 1 ≤ 40 := hd
    have := depL_mem hm
    exact ⟨plains_mem hp.2 _ hm, by simp only [depL] at hd; omega⟩
  | eq => cases ht
  | un => cases ht
  | lv => cases ht
  | us => cases ht
theorem pln_list {l : List Sy} (h : ∀ s ∈ l, s.pln) : okD (.lst (l.map Sy.d)) := by
  refine ⟨plains_of fun d hd => ?_, ?_⟩
  · obtain ⟨s, hs, rfl⟩ := List.mem_map.mp hd
    exact (h s hs).1
  · have : depL (l.map Sy.d) ≤ 40 := depL_of fun d hd => by
      obtain ⟨s, hs, rfl⟩ := List.mem_map.mp hd
      exact (h s hs).2
    show depL (l.map Sy.d) + 1 ≤ 60
    omega
end Q

set_option autoImplicit false
set_option linter.all false
/-! Lw: a law's body, behind the making of its bag -/
namespace Q
open PySem L2 PyProof.Rows
open RF (Df)
def spLaw (K : PySem.W.Frag) : Sp := fun vs H Q _ => ∃ (a : Addr) (ns : List Int), vs = [.ref a] ∧ SqL K H a (ns.map V.int) ∧ ns.length ≤ 63 ∧ ∀ H', Q (.bl true) H'
/-- statements by whatever reading of them there is -/
def tAny (X : Cx) (sts : List Stmt) : TS := fun D σ H => ∃ t, PSs X sts t ∧ t D σ H
theorem pss_any {X : Cx} {sts : List Stmt} : PSs X sts (tAny X sts) := ⟨fun pins s σ H D I ⟨t, h, q⟩ => h.run pins s σ H D I q⟩
def startLaw (N : List Str) : Ev := none :: some (.fz .bag) :: List.replicate (N.length - 2) none
theorem fn_law {P : Program} {wd : World} {K : PySem.W.Frag} {mg : Str → Option Value} {base : Heap} {st st1 : Stmt} {f : Addr} {fd : FuncData} {N : List Str} {j : Nat} {rest : List Stmt} (F : Fun K "law" "law" st f fd) (Sc : FnScope N ["_law_script"] (defScope st))
    (hb : defBody st = st1 :: rest) (hl : 2 ≤ N.length)
    (hbody : ∀ (cdv : Value) (A : Around) (outer : List Env) (s : Shared) (H : Hp) (E : XK), Room j (A.deeper (envOfC "law" (defScope st) s.heap.objs.size f cdv)) →
      PS (cxOf CX0 P wd K mg base N "law" (defScope st) f cdv A outer s H E).nox st1 (tAsg (tCall (RF.spBag K) [] E0 (tCons (tVar 0) tNil)) (gName 1)) ∧
      ∀ (C : Cxt), Fit (cxOf CX0 P wd K mg base N "law" (defScope st) f cdv A outer s H E).nox C → C.ub = true →
      ∃ t w, QSs (cxOf CX0 P wd K mg base N "law" (defScope st) f cdv A outer s H E).nox C rest t w ∧ w { nx := fun _ => False, rt := fun x => x = .fz (.bl true) } (startLaw N)) : FnOk P wd K mg base CX0 (j + 1) f fd ["_law_script"] (spLaw K) := by
  refine F.ok Sc (fun vs H Q E h => by obtain ⟨a, ns, rfl, _⟩ := h; rfl) (fun cdv A outer s H vs Q E hr h => ?_)
  obtain ⟨a, ns, rfl, hS, h63, q⟩ := h
  obtain ⟨p1, hrest⟩ := hbody cdv A outer s H E hr
  rw [hb]
  refine ⟨_, pss_cons p1 pss_any, ?_⟩
  obtain ⟨m, em⟩ : ∃ m, N.length = m + 2 := ⟨N.length - 2, by omega⟩
  have e0 : L2.start N [V.ref a] = some (.ref a) :: none :: List.replicate m none := by
    unfold L2.start
    rw [em]
    rfl
  have e1 : startLaw N = none :: some (.fz .bag) :: List.replicate m none := by
    unfold startLaw
    rw [em]
    rfl
  rw [e0]
  refine ⟨_, rfl, a, ns, rfl, hS, h63, fun b H' hb0 B sm => ?_⟩
  obtain ⟨c, hB⟩ := B.here
  obtain ⟨t, w, hq, hw⟩ := hrest ⟨⟨K, mg, b, c⟩, true, [b, c], H', fun _ => False⟩ ⟨rfl, rfl⟩ rfl
  have st0 : Sta ⟨⟨K, mg, b, c⟩, true, [b, c], H', fun _ => False⟩ [] [] H' [b, c] := Sta.begin (fun x hx => by
    rcases List.mem_cons.mp hx with rfl | hx
    · obtain ⟨xs, h⟩ := hB.atB
      rw [h]; exact fun z => nomatch z
    · rw [List.mem_singleton.mp hx]
      obtain ⟨xs, h⟩ := hB.atC
      rw [h]; exact fun z => nomatch z) fun _ => ⟨hB, List.mem_cons_self, List.mem_cons_of_mem _ List.mem_cons_self⟩
  have st1 := ((st0.nones (m + 2)).blind (i := 0) (fun s e => by cases e) (some (.ref a))).blind (i := 1) (fun s e => by cases e) (some (.ref b))
  have st2 := st1.put 1 (some (.fz .bag)) (fun s e => by cases e; exact ⟨.ref b, rfl, rfl⟩) (fun s v e o => by cases e; cases o)
  refine ⟨t, hq.ps, hq.ok (startLaw N) [] _ [] H' [b, c] _ _ ?_ ?_ hw ⟨fun ρ σ H1 S1 hl1 st' h' => h'.elim, fun ρ σ H1 S1 s v hl1 st' h' => ?_, fun _ _ _ _ _ _ h => h.elim, fun _ _ _ _ _ _ h => h.elim⟩⟩
  · rw [e1]; simp
  · rw [e1, List.append_nil, List.append_nil]
    exact st2
  · subst h'
    have ok := st'.last (by simpa using hl1)
    rw [show v = .bl true from ok]
    exact q _
end Q

namespace RF
open PySem L2
def top (i : Nat) : Stmt := PySem.Challenge.pw_rootfloor_k30_texts_of_terms_and_slopes.main.body.getD i (.Pass ⟨0, 0, 0, 0⟩)
abbrev sBag : Stmt := top 39
abbrev sPull : Stmt := top 40
structure TB (mg : Str → Option Value) : Prop where
  list : mg "list" = none
  len : mg "len" = none
  abs : mg "abs" = none
  int : mg "int" = none
section
variable {P : Program} {w : World} {K : PySem.W.Frag} {mg : Str → Option Value} {base : Heap}
theorem scBag : FnScope ["_law_script"] ["_law_script"] (defScope sBag) := ⟨rfl, rfl, rfl, by decide +kernel, rfl, by decide +kernel, by decide +kernel⟩
theorem ok_bag {f : Addr} {fd : FuncData} (F : Fun K "_law_bag" "_law_bag" sBag f fd) (T : TB mg) : FnOk P w K mg base CX0 1 f fd ["_law_script"] (spBag K) := by
  refine F.ok scBag (fun vs H Q E h => ?_) (fun cdv A outer s H vs Q E hr h => ?_)
  · obtain ⟨a, ns, rfl, _⟩ := h
    rfl
  · obtain ⟨a, ns, rfl, hS, hl, k⟩ := h
    refine ⟨_, pss_one (ps_ret (pe_lst (pa_cons (pe_callTy call_list_of (by rfl) T.list (by decide +kernel) (pa_cons (pe_slice sl_list (pv 0) po_none (po_some pe_int)) pa_nil)) (pa_cons pe_int (pa_cons pe_int (pa_cons pe_int pa_nil)))))), ?_⟩
    refine ⟨_, rfl, _, rfl, a, _, rfl, hS, fun p hp => ⟨p, _, rfl, .inl (SqL.of upd_same), fun l hl2 => ⟨by show 4 ≤ sizeLine; decide, fun q hq => ?_⟩⟩⟩
    obtain ⟨ms, e⟩ : ∃ ms : List Int, cutV (ns.map V.int) none (some 63) = ms.map V.int := ⟨_, by unfold cutV; rw [← List.map_drop, ← List.map_take]⟩
    have sm := sNew (o := .lst [.ref l, .int 0, .int 0, .int 3842]) (sNew (o := .lst (cutV (ns.map V.int) none (some 63))) (sNew (o := .lst (cutV (ns.map V.int) none (some 63))) (Same.refl H) hp) hl2) hq
    refine k q _ (of_new (of_new hq)) ⟨l, ms, 0, 0, 3842, ne_new hq, upd_same, ?_, Nat.zero_le _, Int.le_refl _, by decide, by decide⟩ sm
    rw [upd_ne (Ne.symm (ne_new hq)), upd_same, e]
abbrev nPull : List Str := ["_law_bag_here", "_law_sides", "_law_cell", "_law_digit", "_law_twice"]
theorem scPull : FnScope nPull ["_law_bag_here", "_law_sides"] (defScope sPull) := ⟨rfl, rfl, rfl, by decide +kernel, rfl, by decide +kernel, by decide +kernel⟩
theorem ok_pullC {f : Addr} {fd : FuncData} (F : Fun K "_law_pull" "_law_pull" sPull f fd) (T : TB mg) : FnOk P w K mg base CX0 1 f fd ["_law_bag_here", "_law_sides"] spPullC := by
  refine F.ok scPull (fun vs H Q E h => ?_) (fun cdv A outer s H vs Q E hr h => ?_)
  · obtain ⟨b, c, k, rfl, _⟩ := h
    rfl
  · obtain ⟨b, c, m, rfl, ⟨ns, i, z, r, B⟩, m0, m1, k⟩ := h
    have nd := scPull.nd
    -- the second half, from any bag
    refine ⟨_, C8.pss_cut (ps_if (pw_and (pt_cmpR op_eq (pe_ix ix_list (pv 0) pe_int (fun _ _ => rfl)) pe_int (nomark _)) (pw_and1 (pt_cmpR op_lt (pe_ix ix_list (pv 0) pe_int (fun _ _ => rfl)) (pe_callB call_len_seq (by rfl) T.len PySem.boot_len (pa_cons (pe_ix ix_list (pv 0) pe_int (fun _ _ => rfl)) pa_nil)) (nomark _)))).pt
        (pss_cons (ps_set (i := 2) nd rfl (Or.inl rfl) (pe_ix ix_list (pe_ix ix_list (pv 0) pe_int (fun _ _ => rfl)) (pe_ix ix_list (pv 0) pe_int (fun _ _ => rfl)) (fun _ _ => rfl)))
        (pss_cons (ps_asg (pe_op op_add (pe_ix ix_list (pv 0) pe_int (fun _ _ => rfl)) pe_int) (pg_sub (pv 0) pe_int set_list))
        (pss_one (ps_if (pt_cmpR op_ge (pe_callB call_abs (by rfl) T.abs (by decide +kernel) (pa_cons (pv 2) pa_nil)) (pe_op op_pow pe_int pe_int) (nomark _))
          (pss_one (ps_asg (pe_callB call_abs (by rfl) T.abs (by decide +kernel) (pa_cons (pv 2) pa_nil)) (pg_sub (pv 0) pe_int set_list)))
          (pss_one (ps_asg (pe_op op_mod (pe_callTy call_int1 (by rfl) T.int (by decide +kernel) (pa_cons (pe_op op_add (pe_op op_add (pe_op op_mul (pe_ix ix_list (pv 0) pe_int (fun _ _ => rfl)) pe_int) (pe_op op_mul (pe_op op_mod (pe_callTy call_int1 (by rfl) T.int (by decide +kernel) (pa_cons (pv 2) pa_nil)) pe_int) pe_int)) pe_int) pa_nil)) pe_int) (pg_sub (pv 0) pe_int set_list)))))))
        pss_nil)
      (C8.pss_cut (ps_if (pt_cmpR op_gt (pe_ix ix_list (pv 0) pe_int (fun _ _ => rfl)) pe_int (nomark _))
        (pss_cons (ps_set (i := 3) nd rfl (Or.inl rfl) (pe_op op_mod (pe_callTy call_int1 (by rfl) T.int (by decide +kernel) (pa_cons (pe_ix ix_list (pv 0) pe_int (fun _ _ => rfl)) pa_nil)) (pv 1)))
        (pss_cons (ps_asg (pe_op op_fdiv (pe_ix ix_list (pv 0) pe_int (fun _ _ => rfl)) (pv 1)) (pg_sub (pv 0) pe_int set_list))
        (pss_one (ps_ret (pv 3)))))
        pss_nil)
      (pss_cons (ps_set (i := 4) nd rfl (Or.inl rfl) (pe_op op_mod (pe_callTy call_int1 (by rfl) T.int (by decide +kernel) (pa_cons (pe_op op_mul (pe_ix ix_list (pv 0) pe_int (fun _ _ => rfl)) (pe_ix ix_list (pv 0) pe_int (fun _ _ => rfl))) pa_nil)) pe_int))
      (pss_cons (ps_asg (pe_op op_mod (pe_callTy call_int1 (by rfl) T.int (by decide +kernel) (pa_cons (pe_op op_add (pe_op op_add (pe_op op_mul (pv 4) pe_int) (pe_op op_mul (pe_ix ix_list (pv 0) pe_int (fun _ _ => rfl)) pe_int)) pe_int) pa_nil)) pe_int) (pg_sub (pv 0) pe_int set_list))
      (pss_one (ps_ret (pe_op op_mod (pe_callTy call_int1 (by rfl) T.int (by decide +kernel) (pa_cons (pe_op op_fdiv (pe_ix ix_list (pv 0) pe_int (fun _ _ => rfl)) pe_int) pa_nil)) (pv 1))))))), ?_⟩
    have hc : ∀ {H' : Hp} {i : Nat} {z r : Int}, BagC H' b c ns i z r → H' c = some (.lst (ns.map V.int)) := fun B => B.cs
    -- what follows the first if, from any bag
    refine ⟨fun σ' H' => ∃ v i z r, σ' = [some (.ref b), some (.int m), v, none, none] ∧ BagC H' b c ns i z r ∧ Kp b H H', ?_, ?_⟩
    · refine ⟨_, rfl, b, _, _, _, rfl, rfl, SqL.of B.at_, rfl, rfl, _, rfl, ?_⟩
      refine ite2 (fun ez => ?_) (fun _ => ?_)
      · refine ⟨_, rfl, b, _, _, _, rfl, rfl, SqL.of B.at_, rfl, _, rfl, b, _, _, _, rfl, rfl, SqL.of B.at_, rfl, c, _, rfl, .inl (SqL.of B.cs), _, _, rfl, rfl, _, rfl, ?_⟩
        refine ite2 (fun hl => ?_) (fun _ => ⟨_, _, _, _, rfl, B, Kp.refl _ _⟩)
        have hl' : i < ns.length := by
          have := of_decide_eq_true hl
          rw [List.length_map] at this
          omega
        obtain ⟨n, hn⟩ : ∃ n, ns[i]? = some n := ⟨_, List.getElem?_eq_getElem hl'⟩
        have hat : atI (ns.map V.int) (i : Int) = some (V.int n) := atI_nat (by rw [List.getElem?_map, hn]; rfl)
        refine ⟨_, rfl, b, _, _, _, rfl, rfl, SqL.of B.at_, rfl, _, rfl, b, _, _, _, rfl, rfl, SqL.of B.at_, rfl, c, _, _, _, rfl, rfl, SqL.of B.cs, hat, ?_⟩
        refine ⟨_, rfl, b, _, _, _, rfl, rfl, SqL.of B.at_, rfl, _, _, rfl, rfl, _, rfl, b, _, _, _, rfl, rfl, B.at_, rfl, ?_⟩
        have B1 := B.put (i' := i + 1) (z' := z) (r' := r) (o := .lst [.ref c, .int ((i : Int) + 1), .int z, .int r]) (by rw [Int.natCast_add]; rfl) hl' B.z0 B.r0 B.r1
        have k1 : Kp b H (upd H b (.lst [.ref c, .int ((i : Int) + 1), .int z, .int r])) := Kp.upd
        refine ⟨_, rfl, _, rfl, _, _, rfl, rfl, ⟨by decide, by decide, by decide⟩, _, _, rfl, rfl, _, rfl, ?_⟩
        refine ite2 (fun _ => ?_) (fun _ => ?_)
        · refine ⟨_, rfl, _, rfl, _, rfl, b, _, _, _, rfl, rfl, upd_same, rfl, ?_⟩
          exact ⟨_, _, _, _, rfl, B1.put rfl B1.le (by split <;> omega) B1.r0 B1.r1, k1.trans Kp.upd⟩
        · refine ⟨_, rfl, b, _, _, _, rfl, rfl, SqL.of B1.at_, rfl, _, _, rfl, rfl, .inr (by decide), _, rfl, .inl ⟨_, rfl, _, _, rfl, rfl, (by show (0 : Int) < 1000003; decide), _, _, rfl, rfl, .inr (by decide), _, _, rfl, rfl, _, _, rfl, rfl, .inl ⟨_, rfl, _, _, rfl, rfl, (by show (0 : Int) < 2147483647; decide), _, rfl, b, _, _, _, rfl, rfl, upd_same, rfl, ?_⟩⟩⟩
          exact ⟨_, _, _, _, rfl, B1.put rfl B1.le B1.z0 (emod_lo _ (by decide)) (emod_hi _ (by decide)), k1.trans Kp.upd⟩
      · exact ⟨_, _, _, _, rfl, B, Kp.refl _ _⟩
    · rintro σ' H1 ⟨v, i, z, r, rfl, B, kp⟩
      -- if bag[2] > 0
      refine ⟨fun σ' H' => σ' = [some (.ref b), some (.int m), v, none, none] ∧ H' = H1, ?_, ?_⟩
      · refine ⟨_, rfl, b, _, _, _, rfl, rfl, SqL.of B.at_, rfl, _, _, rfl, rfl, _, rfl, ?_⟩
        refine ite2 (fun hz => ?_) (fun _ => ⟨rfl, rfl⟩)
        refine ⟨_, rfl, b, _, _, _, rfl, rfl, SqL.of B.at_, rfl, .inl ⟨_, rfl, _, rfl, _, _, rfl, rfl, m0, ?_⟩⟩
        refine ⟨_, rfl, b, _, _, _, rfl, rfl, SqL.of B.at_, rfl, _, rfl, _, _, rfl, rfl, ⟨m0, m1⟩, _, rfl, b, _, _, _, rfl, rfl, B.at_, rfl, ?_⟩
        refine ⟨_, rfl, ?_⟩
        exact k _ _ (emod_lo _ m0) (emod_hi _ m0) ⟨ns, _, _, _, B.put rfl B.le (Int.ediv_nonneg B.z0 (Int.le_of_lt m0)) B.r0 B.r1⟩ (kp.trans Kp.upd)
      · rintro σ' H2 ⟨rfl, rfl⟩
        refine ⟨_, rfl, b, _, _, _, rfl, rfl, SqL.of B.at_, rfl, _, rfl, b, _, _, _, rfl, rfl, SqL.of B.at_, rfl, _, _, rfl, rfl, .inl ⟨by have := B.r0; omega, by have := B.r1; omega⟩, .inl ⟨_, rfl, _, _, rfl, rfl, (by show (0 : Int) < 2147483629; decide), ?_⟩⟩
        refine ⟨_, rfl, _, _, rfl, rfl, .inr (by decide), _, rfl, b, _, _, _, rfl, rfl, SqL.of B.at_, rfl, _, _, rfl, rfl, .inr (by decide), _, _, rfl, rfl, _, _, rfl, rfl, .inl ⟨_, rfl, _, _, rfl, rfl, (by show (0 : Int) < 2147483647; decide), _, rfl, b, _, _, _, rfl, rfl, B.at_, rfl, ?_⟩⟩
        refine ⟨_, rfl, b, _, _, _, rfl, rfl, SqL.of upd_same, rfl, _, _, rfl, rfl, ⟨by decide, by decide⟩, .inl ⟨_, rfl, _, rfl, _, _, rfl, rfl, m0, ?_⟩⟩
        exact k _ _ (emod_lo _ m0) (emod_hi _ m0) ⟨ns, _, _, _, B.put rfl B.le B.z0 (emod_lo _ (by decide)) (emod_hi _ (by decide))⟩ (kp.trans Kp.upd)
end
end RF

set_option autoImplicit false
set_option linter.all false
/-! SM: what was found is what was due -/
namespace Q
open PySem L2
open RF (top Df)
local macro_rules | `(tactic| walk_at "u") => `(tactic| simp (config := { dsimp := false }) only [↓CL_of, ↓IT_of, ↓LC_of, ↓LP_of, ↓WH_of, ↓CT_of, ↓IC_of, ↓SC_of, ↓wSeq, ↓wIfS, ↓wYes, ↓wOpV, ↓wOp, ↓wC, ↓wUn, ↓wRet, ↓wJoin, ↓wJs, ↓wArg, ↓wCons, ↓wVar, ↓wBor, ↓wMv, ↓wSet, ↓wAsg, ↓wNm, ↓wTg, ↓wGCons, ↓wApp, ↓wPop, ↓wExt, ↓wSub, ↓wDrop, ↓wPar, ↓wAug, ↓wAnd, ↓wOr, ↓wNot, ↓wTru, truP, ↓wIf, ↓wAndV, ↓wOrV, ↓wNotV, ↓wChain, ↓wSl, ↓wSlV, ↓wPart, ↓wM1, ↓wMN, pStarts, pEnds, pRfind, pStripC, pParts, pStarts3, pFind3, pSS, pSSI, pMax3, ↓wFor, ↓wLc, ↓wList, ↓wTupI, ↓wRng1, ↓wRng2, ↓wEnum, ↓wZip, ↓wRevI, ↓wStrI, ↓wKw, pCallV, wipeE, pTupN, pLstN, pIx, pSl, pRev, pLen, pAbs, pInt, pBool, pStr, pList, pTuple, pSum, pNums, pBls, pIsi, pIsi2, tyN, aI_fold, cutD1, inD_nil, inD_cons, Bool.or_eq_true, decide_eq_true_eq, Bool.or_false, Bool.false_or, Bool.true_or, Bool.or_true, decide_true, decide_false, or_false, false_or, or_true, true_or, List.all_cons, List.all_nil, Bool.and_self, Bool.not_true, Bool.not_false, iff_self, if_true, if_false, Bool.false_eq_true, ofS_inj, String.reduceEq, ati0, ati1, ati2, ati3, ati4, exists_and_left, isi_NoneType_bool, isi_NoneType_int, isi_NoneType_str, isi_NoneType_list, isi_NoneType_tuple, isi_bool_bool, isi_bool_int, isi_bool_str, isi_bool_list, isi_bool_tuple, isi_int_bool, isi_int_int, isi_int_str, isi_int_list, isi_int_tuple, isi_str_bool, isi_str_int, isi_str_str, isi_str_list, isi_str_tuple, isi_list_bool, isi_list_int, isi_list_str, isi_list_list, isi_list_tuple, isi_tuple_bool, isi_tuple_int, isi_tuple_str, isi_tuple_list, isi_tuple_tuple, isi_dict_bool, isi_dict_int, isi_dict_str, isi_dict_list, isi_dict_tuple, mi_bool, mi_int, mi_str, mi_list, mi_tuple, pI2, pI2N, pAdd, pSub, pMul, pNeg, pEqF, pOrd, pIs, pIn, isNon, D.told, D.flat, pFmt, pDivmod, startE, fzs, List.map_cons, List.map_nil, List.length_cons, List.length_nil, List.cons_append, List.nil_append, List.replicate, get_s, get_z, List.set_cons_zero, List.set_cons_succ, Option.some.injEq, exists_eq', true_and, and_true, exists_eq_left', Sl.toD, Nat.sub_self, Nat.reduceAdd, Nat.reduceLeDiff, Nat.reduceLT, Int.reduceToNat, Nat.reduceSub, scalD, eqD_int, eqD_str, eqD_tt, eqD_ff, eqD_tf, eqD_ft, id_eq, reduceCtorEq, false_implies, implies_true, D.int.injEq, D.str.injEq, D.lst.injEq, D.tup.injEq, Sl.fz.injEq, Sl.ol.injEq, RF.e_app, RF.app_e, RF.emp_eq, IT_t, IT_f, IT_T, IT_F, IT_d, IT_n, IT_not])
local macro_rules | `(tactic| walk_at "l") => `(tactic| first | omega | (simp only [RF.len_app, RF.e_app, RF.app_e, RF.emp_eq, sizeLine_eq, l_dash, l_plus, l_r, l_emp, l_lp, l_rpd, l_slash, l_star, l_sp1, l_sp2, l_flo, l_com, l_rp, l_le, l_equ, l_und, l_lea, l_not, l_allS, l_some, l_spc, l_ors, l_ands, List.map_cons, List.map_nil, List.sum_cons, List.sum_nil, List.length_cons, List.length_nil, List.length_map, List.length_append, List.length_replicate, List.length_range] <;> omega))
local macro_rules | `(tactic| walk_at "f") => `(tactic| ((repeat' apply And.intro) <;> first | assumption | walk_at "l"))
local macro_rules | `(tactic| walk_at "s") => `(tactic| (repeat (refine And.intro (by walk_at "l") ?_)))
mutual
/-- told as it is, lists of at most a million -/
def tame : D → Bool
  | .non => true
  | .bl _ => true
  | .int _ => true
  | .str _ => true
  | .lst ds => decide (ds.length ≤ 1000000) && tames ds
  | .tup ds => decide (ds.length ≤ 1000000) && tames ds
  | _ => false
def tames : List D → Bool
  | [] => true
  | d :: ds => tame d && tames ds
end
theorem tames_mem : ∀ {ds : List D}, tames ds = true → ∀ d ∈ ds, tame d = true
  | e :: ds, hp, d, h => by
    have hp : (tame e && tames ds) = true := hp
    rw [Bool.and_eq_true] at hp
    rcases List.mem_cons.mp h with rfl | h
    · exact hp.1
    · exact tames_mem hp.2 d h
def fSame (n : Nat) : Ph := fun ds k _ => ∃ x : D, ds = [x, x] ∧ tame x = true ∧ dep x ≤ n ∧ k (.fz (.bl true))
theorem fSame_mono (m n : Nat) (h : m ≤ n) (ds : List D) (κ : Sl → Prop) (e : Exc → Prop) : fSame m ds κ e → fSame n ds κ e := fun ⟨x, h1, h2, h3, h4⟩ => ⟨x, h1, h2, Nat.le_trans h3 h, h4⟩
section
variable {P : Program} {w : World} {K : PySem.W.Frag} {mg : Str → Option Value} {base : Heap}
abbrev s_law_same : Stmt := top 42
abbrev n_law_same : List Str := ["_law_found", "_law_due", "_law_a", "_law_b"]
theorem sc_law_same : FnScope n_law_same ["_law_found", "_law_due"] (defScope s_law_same) := ⟨rfl, rfl, rfl, by decide +kernel, rfl, by decide +kernel, by decide +kernel⟩
theorem ok_same {f : Addr} {fd : FuncData} {j n : Nat} (Fu : Fun K "_law_same" "_law_same" s_law_same f fd) (T : TN mg) (D_law_same : Df P w K mg base j "_law_same" ["_law_found", "_law_due"] (spD K mg false (below fSame n))) : FnOk P w K mg base CX0 (j + 1) f fd ["_law_found", "_law_due"] (spD K mg false (fSame n)) := by
  refine fn_pd Fu sc_law_same (fun ds k xk h => by obtain ⟨s, rfl, _⟩ := h; rfl) fun cdv A outer s H E C ds k xk hr Fi hu φ => ?_
  have nd := sc_law_same.nd
  refine ⟨_, _, (qss_cons (qs_ifC (qt_w (qw_or (qt_cmpV op_isA l_is (pv 1) (PD.b pd_non) (nomark _)) (qw_or1 (qt_cmpV op_isA l_is (pv 0) (PD.b pd_non) (nomark _)))))
      (qss_one (qs_ret (pd_and (PD.b (pd_cmpV op_isA l_is (pv 1) (PD.b pd_non) (nomark _))) (pd_one (pd_cmpV op_isA l_is (pv 0) (PD.b pd_non) (nomark _))))))
      qss_nil)
      (qss_cons (qs_ifC (qt_w (qw_or (qt_val (PD.b (pd_callB call_isi (l_isi Fi) (by rfl) T.isinstance (by decide +kernel) (qa_cons (pd_var (pv 1)) (qa_cons (pd_ty (n := "bool") (by rfl) T.bool (by decide +kernel)) qa_nil))))) (qw_or1 (qt_val (PD.b (pd_callB call_isi (l_isi Fi) (by rfl) T.isinstance (by decide +kernel) (qa_cons (pd_var (pv 0)) (qa_cons (pd_ty (n := "bool") (by rfl) T.bool (by decide +kernel)) qa_nil))))))))
      (qss_one (qs_ret (pd_and (PD.b (pd_callB call_isi (l_isi Fi) (by rfl) T.isinstance (by decide +kernel) (qa_cons (pd_var (pv 1)) (qa_cons (pd_ty (n := "bool") (by rfl) T.bool (by decide +kernel)) qa_nil)))) (pd_and (PD.b (pd_callB call_isi (l_isi Fi) (by rfl) T.isinstance (by decide +kernel) (qa_cons (pd_var (pv 0)) (qa_cons (pd_ty (n := "bool") (by rfl) T.bool (by decide +kernel)) qa_nil)))) (pd_one (pd_cmpV (op_eqA hr.units) (l_eq Fi) (pv 0) (pb_var (pv 1)) (nomark _)))))))
      qss_nil)
      (qss_cons (qs_ifC (qt_w (qw_or (qt_val (PD.b (pd_isi2 (n := "list") (m := "tuple") Fi (by rfl) T.isinstance (pd_var (pv 1)) (by rfl) T.list (by decide +kernel) (by rfl) T.tuple (by decide +kernel)))) (qw_or1 (qt_val (PD.b (pd_isi2 (n := "list") (m := "tuple") Fi (by rfl) T.isinstance (pd_var (pv 0)) (by rfl) T.list (by decide +kernel) (by rfl) T.tuple (by decide +kernel)))))))
      (qss_cons (qs_ifC (qt_w (qw_or (qt_cmp (op_neA hr.units) (l_ne Fi) (pd_callB call_isi (l_isi Fi) (by rfl) T.isinstance (by decide +kernel) (qa_cons (pd_var (pv 1)) (qa_cons (pd_ty (n := "list") (by rfl) T.list (by decide +kernel)) qa_nil))) (PD.b (pd_callB call_isi (l_isi Fi) (by rfl) T.isinstance (by decide +kernel) (qa_cons (pd_var (pv 0)) (qa_cons (pd_ty (n := "list") (by rfl) T.list (by decide +kernel)) qa_nil)))) (nomark _)) (qw_or1 (qt_cmp (op_neA hr.units) (l_ne Fi) (pd_callB call_isi (l_isi Fi) (by rfl) T.isinstance (by decide +kernel) (qa_cons (pd_var (pv 1)) (qa_cons (pd_ty (n := "tuple") (by rfl) T.tuple (by decide +kernel)) qa_nil))) (PD.b (pd_callB call_isi (l_isi Fi) (by rfl) T.isinstance (by decide +kernel) (qa_cons (pd_var (pv 0)) (qa_cons (pd_ty (n := "tuple") (by rfl) T.tuple (by decide +kernel)) qa_nil)))) (nomark _)))))
        (qss_one (qs_ret pd_bl))
        qss_nil)
        (qss_one (qs_ret (pd_and (PD.b (pd_cmp (op_eqA hr.units) (l_eq Fi) (pd_callB1 call_len2 (l_len Fi) (by rfl) T.len (by decide +kernel) (pb_var (pv 0))) (PD.b (pd_callB1 call_len2 (l_len Fi) (by rfl) T.len (by decide +kernel) (pb_var (pv 1)))) (nomark _))) (pd_one (pd_callB1 (cr_all rfl) (l_all Fi) (by rfl) T.all (by decide +kernel) (PD.b (pd_comp (own := [("_law_a", 2), ("_law_b", 3)]) rfl nd (qi_zip Fi (by rfl) T.zip (qa_cons (pd_var (pv 0)) (qa_cons (pd_var (pv 1)) qa_nil))) (blkOk_by (own := [("_law_a", 2), ("_law_b", 3)]) (N := n_law_same) (sc := defScope s_law_same) (by decide +kernel)) (fun _ _ _ _ _ => (qg_tup (n := 2) (Fi.blk) rfl (qgs_cons (qg_name (pg_name (i := 2) nd rfl (Or.inl rfl))) (qgs_cons (qg_name (pg_name (i := 3) nd rfl (Or.inl rfl))) qgs_nil)))) (fun _ _ _ _ _ => qts_nil) (fun _ _ _ _ _ => (pd_call (Fi.blk) D_law_same hr (Nat.le_refl _) (qa_cons (pd_var (pv 2)) (qa_cons (pd_var (pv 3)) qa_nil))))))))))))
      qss_nil)
      (qss_cons (qs_ifC (qt_w (qw_or (qt_cmp (op_neA hr.units) (l_ne Fi) (pd_callB call_isi (l_isi Fi) (by rfl) T.isinstance (by decide +kernel) (qa_cons (pd_var (pv 1)) (qa_cons (pd_ty (n := "int") (by rfl) T.int (by decide +kernel)) qa_nil))) (PD.b (pd_callB call_isi (l_isi Fi) (by rfl) T.isinstance (by decide +kernel) (qa_cons (pd_var (pv 0)) (qa_cons (pd_ty (n := "int") (by rfl) T.int (by decide +kernel)) qa_nil)))) (nomark _)) (qw_or1 (qt_cmp (op_neA hr.units) (l_ne Fi) (pd_callB call_isi (l_isi Fi) (by rfl) T.isinstance (by decide +kernel) (qa_cons (pd_var (pv 1)) (qa_cons (pd_ty (n := "str") (by rfl) T.str (by decide +kernel)) qa_nil))) (PD.b (pd_callB call_isi (l_isi Fi) (by rfl) T.isinstance (by decide +kernel) (qa_cons (pd_var (pv 0)) (qa_cons (pd_ty (n := "str") (by rfl) T.str (by decide +kernel)) qa_nil)))) (nomark _)))))
      (qss_one (qs_ret pd_bl))
      qss_nil)
      (qss_one (qs_ret (pd_cmpV (op_eqA hr.units) (l_eq Fi) (pv 0) (pb_var (pv 1)) (nomark _)))))))), ?_⟩
  obtain ⟨x, rfl, ht, hd, q⟩ := φ
  cases x with
  | non =>
    walk_at "u"
    refine ifC True (by walk_at "u") (fun h => ?_) (fun h => absurd trivial h)
    walk_at "u"
    exact q
  | bl b =>
    walk_at "u"
    refine ifC False (by walk_at "u") (fun h => h.elim) (fun h => ?_)
    walk_at "u"
    refine ifC True (by walk_at "u") (fun h => ?_) (fun h => absurd trivial h)
    walk_at "u"
    rw [show eqD (.bl b) (.bl b) = true by cases b <;> rfl]
    exact q
  | int i =>
    walk_at "u"
    refine ifC False (by walk_at "u") (fun h => h.elim) (fun h => ?_)
    walk_at "u"
    refine ifC False (by walk_at "u") (fun h => h.elim) (fun h => ?_)
    walk_at "u"
    refine ifC False (by walk_at "u") (fun h => h.elim) (fun h => ?_)
    walk_at "u"
    refine ifC False (by walk_at "u") (fun h => h.elim) (fun h => ?_)
    walk_at "u"
    exact q
  | str x =>
    walk_at "u"
    refine ifC False (by walk_at "u") (fun h => h.elim) (fun h => ?_)
    walk_at "u"
    refine ifC False (by walk_at "u") (fun h => h.elim) (fun h => ?_)
    walk_at "u"
    refine ifC False (by walk_at "u") (fun h => h.elim) (fun h => ?_)
    walk_at "u"
    refine ifC False (by walk_at "u") (fun h => h.elim) (fun h => ?_)
    walk_at "u"
    exact q
  | lst xs =>
    have ht : (decide (xs.length ≤ 1000000) && tames xs) = true := ht
    rw [Bool.and_eq_true, decide_eq_true_eq] at ht
    have hd : depL xs + 1 ≤ n := hd
    walk_at "u"
    refine ifC False (by walk_at "u") (fun h => h.elim) (fun h => ?_)
    walk_at "u"
    refine ifC False (by walk_at "u") (fun h => h.elim) (fun h => ?_)
    walk_at "u"
    refine ifC True (by walk_at "u") (fun h => ?_) (fun h => absurd trivial h)
    walk_at "u"
    refine ifC False (by walk_at "u") (fun h => h.elim) (fun h => ?_)
    walk_at "u"
    refine lc_map (fun _ => .bl true) _ _ (by rw [zip_len]; exact ht.1) ?_ (fun d N acc hm hN ha => ?_)
    · walk_at "u"
      refine ⟨_, bls_true _, ?_⟩
      rw [List.all_map, show (zipD xs xs).all (id ∘ fun _ => true) = true from List.all_eq_true.mpr fun _ _ => rfl]
      exact q
    · obtain ⟨x, hx, rfl⟩ := zip_self xs d hm
      walk_at "u"
      have hdx := depL_mem hx
      refine ⟨dep x, by omega, x, rfl, tames_mem ht.2 x hx, Nat.le_refl _, ?_⟩
      walk_at "u"
      exact ⟨ha, hN⟩
  | tup xs =>
    have ht : (decide (xs.length ≤ 1000000) && tames xs) = true := ht
    rw [Bool.and_eq_true, decide_eq_true_eq] at ht
    have hd : depL xs + 1 ≤ n := hd
    walk_at "u"
    refine ifC False (by walk_at "u") (fun h => h.elim) (fun h => ?_)
    walk_at "u"
    refine ifC False (by walk_at "u") (fun h => h.elim) (fun h => ?_)
    walk_at "u"
    refine ifC True (by walk_at "u") (fun h => ?_) (fun h => absurd trivial h)
    walk_at "u"
    refine ifC False (by walk_at "u") (fun h => h.elim) (fun h => ?_)
    walk_at "u"
    refine lc_map (fun _ => .bl true) _ _ (by rw [zip_len]; exact ht.1) ?_ (fun d N acc hm hN ha => ?_)
    · walk_at "u"
      refine ⟨_, bls_true _, ?_⟩
      rw [List.all_map, show (zipD xs xs).all (id ∘ fun _ => true) = true from List.all_eq_true.mpr fun _ _ => rfl]
      exact q
    · obtain ⟨x, hx, rfl⟩ := zip_self xs d hm
      walk_at "u"
      have hdx := depL_mem hx
      refine ⟨dep x, by omega, x, rfl, tames_mem ht.2 x hx, Nat.le_refl _, ?_⟩
      walk_at "u"
      exact ⟨ha, hN⟩
  | _ => cases ht
theorem all_same {f : Addr} {fd : FuncData} {k : Nat} (Fu : Fun K "_law_same" "_law_same" s_law_same f fd) (T : TN mg) (b : Binds K fd ["_law_found", "_law_due"] []) (mt : mg "_law_same" = some (.ref f)) : ∀ n : Nat, FnOk P w K mg base CX0 (k + 1 * n + 1) f fd ["_law_found", "_law_due"] (spD K mg false (fSame n)) :=
  rec_fn (Φ := fSame) k 1 fSame_mono fun n j hj IH => ok_same Fu T ⟨_, _, IH, b, mt, Fu.kp⟩
end
end Q

set_option autoImplicit false
set_option linter.all false
/-! B: the draws of the law -/
namespace Q
open PySem L2
open RF (top Df)
local macro_rules | `(tactic| walk_at "u") => `(tactic| simp (config := { dsimp := false }) only [↓CL_of, ↓IT_of, ↓LC_of, ↓LP_of, ↓WH_of, ↓CT_of, ↓IC_of, ↓SC_of, ↓wSeq, ↓wIfS, ↓wYes, ↓wOpV, ↓wOp, ↓wC, ↓wUn, ↓wRet, ↓wJoin, ↓wJs, ↓wArg, ↓wCons, ↓wVar, ↓wBor, ↓wMv, ↓wSet, ↓wAsg, ↓wNm, ↓wTg, ↓wGCons, ↓wApp, ↓wPop, ↓wExt, ↓wSub, ↓wDrop, ↓wPar, ↓wAug, ↓wAnd, ↓wOr, ↓wNot, ↓wTru, truP, ↓wIf, ↓wAndV, ↓wOrV, ↓wNotV, ↓wChain, ↓wSl, ↓wSlV, ↓wPart, ↓wM1, ↓wMN, pStarts, pEnds, pRfind, pStripC, pParts, pStarts3, pFind3, pSS, pSSI, pMax3, ↓wFor, ↓wLc, ↓wList, ↓wTupI, ↓wRng1, ↓wRng2, ↓wEnum, ↓wZip, ↓wRevI, ↓wStrI, ↓wKw, pCallV, wipeE, pTupN, pLstN, pIx, pSl, pRev, pLen, pAbs, pInt, pBool, pStr, pList, pTuple, pSum, pNums, pBls, pIsi, pIsi2, tyN, aI_fold, cutD1, inD_nil, inD_cons, Bool.or_eq_true, decide_eq_true_eq, Bool.or_false, Bool.false_or, Bool.true_or, Bool.or_true, decide_true, decide_false, or_false, false_or, or_true, true_or, List.all_cons, List.all_nil, Bool.and_self, Bool.not_true, Bool.not_false, iff_self, if_true, if_false, Bool.false_eq_true, ofS_inj, String.reduceEq, ati0, ati1, ati2, ati3, ati4, exists_and_left, isi_NoneType_bool, isi_NoneType_int, isi_NoneType_str, isi_NoneType_list, isi_NoneType_tuple, isi_bool_bool, isi_bool_int, isi_bool_str, isi_bool_list, isi_bool_tuple, isi_int_bool, isi_int_int, isi_int_str, isi_int_list, isi_int_tuple, isi_str_bool, isi_str_int, isi_str_str, isi_str_list, isi_str_tuple, isi_list_bool, isi_list_int, isi_list_str, isi_list_list, isi_list_tuple, isi_tuple_bool, isi_tuple_int, isi_tuple_str, isi_tuple_list, isi_tuple_tuple, isi_dict_bool, isi_dict_int, isi_dict_str, isi_dict_list, isi_dict_tuple, mi_bool, mi_int, mi_str, mi_list, mi_tuple, pI2, pI2N, pAdd, pSub, pMul, pNeg, pEqF, pOrd, pIs, pIn, isNon, D.told, D.flat, pFmt, pDivmod, startE, fzs, List.map_cons, List.map_nil, List.length_cons, List.length_nil, List.cons_append, List.nil_append, List.replicate, get_s, get_z, List.set_cons_zero, List.set_cons_succ, Option.some.injEq, exists_eq', true_and, and_true, exists_eq_left', Sl.toD, Nat.sub_self, Nat.reduceAdd, Nat.reduceLeDiff, Nat.reduceLT, Int.reduceToNat, Nat.reduceSub, scalD, eqD_int, eqD_str, eqD_tt, eqD_ff, eqD_tf, eqD_ft, id_eq, reduceCtorEq, false_implies, implies_true, D.int.injEq, D.str.injEq, D.lst.injEq, D.tup.injEq, Sl.fz.injEq, Sl.ol.injEq, RF.e_app, RF.app_e, RF.emp_eq, IT_t, IT_f, IT_T, IT_F, IT_d, IT_n, IT_not])
local macro_rules | `(tactic| walk_at "l") => `(tactic| first | omega | (simp only [RF.len_app, RF.e_app, RF.app_e, RF.emp_eq, sizeLine_eq, l_dash, l_plus, l_r, l_emp, l_lp, l_rpd, l_slash, l_star, l_sp1, l_sp2, l_flo, l_com, l_rp, l_le, l_equ, l_und, l_lea, l_not, l_allS, l_some, l_spc, l_ors, l_ands, List.map_cons, List.map_nil, List.sum_cons, List.sum_nil, List.length_cons, List.length_nil, List.length_map, List.length_append, List.length_replicate, List.length_range] <;> omega))
local macro_rules | `(tactic| walk_at "f") => `(tactic| ((repeat' apply And.intro) <;> first | assumption | walk_at "l"))
local macro_rules | `(tactic| walk_at "s") => `(tactic| (repeat (refine And.intro (by walk_at "l") ?_)))
def fPull : Ph := fun ds k _ => ∃ n : Int, ds = [.bag, .int n] ∧ (0 < n ∧ n < 1073741824) ∧ ∀ d : Int, 0 ≤ d → d < n → k (.fz (.int d))
def fOf : Ph := fun ds k _ => ∃ x : D, ds = [.bag, x] ∧ ((∃ es : List D, x = .lst es ∧ 0 < es.length ∧ es.length ≤ 1000000 ∧ ∀ d ∈ es, k (.fz d)) ∨ ∃ z : Str, x = .str z ∧ 0 < z.length ∧ z.length ≤ 1000000 ∧ ∀ c ∈ z.cps.toList, k (.fz (.str ⟨#[c]⟩)))
section
variable {P : Program} {w : World} {K : PySem.W.Frag} {mg : Str → Option Value} {base : Heap}
theorem ok_pullD {f : Addr} {fd : FuncData} (F : Fun K "_law_pull" "_law_pull" RF.sPull f fd) (T : RF.TB mg) : FnOk P w K mg base CX0 1 f fd ["_law_bag_here", "_law_sides"] (spD K mg true fPull) :=
  (RF.ok_pullC F T).imp fun vs H Q E ⟨B, S, ds, k, xk, e1, e2, al, bg, r, ⟨n, hd, n0, q⟩, fin, _⟩ => by
    subst hd
    obtain ⟨v, u, rfl, h1, h2⟩ := rps2 r
    exact ⟨B.bag, B.cel, n, by rw [show v = _ from h1, show u = _ from h2], (bg rfl).1, n0.1, n0.2, fun d H' d0 d1 Bb kp => fin (.fz (.int d)) _ H' ⟨fun a o na e => kp a o (na rfl) e, fun _ => Bb⟩ rfl (q d d0 d1)⟩
theorem atI_ix {α : Type} {l : List α} {d : Int} (h0 : 0 ≤ d) (h1 : d < (l.length : Nat)) : ∃ x, atI l d = some x ∧ x ∈ l := by
  obtain ⟨n, rfl⟩ : ∃ n : Nat, d = n := ⟨d.toNat, by omega⟩
  obtain ⟨x, hx⟩ := split_at (l := l) (i := n) (by omega)
  exact ⟨x, atI_nat hx, List.mem_of_getElem? hx⟩
abbrev s_law_of : Stmt := top 41
abbrev n_law_of : List Str := ["_law_bag_here", "_law_some"]
theorem sc_law_of : FnScope n_law_of ["_law_bag_here", "_law_some"] (defScope s_law_of) := ⟨rfl, rfl, rfl, by decide +kernel, rfl, by decide +kernel, by decide +kernel⟩
theorem ok_ofD {f : Addr} {fd : FuncData} {j : Nat} (Fu : Fun K "_law_of" "_law_of" s_law_of f fd) (T : TN mg) (D_law_pull : Df P w K mg base j "_law_pull" ["_law_bag_here", "_law_sides"] (spD K mg true fPull)) : FnOk P w K mg base CX0 (j + 1) f fd ["_law_bag_here", "_law_some"] (spD K mg true fOf) := by
  refine fn_pd Fu sc_law_of (fun ds k xk h => by obtain ⟨i, rfl, _⟩ := h; rfl) fun cdv A outer s H E C ds k xk hr Fi hu φ => ?_
  obtain ⟨x, rfl, q⟩ := φ
  have nd := sc_law_of.nd
  refine ⟨_, _, (qss_one (qs_ret (pd_ixV ix_seq (l_ix Fi) (pv 1) (PD.b (pd_call Fi D_law_pull hr (Nat.le_refl _) (qa_cons (pd_var (pv 0)) (qa_cons (pd_callB1 call_len2 (l_len Fi) (by rfl) T.len (by decide +kernel) (pb_var (pv 1))) qa_nil)))) (fun _ _ => rfl)))), ?_⟩
  walk_at "u"
  rcases q with ⟨es, rfl, h0, h1, q⟩ | ⟨z, rfl, h0, h1, q⟩
  · walk_at "u"
    refine ⟨_, rfl, by omega, fun d d0 d1 => ?_⟩
    obtain ⟨y, h2, h3⟩ := atI_ix d0 d1
    exact ⟨y, h2, q y h3⟩
  · walk_at "u"
    refine ⟨by rw [sizeLine_eq]; omega, _, rfl, by omega, fun d d0 d1 => ⟨by rw [sizeLine_eq]; omega, ?_⟩⟩
    obtain ⟨y, h2, h3⟩ := atI_ix (l := z.cps.toList) d0 (by rw [Array.length_toList]; exact d1)
    exact ⟨y, h2, q y h3⟩
end
end Q

set_option autoImplicit false
set_option linter.all false
/-! DR: the draws: slopes, words, terms -/
namespace Q
open PySem L2
open RF (top Df e_app app_e len_app s_assoc join_one join_nil join_len join_snoc)
local macro_rules | `(tactic| walk_at "u") => `(tactic| simp (config := { dsimp := false }) only [↓CL_of, ↓IT_of, ↓LC_of, ↓LP_of, ↓WH_of, ↓CT_of, ↓IC_of, ↓SC_of, ↓wSeq, ↓wIfS, ↓wYes, ↓wOpV, ↓wOp, ↓wC, ↓wUn, ↓wRet, ↓wJoin, ↓wJs, ↓wArg, ↓wCons, ↓wVar, ↓wBor, ↓wMv, ↓wSet, ↓wAsg, ↓wNm, ↓wTg, ↓wGCons, ↓wApp, ↓wPop, ↓wExt, ↓wSub, ↓wDrop, ↓wPar, ↓wAug, ↓wAnd, ↓wOr, ↓wNot, ↓wTru, truP, ↓wIf, ↓wAndV, ↓wOrV, ↓wNotV, ↓wChain, ↓wSl, ↓wSlV, ↓wPart, ↓wM1, ↓wMN, pStarts, pEnds, pRfind, pStripC, pParts, pStarts3, pFind3, pSS, pSSI, pMax3, ↓wFor, ↓wLc, ↓wList, ↓wTupI, ↓wRng1, ↓wRng2, ↓wEnum, ↓wZip, ↓wRevI, ↓wStrI, ↓wKw, pCallV, wipeE, pTupN, pLstN, pIx, pSl, pRev, pLen, pAbs, pInt, pBool, pStr, pList, pTuple, pSum, pNums, pBls, pIsi, pIsi2, tyN, aI_fold, cutD1, inD_nil, inD_cons, Bool.or_eq_true, decide_eq_true_eq, Bool.or_false, Bool.false_or, Bool.true_or, Bool.or_true, decide_true, decide_false, or_false, false_or, or_true, true_or, List.all_cons, List.all_nil, Bool.and_self, Bool.not_true, Bool.not_false, iff_self, if_true, if_false, Bool.false_eq_true, ofS_inj, String.reduceEq, ati0, ati1, ati2, ati3, ati4, exists_and_left, isi_NoneType_bool, isi_NoneType_int, isi_NoneType_str, isi_NoneType_list, isi_NoneType_tuple, isi_bool_bool, isi_bool_int, isi_bool_str, isi_bool_list, isi_bool_tuple, isi_int_bool, isi_int_int, isi_int_str, isi_int_list, isi_int_tuple, isi_str_bool, isi_str_int, isi_str_str, isi_str_list, isi_str_tuple, isi_list_bool, isi_list_int, isi_list_str, isi_list_list, isi_list_tuple, isi_tuple_bool, isi_tuple_int, isi_tuple_str, isi_tuple_list, isi_tuple_tuple, isi_dict_bool, isi_dict_int, isi_dict_str, isi_dict_list, isi_dict_tuple, mi_bool, mi_int, mi_str, mi_list, mi_tuple, pI2, pI2N, pAdd, pSub, pMul, pNeg, pEqF, pOrd, pIs, pIn, isNon, D.told, D.flat, pFmt, pDivmod, startE, fzs, List.map_cons, List.map_nil, List.length_cons, List.length_nil, List.cons_append, List.nil_append, List.replicate, get_s, get_z, List.set_cons_zero, List.set_cons_succ, Option.some.injEq, exists_eq', true_and, and_true, exists_eq_left', Sl.toD, Nat.sub_self, Nat.reduceAdd, Nat.reduceLeDiff, Nat.reduceLT, Int.reduceToNat, Nat.reduceSub, scalD, eqD_int, eqD_str, eqD_tt, eqD_ff, eqD_tf, eqD_ft, id_eq, reduceCtorEq, false_implies, implies_true, D.int.injEq, D.str.injEq, D.lst.injEq, D.tup.injEq, Sl.fz.injEq, Sl.ol.injEq, RF.e_app, RF.app_e, RF.emp_eq, IT_t, IT_f, IT_T, IT_F, IT_d, IT_n, IT_not])
local macro_rules | `(tactic| walk_at "l") => `(tactic| first | omega | (simp only [RF.len_app, RF.e_app, RF.app_e, RF.emp_eq, sizeLine_eq, l_dash, l_plus, l_r, l_emp, l_lp, l_rpd, l_slash, l_star, l_sp1, l_sp2, l_flo, l_com, l_rp, l_le, l_equ, l_und, l_lea, l_not, l_allS, l_some, l_spc, l_ors, l_ands, List.map_cons, List.map_nil, List.sum_cons, List.sum_nil, List.length_cons, List.length_nil, List.length_map, List.length_append, List.length_replicate, List.length_range] <;> omega))
local macro_rules | `(tactic| walk_at "f") => `(tactic| ((repeat' apply And.intro) <;> first | assumption | walk_at "l"))
local macro_rules | `(tactic| walk_at "s") => `(tactic| (repeat (refine And.intro (by walk_at "l") ?_)))
def fDslope : Ph := fun ds k _ => ds = [.bag] ∧ ∀ i j m : Int, SlB i j m → k (.fz (.tup [.int i, .int j, .int m]))
def fDname : Ph := fun ds k _ => ds = [.bag] ∧ ∀ x : Str, NmB x → k (.fz (.str x))
def fDterm (n : Nat) : Ph := fun ds k _ => ∃ (ns : List Str) (m : Nat), ds = [.bag, .lst (ns.map .str), .int m] ∧ m ≤ n ∧ NsB ns ∧ ∀ t : Tm, GenC ns m t → k (.fz t.d)
theorem fDterm_mono (m n : Nat) (h : m ≤ n) (ds : List D) (κ : Sl → Prop) (e : Exc → Prop) : fDterm m ds κ e → fDterm n ds κ e := fun ⟨ns, i, h1, h2, h3⟩ => ⟨ns, i, h1, Nat.le_trans h2 h, h3⟩
section
variable {P : Program} {w : World} {K : PySem.W.Frag} {mg : Str → Option Value} {base : Heap}
abbrev s_law_any_slope : Stmt := top 43
abbrev n_law_any_slope : List Str := ["_law_bag_here"]
theorem sc_law_any_slope : FnScope n_law_any_slope ["_law_bag_here"] (defScope s_law_any_slope) := ⟨rfl, rfl, rfl, by decide +kernel, rfl, by decide +kernel, by decide +kernel⟩
theorem ok_dslope {f : Addr} {fd : FuncData} {j : Nat} (Fu : Fun K "_law_any_slope" "_law_any_slope" s_law_any_slope f fd) (T : TN mg) (D_law_pull : Df P w K mg base j "_law_pull" ["_law_bag_here", "_law_sides"] (spD K mg true fPull)) : FnOk P w K mg base CX0 (j + 1) f fd ["_law_bag_here"] (spD K mg true fDslope) := by
  refine fn_pd Fu sc_law_any_slope (fun ds k xk h => by obtain ⟨rfl, _⟩ := h; rfl) fun cdv A outer s H E C ds k xk hr Fi hu φ => ?_
  have nd := sc_law_any_slope.nd
  refine ⟨_, _, (qss_one (qs_ret (pd_tup (qa_cons (pd_op op_sub l_sub (pd_call Fi D_law_pull hr (Nat.le_refl _) (qa_cons (pd_var (pv 0)) (qa_cons pd_int qa_nil))) (PD.b pd_int)) (qa_cons (pd_op op_sub l_sub (pd_call Fi D_law_pull hr (Nat.le_refl _) (qa_cons (pd_var (pv 0)) (qa_cons pd_int qa_nil))) (PD.b pd_int)) (qa_cons (pd_op op_addA (l_add Fi) pd_int (PD.b (pd_call Fi D_law_pull hr (Nat.le_refl _) (qa_cons (pd_var (pv 0)) (qa_cons pd_int qa_nil))))) qa_nil)))))), ?_⟩
  obtain ⟨rfl, q⟩ := φ
  walk_at "u"
  refine ⟨_, rfl, by decide, fun i i0 i1 => ?_⟩
  walk_at "u"
  refine ⟨_, rfl, by decide, fun j j0 j1 => ?_⟩
  walk_at "u"
  refine ⟨_, rfl, by decide, fun m m0 m1 => ?_⟩
  walk_at "u"
  exact q _ _ _ ⟨by omega, by omega, by omega, by omega⟩
abbrev s_law_any_term : Stmt := top 44
abbrev n_law_any_term : List Str := ["_law_bag_here", "_law_names", "_law_deep", "_law_items", "_law_k", "_law_factor"]
theorem sc_law_any_term : FnScope n_law_any_term ["_law_bag_here", "_law_names", "_law_deep"] (defScope s_law_any_term) := ⟨rfl, rfl, rfl, by decide +kernel, rfl, by decide +kernel, by decide +kernel⟩
theorem ok_dterm {f : Addr} {fd : FuncData} {j n : Nat} (Fu : Fun K "_law_any_term" "_law_any_term" s_law_any_term f fd) (T : TN mg) (D_law_pull : Df P w K mg base j "_law_pull" ["_law_bag_here", "_law_sides"] (spD K mg true fPull)) (D_law_of : Df P w K mg base j "_law_of" ["_law_bag_here", "_law_some"] (spD K mg true fOf))
    (D_law_any_slope : Df P w K mg base j "_law_any_slope" ["_law_bag_here"] (spD K mg true fDslope)) (D_law_any_term : Df P w K mg base j "_law_any_term" ["_law_bag_here", "_law_names", "_law_deep"] (spD K mg true (below fDterm n))) : FnOk P w K mg base CX0 (j + 1) f fd ["_law_bag_here", "_law_names", "_law_deep"] (spD K mg true (fDterm n)) := by
  refine fn_pd Fu sc_law_any_term (fun ds k xk h => by obtain ⟨ns, m, rfl, _⟩ := h; rfl) fun cdv A outer s H E C ds k xk hr Fi hu φ => ?_
  have nd := sc_law_any_term.nd
  refine ⟨_, _, (qss_cons (qs_set (i := 3) nd rfl (Or.inl rfl) (pd_lst qa_nil))
      (qss_cons (qs_for PassesOwn.never rfl (qi_range1 (by rfl) T.range (qa_cons (pd_call Fi D_law_of hr (Nat.le_refl _) (qa_cons (pd_var (pv 0)) (qa_cons (pd_lst (qa_cons pd_int (qa_cons pd_int (qa_cons pd_int (qa_cons pd_int (qa_cons pd_int (qa_cons pd_int (qa_cons pd_int qa_nil)))))))) qa_nil))) qa_nil)) (qg_name (pg_name (i := 4) nd rfl (Or.inl rfl)))
      (qss_cons (qs_set (i := 5) nd rfl (Or.inl rfl) (pd_op op_mulA l_mul (pd_op op_addA (l_add Fi) pd_int (PD.b (pd_call Fi D_law_pull hr (Nat.le_refl _) (qa_cons (pd_var (pv 0)) (qa_cons pd_int qa_nil))))) (PD.b (pd_call Fi D_law_of hr (Nat.le_refl _) (qa_cons (pd_var (pv 0)) (qa_cons (pd_lst (qa_cons pd_int (qa_cons (pd_un un_neg l_neg (PD.b pd_int)) (qa_cons pd_int qa_nil)))) qa_nil))))))
        (qss_one (qs_if (qt_w (qw_and (qt_cmpV op_gtA l_ord (pv 2) (PD.b pd_int) (nomark _)) (qw_and1 (qt_cmp (op_eqA hr.units) (l_eq Fi) (pd_call Fi D_law_pull hr (Nat.le_refl _) (qa_cons (pd_var (pv 0)) (qa_cons pd_int qa_nil))) (PD.b pd_int) (nomark _)))))
        (qss_one (qs_expr (pd_app (pv 3) (pd_tup (qa_cons (pd_var (pv 5)) (qa_cons (pd_tup (qa_cons pd_str (qa_cons (pd_call Fi D_law_any_slope hr (Nat.le_refl _) (qa_cons (pd_var (pv 0)) qa_nil)) (qa_cons (pd_call Fi D_law_any_term hr (Nat.le_refl _) (qa_cons (pd_var (pv 0)) (qa_cons (pd_var (pv 1)) (qa_cons (pd_opV op_sub l_sub (pv 2) (PD.b pd_int)) qa_nil)))) qa_nil)))) qa_nil))))))
        (qss_one (qs_if (qt_cmpV (op_neA hr.units) (l_ne Fi) (pv 1) (PD.b (pd_lst qa_nil)) (nomark _))
          (qss_one (qs_expr (pd_app (pv 3) (pd_tup (qa_cons (pd_var (pv 5)) (qa_cons (pd_call Fi D_law_of hr (Nat.le_refl _) (qa_cons (pd_var (pv 0)) (qa_cons (pd_var (pv 1)) qa_nil))) qa_nil))))))
          qss_nil))))))
      (qss_one (qs_ret (pd_tup (qa_cons (pd_callTy1 call_tuple_of (l_tuple Fi) (by rfl) T.tuple (by decide +kernel) (PD.b (pd_slV Fi (pv 3) qo_none (qo_some (PD.b pd_int))))) (qa_cons (pd_call Fi D_law_of hr (Nat.le_refl _) (qa_cons (pd_var (pv 0)) (qa_cons (pd_lst (qa_cons pd_int (qa_cons pd_int (qa_cons (pd_op op_sub l_sub (pd_call Fi D_law_pull hr (Nat.le_refl _) (qa_cons (pd_var (pv 0)) (qa_cons pd_int qa_nil))) (PD.b pd_int)) (qa_cons pd_int (qa_cons (pd_un un_neg l_neg (PD.b pd_int)) qa_nil)))))) qa_nil))) qa_nil))))))), ?_⟩
  obtain ⟨ns, m, rfl, hm, hns, q⟩ := φ
  walk_at "u"
  refine ⟨_, rfl, .inl ⟨_, rfl, by decide, by decide, fun d hd => ?_⟩⟩
  obtain ⟨r, rfl, r0, r1⟩ : ∃ r : Int, d = .int r ∧ 0 ≤ r ∧ r ≤ 4 := by
    simp only [List.mem_cons, List.not_mem_nil, or_false] at hd
    rcases hd with rfl | rfl | rfl | rfl | rfl | rfl | rfl <;> exact ⟨_, rfl, by decide, by decide⟩
  walk_at "u"
  refine ⟨by omega, ?_⟩
  refine loop_at (fun ρ0 ds ρ => ∃ (l : List It) (v4 v5 : Option Sl), (∀ x ∈ l, x.gen ns m) ∧ l.length + ds.length ≤ 4 ∧ ρ = ((ρ0.set 3 (some (.ol (l.map It.d)))).set 4 v4).set 5 v5) ⟨[], none, none, (fun x hx => by cases hx), by rw [rng_len, List.length_nil]; omega, rfl⟩ (fun ρ h => ?_) (fun d ds ρ N h hN => ?_)
  · obtain ⟨l, v4, v5, h1, h2, rfl⟩ := h
    rw [List.length_nil] at h2
    walk_at "u"
    refine ⟨_, rfl, by decide, fun c c0 c1 => ?_⟩
    walk_at "u"
    refine ⟨_, rfl, .inl ⟨_, rfl, by simp, by simp, fun d hd => ?_⟩⟩
    obtain ⟨c', e, hc'⟩ : ∃ c' : Int, d = .int c' ∧ -1000 ≤ c' ∧ c' ≤ 1000 := by
      simp only [List.mem_cons, List.not_mem_nil, or_false] at hd
      rcases hd with rfl | rfl | rfl | rfl | rfl <;> exact ⟨_, rfl, by omega⟩
    subst e
    have e4 : cutD (l.map It.d) none (some 4) = l.map It.d := by
      rw [show (4 : Int) = ((4 : Nat) : Int) from rfl, cutD_take, List.take_of_length_le (by rw [List.length_map]; omega)]
    rw [e4]
    walk_at "u"
    rw [← mkT_d]
    exact q _ ⟨mkT_gen hc' h1, by rw [mkT_cnt]; omega⟩
  · obtain ⟨l, v4, v5, h1, h2, rfl⟩ := h
    rw [List.length_cons] at h2
    walk_at "u"
    refine ⟨_, rfl, by decide, fun i i0 i1 => ?_⟩
    walk_at "u"
    refine ⟨_, rfl, .inl ⟨_, rfl, by decide, by decide, fun d hd => ?_⟩⟩
    obtain ⟨s, e, hs⟩ : ∃ s : Int, d = .int s ∧ (s = 1 ∨ s = -1) := by
      simp only [List.mem_cons, List.not_mem_nil, or_false] at hd
      rcases hd with rfl | rfl | rfl <;> exact ⟨_, rfl, by decide⟩
    subst e
    obtain ⟨fa, efa⟩ : ∃ fa, (1 + i) * s = fa := ⟨_, rfl⟩
    have hfa : fa ≠ 0 ∧ -9 ≤ fa ∧ fa ≤ 9 := by
      subst efa
      rcases hs with rfl | rfl <;> omega
    walk_at "u"
    rw [efa]
    refine ⟨mul_ok (lt_2k (by omega)) (lt_2k (by omega)), fun h => ?_, fun h => ?_⟩
    · walk_at "u"
      refine ⟨_, rfl, by decide, fun z z0 z1 => ?_⟩
      walk_at "u"
      refine ⟨fun h3 => ?_, fun h3 => ?_⟩
      · walk_at "u"
        refine ⟨rfl, fun i j m' hij => ?_⟩
        walk_at "u"
        refine ⟨m - 1, by omega, ns, m - 1, ?_, Nat.le_refl _, hns, fun t ht => ?_⟩
        · rw [show (((m - 1 : Nat)) : Int) = (m : Int) - 1 by omega]
        walk_at "u"
        refine ⟨by rw [List.length_map]; omega, hN _ ⟨l ++ [.fl fa i j m' t], _, _, fun y hy => ?_, by rw [List.length_append]; show l.length + 1 + _ ≤ 4; omega, by rw [List.map_append]; rfl⟩⟩
        rcases List.mem_append.mp hy with hy | hy
        · exact h1 y hy
        · rw [List.mem_singleton.mp hy]
          exact ⟨hfa, hij, by omega, ht⟩
      · walk_at "u"
        refine ⟨fun _ => ⟨hns.plain, emp_okL⟩, ?_⟩
        rw [eqL_nil]
        refine ⟨fun h => ?_, fun h => ?_⟩
        · walk_at "u"
          exact hN _ ⟨l, _, _, h1, by omega, rfl⟩
        · walk_at "u"
          have hpos : 0 < ns.length := by
            cases ns with
            | nil => exact absurd rfl h
            | cons => exact Nat.succ_pos _
          refine ⟨_, rfl, .inl ⟨_, rfl, by rw [List.length_map]; exact hpos, by rw [List.length_map]; have := hns.1; omega, fun x hx => ?_⟩⟩
          obtain ⟨x, hx2, rfl⟩ := List.mem_map.mp hx
          walk_at "u"
          refine ⟨by rw [List.length_map]; omega, hN _ ⟨l ++ [.nm fa x], _, _, fun y hy => ?_, by rw [List.length_append]; show l.length + 1 + _ ≤ 4; omega, by rw [List.map_append]; rfl⟩⟩
          rcases List.mem_append.mp hy with hy | hy
          · exact h1 y hy
          · rw [List.mem_singleton.mp hy]
            exact ⟨hfa, hx2⟩
    · walk_at "u"
      refine ⟨fun _ => ⟨hns.plain, emp_okL⟩, ?_⟩
      rw [eqL_nil]
      refine ⟨fun h => ?_, fun h => ?_⟩
      · walk_at "u"
        exact hN _ ⟨l, _, _, h1, by omega, rfl⟩
      · walk_at "u"
        have hpos : 0 < ns.length := by
          cases ns with
          | nil => exact absurd rfl h
          | cons => exact Nat.succ_pos _
        refine ⟨_, rfl, .inl ⟨_, rfl, by rw [List.length_map]; exact hpos, by rw [List.length_map]; have := hns.1; omega, fun x hx => ?_⟩⟩
        obtain ⟨x, hx2, rfl⟩ := List.mem_map.mp hx
        walk_at "u"
        refine ⟨by rw [List.length_map]; omega, hN _ ⟨l ++ [.nm fa x], _, _, fun y hy => ?_, by rw [List.length_append]; show l.length + 1 + _ ≤ 4; omega, by rw [List.map_append]; rfl⟩⟩
        rcases List.mem_append.mp hy with hy | hy
        · exact h1 y hy
        · rw [List.mem_singleton.mp hy]
          exact ⟨hfa, hx2⟩
theorem all_dterm {f : Addr} {fd : FuncData} {k : Nat} (Fu : Fun K "_law_any_term" "_law_any_term" s_law_any_term f fd) (T : TN mg) (D_law_pull : Df P w K mg base k "_law_pull" ["_law_bag_here", "_law_sides"] (spD K mg true fPull)) (D_law_of : Df P w K mg base k "_law_of" ["_law_bag_here", "_law_some"] (spD K mg true fOf))
    (D_law_any_slope : Df P w K mg base k "_law_any_slope" ["_law_bag_here"] (spD K mg true fDslope)) (b : Binds K fd ["_law_bag_here", "_law_names", "_law_deep"] []) (mt : mg "_law_any_term" = some (.ref f)) : ∀ n : Nat, FnOk P w K mg base CX0 (k + 1 * n + 1) f fd ["_law_bag_here", "_law_names", "_law_deep"] (spD K mg true (fDterm n)) :=
  rec_fn (Φ := fDterm) k 1 fDterm_mono fun n j hj IH => ok_dterm Fu T (dmono D_law_pull hj) (dmono D_law_of hj) (dmono D_law_any_slope hj) ⟨_, _, IH, b, mt, Fu.kp⟩
end
end Q

set_option autoImplicit false
set_option linter.all false
/-! P1: the texts of the program -/
namespace Q
open PySem L2
open RF (top Df e_app app_e len_app s_assoc join_one join_nil)
local macro_rules | `(tactic| walk_at "u") => `(tactic| simp (config := { dsimp := false }) only [↓CL_of, ↓IT_of, ↓LC_of, ↓LP_of, ↓WH_of, ↓CT_of, ↓IC_of, ↓SC_of, ↓wSeq, ↓wIfS, ↓wYes, ↓wOpV, ↓wOp, ↓wC, ↓wUn, ↓wRet, ↓wJoin, ↓wJs, ↓wArg, ↓wCons, ↓wVar, ↓wBor, ↓wMv, ↓wSet, ↓wAsg, ↓wNm, ↓wTg, ↓wGCons, ↓wApp, ↓wPop, ↓wExt, ↓wSub, ↓wDrop, ↓wPar, ↓wAug, ↓wAnd, ↓wOr, ↓wNot, ↓wTru, truP, ↓wIf, ↓wAndV, ↓wOrV, ↓wNotV, ↓wChain, ↓wSl, ↓wSlV, ↓wPart, ↓wM1, ↓wMN, pStarts, pEnds, pRfind, pStripC, pParts, pStarts3, pFind3, pSS, pSSI, pMax3, ↓wFor, ↓wLc, ↓wList, ↓wTupI, ↓wRng1, ↓wRng2, ↓wEnum, ↓wZip, ↓wRevI, ↓wStrI, ↓wKw, pCallV, wipeE, pTupN, pLstN, pIx, pSl, pRev, pLen, pAbs, pInt, pBool, pStr, pList, pTuple, pSum, pNums, pBls, pIsi, pIsi2, tyN, aI_fold, cutD1, inD_nil, inD_cons, Bool.or_eq_true, decide_eq_true_eq, Bool.or_false, Bool.false_or, Bool.true_or, Bool.or_true, decide_true, decide_false, or_false, false_or, or_true, true_or, List.all_cons, List.all_nil, Bool.and_self, Bool.not_true, Bool.not_false, iff_self, if_true, if_false, Bool.false_eq_true, ofS_inj, String.reduceEq, ati0, ati1, ati2, ati3, ati4, exists_and_left, isi_NoneType_bool, isi_NoneType_int, isi_NoneType_str, isi_NoneType_list, isi_NoneType_tuple, isi_bool_bool, isi_bool_int, isi_bool_str, isi_bool_list, isi_bool_tuple, isi_int_bool, isi_int_int, isi_int_str, isi_int_list, isi_int_tuple, isi_str_bool, isi_str_int, isi_str_str, isi_str_list, isi_str_tuple, isi_list_bool, isi_list_int, isi_list_str, isi_list_list, isi_list_tuple, isi_tuple_bool, isi_tuple_int, isi_tuple_str, isi_tuple_list, isi_tuple_tuple, isi_dict_bool, isi_dict_int, isi_dict_str, isi_dict_list, isi_dict_tuple, mi_bool, mi_int, mi_str, mi_list, mi_tuple, pI2, pI2N, pAdd, pSub, pMul, pNeg, pEqF, pOrd, pIs, pIn, isNon, D.told, D.flat, pFmt, pDivmod, startE, fzs, List.map_cons, List.map_nil, List.length_cons, List.length_nil, List.cons_append, List.nil_append, List.replicate, get_s, get_z, List.set_cons_zero, List.set_cons_succ, Option.some.injEq, exists_eq', true_and, and_true, exists_eq_left', Sl.toD, Nat.sub_self, Nat.reduceAdd, Nat.reduceLeDiff, Nat.reduceLT, Int.reduceToNat, Nat.reduceSub, scalD, eqD_int, eqD_str, eqD_tt, eqD_ff, eqD_tf, eqD_ft, id_eq, reduceCtorEq, false_implies, implies_true, D.int.injEq, D.str.injEq, D.lst.injEq, D.tup.injEq, Sl.fz.injEq, Sl.ol.injEq, RF.e_app, RF.app_e, RF.emp_eq, IT_t, IT_f, IT_T, IT_F, IT_d, IT_n, IT_not])
local macro_rules | `(tactic| walk_at "l") => `(tactic| first | omega | (simp only [RF.len_app, RF.e_app, RF.app_e, RF.emp_eq, sizeLine_eq, l_dash, l_plus, l_r, l_emp, l_lp, l_rpd, l_slash, l_star, l_sp1, l_sp2, l_flo, l_com, l_rp, l_le, l_equ, l_und, l_lea, l_not, l_allS, l_some, l_spc, l_ors, l_ands, List.map_cons, List.map_nil, List.sum_cons, List.sum_nil, List.length_cons, List.length_nil, List.length_map, List.length_append, List.length_replicate, List.length_range] <;> omega))
local macro_rules | `(tactic| walk_at "f") => `(tactic| ((repeat' apply And.intro) <;> first | assumption | walk_at "l"))
local macro_rules | `(tactic| walk_at "s") => `(tactic| (repeat (refine And.intro (by walk_at "l") ?_)))
def fFig : Ph := fun ds k _ => ∃ i : Int, ds = [.int i] ∧ Fig 60 i ∧ k (.fz (.str (tS i)))
def fMul : Ph := fun ds k _ => ∃ j : Int, ds = [.int j] ∧ Fig 60 j ∧ k (.fz (.str (mulS j)))
def fSum : Ph := fun ds k _ => ∃ i j : Int, ds = [.int i, .int j] ∧ Fig 60 i ∧ Fig 60 j ∧ k (.fz (.str (sumS i j)))
def fSlope : Ph := fun ds k _ => ∃ i j m : Int, ds = [.tup [.int i, .int j, .int m]] ∧ Fig 60 i ∧ Fig 60 j ∧ Fig 60 m ∧ k (.fz (.str (stS i j m)))
section
variable {P : Program} {w : World} {K : PySem.W.Frag} {mg : Str → Option Value} {base : Heap}
abbrev s_figures : Stmt := top 15
abbrev n_figures : List Str := ["number", "block", "texts", "rest", "low", "sign", "digits"]
theorem sc_figures : FnScope n_figures ["number"] (defScope s_figures) := ⟨rfl, rfl, rfl, by decide +kernel, rfl, by decide +kernel, by decide +kernel⟩
theorem ok_figures {f : Addr} {fd : FuncData} {j : Nat} (Fu : Fun K "_figures" "_figures" s_figures f fd) (T : TN mg) : FnOk P w K mg base CX0 (j + 1) f fd ["number"] (spD K mg false fFig) := by
  refine fn_pd Fu sc_figures (fun ds k xk h => by obtain ⟨i, rfl, _⟩ := h; rfl) fun cdv A outer s H E C ds k xk hr Fi hu φ => ?_
  obtain ⟨i, rfl, hi, q⟩ := φ
  have nd := sc_figures.nd
  refine ⟨_, _, (qss_cons (qs_set (i := 1) nd rfl (Or.inl rfl) (pd_op op_pow l_pow pd_int (PD.b pd_int)))
      (qss_cons (qs_set (i := 2) nd rfl (Or.inl rfl) (pd_lst qa_nil))
      (qss_cons (qs_set (i := 3) nd rfl (Or.inl rfl) (pd_callB1 call_abs l_abs (by rfl) T.abs (by decide +kernel) (pb_var (pv 0))))
      (qss_cons (qs_while PassesOwn.never (qt_cmpV op_geA l_ord (pv 3) (pb_var (pv 1)) (nomark _))
      (qss_cons (qs_asg (pd_callB call_divmodW l_divmod (by rfl) T.divmod (by decide +kernel) (qa_cons (pd_var (pv 3)) (qa_cons (pd_var (pv 1)) qa_nil))) (qg_tup (n := 2) Fi rfl (qgs_cons (qg_name (pg_name (i := 3) nd rfl (Or.inl rfl))) (qgs_cons (qg_name (pg_name (i := 4) nd rfl (Or.inl rfl))) qgs_nil))))
        (qss_one (qs_expr (pd_app (pv 2) (pd_m1 PySem.F.slot_str_zfill PySem.F.type_str_zfill mt_zfill l_zfill (pd_callTy1 call_str_int l_str (by rfl) T.str (by decide +kernel) (pb_var (pv 4))) pd_int))))))
      (qss_cons (qs_expr (pd_app (pv 2) (pd_callTy1 call_str_int l_str (by rfl) T.str (by decide +kernel) (pb_var (pv 3)))))
      (qss_cons (qs_setC (i := 5) nd rfl (Or.inl rfl) (pd_if (qt_cmpV op_ltA l_ord (pv 0) (PD.b pd_int) (nomark _)) pd_str pd_str))
      (qss_cons (qs_set (i := 6) nd rfl (Or.inl rfl) (pd_join Fi pd_str (pd_rev Fi (pb_var (pv 2)))))
      (qss_one (qs_ret (pd_joined (.cons (pd_fmt (pb_var (pv 5))) (.cons (pd_fmt (pb_var (pv 6))) .nil)))))))))))), ?_⟩
  walk_at "u"
  refine ⟨⟨by decide, by decide, by decide⟩, 1, ?_⟩
  simp only [whW]
  walk_at "u"
  have l0 := tS_len (by decide) (aI_fig hi)
  have e1 := aI_nat i
  have e2 : ((i.natAbs : Nat) : Int) < 10 ^ 60 := by exact_mod_cast hi
  refine IT.neg (by show ¬ (10 : Int) ^ 60 ≤ _; omega) ?_
  walk_at "u"
  rw [tS_sgn] at q
  refine ⟨fig_log (aI_fig hi), setC (.fz (.str (if i < 0 then Str.ofString "-" else Str.empty))) ?_ ?_⟩
  · walk_at "u"
    refine ⟨fun h => ?_, fun h => ?_⟩
    · rw [if_pos h]
      walk_at "u"
    · rw [if_neg h]
      walk_at "u"
  have l2 : (if i < 0 then Str.ofString "-" else Str.empty).length ≤ 1 := by split <;> walk_at "l"
  walk_at "u"
  refine ⟨[tS (aI i)], rfl, by walk_at "l", ?_⟩
  rw [join_one]
  walk_at "u"
  walk_at "f"
abbrev s_multiple_text : Stmt := top 14
abbrev n_multiple_text : List Str := ["j"]
theorem sc_multiple_text : FnScope n_multiple_text ["j"] (defScope s_multiple_text) := ⟨rfl, rfl, rfl, by decide +kernel, rfl, by decide +kernel, by decide +kernel⟩
theorem ok_multiple {f : Addr} {fd : FuncData} {j : Nat} (Fu : Fun K "_multiple_text" "_multiple_text" s_multiple_text f fd) (T : TN mg) (D_figures : Df P w K mg base j "_figures" ["number"] (spD K mg false fFig)) : FnOk P w K mg base CX0 (j + 1) f fd ["j"] (spD K mg false fMul) := by
  refine fn_pd Fu sc_multiple_text (fun ds k xk h => by obtain ⟨i, rfl, _⟩ := h; rfl) fun cdv A outer s H E C ds k xk hr Fi hu φ => ?_
  obtain ⟨i, rfl, hi, q⟩ := φ
  have nd := sc_multiple_text.nd
  refine ⟨_, _, (qss_cons (qs_if (qt_cmpV (op_eqA hr.units) (l_eq Fi) (pv 0) (PD.b pd_int) (nomark _))
      (qss_one (qs_ret pd_str))
      qss_nil)
      (qss_cons (qs_if (qt_cmpV (op_eqA hr.units) (l_eq Fi) (pv 0) (PD.b (pd_un un_neg l_neg (PD.b pd_int))) (nomark _))
      (qss_one (qs_ret pd_str))
      qss_nil)
      (qss_one (qs_ret (pd_joined (.cons (pd_fmt (PD.b (pd_call Fi D_figures hr (Nat.le_refl _) (qa_cons (pd_var (pv 0)) qa_nil)))) (.cons pd_str .nil))))))), ?_⟩
  walk_at "u"
  have l0 := tS_len (by decide) hi
  refine ⟨fun h1 => ?_, fun h1 => ?_⟩
  · subst h1; rw [mulS_one] at q; exact q
  walk_at "u"
  refine ⟨fun h2 => ?_, fun h2 => ?_⟩
  · subst h2; rw [mulS_m1] at q; exact q
  walk_at "u"
  rw [mulS_else h1 h2] at q
  refine ⟨_, rfl, hi, ?_⟩
  walk_at "u"
  walk_at "f"
abbrev s_sum_text : Stmt := top 13
abbrev n_sum_text : List Str := ["i", "j", "joint"]
theorem sc_sum_text : FnScope n_sum_text ["i", "j"] (defScope s_sum_text) := ⟨rfl, rfl, rfl, by decide +kernel, rfl, by decide +kernel, by decide +kernel⟩
theorem ok_sum {f : Addr} {fd : FuncData} {j : Nat} (Fu : Fun K "_sum_text" "_sum_text" s_sum_text f fd) (T : TN mg) (D_figures : Df P w K mg base j "_figures" ["number"] (spD K mg false fFig)) (D_multiple_text : Df P w K mg base j "_multiple_text" ["j"] (spD K mg false fMul)) : FnOk P w K mg base CX0 (j + 1) f fd ["i", "j"] (spD K mg false fSum) := by
  refine fn_pd Fu sc_sum_text (fun ds k xk h => by obtain ⟨i, j, rfl, _⟩ := h; rfl) fun cdv A outer s H E C ds k xk hr Fi hu φ => ?_
  obtain ⟨i, j, rfl, hi, hj, q⟩ := φ
  have nd := sc_sum_text.nd
  refine ⟨_, _, (qss_cons (qs_if (qt_cmpV (op_eqA hr.units) (l_eq Fi) (pv 1) (PD.b pd_int) (nomark _))
      (qss_one (qs_ret (pd_call Fi D_figures hr (Nat.le_refl _) (qa_cons (pd_var (pv 0)) qa_nil))))
      qss_nil)
      (qss_cons (qs_if (qt_cmpV (op_eqA hr.units) (l_eq Fi) (pv 0) (PD.b pd_int) (nomark _))
      (qss_one (qs_ret (pd_call Fi D_multiple_text hr (Nat.le_refl _) (qa_cons (pd_var (pv 1)) qa_nil))))
      qss_nil)
      (qss_cons (qs_setC (i := 2) nd rfl (Or.inl rfl) (pd_if (qt_cmpV op_gtA l_ord (pv 1) (PD.b pd_int) (nomark _)) pd_str pd_str))
      (qss_one (qs_ret (pd_joined (.cons (pd_fmt (PD.b (pd_call Fi D_figures hr (Nat.le_refl _) (qa_cons (pd_var (pv 0)) qa_nil)))) (.cons (pd_fmt (pb_var (pv 2))) (.cons (pd_fmt (PD.b (pd_call Fi D_multiple_text hr (Nat.le_refl _) (qa_cons (pd_var (pv 1)) qa_nil)))) .nil))))))))), ?_⟩
  have l0 := tS_len (by decide) hi
  have l1 := mulS_len (by decide) hj
  unfold sumS at q
  walk_at "u"
  refine ⟨fun h1 => ?_, fun h1 => ?_⟩
  · rw [if_pos h1] at q
    walk_at "u"
    exact ⟨_, rfl, hi, q⟩
  rw [if_neg h1] at q
  walk_at "u"
  refine ⟨fun h2 => ?_, fun h2 => ?_⟩
  · rw [if_pos h2] at q
    walk_at "u"
    exact ⟨_, rfl, hj, q⟩
  rw [if_neg h2] at q
  walk_at "u"
  have l2 : (if 0 < j then Str.ofString "+" else Str.empty).length ≤ 1 := by split <;> walk_at "l"
  refine setC (.fz (.str (if 0 < j then Str.ofString "+" else Str.empty))) ?_ ?_
  · walk_at "u"
    refine ⟨fun h => ?_, fun h => ?_⟩
    · rw [if_pos h]
      walk_at "u"
    · rw [if_neg h]
      walk_at "u"
  walk_at "u"
  refine ⟨_, rfl, hi, ?_⟩
  walk_at "u"
  refine ⟨by walk_at "l", by walk_at "l", by walk_at "l", by walk_at "l", _, rfl, hj, ?_⟩
  walk_at "u"
  walk_at "f"
abbrev s_slope_text : Stmt := top 12
abbrev n_slope_text : List Str := ["slope", "i", "j", "k", "text"]
theorem sc_slope_text : FnScope n_slope_text ["slope"] (defScope s_slope_text) := ⟨rfl, rfl, rfl, by decide +kernel, rfl, by decide +kernel, by decide +kernel⟩
theorem ok_slope {f : Addr} {fd : FuncData} {j : Nat} (Fu : Fun K "slope_text" "slope_text" s_slope_text f fd) (T : TN mg) (D_figures : Df P w K mg base j "_figures" ["number"] (spD K mg false fFig)) (D_sum_text : Df P w K mg base j "_sum_text" ["i", "j"] (spD K mg false fSum)) : FnOk P w K mg base CX0 (j + 1) f fd ["slope"] (spD K mg false fSlope) := by
  refine fn_pd Fu sc_slope_text (fun ds k xk h => by obtain ⟨i, j, m, rfl, _⟩ := h; rfl) fun cdv A outer s H E C ds k xk hr Fi hu φ => ?_
  obtain ⟨i, j, m, rfl, hi, hj, hm, q⟩ := φ
  have nd := sc_slope_text.nd
  refine ⟨_, _, (qss_cons (qs_asg (pd_var (pv 0)) (qg_tup (n := 3) Fi rfl (qgs_cons (qg_name (pg_name (i := 1) nd rfl (Or.inl rfl))) (qgs_cons (qg_name (pg_name (i := 2) nd rfl (Or.inl rfl))) (qgs_cons (qg_name (pg_name (i := 3) nd rfl (Or.inl rfl))) qgs_nil)))))
      (qss_cons (qs_set (i := 4) nd rfl (Or.inl rfl) (pd_call Fi D_sum_text hr (Nat.le_refl _) (qa_cons (pd_var (pv 1)) (qa_cons (pd_var (pv 2)) qa_nil))))
      (qss_cons (qs_if (qt_cmpV (op_eqA hr.units) (l_eq Fi) (pv 3) (PD.b pd_int) (nomark _))
      (qss_one (qs_ret (pd_mv (pv 4))))
      qss_nil)
      (qss_cons (qs_ifC (qt_w (qw_and (qt_cmpV (op_neA hr.units) (l_ne Fi) (pv 1) (PD.b pd_int) (nomark _)) (qw_and1 (qt_cmpV (op_neA hr.units) (l_ne Fi) (pv 2) (PD.b pd_int) (nomark _)))))
      (qss_one (qs_ret (pd_joined (.cons pd_str (.cons (pd_fmt (pb_var (pv 4))) (.cons pd_str (.cons (pd_fmt (PD.b (pd_call Fi D_figures hr (Nat.le_refl _) (qa_cons (pd_var (pv 3)) qa_nil)))) .nil)))))))
      qss_nil)
      (qss_one (qs_ret (pd_joined (.cons (pd_fmt (pb_var (pv 4))) (.cons pd_str (.cons (pd_fmt (PD.b (pd_call Fi D_figures hr (Nat.le_refl _) (qa_cons (pd_var (pv 3)) qa_nil)))) .nil)))))))))), ?_⟩
  have l0 := sumS_len (by decide) hi hj
  have l1 := tS_len (by decide) hm
  walk_at "u"
  refine ⟨_, _, rfl, hi, hj, ?_⟩
  walk_at "u"
  unfold stS at q
  refine ⟨fun h1 => ?_, fun h1 => ?_⟩
  · rw [if_pos h1] at q
    walk_at "u"
    exact q
  rw [if_neg h1] at q
  walk_at "u"
  refine ifC (i ≠ 0 ∧ j ≠ 0) ?_ (fun h => ?_) (fun h => ?_)
  · walk_at "u"
    refine ⟨fun h2 => ?_, fun h2 => ?_⟩
    · walk_at "u"
      simp [h2]
    · walk_at "u"
      simp [h2]
  · rw [if_pos h] at q
    walk_at "u"
    refine ⟨by walk_at "l", by walk_at "l", by walk_at "l", by walk_at "l", _, rfl, hm, ?_⟩
    walk_at "u"
    walk_at "f"
  · rw [if_neg h] at q
    walk_at "u"
    refine ⟨by walk_at "l", by walk_at "l", by walk_at "l", _, rfl, hm, ?_⟩
    walk_at "u"
    walk_at "f"
end
end Q

set_option autoImplicit false
set_option linter.all false
/-! P2: the texts of terms and sayings -/
namespace Q
open PySem L2
open RF (top Df e_app app_e len_app s_assoc join_one join_nil)
local macro_rules | `(tactic| walk_at "u") => `(tactic| simp (config := { dsimp := false }) only [↓CL_of, ↓IT_of, ↓LC_of, ↓LP_of, ↓WH_of, ↓CT_of, ↓IC_of, ↓SC_of, ↓wSeq, ↓wIfS, ↓wYes, ↓wOpV, ↓wOp, ↓wC, ↓wUn, ↓wRet, ↓wJoin, ↓wJs, ↓wArg, ↓wCons, ↓wVar, ↓wBor, ↓wMv, ↓wSet, ↓wAsg, ↓wNm, ↓wTg, ↓wGCons, ↓wApp, ↓wPop, ↓wExt, ↓wSub, ↓wDrop, ↓wPar, ↓wAug, ↓wAnd, ↓wOr, ↓wNot, ↓wTru, truP, ↓wIf, ↓wAndV, ↓wOrV, ↓wNotV, ↓wChain, ↓wSl, ↓wSlV, ↓wPart, ↓wM1, ↓wMN, pStarts, pEnds, pRfind, pStripC, pParts, pStarts3, pFind3, pSS, pSSI, pMax3, ↓wFor, ↓wLc, ↓wList, ↓wTupI, ↓wRng1, ↓wRng2, ↓wEnum, ↓wZip, ↓wRevI, ↓wStrI, ↓wKw, pCallV, wipeE, pTupN, pLstN, pIx, pSl, pRev, pLen, pAbs, pInt, pBool, pStr, pList, pTuple, pSum, pNums, pBls, pIsi, pIsi2, tyN, aI_fold, cutD1, inD_nil, inD_cons, Bool.or_eq_true, decide_eq_true_eq, Bool.or_false, Bool.false_or, Bool.true_or, Bool.or_true, decide_true, decide_false, or_false, false_or, or_true, true_or, List.all_cons, List.all_nil, Bool.and_self, Bool.not_true, Bool.not_false, iff_self, if_true, if_false, Bool.false_eq_true, ofS_inj, String.reduceEq, ati0, ati1, ati2, ati3, ati4, exists_and_left, isi_NoneType_bool, isi_NoneType_int, isi_NoneType_str, isi_NoneType_list, isi_NoneType_tuple, isi_bool_bool, isi_bool_int, isi_bool_str, isi_bool_list, isi_bool_tuple, isi_int_bool, isi_int_int, isi_int_str, isi_int_list, isi_int_tuple, isi_str_bool, isi_str_int, isi_str_str, isi_str_list, isi_str_tuple, isi_list_bool, isi_list_int, isi_list_str, isi_list_list, isi_list_tuple, isi_tuple_bool, isi_tuple_int, isi_tuple_str, isi_tuple_list, isi_tuple_tuple, isi_dict_bool, isi_dict_int, isi_dict_str, isi_dict_list, isi_dict_tuple, mi_bool, mi_int, mi_str, mi_list, mi_tuple, pI2, pI2N, pAdd, pSub, pMul, pNeg, pEqF, pOrd, pIs, pIn, isNon, D.told, D.flat, pFmt, pDivmod, startE, fzs, List.map_cons, List.map_nil, List.length_cons, List.length_nil, List.cons_append, List.nil_append, List.replicate, get_s, get_z, List.set_cons_zero, List.set_cons_succ, Option.some.injEq, exists_eq', true_and, and_true, exists_eq_left', Sl.toD, Nat.sub_self, Nat.reduceAdd, Nat.reduceLeDiff, Nat.reduceLT, Int.reduceToNat, Nat.reduceSub, scalD, eqD_int, eqD_str, eqD_tt, eqD_ff, eqD_tf, eqD_ft, id_eq, reduceCtorEq, false_implies, implies_true, D.int.injEq, D.str.injEq, D.lst.injEq, D.tup.injEq, Sl.fz.injEq, Sl.ol.injEq, RF.e_app, RF.app_e, RF.emp_eq, IT_t, IT_f, IT_T, IT_F, IT_d, IT_n, IT_not])
local macro_rules | `(tactic| walk_at "l") => `(tactic| first | omega | (simp only [RF.len_app, RF.e_app, RF.app_e, RF.emp_eq, sizeLine_eq, l_dash, l_plus, l_r, l_emp, l_lp, l_rpd, l_slash, l_star, l_sp1, l_sp2, l_flo, l_com, l_rp, l_le, l_equ, l_und, l_lea, l_not, l_allS, l_some, l_spc, l_ors, l_ands, List.map_cons, List.map_nil, List.sum_cons, List.sum_nil, List.length_cons, List.length_nil, List.length_map, List.length_append, List.length_replicate, List.length_range] <;> omega))
local macro_rules | `(tactic| walk_at "f") => `(tactic| ((repeat' apply And.intro) <;> first | assumption | walk_at "l"))
local macro_rules | `(tactic| walk_at "s") => `(tactic| (repeat (refine And.intro (by walk_at "l") ?_)))
/-- a term with floors at most so deep -/
def fTerm (n : Nat) : Ph := fun ds k _ => ∃ t : Tm, ds = [t.d] ∧ t.dp ≤ n ∧ t.ok ∧ t.sz ≤ 10000000 ∧ k (.fz (.str t.tx))
/-- an item: a name, a floor -/
def fItem (n : Nat) : Ph := fun ds k _ => ∃ f : Int, Fig 60 f ∧ ((∃ x : Str, ds = [.int f, .str x] ∧ x.length ≤ 10000000 ∧ k (.fz (.str (itS f x)))) ∨
  ∃ (i j m : Int) (t : Tm), ds = [.int f, .tup [.str "floor", .tup [.int i, .int j, .int m], t.d]] ∧ t.dp < n ∧ t.ok ∧ t.sz ≤ 10000000 ∧ Fig 60 i ∧ Fig 60 j ∧ Fig 60 m ∧ k (.fz (.str (itS f (flS (stS i j m) t.tx)))))
section
variable {P : Program} {w : World} {K : PySem.W.Frag} {mg : Str → Option Value} {base : Heap}
abbrev s_item_text : Stmt := top 36
abbrev n_item_text : List Str := ["size", "thing", "text"]
theorem sc_item_text : FnScope n_item_text ["size", "thing"] (defScope s_item_text) := ⟨rfl, rfl, rfl, by decide +kernel, rfl, by decide +kernel, by decide +kernel⟩
theorem ok_item {f : Addr} {fd : FuncData} {j n : Nat} (Fu : Fun K "_item_text" "_item_text" s_item_text f fd) (T : TN mg) (D_slope_text : Df P w K mg base j "slope_text" ["slope"] (spD K mg false fSlope)) (D_term_text : Df P w K mg base j "term_text" ["term"] (spD K mg false (below fTerm n))) : FnOk P w K mg base CX0 (j + 1) f fd ["size", "thing"] (spD K mg false (fItem n)) := by
  refine fn_pd Fu sc_item_text (fun ds k xk h => by obtain ⟨i, _, ⟨x, rfl, _⟩ | ⟨_, _, _, _, rfl, _⟩⟩ := h <;> rfl) fun cdv A outer s H E C ds k xk hr Fi hu φ => ?_
  have nd := sc_item_text.nd
  refine ⟨_, _, (qss_cons (qs_set (i := 2) nd rfl (Or.inl rfl) (pd_if (qt_val (PD.b (pd_callB call_isi (l_isi Fi) (by rfl) T.isinstance (by decide +kernel) (qa_cons (pd_var (pv 1)) (qa_cons (pd_ty (n := "str") (by rfl) T.str (by decide +kernel)) qa_nil))))) (pd_var (pv 1)) (pd_joined (.cons pd_str (.cons (pd_fmt (PD.b (pd_call Fi D_slope_text hr (Nat.le_refl _) (qa_cons (pd_ixV ix_seq (l_ix Fi) (pv 1) (PD.b pd_int) (fun _ _ => rfl)) qa_nil)))) (.cons pd_str (.cons (pd_fmt (PD.b (pd_call Fi D_term_text hr (Nat.le_refl _) (qa_cons (pd_ixV ix_seq (l_ix Fi) (pv 1) (PD.b pd_int) (fun _ _ => rfl)) qa_nil)))) (.cons pd_str .nil))))))))
      (qss_one (qs_ret (pd_if (qt_cmpV (op_eqA hr.units) (l_eq Fi) (pv 0) (PD.b pd_int) (nomark _)) (pd_var (pv 2)) (pd_joined (.cons (pd_fmt (pb_var (pv 0))) (.cons pd_str (.cons (pd_fmt (pb_var (pv 2))) .nil)))))))), ?_⟩
  obtain ⟨f, hf, ⟨x, rfl, hx, q⟩ | ⟨i, j, m, t, rfl, ht, h1, h2, h3, h4, h5, q⟩⟩ := φ
  · walk_at "u"
    have l0 := tS_len (by decide) hf
    unfold itS at q
    refine ⟨fun h1 => ?_, fun h1 => ?_⟩
    · rw [if_pos h1] at q
      walk_at "u"
      exact q
    · rw [if_neg h1] at q
      walk_at "u"
      have := fig_log hf
      walk_at "f"
  · walk_at "u"
    have l0 := tS_len (by decide) hf
    have l1 := stS_len (by decide) h3 h4 h5
    have l2 := t.tx_len h1
    have l3 := flS_len (stS i j m) t.tx
    unfold itS at q
    refine ⟨by walk_at "l", _, _, _, rfl, h3, h4, h5, ?_⟩
    walk_at "u"
    refine ⟨by walk_at "l", by walk_at "l", by walk_at "l", _, ht, t, rfl, Nat.le_refl _, h1, h2, ?_⟩
    walk_at "u"
    refine ⟨by walk_at "l", by walk_at "l", by walk_at "l", fun h => ?_, fun h => ?_⟩
    · rw [if_pos h] at q
      walk_at "u"
      exact q
    · rw [if_neg h] at q
      walk_at "u"
      have := fig_log hf
      walk_at "f"
abbrev s_term_text : Stmt := top 35
abbrev n_term_text : List Str := ["term", "items", "constant", "factor", "pieces", "texts", "at", "text", "thing"]
theorem sc_term_text : FnScope n_term_text ["term"] (defScope s_term_text) := ⟨rfl, rfl, rfl, by decide +kernel, rfl, by decide +kernel, by decide +kernel⟩
theorem ok_term {f : Addr} {fd : FuncData} {j n : Nat} (Fu : Fun K "term_text" "term_text" s_term_text f fd) (T : TN mg) (D_item_text : Df P w K mg base j "_item_text" ["size", "thing"] (spD K mg false (fItem n))) : FnOk P w K mg base CX0 (j + 1) f fd ["term"] (spD K mg false (fTerm n)) := by
  refine fn_pd Fu sc_term_text (fun ds k xk h => by obtain ⟨t, rfl, _⟩ := h; rfl) fun cdv A outer s H E C ds k xk hr Fi hu φ => ?_
  have nd := sc_term_text.nd
  refine ⟨_, _, (qss_cons (qs_asg (pd_var (pv 0)) (qg_tup (n := 2) Fi rfl (qgs_cons (qg_name (pg_name (i := 1) nd rfl (Or.inl rfl))) (qgs_cons (qg_name (pg_name (i := 2) nd rfl (Or.inl rfl))) qgs_nil))))
      (qss_cons (qs_setLc (i := 4) (own := [("factor", 3), ("thing", 8)]) rfl nd rfl rfl (sw_true rfl rfl rfl (by decide +kernel)) (qi_tup Fi (pd_var (pv 1))) (blkOk_by (own := [("factor", 3), ("thing", 8)]) (N := n_term_text) (sc := defScope s_term_text) (by decide +kernel)) (fun _ _ _ _ _ => (qg_tup (n := 2) (Fi.blk) rfl (qgs_cons (qg_name (pg_name (i := 3) nd rfl (Or.inl rfl))) (qgs_cons (qg_name (pg_name (i := 8) nd rfl (Or.inl rfl))) qgs_nil)))) (fun _ _ _ _ _ => qts_nil) (fun _ _ _ _ _ => (pd_tup (qa_cons (pd_var (pv 3)) (qa_cons (pd_call (Fi.blk) D_item_text hr (Nat.le_refl _) (qa_cons (pd_callB1 call_abs l_abs (by rfl) T.abs (by decide +kernel) (pb_var (pv 3))) (qa_cons (pd_var (pv 8)) qa_nil))) qa_nil)))))
      (qss_cut (qs_ifC (qt_w (qw_or (qt_cmpV (op_neA hr.units) (l_ne Fi) (pv 2) (PD.b pd_int) (nomark _)) (qw_or1 (qt_not (qt_truth Fi (pb_var (pv 1)))))))
      (qss_one (qs_expr (pd_app (pv 4) (pd_tup (qa_cons (pd_var (pv 2)) (qa_cons (pd_callTy1 call_str_int l_str (by rfl) T.str (by decide +kernel) (PD.b (pd_callB1 call_abs l_abs (by rfl) T.abs (by decide +kernel) (pb_var (pv 2))))) qa_nil))))))
      qss_nil)
      (qss_cons (qs_set (i := 5) nd rfl (Or.inl rfl) (pd_lst qa_nil))
      (qss_cons (qs_for PassesOwn.never rfl (qi_enum Fi (by rfl) T.enumerate (pd_var (pv 4))) (qg_tup (n := 2) Fi rfl (qgs_cons (qg_name (pg_name (i := 6) nd rfl (Or.inl rfl))) (qgs_cons (qg_tup (n := 2) Fi rfl (qgs_cons (qg_name (pg_name (i := 3) nd rfl (Or.inl rfl))) (qgs_cons (qg_name (pg_name (i := 7) nd rfl (Or.inl rfl))) qgs_nil))) qgs_nil)))
      (qss_one (qs_if (qt_cmpV (op_eqA hr.units) (l_eq Fi) (pv 6) (PD.b pd_int) (nomark _))
        (qss_one (qs_expr (pd_app (pv 5) (pd_if (qt_cmpV op_ltA l_ord (pv 3) (PD.b pd_int) (nomark _)) (pd_joined (.cons pd_str (.cons (pd_fmt (pb_var (pv 7))) .nil))) (pd_var (pv 7))))))
        (qss_one (qs_expr (pd_app (pv 5) (pd_if (qt_cmpV op_ltA l_ord (pv 3) (PD.b pd_int) (nomark _)) (pd_joined (.cons pd_str (.cons (pd_fmt (pb_var (pv 7))) .nil))) (pd_joined (.cons pd_str (.cons (pd_fmt (pb_var (pv 7))) .nil))))))))))
      (qss_one (qs_ret (pd_join Fi pd_str (pd_var (pv 5)))))))))), ?_⟩
  obtain ⟨t, rfl, h0, h1, h2, q⟩ := φ
  unfold Tm.d
  walk_at "u"
  have hc := t.cnt_sz
  have hl := t.pcs_len
  refine lc_fix (fun ds acc => ∃ r : Tm, ds = r.its ∧ r.dp ≤ n ∧ r.ok ∧ r.sz ≤ 10000000 ∧ acc ++ pdD r.pcs = pdD t.pcs) ⟨t, rfl, h0, h1, h2, rfl⟩ (fun acc h => ?_) (fun d ds acc N h hN => ?_)
  · have e : acc = pdD t.pcs := by
      obtain ⟨r, e, _, _, _, e2⟩ := h
      cases r with
      | con c => simpa [pdD, Tm.pcs] using e2
      | nm => cases e
      | fl => cases e
    subst e
    walk_at "u"
    refine cutS 4 (.ol (pdD (endP t.c t.pcs))) ?_ ?_
    · walk_at "u"
      refine ifC (t.c ≠ 0 ∨ t.pcs = []) ?_ (fun h => ?_) (fun h => ?_)
      · walk_at "u"
        refine ⟨fun hz => ?_, fun hz => ?_⟩
        · walk_at "u"
          have e3 : t.its.isEmpty = true ↔ t.pcs = [] := by
            rw [List.isEmpty_iff, ← List.length_eq_zero_iff, ← List.length_eq_zero_iff, t.its_len, t.pcs_len]
          have e4 : t.its = [] ↔ t.pcs = [] := by rw [← e3, List.isEmpty_iff]
          simp [hz, e4]
        · walk_at "u"
          simp [hz]
      · walk_at "u"
        refine ⟨fig_log (aI_fig (Tm.c_ok h1)), by rw [pdD, List.length_map]; omega, ?_⟩
        rw [endP, if_pos h, pdD, pdD, List.map_append]
        rfl
      · walk_at "u"
        rw [endP, if_neg h]
    · walk_at "u"
      have le : (endP t.c t.pcs).length ≤ t.cnt + 1 := by have := endP_cnt t.c t.pcs; omega
      have hx := end_len (ps := t.pcs) (Tm.c_ok h1)
      have hy := Tm.cat_len h1
      refine loop_at (fun ρ0 ds ρ => ∃ (pre ps : List (Int × Str)) (v3 v6 v7 : Option Sl), endP t.c t.pcs = pre ++ ps ∧ ds = enF pre.length (pdD ps) ∧ ρ = (((ρ0.set 5 (some (.ol ((jnT pre).map .str)))).set 3 v3).set 6 v6).set 7 v7) ⟨[], endP t.c t.pcs, none, none, none, rfl, enumD_eq _, rfl⟩ (fun ρ h => ?_) (fun d ds ρ N h hN => ?_)
      · obtain ⟨pre, ps, v3, v6, v7, e1, e2, rfl⟩ := h
        cases ps with
        | cons p ps => cases e2
        | nil =>
          rw [List.append_nil] at e1
          subst e1
          walk_at "u"
          have := jnT_sum (endP t.c t.pcs)
          refine ⟨_, strs_map _, by rw [l_emp]; omega, ?_⟩
          rw [jnT_join]
          exact q
      · obtain ⟨pre, ps, v3, v6, v7, e1, e2, rfl⟩ := h
        cases ps with
        | nil => cases e2
        | cons p ps =>
          obtain ⟨f, x⟩ := p
          obtain ⟨rfl, rfl⟩ := List.cons.inj e2
          have lc : pre.length + 1 ≤ t.cnt + 1 := by
            have := congrArg List.length e1
            rw [List.length_append, List.length_cons] at this
            omega
          have lx : x.length + 3 ≤ t.sz := by
            have : (catP (endP t.c t.pcs)).length = (catP pre).length + (catP ((f, x) :: ps)).length := by
              rw [e1, cat_app, len_app]
            simp only [catP, len_app, tlP_len] at this
            omega
          have nx := hN _ ⟨pre ++ [(f, x)], ps, some (.fz (.int f)), some (.fz (.int pre.length)), some (.fz (.str x)), by rw [e1]; simp, by rw [List.length_append]; rfl, rfl⟩
          rw [jnT_snoc] at nx
          rw [List.map_append] at nx
          walk_at "u"
          have hp : ((pre.length : Int) = 0) ↔ pre = [] := by rw [← List.length_eq_zero_iff]; omega
          have lp : ((jnT pre).map D.str).length < 1000000 := by rw [List.length_map, jnT_len]; omega
          refine ⟨fun h5 => ?_, fun h5 => ?_⟩
          · rw [if_pos (hp.mp h5), hdP] at nx
            walk_at "u"
            refine ⟨fun h6 => ?_, fun h6 => ?_⟩
            · rw [if_pos h6] at nx
              walk_at "u"
              refine ⟨by walk_at "l", by walk_at "l", by walk_at "l", lp, nx⟩
            · rw [if_neg h6] at nx
              walk_at "u"
              refine ⟨lp, nx⟩
          · rw [if_neg (fun z => h5 (hp.mpr z)), tlP] at nx
            walk_at "u"
            refine ⟨fun h6 => ?_, fun h6 => ?_⟩
            · rw [if_pos h6] at nx
              walk_at "u"
              refine ⟨by walk_at "l", by walk_at "l", by walk_at "l", lp, nx⟩
            · rw [if_neg h6] at nx
              walk_at "u"
              refine ⟨by walk_at "l", by walk_at "l", by walk_at "l", lp, nx⟩
  · obtain ⟨r, e, g0, g1, g2, e2⟩ := h
    have la : acc.length < 1000000 := by
      have := congrArg List.length e2
      rw [List.length_append, pdD, pdD, List.length_map, List.length_map, r.pcs_len, t.pcs_len, ← r.its_len, ← e, List.length_cons] at this
      omega
    cases r with
    | con c => cases e
    | nm f x r =>
      obtain ⟨rfl, rfl⟩ := List.cons.inj e
      walk_at "u"
      obtain ⟨g3, g4, g5⟩ := g1
      simp only [Tm.sz] at g2
      have g6 := r.cnt_sz
      refine ⟨aI f, aI_fig g3, .inl ⟨x, rfl, by omega, ?_⟩⟩
      walk_at "u"
      exact ⟨la, hN _ ⟨r, rfl, g0, g5, by omega, by rw [← e2]; simp [pdD, Tm.pcs]⟩⟩
    | fl f i j m u r =>
      obtain ⟨rfl, rfl⟩ := List.cons.inj e
      walk_at "u"
      obtain ⟨g3, g4, g5, g6, g7, g8⟩ := g1
      simp only [Tm.sz] at g2
      simp only [Tm.dp] at g0
      have g9 := u.cnt_sz
      refine ⟨aI f, aI_fig g3, .inr ⟨i, j, m, u, rfl, by omega, g7, by omega, g4, g5, g6, ?_⟩⟩
      walk_at "u"
      exact ⟨la, hN _ ⟨r, rfl, by omega, g8, by omega, by rw [← e2]; simp [pdD, Tm.pcs]; rfl⟩⟩
theorem fTerm_mono (m n : Nat) (h : m ≤ n) (ds : List D) (κ : Sl → Prop) (e : Exc → Prop) : fTerm m ds κ e → fTerm n ds κ e := fun ⟨t, h1, h2, h3⟩ => ⟨t, h1, Nat.le_trans h2 h, h3⟩
theorem all_term {f f' : Addr} {fd fd' : FuncData} {k : Nat} (Ft : Fun K "term_text" "term_text" s_term_text f fd) (Fi : Fun K "_item_text" "_item_text" s_item_text f' fd') (T : TN mg) (D_slope_text : Df P w K mg base k "slope_text" ["slope"] (spD K mg false fSlope))
    (bt : Binds K fd ["term"] []) (bi : Binds K fd' ["size", "thing"] []) (mt : mg "term_text" = some (.ref f)) (mi : mg "_item_text" = some (.ref f')) : ∀ n : Nat, FnOk P w K mg base CX0 (k + 2 * n + 2) f fd ["term"] (spD K mg false (fTerm n)) :=
  rec_fn k 2 fTerm_mono fun n j hj IH => ok_term Ft T ⟨_, _, ok_item Fi T (dmono D_slope_text hj) ⟨_, _, IH, bt, mt, Ft.kp⟩, bi, mi, Fi.kp⟩
end
end Q

set_option autoImplicit false
set_option linter.all false
/-! P3: the texts of sayings -/
namespace Q
open PySem L2
open RF (top Df e_app app_e len_app s_assoc join_one join_nil join_len)
local macro_rules | `(tactic| walk_at "u") => `(tactic| simp (config := { dsimp := false }) only [↓CL_of, ↓IT_of, ↓LC_of, ↓LP_of, ↓WH_of, ↓CT_of, ↓IC_of, ↓SC_of, ↓wSeq, ↓wIfS, ↓wYes, ↓wOpV, ↓wOp, ↓wC, ↓wUn, ↓wRet, ↓wJoin, ↓wJs, ↓wArg, ↓wCons, ↓wVar, ↓wBor, ↓wMv, ↓wSet, ↓wAsg, ↓wNm, ↓wTg, ↓wGCons, ↓wApp, ↓wPop, ↓wExt, ↓wSub, ↓wDrop, ↓wPar, ↓wAug, ↓wAnd, ↓wOr, ↓wNot, ↓wTru, truP, ↓wIf, ↓wAndV, ↓wOrV, ↓wNotV, ↓wChain, ↓wSl, ↓wSlV, ↓wPart, ↓wM1, ↓wMN, pStarts, pEnds, pRfind, pStripC, pParts, pStarts3, pFind3, pSS, pSSI, pMax3, ↓wFor, ↓wLc, ↓wList, ↓wTupI, ↓wRng1, ↓wRng2, ↓wEnum, ↓wZip, ↓wRevI, ↓wStrI, ↓wKw, pCallV, wipeE, pTupN, pLstN, pIx, pSl, pRev, pLen, pAbs, pInt, pBool, pStr, pList, pTuple, pSum, pNums, pBls, pIsi, pIsi2, tyN, aI_fold, cutD1, inD_nil, inD_cons, Bool.or_eq_true, decide_eq_true_eq, Bool.or_false, Bool.false_or, Bool.true_or, Bool.or_true, decide_true, decide_false, or_false, false_or, or_true, true_or, List.all_cons, List.all_nil, Bool.and_self, Bool.not_true, Bool.not_false, iff_self, if_true, if_false, Bool.false_eq_true, ofS_inj, String.reduceEq, ati0, ati1, ati2, ati3, ati4, exists_and_left, isi_NoneType_bool, isi_NoneType_int, isi_NoneType_str, isi_NoneType_list, isi_NoneType_tuple, isi_bool_bool, isi_bool_int, isi_bool_str, isi_bool_list, isi_bool_tuple, isi_int_bool, isi_int_int, isi_int_str, isi_int_list, isi_int_tuple, isi_str_bool, isi_str_int, isi_str_str, isi_str_list, isi_str_tuple, isi_list_bool, isi_list_int, isi_list_str, isi_list_list, isi_list_tuple, isi_tuple_bool, isi_tuple_int, isi_tuple_str, isi_tuple_list, isi_tuple_tuple, isi_dict_bool, isi_dict_int, isi_dict_str, isi_dict_list, isi_dict_tuple, mi_bool, mi_int, mi_str, mi_list, mi_tuple, pI2, pI2N, pAdd, pSub, pMul, pNeg, pEqF, pOrd, pIs, pIn, isNon, D.told, D.flat, pFmt, pDivmod, startE, fzs, List.map_cons, List.map_nil, List.length_cons, List.length_nil, List.cons_append, List.nil_append, List.replicate, get_s, get_z, List.set_cons_zero, List.set_cons_succ, Option.some.injEq, exists_eq', true_and, and_true, exists_eq_left', Sl.toD, Nat.sub_self, Nat.reduceAdd, Nat.reduceLeDiff, Nat.reduceLT, Int.reduceToNat, Nat.reduceSub, scalD, eqD_int, eqD_str, eqD_tt, eqD_ff, eqD_tf, eqD_ft, id_eq, reduceCtorEq, false_implies, implies_true, D.int.injEq, D.str.injEq, D.lst.injEq, D.tup.injEq, Sl.fz.injEq, Sl.ol.injEq, RF.e_app, RF.app_e, RF.emp_eq, IT_t, IT_f, IT_T, IT_F, IT_d, IT_n, IT_not])
local macro_rules | `(tactic| walk_at "l") => `(tactic| first | omega | (simp only [RF.len_app, RF.e_app, RF.app_e, RF.emp_eq, sizeLine_eq, l_dash, l_plus, l_r, l_emp, l_lp, l_rpd, l_slash, l_star, l_sp1, l_sp2, l_flo, l_com, l_rp, l_le, l_equ, l_und, l_lea, l_not, l_allS, l_some, l_spc, l_ors, l_ands, List.map_cons, List.map_nil, List.sum_cons, List.sum_nil, List.length_cons, List.length_nil, List.length_map, List.length_append, List.length_replicate, List.length_range] <;> omega))
local macro_rules | `(tactic| walk_at "f") => `(tactic| ((repeat' apply And.intro) <;> first | assumption | walk_at "l"))
local macro_rules | `(tactic| walk_at "s") => `(tactic| (repeat (refine And.intro (by walk_at "l") ?_)))
/-- a comparison -/
def Sy.cmp : Sy → Bool
  | .eq _ _ _ => true
  | .un _ _ _ _ _ => true
  | .lv _ _ _ => true
  | _ => false
def fCmp (n : Nat) : Ph := fun ds k _ => ∃ s : Sy, ds = [s.d] ∧ s.cmp = true ∧ s.tdp ≤ n ∧ s.ok ∧ s.sz ≤ 10000000 ∧ k (.fz (.str s.tx))
def fSay (n m : Nat) : Ph := fun ds k _ => ∃ s : Sy, ds = [s.d] ∧ s.dp ≤ m ∧ s.tdp ≤ n ∧ s.ok ∧ s.sz ≤ 10000000 ∧ k (.fz (.str s.tx))
end Q

set_option autoImplicit false
set_option linter.all false
/-! LX: the law's own texts -/
namespace Q
open PySem L2
open RF (top Df e_app app_e len_app s_assoc join_one join_nil join_len)
local macro_rules | `(tactic| walk_at "u") => `(tactic| simp (config := { dsimp := false }) only [↓CL_of, ↓IT_of, ↓LC_of, ↓LP_of, ↓WH_of, ↓CT_of, ↓IC_of, ↓SC_of, ↓wSeq, ↓wIfS, ↓wYes, ↓wOpV, ↓wOp, ↓wC, ↓wUn, ↓wRet, ↓wJoin, ↓wJs, ↓wArg, ↓wCons, ↓wVar, ↓wBor, ↓wMv, ↓wSet, ↓wAsg, ↓wNm, ↓wTg, ↓wGCons, ↓wApp, ↓wPop, ↓wExt, ↓wSub, ↓wDrop, ↓wPar, ↓wAug, ↓wAnd, ↓wOr, ↓wNot, ↓wTru, truP, ↓wIf, ↓wAndV, ↓wOrV, ↓wNotV, ↓wChain, ↓wSl, ↓wSlV, ↓wPart, ↓wM1, ↓wMN, pStarts, pEnds, pRfind, pStripC, pParts, pStarts3, pFind3, pSS, pSSI, pMax3, ↓wFor, ↓wLc, ↓wList, ↓wTupI, ↓wRng1, ↓wRng2, ↓wEnum, ↓wZip, ↓wRevI, ↓wStrI, ↓wKw, pCallV, wipeE, pTupN, pLstN, pIx, pSl, pRev, pLen, pAbs, pInt, pBool, pStr, pList, pTuple, pSum, pNums, pBls, pIsi, pIsi2, tyN, aI_fold, cutD1, inD_nil, inD_cons, Bool.or_eq_true, decide_eq_true_eq, Bool.or_false, Bool.false_or, Bool.true_or, Bool.or_true, decide_true, decide_false, or_false, false_or, or_true, true_or, List.all_cons, List.all_nil, Bool.and_self, Bool.not_true, Bool.not_false, iff_self, if_true, if_false, Bool.false_eq_true, ofS_inj, String.reduceEq, ati0, ati1, ati2, ati3, ati4, exists_and_left, isi_NoneType_bool, isi_NoneType_int, isi_NoneType_str, isi_NoneType_list, isi_NoneType_tuple, isi_bool_bool, isi_bool_int, isi_bool_str, isi_bool_list, isi_bool_tuple, isi_int_bool, isi_int_int, isi_int_str, isi_int_list, isi_int_tuple, isi_str_bool, isi_str_int, isi_str_str, isi_str_list, isi_str_tuple, isi_list_bool, isi_list_int, isi_list_str, isi_list_list, isi_list_tuple, isi_tuple_bool, isi_tuple_int, isi_tuple_str, isi_tuple_list, isi_tuple_tuple, isi_dict_bool, isi_dict_int, isi_dict_str, isi_dict_list, isi_dict_tuple, mi_bool, mi_int, mi_str, mi_list, mi_tuple, pI2, pI2N, pAdd, pSub, pMul, pNeg, pEqF, pOrd, pIs, pIn, isNon, D.told, D.flat, pFmt, pDivmod, startE, fzs, List.map_cons, List.map_nil, List.length_cons, List.length_nil, List.cons_append, List.nil_append, List.replicate, get_s, get_z, List.set_cons_zero, List.set_cons_succ, Option.some.injEq, exists_eq', true_and, and_true, exists_eq_left', Sl.toD, Nat.sub_self, Nat.reduceAdd, Nat.reduceLeDiff, Nat.reduceLT, Int.reduceToNat, Nat.reduceSub, scalD, eqD_int, eqD_str, eqD_tt, eqD_ff, eqD_tf, eqD_ft, id_eq, reduceCtorEq, false_implies, implies_true, D.int.injEq, D.str.injEq, D.lst.injEq, D.tup.injEq, Sl.fz.injEq, Sl.ol.injEq, RF.e_app, RF.app_e, RF.emp_eq, IT_t, IT_f, IT_T, IT_F, IT_d, IT_n, IT_not])
local macro_rules | `(tactic| walk_at "l") => `(tactic| first | omega | (simp only [RF.len_app, RF.e_app, RF.app_e, RF.emp_eq, sizeLine_eq, l_dash, l_plus, l_r, l_emp, l_lp, l_rpd, l_slash, l_star, l_sp1, l_sp2, l_flo, l_com, l_rp, l_le, l_equ, l_und, l_lea, l_not, l_allS, l_some, l_spc, l_ors, l_ands, List.map_cons, List.map_nil, List.sum_cons, List.sum_nil, List.length_cons, List.length_nil, List.length_map, List.length_append, List.length_replicate, List.length_range] <;> omega))
local macro_rules | `(tactic| walk_at "f") => `(tactic| ((repeat' apply And.intro) <;> first | assumption | walk_at "l"))
local macro_rules | `(tactic| walk_at "s") => `(tactic| (repeat (refine And.intro (by walk_at "l") ?_)))
section
variable {P : Program} {w : World} {K : PySem.W.Frag} {mg : Str → Option Value} {base : Heap}
abbrev s_law_step_text : Stmt := top 45
abbrev n_law_step_text : List Str := ["_law_slope_z", "_law_i", "_law_j", "_law_k", "_law_size", "_law_text_z"]
theorem sc_law_step_text : FnScope n_law_step_text ["_law_slope_z"] (defScope s_law_step_text) := ⟨rfl, rfl, rfl, by decide +kernel, rfl, by decide +kernel, by decide +kernel⟩
theorem ok_lstep {f : Addr} {fd : FuncData} {j : Nat} (Fu : Fun K "_law_step_text" "_law_step_text" s_law_step_text f fd) (T : TN mg) : FnOk P w K mg base CX0 (j + 1) f fd ["_law_slope_z"] (spD K mg false fSlope) := by
  refine fn_pd Fu sc_law_step_text (fun ds k xk h => by obtain ⟨i, j, m, rfl, _⟩ := h; rfl) fun cdv A outer s H E C ds k xk hr Fi hu φ => ?_
  have nd := sc_law_step_text.nd
  refine ⟨_, _, (qss_cons (qs_asg (pd_var (pv 0)) (qg_tup (n := 3) Fi rfl (qgs_cons (qg_name (pg_name (i := 1) nd rfl (Or.inl rfl))) (qgs_cons (qg_name (pg_name (i := 2) nd rfl (Or.inl rfl))) (qgs_cons (qg_name (pg_name (i := 3) nd rfl (Or.inl rfl))) qgs_nil)))))
      (qss_cons (qs_setC (i := 4) nd rfl (Or.inl rfl) (pd_if (qt_cmp (op_eqA hr.units) (l_eq Fi) (pd_callB1 call_abs l_abs (by rfl) T.abs (by decide +kernel) (pb_var (pv 2))) (PD.b pd_int) (nomark _)) pd_str (pd_callTy1 call_str_int l_str (by rfl) T.str (by decide +kernel) (PD.b (pd_callB1 call_abs l_abs (by rfl) T.abs (by decide +kernel) (pb_var (pv 2)))))))
      (qss_cons (qs_setC (i := 5) nd rfl (Or.inl rfl) (pd_if (qt_cmpV (op_eqA hr.units) (l_eq Fi) (pv 2) (PD.b pd_int) (nomark _)) (pd_callTy1 call_str_int l_str (by rfl) T.str (by decide +kernel) (pb_var (pv 1))) (pd_op op_addA (l_add Fi) (pd_op op_addA (l_add Fi) (pd_if (qt_cmpV op_ltA l_ord (pv 2) (PD.b pd_int) (nomark _)) pd_str pd_str) (pb_var (pv 4))) (PD.b pd_str))))
      (qss_cut (qs_ifC (qt_w (qw_and (qt_cmpV (op_neA hr.units) (l_ne Fi) (pv 1) (PD.b pd_int) (nomark _)) (qw_and1 (qt_cmpV (op_neA hr.units) (l_ne Fi) (pv 2) (PD.b pd_int) (nomark _)))))
      (qss_one (qs_set (i := 5) nd rfl (Or.inl rfl) (pd_op op_addA (l_add Fi) (pd_op op_addA (l_add Fi) (pd_op op_addA (l_add Fi) (pd_callTy1 call_str_int l_str (by rfl) T.str (by decide +kernel) (pb_var (pv 1))) (PD.b (pd_if (qt_cmpV op_ltA l_ord (pv 2) (PD.b pd_int) (nomark _)) pd_str pd_str))) (pb_var (pv 4))) (PD.b pd_str))))
      qss_nil)
      (qss_cons (qs_if (qt_cmpV (op_eqA hr.units) (l_eq Fi) (pv 3) (PD.b pd_int) (nomark _))
      (qss_one (qs_ret (pd_mv (pv 5))))
      qss_nil)
      (qss_one (qs_ret (pd_if (qt_w (qw_and (qt_cmpV (op_neA hr.units) (l_ne Fi) (pv 1) (PD.b pd_int) (nomark _)) (qw_and1 (qt_cmpV (op_neA hr.units) (l_ne Fi) (pv 2) (PD.b pd_int) (nomark _))))) (pd_op op_addA (l_add Fi) (pd_op op_addA (l_add Fi) (pd_op op_addA (l_add Fi) pd_str (pb_var (pv 5))) (PD.b pd_str)) (PD.b (pd_callTy1 call_str_int l_str (by rfl) T.str (by decide +kernel) (pb_var (pv 3))))) (pd_op op_addA (l_add Fi) (pd_opV op_addA (l_add Fi) (pv 5) (PD.b pd_str)) (PD.b (pd_callTy1 call_str_int l_str (by rfl) T.str (by decide +kernel) (pb_var (pv 3))))))))))))), ?_⟩
  obtain ⟨i, j, m, rfl, hi, hj, hm, q⟩ := φ
  have l0 := tS_len (by decide) hi
  have l1 := tS_len (by decide) (aI_fig hj)
  have l2 := tS_len (by decide) hm
  have l3 := sumS_len (by decide) hi hj
  have l4 : (szS j).length ≤ 61 := by unfold szS; split <;> walk_at "l"
  walk_at "u"
  refine setC (.fz (.str (szS j))) ?_ ?_
  · walk_at "u"
    unfold szS
    refine ⟨fun h => ?_, fun h => ?_⟩
    · rw [if_pos h]
      walk_at "u"
    · rw [if_neg h]
      walk_at "u"
      exact fig_log (aI_fig hj)
  walk_at "u"
  refine setC (.fz (.str (if j = 0 then tS i else mulS j))) ?_ ?_
  · walk_at "u"
    refine ⟨fun h => ?_, fun h => ?_⟩
    · rw [if_pos h]
      walk_at "u"
      exact fig_log hi
    · rw [if_neg h]
      walk_at "u"
      unfold mulS
      refine ⟨fun h => ?_, fun h => ?_⟩
      · rw [if_pos h]
        walk_at "u"
        walk_at "f"
      · rw [if_neg h]
        walk_at "u"
        walk_at "f"
  walk_at "u"
  refine cutS 5 (.fz (.str (sumS i j))) ?_ ?_
  · walk_at "u"
    refine ifC (i ≠ 0 ∧ j ≠ 0) ?_ (fun h => ?_) (fun h => ?_)
    · walk_at "u"
      refine ⟨fun h2 => ?_, fun h2 => ?_⟩
      · walk_at "u"
        simp [h2]
      · walk_at "u"
        simp [h2]
    · walk_at "u"
      refine ⟨fig_log hi, fun h2 => ?_, fun h2 => ?_⟩
      · rw [sumS_neg h.1 h2]
        walk_at "u"
        walk_at "f"
      · rw [sumS_pos h.1 h.2 h2]
        walk_at "u"
        walk_at "f"
    · walk_at "u"
      rw [sumS_else h]
  walk_at "u"
  unfold stS at q
  refine ⟨fun h => ?_, fun h => ?_⟩
  · rw [if_pos h] at q
    walk_at "u"
    exact q
  rw [if_neg h] at q
  walk_at "u"
  refine ⟨fun h1 => ?_, fun h1 => ?_⟩
  · rw [if_neg (by omega)] at q
    walk_at "u"
    have := fig_log hm
    walk_at "f"
  walk_at "u"
  refine ⟨fun h2 => ?_, fun h2 => ?_⟩
  · rw [if_neg (by omega)] at q
    walk_at "u"
    have := fig_log hm
    walk_at "f"
  · rw [if_pos ⟨h1, h2⟩] at q
    walk_at "u"
    have := fig_log hm
    walk_at "f"
/-- what stands in an item -/
def fThing (n : Nat) : Ph := fun ds k _ => (∃ x : Str, ds = [.str x] ∧ k (.fz (.str x))) ∨
  ∃ (i j m : Int) (t : Tm), ds = [.tup [.str "floor", .tup [.int i, .int j, .int m], t.d]] ∧ t.dp < n ∧ t.ok ∧ t.sz ≤ 10000000 ∧ Fig 60 i ∧ Fig 60 j ∧ Fig 60 m ∧ k (.fz (.str (flS (stS i j m) t.tx)))
abbrev s_law_thing_text : Stmt := top 46
abbrev n_law_thing_text : List Str := ["_law_thing"]
theorem sc_law_thing_text : FnScope n_law_thing_text ["_law_thing"] (defScope s_law_thing_text) := ⟨rfl, rfl, rfl, by decide +kernel, rfl, by decide +kernel, by decide +kernel⟩
theorem ok_lthing {f : Addr} {fd : FuncData} {j n : Nat} (Fu : Fun K "_law_thing_text" "_law_thing_text" s_law_thing_text f fd) (T : TN mg) (D_law_step_text : Df P w K mg base j "_law_step_text" ["_law_slope_z"] (spD K mg false fSlope)) (D_law_term_text : Df P w K mg base j "_law_term_text" ["_law_term_z"] (spD K mg false (below fTerm n))) : FnOk P w K mg base CX0 (j + 1) f fd ["_law_thing"] (spD K mg false (fThing n)) := by
  refine fn_pd Fu sc_law_thing_text (fun ds k xk h => by obtain ⟨x, rfl, _⟩ | ⟨_, _, _, _, rfl, _⟩ := h <;> rfl) fun cdv A outer s H E C ds k xk hr Fi hu φ => ?_
  have nd := sc_law_thing_text.nd
  refine ⟨_, _, (qss_cons (qs_if (qt_val (PD.b (pd_callB call_isi (l_isi Fi) (by rfl) T.isinstance (by decide +kernel) (qa_cons (pd_var (pv 0)) (qa_cons (pd_ty (n := "str") (by rfl) T.str (by decide +kernel)) qa_nil)))))
      (qss_one (qs_ret (pd_mv (pv 0))))
      qss_nil)
      (qss_one (qs_ret (pd_op op_addA (l_add Fi) (pd_op op_addA (l_add Fi) (pd_op op_addA (l_add Fi) (pd_op op_addA (l_add Fi) pd_str (PD.b (pd_call Fi D_law_step_text hr (Nat.le_refl _) (qa_cons (pd_ixV ix_seq (l_ix Fi) (pv 0) (PD.b pd_int) (fun _ _ => rfl)) qa_nil)))) (PD.b pd_str)) (PD.b (pd_call Fi D_law_term_text hr (Nat.le_refl _) (qa_cons (pd_ixV ix_seq (l_ix Fi) (pv 0) (PD.b pd_int) (fun _ _ => rfl)) qa_nil)))) (PD.b pd_str))))), ?_⟩
  obtain ⟨x, rfl, q⟩ | ⟨i, j, m, t, rfl, ht, h1, h2, h3, h4, h5, q⟩ := φ
  · walk_at "u"
    exact q
  · have l1 := stS_len (by decide) h3 h4 h5
    have l2 := t.tx_len h1
    walk_at "u"
    refine ⟨_, _, _, rfl, h3, h4, h5, ?_⟩
    walk_at "u"
    walk_at "s"
    refine ⟨t.dp, ht, t, rfl, Nat.le_refl _, h1, h2, ?_⟩
    walk_at "u"
    walk_at "f"
theorem Tm.view {n : Nat} {r : Tm} {d : D} {ds : List D} (e : d :: ds = r.its) (g0 : r.dp ≤ n) (g1 : r.ok) (g2 : r.sz ≤ 10000000) : ∃ (f : Int) (x : D) (y : Str) (r' : Tm), d = .tup [.int f, x] ∧ ds = r'.its ∧ r.pcs = (f, itS (aI f) y) :: r'.pcs ∧ Fig 60 f ∧ r'.dp ≤ n ∧ r'.ok ∧ r'.sz ≤ 10000000 ∧ 0 < y.length ∧
    ∀ (k : Sl → Prop) (e : Exc → Prop), k (.fz (.str y)) → fThing n [x] k e := by
  cases r with
  | con c => cases e
  | nm f x r =>
    obtain ⟨rfl, rfl⟩ := List.cons.inj e
    simp only [Tm.sz] at g2
    exact ⟨f, .str x, x, r, rfl, rfl, rfl, g1.1, g0, g1.2.2, by omega, g1.2.1.1, fun k e q => .inl ⟨x, rfl, q⟩⟩
  | fl f i j m u r =>
    obtain ⟨rfl, rfl⟩ := List.cons.inj e
    obtain ⟨g3, g4, g5, g6, g7, g8⟩ := g1
    simp only [Tm.sz] at g2
    simp only [Tm.dp] at g0
    exact ⟨f, _, flS (stS i j m) u.tx, r, rfl, rfl, rfl, g3, by omega, g8, by omega, by rw [flS_len]; omega, fun k e q => .inr ⟨i, j, m, u, rfl, by omega, g7, by omega, g4, g5, g6, q⟩⟩
abbrev s_law_term_text : Stmt := top 47
abbrev n_law_term_text : List Str := ["_law_term_z", "_law_found", "_law_factor", "_law_thing", "_law_text_z"]
theorem sc_law_term_text : FnScope n_law_term_text ["_law_term_z"] (defScope s_law_term_text) := ⟨rfl, rfl, rfl, by decide +kernel, rfl, by decide +kernel, by decide +kernel⟩
theorem ok_lterm {f : Addr} {fd : FuncData} {j n : Nat} (hn : n ≤ 14) (Fu : Fun K "_law_term_text" "_law_term_text" s_law_term_text f fd) (T : TN mg) (D_law_thing_text : Df P w K mg base j "_law_thing_text" ["_law_thing"] (spD K mg false (fThing n))) : FnOk P w K mg base CX0 (j + 1) f fd ["_law_term_z"] (spD K mg false (fTerm n)) := by
  refine fn_pd Fu sc_law_term_text (fun ds k xk h => by obtain ⟨t, rfl, _⟩ := h; rfl) fun cdv A outer s H E C ds k xk hr Fi hu φ => ?_
  have nd := sc_law_term_text.nd
  refine ⟨_, _, (qss_cons (qs_set (i := 1) nd rfl (Or.inl rfl) pd_str)
      (qss_cons (qs_for PassesOwn.never rfl (qi_tup Fi (pd_ixV ix_seq (l_ix Fi) (pv 0) (PD.b pd_int) (fun _ _ => rfl))) (qg_tup (n := 2) Fi rfl (qgs_cons (qg_name (pg_name (i := 2) nd rfl (Or.inl rfl))) (qgs_cons (qg_name (pg_name (i := 3) nd rfl (Or.inl rfl))) qgs_nil)))
      (qss_cons (qs_set (i := 4) nd rfl (Or.inl rfl) (pd_call Fi D_law_thing_text hr (Nat.le_refl _) (qa_cons (pd_var (pv 3)) qa_nil)))
        (qss_cons (qs_setC (i := 4) nd rfl (Or.inl rfl) (pd_if (qt_cmp (op_eqA hr.units) (l_eq Fi) (pd_callB1 call_abs l_abs (by rfl) T.abs (by decide +kernel) (pb_var (pv 2))) (PD.b pd_int) (nomark _)) (pd_var (pv 4)) (pd_op op_addA (l_add Fi) (pd_op op_addA (l_add Fi) (pd_callTy1 call_str_int l_str (by rfl) T.str (by decide +kernel) (PD.b (pd_callB1 call_abs l_abs (by rfl) T.abs (by decide +kernel) (pb_var (pv 2))))) (PD.b pd_str)) (pb_var (pv 4)))))
        (qss_one (qs_if (qt_cmpV (op_eqA hr.units) (l_eq Fi) (pv 1) (PD.b pd_str) (nomark _))
        (qss_one (qs_setC (i := 1) nd rfl (Or.inl rfl) (pd_if (qt_cmpV op_ltA l_ord (pv 2) (PD.b pd_int) (nomark _)) (pd_op op_addA (l_add Fi) pd_str (pb_var (pv 4))) (pd_var (pv 4)))))
        (qss_one (qs_set (i := 1) nd rfl (Or.inl rfl) (pd_op op_addA (l_add Fi) (pd_opV op_addA (l_add Fi) (pv 1) (PD.b (pd_if (qt_cmpV op_ltA l_ord (pv 2) (PD.b pd_int) (nomark _)) pd_str pd_str))) (pb_var (pv 4))))))))))
      (qss_cons (qs_if (qt_cmp (op_eqA hr.units) (l_eq Fi) (pd_ixV ix_seq (l_ix Fi) (pv 0) (PD.b pd_int) (fun _ _ => rfl)) (PD.b (pd_tup qa_nil)) (nomark _))
      (qss_one (qs_ret (pd_callTy1 call_str_int l_str (by rfl) T.str (by decide +kernel) (PD.b (pd_ixV ix_seq (l_ix Fi) (pv 0) (PD.b pd_int) (fun _ _ => rfl))))))
      qss_nil)
      (qss_cut (qs_if (qt_cmp (op_neA hr.units) (l_ne Fi) (pd_ixV ix_seq (l_ix Fi) (pv 0) (PD.b pd_int) (fun _ _ => rfl)) (PD.b pd_int) (nomark _))
      (qss_one (qs_set (i := 1) nd rfl (Or.inl rfl) (pd_op op_addA (l_add Fi) (pd_opV op_addA (l_add Fi) (pv 1) (PD.b (pd_if (qt_cmp op_ltA l_ord (pd_ixV ix_seq (l_ix Fi) (pv 0) (PD.b pd_int) (fun _ _ => rfl)) (PD.b pd_int) (nomark _)) pd_str pd_str))) (PD.b (pd_callTy1 call_str_int l_str (by rfl) T.str (by decide +kernel) (PD.b (pd_callB1 call_abs l_abs (by rfl) T.abs (by decide +kernel) (PD.b (pd_ixV ix_seq (l_ix Fi) (pv 0) (PD.b pd_int) (fun _ _ => rfl))))))))))
      qss_nil)
      (qss_one (qs_ret (pd_mv (pv 1)))))))), ?_⟩
  obtain ⟨t, rfl, h0, h1, h2, q⟩ := φ
  unfold Tm.d
  walk_at "u"
  have hc := t.cnt_sz
  have hl := t.pcs_len
  have hcl := Tm.cat_len h1
  refine loop_at (fun ρ0 ds ρ => ∃ (pre : List (Int × Str)) (r : Tm) (v2 v3 v4 : Option Sl), ds = r.its ∧ r.dp ≤ n ∧ r.ok ∧ r.sz ≤ 10000000 ∧ t.pcs = pre ++ r.pcs ∧ ρ = (((ρ0.set 1 (some (.fz (.str (jnP pre))))).set 2 v2).set 3 v3).set 4 v4) ⟨[], t, none, none, none, rfl, h0, h1, h2, rfl, rfl⟩ (fun ρ h => ?_) (fun d ds ρ N h hN => ?_)
  · obtain ⟨pre, r, v2, v3, v4, e, _, _, _, e2, rfl⟩ := h
    cases r with
    | nm => cases e
    | fl => cases e
    | con c =>
      simp only [Tm.pcs, List.append_nil] at e2
      subst e2
      walk_at "u"
      refine ⟨fun _ => ⟨Tm.okD h1 (by omega), rfl, by decide⟩, ?_⟩
      rw [t.emp]
      have hjn := jn_le_cat t.pcs
      have lc := tS_len (by decide) (aI_fig (Tm.c_ok h1))
      walk_at "u"
      refine ⟨fun h => ?_, fun h => ?_⟩
      · have e1 : t.tx = tS t.c := by
          show jnP (endP t.c t.pcs) = _
          rw [endP, if_pos (.inr h), h, tS_sgn t.c]
          simp only [List.nil_append, jnP, catP, app_e, hdP]
          by_cases hz : t.c < 0
          · rw [if_pos hz, if_pos hz]
          · rw [if_neg hz, if_neg hz, e_app]
        rw [e1] at q
        walk_at "u"
        exact ⟨fig_log (Tm.c_ok h1), q⟩
      walk_at "u"
      refine cutS 1 (.fz (.str t.tx)) ?_ ?_
      · walk_at "u"
        have e0 : t.tx = jnP (endP t.c t.pcs) := rfl
        have jn_snoc : ∀ (g : Int) (y : Str), jnP (t.pcs ++ [(g, y)]) = jnP t.pcs ++ tlP g y := fun g y => by
          cases hp : t.pcs with
          | nil => exact absurd hp h
          | cons p ps => simp only [jnP, List.cons_append, cat_snoc, s_assoc]
        refine ⟨fun hz => ?_, fun hz => ?_⟩
        · walk_at "u"
          rw [e0, endP, if_neg (by rw [hz]; simp [h])]
        · rw [endP, if_pos (.inl hz), jn_snoc, tlP] at e0
          walk_at "u"
          refine ⟨fun hy => ?_, fun hy => ?_⟩
          · rw [if_pos hy] at e0
            rw [e0]
            walk_at "u"
            have := fig_log (aI_fig (Tm.c_ok h1))
            rw [s_assoc]
            walk_at "f"
          · rw [if_neg hy] at e0
            rw [e0]
            walk_at "u"
            have := fig_log (aI_fig (Tm.c_ok h1))
            rw [s_assoc]
            walk_at "f"
      · walk_at "u"
        exact q
  · obtain ⟨pre, r, v2, v3, v4, e, g0, g1, g2, e2, rfl⟩ := h
    obtain ⟨f, x, y, r', rfl, rfl, e3, g3, g4, g5, g6, g7, gk⟩ := Tm.view e g0 g1 g2
    have hps := Tm.pcs_ne h1
    rw [e3] at e2
    have hle := hcl
    rw [e2, cat_app, len_app] at hle
    simp only [catP, len_app, tlP_len] at hle
    have hjn := jn_le_cat pre
    have lf := tS_len (by decide) (aI_fig g3)
    have hit : (itS (aI f) y).length ≤ 62 + y.length := itS_len (aI_fig g3)
    have nx := hN _ ⟨pre ++ [(f, itS (aI f) y)], r', some (.fz (.int f)), some (.fz x), some (.fz (.str (itS (aI f) y))), rfl, g4, g5, g6, by rw [e2]; simp, rfl⟩
    have hy : y.length ≤ (itS (aI f) y).length := by
      unfold itS
      split
      · exact Nat.le_refl _
      · simp only [len_app]; omega
    have jn0 : jnP pre = Str.empty ↔ pre = [] := by
      constructor
      · intro z
        cases pre with
        | nil => rfl
        | cons p ps =>
          have h3 := hps p (by rw [e2]; exact List.mem_cons_self)
          have h4 := congrArg Str.length z
          simp only [jnP, len_app, l_emp] at h4
          have : p.2.length ≤ (hdP p.1 p.2).length := by unfold hdP; split <;> first | omega | (simp only [len_app]; omega)
          omega
      · rintro rfl; rfl
    have jn_snoc : jnP (pre ++ [(f, itS (aI f) y)]) = jnP pre ++ if pre = [] then hdP f (itS (aI f) y) else tlP f (itS (aI f) y) := by
      cases pre with
      | nil => simp only [jnP, List.nil_append, catP, app_e, if_true, e_app]
      | cons p ps => simp only [jnP, List.cons_append, cat_snoc, s_assoc]; rw [if_neg (fun z => by cases z)]
    rw [jn_snoc] at nx
    walk_at "u"
    refine gk _ _ ?_
    walk_at "u"
    refine setC (.fz (.str (itS (aI f) y))) ?_ ?_
    · walk_at "u"
      refine ⟨fun h => ?_, fun h => ?_⟩
      · walk_at "u"
        rw [itS, if_pos h]
      · walk_at "u"
        rw [itS, if_neg h]
        have := fig_log (aI_fig g3)
        rw [itS, if_neg h] at hle
        simp only [len_app] at hle
        walk_at "f"
    walk_at "u"
    refine ⟨fun h => ?_, fun h => ?_⟩
    · rw [if_pos (jn0.mp h), h, hdP, e_app] at nx
      walk_at "u"
      refine setC (.fz (.str (if f < 0 then Str.ofString "-" ++ itS (aI f) y else itS (aI f) y))) ?_ ?_
      · walk_at "u"
        refine ⟨fun h2 => ?_, fun h2 => ?_⟩
        · rw [if_pos h2]
          walk_at "u"
          walk_at "f"
        · rw [if_neg h2]
          walk_at "u"
      · walk_at "u"
        exact nx
    · rw [if_neg (fun z => h (jn0.mpr z)), tlP] at nx
      walk_at "u"
      refine ⟨fun h2 => ?_, fun h2 => ?_⟩
      · rw [if_pos h2, ← s_assoc] at nx
        walk_at "u"
        walk_at "s"
        exact nx
      · rw [if_neg h2, ← s_assoc] at nx
        walk_at "u"
        walk_at "s"
        exact nx
theorem all_lterm {f f' : Addr} {fd fd' : FuncData} {k : Nat} (Ft : Fun K "_law_term_text" "_law_term_text" s_law_term_text f fd) (Fi : Fun K "_law_thing_text" "_law_thing_text" s_law_thing_text f' fd') (T : TN mg) (D_law_step_text : Df P w K mg base k "_law_step_text" ["_law_slope_z"] (spD K mg false fSlope))
    (bt : Binds K fd ["_law_term_z"] []) (bi : Binds K fd' ["_law_thing"] []) (mt : mg "_law_term_text" = some (.ref f)) (mi : mg "_law_thing_text" = some (.ref f')) (n : Nat) (hn : n ≤ 14) : FnOk P w K mg base CX0 (k + 2 * n + 2) f fd ["_law_term_z"] (spD K mg false (fTerm n)) :=
  spD_imp (rec_fn (Φ := fun n => fTerm (min n 14)) k 2 (fun m n h ds κ e => fTerm_mono _ _ (by omega) ds κ e) (fun n j hj IH => ok_lterm (by omega) Ft T ⟨_, _, ok_lthing (n := min n 14) Fi T (dmono D_law_step_text hj) ⟨_, _, spD_imp IH fun ds κ e z => (by
    obtain ⟨m, hm, z⟩ := z
    exact ⟨m, by omega, by show fTerm (min m 14) ds κ e; rw [Nat.min_eq_left (by omega)]; exact z⟩), bt, mt, Ft.kp⟩, bi, mi, Fi.kp⟩) n) fun ds κ e z => by show fTerm (min n 14) ds κ e; rw [Nat.min_eq_left hn]; exact z
end
end Q

set_option autoImplicit false
set_option linter.all false
/-! Rd: texts that are read from a place on -/
namespace Q
open PySem L2
open RF (sx cps_app s_assoc e_app app_e len_app emp_eq)
abbrev lz (x : Str) : List Nat := x.cps.toList
theorem lz_len (x : Str) : (lz x).length = x.length := Array.length_toList
theorem lz_wd (l : List Nat) : lz (wd l) = l := rfl
theorem wd_lz (x : Str) : wd (lz x) = x := rfl
/-- from n on stands r -/
def Dr (T : Str) (n : Nat) (r : List Nat) : Prop := (lz T).drop n = r ∧ n ≤ T.length
theorem Dr.zero (T : Str) : Dr T 0 (lz T) := ⟨rfl, Nat.zero_le _⟩
theorem Dr.len {T : Str} {n : Nat} {r : List Nat} (h : Dr T n r) : T.length = n + r.length := by
  obtain ⟨h1, h2⟩ := h
  have := congrArg List.length h1
  rw [List.length_drop, lz_len] at this
  omega
theorem Dr.on {T : Str} {n : Nat} {a r : List Nat} (h : Dr T n (a ++ r)) : Dr T (n + a.length) r := by
  have hl := h.len
  rw [List.length_append] at hl
  refine ⟨?_, by omega⟩
  rw [← List.drop_drop, h.1, List.drop_left]
theorem Dr.on1 {T : Str} {n : Nat} {c : Nat} {r : List Nat} (h : Dr T n (c :: r)) : Dr T (n + 1) r := Dr.on (a := [c]) h
theorem Dr.get {T : Str} {n : Nat} {r : List Nat} (h : Dr T n r) (i : Nat) : (lz T)[n + i]? = r[i]? := by rw [← h.1, List.getElem?_drop]
/-- x.startswith(y, n) -/
theorem Dr.starts {T : Str} {n : Nat} {r : List Nat} (h : Dr T n r) (y : Str) : Txt.startswith3 T y (n : Int) = (r.take y.length == lz y) := by
  have hl := h.len
  have e : PySem.fromIndex T.length (n : Int) = n := by unfold PySem.fromIndex; omega
  unfold Txt.startswith3
  rw [e, StrLaws.subAt_eq, show T.cps.toList.drop n = r from h.1]
  by_cases hc : n + y.length ≤ T.length
  · rw [decide_eq_true hc, Bool.true_and]
  · rw [decide_eq_false hc, Bool.false_and]
    symm
    rw [beq_eq_false_iff_ne]
    intro z
    have := congrArg List.length z
    rw [List.length_take, lz_len] at this
    omega
theorem starts0 (T y : Str) : Txt.startswith T y = ((lz T).take y.length == lz y) := by
  unfold Txt.startswith
  rw [StrLaws.subAt_eq, List.drop_zero]
  by_cases hc : 0 + y.length ≤ T.length
  · rw [decide_eq_true hc, Bool.true_and]
  · rw [decide_eq_false hc, Bool.false_and]
    symm
    rw [beq_eq_false_iff_ne]
    intro z
    have := congrArg List.length z
    rw [List.length_take, lz_len, lz_len] at this
    omega
theorem Dr.cut {T : Str} {n m : Nat} {r : List Nat} (h : Dr T n r) : L2.cutS T (some (n : Int)) (some ((n + m : Nat) : Int)) = wd (r.take m) := by
  have hl := h.len
  unfold L2.cutS
  have e1 : HT.sIx T.length 0 (some (n : Int)) = n := by rw [HT.sIx_nat]; omega
  have e2 : HT.sIx T.length T.length (some ((n + m : Nat) : Int)) = min (n + m) T.length := HT.sIx_nat ..
  rw [e1, e2, show T.cps.toList.drop n = r from h.1]
  unfold wd
  congr 2
  by_cases hc : n + m ≤ T.length
  · rw [Nat.min_eq_left hc, Nat.add_sub_cancel_left]
  · rw [Nat.min_eq_right (by omega), List.take_of_length_le (by omega), List.take_of_length_le (by omega)]
/-- T.find(',', n) -/
theorem at1 {T : Str} {c i : Nat} : StrLaws.At T (sgn c) T.length i ↔ (lz T)[i]? = some c := by
  unfold StrLaws.At
  rw [StrLaws.subAt_eq]
  show i + 1 ≤ T.length ∧ ((lz T).drop i).take 1 == [c] ↔ _
  rw [← lz_len]
  constructor
  · rintro ⟨h1, h2⟩
    rw [beq_iff_eq] at h2
    have := congrArg (·[0]?) h2
    simpa using this
  · intro h
    have h1 := (List.getElem?_eq_some_iff.mp h).1
    refine ⟨h1, ?_⟩
    rw [beq_iff_eq, List.drop_eq_getElem_cons h1]
    simp only [List.take_succ_cons, List.take_zero, List.cons.injEq, and_true]
    rw [List.getElem?_eq_getElem h1] at h
    exact Option.some.inj h
theorem Dr.find {T : Str} {n c : Nat} {a r : List Nat} (h : Dr T n (a ++ c :: r)) (ha : c ∉ a) : Txt.find3 T (sgn c) (n : Int) = ((n + a.length : Nat) : Int) := by
  have hl := h.len
  rw [List.length_append, List.length_cons] at hl
  have e : PySem.fromIndex T.length (n : Int) = n := by unfold PySem.fromIndex; omega
  have key : ∃ tl, Builtin.Str.occurrences T (sgn c) n T.length 1 = (n + a.length) :: tl := by
    rw [StrLaws.occ_eq]
    have hat : StrLaws.At T (sgn c) T.length (n + a.length) := at1.mpr (by rw [h.get, List.getElem?_append_right (Nat.le_refl _), Nat.sub_self]; rfl)
    rcases StrLaws.occ_first T (sgn c) T.length 1 (Nat.le_refl _) (List.range' n (T.length + 1 - n)) n (fun i hi => by rw [List.mem_range'] at hi; obtain ⟨_, _, rfl⟩ := hi; omega) with ⟨_, hn⟩ | ⟨pre, x, post, e2, h0, hx, hn⟩
    · exact absurd hat (hn _ (List.mem_range'.mpr ⟨a.length, by omega, by omega⟩))
    · have hx2 : x = n + pre.length := by
        have h1 : (List.range' n (T.length + 1 - n))[pre.length]? = some x := by rw [e2, List.getElem?_append_right (Nat.le_refl _), Nat.sub_self]; rfl
        have hb := (List.getElem?_eq_some_iff.mp h1).1
        rw [List.length_range'] at hb
        rw [List.getElem?_range' hb] at h1
        have := Option.some.inj h1
        omega
      have hpre : ∀ k, k < pre.length → n + k ∈ pre := by
        intro k hk
        have hb : k < T.length + 1 - n := by
          have := congrArg List.length e2
          rw [List.length_range', List.length_append] at this
          omega
        have h1 : (List.range' n (T.length + 1 - n))[k]? = some (n + k) := by rw [List.getElem?_range' hb]; simp
        rw [e2, List.getElem?_append_left hk] at h1
        exact List.mem_of_getElem? h1
      have hxa : x = n + a.length := by
        rcases Nat.lt_trichotomy pre.length a.length with hlt | heq | hgt
        · exfalso
          have := at1.mp hx
          rw [hx2, h.get, List.getElem?_append_left hlt] at this
          exact ha (List.mem_of_getElem? this)
        · omega
        · exact absurd hat (hn _ (hpre _ hgt))
      subst hxa
      generalize (forIn (List.range' n (T.length + 1 - n)) ((#[] : Array Nat), n) (StrLaws.occBody T (sgn c) T.length 1)).run.fst = arr at h0
      have h1 : arr.toList[0]? = some (n + a.length) := by simpa using h0
      cases hL : arr.toList with
      | nil => rw [hL] at h1; cases h1
      | cons b tl =>
        rw [hL] at h1
        exact ⟨tl, by rw [show b = _ from Option.some.inj h1]⟩
  obtain ⟨tl, key⟩ := key
  unfold Txt.find3
  rw [e, key]
end Q

set_option autoImplicit false
set_option linter.all false
/-! Rt: what is read: numbers, slopes, terms -/
namespace Q
open PySem L2
open RF (sx cps_app s_assoc e_app app_e len_app emp_eq)
abbrev dgt (c : Nat) : Bool := decide (48 ≤ c) && decide (c ≤ 57)
abbrev ltr (c : Nat) : Bool := decide (97 ≤ c) && decide (c ≤ 122)
/-- signs that are a whole number's -/
def Num (l : List Nat) (v : Int) : Prop := l.all dgt = true ∧ 1 ≤ l.length ∧ l.length ≤ 4 ∧ PySem.intText? (wd l) = some v
instance (l : List Nat) (v : Int) : Decidable (Num l v) := by unfold Num; infer_instance
theorem num_fin : ∀ n : Fin 1001, Num (lz (tS (n.val : Int))) (n.val : Int) := by decide +kernel
theorem num_ok {n : Int} (h : 0 ≤ n ∧ n ≤ 1000) : Num (lz (tS n)) n := by
  obtain ⟨m, rfl⟩ : ∃ m : Nat, n = m := ⟨n.toNat, by omega⟩
  exact num_fin ⟨m, by omega⟩
/-- a whole number with a sign -/
def Whl (l : List Nat) (v : Int) : Prop := if l.head? = some 45 then Num l.tail (-v) else if l.head? = some 43 then Num l.tail v else Num l v
instance (l : List Nat) (v : Int) : Decidable (Whl l v) := by unfold Whl; infer_instance
def Mul (l : List Nat) (v : Int) : Prop := if l = [] ∨ l = [43] then v = 1 else if l = [45] then v = -1 else Whl l v
instance (l : List Nat) (v : Int) : Decidable (Mul l v) := by unfold Mul; infer_instance
def sPart (s : Str) : Str × Str × Str := Txt.partition s (Str.ofString "/")
def sAbove (s : Str) : Str := Txt.stripChars (sPart s).1 (Str.ofString "()")
def sCut (s : Str) : Int := mx3 (Txt.rfind (sAbove s) (Str.ofString "+")) (Txt.rfind (sAbove s) (Str.ofString "-")) 0
/-- all that is found on the way through a slope's text -/
def SlT (i j k : Int) : Prop :=
  (44 ∉ lz (stS i j k) ∧ (stS i j k).length ≤ 100) ∧ ((sPart (stS i j k)).1.length ≤ 100 ∧ (sPart (stS i j k)).2.1.length ≤ 100 ∧ (sAbove (stS i j k)).length ≤ 100) ∧
  (((sPart (stS i j k)).2.1.length : Int) = 0 → k = 1) ∧ (((sPart (stS i j k)).2.1.length : Int) ≠ 0 → Whl (lz (sPart (stS i j k)).2.2) k) ∧
  (Txt.endswith (sAbove (stS i j k)) (Str.ofString "r") = false → j = 0 ∧ Whl (lz (sAbove (stS i j k))) i) ∧
  (Txt.endswith (sAbove (stS i j k)) (Str.ofString "r") = true → (0 < sCut (stS i j k) → Whl (lz (L2.cutS (sAbove (stS i j k)) none (some (sCut (stS i j k))))) i) ∧ (¬ 0 < sCut (stS i j k) → i = 0) ∧
    Mul (lz (L2.cutS (sAbove (stS i j k)) (some (sCut (stS i j k))) (some (-1)))) j)
instance (i j k : Int) : Decidable (SlT i j k) := by unfold SlT; infer_instance
theorem slt_fin : ∀ a : Fin 19, ∀ b : Fin 7, ∀ c : Fin 4, SlT ((a.val : Int) - 9) ((b.val : Int) - 3) ((c.val : Int) + 1) := by decide +kernel
theorem slt_ok {i j k : Int} (h : SlB i j k) : SlT i j k := by
  obtain ⟨⟨h1, h2⟩, ⟨h3, h4⟩, h5, h6⟩ := h
  have := slt_fin ⟨(i + 9).toNat, by omega⟩ ⟨(j + 3).toNat, by omega⟩ ⟨(k - 1).toNat, by omega⟩
  rw [show (((i + 9).toNat : Nat) : Int) - 9 = i by omega, show (((j + 3).toNat : Nat) : Int) - 3 = j by omega, show (((k - 1).toNat : Nat) : Int) + 1 = k by omega] at this
  exact this
/-! ### terms piece by piece -/
def catT : Tm → Str
  | .con c => if c ≠ 0 then tlP c (tS (aI c)) else Str.empty
  | .nm f x r => tlP f (itS (aI f) x) ++ catT r
  | .fl f i j k t r => tlP f (itS (aI f) (flS (stS i j k) t.tx)) ++ catT r
/-- the first piece, without its sign -/
def pieT : Tm → Str
  | .con c => tS (aI c)
  | .nm f x _ => itS (aI f) x
  | .fl f i j k t _ => itS (aI f) (flS (stS i j k) t.tx)
def fctT : Tm → Int
  | .con c => c
  | .nm f _ _ => f
  | .fl f _ _ _ _ _ => f
/-- what follows -/
def aftT : Tm → Str
  | .con _ => Str.empty
  | .nm _ _ r => catT r
  | .fl _ _ _ _ _ r => catT r
theorem catP_app : ∀ a b : List (Int × Str), catP (a ++ b) = catP a ++ catP b
  | [], b => by rw [List.nil_append]; show _ = Str.empty ++ _; rw [e_app]
  | (f, x) :: a, b => by
    show tlP f x ++ catP (a ++ b) = (tlP f x ++ catP a) ++ catP b
    rw [catP_app a b, s_assoc]
theorem catT_eq : ∀ t : Tm, catT t = catP (t.pcs ++ (if t.c ≠ 0 then [(t.c, tS (aI t.c))] else []))
  | .con c => by
    show catT (.con c) = catP ([] ++ (if c ≠ 0 then [(c, tS (aI c))] else []))
    rw [List.nil_append]
    unfold catT
    by_cases h : c ≠ 0
    · rw [if_pos h, if_pos h]
      show _ = _ ++ Str.empty
      rw [app_e]
    · rw [if_neg h, if_neg h]
      rfl
  | .nm f x r => by
    show tlP f (itS (aI f) x) ++ catT r = tlP f (itS (aI f) x) ++ catP (r.pcs ++ _)
    rw [catT_eq r]
    rfl
  | .fl f i j k t r => by
    show tlP f _ ++ catT r = tlP f _ ++ catP (r.pcs ++ _)
    rw [catT_eq r]
    rfl
theorem tx_eq (t : Tm) : t.tx = hdP (fctT t) (pieT t) ++ aftT t := by
  have key : ∀ (f : Int) (x : Str) (r : Tm) (c : Int) (ps : List (Int × Str)), c = r.c → ps = (f, x) :: r.pcs → jnP (endP c ps) = hdP f x ++ catT r := by
    intro f x r c ps ec ep
    subst ec ep
    rw [catT_eq]
    unfold endP
    by_cases h : r.c ≠ 0
    · simp only [if_pos h]
      split
      · rfl
      · rename_i hh; exact absurd h (by simpa using hh)
    · have h0 : r.c = 0 := by simpa using h
      rw [if_neg h]
      split
      · rename_i hh; simp [h0] at hh
      · rw [List.append_nil]; rfl
  cases t with
  | con c =>
    show jnP (endP c []) = hdP c (tS (aI c)) ++ Str.empty
    unfold endP
    simp [jnP, catP, hdP]
  | nm f x r => exact key f _ r _ _ rfl rfl
  | fl f i j k t r => exact key f _ r _ _ rfl rfl
end Q

set_option autoImplicit false
set_option linter.all false
/-! Ru: where a term ends, what its pieces begin with -/
namespace Q
open PySem L2
open RF (sx cps_app s_assoc e_app app_e len_app emp_eq)
theorem lz_app (a b : Str) : lz (a ++ b) = lz a ++ lz b := by unfold lz; rw [cps_app, Array.toList_append]
theorem lz_emp : lz Str.empty = [] := rfl
theorem l3p : lz (Str.ofString " + ") = [32, 43, 32] := by decide +kernel
theorem l3m : lz (Str.ofString " - ") = [32, 45, 32] := by decide +kernel
theorem l1s : lz (Str.ofString "*") = [42] := by decide +kernel
theorem l1m : lz (Str.ofString "-") = [45] := by decide +kernel
theorem lfl : lz (Str.ofString "floor(") = [102, 108, 111, 111, 114, 40] := by decide +kernel
theorem lfw : lz (Str.ofString "floor") = [102, 108, 111, 111, 114] := by decide +kernel
theorem l2c : lz (Str.ofString ", ") = [44, 32] := by decide +kernel
theorem l1o : lz (Str.ofString "(") = [40] := by decide +kernel
theorem l1c : lz (Str.ofString ")") = [41] := by decide +kernel
theorem l1k : Str.ofString "," = sgn 44 := sx (by decide +kernel)
/-- a term may end here -/
def Stop (r : List Nat) : Prop := (∀ c, r.head? = some c → dgt c = false ∧ ltr c = false ∧ c ≠ 42) ∧ r.take 3 ≠ [32, 43, 32] ∧ r.take 3 ≠ [32, 45, 32]
def markT (f : Int) : Str := if f < 0 then Str.ofString " - " else Str.ofString " + "
theorem mark_len (f : Int) : (lz (markT f)).length = 3 := by unfold markT; split <;> decide +kernel
theorem tlP_mark (f : Int) (x : Str) : tlP f x = markT f ++ x := by unfold tlP markT; split <;> rfl
theorem catT_non {t : Tm} (h : t ≠ .con 0) : catT t = markT (fctT t) ++ (pieT t ++ aftT t) := by
  cases t with
  | con c =>
    have : c ≠ 0 := fun z => h (by rw [z])
    show (if c ≠ 0 then tlP c (tS (aI c)) else Str.empty) = markT c ++ (tS (aI c) ++ Str.empty)
    rw [if_pos this, tlP_mark, app_e]
  | nm f x r =>
    show tlP f _ ++ catT r = markT f ++ (_ ++ catT r)
    rw [tlP_mark, s_assoc]
    rfl
  | fl f i j k t r =>
    show tlP f _ ++ catT r = markT f ++ (_ ++ catT r)
    rw [tlP_mark, s_assoc]
    rfl
theorem starts_mark (f : Int) (r : List Nat) : (((lz (markT f) ++ r).take (Str.ofString " + ").length == lz (Str.ofString " + ")) = decide (¬ f < 0)) ∧ (((lz (markT f) ++ r).take (Str.ofString " - ").length == lz (Str.ofString " - ")) = decide (f < 0)) := by
  have e1 : (Str.ofString " + ").length = 3 := by decide +kernel
  have e2 : (Str.ofString " - ").length = 3 := by decide +kernel
  rw [e1, e2, l3p, l3m]
  unfold markT
  by_cases h : f < 0
  · rw [if_pos h, l3m]; simp [h]
  · rw [if_neg h, l3p]; simp [h]
theorem stop_mark (f : Int) (r : List Nat) : ∀ c, (lz (markT f) ++ r).head? = some c → dgt c = false ∧ ltr c = false ∧ c ≠ 42 := by
  intro c hc
  unfold markT at hc
  split at hc
  · rw [l3m] at hc; cases hc; decide
  · rw [l3p] at hc; cases hc; decide
theorem starts_stop {r : List Nat} (h : Stop r) : ((r.take (Str.ofString " + ").length == lz (Str.ofString " + ")) = false) ∧ ((r.take (Str.ofString " - ").length == lz (Str.ofString " - ")) = false) := by
  have e1 : (Str.ofString " + ").length = 3 := by decide +kernel
  have e2 : (Str.ofString " - ").length = 3 := by decide +kernel
  rw [e1, e2, l3p, l3m, beq_eq_false_iff_ne, beq_eq_false_iff_ne]
  exact h.2
/-- what follows a piece begins with no sign of a piece -/
theorem aft_stop (t : Tm) {r : List Nat} (h : Stop r) : ∀ c, (lz (catT t) ++ r).head? = some c → dgt c = false ∧ ltr c = false ∧ c ≠ 42 := by
  by_cases e : t = .con 0
  · subst e
    exact h.1
  · rw [catT_non e, lz_app, List.append_assoc]
    exact stop_mark _ _
/-- terms that can be read -/
def RdT : Nat → Tm → Prop
  | _, .con c => -1000 ≤ c ∧ c ≤ 1000
  | m, .nm f x r => (f ≠ 0 ∧ -9 ≤ f ∧ f ≤ 9) ∧ (lowS x ∧ 0 < x.length ∧ x.length ≤ 8 ∧ x ≠ Str.ofString "floor") ∧ RdT m r
  | m, .fl f i j k t r => (f ≠ 0 ∧ -9 ≤ f ∧ f ≤ 9) ∧ SlB i j k ∧ 0 < m ∧ (RdT (m - 1) t ∧ t.cnt ≤ 4) ∧ RdT m r
theorem GenT.rd {ns : List Str} (hn : NsB ns) (hf : ∀ x ∈ ns, x ≠ Str.ofString "floor") : ∀ {m : Nat} {t : Tm}, GenT ns m t → RdT m t
  | _, .con c, h => h
  | m, .nm f x r, h => ⟨h.1, ⟨(hn.2 x h.2.1).1, (hn.2 x h.2.1).2.1, (hn.2 x h.2.1).2.2, hf x h.2.1⟩, GenT.rd hn hf (t := r) h.2.2⟩
  | m, .fl f i j k t r, h => by
    obtain ⟨h1, h2, h3, h4, h5⟩ := h
    exact ⟨h1, h2, h3, ⟨GenT.rd hn hf (t := t) h4.1, h4.2⟩, GenT.rd hn hf (t := r) h5⟩
def sgI (f : Int) : Int := if f < 0 then -1 else 1
theorem sg_aI (f : Int) : sgI f * aI f = f := by unfold sgI aI; split <;> omega
/-- the thing of a first piece -/
def thgT : Tm → D
  | .con _ => .non
  | .nm _ x _ => .str x
  | .fl _ i j k t _ => .tup [.str "floor", .tup [.int i, .int j, .int k], t.d]
def nxtT : Tm → Tm
  | .con c => .con 0
  | .nm _ _ r => r
  | .fl _ _ _ _ _ r => r
theorem aft_nxt (t : Tm) : aftT t = catT (nxtT t) := by cases t <;> rfl
theorem its_nxt {t : Tm} (h : thgT t ≠ .non) : t.its = .tup [.int (fctT t), thgT t] :: (nxtT t).its ∧ t.c = (nxtT t).c ∧ t.cnt = (nxtT t).cnt + 1 := by
  cases t with
  | con c => exact absurd rfl h
  | nm f x r => exact ⟨rfl, rfl, rfl⟩
  | fl f i j k t r => exact ⟨rfl, rfl, rfl⟩
theorem rd_nxt {m : Nat} {t : Tm} (h : RdT m t) : RdT m (nxtT t) := by
  cases t with
  | con c => exact ⟨by decide, by decide⟩
  | nm f x r => exact h.2.2
  | fl f i j k t r => exact h.2.2.2.2
theorem low_ltr {x : Str} (h : lowS x) : (lz x).all ltr = true := by
  rw [List.all_eq_true]
  intro c hc
  have := h c hc
  simp [ltr, this.1, this.2]
end Q

set_option autoImplicit false
set_option linter.all false
/-! TR: terms are read -/
namespace Q
open PySem L2
open RF (top Df e_app app_e len_app)
local macro_rules | `(tactic| walk_at "u") => `(tactic| simp (config := { dsimp := false }) only [↓CL_of, ↓IT_of, ↓LC_of, ↓LP_of, ↓WH_of, ↓CT_of, ↓IC_of, ↓SC_of, ↓wSeq, ↓wIfS, ↓wYes, ↓wOpV, ↓wOp, ↓wC, ↓wUn, ↓wRet, ↓wJoin, ↓wJs, ↓wArg, ↓wCons, ↓wVar, ↓wBor, ↓wMv, ↓wSet, ↓wAsg, ↓wNm, ↓wTg, ↓wGCons, ↓wApp, ↓wPop, ↓wExt, ↓wSub, ↓wDrop, ↓wPar, ↓wAug, ↓wAnd, ↓wOr, ↓wNot, ↓wTru, truP, ↓wIf, ↓wAndV, ↓wOrV, ↓wNotV, ↓wChain, ↓wSl, ↓wSlV, ↓wPart, ↓wM1, ↓wMN, pStarts, pEnds, pRfind, pStripC, pParts, pStarts3, pFind3, pSS, pSSI, pMax3, ↓wFor, ↓wLc, ↓wList, ↓wTupI, ↓wRng1, ↓wRng2, ↓wEnum, ↓wZip, ↓wRevI, ↓wStrI, ↓wKw, pCallV, wipeE, pTupN, pLstN, pIx, pSl, pRev, pLen, pAbs, pInt, pBool, pStr, pList, pTuple, pSum, pNums, pBls, pIsi, pIsi2, tyN, aI_fold, cutD1, inD_nil, inD_cons, Bool.or_eq_true, decide_eq_true_eq, Bool.or_false, Bool.false_or, Bool.true_or, Bool.or_true, decide_true, decide_false, or_false, false_or, or_true, true_or, List.all_cons, List.all_nil, Bool.and_self, Bool.not_true, Bool.not_false, iff_self, if_true, if_false, Bool.false_eq_true, ofS_inj, String.reduceEq, ati0, ati1, ati2, ati3, ati4, exists_and_left, isi_NoneType_bool, isi_NoneType_int, isi_NoneType_str, isi_NoneType_list, isi_NoneType_tuple, isi_bool_bool, isi_bool_int, isi_bool_str, isi_bool_list, isi_bool_tuple, isi_int_bool, isi_int_int, isi_int_str, isi_int_list, isi_int_tuple, isi_str_bool, isi_str_int, isi_str_str, isi_str_list, isi_str_tuple, isi_list_bool, isi_list_int, isi_list_str, isi_list_list, isi_list_tuple, isi_tuple_bool, isi_tuple_int, isi_tuple_str, isi_tuple_list, isi_tuple_tuple, isi_dict_bool, isi_dict_int, isi_dict_str, isi_dict_list, isi_dict_tuple, mi_bool, mi_int, mi_str, mi_list, mi_tuple, pI2, pI2N, pAdd, pSub, pMul, pNeg, pEqF, pOrd, pIs, pIn, isNon, D.told, D.flat, pFmt, pDivmod, startE, fzs, List.map_cons, List.map_nil, List.length_cons, List.length_nil, List.cons_append, List.nil_append, List.replicate, get_s, get_z, List.set_cons_zero, List.set_cons_succ, Option.some.injEq, exists_eq', true_and, and_true, exists_eq_left', Sl.toD, Nat.sub_self, Nat.reduceAdd, Nat.reduceLeDiff, Nat.reduceLT, Int.reduceToNat, Nat.reduceSub, scalD, eqD_int, eqD_str, eqD_tt, eqD_ff, eqD_tf, eqD_ft, id_eq, reduceCtorEq, false_implies, implies_true, D.int.injEq, D.str.injEq, D.lst.injEq, D.tup.injEq, Sl.fz.injEq, Sl.ol.injEq, RF.e_app, RF.app_e, RF.emp_eq, IT_t, IT_f, IT_T, IT_F, IT_d, IT_n, IT_not])
local macro_rules | `(tactic| walk_at "l") => `(tactic| first | omega | (simp only [RF.len_app, RF.e_app, RF.app_e, RF.emp_eq, sizeLine_eq, l_dash, l_plus, l_r, l_emp, l_lp, l_rpd, l_slash, l_star, l_sp1, l_sp2, l_flo, l_com, l_rp, l_le, l_equ, l_und, l_lea, l_not, l_allS, l_some, l_spc, l_ors, l_ands, List.map_cons, List.map_nil, List.sum_cons, List.sum_nil, List.length_cons, List.length_nil, List.length_map, List.length_append, List.length_replicate, List.length_range] <;> omega))
local macro_rules | `(tactic| walk_at "f") => `(tactic| ((repeat' apply And.intro) <;> first | assumption | walk_at "l"))
local macro_rules | `(tactic| walk_at "s") => `(tactic| (repeat (refine And.intro (by walk_at "l") ?_)))
def hdL (p : Nat → Bool) (l : List Nat) : Bool := match l with | [] => false | c :: _ => p c
theorem lz0 : lz (Str.ofString "0") = [48] := by decide +kernel
theorem lz9 : lz (Str.ofString "9") = [57] := by decide +kernel
theorem lza : lz (Str.ofString "a") = [97] := by decide +kernel
theorem lzz : lz (Str.ofString "z") = [122] := by decide +kernel
theorem gLe_nil (a : Nat) : gLe [a] [] = false := rfl
theorem gLe_one (a c : Nat) : gLe [a] [c] = decide (a ≤ c) := by
  unfold gLe
  by_cases h : c < a
  · rw [decide_eq_true (show [c] < [a] by simp [List.cons_lt_cons_iff]; exact h), decide_eq_false (by omega)]
    rfl
  · rw [decide_eq_false (show ¬ [c] < [a] by simp [List.cons_lt_cons_iff]; omega), decide_eq_true (by omega)]
    rfl
theorem lt_nilL (a : Nat) : (([] : List Nat) < [a]) = True := by simp
theorem lt_oneL (a c : Nat) : ([c] < [a]) = (c < a) := by simp [List.cons_lt_cons_iff]
theorem cutO {T : Str} {n : Nat} {r : List Nat} (h : Dr T n r) : L2.cutS T (some (n : Int)) (some ((n : Int) + 1)) = wd (r.take 1) := h.cut (m := 1)
theorem hd_take (p : Nat → Bool) (r : List Nat) : hdL p (r.take 1) = hdL p r := by cases r <;> rfl
theorem whl_cases {l : List Nat} {v : Int} (h : Whl l v) : (∃ t, l = 45 :: t ∧ Num t (-v)) ∨ (∃ t, l = 43 :: t ∧ Num t v) ∨ (∃ c t, l = c :: t ∧ c ≠ 45 ∧ c ≠ 43 ∧ Num l v) := by
  unfold Whl at h
  cases l with
  | nil =>
    simp only [List.head?_nil, reduceCtorEq, if_false] at h
    exact absurd h.2.1 (by decide)
  | cons c t =>
    simp only [List.head?_cons, Option.some.injEq, List.tail_cons] at h
    by_cases h1 : c = 45
    · rw [if_pos h1] at h; exact .inl ⟨t, by rw [h1], h⟩
    · rw [if_neg h1] at h
      by_cases h2 : c = 43
      · rw [if_pos h2] at h; exact .inr (.inl ⟨t, by rw [h2], h⟩)
      · rw [if_neg h2] at h; exact .inr (.inr ⟨c, t, rfl, h1, h2, h⟩)
theorem len_of {x : Str} {l : List Nat} (h : lz x = l) : x.length = l.length := by rw [← h, lz_len]
theorem whl_len {l : List Nat} {v : Int} (h : Whl l v) : l.length ≤ 5 := by
  rcases whl_cases h with ⟨t, rfl, g⟩ | ⟨t, rfl, g⟩ | ⟨c, t, rfl, _, _, g⟩
  · have := g.2.2.1; simp only [List.length_cons]; omega
  · have := g.2.2.1; simp only [List.length_cons]; omega
  · have := g.2.2.1; omega
theorem mul_len {l : List Nat} {v : Int} (h : Mul l v) : l.length ≤ 5 := by
  unfold Mul at h
  split at h
  · rename_i g; rcases g with rfl | rfl <;> decide
  · split at h
    · rename_i g; rw [g]; decide
    · exact whl_len h
def zpS (s : Int) : Str := if s = 1 then Str.empty else tS s ++ Str.ofString "*"
theorem itS_eq (s : Int) (x : Str) : itS s x = zpS s ++ x := by
  unfold itS zpS
  split
  · rw [e_app]
  · rfl
theorem lz_flS (s u : Str) : lz (flS s u) = lz (Str.ofString "floor") ++ (40 :: (lz s ++ (44 :: 32 :: (lz u ++ [41])))) := by
  unfold flS
  simp only [lz_app, lfl, lfw, l2c, l1c, List.append_assoc, List.cons_append, List.nil_append]
theorem stop_c (r : List Nat) : Stop (41 :: r) := ⟨fun c h => by cases h; decide, by simp, by simp⟩
theorem ne45_of {l r : List Nat} {p : Nat → Bool} (h : l.all p = true) (h0 : 1 ≤ l.length) (hp : p 45 = false) : ∀ c, (l ++ r).head? = some c → c ≠ 45 := by
  intro c hc
  cases l with
  | nil => exact absurd h0 (by decide)
  | cons d l =>
    obtain rfl : d = c := Option.some.inj hc
    rintro rfl
    rw [List.all_cons, hp] at h
    cases h
theorem pie_ne {m : Nat} {t : Tm} (h : RdT m t) (r : List Nat) : ∀ c, (lz (pieT t) ++ r).head? = some c → c ≠ 45 := by
  have fig : ∀ i : Int, -1000 ≤ i ∧ i ≤ 1000 → ∀ r c, (lz (tS (aI i)) ++ r).head? = some c → c ≠ 45 := by
    intro i hi r
    have hn := num_ok (n := aI i) (by unfold aI; split <;> omega)
    exact ne45_of hn.1 hn.2.1 rfl
  cases t with
  | con c => exact fig c h r
  | nm f x r' =>
    show ∀ c, (lz (itS (aI f) x) ++ r).head? = some c → c ≠ 45
    unfold itS
    by_cases h1 : aI f = 1
    · rw [if_pos h1]
      exact ne45_of (low_ltr h.2.1.1) (by rw [lz_len]; exact h.2.1.2.1) rfl
    · rw [if_neg h1, lz_app, lz_app, List.append_assoc, List.append_assoc]
      exact fig f (by have := h.1; omega) _
  | fl f i j k t r' =>
    show ∀ c, (lz (itS (aI f) (flS (stS i j k) t.tx)) ++ r).head? = some c → c ≠ 45
    unfold itS
    by_cases h1 : aI f = 1
    · rw [if_pos h1, lz_flS, List.append_assoc]
      exact ne45_of (p := ltr) (by rw [lfw]; decide) (by rw [lfw]; decide) rfl
    · rw [if_neg h1, lz_app, lz_app, List.append_assoc, List.append_assoc]
      exact fig f (by have := h.1; omega) _
def sgS (f : Int) : Str := if f < 0 then Str.ofString "-" else Str.empty
theorem hdP_eq (f : Int) (x : Str) : hdP f x = sgS f ++ x := by unfold hdP sgS; split <;> first | rfl | rw [e_app]
theorem told_thg (t : Tm) : (thgT t).told = true := by cases t <;> rfl
theorem mulx_s {f : Int} (h : -1000 ≤ f ∧ f ≤ 1000) : CMulX (sgI f) (aI f) := mul_ok (lt_2k (by unfold sgI; split <;> omega)) (lt_2k (by unfold aI; split <;> omega))
theorem fct_le {m : Nat} {t : Tm} (h : RdT m t) : -1000 ≤ fctT t ∧ fctT t ≤ 1000 := by
  cases t with
  | con c => exact h
  | nm f x r => have := h.1; show -1000 ≤ f ∧ f ≤ 1000; omega
  | fl f i j k t r => have := h.1; show -1000 ≤ f ∧ f ≤ 1000; omega
theorem hdL_num {l r : List Nat} {v : Int} (h : Num l v) : hdL dgt (l ++ r) = true := by
  obtain ⟨h1, h2, _⟩ := h
  cases l with
  | nil => exact absurd h2 (by decide)
  | cons c l => exact (Bool.and_eq_true .. ▸ (List.all_cons ▸ h1 : (dgt c && l.all dgt) = true) : _ ∧ _).1
theorem hdL_of {p : Nat → Bool} {r : List Nat} (h : ∀ c, r.head? = some c → p c = false) : hdL p r = false := by
  cases r with
  | nil => rfl
  | cons c r => exact h c rfl
theorem aI_le {f : Int} (h : f ≠ 0 ∧ -9 ≤ f ∧ f ≤ 9) : 1 ≤ aI f ∧ aI f ≤ 9 := by unfold aI; split <;> omega
def fSign (p : Nat → Bool) : Ph := fun ds k _ => ∃ l : List Nat, ds = [.str (wd l)] ∧ l.length ≤ 1 ∧ k (.fz (.bl (hdL p l)))
def fWordAt : Ph := fun ds k _ => ∃ (T : Str) (n : Nat) (w r : List Nat), ds = [.str T, .int n] ∧ T.length ≤ 100000 ∧ Dr T n (w ++ r) ∧ w.all ltr = true ∧ hdL ltr r = false ∧ k (.fz (.tup [.str (wd w), .int ((n + w.length : Nat) : Int)]))
def fFigAt : Ph := fun ds k _ => ∃ (T : Str) (n : Nat) (w r : List Nat) (v : Int), ds = [.str T, .int n] ∧ T.length ≤ 100000 ∧ Dr T n (w ++ r) ∧ Num w v ∧ hdL dgt r = false ∧ k (.fz (.tup [.int v, .int ((n + w.length : Nat) : Int)]))
def fBehind : Ph := fun ds k _ => ∃ (T m : Str) (n : Nat) (r : List Nat), ds = [.str T, .int n, .str m] ∧ T.length ≤ 100000 ∧ Dr T n (lz m ++ r) ∧ k (.fz (.int ((n + m.length : Nat) : Int)))
def fWhole : Ph := fun ds k _ => ∃ (s : Str) (v : Int), ds = [.str s] ∧ s.length ≤ 100000 ∧ Whl (lz s) v ∧ k (.fz (.int v))
def fMultiple : Ph := fun ds k _ => ∃ (s : Str) (v : Int), ds = [.str s] ∧ s.length ≤ 100000 ∧ Mul (lz s) v ∧ k (.fz (.int v))
def fSlopeAt : Ph := fun ds k _ => ∃ (T : Str) (n : Nat) (i j m : Int) (r : List Nat), ds = [.str T, .int n] ∧ T.length ≤ 100000 ∧ SlB i j m ∧ Dr T n (lz (stS i j m) ++ 44 :: r) ∧ k (.fz (.tup [.tup [.int i, .int j, .int m], .int ((n + (stS i j m).length : Nat) : Int)]))
def fPiece (m : Nat) : Ph := fun ds k _ => ∃ (T : Str) (n m' : Nat) (t : Tm) (r : List Nat), ds = [.str T, .int n, .int m'] ∧ m' ≤ m ∧ T.length ≤ 100000 ∧ RdT m' t ∧ Dr T n (lz (pieT t) ++ r) ∧ (∀ c, r.head? = some c → dgt c = false ∧ ltr c = false ∧ c ≠ 42) ∧ k (.fz (.tup [.int (aI (fctT t)), thgT t, .int ((n + (pieT t).length : Nat) : Int)]))
def fTermAt (m : Nat) : Ph := fun ds k _ => ∃ (T : Str) (n m' : Nat) (t : Tm) (r : List Nat), ds = [.str T, .int n, .int m'] ∧ m' ≤ m ∧ T.length ≤ 100000 ∧ RdT m' t ∧ t.cnt ≤ 1000 ∧ Dr T n (lz t.tx ++ r) ∧ Stop r ∧ k (.fz (.tup [t.d, .int ((n + t.tx.length : Nat) : Int)]))
section
variable {P : Program} {w : World} {K : PySem.W.Frag} {mg : Str → Option Value} {base : Heap}
abbrev s_is_figure : Stmt := top 31
abbrev n_is_figure : List Str := ["sign"]
theorem sc_is_figure : FnScope n_is_figure ["sign"] (defScope s_is_figure) := ⟨rfl, rfl, rfl, by decide +kernel, rfl, by decide +kernel, by decide +kernel⟩
theorem ok_isfig {f : Addr} {fd : FuncData} {j : Nat} (Fu : Fun K "_is_figure" "_is_figure" s_is_figure f fd) (T : TN mg) : FnOk P w K mg base CX0 (j + 1) f fd ["sign"] (spD K mg false (fSign dgt)) := by
  refine fn_pd Fu sc_is_figure (fun ds k xk h => by obtain ⟨l, rfl, _⟩ := h; rfl) fun cdv A outer s H E C ds k xk hr Fi hu φ => ?_
  have nd := sc_is_figure.nd
  refine ⟨_, _, (qss_one (qs_ret (pd_chain op_leA op_leA l_ord l_ord pd_str (pd_var (pv 0)) (PD.b pd_str)))), ?_⟩
  obtain ⟨l, rfl, hl, q⟩ := φ
  walk_at "u"
  rw [show (Str.ofString "0").cps.toList = [48] from lz0, show (wd l).cps.toList = l from rfl]
  cases l with
  | nil =>
    rw [lt_nilL]
    refine ⟨fun _ => ?_, fun h => absurd trivial h⟩
    walk_at "u"
    exact q
  | cons c l =>
    obtain rfl : l = [] := List.eq_nil_of_length_eq_zero (by simpa using hl)
    rw [lt_oneL]
    refine ⟨fun h => ?_, fun h => ?_⟩
    · walk_at "u"
      have e : hdL dgt [c] = false := by simp [hdL, dgt]; omega
      rw [e] at q
      exact q
    · walk_at "u"
      rw [show (wd [c]).cps.toList = [c] from rfl, show (Str.ofString "9").cps.toList = [57] from lz9, gLe_one]
      have e : hdL dgt [c] = decide (c ≤ 57) := by
        show (decide (48 ≤ c) && decide (c ≤ 57)) = _
        rw [decide_eq_true (show 48 ≤ c by omega), Bool.true_and]
      rw [e] at q
      exact q
abbrev s_word_at : Stmt := top 32
abbrev n_word_at : List Str := ["text", "at", "end"]
theorem sc_word_at : FnScope n_word_at ["text", "at"] (defScope s_word_at) := ⟨rfl, rfl, rfl, by decide +kernel, rfl, by decide +kernel, by decide +kernel⟩
theorem ok_wordat {f : Addr} {fd : FuncData} {j : Nat} (Fu : Fun K "_word_at" "_word_at" s_word_at f fd) (T : TN mg) (D_is_letter : Df P w K mg base j "is_letter" ["sign"] (spD K mg false (fSign ltr))) : FnOk P w K mg base CX0 (j + 1) f fd ["text", "at"] (spD K mg false fWordAt) := by
  refine fn_pd Fu sc_word_at (fun ds k xk h => by obtain ⟨T, n, w, r, rfl, _⟩ := h; rfl) fun cdv A outer s H E C ds k xk hr Fi hu φ => ?_
  have nd := sc_word_at.nd
  refine ⟨_, _, (qss_cons (qs_set (i := 2) nd rfl (Or.inl rfl) (pd_var (pv 1)))
      (qss_cons (qs_while PassesOwn.never (qt_truth Fi (PD.b (pd_call Fi D_is_letter hr (Nat.le_refl _) (qa_cons (pd_slV Fi (pv 0) (qo_some (pb_var (pv 2))) (qo_some (PD.b (pd_opV op_addA (l_add Fi) (pv 2) (PD.b pd_int))))) qa_nil))))
      (qss_one (qs_aug (i := 2) nd rfl (Or.inl rfl) pd_int ip_add)))
      (qss_one (qs_ret (pd_tup (qa_cons (pd_slV Fi (pv 0) (qo_some (pb_var (pv 1))) (qo_some (pb_var (pv 2)))) (qa_cons (pd_var (pv 2)) qa_nil))))))), ?_⟩
  obtain ⟨tx, n, wl, r, rfl, hT, hD, hw, hr2, q⟩ := φ
  walk_at "u"
  refine wh_ind (fun m ρ => ∃ a b : List Nat, wl = a ++ b ∧ m = b.length ∧ ρ = [some (.fz (.str tx)), some (.fz (.int (n : Nat))), some (.fz (.int ((n + a.length : Nat) : Int)))]) (fun m ρ N h hN => ?_) wl.length _ ⟨[], wl, rfl, rfl, rfl⟩
  obtain ⟨a, b, e, rfl, rfl⟩ := h
  subst e
  rw [List.append_assoc] at hD
  have h2 := hD.on
  walk_at "u"
  rw [cutO h2]
  refine ⟨by rw [sizeLine_eq]; omega, _, rfl, by rw [List.length_take]; omega, ?_⟩
  rw [hd_take]
  cases b with
  | nil =>
    rw [List.nil_append, hr2]
    walk_at "u"
    rw [List.append_nil] at q
    rw [hD.cut, List.take_left]
    exact ⟨by rw [sizeLine_eq]; omega, q⟩
  | cons c b =>
    rw [List.all_append, Bool.and_eq_true] at hw
    have hc : hdL ltr (c :: b ++ r) = true := (Bool.and_eq_true .. ▸ hw.2 : _ ∧ _).1
    rw [hc]
    walk_at "u"
    exact hN b.length (Nat.lt_succ_self _) _ ⟨a ++ [c], b, by simp, rfl, by rw [List.length_append]; rfl⟩
abbrev s_figures_at : Stmt := top 30
abbrev n_figures_at : List Str := ["text", "at", "end"]
theorem sc_figures_at : FnScope n_figures_at ["text", "at"] (defScope s_figures_at) := ⟨rfl, rfl, rfl, by decide +kernel, rfl, by decide +kernel, by decide +kernel⟩
theorem ok_figat {f : Addr} {fd : FuncData} {j : Nat} (Fu : Fun K "_figures_at" "_figures_at" s_figures_at f fd) (T : TN mg) {tk : Tok} (mF : mg "MOST_FIGURES" = some (.int 4 tk)) (D_is_figure : Df P w K mg base j "_is_figure" ["sign"] (spD K mg false (fSign dgt))) : FnOk P w K mg base CX0 (j + 1) f fd ["text", "at"] (spD K mg false fFigAt) := by
  refine fn_pd Fu sc_figures_at (fun ds k xk h => by obtain ⟨T, n, w, r, v, rfl, _⟩ := h; rfl) fun cdv A outer s H E C ds k xk hr Fi hu φ => ?_
  have nd := sc_figures_at.nd
  refine ⟨_, _, (qss_cons (qs_set (i := 2) nd rfl (Or.inl rfl) (pd_var (pv 1)))
      (qss_cons (qs_while PassesOwn.never (qt_truth Fi (PD.b (pd_call Fi D_is_figure hr (Nat.le_refl _) (qa_cons (pd_slV Fi (pv 0) (qo_some (pb_var (pv 2))) (qo_some (PD.b (pd_opV op_addA (l_add Fi) (pv 2) (PD.b pd_int))))) qa_nil))))
      (qss_one (qs_aug (i := 2) nd rfl (Or.inl rfl) pd_int ip_add)))
      (qss_cons (qs_if (qt_not (qt_chain op_leA op_leA l_ord l_ord pd_int (pd_opV op_sub l_sub (pv 2) (pb_var (pv 1))) (PD.b (pd_c (pe_glob (v := .int 4) (by rfl) mF ⟨_, rfl⟩ ) (d := .int 4) fun _ => rfl))))
      (qss_one qs_never)
      qss_nil)
      (qss_one (qs_ret (pd_tup (qa_cons (pd_callTy1 call_intA l_int (by rfl) T.int (by decide +kernel) (PD.b (pd_slV Fi (pv 0) (qo_some (pb_var (pv 1))) (qo_some (pb_var (pv 2)))))) (qa_cons (pd_var (pv 2)) qa_nil)))))))), ?_⟩
  obtain ⟨tx, n, wl, r, v, rfl, hT, hD, hw, hr2, q⟩ := φ
  obtain ⟨g1, g2, g3, g4⟩ := hw
  walk_at "u"
  refine wh_ind (fun m ρ => ∃ a b : List Nat, wl = a ++ b ∧ m = b.length ∧ ρ = [some (.fz (.str tx)), some (.fz (.int (n : Nat))), some (.fz (.int ((n + a.length : Nat) : Int)))]) (fun m ρ N h hN => ?_) wl.length _ ⟨[], wl, rfl, rfl, rfl⟩
  obtain ⟨a, b, e, rfl, rfl⟩ := h
  subst e
  rw [List.append_assoc] at hD
  have h2 := hD.on
  walk_at "u"
  rw [cutO h2]
  refine ⟨by rw [sizeLine_eq]; omega, _, rfl, by rw [List.length_take]; omega, ?_⟩
  rw [hd_take]
  cases b with
  | nil =>
    rw [List.nil_append, hr2]
    rw [List.append_nil] at q g2 g3 g4
    walk_at "u"
    refine IT.pos (by omega) ?_
    walk_at "u"
    refine IT.pos (by omega) ?_
    walk_at "u"
    rw [hD.cut, List.take_left]
    exact ⟨by rw [sizeLine_eq]; omega, by rw [wd_len]; omega, v, g4, q⟩
  | cons c b =>
    rw [List.all_append, Bool.and_eq_true] at g1
    have hc : hdL dgt (c :: b ++ r) = true := (Bool.and_eq_true .. ▸ g1.2 : _ ∧ _).1
    rw [hc]
    walk_at "u"
    exact hN b.length (Nat.lt_succ_self _) _ ⟨a ++ [c], b, by simp, rfl, by rw [List.length_append]; rfl⟩
abbrev s_behind : Stmt := top 33
abbrev n_behind : List Str := ["text", "at", "mark"]
theorem sc_behind : FnScope n_behind ["text", "at", "mark"] (defScope s_behind) := ⟨rfl, rfl, rfl, by decide +kernel, rfl, by decide +kernel, by decide +kernel⟩
theorem ok_behind {f : Addr} {fd : FuncData} {j : Nat} (Fu : Fun K "_behind" "_behind" s_behind f fd) (T : TN mg) : FnOk P w K mg base CX0 (j + 1) f fd ["text", "at", "mark"] (spD K mg false fBehind) := by
  refine fn_pd Fu sc_behind (fun ds k xk h => by obtain ⟨T, m, n, r, rfl, _⟩ := h; rfl) fun cdv A outer s H E C ds k xk hr Fi hu φ => ?_
  have nd := sc_behind.nd
  refine ⟨_, _, (qss_cons (qs_if (qt_not (qt_truth Fi (PD.b (pd_mN PySem.F.slot_str_startswith PySem.F.type_str_startswith mt_startswith3 l_starts3 (pd_var (pv 0)) (qa_cons (pd_var (pv 2)) (qa_cons (pd_var (pv 1)) qa_nil))))))
      (qss_one qs_never)
      qss_nil)
      (qss_one (qs_ret (pd_opV op_addA (l_add Fi) (pv 1) (PD.b (pd_callB1 call_len2 (l_len Fi) (by rfl) T.len (by decide +kernel) (pb_var (pv 2)))))))), ?_⟩
  obtain ⟨tx, m, n, r, rfl, hT, hD, q⟩ := φ
  walk_at "u"
  rw [hD.starts, show m.length = (lz m).length from (lz_len m).symm, List.take_left, beq_self_eq_true]
  refine ⟨fun _ => ?_, fun h => absurd rfl h⟩
  walk_at "u"
  exact ⟨by have := hD.len; rw [List.length_append, lz_len] at this; rw [sizeLine_eq]; omega, q⟩
abbrev s_whole : Stmt := top 29
abbrev n_whole : List Str := ["text", "start", "size", "behind"]
theorem sc_whole : FnScope n_whole ["text"] (defScope s_whole) := ⟨rfl, rfl, rfl, by decide +kernel, rfl, by decide +kernel, by decide +kernel⟩
theorem ok_whole {f : Addr} {fd : FuncData} {j : Nat} (Fu : Fun K "_whole" "_whole" s_whole f fd) (T : TN mg) (D_figures_at : Df P w K mg base j "_figures_at" ["text", "at"] (spD K mg false fFigAt)) : FnOk P w K mg base CX0 (j + 1) f fd ["text"] (spD K mg false fWhole) := by
  refine fn_pd Fu sc_whole (fun ds k xk h => by obtain ⟨T, n, rfl, _⟩ := h; rfl) fun cdv A outer s H E C ds k xk hr Fi hu φ => ?_
  have nd := sc_whole.nd
  refine ⟨_, _, (qss_cons (qs_set (i := 1) nd rfl (Or.inl rfl) (pd_if (qt_w (qw_or (qt_truth Fi (PD.b (pd_mN PySem.F.slot_str_startswith PySem.F.type_str_startswith mt_startswith l_starts (pd_var (pv 0)) (qa_cons pd_str qa_nil)))) (qw_or1 (qt_truth Fi (PD.b (pd_mN PySem.F.slot_str_startswith PySem.F.type_str_startswith mt_startswith l_starts (pd_var (pv 0)) (qa_cons pd_str qa_nil))))))) pd_int pd_int))
      (qss_cons (qs_asg (pd_call Fi D_figures_at hr (Nat.le_refl _) (qa_cons (pd_var (pv 0)) (qa_cons (pd_var (pv 1)) qa_nil))) (qg_tup (n := 2) Fi rfl (qgs_cons (qg_name (pg_name (i := 2) nd rfl (Or.inl rfl))) (qgs_cons (qg_name (pg_name (i := 3) nd rfl (Or.inl rfl))) qgs_nil))))
      (qss_cons (qs_if (qt_cmpV (op_neA hr.units) (l_ne Fi) (pv 3) (PD.b (pd_callB1 call_len2 (l_len Fi) (by rfl) T.len (by decide +kernel) (pb_var (pv 0)))) (nomark _))
      (qss_one qs_never)
      qss_nil)
      (qss_one (qs_ret (pd_if (qt_truth Fi (PD.b (pd_mN PySem.F.slot_str_startswith PySem.F.type_str_startswith mt_startswith l_starts (pd_var (pv 0)) (qa_cons pd_str qa_nil)))) (pd_un un_neg l_neg (pb_var (pv 2))) (pd_var (pv 2)))))))), ?_⟩
  obtain ⟨tx, v, rfl, hT, hW, q⟩ := φ
  have e1 : (Str.ofString "+").length = 1 := by decide +kernel
  have e2 : (Str.ofString "-").length = 1 := by decide +kernel
  have e3 : lz (Str.ofString "+") = [43] := by decide +kernel
  have e4 : lz (Str.ofString "-") = [45] := by decide +kernel
  rcases whl_cases hW with ⟨t, hl, hN⟩ | ⟨t, hl, hN⟩ | ⟨c, t, hl, h1, h2, hN⟩
  · have hn := len_of hl
    rw [List.length_cons] at hn
    have hD : Dr tx 1 (t ++ []) := by have := Dr.zero tx; rw [hl] at this; rw [List.append_nil]; exact this.on1
    walk_at "u"
    refine IT.neg (by rw [starts0, e1, e3, hl]; simp) ?_
    walk_at "u"
    refine IT.pos (by rw [starts0, e2, e4, hl]; rfl) ?_
    walk_at "u"
    refine ⟨tx, 1, t, [], -v, rfl, hT, hD, hN, rfl, ?_⟩
    walk_at "u"
    refine ⟨by rw [sizeLine_eq]; omega, ?_⟩
    refine IT.pos (by omega) ?_
    walk_at "u"
    refine IT.pos (by rw [starts0, e2, e4, hl]; rfl) ?_
    walk_at "u"
    rw [Int.neg_neg]
    exact q
  · have hn := len_of hl
    rw [List.length_cons] at hn
    have hD : Dr tx 1 (t ++ []) := by have := Dr.zero tx; rw [hl] at this; rw [List.append_nil]; exact this.on1
    walk_at "u"
    refine IT.pos (by rw [starts0, e1, e3, hl]; rfl) ?_
    walk_at "u"
    refine ⟨tx, 1, t, [], v, rfl, hT, hD, hN, rfl, ?_⟩
    walk_at "u"
    refine ⟨by rw [sizeLine_eq]; omega, ?_⟩
    refine IT.pos (by omega) ?_
    walk_at "u"
    refine IT.neg (by rw [starts0, e2, e4, hl]; simp) ?_
    walk_at "u"
    exact q
  · have hn := len_of hl
    rw [List.length_cons] at hn
    have hD : Dr tx 0 (lz tx ++ []) := by rw [List.append_nil]; exact Dr.zero tx
    walk_at "u"
    refine IT.neg (by rw [starts0, e1, e3, hl]; simpa using h2) ?_
    walk_at "u"
    refine IT.neg (by rw [starts0, e2, e4, hl]; simpa using h1) ?_
    walk_at "u"
    refine ⟨tx, 0, lz tx, [], v, rfl, hT, hD, hN, rfl, ?_⟩
    walk_at "u"
    refine ⟨by rw [sizeLine_eq]; omega, ?_⟩
    refine IT.pos (by rw [lz_len]; omega) ?_
    walk_at "u"
    refine IT.neg (by rw [starts0, e2, e4, hl]; simpa using h1) ?_
    walk_at "u"
    exact q
abbrev s_multiple : Stmt := top 28
abbrev n_multiple : List Str := ["text"]
theorem sc_multiple : FnScope n_multiple ["text"] (defScope s_multiple) := ⟨rfl, rfl, rfl, by decide +kernel, rfl, by decide +kernel, by decide +kernel⟩
theorem ok_multi {f : Addr} {fd : FuncData} {j : Nat} (Fu : Fun K "_multiple" "_multiple" s_multiple f fd) (T : TN mg) (D_whole : Df P w K mg base j "_whole" ["text"] (spD K mg false fWhole)) : FnOk P w K mg base CX0 (j + 1) f fd ["text"] (spD K mg false fMultiple) := by
  refine fn_pd Fu sc_multiple (fun ds k xk h => by obtain ⟨T, n, rfl, _⟩ := h; rfl) fun cdv A outer s H E C ds k xk hr Fi hu φ => ?_
  have nd := sc_multiple.nd
  refine ⟨_, _, (qss_cons (qs_if (qt_cmpV (op_inA (un65 hr)) (l_in Fi) (pv 0) (PD.b (pd_tup (qa_cons pd_str (qa_cons pd_str qa_nil)))) rfl)
      (qss_one (qs_ret pd_int))
      qss_nil)
      (qss_cons (qs_if (qt_cmpV (op_eqA hr.units) (l_eq Fi) (pv 0) (PD.b pd_str) (nomark _))
      (qss_one (qs_ret (pd_un un_neg l_neg (PD.b pd_int))))
      qss_nil)
      (qss_one (qs_ret (pd_call Fi D_whole hr (Nat.le_refl _) (qa_cons (pd_var (pv 0)) qa_nil)))))), ?_⟩
  obtain ⟨tx, v, rfl, hT, hW, q⟩ := φ
  have e2 : lz (Str.ofString "+") = [43] := by decide +kernel
  have e3 : lz (Str.ofString "-") = [45] := by decide +kernel
  have ex : ∀ {y : Str} {l : List Nat}, lz y = l → (y = tx ↔ lz tx = l) := fun h => ⟨fun z => by rw [← z, h], fun z => RF.sx (by rw [← Array.toList_inj]; exact h.trans z.symm)⟩
  walk_at "u"
  unfold Mul at hW
  refine ⟨fun h => ?_, fun h => ?_⟩
  · rw [ex lz_emp, ex e2] at h
    rw [if_pos h] at hW
    walk_at "u"
    rw [hW] at q
    exact q
  · rw [ex lz_emp, ex e2] at h
    rw [if_neg h] at hW
    walk_at "u"
    refine ⟨fun h2 => ?_, fun h2 => ?_⟩
    · have h2 : lz tx = [45] := by rw [h2, e3]
      rw [if_pos h2] at hW
      walk_at "u"
      rw [hW] at q
      exact q
    · have h2 : lz tx ≠ [45] := fun z => h2 ((ex e3).mpr z).symm
      rw [if_neg h2] at hW
      walk_at "u"
      refine ⟨tx, v, rfl, hT, hW, ?_⟩
      walk_at "u"
      exact q
abbrev s_slope_at : Stmt := top 27
abbrev n_slope_at : List Str := ["text", "at", "end", "above", "stroke", "below", "k", "cut", "i"]
theorem sc_slope_at : FnScope n_slope_at ["text", "at"] (defScope s_slope_at) := ⟨rfl, rfl, rfl, by decide +kernel, rfl, by decide +kernel, by decide +kernel⟩
theorem ok_slopeat {f : Addr} {fd : FuncData} {j : Nat} (Fu : Fun K "_slope_at" "_slope_at" s_slope_at f fd) (T : TN mg) (D_whole : Df P w K mg base j "_whole" ["text"] (spD K mg false fWhole)) (D_multiple : Df P w K mg base j "_multiple" ["text"] (spD K mg false fMultiple)) : FnOk P w K mg base CX0 (j + 1) f fd ["text", "at"] (spD K mg false fSlopeAt) := by
  refine fn_pd Fu sc_slope_at (fun ds k xk h => by obtain ⟨T, n, i, j, m, r, rfl, _⟩ := h; rfl) fun cdv A outer s H E C ds k xk hr Fi hu φ => ?_
  have nd := sc_slope_at.nd
  refine ⟨_, _, (qss_cons (qs_set (i := 2) nd rfl (Or.inl rfl) (pd_mN PySem.F.slot_str_find PySem.F.type_str_find mt_find3 l_find3 (pd_var (pv 0)) (qa_cons pd_str (qa_cons (pd_var (pv 1)) qa_nil))))
      (qss_cons (qs_if (qt_cmpV op_ltA l_ord (pv 2) (PD.b pd_int) (nomark _))
      (qss_one qs_never)
      qss_nil)
      (qss_cons (qs_asg (pd_mN PySem.F.slot_str_partition PySem.F.type_str_partition mt_partition l_parts (pd_slV Fi (pv 0) (qo_some (pb_var (pv 1))) (qo_some (pb_var (pv 2)))) (qa_cons pd_str qa_nil)) (qg_tup (n := 3) Fi rfl (qgs_cons (qg_name (pg_name (i := 3) nd rfl (Or.inl rfl))) (qgs_cons (qg_name (pg_name (i := 4) nd rfl (Or.inl rfl))) (qgs_cons (qg_name (pg_name (i := 5) nd rfl (Or.inl rfl))) qgs_nil)))))
      (qss_cons (qs_set (i := 3) nd rfl (Or.inl rfl) (pd_mN PySem.F.slot_str_strip PySem.F.type_str_strip mt_stripChars l_stripC (pd_var (pv 3)) (qa_cons pd_str qa_nil)))
      (qss_cons (qs_set (i := 6) nd rfl (Or.inl rfl) (pd_if (qt_truth Fi (pb_var (pv 4))) (pd_call Fi D_whole hr (Nat.le_refl _) (qa_cons (pd_var (pv 5)) qa_nil)) pd_int))
      (qss_cons (qs_if (qt_not (qt_truth Fi (PD.b (pd_mN PySem.F.slot_str_endswith PySem.F.type_str_endswith mt_endswith l_ends (pd_var (pv 3)) (qa_cons pd_str qa_nil)))))
      (qss_one (qs_ret (pd_tup (qa_cons (pd_tup (qa_cons (pd_call Fi D_whole hr (Nat.le_refl _) (qa_cons (pd_var (pv 3)) qa_nil)) (qa_cons pd_int (qa_cons (pd_var (pv 6)) qa_nil)))) (qa_cons (pd_var (pv 2)) qa_nil)))))
      qss_nil)
      (qss_cons (qs_set (i := 7) nd rfl (Or.inl rfl) (pd_callB (call_max3Nu rfl) l_max3 (by rfl) T.max (by decide +kernel) (qa_cons (pd_mN PySem.F.slot_str_rfind PySem.F.type_str_rfind mt_rfind l_rfind (pd_var (pv 3)) (qa_cons pd_str qa_nil)) (qa_cons (pd_mN PySem.F.slot_str_rfind PySem.F.type_str_rfind mt_rfind l_rfind (pd_var (pv 3)) (qa_cons pd_str qa_nil)) (qa_cons pd_int qa_nil)))))
      (qss_cons (qs_set (i := 8) nd rfl (Or.inl rfl) (pd_if (qt_cmpV op_gtA l_ord (pv 7) (PD.b pd_int) (nomark _)) (pd_call Fi D_whole hr (Nat.le_refl _) (qa_cons (pd_slV Fi (pv 3) qo_none (qo_some (pb_var (pv 7)))) qa_nil)) pd_int))
      (qss_one (qs_ret (pd_tup (qa_cons (pd_tup (qa_cons (pd_var (pv 8)) (qa_cons (pd_call Fi D_multiple hr (Nat.le_refl _) (qa_cons (pd_slV Fi (pv 3) (qo_some (pb_var (pv 7))) (qo_some (PD.b (pd_un un_neg l_neg (PD.b pd_int))))) qa_nil)) (qa_cons (pd_var (pv 6)) qa_nil)))) (qa_cons (pd_var (pv 2)) qa_nil))))))))))))), ?_⟩
  obtain ⟨tx, n, i, j, m, r, rfl, hT, hs, hD, q⟩ := φ
  obtain ⟨⟨c1, c2⟩, ⟨c3, c4, c5⟩, c6, c7, c8, c9⟩ := slt_ok hs
  have es := lz_len (stS i j m)
  have ef : Txt.find3 tx (Str.ofString ",") (n : Int) = ((n + (lz (stS i j m)).length : Nat) : Int) := by rw [l1k]; exact hD.find c1
  have ec : L2.cutS tx (some (n : Int)) (some ((n + (lz (stS i j m)).length : Nat) : Int)) = stS i j m := by rw [hD.cut, List.take_left, wd_lz]
  have ep : Txt.partition (stS i j m) (Str.ofString "/") = sPart (stS i j m) := rfl
  have ea : Txt.stripChars (sPart (stS i j m)).1 (Str.ofString "()") = sAbove (stS i j m) := rfl
  have em : mx3 (Txt.rfind (sAbove (stS i j m)) (Str.ofString "+")) (Txt.rfind (sAbove (stS i j m)) (Str.ofString "-")) 0 = sCut (stS i j m) := rfl
  rw [← es] at q
  walk_at "u"
  refine IT.neg (by rw [ef]; omega) ?_
  simp only [ef]
  walk_at "u"
  generalize stS i j m = z at *
  generalize hend : n + (lz z).length = fin at *
  refine ⟨by rw [sizeLine_eq]; omega, ⟨by decide +kernel, by rw [ec, sizeLine_eq]; omega⟩, by rw [ec, ep, sizeLine_eq]; omega, by rw [ec, ep, sizeLine_eq]; omega, fun h => ?_, fun h => ?_⟩
  · simp only [ec, ep, ea] at h ⊢
    have h7 := c7 (by simpa using h)
    have h7l := whl_len h7
    walk_at "u"
    refine ⟨_, m, rfl, by rw [← lz_len]; omega, h7, ?_⟩
    walk_at "u"
    by_cases he : Txt.endswith (sAbove z) (Str.ofString "r") = true
    · obtain ⟨d1, d2, d3⟩ := c9 he
      refine IT.pos he ?_
      walk_at "u"
      simp only [em]
      have hm := mul_len d3
      refine ⟨fun h0 => ?_, fun h0 => ?_⟩
      · walk_at "u"
        simp only [em] at h0 ⊢
        have hw := whl_len (d1 h0)
        refine ⟨by rw [sizeLine_eq]; omega, _, i, rfl, by rw [← lz_len]; omega, d1 h0, ?_⟩
        walk_at "u"
        refine ⟨by rw [sizeLine_eq]; omega, _, j, rfl, by rw [← lz_len]; exact Nat.le_trans hm (by decide), d3, ?_⟩
        walk_at "u"
        exact q
      · walk_at "u"
        simp only [em] at h0 ⊢
        refine ⟨by rw [sizeLine_eq]; omega, _, j, rfl, by rw [← lz_len]; exact Nat.le_trans hm (by decide), d3, ?_⟩
        walk_at "u"
        rw [d2 h0] at q
        exact q
    · have he2 : Txt.endswith (sAbove z) (Str.ofString "r") = false := by simpa using he
      obtain ⟨rfl, d1⟩ := c8 he2
      have hw := whl_len d1
      refine IT.neg he ?_
      walk_at "u"
      refine ⟨_, i, rfl, by rw [← lz_len]; omega, d1, ?_⟩
      walk_at "u"
      exact q
  · simp only [ec, ep, ea] at h ⊢
    obtain rfl := c6 (by simpa using h)
    walk_at "u"
    by_cases he : Txt.endswith (sAbove z) (Str.ofString "r") = true
    · obtain ⟨d1, d2, d3⟩ := c9 he
      refine IT.pos he ?_
      walk_at "u"
      simp only [em]
      have hm := mul_len d3
      refine ⟨fun h0 => ?_, fun h0 => ?_⟩
      · walk_at "u"
        simp only [em] at h0 ⊢
        have hw := whl_len (d1 h0)
        refine ⟨by rw [sizeLine_eq]; omega, _, i, rfl, by rw [← lz_len]; omega, d1 h0, ?_⟩
        walk_at "u"
        refine ⟨by rw [sizeLine_eq]; omega, _, j, rfl, by rw [← lz_len]; exact Nat.le_trans hm (by decide), d3, ?_⟩
        walk_at "u"
        exact q
      · walk_at "u"
        simp only [em] at h0 ⊢
        refine ⟨by rw [sizeLine_eq]; omega, _, j, rfl, by rw [← lz_len]; exact Nat.le_trans hm (by decide), d3, ?_⟩
        walk_at "u"
        rw [d2 h0] at q
        exact q
    · have he2 : Txt.endswith (sAbove z) (Str.ofString "r") = false := by simpa using he
      obtain ⟨rfl, d1⟩ := c8 he2
      have hw := whl_len d1
      refine IT.neg he ?_
      walk_at "u"
      refine ⟨_, i, rfl, by rw [← lz_len]; omega, d1, ?_⟩
      walk_at "u"
      exact q
abbrev s_piece_at : Stmt := top 26
abbrev n_piece_at : List Str := ["text", "at", "floors", "size", "word", "slope", "term"]
theorem sc_piece_at : FnScope n_piece_at ["text", "at", "floors"] (defScope s_piece_at) := ⟨rfl, rfl, rfl, by decide +kernel, rfl, by decide +kernel, by decide +kernel⟩
theorem ok_piece {f : Addr} {fd : FuncData} {j m : Nat} (Fu : Fun K "_piece_at" "_piece_at" s_piece_at f fd) (T : TN mg) (D_is_figure : Df P w K mg base j "_is_figure" ["sign"] (spD K mg false (fSign dgt))) (D_figures_at : Df P w K mg base j "_figures_at" ["text", "at"] (spD K mg false fFigAt)) (D_word_at : Df P w K mg base j "_word_at" ["text", "at"] (spD K mg false fWordAt))
    (D_behind : Df P w K mg base j "_behind" ["text", "at", "mark"] (spD K mg false fBehind)) (D_slope_at : Df P w K mg base j "_slope_at" ["text", "at"] (spD K mg false fSlopeAt)) (Dk_term_at : Dk P w K mg base j "term_at" ["text", "at", "floors"] 2 ["floors"] (fun vs zs => vs ++ zs) (spD K mg false (below fTermAt m))) : FnOk P w K mg base CX0 (j + 1) f fd ["text", "at", "floors"] (spD K mg false (fPiece m)) := by
  refine fn_pd Fu sc_piece_at (fun ds k xk h => by obtain ⟨T, n, m', t, r, rfl, _⟩ := h; rfl) fun cdv A outer s H E C ds k xk hr Fi hu φ => ?_
  have nd := sc_piece_at.nd
  refine ⟨_, _, (qss_cons (qs_set (i := 3) nd rfl (Or.inl rfl) pd_int)
      (qss_cut (qs_if (qt_truth Fi (PD.b (pd_call Fi D_is_figure hr (Nat.le_refl _) (qa_cons (pd_slV Fi (pv 0) (qo_some (pb_var (pv 1))) (qo_some (PD.b (pd_opV op_addA (l_add Fi) (pv 1) (PD.b pd_int))))) qa_nil))))
      (qss_cons (qs_asg (pd_call Fi D_figures_at hr (Nat.le_refl _) (qa_cons (pd_var (pv 0)) (qa_cons (pd_var (pv 1)) qa_nil))) (qg_tup (n := 2) Fi rfl (qgs_cons (qg_name (pg_name (i := 3) nd rfl (Or.inl rfl))) (qgs_cons (qg_name (pg_name (i := 1) nd rfl (Or.inl rfl))) qgs_nil))))
        (qss_cons (qs_if (qt_not (qt_truth Fi (PD.b (pd_mN PySem.F.slot_str_startswith PySem.F.type_str_startswith mt_startswith3 l_starts3 (pd_var (pv 0)) (qa_cons pd_str (qa_cons (pd_var (pv 1)) qa_nil))))))
        (qss_one (qs_ret (pd_tup (qa_cons (pd_var (pv 3)) (qa_cons pd_non (qa_cons (pd_var (pv 1)) qa_nil))))))
        qss_nil)
        (qss_one (qs_aug (i := 1) nd rfl (Or.inl rfl) pd_int ip_add))))
      qss_nil)
      (qss_cons (qs_asg (pd_call Fi D_word_at hr (Nat.le_refl _) (qa_cons (pd_var (pv 0)) (qa_cons (pd_var (pv 1)) qa_nil))) (qg_tup (n := 2) Fi rfl (qgs_cons (qg_name (pg_name (i := 4) nd rfl (Or.inl rfl))) (qgs_cons (qg_name (pg_name (i := 1) nd rfl (Or.inl rfl))) qgs_nil))))
      (qss_cons (qs_if (qt_cmpV (op_neA hr.units) (l_ne Fi) (pv 4) (PD.b pd_str) (nomark _))
      (qss_one (qs_ret (pd_tup (qa_cons (pd_var (pv 3)) (qa_cons (pd_var (pv 4)) (qa_cons (pd_var (pv 1)) qa_nil))))))
      qss_nil)
      (qss_cons (qs_if (qt_cmpV (op_eqA hr.units) (l_eq Fi) (pv 2) (PD.b pd_int) (nomark _))
      (qss_one qs_never)
      qss_nil)
      (qss_cons (qs_asg (pd_call Fi D_slope_at hr (Nat.le_refl _) (qa_cons (pd_var (pv 0)) (qa_cons (pd_call Fi D_behind hr (Nat.le_refl _) (qa_cons (pd_var (pv 0)) (qa_cons (pd_var (pv 1)) (qa_cons pd_str qa_nil)))) qa_nil))) (qg_tup (n := 2) Fi rfl (qgs_cons (qg_name (pg_name (i := 5) nd rfl (Or.inl rfl))) (qgs_cons (qg_name (pg_name (i := 1) nd rfl (Or.inl rfl))) qgs_nil))))
      (qss_cons (qs_asg (pd_callK (ks := ["floors"]) (n := 2) Fi kw_app Dk_term_at hr (Nat.le_refl _) (qa_cons (pd_var (pv 0)) (qa_cons (pd_call Fi D_behind hr (Nat.le_refl _) (qa_cons (pd_var (pv 0)) (qa_cons (pd_var (pv 1)) (qa_cons pd_str qa_nil)))) qa_nil)) (qk_cons (pd_opV op_sub l_sub (pv 2) (PD.b pd_int)) qk_nil)) (qg_tup (n := 2) Fi rfl (qgs_cons (qg_name (pg_name (i := 6) nd rfl (Or.inl rfl))) (qgs_cons (qg_name (pg_name (i := 1) nd rfl (Or.inl rfl))) qgs_nil))))
      (qss_one (qs_ret (pd_tup (qa_cons (pd_var (pv 3)) (qa_cons (pd_tup (qa_cons (pd_var (pv 4)) (qa_cons (pd_var (pv 5)) (qa_cons (pd_var (pv 6)) qa_nil)))) (qa_cons (pd_call Fi D_behind hr (Nat.le_refl _) (qa_cons (pd_var (pv 0)) (qa_cons (pd_var (pv 1)) (qa_cons pd_str qa_nil)))) qa_nil))))))))))))), ?_⟩
  obtain ⟨tx, n, m', t, r, rfl, hm, hT, hR, hD, hS, q⟩ := φ
  cases t with
  | con c =>
    have hn := num_ok (n := aI c) (by have := hR.1; have := hR.2; unfold aI; split <;> omega)
    have hD : Dr tx n (lz (tS (aI c)) ++ r) := hD
    have hS0 : hdL dgt r = false := hdL_of fun c h => (hS c h).1
    walk_at "u"
    refine cut (fun _ => False) ?_ (fun _ h => h.elim)
    walk_at "u"
    rw [cutO hD]
    refine ⟨by rw [sizeLine_eq]; omega, _, rfl, by rw [List.length_take]; omega, ?_⟩
    rw [hd_take, hdL_num hn]
    walk_at "u"
    refine ⟨tx, n, _, _, _, rfl, hT, hD, hn, hS0, ?_⟩
    walk_at "u"
    have e2 := hD.on.starts (Str.ofString "*")
    rw [show (Str.ofString "*").length = 1 by decide +kernel, l1s] at e2
    refine IT.neg (by
      rw [e2]
      cases r with
      | nil => simp
      | cons d r => have := (hS d rfl).2.2; simpa using this) ?_
    walk_at "u"
    rw [lz_len]
    exact q
  | nm f x r' =>
    obtain ⟨g1, g2, g3, g4⟩ := hR.2.1
    have hl := low_ltr g1
    have hx0 : hdL dgt (lz x ++ r) = false := by
      cases e : lz x with
      | nil => have := lz_len x; rw [e] at this; simp at this; omega
      | cons c l =>
        rw [e, List.all_cons, Bool.and_eq_true] at hl
        have := hl.1
        simp only [ltr, Bool.and_eq_true, decide_eq_true_eq] at this
        show (decide (48 ≤ c) && decide (c ≤ 57)) = false
        simp; omega
    have ha := aI_le hR.1
    have hs0 : Dr tx n (lz (zpS (aI f)) ++ (lz x ++ r)) := by
      have h : Dr tx n (lz (itS (aI f) x) ++ r) := hD
      rw [itS_eq, lz_app, List.append_assoc] at h
      exact h
    have hs1 := hs0.on
    rw [lz_len] at hs1
    walk_at "u"
    refine cut1 [some (.fz (.str tx)), some (.fz (.int ((n + (zpS (aI f)).length : Nat) : Int))), some (.fz (.int (m' : Nat))), some (.fz (.int (aI f))), none, none, none] ?_ ?_
    · walk_at "u"
      by_cases h1 : aI f = 1
      · have e0 : zpS (aI f) = Str.empty := if_pos h1
        rw [e0, lz_emp, List.nil_append] at hs0
        rw [cutO hs0]
        refine ⟨by rw [sizeLine_eq]; omega, _, rfl, by rw [List.length_take]; omega, ?_⟩
        rw [hd_take, hx0]
        walk_at "u"
        rw [e0, h1]
        rfl
      · have e0 : zpS (aI f) = tS (aI f) ++ Str.ofString "*" := if_neg h1
        have e1 : (zpS (aI f)).length = (lz (tS (aI f))).length + 1 := by rw [e0, len_app, lz_len]; rfl
        rw [e0, lz_app, l1s, List.append_assoc] at hs0
        rw [cutO hs0]
        have hn := num_ok (n := aI f) (by omega)
        refine ⟨by rw [sizeLine_eq]; omega, _, rfl, by rw [List.length_take]; omega, ?_⟩
        rw [hd_take, hdL_num hn]
        walk_at "u"
        refine ⟨tx, n, _, _, _, rfl, hT, hs0, hn, rfl, ?_⟩
        walk_at "u"
        have e2 := hs0.on.starts (Str.ofString "*")
        rw [show (Str.ofString "*").length = 1 by decide +kernel, l1s] at e2
        refine IT.pos (by rw [e2]; rfl) ?_
        walk_at "u"
        rw [e1]
        rfl
    walk_at "u"
    refine ⟨tx, _, lz x, r, rfl, hT, hs1, hl, hdL_of fun c h => (hS c h).2.1, ?_⟩
    walk_at "u"
    refine IT.neg (by rw [wd_lz]; exact g4) ?_
    walk_at "u"
    have el : n + (zpS (aI f)).length + (lz x).length = n + (pieT (.nm f x r')).length := by
      show _ = n + (itS (aI f) x).length
      rw [itS_eq, len_app, lz_len]; omega
    rw [el]
    exact q
  | fl f i j k' t r' =>
    have hx0 : hdL dgt (lz (flS (stS i j k') t.tx) ++ r) = false := by
      unfold flS
      rw [show (Str.ofString "floor(" ++ stS i j k' ++ Str.ofString ", " ++ t.tx ++ Str.ofString ")") = Str.ofString "floor(" ++ (stS i j k' ++ Str.ofString ", " ++ t.tx ++ Str.ofString ")") by simp only [RF.s_assoc], lz_app, lfl]
      rfl
    have ha := aI_le hR.1
    have hs0 : Dr tx n (lz (zpS (aI f)) ++ (lz (flS (stS i j k') t.tx) ++ r)) := by
      have h : Dr tx n (lz (itS (aI f) (flS (stS i j k') t.tx)) ++ r) := hD
      rw [itS_eq, lz_app, List.append_assoc] at h
      exact h
    have hs1 := hs0.on
    rw [lz_len] at hs1
    walk_at "u"
    refine cut1 [some (.fz (.str tx)), some (.fz (.int ((n + (zpS (aI f)).length : Nat) : Int))), some (.fz (.int (m' : Nat))), some (.fz (.int (aI f))), none, none, none] ?_ ?_
    · walk_at "u"
      by_cases h1 : aI f = 1
      · have e0 : zpS (aI f) = Str.empty := if_pos h1
        rw [e0, lz_emp, List.nil_append] at hs0
        rw [cutO hs0]
        refine ⟨by rw [sizeLine_eq]; omega, _, rfl, by rw [List.length_take]; omega, ?_⟩
        rw [hd_take, hx0]
        walk_at "u"
        rw [e0, h1]
        rfl
      · have e0 : zpS (aI f) = tS (aI f) ++ Str.ofString "*" := if_neg h1
        have e1 : (zpS (aI f)).length = (lz (tS (aI f))).length + 1 := by rw [e0, len_app, lz_len]; rfl
        rw [e0, lz_app, l1s, List.append_assoc] at hs0
        rw [cutO hs0]
        have hn := num_ok (n := aI f) (by omega)
        refine ⟨by rw [sizeLine_eq]; omega, _, rfl, by rw [List.length_take]; omega, ?_⟩
        rw [hd_take, hdL_num hn]
        walk_at "u"
        refine ⟨tx, n, _, _, _, rfl, hT, hs0, hn, rfl, ?_⟩
        walk_at "u"
        have e2 := hs0.on.starts (Str.ofString "*")
        rw [show (Str.ofString "*").length = 1 by decide +kernel, l1s] at e2
        refine IT.pos (by rw [e2]; rfl) ?_
        walk_at "u"
        rw [e1]
        rfl
    walk_at "u"
    rw [lz_flS, List.append_assoc] at hs1
    simp only [List.cons_append, List.append_assoc, List.nil_append] at hs1
    refine ⟨tx, _, _, _, rfl, hT, hs1, by rw [lfw]; decide, rfl, ?_⟩
    have hs2 := hs1.on
    walk_at "u"
    refine IT.pos (wd_lz _) ?_
    walk_at "u"
    refine IT.neg (by have := hR.2.2.1; omega) ?_
    walk_at "u"
    refine ⟨tx, _, _, _, rfl, hT, (by rw [l1o]; exact hs2), ?_⟩
    have hs3 := hs2.on1
    walk_at "u"
    refine ⟨tx, _, i, j, k', _, rfl, hT, hR.2.1, hs3, ?_⟩
    have hs4 := hs3.on
    walk_at "u"
    refine ⟨tx, _, _, _, rfl, hT, (by rw [l2c]; exact hs4), ?_⟩
    have hs5 : Dr tx (n + (zpS (aI f)).length + (lz (Str.ofString "floor")).length + 1 + (lz (stS i j k')).length + 2) (lz t.tx ++ 41 :: r) := Dr.on (a := [44, 32]) hs4
    walk_at "u"
    refine ⟨m' - 1, by have := hR.2.2.1; omega, tx, _, m' - 1, t, _, (by rw [show (((m' - 1 : Nat)) : Int) = (m' : Int) - 1 by have := hR.2.2.1; omega]; rfl), Nat.le_refl _, hT, hR.2.2.2.1.1, Nat.le_trans hR.2.2.2.1.2 (by decide), hs5, stop_c r, ?_⟩
    have hs6 := hs5.on
    walk_at "u"
    refine ⟨tx, _, _, r, rfl, hT, (by rw [l1c]; exact hs6), ?_⟩
    walk_at "u"
    have el : n + (zpS (aI f)).length + (lz (Str.ofString "floor")).length + 1 + (lz (stS i j k')).length + 2 + t.tx.length + (Str.ofString ")").length = n + (pieT (.fl f i j k' t r')).length := by
      show _ = n + (itS (aI f) (flS (stS i j k') t.tx)).length
      have e1 := congrArg List.length (lz_flS (stS i j k') t.tx)
      rw [lz_len] at e1
      simp only [List.length_append, List.length_cons, List.length_nil, lz_len] at e1
      rw [itS_eq, len_app, e1, lz_len, lz_len, show (Str.ofString ")").length = 1 by decide +kernel]
      omega
    rw [el]
    exact q
abbrev s_term_at : Stmt := top 25
abbrev n_term_at : List Str := ["text", "at", "floors", "items", "sign", "size", "thing"]
theorem sc_term_at : FnScope n_term_at ["text", "at", "floors"] (defScope s_term_at) := ⟨rfl, rfl, rfl, by decide +kernel, rfl, by decide +kernel, by decide +kernel⟩
theorem ok_termat {f : Addr} {fd : FuncData} {j m : Nat} (Fu : Fun K "term_at" "term_at" s_term_at f fd) (T : TN mg) (D_piece_at : Df P w K mg base j "_piece_at" ["text", "at", "floors"] (spD K mg false (fPiece m))) : FnOk P w K mg base CX0 (j + 1) f fd ["text", "at", "floors"] (spD K mg false (fTermAt m)) := by
  refine fn_pd Fu sc_term_at (fun ds k xk h => by obtain ⟨T, n, m', t, r, rfl, _⟩ := h; rfl) fun cdv A outer s H E C ds k xk hr Fi hu φ => ?_
  have nd := sc_term_at.nd
  refine ⟨_, _, (qss_cons (qs_set (i := 3) nd rfl (Or.inl rfl) (pd_lst qa_nil))
      (qss_cons (qs_set (i := 4) nd rfl (Or.inl rfl) pd_int)
      (qss_cut (qs_if (qt_truth Fi (PD.b (pd_mN PySem.F.slot_str_startswith PySem.F.type_str_startswith mt_startswith3 l_starts3 (pd_var (pv 0)) (qa_cons pd_str (qa_cons (pd_var (pv 1)) qa_nil)))))
      (qss_one (qs_par (i := 4) (j := 1) rfl nd rfl rfl (by decide) rfl rfl (pd_un un_neg l_neg (PD.b pd_int)) (pd_opV op_addA (l_add Fi) (pv 1) (PD.b pd_int)) (by kernel_rfl)))
      qss_nil)
      (qss_one (qs_while PassesOwn.never (qt_truth Fi (PD.b pd_bl))
      (qss_cons (qs_asg (pd_call Fi D_piece_at hr (Nat.le_refl _) (qa_cons (pd_var (pv 0)) (qa_cons (pd_var (pv 1)) (qa_cons (pd_var (pv 2)) qa_nil)))) (qg_tup (n := 3) Fi rfl (qgs_cons (qg_name (pg_name (i := 5) nd rfl (Or.inl rfl))) (qgs_cons (qg_name (pg_name (i := 6) nd rfl (Or.inl rfl))) (qgs_cons (qg_name (pg_name (i := 1) nd rfl (Or.inl rfl))) qgs_nil)))))
        (qss_cons (qs_if (qt_cmpV op_isA l_is (pv 6) (PD.b pd_non) (nomark _))
        (qss_one (qs_ret (pd_tup (qa_cons (pd_tup (qa_cons (pd_callTy1 call_tuple_of (l_tuple Fi) (by rfl) T.tuple (by decide +kernel) (pb_var (pv 3))) (qa_cons (pd_opV op_mulA l_mul (pv 4) (pb_var (pv 5))) qa_nil))) (qa_cons (pd_var (pv 1)) qa_nil)))))
        qss_nil)
        (qss_cons (qs_expr (pd_app (pv 3) (pd_tup (qa_cons (pd_opV op_mulA l_mul (pv 4) (pb_var (pv 5))) (qa_cons (pd_var (pv 6)) qa_nil)))))
        (qss_cons (qs_if (qt_w (qw_and (qt_not (qt_truth Fi (PD.b (pd_mN PySem.F.slot_str_startswith PySem.F.type_str_startswith mt_startswith3 l_starts3 (pd_var (pv 0)) (qa_cons pd_str (qa_cons (pd_var (pv 1)) qa_nil)))))) (qw_and1 (qt_not (qt_truth Fi (PD.b (pd_mN PySem.F.slot_str_startswith PySem.F.type_str_startswith mt_startswith3 l_starts3 (pd_var (pv 0)) (qa_cons pd_str (qa_cons (pd_var (pv 1)) qa_nil)))))))))
        (qss_one (qs_ret (pd_tup (qa_cons (pd_tup (qa_cons (pd_callTy1 call_tuple_of (l_tuple Fi) (by rfl) T.tuple (by decide +kernel) (pb_var (pv 3))) (qa_cons pd_int qa_nil))) (qa_cons (pd_var (pv 1)) qa_nil)))))
        qss_nil)
        (qss_cons (qs_set (i := 4) nd rfl (Or.inl rfl) (pd_if (qt_truth Fi (PD.b (pd_mN PySem.F.slot_str_startswith PySem.F.type_str_startswith mt_startswith3 l_starts3 (pd_var (pv 0)) (qa_cons pd_str (qa_cons (pd_var (pv 1)) qa_nil))))) pd_int (pd_un un_neg l_neg (PD.b pd_int))))
        (qss_one (qs_aug (i := 1) nd rfl (Or.inl rfl) pd_int ip_add)))))))))))), ?_⟩
  obtain ⟨tx, n, m', t, r, rfl, hm, hT, hR, hc, hD, hS, q⟩ := φ
  have ht := tx_eq t
  rw [hdP_eq] at ht
  rw [ht, lz_app, lz_app, List.append_assoc, List.append_assoc] at hD
  have hl0 := congrArg Str.length ht
  rw [len_app, len_app] at hl0
  walk_at "u"
  refine cut1 [some (.fz (.str tx)), some (.fz (.int ((n + (sgS (fctT t)).length : Nat) : Int))), some (.fz (.int (m' : Nat))), some (.ol []), some (.fz (.int (sgI (fctT t)))), none, none] ?_ ?_
  · have e2 := hD.starts (Str.ofString "-")
    rw [show (Str.ofString "-").length = 1 by decide +kernel, l1m] at e2
    walk_at "u"
    by_cases hf : fctT t < 0
    · have e3 : sgS (fctT t) = Str.ofString "-" := if_pos hf
      rw [e3, l1m] at e2
      refine IT.pos (by rw [e2]; rfl) ?_
      walk_at "u"
      rw [e3, show sgI (fctT t) = -1 from if_pos hf]
      rfl
    · have e3 : sgS (fctT t) = Str.empty := if_neg hf
      rw [e3, lz_emp, List.nil_append] at e2
      refine IT.neg (by
        rw [e2]
        have := pie_ne hR (lz (aftT t) ++ r)
        cases e : lz (pieT t) ++ (lz (aftT t) ++ r) with
        | nil => simp
        | cons d l => rw [e] at this; have := this d rfl; simpa using this) ?_
      walk_at "u"
      rw [e3, show sgI (fctT t) = 1 from if_neg hf]
      rfl
  walk_at "u"
  refine wh_ind (fun k ρ => ∃ (t' : Tm) (L : List D) (a : Nat) (v5 v6 : Option Sl), k = t'.cnt ∧ ρ = [some (.fz (.str tx)), some (.fz (.int (a : Nat))), some (.fz (.int (m' : Nat))), some (.ol L), some (.fz (.int (sgI (fctT t')))), v5, v6] ∧ RdT m' t' ∧
    Dr tx a (lz (pieT t') ++ (lz (aftT t') ++ r)) ∧ L ++ t'.its = t.its ∧ t'.c = t.c ∧ a + (pieT t').length + (aftT t').length = n + t.tx.length ∧ L.length + t'.cnt ≤ 1000) (fun k ρ N h hN => ?_) t.cnt _ ⟨t, [], _, none, none, rfl, rfl, hR, by have := hD.on; rw [lz_len] at this; exact this, rfl, rfl, by omega, by simpa using hc⟩
  obtain ⟨t', L, a, v5, v6, rfl, rfl, hR', hD', hL, hc', hp, hn⟩ := h
  have hst : ∀ c, (lz (aftT t') ++ r).head? = some c → dgt c = false ∧ ltr c = false ∧ c ≠ 42 := by rw [aft_nxt]; exact aft_stop _ hS
  have hD2 := hD'.on
  rw [lz_len] at hD2
  walk_at "u"
  refine ⟨tx, a, m', t', _, rfl, hm, hT, hR', hD', hst, ?_⟩
  walk_at "u"
  refine ⟨told_thg t', ?_⟩
  have hfl := fct_le hR'
  by_cases h0 : thgT t' = .non
  · refine IT.pos (by rw [h0]) ?_
    walk_at "u"
    refine ⟨mulx_s hfl, ?_⟩
    rw [sg_aI]
    cases t' with
    | con c =>
      rw [show L = t.its by rw [← hL]; exact (List.append_nil L).symm]
      have ec : c = t.c := hc'
      have ea : a + (pieT (.con c)).length = n + t.tx.length := by rw [← hp]; rfl
      rw [ea]
      rw [show t.d = .tup [.tup t.its, .int c] by rw [ec]; rfl] at q
      exact q
    | nm f x r' => cases h0
    | fl f i j k' u r' => cases h0
  obtain ⟨e1, e2, e3⟩ := its_nxt h0
  have hRn := rd_nxt hR'
  refine IT.neg (by
    intro z
    split at z
    · rename_i e; exact h0 e
    · cases z) ?_
  walk_at "u"
  refine ⟨mulx_s hfl, by omega, ?_⟩
  rw [sg_aI]
  have s1 := hD2.starts (Str.ofString " + ")
  have s2 := hD2.starts (Str.ofString " - ")
  rw [aft_nxt] at s1 s2 hD2 hp
  by_cases hz : nxtT t' = .con 0
  · have z1 := (starts_stop hS).1
    have z2 := (starts_stop hS).2
    rw [hz, show catT (.con 0) = Str.empty from rfl, lz_emp, List.nil_append] at s1 s2
    rw [z1] at s1
    rw [z2] at s2
    refine IT.neg (by rw [s1]; decide) ?_
    walk_at "u"
    refine IT.neg (by rw [s2]; decide) ?_
    walk_at "u"
    have ei : L ++ [.tup [.int (fctT t'), thgT t']] = t.its := by rw [← hL, e1, hz]; rfl
    have ec : t.c = 0 := by rw [← hc', e2, hz]; rfl
    rw [ei, show a + (pieT t').length = n + t.tx.length by rw [← hp, hz]; rfl]
    rw [show t.d = .tup [.tup t.its, .int 0] by rw [← ec]; rfl] at q
    exact q
  · rw [catT_non hz, lz_app, List.append_assoc] at s1 s2 hD2
    have z1 := (starts_mark (fctT (nxtT t')) (lz (pieT (nxtT t') ++ aftT (nxtT t')) ++ r)).1
    have z2 := (starts_mark (fctT (nxtT t')) (lz (pieT (nxtT t') ++ aftT (nxtT t')) ++ r)).2
    rw [z1] at s1
    rw [z2] at s2
    have hD3 := hD2.on
    rw [mark_len, lz_app, List.append_assoc] at hD3
    have hlp : (catT (nxtT t')).length = 3 + (pieT (nxtT t')).length + (aftT (nxtT t')).length := by
      have := mark_len (fctT (nxtT t'))
      rw [lz_len] at this
      rw [catT_non hz, len_app, len_app, this]; omega
    by_cases hf : fctT (nxtT t') < 0
    · refine IT.neg (by rw [s1]; simpa using hf) ?_
      walk_at "u"
      refine IT.pos (by rw [s2]; simpa using hf) ?_
      walk_at "u"
      refine IT.neg (by rw [s1]; simpa using hf) ?_
      walk_at "u"
      exact hN _ (by omega) _ ⟨nxtT t', _, _, _, _, rfl, by rw [show sgI (fctT (nxtT t')) = -1 from if_pos hf]; rfl, hRn, hD3, by rw [← hL, e1, List.append_assoc]; rfl, by rw [← hc', e2], by omega, by rw [List.length_append]; show L.length + 1 + _ ≤ 1000; omega⟩
    · refine IT.pos (by rw [s1]; simpa using hf) ?_
      walk_at "u"
      refine IT.pos (by rw [s1]; simpa using hf) ?_
      walk_at "u"
      exact hN _ (by omega) _ ⟨nxtT t', _, _, _, _, rfl, by rw [show sgI (fctT (nxtT t')) = 1 from if_neg hf]; rfl, hRn, hD3, by rw [← hL, e1, List.append_assoc]; rfl, by rw [← hc', e2], by omega, by rw [List.length_append]; show L.length + 1 + _ ≤ 1000; omega⟩
theorem fTermAt_mono (m n : Nat) (h : m ≤ n) (ds : List D) (κ : Sl → Prop) (e : Exc → Prop) : fTermAt m ds κ e → fTermAt n ds κ e := fun ⟨T, a, m', t, r, h1, h2, h3⟩ => ⟨T, a, m', t, r, h1, Nat.le_trans h2 h, h3⟩
theorem all_termat {f f' : Addr} {fd fd' : FuncData} {k : Nat} (Ft : Fun K "term_at" "term_at" s_term_at f fd) (Fi : Fun K "_piece_at" "_piece_at" s_piece_at f' fd') (T : TN mg) (D_is_figure : Df P w K mg base k "_is_figure" ["sign"] (spD K mg false (fSign dgt))) (D_figures_at : Df P w K mg base k "_figures_at" ["text", "at"] (spD K mg false fFigAt)) (D_word_at : Df P w K mg base k "_word_at" ["text", "at"] (spD K mg false fWordAt))
    (D_behind : Df P w K mg base k "_behind" ["text", "at", "mark"] (spD K mg false fBehind)) (D_slope_at : Df P w K mg base k "_slope_at" ["text", "at"] (spD K mg false fSlopeAt))
    (kb : ∃ g, KBn K fd ["text", "at", "floors"] 2 ["floors"] g (fun vs zs => vs ++ zs)) (bi : Binds K fd' ["text", "at", "floors"] []) (mt : mg "term_at" = some (.ref f)) (mi : mg "_piece_at" = some (.ref f')) : ∀ n : Nat, FnOk P w K mg base CX0 (k + 2 * n + 2) f fd ["text", "at", "floors"] (spD K mg false (fTermAt n)) :=
  rec_fn (Φ := fTermAt) k 2 fTermAt_mono fun n j hj IH => ok_termat Ft T ⟨_, _, ok_piece Fi T (dmono D_is_figure hj) (dmono D_figures_at hj) (dmono D_word_at hj) (dmono D_behind hj) (dmono D_slope_at hj) ⟨_, _, _, IH, kb.choose_spec, mt, Ft.kp⟩, bi, mi, Fi.kp⟩
end
end Q

set_option autoImplicit false
set_option linter.all false
/-! Vr: names of variables, terms of these -/
namespace Q
open PySem L2
def NOV : List D := [.str "all", .str "and", .str "not", .str "or", .str "r"]
def VrB (x : Str) : Prop := lowS x ∧ 1 ≤ x.length ∧ x.length ≤ 3 ∧ inD (.str x) NOV = false
def VrT : Nat → Tm → Prop
  | _, .con c => -1000 ≤ c ∧ c ≤ 1000
  | m, .nm f x r => (f ≠ 0 ∧ -9 ≤ f ∧ f ≤ 9) ∧ VrB x ∧ VrT m r
  | m, .fl f i j k t r => (f ≠ 0 ∧ -9 ≤ f ∧ f ≤ 9) ∧ SlB i j k ∧ 0 < m ∧ (VrT (m - 1) t ∧ t.cnt ≤ 4) ∧ VrT m r
theorem VrB.rd {x : Str} (h : VrB x) : lowS x ∧ 0 < x.length ∧ x.length ≤ 8 ∧ x ≠ Str.ofString "floor" := by
  obtain ⟨h1, h2, h3, _⟩ := h
  refine ⟨h1, h2, by omega, fun z => ?_⟩
  have : x.length = 5 := by rw [z]; decide +kernel
  omega
theorem VrT.rd : ∀ {m : Nat} {t : Tm}, VrT m t → RdT m t
  | _, .con c, h => h
  | m, .nm f x r, h => ⟨h.1, h.2.1.rd, VrT.rd (t := r) h.2.2⟩
  | m, .fl f i j k t r, h => by
    obtain ⟨h1, h2, h3, h4, h5⟩ := h
    exact ⟨h1, h2, h3, ⟨VrT.rd (t := t) h4.1, h4.2⟩, VrT.rd (t := r) h5⟩
theorem GenT.vr {ns : List Str} (hn : ∀ x ∈ ns, VrB x) : ∀ {m : Nat} {t : Tm}, GenT ns m t → VrT m t
  | _, .con c, h => h
  | m, .nm f x r, h => ⟨h.1, hn x h.2.1, GenT.vr hn (t := r) h.2.2⟩
  | m, .fl f i j k t r, h => by
    obtain ⟨h1, h2, h3, h4, h5⟩ := h
    exact ⟨h1, h2, h3, ⟨GenT.vr hn (t := t) h4.1, h4.2⟩, GenT.vr hn (t := r) h5⟩
theorem VrT.c {m : Nat} : ∀ {t : Tm}, VrT m t → -1000 ≤ t.c ∧ t.c ≤ 1000
  | .con c, h => h
  | .nm f x r, h => VrT.c (t := r) h.2.2
  | .fl f i j k t r, h => VrT.c (t := r) h.2.2.2.2
/-- an item of such a term -/
def VrI (m : Nat) (d : D) : Prop := (∃ f x, d = .tup [.int f, .str x] ∧ (f ≠ 0 ∧ -9 ≤ f ∧ f ≤ 9) ∧ VrB x) ∨ ∃ f i j k, ∃ t : Tm, d = .tup [.int f, .tup [.str "floor", .tup [.int i, .int j, .int k], t.d]] ∧ (f ≠ 0 ∧ -9 ≤ f ∧ f ≤ 9) ∧ SlB i j k ∧ 0 < m ∧ VrT (m - 1) t ∧ t.cnt ≤ 4
theorem VrT.its {m : Nat} : ∀ {t : Tm}, VrT m t → ∀ d ∈ t.its, VrI m d
  | .con c, h, d, hd => by cases hd
  | .nm f x r, h, d, hd => by
    rcases List.mem_cons.mp hd with rfl | hd
    · exact .inl ⟨f, x, rfl, h.1, h.2.1⟩
    · exact VrT.its (t := r) h.2.2 d hd
  | .fl f i j k t r, h, d, hd => by
    rcases List.mem_cons.mp hd with rfl | hd
    · exact .inr ⟨f, i, j, k, t, rfl, h.1, h.2.1, h.2.2.1, h.2.2.2.1.1, h.2.2.2.1.2⟩
    · exact VrT.its (t := r) h.2.2.2.2 d hd
end Q

set_option autoImplicit false
set_option linter.all false
/-! IS: terms are known for terms -/
namespace Q
open PySem L2
open RF (top Df e_app app_e len_app)
local macro_rules | `(tactic| walk_at "u") => `(tactic| simp (config := { dsimp := false }) only [↓CL_of, ↓IT_of, ↓LC_of, ↓LP_of, ↓WH_of, ↓CT_of, ↓IC_of, ↓SC_of, ↓wSeq, ↓wIfS, ↓wYes, ↓wOpV, ↓wOp, ↓wC, ↓wUn, ↓wRet, ↓wJoin, ↓wJs, ↓wArg, ↓wCons, ↓wVar, ↓wBor, ↓wMv, ↓wSet, ↓wAsg, ↓wNm, ↓wTg, ↓wGCons, ↓wApp, ↓wPop, ↓wExt, ↓wSub, ↓wDrop, ↓wPar, ↓wAug, ↓wAnd, ↓wOr, ↓wNot, ↓wTru, truP, ↓wIf, ↓wAndV, ↓wOrV, ↓wNotV, ↓wChain, ↓wSl, ↓wSlV, ↓wPart, ↓wM1, ↓wMN, pStarts, pEnds, pRfind, pStripC, pParts, pStarts3, pFind3, pSS, pSSI, pMax3, ↓wFor, ↓wLc, ↓wList, ↓wTupI, ↓wRng1, ↓wRng2, ↓wEnum, ↓wZip, ↓wRevI, ↓wStrI, ↓wKw, pCallV, wipeE, pTupN, pLstN, pIx, pSl, pRev, pLen, pAbs, pInt, pBool, pStr, pList, pTuple, pSum, pNums, pBls, pIsi, pIsi2, tyN, aI_fold, cutD1, inD_nil, inD_cons, Bool.or_eq_true, decide_eq_true_eq, Bool.or_false, Bool.false_or, Bool.true_or, Bool.or_true, decide_true, decide_false, or_false, false_or, or_true, true_or, List.all_cons, List.all_nil, Bool.and_self, Bool.not_true, Bool.not_false, iff_self, if_true, if_false, Bool.false_eq_true, ofS_inj, String.reduceEq, ati0, ati1, ati2, ati3, ati4, exists_and_left, isi_NoneType_bool, isi_NoneType_int, isi_NoneType_str, isi_NoneType_list, isi_NoneType_tuple, isi_bool_bool, isi_bool_int, isi_bool_str, isi_bool_list, isi_bool_tuple, isi_int_bool, isi_int_int, isi_int_str, isi_int_list, isi_int_tuple, isi_str_bool, isi_str_int, isi_str_str, isi_str_list, isi_str_tuple, isi_list_bool, isi_list_int, isi_list_str, isi_list_list, isi_list_tuple, isi_tuple_bool, isi_tuple_int, isi_tuple_str, isi_tuple_list, isi_tuple_tuple, isi_dict_bool, isi_dict_int, isi_dict_str, isi_dict_list, isi_dict_tuple, mi_bool, mi_int, mi_str, mi_list, mi_tuple, pI2, pI2N, pAdd, pSub, pMul, pNeg, pEqF, pOrd, pIs, pIn, isNon, D.told, D.flat, pFmt, pDivmod, startE, fzs, List.map_cons, List.map_nil, List.length_cons, List.length_nil, List.cons_append, List.nil_append, List.replicate, get_s, get_z, List.set_cons_zero, List.set_cons_succ, Option.some.injEq, exists_eq', true_and, and_true, exists_eq_left', Sl.toD, Nat.sub_self, Nat.reduceAdd, Nat.reduceLeDiff, Nat.reduceLT, Int.reduceToNat, Nat.reduceSub, scalD, eqD_int, eqD_str, eqD_tt, eqD_ff, eqD_tf, eqD_ft, id_eq, reduceCtorEq, false_implies, implies_true, D.int.injEq, D.str.injEq, D.lst.injEq, D.tup.injEq, Sl.fz.injEq, Sl.ol.injEq, RF.e_app, RF.app_e, RF.emp_eq, IT_t, IT_f, IT_T, IT_F, IT_d, IT_n, IT_not])
local macro_rules | `(tactic| walk_at "l") => `(tactic| first | omega | (simp only [RF.len_app, RF.e_app, RF.app_e, RF.emp_eq, sizeLine_eq, l_dash, l_plus, l_r, l_emp, l_lp, l_rpd, l_slash, l_star, l_sp1, l_sp2, l_flo, l_com, l_rp, l_le, l_equ, l_und, l_lea, l_not, l_allS, l_some, l_spc, l_ors, l_ands, List.map_cons, List.map_nil, List.sum_cons, List.sum_nil, List.length_cons, List.length_nil, List.length_map, List.length_append, List.length_replicate, List.length_range] <;> omega))
local macro_rules | `(tactic| walk_at "f") => `(tactic| ((repeat' apply And.intro) <;> first | assumption | walk_at "l"))
local macro_rules | `(tactic| walk_at "s") => `(tactic| (repeat (refine And.intro (by walk_at "l") ?_)))
def fIsWhole : Ph := fun ds k _ => ∃ i : Int, ds = [.int i] ∧ k (.fz (.bl true))
def fBtw : Ph := fun ds k _ => ∃ i a b : Int, ds = [.int i, .int a, .int b] ∧ k (.fz (.bl (decide (a ≤ i) && decide (i ≤ b))))
def fIsWord : Ph := fun ds k _ => ∃ (v : D) (a b : Int), ds = [v, .int a, .int b] ∧ ((∃ x : Str, v = .str x ∧ lowS x ∧ x.length ≤ 1000 ∧ k (.fz (.bl (decide (a ≤ (x.length : Nat)) && decide (((x.length : Nat) : Int) ≤ b))))) ∨ ∃ es : List D, v = .tup es ∧ k (.fz (.bl false)))
def fIsVar : Ph := fun ds k _ => ∃ v : D, ds = [v] ∧ ((∃ x : Str, v = .str x ∧ VrB x ∧ k (.fz (.bl true))) ∨ ∃ es : List D, v = .tup es ∧ k (.fz (.bl false)))
def fIsSlope : Ph := fun ds k _ => ∃ i j m : Int, ds = [.tup [.int i, .int j, .int m]] ∧ SlB i j m ∧ k (.fz (.bl true))
def fTermW (n : Nat) : Ph := fun ds k _ => ∃ (t : Tm) (m : Nat), ds = [t.d, .int m] ∧ m ≤ n ∧ VrT m t ∧ t.cnt ≤ 4 ∧ k (.fz (.bl true))
def fIsFloor (n : Nat) : Ph := fun ds k _ => ∃ (i j l : Int) (t : Tm) (m : Nat), ds = [.tup [.str "floor", .tup [.int i, .int j, .int l], t.d], .int m] ∧ m ≤ n ∧ SlB i j l ∧ 0 < m ∧ VrT (m - 1) t ∧ t.cnt ≤ 4 ∧ k (.fz (.bl true))
def fIsItem (n : Nat) : Ph := fun ds k _ => ∃ (d : D) (m : Nat), ds = [d, .int m] ∧ m ≤ n ∧ VrI m d ∧ k (.fz (.bl true))
def fIsTerm : Ph := fun ds k _ => ∃ t : Tm, ds = [t.d] ∧ VrT 3 t ∧ t.cnt ≤ 4 ∧ k (.fz (.bl true))
section
variable {P : Program} {w : World} {K : PySem.W.Frag} {mg : Str → Option Value} {base : Heap}
abbrev s_is_letter : Stmt := top 9
abbrev n_is_letter : List Str := ["sign"]
theorem sc_is_letter : FnScope n_is_letter ["sign"] (defScope s_is_letter) := ⟨rfl, rfl, rfl, by decide +kernel, rfl, by decide +kernel, by decide +kernel⟩
theorem ok_isletter {f : Addr} {fd : FuncData} {j : Nat} (Fu : Fun K "is_letter" "is_letter" s_is_letter f fd) (T : TN mg) : FnOk P w K mg base CX0 (j + 1) f fd ["sign"] (spD K mg false (fSign ltr)) := by
  refine fn_pd Fu sc_is_letter (fun ds k xk h => by obtain ⟨l, rfl, _⟩ := h; rfl) fun cdv A outer s H E C ds k xk hr Fi hu φ => ?_
  have nd := sc_is_letter.nd
  refine ⟨_, _, (qss_one (qs_ret (pd_chain op_leA op_leA l_ord l_ord pd_str (pd_var (pv 0)) (PD.b pd_str)))), ?_⟩
  obtain ⟨l, rfl, hl, q⟩ := φ
  walk_at "u"
  rw [show (Str.ofString "a").cps.toList = [97] from lza, show (wd l).cps.toList = l from rfl]
  cases l with
  | nil =>
    rw [lt_nilL]
    refine ⟨fun _ => ?_, fun h => absurd trivial h⟩
    walk_at "u"
    exact q
  | cons c l =>
    obtain rfl : l = [] := List.eq_nil_of_length_eq_zero (by simpa using hl)
    rw [lt_oneL]
    refine ⟨fun h => ?_, fun h => ?_⟩
    · walk_at "u"
      have e : hdL ltr [c] = false := by simp [hdL, ltr]; omega
      rw [e] at q
      exact q
    · walk_at "u"
      rw [show (wd [c]).cps.toList = [c] from rfl, show (Str.ofString "z").cps.toList = [122] from lzz, gLe_one]
      have e : hdL ltr [c] = decide (c ≤ 122) := by
        show (decide (97 ≤ c) && decide (c ≤ 122)) = _
        rw [decide_eq_true (show 97 ≤ c by omega), Bool.true_and]
      rw [e] at q
      exact q
abbrev s_is_whole : Stmt := top 5
abbrev n_is_whole : List Str := ["value"]
theorem sc_is_whole : FnScope n_is_whole ["value"] (defScope s_is_whole) := ⟨rfl, rfl, rfl, by decide +kernel, rfl, by decide +kernel, by decide +kernel⟩
theorem ok_iswhole {f : Addr} {fd : FuncData} {j : Nat} (Fu : Fun K "is_whole" "is_whole" s_is_whole f fd) (T : TN mg) : FnOk P w K mg base CX0 (j + 1) f fd ["value"] (spD K mg false fIsWhole) := by
  refine fn_pd Fu sc_is_whole (fun ds k xk h => by obtain ⟨l, rfl, _⟩ := h; rfl) fun cdv A outer s H E C ds k xk hr Fi hu φ => ?_
  have nd := sc_is_whole.nd
  refine ⟨_, _, (qss_one (qs_ret (pd_and (PD.b (pd_callB call_isi (l_isi Fi) (by rfl) T.isinstance (by decide +kernel) (qa_cons (pd_var (pv 0)) (qa_cons (pd_ty (n := "int") (by rfl) T.int (by decide +kernel)) qa_nil)))) (pd_one (pd_not Fi (PD.b (pd_callB call_isi (l_isi Fi) (by rfl) T.isinstance (by decide +kernel) (qa_cons (pd_var (pv 0)) (qa_cons (pd_ty (n := "bool") (by rfl) T.bool (by decide +kernel)) qa_nil))))))))), ?_⟩
  obtain ⟨i, rfl, q⟩ := φ
  walk_at "u"
  exact q
abbrev s_is_between : Stmt := top 6
abbrev n_is_between : List Str := ["value", "low", "high"]
theorem sc_is_between : FnScope n_is_between ["value", "low", "high"] (defScope s_is_between) := ⟨rfl, rfl, rfl, by decide +kernel, rfl, by decide +kernel, by decide +kernel⟩
theorem ok_btw {f : Addr} {fd : FuncData} {j : Nat} (Fu : Fun K "is_between" "is_between" s_is_between f fd) (T : TN mg) (D_is_whole : Df P w K mg base j "is_whole" ["value"] (spD K mg false fIsWhole)) : FnOk P w K mg base CX0 (j + 1) f fd ["value", "low", "high"] (spD K mg false fBtw) := by
  refine fn_pd Fu sc_is_between (fun ds k xk h => by obtain ⟨i, a, b, rfl, _⟩ := h; rfl) fun cdv A outer s H E C ds k xk hr Fi hu φ => ?_
  have nd := sc_is_between.nd
  refine ⟨_, _, (qss_one (qs_ret (pd_and (PD.b (pd_call Fi D_is_whole hr (Nat.le_refl _) (qa_cons (pd_var (pv 0)) qa_nil))) (pd_one (pd_chain op_leA op_leA l_ord l_ord (pd_var (pv 1)) (pd_var (pv 0)) (pb_var (pv 2))))))), ?_⟩
  obtain ⟨i, a, b, rfl, q⟩ := φ
  walk_at "u"
  refine ⟨i, rfl, ?_⟩
  walk_at "u"
  refine ⟨fun h => ?_, fun h => ?_⟩
  · walk_at "u"
    rw [decide_eq_true h, Bool.true_and] at q
    exact q
  · walk_at "u"
    rw [decide_eq_false h, Bool.false_and] at q
    exact q
abbrev s_is_word : Stmt := top 8
abbrev n_is_word : List Str := ["value", "low", "high", "sign"]
theorem sc_is_word : FnScope n_is_word ["value", "low", "high"] (defScope s_is_word) := ⟨rfl, rfl, rfl, by decide +kernel, rfl, by decide +kernel, by decide +kernel⟩
theorem ok_isword {f : Addr} {fd : FuncData} {j : Nat} (Fu : Fun K "_is_word" "_is_word" s_is_word f fd) (T : TN mg) (D_is_letter : Df P w K mg base j "is_letter" ["sign"] (spD K mg false (fSign ltr))) : FnOk P w K mg base CX0 (j + 1) f fd ["value", "low", "high"] (spD K mg false fIsWord) := by
  refine fn_pd Fu sc_is_word (fun ds k xk h => by obtain ⟨v, a, b, rfl, _⟩ := h; rfl) fun cdv A outer s H E C ds k xk hr Fi hu φ => ?_
  have nd := sc_is_word.nd
  refine ⟨_, _, (qss_one (qs_ret (pd_and (PD.b (pd_callB call_isi (l_isi Fi) (by rfl) T.isinstance (by decide +kernel) (qa_cons (pd_var (pv 0)) (qa_cons (pd_ty (n := "str") (by rfl) T.str (by decide +kernel)) qa_nil)))) (pd_and (PD.b (pd_chain op_leA op_leA l_ord l_ord (pd_var (pv 1)) (pd_callB1 call_len2 (l_len Fi) (by rfl) T.len (by decide +kernel) (pb_var (pv 0))) (pb_var (pv 2)))) (pd_one (pd_callB1 (cr_all rfl) (l_all Fi) (by rfl) T.all (by decide +kernel) (PD.b (pd_comp (own := [("sign", 3)]) rfl nd (qi_str (pd_var (pv 0))) (blkOk_by (own := [("sign", 3)]) (N := n_is_word) (sc := defScope s_is_word) (by decide +kernel)) (fun _ _ _ _ _ => (qg_name (pg_name (i := 3) nd rfl (Or.inl rfl)))) (fun _ _ _ _ _ => qts_nil) (fun _ _ _ _ _ => (pd_call (Fi.blk) D_is_letter hr (Nat.le_refl _) (qa_cons (pd_var (pv 3)) qa_nil))))))))))), ?_⟩
  obtain ⟨v, a, b, rfl, q⟩ := φ
  rcases q with ⟨x, rfl, hx, hl, q⟩ | ⟨es, rfl, q⟩
  · walk_at "u"
    refine ⟨by rw [sizeLine_eq]; omega, fun h1 => ?_, fun h1 => ?_⟩
    · walk_at "u"
      refine ⟨fun h2 => ?_, fun h2 => ?_⟩
      · walk_at "u"
        have hsl : (signsD x).length = x.length := by unfold signsD; rw [List.length_map]; exact lz_len x
        refine lc_map (fun _ => .bl true) _ _ (by omega) ?_ (fun d N acc hm hN ha => ?_)
        · walk_at "u"
          refine ⟨_, bls_true _, ?_⟩
          rw [show ((signsD x).map fun _ => true).all id = true from List.all_eq_true.mpr fun y hy => by obtain ⟨_, _, rfl⟩ := List.mem_map.mp hy; rfl]
          rw [decide_eq_true h1, decide_eq_true h2] at q
          exact q
        · unfold signsD at hm
          obtain ⟨c, hc, rfl⟩ := List.mem_map.mp hm
          have hcl := List.all_eq_true.mp (low_ltr hx) c hc
          walk_at "u"
          refine ⟨[c], rfl, Nat.le_refl _, ?_⟩
          rw [show hdL ltr [c] = true from hcl]
          walk_at "u"
          exact ⟨ha, hN⟩
      · walk_at "u"
        rw [decide_eq_false h2, Bool.and_false] at q
        exact q
    · walk_at "u"
      rw [decide_eq_false h1, Bool.false_and] at q
      exact q
  · walk_at "u"
    exact q
abbrev s_is_variable : Stmt := top 7
abbrev n_is_variable : List Str := ["value"]
theorem sc_is_variable : FnScope n_is_variable ["value"] (defScope s_is_variable) := ⟨rfl, rfl, rfl, by decide +kernel, rfl, by decide +kernel, by decide +kernel⟩
theorem ok_isvar {f : Addr} {fd : FuncData} {j : Nat} (Fu : Fun K "is_variable" "is_variable" s_is_variable f fd) (T : TN mg) {nv : Addr} (mN : mg "NO_VARIABLES" = some (.ref nv)) (hN : ∀ B H, B.K = K → Rp B H (.ref nv) (.tup NOV)) (D_is_word : Df P w K mg base j "_is_word" ["value", "low", "high"] (spD K mg false fIsWord)) : FnOk P w K mg base CX0 (j + 1) f fd ["value"] (spD K mg false fIsVar) := by
  refine fn_pd Fu sc_is_variable (fun ds k xk h => by obtain ⟨v, rfl, _⟩ := h; rfl) fun cdv A outer s H E C ds k xk hr Fi hu φ => ?_
  have nd := sc_is_variable.nd
  refine ⟨_, _, (qss_one (qs_ret (pd_and (PD.b (pd_call Fi D_is_word hr (Nat.le_refl _) (qa_cons (pd_var (pv 0)) (qa_cons pd_int (qa_cons pd_int qa_nil))))) (pd_one (pd_cmpV (op_notInA (un65 hr)) (l_notIn Fi) (pv 0) (PD.b (pd_c (pe_glob (v := .ref nv) (by rfl) mN rfl ) (d := .tup NOV) fun H => hN _ _ Fi.K )) rfl))))), ?_⟩
  obtain ⟨v, rfl, q⟩ := φ
  rcases q with ⟨x, rfl, hx, q⟩ | ⟨es, rfl, q⟩
  · obtain ⟨h1, h2, h3, h4⟩ := hx
    walk_at "u"
    refine ⟨_, 1, 3, rfl, .inl ⟨x, rfl, h1, by omega, ?_⟩⟩
    rw [decide_eq_true (show (1 : Int) ≤ (x.length : Nat) by omega), decide_eq_true (show ((x.length : Nat) : Int) ≤ 3 by omega)]
    walk_at "u"
    refine ⟨by decide, ?_⟩
    rw [show inD (.str x) NOV = false from h4]
    exact q
  · walk_at "u"
    refine ⟨_, 1, 3, rfl, .inr ⟨es, rfl, ?_⟩⟩
    walk_at "u"
    exact q
abbrev s_is_slope : Stmt := top 11
abbrev n_is_slope : List Str := ["value", "i", "j", "k"]
theorem sc_is_slope : FnScope n_is_slope ["value"] (defScope s_is_slope) := ⟨rfl, rfl, rfl, by decide +kernel, rfl, by decide +kernel, by decide +kernel⟩
theorem ok_isslope {f : Addr} {fd : FuncData} {j : Nat} (Fu : Fun K "is_slope" "is_slope" s_is_slope f fd) (T : TN mg) (D_is_between : Df P w K mg base j "is_between" ["value", "low", "high"] (spD K mg false fBtw)) : FnOk P w K mg base CX0 (j + 1) f fd ["value"] (spD K mg false fIsSlope) := by
  refine fn_pd Fu sc_is_slope (fun ds k xk h => by obtain ⟨i, j, l, rfl, _⟩ := h; rfl) fun cdv A outer s H E C ds k xk hr Fi hu φ => ?_
  have nd := sc_is_slope.nd
  refine ⟨_, _, (qss_cons (qs_ifC (qt_w (qw_or (qt_not (qt_val (PD.b (pd_callB call_isi (l_isi Fi) (by rfl) T.isinstance (by decide +kernel) (qa_cons (pd_var (pv 0)) (qa_cons (pd_ty (n := "tuple") (by rfl) T.tuple (by decide +kernel)) qa_nil)))))) (qw_or1 (qt_cmp (op_neA hr.units) (l_ne Fi) (pd_callB1 call_len2 (l_len Fi) (by rfl) T.len (by decide +kernel) (pb_var (pv 0))) (PD.b pd_int) (nomark _)))))
      (qss_one (qs_ret pd_bl))
      qss_nil)
      (qss_cons (qs_asg (pd_var (pv 0)) (qg_tup (n := 3) Fi rfl (qgs_cons (qg_name (pg_name (i := 1) nd rfl (Or.inl rfl))) (qgs_cons (qg_name (pg_name (i := 2) nd rfl (Or.inl rfl))) (qgs_cons (qg_name (pg_name (i := 3) nd rfl (Or.inl rfl))) qgs_nil)))))
      (qss_one (qs_ret (pd_and (PD.b (pd_call Fi D_is_between hr (Nat.le_refl _) (qa_cons (pd_var (pv 1)) (qa_cons (pd_un un_neg l_neg (PD.b pd_int)) (qa_cons pd_int qa_nil))))) (pd_and (PD.b (pd_call Fi D_is_between hr (Nat.le_refl _) (qa_cons (pd_var (pv 2)) (qa_cons (pd_un un_neg l_neg (PD.b pd_int)) (qa_cons pd_int qa_nil))))) (pd_one (pd_call Fi D_is_between hr (Nat.le_refl _) (qa_cons (pd_var (pv 3)) (qa_cons pd_int (qa_cons pd_int qa_nil))))))))))), ?_⟩
  obtain ⟨i, j, l, rfl, hs, q⟩ := φ
  obtain ⟨⟨h1, h2⟩, ⟨h3, h4⟩, h5, h6⟩ := hs
  walk_at "u"
  refine ifC False (by walk_at "u"; decide) (fun h => h.elim) (fun h => ?_)
  walk_at "u"
  refine ⟨i, -9, 9, rfl, ?_⟩
  rw [decide_eq_true h1, decide_eq_true h2]
  walk_at "u"
  refine ⟨j, -3, 3, rfl, ?_⟩
  rw [decide_eq_true h3, decide_eq_true h4]
  walk_at "u"
  refine ⟨l, 1, 4, rfl, ?_⟩
  rw [decide_eq_true h5, decide_eq_true h6]
  walk_at "u"
  exact q
abbrev s_is_floor : Stmt := top 22
abbrev n_is_floor : List Str := ["value", "floors", "word", "slope", "term"]
theorem sc_is_floor : FnScope n_is_floor ["value", "floors"] (defScope s_is_floor) := ⟨rfl, rfl, rfl, by decide +kernel, rfl, by decide +kernel, by decide +kernel⟩
theorem ok_isfloor {f : Addr} {fd : FuncData} {j n : Nat} (Fu : Fun K "_is_floor" "_is_floor" s_is_floor f fd) (T : TN mg) (D_is_slope : Df P w K mg base j "is_slope" ["value"] (spD K mg false fIsSlope)) (D_is_term_with : Df P w K mg base j "_is_term_with" ["value", "floors"] (spD K mg false (below fTermW n))) : FnOk P w K mg base CX0 (j + 1) f fd ["value", "floors"] (spD K mg false (fIsFloor n)) := by
  refine fn_pd Fu sc_is_floor (fun ds k xk h => by obtain ⟨i, j, l, t, m, rfl, _⟩ := h; rfl) fun cdv A outer s H E C ds k xk hr Fi hu φ => ?_
  have nd := sc_is_floor.nd
  refine ⟨_, _, (qss_cons (qs_ifC (qt_w (qw_or (qt_not (qt_val (PD.b (pd_callB call_isi (l_isi Fi) (by rfl) T.isinstance (by decide +kernel) (qa_cons (pd_var (pv 0)) (qa_cons (pd_ty (n := "tuple") (by rfl) T.tuple (by decide +kernel)) qa_nil)))))) (qw_or (qt_cmp (op_neA hr.units) (l_ne Fi) (pd_callB1 call_len2 (l_len Fi) (by rfl) T.len (by decide +kernel) (pb_var (pv 0))) (PD.b pd_int) (nomark _)) (qw_or1 (qt_cmpV (op_eqA hr.units) (l_eq Fi) (pv 1) (PD.b pd_int) (nomark _))))))
      (qss_one (qs_ret pd_bl))
      qss_nil)
      (qss_cons (qs_asg (pd_var (pv 0)) (qg_tup (n := 3) Fi rfl (qgs_cons (qg_name (pg_name (i := 2) nd rfl (Or.inl rfl))) (qgs_cons (qg_name (pg_name (i := 3) nd rfl (Or.inl rfl))) (qgs_cons (qg_name (pg_name (i := 4) nd rfl (Or.inl rfl))) qgs_nil)))))
      (qss_one (qs_ret (pd_and (PD.b (pd_cmpV (op_eqA hr.units) (l_eq Fi) (pv 2) (PD.b pd_str) (nomark _))) (pd_and (PD.b (pd_call Fi D_is_slope hr (Nat.le_refl _) (qa_cons (pd_var (pv 3)) qa_nil))) (pd_one (pd_call Fi D_is_term_with hr (Nat.le_refl _) (qa_cons (pd_var (pv 4)) (qa_cons (pd_opV op_sub l_sub (pv 1) (PD.b pd_int)) qa_nil)))))))))), ?_⟩
  obtain ⟨i, j, l, t, m, rfl, hm, hs, h0, hV, hc, q⟩ := φ
  walk_at "u"
  refine ifC False ?_ (fun h => h.elim) (fun h => ?_)
  · walk_at "u"
    refine IT.pos (by decide) ?_
    walk_at "u"
    simp; omega
  walk_at "u"
  refine ⟨i, j, l, rfl, hs, ?_⟩
  walk_at "u"
  refine ⟨m - 1, by omega, t, m - 1, by rw [show (((m - 1 : Nat)) : Int) = (m : Int) - 1 by omega], Nat.le_refl _, hV, hc, ?_⟩
  walk_at "u"
  exact q
abbrev s_is_item : Stmt := top 21
abbrev n_is_item : List Str := ["value", "floors", "factor", "thing"]
theorem sc_is_item : FnScope n_is_item ["value", "floors"] (defScope s_is_item) := ⟨rfl, rfl, rfl, by decide +kernel, rfl, by decide +kernel, by decide +kernel⟩
theorem ok_isitem {f : Addr} {fd : FuncData} {j n : Nat} (Fu : Fun K "_is_item" "_is_item" s_is_item f fd) (T : TN mg) (D_is_between : Df P w K mg base j "is_between" ["value", "low", "high"] (spD K mg false fBtw)) (D_is_variable : Df P w K mg base j "is_variable" ["value"] (spD K mg false fIsVar)) (D_is_floor : Df P w K mg base j "_is_floor" ["value", "floors"] (spD K mg false (fIsFloor n))) : FnOk P w K mg base CX0 (j + 1) f fd ["value", "floors"] (spD K mg false (fIsItem n)) := by
  refine fn_pd Fu sc_is_item (fun ds k xk h => by obtain ⟨d, m, rfl, _⟩ := h; rfl) fun cdv A outer s H E C ds k xk hr Fi hu φ => ?_
  have nd := sc_is_item.nd
  refine ⟨_, _, (qss_cons (qs_ifC (qt_w (qw_or (qt_not (qt_val (PD.b (pd_callB call_isi (l_isi Fi) (by rfl) T.isinstance (by decide +kernel) (qa_cons (pd_var (pv 0)) (qa_cons (pd_ty (n := "tuple") (by rfl) T.tuple (by decide +kernel)) qa_nil)))))) (qw_or1 (qt_cmp (op_neA hr.units) (l_ne Fi) (pd_callB1 call_len2 (l_len Fi) (by rfl) T.len (by decide +kernel) (pb_var (pv 0))) (PD.b pd_int) (nomark _)))))
      (qss_one (qs_ret pd_bl))
      qss_nil)
      (qss_cons (qs_asg (pd_var (pv 0)) (qg_tup (n := 2) Fi rfl (qgs_cons (qg_name (pg_name (i := 2) nd rfl (Or.inl rfl))) (qgs_cons (qg_name (pg_name (i := 3) nd rfl (Or.inl rfl))) qgs_nil))))
      (qss_one (qs_ret (pd_and (PD.b (pd_call Fi D_is_between hr (Nat.le_refl _) (qa_cons (pd_var (pv 2)) (qa_cons (pd_un un_neg l_neg (PD.b pd_int)) (qa_cons pd_int qa_nil))))) (pd_and (PD.b (pd_cmpV (op_neA hr.units) (l_ne Fi) (pv 2) (PD.b pd_int) (nomark _))) (pd_one (pd_or (PD.b (pd_call Fi D_is_variable hr (Nat.le_refl _) (qa_cons (pd_var (pv 3)) qa_nil))) (pd_one (pd_call Fi D_is_floor hr (Nat.le_refl _) (qa_cons (pd_var (pv 3)) (qa_cons (pd_var (pv 1)) qa_nil)))))))))))), ?_⟩
  obtain ⟨d, m, rfl, hm, hI, q⟩ := φ
  rcases hI with ⟨fa, x, rfl, hf, hx⟩ | ⟨fa, i, j, l, t, rfl, hf, hs, h0, hV, hc⟩
  · walk_at "u"
    refine ifC False (by walk_at "u"; decide) (fun h => h.elim) (fun h => ?_)
    walk_at "u"
    refine ⟨fa, -9, 9, rfl, ?_⟩
    rw [decide_eq_true hf.2.1, decide_eq_true hf.2.2]
    walk_at "u"
    refine IT.neg hf.1 ?_
    walk_at "u"
    refine ⟨_, rfl, .inl ⟨x, rfl, hx, ?_⟩⟩
    walk_at "u"
    exact q
  · walk_at "u"
    refine ifC False (by walk_at "u"; decide) (fun h => h.elim) (fun h => ?_)
    walk_at "u"
    refine ⟨fa, -9, 9, rfl, ?_⟩
    rw [decide_eq_true hf.2.1, decide_eq_true hf.2.2]
    walk_at "u"
    refine IT.neg hf.1 ?_
    walk_at "u"
    refine ⟨_, rfl, .inr ⟨_, rfl, ?_⟩⟩
    walk_at "u"
    refine ⟨i, j, l, t, m, rfl, hm, hs, h0, hV, hc, ?_⟩
    walk_at "u"
    exact q
abbrev s_is_term_with : Stmt := top 20
abbrev n_is_term_with : List Str := ["value", "floors", "items", "constant", "item"]
theorem sc_is_term_with : FnScope n_is_term_with ["value", "floors"] (defScope s_is_term_with) := ⟨rfl, rfl, rfl, by decide +kernel, rfl, by decide +kernel, by decide +kernel⟩
theorem ok_istermw {f : Addr} {fd : FuncData} {j n : Nat} (Fu : Fun K "_is_term_with" "_is_term_with" s_is_term_with f fd) (T : TN mg) {tk : Tok} (mI : mg "MOST_ITEMS" = some (.int 4 tk)) (D_is_between : Df P w K mg base j "is_between" ["value", "low", "high"] (spD K mg false fBtw)) (D_is_item : Df P w K mg base j "_is_item" ["value", "floors"] (spD K mg false (fIsItem n))) : FnOk P w K mg base CX0 (j + 1) f fd ["value", "floors"] (spD K mg false (fTermW n)) := by
  refine fn_pd Fu sc_is_term_with (fun ds k xk h => by obtain ⟨d, m, rfl, _⟩ := h; rfl) fun cdv A outer s H E C ds k xk hr Fi hu φ => ?_
  have nd := sc_is_term_with.nd
  refine ⟨_, _, (qss_cons (qs_ifC (qt_w (qw_or (qt_not (qt_val (PD.b (pd_callB call_isi (l_isi Fi) (by rfl) T.isinstance (by decide +kernel) (qa_cons (pd_var (pv 0)) (qa_cons (pd_ty (n := "tuple") (by rfl) T.tuple (by decide +kernel)) qa_nil)))))) (qw_or1 (qt_cmp (op_neA hr.units) (l_ne Fi) (pd_callB1 call_len2 (l_len Fi) (by rfl) T.len (by decide +kernel) (pb_var (pv 0))) (PD.b pd_int) (nomark _)))))
      (qss_one (qs_ret pd_bl))
      qss_nil)
      (qss_cons (qs_asg (pd_var (pv 0)) (qg_tup (n := 2) Fi rfl (qgs_cons (qg_name (pg_name (i := 2) nd rfl (Or.inl rfl))) (qgs_cons (qg_name (pg_name (i := 3) nd rfl (Or.inl rfl))) qgs_nil))))
      (qss_cons (qs_if (qt_w (qw_or (qt_not (qt_val (PD.b (pd_callB call_isi (l_isi Fi) (by rfl) T.isinstance (by decide +kernel) (qa_cons (pd_var (pv 2)) (qa_cons (pd_ty (n := "tuple") (by rfl) T.tuple (by decide +kernel)) qa_nil)))))) (qw_or (qt_cmp op_gtA l_ord (pd_callB1 call_len2 (l_len Fi) (by rfl) T.len (by decide +kernel) (pb_var (pv 2))) (PD.b (pd_c (pe_glob (v := .int 4) (by rfl) mI ⟨_, rfl⟩ ) (d := .int 4) fun _ => rfl)) (nomark _)) (qw_or1 (qt_not (qt_truth Fi (PD.b (pd_call Fi D_is_between hr (Nat.le_refl _) (qa_cons (pd_var (pv 3)) (qa_cons (pd_un un_neg l_neg (PD.b pd_int)) (qa_cons pd_int qa_nil)))))))))))
      (qss_one (qs_ret pd_bl))
      qss_nil)
      (qss_one (qs_ret (pd_callB1 (cr_all rfl) (l_all Fi) (by rfl) T.all (by decide +kernel) (PD.b (pd_comp (own := [("item", 4)]) rfl nd (qi_tup Fi (pd_var (pv 2))) (blkOk_by (own := [("item", 4)]) (N := n_is_term_with) (sc := defScope s_is_term_with) (by decide +kernel)) (fun _ _ _ _ _ => (qg_name (pg_name (i := 4) nd rfl (Or.inl rfl)))) (fun _ _ _ _ _ => qts_nil) (fun _ _ _ _ _ => (pd_call (Fi.blk) D_is_item hr (Nat.le_refl _) (qa_cons (pd_var (pv 4)) (qa_cons (pd_var (pv 1)) qa_nil)))))))))))), ?_⟩
  obtain ⟨t, m, rfl, hm, hV, hc, q⟩ := φ
  unfold Tm.d
  have hcc := hV.c
  have hil := t.its_len
  walk_at "u"
  refine ifC False (by walk_at "u"; decide) (fun h => h.elim) (fun h => ?_)
  walk_at "u"
  refine IT.neg (by omega) ?_
  walk_at "u"
  refine ⟨_, -1000, 1000, rfl, ?_⟩
  rw [decide_eq_true hcc.1, decide_eq_true hcc.2]
  walk_at "u"
  refine lc_map (fun _ => .bl true) _ _ (by omega) ?_ (fun d N acc hmem hN ha => ?_)
  · walk_at "u"
    refine ⟨_, bls_true _, ?_⟩
    rw [show (t.its.map fun _ => true).all id = true from List.all_eq_true.mpr fun y hy => by obtain ⟨_, _, rfl⟩ := List.mem_map.mp hy; rfl]
    exact q
  · walk_at "u"
    refine ⟨d, m, rfl, hm, hV.its d hmem, ?_⟩
    walk_at "u"
    exact ⟨ha, hN⟩
theorem fTermW_mono (m n : Nat) (h : m ≤ n) (ds : List D) (κ : Sl → Prop) (e : Exc → Prop) : fTermW m ds κ e → fTermW n ds κ e := fun ⟨t, a, h1, h2, h3⟩ => ⟨t, a, h1, Nat.le_trans h2 h, h3⟩
theorem all_istermw {f1 f2 f3 : Addr} {fd1 fd2 fd3 : FuncData} {k : Nat} (F1 : Fun K "_is_term_with" "_is_term_with" s_is_term_with f1 fd1) (F2 : Fun K "_is_item" "_is_item" s_is_item f2 fd2) (F3 : Fun K "_is_floor" "_is_floor" s_is_floor f3 fd3) (T : TN mg) {tk : Tok} (mI : mg "MOST_ITEMS" = some (.int 4 tk))
    (D_is_between : Df P w K mg base k "is_between" ["value", "low", "high"] (spD K mg false fBtw)) (D_is_variable : Df P w K mg base k "is_variable" ["value"] (spD K mg false fIsVar)) (D_is_slope : Df P w K mg base k "is_slope" ["value"] (spD K mg false fIsSlope))
    (b1 : Binds K fd1 ["value", "floors"] []) (b2 : Binds K fd2 ["value", "floors"] []) (b3 : Binds K fd3 ["value", "floors"] []) (m1 : mg "_is_term_with" = some (.ref f1)) (m2 : mg "_is_item" = some (.ref f2)) (m3 : mg "_is_floor" = some (.ref f3)) : ∀ n : Nat, FnOk P w K mg base CX0 (k + 3 * n + 3) f1 fd1 ["value", "floors"] (spD K mg false (fTermW n)) :=
  rec_fn (Φ := fTermW) k 3 fTermW_mono fun n j hj IH => ok_istermw (j := j + 2) F1 T mI (dmono D_is_between (by omega)) ⟨_, _, ok_isitem (j := j + 1) F2 T (dmono D_is_between (by omega)) (dmono D_is_variable (by omega)) ⟨_, _, ok_isfloor F3 T (dmono D_is_slope hj) ⟨_, _, IH, b1, m1, F1.kp⟩, b3, m3, F3.kp⟩, b2, m2, F2.kp⟩
abbrev s_is_term : Stmt := top 19
abbrev n_is_term : List Str := ["value"]
theorem sc_is_term : FnScope n_is_term ["value"] (defScope s_is_term) := ⟨rfl, rfl, rfl, by decide +kernel, rfl, by decide +kernel, by decide +kernel⟩
theorem ok_isterm {f : Addr} {fd : FuncData} {j : Nat} (Fu : Fun K "is_term" "is_term" s_is_term f fd) (T : TN mg) {tk : Tok} (mF : mg "MOST_FLOORS" = some (.int 3 tk)) (D_is_term_with : Df P w K mg base j "_is_term_with" ["value", "floors"] (spD K mg false (fTermW 3))) : FnOk P w K mg base CX0 (j + 1) f fd ["value"] (spD K mg false fIsTerm) := by
  refine fn_pd Fu sc_is_term (fun ds k xk h => by obtain ⟨d, rfl, _⟩ := h; rfl) fun cdv A outer s H E C ds k xk hr Fi hu φ => ?_
  have nd := sc_is_term.nd
  refine ⟨_, _, (qss_one (qs_ret (pd_call Fi D_is_term_with hr (Nat.le_refl _) (qa_cons (pd_var (pv 0)) (qa_cons (pd_c (pe_glob (v := .int 3) (by rfl) mF ⟨_, rfl⟩ ) (d := .int 3) fun _ => rfl) qa_nil))))), ?_⟩
  obtain ⟨t, rfl, hV, hc, q⟩ := φ
  walk_at "u"
  refine ⟨t, 3, rfl, Nat.le_refl _, hV, hc, ?_⟩
  walk_at "u"
  exact q
end
end Q

set_option autoImplicit false
set_option linter.all false
/-! K30: a term is read; the law's body -/
namespace Q
open PySem L2
open RF (top Df pe_callD e_app app_e len_app)
local macro_rules | `(tactic| walk_at "u") => `(tactic| simp (config := { dsimp := false }) only [↓CL_of, ↓IT_of, ↓LC_of, ↓LP_of, ↓WH_of, ↓CT_of, ↓IC_of, ↓SC_of, ↓wSeq, ↓wIfS, ↓wYes, ↓wOpV, ↓wOp, ↓wC, ↓wUn, ↓wRet, ↓wJoin, ↓wJs, ↓wArg, ↓wCons, ↓wVar, ↓wBor, ↓wMv, ↓wSet, ↓wAsg, ↓wNm, ↓wTg, ↓wGCons, ↓wApp, ↓wPop, ↓wExt, ↓wSub, ↓wDrop, ↓wPar, ↓wAug, ↓wAnd, ↓wOr, ↓wNot, ↓wTru, truP, ↓wIf, ↓wAndV, ↓wOrV, ↓wNotV, ↓wChain, ↓wSl, ↓wSlV, ↓wPart, ↓wM1, ↓wMN, pStarts, pEnds, pRfind, pStripC, pParts, pStarts3, pFind3, pSS, pSSI, pMax3, ↓wFor, ↓wLc, ↓wList, ↓wTupI, ↓wRng1, ↓wRng2, ↓wEnum, ↓wZip, ↓wRevI, ↓wStrI, ↓wKw, pCallV, wipeE, pTupN, pLstN, pIx, pSl, pRev, pLen, pAbs, pInt, pBool, pStr, pList, pTuple, pSum, pNums, pBls, pIsi, pIsi2, tyN, aI_fold, cutD1, inD_nil, inD_cons, Bool.or_eq_true, decide_eq_true_eq, Bool.or_false, Bool.false_or, Bool.true_or, Bool.or_true, decide_true, decide_false, or_false, false_or, or_true, true_or, List.all_cons, List.all_nil, Bool.and_self, Bool.not_true, Bool.not_false, iff_self, if_true, if_false, Bool.false_eq_true, ofS_inj, String.reduceEq, ati0, ati1, ati2, ati3, ati4, exists_and_left, isi_NoneType_bool, isi_NoneType_int, isi_NoneType_str, isi_NoneType_list, isi_NoneType_tuple, isi_bool_bool, isi_bool_int, isi_bool_str, isi_bool_list, isi_bool_tuple, isi_int_bool, isi_int_int, isi_int_str, isi_int_list, isi_int_tuple, isi_str_bool, isi_str_int, isi_str_str, isi_str_list, isi_str_tuple, isi_list_bool, isi_list_int, isi_list_str, isi_list_list, isi_list_tuple, isi_tuple_bool, isi_tuple_int, isi_tuple_str, isi_tuple_list, isi_tuple_tuple, isi_dict_bool, isi_dict_int, isi_dict_str, isi_dict_list, isi_dict_tuple, mi_bool, mi_int, mi_str, mi_list, mi_tuple, pI2, pI2N, pAdd, pSub, pMul, pNeg, pEqF, pOrd, pIs, pIn, isNon, D.told, D.flat, pFmt, pDivmod, startE, fzs, List.map_cons, List.map_nil, List.length_cons, List.length_nil, List.cons_append, List.nil_append, List.replicate, get_s, get_z, List.set_cons_zero, List.set_cons_succ, Option.some.injEq, exists_eq', true_and, and_true, exists_eq_left', Sl.toD, Nat.sub_self, Nat.reduceAdd, Nat.reduceLeDiff, Nat.reduceLT, Int.reduceToNat, Nat.reduceSub, scalD, eqD_int, eqD_str, eqD_tt, eqD_ff, eqD_tf, eqD_ft, id_eq, reduceCtorEq, false_implies, implies_true, D.int.injEq, D.str.injEq, D.lst.injEq, D.tup.injEq, Sl.fz.injEq, Sl.ol.injEq, RF.e_app, RF.app_e, RF.emp_eq, IT_t, IT_f, IT_T, IT_F, IT_d, IT_n, IT_not])
local macro_rules | `(tactic| walk_at "l") => `(tactic| first | omega | (simp only [RF.len_app, RF.e_app, RF.app_e, RF.emp_eq, sizeLine_eq, l_dash, l_plus, l_r, l_emp, l_lp, l_rpd, l_slash, l_star, l_sp1, l_sp2, l_flo, l_com, l_rp, l_le, l_equ, l_und, l_lea, l_not, l_allS, l_some, l_spc, l_ors, l_ands, List.map_cons, List.map_nil, List.sum_cons, List.sum_nil, List.length_cons, List.length_nil, List.length_map, List.length_append, List.length_replicate, List.length_range] <;> omega))
local macro_rules | `(tactic| walk_at "f") => `(tactic| ((repeat' apply And.intro) <;> first | assumption | walk_at "l"))
local macro_rules | `(tactic| walk_at "s") => `(tactic| (repeat (refine And.intro (by walk_at "l") ?_)))
theorem stop_nil : Stop [] := ⟨fun c h => (by cases h), (by decide), (by decide)⟩
def fReadT : Ph := fun ds k _ => ∃ t : Tm, ds = [.str t.tx] ∧ VrT 3 t ∧ t.cnt ≤ 4 ∧ t.tx.length ≤ 100000 ∧ t.dp ≤ 3 ∧ t.ok ∧ t.sz ≤ 10000000 ∧ k (.fz t.d)
section
variable {P : Program} {w : World} {K : PySem.W.Frag} {mg : Str → Option Value} {base : Heap}
abbrev s_read_term : Stmt := top 37
abbrev n_read_term : List Str := ["text", "term", "behind"]
theorem sc_read_term : FnScope n_read_term ["text"] (defScope s_read_term) := ⟨rfl, rfl, rfl, by decide +kernel, rfl, by decide +kernel, by decide +kernel⟩
theorem ok_readterm {f : Addr} {fd : FuncData} {j : Nat} (Fu : Fun K "read_term" "read_term" s_read_term f fd) (T : TN mg) (Dv_term_at : Dv P w K mg base j "term_at" ["text", "at", "floors"] [.int 3] (spD K mg false (fTermAt 3))) (D_is_term : Df P w K mg base j "is_term" ["value"] (spD K mg false fIsTerm)) (D_term_text : Df P w K mg base j "term_text" ["term"] (spD K mg false (fTerm 3))) : FnOk P w K mg base CX0 (j + 1) f fd ["text"] (spD K mg false fReadT) := by
  refine fn_pd Fu sc_read_term (fun ds k xk h => by obtain ⟨t, rfl, _⟩ := h; rfl) fun cdv A outer s H E C ds k xk hr Fi hu φ => ?_
  have nd := sc_read_term.nd
  refine ⟨_, _, (qss_cons (qs_asg (pd_callV (dd := [.int 3]) Fi Dv_term_at (fun _ _ => ⟨_, _, rfl, rfl, rfl⟩ ) hr (Nat.le_refl _) (qa_cons (pd_var (pv 0)) (qa_cons pd_int qa_nil))) (qg_tup (n := 2) Fi rfl (qgs_cons (qg_name (pg_name (i := 1) nd rfl (Or.inl rfl))) (qgs_cons (qg_name (pg_name (i := 2) nd rfl (Or.inl rfl))) qgs_nil))))
      (qss_cons (qs_if (qt_w (qw_or (qt_cmpV (op_neA hr.units) (l_ne Fi) (pv 2) (PD.b (pd_callB1 call_len2 (l_len Fi) (by rfl) T.len (by decide +kernel) (pb_var (pv 0)))) (nomark _)) (qw_or (qt_not (qt_truth Fi (PD.b (pd_call Fi D_is_term hr (Nat.le_refl _) (qa_cons (pd_var (pv 1)) qa_nil))))) (qw_or1 (qt_cmp (op_neA hr.units) (l_ne Fi) (pd_call Fi D_term_text hr (Nat.le_refl _) (qa_cons (pd_var (pv 1)) qa_nil)) (pb_var (pv 0)) (nomark _))))))
      (qss_one qs_never)
      qss_nil)
      (qss_one (qs_ret (pd_mv (pv 1)))))), ?_⟩
  obtain ⟨t, rfl, hV, hc, hl, hd, ho, hz, q⟩ := φ
  walk_at "u"
  refine ⟨t.tx, 0, 3, t, [], rfl, Nat.le_refl _, hl, hV.rd, by omega, (by rw [List.append_nil]; exact Dr.zero _), stop_nil, ?_⟩
  walk_at "u"
  refine ⟨by rw [sizeLine_eq]; omega, IT.pos (by omega) ?_⟩
  walk_at "u"
  refine ⟨t, rfl, hV, hc, ?_⟩
  walk_at "u"
  refine ⟨t, rfl, hd, ho, hz, ?_⟩
  walk_at "u"
  exact q
end
def t30 : Tm := .nm (-1) "x" (.fl 2 0 1 1 (.con 0) (.con (-12)))
theorem ok30 : t30.ok := by
  have f : ∀ i : Int, -100 ≤ i ∧ i ≤ 100 → Fig 60 i := fun i h => fig_small (by omega)
  have x : 0 < (Str.ofString "x").length ∧ PyData.strOk (Str.ofString "x") = true := by decide +kernel
  exact ⟨f _ (by decide), x, f _ (by decide), f _ (by decide), f _ (by decide), f _ (by decide), f _ (by decide), f _ (by decide)⟩
theorem vr30 : VrT 3 t30 := by
  have x : VrB "x" := by unfold VrB lowS; decide +kernel
  exact ⟨by decide, x, by decide, by unfold SlB; decide, by decide, ⟨⟨by decide, by decide⟩, by decide⟩, by decide, by decide⟩
theorem tx30 : t30.tx = Str.ofString "-x + 2*floor(r, 0) - 12" := by decide +kernel
theorem ns30 : NsB ["x", "abc", "qq"] ∧ ∀ x ∈ (["x", "abc", "qq"] : List Str), VrB x := by
  unfold NsB VrB lowS
  decide +kernel
theorem tames_its : ∀ {m : Nat} {t : Tm}, VrT m t → tames t.its = true
  | _, .con c, _ => rfl
  | m, .nm f x r, h => by
    show (tame (.tup [.int f, .str x]) && tames r.its) = true
    rw [tames_its (t := r) h.2.2]
    rfl
  | m, .fl f i j k t r, h => by
    obtain ⟨_, _, _, h4, h5⟩ := h
    show (tame (.tup [.int f, .tup [.str "floor", .tup [.int i, .int j, .int k], .tup [.tup t.its, .int t.c]]]) && tames r.its) = true
    have e1 := tames_its (t := t) h4.1
    have e2 := t.its_len
    rw [tames_its (t := r) h5]
    simp only [tame, tames, e1, List.length_cons, List.length_nil, Bool.and_true, Bool.true_and]
    simp only [decide_eq_true_eq, Bool.and_eq_true]
    omega
theorem tame_d {m : Nat} {t : Tm} (h : VrT m t) (hc : t.cnt ≤ 4) : tame t.d = true := by
  have e1 := tames_its h
  have e2 := t.its_len
  simp only [Tm.d, tame, tames, e1, List.length_cons, List.length_nil, Bool.and_true, Bool.true_and]
  simp only [decide_eq_true_eq, Bool.and_eq_true]
  omega
section
variable {P : Program} {w : World} {K : PySem.W.Frag} {mg : Str → Option Value} {base : Heap}
abbrev s_law : Stmt := top 48
abbrev n_law : List Str := ["_law_script", "_law_bag_here", "_law_turn", "_law_slope_z", "_law_term_z", "_law_text_z", "_law_told"]
theorem sc_law : FnScope n_law ["_law_script"] (defScope s_law) := ⟨rfl, rfl, rfl, by decide +kernel, rfl, by decide +kernel, by decide +kernel⟩
theorem ok_law {f : Addr} {fd : FuncData} {j : Nat} (Fu : Fun K "law" "law" s_law f fd) (T : TN mg) (D_law_bag : Df P w K mg base j "_law_bag" ["_law_script"] (RF.spBag K)) (D_law_any_slope : Df P w K mg base j "_law_any_slope" ["_law_bag_here"] (spD K mg true fDslope)) (D_law_any_term : Df P w K mg base j "_law_any_term" ["_law_bag_here", "_law_names", "_law_deep"] (spD K mg true (fDterm 3)))
    (D_law_same : Df P w K mg base j "_law_same" ["_law_found", "_law_due"] (spD K mg false (fSame 20))) (D_slope_text : Df P w K mg base j "slope_text" ["slope"] (spD K mg false fSlope)) (Dk_slope_text : Dk P w K mg base j "slope_text" ["slope"] 0 ["slope"] (fun _ zs => zs) (spD K mg false fSlope))
    (D_law_step_text : Df P w K mg base j "_law_step_text" ["_law_slope_z"] (spD K mg false fSlope)) (D_law_term_text : Df P w K mg base j "_law_term_text" ["_law_term_z"] (spD K mg false (fTerm 3))) (D_term_text : Df P w K mg base j "term_text" ["term"] (spD K mg false (fTerm 3))) (Dk_term_text : Dk P w K mg base j "term_text" ["term"] 0 ["term"] (fun _ zs => zs) (spD K mg false (fTerm 3)))
    (D_read_term : Df P w K mg base j "read_term" ["text"] (spD K mg false fReadT)) (Dk_read_term : Dk P w K mg base j "read_term" ["text"] 0 ["text"] (fun _ zs => zs) (spD K mg false fReadT)) : FnOk P w K mg base CX0 (j + 1) f fd ["_law_script"] (spLaw K) := by
  refine fn_law Fu sc_law rfl (by decide) fun cdv A outer s H E hr => ?_
  have nd := sc_law.nd
  refine ⟨ps_set (i := 1) nd rfl (Or.inl rfl) (pe_callD D_law_bag hr (Nat.le_refl _) (pa_cons (pv 0) pa_nil)), fun C Fi hu => ?_⟩
  refine ⟨_, _, (qss_cons (qs_for PassesOwn.never rfl (qi_range1 (by rfl) T.range (qa_cons pd_int qa_nil)) (qg_name (pg_name (i := 2) nd rfl (Or.inl rfl)))
      (qss_cons (qs_par (i := 3) (j := 4) rfl nd rfl rfl (by decide) rfl rfl (pd_call Fi D_law_any_slope hr (Nat.le_refl _) (qa_cons (pd_var (pv 1)) qa_nil)) (pd_call Fi D_law_any_term hr (Nat.le_refl _) (qa_cons (pd_var (pv 1)) (qa_cons (pd_lst (qa_cons pd_str (qa_cons pd_str (qa_cons pd_str qa_nil)))) (qa_cons pd_int qa_nil)))) (by kernel_rfl))
        (qss_cons (qs_if (qt_not (qt_truth Fi (PD.b (pd_call Fi D_law_same hr (Nat.le_refl _) (qa_cons (pd_lst (qa_cons (pd_call Fi D_slope_text hr (Nat.le_refl _) (qa_cons (pd_var (pv 3)) qa_nil)) (qa_cons (pd_kOwn (ks := ["slope"]) Fi Dk_slope_text hr (Nat.le_refl _) (qk_cons (pd_var (pv 3)) qk_nil)) qa_nil))) (qa_cons (pd_op op_mulA l_mul (pd_lst (qa_cons (pd_call Fi D_law_step_text hr (Nat.le_refl _) (qa_cons (pd_var (pv 3)) qa_nil)) qa_nil)) (PD.b pd_int)) qa_nil))))))
        (qss_one (qs_ret pd_bl))
        qss_nil)
        (qss_cons (qs_set (i := 5) nd rfl (Or.inl rfl) (pd_call Fi D_law_term_text hr (Nat.le_refl _) (qa_cons (pd_var (pv 4)) qa_nil)))
        (qss_cons (qs_if (qt_not (qt_truth Fi (PD.b (pd_call Fi D_law_same hr (Nat.le_refl _) (qa_cons (pd_call Fi D_term_text hr (Nat.le_refl _) (qa_cons (pd_var (pv 4)) qa_nil)) (qa_cons (pd_var (pv 5)) qa_nil))))))
        (qss_one (qs_ret pd_bl))
        qss_nil)
        (qss_one (qs_if (qt_w (qw_and (qt_cmp op_ltA l_ord (pd_callB1 call_len2 (l_len Fi) (by rfl) T.len (by decide +kernel) (pb_var (pv 5))) (PD.b pd_int) (nomark _)) (qw_and1 (qt_not (qt_truth Fi (PD.b (pd_call Fi D_law_same hr (Nat.le_refl _) (qa_cons (pd_lst (qa_cons (pd_call Fi D_read_term hr (Nat.le_refl _) (qa_cons (pd_var (pv 5)) qa_nil)) (qa_cons (pd_kOwn (ks := ["term"]) Fi Dk_term_text hr (Nat.le_refl _) (qk_cons (pd_kOwn (ks := ["text"]) Fi Dk_read_term hr (Nat.le_refl _) (qk_cons (pd_var (pv 5)) qk_nil)) qk_nil)) qa_nil))) (qa_cons (pd_lst (qa_cons (pd_var (pv 4)) (qa_cons (pd_var (pv 5)) qa_nil))) qa_nil)))))))))
        (qss_one (qs_ret pd_bl))
        qss_nil)))))))
      (qss_cons (qs_set (i := 6) nd rfl (Or.inl rfl) (pd_lst (qa_cons (pd_call Fi D_slope_text hr (Nat.le_refl _) (qa_cons (pd_tup (qa_cons pd_int (qa_cons pd_int (qa_cons pd_int qa_nil)))) qa_nil)) (qa_cons (pd_call Fi D_slope_text hr (Nat.le_refl _) (qa_cons (pd_tup (qa_cons pd_int (qa_cons (pd_un un_neg l_neg (PD.b pd_int)) (qa_cons pd_int qa_nil)))) qa_nil)) (qa_cons (pd_call Fi D_slope_text hr (Nat.le_refl _) (qa_cons (pd_tup (qa_cons pd_int (qa_cons (pd_un un_neg l_neg (PD.b pd_int)) (qa_cons pd_int qa_nil)))) qa_nil)) (qa_cons (pd_call Fi D_slope_text hr (Nat.le_refl _) (qa_cons (pd_tup (qa_cons (pd_un un_neg l_neg (PD.b pd_int)) (qa_cons pd_int (qa_cons pd_int qa_nil)))) qa_nil)) (qa_cons (pd_call Fi D_slope_text hr (Nat.le_refl _) (qa_cons (pd_tup (qa_cons pd_int (qa_cons pd_int (qa_cons pd_int qa_nil)))) qa_nil)) qa_nil)))))))
      (qss_cons (qs_if (qt_cmpV (op_neA hr.units) (l_ne Fi) (pv 6) (PD.b (pd_lst (qa_cons pd_str (qa_cons pd_str (qa_cons pd_str (qa_cons pd_str (qa_cons pd_str qa_nil))))))) (nomark _))
      (qss_one (qs_ret pd_bl))
      qss_nil)
      (qss_one (qs_ret (pd_and (PD.b (pd_cmp (op_eqA hr.units) (l_eq Fi) (pd_call Fi D_term_text hr (Nat.le_refl _) (qa_cons (pd_tup (qa_cons (pd_tup qa_nil) (qa_cons pd_int qa_nil))) qa_nil)) (PD.b pd_str) (nomark _))) (pd_one (pd_cmp (op_eqA hr.units) (l_eq Fi) (pd_call Fi D_read_term hr (Nat.le_refl _) (qa_cons pd_str qa_nil)) (PD.b (pd_tup (qa_cons (pd_tup (qa_cons (pd_tup (qa_cons (pd_un un_neg l_neg (PD.b pd_int)) (qa_cons pd_str qa_nil))) (qa_cons (pd_tup (qa_cons pd_int (qa_cons (pd_tup (qa_cons pd_str (qa_cons (pd_tup (qa_cons pd_int (qa_cons pd_int (qa_cons pd_int qa_nil)))) (qa_cons (pd_tup (qa_cons (pd_tup qa_nil) (qa_cons pd_int qa_nil))) qa_nil)))) qa_nil))) qa_nil))) (qa_cons (pd_un un_neg l_neg (PD.b pd_int)) qa_nil)))) (nomark _))))))))), ?_⟩
  walk_at "u"
  refine ⟨by decide, ?_⟩
  refine loop_ind (fun ds ρ => ∃ v2 v3 v4 v5, ρ = [none, some (.fz .bag), v2, v3, v4, v5, none]) (fun ρ h => ?_) (fun d ds ρ N h hN => ?_) _ _ ⟨none, none, none, none, rfl⟩
  · obtain ⟨v2, v3, v4, v5, rfl⟩ := h
    walk_at "u"
    refine ⟨0, 0, 3, rfl, fig_small (by decide), fig_small (by decide), fig_small (by decide), ?_⟩
    walk_at "u"
    refine ⟨0, -1, 1, rfl, fig_small (by decide), fig_small (by decide), fig_small (by decide), ?_⟩
    walk_at "u"
    refine ⟨4, -1, 1, rfl, fig_small (by decide), fig_small (by decide), fig_small (by decide), ?_⟩
    walk_at "u"
    refine ⟨-3, 2, 4, rfl, fig_small (by decide), fig_small (by decide), fig_small (by decide), ?_⟩
    walk_at "u"
    refine ⟨7, 0, 2, rfl, fig_small (by decide), fig_small (by decide), fig_small (by decide), ?_⟩
    walk_at "u"
    refine ⟨fun _ => by unfold okD; decide +kernel, IT.pos (by decide +kernel) ?_⟩
    walk_at "u"
    refine ⟨.con 0, rfl, by decide, fig_small (by decide), by decide, ?_⟩
    walk_at "u"
    refine IT.pos (by decide +kernel) ?_
    walk_at "u"
    refine ⟨t30, by rw [tx30], vr30, by decide, by rw [tx30]; decide +kernel, by decide, ok30, by decide +kernel, ?_⟩
    walk_at "u"
    exact ⟨fun _ => by unfold okD; decide +kernel, congrArg D.bl (by decide +kernel)⟩
  · obtain ⟨v2, v3, v4, v5, rfl⟩ := h
    walk_at "u"
    refine ⟨rfl, fun i j' m hs => ?_⟩
    obtain ⟨g1, g2, g3⟩ := hs.fig
    walk_at "u"
    refine ⟨_, 3, rfl, Nat.le_refl _, ns30.1, fun t ht => ?_⟩
    have h1 := ht.1.ok ns30.1
    have h2 := ht.1.dp
    have h3 := ht.1.sz ns30.1 ht.2
    rw [show szB 3 = 51118 by decide] at h3
    walk_at "u"
    refine ⟨i, j', m, rfl, g1, g2, g3, ?_⟩
    walk_at "u"
    refine ⟨i, j', m, rfl, g1, g2, g3, ?_⟩
    walk_at "u"
    refine ⟨i, j', m, rfl, g1, g2, g3, ?_⟩
    walk_at "u"
    refine ⟨by decide, by decide, .lst [.str (stS i j' m), .str (stS i j' m)], rfl, rfl, Nat.succ_le_succ (Nat.zero_le _), ?_⟩
    walk_at "u"
    refine ⟨t, rfl, h2, h1, by omega, ?_⟩
    walk_at "u"
    refine ⟨t, rfl, h2, h1, by omega, ?_⟩
    walk_at "u"
    refine ⟨.str t.tx, rfl, rfl, Nat.zero_le _, ?_⟩
    walk_at "u"
    have hv := ht.1.vr ns30.2
    have ed := Tm.depD t
    refine ⟨by have := Tm.tx_len h1; rw [sizeLine_eq]; omega, fun h => ?_, fun h => ?_⟩
    · walk_at "u"
      refine ⟨t, rfl, hv, ht.2, by omega, h2, h1, by omega, ?_⟩
      walk_at "u"
      refine ⟨t, rfl, hv, ht.2, by omega, h2, h1, by omega, ?_⟩
      walk_at "u"
      refine ⟨t, rfl, h2, h1, by omega, ?_⟩
      walk_at "u"
      refine ⟨.lst [t.d, .str t.tx], rfl, ?_, ?_, ?_⟩
      · show (true && (tame t.d && true)) = true
        rw [tame_d hv ht.2]
        rfl
      · show max (dep t.d) 0 + 1 ≤ 20
        omega
      walk_at "u"
      exact hN _ ⟨_, _, _, _, rfl⟩
    · walk_at "u"
      exact hN _ ⟨_, _, _, _, rfl⟩
end
end Q

namespace Q
open PySem L2 PyProof.Rows
open RF (top Df pe_callD)
theorem all_mk {l : PySem.W.OpenLaw} {w : World} {K : PySem.W.Frag} {h : Heap} {mg : Str → Option Value} {fa : Addr} (X : K.In h) (G : h.Ns mainGlobals mg) (hfa : mg "law" = some (.ref fa))
    {ti1 : Tok}
    {ti2 : Tok}
    {ti3 : Tok}
    {nv4 : Addr} {oN4 : Obj} {nN4 : Nat} {w4_0 w4_1 w4_2 w4_3 w4_4 : Tok}
    {f5 : Addr} {od5 an5 : Option Addr} {sl5 : Array (Option Value)} {oc5 kV5 dc5 pm5 cd5 ct5 : Value}
    {f6 : Addr} {od6 an6 : Option Addr} {sl6 : Array (Option Value)} {oc6 kV6 dc6 pm6 cd6 ct6 : Value}
    {f7 : Addr} {od7 an7 : Option Addr} {sl7 : Array (Option Value)} {oc7 kV7 dc7 pm7 cd7 ct7 : Value}
    {f8 : Addr} {od8 an8 : Option Addr} {sl8 : Array (Option Value)} {oc8 kV8 dc8 pm8 cd8 ct8 : Value}
    {f9 : Addr} {od9 an9 : Option Addr} {sl9 : Array (Option Value)} {oc9 kV9 dc9 pm9 cd9 ct9 : Value}
    {f10 : Addr} {od10 an10 : Option Addr} {sl10 : Array (Option Value)} {oc10 kV10 dc10 pm10 cd10 ct10 : Value}
    {f11 : Addr} {od11 an11 : Option Addr} {sl11 : Array (Option Value)} {oc11 kV11 dc11 pm11 cd11 ct11 : Value}
    {f12 : Addr} {od12 an12 : Option Addr} {sl12 : Array (Option Value)} {oc12 kV12 dc12 pm12 cd12 ct12 : Value}
    {f13 : Addr} {od13 an13 : Option Addr} {sl13 : Array (Option Value)} {oc13 kV13 dc13 pm13 cd13 ct13 : Value}
    {f14 : Addr} {od14 an14 : Option Addr} {sl14 : Array (Option Value)} {oc14 kV14 dc14 pm14 cd14 ct14 : Value}
    {f15 : Addr} {od15 an15 : Option Addr} {sl15 : Array (Option Value)} {oc15 kV15 dc15 pm15 cd15 ct15 : Value}
    {f16 : Addr} {od16 an16 : Option Addr} {sl16 : Array (Option Value)} {oc16 kV16 dc16 pm16 cd16 ct16 : Value}
    {f17 : Addr} {od17 an17 : Option Addr} {sl17 : Array (Option Value)} {oc17 kV17 dc17 pm17 cd17 ct17 : Value}
    {f18 : Addr} {od18 an18 : Option Addr} {sl18 : Array (Option Value)} {oc18 kV18 dc18 pm18 cd18 ct18 : Value}
    {f19 D19 : Addr} {t19 : Tok} {od19 an19 : Option Addr} {sl19 : Array (Option Value)} {oc19 dc19 pm19 cd19 ct19 : Value}
    {f20 : Addr} {od20 an20 : Option Addr} {sl20 : Array (Option Value)} {oc20 kV20 dc20 pm20 cd20 ct20 : Value}
    {f21 : Addr} {od21 an21 : Option Addr} {sl21 : Array (Option Value)} {oc21 kV21 dc21 pm21 cd21 ct21 : Value}
    {f22 : Addr} {od22 an22 : Option Addr} {sl22 : Array (Option Value)} {oc22 kV22 dc22 pm22 cd22 ct22 : Value}
    {f23 : Addr} {od23 an23 : Option Addr} {sl23 : Array (Option Value)} {oc23 kV23 dc23 pm23 cd23 ct23 : Value}
    {f24 : Addr} {od24 an24 : Option Addr} {sl24 : Array (Option Value)} {oc24 kV24 dc24 pm24 cd24 ct24 : Value}
    {f25 : Addr} {od25 an25 : Option Addr} {sl25 : Array (Option Value)} {oc25 kV25 dc25 pm25 cd25 ct25 : Value}
    {f26 : Addr} {od26 an26 : Option Addr} {sl26 : Array (Option Value)} {oc26 kV26 dc26 pm26 cd26 ct26 : Value}
    {f27 : Addr} {od27 an27 : Option Addr} {sl27 : Array (Option Value)} {oc27 kV27 dc27 pm27 cd27 ct27 : Value}
    {f28 : Addr} {od28 an28 : Option Addr} {sl28 : Array (Option Value)} {oc28 kV28 dc28 pm28 cd28 ct28 : Value}
    {f29 : Addr} {od29 an29 : Option Addr} {sl29 : Array (Option Value)} {oc29 kV29 dc29 pm29 cd29 ct29 : Value}
    {f30 : Addr} {od30 an30 : Option Addr} {sl30 : Array (Option Value)} {oc30 kV30 dc30 pm30 cd30 ct30 : Value}
    {f31 : Addr} {od31 an31 : Option Addr} {sl31 : Array (Option Value)} {oc31 kV31 dc31 pm31 cd31 ct31 : Value}
    {f32 : Addr} {od32 an32 : Option Addr} {sl32 : Array (Option Value)} {oc32 kV32 dc32 pm32 cd32 ct32 : Value}
    {f33 : Addr} {od33 an33 : Option Addr} {sl33 : Array (Option Value)} {oc33 kV33 dc33 pm33 cd33 ct33 : Value}
    {f34 : Addr} {od34 an34 : Option Addr} {sl34 : Array (Option Value)} {oc34 kV34 dc34 pm34 cd34 ct34 : Value}
    {f35 : Addr} {od35 an35 : Option Addr} {sl35 : Array (Option Value)} {oc35 kV35 dc35 pm35 cd35 ct35 : Value}
    {f36 : Addr} {od36 an36 : Option Addr} {sl36 : Array (Option Value)} {oc36 kV36 dc36 pm36 cd36 ct36 : Value}
    {f37 : Addr} {od37 an37 : Option Addr} {sl37 : Array (Option Value)} {oc37 kV37 dc37 pm37 cd37 ct37 : Value}
    {f38 : Addr} {od38 an38 : Option Addr} {sl38 : Array (Option Value)} {oc38 kV38 dc38 pm38 cd38 ct38 : Value}
    {f39 : Addr} {od39 an39 : Option Addr} {sl39 : Array (Option Value)} {oc39 kV39 dc39 pm39 cd39 ct39 : Value}
    {f40 : Addr} {od40 an40 : Option Addr} {sl40 : Array (Option Value)} {oc40 kV40 dc40 pm40 cd40 ct40 : Value}
    (ci1 : PySem.W.nsIn K mainGlobals "MOST_ITEMS" = some (some (.int 4 ti1)))
    (ci2 : PySem.W.nsIn K mainGlobals "MOST_FLOORS" = some (some (.int 3 ti2)))
    (ci3 : PySem.W.nsIn K mainGlobals "MOST_FIGURES" = some (some (.int 4 ti3)))
    (aN4 : PySem.W.nsIn K mainGlobals "NO_VARIABLES" = some (some (.ref nv4)))
    (lN4 : K.lookup nv4 = some oN4)
    (cN4 : oN4.cls = .type "tuple")
    (dN4 : oN4.data = .seq #[.str "all" w4_0, .str "and" w4_1, .str "not" w4_2, .str "or" w4_3, .str "r" w4_4] nN4)
    (a5 : PySem.W.nsIn K mainGlobals "_figures" = some (some (.ref f5)))
    (l5 : K.lookup f5 = some ⟨oc5, od5, .func (PySem.W.fnOf "_figures" "_figures" (defArgs (top 15)) (defBody (top 15)) (defScope (top 15)) .none kV5 dc5 pm5 an5 cd5 ct5), sl5⟩)
    (c5 : PySem.W.codeIn K cd5 "_figures" = true)
    (k5 : PySem.W.keepIn K (.ref f5) = true)
    (a6 : PySem.W.nsIn K mainGlobals "_multiple_text" = some (some (.ref f6)))
    (l6 : K.lookup f6 = some ⟨oc6, od6, .func (PySem.W.fnOf "_multiple_text" "_multiple_text" (defArgs (top 14)) (defBody (top 14)) (defScope (top 14)) .none kV6 dc6 pm6 an6 cd6 ct6), sl6⟩)
    (c6 : PySem.W.codeIn K cd6 "_multiple_text" = true)
    (k6 : PySem.W.keepIn K (.ref f6) = true)
    (a7 : PySem.W.nsIn K mainGlobals "_sum_text" = some (some (.ref f7)))
    (l7 : K.lookup f7 = some ⟨oc7, od7, .func (PySem.W.fnOf "_sum_text" "_sum_text" (defArgs (top 13)) (defBody (top 13)) (defScope (top 13)) .none kV7 dc7 pm7 an7 cd7 ct7), sl7⟩)
    (c7 : PySem.W.codeIn K cd7 "_sum_text" = true)
    (k7 : PySem.W.keepIn K (.ref f7) = true)
    (a8 : PySem.W.nsIn K mainGlobals "slope_text" = some (some (.ref f8)))
    (l8 : K.lookup f8 = some ⟨oc8, od8, .func (PySem.W.fnOf "slope_text" "slope_text" (defArgs (top 12)) (defBody (top 12)) (defScope (top 12)) .none kV8 dc8 pm8 an8 cd8 ct8), sl8⟩)
    (c8 : PySem.W.codeIn K cd8 "slope_text" = true)
    (k8 : PySem.W.keepIn K (.ref f8) = true)
    (a9 : PySem.W.nsIn K mainGlobals "_item_text" = some (some (.ref f9)))
    (l9 : K.lookup f9 = some ⟨oc9, od9, .func (PySem.W.fnOf "_item_text" "_item_text" (defArgs (top 36)) (defBody (top 36)) (defScope (top 36)) .none kV9 dc9 pm9 an9 cd9 ct9), sl9⟩)
    (c9 : PySem.W.codeIn K cd9 "_item_text" = true)
    (k9 : PySem.W.keepIn K (.ref f9) = true)
    (a10 : PySem.W.nsIn K mainGlobals "term_text" = some (some (.ref f10)))
    (l10 : K.lookup f10 = some ⟨oc10, od10, .func (PySem.W.fnOf "term_text" "term_text" (defArgs (top 35)) (defBody (top 35)) (defScope (top 35)) .none kV10 dc10 pm10 an10 cd10 ct10), sl10⟩)
    (c10 : PySem.W.codeIn K cd10 "term_text" = true)
    (k10 : PySem.W.keepIn K (.ref f10) = true)
    (a11 : PySem.W.nsIn K mainGlobals "is_letter" = some (some (.ref f11)))
    (l11 : K.lookup f11 = some ⟨oc11, od11, .func (PySem.W.fnOf "is_letter" "is_letter" (defArgs (top 9)) (defBody (top 9)) (defScope (top 9)) .none kV11 dc11 pm11 an11 cd11 ct11), sl11⟩)
    (c11 : PySem.W.codeIn K cd11 "is_letter" = true)
    (k11 : PySem.W.keepIn K (.ref f11) = true)
    (a12 : PySem.W.nsIn K mainGlobals "_is_figure" = some (some (.ref f12)))
    (l12 : K.lookup f12 = some ⟨oc12, od12, .func (PySem.W.fnOf "_is_figure" "_is_figure" (defArgs (top 31)) (defBody (top 31)) (defScope (top 31)) .none kV12 dc12 pm12 an12 cd12 ct12), sl12⟩)
    (c12 : PySem.W.codeIn K cd12 "_is_figure" = true)
    (k12 : PySem.W.keepIn K (.ref f12) = true)
    (a13 : PySem.W.nsIn K mainGlobals "_figures_at" = some (some (.ref f13)))
    (l13 : K.lookup f13 = some ⟨oc13, od13, .func (PySem.W.fnOf "_figures_at" "_figures_at" (defArgs (top 30)) (defBody (top 30)) (defScope (top 30)) .none kV13 dc13 pm13 an13 cd13 ct13), sl13⟩)
    (c13 : PySem.W.codeIn K cd13 "_figures_at" = true)
    (k13 : PySem.W.keepIn K (.ref f13) = true)
    (a14 : PySem.W.nsIn K mainGlobals "_word_at" = some (some (.ref f14)))
    (l14 : K.lookup f14 = some ⟨oc14, od14, .func (PySem.W.fnOf "_word_at" "_word_at" (defArgs (top 32)) (defBody (top 32)) (defScope (top 32)) .none kV14 dc14 pm14 an14 cd14 ct14), sl14⟩)
    (c14 : PySem.W.codeIn K cd14 "_word_at" = true)
    (k14 : PySem.W.keepIn K (.ref f14) = true)
    (a15 : PySem.W.nsIn K mainGlobals "_behind" = some (some (.ref f15)))
    (l15 : K.lookup f15 = some ⟨oc15, od15, .func (PySem.W.fnOf "_behind" "_behind" (defArgs (top 33)) (defBody (top 33)) (defScope (top 33)) .none kV15 dc15 pm15 an15 cd15 ct15), sl15⟩)
    (c15 : PySem.W.codeIn K cd15 "_behind" = true)
    (k15 : PySem.W.keepIn K (.ref f15) = true)
    (a16 : PySem.W.nsIn K mainGlobals "_whole" = some (some (.ref f16)))
    (l16 : K.lookup f16 = some ⟨oc16, od16, .func (PySem.W.fnOf "_whole" "_whole" (defArgs (top 29)) (defBody (top 29)) (defScope (top 29)) .none kV16 dc16 pm16 an16 cd16 ct16), sl16⟩)
    (c16 : PySem.W.codeIn K cd16 "_whole" = true)
    (k16 : PySem.W.keepIn K (.ref f16) = true)
    (a17 : PySem.W.nsIn K mainGlobals "_multiple" = some (some (.ref f17)))
    (l17 : K.lookup f17 = some ⟨oc17, od17, .func (PySem.W.fnOf "_multiple" "_multiple" (defArgs (top 28)) (defBody (top 28)) (defScope (top 28)) .none kV17 dc17 pm17 an17 cd17 ct17), sl17⟩)
    (c17 : PySem.W.codeIn K cd17 "_multiple" = true)
    (k17 : PySem.W.keepIn K (.ref f17) = true)
    (a18 : PySem.W.nsIn K mainGlobals "_slope_at" = some (some (.ref f18)))
    (l18 : K.lookup f18 = some ⟨oc18, od18, .func (PySem.W.fnOf "_slope_at" "_slope_at" (defArgs (top 27)) (defBody (top 27)) (defScope (top 27)) .none kV18 dc18 pm18 an18 cd18 ct18), sl18⟩)
    (c18 : PySem.W.codeIn K cd18 "_slope_at" = true)
    (k18 : PySem.W.keepIn K (.ref f18) = true)
    (a19 : PySem.W.nsIn K mainGlobals "term_at" = some (some (.ref f19)))
    (l19 : K.lookup f19 = some ⟨oc19, od19, .func (PySem.W.fnOf "term_at" "term_at" (defArgs (top 25)) (defBody (top 25)) (defScope (top 25)) .none (.ref D19) dc19 pm19 an19 cd19 ct19), sl19⟩)
    (c19 : PySem.W.codeIn K cd19 "term_at" = true)
    (k19 : PySem.W.keepIn K (.ref f19) = true)
    (kD19 : PySem.W.nsIn K D19 "floors" = some (some (.int 3 t19)))
    (a20 : PySem.W.nsIn K mainGlobals "_piece_at" = some (some (.ref f20)))
    (l20 : K.lookup f20 = some ⟨oc20, od20, .func (PySem.W.fnOf "_piece_at" "_piece_at" (defArgs (top 26)) (defBody (top 26)) (defScope (top 26)) .none kV20 dc20 pm20 an20 cd20 ct20), sl20⟩)
    (c20 : PySem.W.codeIn K cd20 "_piece_at" = true)
    (k20 : PySem.W.keepIn K (.ref f20) = true)
    (a21 : PySem.W.nsIn K mainGlobals "is_whole" = some (some (.ref f21)))
    (l21 : K.lookup f21 = some ⟨oc21, od21, .func (PySem.W.fnOf "is_whole" "is_whole" (defArgs (top 5)) (defBody (top 5)) (defScope (top 5)) .none kV21 dc21 pm21 an21 cd21 ct21), sl21⟩)
    (c21 : PySem.W.codeIn K cd21 "is_whole" = true)
    (k21 : PySem.W.keepIn K (.ref f21) = true)
    (a22 : PySem.W.nsIn K mainGlobals "is_between" = some (some (.ref f22)))
    (l22 : K.lookup f22 = some ⟨oc22, od22, .func (PySem.W.fnOf "is_between" "is_between" (defArgs (top 6)) (defBody (top 6)) (defScope (top 6)) .none kV22 dc22 pm22 an22 cd22 ct22), sl22⟩)
    (c22 : PySem.W.codeIn K cd22 "is_between" = true)
    (k22 : PySem.W.keepIn K (.ref f22) = true)
    (a23 : PySem.W.nsIn K mainGlobals "_is_word" = some (some (.ref f23)))
    (l23 : K.lookup f23 = some ⟨oc23, od23, .func (PySem.W.fnOf "_is_word" "_is_word" (defArgs (top 8)) (defBody (top 8)) (defScope (top 8)) .none kV23 dc23 pm23 an23 cd23 ct23), sl23⟩)
    (c23 : PySem.W.codeIn K cd23 "_is_word" = true)
    (k23 : PySem.W.keepIn K (.ref f23) = true)
    (a24 : PySem.W.nsIn K mainGlobals "is_variable" = some (some (.ref f24)))
    (l24 : K.lookup f24 = some ⟨oc24, od24, .func (PySem.W.fnOf "is_variable" "is_variable" (defArgs (top 7)) (defBody (top 7)) (defScope (top 7)) .none kV24 dc24 pm24 an24 cd24 ct24), sl24⟩)
    (c24 : PySem.W.codeIn K cd24 "is_variable" = true)
    (k24 : PySem.W.keepIn K (.ref f24) = true)
    (a25 : PySem.W.nsIn K mainGlobals "is_slope" = some (some (.ref f25)))
    (l25 : K.lookup f25 = some ⟨oc25, od25, .func (PySem.W.fnOf "is_slope" "is_slope" (defArgs (top 11)) (defBody (top 11)) (defScope (top 11)) .none kV25 dc25 pm25 an25 cd25 ct25), sl25⟩)
    (c25 : PySem.W.codeIn K cd25 "is_slope" = true)
    (k25 : PySem.W.keepIn K (.ref f25) = true)
    (a26 : PySem.W.nsIn K mainGlobals "_is_item" = some (some (.ref f26)))
    (l26 : K.lookup f26 = some ⟨oc26, od26, .func (PySem.W.fnOf "_is_item" "_is_item" (defArgs (top 21)) (defBody (top 21)) (defScope (top 21)) .none kV26 dc26 pm26 an26 cd26 ct26), sl26⟩)
    (c26 : PySem.W.codeIn K cd26 "_is_item" = true)
    (k26 : PySem.W.keepIn K (.ref f26) = true)
    (a27 : PySem.W.nsIn K mainGlobals "_is_floor" = some (some (.ref f27)))
    (l27 : K.lookup f27 = some ⟨oc27, od27, .func (PySem.W.fnOf "_is_floor" "_is_floor" (defArgs (top 22)) (defBody (top 22)) (defScope (top 22)) .none kV27 dc27 pm27 an27 cd27 ct27), sl27⟩)
    (c27 : PySem.W.codeIn K cd27 "_is_floor" = true)
    (k27 : PySem.W.keepIn K (.ref f27) = true)
    (a28 : PySem.W.nsIn K mainGlobals "_is_term_with" = some (some (.ref f28)))
    (l28 : K.lookup f28 = some ⟨oc28, od28, .func (PySem.W.fnOf "_is_term_with" "_is_term_with" (defArgs (top 20)) (defBody (top 20)) (defScope (top 20)) .none kV28 dc28 pm28 an28 cd28 ct28), sl28⟩)
    (c28 : PySem.W.codeIn K cd28 "_is_term_with" = true)
    (k28 : PySem.W.keepIn K (.ref f28) = true)
    (a29 : PySem.W.nsIn K mainGlobals "is_term" = some (some (.ref f29)))
    (l29 : K.lookup f29 = some ⟨oc29, od29, .func (PySem.W.fnOf "is_term" "is_term" (defArgs (top 19)) (defBody (top 19)) (defScope (top 19)) .none kV29 dc29 pm29 an29 cd29 ct29), sl29⟩)
    (c29 : PySem.W.codeIn K cd29 "is_term" = true)
    (k29 : PySem.W.keepIn K (.ref f29) = true)
    (a30 : PySem.W.nsIn K mainGlobals "read_term" = some (some (.ref f30)))
    (l30 : K.lookup f30 = some ⟨oc30, od30, .func (PySem.W.fnOf "read_term" "read_term" (defArgs (top 37)) (defBody (top 37)) (defScope (top 37)) .none kV30 dc30 pm30 an30 cd30 ct30), sl30⟩)
    (c30 : PySem.W.codeIn K cd30 "read_term" = true)
    (k30 : PySem.W.keepIn K (.ref f30) = true)
    (a31 : PySem.W.nsIn K mainGlobals "_law_bag" = some (some (.ref f31)))
    (l31 : K.lookup f31 = some ⟨oc31, od31, .func (PySem.W.fnOf "_law_bag" "_law_bag" (defArgs (top 39)) (defBody (top 39)) (defScope (top 39)) .none kV31 dc31 pm31 an31 cd31 ct31), sl31⟩)
    (c31 : PySem.W.codeIn K cd31 "_law_bag" = true)
    (k31 : PySem.W.keepIn K (.ref f31) = true)
    (a32 : PySem.W.nsIn K mainGlobals "_law_pull" = some (some (.ref f32)))
    (l32 : K.lookup f32 = some ⟨oc32, od32, .func (PySem.W.fnOf "_law_pull" "_law_pull" (defArgs (top 40)) (defBody (top 40)) (defScope (top 40)) .none kV32 dc32 pm32 an32 cd32 ct32), sl32⟩)
    (c32 : PySem.W.codeIn K cd32 "_law_pull" = true)
    (k32 : PySem.W.keepIn K (.ref f32) = true)
    (a33 : PySem.W.nsIn K mainGlobals "_law_of" = some (some (.ref f33)))
    (l33 : K.lookup f33 = some ⟨oc33, od33, .func (PySem.W.fnOf "_law_of" "_law_of" (defArgs (top 41)) (defBody (top 41)) (defScope (top 41)) .none kV33 dc33 pm33 an33 cd33 ct33), sl33⟩)
    (c33 : PySem.W.codeIn K cd33 "_law_of" = true)
    (k33 : PySem.W.keepIn K (.ref f33) = true)
    (a34 : PySem.W.nsIn K mainGlobals "_law_same" = some (some (.ref f34)))
    (l34 : K.lookup f34 = some ⟨oc34, od34, .func (PySem.W.fnOf "_law_same" "_law_same" (defArgs (top 42)) (defBody (top 42)) (defScope (top 42)) .none kV34 dc34 pm34 an34 cd34 ct34), sl34⟩)
    (c34 : PySem.W.codeIn K cd34 "_law_same" = true)
    (k34 : PySem.W.keepIn K (.ref f34) = true)
    (a35 : PySem.W.nsIn K mainGlobals "_law_any_slope" = some (some (.ref f35)))
    (l35 : K.lookup f35 = some ⟨oc35, od35, .func (PySem.W.fnOf "_law_any_slope" "_law_any_slope" (defArgs (top 43)) (defBody (top 43)) (defScope (top 43)) .none kV35 dc35 pm35 an35 cd35 ct35), sl35⟩)
    (c35 : PySem.W.codeIn K cd35 "_law_any_slope" = true)
    (k35 : PySem.W.keepIn K (.ref f35) = true)
    (a36 : PySem.W.nsIn K mainGlobals "_law_any_term" = some (some (.ref f36)))
    (l36 : K.lookup f36 = some ⟨oc36, od36, .func (PySem.W.fnOf "_law_any_term" "_law_any_term" (defArgs (top 44)) (defBody (top 44)) (defScope (top 44)) .none kV36 dc36 pm36 an36 cd36 ct36), sl36⟩)
    (c36 : PySem.W.codeIn K cd36 "_law_any_term" = true)
    (k36 : PySem.W.keepIn K (.ref f36) = true)
    (a37 : PySem.W.nsIn K mainGlobals "_law_step_text" = some (some (.ref f37)))
    (l37 : K.lookup f37 = some ⟨oc37, od37, .func (PySem.W.fnOf "_law_step_text" "_law_step_text" (defArgs (top 45)) (defBody (top 45)) (defScope (top 45)) .none kV37 dc37 pm37 an37 cd37 ct37), sl37⟩)
    (c37 : PySem.W.codeIn K cd37 "_law_step_text" = true)
    (k37 : PySem.W.keepIn K (.ref f37) = true)
    (a38 : PySem.W.nsIn K mainGlobals "_law_thing_text" = some (some (.ref f38)))
    (l38 : K.lookup f38 = some ⟨oc38, od38, .func (PySem.W.fnOf "_law_thing_text" "_law_thing_text" (defArgs (top 46)) (defBody (top 46)) (defScope (top 46)) .none kV38 dc38 pm38 an38 cd38 ct38), sl38⟩)
    (c38 : PySem.W.codeIn K cd38 "_law_thing_text" = true)
    (k38 : PySem.W.keepIn K (.ref f38) = true)
    (a39 : PySem.W.nsIn K mainGlobals "_law_term_text" = some (some (.ref f39)))
    (l39 : K.lookup f39 = some ⟨oc39, od39, .func (PySem.W.fnOf "_law_term_text" "_law_term_text" (defArgs (top 47)) (defBody (top 47)) (defScope (top 47)) .none kV39 dc39 pm39 an39 cd39 ct39), sl39⟩)
    (c39 : PySem.W.codeIn K cd39 "_law_term_text" = true)
    (k39 : PySem.W.keepIn K (.ref f39) = true)
    (a40 : PySem.W.nsIn K mainGlobals "law" = some (some (.ref f40)))
    (l40 : K.lookup f40 = some ⟨oc40, od40, .func (PySem.W.fnOf "law" "law" (defArgs (top 48)) (defBody (top 48)) (defScope (top 48)) .none kV40 dc40 pm40 an40 cd40 ct40), sl40⟩)
    (c40 : PySem.W.codeIn K cd40 "law" = true)
    (k40 : PySem.W.keepIn K (.ref f40) = true)
    (z_abs : PySem.W.nsIn K mainGlobals "abs" = some none)
    (z_divmod : PySem.W.nsIn K mainGlobals "divmod" = some none)
    (z_str : PySem.W.nsIn K mainGlobals "str" = some none)
    (z_int : PySem.W.nsIn K mainGlobals "int" = some none)
    (z_len : PySem.W.nsIn K mainGlobals "len" = some none)
    (z_list : PySem.W.nsIn K mainGlobals "list" = some none)
    (z_tuple : PySem.W.nsIn K mainGlobals "tuple" = some none)
    (z_bool : PySem.W.nsIn K mainGlobals "bool" = some none)
    (z_isinstance : PySem.W.nsIn K mainGlobals "isinstance" = some none)
    (z_range : PySem.W.nsIn K mainGlobals "range" = some none)
    (z_enumerate : PySem.W.nsIn K mainGlobals "enumerate" = some none)
    (z_zip : PySem.W.nsIn K mainGlobals "zip" = some none)
    (z_reversed : PySem.W.nsIn K mainGlobals "reversed" = some none)
    (z_sorted : PySem.W.nsIn K mainGlobals "sorted" = some none)
    (z_sum : PySem.W.nsIn K mainGlobals "sum" = some none)
    (z_all : PySem.W.nsIn K mainGlobals "all" = some none)
    (z_any : PySem.W.nsIn K mainGlobals "any" = some none)
    (z_max : PySem.W.nsIn K mainGlobals "max" = some none)
    (z_min : PySem.W.nsIn K mainGlobals "min" = some none) :
    ∃ fd : FuncData, (∀ (s : Shared) (v : Value), BindsTo s fd ⟨[v], []⟩ [("_law_script", v)]) ∧ ∀ base : Heap, K.In base → base.Ns mainGlobals mg → FnOk l.prog w K mg base CX0 22 fa fd ["_law_script"] (spLaw K) := by
  have e := hfa.symm.trans (PySem.W.mg_of X G a40)
  cases e
  have m_MOST_ITEMS := PySem.W.mg_of X G ci1
  have m_MOST_FLOORS := PySem.W.mg_of X G ci2
  have m_MOST_FIGURES := PySem.W.mg_of X G ci3
  have m_NO_VARIABLES := PySem.W.mg_of X G aN4
  have h_NO_VARIABLES : ∀ (B : Bk) (H : Hp), B.K = K → Rp B H (.ref nv4) (.tup NOV) := fun B H e => ⟨nv4, [.str "all", .str "and", .str "not", .str "or", .str "r"], rfl, e ▸ .inr ⟨oN4, _, nN4, lN4, cN4, dN4, by show 5 ≤ sizeLine; decide, .cons ⟨_, rfl⟩ (.cons ⟨_, rfl⟩ (.cons ⟨_, rfl⟩ (.cons ⟨_, rfl⟩ (.cons ⟨_, rfl⟩ (.nil)))))⟩, by decide, ⟨_, _, rfl, rfl, ⟨_, _, rfl, rfl, ⟨_, _, rfl, rfl, ⟨_, _, rfl, rfl, ⟨_, _, rfl, rfl, rfl⟩⟩⟩⟩⟩⟩
  have F_figures := fun_mk (st := top 15) l5 c5 k5
  have b_figures := F_figures.binds (ps := ["number"]) fun _ _ _ _ _ _ us hl => match us, hl with | [_], _ => rfl
  have m_figures := PySem.W.mg_of X G a5
  have F_multiple_text := fun_mk (st := top 14) l6 c6 k6
  have b_multiple_text := F_multiple_text.binds (ps := ["j"]) fun _ _ _ _ _ _ us hl => match us, hl with | [_], _ => rfl
  have m_multiple_text := PySem.W.mg_of X G a6
  have F_sum_text := fun_mk (st := top 13) l7 c7 k7
  have b_sum_text := F_sum_text.binds (ps := ["i", "j"]) fun _ _ _ _ _ _ us hl => match us, hl with | [_, _], _ => rfl
  have m_sum_text := PySem.W.mg_of X G a7
  have F_slope_text := fun_mk (st := top 12) l8 c8 k8
  have b_slope_text := F_slope_text.binds (ps := ["slope"]) fun _ _ _ _ _ _ us hl => match us, hl with | [_], _ => rfl
  have m_slope_text := PySem.W.mg_of X G a8
  have F_item_text := fun_mk (st := top 36) l9 c9 k9
  have b_item_text := F_item_text.binds (ps := ["size", "thing"]) fun _ _ _ _ _ _ us hl => match us, hl with | [_, _], _ => rfl
  have m_item_text := PySem.W.mg_of X G a9
  have F_term_text := fun_mk (st := top 35) l10 c10 k10
  have b_term_text := F_term_text.binds (ps := ["term"]) fun _ _ _ _ _ _ us hl => match us, hl with | [_], _ => rfl
  have m_term_text := PySem.W.mg_of X G a10
  have F_is_letter := fun_mk (st := top 9) l11 c11 k11
  have b_is_letter := F_is_letter.binds (ps := ["sign"]) fun _ _ _ _ _ _ us hl => match us, hl with | [_], _ => rfl
  have m_is_letter := PySem.W.mg_of X G a11
  have F_is_figure := fun_mk (st := top 31) l12 c12 k12
  have b_is_figure := F_is_figure.binds (ps := ["sign"]) fun _ _ _ _ _ _ us hl => match us, hl with | [_], _ => rfl
  have m_is_figure := PySem.W.mg_of X G a12
  have F_figures_at := fun_mk (st := top 30) l13 c13 k13
  have b_figures_at := F_figures_at.binds (ps := ["text", "at"]) fun _ _ _ _ _ _ us hl => match us, hl with | [_, _], _ => rfl
  have m_figures_at := PySem.W.mg_of X G a13
  have F_word_at := fun_mk (st := top 32) l14 c14 k14
  have b_word_at := F_word_at.binds (ps := ["text", "at"]) fun _ _ _ _ _ _ us hl => match us, hl with | [_, _], _ => rfl
  have m_word_at := PySem.W.mg_of X G a14
  have F_behind := fun_mk (st := top 33) l15 c15 k15
  have b_behind := F_behind.binds (ps := ["text", "at", "mark"]) fun _ _ _ _ _ _ us hl => match us, hl with | [_, _, _], _ => rfl
  have m_behind := PySem.W.mg_of X G a15
  have F_whole := fun_mk (st := top 29) l16 c16 k16
  have b_whole := F_whole.binds (ps := ["text"]) fun _ _ _ _ _ _ us hl => match us, hl with | [_], _ => rfl
  have m_whole := PySem.W.mg_of X G a16
  have F_multiple := fun_mk (st := top 28) l17 c17 k17
  have b_multiple := F_multiple.binds (ps := ["text"]) fun _ _ _ _ _ _ us hl => match us, hl with | [_], _ => rfl
  have m_multiple := PySem.W.mg_of X G a17
  have F_slope_at := fun_mk (st := top 27) l18 c18 k18
  have b_slope_at := F_slope_at.binds (ps := ["text", "at"]) fun _ _ _ _ _ _ us hl => match us, hl with | [_, _], _ => rfl
  have m_slope_at := PySem.W.mg_of X G a18
  have F_term_at := fun_mk (st := top 25) l19 c19 k19
  have m_term_at := PySem.W.mg_of X G a19
  have FD_term_at : FunD K "term_at" "term_at" (defArgs (top 25)) (defBody (top 25)) (defScope (top 25)) [] [("floors", .int 3)] f19 (PySem.W.fnOf "term_at" "term_at" (defArgs (top 25)) (defBody (top 25)) (defScope (top 25)) .none (.ref D19) dc19 pm19 an19 cd19 ct19) :=
    ⟨⟨_, _, .none, .ref D19, _, _, _, _, _, _, rfl, l19, c19, .inl ⟨rfl, rfl⟩, .inr ⟨D19, rfl, fun q hq => by obtain rfl := List.mem_singleton.mp hq; exact ⟨_, kD19, ⟨_, rfl⟩⟩⟩⟩, k19⟩
  obtain ⟨dv_term_at, hv_term_at, hb_term_at⟩ := FD_term_at.binds0 (ps := ["text", "at", "floors"]) 2 (by simp) rfl (fun D doc pm an cdv ct us ks h1 h2 => match us, ks, h1, h2 with | [_, _], [_], _, _ => ⟨_, _, _, _, _, _, rfl, rfl, rfl⟩)
  have kb_term_at := RF.Fun.kbn (ps := ["text", "at", "floors"]) F_term_at 2 ["floors"] (fun us ws => us ++ ws) (fun r1 r2 => r1.append r2) (fun kV doc pm an cdv ct us ws h1 h2 => match us, ws, h1, h2 with | [_, _], [_], _, _ => rfl)
  have F_piece_at := fun_mk (st := top 26) l20 c20 k20
  have b_piece_at := F_piece_at.binds (ps := ["text", "at", "floors"]) fun _ _ _ _ _ _ us hl => match us, hl with | [_, _, _], _ => rfl
  have m_piece_at := PySem.W.mg_of X G a20
  have F_is_whole := fun_mk (st := top 5) l21 c21 k21
  have b_is_whole := F_is_whole.binds (ps := ["value"]) fun _ _ _ _ _ _ us hl => match us, hl with | [_], _ => rfl
  have m_is_whole := PySem.W.mg_of X G a21
  have F_is_between := fun_mk (st := top 6) l22 c22 k22
  have b_is_between := F_is_between.binds (ps := ["value", "low", "high"]) fun _ _ _ _ _ _ us hl => match us, hl with | [_, _, _], _ => rfl
  have m_is_between := PySem.W.mg_of X G a22
  have F_is_word := fun_mk (st := top 8) l23 c23 k23
  have b_is_word := F_is_word.binds (ps := ["value", "low", "high"]) fun _ _ _ _ _ _ us hl => match us, hl with | [_, _, _], _ => rfl
  have m_is_word := PySem.W.mg_of X G a23
  have F_is_variable := fun_mk (st := top 7) l24 c24 k24
  have b_is_variable := F_is_variable.binds (ps := ["value"]) fun _ _ _ _ _ _ us hl => match us, hl with | [_], _ => rfl
  have m_is_variable := PySem.W.mg_of X G a24
  have F_is_slope := fun_mk (st := top 11) l25 c25 k25
  have b_is_slope := F_is_slope.binds (ps := ["value"]) fun _ _ _ _ _ _ us hl => match us, hl with | [_], _ => rfl
  have m_is_slope := PySem.W.mg_of X G a25
  have F_is_item := fun_mk (st := top 21) l26 c26 k26
  have b_is_item := F_is_item.binds (ps := ["value", "floors"]) fun _ _ _ _ _ _ us hl => match us, hl with | [_, _], _ => rfl
  have m_is_item := PySem.W.mg_of X G a26
  have F_is_floor := fun_mk (st := top 22) l27 c27 k27
  have b_is_floor := F_is_floor.binds (ps := ["value", "floors"]) fun _ _ _ _ _ _ us hl => match us, hl with | [_, _], _ => rfl
  have m_is_floor := PySem.W.mg_of X G a27
  have F_is_term_with := fun_mk (st := top 20) l28 c28 k28
  have b_is_term_with := F_is_term_with.binds (ps := ["value", "floors"]) fun _ _ _ _ _ _ us hl => match us, hl with | [_, _], _ => rfl
  have m_is_term_with := PySem.W.mg_of X G a28
  have F_is_term := fun_mk (st := top 19) l29 c29 k29
  have b_is_term := F_is_term.binds (ps := ["value"]) fun _ _ _ _ _ _ us hl => match us, hl with | [_], _ => rfl
  have m_is_term := PySem.W.mg_of X G a29
  have F_read_term := fun_mk (st := top 37) l30 c30 k30
  have b_read_term := F_read_term.binds (ps := ["text"]) fun _ _ _ _ _ _ us hl => match us, hl with | [_], _ => rfl
  have m_read_term := PySem.W.mg_of X G a30
  have F_law_bag := fun_mk (st := top 39) l31 c31 k31
  have b_law_bag := F_law_bag.binds (ps := ["_law_script"]) fun _ _ _ _ _ _ us hl => match us, hl with | [_], _ => rfl
  have m_law_bag := PySem.W.mg_of X G a31
  have F_law_pull := fun_mk (st := top 40) l32 c32 k32
  have b_law_pull := F_law_pull.binds (ps := ["_law_bag_here", "_law_sides"]) fun _ _ _ _ _ _ us hl => match us, hl with | [_, _], _ => rfl
  have m_law_pull := PySem.W.mg_of X G a32
  have F_law_of := fun_mk (st := top 41) l33 c33 k33
  have b_law_of := F_law_of.binds (ps := ["_law_bag_here", "_law_some"]) fun _ _ _ _ _ _ us hl => match us, hl with | [_, _], _ => rfl
  have m_law_of := PySem.W.mg_of X G a33
  have F_law_same := fun_mk (st := top 42) l34 c34 k34
  have b_law_same := F_law_same.binds (ps := ["_law_found", "_law_due"]) fun _ _ _ _ _ _ us hl => match us, hl with | [_, _], _ => rfl
  have m_law_same := PySem.W.mg_of X G a34
  have F_law_any_slope := fun_mk (st := top 43) l35 c35 k35
  have b_law_any_slope := F_law_any_slope.binds (ps := ["_law_bag_here"]) fun _ _ _ _ _ _ us hl => match us, hl with | [_], _ => rfl
  have m_law_any_slope := PySem.W.mg_of X G a35
  have F_law_any_term := fun_mk (st := top 44) l36 c36 k36
  have b_law_any_term := F_law_any_term.binds (ps := ["_law_bag_here", "_law_names", "_law_deep"]) fun _ _ _ _ _ _ us hl => match us, hl with | [_, _, _], _ => rfl
  have m_law_any_term := PySem.W.mg_of X G a36
  have F_law_step_text := fun_mk (st := top 45) l37 c37 k37
  have b_law_step_text := F_law_step_text.binds (ps := ["_law_slope_z"]) fun _ _ _ _ _ _ us hl => match us, hl with | [_], _ => rfl
  have m_law_step_text := PySem.W.mg_of X G a37
  have F_law_thing_text := fun_mk (st := top 46) l38 c38 k38
  have b_law_thing_text := F_law_thing_text.binds (ps := ["_law_thing"]) fun _ _ _ _ _ _ us hl => match us, hl with | [_], _ => rfl
  have m_law_thing_text := PySem.W.mg_of X G a38
  have F_law_term_text := fun_mk (st := top 47) l39 c39 k39
  have b_law_term_text := F_law_term_text.binds (ps := ["_law_term_z"]) fun _ _ _ _ _ _ us hl => match us, hl with | [_], _ => rfl
  have m_law_term_text := PySem.W.mg_of X G a39
  have F_law := fun_mk (st := top 48) l40 c40 k40
  have b_law := F_law.binds (ps := ["_law_script"]) fun _ _ _ _ _ _ us hl => match us, hl with | [_], _ => rfl
  have m_law := PySem.W.mg_of X G a40
  have n_abs := PySem.W.mg_none_of X G z_abs
  have n_divmod := PySem.W.mg_none_of X G z_divmod
  have n_str := PySem.W.mg_none_of X G z_str
  have n_int := PySem.W.mg_none_of X G z_int
  have n_len := PySem.W.mg_none_of X G z_len
  have n_list := PySem.W.mg_none_of X G z_list
  have n_tuple := PySem.W.mg_none_of X G z_tuple
  have n_bool := PySem.W.mg_none_of X G z_bool
  have n_isinstance := PySem.W.mg_none_of X G z_isinstance
  have n_range := PySem.W.mg_none_of X G z_range
  have n_enumerate := PySem.W.mg_none_of X G z_enumerate
  have n_zip := PySem.W.mg_none_of X G z_zip
  have n_reversed := PySem.W.mg_none_of X G z_reversed
  have n_sorted := PySem.W.mg_none_of X G z_sorted
  have n_sum := PySem.W.mg_none_of X G z_sum
  have n_all := PySem.W.mg_none_of X G z_all
  have n_any := PySem.W.mg_none_of X G z_any
  have n_max := PySem.W.mg_none_of X G z_max
  have n_min := PySem.W.mg_none_of X G z_min
  refine ⟨PySem.W.fnOf "law" "law" (defArgs (top 48)) (defBody (top 48)) (defScope (top 48)) .none kV40 dc40 pm40 an40 cd40 ct40, fun s v => .of_eq rfl, fun base _ _ => ?_⟩
  have T : TN mg := ⟨n_abs, n_divmod, n_str, n_int, n_len, n_list, n_tuple, n_bool, n_isinstance, n_range, n_enumerate, n_zip, n_reversed, n_sorted, n_sum, n_all, n_any, n_max, n_min⟩
  have TB : RF.TB mg := ⟨n_list, n_len, n_abs, n_int⟩

  have D_figures : Df l.prog w K mg base 1 "_figures" ["number"] (spD K mg false (fFig)) := ⟨_, _, ok_figures (P := l.prog) (w := w) (base := base) (j := 0) F_figures T , b_figures, m_figures, F_figures.kp⟩
  have D_multiple_text : Df l.prog w K mg base 2 "_multiple_text" ["j"] (spD K mg false (fMul)) := ⟨_, _, ok_multiple (P := l.prog) (w := w) (base := base) (j := 1) F_multiple_text T (dmono D_figures (by decide)), b_multiple_text, m_multiple_text, F_multiple_text.kp⟩
  have D_sum_text : Df l.prog w K mg base 3 "_sum_text" ["i", "j"] (spD K mg false (fSum)) := ⟨_, _, ok_sum (P := l.prog) (w := w) (base := base) (j := 2) F_sum_text T (dmono D_figures (by decide)) (dmono D_multiple_text (by decide)), b_sum_text, m_sum_text, F_sum_text.kp⟩
  have G_slope_text := ok_slope (P := l.prog) (w := w) (base := base) (j := 3) F_slope_text T (dmono D_figures (by decide)) (dmono D_sum_text (by decide))
  have D_slope_text : Df l.prog w K mg base 4 "slope_text" ["slope"] (spD K mg false (fSlope)) := ⟨_, _, G_slope_text, b_slope_text, m_slope_text, F_slope_text.kp⟩
  have Dk_slope_text : Dk l.prog w K mg base 4 "slope_text" ["slope"] 0 ["slope"] (fun _ zs => zs) (spD K mg false (fSlope)) := ⟨_, _, _, G_slope_text, RF.Fun.kbn F_slope_text 0 ["slope"] (fun _ zs => zs) (fun _ r2 => r2) (fun kV doc pm an cdv ct us ws h1 h2 => match us, ws, h1, h2 with | [], [_], _, _ => rfl), m_slope_text, F_slope_text.kp⟩
  have G_term_text := all_term (P := l.prog) (w := w) (base := base) (k := 4) F_term_text F_item_text T (dmono D_slope_text (by decide)) b_term_text b_item_text m_term_text m_item_text 3
  have D_term_text : Df l.prog w K mg base 12 "term_text" ["term"] (spD K mg false (fTerm 3)) := ⟨_, _, G_term_text, b_term_text, m_term_text, F_term_text.kp⟩
  have Dk_term_text : Dk l.prog w K mg base 12 "term_text" ["term"] 0 ["term"] (fun _ zs => zs) (spD K mg false (fTerm 3)) := ⟨_, _, _, G_term_text, RF.Fun.kbn F_term_text 0 ["term"] (fun _ zs => zs) (fun _ r2 => r2) (fun kV doc pm an cdv ct us ws h1 h2 => match us, ws, h1, h2 with | [], [_], _, _ => rfl), m_term_text, F_term_text.kp⟩
  have D_is_letter : Df l.prog w K mg base 1 "is_letter" ["sign"] (spD K mg false (fSign ltr)) := ⟨_, _, ok_isletter (P := l.prog) (w := w) (base := base) (j := 0) F_is_letter T , b_is_letter, m_is_letter, F_is_letter.kp⟩
  have D_is_figure : Df l.prog w K mg base 1 "_is_figure" ["sign"] (spD K mg false (fSign dgt)) := ⟨_, _, ok_isfig (P := l.prog) (w := w) (base := base) (j := 0) F_is_figure T , b_is_figure, m_is_figure, F_is_figure.kp⟩
  have D_figures_at : Df l.prog w K mg base 2 "_figures_at" ["text", "at"] (spD K mg false (fFigAt)) := ⟨_, _, ok_figat (P := l.prog) (w := w) (base := base) (j := 1) F_figures_at T m_MOST_FIGURES (dmono D_is_figure (by decide)), b_figures_at, m_figures_at, F_figures_at.kp⟩
  have D_word_at : Df l.prog w K mg base 2 "_word_at" ["text", "at"] (spD K mg false (fWordAt)) := ⟨_, _, ok_wordat (P := l.prog) (w := w) (base := base) (j := 1) F_word_at T (dmono D_is_letter (by decide)), b_word_at, m_word_at, F_word_at.kp⟩
  have D_behind : Df l.prog w K mg base 1 "_behind" ["text", "at", "mark"] (spD K mg false (fBehind)) := ⟨_, _, ok_behind (P := l.prog) (w := w) (base := base) (j := 0) F_behind T , b_behind, m_behind, F_behind.kp⟩
  have D_whole : Df l.prog w K mg base 3 "_whole" ["text"] (spD K mg false (fWhole)) := ⟨_, _, ok_whole (P := l.prog) (w := w) (base := base) (j := 2) F_whole T (dmono D_figures_at (by decide)), b_whole, m_whole, F_whole.kp⟩
  have D_multiple : Df l.prog w K mg base 4 "_multiple" ["text"] (spD K mg false (fMultiple)) := ⟨_, _, ok_multi (P := l.prog) (w := w) (base := base) (j := 3) F_multiple T (dmono D_whole (by decide)), b_multiple, m_multiple, F_multiple.kp⟩
  have D_slope_at : Df l.prog w K mg base 5 "_slope_at" ["text", "at"] (spD K mg false (fSlopeAt)) := ⟨_, _, ok_slopeat (P := l.prog) (w := w) (base := base) (j := 4) F_slope_at T (dmono D_whole (by decide)) (dmono D_multiple (by decide)), b_slope_at, m_slope_at, F_slope_at.kp⟩
  have GV_term_at := all_termat (P := l.prog) (w := w) (base := base) (k := 5) F_term_at F_piece_at T (dmono D_is_figure (by decide)) (dmono D_figures_at (by decide)) (dmono D_word_at (by decide)) (dmono D_behind (by decide)) (dmono D_slope_at (by decide)) ⟨_, kb_term_at⟩ b_piece_at m_term_at m_piece_at 3
  have Dv_term_at : Dv l.prog w K mg base 13 "term_at" ["text", "at", "floors"] [.int 3] (spD K mg false (fTermAt 3)) := ⟨_, _, _, GV_term_at, hb_term_at, hv_term_at, m_term_at, F_term_at.kp⟩
  have D_is_whole : Df l.prog w K mg base 1 "is_whole" ["value"] (spD K mg false (fIsWhole)) := ⟨_, _, ok_iswhole (P := l.prog) (w := w) (base := base) (j := 0) F_is_whole T , b_is_whole, m_is_whole, F_is_whole.kp⟩
  have D_is_between : Df l.prog w K mg base 2 "is_between" ["value", "low", "high"] (spD K mg false (fBtw)) := ⟨_, _, ok_btw (P := l.prog) (w := w) (base := base) (j := 1) F_is_between T (dmono D_is_whole (by decide)), b_is_between, m_is_between, F_is_between.kp⟩
  have D_is_word : Df l.prog w K mg base 2 "_is_word" ["value", "low", "high"] (spD K mg false (fIsWord)) := ⟨_, _, ok_isword (P := l.prog) (w := w) (base := base) (j := 1) F_is_word T (dmono D_is_letter (by decide)), b_is_word, m_is_word, F_is_word.kp⟩
  have D_is_variable : Df l.prog w K mg base 3 "is_variable" ["value"] (spD K mg false (fIsVar)) := ⟨_, _, ok_isvar (P := l.prog) (w := w) (base := base) (j := 2) F_is_variable T m_NO_VARIABLES h_NO_VARIABLES (dmono D_is_word (by decide)), b_is_variable, m_is_variable, F_is_variable.kp⟩
  have D_is_slope : Df l.prog w K mg base 3 "is_slope" ["value"] (spD K mg false (fIsSlope)) := ⟨_, _, ok_isslope (P := l.prog) (w := w) (base := base) (j := 2) F_is_slope T (dmono D_is_between (by decide)), b_is_slope, m_is_slope, F_is_slope.kp⟩
  have GW := all_istermw (P := l.prog) (w := w) (base := base) (k := 3) F_is_term_with F_is_item F_is_floor T m_MOST_ITEMS (dmono D_is_between (by decide)) (dmono D_is_variable (by decide)) (dmono D_is_slope (by decide)) b_is_term_with b_is_item b_is_floor m_is_term_with m_is_item m_is_floor 3
  have D_is_term_with : Df l.prog w K mg base 15 "_is_term_with" ["value", "floors"] (spD K mg false (fTermW 3)) := ⟨_, _, GW, b_is_term_with, m_is_term_with, F_is_term_with.kp⟩
  have D_is_term : Df l.prog w K mg base 16 "is_term" ["value"] (spD K mg false (fIsTerm)) := ⟨_, _, ok_isterm (P := l.prog) (w := w) (base := base) (j := 15) F_is_term T m_MOST_FLOORS (dmono D_is_term_with (by decide)), b_is_term, m_is_term, F_is_term.kp⟩
  have G_read_term := ok_readterm (P := l.prog) (w := w) (base := base) (j := 16) F_read_term T (Dv_term_at.mono (by decide)) (dmono D_is_term (by decide)) (dmono D_term_text (by decide))
  have D_read_term : Df l.prog w K mg base 17 "read_term" ["text"] (spD K mg false (fReadT)) := ⟨_, _, G_read_term, b_read_term, m_read_term, F_read_term.kp⟩
  have Dk_read_term : Dk l.prog w K mg base 17 "read_term" ["text"] 0 ["text"] (fun _ zs => zs) (spD K mg false (fReadT)) := ⟨_, _, _, G_read_term, RF.Fun.kbn F_read_term 0 ["text"] (fun _ zs => zs) (fun _ r2 => r2) (fun kV doc pm an cdv ct us ws h1 h2 => match us, ws, h1, h2 with | [], [_], _, _ => rfl), m_read_term, F_read_term.kp⟩
  have D_law_bag : Df l.prog w K mg base 1 "_law_bag" ["_law_script"] (RF.spBag K) := ⟨_, _, RF.ok_bag (P := l.prog) (w := w) (base := base) F_law_bag TB , b_law_bag, m_law_bag, F_law_bag.kp⟩
  have D_law_pull : Df l.prog w K mg base 1 "_law_pull" ["_law_bag_here", "_law_sides"] (spD K mg true fPull) := ⟨_, _, ok_pullD (P := l.prog) (w := w) (base := base) F_law_pull TB , b_law_pull, m_law_pull, F_law_pull.kp⟩
  have D_law_of : Df l.prog w K mg base 2 "_law_of" ["_law_bag_here", "_law_some"] (spD K mg true (fOf)) := ⟨_, _, ok_ofD (P := l.prog) (w := w) (base := base) (j := 1) F_law_of T (dmono D_law_pull (by decide)), b_law_of, m_law_of, F_law_of.kp⟩
  have D_law_same : Df l.prog w K mg base 21 "_law_same" ["_law_found", "_law_due"] (spD K mg false (fSame 20)) := ⟨_, _, all_same (P := l.prog) (w := w) (base := base) (k := 0) F_law_same T  b_law_same m_law_same 20, b_law_same, m_law_same, F_law_same.kp⟩
  have D_law_any_slope : Df l.prog w K mg base 2 "_law_any_slope" ["_law_bag_here"] (spD K mg true (fDslope)) := ⟨_, _, ok_dslope (P := l.prog) (w := w) (base := base) (j := 1) F_law_any_slope T (dmono D_law_pull (by decide)), b_law_any_slope, m_law_any_slope, F_law_any_slope.kp⟩
  have D_law_any_term : Df l.prog w K mg base 6 "_law_any_term" ["_law_bag_here", "_law_names", "_law_deep"] (spD K mg true (fDterm 3)) := ⟨_, _, all_dterm (P := l.prog) (w := w) (base := base) (k := 2) F_law_any_term T (dmono D_law_pull (by decide)) (dmono D_law_of (by decide)) (dmono D_law_any_slope (by decide)) b_law_any_term m_law_any_term 3, b_law_any_term, m_law_any_term, F_law_any_term.kp⟩
  have D_law_step_text : Df l.prog w K mg base 1 "_law_step_text" ["_law_slope_z"] (spD K mg false (fSlope)) := ⟨_, _, ok_lstep (P := l.prog) (w := w) (base := base) (j := 0) F_law_step_text T , b_law_step_text, m_law_step_text, F_law_step_text.kp⟩
  have D_law_term_text : Df l.prog w K mg base 9 "_law_term_text" ["_law_term_z"] (spD K mg false (fTerm 3)) := ⟨_, _, all_lterm (P := l.prog) (w := w) (base := base) (k := 1) F_law_term_text F_law_thing_text T (dmono D_law_step_text (by decide)) b_law_term_text b_law_thing_text m_law_term_text m_law_thing_text 3 (by decide), b_law_term_text, m_law_term_text, F_law_term_text.kp⟩
  exact ok_law (j := 21) F_law T (dmono D_law_bag (by decide)) (dmono D_law_any_slope (by decide)) (dmono D_law_any_term (by decide)) (dmono D_law_same (by decide)) (dmono D_slope_text (by decide)) (Dk_slope_text.mono (by decide)) (dmono D_law_step_text (by decide)) (dmono D_law_term_text (by decide)) (dmono D_term_text (by decide)) (Dk_term_text.mono (by decide)) (dmono D_read_term (by decide)) (Dk_read_term.mono (by decide))
theorem walk {l : PySem.W.OpenLaw} {q : Program} {loose : List Str} {XP : (Str → Option Value) → Heap → Prop} {YP : World → Heap → Prop} {d : DefRec} {K : Params → PySem.W.Frag} (hn : l.most = some 63) (hdf : d.params.defaults = [])
    (hY : ∀ (w : World) (h : Heap), YP w h → (K w.params).In h)
    (F : ∀ (w : World) (mg : Str → Option Value) (fa : Addr) (h : Heap), (K w.params).In h → h.Ns mainGlobals mg → mg d.name = some (.ref fa) →
      ∃ fd : FuncData, (∀ (s : Shared) (u : Value), BindsTo s fd ⟨[u], []⟩ [("_law_script", u)]) ∧ ∀ base : Heap, (K w.params).In base → base.Ns mainGlobals mg → FnOk l.prog w (K w.params) mg base CX0 22 fa fd ["_law_script"] (spLaw (K w.params))) :
    PySem.W.WalkO q loose XP YP l.row.toRowW d [] (fun f vs => PySem.call f vs) :=
  L2.walk_of (n := 63) (k := 22) (x := "_law_script") (CX := fun _ => CX0) (sp := fun w => spLaw (K w.params)) hn (by decide) hdf ⟨rfl, by decide, by decide⟩ hY F (fun _ _ a ns hl _ hS => ⟨a, ns, rfl, hS, hl, fun _ => rfl⟩) fun _ _ _ _ _ z => z
end Q

open PySem PySem.W PyProof.Rows
set_option maxRecDepth 100000 in
set_option maxHeartbeats 0 in
theorem PySem.Challenge.cw_rootfloor_k30_texts_of_terms_and_slopes_holds : PySem.Challenge.rw_rootfloor_k30_texts_of_terms_and_slopes.Holds := by
  w_on; o_law; k_head; (case hw => w_witness2)
  k_fill
  refine Q.walk (l := PySem.Challenge.rw_rootfloor_k30_texts_of_terms_and_slopes) rfl rfl (fun w h Y => PySem.W.kIn_of Y) ?F
  case F =>
    intro w mg fa h KX G hmg
    refine' Q.all_mk KX G hmg ?ci1 ?ci2 ?ci3 ?aN4 ?lN4 ?cN4 ?dN4 ?a5 ?l5 ?c5 ?k5 ?a6 ?l6 ?c6 ?k6 ?a7 ?l7 ?c7 ?k7 ?a8 ?l8 ?c8 ?k8 ?a9 ?l9 ?c9 ?k9 ?a10 ?l10 ?c10 ?k10 ?a11 ?l11 ?c11 ?k11 ?a12 ?l12 ?c12 ?k12 ?a13 ?l13 ?c13 ?k13 ?a14 ?l14 ?c14 ?k14 ?a15 ?l15 ?c15 ?k15 ?a16 ?l16 ?c16 ?k16 ?a17 ?l17 ?c17 ?k17 ?a18 ?l18 ?c18 ?k18 ?a19 ?l19 ?c19 ?k19 ?kD19 ?a20 ?l20 ?c20 ?k20 ?a21 ?l21 ?c21 ?k21 ?a22 ?l22 ?c22 ?k22 ?a23 ?l23 ?c23 ?k23 ?a24 ?l24 ?c24 ?k24 ?a25 ?l25 ?c25 ?k25 ?a26 ?l26 ?c26 ?k26 ?a27 ?l27 ?c27 ?k27 ?a28 ?l28 ?c28 ?k28 ?a29 ?l29 ?c29 ?k29 ?a30 ?l30 ?c30 ?k30 ?a31 ?l31 ?c31 ?k31 ?a32 ?l32 ?c32 ?k32 ?a33 ?l33 ?c33 ?k33 ?a34 ?l34 ?c34 ?k34 ?a35 ?l35 ?c35 ?k35 ?a36 ?l36 ?c36 ?k36 ?a37 ?l37 ?c37 ?k37 ?a38 ?l38 ?c38 ?k38 ?a39 ?l39 ?c39 ?k39 ?a40 ?l40 ?c40 ?k40 ?z_abs ?z_divmod ?z_str ?z_int ?z_len ?z_list ?z_tuple ?z_bool ?z_isinstance ?z_range ?z_enumerate ?z_zip ?z_reversed ?z_sorted ?z_sum ?z_all ?z_any ?z_max ?z_min
    (case ci1 => k_is)
    (case ci2 => k_is)
    (case ci3 => k_is)
    (case aN4 => k_is)
    (case lN4 => k_is)
    (case cN4 => first | rfl | decide +kernel)
    (case dN4 => first | rfl | decide +kernel)
    (case a5 => k_is)
    (case l5 => k_is)
    (case c5 => k_is)
    (case k5 => k_is)
    (case a6 => k_is)
    (case l6 => k_is)
    (case c6 => k_is)
    (case k6 => k_is)
    (case a7 => k_is)
    (case l7 => k_is)
    (case c7 => k_is)
    (case k7 => k_is)
    (case a8 => k_is)
    (case l8 => k_is)
    (case c8 => k_is)
    (case k8 => k_is)
    (case a9 => k_is)
    (case l9 => k_is)
    (case c9 => k_is)
    (case k9 => k_is)
    (case a10 => k_is)
    (case l10 => k_is)
    (case c10 => k_is)
    (case k10 => k_is)
    (case a11 => k_is)
    (case l11 => k_is)
    (case c11 => k_is)
    (case k11 => k_is)
    (case a12 => k_is)
    (case l12 => k_is)
    (case c12 => k_is)
    (case k12 => k_is)
    (case a13 => k_is)
    (case l13 => k_is)
    (case c13 => k_is)
    (case k13 => k_is)
    (case a14 => k_is)
    (case l14 => k_is)
    (case c14 => k_is)
    (case k14 => k_is)
    (case a15 => k_is)
    (case l15 => k_is)
    (case c15 => k_is)
    (case k15 => k_is)
    (case a16 => k_is)
    (case l16 => k_is)
    (case c16 => k_is)
    (case k16 => k_is)
    (case a17 => k_is)
    (case l17 => k_is)
    (case c17 => k_is)
    (case k17 => k_is)
    (case a18 => k_is)
    (case l18 => k_is)
    (case c18 => k_is)
    (case k18 => k_is)
    (case a19 => k_is)
    (case l19 => k_is)
    (case c19 => k_is)
    (case k19 => k_is)
    (case kD19 => k_is)
    (case a20 => k_is)
    (case l20 => k_is)
    (case c20 => k_is)
    (case k20 => k_is)
    (case a21 => k_is)
    (case l21 => k_is)
    (case c21 => k_is)
    (case k21 => k_is)
    (case a22 => k_is)
    (case l22 => k_is)
    (case c22 => k_is)
    (case k22 => k_is)
    (case a23 => k_is)
    (case l23 => k_is)
    (case c23 => k_is)
    (case k23 => k_is)
    (case a24 => k_is)
    (case l24 => k_is)
    (case c24 => k_is)
    (case k24 => k_is)
    (case a25 => k_is)
    (case l25 => k_is)
    (case c25 => k_is)
    (case k25 => k_is)
    (case a26 => k_is)
    (case l26 => k_is)
    (case c26 => k_is)
    (case k26 => k_is)
    (case a27 => k_is)
    (case l27 => k_is)
    (case c27 => k_is)
    (case k27 => k_is)
    (case a28 => k_is)
    (case l28 => k_is)
    (case c28 => k_is)
    (case k28 => k_is)
    (case a29 => k_is)
    (case l29 => k_is)
    (case c29 => k_is)
    (case k29 => k_is)
    (case a30 => k_is)
    (case l30 => k_is)
    (case c30 => k_is)
    (case k30 => k_is)
    (case a31 => k_is)
    (case l31 => k_is)
    (case c31 => k_is)
    (case k31 => k_is)
    (case a32 => k_is)
    (case l32 => k_is)
    (case c32 => k_is)
    (case k32 => k_is)
    (case a33 => k_is)
    (case l33 => k_is)
    (case c33 => k_is)
    (case k33 => k_is)
    (case a34 => k_is)
    (case l34 => k_is)
    (case c34 => k_is)
    (case k34 => k_is)
    (case a35 => k_is)
    (case l35 => k_is)
    (case c35 => k_is)
    (case k35 => k_is)
    (case a36 => k_is)
    (case l36 => k_is)
    (case c36 => k_is)
    (case k36 => k_is)
    (case a37 => k_is)
    (case l37 => k_is)
    (case c37 => k_is)
    (case k37 => k_is)
    (case a38 => k_is)
    (case l38 => k_is)
    (case c38 => k_is)
    (case k38 => k_is)
    (case a39 => k_is)
    (case l39 => k_is)
    (case c39 => k_is)
    (case k39 => k_is)
    (case a40 => k_is)
    (case l40 => k_is)
    (case c40 => k_is)
    (case k40 => k_is)
    (case z_abs => k_is)
    (case z_divmod => k_is)
    (case z_str => k_is)
    (case z_int => k_is)
    (case z_len => k_is)
    (case z_list => k_is)
    (case z_tuple => k_is)
    (case z_bool => k_is)
    (case z_isinstance => k_is)
    (case z_range => k_is)
    (case z_enumerate => k_is)
    (case z_zip => k_is)
    (case z_reversed => k_is)
    (case z_sorted => k_is)
    (case z_sum => k_is)
    (case z_all => k_is)
    (case z_any => k_is)
    (case z_max => k_is)
    (case z_min => k_is)

