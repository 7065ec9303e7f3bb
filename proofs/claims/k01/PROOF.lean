import PyProof.Rows.All
import Wide.All
import OpenK.AllK
import Wide.FinOn
import HandS.ForMost
import HandS.Gcd
import HandS.Wide
import HandS.Codes
import HandS.IsInst
import HandS.Zip
import HandS.Walk
import HandS.MakeKwOnly
import HandS.Property
import HandS.List
import HandS.Text
import HandS.TupAny
import HandS.Iter
import HandS.Style
import HandS.Deep
import HandS.Flow
import HandS.WideBits
import HandS.FStr
import HandS.SortInts
import HandS.StrMore
import HandS.Rev
import KE.KOpsOwn
import KE.KMathG
import HandS.OwnEq
import HandS.ClsMeth
import Flt.RightSqrt
import HandS.Defaults
import HandS.Flt
import HandS.Exc
import HandS.Lambda
import KE.KExcSuper
import KE.KSuper
import KE.KExcPX
import HandS.ExcSuper
import KE.KTryMore
import HandS.HotCalls
import KE.KIsAll
import HandS.WordsExc
import KE.KDflt
import HandS.Comp
import KE.KFmtOwn
import HandS.TryOnly
import HandS.EndOwn
import PySem.Challenge.RW_rootfloor_k01_parts_of_surds
set_option Elab.async false
set_option maxRecDepth 100000
set_option maxHeartbeats 8000000
namespace RF
open PySem L2

/-- all that is tracked stays, but what stands at b -/
def Kp (b : Addr) (H H' : Hp) : Prop := ∀ a o, a ≠ b → H a = some o → H' a = some o
theorem Kp.refl (b : Addr) (H : Hp) : Kp b H H := fun _ _ _ e => e
theorem Kp.trans {b : Addr} {H H1 H2 : Hp} (x : Kp b H H1) (y : Kp b H1 H2) : Kp b H H2 := fun a o n e => y a o n (x a o n e)
theorem Kp.upd {b : Addr} {H : Hp} {o : HO} : Kp b H (upd H b o) := fun a u n e => by rw [upd_ne n]; exact e
theorem Kp.of {b : Addr} {H H' : Hp} (s : Same H H') : Kp b H H' := fun a o _ e => s a o e

/-- the bag of a script: its cells, how many are taken, what is left of a great one, the state of the draws -/
structure BagC (H : Hp) (b c : Addr) (ns : List Int) (i : Nat) (z r : Int) : Prop where
  ne : b ≠ c
  at_ : H b = some (.lst [.ref c, .int i, .int z, .int r])
  cs : H c = some (.lst (ns.map V.int))
  le : i ≤ ns.length
  z0 : 0 ≤ z
  r0 : 0 ≤ r
  r1 : r < 2147483647
def Bag (H : Hp) (b : Addr) : Prop := ∃ (c : Addr) (ns : List Int) (i : Nat) (z r : Int), BagC H b c ns i z r
theorem BagC.put {H : Hp} {b c : Addr} {ns : List Int} {i i' : Nat} {z r z' r' : Int} {o : HO} (B : BagC H b c ns i z r) (ho : o = .lst [.ref c, .int i', .int z', .int r']) (hi : i' ≤ ns.length) (hz : 0 ≤ z') (h0 : 0 ≤ r') (h1 : r' < 2147483647) :
    BagC (upd H b o) b c ns i' z' r' := ⟨B.ne, by rw [upd_same, ho], by rw [upd_ne (Ne.symm B.ne)]; exact B.cs, hi, hz, h0, h1⟩
theorem Bag.some {H : Hp} {b : Addr} (B : Bag H b) : ∃ xs, H b = some (.lst xs) := let ⟨_, _, _, _, _, e⟩ := B; ⟨_, e.at_⟩
theorem Bag.same {H H' : Hp} {b : Addr} (B : Bag H b) (s : Same H H') : Bag H' b := by
  obtain ⟨c, ns, i, z, r, h⟩ := B
  exact ⟨c, ns, i, z, r, h.ne, s _ _ h.at_, s _ _ h.cs, h.le, h.z0, h.r0, h.r1⟩
theorem emod_lo (a : Int) {b : Int} (h : 0 < b) : 0 ≤ a % b := Int.emod_nonneg _ (by omega)
theorem emod_hi (a : Int) {b : Int} (h : 0 < b) : a % b < b := Int.emod_lt_of_pos _ h

/-- a draw: some number below the sides; the bag stays one, nothing else changes -/
def spPull : Sp := fun vs H Q _ => ∃ (b : Addr) (k : Int), vs = [.ref b, .int k] ∧ Bag H b ∧ 0 < k ∧ k < 1073741824 ∧
  ∀ (d : Int) (H' : Hp), 0 ≤ d → d < k → Bag H' b → Kp b H H' → Q (.int d) H'
def spBag (K : PySem.W.Frag) : Sp := fun vs H Q _ => ∃ (a : Addr) (ns : List Int), vs = [.ref a] ∧ SqL K H a (ns.map V.int) ∧ ns.length ≤ 63 ∧
  ∀ (b : Addr) (H' : Hp), H b = none → Bag H' b → Same H H' → Q (.ref b) H'
/-- a new object -/
theorem sNew {H H1 : Hp} {p : Addr} {o : HO} (s : Same H H1) (h : H1 p = none) : Same H (upd H1 p o) := fun a u e => by
  rw [upd_ne (ne_of_none (s a u e) h)]
  exact s a u e
theorem ne_new {H : Hp} {p q : Addr} {o : HO} (h : upd H p o q = none) : q ≠ p := fun z => by
  rw [z, upd_same] at h
  cases h
theorem of_new {H : Hp} {p q : Addr} {o : HO} (h : upd H p o q = none) : H q = none := by
  rw [upd_ne (ne_new h)] at h
  exact h

/-! ### data: what a value tells, with the lists and tuples in it -/
inductive D where
  | non | bl (b : Bool) | int (i : Int) | str (x : Str) | lst (ds : List D) | tup (ds : List D)
mutual
def Rp (K : PySem.W.Frag) (H : Hp) : V → D → Prop
  | v, .non => v = .non
  | v, .bl b => v = .bl b
  | v, .int i => v = .int i
  | v, .str x => v = .str x
  | v, .lst ds => ∃ a xs, v = .ref a ∧ SqL K H a xs ∧ xs.length ≤ 100000 ∧ Rps K H xs ds
  | v, .tup ds => ∃ a xs, v = .ref a ∧ SqT K H a xs ∧ xs.length ≤ 100000 ∧ Rps K H xs ds
def Rps (K : PySem.W.Frag) (H : Hp) : List V → List D → Prop
  | xs, [] => xs = []
  | xs, d :: ds => ∃ x r, xs = x :: r ∧ Rp K H x d ∧ Rps K H r ds
end
mutual
def dep : D → Nat
  | .lst ds => depL ds + 1
  | .tup ds => depL ds + 1
  | _ => 0
def depL : List D → Nat
  | [] => 0
  | d :: ds => max (dep d) (depL ds)
end
theorem sameT {K : PySem.W.Frag} {H H' : Hp} {a : Addr} {xs : List V} (e : Same H H') (h : SqT K H a xs) : SqT K H' a xs := by
  rcases h with (h | ⟨o, h⟩) | h
  · exact .inl (.inl (e _ _ h))
  · exact .inl (.inr ⟨o, e _ _ h⟩)
  · exact .inr h
mutual
theorem Rp.same {K : PySem.W.Frag} {H H' : Hp} (e : Same H H') : ∀ {v : V} (d : D), Rp K H v d → Rp K H' v d
  | _, .non, h => h
  | _, .bl _, h => h
  | _, .int _, h => h
  | _, .str _, h => h
  | _, .lst ds, h => by
    obtain ⟨a, xs, h1, h2, h3, h4⟩ := h
    exact ⟨a, xs, h1, e.seq h2, h3, Rps.same e ds h4⟩
  | _, .tup ds, h => by
    obtain ⟨a, xs, h1, h2, h3, h4⟩ := h
    exact ⟨a, xs, h1, sameT e h2, h3, Rps.same e ds h4⟩
theorem Rps.same {K : PySem.W.Frag} {H H' : Hp} (e : Same H H') : ∀ {xs : List V} (ds : List D), Rps K H xs ds → Rps K H' xs ds
  | _, [], h => h
  | _, d :: ds, h => by
    obtain ⟨x, r, h1, h2, h3⟩ := h
    exact ⟨x, r, h1, Rp.same e d h2, Rps.same e ds h3⟩
end
theorem Rps.len {K : PySem.W.Frag} {H : Hp} : ∀ {xs : List V} {ds : List D}, Rps K H xs ds → xs.length = ds.length
  | _, [], h => by rw [show _ = [] from h]; rfl
  | _, d :: ds, h => by
    obtain ⟨x, r, rfl, _, h3⟩ := h
    rw [List.length_cons, List.length_cons, Rps.len h3]
theorem Rps.at_ {K : PySem.W.Frag} {H : Hp} : ∀ {xs : List V} {ds : List D} {i : Nat} {x : V}, Rps K H xs ds → xs[i]? = some x → ∃ d, ds[i]? = some d ∧ Rp K H x d
  | _, [], i, x, h, e => by rw [show _ = [] from h] at e; simp at e
  | _, d :: ds, 0, x, h, e => by
    obtain ⟨y, r, rfl, h2, _⟩ := h
    cases e
    exact ⟨d, rfl, h2⟩
  | _, d :: ds, i + 1, x, h, e => by
    obtain ⟨y, r, rfl, _, h3⟩ := h
    obtain ⟨d', e1, e2⟩ := Rps.at_ (i := i) h3 e
    exact ⟨d', e1, e2⟩
theorem dep_mem : ∀ {ds : List D} {i : Nat} {d : D}, ds[i]? = some d → dep d ≤ depL ds
  | [], _, _, e => by simp at e
  | c :: ds, 0, d, e => by cases e; exact Nat.le_max_left ..
  | c :: ds, i + 1, d, e => Nat.le_trans (dep_mem (i := i) e) (Nat.le_max_right ..)

/-- the class of a datum's value -/
def tyD : D → String
  | .non => "NoneType" | .bl _ => "bool" | .int _ => "int" | .str _ => "str" | .lst _ => "list" | .tup _ => "tuple"
theorem tyL {K : PySem.W.Frag} {H : Hp} {a : Addr} {xs : List V} (h : SqL K H a xs) : TyX K H (.ref a) (.type "list") := by
  rcases h with (h | ⟨o, h⟩) | ⟨o, its, n, h, c, _⟩
  · exact .base (.lst h)
  · exact .base (.frz h)
  · exact .kList h c
theorem tyT {K : PySem.W.Frag} {H : Hp} {a : Addr} {xs : List V} (h : SqT K H a xs) : TyX K H (.ref a) (.type "tuple") := by
  rcases h with (h | ⟨o, h⟩) | ⟨o, its, n, h, c, _⟩
  · exact .base (.tup h)
  · exact .fTuple h
  · exact .kTuple h c
theorem tyX {K : PySem.W.Frag} {H : Hp} : ∀ {v : V} (d : D), Rp K H v d → TyX K H v (.type (tyD d))
  | _, .non, h => by rw [show _ = V.non from h]; exact .base .non
  | _, .bl _, h => by rw [show _ = V.bl _ from h]; exact .base (.bl _)
  | _, .int _, h => by rw [show _ = V.int _ from h]; exact .base (.int _)
  | _, .str _, h => by rw [show _ = V.str _ from h]; exact .base (.str _)
  | _, .lst ds, h => by obtain ⟨a, xs, rfl, h2, _⟩ := h; exact tyL h2
  | _, .tup ds, h => by obtain ⟨a, xs, rfl, h2, _⟩ := h; exact tyT h2

/-! ### a def that others call -/
structure Df (P : Program) (w : World) (K : PySem.W.Frag) (mg : Str → Option Value) (base : Heap) (k : Nat) (x : Str) (ps : List Str) (sp : Sp) : Prop where
  ex : ∃ (f : Addr) (fd : FuncData), FnOk P w K mg base CX0 k f fd ps sp ∧ Binds K fd ps [] ∧ mg x = some (.ref f) ∧ PySem.W.keepIn K (.ref f) = true
theorem fn_false {P : Program} {w : World} {K : PySem.W.Frag} {mg : Str → Option Value} {base : Heap} {CX : CXT} {k : Nat} {f : Addr} {fd : FuncData} {ps : List Str} : FnOk P w K mg base CX k f fd ps (fun _ _ _ _ => False) :=
  ⟨fun _ _ _ _ h => h.elim, fun _ _ _ _ _ _ _ _ _ _ _ _ _ h => h.elim⟩
theorem pe_callD {X : Cx} {j k : Nat} {x : Str} {ps : List Str} {sp : Sp} {p pos : Pos} {e : Expr} {es : List Expr} {t : TA} (F : Df X.prog X.w X.K X.mg X.base k x ps sp) (hr : Room j X.A) (hk : k ≤ j) (ha : PA X (e :: es) t)
    (hg : Gl X x := by rfl) (hdb : (x == ("__debug__" : Str)) = false := by decide)
    (he : starEach (e :: es) X.env = (false, eval e X.env) :: starEach es X.env := by rfl) (hpl : (backTo pos (starEach es X.env)).any (·.1) = false := by rfl) :
    PE X (.Call (.Name x p) (e :: es) [] pos) (tCall sp [] E0 t) := by
  obtain ⟨f, fd, G, b, m, kp⟩ := F.ex
  exact pe_call G (hr.mono hk) hg m kp b .nil pass0 ha hdb he hpl
/-- zip of two tuples -/
theorem walk_zipT {K : PySem.W.Frag} {a b : Addr} {xs ys : List V} {n : Nat} (hn : n = min xs.length ys.length) : Walk (RZ.ItzT K a b) n (fun H => SqT K H a xs ∧ SqT K H b ys) (YPair (fun i => xs[i]?) (fun i => ys[i]?)) := by
  subst hn
  refine ⟨fun i _ hi q => ?_, fun _ q => ⟨xs, ys, q.1, q.2, by omega⟩, fun i H v H' _ q y => ?_⟩
  · have h1 : i < xs.length := by omega
    have h2 : i < ys.length := by omega
    exact ⟨xs, ys, xs[i], ys[i], q.1, q.2, by simp [h1], by simp [h2]⟩
  · obtain ⟨T, x, z, h1, h2, h3, h4, h5⟩ := y
    exact ⟨T, x, z, h1, h2, h3, h4 xs q.1, h5 ys q.2⟩

/-- one datum, told twice: the law's own comparison gives True -/
def spSame (K : PySem.W.Frag) (n : Nat) : Sp := fun vs H Q _ => ∃ (v u : V) (d : D), vs = [v, u] ∧ Rp K H v d ∧ Rp K H u d ∧ dep d ≤ n ∧ ∀ H', Same H H' → Q (.bl true) H'
def spSameL (K : PySem.W.Frag) : Nat → Sp
  | 0 => fun _ _ _ _ => False
  | n + 1 => spSame K n
def spOf (K : PySem.W.Frag) : Sp := fun vs H Q _ => ∃ (b a : Addr) (xs : List V), vs = [.ref b, .ref a] ∧ Bag H b ∧ SqL K H a xs ∧ a ≠ b ∧ 0 < xs.length ∧ xs.length < 1000000 ∧
  ∀ (v : V) (H' : Hp), v ∈ xs → Bag H' b → Kp b H H' → Q v H'
def spRoot : Sp := fun vs H Q _ => ∃ (b : Addr), vs = [.ref b] ∧ Bag H b ∧ ∀ (d : Int) (H' : Hp), d = 2 ∨ d = 3 ∨ d = 5 ∨ d = 6 ∨ d = 13 → Bag H' b → Kp b H H' → Q (.int d) H'
def spFar : Sp := fun vs H Q _ => ∃ (b : Addr) (k : Int), vs = [.ref b, .int k] ∧ Bag H b ∧ 0 < k ∧ k ≤ 1000 ∧ ∀ (n : Int) (H' : Hp), 0 ≤ n → n < 10 ^ k.toNat → Bag H' b → Kp b H H' → Q (.int n) H'
theorem Kp.seq {K : PySem.W.Frag} {b a : Addr} {H H' : Hp} {xs : List V} (k : Kp b H H') (n : a ≠ b) (h : SqL K H a xs) : SqL K H' a xs := by
  rcases h with (h | ⟨o, h⟩) | h
  · exact .inl (.inl (k _ _ n h))
  · exact .inl (.inr ⟨o, k _ _ n h⟩)
  · exact .inr h

theorem iteP {c A B : Prop} [Decidable c] (hc : c) (h : A) : if c then A else B := by
  rw [if_pos hc]
  exact h
theorem iteN {c A B : Prop} [Decidable c] (hc : ¬ c) (h : B) : if c then A else B := by
  rw [if_neg hc]
  exact h
theorem nd_of {p : Prop} [Decidable p] (h : ¬ p) : ¬ decide p = true := fun z => h (of_decide_eq_true z)
theorem eqT {x : V} {Q : VK} {H : Hp} (h : Q (.bl true) H) : Q (.bl (decide (x = x))) H := by
  rw [decide_eq_true rfl]
  exact h
def isBool : D → Bool
  | .bl _ => true
  | _ => false
theorem kb_NoneType_bool : kitB "NoneType" "bool" = some false := by decide +kernel
theorem kb_bool_bool : kitB "bool" "bool" = some true := by decide +kernel
theorem kb_int_bool : kitB "int" "bool" = some false := by decide +kernel
theorem kb_str_bool : kitB "str" "bool" = some false := by decide +kernel
theorem kb_list_bool : kitB "list" "bool" = some false := by decide +kernel
theorem kb_tuple_bool : kitB "tuple" "bool" = some false := by decide +kernel
theorem kit_bool : ∀ d : D, kitB (tyD d) "bool" = some (isBool d)
  | .non => kb_NoneType_bool
  | .bl _ => kb_bool_bool
  | .int _ => kb_int_bool
  | .str _ => kb_str_bool
  | .lst _ => kb_list_bool
  | .tup _ => kb_tuple_bool
def isInt : D → Bool
  | .bl _ => true
  | .int _ => true
  | _ => false
theorem kb_NoneType_int : kitB "NoneType" "int" = some false := by decide +kernel
theorem kb_bool_int : kitB "bool" "int" = some true := by decide +kernel
theorem kb_int_int : kitB "int" "int" = some true := by decide +kernel
theorem kb_str_int : kitB "str" "int" = some false := by decide +kernel
theorem kb_list_int : kitB "list" "int" = some false := by decide +kernel
theorem kb_tuple_int : kitB "tuple" "int" = some false := by decide +kernel
theorem kit_int : ∀ d : D, kitB (tyD d) "int" = some (isInt d)
  | .non => kb_NoneType_int
  | .bl _ => kb_bool_int
  | .int _ => kb_int_int
  | .str _ => kb_str_int
  | .lst _ => kb_list_int
  | .tup _ => kb_tuple_int
def isStr : D → Bool
  | .str _ => true
  | _ => false
theorem kb_NoneType_str : kitB "NoneType" "str" = some false := by decide +kernel
theorem kb_bool_str : kitB "bool" "str" = some false := by decide +kernel
theorem kb_int_str : kitB "int" "str" = some false := by decide +kernel
theorem kb_str_str : kitB "str" "str" = some true := by decide +kernel
theorem kb_list_str : kitB "list" "str" = some false := by decide +kernel
theorem kb_tuple_str : kitB "tuple" "str" = some false := by decide +kernel
theorem kit_str : ∀ d : D, kitB (tyD d) "str" = some (isStr d)
  | .non => kb_NoneType_str
  | .bl _ => kb_bool_str
  | .int _ => kb_int_str
  | .str _ => kb_str_str
  | .lst _ => kb_list_str
  | .tup _ => kb_tuple_str
def isLst : D → Bool
  | .lst _ => true
  | _ => false
theorem kb_NoneType_list : kitB "NoneType" "list" = some false := by decide +kernel
theorem kb_bool_list : kitB "bool" "list" = some false := by decide +kernel
theorem kb_int_list : kitB "int" "list" = some false := by decide +kernel
theorem kb_str_list : kitB "str" "list" = some false := by decide +kernel
theorem kb_list_list : kitB "list" "list" = some true := by decide +kernel
theorem kb_tuple_list : kitB "tuple" "list" = some false := by decide +kernel
theorem kit_list : ∀ d : D, kitB (tyD d) "list" = some (isLst d)
  | .non => kb_NoneType_list
  | .bl _ => kb_bool_list
  | .int _ => kb_int_list
  | .str _ => kb_str_list
  | .lst _ => kb_list_list
  | .tup _ => kb_tuple_list
def isTup : D → Bool
  | .tup _ => true
  | _ => false
theorem kb_NoneType_tuple : kitB "NoneType" "tuple" = some false := by decide +kernel
theorem kb_bool_tuple : kitB "bool" "tuple" = some false := by decide +kernel
theorem kb_int_tuple : kitB "int" "tuple" = some false := by decide +kernel
theorem kb_str_tuple : kitB "str" "tuple" = some false := by decide +kernel
theorem kb_list_tuple : kitB "list" "tuple" = some false := by decide +kernel
theorem kb_tuple_tuple : kitB "tuple" "tuple" = some true := by decide +kernel
theorem kit_tuple : ∀ d : D, kitB (tyD d) "tuple" = some (isTup d)
  | .non => kb_NoneType_tuple
  | .bl _ => kb_bool_tuple
  | .int _ => kb_int_tuple
  | .str _ => kb_str_tuple
  | .lst _ => kb_list_tuple
  | .tup _ => kb_tuple_tuple
theorem kit_lt {K : PySem.W.Frag} (d : D) : PySem.W.kitAny K (.type (tyD d)) [.type "list", .type "tuple"] = some (isLst d || isTup d) := by
  refine kitAny_cons (kit_ty (kit_list d)) (fun e => ?_) (fun e => by rw [e]; rfl)
  rw [e, Bool.false_or]
  exact kitAny_cons (kit_ty (kit_tuple d)) (fun e => by rw [e]; rfl) (fun e => e)
structure TSm (mg : Str → Option Value) : Prop where
  isinstance : mg "isinstance" = none
  bool : mg "bool" = none
  int : mg "int" = none
  str : mg "str" = none
  list : mg "list" = none
  tuple : mg "tuple" = none
  len : mg "len" = none
  all : mg "all" = none
  zip : mg "zip" = none
theorem yes_if {σ : St} {H : Hp} {A B : Hp → Prop} (h : A H) : tYes σ H (fun b H3 => if b = true then A H3 else B H3) := by
  show (if true = true then A H else B H)
  rw [if_pos rfl]
  exact h
end RF

namespace RF
open PySem L2
/-! ### the bag at b with its cells at c, which stay there -/
def BagAt (H : Hp) (b c : Addr) : Prop := ∃ (ns : List Int) (i : Nat) (z r : Int), BagC H b c ns i z r
theorem Bag.here {H : Hp} {b : Addr} (B : Bag H b) : ∃ c, BagAt H b c := let ⟨c, ns, i, z, r, h⟩ := B; ⟨c, ns, i, z, r, h⟩
theorem BagAt.bag {H : Hp} {b c : Addr} (B : BagAt H b c) : Bag H b := let ⟨ns, i, z, r, h⟩ := B; ⟨c, ns, i, z, r, h⟩
theorem BagAt.atB {H : Hp} {b c : Addr} (B : BagAt H b c) : ∃ xs, H b = some (.lst xs) := B.bag.some
theorem BagAt.atC {H : Hp} {b c : Addr} (B : BagAt H b c) : ∃ xs, H c = some (.lst xs) := let ⟨_, _, _, _, h⟩ := B; ⟨_, h.cs⟩
theorem BagAt.same {H H' : Hp} {b c : Addr} (B : BagAt H b c) (s : Same H H') : BagAt H' b c := by
  obtain ⟨ns, i, z, r, h⟩ := B
  exact ⟨ns, i, z, r, h.ne, s _ _ h.at_, s _ _ h.cs, h.le, h.z0, h.r0, h.r1⟩
theorem BagAt.off {H : Hp} {b c p : Addr} (B : BagAt H b c) (h : H p = none) : p ≠ b ∧ p ≠ c := by
  obtain ⟨xs, hb⟩ := B.atB
  obtain ⟨ys, hc⟩ := B.atC
  exact ⟨(ne_of_none hb h).symm, (ne_of_none hc h).symm⟩
theorem BagAt.put {H : Hp} {b c p : Addr} {o : HO} (B : BagAt H b c) (h : p ≠ b ∧ p ≠ c) : BagAt (upd H p o) b c := by
  obtain ⟨ns, i, z, r, B⟩ := B
  exact ⟨ns, i, z, r, B.ne, by rw [upd_ne h.1.symm]; exact B.at_, by rw [upd_ne h.2.symm]; exact B.cs, B.le, B.z0, B.r0, B.r1⟩
theorem Kp.up {b p : Addr} {H H' : Hp} {o : HO} (k : Kp b H H') (h : H p = none) : Kp b H (L2.upd H' p o) := fun a u n e => by
  rw [upd_ne (ne_of_none e h)]
  exact k a u n e
theorem Kp.new {b p : Addr} {H H' : Hp} {o : HO} (k : Kp b H H') (h : H' p = none) : Kp b H (L2.upd H' p o) := k.trans (Kp.of (sNew (Same.refl _) h))
def spPullC : Sp := fun vs H Q _ => ∃ (b c : Addr) (k : Int), vs = [.ref b, .int k] ∧ BagAt H b c ∧ 0 < k ∧ k < 1073741824 ∧
  ∀ (d : Int) (H' : Hp), 0 ≤ d → d < k → BagAt H' b c → Kp b H H' → Q (.int d) H'
def spOfC (K : PySem.W.Frag) : Sp := fun vs H Q _ => ∃ (b c a : Addr) (xs : List V), vs = [.ref b, .ref a] ∧ BagAt H b c ∧ SqL K H a xs ∧ a ≠ b ∧ 0 < xs.length ∧ xs.length < 1000000 ∧
  ∀ (v : V) (H' : Hp), v ∈ xs → BagAt H' b c → Kp b H H' → Q v H'
def spRootC : Sp := fun vs H Q _ => ∃ (b c : Addr), vs = [.ref b] ∧ BagAt H b c ∧ ∀ (d : Int) (H' : Hp), d = 2 ∨ d = 3 ∨ d = 5 ∨ d = 6 ∨ d = 13 → BagAt H' b c → Kp b H H' → Q (.int d) H'
def spFarC : Sp := fun vs H Q _ => ∃ (b c : Addr) (k : Int), vs = [.ref b, .int k] ∧ BagAt H b c ∧ 0 < k ∧ k ≤ 1000 ∧ ∀ (n : Int) (H' : Hp), 0 ≤ n → n < 10 ^ k.toNat → BagAt H' b c → Kp b H H' → Q (.int n) H'
end RF

set_option autoImplicit false
/-! Q0: data, hidden heaps, states of slots -/
namespace Q
open PySem L2
open RF (Kp BagAt)

inductive D where
  | non | bl (b : Bool) | int (i : Int) | str (x : Str) | lst (ds : List D) | tup (ds : List D)
  | raw (v : V) | bag
  | obj (c : Str) (ns : List Str) (ds : List D)
  | dic (ks : List Key) (ds : List D)
/-- where data are read: the written part, the module's names, the bag and its cells -/
structure Bk where
  K : PySem.W.Frag
  mg : Str → Option Value
  bag : Addr
  cel : Addr
mutual
def Rp (B : Bk) (H : Hp) : V → D → Prop
  | v, .non => v = .non
  | v, .bl b => v = .bl b
  | v, .int i => v = .int i
  | v, .str x => v = .str x
  | v, .lst ds => ∃ a xs, v = .ref a ∧ H a = some (.lst xs) ∧ xs.length ≤ 1000000 ∧ Rps B H xs ds
  | v, .tup ds => ∃ a xs, v = .ref a ∧ SqT B.K H a xs ∧ xs.length ≤ 1000000 ∧ Rps B H xs ds
  | v, .raw u => v = u
  | v, .bag => v = .ref B.bag
  | v, .obj c ns ds => ∃ a C dx fs, v = .ref a ∧ B.mg c = some (.ref C) ∧ H a = some (.ins C dx fs) ∧ fs.map (·.1) = ns ∧ Rps B H (fs.map (·.2)) ds
  | v, .dic ks ds => ∃ a kvs, v = .ref a ∧ H a = some (.dK kvs) ∧ kvs.length ≤ 1000000 ∧ kvs.map (·.1) = ks ∧ Rps B H (kvs.map (·.2)) ds
def Rps (B : Bk) (H : Hp) : List V → List D → Prop
  | xs, [] => xs = []
  | xs, d :: ds => ∃ x r, xs = x :: r ∧ Rp B H x d ∧ Rps B H r ds
end
theorem sameT {K : PySem.W.Frag} {H H' : Hp} {a : Addr} {xs : List V} (e : Same H H') (h : SqT K H a xs) : SqT K H' a xs := by
  rcases h with (h | ⟨o, h⟩) | h
  · exact .inl (.inl (e _ _ h))
  · exact .inl (.inr ⟨o, e _ _ h⟩)
  · exact .inr h
mutual
theorem Rp.same {B : Bk} {H H' : Hp} (e : Same H H') : ∀ {v : V} (d : D), Rp B H v d → Rp B H' v d
  | _, .non, h => h
  | _, .bl _, h => h
  | _, .int _, h => h
  | _, .str _, h => h
  | _, .raw _, h => h
  | _, .bag, h => h
  | _, .lst ds, h => by
    obtain ⟨a, xs, h1, h2, h3, h4⟩ := h
    exact ⟨a, xs, h1, e _ _ h2, h3, Rps.same e ds h4⟩
  | _, .tup ds, h => by
    obtain ⟨a, xs, h1, h2, h3, h4⟩ := h
    exact ⟨a, xs, h1, sameT e h2, h3, Rps.same e ds h4⟩
  | _, .obj c ns ds, h => by
    obtain ⟨a, C, dx, fs, h1, h2, h3, h4, h5⟩ := h
    exact ⟨a, C, dx, fs, h1, h2, e _ _ h3, h4, Rps.same e ds h5⟩
  | _, .dic ks ds, h => by
    obtain ⟨a, kvs, h1, h2, h3, h4, h5⟩ := h
    exact ⟨a, kvs, h1, e _ _ h2, h3, h4, Rps.same e ds h5⟩
theorem Rps.same {B : Bk} {H H' : Hp} (e : Same H H') : ∀ {xs : List V} (ds : List D), Rps B H xs ds → Rps B H' xs ds
  | _, [], h => h
  | _, d :: ds, h => by
    obtain ⟨x, r, h1, h2, h3⟩ := h
    exact ⟨x, r, h1, Rp.same e d h2, Rps.same e ds h3⟩
end
section
variable {B : Bk} {H : Hp}
theorem Rps.nil : Rps B H [] [] := rfl
theorem Rps.cons {x : V} {xs : List V} {d : D} {ds : List D} (h : Rp B H x d) (g : Rps B H xs ds) : Rps B H (x :: xs) (d :: ds) := ⟨x, xs, rfl, h, g⟩
theorem Rps.len : ∀ {xs : List V} {ds : List D}, Rps B H xs ds → xs.length = ds.length
  | _, [], h => by rw [show _ = [] from h]; rfl
  | _, d :: ds, h => by
    obtain ⟨x, r, rfl, _, h3⟩ := h
    rw [List.length_cons, List.length_cons, Rps.len h3]
theorem Rps.at_ : ∀ {xs : List V} {ds : List D} {i : Nat} {x : V}, Rps B H xs ds → xs[i]? = some x → ∃ d, ds[i]? = some d ∧ Rp B H x d
  | _, [], i, x, h, e => by rw [show _ = [] from h] at e; simp at e
  | _, d :: ds, 0, x, h, e => by
    obtain ⟨y, r, rfl, h2, _⟩ := h
    cases e
    exact ⟨d, rfl, h2⟩
  | _, d :: ds, i + 1, x, h, e => by
    obtain ⟨y, r, rfl, _, h3⟩ := h
    obtain ⟨d', e1, e2⟩ := Rps.at_ (i := i) h3 e
    exact ⟨d', e1, e2⟩
theorem Rps.of : ∀ {xs : List V} {ds : List D} {i : Nat} {d : D}, Rps B H xs ds → ds[i]? = some d → ∃ x, xs[i]? = some x ∧ Rp B H x d
  | xs, [], i, d, h, e => by simp at e
  | xs, c :: ds, 0, d, h, e => by
    obtain ⟨x, r, rfl, h2, _⟩ := h
    cases e
    exact ⟨x, rfl, h2⟩
  | xs, c :: ds, i + 1, d, h, e => by
    obtain ⟨x, r, rfl, _, h3⟩ := h
    obtain ⟨y, e1, e2⟩ := Rps.of (i := i) h3 e
    exact ⟨y, e1, e2⟩
theorem Rps.app : ∀ {xs ys : List V} {ds es : List D}, Rps B H xs ds → Rps B H ys es → Rps B H (xs ++ ys) (ds ++ es)
  | xs, ys, [], es, h, g => by rw [show xs = [] from h]; exact g
  | xs, ys, d :: ds, es, h, g => by
    obtain ⟨x, r, rfl, h2, h3⟩ := h
    exact ⟨x, r ++ ys, rfl, h2, Rps.app h3 g⟩
theorem Rps.take : ∀ {xs : List V} {ds : List D} (n : Nat), Rps B H xs ds → Rps B H (xs.take n) (ds.take n)
  | xs, ds, 0, h => by rw [List.take_zero, List.take_zero]; rfl
  | xs, [], n + 1, h => by rw [show xs = [] from h]; rfl
  | xs, d :: ds, n + 1, h => by
    obtain ⟨x, r, rfl, h2, h3⟩ := h
    exact ⟨x, r.take n, rfl, h2, Rps.take n h3⟩
theorem Rps.drop : ∀ {xs : List V} {ds : List D} (n : Nat), Rps B H xs ds → Rps B H (xs.drop n) (ds.drop n)
  | xs, ds, 0, h => h
  | xs, [], n + 1, h => by rw [show xs = [] from h]; rfl
  | xs, d :: ds, n + 1, h => by
    obtain ⟨x, r, rfl, h2, h3⟩ := h
    exact Rps.drop n h3
theorem Rps.rev : ∀ {xs : List V} {ds : List D}, Rps B H xs ds → Rps B H xs.reverse ds.reverse
  | xs, [], h => by rw [show xs = [] from h]; rfl
  | xs, d :: ds, h => by
    obtain ⟨x, r, rfl, h2, h3⟩ := h
    rw [List.reverse_cons, List.reverse_cons]
    exact (Rps.rev h3).app (Rps.cons h2 Rps.nil)
theorem Rps.set {x : V} {d : D} (hx : Rp B H x d) : ∀ {xs : List V} {ds : List D} (n : Nat), Rps B H xs ds → Rps B H (xs.set n x) (ds.set n d)
  | xs, [], n, h => by rw [show xs = [] from h]; rfl
  | xs, c :: ds, 0, h => by
    obtain ⟨y, r, rfl, h2, h3⟩ := h
    exact ⟨x, r, rfl, hx, h3⟩
  | xs, c :: ds, n + 1, h => by
    obtain ⟨y, r, rfl, h2, h3⟩ := h
    exact ⟨y, r.set n x, rfl, h2, Rps.set hx n h3⟩
theorem Rps.snoc {xs : List V} {ds : List D} {x : V} {d : D} (h : Rps B H xs ds) (g : Rp B H x d) : Rps B H (xs ++ [x]) (ds ++ [d]) := h.app (.cons g .nil)
theorem Rps.rep {xs : List V} {ds : List D} (h : Rps B H xs ds) : ∀ k : Nat, Rps B H (List.replicate k xs).flatten (List.replicate k ds).flatten
  | 0 => rfl
  | k + 1 => by
    rw [List.replicate_succ, List.replicate_succ, List.flatten_cons, List.flatten_cons]
    exact h.app (Rps.rep h k)
theorem Rps.dropLast {xs : List V} {ds : List D} (h : Rps B H xs ds) : Rps B H xs.dropLast ds.dropLast := by
  rw [List.dropLast_eq_take, List.dropLast_eq_take, h.len]
  exact h.take _
end
/-- the part of a list that a slice tells -/
def cutD (ds : List D) (lo hi : Option Int) : List D := (ds.drop (HT.sIx ds.length 0 lo)).take (HT.sIx ds.length ds.length hi - HT.sIx ds.length 0 lo)
theorem Rps.cut {B : Bk} {H : Hp} {xs : List V} {ds : List D} (h : Rps B H xs ds) (lo hi : Option Int) : Rps B H (cutV xs lo hi) (cutD ds lo hi) := by
  unfold cutV cutD
  rw [h.len]
  exact Rps.take _ (Rps.drop _ h)

/-! ### hidden addresses -/
def hid (S : List Addr) (H : Hp) : Hp := fun a => if a ∈ S then none else H a
theorem hid_ne {S : List Addr} {a : Addr} {H : Hp} (h : a ∉ S) : hid S H a = H a := if_neg h
theorem hid_in {S : List Addr} {a : Addr} {H : Hp} (h : a ∈ S) : hid S H a = none := if_pos h
theorem hid_same {S : List Addr} {H : Hp} : Same (hid S H) H := fun a o e => by
  unfold hid at e
  split at e
  · cases e
  · exact e
theorem hid_some {S : List Addr} {H : Hp} {a : Addr} {o : HO} (e : hid S H a = some o) : a ∉ S ∧ H a = some o := by
  unfold hid at e
  split at e
  · cases e
  · rename_i h
    exact ⟨h, e⟩
theorem hid_to {S S' : List Addr} {H H' : Hp} (h : ∀ a o, a ∉ S → H a = some o → a ∉ S' ∧ H' a = some o) : Same (hid S H) (hid S' H') := fun a o e => by
  obtain ⟨h1, h2⟩ := hid_some e
  obtain ⟨h3, h4⟩ := h a o h1 h2
  rw [hid_ne h3]
  exact h4
theorem hid_le {S S' : List Addr} {H : Hp} (h : ∀ s ∈ S', s ∈ S) : Same (hid S H) (hid S' H) := hid_to fun a o n e => ⟨fun m => n (h a m), e⟩
theorem hid_mono {S : List Addr} {H H' : Hp} (s : Same H H') : Same (hid S H) (hid S H') := hid_to fun a o n e => ⟨n, s a o e⟩
theorem hid_upd {S : List Addr} {p : Addr} {H : Hp} {o : HO} (hp : p ∈ S) : hid S (upd H p o) = hid S H := by
  funext a
  unfold hid
  split
  · rfl
  · rename_i h
    exact upd_ne fun z => h (z ▸ hp)
/-- a new address: hidden or not, what is told stays -/
theorem hid_new {S : List Addr} {p : Addr} {H : Hp} {o : HO} (hp : H p = none) : Same (hid S H) (hid S (upd H p o)) := hid_to fun a u n e => ⟨n, by rw [upd_ne (ne_of_none e hp)]; exact e⟩
theorem hid_newS {S : List Addr} {p : Addr} {H : Hp} {o : HO} (hp : H p = none) : Same (hid S H) (hid (p :: S) (upd H p o)) := hid_to fun a u n e =>
  ⟨fun m => (List.mem_cons.mp m).elim (ne_of_none e hp) n, by rw [upd_ne (ne_of_none e hp)]; exact e⟩

/-! ### slots -/
/-- what is known of a slot: data that nobody changes, or a list of one's own -/
inductive Sl where
  | fz (d : D)
  | ol (ds : List D)
def Sl.toD : Sl → D
  | .fz d => d
  | .ol ds => .lst ds
def Sl.own : Sl → Bool
  | .fz _ => false
  | .ol _ => true
/-- an exception: its class, the names and values of its attributes -/
structure Exc where
  c : Str
  ns : List Str
  ds : List D
structure Cxt where
  B : Bk
  /-- the bag may be drawn from -/
  ub : Bool
  /-- hidden from the start on -/
  Oc : List Addr
  H0 : Hp
  xe : Exc → Prop
abbrev Ev := List (Option Sl)
def SlOk (C : Cxt) (S : List Addr) (H : Hp) (v : V) : Sl → Prop
  | .fz d => Rp C.B (hid S H) v d
  | .ol ds => ∃ a xs, v = .ref a ∧ a ∈ S ∧ C.H0 a = none ∧ H a = some (.lst xs) ∧ xs.length ≤ 1000000 ∧ Rps C.B (hid S H) xs ds
/-- what a piece of code may change -/
structure Chg (ub : Bool) (B : Bk) (H H' : Hp) : Prop where
  keep : ∀ a o, (ub = true → a ≠ B.bag) → H a = some o → H' a = some o
  bag : ub = true → BagAt H' B.bag B.cel
theorem Chg.same {B : Bk} {H H' : Hp} (s : Same H H') : Chg false B H H' := ⟨fun a o _ e => s a o e, fun z => by cases z⟩
theorem Chg.pure {B : Bk} {H H' : Hp} (c : Chg false B H H') : Same H H' := fun a o e => c.keep a o (fun z => by cases z) e
theorem Chg.there {ub : Bool} {B : Bk} {H H' : Hp} (c : Chg ub B H H') {a : Addr} (h : H a ≠ none) : H' a ≠ none := fun z => by
  by_cases u : ub = true ∧ a = B.bag
  · obtain ⟨xs, e⟩ := (c.bag u.1).atB
    rw [u.2, e] at z
    cases z
  · cases e : H a with
    | none => exact h e
    | some o =>
      rw [c.keep a o (fun hu q => u ⟨hu, q⟩) e] at z
      cases z
structure Sta (C : Cxt) (ρ : Ev) (σ : St) (H : Hp) (S : List Addr) : Prop where
  wd : Chg C.ub C.B C.H0 H
  sub : ∀ a ∈ C.Oc, a ∈ S
  own : ∀ a ∈ S, a ∈ C.Oc ∨ C.H0 a = none
  al : ∀ a ∈ S, H a ≠ none
  al0 : ∀ a ∈ C.Oc, C.H0 a ≠ none
  bagO : C.ub = true → C.B.bag ∈ C.Oc ∧ C.B.cel ∈ C.Oc
  len : ρ.length = σ.length
  sl : ∀ (i : Nat) (s : Sl), ρ[i]? = some (some s) → ∃ v, σ[i]? = some (some v) ∧ SlOk C S H v s
  ap : ∀ (i j : Nat) (s t : Sl) (v : V), ρ[i]? = some (some s) → ρ[j]? = some (some t) → s.own = true → t.own = true → σ[i]? = some (some v) → σ[j]? = some (some v) → i = j
theorem SlOk.to {C : Cxt} {S S' : List Addr} {H H' : Hp} {v : V} {s : Sl} (h : SlOk C S H v s) (k : Same (hid S H) (hid S' H')) (l : ∀ a, v = .ref a → s.own = true → a ∈ S → C.H0 a = none → ∀ xs, H a = some (.lst xs) → a ∈ S' ∧ H' a = some (.lst xs)) : SlOk C S' H' v s := by
  cases s with
  | fz d => exact Rp.same k d h
  | ol ds =>
    obtain ⟨a, xs, h1, h2, h3, h4, h5, h6⟩ := h
    obtain ⟨m, e⟩ := l a h1 rfl h2 h3 xs h4
    exact ⟨a, xs, h1, m, h3, e, h5, Rps.same k ds h6⟩
section
variable {C : Cxt} {ρ : Ev} {σ : St} {H H' : Hp} {S S' : List Addr} {s : Sl} {v : V}
theorem Sta.off (st : Sta C ρ σ H S) {a : Addr} (h : C.H0 a = none) : a ∉ C.Oc := fun m => st.al0 a m h
theorem Sta.nbag (st : Sta C ρ σ H S) {a : Addr} (h : C.H0 a = none) : C.ub = true → a ≠ C.B.bag := fun u e => st.off h (e ▸ (st.bagO u).1)
/-- the heap, the hidden addresses change; the slots' facts are carried over -/
theorem Sta.to (st : Sta C ρ σ H S) (c : Chg C.ub C.B C.H0 H') (sub : ∀ a ∈ C.Oc, a ∈ S') (own : ∀ a ∈ S', a ∈ C.Oc ∨ C.H0 a = none) (al : ∀ a ∈ S', H' a ≠ none) (k : Same (hid S H) (hid S' H'))
    (l : ∀ (i : Nat) (ds : List D) (a : Addr), ρ[i]? = some (some (.ol ds)) → σ[i]? = some (some (.ref a)) → a ∈ S → C.H0 a = none → ∀ xs, H a = some (.lst xs) → a ∈ S' ∧ H' a = some (.lst xs)) : Sta C ρ σ H' S' :=
  ⟨c, sub, own, al, st.al0, st.bagO, st.len, fun i s e => by
    obtain ⟨v, h1, h2⟩ := st.sl i s e
    refine ⟨v, h1, h2.to k fun a ea eo => ?_⟩
    subst ea
    cases s with
    | fz d => cases eo
    | ol ds => exact l i ds a e h1, st.ap⟩
/-- code that keeps to its promise has run -/
theorem Sta.chg {ub : Bool} (st : Sta C ρ σ H S) (hu : ub = true → C.ub = true) (c : Chg ub C.B H H') : Sta C ρ σ H' S := by
  have kp : ∀ a o, (C.ub = true → a ≠ C.B.bag) → H a = some o → H' a = some o := fun a o n e => c.keep a o (fun u => n (hu u)) e
  have bg : C.ub = true → BagAt H' C.B.bag C.B.cel := fun u => by
    cases ub with
    | true => exact c.bag rfl
    | false => exact (st.wd.bag u).same c.pure
  refine st.to ⟨fun a o n e => kp a o n (st.wd.keep a o n e), bg⟩ st.sub st.own (fun a m => c.there (st.al a m)) (hid_to fun a o n e => ⟨n, kp a o (fun u z => n (z ▸ st.sub _ (st.bagO u).1)) e⟩) fun i ds a e h m h0 xs hx => ⟨m, kp a _ (st.nbag h0) hx⟩
theorem Sta.same (st : Sta C ρ σ H S) (s : Same H H') : Sta C ρ σ H' S := st.chg (ub := false) (fun z => by cases z) (Chg.same s)
/-- a new object that stands open -/
theorem Sta.new (st : Sta C ρ σ H S) {p : Addr} {o : HO} (hp : H p = none) : Sta C ρ σ (upd H p o) S := st.same fun a u e => by rw [upd_ne (ne_of_none e hp)]; exact e
theorem Sta.fresh (st : Sta C ρ σ H S) {p : Addr} (hp : H p = none) : C.H0 p = none := by
  cases e : C.H0 p with
  | none => rfl
  | some o =>
    by_cases u : C.ub = true ∧ p = C.B.bag
    · obtain ⟨xs, q⟩ := (st.wd.bag u.1).atB
      rw [u.2, q] at hp
      cases hp
    · rw [st.wd.keep p o (fun hu q => u ⟨hu, q⟩) e] at hp
      cases hp
theorem Sta.notS (st : Sta C ρ σ H S) {p : Addr} (hp : H p = none) : p ∉ S := fun m => st.al p m hp
/-- a new object that is hidden -/
theorem Sta.newS (st : Sta C ρ σ H S) {p : Addr} {o : HO} (hp : H p = none) : Sta C ρ σ (upd H p o) (p :: S) := by
  have st' := st.new (o := o) hp
  refine st.to st'.wd (fun a m => List.mem_cons_of_mem _ (st.sub a m)) (fun a m => ?_) (fun a m => ?_) (hid_newS hp) fun i ds a e h m h0 xs hx => ⟨List.mem_cons_of_mem _ m, by rw [upd_ne (ne_of_none hx hp)]; exact hx⟩
  · rcases List.mem_cons.mp m with rfl | m
    · exact .inr (st.fresh hp)
    · exact st.own a m
  · rcases List.mem_cons.mp m with rfl | m
    · rw [upd_same]; exact fun z => nomatch z
    · exact st'.al a m
theorem Sta.get (st : Sta C ρ σ H S) {i : Nat} (e : ρ[i]? = some (some s)) : ∃ v, σ[i]? = some (some v) ∧ SlOk C S H v s := st.sl i s e
theorem Sta.push (st : Sta C ρ σ H S) (ok : SlOk C S H v s) (n : s.own = true → ∀ (i : Nat) (t : Sl), ρ[i]? = some (some t) → t.own = true → σ[i]? ≠ some (some v)) : Sta C (ρ ++ [some s]) (σ ++ [some v]) H S := by
  have hl := st.len
  refine ⟨st.wd, st.sub, st.own, st.al, st.al0, st.bagO, by simp [hl], fun i t e => ?_, fun i j t u x e1 e2 o1 o2 q1 q2 => ?_⟩
  · by_cases hi : i < ρ.length
    · rw [List.getElem?_append_left hi] at e
      obtain ⟨w, q, k⟩ := st.sl i t e
      exact ⟨w, by rw [List.getElem?_append_left (hl ▸ hi)]; exact q, k⟩
    · have : i = ρ.length := by
        have := (List.getElem?_eq_some_iff.mp e).1
        simp at this
        omega
      subst this
      rw [List.getElem?_append_right (Nat.le_refl _), Nat.sub_self] at e
      cases e
      exact ⟨v, by rw [hl, List.getElem?_append_right (Nat.le_refl _), Nat.sub_self]; rfl, ok⟩
  · have lt : ∀ {k : Nat} {z : Sl}, (ρ ++ [some s])[k]? = some (some z) → k < ρ.length ∨ (k = ρ.length ∧ z = s) := fun {k z} e => by
      by_cases hk : k < ρ.length
      · exact .inl hk
      · have : k = ρ.length := by
          have := (List.getElem?_eq_some_iff.mp e).1
          simp at this
          omega
        subst this
        rw [List.getElem?_append_right (Nat.le_refl _), Nat.sub_self] at e
        cases e
        exact .inr ⟨rfl, rfl⟩
    have vl : (σ ++ [some v])[ρ.length]? = some (some v) := by rw [hl, List.getElem?_append_right (Nat.le_refl _), Nat.sub_self]; rfl
    rcases lt e1 with h1 | ⟨h1, rfl⟩
    · rw [List.getElem?_append_left h1] at e1
      rw [List.getElem?_append_left (hl ▸ h1)] at q1
      rcases lt e2 with h2 | ⟨h2, rfl⟩
      · rw [List.getElem?_append_left h2] at e2
        rw [List.getElem?_append_left (hl ▸ h2)] at q2
        exact st.ap i j t u x e1 e2 o1 o2 q1 q2
      · subst h2
        rw [vl] at q2
        cases q2
        exact absurd q1 (n o2 i t e1 o1)
    · subst h1
      rw [vl] at q1
      cases q1
      rcases lt e2 with h2 | ⟨h2, rfl⟩
      · rw [List.getElem?_append_left h2] at e2
        rw [List.getElem?_append_left (hl ▸ h2)] at q2
        exact absurd q2 (n o1 j u e2 o2)
      · exact h2.symm
theorem Sta.pushF (st : Sta C ρ σ H S) {d : D} (ok : Rp C.B (hid S H) v d) : Sta C (ρ ++ [some (.fz d)]) (σ ++ [some v]) H S := st.push (s := .fz d) ok fun z => by cases z
/-- a new list of one's own -/
theorem Sta.pushL (st : Sta C ρ σ H S) {p : Addr} {xs : List V} {ds : List D} (hp : H p = none) (hl : xs.length ≤ 1000000) (h : Rps C.B (hid S H) xs ds) :
    Sta C (ρ ++ [some (.ol ds)]) (σ ++ [some (.ref p)]) (upd H p (.lst xs)) (p :: S) := by
  refine (st.newS hp).push ⟨p, xs, rfl, List.mem_cons_self, st.fresh hp, upd_same, hl, Rps.same (hid_newS hp) ds h⟩ fun _ i t e o q => ?_
  obtain ⟨w, e1, e2⟩ := st.sl i t e
  rw [e1] at q
  cases q
  cases t with
  | fz d => cases o
  | ol es =>
    obtain ⟨a, ys, h1, h2, h3, h4, _⟩ := e2
    cases h1
    rw [hp] at h4
    cases h4
/-- a list that a callee has made -/
theorem Sta.pushR (st : Sta C ρ σ H S) {ub : Bool} (hu : ub = true → C.ub = true) (c : Chg ub C.B H H') {p : Addr} {xs : List V} {ds : List D} (hp : H p = none) (hp' : H' p = some (.lst xs)) (hl : xs.length ≤ 1000000) (h : Rps C.B (hid (p :: S) H') xs ds) :
    Sta C (ρ ++ [some (.ol ds)]) (σ ++ [some (.ref p)]) H' (p :: S) := by
  have st' := st.chg hu c
  have ns := st.notS hp
  refine (st.to (S' := p :: S) st'.wd (fun a m => List.mem_cons_of_mem _ (st.sub a m)) (fun a m => ?_) (fun a m => ?_) (hid_to fun a o n e => ⟨fun m => ?_, ?_⟩) (fun i ds a e h m h0 xs hx => ⟨List.mem_cons_of_mem _ m, ?_⟩)).push ⟨p, xs, rfl, List.mem_cons_self, st.fresh hp, hp', hl, h⟩ fun _ i t e o q => ?_
  · rcases List.mem_cons.mp m with rfl | m
    · exact .inr (st.fresh hp)
    · exact st.own a m
  · rcases List.mem_cons.mp m with rfl | m
    · rw [hp']; exact fun z => nomatch z
    · exact st'.al a m
  · rcases List.mem_cons.mp m with rfl | m
    · rw [hp] at e; cases e
    · exact n m
  · exact c.keep a o (fun u z => n (z ▸ st.sub _ (st.bagO (hu u)).1)) e
  · exact c.keep a _ (fun u => st.nbag h0 (hu u)) hx
  · obtain ⟨w, e1, e2⟩ := st.sl i t e
    rw [e1] at q
    cases q
    cases t with
    | fz d => cases o
    | ol es =>
      obtain ⟨a, ys, h1, h2, h3, h4, _⟩ := e2
      cases h1
      rw [hp] at h4
      cases h4
theorem Sta.drop {ρ' : Ev} {σ' : St} (st : Sta C (ρ ++ ρ') (σ ++ σ') H S) (hl : ρ.length = σ.length) : Sta C ρ σ H S := by
  refine ⟨st.wd, st.sub, st.own, st.al, st.al0, st.bagO, hl, fun i t e => ?_, fun i j t u x e1 e2 o1 o2 q1 q2 => ?_⟩
  · have hi := (List.getElem?_eq_some_iff.mp e).1
    obtain ⟨w, q, k⟩ := st.sl i t (by rw [List.getElem?_append_left hi]; exact e)
    rw [List.getElem?_append_left (hl ▸ hi)] at q
    exact ⟨w, q, k⟩
  · have h1 := (List.getElem?_eq_some_iff.mp e1).1
    have h2 := (List.getElem?_eq_some_iff.mp e2).1
    exact st.ap i j t u x (by rw [List.getElem?_append_left h1]; exact e1) (by rw [List.getElem?_append_left h2]; exact e2) o1 o2 (by rw [List.getElem?_append_left (hl ▸ h1)]; exact q1) (by rw [List.getElem?_append_left (hl ▸ h2)]; exact q2)
theorem Sta.last (st : Sta C (ρ ++ [some s]) (σ ++ [some v]) H S) (hl : ρ.length = σ.length) : SlOk C S H v s := by
  obtain ⟨w, q, k⟩ := st.sl ρ.length s (by rw [List.getElem?_append_right (Nat.le_refl _), Nat.sub_self]; rfl)
  rw [hl, List.getElem?_append_right (Nat.le_refl _), Nat.sub_self] at q
  cases q
  exact k
/-- a slot is forgotten, or what it holds is told otherwise -/
theorem Sta.put (st : Sta C ρ σ H S) (i : Nat) (o : Option Sl) (h : ∀ s : Sl, o = some s → ∃ v, σ[i]? = some (some v) ∧ SlOk C S H v s) (n : ∀ (s : Sl) (v : V), o = some s → s.own = true → σ[i]? = some (some v) → ∀ (j : Nat) (t : Sl), j ≠ i → ρ[j]? = some (some t) → t.own = true → σ[j]? ≠ some (some v)) : Sta C (ρ.set i o) σ H S := by
  refine ⟨st.wd, st.sub, st.own, st.al, st.al0, st.bagO, by rw [List.length_set]; exact st.len, fun j t e => ?_, fun j k t u x e1 e2 o1 o2 q1 q2 => ?_⟩
  · by_cases hj : i = j
    · subst hj
      by_cases hi : i < ρ.length
      · rw [List.getElem?_set_self hi] at e
        cases e
        exact h t rfl
      · rw [List.getElem?_eq_none (by simpa using hi)] at e; cases e
    · rw [List.getElem?_set_ne hj] at e
      exact st.sl j t e
  · by_cases hj : i = j
    · by_cases hk : i = k
      · omega
      · subst hj
        rw [List.getElem?_set_ne hk] at e2
        have hi : i < ρ.length := by have := (List.getElem?_eq_some_iff.mp e1).1; simpa using this
        rw [List.getElem?_set_self hi] at e1
        cases e1
        exact absurd q2 (n t x rfl o1 q1 k u (Ne.symm hk) e2 o2)
    · rw [List.getElem?_set_ne hj] at e1
      by_cases hk : i = k
      · subst hk
        have hi : i < ρ.length := by have := (List.getElem?_eq_some_iff.mp e2).1; simpa using this
        rw [List.getElem?_set_self hi] at e2
        cases e2
        exact absurd q1 (n u x rfl o2 q2 j t (Ne.symm hj) e1 o1)
      · rw [List.getElem?_set_ne hk] at e2
        exact st.ap j k t u x e1 e2 o1 o2 q1 q2
theorem Sta.forget (st : Sta C ρ σ H S) (i : Nat) : Sta C (ρ.set i none) σ H S := st.put i none (fun _ z => by cases z) fun _ _ z => by cases z
/-- a slot that is forgotten may hold anything -/
theorem Sta.blind (st : Sta C ρ σ H S) {i : Nat} (e : ∀ s : Sl, ρ[i]? ≠ some (some s)) (o : Option V) : Sta C ρ (σ.set i o) H S := by
  refine ⟨st.wd, st.sub, st.own, st.al, st.al0, st.bagO, by rw [List.length_set]; exact st.len, fun j t q => ?_, fun j k t u x e1 e2 o1 o2 q1 q2 => ?_⟩
  · have hj : i ≠ j := fun z => e t (z ▸ q)
    rw [List.getElem?_set_ne hj]
    exact st.sl j t q
  · have hj : i ≠ j := fun z => e t (z ▸ e1)
    have hk : i ≠ k := fun z => e u (z ▸ e2)
    rw [List.getElem?_set_ne hj] at q1
    rw [List.getElem?_set_ne hk] at q2
    exact st.ap j k t u x e1 e2 o1 o2 q1 q2
theorem set_none (ρ : Ev) (i : Nat) : ∀ s : Sl, (ρ.set i none)[i]? ≠ some (some s) := fun s e => by
  by_cases hi : i < ρ.length
  · rw [List.getElem?_set_self hi] at e; cases e
  · rw [List.getElem?_eq_none (by simpa using hi)] at e; cases e
/-- a list of one's own is given up: from now on nobody changes it -/
theorem Sta.freeze (st : Sta C ρ σ H S) {i : Nat} {ds : List D} (e : ρ[i]? = some (some (.ol ds))) : ∃ S', Sta C (ρ.set i (some (.fz (.lst ds)))) σ H S' := by
  obtain ⟨v, q, a, xs, rfl, m, h0, hx, hl, hr⟩ := st.sl i _ e
  have sub : ∀ b ∈ S.filter (fun b => decide (b ≠ a)), b ∈ S := fun b hb => (List.mem_filter.mp hb).1
  have nm : a ∉ S.filter (fun b => decide (b ≠ a)) := fun hm => by simpa using (List.mem_filter.mp hm).2
  have st1 : Sta C (ρ.set i none) σ H (S.filter (fun b => decide (b ≠ a))) := by
    refine (st.forget i).to st.wd (fun b hb => List.mem_filter.mpr ⟨st.sub b hb, ?_⟩) (fun b hb => st.own b (sub b hb)) (fun b hb => st.al b (sub b hb)) (hid_le sub) fun j es b ej qj mb h0b ys hy => ⟨List.mem_filter.mpr ⟨mb, ?_⟩, hy⟩
    · refine decide_eq_true fun z => st.off h0 (z ▸ hb)
    · refine decide_eq_true fun z => ?_
      subst z
      by_cases hij : i = j
      · subst hij
        exact set_none ρ i _ ej
      · rw [List.getElem?_set_ne hij] at ej
        exact hij (st.ap i j _ _ _ e ej rfl rfl q qj)
  refine ⟨S.filter (fun b => decide (b ≠ a)), ?_⟩
  have st2 := st1.put i (some (.fz (.lst ds))) (fun s z => by
    cases z
    exact ⟨.ref a, q, a, xs, rfl, by rw [hid_ne nm]; exact hx, hl, Rps.same (hid_le sub) ds hr⟩) fun s v z o => by cases z; cases o
  rw [List.set_set] at st2
  exact st2
/-- .. whatever it is -/
theorem Sta.toD (st : Sta C ρ σ H S) {i : Nat} (e : ρ[i]? = some (some s)) : ∃ S', Sta C (ρ.set i (some (.fz s.toD))) σ H S' := by
  cases s with
  | ol ds => exact st.freeze e
  | fz d =>
    refine ⟨S, ?_⟩
    have : ρ.set i (some (.fz d)) = ρ := by
      obtain ⟨h, q⟩ := List.getElem?_eq_some_iff.mp e
      rw [← q]
      exact List.set_getElem_self h
    show Sta C (ρ.set i (some (.fz d))) σ H S
    rw [this]
    exact st
/-- a list of one's own is changed -/
theorem Sta.write (st : Sta C ρ σ H S) {i : Nat} {ds es : List D} {a : Addr} {ys : List V} (e : ρ[i]? = some (some (.ol ds))) (q : σ[i]? = some (some (.ref a))) (hl : ys.length ≤ 1000000) (h : Rps C.B (hid S H) ys es) :
    Sta C (ρ.set i (some (.ol es))) σ (upd H a (.lst ys)) S := by
  obtain ⟨v, q', b, xs, rfl, m, h0, hx, _, _⟩ := st.sl i _ e
  rw [q] at q'
  cases q'
  have st1 : Sta C (ρ.set i none) σ (upd H a (.lst ys)) S := by
    refine (st.forget i).to ⟨fun b o n z => ?_, fun u => ?_⟩ st.sub st.own (fun b hb => ?_) (by rw [hid_upd m]; exact Same.refl _) fun j es b ej qj mb h0b zs hz => ⟨mb, ?_⟩
    · have hne : b ≠ a := fun w => by rw [w, h0] at z; cases z
      rw [upd_ne hne]
      exact st.wd.keep b o n z
    · refine (st.wd.bag u).put ⟨st.nbag h0 u, fun w => st.off h0 (w ▸ (st.bagO u).2)⟩
    · by_cases hb' : b = a
      · rw [hb', upd_same]; exact fun z => nomatch z
      · rw [upd_ne hb']; exact st.al b hb
    · have hne : b ≠ a := fun w => by
        subst w
        by_cases hij : i = j
        · subst hij
          exact set_none ρ i _ ej
        · rw [List.getElem?_set_ne hij] at ej
          exact hij (st.ap i j _ _ _ e ej rfl rfl q qj)
      rw [upd_ne hne]
      exact hz
  have st2 := st1.put i (some (.ol es)) (fun s z => by
    cases z
    exact ⟨.ref a, q, a, ys, rfl, m, h0, upd_same, hl, by rw [hid_upd m]; exact h⟩) fun s v z _ qv j t hj ej to => by
      rw [q] at qv
      cases qv
      rw [List.getElem?_set_ne (Ne.symm hj)] at ej
      exact fun w => hj (st.ap j i _ _ _ ej e to rfl w q)
  rw [List.set_set] at st2
  exact st2
end
end Q


set_option autoImplicit false
set_option linter.all false
/-! Q1: what is told of expressions, tests, arguments; operators -/
namespace Q
open PySem L2

abbrev WE := Ev → (Sl → Ev → Prop) → Prop
abbrev WT := Ev → (Bool → Ev → Prop) → Prop
abbrev WA := Ev → (List D → Ev → Prop) → Prop
/-- a reading keeps to what is told by w -/
def OkE (C : Cxt) (t : TE) (w : WE) : Prop := ∀ (ρ ρx : Ev) (σ σx : St) (H : Hp) (S : List Addr) (k : Sl → Ev → Prop) (Q : VK), ρ.length = σ.length → Sta C (ρ ++ ρx) (σ ++ σx) H S → w ρ k →
  (∀ (s : Sl) (ρ' : Ev) (v : V) (H' : Hp) (S' : List Addr), ρ'.length = σ.length → Sta C ((ρ' ++ ρx) ++ [some s]) ((σ ++ σx) ++ [some v]) H' S' → k s ρ' → Q v H') → t σ H Q
/-- .. a value that is used at once -/
def OkB (C : Cxt) (t : TE) (w : WE) : Prop := ∀ (ρ ρx : Ev) (σ σx : St) (H : Hp) (S : List Addr) (k : Sl → Ev → Prop) (Q : VK), ρ.length = σ.length → Sta C (ρ ++ ρx) (σ ++ σx) H S → w ρ k →
  (∀ (s : Sl) (ρ' : Ev) (v : V) (H' : Hp) (S' : List Addr), ρ'.length = σ.length → Sta C (ρ' ++ ρx) (σ ++ σx) H' S' → SlOk C S' H' v s → k s ρ' → Q v H') → t σ H Q
def OkT (C : Cxt) (t : TT) (w : WT) : Prop := ∀ (ρ ρx : Ev) (σ σx : St) (H : Hp) (S : List Addr) (k : Bool → Ev → Prop) (Q : Bool → Hp → Prop), ρ.length = σ.length → Sta C (ρ ++ ρx) (σ ++ σx) H S → w ρ k →
  (∀ (b : Bool) (ρ' : Ev) (H' : Hp) (S' : List Addr), ρ'.length = σ.length → Sta C (ρ' ++ ρx) (σ ++ σx) H' S' → k b ρ' → Q b H') → t σ H Q
def fzs (ds : List D) : Ev := ds.map fun d => some (.fz d)
def OkA (C : Cxt) (t : TA) (w : WA) : Prop := ∀ (ρ ρx : Ev) (σ σx : St) (H : Hp) (S : List Addr) (k : List D → Ev → Prop) (Q : List V → Hp → Prop), ρ.length = σ.length → Sta C (ρ ++ ρx) (σ ++ σx) H S → w ρ k →
  (∀ (ds : List D) (ρ' : Ev) (vs : List V) (H' : Hp) (S' : List Addr), ρ'.length = σ.length → Sta C ((ρ' ++ ρx) ++ fzs ds) ((σ ++ σx) ++ vs.map some) H' S' → k ds ρ' → Q vs H') → t σ H Q
structure PD (X : Cx) (C : Cxt) (e : Expr) (t : TE) (w : WE) : Prop where
  pe : PE X e t
  ok : OkE C t w
structure PB (X : Cx) (C : Cxt) (e : Expr) (t : TE) (w : WE) : Prop where
  pe : PE X e t
  ok : OkB C t w
structure QT (X : Cx) (C : Cxt) (e : Expr) (t : TT) (w : WT) : Prop where
  pt : PT X e t
  ok : OkT C t w
structure QW (X : Cx) (C : Cxt) (e : Expr) (t : TT) (w : WT) : Prop where
  pw : PW X e t
  ok : OkT C t w
structure QA (X : Cx) (C : Cxt) (es : List Expr) (t : TA) (w : WA) : Prop where
  pa : PA X es t
  ok : OkA C t w
structure Fit (X : Cx) (C : Cxt) : Prop where
  K : C.B.K = X.K
  mg : C.B.mg = X.mg

section
variable {X : Cx} {C : Cxt} {e a bx : Expr} {t ta tb : TE} {w wa wb : WE} {pos : Pos}
theorem OkE.b (h : OkE C t w) : OkB C t w := fun ρ ρx σ σx H S k Q hl st hw q => h ρ ρx σ σx H S k Q hl st hw fun s ρ' v H' S' hl' st' hk => by
  have e := st'.len
  simp only [List.length_append] at e
  exact q s ρ' v H' S' hl' (st'.drop (by simp only [List.length_append, List.length_cons, List.length_nil] at *; omega)) (st'.last (by simp only [List.length_append, List.length_cons, List.length_nil] at *; omega)) hk
theorem PD.b (h : PD X C e t w) : PB X C e t w := ⟨h.pe, h.ok.b⟩
theorem app_set {α : Type} (l r : List α) (i : Nat) (x : α) (h : i < l.length) : (l ++ r).set i x = l.set i x ++ r := List.set_append_left _ _ h
theorem lt_of_get {α : Type} {l : List α} {i : Nat} {x : α} (h : l[i]? = some x) : i < l.length := (List.getElem?_eq_some_iff.mp h).1
theorem get_app {α : Type} {l r : List α} {i : Nat} {x : α} (h : l[i]? = some x) : (l ++ r)[i]? = some x := by rw [List.getElem?_append_left (lt_of_get h)]; exact h
theorem of_get_app {α : Type} {l r : List α} {i : Nat} {x : α} (h : (l ++ r)[i]? = some x) (hi : i < l.length) : l[i]? = some x := by rw [List.getElem?_append_left hi] at h; exact h

/-! ### names, constants -/
def wVar (i : Nat) : WE := fun ρ k => match ρ[i]? with
  | some (some (.fz d)) => k (.fz d) ρ
  | some (some (.ol ds)) => k (.fz (.lst ds)) (ρ.set i (some (.fz (.lst ds))))
  | _ => False
theorem ok_var (i : Nat) : OkE C (tVar i) (wVar i) := by
  intro ρ ρx σ σx H S k Q hl st hw q
  unfold wVar at hw
  split at hw
  · rename_i d e
    obtain ⟨v, h1, h2⟩ := st.get (get_app e)
    have hi : i < σ.length := hl ▸ lt_of_get e
    exact ⟨v, of_get_app h1 hi, q (.fz d) ρ v H S hl (st.pushF h2) hw⟩
  · rename_i ds e
    obtain ⟨S', st'⟩ := st.freeze (get_app (r := ρx) e)
    rw [app_set _ _ _ _ (lt_of_get e)] at st'
    have e' : (ρ.set i (some (.fz (.lst ds))))[i]? = some (some (.fz (.lst ds))) := List.getElem?_set_self (lt_of_get e)
    obtain ⟨v, h1, h2⟩ := st'.get (get_app e')
    have hi : i < σ.length := hl ▸ lt_of_get e
    exact ⟨v, of_get_app h1 hi, q (.fz (.lst ds)) _ v H S' (by rw [List.length_set]; exact hl) (st'.pushF h2) hw⟩
  · exact hw.elim
theorem pd_var {i : Nat} (h : PE X e (tVar i)) : PD X C e (tVar i) (wVar i) := ⟨h, ok_var i⟩
/-- what a name holds, used at once -/
def wBor (i : Nat) : WE := fun ρ k => match ρ[i]? with
  | some (some s) => k s ρ
  | _ => False
theorem pb_var {i : Nat} (h : PE X e (tVar i)) : PB X C e (tVar i) (wBor i) := ⟨h, by
  intro ρ ρx σ σx H S k Q hl st hw q
  unfold wBor at hw
  split at hw
  · rename_i s e
    obtain ⟨v, h1, h2⟩ := st.get (get_app e)
    exact ⟨v, of_get_app h1 (hl ▸ lt_of_get e), q s ρ v H S hl st h2 hw⟩
  · exact hw.elim⟩
/-- what a name holds, taken away from it -/
def wMv (i : Nat) : WE := fun ρ k => match ρ[i]? with
  | some (some s) => k s (ρ.set i none)
  | _ => False
theorem pd_mv {i : Nat} (h : PE X e (tVar i)) : PD X C e (tVar i) (wMv i) := ⟨h, by
  intro ρ ρx σ σx H S k Q hl st hw q
  unfold wMv at hw
  split at hw
  · rename_i s e
    have e0 := get_app (r := ρx) e
    obtain ⟨v, h1, h2⟩ := st.get e0
    have st' := st.forget i
    have hi : i < ρ.length := lt_of_get e
    refine ⟨v, of_get_app h1 (hl ▸ hi), q s (ρ.set i none) v H S (by rw [List.length_set]; exact hl) ?_ hw⟩
    rw [← app_set _ _ _ _ hi]
    refine st'.push h2 fun o j t ej to qj => ?_
    by_cases hij : i = j
    · subst hij
      exact set_none _ _ _ ej
    · rw [List.getElem?_set_ne hij] at ej
      exact hij (st.ap i j s t v e0 ej o to h1 qj)
  · exact hw.elim⟩
def wC (d : D) : WE := fun ρ k => k (.fz d) ρ
theorem ok_c {v : V} {d : D} (h : ∀ H, Rp C.B H v d) : OkE C (tC v) (wC d) := fun ρ ρx σ σx H S k Q hl st hw q => q (.fz d) ρ v H S hl (st.pushF (h _)) hw
theorem pd_c {v : V} {d : D} (h : PE X e (tC v)) (hr : ∀ H, Rp C.B H v d) : PD X C e (tC v) (wC d) := ⟨h, ok_c hr⟩
theorem pd_int {i : Int} {j pos} : PD X C (.Constant (.int i) j pos) (tC (.int i)) (wC (.int i)) := pd_c pe_int fun _ => rfl
theorem pd_bl {i : Bool} {j pos} : PD X C (.Constant (.bool i) j pos) (tC (.bl i)) (wC (.bl i)) := pd_c pe_bl fun _ => rfl
theorem pd_str {i : Str} {j pos} : PD X C (.Constant (.str i) j pos) (tC (.str i)) (wC (.str i)) := pd_c pe_str fun _ => rfl
theorem pd_non {j pos} : PD X C (.Constant .none j pos) (tC .non) (wC .non) := pd_c pe_non fun _ => rfl

/-! ### operators by values -/
abbrev P2 := Sl → Sl → (Sl → Prop) → Prop
/-- a relation keeps to what is told of it -/
def Lift2 (C : Cxt) (r : R2) (p : P2) : Prop := ∀ (ρ : Ev) (σ : St) (H : Hp) (S : List Addr) (x y : Sl) (vx vy : V) (k : Sl → Prop) (Q : VK), Sta C ρ σ H S → SlOk C S H vx x → SlOk C S H vy y → p x y k →
  (∀ (s : Sl) (v : V) (H' : Hp) (S' : List Addr), Sta C (ρ ++ [some s]) (σ ++ [some v]) H' S' → k s → Q v H') → r vx vy H Q
def wOp (p : P2) (wa wb : WE) : WE := fun ρ k => wa ρ fun x ρ1 => wb ρ1 fun y ρ2 => p (.fz x.toD) y fun z => k z ρ2
theorem Sta.popLast {ρ : Ev} {σ : St} {H : Hp} {S : List Addr} {s : Sl} {v : V} (st : Sta C (ρ ++ [some s]) (σ ++ [some v]) H S) : Sta C ρ σ H S := st.drop (by have := st.len; simp at this; exact this)
/-- the last slot as data that nobody changes -/
theorem Sta.lastD {ρ : Ev} {σ : St} {H : Hp} {S : List Addr} {s : Sl} {v : V} (st : Sta C (ρ ++ [some s]) (σ ++ [some v]) H S) : ∃ S', Sta C (ρ ++ [some (.fz s.toD)]) (σ ++ [some v]) H S' := by
  obtain ⟨S', h⟩ := st.toD (i := ρ.length) (s := s) (by rw [List.getElem?_append_right (Nat.le_refl _), Nat.sub_self]; rfl)
  refine ⟨S', ?_⟩
  rw [List.set_append_right _ _ (Nat.le_refl _), Nat.sub_self] at h
  exact h
/-- what stands below the last but one -/
theorem Sta.pop2 {ρ : Ev} {σ : St} {H : Hp} {S : List Addr} {s t : Sl} {v u : V} (st : Sta C ((ρ ++ [some s]) ++ [some t]) ((σ ++ [some v]) ++ [some u]) H S) : Sta C ρ σ H S := st.popLast.popLast
theorem ok_op {r : R2} {p : P2} (h : Lift2 C r p) (ha : OkE C ta wa) (hb : OkB C tb wb) : OkE C (tOp r ta tb) (wOp p wa wb) := by
  intro ρ ρx σ σx H S k Q hl st hw q
  refine ha ρ ρx σ σx H S _ _ hl st hw fun x ρ1 vx H1 S1 hl1 st1 hw1 => ?_
  obtain ⟨S1', st1⟩ := st1.lastD
  rw [List.append_assoc, List.append_assoc] at st1
  refine hb ρ1 (ρx ++ [some (.fz x.toD)]) σ (σx ++ [some vx]) H1 S1' _ _ hl1 st1 hw1 fun y ρ2 vy H2 S2 hl2 st2 oky hp => ?_
  rw [← List.append_assoc, ← List.append_assoc] at st2
  have lx : (ρ2 ++ ρx).length = (σ ++ σx).length := by have := st2.len; simp only [List.length_append, List.length_cons, List.length_nil] at *; omega
  refine h (ρ2 ++ ρx) (σ ++ σx) H2 S2 (.fz x.toD) y vx vy _ Q st2.popLast (st2.last lx) oky hp fun z v H' S' st' hk => ?_
  exact q z ρ2 v H' S' hl2 st' hk
/-- the left one a name: it is looked at behind the right one -/
def wOpV (p : P2) (i : Nat) (wb : WE) : WE := fun ρ k => (∃ s, ρ[i]? = some (some s)) ∧ wb ρ fun y ρ1 => match ρ1[i]? with
  | some (some x) => p x y fun z => k z ρ1
  | _ => False
theorem ok_opV {r : R2} {p : P2} (h : Lift2 C r p) {i : Nat} (hb : OkB C tb wb) : OkE C (tOp r (tVar i) tb) (wOpV p i wb) := by
  intro ρ ρx σ σx H S k Q hl st hw q
  obtain ⟨⟨s0, e0⟩, hw⟩ := hw
  obtain ⟨v, h1, _⟩ := st.get (get_app e0)
  have hi : i < σ.length := hl ▸ lt_of_get e0
  refine ⟨v, of_get_app h1 hi, ?_⟩
  refine hb ρ ρx σ σx H S _ _ hl st hw fun y ρ1 vy H1 S1 hl1 st1 oky hp => ?_
  split at hp
  · rename_i x e1
    obtain ⟨v', h2, okx⟩ := st1.get (get_app e1)
    rw [h1] at h2
    cases h2
    exact h (ρ1 ++ ρx) (σ ++ σx) H1 S1 x y v vy _ Q st1 okx oky hp fun z v' H' S' st' hk => q z ρ1 v' H' S' hl1 st' hk
  · exact hp.elim
theorem pd_op {op : Operator} {r : R2} {p : P2} (ho : OpR X (binaryOp op) r) (h : Lift2 C r p) (ha : PD X C a ta wa) (hb : PB X C bx tb wb) : PD X C (.BinOp a op bx pos) (tOp r ta tb) (wOp p wa wb) := ⟨pe_op ho ha.pe hb.pe, ok_op h ha.ok hb.ok⟩
theorem pd_opV {op : Operator} {r : R2} {p : P2} (ho : OpR X (binaryOp op) r) (h : Lift2 C r p) {i : Nat} (ha : PE X a (tVar i)) (hb : PB X C bx tb wb) : PD X C (.BinOp a op bx pos) (tOp r (tVar i) tb) (wOpV p i wb) := ⟨pe_op ho ha hb.pe, ok_opV h hb.ok⟩
theorem pd_cmp {op : CmpOp} {r : R2} {p : P2} (ho : OpR X (compareOp op) r) (h : Lift2 C r p) (ha : PD X C a ta wa) (hb : PB X C bx tb wb) (hm : behindInMarks op bx = false) : PD X C (.Compare a [op] [bx] pos) (tOp r ta tb) (wOp p wa wb) := ⟨pe_cmpR ho ha.pe hb.pe hm, ok_op h ha.ok hb.ok⟩
theorem pd_cmpV {op : CmpOp} {r : R2} {p : P2} (ho : OpR X (compareOp op) r) (h : Lift2 C r p) {i : Nat} (ha : PE X a (tVar i)) (hb : PB X C bx tb wb) (hm : behindInMarks op bx = false) : PD X C (.Compare a [op] [bx] pos) (tOp r (tVar i) tb) (wOpV p i wb) := ⟨pe_cmpR ho ha hb.pe hm, ok_opV h hb.ok⟩
theorem pd_ix {r : R2} {p : P2} (ho : IxR X r) (h : Lift2 C r p) (ha : PD X C a ta wa) (hb : PB X C bx tb wb) (hs : PlainIx bx) : PD X C (.Subscript a bx pos) (tOp r ta tb) (wOp p wa wb) := ⟨pe_ix ho ha.pe hb.pe hs, ok_op h ha.ok hb.ok⟩
theorem pd_ixV {r : R2} {p : P2} (ho : IxR X r) (h : Lift2 C r p) {i : Nat} (ha : PE X a (tVar i)) (hb : PB X C bx tb wb) (hs : PlainIx bx) : PD X C (.Subscript a bx pos) (tOp r (tVar i) tb) (wOpV p i wb) := ⟨pe_ix ho ha hb.pe hs, ok_opV h hb.ok⟩
/-- one operand -/
abbrev P1 := Sl → (Sl → Prop) → Prop
def Lift1 (C : Cxt) (r : V → Hp → VK → Prop) (p : P1) : Prop := ∀ (ρ : Ev) (σ : St) (H : Hp) (S : List Addr) (x : Sl) (vx : V) (k : Sl → Prop) (Q : VK), Sta C ρ σ H S → SlOk C S H vx x → p x k →
  (∀ (s : Sl) (v : V) (H' : Hp) (S' : List Addr), Sta C (ρ ++ [some s]) (σ ++ [some v]) H' S' → k s → Q v H') → r vx H Q
def wUn (p : P1) (wa : WE) : WE := fun ρ k => wa ρ fun x ρ1 => p x fun z => k z ρ1
theorem ok_un {r : V → Hp → VK → Prop} {p : P1} (h : Lift1 C r p) (ha : OkB C ta wa) : OkE C (tUn r ta) (wUn p wa) := by
  intro ρ ρx σ σx H S k Q hl st hw q
  refine ha ρ ρx σ σx H S _ _ hl st hw fun x ρ1 vx H1 S1 hl1 st1 okx hp => ?_
  exact h (ρ1 ++ ρx) (σ ++ σx) H1 S1 x vx _ Q st1 okx hp fun z v H' S' st' hk => q z ρ1 v H' S' hl1 st' hk
theorem pd_un {op : UnaryOp} {r : V → Hp → VK → Prop} {p : P1} (ho : UnR X (unaryOp op) r) (h : Lift1 C r p) (ha : PB X C a ta wa) : PD X C (.UnaryOp op a pos) (tUn r ta) (wUn p wa) := ⟨pe_un ho ha.pe, ok_un h ha.ok⟩

/-! ### arguments -/
theorem qa_nil : QA X C [] tNil (fun ρ k => k [] ρ) := ⟨pa_nil, fun ρ ρx σ σx H S k Q hl st hw q => q [] ρ [] H S hl (by simpa [fzs] using st) hw⟩
def wCons (wa : WE) (wr : WA) : WA := fun ρ k => wa ρ fun x ρ1 => wr ρ1 fun ds ρ2 => k (x.toD :: ds) ρ2
theorem ok_cons {tr : TA} {wr : WA} (ha : OkE C ta wa) (hr : OkA C tr wr) : OkA C (tCons ta tr) (wCons wa wr) := by
  intro ρ ρx σ σx H S k Q hl st hw q
  refine ha ρ ρx σ σx H S _ _ hl st hw fun x ρ1 vx H1 S1 hl1 st1 hw1 => ?_
  obtain ⟨S1', st1⟩ := st1.lastD
  rw [List.append_assoc, List.append_assoc] at st1
  refine hr ρ1 (ρx ++ [some (.fz x.toD)]) σ (σx ++ [some vx]) H1 S1' _ _ hl1 st1 hw1 fun ds ρ2 vs H2 S2 hl2 st2 hk => ?_
  refine q (x.toD :: ds) ρ2 (vx :: vs) H2 S2 hl2 ?_ hk
  simpa [fzs] using st2
theorem qa_cons {es : List Expr} {tr : TA} {wr : WA} (ha : PD X C e t w) (hr : QA X C es tr wr) (hs : starEach (e :: es) X.env = (false, eval e X.env) :: starEach es X.env := by rfl) : QA X C (e :: es) (tCons t tr) (wCons w wr) :=
  ⟨pa_cons ha.pe hr.pa hs, ok_cons ha.ok hr.ok⟩
/-- the arguments' values -/
theorem Sta.args {H : Hp} {S : List Addr} : ∀ {ds : List D} {vs : List V} {ρ : Ev} {σ : St}, ρ.length = σ.length → Sta C (ρ ++ fzs ds) (σ ++ vs.map some) H S → Rps C.B (hid S H) vs ds
  | [], vs, ρ, σ, hl, st => by
    have := st.len
    simp [fzs, hl] at this
    rw [this]; rfl
  | d :: ds, [], ρ, σ, hl, st => by
    have := st.len
    simp [fzs, hl] at this
  | d :: ds, v :: vs, ρ, σ, hl, st => by
    have e1 : ρ ++ fzs (d :: ds) = (ρ ++ ([some (Sl.fz d)] : Ev)) ++ fzs ds := by simp [fzs]
    have e2 : σ ++ (v :: vs).map some = (σ ++ [some v]) ++ vs.map some := by simp
    rw [e1, e2] at st
    have hl' : (ρ ++ ([some (Sl.fz d)] : Ev)).length = (σ ++ [some v]).length := by simp [hl]
    exact ⟨v, vs, rfl, (st.drop hl').last hl, st.args hl'⟩
/-- what comes of arguments -/
abbrev PN := List D → (Sl → Prop) → Prop
def LiftN (C : Cxt) (r : List V → Hp → VK → Prop) (p : PN) : Prop := ∀ (ρ : Ev) (σ : St) (H : Hp) (S : List Addr) (ds : List D) (vs : List V) (k : Sl → Prop) (Q : VK), Sta C ρ σ H S → Rps C.B (hid S H) vs ds → p ds k →
  (∀ (s : Sl) (v : V) (H' : Hp) (S' : List Addr), Sta C (ρ ++ [some s]) (σ ++ [some v]) H' S' → k s → Q v H') → r vs H Q
def wArg (p : PN) (wa : WA) : WE := fun ρ k => wa ρ fun ds ρ1 => p ds fun z => k z ρ1
theorem ok_arg {r : List V → Hp → VK → Prop} {p : PN} {ta : TA} {wa : WA} (h : LiftN C r p) (ha : OkA C ta wa) : OkE C (tCB r ta) (wArg p wa) := by
  intro ρ ρx σ σx H S k Q hl st hw q
  refine ha ρ ρx σ σx H S _ _ hl st hw fun ds ρ1 vs H1 S1 hl1 st1 hp => ?_
  have lx : (ρ1 ++ ρx).length = (σ ++ σx).length := by have := st.len; simp only [List.length_append] at *; omega
  exact h (ρ1 ++ ρx) (σ ++ σx) H1 S1 ds vs _ Q (st1.drop lx) (st1.args lx) hp fun z v H' S' st' hk => q z ρ1 v H' S' hl1 st' hk
theorem pd_callB {es : List Expr} {x : Str} {id : String} {p0 : Pos} {r : List V → Hp → VK → Prop} {p : PN} {ta : TA} {wa : WA} (hc : CallR X (.builtin id) r) (h : LiftN C r p) (hg : Gl X x) (hm : X.mg x = none) (hv : bootBuiltins x = some (.builtin id)) (ha : QA X C (e :: es) ta wa)
    (hn : x ≠ "__name__" := by decide) (hdb : (x == ("__debug__" : Str)) = false := by decide) (he : starEach (e :: es) X.env = (false, eval e X.env) :: starEach es X.env := by rfl) (hpl : (backTo pos (starEach es X.env)).any (·.1) = false := by rfl) :
    PD X C (.Call (.Name x p0) (e :: es) [] pos) (tCB r ta) (wArg p wa) := ⟨pe_callB hc hg hm hv ha.pa hn hdb he hpl, ok_arg h ha.ok⟩
theorem pd_callTy {es : List Expr} {x : Str} {T : String} {p0 : Pos} {r : List V → Hp → VK → Prop} {p : PN} {ta : TA} {wa : WA} (hc : CallR X (.type T) r) (h : LiftN C r p) (hg : Gl X x) (hm : X.mg x = none) (hv : bootBuiltins x = some (.type T)) (ha : QA X C (e :: es) ta wa)
    (hn : x ≠ "__name__" := by decide) (hdb : (x == ("__debug__" : Str)) = false := by decide) (he : starEach (e :: es) X.env = (false, eval e X.env) :: starEach es X.env := by rfl) (hpl : (backTo pos (starEach es X.env)).any (·.1) = false := by rfl) :
    PD X C (.Call (.Name x p0) (e :: es) [] pos) (tCB r ta) (wArg p wa) := ⟨pe_callTy hc hg hm hv ha.pa hn hdb he hpl, ok_arg h ha.ok⟩
/-- one argument, which may be a list of one's own -/
theorem ok_arg1 {r : List V → Hp → VK → Prop} {p : P1} (h : Lift1 C (fun v H Q => r [v] H Q) p) (ha : OkB C ta wa) : OkE C (tCB r (tCons ta tNil)) (wUn p wa) := by
  show OkE C (tUn (fun v H Q => r [v] H Q) ta) (wUn p wa)
  exact ok_un h ha
theorem pd_callB1 {x : Str} {id : String} {p0 : Pos} {r : List V → Hp → VK → Prop} {p : P1} (hc : CallR X (.builtin id) r) (h : Lift1 C (fun v H Q => r [v] H Q) p) (hg : Gl X x) (hm : X.mg x = none) (hv : bootBuiltins x = some (.builtin id)) (ha : PB X C e t w)
    (hn : x ≠ "__name__" := by decide) (hdb : (x == ("__debug__" : Str)) = false := by decide) (he : starEach [e] X.env = (false, eval e X.env) :: starEach [] X.env := by rfl) (hpl : (backTo pos (starEach [] X.env)).any (·.1) = false := by rfl) :
    PD X C (.Call (.Name x p0) [e] [] pos) (tCB r (tCons t tNil)) (wUn p w) := ⟨pe_callB hc hg hm hv (pa_cons ha.pe pa_nil he) hn hdb he hpl, ok_arg1 h ha.ok⟩
theorem pd_callTy1 {x : Str} {T : String} {p0 : Pos} {r : List V → Hp → VK → Prop} {p : P1} (hc : CallR X (.type T) r) (h : Lift1 C (fun v H Q => r [v] H Q) p) (hg : Gl X x) (hm : X.mg x = none) (hv : bootBuiltins x = some (.type T)) (ha : PB X C e t w)
    (hn : x ≠ "__name__" := by decide) (hdb : (x == ("__debug__" : Str)) = false := by decide) (he : starEach [e] X.env = (false, eval e X.env) :: starEach [] X.env := by rfl) (hpl : (backTo pos (starEach [] X.env)).any (·.1) = false := by rfl) :
    PD X C (.Call (.Name x p0) [e] [] pos) (tCB r (tCons t tNil)) (wUn p w) := ⟨pe_callTy hc hg hm hv (pa_cons ha.pe pa_nil he) hn hdb he hpl, ok_arg1 h ha.ok⟩

/-! ### tests, and, or, not -/
def wYes (w : WE) : WT := fun ρ k => w ρ fun x ρ1 => match x with
  | .fz (.bl b) => k b ρ1
  | _ => False
theorem ok_tst (h : OkB C t w) : OkT C (tTest t) (wYes w) := by
  intro ρ ρx σ σx H S k Q hl st hw q
  refine h ρ ρx σ σx H S _ _ hl st hw fun x ρ1 v H1 S1 hl1 st1 ok hk => ?_
  split at hk
  · rename_i b
    obtain rfl : v = .bl b := ok
    exact ⟨b, rfl, q b ρ1 H1 S1 hl1 st1 hk⟩
  · exact hk.elim
theorem qt_val (h : PB X C e t w) (he : ∀ whole, isTrue e X.env whole = (do let v ← whole; standAt e.pos; holding [v] (truthy v)) := by intro _; rfl) : QT X C e (tB t) (wYes w) := ⟨pt_val h.pe he, ok_tst h.ok⟩
theorem qt_cmp {op : CmpOp} {r : R2} {p : P2} (ho : OpR X (compareOp op) r) (h : Lift2 C r p) (ha : PD X C a ta wa) (hb : PB X C bx tb wb) (hm : behindInMarks op bx = false) : QT X C (.Compare a [op] [bx] pos) (tTest (tOp r ta tb)) (wYes (wOp p wa wb)) :=
  ⟨pt_cmpR ho ha.pe hb.pe hm, ok_tst (ok_op h ha.ok hb.ok).b⟩
theorem qt_cmpV {op : CmpOp} {r : R2} {p : P2} (ho : OpR X (compareOp op) r) (h : Lift2 C r p) {i : Nat} (ha : PE X a (tVar i)) (hb : PB X C bx tb wb) (hm : behindInMarks op bx = false) : QT X C (.Compare a [op] [bx] pos) (tTest (tOp r (tVar i) tb)) (wYes (wOpV p i wb)) :=
  ⟨pt_cmpR ho ha hb.pe hm, ok_tst (ok_opV h hb.ok).b⟩
/-- truth -/
def truP : Sl → (Bool → Prop) → Prop
  | .fz .non, k => k false
  | .fz (.bl b), k => k b
  | .fz (.int i), k => k (i != 0)
  | .fz (.str y), k => y.length ≤ sizeLine ∧ k ((y.length : Int) != 0)
  | .fz (.lst ds), k => k (!ds.isEmpty)
  | .fz (.tup ds), k => k (!ds.isEmpty)
  | .fz (.dic ks _), k => k (!ks.isEmpty)
  | .ol ds, k => k (!ds.isEmpty)
  | _, _ => False
theorem empty_of {xs : List V} {ds : List D} {B : Bk} {H : Hp} (h : Rps B H xs ds) : xs.isEmpty = ds.isEmpty := by
  have := h.len
  cases xs <;> cases ds <;> simp_all
theorem tru_of {S : List Addr} {H : Hp} {v : V} {s : Sl} {k : Bool → Prop} (ok : SlOk C S H v s) (h : truP s k) : ∃ b, TruV C.B.K v H b ∧ k b := by
  cases s with
  | ol ds =>
    obtain ⟨a, xs, rfl, _, _, e, _, r⟩ := ok
    exact ⟨_, .inl ⟨xs, SqL.of e, rfl⟩, by rw [empty_of r]; exact h⟩
  | fz d =>
    cases d with
    | non => obtain rfl : v = .non := ok; exact ⟨_, rfl, h⟩
    | bl b => obtain rfl : v = .bl b := ok; exact ⟨_, rfl, h⟩
    | int i => obtain rfl : v = .int i := ok; exact ⟨_, rfl, h⟩
    | str y => obtain rfl : v = .str y := ok; exact ⟨_, ⟨h.1, rfl⟩, h.2⟩
    | lst ds =>
      obtain ⟨a, xs, rfl, e, _, r⟩ := ok
      exact ⟨_, .inl ⟨xs, SqL.of (hid_some e).2, rfl⟩, by rw [empty_of r]; exact h⟩
    | tup ds =>
      obtain ⟨a, xs, rfl, e, _, r⟩ := ok
      exact ⟨_, .inr (.inl ⟨xs, sameT hid_same e, rfl⟩), by rw [empty_of r]; exact h⟩
    | dic ks ds =>
      obtain ⟨a, kvs, rfl, e, _, rfl, r⟩ := ok
      refine ⟨_, .inr (.inr ⟨kvs, (hid_some e).2, rfl⟩), ?_⟩
      have : kvs.isEmpty = (kvs.map (·.1)).isEmpty := by cases kvs <;> rfl
      rw [this]; exact h
    | raw _ => exact h.elim
    | bag => exact h.elim
    | obj _ _ _ => exact h.elim
def wTru (w : WE) : WT := fun ρ k => w ρ fun x ρ1 => truP x fun b => k b ρ1
def tTru (K : PySem.W.Frag) (t : TE) : TT := fun σ H Q => t σ H fun x H' => ∃ k, TruV K x H' k ∧ Q k H'
theorem qt_truth (F : Fit X C) (h : PB X C e t w) (he : ∀ whole, isTrue e X.env whole = (do let v ← whole; standAt e.pos; holding [v] (truthy v)) := by intro _; rfl) : QT X C e (tTru X.K t) (wTru w) := by
  refine ⟨pt_truth h.pe he, ?_⟩
  intro ρ ρx σ σx H S k Q hl st hw q
  refine h.ok ρ ρx σ σx H S _ _ hl st hw fun x ρ1 v H1 S1 hl1 st1 ok hk => ?_
  obtain ⟨b, h1, h2⟩ := tru_of ok hk
  rw [F.K] at h1
  exact ⟨b, h1, q b ρ1 H1 S1 hl1 st1 h2⟩
theorem qt_w {tt : TT} {w : WT} (h : QW X C e tt w) : QT X C e tt w := ⟨h.pw.pt, h.ok⟩
def wAnd (u w : WT) : WT := fun ρ k => u ρ fun c ρ1 => if c = true then w ρ1 k else k false ρ1
def wOr (u w : WT) : WT := fun ρ k => u ρ fun c ρ1 => if c = true then k true ρ1 else w ρ1 k
theorem ok_and {t1 t2 : TT} {w1 w2 : WT} (h1 : OkT C t1 w1) (h2 : OkT C t2 w2) : OkT C (tAnd t1 t2) (wAnd w1 w2) := by
  intro ρ ρx σ σx H S k Q hl st hw q
  refine h1 ρ ρx σ σx H S _ _ hl st hw fun c ρ1 H1 S1 hl1 st1 hk => ?_
  cases c with
  | true => exact h2 ρ1 ρx σ σx H1 S1 k Q hl1 st1 hk q
  | false => exact q false ρ1 H1 S1 hl1 st1 hk
theorem ok_or {t1 t2 : TT} {w1 w2 : WT} (h1 : OkT C t1 w1) (h2 : OkT C t2 w2) : OkT C (tOr t1 t2) (wOr w1 w2) := by
  intro ρ ρx σ σx H S k Q hl st hw q
  refine h1 ρ ρx σ σx H S _ _ hl st hw fun c ρ1 H1 S1 hl1 st1 hk => ?_
  cases c with
  | true => exact q true ρ1 H1 S1 hl1 st1 hk
  | false => exact h2 ρ1 ρx σ σx H1 S1 k Q hl1 st1 hk q
theorem qw_and1 {tt : TT} {w : WT} (h : QT X C e tt w) : QW X C (.BoolOp .And [e] pos) tt w := ⟨pw_and1 h.pt, h.ok⟩
theorem qw_or1 {tt : TT} {w : WT} (h : QT X C e tt w) : QW X C (.BoolOp .Or [e] pos) tt w := ⟨pw_or1 h.pt, h.ok⟩
theorem qw_and {t1 t2 : TT} {w1 w2 : WT} {rest : List Expr} (h : QT X C e t1 w1) (g : QW X C (.BoolOp .And (a :: rest) pos) t2 w2) : QW X C (.BoolOp .And (e :: a :: rest) pos) (tAnd t1 t2) (wAnd w1 w2) := ⟨pw_and h.pt g.pw, ok_and h.ok g.ok⟩
theorem qw_or {t1 t2 : TT} {w1 w2 : WT} {rest : List Expr} (h : QT X C e t1 w1) (g : QW X C (.BoolOp .Or (a :: rest) pos) t2 w2) : QW X C (.BoolOp .Or (e :: a :: rest) pos) (tOr t1 t2) (wOr w1 w2) := ⟨pw_or h.pt g.pw, ok_or h.ok g.ok⟩
def wNot (w : WT) : WT := fun ρ k => w ρ fun c ρ1 => k (!c) ρ1
theorem qt_not {tt : TT} {w : WT} (h : QT X C e tt w) : QT X C (.UnaryOp .Not e pos) (tNot tt) (wNot w) := ⟨pt_not h.pt, fun ρ ρx σ σx H S k Q hl st hw q => h.ok ρ ρx σ σx H S _ _ hl st hw fun c ρ1 H1 S1 hl1 st1 hk => q (!c) ρ1 H1 S1 hl1 st1 hk⟩
/-- a if c else b -/
def wIf (c : WT) (wa wb : WE) : WE := fun ρ k => c ρ fun b ρ1 => if b = true then wa ρ1 k else wb ρ1 k
theorem pd_if {c : Expr} {tc : TT} {wc : WT} (hc : QT X C c tc wc) (ha : PD X C a ta wa) (hb : PD X C bx tb wb) : PD X C (.IfExp c a bx pos) (tIf tc ta tb) (wIf wc wa wb) := ⟨pe_ifExp hc.pt ha.pe hb.pe, by
  intro ρ ρx σ σx H S k Q hl st hw q
  refine hc.ok ρ ρx σ σx H S _ _ hl st hw fun c ρ1 H1 S1 hl1 st1 hk => ?_
  cases c with
  | true => exact ha.ok ρ1 ρx σ σx H1 S1 k Q hl1 st1 hk q
  | false => exact hb.ok ρ1 ρx σ σx H1 S1 k Q hl1 st1 hk q⟩
/-- and, or of truth values -/
def wAndV (wa wb : WE) : WE := fun ρ k => wa ρ fun x ρ1 => match x with
  | .fz (.bl c) => if c = true then wb ρ1 k else k (.fz (.bl false)) ρ1
  | _ => False
def wOrV (wa wb : WE) : WE := fun ρ k => wa ρ fun x ρ1 => match x with
  | .fz (.bl c) => if c = true then k (.fz (.bl true)) ρ1 else wb ρ1 k
  | _ => False
theorem pd_one {op} (h : PD X C e t w) : PD X C (.BoolOp op [e] pos) t w := ⟨pe_one h.pe, h.ok⟩
theorem pd_and {rest : List Expr} (ha : PB X C a ta wa) (hb : PD X C (.BoolOp .And (bx :: rest) pos) tb wb) : PD X C (.BoolOp .And (a :: bx :: rest) pos) (tAndV ta tb) (wAndV wa wb) := ⟨pe_and ha.pe hb.pe, by
  intro ρ ρx σ σx H S k Q hl st hw q
  refine ha.ok ρ ρx σ σx H S _ _ hl st hw fun x ρ1 v H1 S1 hl1 st1 ok hk => ?_
  split at hk
  · rename_i c
    obtain rfl : v = .bl c := ok
    refine ⟨c, rfl, ?_⟩
    cases c with
    | true => exact hb.ok ρ1 ρx σ σx H1 S1 k Q hl1 st1 hk q
    | false => exact q (.fz (.bl false)) ρ1 _ H1 S1 hl1 (st1.pushF rfl) hk
  · exact hk.elim⟩
theorem pd_or {rest : List Expr} (ha : PB X C a ta wa) (hb : PD X C (.BoolOp .Or (bx :: rest) pos) tb wb) : PD X C (.BoolOp .Or (a :: bx :: rest) pos) (tOrV ta tb) (wOrV wa wb) := ⟨pe_or ha.pe hb.pe, by
  intro ρ ρx σ σx H S k Q hl st hw q
  refine ha.ok ρ ρx σ σx H S _ _ hl st hw fun x ρ1 v H1 S1 hl1 st1 ok hk => ?_
  split at hk
  · rename_i c
    obtain rfl : v = .bl c := ok
    refine ⟨c, rfl, ?_⟩
    cases c with
    | true => exact q (.fz (.bl true)) ρ1 _ H1 S1 hl1 (st1.pushF rfl) hk
    | false => exact hb.ok ρ1 ρx σ σx H1 S1 k Q hl1 st1 hk q
  · exact hk.elim⟩
/-- not e as a value, by truth -/
def wNotV (w : WE) : WE := fun ρ k => w ρ fun x ρ1 => truP x fun b => k (.fz (.bl (!b))) ρ1
theorem pd_not (F : Fit X C) (h : PB X C e t w) : PD X C (.UnaryOp .Not e pos) (tNotT X.K t) (wNotV w) := ⟨pe_notT h.pe, by
  intro ρ ρx σ σx H S k Q hl st hw q
  refine h.ok ρ ρx σ σx H S _ _ hl st hw fun x ρ1 v H1 S1 hl1 st1 ok hk => ?_
  obtain ⟨b, h1, h2⟩ := tru_of ok hk
  rw [F.K] at h1
  exact ⟨b, h1, q (.fz (.bl (!b))) ρ1 _ H1 S1 hl1 (st1.pushF rfl) h2⟩⟩
/-- a < b < c -/
def wChain (p p' : P2) (wa wb wc : WE) : WE := fun ρ k => wa ρ fun x ρ1 => wb ρ1 fun y ρ2 => p (.fz x.toD) (.fz y.toD) fun z => match z with
  | .fz (.bl b) => if b = true then wc ρ2 fun u ρ3 => p' (.fz y.toD) u fun z' => k z' ρ3 else k (.fz (.bl false)) ρ2
  | _ => False
end
end Q

set_option autoImplicit false
set_option linter.all false
/-! Q2: operators, built-in functions -/
namespace Q
open PySem L2
section
variable {C : Cxt} {S : List Addr} {H : Hp} {v : V} {s : Sl}
theorem SlOk.non (h : SlOk C S H v s) (e : s.toD = .non) : v = .non := by cases s <;> cases e; exact h
theorem SlOk.bl {b : Bool} (h : SlOk C S H v s) (e : s.toD = .bl b) : v = .bl b := by cases s <;> cases e; exact h
theorem SlOk.int {i : Int} (h : SlOk C S H v s) (e : s.toD = .int i) : v = .int i := by cases s <;> cases e; exact h
theorem SlOk.str {x : Str} (h : SlOk C S H v s) (e : s.toD = .str x) : v = .str x := by cases s <;> cases e; exact h
theorem SlOk.lst {ds : List D} (h : SlOk C S H v s) (e : s.toD = .lst ds) : ∃ a xs, v = .ref a ∧ H a = some (.lst xs) ∧ xs.length ≤ 1000000 ∧ Rps C.B (hid S H) xs ds := by
  cases s with
  | fz d => cases e; obtain ⟨a, xs, h1, h2, h3, h4⟩ := h; exact ⟨a, xs, h1, (hid_some h2).2, h3, h4⟩
  | ol es => cases e; obtain ⟨a, xs, h1, _, _, h2, h3, h4⟩ := h; exact ⟨a, xs, h1, h2, h3, h4⟩
theorem SlOk.tup {ds : List D} (h : SlOk C S H v s) (e : s.toD = .tup ds) : ∃ a xs, v = .ref a ∧ SqT C.B.K H a xs ∧ xs.length ≤ 1000000 ∧ Rps C.B (hid S H) xs ds := by
  cases s with
  | fz d => cases e; obtain ⟨a, xs, h1, h2, h3, h4⟩ := h; exact ⟨a, xs, h1, sameT hid_same h2, h3, h4⟩
  | ol es => cases e
/-- .. in the heap as it stands -/
theorem SlOk.rp (h : SlOk C S H v s) : Rp C.B H v s.toD := by
  cases s with
  | fz d => exact Rp.same hid_same d h
  | ol ds => obtain ⟨a, xs, h1, _, _, h2, h3, h4⟩ := h; exact ⟨a, xs, h1, h2, h3, Rps.same hid_same ds h4⟩
end
theorem lim_line {n : Nat} (h : n ≤ 1000000) : n ≤ sizeLine := by rw [sizeLine_eq]; omega
theorem lim_lt {n : Nat} (h : n < 1000000) : n < sizeLine := by rw [sizeLine_eq]; omega
/-- the answer of an operator -/
abbrev Ans (C : Cxt) (ρ : Ev) (σ : St) (k : Sl → Prop) (Q : VK) : Prop := ∀ (s : Sl) (v : V) (H' : Hp) (S' : List Addr), Sta C (ρ ++ [some s]) (σ ++ [some v]) H' S' → k s → Q v H'
section
variable {C : Cxt} {ρ : Ev} {σ : St} {H : Hp} {S : List Addr} {k : Sl → Prop} {Q : VK}
theorem ans_int (st : Sta C ρ σ H S) (q : Ans C ρ σ k Q) {i : Int} (h : k (.fz (.int i))) : Q (.int i) H := q _ _ H S (st.pushF (d := .int i) rfl) h
theorem ans_bl (st : Sta C ρ σ H S) (q : Ans C ρ σ k Q) {i : Bool} (h : k (.fz (.bl i))) : Q (.bl i) H := q _ _ H S (st.pushF (d := .bl i) rfl) h
theorem ans_str (st : Sta C ρ σ H S) (q : Ans C ρ σ k Q) {i : Str} (h : k (.fz (.str i))) : Q (.str i) H := q _ _ H S (st.pushF (d := .str i) rfl) h
theorem ans_non (st : Sta C ρ σ H S) (q : Ans C ρ σ k Q) (h : k (.fz .non)) : Q .non H := q _ _ H S (st.pushF (d := .non) rfl) h
theorem ans_fz (st : Sta C ρ σ H S) (q : Ans C ρ σ k Q) {v : V} {d : D} (r : Rp C.B (hid S H) v d) (h : k (.fz d)) : Q v H := q _ _ H S (st.pushF r) h
theorem ans_ol (st : Sta C ρ σ H S) (q : Ans C ρ σ k Q) {xs : List V} {ds : List D} (hl : xs.length ≤ 1000000) (r : Rps C.B (hid S H) xs ds) (h : k (.ol ds)) (p : Addr) (hp : H p = none) : Q (.ref p) (upd H p (.lst xs)) :=
  q _ _ _ _ (st.pushL hp hl r) h
theorem ans_tup (st : Sta C ρ σ H S) (q : Ans C ρ σ k Q) {xs : List V} {ds : List D} (hl : xs.length ≤ 1000000) (r : Rps C.B (hid S H) xs ds) (h : k (.fz (.tup ds))) (p : Addr) (hp : H p = none) : Q (.ref p) (upd H p (.tup xs)) := by
  refine q (.fz (.tup ds)) _ _ _ ((st.new hp).pushF (d := .tup ds) ⟨p, xs, rfl, SqT.of ?_, hl, Rps.same (hid_new hp) ds r⟩) h
  rw [hid_ne (st.notS hp), upd_same]
end

/-! ### + - * // % ** - -/
def pAdd : P2 := fun x y k => match x.toD, y.toD with
  | .int i, .int j => k (.fz (.int (i + j)))
  | .str a, .str b => a.length + b.length ≤ sizeLine ∧ k (.fz (.str (a ++ b)))
  | .lst xs, .lst ys => xs.length + ys.length ≤ 1000000 ∧ k (.ol (xs ++ ys))
  | .tup xs, .tup ys => xs.length + ys.length ≤ 1000000 ∧ k (.fz (.tup (xs ++ ys)))
  | _, _ => False
def rAddA (K : PySem.W.Frag) : R2 := fun x y H Q => rI0 (fun i j => .int (i + j)) x y H Q ∨ (∃ i j, x = .str i ∧ y = .str j ∧ i.length + j.length ≤ sizeLine ∧ Q (.str (i ++ j)) H) ∨ rCat x y H Q ∨ rCatA K x y H Q
theorem op_addA {X : Cx} : OpR X (binaryOp .Add) (rAddA X.K) := op_add.or (op_add_str.or (op_cat.or op_catA))
theorem l_add {X : Cx} {C : Cxt} (F : Fit X C) : Lift2 C (rAddA X.K) pAdd := by
  intro ρ σ H S x y vx vy k Q st ox oy h q
  unfold pAdd at h
  split at h
  · rename_i i j e1 e2
    exact .inl ⟨i, j, ox.int e1, oy.int e2, ans_int st q h⟩
  · rename_i a b e1 e2
    exact .inr (.inl ⟨a, b, ox.str e1, oy.str e2, h.1, ans_str st q h.2⟩)
  · rename_i xs ys e1 e2
    obtain ⟨a, us, rfl, h1, h2, h3⟩ := ox.lst e1
    obtain ⟨b, ws, rfl, g1, g2, g3⟩ := oy.lst e2
    have l1 := h3.len
    have l2 := g3.len
    refine .inr (.inr (.inl ⟨a, b, us, ws, rfl, rfl, h1, g1, lim_line (by omega), fun p hp => ?_⟩))
    exact ans_ol st q (by rw [List.length_append]; omega) (h3.app g3) h.2 p hp
  · rename_i xs ys e1 e2
    obtain ⟨a, us, rfl, h1, h2, h3⟩ := ox.tup e1
    obtain ⟨b, ws, rfl, g1, g2, g3⟩ := oy.tup e2
    have l1 := h3.len
    have l2 := g3.len
    rw [F.K] at h1 g1
    refine .inr (.inr (.inr ⟨a, b, us, ws, rfl, rfl, h1, g1, lim_line (by omega), fun z => ?_, fun z z' => ?_, fun z z' p hp => ?_⟩))
    · subst z
      have : xs = [] := List.eq_nil_of_length_eq_zero (by simpa using l1.symm)
      subst this
      cases y with
      | ol _ => cases e2
      | fz d => cases e2; exact ans_fz st q oy h.2
    · subst z'
      have : ys = [] := List.eq_nil_of_length_eq_zero (by simpa using l2.symm)
      subst this
      rw [List.append_nil] at h
      cases x with
      | ol _ => cases e1
      | fz d => cases e1; exact ans_fz st q ox h.2
    · exact ans_tup st q (by rw [List.length_append]; omega) (h3.app g3) h.2 p hp
  · exact h.elim
def pI2 (P : Int → Int → Prop) (g : Int → Int → D) : P2 := fun x y k => match x.toD, y.toD with
  | .int i, .int j => P i j ∧ k (.fz (g i j))
  | _, _ => False
theorem l_I {C : Cxt} {P P' : Int → Int → Prop} {g : Int → Int → Int} (hp : ∀ i j, P i j → P' i j) : Lift2 C (rI P' fun i j => .int (g i j)) (pI2 P fun i j => .int (g i j)) := by
  intro ρ σ H S x y vx vy k Q st ox oy h q
  unfold pI2 at h
  split at h
  · rename_i i j e1 e2
    exact ⟨i, j, ox.int e1, oy.int e2, hp _ _ h.1, ans_int st q h.2⟩
  · exact h.elim
def pSub : P2 := fun x y k => match x.toD, y.toD with
  | .int i, .int j => k (.fz (.int (i - j)))
  | _, _ => False
theorem l_sub {C : Cxt} : Lift2 C (rI0 fun i j => .int (i - j)) pSub := by
  intro ρ σ H S x y vx vy k Q st ox oy h q
  unfold pSub at h
  split at h
  · rename_i i j e1 e2
    exact ⟨i, j, ox.int e1, oy.int e2, ans_int st q h⟩
  · exact h.elim
/-- a product: numbers together below 2 ^ 27 bits; a list some times -/
def pMul : P2 := fun x y k => match x.toD, y.toD with
  | .int i, .int j => CMulX i j ∧ k (.fz (.int (i * j)))
  | .lst xs, .int j => (j < 2 ^ 62 ∧ -(2 ^ 62) < j) ∧ xs.length * j.toNat ≤ 1000000 ∧ k (.ol (List.replicate j.toNat xs).flatten)
  | _, _ => False
theorem op_mulA {X : Cx} : OpR X (binaryOp .Mult) (fun x y H Q => rI CMulX (fun i j => .int (i * j)) x y H Q ∨ rRep x y H Q) := op_mulX.or op_rep
theorem l_mul {C : Cxt} : Lift2 C (fun x y H Q => rI CMulX (fun i j => .int (i * j)) x y H Q ∨ rRep x y H Q) pMul := by
  intro ρ σ H S x y vx vy k Q st ox oy h q
  unfold pMul at h
  split at h
  · rename_i i j e1 e2
    exact .inl ⟨i, j, ox.int e1, oy.int e2, h.1, ans_int st q h.2⟩
  · rename_i xs j e1 e2
    obtain ⟨a, us, rfl, h1, h2, h3⟩ := ox.lst e1
    obtain rfl := oy.int e2
    have l1 := h3.len
    have e : us.length * j.toNat ≤ 1000000 := by rw [l1]; exact h.2.1
    refine .inr ⟨a, j, us, rfl, rfl, h1, by omega, by omega, lim_line e, fun p hp => ?_⟩
    refine ans_ol st q ?_ (h3.rep _) h.2.2 p hp
    rw [List.length_flatten, List.map_replicate, List.sum_replicate_nat, Nat.mul_comm]
    exact e
  · exact h.elim
/-- // by any divisor below 2 ^ 9000 in size -/
def DivOk (j : Int) : Prop := j ≠ 0 ∧ j.natAbs.log2 < 9000
theorem noPy {j : Int} (h : DivOk j) : ∀ i : Int, Builtin.divisionGoesByPylong i j = false := fun i => PyProof.noPylong_of_log2 h.2
theorem op_fdivA {X : Cx} : OpR X (binaryOp .FloorDiv) (rI (fun _ j => DivOk j) fun i j => .int (i.fdiv j)) := opI fun i j _ _ _ _ _ hc q => PyProof.Rows.floordiv_int hc.1 q (.inl (PyProof.noPylong_of_log2 hc.2))
abbrev pFdiv : P2 := pI2 (fun _ j => DivOk j) fun i j => .int (i.fdiv j)
theorem l_fdiv {C : Cxt} : Lift2 C (rI (fun _ j => DivOk j) fun i j => .int (i.fdiv j)) pFdiv := l_I fun _ _ h => h
abbrev pMod : P2 := pI2 (fun _ j => j ≠ 0) fun i j => .int (i.fmod j)
theorem l_mod {C : Cxt} : Lift2 C (rI (fun _ j => j ≠ 0) fun i j => .int (i.fmod j)) pMod := l_I fun _ _ h => h
abbrev pPow : P2 := pI2 CPow fun i j => .int (i ^ j.toNat)
theorem l_pow {C : Cxt} : Lift2 C (rI CPow fun i j => .int (i ^ j.toNat)) pPow := l_I fun _ _ h => h
def pNeg : P1 := fun x k => match x.toD with
  | .int i => k (.fz (.int (-i)))
  | _ => False
theorem l_neg {C : Cxt} : Lift1 C (rU fun i => .int (-i)) pNeg := by
  intro ρ σ H S x vx k Q st ox h q
  unfold pNeg at h
  split at h
  · rename_i i e
    exact ⟨i, ox.int e, ans_int st q h⟩
  · exact h.elim

/-! ### comparisons -/
/-- of numbers or of texts -/
def pOrd (f : Int → Int → Bool) (g : List Nat → List Nat → Bool) : P2 := fun x y k => match x.toD, y.toD with
  | .int i, .int j => k (.fz (.bl (f i j)))
  | .str a, .str b => k (.fz (.bl (g a.cps.toList b.cps.toList)))
  | _, _ => False
def rOrd (f : Int → Int → Bool) (g : List Nat → List Nat → Bool) : R2 := fun x y H Q => rI0 (fun i j => .bl (f i j)) x y H Q ∨ ∃ i j, x = .str i ∧ y = .str j ∧ Q (.bl (g i.cps.toList j.cps.toList)) H
theorem l_ord {C : Cxt} {f : Int → Int → Bool} {g : List Nat → List Nat → Bool} : Lift2 C (rOrd f g) (pOrd f g) := by
  intro ρ σ H S x y vx vy k Q st ox oy h q
  unfold pOrd at h
  split at h
  · rename_i i j e1 e2
    exact .inl ⟨i, j, ox.int e1, oy.int e2, ans_bl st q h⟩
  · rename_i a b e1 e2
    exact .inr ⟨a, b, ox.str e1, oy.str e2, ans_bl st q h⟩
  · exact h.elim
abbrev fLt (i j : Int) : Bool := decide (i < j)
abbrev fLe (i j : Int) : Bool := decide (i ≤ j)
abbrev fGt (i j : Int) : Bool := decide (j < i)
abbrev fGe (i j : Int) : Bool := decide (j ≤ i)
abbrev gLt (i j : List Nat) : Bool := decide (i < j)
abbrev gLe (i j : List Nat) : Bool := !decide (j < i)
abbrev gGt (i j : List Nat) : Bool := decide (j < i)
abbrev gGe (i j : List Nat) : Bool := !decide (i < j)
abbrev pLt : P2 := pOrd fLt gLt
abbrev pLe : P2 := pOrd fLe gLe
abbrev pGt : P2 := pOrd fGt gGt
abbrev pGe : P2 := pOrd fGe gGe
theorem op_ltA {X : Cx} : OpR X (compareOp .Lt) (rOrd fLt gLt) := op_lt.or op_lt_str
theorem op_leA {X : Cx} : OpR X (compareOp .LtE) (rOrd fLe gLe) := op_le.or op_le_str
theorem op_gtA {X : Cx} : OpR X (compareOp .Gt) (rOrd fGt gGt) := op_gt.or op_gt_str
theorem op_geA {X : Cx} : OpR X (compareOp .GtE) (rOrd fGe gGe) := op_ge.or op_ge_str
mutual
/-- data without objects, dicts, other values -/
def plain : D → Bool
  | .non => true
  | .bl _ => true
  | .int _ => true
  | .str x => PyData.strOk x
  | .lst ds => plains ds
  | .tup ds => plains ds
  | _ => false
def plains : List D → Bool
  | [] => true
  | d :: ds => plain d && plains ds
end
mutual
def dep : D → Nat
  | .lst ds => depL ds + 1
  | .tup ds => depL ds + 1
  | _ => 0
def depL : List D → Nat
  | [] => 0
  | d :: ds => max (dep d) (depL ds)
end
mutual
def toP : D → PyData
  | .bl b => .bool b
  | .int i => .int i
  | .str x => .str x
  | .lst ds => .list (toPs ds)
  | .tup ds => .tuple (toPs ds)
  | _ => .none
def toPs : List D → List PyData
  | [] => []
  | d :: ds => toP d :: toPs ds
end
mutual
theorem dp_of {B : Bk} {H : Hp} : ∀ {v : V} (d : D), Rp B H v d → plain d = true → Dp B.K H v (toP d)
  | _, .non, h, _ => by rw [show _ = V.non from h]; exact .non
  | _, .bl _, h, _ => by rw [show _ = V.bl _ from h]; exact .bl _
  | _, .int _, h, _ => by rw [show _ = V.int _ from h]; exact .int _
  | _, .str _, h, _ => by rw [show _ = V.str _ from h]; exact .str _
  | _, .lst ds, h, p => by obtain ⟨a, xs, rfl, h2, _, h4⟩ := h; exact .lst (SqL.of h2) (dps_of ds h4 p)
  | _, .tup ds, h, p => by obtain ⟨a, xs, rfl, h2, _, h4⟩ := h; exact .tup h2 (dps_of ds h4 p)
  | _, .raw _, _, p => by cases p
  | _, .bag, _, p => by cases p
  | _, .obj _ _ _, _, p => by cases p
  | _, .dic _ _, _, p => by cases p
theorem dps_of {B : Bk} {H : Hp} : ∀ {xs : List V} (ds : List D), Rps B H xs ds → plains ds = true → DpAll B.K H xs (toPs ds)
  | _, [], h, _ => by rw [show _ = [] from h]; exact .nil
  | _, d :: ds, h, p => by
    obtain ⟨x, r, rfl, h2, h3⟩ := h
    have p : (plain d && plains ds) = true := p
    rw [Bool.and_eq_true] at p
    exact .cons (dp_of d h2 p.1) (dps_of ds h3 p.2)
end
mutual
theorem lay_of : ∀ (d : D), plain d = true → (toP d).canLay0 = true
  | .non, _ => rfl
  | .bl _, _ => rfl
  | .int _, _ => rfl
  | .str _, p => p
  | .lst ds, p => by show PyData.canLay0 (.list (toPs ds)) = true; unfold PyData.canLay0; exact lays_of ds p
  | .tup ds, p => by show PyData.canLay0 (.tuple (toPs ds)) = true; unfold PyData.canLay0; exact lays_of ds p
  | .raw _, p => by cases p
  | .bag, p => by cases p
  | .obj _ _ _, p => by cases p
  | .dic _ _, p => by cases p
theorem lays_of : ∀ (ds : List D), plains ds = true → PyData.canLayAll0 (toPs ds) = true
  | [], _ => rfl
  | d :: ds, p => by
    have p : (plain d && plains ds) = true := p
    rw [Bool.and_eq_true] at p
    show PyData.canLayAll0 (toP d :: toPs ds) = true
    unfold PyData.canLayAll0
    rw [lay_of d p.1, lays_of ds p.2]
    rfl
end
mutual
theorem pdep_of : ∀ (d : D), (toP d).depth = dep d
  | .non => rfl
  | .bl _ => rfl
  | .int _ => rfl
  | .str _ => rfl
  | .lst ds => by show PyData.depth (.list (toPs ds)) = depL ds + 1; unfold PyData.depth; rw [pdeps_of ds]
  | .tup ds => by show PyData.depth (.tuple (toPs ds)) = depL ds + 1; unfold PyData.depth; rw [pdeps_of ds]
  | .raw _ => rfl
  | .bag => rfl
  | .obj _ _ _ => rfl
  | .dic _ _ => rfl
theorem pdeps_of : ∀ (ds : List D), PyData.depthAll (toPs ds) = depL ds
  | [] => rfl
  | d :: ds => by show PyData.depthAll (toP d :: toPs ds) = max (dep d) (depL ds); unfold PyData.depthAll; rw [pdep_of d, pdeps_of ds]
end
def okD (d : D) : Prop := plain d = true ∧ dep d ≤ 60
theorem shaped_of {d : D} (h : okD d) : SeqAt.shaped (toP d) = true := by
  unfold SeqAt.shaped
  rw [lay_of d h.1, pdep_of, decide_eq_true (by have := h.2; omega)]
  rfl
def eqD (x y : D) : Bool := PyData.eqv (toP x) (toP y)
/-- what == takes as it is -/
def scalD : D → D → Bool
  | .non, .non => true | .non, .int _ => true | .int _, .non => true | .non, .bl _ => true | .bl _, .non => true | .non, .str _ => true | .str _, .non => true
  | .int _, .int _ => true | .bl _, .bl _ => true | .str _, .str _ => true
  | .int _, .str _ => true | .str _, .int _ => true | .bl _, .str _ => true | .str _, .bl _ => true
  | _, _ => false
def pEqF (f : Bool → Bool) : P2 := fun x y k => (scalD x.toD y.toD = false → okD x.toD ∧ okD y.toD) ∧ k (.fz (.bl (f (eqD x.toD y.toD))))
abbrev pEq : P2 := pEqF id
abbrev pNe : P2 := pEqF not
theorem SlOk.dp {C : Cxt} {S : List Addr} {H : Hp} {v : V} {s : Sl} (h : SlOk C S H v s) (p : okD s.toD) : Dp C.B.K H v (toP s.toD) := dp_of _ h.rp p.1
theorem scal_V {B : Bk} {H : Hp} {v u : V} {d e : D} (h : Rp B H v d) (g : Rp B H u e) (z : scalD d e = true) : scal v u = true ∧ decide (v = u) = eqD d e := by
  cases d <;> first
    | (cases z; done)
    | (unfold Rp at h
       subst h
       cases e <;> first
         | (cases z; done)
         | (unfold Rp at g
            subst g
            refine ⟨rfl, ?_⟩
            simp only [eqD, toP, PyData.eqv]
            first
              | rfl
              | (simp; done)
              | exact (Bool.beq_eq_decide_eq _ _).symm
              | (rw [Bool.eq_iff_iff]; simp; done))
         | skip)
    | skip
def rEqA (K : PySem.W.Frag) : R2 := fun x y H Q => rEq x y H Q ∨ rEqD K x y H Q
def rNeA (K : PySem.W.Frag) : R2 := fun x y H Q => rNe x y H Q ∨ rNeD K x y H Q
theorem op_eqA {X : Cx} (hu : X.A.units + 64 < cLine) : OpR X (compareOp .Eq) (rEqA X.K) := op_eq.or (op_eqD hu)
theorem op_neA {X : Cx} (hu : X.A.units + 64 < cLine) : OpR X (compareOp .NotEq) (rNeA X.K) := op_ne.or (op_neD hu)
theorem l_eq {X : Cx} {C : Cxt} (F : Fit X C) : Lift2 C (rEqA X.K) pEq := by
  intro ρ σ H S x y vx vy k Q st ox oy h q
  rw [← F.K]
  cases z : scalD x.toD y.toD with
  | true =>
    obtain ⟨z1, z2⟩ := scal_V ox.rp oy.rp z
    exact .inl ⟨z1, by rw [z2]; exact ans_bl st q h.2⟩
  | false =>
    obtain ⟨h1, h2⟩ := h.1 z
    exact .inr ⟨_, _, ox.dp h1, oy.dp h2, shaped_of h1, shaped_of h2, ans_bl st q h.2⟩
theorem l_ne {X : Cx} {C : Cxt} (F : Fit X C) : Lift2 C (rNeA X.K) pNe := by
  intro ρ σ H S x y vx vy k Q st ox oy h q
  rw [← F.K]
  cases z : scalD x.toD y.toD with
  | true =>
    obtain ⟨z1, z2⟩ := scal_V ox.rp oy.rp z
    exact .inl ⟨z1, by rw [z2]; exact ans_bl st q h.2⟩
  | false =>
    obtain ⟨h1, h2⟩ := h.1 z
    exact .inr ⟨_, _, ox.dp h1, oy.dp h2, shaped_of h1, shaped_of h2, ans_bl st q h.2⟩
/-- in a list of data, in a tuple of scalars, a sign in a text -/
def D.flat : D → Bool
  | .non => true
  | .bl _ => true
  | .int _ => true
  | .str _ => true
  | _ => false
def inD (x : D) (ds : List D) : Bool := ds.any fun z => eqD z x
def pIn (f : Bool → Bool) : P2 := fun x y k => match y.toD with
  | .lst ds => okD x.toD ∧ okD (.lst ds) ∧ k (.fz (.bl (f (inD x.toD ds))))
  | .tup ds => x.toD.flat = true ∧ ds.all D.flat = true ∧ k (.fz (.bl (f (inD x.toD ds))))
  | .str z => match x.toD with
    | .str c => c.length = 1 ∧ k (.fz (.bl (f (decide (c.cps.getD 0 0 ∈ z.cps.toList)))))
    | _ => False
  | _ => False
theorem toPs_map : ∀ ds : List D, toPs ds = ds.map toP
  | [] => rfl
  | d :: ds => by rw [toPs, toPs_map ds]; rfl
theorem flat_V {B : Bk} {H : Hp} {v : V} {d : D} (h : Rp B H v d) (f : d.flat = true) : flatV v = true := by
  cases d <;> first
    | (cases f; done)
    | (unfold Rp at h
       subst h
       rfl)
theorem flats_V {B : Bk} {H : Hp} : ∀ {xs : List V} {ds : List D}, Rps B H xs ds → ds.all D.flat = true → xs.all flatV = true
  | _, [], h, _ => by rw [show _ = [] from h]; rfl
  | _, d :: ds, h, f => by
    obtain ⟨x, r, rfl, h2, h3⟩ := h
    rw [List.all_cons, Bool.and_eq_true] at f
    rw [List.all_cons, flat_V h2 f.1, flats_V h3 f.2]
    rfl
theorem eqV_D {B : Bk} {H : Hp} {v u : V} {d e : D} (h : Rp B H v d) (g : Rp B H u e) (f : d.flat = true) (f' : e.flat = true) : eqV v u = eqD d e := by
  cases d <;> first
    | (cases f; done)
    | (unfold Rp at h
       subst h
       cases e <;> first
         | (cases f'; done)
         | (unfold Rp at g
            subst g
            simp only [eqD, toP, PyData.eqv, eqV]))
theorem inV_D {B : Bk} {H : Hp} {v : V} {d : D} (h : Rp B H v d) (f : d.flat = true) : ∀ {xs : List V} {ds : List D}, Rps B H xs ds → ds.all D.flat = true → inV v xs = inD d ds
  | _, [], g, _ => by rw [show _ = [] from g]; rfl
  | _, e :: ds, g, f' => by
    obtain ⟨x, r, rfl, h2, h3⟩ := g
    rw [List.all_cons, Bool.and_eq_true] at f'
    show (eqV x v || inV v r) = (eqD e d || inD d ds)
    rw [eqV_D h2 h f'.1 f, inV_D h f h3 f'.2]
end Q

set_option autoImplicit false
set_option linter.all false
/-! Q3: in, is, subscripts, slices, built-in functions, methods of texts -/
namespace Q
open PySem L2
/-! ### in, is -/
def rInA (K : PySem.W.Frag) : R2 := fun x y H Q => rInD K x y H Q ∨ rIn K false x y H Q ∨ ∃ (c : Nat) (z : Str), x = .str ⟨#[c]⟩ ∧ y = .str z ∧ Q (.bl (decide (c ∈ z.cps.toList))) H
def rNotInA (K : PySem.W.Frag) : R2 := fun x y H Q => rNotInD K x y H Q ∨ rIn K true x y H Q ∨ ∃ (c : Nat) (z : Str), x = .str ⟨#[c]⟩ ∧ y = .str z ∧ Q (.bl (!decide (c ∈ z.cps.toList))) H
theorem op_inA {X : Cx} (hu : X.A.units + 65 < cLine) : OpR X (compareOp .In) (rInA X.K) := (op_inD hu).or (op_in_seq.or op_in_sign)
theorem op_notInA {X : Cx} (hu : X.A.units + 65 < cLine) : OpR X (compareOp .NotIn) (rNotInA X.K) := (op_notInD hu).or (op_notIn_seq.or op_notIn_sign)
theorem any_toPs (d : D) : ∀ ds : List D, (toPs ds).any (fun z => PyData.eqv z (toP d)) = inD d ds
  | [] => rfl
  | e :: ds => by
    show (PyData.eqv (toP e) (toP d) || (toPs ds).any _) = (eqD e d || inD d ds)
    rw [any_toPs d ds]
    rfl
theorem sign_of {c : Str} (h : c.length = 1) : c = ⟨#[c.cps.getD 0 0]⟩ := by
  obtain ⟨⟨l⟩⟩ := c
  cases l with
  | nil => cases h
  | cons x l =>
    cases l with
    | nil => rfl
    | cons y l =>
      exfalso
      have : (x :: y :: l).length = 1 := h
      simp at this
theorem l_in {X : Cx} {C : Cxt} (F : Fit X C) : Lift2 C (rInA X.K) (pIn id) := by
  intro ρ σ H S x y vx vy k Q st ox oy h q
  rw [← F.K]
  unfold pIn at h
  split at h
  · rename_i ds e
    refine .inl ⟨toP x.toD, toPs ds, ox.dp h.1, ?_, shaped_of h.1, ?_, ?_⟩
    · have := oy.dp (e ▸ h.2.1); rw [e] at this; exact this
    · exact shaped_of (d := .lst ds) h.2.1
    · rw [any_toPs]; exact ans_bl st q h.2.2
  · rename_i ds e
    obtain ⟨b, us, rfl, g1, g2, g3⟩ := oy.tup e
    refine .inr (.inl ⟨b, us, rfl, .inr g1, flat_V ox.rp h.1, flats_V g3 h.2.1, ?_⟩)
    rw [inV_D (Rp.same (hid_same (S := [])) _ (by rw [show hid [] H = H from by funext a; rfl]; exact ox.rp)) h.1 (Rps.same hid_same _ g3) h.2.1]
    exact ans_bl st q h.2.2
  · rename_i z e
    split at h
    · rename_i c e'
      rw [ox.str e', oy.str e]
      refine .inr (.inr ⟨c.cps.getD 0 0, z, congrArg V.str (sign_of h.1), rfl, ans_bl st q h.2⟩)
    · exact h.elim
  · exact h.elim
theorem l_notIn {X : Cx} {C : Cxt} (F : Fit X C) : Lift2 C (rNotInA X.K) (pIn not) := by
  intro ρ σ H S x y vx vy k Q st ox oy h q
  rw [← F.K]
  unfold pIn at h
  split at h
  · rename_i ds e
    refine .inl ⟨toP x.toD, toPs ds, ox.dp h.1, ?_, shaped_of h.1, ?_, ?_⟩
    · have := oy.dp (e ▸ h.2.1); rw [e] at this; exact this
    · exact shaped_of (d := .lst ds) h.2.1
    · rw [any_toPs]; exact ans_bl st q h.2.2
  · rename_i ds e
    obtain ⟨b, us, rfl, g1, g2, g3⟩ := oy.tup e
    refine .inr (.inl ⟨b, us, rfl, .inr g1, flat_V ox.rp h.1, flats_V g3 h.2.1, ?_⟩)
    rw [inV_D (Rp.same (hid_same (S := [])) _ (by rw [show hid [] H = H from by funext a; rfl]; exact ox.rp)) h.1 (Rps.same hid_same _ g3) h.2.1]
    exact ans_bl st q h.2.2
  · rename_i z e
    split at h
    · rename_i c e'
      rw [ox.str e', oy.str e]
      refine .inr (.inr ⟨c.cps.getD 0 0, z, congrArg V.str (sign_of h.1), rfl, ans_bl st q h.2⟩)
    · exact h.elim
  · exact h.elim
def isNon : D → Bool
  | .non => true
  | _ => false
def D.told : D → Bool
  | .raw _ => false
  | _ => true
def pIs (f : Bool → Bool) : P2 := fun x y k => match y.toD with
  | .non => x.toD.told = true ∧ k (.fz (.bl (f (isNon x.toD))))
  | .bl b => match x.toD with
    | .bl a => k (.fz (.bl (f (decide (a = b)))))
    | _ => False
  | _ => False
theorem non_V {B : Bk} {H : Hp} {v : V} {d : D} (h : Rp B H v d) (t : d.told = true) : decide (v = .non) = isNon d := by
  cases d with
  | raw _ => cases t
  | non => rw [show v = _ from h]; rfl
  | bl _ => rw [show v = _ from h]; rfl
  | int _ => rw [show v = _ from h]; rfl
  | str _ => rw [show v = _ from h]; rfl
  | bag => rw [show v = _ from h]; rfl
  | lst _ => obtain ⟨a, _, rfl, _⟩ := h; rfl
  | tup _ => obtain ⟨a, _, rfl, _⟩ := h; rfl
  | obj _ _ _ => obtain ⟨a, _, _, _, rfl, _⟩ := h; rfl
  | dic _ _ => obtain ⟨a, _, rfl, _⟩ := h; rfl
def rIsA : R2 := fun x y H Q => (y = .non ∧ Q (.bl (decide (x = .non))) H) ∨ rIsB x y H Q
def rNotIsA : R2 := fun x y H Q => (y = .non ∧ Q (.bl (!decide (x = .non))) H) ∨ rNotB x y H Q
theorem op_isA {X : Cx} : OpR X (compareOp .Is) rIsA := op_isN.or op_isBl
theorem op_isNotA {X : Cx} : OpR X (compareOp .IsNot) rNotIsA := op_notN.or op_notBl
theorem l_is {C : Cxt} : Lift2 C rIsA (pIs id) := by
  intro ρ σ H S x y vx vy k Q st ox oy h q
  unfold pIs at h
  split at h
  · rename_i e
    refine .inl ⟨oy.non e, ?_⟩
    rw [non_V ox.rp h.1]
    exact ans_bl st q h.2
  · rename_i b e
    split at h
    · rename_i a e'
      exact .inr ⟨a, b, ox.bl e', oy.bl e, ans_bl st q h⟩
    · exact h.elim
  · exact h.elim
theorem l_isNot {C : Cxt} : Lift2 C rNotIsA (pIs not) := by
  intro ρ σ H S x y vx vy k Q st ox oy h q
  unfold pIs at h
  split at h
  · rename_i e
    refine .inl ⟨oy.non e, ?_⟩
    rw [non_V ox.rp h.1]
    exact ans_bl st q h.2
  · rename_i b e
    split at h
    · rename_i a e'
      exact .inr ⟨a, b, ox.bl e', oy.bl e, ans_bl st q h⟩
    · exact h.elim
  · exact h.elim

/-! ### subscripts, slices -/
def pIx : P2 := fun x y k => match x.toD, y.toD with
  | .lst ds, .int i => ∃ d, atI ds i = some d ∧ k (.fz d)
  | .tup ds, .int i => ∃ d, atI ds i = some d ∧ k (.fz d)
  | .str z, .int i => z.length ≤ sizeLine ∧ ∃ c, atI z.cps.toList i = some c ∧ k (.fz (.str ⟨#[c]⟩))
  | _, _ => False
theorem atI_of {B : Bk} {H : Hp} {xs : List V} {ds : List D} {i : Int} {d : D} (r : Rps B H xs ds) (h : atI ds i = some d) : ∃ x, atI xs i = some x ∧ Rp B H x d := by
  unfold atI at *
  rw [r.len]
  cases e : ixN ds.length i with
  | none => rw [e] at h; cases h
  | some j =>
    rw [e] at h
    exact r.of h
theorem l_ix {X : Cx} {C : Cxt} (F : Fit X C) : Lift2 C (rIx X.K) pIx := by
  intro ρ σ H S x y vx vy k Q st ox oy h q
  rw [← F.K]
  unfold pIx at h
  split at h
  · rename_i ds i e1 e2
    obtain ⟨d, h1, h2⟩ := h
    obtain ⟨a, us, rfl, g1, _, g3⟩ := ox.lst e1
    obtain ⟨u, u1, u2⟩ := atI_of g3 h1
    exact .inl ⟨a, us, i, u, rfl, oy.int e2, SqL.of g1, u1, ans_fz st q u2 h2⟩
  · rename_i ds i e1 e2
    obtain ⟨d, h1, h2⟩ := h
    obtain ⟨a, us, rfl, g1, _, g3⟩ := ox.tup e1
    obtain ⟨u, u1, u2⟩ := atI_of g3 h1
    exact .inr (.inl ⟨a, us, i, u, rfl, oy.int e2, g1, u1, ans_fz st q u2 h2⟩)
  · rename_i z i e1 e2
    obtain ⟨h0, c, h1, h2⟩ := h
    exact .inr (.inr ⟨z, i, c, ox.str e1, oy.int e2, h0, h1, ans_str st q h2⟩)
  · exact h.elim
/-- a part of a slice: nothing, or a number -/
structure QO (X : Cx) (C : Cxt) (e : Option Expr) (t : TO) (w : Ev → (Option Int → Ev → Prop) → Prop) : Prop where
  po : PO X e t
  ok : ∀ (ρ ρx : Ev) (σ σx : St) (H : Hp) (S : List Addr) (k : Option Int → Ev → Prop) (Q : Option Int → Hp → Prop), ρ.length = σ.length → Sta C (ρ ++ ρx) (σ ++ σx) H S → w ρ k →
    (∀ (o : Option Int) (ρ' : Ev) (H' : Hp) (S' : List Addr), ρ'.length = σ.length → Sta C (ρ' ++ ρx) (σ ++ σx) H' S' → k o ρ' → Q o H') → t σ H Q
section
variable {X : Cx} {C : Cxt} {e a bx : Expr} {t ta tb : TE} {w wa wb : WE} {pos : Pos}
theorem qo_none : QO X C none tNoPart (fun ρ k => k none ρ) := ⟨po_none, fun ρ ρx σ σx H S k Q hl st hw q => q none ρ H S hl st hw⟩
def wPart (w : WE) : Ev → (Option Int → Ev → Prop) → Prop := fun ρ k => w ρ fun x ρ1 => match x.toD with
  | .int i => k (some i) ρ1
  | _ => False
theorem qo_some (h : PB X C e t w) : QO X C (some e) (tPart t) (wPart w) := ⟨po_some h.pe, by
  intro ρ ρx σ σx H S k Q hl st hw q
  refine h.ok ρ ρx σ σx H S _ _ hl st hw fun x ρ1 v H1 S1 hl1 st1 ok hk => ?_
  split at hk
  · rename_i i e
    exact ⟨i, ok.int e, q (some i) ρ1 H1 S1 hl1 st1 hk⟩
  · exact hk.elim⟩
/-- x[lo:hi] -/
def pSl (x : Sl) (lo hi : Option Int) (k : Sl → Prop) : Prop := match x.toD with
  | .lst ds => k (.ol (cutD ds lo hi))
  | .tup ds => k (.fz (.tup (cutD ds lo hi)))
  | .str z => z.length ≤ sizeLine ∧ k (.fz (.str (cutS z lo hi)))
  | _ => False
def rSlAll (K : PySem.W.Frag) : V → Option Int → Option Int → Hp → VK → Prop := fun x lo hi H Q => rSlL K x lo hi H Q ∨ rSlA K x lo hi H Q ∨ rSlS x lo hi H Q
theorem sl_all : SlR X (rSlAll X.K) := sl_list.or (sl_tupA.or sl_str)
theorem cut_whole {ds : List D} {lo hi : Option Int} (h : HT.sIx ds.length 0 lo = 0 ∧ HT.sIx ds.length ds.length hi = ds.length) : cutD ds lo hi = ds := by
  unfold cutD
  rw [h.1, h.2, List.drop_zero, Nat.sub_zero, List.take_length]
theorem l_sl (F : Fit X C) {ρ : Ev} {σ : St} {H : Hp} {S : List Addr} {x : Sl} {vx : V} {lo hi : Option Int} {k : Sl → Prop} {Q : VK} (st : Sta C ρ σ H S) (ox : SlOk C S H vx x) (h : pSl x lo hi k) (q : Ans C ρ σ k Q) : rSlAll X.K vx lo hi H Q := by
  rw [← F.K]
  unfold pSl at h
  split at h
  · rename_i ds e
    obtain ⟨a, us, rfl, g1, g2, g3⟩ := ox.lst e
    exact .inl ⟨a, us, rfl, SqL.of g1, fun p hp => ans_ol st q (Nat.le_trans (cutV_length _ _ _) g2) (g3.cut lo hi) h p hp⟩
  · rename_i ds e
    obtain ⟨a, us, rfl, g1, g2, g3⟩ := ox.tup e
    refine .inr (.inl ⟨a, us, rfl, g1, fun z => ?_, fun _ p hp => ?_⟩)
    · rw [g3.len] at z
      rw [cut_whole z] at h
      cases x with
      | ol _ => cases e
      | fz d => cases e; exact ans_fz st q ox h
    · exact ans_tup st q (Nat.le_trans (cutV_length _ _ _) g2) (g3.cut lo hi) h p hp
  · rename_i z e
    exact .inr (.inr ⟨z, ox.str e, h.1, ans_str st q h.2⟩)
  · exact h.elim
def wSl (w : WE) (wl wh : Ev → (Option Int → Ev → Prop) → Prop) : WE := fun ρ k => w ρ fun x ρ1 => wl ρ1 fun lo ρ2 => wh ρ2 fun hi ρ3 => pSl (.fz x.toD) lo hi fun z => k z ρ3
theorem pd_sl {lo hi : Option Expr} {tl th : TO} {wl wh : Ev → (Option Int → Ev → Prop) → Prop} {p2 : Pos} (F : Fit X C) (he : PD X C e t w) (hl : QO X C lo tl wl) (hh : QO X C hi th wh) : PD X C (.Subscript e (.Slice lo hi none p2) pos) (tSl (rSlAll X.K) t tl th) (wSl w wl wh) := ⟨pe_slice sl_all he.pe hl.po hh.po, by
  intro ρ ρx σ σx H S k Q hlen st hw q
  refine he.ok ρ ρx σ σx H S _ _ hlen st hw fun x ρ1 vx H1 S1 hl1 st1 hw1 => ?_
  obtain ⟨S1', st1⟩ := st1.lastD
  rw [List.append_assoc, List.append_assoc] at st1
  refine hl.ok ρ1 (ρx ++ [some (.fz x.toD)]) σ (σx ++ [some vx]) H1 S1' _ _ hl1 st1 hw1 fun o1 ρ2 H2 S2 hl2 st2 hw2 => ?_
  refine hh.ok ρ2 (ρx ++ [some (.fz x.toD)]) σ (σx ++ [some vx]) H2 S2 _ _ hl2 st2 hw2 fun o2 ρ3 H3 S3 hl3 st3 hp => ?_
  rw [← List.append_assoc, ← List.append_assoc] at st3
  have lx : (ρ3 ++ ρx).length = (σ ++ σx).length := by have := st3.len; simp only [List.length_append, List.length_cons, List.length_nil] at *; omega
  exact l_sl F st3.popLast (st3.last lx) hp fun z v H' S' st' hk => q z ρ3 v H' S' hl3 st' hk⟩
def wSlV (i : Nat) (wl wh : Ev → (Option Int → Ev → Prop) → Prop) : WE := fun ρ k => (∃ s, ρ[i]? = some (some s)) ∧ wl ρ fun lo ρ2 => wh ρ2 fun hi ρ3 => match ρ3[i]? with
  | some (some x) => pSl x lo hi fun z => k z ρ3
  | _ => False
theorem pd_slV {lo hi : Option Expr} {tl th : TO} {wl wh : Ev → (Option Int → Ev → Prop) → Prop} {p2 : Pos} (F : Fit X C) {i : Nat} (he : PE X e (tVar i)) (hl : QO X C lo tl wl) (hh : QO X C hi th wh) : PD X C (.Subscript e (.Slice lo hi none p2) pos) (tSl (rSlAll X.K) (tVar i) tl th) (wSlV i wl wh) := ⟨pe_slice sl_all he hl.po hh.po, by
  intro ρ ρx σ σx H S k Q hlen st hw q
  obtain ⟨⟨s0, e0⟩, hw⟩ := hw
  obtain ⟨v, h1, _⟩ := st.get (get_app e0)
  refine ⟨v, of_get_app h1 (hlen ▸ lt_of_get e0), ?_⟩
  refine hl.ok ρ ρx σ σx H S _ _ hlen st hw fun o1 ρ2 H2 S2 hl2 st2 hw2 => ?_
  refine hh.ok ρ2 ρx σ σx H2 S2 _ _ hl2 st2 hw2 fun o2 ρ3 H3 S3 hl3 st3 hp => ?_
  split at hp
  · rename_i x e1
    obtain ⟨v', h2, okx⟩ := st3.get (get_app e1)
    rw [h1] at h2
    cases h2
    exact l_sl F st3 okx hp fun z v H' S' st' hk => q z ρ3 v H' S' hl3 st' hk
  · exact hp.elim⟩
/-- x[::-1] of a list -/
def pRev : P1 := fun x k => match x.toD with
  | .lst ds => k (.ol ds.reverse)
  | _ => False
theorem pd_rev (F : Fit X C) {n : Nat} {p1 p2 p3 pos : Pos} (he : PB X C e t w) : PD X C (.Subscript e (.Slice none none (some (.UnaryOp .USub (.Constant (.int 1) n p1) p2)) p3) pos) (tRevL X.K t) (wUn pRev w) := ⟨pe_revL he.pe, by
  refine ok_un (r := fun x H1 Q => ∃ a xs, x = .ref a ∧ SqL X.K H1 a xs ∧ ∀ p, H1 p = none → Q (.ref p) (upd H1 p (.lst xs.reverse))) ?_ he.ok
  intro ρ σ H S x vx k Q st ox h q
  unfold pRev at h
  split at h
  · rename_i ds e
    obtain ⟨a, us, rfl, g1, g2, g3⟩ := ox.lst e
    exact ⟨a, us, rfl, SqL.of g1, fun p hp => ans_ol st q (by rw [List.length_reverse]; exact g2) g3.rev h p hp⟩
  · exact h.elim⟩
end

/-! ### built-in functions of one argument -/
def pLen : P1 := fun x k => match x.toD with
  | .lst ds => k (.fz (.int ds.length))
  | .tup ds => k (.fz (.int ds.length))
  | .str z => z.length ≤ sizeLine ∧ k (.fz (.int z.length))
  | .dic ks _ => k (.fz (.int ks.length))
  | _ => False

def rLenA (K : PySem.W.Frag) : List V → Hp → VK → Prop := fun xs H Q => ∃ x n, xs = [x] ∧ LenV K x H n ∧ Q (.int n) H
def rLen2 (K : PySem.W.Frag) : List V → Hp → VK → Prop := fun xs H Q => rLenA K xs H Q ∨ ∃ d kvs, xs = [.ref d] ∧ H d = some (.dK kvs) ∧ Q (.int kvs.length) H
section
variable {X : Cx} {C : Cxt}
theorem len_V {C : Cxt} {S : List Addr} {H : Hp} {v : V} {s : Sl} {k : Sl → Prop} (ok : SlOk C S H v s) (h : pLen s k) : (∃ n : Nat, LenV C.B.K v H n ∧ k (.fz (.int n))) ∨ ∃ (d : Addr) (kvs : List (Key × V)), v = .ref d ∧ H d = some (.dK kvs) ∧ k (.fz (.int kvs.length)) := by
  unfold pLen at h
  split at h
  · rename_i ds e
    obtain ⟨a, us, rfl, g1, g2, g3⟩ := ok.lst e
    exact .inl ⟨us.length, .inl ⟨us, SqL.of g1, rfl⟩, by rw [g3.len]; exact h⟩
  · rename_i ds e
    obtain ⟨a, us, rfl, g1, g2, g3⟩ := ok.tup e
    exact .inl ⟨us.length, .inr ⟨us, g1, rfl⟩, by rw [g3.len]; exact h⟩
  · rename_i z e
    rw [ok.str e]
    exact .inl ⟨z.length, ⟨h.1, rfl⟩, h.2⟩
  · rename_i ks ds e
    have r := ok.rp
    rw [e] at r
    obtain ⟨a, kvs, rfl, g1, _, rfl, _⟩ := r
    rw [List.length_map] at h
    exact .inr ⟨a, kvs, rfl, g1, h⟩
  · exact h.elim
theorem l_len (F : Fit X C) : Lift1 C (fun v H Q => rLen2 X.K [v] H Q) pLen := by
  intro ρ σ H S x vx k Q st ox h q
  rcases len_V ox h with ⟨n, h1, h2⟩ | ⟨d, kvs, rfl, h1, h2⟩
  · rw [F.K] at h1
    exact .inl ⟨vx, n, rfl, h1, ans_int st q h2⟩
  · exact .inr ⟨d, kvs, rfl, h1, ans_int st q h2⟩
def pAbs : P1 := fun x k => match x.toD with
  | .int i => k (.fz (.int (if i < 0 then -i else i)))
  | _ => False
theorem l_abs : Lift1 C (fun v H Q => ∃ i, [v] = [V.int i] ∧ Q (.int (if i < 0 then -i else i)) H) pAbs := by
  intro ρ σ H S x vx k Q st ox h q
  unfold pAbs at h
  split at h
  · rename_i i e
    exact ⟨i, by rw [ox.int e], ans_int st q h⟩
  · exact h.elim
def pInt : P1 := fun x k => match x.toD with
  | .int i => k (.fz (.int i))
  | .bl b => k (.fz (.int (if b then 1 else 0)))
  | .str z => z.length ≤ 640 ∧ ∃ n, PySem.intText? z = some n ∧ k (.fz (.int n))
  | _ => False
def rIntA : List V → Hp → VK → Prop := fun xs H Q => ((∃ i, xs = [.int i] ∧ Q (.int i) H) ∨ ∃ k, xs = [.bl k] ∧ Q (.int (if k then 1 else 0)) H) ∨ ∃ a n, xs = [.str a] ∧ PySem.intText? a = some n ∧ a.length ≤ 640 ∧ Q (.int n) H
theorem call_intA : CallR X (.type "int") rIntA := call_int1.or call_int_str
theorem l_int : Lift1 C (fun v H Q => rIntA [v] H Q) pInt := by
  intro ρ σ H S x vx k Q st ox h q
  unfold pInt at h
  split at h
  · rename_i i e
    exact .inl (.inl ⟨i, by rw [ox.int e], ans_int st q h⟩)
  · rename_i b e
    exact .inl (.inr ⟨b, by rw [ox.bl e], ans_int st q h⟩)
  · rename_i z e
    obtain ⟨h0, n, h1, h2⟩ := h
    exact .inr ⟨z, n, by rw [ox.str e], h1, h0, ans_int st q h2⟩
  · exact h.elim
def pBool : P1 := fun x k => match x.toD with
  | .int i => k (.fz (.bl (i != 0)))
  | .bl b => k (.fz (.bl b))
  | _ => False
def rBoolA : List V → Hp → VK → Prop := fun xs H Q => (∃ i, xs = [.int i] ∧ Q (.bl (i != 0)) H) ∨ ∃ k, xs = [.bl k] ∧ Q (.bl k) H
theorem l_bool : Lift1 C (fun v H Q => rBoolA [v] H Q) pBool := by
  intro ρ σ H S x vx k Q st ox h q
  unfold pBool at h
  split at h
  · rename_i i e
    exact .inl ⟨i, by rw [ox.int e], ans_bl st q h⟩
  · rename_i b e
    exact .inr ⟨b, by rw [ox.bl e], ans_bl st q h⟩
  · exact h.elim
/-- str of a number -/
def tS (i : Int) : Str := Str.ofString (toString i)
def pStr : P1 := fun x k => match x.toD with
  | .int i => i.natAbs.log2 < 1920 ∧ k (.fz (.str (tS i)))
  | _ => False
theorem l_str : Lift1 C (fun v H Q => ∃ i, [v] = [V.int i] ∧ i.natAbs.log2 < 1920 ∧ Q (.str (toString i)) H) pStr := by
  intro ρ σ H S x vx k Q st ox h q
  unfold pStr at h
  split at h
  · rename_i i e
    exact ⟨i, by rw [ox.int e], h.1, ans_str st q h.2⟩
  · exact h.elim
def pList : P1 := fun x k => match x.toD with
  | .lst ds => k (.ol ds)
  | .tup ds => k (.ol ds)
  | _ => False
def rListA (K : PySem.W.Frag) : List V → Hp → VK → Prop := fun xs H Q => ∃ p ys, xs = [.ref p] ∧ (SqL K H p ys ∨ SqT K H p ys) ∧ ∀ l, H l = none → Q (.ref l) (upd H l (.lst ys))
theorem l_list (F : Fit X C) : Lift1 C (fun v H Q => rListA X.K [v] H Q) pList := by
  intro ρ σ H S x vx k Q st ox h q
  rw [← F.K]
  unfold pList at h
  split at h
  · rename_i ds e
    obtain ⟨a, us, rfl, g1, g2, g3⟩ := ox.lst e
    exact ⟨a, us, rfl, .inl (SqL.of g1), fun p hp => ans_ol st q g2 g3 h p hp⟩
  · rename_i ds e
    obtain ⟨a, us, rfl, g1, g2, g3⟩ := ox.tup e
    exact ⟨a, us, rfl, .inr g1, fun p hp => ans_ol st q g2 g3 h p hp⟩
  · exact h.elim
def pTuple : P1 := fun x k => match x.toD with
  | .lst ds => k (.fz (.tup ds))
  | .tup ds => k (.fz (.tup ds))
  | _ => False
def rTupleA (K : PySem.W.Frag) : List V → Hp → VK → Prop := fun xs H Q => ∃ p ys, xs = [.ref p] ∧ ((SqL K H p ys ∧ ∀ l, H l = none → Q (.ref l) (upd H l (.tup ys))) ∨ (SqT K H p ys ∧ Q (.ref p) H))
theorem l_tuple (F : Fit X C) : Lift1 C (fun v H Q => rTupleA X.K [v] H Q) pTuple := by
  intro ρ σ H S x vx k Q st ox h q
  rw [← F.K]
  unfold pTuple at h
  split at h
  · rename_i ds e
    obtain ⟨a, us, rfl, g1, g2, g3⟩ := ox.lst e
    exact ⟨a, us, rfl, .inl ⟨SqL.of g1, fun p hp => ans_tup st q g2 g3 h p hp⟩⟩
  · rename_i ds e
    cases x with
    | ol _ => cases e
    | fz d =>
      cases e
      obtain ⟨a, us, rfl, g1, g2, g3⟩ := id ox
      exact ⟨a, us, rfl, .inr ⟨sameT hid_same g1, ans_fz st q ox h⟩⟩
  · exact h.elim
/-- the numbers of data -/
def intsD : List D → Option (List Int)
  | [] => some []
  | .int i :: ds => (intsD ds).map (i :: ·)
  | _ :: _ => none
theorem ints_V {B : Bk} {H : Hp} : ∀ {xs : List V} {ds : List D} {ns : List Int}, Rps B H xs ds → intsD ds = some ns → xs = ns.map V.int
  | _, [], _, h, e => by cases e; exact h
  | _, d :: ds, ns, h, e => by
    obtain ⟨x, r, rfl, h2, h3⟩ := h
    cases d with
    | int i =>
      unfold intsD at e
      cases q : intsD ds with
      | none => rw [q] at e; cases e
      | some ms =>
        rw [q] at e
        cases e
        rw [ints_V h3 q, show x = V.int i from h2]
        rfl
    | _ => cases e
theorem ints_map (ns : List Int) : intsD (ns.map D.int) = some ns := by
  induction ns with
  | nil => rfl
  | cons n ns ih => show (intsD (ns.map D.int)).map (n :: ·) = _; rw [ih]; rfl
def blsD : List D → Option (List Bool)
  | [] => some []
  | .bl i :: ds => (blsD ds).map (i :: ·)
  | _ :: _ => none
theorem bls_V {B : Bk} {H : Hp} : ∀ {xs : List V} {ds : List D} {ns : List Bool}, Rps B H xs ds → blsD ds = some ns → xs = ns.map V.bl
  | _, [], _, h, e => by cases e; exact h
  | _, d :: ds, ns, h, e => by
    obtain ⟨x, r, rfl, h2, h3⟩ := h
    cases d with
    | bl i =>
      unfold blsD at e
      cases q : blsD ds with
      | none => rw [q] at e; cases e
      | some ms =>
        rw [q] at e
        cases e
        rw [bls_V h3 q, show x = V.bl i from h2]
        rfl
    | _ => cases e
theorem bls_map (ns : List Bool) : blsD (ns.map D.bl) = some ns := by
  induction ns with
  | nil => rfl
  | cons n ns ih => show (blsD (ns.map D.bl)).map (n :: ·) = _; rw [ih]; rfl
def strsD : List D → Option (List Str)
  | [] => some []
  | .str i :: ds => (strsD ds).map (i :: ·)
  | _ :: _ => none
theorem strs_V {B : Bk} {H : Hp} : ∀ {xs : List V} {ds : List D} {ns : List Str}, Rps B H xs ds → strsD ds = some ns → xs = ns.map V.str
  | _, [], _, h, e => by cases e; exact h
  | _, d :: ds, ns, h, e => by
    obtain ⟨x, r, rfl, h2, h3⟩ := h
    cases d with
    | str i =>
      unfold strsD at e
      cases q : strsD ds with
      | none => rw [q] at e; cases e
      | some ms =>
        rw [q] at e
        cases e
        rw [strs_V h3 q, show x = V.str i from h2]
        rfl
    | _ => cases e
theorem strs_map (ns : List Str) : strsD (ns.map D.str) = some ns := by
  induction ns with
  | nil => rfl
  | cons n ns ih => show (strsD (ns.map D.str)).map (n :: ·) = _; rw [ih]; rfl
theorem Rps.ints {B : Bk} {H : Hp} : ∀ ns : List Int, Rps B H (ns.map V.int) (ns.map D.int)
  | [] => rfl
  | n :: ns => ⟨_, _, rfl, rfl, Rps.ints ns⟩
theorem Rps.strs {B : Bk} {H : Hp} : ∀ ns : List Str, Rps B H (ns.map V.str) (ns.map D.str)
  | [] => rfl
  | n :: ns => ⟨_, _, rfl, rfl, Rps.strs ns⟩
/-- of a list of numbers -/
def pNums (P : List Int → (Sl → Prop) → Prop) : P1 := fun x k => match x.toD with
  | .lst ds => ∃ ns, intsD ds = some ns ∧ P ns k
  | _ => False
def pSum : P1 := pNums fun ns k => k (.fz (.int ns.sum))
theorem l_sum (F : Fit X C) : Lift1 C (fun v H Q => rSum X.K [v] H Q) pSum := by
  intro ρ σ H S x vx k Q st ox h q
  rw [← F.K]
  unfold pSum pNums at h
  split at h
  · rename_i ds e
    obtain ⟨ns, h1, h2⟩ := h
    obtain ⟨a, us, rfl, g1, g2, g3⟩ := ox.lst e
    obtain rfl := ints_V g3 h1
    exact ⟨a, ns, rfl, SqL.of g1, ans_int st q h2⟩
  · exact h.elim
def pMaxL : P1 := pNums fun ns k => 0 < ns.length ∧ ∀ m, m ∈ ns → (∀ y, y ∈ ns → y ≤ m) → k (.fz (.int m))
theorem l_maxL (F : Fit X C) : Lift1 C (fun v H Q => rMax X.K [v] H Q) pMaxL := by
  intro ρ σ H S x vx k Q st ox h q
  rw [← F.K]
  unfold pMaxL pNums at h
  split at h
  · rename_i ds e
    obtain ⟨ns, h1, h0, h2⟩ := h
    obtain ⟨a, us, rfl, g1, g2, g3⟩ := ox.lst e
    obtain rfl := ints_V g3 h1
    exact ⟨a, ns, rfl, SqL.of g1, h0, fun m hm hy => ans_int st q (h2 m hm hy)⟩
  · exact h.elim
/-- all, any of a list of truth values -/
def pBls (f : List Bool → Bool) : P1 := fun x k => match x.toD with
  | .lst ds => ∃ bs, blsD ds = some bs ∧ k (.fz (.bl (f bs)))
  | _ => False
abbrev pAll : P1 := pBls fun bs => bs.all id
abbrev pAny : P1 := pBls fun bs => bs.any id
theorem l_all (F : Fit X C) : Lift1 C (fun v H Q => rAll X.K [v] H Q) pAll := by
  intro ρ σ H S x vx k Q st ox h q
  rw [← F.K]
  unfold pAll pBls at h
  split at h
  · rename_i ds e
    obtain ⟨ns, h1, h2⟩ := h
    obtain ⟨a, us, rfl, g1, g2, g3⟩ := ox.lst e
    obtain rfl := bls_V g3 h1
    exact ⟨a, ns, rfl, SqL.of g1, ans_bl st q h2⟩
  · exact h.elim
theorem l_any (F : Fit X C) : Lift1 C (fun v H Q => rAny X.K [v] H Q) pAny := by
  intro ρ σ H S x vx k Q st ox h q
  rw [← F.K]
  unfold pAny pBls at h
  split at h
  · rename_i ds e
    obtain ⟨ns, h1, h2⟩ := h
    obtain ⟨a, us, rfl, g1, g2, g3⟩ := ox.lst e
    obtain rfl := bls_V g3 h1
    exact ⟨a, ns, rfl, SqL.of g1, ans_bl st q h2⟩
  · exact h.elim
/-- sorted: of numbers, of at most 63 texts -/
def pSorted : P1 := fun x k => match x.toD with
  | .lst ds => (∃ ns, intsD ds = some ns ∧ ∀ ms : List Int, ms.Perm ns → ms.Pairwise (· ≤ ·) → k (.ol (ms.map .int))) ∨ ∃ ss, strsD ds = some ss ∧ ss.length < 64 ∧ ∀ ms : List Str, ms.Perm ss → PyProof.Rows.sortedS ms = true → k (.ol (ms.map .str))
  | _ => False
def rSortA (K : PySem.W.Frag) : List V → Hp → VK → Prop := fun vs H Q => rSortedI K vs H Q ∨ rSortedS K vs H Q
theorem cr_sortA : CallR X (.builtin "sorted") (rSortA X.K) := cr_sortedI.or cr_sortedS
theorem l_sorted (F : Fit X C) : Lift1 C (fun v H Q => rSortA X.K [v] H Q) pSorted := by
  intro ρ σ H S x vx k Q st ox h q
  rw [← F.K]
  unfold pSorted at h
  split at h
  · rename_i ds e
    obtain ⟨a, us, rfl, g1, g2, g3⟩ := ox.lst e
    rcases h with ⟨ns, h1, h2⟩ | ⟨ss, h1, h0, h2⟩
    · obtain rfl := ints_V g3 h1
      refine .inl ⟨a, ns, rfl, SqL.of g1, fun ms p h3 h4 hp => ans_ol st q ?_ (Rps.ints ms) (h2 ms h3 h4) p hp⟩
      rw [List.length_map, h3.length_eq]
      simpa using g2
    · obtain rfl := strs_V g3 h1
      refine .inr ⟨a, ss, rfl, SqL.of g1, h0, fun ms p h3 h4 hp => ans_ol st q ?_ (Rps.strs ms) (h2 ms h3 h4) p hp⟩
      rw [List.length_map, h3.length_eq]
      simpa using g2
  · exact h.elim

/-! ### .. of two -/
def pI2N (P : Int → Int → Prop) (g : Int → Int → Int) : PN := fun ds k => match ds with
  | [.int i, .int j] => P i j ∧ k (.fz (.int (g i j)))
  | _ => False
theorem rps1 {B : Bk} {H : Hp} {vs : List V} {d : D} (h : Rps B H vs [d]) : ∃ v, vs = [v] ∧ Rp B H v d := by
  obtain ⟨x, r, rfl, h2, h3⟩ := h
  rw [show r = [] from h3]
  exact ⟨x, rfl, h2⟩
theorem rps2 {B : Bk} {H : Hp} {vs : List V} {d e : D} (h : Rps B H vs [d, e]) : ∃ v u, vs = [v, u] ∧ Rp B H v d ∧ Rp B H u e := by
  obtain ⟨x, r, rfl, h2, h3⟩ := h
  obtain ⟨u, rfl, h4⟩ := rps1 h3
  exact ⟨x, u, rfl, h2, h4⟩
theorem rps3 {B : Bk} {H : Hp} {vs : List V} {d e f : D} (h : Rps B H vs [d, e, f]) : ∃ v u w, vs = [v, u, w] ∧ Rp B H v d ∧ Rp B H u e ∧ Rp B H w f := by
  obtain ⟨x, r, rfl, h2, h3⟩ := h
  obtain ⟨u, w, rfl, h4, h5⟩ := rps2 h3
  exact ⟨x, u, w, rfl, h2, h4, h5⟩
theorem l_I2N {P : Int → Int → Prop} {g : Int → Int → Int} {r : List V → Hp → VK → Prop} (hr : ∀ i j H Q, P i j → Q (.int (g i j)) H → r [.int i, .int j] H Q) : LiftN C r (pI2N P g) := by
  intro ρ σ H S ds vs k Q st rr h q
  unfold pI2N at h
  split at h
  · rename_i i j
    obtain ⟨v, u, rfl, h1, h2⟩ := rps2 rr
    rw [show v = _ from h1, show u = _ from h2]
    exact hr i j H Q h.1 (ans_int st q h.2)
  · exact h.elim
abbrev pMax2 : PN := pI2N (fun _ _ => True) fun i j => if j > i then j else i
abbrev pMin2 : PN := pI2N (fun _ _ => True) fun i j => if j < i then j else i
theorem l_max2 : LiftN C (fun xs H Q => ∃ i j, xs = [.int i, .int j] ∧ Q (.int (if j > i then j else i)) H) pMax2 := l_I2N fun i j H Q _ h => ⟨i, j, rfl, h⟩
theorem l_min2 : LiftN C (fun xs H Q => ∃ i j, xs = [.int i, .int j] ∧ Q (.int (if j < i then j else i)) H) pMin2 := l_I2N fun i j H Q _ h => ⟨i, j, rfl, h⟩
def pDivmod : PN := fun ds k => match ds with
  | [.int i, .int j] => CDivP i j ∧ k (.fz (.tup [.int (i / j), .int (i % j)]))
  | _ => False
theorem l_divmod : LiftN C (fun xs H Q => ∃ i j, xs = [.int i, .int j] ∧ CDivP i j ∧ ∀ p, H p = none → Q (.ref p) (upd H p (.tup [.int (i / j), .int (i % j)]))) pDivmod := by
  intro ρ σ H S ds vs k Q st rr h q
  unfold pDivmod at h
  split at h
  · rename_i i j
    obtain ⟨v, u, rfl, h1, h2⟩ := rps2 rr
    rw [show v = _ from h1, show u = _ from h2]
    exact ⟨i, j, rfl, h.1, fun p hp => ans_tup st q (by show 2 ≤ 1000000; decide) (Rps.ints [i / j, i % j]) h.2 p hp⟩
  · exact h.elim
end
end Q

set_option autoImplicit false
set_option linter.all false
/-! Q4: statements, targets, loops -/
namespace Q
open PySem L2
structure En where
  nx : Ev → Prop
  rt : Sl → Prop
  bk : Ev → Prop := fun _ => False
  ct : Ev → Prop := fun _ => False
abbrev WS := En → Ev → Prop
/-- what is wanted by the layer follows from what is told -/
structure Fol (C : Cxt) (ρx : Ev) (σx : St) (E : En) (D : Ends) : Prop where
  nx : ∀ (ρ : Ev) (σ : St) (H : Hp) (S : List Addr), ρ.length = σ.length → Sta C (ρ ++ ρx) (σ ++ σx) H S → E.nx ρ → D.nx σ H
  rt : ∀ (ρ : Ev) (σ : St) (H : Hp) (S : List Addr) (s : Sl) (v : V), ρ.length = σ.length → Sta C ((ρ ++ ρx) ++ [some s]) ((σ ++ σx) ++ [some v]) H S → E.rt s → D.rt v H
  bk : ∀ (ρ : Ev) (σ : St) (H : Hp) (S : List Addr), ρ.length = σ.length → Sta C (ρ ++ ρx) (σ ++ σx) H S → E.bk ρ → D.bk σ H
  ct : ∀ (ρ : Ev) (σ : St) (H : Hp) (S : List Addr), ρ.length = σ.length → Sta C (ρ ++ ρx) (σ ++ σx) H S → E.ct ρ → D.ct σ H
def OkS (C : Cxt) (t : TS) (w : WS) : Prop := ∀ (ρ ρx : Ev) (σ σx : St) (H : Hp) (S : List Addr) (E : En) (D : Ends), ρ.length = σ.length → Sta C (ρ ++ ρx) (σ ++ σx) H S → w E ρ → Fol C ρx σx E D → t D σ H
structure QS (X : Cx) (C : Cxt) (st : Stmt) (t : TS) (w : WS) : Prop where
  ps : PS X st t
  ok : OkS C t w
structure QSs (X : Cx) (C : Cxt) (st : List Stmt) (t : TS) (w : WS) : Prop where
  ps : PSs X st t
  ok : OkS C t w
section
variable {X : Cx} {C : Cxt} {e a bx : Expr} {t ta tb : TE} {w wa wb : WE} {pos : Pos} {st : Stmt} {sts : List Stmt} {t1 t2 : TS} {w1 w2 : WS}
theorem qss_nil : QSs X C [] tNext (fun E ρ => E.nx ρ) := ⟨pss_nil, fun ρ ρx σ σx H S E D hl st h f => f.nx ρ σ H S hl st h⟩
def wSeq (w1 w2 : WS) : WS := fun E ρ => w1 { E with nx := w2 E } ρ
theorem ok_seq (h1 : OkS C t1 w1) (h2 : OkS C t2 w2) : OkS C (tSeq t1 t2) (wSeq w1 w2) := fun ρ ρx σ σx H S E D hl st h f =>
  h1 ρ ρx σ σx H S _ _ hl st h ⟨fun ρ' σ' H' S' hl' st' h' => h2 ρ' ρx σ' σx H' S' E D hl' st' h' f, f.rt, f.bk, f.ct⟩
theorem qss_cons (h1 : QS X C st t1 w1) (h2 : QSs X C sts t2 w2) : QSs X C (st :: sts) (tSeq t1 t2) (wSeq w1 w2) := ⟨pss_cons h1.ps h2.ps, ok_seq h1.ok h2.ok⟩
theorem qss_one (h : QS X C st t1 w1) : QSs X C [st] t1 w1 := ⟨pss_one h.ps, h.ok⟩
theorem qs_pass : QS X C (.Pass pos) tNext (fun E ρ => E.nx ρ) := ⟨ps_pass, fun ρ ρx σ σx H S E D hl st h f => f.nx ρ σ H S hl st h⟩
theorem qs_break : QS X C (.Break pos) tBreak (fun E ρ => E.bk ρ) := ⟨ps_break, fun ρ ρx σ σx H S E D hl st h f => f.bk ρ σ H S hl st h⟩
theorem qs_continue : QS X C (.Continue pos) tCont (fun E ρ => E.ct ρ) := ⟨ps_continue, fun ρ ρx σ σx H S E D hl st h f => f.ct ρ σ H S hl st h⟩
theorem qs_never : QS X C st tNever (fun _ _ => False) := ⟨ps_never, fun _ _ _ _ _ _ _ _ _ _ h _ => h.elim⟩
def wDrop (w : WE) : WS := fun E ρ => w ρ fun _ ρ1 => E.nx ρ1
theorem qs_expr (h : PD X C e t w) (hs : swapsWith e none pos.line X.env = pure false := by rfl) : QS X C (.Expr e pos) (tDrop t) (wDrop w) := ⟨ps_expr h.pe hs, fun ρ ρx σ σx H S E D hl st hw f =>
  h.ok ρ ρx σ σx H S _ _ hl st hw fun s ρ' v H' S' hl' st' hk => f.nx ρ' σ H' S' hl' st'.popLast hk⟩
def wRet (w : WE) : WS := fun E ρ => w ρ fun s _ => E.rt s
theorem qs_ret (h : PD X C e t w) : QS X C (.Return (some e) pos) (tRet t) (wRet w) := ⟨ps_ret h.pe, fun ρ ρx σ σx H S E D hl st hw f =>
  h.ok ρ ρx σ σx H S _ _ hl st hw fun s ρ' v H' S' hl' st' hk => f.rt ρ' σ H' S' s v hl' st' hk⟩
theorem qs_retN : QS X C (.Return none pos) tRetN (fun E _ => E.rt (.fz .non)) := ⟨ps_retN, fun ρ ρx σ σx H S E D hl st hw f => f.rt ρ σ H S (.fz .non) .non hl (st.pushF (d := .non) rfl) hw⟩
def wIfS (c : WT) (w1 w2 : WS) : WS := fun E ρ => c ρ fun b ρ1 => if b = true then w1 E ρ1 else w2 E ρ1
theorem qs_if {c : Expr} {tc : TT} {wc : WT} {p q : List Stmt} (hc : QT X C c tc wc) (h1 : QSs X C p t1 w1) (h2 : QSs X C q t2 w2) : QS X C (.If c p q pos) (tIfS tc t1 t2) (wIfS wc w1 w2) := ⟨ps_if hc.pt h1.ps h2.ps, by
  intro ρ ρx σ σx H S E D hl st hw f
  refine hc.ok ρ ρx σ σx H S _ _ hl st hw fun b ρ1 H1 S1 hl1 st1 hk => ?_
  cases b with
  | true => exact h1.ok ρ1 ρx σ σx H1 S1 E D hl1 st1 hk f
  | false => exact h2.ok ρ1 ρx σ σx H1 S1 E D hl1 st1 hk f⟩

/-! ### targets -/
abbrev WG := Sl → Ev → (Ev → Prop) → Prop
/-- the slots at is may change -/
def At (is : List Nat) (σ σ' : St) : Prop := σ'.length = σ.length ∧ ∀ j : Nat, j ∉ is → σ'[j]? = σ[j]?
/-- a value that no slot holds as its own -/
def Apt (ρ : Ev) (σ : St) (s : Sl) (v : V) : Prop := s.own = true → ∀ (i : Nat) (t : Sl), ρ[i]? = some (some t) → t.own = true → σ[i]? ≠ some (some v)
def OkG (C : Cxt) (is : List Nat) (g : TG) (w : WG) : Prop := ∀ (ρ ρx : Ev) (σ σx : St) (H : Hp) (S : List Addr) (s : Sl) (v : V) (k : Ev → Prop) (Q : St → Hp → Prop), ρ.length = σ.length → Sta C (ρ ++ ρx) (σ ++ σx) H S → SlOk C S H v s → Apt (ρ ++ ρx) (σ ++ σx) s v → w s ρ k →
  (∀ (ρ' : Ev) (σ' : St) (H' : Hp) (S' : List Addr), ρ'.length = σ'.length → At is σ σ' → Sta C (ρ' ++ ρx) (σ' ++ σx) H' S' → k ρ' → Q σ' H') → g v σ H Q
structure QG (X : Cx) (C : Cxt) (is : List Nat) (tg : Expr) (g : TG) (w : WG) : Prop where
  pg : PG X tg g
  ok : OkG C is g w
theorem Sta.apt {ρ : Ev} {σ : St} {H : Hp} {S : List Addr} {s : Sl} {v : V} (st : Sta C (ρ ++ [some s]) (σ ++ [some v]) H S) : Apt ρ σ s v := fun o i t ei to q => by
  have l := st.popLast.len
  have := st.ap i ρ.length t s v (get_app ei) (by rw [List.getElem?_append_right (Nat.le_refl _), Nat.sub_self]; rfl) to o (get_app q) (by rw [l, List.getElem?_append_right (Nat.le_refl _), Nat.sub_self]; rfl)
  have := lt_of_get ei
  omega
theorem Sta.assign {ρ ρx : Ev} {σ σx : St} {H : Hp} {S : List Addr} {s : Sl} {v : V} (hl : ρ.length = σ.length) (st : Sta C (ρ ++ ρx) (σ ++ σx) H S) (ok : SlOk C S H v s) (ap : Apt (ρ ++ ρx) (σ ++ σx) s v) (i : Nat) : Sta C (ρ.set i (some s) ++ ρx) (σ.set i (some v) ++ σx) H S := by
  by_cases hi : i < ρ.length
  · have hi' : i < σ.length := hl ▸ hi
    have st1 := (st.forget i).blind (set_none _ _) (some v)
    have vi : ((σ ++ σx).set i (some v))[i]? = some (some v) := List.getElem?_set_self (by rw [List.length_append]; omega)
    have st2 := st1.put i (some s) (fun t z => by cases z; exact ⟨v, vi, ok⟩) fun t u z o q j r hj ej ro qj => ?_
    · rw [List.set_set, app_set _ _ _ _ hi, app_set _ _ _ _ hi'] at st2
      exact st2
    · cases z
      rw [vi] at q
      cases q
      rw [List.getElem?_set_ne (Ne.symm hj)] at ej qj
      exact ap o j r ej ro qj
  · rw [List.set_eq_of_length_le (by omega), List.set_eq_of_length_le (by omega)]
    exact st
theorem At.set (σ : St) (i : Nat) (o : Option V) : At [i] σ (σ.set i o) := ⟨by simp, fun j hj => by rw [List.getElem?_set_ne (fun z => hj (by simp [z]))]⟩
theorem At.trans {is js : List Nat} {σ σ' σ'' : St} (a : At is σ σ') (b : At js σ' σ'') : At (is ++ js) σ σ'' := ⟨b.1.trans a.1, fun j hj => by
  rw [b.2 j (fun z => hj (List.mem_append_right _ z)), a.2 j (fun z => hj (List.mem_append_left _ z))]⟩
theorem At.refl (σ : St) : At [] σ σ := ⟨rfl, fun _ _ => rfl⟩
def wNm (i : Nat) : WG := fun s ρ k => k (ρ.set i (some s))
theorem ok_nm (i : Nat) : OkG C [i] (gName i) (wNm i) := fun ρ ρx σ σx H S s v k Q hl st ok ap hw q =>
  q _ _ H S (by simp [hl]) (At.set σ i _) (st.assign hl ok ap i) hw
theorem qg_name {i : Nat} {tg : Expr} (h : PG X tg (gName i)) : QG X C [i] tg (gName i) (wNm i) := ⟨h, ok_nm i⟩
abbrev WGs := List D → Ev → (Ev → Prop) → Prop
def OkGs (C : Cxt) (is : List Nat) (g : TGs) (w : WGs) : Prop := ∀ (ρ ρx : Ev) (σ σx : St) (H : Hp) (S : List Addr) (ds : List D) (vs : List V) (k : Ev → Prop) (Q : St → Hp → Prop), ρ.length = σ.length → ρx.length = σx.length → Sta C (ρ ++ (ρx ++ fzs ds)) (σ ++ (σx ++ vs.map some)) H S → w ds ρ k →
  (∀ (ρ' : Ev) (σ' : St) (H' : Hp) (S' : List Addr), ρ'.length = σ'.length → At is σ σ' → Sta C (ρ' ++ ρx) (σ' ++ σx) H' S' → k ρ' → Q σ' H') → g vs σ H Q
structure QGs (X : Cx) (C : Cxt) (is : List Nat) (tg : List Expr) (g : TGs) (w : WGs) : Prop where
  pg : PGs X tg g
  ok : OkGs C is g w
theorem qgs_nil : QGs X C [] [] gNil (fun ds ρ k => ds = [] ∧ k ρ) := ⟨pgs_nil, fun ρ ρx σ σx H S ds vs k Q hl hx st hw q => by
  obtain ⟨rfl, hw⟩ := hw
  have l := st.len
  simp [fzs, hl, hx] at l
  subst l
  exact ⟨rfl, q ρ σ H S hl (At.refl σ) (by simpa [fzs] using st) hw⟩⟩
def wGCons (g : WG) (r : WGs) : WGs := fun ds ρ k => match ds with
  | d :: ds => g (.fz d) ρ fun ρ1 => r ds ρ1 k
  | [] => False
theorem qgs_cons {es : List Expr} {is js : List Nat} {g : TG} {gs : TGs} {u : WG} {us : WGs} (h : QG X C is e g u) (r : QGs X C js es gs us)
    (ha : (assignEach (e :: es) X.env).map (·.2) = assign e X.env :: (assignEach es X.env).map (·.2) := by rfl) : QGs X C (is ++ js) (e :: es) (gCons g gs) (wGCons u us) := ⟨pgs_cons h.pg r.pg ha, fun ρ ρx σ σx H S ds vs k Q hl hx st hw q => by
  cases ds with
  | nil => exact hw.elim
  | cons d ds =>
    have l := st.len
    simp only [fzs, List.length_append, List.length_map, List.length_cons, hl, hx] at l
    cases vs with
    | nil => simp at l
    | cons v vs =>
      obtain ⟨w', e1, ok⟩ := st.get (i := ρ.length + ρx.length) (s := .fz d) (by rw [List.getElem?_append_right (by omega), List.getElem?_append_right (by omega)]; simp [fzs])
      have e1' : some (some v) = some (some w') := by
        rw [← e1, hl, hx, List.getElem?_append_right (by omega), List.getElem?_append_right (by omega)]
        simp
      cases e1'
      refine ⟨v, vs, rfl, ?_⟩
      refine h.ok ρ (ρx ++ fzs (d :: ds)) σ (σx ++ (v :: vs).map some) H S (.fz d) v _ _ hl st ok (fun z => by cases z) hw fun ρ1 σ1 H1 S1 hl1 a1 st1 hw1 => ?_
      refine r.ok ρ1 (ρx ++ [some (.fz d)]) σ1 (σx ++ [some v]) H1 S1 ds vs k Q hl1 (by simp [hx]) (by simpa [fzs] using st1) hw1 fun ρ2 σ2 H2 S2 hl2 a2 st2 hk => ?_
      refine q ρ2 σ2 H2 S2 hl2 (a1.trans a2) ?_ hk
      have := st2
      rw [← List.append_assoc, ← List.append_assoc] at this
      exact this.popLast⟩
/-- a, b = a tuple -/
def wTg (n : Nat) (us : WGs) : WG := fun s ρ k => match s.toD with
  | .tup ds => ds.length = n ∧ us ds ρ k
  | _ => False
theorem Sta.pushs {ρ : Ev} {σ : St} {H : Hp} {S : List Addr} (st : Sta C ρ σ H S) : ∀ {ds : List D} {vs : List V}, Rps C.B (hid S H) vs ds → Sta C (ρ ++ fzs ds) (σ ++ vs.map some) H S := by
  intro ds
  induction ds generalizing ρ σ with
  | nil => intro vs h; rw [show vs = [] from h]; simpa [fzs] using st
  | cons d ds ih =>
    intro vs h
    obtain ⟨x, r, rfl, h2, h3⟩ := h
    have := ih (st.pushF h2) h3
    simpa [fzs] using this
theorem qg_tup (F : Fit X C) {es : List Expr} {n : Nat} {is : List Nat} {gs : TGs} {us : WGs} {kt : Nat} (hc : X.calm = true) (h : QGs X C is es gs us) (h1 : (assignEach es X.env).length = n := by rfl) (h2 : (assignEach es X.env).findIdx? (·.1) = none := by rfl) :
    QG X C is (.Tuple es kt pos) (gTup X.K n gs) (wTg n us) := ⟨pg_tup hc h.pg h1 h2, fun ρ ρx σ σx H S s v k Q hl st ok ap hww q => by
  unfold wTg at hww
  split at hww
  · rename_i ds e
    obtain ⟨a, xs, rfl, g1, g2, g3⟩ := ok.tup e
    rw [F.K] at g1
    refine ⟨a, xs, rfl, g1, by rw [g3.len]; exact hww.1, ?_⟩
    have lx := st.len
    simp only [List.length_append] at lx
    refine h.ok ρ ρx σ σx H S ds xs k Q hl (by omega) ?_ hww.2 q
    rw [← List.append_assoc, ← List.append_assoc]
    exact st.pushs g3
  · exact hww.elim⟩
def wAsg (w : WE) (g : WG) : WS := fun E ρ => w ρ fun s ρ1 => g s ρ1 E.nx
theorem ok_asg {is : List Nat} {g : TG} {u : WG} (h : OkE C t w) (hg : OkG C is g u) : OkS C (tAsg t g) (wAsg w u) := fun ρ ρx σ σx H S E D hl st hw f =>
  h ρ ρx σ σx H S _ _ hl st hw fun s ρ1 v H1 S1 hl1 st1 hk => by
    have lx : (ρ1 ++ ρx).length = (σ ++ σx).length := by have := st.len; simp only [List.length_append] at *; omega
    exact hg ρ1 ρx σ σx H1 S1 s v _ _ hl1 st1.popLast (st1.last lx) st1.apt hk fun ρ2 σ2 H2 S2 hl2 _ st2 h2 => f.nx ρ2 σ2 H2 S2 hl2 st2 h2
theorem qs_asg {is : List Nat} {tg : Expr} {g : TG} {u : WG} (he : PD X C e t w) (hg : QG X C is tg g u) (hs : swapsWithSole [tg] e pos.line X.env = pure false := by rfl) (hw : swappedStores [tg] e X.env = pure none := by rfl)
    (h1 : (assignEach [tg] X.env).map (·.2) = [assign tg X.env] := by rfl) : QS X C (.Assign [tg] e pos) (tAsg t g) (wAsg w u) := ⟨ps_asg he.pe hg.pg hs hw h1, ok_asg he.ok hg.ok⟩
abbrev wSet (i : Nat) (w : WE) : WS := wAsg w (wNm i)
theorem qs_set {i : Nat} {x : Str} {pos' : Pos} (hN : X.N.Nodup) (hi : X.N[i]? = some x) (hx : Loc X.env.scope x) (he : PD X C e t w) (hs : swapsWith e (some (.Name x pos')) pos.line X.env = pure false := by rfl) (hf : X.fn x = true ∨ X.env.scope.names.lookup x = some .local := by first | exact .inl rfl | exact .inr rfl | assumption) :
    QS X C (.Assign [.Name x pos'] e pos) (tAsg t (gName i)) (wSet i w) := ⟨ps_set hN hi hx he.pe hs hf, ok_asg he.ok (ok_nm i)⟩
/-- a, b = e1, e2 of names -/
def wPar (i j : Nat) (wa wb : WE) : WS := fun E ρ => wa ρ fun s ρ1 => wb ρ1 fun u ρ2 => E.nx ((ρ2.set i (some s)).set j (some u))
theorem qs_par {i j : Nat} {x y : Str} {px py pt : Pos} {kt k2 : Nat} {pt2 : Pos} (hc : X.calm = true) (hN : X.N.Nodup) (hi : X.N[i]? = some x) (hj : X.N[j]? = some y) (hij : i ≠ j) (hx : X.env.scope.names.lookup x = some .local) (hy : X.env.scope.names.lookup y = some .local)
    (ha : PD X C a ta wa) (hb : PD X C bx tb wb) (hsw : swappedStores [.Tuple [.Name x px, .Name y py] kt pt] (.Tuple [a, bx] k2 pt2) X.env = pure (some [x, y]))
    (h1 : starEach [a, bx] X.env = (false, eval a X.env) :: starEach [bx] X.env := by rfl) (h2 : starEach [bx] X.env = (false, eval bx X.env) :: starEach [] X.env := by rfl)
    (hs : swapsWithSole [.Tuple [.Name x px, .Name y py] kt pt] (.Tuple [a, bx] k2 pt2) pos.line X.env = pure false := by rfl) :
    QS X C (.Assign [.Tuple [.Name x px, .Name y py] kt pt] (.Tuple [a, bx] k2 pt2) pos) (tPar i j (tCons ta (tCons tb tNil))) (wPar i j wa wb) := ⟨ps_par hc hN hi hj hij hx hy (pa_cons ha.pe (pa_cons hb.pe pa_nil h2) h1) hsw hs, by
  intro ρ ρx σ σx H S E D hl st hw f
  refine ha.ok ρ ρx σ σx H S _ _ hl st hw fun s ρ1 v H1 S1 hl1 st1 hw1 => ?_
  rw [List.append_assoc, List.append_assoc] at st1
  refine hb.ok ρ1 (ρx ++ [some s]) σ (σx ++ [some v]) H1 S1 _ _ hl1 st1 hw1 fun u ρ2 w' H2 S2 hl2 st2 hk => ?_
  refine ⟨v, w', rfl, ?_⟩
  rw [← List.append_assoc, ← List.append_assoc] at st2
  have l2 : (ρ2 ++ ρx).length = (σ ++ σx).length := by have := st2.len; simp only [List.length_append, List.length_cons, List.length_nil] at *; omega
  have l3 : ((ρ2 ++ ρx) ++ [some s]).length = ((σ ++ σx) ++ [some v]).length := by simp only [List.length_append, List.length_cons, List.length_nil] at *; omega
  -- the second one first
  have ok2 := st2.last l3
  have ap2 := st2.apt
  have st3 := st2.popLast
  have ok1 := st3.last l2
  have ap1 := st3.apt
  have st4 := st3.popLast
  have s1 := st4.assign hl2 ok1 ap1 i
  have nvu : s.own = true → u.own = true → v ≠ w' := fun o1 o2 z => ap2 o2 (ρ2 ++ ρx).length s (by rw [List.getElem?_append_right (Nat.le_refl _), Nat.sub_self]; rfl) o1 (by rw [l2, List.getElem?_append_right (Nat.le_refl _), Nat.sub_self, z]; rfl)
  have s2 := s1.assign (by simp [hl2]) ok2 (fun o k t ek to q => by
    by_cases hi' : i < ρ2.length
    · by_cases hk' : k = i
      · subst hk'
        rw [List.getElem?_append_left (by rw [List.length_set]; exact hi'), List.getElem?_set_self hi'] at ek
        cases ek
        rw [List.getElem?_append_left (by rw [List.length_set]; exact hl2 ▸ hi'), List.getElem?_set_self (hl2 ▸ hi')] at q
        cases q
        exact nvu to o rfl
      · rw [← app_set _ _ _ _ hi', List.getElem?_set_ne (Ne.symm hk')] at ek
        rw [← app_set _ _ _ _ (hl2 ▸ hi'), List.getElem?_set_ne (Ne.symm hk')] at q
        exact ap2 o k t (get_app ek) to (get_app q)
    · rw [List.set_eq_of_length_le (by omega)] at ek
      rw [List.set_eq_of_length_le (by omega)] at q
      exact ap2 o k t (get_app ek) to (get_app q)) j
  exact f.nx _ _ H2 S2 (by simp [hl2]) s2 hk⟩
/-- x += e of numbers -/
def wAug (i : Nat) (g : Int → Int → Int) (w : WE) : WS := fun E ρ => (∃ s, ρ[i]? = some (some s)) ∧ w ρ fun y ρ1 => match ρ1[i]?, y.toD with
  | some (some (.fz (.int a))), .int b => E.nx (ρ1.set i (some (.fz (.int (g a b)))))
  | _, _ => False
theorem qs_aug {i : Nat} {x : Str} {op : Operator} {pos' : Pos} {g : Int → Int → Int} (hN : X.N.Nodup) (hi : X.N[i]? = some x) (hx : Loc X.env.scope x) (he : PD X C e t w) (ho : PIp X op (ipI g)) (hf : X.fn x = true ∨ X.env.scope.names.lookup x = some .local := by first | exact .inl rfl | exact .inr rfl | assumption) :
    QS X C (.AugAssign (.Name x pos') op e pos) (tAug i t (ipI g)) (wAug i g w) := ⟨ps_aug hN hi hx he.pe ho hf, by
  intro ρ ρx σ σx H S E D hl st hw f
  obtain ⟨⟨s0, e0⟩, hw⟩ := hw
  obtain ⟨v, h1, _⟩ := st.get (get_app e0)
  refine ⟨v, of_get_app h1 (hl ▸ lt_of_get e0), ?_⟩
  refine he.ok ρ ρx σ σx H S _ _ hl st hw fun y ρ1 u H1 S1 hl1 st1 hk => ?_
  split at hk
  · rename_i a b e1 e2
    have lx : (ρ1 ++ ρx).length = (σ ++ σx).length := by have := st1.len; simp only [List.length_append, List.length_cons, List.length_nil] at *; omega
    have st2 := st1.popLast
    obtain ⟨v', h2, okx⟩ := st2.get (get_app e1)
    rw [h1] at h2
    cases h2
    obtain rfl : v = .int a := okx
    refine ⟨a, b, rfl, (st1.last lx).int e2, ?_⟩
    exact f.nx _ _ H1 S1 (by simp [hl1]) (st2.assign hl1 (s := .fz (.int (g a b))) (v := .int (g a b)) rfl (fun z => by cases z) i) hk
  · exact hk.elim⟩

/-! ### lists of one's own -/
/-- x.append(e) -/
def wApp (i : Nat) (w : WE) : WE := fun ρ k => (∃ ds, ρ[i]? = some (some (.ol ds))) ∧ w ρ fun y ρ1 => match ρ1[i]? with
  | some (some (.ol ds)) => ds.length < 1000000 ∧ k (.fz .non) (ρ1.set i (some (.ol (ds ++ [y.toD]))))
  | _ => False
theorem pd_append {i : Nat} {es0 : Expr} (he : PD X C e t w) {tt : TE} (hp : PE X es0 tt) (htt : tt = tBM X.K "list" rAppend (tVar i) (tCons t tNil)) : PD X C es0 tt (wApp i w) := ⟨hp, by
  subst htt
  intro ρ ρx σ σx H S k Q hl st hw q
  obtain ⟨⟨ds0, e0⟩, hw⟩ := hw
  obtain ⟨v, h1, a, xs, rfl, m, h0, hx, hlen, hr⟩ := st.get (get_app e0)
  refine ⟨.ref a, of_get_app h1 (hl ▸ lt_of_get e0), Or.inl ⟨rfl, xs, SqL.of hx⟩, ?_⟩
  refine he.ok ρ ρx σ σx H S _ _ hl st hw fun y ρ1 u H1 S1 hl1 st1 hk => ?_
  split at hk
  · rename_i ds e1
    obtain ⟨S1', st1'⟩ := st1.lastD
    have lx : (ρ1 ++ ρx).length = (σ ++ σx).length := by have := st1.len; simp only [List.length_append, List.length_cons, List.length_nil] at *; omega
    have oky := st1'.last lx
    have st2 := st1'.popLast
    obtain ⟨v', h2, b, ys, rfl, m', h0', hy, hlen', hr'⟩ := st2.get (get_app e1)
    rw [h1] at h2
    cases h2
    have ly := hr'.len
    refine ⟨a, ys, u, rfl, rfl, hy, lim_lt (by omega), ?_⟩
    have st3 := st2.write (es := ds ++ [y.toD]) (ys := ys ++ [u]) (get_app e1) h1 (by rw [List.length_append]; show ys.length + 1 ≤ _; omega) (hr'.snoc oky)
    rw [app_set _ _ _ _ (lt_of_get e1)] at st3
    exact q (.fz .non) _ .non _ S1' (by simp [hl1]) (st3.pushF (d := .non) rfl) hk.2
  · exact hk.elim⟩
/-- x.pop() -/
def wPop (i : Nat) : WE := fun ρ k => match ρ[i]? with
  | some (some (.ol ds)) => ∃ d, ds.getLast? = some d ∧ k (.fz d) (ρ.set i (some (.ol ds.dropLast)))
  | _ => False
theorem pd_pop {i : Nat} {es0 : Expr} {tt : TE} (hp : PE X es0 tt) (htt : tt = tBM0 X.K "list" rPop (tVar i)) : PD X C es0 tt (wPop i) := ⟨hp, by
  subst htt
  intro ρ ρx σ σx H S k Q hl st hw q
  unfold wPop at hw
  split at hw
  · rename_i ds e1
    obtain ⟨d, hd, hk⟩ := hw
    obtain ⟨v, h1, a, ys, rfl, m, h0, hy, hlen, hr⟩ := st.get (get_app e1)
    have ly := hr.len
    rw [List.getLast?_eq_getElem?] at hd
    obtain ⟨y, hy1, hy2⟩ := hr.of hd
    refine ⟨.ref a, of_get_app h1 (hl ▸ lt_of_get e1), Or.inl ⟨rfl, ys, SqL.of hy⟩, a, ys, y, rfl, rfl, hy, by rw [ly]; exact hy1, ?_⟩
    have st2 := st.pushF hy2
    have e2 : ((ρ ++ ρx) ++ [some (Sl.fz d)])[i]? = some (some (.ol ds)) := get_app (get_app e1)
    have h2 : ((σ ++ σx) ++ [some y])[i]? = some (some (.ref a)) := get_app h1
    have st3 := st2.write (es := ds.dropLast) (ys := ys.dropLast) e2 h2 (by rw [List.length_dropLast]; omega) hr.dropLast
    have hi := lt_of_get e1
    rw [app_set _ _ _ _ (by rw [List.length_append]; omega), app_set _ _ _ _ hi] at st3
    exact q (.fz d) _ y _ S (by simp [hl]) st3 hk
  · exact hw.elim⟩
/-- x.extend(e) of a list -/
def wExt (i : Nat) (w : WE) : WE := fun ρ k => (∃ ds, ρ[i]? = some (some (.ol ds))) ∧ w ρ fun y ρ1 => match ρ1[i]?, y.toD with
  | some (some (.ol ds)), .lst es => ds.length + es.length ≤ 1000000 ∧ k (.fz .non) (ρ1.set i (some (.ol (ds ++ es))))
  | _, _ => False
theorem pd_extend {i : Nat} {es0 : Expr} (he : PD X C e t w) {tt : TE} (hp : PE X es0 tt) (htt : tt = tBM X.K "list" rExtend (tVar i) (tCons t tNil)) : PD X C es0 tt (wExt i w) := ⟨hp, by
  subst htt
  intro ρ ρx σ σx H S k Q hl st hw q
  obtain ⟨⟨ds0, e0⟩, hw⟩ := hw
  obtain ⟨v, h1, a, xs, rfl, m, h0, hx, hlen, hr⟩ := st.get (get_app e0)
  refine ⟨.ref a, of_get_app h1 (hl ▸ lt_of_get e0), Or.inl ⟨rfl, xs, SqL.of hx⟩, ?_⟩
  refine he.ok ρ ρx σ σx H S _ _ hl st hw fun y ρ1 u H1 S1 hl1 st1 hk => ?_
  split at hk
  · rename_i ds es e1 e2
    obtain ⟨S1', st1'⟩ := st1.lastD
    have lx : (ρ1 ++ ρx).length = (σ ++ σx).length := by have := st1.len; simp only [List.length_append, List.length_cons, List.length_nil] at *; omega
    obtain ⟨c, zs, rfl, z1, z2, z3⟩ := (st1'.last lx).lst (show (Sl.fz y.toD).toD = .lst es from e2)
    have st2 := st1'.popLast
    obtain ⟨v', h2, b, ys, rfl, m', h0', hy, hlen', hr'⟩ := st2.get (get_app e1)
    rw [h1] at h2
    cases h2
    have ly := hr'.len
    have lz := z3.len
    refine ⟨a, c, ys, zs, rfl, rfl, hy, z1, lim_line (by omega), ?_⟩
    have st3 := st2.write (es := ds ++ es) (ys := ys ++ zs) (get_app e1) h1 (by rw [List.length_append]; omega) (hr'.app z3)
    rw [app_set _ _ _ _ (lt_of_get e1)] at st3
    exact q (.fz .non) _ .non _ S1' (by simp [hl1]) (st3.pushF (d := .non) rfl) hk.2
  · exact hk.elim⟩
/-- x[i] = .. of a list of one's own -/
def wSub (i : Nat) (w : WE) : WG := fun s ρ k => (∃ ds, ρ[i]? = some (some (.ol ds))) ∧ w ρ fun y ρ1 => match ρ1[i]?, y.toD with
  | some (some (.ol ds)), .int n => ∃ j, ixN ds.length n = some j ∧ k (ρ1.set i (some (.ol (ds.set j s.toD))))
  | _, _ => False
theorem qg_sub {i : Nat} {tg : Expr} {g : TG} (hp : PG X tg g) (hg : g = gSub (tVar i) t rSetL) (he : OkB C t w) : QG X C [] tg g (wSub i w) := ⟨hp, by
  subst hg
  intro ρ ρx σ σx H S s v k Q hl st ok ap hw q
  obtain ⟨⟨ds0, e0⟩, hw⟩ := hw
  obtain ⟨va, h1, a, xs, rfl, m, h0, hx, hlen, hr⟩ := st.get (get_app e0)
  refine ⟨.ref a, of_get_app h1 (hl ▸ lt_of_get e0), ?_⟩
  -- the value as data
  obtain ⟨S0, st0⟩ := (st.push ok ap).lastD
  rw [List.append_assoc, List.append_assoc] at st0
  refine he ρ (ρx ++ [some (.fz s.toD)]) σ (σx ++ [some v]) H S0 _ _ hl st0 hw fun y ρ1 u H1 S1 hl1 st1 oky hk => ?_
  split at hk
  · rename_i ds n e1 e2
    obtain ⟨j, hj, hk⟩ := hk
    rw [← List.append_assoc, ← List.append_assoc] at st1
    have lx : (ρ1 ++ ρx).length = (σ ++ σx).length := by have := st1.len; simp only [List.length_append, List.length_cons, List.length_nil] at *; omega
    have okv := st1.last lx
    have st2 := st1.popLast
    obtain ⟨v', h2, b, ys, rfl, m', h0', hy, hlen', hr'⟩ := st2.get (get_app e1)
    rw [h1] at h2
    cases h2
    refine ⟨a, ys, n, j, rfl, oky.int e2, hy, by rw [hr'.len]; exact hj, ?_⟩
    have st3 := st2.write (es := ds.set j s.toD) (ys := ys.set j v) (get_app e1) h1 (by rw [List.length_set]; exact hlen') (Rps.set okv j hr')
    rw [app_set _ _ _ _ (lt_of_get e1)] at st3
    exact q _ σ _ S1 (by simp [hl1]) (At.refl σ) st3 hk
  · exact hk.elim⟩
end
end Q

set_option autoImplicit false
set_option linter.all false
/-! Q5: what is walked; for, while, comprehensions -/
namespace Q
open PySem L2
abbrev WI := Ev → (List D → Ev → Prop) → Prop
/-- an iterator that walks data, which the slots ρh hold -/
structure ItOk (C : Cxt) (J : It) (ρh : Ev) (σh : St) (ds : List D) : Prop where
  go : ∀ (ρ : Ev) (σ : St) (H : Hp) (S : List Addr) (i : Nat), ρ.length = σ.length → Sta C (ρ ++ ρh) (σ ++ σh) H S → i < ds.length → J.go i H
  stop : ∀ (ρ : Ev) (σ : St) (H : Hp) (S : List Addr), ρ.length = σ.length → Sta C (ρ ++ ρh) (σ ++ σh) H S → J.stop ds.length H
  keep : ∀ (i : Nat) (H : Hp) (x : V) (H' : Hp), J.yld i H x H' → Same H H'
  yld : ∀ (ρ : Ev) (σ : St) (H H' : Hp) (S : List Addr) (i : Nat) (x : V) (d : D), ρ.length = σ.length → Sta C (ρ ++ ρh) (σ ++ σh) H S → ds[i]? = some d → J.yld i H x H' → Sta C (ρ ++ ρh) (σ ++ σh) H' S ∧ Rp C.B (hid S H') x d
theorem ItOk.yldA {C : Cxt} {J : It} {ρh : Ev} {σh : St} {ds : List D} (it : ItOk C J ρh σh ds) {ρ : Ev} {σ : St} {H H' : Hp} {S : List Addr} {i : Nat} {x : V} {d : D} {o : Option Sl} {p : Option V} (hl : ρ.length = σ.length) (hh : ρh.length = σh.length) (st : Sta C ((ρ ++ ρh) ++ [o]) ((σ ++ σh) ++ [p]) H S) (hd : ds[i]? = some d) (y : J.yld i H x H') :
    Sta C ((ρ ++ ρh) ++ [o]) ((σ ++ σh) ++ [p]) H' S ∧ Rp C.B (hid S H') x d := by
  have l : (ρ ++ ρh).length = (σ ++ σh).length := by simp only [List.length_append]; omega
  obtain ⟨h1, h2⟩ := it.yld ρ σ H H' S i x d hl (st.drop l) hd y
  exact ⟨st.same (it.keep i H x H' y), h2⟩
def OkI (C : Cxt) (t : TI) (w : WI) : Prop := ∀ (ρ ρx : Ev) (σ σx : St) (H : Hp) (S : List Addr) (k : List D → Ev → Prop) (R : It → Hp → Prop), ρ.length = σ.length → Sta C (ρ ++ ρx) (σ ++ σx) H S → w ρ k →
  (∀ (ds : List D) (ρ' ρh : Ev) (σh : St) (J : It) (H' : Hp) (S' : List Addr), ρ'.length = σ.length → ρh.length = σh.length → Sta C ((ρ' ++ ρx) ++ ρh) ((σ ++ σx) ++ σh) H' S' → ItOk C J ρh σh ds → k ds ρ' → R J H') → t σ H R
structure QI (X : Cx) (C : Cxt) (tg iter : Expr) (t : TI) (w : WI) : Prop where
  pi : PI X tg iter t
  ok : OkI C t w
section
variable {X : Cx} {C : Cxt} {e a bx tg : Expr} {t ta tb : TE} {w wa wb : WE} {pos : Pos}
theorem split_at {α : Type} {l : List α} {i : Nat} (h : i < l.length) : ∃ x, l[i]? = some x := ⟨_, List.getElem?_eq_getElem h⟩
/-- a held list stands still -/
theorem Sta.held {ρ : Ev} {σ : St} {H : Hp} {S : List Addr} {d : D} {v : V} (hl : ρ.length = σ.length) (st : Sta C (ρ ++ [some (.fz d)]) (σ ++ [some v]) H S) : Rp C.B (hid S H) v d := st.last hl
theorem itok_list {K : PySem.W.Frag} {a : Addr} {ds : List D} : ItOk C (Itl K a) [some (.fz (.lst ds))] [some (.ref a)] ds := by
  have get : ∀ {ρ : Ev} {σ : St} {H : Hp} {S : List Addr}, ρ.length = σ.length → Sta C (ρ ++ [some (.fz (.lst ds))]) (σ ++ [some (.ref a)]) H S → ∃ xs, H a = some (.lst xs) ∧ Rps C.B (hid S H) xs ds := fun hl st => by
    obtain ⟨b, xs, e, h2, _, h4⟩ := st.held hl
    cases e
    exact ⟨xs, (hid_some h2).2, h4⟩
  refine ⟨fun ρ σ H S i hl st hi => ?_, fun ρ σ H S hl st => ?_, fun i H x H' y => by rw [y.1]; exact Same.refl _, fun ρ σ H H' S i x d hl st hd y => ?_⟩
  · obtain ⟨xs, h1, h2⟩ := get hl st
    have := h2.len
    exact (walk_list (K := K)).goes i H (by omega) (SqL.of h1)
  · obtain ⟨xs, h1, h2⟩ := get hl st
    rw [← h2.len]
    exact (walk_list (K := K)).stops H (SqL.of h1)
  · obtain ⟨xs, h1, h2⟩ := get hl st
    have hi := lt_of_get hd
    have := h2.len
    obtain ⟨rfl, hx⟩ := (walk_list (K := K)).yields i H x H' (by omega) (SqL.of h1) y
    obtain ⟨d', e1, e2⟩ := h2.at_ hx
    rw [hd] at e1
    cases e1
    exact ⟨st, e2⟩
theorem itok_tup {a : Addr} {ds : List D} : ItOk C (Itt C.B.K a) [some (.fz (.tup ds))] [some (.ref a)] ds := by
  have get : ∀ {ρ : Ev} {σ : St} {H : Hp} {S : List Addr}, ρ.length = σ.length → Sta C (ρ ++ [some (.fz (.tup ds))]) (σ ++ [some (.ref a)]) H S → ∃ xs, SqT C.B.K H a xs ∧ Rps C.B (hid S H) xs ds := fun hl st => by
    obtain ⟨b, xs, e, h2, _, h4⟩ := st.held hl
    cases e
    exact ⟨xs, sameT hid_same h2, h4⟩
  refine ⟨fun ρ σ H S i hl st hi => ?_, fun ρ σ H S hl st => ?_, fun i H x H' y => by rw [y.1]; exact Same.refl _, fun ρ σ H H' S i x d hl st hd y => ?_⟩
  · obtain ⟨xs, h1, h2⟩ := get hl st
    have := h2.len
    exact walk_tup.goes i H (by omega) h1
  · obtain ⟨xs, h1, h2⟩ := get hl st
    rw [← h2.len]
    exact walk_tup.stops H h1
  · obtain ⟨xs, h1, h2⟩ := get hl st
    have hi := lt_of_get hd
    have := h2.len
    obtain ⟨rfl, hx⟩ := walk_tup.yields i H x H' (by omega) h1 y
    obtain ⟨d', e1, e2⟩ := h2.at_ hx
    rw [hd] at e1
    cases e1
    exact ⟨st, e2⟩
/-- over a list -/
def wList (w : WE) : WI := fun ρ k => w ρ fun s ρ1 => match s.toD with
  | .lst ds => k ds ρ1
  | _ => False
theorem qi_list (h : PD X C e t w) : QI X C tg e (iList X.K t) (wList w) := ⟨pi_list h.pe, by
  intro ρ ρx σ σx H S k R hl st hw q
  refine h.ok ρ ρx σ σx H S _ _ hl st hw fun s ρ1 v H1 S1 hl1 st1 hk => ?_
  obtain ⟨S1', st1'⟩ := st1.lastD
  split at hk
  · rename_i ds e1
    rw [e1] at st1'
    have lx : (ρ1 ++ ρx).length = (σ ++ σx).length := by have := st1.len; simp only [List.length_append, List.length_cons, List.length_nil] at *; omega
    obtain ⟨a, xs, rfl, g1, _, _⟩ := (st1'.last lx).lst rfl
    exact ⟨a, rfl, ⟨xs, SqL.of g1⟩, q ds ρ1 _ _ _ H1 S1' hl1 rfl st1' itok_list hk⟩
  · exact hk.elim⟩
/-- over a tuple -/
def wTupI (w : WE) : WI := fun ρ k => w ρ fun s ρ1 => match s.toD with
  | .tup ds => k ds ρ1
  | _ => False
theorem qi_tup (F : Fit X C) (h : PD X C e t w) : QI X C tg e (iTup X.K t) (wTupI w) := ⟨pi_tup h.pe, by
  intro ρ ρx σ σx H S k R hl st hw q
  refine h.ok ρ ρx σ σx H S _ _ hl st hw fun s ρ1 v H1 S1 hl1 st1 hk => ?_
  obtain ⟨S1', st1'⟩ := st1.lastD
  split at hk
  · rename_i ds e1
    rw [e1] at st1'
    have lx : (ρ1 ++ ρx).length = (σ ++ σx).length := by have := st1.len; simp only [List.length_append, List.length_cons, List.length_nil] at *; omega
    obtain ⟨a, xs, rfl, g1, _, _⟩ := (st1'.last lx).tup rfl
    have it : ItOk C (Itt C.B.K a) [some (.fz (.tup ds))] [some (.ref a)] ds := itok_tup
    rw [F.K] at g1 it
    exact ⟨a, rfl, ⟨xs, g1⟩, q ds ρ1 _ _ _ H1 S1' hl1 rfl st1' it hk⟩
  · exact hk.elim⟩
/-- over a range -/
def rng (lo : Int) (n : Nat) : List D := (List.range n).map fun i => D.int (lo + (i : Nat))
theorem rng_get {lo : Int} {n i : Nat} {d : D} (h : (rng lo n)[i]? = some d) : i < n ∧ d = .int (lo + (i : Nat)) := by
  unfold rng at h
  rw [List.getElem?_map] at h
  obtain ⟨j, h1, h2⟩ := Option.map_eq_some_iff.mp h
  have := lt_of_get h1
  rw [List.length_range] at this
  rw [List.getElem?_range this] at h1
  cases h1
  exact ⟨this, h2.symm⟩
theorem itok_range {lo : Int} {n : Nat} : ItOk C (Itr lo n) [] [] (rng lo n) := by
  have ln : (rng lo n).length = n := by simp [rng]
  refine ⟨fun ρ σ H S i hl st hi => ?_, fun ρ σ H S hl st => ?_, fun i H x H' y => by rw [y.1]; exact Same.refl _, fun ρ σ H H' S i x d hl st hd y => ?_⟩
  · exact (walk_range (lo := lo)).goes i H (ln ▸ hi) trivial
  · rw [ln]; exact (walk_range (lo := lo)).stops H trivial
  · obtain ⟨hi, rfl⟩ := rng_get hd
    obtain ⟨rfl, rfl⟩ := (walk_range (lo := lo)).yields i H x H' hi trivial y
    exact ⟨st, rfl⟩
def wRng1 (wa : WA) : WI := fun ρ k => wa ρ fun ds ρ1 => match ds with
  | [.int j] => (-(2 ^ 62) ≤ j ∧ j < 2 ^ 62) ∧ k (rng 0 j.toNat) ρ1
  | _ => False
def wRng2 (wa : WA) : WI := fun ρ k => wa ρ fun ds ρ1 => match ds with
  | [.int i, .int j] => (-(2 ^ 62) ≤ i ∧ i < 2 ^ 62 ∧ -(2 ^ 62) ≤ j ∧ j < 2 ^ 62) ∧ k (rng i (j - i).toNat) ρ1
  | _ => False
theorem args_of {ρ ρx : Ev} {σ σx : St} {H : Hp} {S : List Addr} {ds : List D} {vs : List V} (lx : (ρ ++ ρx).length = (σ ++ σx).length) (st : Sta C ((ρ ++ ρx) ++ fzs ds) ((σ ++ σx) ++ vs.map some) H S) : Sta C (ρ ++ ρx) (σ ++ σx) H S ∧ Rps C.B (hid S H) vs ds := ⟨st.drop lx, st.args lx⟩
theorem qi_range1 {p : Pos} {ta : TA} {wa : WA} (hg : Gl X "range") (hm : X.mg "range" = none) (ha : QA X C [e] ta wa) (hs : starEach [e] X.env = [(false, eval e X.env)] := by rfl) : QI X C tg (.Call (.Name "range" p) [e] [] pos) (iRng1 ta) (wRng1 wa) := ⟨pi_range1 hg hm ha.pa hs, by
  intro ρ ρx σ σx H S k R hl st hw q
  refine ha.ok ρ ρx σ σx H S _ _ hl st hw fun ds ρ1 vs H1 S1 hl1 st1 hk => ?_
  have lx : (ρ1 ++ ρx).length = (σ ++ σx).length := by have := st.len; simp only [List.length_append] at *; omega
  obtain ⟨st2, r⟩ := args_of lx st1
  split at hk
  · rename_i j
    obtain ⟨v, rfl, h1⟩ := rps1 r
    rw [show v = _ from h1]
    exact ⟨j, rfl, hk.1.1, hk.1.2, q _ ρ1 [] [] _ H1 S1 hl1 rfl (by simpa using st2) itok_range hk.2⟩
  · exact hk.elim⟩
theorem qi_range2 {p : Pos} {ta : TA} {wa : WA} (hg : Gl X "range") (hm : X.mg "range" = none) (ha : QA X C [e, a] ta wa) (hs : starEach [e, a] X.env = [(false, eval e X.env), (false, eval a X.env)] := by rfl) (hs2 : starEach [a] X.env = [(false, eval a X.env)] := by rfl) : QI X C tg (.Call (.Name "range" p) [e, a] [] pos) (iRng2 ta) (wRng2 wa) := ⟨pi_range2 hg hm ha.pa hs hs2, by
  intro ρ ρx σ σx H S k R hl st hw q
  refine ha.ok ρ ρx σ σx H S _ _ hl st hw fun ds ρ1 vs H1 S1 hl1 st1 hk => ?_
  have lx : (ρ1 ++ ρx).length = (σ ++ σx).length := by have := st.len; simp only [List.length_append] at *; omega
  obtain ⟨st2, r⟩ := args_of lx st1
  split at hk
  · rename_i i j
    obtain ⟨v, u, rfl, h1, h2⟩ := rps2 r
    rw [show v = _ from h1, show u = _ from h2]
    exact ⟨i, j, rfl, hk.1, q _ ρ1 [] [] _ H1 S1 hl1 rfl (by simpa using st2) itok_range hk.2⟩
  · exact hk.elim⟩

/-! ### for -/
def loopW (g : WG) (body : WS) : List D → En → Ev → Prop
  | [], E, ρ => E.nx ρ
  | d :: ds, E, ρ => g (.fz d) ρ fun ρ1 => body { E with nx := loopW g body ds E, ct := loopW g body ds E, bk := E.nx } ρ1
def wFor (wi : WI) (g : WG) (body : WS) : WS := fun E ρ => wi ρ fun ds ρ1 => loopW g body ds E ρ1
theorem ok_for {is : List Nat} {ti : TI} {wi : WI} {g : TG} {u : WG} {tb : TS} {b : WS} (hi : OkI C ti wi) (hg : OkG C is g u) (hb : OkS C tb b) : OkS C (tFor ti g tb) (wFor wi u b) := by
  intro ρ ρx σ σx H S E D hl st hw f
  refine hi ρ ρx σ σx H S _ _ hl st hw fun ds ρ1 ρh σh J H1 S1 hl1 hh st1 it hk => ?_
  have lx : (ρ1 ++ ρx).length = (σ ++ σx).length := by have := st1.len; simp only [List.length_append] at *; omega
  have lxx : ρx.length = σx.length := by simp only [List.length_append] at lx; omega
  refine ⟨fun i m σ' H' => m = ds.length - i ∧ i ≤ ds.length ∧ ∃ ρ' S', ρ'.length = σ'.length ∧ Sta C ((ρ' ++ ρx) ++ ρh) ((σ' ++ σx) ++ σh) H' S' ∧ loopW u b (ds.drop i) E ρ', ⟨ds.length, by simp, Nat.zero_le _, ρ1, S1, hl1, st1, hk⟩, ?_⟩
  rintro i m σ' H' ⟨rfl, him, ρ', S', hl', st', hk'⟩
  have lx' : (ρ' ++ ρx).length = (σ' ++ σx).length := by simp only [List.length_append]; omega
  by_cases hlt : i < ds.length
  · obtain ⟨d, hd⟩ := split_at hlt
    rw [List.drop_eq_getElem_cons hlt] at hk'
    have ed : ds[i] = d := by rw [List.getElem?_eq_getElem hlt] at hd; exact Option.some.inj hd
    rw [ed] at hk'
    refine .inr ⟨it.go _ _ H' S' i lx' st' hlt, fun σ2 H2 => ∃ ρ2 S2, ρ2.length = σ2.length ∧ Sta C ((ρ2 ++ ρx) ++ ρh) ((σ2 ++ σx) ++ σh) H2 S2 ∧ loopW u b (ds.drop (i + 1)) E ρ2, fun σ2 H2 h2 => ⟨ds.length - (i + 1), by omega, rfl, hlt, h2⟩, fun x H2 y => ?_⟩
    obtain ⟨st2, r2⟩ := it.yld _ _ H' H2 S' i x d lx' st' hd y
    rw [List.append_assoc, List.append_assoc] at st2
    refine hg ρ' (ρx ++ ρh) σ' (σx ++ σh) H2 S' (.fz d) x _ _ hl' st2 r2 (fun z => by cases z) hk' fun ρ3 σ3 H3 S3 hl3 _ st3 hb3 => ?_
    refine hb ρ3 (ρx ++ ρh) σ3 (σx ++ σh) H3 S3 _ _ hl3 st3 hb3 ⟨fun ρ4 σ4 H4 S4 hl4 st4 h4 => ?_, fun ρ4 σ4 H4 S4 s v hl4 st4 h4 => ?_, fun ρ4 σ4 H4 S4 hl4 st4 h4 => ?_, fun ρ4 σ4 H4 S4 hl4 st4 h4 => ?_⟩
    · exact ⟨ρ4, S4, hl4, by rw [List.append_assoc, List.append_assoc]; exact st4, h4⟩
    · -- the held slots are dropped from below the value
      have ok := st4.last (by simp only [List.length_append]; omega)
      have ap := st4.apt
      have st5 := st4.popLast
      rw [← List.append_assoc, ← List.append_assoc] at st5
      have l5 : (ρ4 ++ ρx).length = (σ4 ++ σx).length := by simp only [List.length_append]; omega
      refine f.rt ρ4 σ4 H4 S4 s v hl4 ((st5.drop l5).push ok fun o k t ek to q => ?_) h4
      refine ap o k t ?_ to ?_
      · rw [← List.append_assoc]; exact get_app ek
      · rw [← List.append_assoc]; exact get_app q
    · rw [← List.append_assoc, ← List.append_assoc] at st4
      exact f.nx ρ4 σ4 H4 S4 hl4 (st4.drop (by simp only [List.length_append]; omega)) h4
    · exact ⟨ρ4, S4, hl4, by rw [List.append_assoc, List.append_assoc]; exact st4, h4⟩
  · have e : i = ds.length := by omega
    subst e
    rw [List.drop_length] at hk'
    exact .inl ⟨it.stop _ _ H' S' lx' st', f.nx ρ' σ' H' S' hl' (st'.drop lx') hk'⟩
theorem qs_for {is : List Nat} {iter : Expr} {body : List Stmt} {ti : TI} {wi : WI} {g : TG} {u : WG} {tb : TS} {b : WS} (hp : PassesOwn (model X.prog X.w) X.A X.env X.xe) (hc : X.calm = true) (hi : QI X C tg iter ti wi) (hg : QG X C is tg g u) (hb : QSs X C body tb b) (hs : ∀ x, foldedSetIterable iter X.env x = pure x := by intro _; rfl) :
    QS X C (.For tg iter body [] pos) (tFor ti g tb) (wFor wi u b) := ⟨ps_for hp hc hi.pi hg.pg hb.ps hs, ok_for hi.ok hg.ok hb.ok⟩

/-! ### while -/
def whW (c : WT) (body : WS) : Nat → En → Ev → Prop
  | 0, _, _ => False
  | n + 1, E, ρ => c ρ fun b ρ1 => if b = true then body { E with nx := whW c body n E, ct := whW c body n E, bk := E.nx } ρ1 else E.nx ρ1
def wWhile (c : WT) (body : WS) : WS := fun E ρ => ∃ n, whW c body n E ρ
theorem qs_while {c : Expr} {body : List Stmt} {tc : TT} {wc : WT} {tb : TS} {b : WS} (hp : PassesOwn (model X.prog X.w) X.A X.env X.xe) (hc : QT X C c tc wc) (hb : QSs X C body tb b) : QS X C (.While c body [] pos) (tWhile tc tb) (wWhile wc b) := ⟨ps_while hp hc.pt hb.ps, by
  intro ρ ρx σ σx H S E D hl st hw f
  obtain ⟨n, hw⟩ := hw
  refine ⟨fun m σ' H' => ∃ ρ' S', ρ'.length = σ'.length ∧ Sta C (ρ' ++ ρx) (σ' ++ σx) H' S' ∧ whW wc b m E ρ', ⟨n, ρ, S, hl, st, hw⟩, ?_⟩
  rintro m σ' H' ⟨ρ', S', hl', st', hk⟩
  cases m with
  | zero => exact hk.elim
  | succ m =>
    refine hc.ok ρ' ρx σ' σx H' S' _ _ hl' st' hk fun c ρ1 H1 S1 hl1 st1 hk1 => ?_
    cases c with
    | true =>
      refine ⟨fun σ2 H2 => ∃ ρ2 S2, ρ2.length = σ2.length ∧ Sta C (ρ2 ++ ρx) (σ2 ++ σx) H2 S2 ∧ whW wc b m E ρ2, fun σ2 H2 h => ⟨m, Nat.lt_succ_self _, h⟩, ?_⟩
      refine hb.ok ρ1 ρx σ' σx H1 S1 _ _ hl1 st1 hk1 ⟨fun ρ4 σ4 H4 S4 hl4 st4 h4 => ⟨ρ4, S4, hl4, st4, h4⟩, f.rt, fun ρ4 σ4 H4 S4 hl4 st4 h4 => f.nx ρ4 σ4 H4 S4 hl4 st4 h4, fun ρ4 σ4 H4 S4 hl4 st4 h4 => ⟨ρ4, S4, hl4, st4, h4⟩⟩
    | false => exact f.nx ρ1 σ' H1 S1 hl1 st1 hk1⟩

/-! ### comprehensions -/
def wipeE (ρ : Ev) : List Nat → Ev
  | [] => ρ
  | v :: vs => (wipeE ρ vs).set v none
theorem wipeE_len (ρ : Ev) : ∀ vs : List Nat, (wipeE ρ vs).length = ρ.length
  | [] => rfl
  | v :: vs => by unfold wipeE; rw [List.length_set, wipeE_len ρ vs]
theorem Sta.wipe {ρ ρx : Ev} {σ σx : St} {H : Hp} {S : List Addr} (hl : ρ.length = σ.length) (st : Sta C (ρ ++ ρx) (σ ++ σx) H S) : ∀ vs : List Nat, Sta C (wipeE ρ vs ++ ρx) (L2.wipe σ vs ++ σx) H S
  | [] => st
  | v :: vs => by
    have ih := Sta.wipe hl st vs
    unfold wipeE L2.wipe
    by_cases hv : v < ρ.length
    · have h1 : v < (wipeE ρ vs).length := by rw [wipeE_len]; exact hv
      have h2 : v < (L2.wipe σ vs).length := by rw [wipe_length]; omega
      have := (ih.forget v).blind (set_none _ _) none
      rw [app_set _ _ _ _ h1, app_set _ _ _ _ h2] at this
      exact this
    · rw [List.set_eq_of_length_le (by rw [wipeE_len]; omega), List.set_eq_of_length_le (by rw [wipe_length]; omega)]
      exact ih
/-- .. where the slots keep what they hold -/
theorem Sta.wipeF {ρ ρx : Ev} {σ σx : St} {H : Hp} {S : List Addr} (st : Sta C (ρ ++ ρx) (σ ++ σx) H S) : ∀ vs : List Nat, Sta C (wipeE ρ vs ++ ρx) (σ ++ σx) H S
  | [] => st
  | v :: vs => by
    have ih := Sta.wipeF st vs
    unfold wipeE
    by_cases hv : v < ρ.length
    · have h1 : v < (wipeE ρ vs).length := by rw [wipeE_len]; exact hv
      have := ih.forget v
      rw [app_set _ _ _ _ h1] at this
      exact this
    · rw [List.set_eq_of_length_le (by rw [wipeE_len]; omega)]
      exact ih
theorem wipe_get (σ : St) (j : Nat) : ∀ vs : List Nat, (L2.wipe σ vs)[j]? = if j ∈ vs ∧ j < σ.length then some none else σ[j]?
  | [] => by simp [L2.wipe]
  | v :: vs => by
    unfold L2.wipe
    by_cases hj : v = j
    · subst hj
      by_cases hv : v < σ.length
      · rw [List.getElem?_set_self (by rw [wipe_length]; exact hv), if_pos ⟨List.mem_cons_self, hv⟩]
      · rw [List.set_eq_of_length_le (by rw [wipe_length]; omega), wipe_get σ v vs, if_neg (fun z => hv z.2), if_neg (fun z => hv z.2)]
    · rw [List.getElem?_set_ne hj, wipe_get σ j vs]
      by_cases hm : j ∈ vs ∧ j < σ.length
      · rw [if_pos hm, if_pos ⟨List.mem_cons_of_mem _ hm.1, hm.2⟩]
      · rw [if_neg hm, if_neg (fun z => hm ⟨(List.mem_cons.mp z.1).resolve_left (Ne.symm hj), z.2⟩)]
theorem wipe_at {is vs : List Nat} {σ σ' : St} (a : At is σ σ') (h : ∀ i ∈ is, i ∈ vs) : L2.wipe σ' vs = L2.wipe σ vs := by
  apply List.ext_getElem?
  intro j
  rw [wipe_get, wipe_get, a.1]
  by_cases hj : j ∈ vs ∧ j < σ.length
  · rw [if_pos hj, if_pos hj]
  · rw [if_neg hj, if_neg hj]
    by_cases hm : j ∈ is
    · have : ¬ j < σ.length := fun z => hj ⟨h j hm, z⟩
      have := a.1
      rw [List.getElem?_eq_none (by omega), List.getElem?_eq_none (by omega)]
    · exact a.2 j hm
theorem wipe_idem (σ : St) (vs : List Nat) : L2.wipe (L2.wipe σ vs) vs = L2.wipe σ vs := by
  apply List.ext_getElem?
  intro j
  rw [wipe_get, wipe_get, wipe_length]
  by_cases hj : j ∈ vs ∧ j < σ.length
  · rw [if_pos hj, if_pos hj]
  · rw [if_neg hj, if_neg hj]
/-- the turns of a comprehension: what is made so far -/
def lcW (vs : List Nat) (g : WG) (c : WT) (we : WE) : List D → List D → Ev → (List D → Ev → Prop) → Prop
  | [], acc, ρ, k => k acc ρ
  | d :: ds, acc, ρ, k => g (.fz d) ρ fun ρ1 => c ρ1 fun b ρ2 => if b = true then we ρ2 fun s ρ3 => acc.length < 1000000 ∧ lcW vs g c we ds (acc ++ [s.toD]) (wipeE ρ3 vs) k else lcW vs g c we ds acc (wipeE ρ2 vs) k
def wLc (vs : List Nat) (wi : WI) (g : WG) (c : WT) (we : WE) : WE := fun ρ k => wi ρ fun ds ρ1 => lcW vs g c we ds [] (wipeE ρ1 vs) fun acc ρ2 => k (.ol acc) ρ2
theorem Sta.agree {ρ : Ev} {σ σ' : St} {H : Hp} {S : List Addr} (st : Sta C ρ σ H S) (hl : σ'.length = σ.length) (h : ∀ (i : Nat) (s : Sl), ρ[i]? = some (some s) → σ'[i]? = σ[i]?) : Sta C ρ σ' H S :=
  ⟨st.wd, st.sub, st.own, st.al, st.al0, st.bagO, st.len.trans hl.symm, fun i s e => by rw [h i s e]; exact st.sl i s e, fun i j s t v e1 e2 o1 o2 q1 q2 => st.ap i j s t v e1 e2 o1 o2 (by rw [← h i s e1]; exact q1) (by rw [← h j t e2]; exact q2)⟩
theorem wipeE_get (ρ : Ev) {v : Nat} : ∀ {vs : List Nat}, v ∈ vs → ∀ s, (wipeE ρ vs)[v]? ≠ some (some s)
  | [], h, _ => by cases h
  | u :: vs, h, s => by
    unfold wipeE
    by_cases hu : u = v
    · subst hu; exact set_none _ _ s
    · rw [List.getElem?_set_ne hu]
      exact wipeE_get ρ ((List.mem_cons.mp h).resolve_left (Ne.symm hu)) s
/-- from the wiped slots to those as they stand -/
theorem Sta.unwipe {ρ ρx : Ev} {σ σx : St} {H : Hp} {S : List Addr} {vs : List Nat} (hl : ρ.length = σ.length) (st : Sta C (ρ ++ ρx) (L2.wipe σ vs ++ σx) H S) (hn : ∀ v ∈ vs, ∀ s, ρ[v]? ≠ some (some s)) : Sta C (ρ ++ ρx) (σ ++ σx) H S := by
  refine st.agree (by simp [wipe_length]) fun i s e => ?_
  by_cases hi : i < ρ.length
  · have e' := of_get_app e hi
    rw [List.getElem?_append_left (by omega), List.getElem?_append_left (by rw [wipe_length]; omega), wipe_get, if_neg]
    exact fun z => hn i z.1 s e'
  · rw [List.getElem?_append_right (by omega), List.getElem?_append_right (by rw [wipe_length]; omega), wipe_length]
theorem ok_lc {is vs : List Nat} {ti : TI} {wi : WI} {g : TG} {u : WG} {tt : TT} {wt : WT} (hi : OkI C ti wi) (hg : OkG C is g u) (ht : OkT C tt wt) (he : OkE C t w) (hv : ∀ i ∈ is, i ∈ vs) : OkE C (tLc ti g tt t vs) (wLc vs wi u wt w) := by
  intro ρ ρx σ σx H S k Qd hl st hw q
  refine hi ρ ρx σ σx H S _ _ hl st hw fun ds ρ1 ρh σh J H1 S1 hl1 hh st1 it hk D hD => ?_
  have lx : (ρ1 ++ ρx).length = (σ ++ σx).length := by have := st1.len; simp only [List.length_append] at *; omega
  have lxx : ρx.length = σx.length := by simp only [List.length_append] at lx; omega
  have re : ∀ (ρ' : Ev) (a : List Q.D), ((ρ' ++ ρx) ++ ρh) ++ [some (.ol a)] = ρ' ++ (ρx ++ ρh ++ [some (.ol a)]) := fun ρ' a => by simp only [List.append_assoc]
  have rs : ∀ σ' : St, ((σ' ++ σx) ++ σh) ++ [some (.ref D)] = σ' ++ (σx ++ σh ++ [some (.ref D)]) := fun σ' => by simp only [List.append_assoc]
  refine ⟨fun i m H' => m = ds.length - i ∧ i ≤ ds.length ∧ ∃ acc ρ' S', ρ'.length = σ.length ∧ (∀ v ∈ vs, ∀ s, ρ'[v]? ≠ some (some s)) ∧ Sta C (ρ' ++ (ρx ++ ρh ++ [some (.ol acc)])) (L2.wipe σ vs ++ (σx ++ σh ++ [some (.ref D)])) H' S' ∧ lcW vs u wt w (ds.drop i) acc ρ' (fun acc ρ2 => k (.ol acc) ρ2), ⟨ds.length, by simp, Nat.zero_le _, [], wipeE ρ1 vs, D :: S1, by rw [wipeE_len]; exact hl1, fun v m s => wipeE_get ρ1 m s, ?_, hk⟩, ?_⟩
  · have := st1.pushL (ds := []) (xs := []) hD (Nat.zero_le _) Rps.nil
    rw [re, rs] at this
    exact this.wipe hl1 vs
  · rintro i m H' ⟨rfl, him, acc, ρ', S', hl', hn, stw, hk'⟩
    have lx' : (ρ' ++ ρx).length = (L2.wipe σ vs ++ σx).length := by simp only [List.length_append, wipe_length]; omega
    have lh' : ((ρ' ++ ρx) ++ ρh).length = ((L2.wipe σ vs ++ σx) ++ σh).length := by simp only [List.length_append, wipe_length] at *; omega
    have stl := stw
    rw [← re, ← rs] at stl
    by_cases hlt : i < ds.length
    · obtain ⟨d, hd⟩ := split_at hlt
      rw [List.drop_eq_getElem_cons hlt] at hk'
      have ed : ds[i] = d := by rw [List.getElem?_eq_getElem hlt] at hd; exact Option.some.inj hd
      rw [ed] at hk'
      refine .inr ⟨it.go _ _ H' S' i lx' stl.popLast hlt, fun H2 => ∃ acc ρ2 S2, ρ2.length = σ.length ∧ (∀ v ∈ vs, ∀ s, ρ2[v]? ≠ some (some s)) ∧ Sta C (ρ2 ++ (ρx ++ ρh ++ [some (.ol acc)])) (L2.wipe σ vs ++ (σx ++ σh ++ [some (.ref D)])) H2 S2 ∧ lcW vs u wt w (ds.drop (i + 1)) acc ρ2 (fun acc ρ2 => k (.ol acc) ρ2), fun H2 h2 => ⟨ds.length - (i + 1), by omega, rfl, hlt, h2⟩, fun x H2 y => ?_⟩
      -- the item: the heap may have a new pair
      obtain ⟨st2, r2⟩ := it.yldA (ρ := ρ' ++ ρx) (σ := L2.wipe σ vs ++ σx) lx' hh stl hd y
      rw [re, rs] at st2
      refine hg ρ' (ρx ++ ρh ++ [some (.ol acc)]) (L2.wipe σ vs) (σx ++ σh ++ [some (.ref D)]) H2 S' (.fz d) x _ _ (by rw [wipe_length]; exact hl') st2 r2 (fun z => by cases z) hk' fun ρ3 σ3 H3 S3 hl3 a3 st3 hk3 => ?_
      have ew : L2.wipe σ3 vs = L2.wipe σ vs := by rw [wipe_at a3 hv, wipe_idem]
      have l3 : σ3.length = σ.length := by rw [a3.1, wipe_length]
      refine ⟨ew, ?_⟩
      refine ht ρ3 (ρx ++ ρh ++ [some (.ol acc)]) σ3 (σx ++ σh ++ [some (.ref D)]) H3 S3 _ _ hl3 st3 hk3 fun b ρ4 H4 S4 hl4 st4 hk4 => ?_
      cases b with
      | false =>
        refine ⟨acc, wipeE ρ4 vs, S4, by rw [wipeE_len]; omega, fun v m s => wipeE_get ρ4 m s, ?_, hk4⟩
        have := st4.wipe hl4 vs
        rw [ew] at this
        exact this
      | true =>
        refine he ρ4 (ρx ++ ρh ++ [some (.ol acc)]) σ3 (σx ++ σh ++ [some (.ref D)]) H4 S4 _ _ hl4 st4 hk4 fun s ρ5 v H5 S5 hl5 st5 hk5 => ?_
        obtain ⟨S5', st5'⟩ := st5.lastD
        have l5 : (ρ5 ++ (ρx ++ ρh ++ [some (Sl.ol acc)])).length = (σ3 ++ (σx ++ σh ++ [some (V.ref D)])).length := by simp only [List.length_append, List.length_cons, List.length_nil] at *; omega
        have okv := st5'.last l5
        have st6 := st5'.popLast
        have e6 : (ρ5 ++ (ρx ++ ρh ++ [some (.ol acc)]))[ρ5.length + ρx.length + ρh.length]? = some (some (.ol acc)) := by
          rw [← re, List.getElem?_append_right (by simp only [List.length_append]; omega)]
          simp only [List.length_append]
          rw [show ρ5.length + ρx.length + ρh.length - (ρ5.length + ρx.length + ρh.length) = 0 from by omega]
          rfl
        have q6 : (σ3 ++ (σx ++ σh ++ [some (V.ref D)]))[ρ5.length + ρx.length + ρh.length]? = some (some (.ref D)) := by
          rw [← rs, List.getElem?_append_right (by simp only [List.length_append]; omega)]
          simp only [List.length_append]
          rw [show ρ5.length + ρx.length + ρh.length - (σ3.length + σx.length + σh.length) = 0 from by omega]
          rfl
        obtain ⟨v', h2, b, ys, rfl, m', h0', hy, hlen', hr'⟩ := st6.get e6
        rw [q6] at h2
        cases h2
        have ly := hr'.len
        refine ⟨ys, hy, lim_lt (by omega), ?_⟩
        have st7 := st6.write (es := acc ++ [s.toD]) (ys := ys ++ [v]) e6 q6 (by rw [List.length_append]; show ys.length + 1 ≤ _; omega) (hr'.snoc okv)
        have e7 : (ρ5 ++ (ρx ++ ρh ++ [some (Sl.ol acc)])).set (ρ5.length + ρx.length + ρh.length) (some (.ol (acc ++ [s.toD]))) = ρ5 ++ (ρx ++ ρh ++ [some (.ol (acc ++ [s.toD]))]) := by
          rw [← re, ← re, List.set_append_right _ _ (by simp only [List.length_append]; omega)]
          simp only [List.length_append]
          rw [show ρ5.length + ρx.length + ρh.length - (ρ5.length + ρx.length + ρh.length) = 0 from by omega]
          rfl
        rw [e7] at st7
        refine ⟨acc ++ [s.toD], wipeE ρ5 vs, S5', by rw [wipeE_len]; omega, fun v m s => wipeE_get ρ5 m s, ?_, hk5.2⟩
        have := st7.wipe hl5 vs
        rw [ew] at this
        exact this
    · have e : i = ds.length := by omega
      subst e
      rw [List.drop_length] at hk'
      refine .inl ⟨it.stop _ _ H' S' lx' stl.popLast, ?_⟩
      have stf := stw.unwipe hl' hn
      rw [← re, ← rs] at stf
      have lf : (ρ' ++ ρx).length = (σ ++ σx).length := by simp only [List.length_append]; omega
      have lhf : ((ρ' ++ ρx) ++ ρh).length = ((σ ++ σx) ++ σh).length := by simp only [List.length_append] at *; omega
      refine q (.ol acc) ρ' (.ref D) H' S' hl' ((stf.popLast.drop lf).push (stf.last lhf) fun o j t ej to z => ?_) hk'
      exact stf.apt o j t (get_app ej) to (get_app z)
theorem pd_lc {scope : Scope} {own : List (Str × Nat)} {is : List Nat} {iter elt : Expr} {ifs : List Expr} {ti : TI} {wi : WI} {g : TG} {u : WG} {tt : TT} {wt : WT} (hc : X.calm = true) (hN : X.N.Nodup) (hi : QI X C tg iter ti wi) (ok : BlkOk X.N X.env.scope scope own)
    (hg : ∀ (s : Shared) (H : Hp) (Cl : Addr) (cl : List (Str × Addr)) (fp : List Addr), QG (X.blk s H scope (compEnvC scope cl Cl X.env) fp) C is tg g u) (ht : ∀ (s : Shared) (H : Hp) (Cl : Addr) (cl : List (Str × Addr)) (fp : List Addr), PTs (X.blk s H scope (compEnvC scope cl Cl X.env) fp) ifs tt) (ht' : OkT C tt wt)
    (he : ∀ (s : Shared) (H : Hp) (Cl : Addr) (cl : List (Str × Addr)) (fp : List Addr), PD (X.blk s H scope (compEnvC scope cl Cl X.env) fp) C elt t w) (hv : ∀ i ∈ is, i ∈ own.map (·.2)) (hs : ∀ x, foldedSetIterable iter X.env x = pure x := by intro _; rfl) (h0 : OkG C is g u) (h1 : OkE C t w) :
    PD X C (.ListComp elt [⟨tg, iter, ifs, 0⟩] scope pos) (tLc ti g tt t (own.map (·.2))) (wLc (own.map (·.2)) wi u wt w) := ⟨pe_lc hc hN hi.pi ok (fun s H Cl cl fp => (hg s H Cl cl fp).pg) ht (fun s H Cl cl fp => (he s H Cl cl fp).pe) hs, ok_lc hi.ok h0 ht' h1 hv⟩

/-! ### enumerate, zip, reversed, the signs of a text -/
theorem Sta.newTup {ρ : Ev} {σ : St} {H : Hp} {S : List Addr} (st : Sta C ρ σ H S) {T : Addr} {xs : List V} {ds : List D} (hT : H T = none) (hl : xs.length ≤ 1000000) (r : Rps C.B (hid S H) xs ds) : Sta C ρ σ (upd H T (.tup xs)) S ∧ Rp C.B (hid S (upd H T (.tup xs))) (.ref T) (.tup ds) :=
  ⟨st.new hT, T, xs, rfl, SqT.of (by rw [hid_ne (st.notS hT), upd_same]), hl, Rps.same (hid_new hT) ds r⟩
def enumD (ds : List D) : List D := (List.range ds.length).zipWith (fun i d => D.tup [.int (i : Nat), d]) ds
theorem enumD_len (ds : List D) : (enumD ds).length = ds.length := by simp [enumD]
theorem enumD_get {ds : List D} {i : Nat} {d : D} (h : (enumD ds)[i]? = some d) : ∃ x, ds[i]? = some x ∧ d = .tup [.int (i : Nat), x] := by
  unfold enumD at h
  rw [List.getElem?_zipWith] at h
  have hi : i < ds.length := by
    cases e : ds[i]? with
    | none => rw [e] at h; cases q : (List.range ds.length)[i]? <;> rw [q] at h <;> cases h
    | some x => exact lt_of_get e
  rw [List.getElem?_range hi, List.getElem?_eq_getElem hi] at h
  cases h
  exact ⟨_, List.getElem?_eq_getElem hi, rfl⟩
theorem itok_enum {K : PySem.W.Frag} {a : Addr} {ds : List D} : ItOk C (Ite K a) [some (.fz (.lst ds))] [some (.ref a)] (enumD ds) := by
  have get : ∀ {ρ : Ev} {σ : St} {H : Hp} {S : List Addr}, ρ.length = σ.length → Sta C (ρ ++ [some (.fz (.lst ds))]) (σ ++ [some (.ref a)]) H S → ∃ xs, H a = some (.lst xs) ∧ Rps C.B (hid S H) xs ds := fun hl st => by
    obtain ⟨b, xs, e, h2, _, h4⟩ := st.held hl
    cases e
    exact ⟨xs, (hid_some h2).2, h4⟩
  refine ⟨fun ρ σ H S i hl st hi => ?_, fun ρ σ H S hl st => ?_, fun i H x H' y => ?_, fun ρ σ H H' S i x d hl st hd y => ?_⟩
  · obtain ⟨xs, h1, h2⟩ := get hl st
    rw [enumD_len, ← h2.len] at hi
    exact (walk_enum (K := K)).goes i H hi (SqL.of h1)
  · obtain ⟨xs, h1, h2⟩ := get hl st
    rw [enumD_len, ← h2.len]
    exact (walk_enum (K := K)).stops H (SqL.of h1)
  · obtain ⟨T, x, h1, h2, rfl, h4⟩ := y
    exact fun b o e => by rw [upd_ne (ne_of_none e h2)]; exact e
  · obtain ⟨xs, h1, h2⟩ := get hl st
    obtain ⟨z, hz, rfl⟩ := enumD_get hd
    have hi := lt_of_get hz
    have := h2.len
    obtain ⟨T, y1, y2, rfl, hT, rfl, e1, e2⟩ := (walk_enum (K := K)).yields i H x H' (by omega) (SqL.of h1) y
    cases e1
    obtain ⟨d', e3, e4⟩ := h2.at_ e2
    rw [hz] at e3
    cases e3
    exact st.newTup hT (by show 2 ≤ 1000000; decide) (.cons rfl (.cons e4 .nil))
def wEnum (w : WE) : WI := fun ρ k => w ρ fun s ρ1 => match s.toD with
  | .lst ds => k (enumD ds) ρ1
  | _ => False
theorem sets1 {ρ : Ev} {σ : St} {s : Sl} {v : V} : ρ ++ fzs [s.toD] = ρ ++ [some (Sl.fz s.toD)] ∧ σ ++ [v].map some = σ ++ [some v] := ⟨rfl, rfl⟩
theorem qi_enum (F : Fit X C) {p tpos : Pos} {elts : List Expr} {kk : Nat} (hg : Gl X "enumerate") (hm : X.mg "enumerate" = none) (ha : PD X C e t w) (hs : starEach [e] X.env = (false, eval e X.env) :: starEach [] X.env := by rfl) : QI X C (.Tuple elts kk tpos) (.Call (.Name "enumerate" p) [e] [] pos) (iEnum X.K (tCons t tNil)) (wEnum w) := ⟨pi_enum hg hm (pa_cons ha.pe pa_nil hs) hs, by
  intro ρ ρx σ σx H S k R hl st hw q
  refine ha.ok ρ ρx σ σx H S _ _ hl st hw fun s ρ1 v H1 S1 hl1 st1 hk => ?_
  obtain ⟨S1', st1'⟩ := st1.lastD
  split at hk
  · rename_i ds e1
    rw [e1] at st1'
    have lx : (ρ1 ++ ρx).length = (σ ++ σx).length := by have := st1.len; simp only [List.length_append, List.length_cons, List.length_nil] at *; omega
    obtain ⟨a, xs, rfl, g1, _, _⟩ := (st1'.last lx).lst rfl
    exact ⟨a, xs, rfl, SqL.of g1, q _ ρ1 _ _ _ H1 S1' hl1 rfl st1' itok_enum hk⟩
  · exact hk.elim⟩
def zipD (ds es : List D) : List D := ds.zipWith (fun d e => D.tup [d, e]) es
theorem zipD_len (ds es : List D) : (zipD ds es).length = min ds.length es.length := by simp [zipD]
theorem zipD_get {ds es : List D} {i : Nat} {d : D} (h : (zipD ds es)[i]? = some d) : ∃ x y, ds[i]? = some x ∧ es[i]? = some y ∧ d = .tup [x, y] := by
  unfold zipD at h
  rw [List.getElem?_zipWith] at h
  cases e : ds[i]? with
  | none => rw [e] at h; cases h
  | some x =>
    cases f : es[i]? with
    | none => rw [e, f] at h; cases h
    | some y => rw [e, f] at h; cases h; exact ⟨x, y, rfl, rfl, rfl⟩
theorem Sta.held2 {ρ : Ev} {σ : St} {H : Hp} {S : List Addr} {d d' : D} {v v' : V} (hl : ρ.length = σ.length) (st : Sta C (ρ ++ [some (.fz d), some (.fz d')]) (σ ++ [some v, some v']) H S) : Rp C.B (hid S H) v d ∧ Rp C.B (hid S H) v' d' := by
  have e1 : ρ ++ [some (Sl.fz d), some (.fz d')] = (ρ ++ [some (.fz d)]) ++ [some (.fz d')] := by simp
  have e2 : σ ++ [some v, some v'] = (σ ++ [some v]) ++ [some v'] := by simp
  rw [e1, e2] at st
  exact ⟨st.popLast.held hl, st.held (by simp [hl])⟩
theorem itok_zip {K : PySem.W.Frag} {a b : Addr} {ds es : List D} : ItOk C (Itz K a b) [some (.fz (.lst ds)), some (.fz (.lst es))] [some (.ref a), some (.ref b)] (zipD ds es) := by
  have get : ∀ {ρ : Ev} {σ : St} {H : Hp} {S : List Addr}, ρ.length = σ.length → Sta C (ρ ++ [some (.fz (.lst ds)), some (.fz (.lst es))]) (σ ++ [some (.ref a), some (.ref b)]) H S → ∃ xs ys, H a = some (.lst xs) ∧ H b = some (.lst ys) ∧ Rps C.B (hid S H) xs ds ∧ Rps C.B (hid S H) ys es := fun hl st => by
    obtain ⟨⟨b', xs, e, h2, _, h4⟩, ⟨b2, ys, e', g2, _, g4⟩⟩ := st.held2 hl
    cases e
    cases e'
    exact ⟨xs, ys, (hid_some h2).2, (hid_some g2).2, h4, g4⟩
  refine ⟨fun ρ σ H S i hl st hi => ?_, fun ρ σ H S hl st => ?_, fun i H x H' y => ?_, fun ρ σ H H' S i x d hl st hd y => ?_⟩
  · obtain ⟨xs, ys, h1, h2, h3, h4⟩ := get hl st
    rw [zipD_len, ← h3.len, ← h4.len] at hi
    exact (walk_zip (K := K) rfl).goes i H hi ⟨SqL.of h1, SqL.of h2⟩
  · obtain ⟨xs, ys, h1, h2, h3, h4⟩ := get hl st
    rw [zipD_len, ← h3.len, ← h4.len]
    exact (walk_zip (K := K) rfl).stops H ⟨SqL.of h1, SqL.of h2⟩
  · obtain ⟨T, x, z, h1, h2, rfl, h4⟩ := y
    exact fun b o e => by rw [upd_ne (ne_of_none e h2)]; exact e
  · obtain ⟨xs, ys, h1, h2, h3, h4⟩ := get hl st
    obtain ⟨z, u, hz, hu, rfl⟩ := zipD_get hd
    have l1 := lt_of_get hz
    have l2 := lt_of_get hu
    have := h3.len
    have := h4.len
    obtain ⟨T, y1, y2, rfl, hT, rfl, e1, e2⟩ := (walk_zip (K := K) rfl).yields i H x H' (by omega) ⟨SqL.of h1, SqL.of h2⟩ y
    obtain ⟨d', e3, e4⟩ := h3.at_ e1
    rw [hz] at e3
    cases e3
    obtain ⟨d'', e5, e6⟩ := h4.at_ e2
    rw [hu] at e5
    cases e5
    exact st.newTup hT (by show 2 ≤ 1000000; decide) (.cons e4 (.cons e6 .nil))
theorem itok_zipT {a b : Addr} {ds es : List D} : ItOk C (RZ.ItzT C.B.K a b) [some (.fz (.tup ds)), some (.fz (.tup es))] [some (.ref a), some (.ref b)] (zipD ds es) := by
  have get : ∀ {ρ : Ev} {σ : St} {H : Hp} {S : List Addr}, ρ.length = σ.length → Sta C (ρ ++ [some (.fz (.tup ds)), some (.fz (.tup es))]) (σ ++ [some (.ref a), some (.ref b)]) H S → ∃ xs ys, SqT C.B.K H a xs ∧ SqT C.B.K H b ys ∧ Rps C.B (hid S H) xs ds ∧ Rps C.B (hid S H) ys es := fun hl st => by
    obtain ⟨⟨b', xs, e, h2, _, h4⟩, ⟨b2, ys, e', g2, _, g4⟩⟩ := st.held2 hl
    cases e
    cases e'
    exact ⟨xs, ys, sameT hid_same h2, sameT hid_same g2, h4, g4⟩
  refine ⟨fun ρ σ H S i hl st hi => ?_, fun ρ σ H S hl st => ?_, fun i H x H' y => ?_, fun ρ σ H H' S i x d hl st hd y => ?_⟩
  · obtain ⟨xs, ys, h1, h2, h3, h4⟩ := get hl st
    rw [zipD_len, ← h3.len, ← h4.len] at hi
    exact (RF.walk_zipT rfl).goes i H hi ⟨h1, h2⟩
  · obtain ⟨xs, ys, h1, h2, h3, h4⟩ := get hl st
    rw [zipD_len, ← h3.len, ← h4.len]
    exact (RF.walk_zipT rfl).stops H ⟨h1, h2⟩
  · obtain ⟨T, x, z, h1, h2, rfl, h4⟩ := y
    exact fun b o e => by rw [upd_ne (ne_of_none e h2)]; exact e
  · obtain ⟨xs, ys, h1, h2, h3, h4⟩ := get hl st
    obtain ⟨z, u, hz, hu, rfl⟩ := zipD_get hd
    have l1 := lt_of_get hz
    have l2 := lt_of_get hu
    have := h3.len
    have := h4.len
    obtain ⟨T, y1, y2, rfl, hT, rfl, e1, e2⟩ := (RF.walk_zipT rfl).yields i H x H' (by omega) ⟨h1, h2⟩ y
    obtain ⟨d', e3, e4⟩ := h3.at_ e1
    rw [hz] at e3
    cases e3
    obtain ⟨d'', e5, e6⟩ := h4.at_ e2
    rw [hu] at e5
    cases e5
    exact st.newTup hT (by show 2 ≤ 1000000; decide) (.cons e4 (.cons e6 .nil))
def wZip (wa : WA) : WI := fun ρ k => wa ρ fun ds ρ1 => match ds with
  | [.lst xs, .lst ys] => k (zipD xs ys) ρ1
  | [.tup xs, .tup ys] => k (zipD xs ys) ρ1
  | _ => False
theorem qi_zip (F : Fit X C) {ta : TA} {wa : WA} {p tpos : Pos} {elts : List Expr} {kk : Nat} (hg : Gl X "zip") (hm : X.mg "zip" = none) (ha : QA X C [e, a] ta wa) (hs : starEach [e, a] X.env = (false, eval e X.env) :: starEach [a] X.env := by rfl) (hpl : (backTo pos (starEach [a] X.env)).any (·.1) = false := by rfl) :
    QI X C (.Tuple elts kk tpos) (.Call (.Name "zip" p) [e, a] [] pos) (RZ.iZipA X.K ta) (wZip wa) := ⟨RZ.pi_zipA hg hm ha.pa hs hpl, by
  intro ρ ρx σ σx H S k R hl st hw q
  refine ha.ok ρ ρx σ σx H S _ _ hl st hw fun ds ρ1 vs H1 S1 hl1 st1 hk => ?_
  have lx : (ρ1 ++ ρx).length = (σ ++ σx).length := by have := st.len; simp only [List.length_append] at *; omega
  obtain ⟨st2, r⟩ := args_of lx st1
  split at hk
  · rename_i xs ys
    obtain ⟨v, u, rfl, h1, h2⟩ := rps2 r
    obtain ⟨a, us, rfl, g1, _, _⟩ := id h1
    obtain ⟨b, ws, rfl, g2, _, _⟩ := id h2
    exact ⟨a, b, us, ws, rfl, .inl ⟨SqL.of (hid_some g1).2, SqL.of (hid_some g2).2, q _ ρ1 [some (.fz (.lst xs)), some (.fz (.lst ys))] [some (.ref a), some (.ref b)] _ H1 S1 hl1 rfl (by simpa [fzs] using st1) itok_zip hk⟩⟩
  · rename_i xs ys
    obtain ⟨v, u, rfl, h1, h2⟩ := rps2 r
    obtain ⟨a, us, rfl, g1, _, _⟩ := id h1
    obtain ⟨b, ws, rfl, g2, _, _⟩ := id h2
    have it : ItOk C (RZ.ItzT C.B.K a b) [some (.fz (.tup xs)), some (.fz (.tup ys))] [some (.ref a), some (.ref b)] (zipD xs ys) := itok_zipT
    rw [F.K] at g1 g2 it
    exact ⟨a, b, us, ws, rfl, .inr ⟨sameT hid_same g1, sameT hid_same g2, q _ ρ1 _ _ _ H1 S1 hl1 rfl (by simpa [fzs] using st1) it hk⟩⟩
  · exact hk.elim⟩
theorem itok_rev {K : PySem.W.Frag} {a : Addr} {ds : List D} : ItOk C (Itv K a ds.length) [some (.fz (.lst ds))] [some (.ref a)] ds.reverse := by
  have get : ∀ {ρ : Ev} {σ : St} {H : Hp} {S : List Addr}, ρ.length = σ.length → Sta C (ρ ++ [some (.fz (.lst ds))]) (σ ++ [some (.ref a)]) H S → ∃ xs, xs.length = ds.length ∧ H a = some (.lst xs) ∧ Rps C.B (hid S H) xs ds := fun hl st => by
    obtain ⟨b, xs, e, h2, _, h4⟩ := st.held hl
    cases e
    exact ⟨xs, h4.len, (hid_some h2).2, h4⟩
  refine ⟨fun ρ σ H S i hl st hi => ?_, fun ρ σ H S hl st => ?_, fun i H x H' y => by rw [y.1]; exact Same.refl _, fun ρ σ H H' S i x d hl st hd y => ?_⟩
  · obtain ⟨xs, h0, h1, h2⟩ := get hl st
    rw [List.length_reverse, ← h0] at hi
    rw [← h0]
    exact (walk_rev (K := K)).goes i H hi (SqL.of h1)
  · obtain ⟨xs, h0, h1, h2⟩ := get hl st
    rw [List.length_reverse, ← h0]
    exact (walk_rev (K := K)).stops H (SqL.of h1)
  · obtain ⟨xs, h0, h1, h2⟩ := get hl st
    have hi := lt_of_get hd
    rw [List.length_reverse] at hi
    rw [← h0] at y
    obtain ⟨rfl, hx⟩ := (walk_rev (K := K)).yields i H x H' (by omega) (SqL.of h1) y
    obtain ⟨d', e1, e2⟩ := h2.at_ hx
    rw [List.getElem?_reverse (by omega), ← h0, e1] at hd
    cases hd
    exact ⟨st, e2⟩
def wRevI (w : WE) : WI := fun ρ k => w ρ fun s ρ1 => match s.toD with
  | .lst ds => k ds.reverse ρ1
  | _ => False
theorem qi_rev {p : Pos} (hg : Gl X "reversed") (hm : X.mg "reversed" = none) (ha : PD X C e t w) (hs : starEach [e] X.env = (false, eval e X.env) :: starEach [] X.env := by rfl) : QI X C tg (.Call (.Name "reversed" p) [e] [] pos) (iRev X.K (tCons t tNil)) (wRevI w) := ⟨pi_reversed hg hm (pa_cons ha.pe pa_nil hs) hs, by
  intro ρ ρx σ σx H S k R hl st hw q
  refine ha.ok ρ ρx σ σx H S _ _ hl st hw fun s ρ1 v H1 S1 hl1 st1 hk => ?_
  obtain ⟨S1', st1'⟩ := st1.lastD
  split at hk
  · rename_i ds e1
    rw [e1] at st1'
    have lx : (ρ1 ++ ρx).length = (σ ++ σx).length := by have := st1.len; simp only [List.length_append, List.length_cons, List.length_nil] at *; omega
    obtain ⟨a, xs, rfl, g1, _, g3⟩ := (st1'.last lx).lst rfl
    have it : ItOk C (Itv X.K a ds.length) [some (.fz (.lst ds))] [some (.ref a)] ds.reverse := itok_rev
    rw [← g3.len] at it
    exact ⟨a, xs, rfl, SqL.of g1, q _ ρ1 _ _ _ H1 S1' hl1 rfl st1' it hk⟩
  · exact hk.elim⟩
/-- the signs of a text -/
def signsD (z : Str) : List D := z.cps.toList.map fun c => .str ⟨#[c]⟩
theorem itok_str {z : Str} : ItOk C (Its z) [] [] (signsD z) := by
  have ln : (signsD z).length = z.cps.size := by simp [signsD]
  refine ⟨fun ρ σ H S i hl st hi => ?_, fun ρ σ H S hl st => ?_, fun i H x H' y => by rw [y.1]; exact Same.refl _, fun ρ σ H H' S i x d hl st hd y => ?_⟩
  · exact walk_str.goes i H (ln ▸ hi) trivial
  · rw [ln]; exact walk_str.stops H trivial
  · have hi : i < z.cps.size := ln ▸ lt_of_get hd
    obtain ⟨rfl, c, hc, rfl⟩ := walk_str.yields i H x H' hi trivial y
    refine ⟨st, ?_⟩
    unfold signsD at hd
    rw [List.getElem?_map, Array.getElem?_toList, hc] at hd
    cases hd
    rfl
def wStrI (w : WE) : WI := fun ρ k => w ρ fun s ρ1 => match s.toD with
  | .str z => k (signsD z) ρ1
  | _ => False
theorem qi_str (h : PD X C e t w) : QI X C tg e (iStr t) (wStrI w) := ⟨pi_str h.pe, by
  intro ρ ρx σ σx H S k R hl st hw q
  refine h.ok ρ ρx σ σx H S _ _ hl st hw fun s ρ1 v H1 S1 hl1 st1 hk => ?_
  split at hk
  · rename_i z e1
    have lx : (ρ1 ++ ρx).length = (σ ++ σx).length := by have := st1.len; simp only [List.length_append, List.length_cons, List.length_nil] at *; omega
    exact ⟨z, (st1.last lx).str e1, q _ ρ1 [] [] _ H1 S1 hl1 rfl (by simpa using st1.popLast) itok_str hk⟩
  · exact hk.elim⟩
end
end Q


set_option autoImplicit false
set_option linter.all false
/-! Q6: what a def promises over data; calls -/
namespace Q
open PySem L2
open RF (Df pe_callD BagAt)
open PyProof.Rows (envOfC)
abbrev Ph := List D → (Sl → Prop) → (Exc → Prop) → Prop
def ExcOk (B : Bk) (S : List Addr) (H : Hp) (e : Exc) (cls : Value) (d : Option Addr) : Prop := ∃ (Cl dd : Addr) (fs : List (Str × V)), B.mg e.c = some (.ref Cl) ∧ cls = .ref Cl ∧ d = some dd ∧ H dd = some (.xd fs) ∧ fs.map (·.1) = e.ns ∧ Rps B (hid S H) (fs.map (·.2)) e.ds
def RetOk (B : Bk) (S : List Addr) (H H' : Hp) (v : V) : Sl → Prop
  | .fz d => Rp B (hid S H') v d
  | .ol ds => ∃ a xs, v = .ref a ∧ H a = none ∧ H' a = some (.lst xs) ∧ xs.length ≤ 1000000 ∧ Rps B (hid (a :: S) H') xs ds
def spD (K : PySem.W.Frag) (mg : Str → Option Value) (ub : Bool) (Φ : Ph) : Sp := fun vs H Q E => ∃ (B : Bk) (S : List Addr) (ds : List D) (k : Sl → Prop) (xk : Exc → Prop), B.K = K ∧ B.mg = mg ∧ (∀ a ∈ S, H a ≠ none) ∧ (ub = true → BagAt H B.bag B.cel ∧ B.bag ∈ S ∧ B.cel ∈ S) ∧
  Rps B (hid S H) vs ds ∧ Φ ds k xk ∧ (∀ s v H', Chg ub B H H' → RetOk B S H H' v s → k s → Q v H') ∧ (∀ e cls d H', Chg ub B H H' → ExcOk B S H' e cls d → xk e → E cls d H')
def startE (N : List Str) (ds : List D) : Ev := fzs ds ++ List.replicate (N.length - ds.length) none
theorem Sta.nones {C : Cxt} {ρ : Ev} {σ : St} {H : Hp} {S : List Addr} (st : Sta C ρ σ H S) (n : Nat) : Sta C (ρ ++ List.replicate n none) (σ ++ List.replicate n none) H S := by
  have hl := st.len
  have cut : ∀ (i : Nat) (s : Sl), (ρ ++ List.replicate n none)[i]? = some (some s) → i < ρ.length ∧ ρ[i]? = some (some s) := fun i s e => by
    by_cases hi : i < ρ.length
    · exact ⟨hi, of_get_app e hi⟩
    · rw [List.getElem?_append_right (by omega), List.getElem?_replicate] at e
      split at e <;> cases e
  refine ⟨st.wd, st.sub, st.own, st.al, st.al0, st.bagO, by simp [hl], fun i s e => ?_, fun i j s t v e1 e2 o1 o2 q1 q2 => ?_⟩
  · obtain ⟨hi, e⟩ := cut i s e
    obtain ⟨v, q, k⟩ := st.sl i s e
    exact ⟨v, get_app q, k⟩
  · obtain ⟨hi, e1⟩ := cut i s e1
    obtain ⟨hj, e2⟩ := cut j t e2
    exact st.ap i j s t v e1 e2 o1 o2 (of_get_app q1 (hl ▸ hi)) (of_get_app q2 (hl ▸ hj))
theorem Sta.begin {B : Bk} {ub : Bool} {S : List Addr} {H : Hp} {xk : Exc → Prop} (al : ∀ a ∈ S, H a ≠ none) (bg : ub = true → BagAt H B.bag B.cel ∧ B.bag ∈ S ∧ B.cel ∈ S) : Sta ⟨B, ub, S, H, xk⟩ [] [] H S :=
  ⟨⟨fun _ _ _ e => e, fun u => (bg u).1⟩, fun _ m => m, fun _ m => .inl m, al, al, fun u => (bg u).2, rfl, fun i s e => by simp at e, fun i j s t v e => by simp at e⟩
/-- what is handed back -/
theorem Sta.ret {C : Cxt} {ρ : Ev} {σ : St} {H : Hp} {S : List Addr} {s : Sl} {v : V} (st : Sta C ρ σ H S) (ok : SlOk C S H v s) : RetOk C.B C.Oc C.H0 H v s := by
  cases s with
  | fz d => exact Rp.same (hid_le st.sub) d ok
  | ol ds =>
    obtain ⟨a, xs, h1, h2, h3, h4, h5, h6⟩ := ok
    refine ⟨a, xs, h1, h3, h4, h5, Rps.same (hid_le fun b m => ?_) ds h6⟩
    rcases List.mem_cons.mp m with rfl | m
    · exact h2
    · exact st.sub b m
/-- a def that raises nothing, by its body -/
theorem fn_pd {P : Program} {wd : World} {K : PySem.W.Frag} {mg : Str → Option Value} {base : Heap} {x qual : Str} {st : Stmt} {f : Addr} {fd : FuncData} {N ps : List Str} {j : Nat} {ub : Bool} {Φ : Ph} (F : Fun K x qual st f fd) (Sc : FnScope N ps (defScope st)) (len : ∀ ds k xk, Φ ds k xk → ds.length = ps.length)
    (hbody : ∀ (cdv : Value) (A : Around) (outer : List Env) (s : Shared) (H : Hp) (E : XK) (C : Cxt) (ds : List D) (k : Sl → Prop) (xk : Exc → Prop), Room j (A.deeper (envOfC qual (defScope st) s.heap.objs.size f cdv)) → Fit (cxOf CX0 P wd K mg base N qual (defScope st) f cdv A outer s H E).nox C → C.ub = ub → Φ ds k xk →
      ∃ t w, QSs (cxOf CX0 P wd K mg base N qual (defScope st) f cdv A outer s H E).nox C (defBody st) t w ∧ w { nx := fun _ => k (.fz .non), rt := k } (startE N ds)) : FnOk P wd K mg base CX0 (j + 1) f fd ps (spD K mg ub Φ) := by
  refine F.ok Sc (fun vs H Q E h => ?_) (fun cdv A outer s H vs Q E hr h => ?_)
  · obtain ⟨B, S, ds, k, xk, _, _, _, _, r, φ, _⟩ := h
    rw [r.len]
    exact len _ _ _ φ
  · obtain ⟨B, S, ds, k, xk, e1, e2, al, bg, r, φ, q, _⟩ := h
    obtain ⟨t, w, hb, hw⟩ := hbody cdv A outer s H E ⟨B, ub, S, H, xk⟩ ds k xk hr ⟨e1, e2⟩ rfl φ
    refine ⟨t, hb.ps, ?_⟩
    have ln := len _ _ _ φ
    have s1 := ((Sta.begin (xk := xk) al bg).pushs r).nones (N.length - ds.length)
    have e3 : ([] ++ fzs ds) ++ List.replicate (N.length - ds.length) none = startE N ds ++ [] := by simp [startE]
    have e4 : ([] ++ vs.map some) ++ List.replicate (N.length - ds.length) none = L2.start N vs ++ [] := by simp [L2.start, r.len]
    rw [e3, e4] at s1
    refine hb.ok (startE N ds) [] (L2.start N vs) [] H S _ _ (by have := s1.len; simpa using this) s1 hw ⟨fun ρ σ H' S' hl st' h' => ?_, fun ρ σ H' S' s v hl st' h' => ?_, fun _ _ _ _ _ _ h => h.elim, fun _ _ _ _ _ _ h => h.elim⟩
    · exact q (.fz .non) .non H' st'.wd rfl h'
    · exact q s v H' st'.wd (st'.popLast.ret (st'.last (by simpa using hl))) h'
/-- what comes of a call -/
theorem l_call {K : PySem.W.Frag} {mg : Str → Option Value} {C : Cxt} {ub : Bool} {Φ : Ph} (hK : C.B.K = K) (hmg : C.B.mg = mg) (hu : ub = true → C.ub = true) (E : XK) : LiftN C (fun vs H Q => spD K mg ub Φ vs H Q E) (fun ds k => Φ ds k fun _ => False) := by
  intro ρ σ H S ds vs k Q st r φ q
  refine ⟨C.B, S, ds, k, fun _ => False, hK, hmg, st.al, fun u => ⟨st.wd.bag (hu u), st.sub _ (st.bagO (hu u)).1, st.sub _ (st.bagO (hu u)).2⟩, r, φ, fun s v H' c rt hk => ?_, fun e cls d H' _ _ z => z.elim⟩
  cases s with
  | fz d => exact q (.fz d) v H' S ((st.chg hu c).pushF rt) hk
  | ol es =>
    obtain ⟨a, xs, rfl, h1, h2, h3, h4⟩ := rt
    exact q (.ol es) _ H' _ (st.pushR hu c h1 h2 h3 h4) hk
section
variable {X : Cx} {C : Cxt} {e a bx : Expr} {es : List Expr} {t ta tb : TE} {w wa wb : WE} {pos p : Pos} {j k : Nat} {x : Str} {ps : List Str} {ub : Bool} {Φ : Ph}
def pCall (Φ : Ph) : PN := fun ds k => Φ ds k fun _ => False
theorem pd_call (Fi : Fit X C) (F : Df X.prog X.w X.K X.mg X.base k x ps (spD X.K X.mg ub Φ)) (hr : Room j X.A) (hk : k ≤ j) {ta : TA} {wa : WA} (ha : QA X C (e :: es) ta wa) (hu : ub = true → C.ub = true := by intro h; first | (cases h; done) | assumption)
    (hg : Gl X x := by rfl) (hdb : (x == ("__debug__" : Str)) = false := by decide)
    (he : starEach (e :: es) X.env = (false, eval e X.env) :: starEach es X.env := by rfl) (hpl : (backTo pos (starEach es X.env)).any (·.1) = false := by rfl) :
    PD X C (.Call (.Name x p) (e :: es) [] pos) (tCall (spD X.K X.mg ub Φ) [] L2.E0 ta) (wArg (pCall Φ) wa) := ⟨pe_callD F hr hk ha.pa hg hdb he hpl, by
  have h := l_call (Φ := Φ) Fi.K Fi.mg hu L2.E0
  have := ok_arg h ha.ok
  intro ρ ρx σ σx H S k Q hl st hw q
  have h2 := this ρ ρx σ σx H S k Q hl st hw q
  refine (show (ta σ H fun vs H1 => spD X.K X.mg ub Φ (vs ++ []) H1 Q L2.E0) from ?_)
  simp only [List.append_nil]
  exact h2⟩
end
/-- a weaker promise -/
theorem spD_imp {P : Program} {wd : World} {K : PySem.W.Frag} {mg : Str → Option Value} {base : Heap} {CX : CXT} {k : Nat} {f : Addr} {fd : FuncData} {ps : List Str} {ub : Bool} {Φ Ψ : Ph} (F : FnOk P wd K mg base CX k f fd ps (spD K mg ub Φ)) (h : ∀ ds k xk, Ψ ds k xk → Φ ds k xk) : FnOk P wd K mg base CX k f fd ps (spD K mg ub Ψ) :=
  F.imp fun vs H Q E ⟨B, S, ds, k, xk, h1, h2, h3, h4, h5, h6, h7⟩ => ⟨B, S, ds, k, xk, h1, h2, h3, h4, h5, h _ _ _ h6, h7⟩
end Q

set_option autoImplicit false
set_option linter.all false
/-! Q7: f-strings, methods of texts, displays, chains, more of calls -/
namespace Q
open PySem L2
section
variable {X : Cx} {C : Cxt} {e a bx : Expr} {es : List Expr} {t ta tb : TE} {w wa wb : WE} {pos p : Pos}
/-! ### f-strings -/
def pFmt : P1 := fun x k => match x.toD with
  | .str y => y.length ≤ sizeLine ∧ k (.fz (.str y))
  | .int i => i.natAbs.log2 < 1920 ∧ k (.fz (.str (tS i)))
  | _ => False
theorem pd_fmt (h : PB X C e t w) : PD X C (.FormattedValue e (-1) none pos) (tFmt t) (wUn pFmt w) := ⟨pe_fmt h.pe, by
  refine ok_un (r := fun x H1 Q => (∃ y : Str, x = .str y ∧ y.length ≤ sizeLine ∧ Q (.str y) H1) ∨ ∃ i : Int, x = .int i ∧ i.natAbs.log2 < 1920 ∧ Q (.str (toString i)) H1) ?_ h.ok
  intro ρ σ H S x vx k Q st ox h q
  unfold pFmt at h
  split at h
  · rename_i y e
    exact .inl ⟨y, ox.str e, h.1, ans_str st q h.2⟩
  · rename_i i e
    exact .inr ⟨i, ox.int e, h.1, ans_str st q h.2⟩
  · exact h.elim⟩
inductive QJ (X : Cx) (C : Cxt) : List Expr → List TE → List WE → Prop where
  | nil : QJ X C [] [] []
  | cons {e : Expr} {t : TE} {w : WE} {es : List Expr} {ts : List TE} {ws : List WE} (h : PD X C e t w) (r : QJ X C es ts ws) : QJ X C (e :: es) (t :: ts) (w :: ws)
theorem QJ.pj {es : List Expr} {ts : List TE} {ws : List WE} (h : QJ X C es ts ws) : PJ X es ts := by
  induction h with
  | nil => exact .nil
  | cons h r ih => exact .cons h.pe ih
def wJs : List WE → Str → Ev → (Str → Ev → Prop) → Prop
  | [], acc, ρ, k => k acc ρ
  | w :: ws, acc, ρ, k => w ρ fun s ρ1 => match s.toD with
    | .str y => (acc ++ y).length ≤ sizeLine ∧ wJs ws (acc ++ y) ρ1 k
    | _ => False
theorem ok_js {es : List Expr} {ts : List TE} {ws : List WE} (h : QJ X C es ts ws) : ∀ (acc : Str) (ρ ρx : Ev) (σ σx : St) (H : Hp) (S : List Addr) (k : Str → Ev → Prop) (Q : Str → Hp → Prop), ρ.length = σ.length → Sta C (ρ ++ ρx) (σ ++ σx) H S → wJs ws acc ρ k →
    (∀ (out : Str) (ρ' : Ev) (H' : Hp) (S' : List Addr), ρ'.length = σ.length → Sta C (ρ' ++ ρx) (σ ++ σx) H' S' → k out ρ' → Q out H') → tJs ts acc σ H Q := by
  induction h with
  | nil => intro acc ρ ρx σ σx H S k Q hl st hw q; exact q acc ρ H S hl st hw
  | cons h r ih =>
    intro acc ρ ρx σ σx H S k Q hl st hw q
    refine h.ok ρ ρx σ σx H S _ _ hl st hw fun s ρ1 v H1 S1 hl1 st1 hk => ?_
    split at hk
    · rename_i y e1
      have lx : (ρ1 ++ ρx).length = (σ ++ σx).length := by have := st1.len; simp only [List.length_append, List.length_cons, List.length_nil] at *; omega
      exact ⟨y, (st1.last lx).str e1, hk.1, ih (acc ++ y) ρ1 ρx σ σx H1 S1 k Q hl1 st1.popLast hk.2 q⟩
    · exact hk.elim
def wJoin (ws : List WE) : WE := fun ρ k => wJs ws Str.empty ρ fun out ρ1 => k (.fz (.str out)) ρ1
theorem pd_joined {v1 v2 : Expr} {rest : List Expr} {ts : List TE} {ws : List WE} (h : QJ X C (v1 :: v2 :: rest) ts ws) : PD X C (.JoinedStr (v1 :: v2 :: rest) pos) (fun σ H Q => tJs ts Str.empty σ H fun out H1 => Q (.str out) H1) (wJoin ws) := ⟨pe_joined h.pj, fun ρ ρx σ σx H S k Q hl st hw q =>
  ok_js h Str.empty ρ ρx σ σx H S _ _ hl st hw fun out ρ' H' S' hl' st' hk => q (.fz (.str out)) ρ' _ H' S' hl' (st'.pushF rfl) hk⟩
theorem pd_joined1 (h : PD X C e t w) : PD X C (.JoinedStr [e] pos) t w := ⟨pe_joined1 h.pe, h.ok⟩

/-! ### methods of texts -/
def wM1 (p : PN) (wo we : WE) : WE := fun ρ k => wo ρ fun x ρ1 => (∃ z, x.toD = .str z) ∧ we ρ1 fun y ρ2 => p [x.toD, y.toD] fun z => k z ρ2
theorem ok_m1 {r : V → List V → Hp → VK → Prop} {p : PN} (h : LiftN C (fun vs H Q => match vs with | [x, y] => r x [y] H Q | _ => False) p) (ho : OkE C ta wa) (he : OkE C tb wb) : OkE C (tM1 r ta tb) (wM1 p wa wb) := by
  intro ρ ρx σ σx H S k Q hl st hw q
  refine ho ρ ρx σ σx H S _ _ hl st hw fun x ρ1 vx H1 S1 hl1 st1 hw1 => ?_
  obtain ⟨⟨z, ez⟩, hw1⟩ := hw1
  obtain ⟨S1', st1⟩ := st1.lastD
  have lx1 : (ρ1 ++ ρx).length = (σ ++ σx).length := by have := st1.len; simp only [List.length_append, List.length_cons, List.length_nil] at *; omega
  refine ⟨⟨z, (st1.last lx1).str ez⟩, ?_⟩
  rw [List.append_assoc, List.append_assoc] at st1
  refine he ρ1 (ρx ++ [some (.fz x.toD)]) σ (σx ++ [some vx]) H1 S1' _ _ hl1 st1 hw1 fun y ρ2 vy H2 S2 hl2 st2 hp => ?_
  obtain ⟨S2', st2⟩ := st2.lastD
  have l2 : (ρ2 ++ ρx).length = (σ ++ σx).length := by have := st2.len; simp only [List.length_append, List.length_cons, List.length_nil] at *; omega
  have e1 : (ρ2 ++ (ρx ++ [some (Sl.fz x.toD)])) ++ [some (.fz y.toD)] = (ρ2 ++ ρx) ++ fzs [x.toD, y.toD] := by simp [fzs]
  have e2 : (σ ++ (σx ++ [some vx])) ++ [some vy] = (σ ++ σx) ++ [vx, vy].map some := by simp
  rw [e1, e2] at st2
  exact h (ρ2 ++ ρx) (σ ++ σx) H2 S2' _ _ _ Q (st2.drop l2) (st2.args l2) hp fun z v H' S' st' hk => q z ρ2 v H' S' hl2 st' hk
/-- a.join(list of texts) -/
def pJoin : PN := fun ds k => match ds with
  | [.str a, .lst es] => ∃ ys, strsD es = some ys ∧ (ys.map (·.length)).sum + ys.length * a.length ≤ 16777216 ∧ k (.fz (.str (Txt.join a ys)))
  | [.str a, .tup es] => ∃ ys, strsD es = some ys ∧ (ys.map (·.length)).sum + ys.length * a.length ≤ 16777216 ∧ k (.fz (.str (Txt.join a ys)))
  | _ => False
theorem pd_join (F : Fit X C) {apos : Pos} (ho : PD X C e ta wa) (he : PD X C a tb wb) (hs : starEach [a] X.env = [(false, eval a X.env)] := by rfl) (hbase : attributeBase e "join" X.env (eval e X.env) = eval e X.env := by rfl) (hline : (apos.endLine == pos.line) = true := by rfl) :
    PD X C (.Call (.Attribute e "join" apos) [a] [] pos) (tM1 (fun x xs H Q => ∃ a p, ∃ ys : List Str, x = .str a ∧ xs = [.ref p] ∧ (SqL X.K H p (ys.map V.str) ∨ SqT X.K H p (ys.map V.str)) ∧
      (ys.map (·.length)).sum + ys.length * a.length ≤ 16777216 ∧ Q (.str (Txt.join a ys)) H) ta tb) (wM1 pJoin wa wb) := ⟨pe_join ho.pe he.pe hs hbase hline, by
  refine ok_m1 ?_ ho.ok he.ok
  intro ρ σ H S ds vs k Q st rr h q
  unfold pJoin at h
  split at h
  · rename_i z es
    obtain ⟨ys, h1, h2, h3⟩ := h
    obtain ⟨v, u, rfl, r1, r2⟩ := rps2 rr
    obtain ⟨b, us, rfl, g1, g2, g3⟩ := r2
    obtain rfl := strs_V g3 h1
    exact ⟨z, b, ys, r1, rfl, .inl (SqL.of (hid_some g1).2), h2, ans_str st q h3⟩
  · rename_i z es
    obtain ⟨ys, h1, h2, h3⟩ := h
    obtain ⟨v, u, rfl, r1, r2⟩ := rps2 rr
    obtain ⟨b, us, rfl, g1, g2, g3⟩ := r2
    obtain rfl := strs_V g3 h1
    rw [F.K] at g1
    exact ⟨z, b, ys, r1, rfl, .inr (sameT hid_same g1), h2, ans_str st q h3⟩
  · exact h.elim⟩
/-- a.zfill(n) -/
def pZfill : PN := fun ds k => match ds with
  | [.str a, .int i] => PadOk i = true ∧ k (.fz (.str (Txt.zfill a i)))
  | _ => False
theorem l_zfill : LiftN C (fun vs H Q => match vs with | [x, y] => (fun x xs H Q => ∃ (a : Str) (i : Int), x = V.str a ∧ xs = [V.int i] ∧ PadOk i = true ∧ Q (V.str (Txt.zfill a i)) H) x [y] H Q | _ => False) pZfill := by
  intro ρ σ H S ds vs k Q st rr h q
  unfold pZfill at h
  split at h
  · rename_i z i
    obtain ⟨v, u, rfl, r1, r2⟩ := rps2 rr
    exact ⟨z, i, r1, by rw [show u = _ from r2], h.1, ans_str st q h.2⟩
  · exact h.elim
theorem pd_m1 {id : String} {name : Str} {apos : Pos} {r : V → List V → Hp → VK → Prop} {p : PN} (slot : PySem.Slot "str" name id) (ty : typeOf (.builtin id) = pure (.type "method_descriptor")) (rule : MtR X id r) (h : LiftN C (fun vs H Q => match vs with | [x, y] => r x [y] H Q | _ => False) p) (ho : PD X C e ta wa) (he : PD X C a tb wb)
    (hs : starEach [a] X.env = [(false, eval a X.env)] := by rfl) (hbase : attributeBase e name X.env (eval e X.env) = eval e X.env := by rfl) (hline : (apos.endLine == pos.line) = true := by rfl) :
    PD X C (.Call (.Attribute e name apos) [a] [] pos) (tM1 r ta tb) (wM1 p wa wb) := ⟨pe_m1 slot ty rule ho.pe he.pe hs hbase hline, ok_m1 h ho.ok he.ok⟩

/-! ### displays -/
def pTupN : PN := fun ds k => ds.length ≤ 1000000 ∧ k (.fz (.tup ds))
def pLstN : PN := fun ds k => ds.length ≤ 1000000 ∧ k (.ol ds)
theorem l_tupN : LiftN C (fun xs H Q => xs.length ≤ sizeLine ∧ ∀ p, H p = none → Q (.ref p) (upd H p (.tup xs))) pTupN := fun ρ σ H S ds vs k Q st rr h q =>
  have l := rr.len
  ⟨lim_line (by have := h.1; omega), fun p hp => ans_tup st q (by have := h.1; omega) rr h.2 p hp⟩
theorem l_lstN : LiftN C (fun xs H Q => xs.length ≤ sizeLine ∧ ∀ p, H p = none → Q (.ref p) (upd H p (.lst xs))) pLstN := fun ρ σ H S ds vs k Q st rr h q =>
  have l := rr.len
  ⟨lim_line (by have := h.1; omega), fun p hp => ans_ol st q (by have := h.1; omega) rr h.2 p hp⟩
theorem pd_tup {x1} {ta : TA} {wa : WA} (h : QA X C es ta wa) : PD X C (.Tuple es x1 pos) (tTup ta) (wArg pTupN wa) := ⟨pe_tup h.pa, ok_arg l_tupN h.ok⟩
theorem pd_lst {ta : TA} {wa : WA} (h : QA X C es ta wa) : PD X C (.List es pos) (tLst ta) (wArg pLstN wa) := ⟨pe_lst h.pa, ok_arg l_lstN h.ok⟩

/-! ### a < b < c -/
theorem ok_chain {r r' : R2} {p p' : P2} {tc : TE} {wc : WE} (h : Lift2 C r p) (h' : Lift2 C r' p') (ha : OkE C ta wa) (hb : OkE C tb wb) (hc : OkB C tc wc) : OkE C (tChain r r' ta tb tc) (wChain p p' wa wb wc) := by
  intro ρ ρx σ σx H S k Q hl st hw q
  refine ha ρ ρx σ σx H S _ _ hl st hw fun x ρ1 vx H1 S1 hl1 st1 hw1 => ?_
  obtain ⟨S1', st1⟩ := st1.lastD
  rw [List.append_assoc, List.append_assoc] at st1
  refine hb ρ1 (ρx ++ [some (.fz x.toD)]) σ (σx ++ [some vx]) H1 S1' _ _ hl1 st1 hw1 fun y ρ2 vy H2 S2 hl2 st2 hp => ?_
  obtain ⟨S2', st2⟩ := st2.lastD
  have l2 : (ρ2 ++ ρx).length = (σ ++ σx).length := by have := st2.len; simp only [List.length_append, List.length_cons, List.length_nil] at *; omega
  have l3 : (ρ2 ++ (ρx ++ [some (Sl.fz x.toD)])).length = (σ ++ (σx ++ [some vx])).length := by simp only [List.length_append, List.length_cons, List.length_nil] at *; omega
  have oky := st2.last l3
  have okx : SlOk C S2' H2 vx (.fz x.toD) := by
    have := st2.popLast
    rw [← List.append_assoc, ← List.append_assoc] at this
    exact this.last l2
  refine h _ _ H2 S2' (.fz x.toD) (.fz y.toD) vx vy _ _ st2 okx oky hp fun z v H3 S3 st3 hk => ?_
  split at hk
  · rename_i b
    have l4 : ((ρ2 ++ (ρx ++ [some (Sl.fz x.toD)])) ++ [some (Sl.fz y.toD)]).length = ((σ ++ (σx ++ [some vx])) ++ [some vy]).length := by simp only [List.length_append, List.length_cons, List.length_nil] at *; omega
    obtain rfl : v = .bl b := st3.last l4
    refine ⟨b, rfl, ?_⟩
    have st4 := st3.popLast
    cases b with
    | true =>
      rw [List.append_assoc ρ2, List.append_assoc σ] at st4
      refine hc ρ2 _ σ _ H3 S3 _ _ hl2 st4 hk fun u ρ3 vu H4 S4 hl4 st5 oku hp' => ?_
      have f1 : ρ3 ++ ((ρx ++ [some (Sl.fz x.toD)]) ++ [some (Sl.fz y.toD)]) = (ρ3 ++ (ρx ++ [some (Sl.fz x.toD)])) ++ [some (Sl.fz y.toD)] := by simp only [List.append_assoc]
      have f2 : σ ++ ((σx ++ [some vx]) ++ [some vy]) = (σ ++ (σx ++ [some vx])) ++ [some vy] := by simp only [List.append_assoc]
      rw [f1, f2] at st5
      have l5 : (ρ3 ++ (ρx ++ [some (Sl.fz x.toD)])).length = (σ ++ (σx ++ [some vx])).length := by simp only [List.length_append, List.length_cons, List.length_nil] at *; omega
      have oky' := st5.last l5
      have st6 := st5.popLast
      rw [← List.append_assoc, ← List.append_assoc] at st6
      exact h' _ _ H4 S4 (.fz y.toD) u vy vu _ _ st6.popLast oky' oku hp' fun z' v' H5 S5 st7 hk' => q z' ρ3 v' H5 S5 hl4 st7 hk'
    | false =>
      have st5 := st4.popLast
      rw [← List.append_assoc, ← List.append_assoc] at st5
      exact q (.fz (.bl false)) ρ2 _ H3 S3 hl2 (st5.popLast.pushF rfl) hk
  · exact hk.elim
theorem pd_chain {op op' : CmpOp} {r r' : R2} {p p' : P2} {c : Expr} {tc : TE} {wc : WE} (ho : OpR X (compareOp op) r) (ho' : OpR X (compareOp op') r') (h : Lift2 C r p) (h' : Lift2 C r' p') (ha : PD X C a ta wa) (hb : PD X C bx tb wb) (hc : PB X C c tc wc)
    (hm : lastMarks [op, op'] [bx, c] = false := by with_unfolding_all rfl) : PD X C (.Compare a [op, op'] [bx, c] pos) (tChain r r' ta tb tc) (wChain p p' wa wb wc) := ⟨pe_chain ho ho' ha.pe hb.pe hc.pe hm, ok_chain h h' ha.ok hb.ok hc.ok⟩
theorem qt_chain {op op' : CmpOp} {r r' : R2} {p p' : P2} {c : Expr} {tc : TE} {wc : WE} (ho : OpR X (compareOp op) r) (ho' : OpR X (compareOp op') r') (h : Lift2 C r p) (h' : Lift2 C r' p') (ha : PD X C a ta wa) (hb : PD X C bx tb wb) (hc : PB X C c tc wc)
    (hm : lastMarks [op, op'] [bx, c] = false := by with_unfolding_all rfl) : QT X C (.Compare a [op, op'] [bx, c] pos) (tTest (tChain r r' ta tb tc)) (wYes (wChain p p' wa wb wc)) := ⟨pt_chain ho ho' ha.pe hb.pe hc.pe hm, ok_tst (ok_chain h h' ha.ok hb.ok hc.ok).b⟩

/-! ### isinstance by a built-in class -/
def tyN : D → Option String
  | .non => some "NoneType"
  | .bl _ => some "bool"
  | .int _ => some "int"
  | .str _ => some "str"
  | .lst _ => some "list"
  | .tup _ => some "tuple"
  | .dic _ _ => some "dict"
  | _ => none
/-- whether a value of the first class is one of the second -/
def isiB (a b : String) : Bool := a == b || (a == "bool" && b == "int")
def isiT : List (String × String) := (["NoneType", "bool", "int", "str", "list", "tuple", "dict"]).flatMap fun a => ["bool", "int", "str", "list", "tuple"].map fun b => (a, b)
theorem isi_all : ∀ p ∈ isiT, kitB p.1 p.2 = some (isiB p.1 p.2) := by decide +kernel
theorem isi_ok {d : D} {a b : String} (h : tyN d = some a) (hb : b ∈ ["bool", "int", "str", "list", "tuple"]) : kitB a b = some (isiB a b) := by
  refine isi_all (a, b) ?_
  unfold isiT
  rw [List.mem_flatMap]
  refine ⟨a, ?_, List.mem_map.mpr ⟨b, hb, rfl⟩⟩
  cases d <;> cases h <;> decide
theorem ty_of {B : Bk} {H : Hp} {v : V} {d : D} {a : String} (h : Rp B H v d) (e : tyN d = some a) : TyX B.K H v (.type a) := by
  cases d with
  | non => cases e; rw [show v = _ from h]; exact .base .non
  | bl _ => cases e; rw [show v = _ from h]; exact .base (.bl _)
  | int _ => cases e; rw [show v = _ from h]; exact .base (.int _)
  | str _ => cases e; rw [show v = _ from h]; exact .base (.str _)
  | lst _ => cases e; obtain ⟨a, xs, rfl, h2, _⟩ := h; exact .base (.lst h2)
  | tup _ => cases e; obtain ⟨a, xs, rfl, h2, _⟩ := h; exact RF.tyT h2
  | dic _ _ => cases e; obtain ⟨a, xs, rfl, h2, _⟩ := h; exact .base (.dK h2)
  | raw _ => cases e
  | bag => cases e
  | obj _ _ _ => cases e
def pIsi : PN := fun ds k => match ds with
  | [d, .raw (.ty n)] => n ∈ ["bool", "int", "str", "list", "tuple"] ∧ ∃ a, tyN d = some a ∧ k (.fz (.bl (isiB a n)))
  | _ => False
theorem l_isi (F : Fit X C) : LiftN C (rIsi X.K) pIsi := by
  intro ρ σ H S ds vs k Q st rr h q
  rw [← F.K]
  unfold pIsi at h
  split at h
  · rename_i d n
    obtain ⟨hn, a, h1, h2⟩ := h
    obtain ⟨v, u, rfl, r1, r2⟩ := rps2 rr
    rw [show u = _ from r2]
    exact ⟨v, .ty n, .type a, .type n, isiB a n, rfl, .ty n, ty_of (Rp.same hid_same _ r1) h1, kit_ty (isi_ok h1 hn), ans_bl st q h2⟩
  · exact h.elim
/-- a built-in class as a value -/
theorem pd_ty {x : Str} {n : String} (hg : Gl X x) (hm : X.mg x = none) (hv : bootBuiltins x = some (.type n)) (hn : x ≠ "__name__" := by decide) (hd : (x == ("__debug__" : Str)) = false := by decide) : PD X C (.Name x pos) (tC (.ty n)) (wC (.raw (.ty n))) := pd_c (pe_bltn (v := .ty n) hg hm hv rfl hn hd) fun _ => rfl
end
end Q

set_option autoImplicit false
set_option linter.all false
/-! Q8: the rules in the form in which derivations use them -/
namespace Q
open PySem L2
section
variable {X : Cx} {C : Cxt} {e a bx o tg : Expr} {es : List Expr} {t ta tb : TE} {w wa wb : WE} {pos p apos : Pos} {i : Nat}
theorem Fit.blk (F : Fit X C) {s : Shared} {H : Hp} {sc : Scope} {ce : Env} {fp : List Addr} : Fit (X.blk s H sc ce fp) C := ⟨F.K, F.mg⟩
theorem call_len2 : CallR X (.builtin "len") (rLen2 X.K) := call_len.or call_lenD
theorem pd_app (ho : PE X o (tVar i)) (he : PD X C e t w) (hbase : attributeBase o "append" X.env (eval o X.env) = eval o X.env := by rfl)
    (hfew : ((backTo pos (starEach [e] X.env)).all (fun x => !x.1) && (backToKw pos (keywordEach [] X.env)).all (fun x => x.1.isSome)
      && decide ([e].length + ([] : List Keyword).length + (if ([] : List Keyword).isEmpty then 0 else 1) < 30)) = true := by rfl)
    (hline : (apos.endLine == pos.line) = true := by rfl) (hs : starEach [e] X.env = (false, eval e X.env) :: starEach [] X.env := by rfl) (hplain : (backTo pos (starEach [] X.env)).any (·.1) = false := by rfl) :
    PD X C (.Call (.Attribute o "append" apos) [e] [] pos) (tBM X.K "list" rAppend (tVar i) (tCons t tNil)) (wApp i w) :=
  pd_append he (pe_bm PySem.F.plainAttrs_list PySem.F.slot_list_append PySem.F.type_list_append mt_append ho (pa_cons he.pe pa_nil hs) hbase hfew hline hs hplain) rfl
theorem pd_ext (ho : PE X o (tVar i)) (he : PD X C e t w) (hbase : attributeBase o "extend" X.env (eval o X.env) = eval o X.env := by rfl)
    (hfew : ((backTo pos (starEach [e] X.env)).all (fun x => !x.1) && (backToKw pos (keywordEach [] X.env)).all (fun x => x.1.isSome)
      && decide ([e].length + ([] : List Keyword).length + (if ([] : List Keyword).isEmpty then 0 else 1) < 30)) = true := by rfl)
    (hline : (apos.endLine == pos.line) = true := by rfl) (hs : starEach [e] X.env = (false, eval e X.env) :: starEach [] X.env := by rfl) (hplain : (backTo pos (starEach [] X.env)).any (·.1) = false := by rfl) :
    PD X C (.Call (.Attribute o "extend" apos) [e] [] pos) (tBM X.K "list" rExtend (tVar i) (tCons t tNil)) (wExt i w) :=
  pd_extend he (pe_bm PySem.F.plainAttrs_list PySem.F.slot_list_extend PySem.F.type_list_extend mt_extend ho (pa_cons he.pe pa_nil hs) hbase hfew hline hs hplain) rfl
theorem pd_popm (ho : PE X o (tVar i)) (hbase : attributeBase o "pop" X.env (eval o X.env) = eval o X.env := by rfl) (hline : (apos.endLine == pos.line) = true := by rfl) :
    PD X C (.Call (.Attribute o "pop" apos) [] [] pos) (tBM0 X.K "list" rPop (tVar i)) (wPop i) :=
  pd_pop (pe_bm0 PySem.F.plainAttrs_list PySem.F.slot_list_pop PySem.F.type_list_pop mt_pop ho hbase hline) rfl
/-! ### tests of a comprehension -/
structure QTs (X : Cx) (C : Cxt) (es : List Expr) (t : TT) (w : WT) : Prop where
  pts : PTs X es t
  ok : OkT C t w
theorem qts_nil : QTs X C [] tYes (fun ρ k => k true ρ) := ⟨pts_nil, fun ρ ρx σ σx H S k Q hl st hw q => q true ρ H S hl st hw⟩
theorem qts_one {tt : TT} {wt : WT} (h : QT X C e tt wt) : QTs X C [e] tt wt := ⟨pts_one h.pt, h.ok⟩
abbrev BX (X : Cx) (scope : Scope) (s : Shared) (H : Hp) (Cl : Addr) (cl : List (Str × Addr)) (fp : List Addr) : Cx := X.blk s H scope (compEnvC scope cl Cl X.env) fp
abbrev Dep (α : Type) := Shared → Hp → Addr → List (Str × Addr) → List Addr → α
theorem pd_comp {scope : Scope} {own : List (Str × Nat)} {is : List Nat} {iter elt : Expr} {ifs : List Expr} {ti : TI} {wi : WI} {g : Dep TG} {u : WG} {tt : Dep TT} {wt : WT} {t : Dep TE} (hc : X.calm = true) (hN : X.N.Nodup) (hi : QI X C tg iter ti wi) (ok : BlkOk X.N X.env.scope scope own)
    (hg : ∀ s H Cl cl fp, QG (BX X scope s H Cl cl fp) C is tg (g s H Cl cl fp) u) (ht : ∀ s H Cl cl fp, QTs (BX X scope s H Cl cl fp) C ifs (tt s H Cl cl fp) wt) (he : ∀ s H Cl cl fp, PD (BX X scope s H Cl cl fp) C elt (t s H Cl cl fp) w)
    (hv : ∀ i ∈ is, i ∈ own.map (·.2) := by decide) (eg : ∀ s H Cl cl fp, g s H Cl cl fp = g X.s_0 X.H_0 0 [] [] := by intros; rfl) (et : ∀ s H Cl cl fp, tt s H Cl cl fp = tt X.s_0 X.H_0 0 [] [] := by intros; rfl) (ee : ∀ s H Cl cl fp, t s H Cl cl fp = t X.s_0 X.H_0 0 [] [] := by intros; rfl)
    (hs : ∀ x, foldedSetIterable iter X.env x = pure x := by intro _; rfl) :
    PD X C (.ListComp elt [⟨tg, iter, ifs, 0⟩] scope pos) (tLc ti (g X.s_0 X.H_0 0 [] []) (tt X.s_0 X.H_0 0 [] []) (t X.s_0 X.H_0 0 [] []) (own.map (·.2))) (wLc (own.map (·.2)) wi u wt w) :=
  ⟨pe_lc hc hN hi.pi ok (fun s H Cl cl fp => eg s H Cl cl fp ▸ (hg s H Cl cl fp).pg) (fun s H Cl cl fp => et s H Cl cl fp ▸ (ht s H Cl cl fp).pts) (fun s H Cl cl fp => ee s H Cl cl fp ▸ (he s H Cl cl fp).pe) hs,
    ok_lc hi.ok (hg X.s_0 X.H_0 0 [] []).ok (ht X.s_0 X.H_0 0 [] []).ok (he X.s_0 X.H_0 0 [] []).ok hv⟩
/-- name = [..] -/
theorem qs_setLc {y : Str} {py spos : Pos} {scope : Scope} {own : List (Str × Nat)} {is : List Nat} {iter elt : Expr} {ifs : List Expr} {ti : TI} {wi : WI} {g : Dep TG} {u : WG} {tt : Dep TT} {wt : WT} {t : Dep TE} (hc : X.calm = true) (hN : X.N.Nodup) (hy : X.N[i]? = some y) (hyl : X.env.scope.names.lookup y = some .local)
    (hsw : swapsWith (.ListComp elt [⟨tg, iter, ifs, 0⟩] scope pos) (some (.Name y py)) spos.line X.env = pure true) (hi : QI X C tg iter ti wi) (ok : BlkOk X.N X.env.scope scope own)
    (hg : ∀ s H Cl cl fp, QG (BX X scope s H Cl cl fp) C is tg (g s H Cl cl fp) u) (ht : ∀ s H Cl cl fp, QTs (BX X scope s H Cl cl fp) C ifs (tt s H Cl cl fp) wt) (he : ∀ s H Cl cl fp, PD (BX X scope s H Cl cl fp) C elt (t s H Cl cl fp) w)
    (hv : ∀ i ∈ is, i ∈ own.map (·.2) := by decide) (eg : ∀ s H Cl cl fp, g s H Cl cl fp = g X.s_0 X.H_0 0 [] [] := by intros; rfl) (et : ∀ s H Cl cl fp, tt s H Cl cl fp = tt X.s_0 X.H_0 0 [] [] := by intros; rfl) (ee : ∀ s H Cl cl fp, t s H Cl cl fp = t X.s_0 X.H_0 0 [] [] := by intros; rfl)
    (hs : ∀ x, foldedSetIterable iter X.env x = pure x := by intro _; rfl) :
    QS X C (.Assign [.Name y py] (.ListComp elt [⟨tg, iter, ifs, 0⟩] scope pos) spos) (tAsg (tLc ti (g X.s_0 X.H_0 0 [] []) (tt X.s_0 X.H_0 0 [] []) (t X.s_0 X.H_0 0 [] []) (own.map (·.2))) (gName i)) (wSet i (wLc (own.map (·.2)) wi u wt w)) :=
  ⟨ps_setLc hc hN hy hyl hsw hi.pi ok (fun s H Cl cl fp => eg s H Cl cl fp ▸ (hg s H Cl cl fp).pg) (fun s H Cl cl fp => et s H Cl cl fp ▸ (ht s H Cl cl fp).pts) (fun s H Cl cl fp => ee s H Cl cl fp ▸ (he s H Cl cl fp).pe) hs,
    ok_asg (ok_lc hi.ok (hg X.s_0 X.H_0 0 [] []).ok (ht X.s_0 X.H_0 0 [] []).ok (he X.s_0 X.H_0 0 [] []).ok hv) (ok_nm i)⟩
/-! ### calls by keywords -/
structure QK (X : Cx) (C : Cxt) (kws : List Keyword) (t : TA) (w : WA) : Prop where
  pk : PK X kws t
  ok : OkA C t w
theorem qk_nil : QK X C [] tNil (fun ρ k => k [] ρ) := ⟨pk_nil, qa_nil (X := X).ok⟩
theorem qk_cons {kws : List Keyword} {tr : TA} {wr : WA} {nm : Option Str} {kpos : Pos} (ha : PD X C e t w) (hr : QK X C kws tr wr) : QK X C (⟨nm, e, kpos⟩ :: kws) (tCons t tr) (wCons w wr) := ⟨pk_cons ha.pe hr.pk, ok_cons ha.ok hr.ok⟩
end
end Q

namespace RF
open PySem L2
/-! ### built-in functions of math -/
theorem args_gcd3 (a b c : Value) : argsOk "math.gcd" ⟨[a, b, c], []⟩ := by
  unfold argsOk
  kernel_rfl
theorem run_gcd3 (a : Int) (t : Tok) (b : Int) (u : Tok) (c : Int) (v : Tok) :
    Gives (Builtin.«math.gcd» ⟨[.int a t, .int b u, .int c v], []⟩) (.int (((((Nat.gcd 0 a.natAbs).gcd b.natAbs).gcd c.natAbs : Nat) : Int))) :=
  .of_wp fun M A E s Q h => by
    obtain ⟨hp, g, d, tk, os⟩ := s
    wp_walk
    exact ⟨_, rfl, h⟩

section
variable {X : Cx}
theorem vals3 {x y z : V} {us : List Value} (r : Vals [x, y, z] us) : ∃ u v w, us = [u, v, w] ∧ RelV x u ∧ RelV y v ∧ RelV z w := by
  cases r with
  | cons a r => cases r with
    | cons b r => cases r with
      | cons c r => cases r; exact ⟨_, _, _, rfl, a, b, c⟩
def rGcd3 : List V → Hp → VK → Prop := fun vs H Q => ∃ a b c : Int, vs = [.int a, .int b, .int c] ∧ Q (.int ((Nat.gcd (Nat.gcd a.natAbs b.natAbs) c.natAbs : Nat) : Int)) H
theorem cr_gcd3 : CallR X (.builtin "math.gcd") rGcd3 := by
  intro pins s σ H vs us Q I r h
  obtain ⟨a, b, c, rfl, q⟩ := h
  obtain ⟨u1, u2, u3, rfl, ⟨t1, rfl⟩, ⟨t2, rfl⟩, ⟨t3, rfl⟩⟩ := vals3 r
  have g := run_gcd3 a t1 b t2 c t3
  rw [Nat.gcd_zero_left] at g
  exact call_function_meets PySem.W.MGF.kind_gcd PySem.W.MGF.plain_gcd PySem.W.MGF.entry_gcd (args_gcd3 _ _ _) g.meets (show EP X pins σ Q _ _ from ⟨.int _, H, I.tok _, ⟨_, rfl⟩, q⟩)
def rIsqrt : List V → Hp → VK → Prop := fun vs H Q => ∃ a : Int, vs = [.int a] ∧ 0 ≤ a ∧ a.toNat.log2 < 13000 ∧ Q (.int ((Float64.isqrt a.toNat : Nat) : Int)) H
theorem cr_isqrt : CallR X (.builtin "math.isqrt") rIsqrt := by
  intro pins s σ H vs us Q I r h
  obtain ⟨a, rfl, h0, h1, q⟩ := h
  obtain ⟨u, rfl, t, rfl⟩ := vals1 r
  exact call_function_meets PySem.W.MGF.kind_isqrt PySem.W.MGF.plain_isqrt PySem.W.MGF.entry_isqrt (PySem.W.MGF.args_isqrt _) (PySem.W.mg_run_isqrt a t (by omega) (by omega) (by omega)).meets
    (show EP X pins σ Q _ _ from ⟨.int _, H, I.tok _, ⟨_, rfl⟩, q⟩)

/-! ### operators of an own class -/
/-- C has the operator as the def at f -/
structure OwnOp (K : PySem.W.Frag) (C f : Addr) (m : Str) : Prop where
  first : PySem.W.selfFirst K C = true
  at_ : PySem.W.findIn K (.ref C) m = some (some (.ref f))
  fn : PySem.W.isFn K (.ref f) = true
def rOwn2 (C : Addr) (sp : Sp) (E : XK) : R2 := fun x y H Q => ∃ a b dx dy fs gs, x = .ref a ∧ y = .ref b ∧ H a = some (.ins C dx fs) ∧ H b = some (.ins C dy gs) ∧ sp [.ref a, .ref b] H Q E
theorem notImpl {v : V} {u : Value} {P : Value → Shared → Prop} {s : Shared} (r : RelV v u) (h : P u s) : PySem.W.CmpBack P u s := by
  cases v with
  | non => cases r; exact h
  | bl _ => cases r; exact h
  | int _ => obtain ⟨t, rfl⟩ := r; exact h
  | str _ => obtain ⟨t, rfl⟩ := r; exact h
  | byt _ => obtain ⟨t, rfl⟩ := r; exact h
  | flt _ => obtain ⟨t, rfl⟩ := r; exact h
  | ref _ => cases r; exact h
  | ty _ => cases r; exact h
theorem op_own {CX : CXT} {op : Operator} {n : Nat} {C f : Addr} {sp : Sp} {E : XK} (F : FnR X.prog X.w X.K X.mg X.base CX n f sp) (hr : Room n X.A) (O : OwnOp X.K C f (PySem.dunder op.info.2)) (hx : Passes CX X E) : OpR X (binaryOp op) (rOwn2 C sp E) := by
  intro pins s σ H x y v u Q I rx ry h
  obtain ⟨a, b, dx, dy, fs, gs, rfl, rfl, ha, hb, q⟩ := h
  cases rx
  cases ry
  obtain ⟨mA, J, _⟩ := ins_get I.hok ha
  obtain ⟨mB, J', _⟩ := ins_get I.hok hb
  obtain ⟨od, J, _⟩ := J.look
  obtain ⟨od', J', _⟩ := J'.look
  obtain ⟨m, hF⟩ := I.fr
  refine PySem.W.binop_K hF I.ok.mod.kin J J'.type O.first O.at_ O.fn (wpAny_mono (wpAny_call (run_fnR (us := [.ref a, .ref b]) (vs := [.ref a, .ref b]) F hr hx I (.cons rfl (.cons rfl .nil)) q)) (fun r s' z => ?_) fun _ _ z => z)
  obtain ⟨v, H', I', rv, q'⟩ := id z
  exact notImpl rv z
def rOwn1 (C : Addr) (sp : Sp) (E : XK) : V → Hp → VK → Prop := fun x H Q => ∃ a dx fs, x = .ref a ∧ H a = some (.ins C dx fs) ∧ sp [.ref a] H Q E
theorem un_own_neg {CX : CXT} {n : Nat} {C f : Addr} {sp : Sp} {E : XK} (F : FnR X.prog X.w X.K X.mg X.base CX n f sp) (hr : Room n X.A) (O : OwnOp X.K C f "__neg__") (hx : Passes CX X E) : UnR X (unaryOp .USub) (rOwn1 C sp E) := by
  intro pins s σ H x v Q I rx h
  obtain ⟨a, dx, fs, rfl, ha, q⟩ := h
  cases rx
  obtain ⟨mA, J, _⟩ := ins_get I.hok ha
  obtain ⟨od, J, _⟩ := J.look
  obtain ⟨m, hF⟩ := I.fr
  exact PySem.W.ksp_neg hF I.ok.mod.kin J O.at_ O.fn (wpAny_call (run_fnR (us := [.ref a]) (vs := [.ref a]) F hr hx I (.cons rfl .nil) q))
/-- bool(x) of an instance with its own truth -/
def rOwnB (C : Addr) (sp : Sp) (E : XK) : List V → Hp → VK → Prop := fun vs H Q => ∃ a dx fs, vs = [.ref a] ∧ H a = some (.ins C dx fs) ∧ sp [.ref a] H (fun v H' => ∃ b, v = .bl b ∧ Q (.bl b) H') E
theorem tru_of {M : Model} {A : Around} {x : Value} {s : Shared} {Q0 Q : Bool → Shared → Prop} {E : Value → Shared → Prop} (hs : wpAny M A (truthy x) Q0 E s) (h : ∀ b s', Q0 b s' → Q b s') : wpAny M A (truthy x) Q E s := wpAny_mono hs h fun _ _ z => z
theorem new_bool_own (prog : Program) (w : World) (a : Addr) : MeetsIn prog w (Builtin.«bool.__new__» ⟨[.type "bool", .ref a], []⟩)
    (fun A R s => wpAny (model prog w) A.in1 (truthy (.ref a)) (fun b s' => R (.ok (.ret (.bool b))) s') (fun e s' => R (.error e) s') s) :=
  .of_wp fun A R s hs => by
    have f1 := F.conv_sub_bool
    obtain ⟨hp, g, d, tk, os⟩ := s
    repeat (any_goals (first | assumption | (with_reducible refine tru_of hs (fun b s' hq => ?_)) | wp_step))
    all_goals exact ⟨_, rfl, hq⟩
theorem call_bool_own {CX : CXT} {n : Nat} {C f : Addr} {sp : Sp} {E : XK} (G : FnR X.prog X.w X.K X.mg X.base CX n f sp) (hr : Room (n + 2) X.A) (hat : PySem.W.findIn X.K (.ref C) "__bool__" = some (some (.ref f))) (hfn : PySem.W.isFn X.K (.ref f) = true)
    (hx : Passes CX X E) : CallR X (.type "bool") (rOwnB C sp E) := by
  intro pins s σ H xs us Q I r h
  obtain ⟨a, dx, fs, rfl, ha, q⟩ := h
  obtain ⟨u, rfl, r1⟩ := vals1 r
  cases r1
  obtain ⟨mA, J, _⟩ := ins_get I.hok ha
  obtain ⟨od, J, _⟩ := J.look
  obtain ⟨m, hF⟩ := I.fr
  refine PySem.callType_newIn PySem.F.called_bool PySem.F.newNe_bool (PySem.F.typeCall_bool_1 _) (PySem.F.newCall_bool_1 _) (fun obj => PySem.F.args_object_init_2 obj _) PySem.F.entry_bool_new (new_bool_own X.prog X.w a) ?_
  refine PySem.W.truthy_K hF I.ok.mod.kin J hat hfn ?_
  refine wpAny_call (codeAny_mono (G _ X.stack s H [.ref a] [.ref a] _ E hr.in1.in1 I.env0.in1.in1 (.cons rfl .nil) q) fun r s' hq => ?_)
  cases r with
  | error e => exact hx pins σ H s e s' I hq
  | ok fl =>
    cases fl with
    | ret u =>
      obtain ⟨v, H', I', rv, b, rfl, q'⟩ := I.after hq
      cases rv
      exact ⟨rfl, .bl b, H', I', rfl, q'⟩
    | next => exact False.elim hq
    | brk => exact False.elim hq
    | cont => exact False.elim hq
/-- C.m is a staticmethod: its record at p, its def at g -/
structure SMet (K : PySem.W.Frag) (C : Addr) (mc : Value) (m : Str) (p g : Addr) : Prop where
  at_ : PySem.W.findCls K (.ref C) mc m = some (.get (.builtin "staticmethod.__get__") (.ref p) .none (.ref C))
  rc : ∃ rest, PySem.W.recIn K p "staticmethod" = some (.ref g :: rest)
  kp : PySem.W.keepIn K (.ref g) = true
def tSMeth (C : Addr) (sp : Sp) (E : XK) (ta : TE) (t : TA) : TE := fun σ H Q => ta σ H fun x H1 => x = .ref C ∧ t σ H1 fun vs H2 => sp vs H2 Q E
theorem pe_smeth {CX : CXT} {k : Nat} {C p g : Addr} {mc : Value} {sp : Sp} {E : XK} {o e : Expr} {es : List Expr} {m : Str} {pos apos : Pos} {ta : TE} {t : TA} {pl : Sem Bool} (he : PE X o ta) (r : ClX.CRead X.K C mc) (c : SMet X.K C mc m p g)
    (F : FnR X.prog X.w X.K X.mg X.base CX k g sp) (hr : Room k X.A) (hx : Passes CX X E) (ha : PA X (e :: es) t)
    (hst : starEach (e :: es) X.env = (false, eval e X.env) :: starEach es X.env := by rfl) (hpl : (backTo pos (starEach es X.env)).any (·.1) = false := by rfl)
    (ht : eval (.Call (.Attribute o m apos) (e :: es) [] pos) X.env = (do
      let ov ← eval o X.env
      standAt apos.atName
      let (f, first) ← holding [ov] (getMethod ov m pl)
      callWith pos f first (backTo pos (starEach (e :: es) X.env)) (backToKw pos (keywordEach [] X.env))) := by rfl) :
    PE X (.Call (.Attribute o m apos) (e :: es) [] pos) (tSMeth C sp E ta t) := by
  refine ⟨fun pins s σ H Q I h => ?_⟩
  refine PySem.W.methodCall_KW (pl := pl) (thn (he.run pins s σ H _ I h) fun u s1 ⟨x, H1, I1, rx, ex, q⟩ => ?_) ht
  subst ex
  obtain rfl : u = Value.ref C := rx
  obtain ⟨rest, hp⟩ := c.rc
  refine PySem.W.method_cls I1.kIn r.ga (PySem.W.cls_bind I1.kIn r.rd c.at_ (wpAny_call (PySem.W.sm_get (s := { s1 with toks := s1.toks + 1 }) I1.kIn hp (PySem.W.handed_on rfl ?_))))
  have I2 := I1.tok (s1.toks + 1)
  refine PySem.W.callWith_K (h₀ := X.base) I.ok.mod.kin c.kp (thn (ha.run pos pins _ σ H1 _ I2 q) fun us s3 ⟨vs, H2, I3, rv, q2⟩ => ⟨I3.kIn, ?_⟩) hst hpl
  exact wpAny_call (run_fnR F hr hx I3 rv q2)
end
end RF

namespace RF
theorem sq_nonneg (a : Int) : 0 ≤ a * a := by
  rcases Int.le_total 0 a with h | h
  · exact Int.mul_nonneg h h
  · exact Int.mul_nonneg_of_nonpos_of_nonpos h h
theorem sq_le {a b : Int} (ha : 0 ≤ a) (h : a ≤ b) : a * a ≤ b * b := Int.mul_le_mul h h ha (by omega)
theorem sq_lt {a b : Int} (ha : 0 ≤ a) (h : a < b) : a * a < b * b := by
  have h1 : a * a ≤ a * b := Int.mul_le_mul_of_nonneg_left (by omega) ha
  have h2 : a * b < b * b := Int.mul_lt_mul_of_pos_right h (by omega)
  omega
theorem le_of_sq {a b : Int} (hb : 0 ≤ b) (h : a * a ≤ b * b) : a ≤ b := by
  rcases Int.lt_or_le b a with z | z
  · have := sq_lt hb z
    omega
  · exact z
theorem lt_of_sq {a b : Int} (hb : 0 ≤ b) (h : a * a < b * b) : a < b := by
  rcases Int.lt_or_le a b with z | z
  · exact z
  · have := sq_le hb z
    omega
/-! ### square roots of integers -/
def rt (n : Int) : Int := ((PySem.Float64.isqrt n.toNat : Nat) : Int)
theorem rt_nn (n : Int) : 0 ≤ rt n := Int.natCast_nonneg _
theorem rt_le {n : Int} (h : 0 ≤ n) : rt n * rt n ≤ n := by
  have := (PySem.Float64.isqrt_spec n.toNat).1
  have e : ((PySem.Float64.isqrt n.toNat * PySem.Float64.isqrt n.toNat : Nat) : Int) ≤ ((n.toNat : Nat) : Int) := Int.ofNat_le.mpr this
  rw [Int.natCast_mul] at e
  unfold rt
  omega
theorem rt_lt {n : Int} (h : 0 ≤ n) : n < (rt n + 1) * (rt n + 1) := by
  have := (PySem.Float64.isqrt_spec n.toNat).2
  have e : ((n.toNat : Nat) : Int) < (((PySem.Float64.isqrt n.toNat + 1) * (PySem.Float64.isqrt n.toNat + 1) : Nat) : Int) := Int.ofNat_lt.mpr this
  rw [Int.natCast_mul, Int.natCast_add] at e
  unfold rt
  have e2 : ((n.toNat : Nat) : Int) = n := by omega
  rw [e2] at e
  exact e
theorem rt_uniq {n r : Int} (h : 0 ≤ n) (r0 : 0 ≤ r) (r1 : r * r ≤ n) (r2 : n < (r + 1) * (r + 1)) : r = rt n := by
  have a := rt_le h
  have b := rt_lt h
  have c := rt_nn n
  have h1 : r < rt n + 1 := lt_of_sq (by omega) (by omega)
  have h2 : rt n < r + 1 := lt_of_sq (by omega) (by omega)
  omega
/-! ### the roots -/
def Root (d : Int) : Prop := d = 2 ∨ d = 3 ∨ d = 5 ∨ d = 6 ∨ d = 13
theorem Root.pos {d : Int} (h : Root d) : 0 < d := by unfold Root at h; omega
theorem Root.le {d : Int} (h : Root d) : d ≤ 13 := by unfold Root at h; omega
theorem ex_mul (i : Int) {p : Int} (h : i % p = 0) : ∃ t, i = p * t := ⟨i / p, by
  have := Int.mul_ediv_add_emod i p
  rw [h] at this
  omega⟩
theorem dvd2 {i c : Int} (h : i * i = 2 * c) : ∃ t, i = 2 * t := ex_mul i (by
  have e : (i * i) % 2 = 0 := by omega
  rw [Int.mul_emod] at e
  have : i % 2 = 0 ∨ i % 2 = 1 := by omega
  rcases this with z | z
  · exact z
  · rw [z] at e; simp at e)
theorem dvd3 {i c : Int} (h : i * i = 3 * c) : ∃ t, i = 3 * t := ex_mul i (by
  have e : (i * i) % 3 = 0 := by omega
  rw [Int.mul_emod] at e
  have : i % 3 = 0 ∨ i % 3 = 1 ∨ i % 3 = 2 := by omega
  rcases this with z | z | z
  · exact z
  · rw [z] at e; simp at e
  · rw [z] at e; simp at e)
theorem dvd5 {i c : Int} (h : i * i = 5 * c) : ∃ t, i = 5 * t := ex_mul i (by
  have e : (i * i) % 5 = 0 := by omega
  rw [Int.mul_emod] at e
  have : i % 5 = 0 ∨ i % 5 = 1 ∨ i % 5 = 2 ∨ i % 5 = 3 ∨ i % 5 = 4 := by omega
  rcases this with z | z | z | z | z
  · exact z
  all_goals (rw [z] at e; simp at e))
theorem dvd13 {i c : Int} (h : i * i = 13 * c) : ∃ t, i = 13 * t := ex_mul i (by
  have e : (i * i) % 13 = 0 := by omega
  rw [Int.mul_emod] at e
  have : i % 13 = 0 ∨ i % 13 = 1 ∨ i % 13 = 2 ∨ i % 13 = 3 ∨ i % 13 = 4 ∨ i % 13 = 5 ∨ i % 13 = 6 ∨ i % 13 = 7 ∨ i % 13 = 8 ∨ i % 13 = 9 ∨ i % 13 = 10 ∨ i % 13 = 11 ∨ i % 13 = 12 := by omega
  rcases this with z | z | z | z | z | z | z | z | z | z | z | z | z
  · exact z
  all_goals (rw [z] at e; simp at e))
/-- one step down -/
theorem down {d i j : Int} (hd : Root d) (h : i * i = d * (j * j)) : ∃ p i' j' : Int, 2 ≤ p ∧ j = p * j' ∧ i' * i' = d * (j' * j') := by
  rcases hd with rfl | rfl | rfl | rfl | rfl
  · obtain ⟨t, rfl⟩ := dvd2 h
    obtain ⟨u, rfl⟩ := dvd2 (i := j) (c := t * t) (by grind)
    exact ⟨2, t, u, by omega, rfl, by grind⟩
  · obtain ⟨t, rfl⟩ := dvd3 h
    obtain ⟨u, rfl⟩ := dvd3 (i := j) (c := t * t) (by grind)
    exact ⟨3, t, u, by omega, rfl, by grind⟩
  · obtain ⟨t, rfl⟩ := dvd5 h
    obtain ⟨u, rfl⟩ := dvd5 (i := j) (c := t * t) (by grind)
    exact ⟨5, t, u, by omega, rfl, by grind⟩
  · obtain ⟨t, rfl⟩ := dvd3 (i := i) (c := 2 * (j * j)) (by grind)
    obtain ⟨u, rfl⟩ := dvd3 (i := j) (c := 2 * (t * t) - (j * j)) (by grind)
    exact ⟨3, t, u, by omega, rfl, by grind⟩
  · obtain ⟨t, rfl⟩ := dvd13 h
    obtain ⟨u, rfl⟩ := dvd13 (i := j) (c := t * t) (by grind)
    exact ⟨13, t, u, by omega, rfl, by grind⟩
theorem nonsq {d : Int} (hd : Root d) : ∀ (n : Nat) (i j : Int), j.natAbs ≤ n → i * i = d * (j * j) → j = 0
  | 0, i, j, hn, _ => by omega
  | n + 1, i, j, hn, h => by
    obtain ⟨p, i', j', hp, e, h'⟩ := down hd h
    rcases Int.lt_trichotomy j' 0 with z | z | z
    · have : j'.natAbs ≤ n := by
        have h1 : p * j' ≤ 2 * j' := by
          have := Int.mul_le_mul_of_nonpos_right hp (by omega : j' ≤ 0)
          omega
        omega
      have := nonsq hd n i' j' this h'
      omega
    · rw [e, z]; simp
    · have : j'.natAbs ≤ n := by
        have h1 : 2 * j' ≤ p * j' := Int.mul_le_mul_of_nonneg_right hp (by omega)
        omega
      have := nonsq hd n i' j' this h'
      omega
theorem irr {d i j : Int} (hd : Root d) (h : i * i = d * (j * j)) : j = 0 := nonsq hd j.natAbs i j (Nat.le_refl _) h
end RF

namespace RF
theorem ring1 (x s : Int) : (x + s) * (x + s) = (x - s) * (x - s) + 4 * (x * s) := by grind
theorem amgm (x q y n : Int) (hx : 0 < x) (hq : 0 ≤ q) (hn : n < x * (q + 1)) (hy : x + q ≤ 2 * y + 1) : n < (y + 1) * (y + 1) := by
  have h1 := ring1 x (q + 1)
  have h0 : 0 ≤ (x - (q + 1)) * (x - (q + 1)) := by
    rcases Int.le_total 0 (x - (q + 1)) with h | h
    · exact Int.mul_nonneg h h
    · exact Int.mul_nonneg_of_nonpos_of_nonpos h h
  have h2 : (x + (q + 1)) * (x + (q + 1)) ≤ (2 * (y + 1)) * (2 * (y + 1)) := Int.mul_le_mul (by omega) (by omega) (by omega) (by omega)
  have h3 : (2 * (y + 1)) * (2 * (y + 1)) = 4 * ((y + 1) * (y + 1)) := by grind
  omega
end RF

namespace RF
/-- the size of an integer, as abs gives it -/
def ab (i : Int) : Int := if i < 0 then -i else i
theorem ab_nn (i : Int) : 0 ≤ ab i := by unfold ab; split <;> omega
theorem ab_pos {i : Int} (h : 0 ≤ i) : ab i = i := by unfold ab; rw [if_neg (by omega)]
theorem ab_neg {i : Int} (h : i ≤ 0) : ab i = -i := by
  unfold ab
  split <;> omega
/-- i|i| + d j|j|: it has the sign of i + j r -/
def sgb (d i j : Int) : Int := i * ab i + d * j * ab j
def sg (d i j : Int) : Int := if 0 < sgb d i j then 1 else if sgb d i j < 0 then -1 else 0
/-- the floor of f times the root -/
def flr (d f : Int) : Int := if f < 0 then -rt (d * f * f) - 1 else rt (d * f * f)
theorem dff (d f : Int) : d * f * f = d * (f * f) := Int.mul_assoc d f f
theorem dff_nn {d f : Int} (hd : Root d) : 0 ≤ d * f * f := by
  rw [dff]
  exact Int.mul_nonneg (Int.le_of_lt hd.pos) (sq_nonneg f)
theorem keyL {d x y : Int} (hd : Root d) : 0 ≤ sgb d x y ↔ 0 ≤ x + flr d y := by
  have r0 := rt_nn (d * y * y)
  have r1 := rt_le (dff_nn hd (f := y))
  have r2 := rt_lt (dff_nn hd (f := y))
  have dn := dff_nn hd (f := y)
  generalize hr : rt (d * y * y) = r at *
  rcases Int.lt_or_le y 0 with hy | hy
  · have ef : flr d y = -r - 1 := by unfold flr; rw [if_pos hy, hr]
    have eb : sgb d x y = x * ab x - d * y * y := by unfold sgb; rw [ab_neg (Int.le_of_lt hy)]; grind
    rw [ef, eb]
    have ne : r * r ≠ d * y * y := fun e => by
      have := irr hd (i := r) (j := y) (by rw [e, dff])
      omega
    have lt : r * r < d * y * y := by omega
    have dp : 0 < d * y * y := by
      have := sq_nonneg r
      omega
    rcases Int.lt_or_le x 0 with hx | hx
    · rw [ab_neg (Int.le_of_lt hx)]
      have := sq_nonneg x
      have e : x * -x = -(x * x) := by grind
      omega
    · rw [ab_pos hx]
      constructor
      · intro h
        have : r < x := lt_of_sq hx (by omega)
        omega
      · intro h
        have : (r + 1) * (r + 1) ≤ x * x := sq_le (by omega) (by omega)
        omega
  · have ef : flr d y = r := by unfold flr; rw [if_neg (by omega), hr]
    have eb : sgb d x y = x * ab x + d * y * y := by unfold sgb; rw [ab_pos hy]
    rw [ef, eb]
    rcases Int.lt_or_le x 0 with hx | hx
    · rw [ab_neg (Int.le_of_lt hx)]
      have e : x * -x = -((-x) * (-x)) := by grind
      constructor
      · intro h
        have : -x < r + 1 := lt_of_sq (by omega) (by omega)
        omega
      · intro h
        have : (-x) * (-x) ≤ r * r := sq_le (by omega) (by omega)
        omega
    · rw [ab_pos hx]
      have := sq_nonneg x
      omega
theorem ab_mul {g i : Int} (hg : 0 ≤ g) : ab (g * i) = g * ab i := by
  rcases Int.lt_or_le i 0 with h | h
  · have : g * i ≤ 0 := Int.mul_nonpos_of_nonneg_of_nonpos hg (by omega)
    rw [ab_neg this, ab_neg (by omega)]
    grind
  · rw [ab_pos (Int.mul_nonneg hg h), ab_pos h]
theorem sgb_mul {d g i j : Int} (hg : 0 ≤ g) : sgb d (g * i) (g * j) = g * g * sgb d i j := by
  unfold sgb
  rw [ab_mul hg, ab_mul hg]
  grind
theorem sgb_neg {d i j : Int} : sgb d (-i) (-j) = -sgb d i j := by
  have h : ∀ i, ab (-i) = ab i := fun i => by unfold ab; split <;> split <;> omega
  unfold sgb
  rw [h, h]
  grind
theorem sg_mul {d g i j : Int} (hg : 0 < g) : sg d (g * i) (g * j) = sg d i j := by
  have hp : 0 < g * g := Int.mul_pos hg hg
  have e := sgb_mul (d := d) (i := i) (j := j) (Int.le_of_lt hg)
  unfold sg
  rw [e]
  rcases Int.lt_trichotomy (sgb d i j) 0 with h | h | h
  · have : g * g * sgb d i j < 0 := Int.mul_neg_of_pos_of_neg hp h
    rw [if_neg (by omega), if_pos this, if_neg (by omega), if_pos h]
  · rw [h]; simp
  · have : 0 < g * g * sgb d i j := Int.mul_pos hp h
    rw [if_pos this, if_pos h]
theorem sg_neg {d i j : Int} : sg d (-i) (-j) = -sg d i j := by
  have e := sgb_neg (d := d) (i := i) (j := j)
  unfold sg
  rw [e]
  rcases Int.lt_trichotomy (sgb d i j) 0 with h | h | h
  · rw [if_pos (by omega), if_neg (by omega), if_pos h]; rfl
  · rw [h]; rfl
  · rw [if_neg (by omega), if_pos (by omega), if_pos h]
/-- the law's own sign -/
theorem sg_pp {d i j : Int} (hd : Root d) (hi : 0 ≤ i) (hj : 0 ≤ j) : sg d i j = if 0 < i ∨ 0 < j then 1 else 0 := by
  have hp := hd.pos
  have e : sgb d i j = i * i + d * (j * j) := by unfold sgb; rw [ab_pos hi, ab_pos hj]; grind
  have a := sq_nonneg i
  have b := sq_nonneg j
  have b' : 0 ≤ d * (j * j) := Int.mul_nonneg (by omega) b
  unfold sg
  rw [e]
  by_cases h : 0 < i ∨ 0 < j
  · rw [if_pos h, if_pos]
    rcases h with h | h
    · have : 0 < i * i := Int.mul_pos h h
      omega
    · have : 0 < d * (j * j) := Int.mul_pos hp (Int.mul_pos h h)
      omega
  · have hi0 : i = 0 := by omega
    have hj0 : j = 0 := by omega
    rw [if_neg h, hi0, hj0]
    simp
theorem sg_nn {d i j : Int} (hd : Root d) (hi : i ≤ 0) (hj : j ≤ 0) (h : ¬ (0 ≤ i ∧ 0 ≤ j)) : sg d i j = -1 := by
  have e : sg d i j = -sg d (-i) (-j) := by rw [sg_neg]; omega
  rw [e, sg_pp hd (by omega) (by omega), if_pos (by omega)]
theorem sg_pn {d i j : Int} (hd : Root d) (hi : 0 < i) (hj : j < 0) : sg d i j = if j * j * d < i * i then 1 else -1 := by
  have e : sgb d i j = i * i - j * j * d := by unfold sgb; rw [ab_pos (by omega), ab_neg (by omega)]; grind
  have ne : i * i ≠ j * j * d := fun q => by
    have := irr hd (i := i) (j := j) (by rw [q]; grind)
    omega
  unfold sg
  rw [e]
  split <;> split <;> first | rfl | omega | skip
theorem sg_np {d i j : Int} (hd : Root d) (hi : i < 0) (hj : 0 < j) : sg d i j = if i * i < j * j * d then 1 else -1 := by
  have e : sgb d i j = j * j * d - i * i := by unfold sgb; rw [ab_pos (i := j) (by omega), ab_neg (i := i) (by omega)]; grind
  have ne : i * i ≠ j * j * d := fun q => by
    have := irr hd (i := i) (j := j) (by rw [q]; grind)
    omega
  unfold sg
  rw [e]
  split <;> split <;> first | rfl | omega | skip
theorem sg_nonneg {d i j : Int} (hd : Root d) : 0 ≤ sg d i j ↔ 0 ≤ i + flr d j := by
  rw [← keyL hd]
  unfold sg
  split
  · omega
  · split <;> omega
theorem flr_ring {d f : Int} : rt (f * f * d) = rt (d * f * f) := by rw [show f * f * d = d * f * f by grind]
end RF

namespace RF
/-! ### lowest terms -/
def gc (i j k : Int) : Int := ((Nat.gcd (Nat.gcd i.natAbs j.natAbs) k.natAbs : Nat) : Int)
def gs (i j k : Int) : Int := if k < 0 then -gc i j k else gc i j k
theorem gc_i (i j k : Int) : gc i j k ∣ i := Int.natAbs_dvd_natAbs.mp (by
  unfold gc
  rw [Int.natAbs_natCast]
  exact Nat.dvd_trans (Nat.gcd_dvd_left _ _) (Nat.gcd_dvd_left _ _))
theorem gc_j (i j k : Int) : gc i j k ∣ j := Int.natAbs_dvd_natAbs.mp (by
  unfold gc
  rw [Int.natAbs_natCast]
  exact Nat.dvd_trans (Nat.gcd_dvd_left _ _) (Nat.gcd_dvd_right _ _))
theorem gc_k (i j k : Int) : gc i j k ∣ k := Int.natAbs_dvd_natAbs.mp (by
  unfold gc
  rw [Int.natAbs_natCast]
  exact Nat.gcd_dvd_right _ _)
theorem gc_pos {i j k : Int} (h : k ≠ 0) : 0 < gc i j k := by
  have : 0 < Nat.gcd (Nat.gcd i.natAbs j.natAbs) k.natAbs := Nat.gcd_pos_of_pos_right _ (by omega)
  unfold gc
  omega
theorem gc_le {i j k : Int} (h : k ≠ 0) : gc i j k ≤ ab k := by
  have : Nat.gcd (Nat.gcd i.natAbs j.natAbs) k.natAbs ≤ k.natAbs := Nat.gcd_le_right _ (by omega)
  unfold gc ab
  split <;> omega
theorem gs_ne {i j k : Int} (h : k ≠ 0) : gs i j k ≠ 0 := by
  have := gc_pos (i := i) (j := j) h
  unfold gs
  split <;> omega
theorem gs_natAbs {i j k : Int} (h : k ≠ 0) : (gs i j k).natAbs ≤ k.natAbs := by
  have := gc_pos (i := i) (j := j) h
  have := gc_le (i := i) (j := j) h
  unfold gs
  unfold ab at this
  split <;> split at this <;> omega
def pI (i j k : Int) : Int := i.fdiv (gs i j k)
def pJ (i j k : Int) : Int := j.fdiv (gs i j k)
def pK (i j k : Int) : Int := k.fdiv (gs i j k)
theorem gs_dvd {i j k x : Int} (h : gc i j k ∣ x) : gs i j k ∣ x := by
  unfold gs
  split
  · exact Int.neg_dvd.mpr h
  · exact h
theorem fdiv_of {g x : Int} (hg : g ≠ 0) (h : g ∣ x) : x = g * x.fdiv g := by
  obtain ⟨t, rfl⟩ := h
  rw [Int.mul_fdiv_cancel_left t hg]
theorem pI_eq {i j k : Int} (h : k ≠ 0) : i = gs i j k * pI i j k := fdiv_of (gs_ne h) (gs_dvd (gc_i i j k))
theorem pJ_eq {i j k : Int} (h : k ≠ 0) : j = gs i j k * pJ i j k := fdiv_of (gs_ne h) (gs_dvd (gc_j i j k))
theorem pK_eq {i j k : Int} (h : k ≠ 0) : k = gs i j k * pK i j k := fdiv_of (gs_ne h) (gs_dvd (gc_k i j k))
theorem pK_pos {i j k : Int} (h : k ≠ 0) : 0 < pK i j k := by
  have e := pK_eq (i := i) (j := j) h
  have g0 := gc_pos (i := i) (j := j) h
  generalize pK i j k = t at *
  unfold gs at e
  split at e
  · rcases Int.lt_or_le 0 t with z | z
    · exact z
    · have : 0 ≤ -gc i j k * t := Int.mul_nonneg_of_nonpos_of_nonpos (by omega) z
      omega
  · rcases Int.lt_or_le 0 t with z | z
    · exact z
    · have : gc i j k * t ≤ 0 := Int.mul_nonpos_of_nonneg_of_nonpos (by omega) z
      omega
theorem nat_le_mul {g t : Int} (hg : g ≠ 0) : t.natAbs ≤ (g * t).natAbs := by
  rw [Int.natAbs_mul]
  exact Nat.le_mul_of_pos_left _ (by omega)
theorem pI_le {i j k : Int} (h : k ≠ 0) : (pI i j k).natAbs ≤ i.natAbs := by
  have e := pI_eq (i := i) (j := j) h
  have := nat_le_mul (g := gs i j k) (t := pI i j k) (gs_ne h)
  rw [← e] at this
  exact this
theorem pJ_le {i j k : Int} (h : k ≠ 0) : (pJ i j k).natAbs ≤ j.natAbs := by
  have e := pJ_eq (i := i) (j := j) h
  have := nat_le_mul (g := gs i j k) (t := pJ i j k) (gs_ne h)
  rw [← e] at this
  exact this
theorem pK_le {i j k : Int} (h : k ≠ 0) : (pK i j k).natAbs ≤ k.natAbs := by
  have e := pK_eq (i := i) (j := j) h
  have := nat_le_mul (g := gs i j k) (t := pK i j k) (gs_ne h)
  rw [← e] at this
  exact this
theorem gc_one {i j k : Int} (h : k ≠ 0) : gc (pI i j k) (pJ i j k) (pK i j k) = 1 := by
  have e1 : i.natAbs = (gs i j k).natAbs * (pI i j k).natAbs := by rw [← Int.natAbs_mul, ← pI_eq h]
  have e2 : j.natAbs = (gs i j k).natAbs * (pJ i j k).natAbs := by rw [← Int.natAbs_mul, ← pJ_eq h]
  have e3 : k.natAbs = (gs i j k).natAbs * (pK i j k).natAbs := by rw [← Int.natAbs_mul, ← pK_eq h]
  have eg : (gs i j k).natAbs = Nat.gcd (Nat.gcd i.natAbs j.natAbs) k.natAbs := by
    unfold gs gc
    split <;> omega
  have key : Nat.gcd (Nat.gcd i.natAbs j.natAbs) k.natAbs = (gs i j k).natAbs * Nat.gcd (Nat.gcd (pI i j k).natAbs (pJ i j k).natAbs) (pK i j k).natAbs := by
    conv => lhs; rw [e1, e2, e3]
    rw [Nat.gcd_mul_left, Nat.gcd_mul_left]
  rw [← eg] at key
  have gp : 0 < (gs i j k).natAbs := by have := gs_ne (i := i) (j := j) h; omega
  have : Nat.gcd (Nat.gcd (pI i j k).natAbs (pJ i j k).natAbs) (pK i j k).natAbs = 1 := by
    have q : (gs i j k).natAbs * 1 = (gs i j k).natAbs * Nat.gcd (Nat.gcd (pI i j k).natAbs (pJ i j k).natAbs) (pK i j k).natAbs := by omega
    exact (Nat.eq_of_mul_eq_mul_left gp q).symm
  unfold gc
  rw [this]
  rfl
theorem dvd_low {a b c a' b' c' : Int} (hg : gc a b c = 1) (h1 : a * c' = a' * c) (h2 : b * c' = b' * c) : c ∣ c' := by
  apply Int.natAbs_dvd_natAbs.mp
  have d1 : c.natAbs ∣ a.natAbs * c'.natAbs := by rw [← Int.natAbs_mul, h1, Int.natAbs_mul]; exact Nat.dvd_mul_left _ _
  have d2 : c.natAbs ∣ b.natAbs * c'.natAbs := by rw [← Int.natAbs_mul, h2, Int.natAbs_mul]; exact Nat.dvd_mul_left _ _
  have d3 : c.natAbs ∣ c.natAbs * c'.natAbs := Nat.dvd_mul_right _ _
  have d : c.natAbs ∣ Nat.gcd (Nat.gcd (a.natAbs * c'.natAbs) (b.natAbs * c'.natAbs)) (c.natAbs * c'.natAbs) := Nat.dvd_gcd (Nat.dvd_gcd d1 d2) d3
  rw [Nat.gcd_mul_right, Nat.gcd_mul_right] at d
  have : Nat.gcd (Nat.gcd a.natAbs b.natAbs) c.natAbs = 1 := by unfold gc at hg; omega
  rw [this, Nat.one_mul] at d
  exact d
theorem low_uniq {a b c a' b' c' : Int} (hc : 0 < c) (hc' : 0 < c') (hg : gc a b c = 1) (hg' : gc a' b' c' = 1) (h1 : a * c' = a' * c) (h2 : b * c' = b' * c) : a = a' ∧ b = b' ∧ c = c' := by
  have e : c = c' := Int.dvd_antisymm (by omega) (by omega) (dvd_low hg h1 h2) (dvd_low hg' h1.symm h2.symm)
  subst e
  exact ⟨Int.eq_of_mul_eq_mul_right (by omega) h1, Int.eq_of_mul_eq_mul_right (by omega) h2, rfl⟩
/-- equal numbers have equal parts -/
theorem parts_eq {i j k i' j' k' : Int} (h : k ≠ 0) (h' : k' ≠ 0) (h1 : i * k' = i' * k) (h2 : j * k' = j' * k) : pI i j k = pI i' j' k' ∧ pJ i j k = pJ i' j' k' ∧ pK i j k = pK i' j' k' := by
  have g := gs_ne (i := i) (j := j) h
  have g' := gs_ne (i := i') (j := j') h'
  have a1 := pI_eq (i := i) (j := j) h
  have a2 := pJ_eq (i := i) (j := j) h
  have a3 := pK_eq (i := i) (j := j) h
  have b1 := pI_eq (i := i') (j := j') h'
  have b2 := pJ_eq (i := i') (j := j') h'
  have b3 := pK_eq (i := i') (j := j') h'
  refine low_uniq (pK_pos h) (pK_pos h') (gc_one h) (gc_one h') ?_ ?_
  · have : gs i j k * gs i' j' k' ≠ 0 := Int.mul_ne_zero g g'
    apply Int.eq_of_mul_eq_mul_left this
    generalize gs i j k = s at *
    generalize gs i' j' k' = s' at *
    generalize pI i j k = x at *
    generalize pI i' j' k' = x' at *
    generalize pK i j k = z at *
    generalize pK i' j' k' = z' at *
    rw [a1, b1, a3, b3] at h1
    grind
  · have : gs i j k * gs i' j' k' ≠ 0 := Int.mul_ne_zero g g'
    apply Int.eq_of_mul_eq_mul_left this
    generalize gs i j k = s at *
    generalize gs i' j' k' = s' at *
    generalize pJ i j k = x at *
    generalize pJ i' j' k' = x' at *
    generalize pK i j k = z at *
    generalize pK i' j' k' = z' at *
    rw [a2, b2, a3, b3] at h2
    grind
/-- the sign of a number does not hang on how it is told -/
theorem sg_parts {d i j k : Int} (h : 0 < k) : sg d (pI i j k) (pJ i j k) = sg d i j := by
  have g := gs_ne (i := i) (j := j) (k := k) (by omega)
  have gp : 0 < gs i j k := by
    have := gc_pos (i := i) (j := j) (k := k) (by omega)
    unfold gs
    rw [if_neg (by omega)]
    exact this
  have e := sg_mul (d := d) (i := pI i j k) (j := pJ i j k) gp
  rw [← pI_eq (by omega), ← pJ_eq (by omega)] at e
  exact e.symm
end RF

namespace RF
open PySem L2 PyProof.Rows
/-! ### what a surd looks like -/
theorem kRP : ¬ (("_root" : Str) = "_parts") := by decide +kernel
def sfl (d : Int) (t : Addr) : List (Str × V) := putF "_parts" (.ref t) (putF "_root" (.int d) [])
theorem sfl_root (d : Int) (t : Addr) : (sfl d t).lookup ("_root" : Str) = some (.int d) := by
  unfold sfl
  rw [lookup_putF, if_neg kRP, lookup_putF, if_pos rfl]
theorem sfl_parts (d : Int) (t : Addr) : (sfl d t).lookup ("_parts" : Str) = some (.ref t) := by
  unfold sfl
  rw [lookup_putF, if_pos rfl]
theorem sfl_no (d : Int) (t : Addr) {m : Str} (h1 : ¬ m = "_parts") (h2 : ¬ m = "_root") : (sfl d t).lookup m = none := by
  unfold sfl
  rw [lookup_putF, if_neg h1, lookup_putF, if_neg h2]
  all_goals rfl
/-- at p: the surd of the root d with the parts i, j, k -/
def SurdAt (H : Hp) (C p : Addr) (d i j k : Int) : Prop := ∃ dx t, H p = some (.ins C dx (sfl d t)) ∧ H t = some (.tup [.int i, .int j, .int k])
theorem SurdAt.same {H H' : Hp} {C p : Addr} {d i j k : Int} (s : Same H H') (h : SurdAt H C p d i j k) : SurdAt H' C p d i j k := by
  obtain ⟨dx, t, h1, h2⟩ := h
  exact ⟨dx, t, s _ _ h1, s _ _ h2⟩
/-- below two to the n -/
def Bd (n : Nat) (i : Int) : Prop := i.natAbs < 2 ^ n
theorem Bd.mono {n m : Nat} {i : Int} (h : Bd n i) (hn : n ≤ m) : Bd m i := Nat.lt_of_lt_of_le h (Nat.pow_le_pow_right (by decide) hn)
theorem Bd.mul {n m : Nat} {i j : Int} (a : Bd n i) (b : Bd m j) : Bd (n + m) (i * j) := wide_lt a b
theorem Bd.add {n : Nat} {i j : Int} (a : Bd n i) (b : Bd n j) : Bd (n + 1) (i + j) := by
  unfold Bd at *
  rw [Nat.pow_succ]
  omega
theorem Bd.neg {n : Nat} {i : Int} (a : Bd n i) : Bd n (-i) := by
  unfold Bd at *
  omega
theorem Bd.le {n : Nat} {i j : Int} (a : Bd n i) (h : j.natAbs ≤ i.natAbs) : Bd n j := Nat.lt_of_le_of_lt h a
theorem Bd.ab {n : Nat} {i : Int} (a : Bd n i) : Bd n (if i < 0 then -i else i) := by
  unfold Bd at *
  split <;> omega
theorem Bd.log {n : Nat} {i : Int} (a : Bd n i) (h : 0 < n) : i.natAbs.log2 < n := PySem.Flt.log2_lt_of h a
theorem mulOk {n m : Nat} {i j : Int} (a : Bd n i) (b : Bd m j) (h0 : 0 < n) (h1 : 0 < m) (h : n + m ≤ 1000000) : CMulW i j := wide_mul a b h0 h1 h
theorem rootBd {d : Int} (h : Root d) : Bd 4 d := by
  unfold Bd
  unfold Root at h
  omega
/-- // by any great divisor but 0 -/
def CDivNW (_ j : Int) : Prop := j ≠ 0 ∧ j.natAbs.log2 < 9000
theorem op_fdivNW {X : Cx} : OpR X (binaryOp .FloorDiv) (rI CDivNW fun i j => .int (i.fdiv j)) := opI fun _ _ _ _ _ _ _ hc q => floordiv_int hc.1 q (.inl (PyProof.noPylong_of_log2 hc.2))

/-! ### a written dict with int keys -/
def okE : List DictEntry → List Int → Bool
  | [], [] => true
  | e :: es, k :: ks => (match e.key with | .int i _ => i == k | _ => false) && e.hash == hashInt k && okE es ks
  | _, _ => false
structure IntKeys (K : PySem.W.Frag) (d : Addr) (ks : List Int) : Prop where
  low : (d == sysModules) = false
  ex : ∃ es n, K.lookup d = some ⟨.type "dict", none, .dict es n, #[]⟩ ∧ okE es.toList ks = true
theorem okE_mem : ∀ {es : List DictEntry} {ks : List Int}, okE es ks = true → ∀ e ∈ es, ∃ k t, k ∈ ks ∧ e.key = .int k t ∧ e.hash = hashInt k
  | [], _, _, e, he => by cases he
  | c :: es, [], h, e, he => by simp [okE] at h
  | c :: es, k :: ks, h, e, he => by
    unfold okE at h
    simp only [Bool.and_eq_true, beq_iff_eq] at h
    obtain ⟨⟨h1, h2⟩, h3⟩ := h
    rcases List.mem_cons.mp he with rfl | he
    · split at h1
      · rename_i i t q
        exact ⟨k, t, List.mem_cons_self, by rw [q, beq_iff_eq.mp h1], h2⟩
      · cases h1
    · obtain ⟨k', t, a, b, c⟩ := okE_mem h3 e he
      exact ⟨k', t, List.mem_cons_of_mem _ a, b, c⟩
theorem okE_find : ∀ {es : List DictEntry} {ks : List Int} (i : Int), okE es ks = true → (es.find? fun e => Value.isInt i e.key).isSome = decide (i ∈ ks)
  | [], [], i, _ => by simp
  | [], k :: ks, i, h => by simp [okE] at h
  | c :: es, [], i, h => by simp [okE] at h
  | c :: es, k :: ks, i, h => by
    unfold okE at h
    simp only [Bool.and_eq_true, beq_iff_eq] at h
    obtain ⟨⟨h1, h2⟩, h3⟩ := h
    have ih := okE_find i h3
    split at h1
    · rename_i j t q
      have e : j = k := beq_iff_eq.mp h1
      rw [List.find?_cons]
      by_cases z : i = k
      · have : Value.isInt i c.key = true := by rw [q, e, z]; simp [Value.isInt]
        rw [this]
        simp [z]
      · have : Value.isInt i c.key = false := by
          rw [q, e]
          simp only [Value.isInt]
          exact beq_eq_false_iff_ne.mpr (fun w => z w.symm) |> fun h => by first | exact h | (rw [beq_eq_false_iff_ne]; exact z) | simpa using z
        rw [this]
        simp [ih, z]
    · cases h1
theorem op_in_intd {X : Cx} : OpR X (compareOp .In) (fun x y H Q => ∃ i d ks, x = .int i ∧ y = .ref d ∧ IntKeys X.K d ks ∧ Q (.bl (decide (i ∈ ks))) H) := by
  intro pins s σ H x y v u Q I rx ry h
  obtain ⟨i, d, ks, rfl, rfl, ⟨low, es, n, hl, he⟩, q⟩ := h
  obtain ⟨t, rfl⟩ := rx
  cases ry
  have hm : s.heap.MapOf (intKind X.prog X.w) d (fun k => findBy Value.isInt es k) := ⟨_, es, n, I.kIn _ _ hl, ⟨rfl, rfl, rfl⟩, rfl, fun e hh => by
    obtain ⟨k, t, _, e1, e2⟩ := okE_mem he e (Array.mem_toList_iff.mpr hh)
    exact ⟨k, by rw [e1]; show Value.isInt k (.int k t) = true; simp [Value.isInt], e2⟩, fun _ => rfl⟩
  refine wpAny_in_of (knd := intKind X.prog X.w) (k := i) (by show Value.isInt i (.int i t) = true; simp [Value.isInt]) low hm ?_
  have e : (findBy Value.isInt es i).isSome = decide (i ∈ ks) := by
    unfold findBy
    rw [Option.isSome_map, ← okE_find i he, ← List.find?_toArray]
  rw [e]
  exact ⟨.bl _, H, I.tok _, rfl, q⟩
end RF

namespace RF
open PySem L2
def isS (x : Str) : D → Bool
  | .str y => decide (y = x)
  | _ => false
/-! ### data that has no part at some addresses -/
def hid (S : List Addr) (H : Hp) : Hp := fun a => if a ∈ S then none else H a
theorem hid_ne {S : List Addr} {a : Addr} {H : Hp} (h : a ∉ S) : hid S H a = H a := if_neg h
theorem hid_same {S : List Addr} {H : Hp} : Same (hid S H) H := fun a o e => by
  unfold hid at e
  split at e
  · cases e
  · exact e
theorem hid_le {S S' : List Addr} {H : Hp} (h : ∀ s ∈ S', s ∈ S) : Same (hid S H) (hid S' H) := fun a o e => by
  unfold hid at *
  split at e
  · cases e
  · rename_i n
    rw [if_neg (fun m => n (h a m))]
    exact e
theorem hid_mono {S : List Addr} {H H' : Hp} (s : Same H H') : Same (hid S H) (hid S H') := fun a o e => by
  unfold hid at *
  split at e
  · cases e
  · rename_i h
    rw [if_neg h]
    exact s a o e
theorem hid_kp {S : List Addr} {b : Addr} {H H' : Hp} (hb : b ∈ S) (k : Kp b H H') : Same (hid S H) (hid S H') := fun a o e => by
  unfold hid at *
  split at e
  · cases e
  · rename_i h
    rw [if_neg h]
    exact k a o (fun z => h (z ▸ hb)) e
theorem hid_upd {S : List Addr} {p : Addr} {H : Hp} {o : HO} (hp : p ∈ S) : hid S (upd H p o) = hid S H := by
  funext a
  unfold hid
  split
  · rfl
  · rename_i h
    exact upd_ne fun z => h (z ▸ hp)
def R (K : PySem.W.Frag) (S : List Addr) (H : Hp) (v : V) (d : D) : Prop := Rp K (hid S H) v d
def Rs (K : PySem.W.Frag) (S : List Addr) (H : Hp) (xs : List V) (ds : List D) : Prop := Rps K (hid S H) xs ds
/-- all of S is there -/
def Alloc (S : List Addr) (H : Hp) : Prop := ∀ s ∈ S, H s ≠ none
theorem Alloc.off {S : List Addr} {H : Hp} {p : Addr} (h : Alloc S H) (e : H p = none) : p ∉ S := fun m => h p m e
theorem Alloc.same {S : List Addr} {H H' : Hp} (h : Alloc S H) (s : Same H H') : Alloc S H' := fun a m z => by
  cases e : H a with
  | none => exact h a m e
  | some o => rw [s a o e] at z; cases z
theorem Alloc.kp {S : List Addr} {b : Addr} {H H' : Hp} (h : Alloc S H) (k : Kp b H H') (hb : H' b ≠ none) : Alloc S H' := fun a m z => by
  by_cases hab : a = b
  · subst hab; exact hb z
  · cases e : H a with
    | none => exact h a m e
    | some o => rw [k a o hab e] at z; cases z
theorem Alloc.cons {S : List Addr} {H : Hp} {p : Addr} (h : Alloc S H) (e : H p ≠ none) : Alloc (p :: S) H := fun a m => by
  rcases List.mem_cons.mp m with rfl | m
  · exact e
  · exact h a m
section
variable {K : PySem.W.Frag} {S S' : List Addr} {b : Addr} {H H' : Hp} {v : V} {d : D} {xs : List V} {ds : List D}
theorem R.rp (h : R K S H v d) : Rp K H v d := Rp.same hid_same d h
theorem R.same (h : R K S H v d) (s : Same H H') : R K S H' v d := Rp.same (hid_mono s) d h
theorem R.kp (h : R K S H v d) (hb : b ∈ S) (k : Kp b H H') : R K S H' v d := Rp.same (hid_kp hb k) d h
theorem R.le (h : R K S H v d) (l : ∀ s ∈ S', s ∈ S) : R K S' H v d := Rp.same (hid_le l) d h
theorem R.upd {p : Addr} {o : HO} (h : R K S H v d) (hp : p ∈ S) : R K S (L2.upd H p o) v d := by unfold R; rw [hid_upd hp]; exact h
theorem Rs.rps (h : Rs K S H xs ds) : Rps K H xs ds := Rps.same hid_same ds h
theorem Rs.same (h : Rs K S H xs ds) (s : Same H H') : Rs K S H' xs ds := Rps.same (hid_mono s) ds h
theorem Rs.kp (h : Rs K S H xs ds) (hb : b ∈ S) (k : Kp b H H') : Rs K S H' xs ds := Rps.same (hid_kp hb k) ds h
theorem Rs.le (h : Rs K S H xs ds) (l : ∀ s ∈ S', s ∈ S) : Rs K S' H xs ds := Rps.same (hid_le l) ds h
theorem Rs.upd {p : Addr} {o : HO} (h : Rs K S H xs ds) (hp : p ∈ S) : Rs K S (L2.upd H p o) xs ds := by unfold Rs; rw [hid_upd hp]; exact h
theorem R.tup {p : Addr} (n : p ∉ S) (e : H p = some (.tup xs)) (l : xs.length ≤ 100000) (h : Rs K S H xs ds) : R K S H (.ref p) (.tup ds) :=
  ⟨p, xs, rfl, SqT.of (by rw [hid_ne n]; exact e), l, h⟩
theorem R.lst {p : Addr} (n : p ∉ S) (e : H p = some (.lst xs)) (l : xs.length ≤ 100000) (h : Rs K S H xs ds) : R K S H (.ref p) (.lst ds) :=
  ⟨p, xs, rfl, SqL.of (by rw [hid_ne n]; exact e), l, h⟩
theorem Rs.nil : Rs K S H [] [] := rfl
theorem Rs.cons {x : V} {e : D} (h1 : R K S H x e) (h2 : Rs K S H xs ds) : Rs K S H (x :: xs) (e :: ds) := ⟨x, xs, rfl, h1, h2⟩
/-- a new tuple of what is there -/
theorem R.newT {p : Addr} (a : Alloc S H) (e : H p = none) (l : xs.length ≤ 100000) (h : Rs K S H xs ds) : R K S (L2.upd H p (.tup xs)) (.ref p) (.tup ds) :=
  R.tup (a.off e) upd_same l (h.same (sNew (Same.refl _) e))
theorem R.newL {p : Addr} (a : Alloc S H) (e : H p = none) (l : xs.length ≤ 100000) (h : Rs K S H xs ds) : R K S (L2.upd H p (.lst xs)) (.ref p) (.lst ds) :=
  R.lst (a.off e) upd_same l (h.same (sNew (Same.refl _) e))
theorem R.int (i : Int) : R K S H (.int i) (.int i) := rfl
theorem R.str (x : Str) : R K S H (.str x) (.str x) := rfl
theorem R.bl (x : Bool) : R K S H (.bl x) (.bl x) := rfl
theorem R.non : R K S H .non .non := rfl
end
theorem Rps.app {K : PySem.W.Frag} {H : Hp} : ∀ {xs ys : List V} {ds es : List D}, Rps K H xs ds → Rps K H ys es → Rps K H (xs ++ ys) (ds ++ es)
  | xs, ys, [], es, h, g => by rw [show xs = [] from h]; exact g
  | xs, ys, d :: ds, es, h, g => by
    obtain ⟨x, r, rfl, h2, h3⟩ := h
    exact ⟨x, r ++ ys, rfl, h2, Rps.app h3 g⟩
theorem Rs.app {K : PySem.W.Frag} {S : List Addr} {H : Hp} {xs ys : List V} {ds es : List D} (h : Rs K S H xs ds) (g : Rs K S H ys es) : Rs K S H (xs ++ ys) (ds ++ es) := Rps.app h g
theorem Rps.take {K : PySem.W.Frag} {H : Hp} : ∀ {xs : List V} {ds : List D} (n : Nat), Rps K H xs ds → Rps K H (xs.take n) (ds.take n)
  | xs, ds, 0, h => by rw [List.take_zero, List.take_zero]; rfl
  | xs, [], n + 1, h => by rw [show xs = [] from h]; rfl
  | xs, d :: ds, n + 1, h => by
    obtain ⟨x, r, rfl, h2, h3⟩ := h
    exact ⟨x, r.take n, rfl, h2, Rps.take n h3⟩
theorem Rps.drop {K : PySem.W.Frag} {H : Hp} : ∀ {xs : List V} {ds : List D} (n : Nat), Rps K H xs ds → Rps K H (xs.drop n) (ds.drop n)
  | xs, ds, 0, h => h
  | xs, [], n + 1, h => by rw [show xs = [] from h]; rfl
  | xs, d :: ds, n + 1, h => by
    obtain ⟨x, r, rfl, h2, h3⟩ := h
    exact Rps.drop n h3
theorem Rps.of {K : PySem.W.Frag} {H : Hp} : ∀ {xs : List V} {ds : List D} {i : Nat} {d : D}, Rps K H xs ds → ds[i]? = some d → ∃ x, xs[i]? = some x ∧ Rp K H x d
  | xs, [], i, d, h, e => by simp at e
  | xs, c :: ds, 0, d, h, e => by
    obtain ⟨x, r, rfl, h2, _⟩ := h
    cases e
    exact ⟨x, rfl, h2⟩
  | xs, c :: ds, i + 1, d, h, e => by
    obtain ⟨x, r, rfl, _, h3⟩ := h
    obtain ⟨y, e1, e2⟩ := Rps.of (i := i) h3 e
    exact ⟨y, e1, e2⟩
/-- the part of a list that a slice tells -/
def cutD (ds : List D) (lo hi : Option Int) : List D := (ds.drop (HT.sIx ds.length 0 lo)).take (HT.sIx ds.length ds.length hi - HT.sIx ds.length 0 lo)
theorem Rps.cut {K : PySem.W.Frag} {H : Hp} {xs : List V} {ds : List D} (h : Rps K H xs ds) (lo hi : Option Int) : Rps K H (cutV xs lo hi) (cutD ds lo hi) := by
  unfold cutV cutD
  rw [h.len]
  exact Rps.take _ (Rps.drop _ h)
theorem Rs.cut {K : PySem.W.Frag} {S : List Addr} {H : Hp} {xs : List V} {ds : List D} (h : Rs K S H xs ds) (lo hi : Option Int) : Rs K S H (cutV xs lo hi) (cutD ds lo hi) := Rps.cut h lo hi
theorem cutD_mem {ds : List D} {lo hi : Option Int} {d : D} (h : d ∈ cutD ds lo hi) : d ∈ ds := List.mem_of_mem_drop (List.mem_of_mem_take h)
theorem cutD_len (ds : List D) (lo hi : Option Int) : (cutD ds lo hi).length ≤ ds.length := by
  unfold cutD
  rw [List.length_take, List.length_drop]
  omega
/-! ### words, terms -/
def letD (c : Nat) : Bool := decide (97 ≤ c) && decide (c ≤ 122)
def noVars : List Str := ["all", "and", "not", "or", "r"]
def wordS (x : Str) (lo hi : Int) : Bool := decide (lo ≤ (x.length : Int)) && (decide ((x.length : Int) ≤ hi) && x.cps.toList.all letD)
def varS (x : Str) : Bool := wordS x 1 3 && !noVars.contains x
def varD : D → Bool
  | .str x => varS x
  | _ => false
theorem sm_up2 {H H1 : Hp} {a : Addr} {o : HO} (s : Same H H1) (h : H a = none) : Same H (upd H1 a o) := fun b u e => by
  have hne : b ≠ a := fun z => by rw [z, h] at e; cases e
  rw [upd_ne hne]
  exact s b u e
end RF

namespace RF
open PySem L2
/-! ### texts: plain facts -/
theorem sx {a b : Str} (h : a.cps = b.cps) : a = b := by cases a; cases b; exact congrArg Str.mk h
theorem cps_app (a b : Str) : (a ++ b).cps = a.cps ++ b.cps := rfl
theorem s_assoc (a b c : Str) : a ++ b ++ c = a ++ (b ++ c) := sx (by rw [cps_app, cps_app, cps_app, cps_app, Array.append_assoc])
theorem e_app (a : Str) : Str.empty ++ a = a := sx (by rw [cps_app]; exact Array.empty_append)
theorem app_e (a : Str) : a ++ Str.empty = a := sx (by rw [cps_app]; exact Array.append_empty)
theorem len_app (a b : Str) : (a ++ b).length = a.length + b.length := Array.size_append
theorem emp_eq : ("" : Str) = Str.empty := by decide +kernel
theorem foldl_cps (g : Str) : ∀ (l : List Str) (a : Array Nat), l.foldl (fun acc p => acc ++ g.cps ++ p.cps) a = a ++ l.foldl (fun acc p => acc ++ g.cps ++ p.cps) #[]
  | [], a => by simp
  | x :: l, a => by
    rw [List.foldl_cons, List.foldl_cons, foldl_cps g l (a ++ g.cps ++ x.cps), foldl_cps g l (#[] ++ g.cps ++ x.cps)]
    simp [Array.append_assoc]
theorem join_nil (a : Str) : Txt.join a [] = Str.empty := rfl
theorem join_one (a x : Str) : Txt.join a [x] = x := rfl
/-- a text behind a joined list of texts -/
theorem join_snoc (x : Str) (l : List Str) : Txt.join Str.empty (l ++ [x]) = Txt.join Str.empty l ++ x := by
  cases l with
  | nil => exact (e_app x).symm
  | cons y l =>
    refine sx ?_
    show List.foldl _ y.cps (l ++ [x]) = List.foldl _ y.cps l ++ x.cps
    rw [List.foldl_append]
    show List.foldl (fun acc p => acc ++ Str.empty.cps ++ p.cps) y.cps l ++ Str.empty.cps ++ x.cps = _
    rw [show Str.empty.cps = (#[] : Array Nat) from rfl, Array.append_empty]
theorem join_len (a : Str) : ∀ l : List Str, (Txt.join a l).length ≤ (l.map (·.length)).sum + l.length * a.length
  | [] => Nat.zero_le _
  | y :: l => by
    have h : ∀ (l : List Str) (z : Array Nat), (l.foldl (fun acc p => acc ++ a.cps ++ p.cps) z).size = z.size + ((l.map (·.length)).sum + l.length * a.length) := by
      intro l
      induction l with
      | nil => intro z; simp
      | cons x l ih =>
        intro z
        rw [List.foldl_cons, ih, Array.size_append, Array.size_append, List.map_cons, List.sum_cons, List.length_cons, Nat.add_mul]
        show z.size + a.length + x.length + _ = _
        omega
    show (List.foldl _ y.cps l).size ≤ _
    rw [h, List.map_cons, List.sum_cons, List.length_cons, Nat.add_mul]
    show y.length + _ ≤ _
    omega
/-! ### the texts of slopes, terms and sayings -/
def aI (i : Int) : Int := if i < 0 then -i else i
def tS (i : Int) : Str := Str.ofString (toString i)
def szS (j : Int) : Str := if aI j = 1 then "" else tS (aI j)
def sm0 (i j : Int) : Str := if j = 0 then tS i else (if j < 0 then ("-" : Str) else "") ++ szS j ++ "r"
def sumS (i j : Int) : Str := if i ≠ 0 ∧ j ≠ 0 then tS i ++ (if j < 0 then ("-" : Str) else "+") ++ szS j ++ "r" else sm0 i j
def stp (i j k : Int) : Str := if k = 1 then sumS i j else if i ≠ 0 ∧ j ≠ 0 then "(" ++ sumS i j ++ ")/" ++ tS k else sumS i j ++ "/" ++ tS k
def mulP (j : Int) : Str := if j = 1 then "r" else if j = -1 then "-r" else Str.empty ++ tS j ++ "r"
def sumP (i j : Int) : Str := if j = 0 then tS i else if i = 0 then mulP j else Str.empty ++ tS i ++ (if j > 0 then ("+" : Str) else "") ++ mulP j
def SlB (i j k : Int) : Prop := (-9 ≤ i ∧ i ≤ 9) ∧ (-3 ≤ j ∧ j ≤ 3) ∧ (1 ≤ k ∧ k ≤ 4)
theorem fin_of {lo hi : Int} {n : Nat} (P : Int → Prop) (hn : hi - lo < n) (h : ∀ a : Fin n, P (lo + a.val)) (i : Int) (h0 : lo ≤ i) (h1 : i ≤ hi) : P i := by
  have := h ⟨(i - lo).toNat, by omega⟩
  have e : lo + ((i - lo).toNat : Int) = i := by omega
  rw [← e]
  exact this
theorem sum_all : ∀ a : Fin 19, ∀ b : Fin 7, sumP (-9 + a.val) (-3 + b.val) = sumS (-9 + a.val) (-3 + b.val) ∧ (sumS (-9 + a.val) (-3 + b.val)).length ≤ 12 := by decide +kernel
theorem sum_ok {i j : Int} (hi : -9 ≤ i ∧ i ≤ 9) (hj : -3 ≤ j ∧ j ≤ 3) : sumP i j = sumS i j ∧ (sumS i j).length ≤ 12 :=
  fin_of (lo := -9) (hi := 9) (n := 19) (fun i => sumP i j = sumS i j ∧ (sumS i j).length ≤ 12) (by decide)
    (fun a => fin_of (lo := -3) (hi := 3) (n := 7) (fun j => sumP (-9 + a.val) j = sumS (-9 + a.val) j ∧ (sumS (-9 + a.val) j).length ≤ 12) (by decide) (fun b => sum_all a b) j hj.1 hj.2) i hi.1 hi.2
theorem tS_all : ∀ a : Fin 1003, (tS a.val).length ≤ 4 ∧ 0 < (tS a.val).length ∧ tS (-(a.val : Int)) = (if a.val = 0 then ("" : Str) else "-") ++ tS a.val := by decide +kernel
theorem tS_ok {i : Int} (h : -1002 ≤ i ∧ i ≤ 1002) : (tS (aI i)).length ≤ 4 ∧ 0 < (tS (aI i)).length ∧ tS i = (if i < 0 then ("-" : Str) else "") ++ tS (aI i) := by
  by_cases hn : i < 0
  · have := tS_all ⟨(-i).toNat, by omega⟩
    simp only [] at this
    rw [show ((-i).toNat : Int) = -i by omega, if_neg (by omega : ¬ (-i).toNat = 0), Int.neg_neg] at this
    rw [aI, if_pos hn, if_pos hn]
    exact this
  · have := tS_all ⟨i.toNat, by omega⟩
    simp only [] at this
    rw [show (i.toNat : Int) = i by omega] at this
    rw [aI, if_neg hn, if_neg hn]
    refine ⟨this.1, this.2.1, ?_⟩
    rw [emp_eq, e_app]
theorem tS_len {i : Int} (h : -1002 ≤ i ∧ i ≤ 1002) : (tS i).length ≤ 5 := by
  have := tS_ok h
  rw [this.2.2, len_app]
  have e : (if i < 0 then ("-" : Str) else "").length ≤ 1 := by split <;> decide +kernel
  omega
theorem stp_len {i j k : Int} (h : SlB i j k) : (stp i j k).length ≤ 30 := by
  have h1 := (sum_ok h.1 h.2.1).2
  have h2 := tS_len (i := k) (by have := h.2.2; omega)
  unfold stp
  split
  · omega
  · split
    · rw [len_app, len_app, len_app]
      have : (("(" : Str)).length = 1 := by decide +kernel
      have : ((")/" : Str)).length = 2 := by decide +kernel
      omega
    · rw [len_app, len_app]
      have : (("/" : Str)).length = 1 := by decide +kernel
      omega
/-! ### terms, as they are drawn -/
def nms : List Str := ["x", "abc", "b", "y", "zz", "u", "v", "w"]
def NmS (x : Str) : Prop := x ∈ nms
theorem NmS.ok {x : Str} (h : NmS x) : 0 < x.length ∧ x.length ≤ 3 ∧ PyData.strOk x = true :=
  (by decide +kernel : ∀ x ∈ nms, 0 < x.length ∧ x.length ≤ 3 ∧ PyData.strOk x = true) x h
def GTh (f : D → Prop) (t : D) : Prop := (∃ x, t = .str x ∧ NmS x) ∨ ∃ i j k u, t = .tup [.str "floor", .tup [.int i, .int j, .int k], u] ∧ SlB i j k ∧ f u
def GIt (f : D → Prop) (it : D) : Prop := ∃ fa t, it = .tup [.int fa, t] ∧ (-9 ≤ fa ∧ fa ≤ 9) ∧ GTh f t
def GTm (f : D → Prop) (d : D) : Prop := ∃ its c, d = .tup [.tup its, .int c] ∧ its.length ≤ 4 ∧ (-1001 ≤ c ∧ c ≤ 1001) ∧ ∀ it ∈ its, GIt f it
def gP : Nat → D → Prop
  | 0 => fun _ => False
  | n + 1 => GTm (gP n)
/-- a term with floors at most n deep -/
abbrev Gt (n : Nat) : D → Prop := GTm (gP n)
theorem GTm.mono {f g : D → Prop} (h : ∀ d, f d → g d) {d : D} (x : GTm f d) : GTm g d := by
  obtain ⟨its, c, e, l, b, y⟩ := x
  refine ⟨its, c, e, l, b, fun it m => ?_⟩
  obtain ⟨fa, t, e1, b1, z⟩ := y it m
  refine ⟨fa, t, e1, b1, ?_⟩
  rcases z with z | ⟨i, j, k, u, e2, b2, z⟩
  · exact .inl z
  · exact .inr ⟨i, j, k, u, e2, b2, h u z⟩
theorem gP_succ : ∀ n d, gP n d → gP (n + 1) d
  | 0, _, h => h.elim
  | n + 1, _, h => GTm.mono (gP_succ n) h
theorem gP_le {n m : Nat} (h : n ≤ m) {d : D} (x : gP n d) : gP m d := by
  induction h with
  | refl => exact x
  | step _ ih => exact gP_succ _ _ ih
def thW (tm : D → Str) : D → Str
  | .str x => x
  | .tup [_, .tup [.int i, .int j, .int k], u] => "floor(" ++ stp i j k ++ ", " ++ tm u ++ ")"
  | _ => ""
def itW (tm : D → Str) (fa : Int) (t : D) : Str := if aI fa = 1 then thW tm t else tS (aI fa) ++ "*" ++ thW tm t
def stepT (acc : Str) (p : Int × Str) : Str := if acc = "" then (if p.1 < 0 then "-" ++ p.2 else p.2) else acc ++ (if p.1 < 0 then (" - " : Str) else " + ") ++ p.2
def prW (tm : D → Str) : D → Int × Str
  | .tup [.int fa, t] => (fa, itW tm fa t)
  | _ => (0, "")
def pcs (tm : D → Str) (its : List D) (c : Int) : List (Int × Str) := its.map (prW tm) ++ (if c ≠ 0 ∨ its.length = 0 then [(c, tS (aI c))] else [])
def tmW (tm : D → Str) : D → Str
  | .tup [.tup its, .int c] => (pcs tm its c).foldl stepT ""
  | _ => ""
def tP : Nat → D → Str
  | 0 => fun _ => ""
  | n + 1 => tmW (tP n)
abbrev tmT (n : Nat) : D → Str := tmW (tP n)
def lP : Nat → Nat
  | 0 => 20
  | n + 1 => 4 * (lP n + 60) + 20
theorem thW_len {f : D → Prop} {tm : D → Str} {n : Nat} (h : ∀ d, f d → (tm d).length ≤ n) {t : D} (g : GTh f t) : (thW tm t).length ≤ n + 45 ∧ 0 < (thW tm t).length := by
  rcases g with ⟨x, rfl, h1⟩ | ⟨i, j, k, u, rfl, b, y⟩
  · show x.length ≤ _ ∧ 0 < x.length
    have := h1.ok
    omega
  · show ("floor(" ++ stp i j k ++ ", " ++ tm u ++ ")" : Str).length ≤ _ ∧ 0 < ("floor(" ++ stp i j k ++ ", " ++ tm u ++ ")" : Str).length
    rw [len_app, len_app, len_app, len_app]
    have e1 : (("floor(" : Str)).length = 6 := by decide +kernel
    have e2 : ((", " : Str)).length = 2 := by decide +kernel
    have e3 : ((")" : Str)).length = 1 := by decide +kernel
    have := stp_len b
    have := h u y
    omega
theorem itW_len {f : D → Prop} {tm : D → Str} {n : Nat} (h : ∀ d, f d → (tm d).length ≤ n) {t : D} {fa : Int} (g : GTh f t) (b : -9 ≤ fa ∧ fa ≤ 9) : (itW tm fa t).length ≤ n + 50 ∧ 0 < (itW tm fa t).length := by
  have h1 := thW_len h g
  have h2 := (tS_ok (i := fa) (by omega)).1
  unfold itW
  split
  · omega
  · rw [len_app, len_app]
    have e1 : (("*" : Str)).length = 1 := by decide +kernel
    omega
theorem stepT_len (acc : Str) (p : Int × Str) : (stepT acc p).length ≤ acc.length + 3 + p.2.length ∧ (0 < p.2.length → 0 < (stepT acc p).length) := by
  have e1 : (("-" : Str)).length = 1 := by decide +kernel
  have e2 : ((" - " : Str)).length = 3 := by decide +kernel
  have e3 : ((" + " : Str)).length = 3 := by decide +kernel
  unfold stepT
  split
  · split
    · rw [len_app]; omega
    · omega
  · rw [len_app, len_app]
    split <;> omega
theorem fold_len {n : Nat} : ∀ (l : List (Int × Str)) (a : Str), (∀ p ∈ l, p.2.length ≤ n) → (l.foldl stepT a).length ≤ a.length + l.length * (n + 3)
  | [], a, _ => by simp
  | p :: l, a, h => by
    have h1 := fold_len l (stepT a p) fun q m => h q (List.mem_cons_of_mem _ m)
    have h2 := (stepT_len a p).1
    have h3 := h p List.mem_cons_self
    rw [List.foldl_cons, List.length_cons, Nat.add_mul]
    omega
theorem fold_pos (l : List (Int × Str)) (h : ∀ p ∈ l, 0 < p.2.length) (hl : l ≠ []) : 0 < (l.foldl stepT "").length := by
  obtain ⟨l', p, rfl⟩ : ∃ l' p, l = l' ++ [p] := ⟨_, _, (List.dropLast_concat_getLast hl).symm⟩
  rw [List.foldl_append]
  exact (stepT_len _ _).2 (h p (List.mem_append_right _ List.mem_cons_self))
theorem ne_emp {a : Str} (h : 0 < a.length) : a ≠ "" := fun z => by
  subst z
  exact absurd h (by decide +kernel)
theorem pcs_ok {f : D → Prop} {tm : D → Str} {n : Nat} (h : ∀ d, f d → (tm d).length ≤ n) {its : List D} {c : Int} (hc : -1001 ≤ c ∧ c ≤ 1001) (g : ∀ it ∈ its, GIt f it) :
    ∀ p ∈ pcs tm its c, p.2.length ≤ n + 50 ∧ 0 < p.2.length ∧ (-1001 ≤ p.1 ∧ p.1 ≤ 1001) := by
  intro p hp
  rcases List.mem_append.mp hp with m | m
  · obtain ⟨it, hi, rfl⟩ := List.mem_map.mp m
    obtain ⟨fa, t, rfl, b, gt⟩ := g it hi
    have := itW_len h gt b
    show (itW tm fa t).length ≤ _ ∧ 0 < (itW tm fa t).length ∧ (-1001 ≤ fa ∧ fa ≤ 1001)
    omega
  · split at m
    · rw [List.mem_singleton.mp m]
      have := tS_ok (i := c) (by omega)
      show (tS (aI c)).length ≤ _ ∧ 0 < (tS (aI c)).length ∧ (-1001 ≤ c ∧ c ≤ 1001)
      omega
    · cases m
theorem pcs_len {tm : D → Str} {its : List D} {c : Int} (h : its.length ≤ 4) : (pcs tm its c).length ≤ 5 := by
  unfold pcs
  rw [List.length_append, List.length_map]
  split <;> simp <;> omega
theorem tP_len : ∀ (n : Nat) (d : D), gP n d → (tP n d).length ≤ lP n
  | 0, _, h => h.elim
  | n + 1, d, h => by
    obtain ⟨its, c, rfl, l, b, y⟩ := h
    have p := pcs_ok (tP_len n) b y
    have q := pcs_len (tm := tP n) (c := c) l
    show ((pcs (tP n) its c).foldl stepT "").length ≤ 4 * (lP n + 60) + 20
    -- at most four things and a constant
    have r : ((its.map (prW (tP n))).foldl stepT "").length ≤ 4 * (lP n + 53) := by
      have := fold_len (n := lP n + 50) (its.map (prW (tP n))) "" fun q m => (p q (List.mem_append_left _ m)).1
      rw [List.length_map] at this
      have e : (("" : Str)).length = 0 := by decide +kernel
      have m := Nat.mul_le_mul_right (lP n + 50 + 3) l
      omega
    unfold pcs
    rw [List.foldl_append]
    split
    · show (stepT _ (c, tS (aI c))).length ≤ _
      have := (stepT_len ((its.map (prW (tP n))).foldl stepT "") (c, tS (aI c))).1
      have t := (tS_ok (i := c) (by omega)).1
      have t' : (tS (aI c)).length = ((c, tS (aI c)) : Int × Str).2.length := rfl
      omega
    · show (((its.map (prW (tP n))).foldl stepT "")).length ≤ _
      omega
theorem tm_len {n : Nat} {d : D} (h : Gt n d) : (tmT n d).length ≤ lP (n + 1) := tP_len (n + 1) d h
end RF

set_option autoImplicit false
set_option linter.all false
/-! Un: reading what is told -/
namespace Q
open PySem L2
theorem un65 {k : Nat} {A : Around} (r : Room k A) : A.units + 65 < cLine := by have := r.un; omega
/-- what the built-in names are: none of the module's -/
structure TN (mg : Str → Option Value) : Prop where
  abs : mg "abs" = none
  divmod : mg "divmod" = none
  str : mg "str" = none
  int : mg "int" = none
  len : mg "len" = none
  list : mg "list" = none
  tuple : mg "tuple" = none
  bool : mg "bool" = none
  isinstance : mg "isinstance" = none
  range : mg "range" = none
  enumerate : mg "enumerate" = none
  zip : mg "zip" = none
  reversed : mg "reversed" = none
  sorted : mg "sorted" = none
  sum : mg "sum" = none
  all : mg "all" = none
  any : mg "any" = none
  max : mg "max" = none
  min : mg "min" = none
theorem eqD_int (a b : Int) : eqD (.int a) (.int b) = decide (a = b) := by
  show (a == b) = _
  exact Bool.beq_eq_decide_eq _ _
theorem eqD_str (a b : Str) : eqD (.str a) (.str b) = decide (a = b) := by
  show (a == b) = _
  exact Bool.beq_eq_decide_eq _ _
theorem scal_ii (a b : Int) : scalD (.int a) (.int b) = true := rfl
theorem scal_ss (a b : Str) : scalD (.str a) (.str b) = true := rfl
theorem get_s {α : Type} (a : α) (l : List α) (n : Nat) : (a :: l)[n + 1]? = l[n]? := List.getElem?_cons_succ
theorem get_z {α : Type} (a : α) (l : List α) : (a :: l)[0]? = some a := List.getElem?_cons_zero
theorem iteBT {A B : Prop} : (if true = true then A else B) = A := if_pos rfl
theorem iteBF {A B : Prop} : (if false = true then A else B) = B := if_neg (by decide)
theorem iteD {p : Prop} [Decidable p] {A B : Prop} : (if decide p = true then A else B) = if p then A else B := by
  by_cases h : p
  · rw [if_pos (decide_eq_true h), if_pos h]
  · rw [if_neg (by rw [decide_eq_false h]; decide), if_neg h]
theorem iteN' {b : Bool} {A B : Prop} : (if (!b) = true then A else B) = if b = true then B else A := by cases b <;> rfl
end Q

set_option autoImplicit false
set_option linter.all false
/-! Tx: texts: plain facts; texts of numbers, slopes -/
namespace Q
open PySem L2
open RF (sx cps_app s_assoc e_app app_e len_app emp_eq join_nil join_one join_snoc join_len)
theorem tS_neg {i : Int} (h : i < 0) : tS i = "-" ++ tS (-i) := by
  obtain ⟨n, rfl⟩ : ∃ n : Nat, i = Int.negSucc n := ⟨(-i - 1).toNat, by omega⟩
  show Str.ofString (toString (Int.negSucc n)) = Str.ofString "-" ++ Str.ofString (toString (-(Int.negSucc n)))
  rw [Int.neg_negSucc]
  have e : toString (Int.negSucc n) = "-" ++ toString ((n + 1 : Nat) : Int) := rfl
  rw [e]
  refine TL.ext_tl ?_
  rw [TL.tl_append, TL.tl_ofString, TL.tl_ofString, TL.tl_ofString]
  simp
theorem tS_nat (n : Nat) : (tS n).length = (TL.numL n).length := by rw [TL.len_tl, show tS (n : Int) = Str.ofString (toString ((n : Nat) : Int)) from rfl, TL.tl_num]
theorem tS_len0 {i : Int} {k : Nat} (h0 : 0 ≤ i) (hk : 0 < k) (h : i < 10 ^ k) : (tS i).length ≤ k := by
  obtain ⟨n, rfl⟩ : ∃ n : Nat, i = n := ⟨i.toNat, by omega⟩
  rw [tS_nat]
  exact TL.numL_len hk (by exact_mod_cast h)
theorem tS_len {i : Int} {k : Nat} (hk : 0 < k) (h : i.natAbs < 10 ^ k) : (tS i).length ≤ k + 1 := by
  have h' : ((i.natAbs : Nat) : Int) < 10 ^ k := by exact_mod_cast h
  by_cases hi : i < 0
  · rw [tS_neg hi, len_app]
    have := tS_len0 (i := -i) (k := k) (by omega) hk (by omega)
    have : (Str.ofString "-").length = 1 := by decide +kernel
    omega
  · have := tS_len0 (i := i) (k := k) (by omega) hk (by omega)
    omega
theorem tS_pos (i : Int) : 0 < (tS i).length := by
  have h : ∀ n : Nat, 0 < (tS (n : Int)).length := fun n => by
    rw [tS_nat]
    exact List.length_pos_iff.2 (TL.numL_ne n)
  by_cases hi : i < 0
  · rw [tS_neg hi, len_app]
    have : (Str.ofString "-").length = 1 := by decide +kernel
    omega
  · have := h i.toNat
    rw [Int.toNat_of_nonneg (by omega)] at this
    exact this
theorem log_lt {n k : Nat} (h : n < 2 ^ k) (hk : 0 < k) : n.log2 < k := PySem.Flt.log2_lt_of hk h
/-- a number of at most so many figures -/
abbrev Fig (k : Nat) (i : Int) : Prop := i.natAbs < 10 ^ k
theorem fig_log {i : Int} (h : Fig 60 i) : i.natAbs.log2 < 1920 := Nat.lt_of_lt_of_le (log_lt (k := 200) (Nat.lt_of_lt_of_le h (by decide +kernel)) (by decide)) (by decide)
theorem fig_le {k m : Nat} {i : Int} (h : Fig k i) (hk : k ≤ m) : Fig m i := Nat.lt_of_lt_of_le h (Nat.pow_le_pow_right (by decide) hk)
def aI (i : Int) : Int := if i < 0 then -i else i
theorem aI_fold (i : Int) : (if i < 0 then -i else i) = aI i := rfl
theorem aI_nat (i : Int) : aI i = (i.natAbs : Nat) := by unfold aI; split <;> omega
theorem aI_fig {k : Nat} {i : Int} (h : Fig k i) : Fig k (aI i) := by rw [aI_nat]; exact h
theorem tS_sgn (i : Int) : tS i = (if i < 0 then Str.ofString "-" else Str.empty) ++ tS (aI i) := by
  unfold aI
  split
  · rename_i h; exact tS_neg h
  · rw [e_app]
/-! ### the texts of slopes -/
def szS (j : Int) : Str := if aI j = 1 then Str.empty else tS (aI j)
/-- j r, j not 0 -/
def mulS (j : Int) : Str := (if j < 0 then Str.ofString "-" else Str.empty) ++ szS j ++ Str.ofString "r"
def sumS (i j : Int) : Str := if j = 0 then tS i else if i = 0 then mulS j else tS i ++ (if 0 < j then Str.ofString "+" else Str.empty) ++ mulS j
def stS (i j k : Int) : Str := if k = 1 then sumS i j else if i ≠ 0 ∧ j ≠ 0 then Str.ofString "(" ++ sumS i j ++ Str.ofString ")/" ++ tS k else sumS i j ++ Str.ofString "/" ++ tS k
theorem l_dash : (Str.ofString "-").length = 1 := by decide +kernel
theorem l_plus : (Str.ofString "+").length = 1 := by decide +kernel
theorem l_r : (Str.ofString "r").length = 1 := by decide +kernel
theorem l_emp : Str.empty.length = 0 := rfl
theorem l_lp : (Str.ofString "(").length = 1 := by decide +kernel
theorem l_rpd : (Str.ofString ")/").length = 2 := by decide +kernel
theorem l_slash : (Str.ofString "/").length = 1 := by decide +kernel
theorem mulS_len {k : Nat} (hk : 0 < k) {j : Int} (h : Fig k j) : (mulS j).length ≤ k + 3 := by
  have := tS_len hk (aI_fig h)
  unfold mulS szS
  rw [len_app, len_app, l_r]
  split <;> split <;> simp only [l_dash, l_emp] <;> omega
theorem sumS_len {k : Nat} (hk : 0 < k) {i j : Int} (hi : Fig k i) (hj : Fig k j) : (sumS i j).length ≤ 2 * k + 6 := by
  have := tS_len hk hi
  have := mulS_len hk hj
  unfold sumS
  split
  · omega
  · split
    · omega
    · rw [len_app, len_app]
      split <;> simp only [l_plus, l_emp] <;> omega
theorem stS_len {k : Nat} (hk : 0 < k) {i j m : Int} (hi : Fig k i) (hj : Fig k j) (hm : Fig k m) : (stS i j m).length ≤ 3 * k + 13 := by
  have := sumS_len hk hi hj
  have := tS_len hk hm
  unfold stS
  split
  · omega
  · split <;> simp only [len_app, l_lp, l_rpd, l_slash] <;> omega
theorem mulS_one : mulS 1 = Str.ofString "r" := by decide +kernel
theorem mulS_m1 : mulS (-1) = Str.ofString "-r" := by decide +kernel
theorem aI_one {j : Int} (h1 : j ≠ 1) (h2 : j ≠ -1) : ¬ aI j = 1 := by
  unfold aI
  split <;> omega
theorem mulS_else {j : Int} (h1 : j ≠ 1) (h2 : j ≠ -1) : mulS j = tS j ++ Str.ofString "r" := by
  unfold mulS szS
  rw [if_neg (aI_one h1 h2), tS_sgn j]
theorem tx_app2 (a b : Str) : Str.empty ++ a ++ b = a ++ b := by rw [e_app]
theorem line_of {n : Nat} (h : n ≤ 16000000) : n ≤ sizeLine := by rw [sizeLine_eq]; omega
theorem sumS_neg {i j : Int} (hi : i ≠ 0) (hj : j < 0) : sumS i j = tS i ++ Str.ofString "-" ++ szS j ++ Str.ofString "r" := by
  unfold sumS mulS
  rw [if_neg (by omega), if_neg hi, if_neg (by omega), if_pos hj, app_e]
  simp only [s_assoc]
theorem sumS_pos {i j : Int} (hi : i ≠ 0) (h0 : j ≠ 0) (hj : ¬ j < 0) : sumS i j = tS i ++ Str.ofString "+" ++ szS j ++ Str.ofString "r" := by
  unfold sumS mulS
  rw [if_neg h0, if_neg hi, if_pos (by omega), if_neg hj, e_app]
  simp only [s_assoc]
theorem sumS_else {i j : Int} (h : ¬ (i ≠ 0 ∧ j ≠ 0)) : sumS i j = if j = 0 then tS i else mulS j := by
  unfold sumS
  by_cases hj : j = 0
  · rw [if_pos hj, if_pos hj]
  · rw [if_neg hj, if_neg hj, if_pos (by omega)]
end Q

set_option autoImplicit false
set_option linter.all false
/-! Q9: turns by what holds before each -/
namespace Q
open PySem L2
theorem loop_ind {g : WG} {body : WS} {E : En} (I : List D → Ev → Prop) (h0 : ∀ ρ, I [] ρ → E.nx ρ)
    (hs : ∀ (d : D) (ds : List D) (ρ : Ev) (N : Ev → Prop), I (d :: ds) ρ → (∀ ρ', I ds ρ' → N ρ') → g (.fz d) ρ fun ρ1 => body { nx := N, rt := E.rt, bk := E.nx, ct := N } ρ1) :
    ∀ (ds : List D) (ρ : Ev), I ds ρ → loopW g body ds E ρ
  | [], ρ, h => h0 ρ h
  | d :: ds, ρ, h => hs d ds ρ (loopW g body ds E) h fun ρ' h' => loop_ind I h0 hs ds ρ' h'
theorem lc_ind {vs : List Nat} {g : WG} {c : WT} {we : WE} {k : List D → Ev → Prop} (I : List D → List D → Ev → Prop) (h0 : ∀ acc ρ, I [] acc ρ → k acc ρ)
    (hs : ∀ (d : D) (ds acc : List D) (ρ : Ev) (N : List D → Ev → Prop), I (d :: ds) acc ρ → (∀ acc' ρ', I ds acc' ρ' → N acc' ρ') →
      g (.fz d) ρ fun ρ1 => c ρ1 fun b ρ2 => if b = true then we ρ2 fun s ρ3 => acc.length < 1000000 ∧ N (acc ++ [s.toD]) (wipeE ρ3 vs) else N acc (wipeE ρ2 vs)) :
    ∀ (ds acc : List D) (ρ : Ev), I ds acc ρ → lcW vs g c we ds acc ρ k
  | [], acc, ρ, h => h0 acc ρ h
  | d :: ds, acc, ρ, h => hs d ds acc ρ (fun acc ρ => lcW vs g c we ds acc ρ k) h fun acc' ρ' h' => lc_ind I h0 hs ds acc' ρ' h'
theorem loop_at {g : WG} {body : WS} {E : En} {ds0 : List D} {ρ0 : Ev} (I : Ev → List D → Ev → Prop) (h : I ρ0 ds0 ρ0) (h0 : ∀ ρ, I ρ0 [] ρ → E.nx ρ)
    (hs : ∀ (d : D) (ds : List D) (ρ : Ev) (N : Ev → Prop), I ρ0 (d :: ds) ρ → (∀ ρ', I ρ0 ds ρ' → N ρ') → g (.fz d) ρ fun ρ1 => body { nx := N, rt := E.rt, bk := E.nx, ct := N } ρ1) : loopW g body ds0 E ρ0 :=
  loop_ind (I ρ0) h0 hs ds0 ρ0 h
/-- what enumerate tells, from a number on -/
def enF : Nat → List D → List D
  | _, [] => []
  | n, d :: ds => .tup [.int n, d] :: enF (n + 1) ds
theorem enF_eq : ∀ (n : Nat) (ds : List D), enF n ds = (List.range' n ds.length).zipWith (fun i d => D.tup [.int (i : Nat), d]) ds
  | _, [] => rfl
  | n, d :: ds => by
    rw [enF, enF_eq (n + 1) ds, List.length_cons, List.range'_succ]
    rfl
theorem enumD_eq (ds : List D) : enumD ds = enF 0 ds := by
  rw [enF_eq]
  unfold enumD
  rw [List.range_eq_range']
theorem wh_ind {c : WT} {body : WS} {E : En} (I : Nat → Ev → Prop)
    (hs : ∀ (n : Nat) (ρ : Ev) (N : Ev → Prop), I n ρ → (∀ m, m < n → ∀ ρ', I m ρ' → N ρ') → c ρ fun b ρ1 => if b = true then body { nx := N, rt := E.rt, bk := E.nx, ct := N } ρ1 else E.nx ρ1) (n : Nat) (ρ : Ev) (h : I n ρ) :
    ∃ m, whW c body m E ρ := by
  have key : ∀ (F n : Nat) (ρ : Ev), n < F → I n ρ → whW c body F E ρ := by
    intro F
    induction F with
    | zero => intro n ρ hn; omega
    | succ F ih =>
      intro n ρ hn h
      exact hs n ρ (whW c body F E) h fun m hm ρ' h' => ih m ρ' (by omega) h'
  exact ⟨n + 1, key (n + 1) n ρ (Nat.lt_succ_self _) h⟩
theorem lc_fix {vs : List Nat} {g : WG} {c : WT} {we : WE} {k : List D → Ev → Prop} {ρ0 : Ev} {ds0 acc0 : List D} (I : List D → List D → Prop) (h : I ds0 acc0) (h0 : ∀ acc, I [] acc → k acc ρ0)
    (hs : ∀ (d : D) (ds acc : List D) (N : List D → Ev → Prop), I (d :: ds) acc → (∀ acc', I ds acc' → N acc' ρ0) →
      g (.fz d) ρ0 fun ρ1 => c ρ1 fun b ρ2 => if b = true then we ρ2 fun s ρ3 => acc.length < 1000000 ∧ N (acc ++ [s.toD]) (wipeE ρ3 vs) else N acc (wipeE ρ2 vs)) : lcW vs g c we ds0 acc0 ρ0 k :=
  lc_ind (fun ds acc ρ => ρ = ρ0 ∧ I ds acc) (fun acc ρ h => h.1 ▸ h0 acc h.2) (fun d ds acc ρ N h hN => by obtain ⟨rfl, h⟩ := h; exact hs d ds acc N h fun acc' h' => hN acc' _ ⟨rfl, h'⟩) ds0 acc0 ρ0 ⟨rfl, h⟩
/-- a list made item by item, each by a rule -/
theorem lc_map {vs : List Nat} {g : WG} {c : WT} {we : WE} {k : List D → Ev → Prop} (f : D → D) (ρ0 : Ev) (total : List D) (hl : total.length ≤ 1000000) (hk : k (total.map f) ρ0)
    (hs : ∀ (d : D) (N : List D → Ev → Prop) (acc : List D), d ∈ total → N (acc ++ [f d]) ρ0 → acc.length < 1000000 →
      g (.fz d) ρ0 fun ρ1 => c ρ1 fun b ρ2 => if b = true then we ρ2 fun s ρ3 => acc.length < 1000000 ∧ N (acc ++ [s.toD]) (wipeE ρ3 vs) else N acc (wipeE ρ2 vs)) : lcW vs g c we total [] ρ0 k := by
  refine lc_ind (fun ds acc ρ => ρ = ρ0 ∧ ∃ pre, total = pre ++ ds ∧ acc = pre.map f) (fun acc ρ h => ?_) (fun d ds acc ρ N h hN => ?_) total [] ρ0 ⟨rfl, [], rfl, rfl⟩
  · obtain ⟨rfl, pre, e, rfl⟩ := h
    rw [List.append_nil] at e
    rw [← e]
    exact hk
  · obtain ⟨rfl, pre, e, rfl⟩ := h
    refine hs d N _ (by rw [e]; simp) (hN _ _ ⟨rfl, pre ++ [d], by rw [e]; simp, by simp⟩) ?_
    rw [List.length_map]
    have : total.length = pre.length + (ds.length + 1) := by rw [e]; simp
    omega
/-! ### seals: what stands behind a call or a test is not read yet -/
structure Tag {α : Sort _} (k : α) : Type where
def CL (Φ : Ph) (ds : List D) (k : Sl → Prop) (_ : Tag k) : Prop := Φ ds k fun _ => False
theorem CL_of (Φ : Ph) (ds : List D) (k : Sl → Prop) : pCall Φ ds k = CL Φ ds k ⟨⟩ := rfl
def IT (p A B : Prop) (_ : Tag A) (_ : Tag B) : Prop := (p → A) ∧ (¬ p → B)
theorem IT_of (p : Prop) [Decidable p] (A B : Prop) : (if p then A else B) = IT p A B ⟨⟩ ⟨⟩ := by
  by_cases h : p
  · rw [if_pos h]; exact propext ⟨fun a => ⟨fun _ => a, fun z => absurd h z⟩, fun z => z.1 h⟩
  · rw [if_neg h]; exact propext ⟨fun a => ⟨fun z => absurd z h, fun _ => a⟩, fun z => z.2 h⟩
theorem IT_t (A B : Prop) {a : Tag A} {b : Tag B} : IT (true = true) A B a b = A := propext ⟨fun z => z.1 rfl, fun a => ⟨fun _ => a, fun z => absurd rfl z⟩⟩
theorem IT_f (A B : Prop) {a : Tag A} {b : Tag B} : IT (false = true) A B a b = B := propext ⟨fun z => z.2 (by decide), fun a => ⟨fun z => absurd z (by decide), fun _ => a⟩⟩
theorem IT_T (A B : Prop) {a : Tag A} {b : Tag B} : IT True A B a b = A := propext ⟨fun z => z.1 trivial, fun a => ⟨fun _ => a, fun z => absurd trivial z⟩⟩
theorem IT_F (A B : Prop) {a : Tag A} {b : Tag B} : IT False A B a b = B := propext ⟨fun z => z.2 id, fun a => ⟨fun z => z.elim, fun _ => a⟩⟩
theorem IT_d (p : Prop) [Decidable p] (A B : Prop) {a : Tag A} {b : Tag B} : IT (decide p = true) A B a b = IT p A B a b := by rw [decide_eq_true_eq]
theorem IT_n (c : Bool) (A B : Prop) {a : Tag A} {b : Tag B} : IT ((!c) = true) A B a b = IT (c = true) B A b a := by
  cases c
  · exact propext ⟨fun z => ⟨fun h => absurd h (by decide), fun _ => z.1 rfl⟩, fun z => ⟨fun _ => z.2 (by decide), fun h => absurd rfl h⟩⟩
  · exact propext ⟨fun z => ⟨fun _ => z.2 (by decide), fun h => absurd rfl h⟩, fun z => ⟨fun h => absurd h (by decide), fun _ => z.1 rfl⟩⟩
theorem IT_not (p A B : Prop) {a : Tag A} {b : Tag B} : IT (¬ p) A B a b = IT p B A b a := propext ⟨fun z => ⟨fun h => z.2 fun n => n h, fun h => z.1 h⟩, fun z => ⟨fun h => z.2 h, fun h => by
  by_cases q : p
  · exact z.1 q
  · exact absurd q h⟩⟩
theorem IT.pos {p A B : Prop} {a : Tag A} {b : Tag B} (h : p) (k : A) : IT p A B a b := ⟨fun _ => k, fun z => absurd h z⟩
theorem IT.neg {p A B : Prop} {a : Tag A} {b : Tag B} (h : ¬ p) (k : B) : IT p A B a b := ⟨fun z => absurd z h, fun _ => k⟩
def LC (vs : List Nat) (g : WG) (c : WT) (we : WE) (ds acc : List D) (ρ : Ev) (k : List D → Ev → Prop) (_ : Tag k) : Prop := lcW vs g c we ds acc ρ k
theorem LC_of (vs : List Nat) (g : WG) (c : WT) (we : WE) (ds acc : List D) (ρ : Ev) (k : List D → Ev → Prop) : lcW vs g c we ds acc ρ k = LC vs g c we ds acc ρ k ⟨⟩ := rfl
def LP (g : WG) (body : WS) (ds : List D) (E : En) (ρ : Ev) (_ : Tag E) : Prop := loopW g body ds E ρ
theorem LP_of (g : WG) (body : WS) (ds : List D) (E : En) (ρ : Ev) : loopW g body ds E ρ = LP g body ds E ρ ⟨⟩ := rfl
def WH (c : WT) (body : WS) (E : En) (ρ : Ev) (_ : Tag E) : Prop := ∃ n, whW c body n E ρ
theorem WH_of (c : WT) (body : WS) (E : En) (ρ : Ev) : wWhile c body E ρ = WH c body E ρ ⟨⟩ := rfl
/-! ### isinstance -/
theorem isi_NoneType_bool : isiB "NoneType" "bool" = false := by decide
theorem isi_NoneType_int : isiB "NoneType" "int" = false := by decide
theorem isi_NoneType_str : isiB "NoneType" "str" = false := by decide
theorem isi_NoneType_list : isiB "NoneType" "list" = false := by decide
theorem isi_NoneType_tuple : isiB "NoneType" "tuple" = false := by decide
theorem isi_bool_bool : isiB "bool" "bool" = true := by decide
theorem isi_bool_int : isiB "bool" "int" = true := by decide
theorem isi_bool_str : isiB "bool" "str" = false := by decide
theorem isi_bool_list : isiB "bool" "list" = false := by decide
theorem isi_bool_tuple : isiB "bool" "tuple" = false := by decide
theorem isi_int_bool : isiB "int" "bool" = false := by decide
theorem isi_int_int : isiB "int" "int" = true := by decide
theorem isi_int_str : isiB "int" "str" = false := by decide
theorem isi_int_list : isiB "int" "list" = false := by decide
theorem isi_int_tuple : isiB "int" "tuple" = false := by decide
theorem isi_str_bool : isiB "str" "bool" = false := by decide
theorem isi_str_int : isiB "str" "int" = false := by decide
theorem isi_str_str : isiB "str" "str" = true := by decide
theorem isi_str_list : isiB "str" "list" = false := by decide
theorem isi_str_tuple : isiB "str" "tuple" = false := by decide
theorem isi_list_bool : isiB "list" "bool" = false := by decide
theorem isi_list_int : isiB "list" "int" = false := by decide
theorem isi_list_str : isiB "list" "str" = false := by decide
theorem isi_list_list : isiB "list" "list" = true := by decide
theorem isi_list_tuple : isiB "list" "tuple" = false := by decide
theorem isi_tuple_bool : isiB "tuple" "bool" = false := by decide
theorem isi_tuple_int : isiB "tuple" "int" = false := by decide
theorem isi_tuple_str : isiB "tuple" "str" = false := by decide
theorem isi_tuple_list : isiB "tuple" "list" = false := by decide
theorem isi_tuple_tuple : isiB "tuple" "tuple" = true := by decide
theorem isi_dict_bool : isiB "dict" "bool" = false := by decide
theorem isi_dict_int : isiB "dict" "int" = false := by decide
theorem isi_dict_str : isiB "dict" "str" = false := by decide
theorem isi_dict_list : isiB "dict" "list" = false := by decide
theorem isi_dict_tuple : isiB "dict" "tuple" = false := by decide
theorem mi_bool : ("bool" ∈ ["bool", "int", "str", "list", "tuple"]) = True := eq_true (by decide)
theorem mi_int : ("int" ∈ ["bool", "int", "str", "list", "tuple"]) = True := eq_true (by decide)
theorem mi_str : ("str" ∈ ["bool", "int", "str", "list", "tuple"]) = True := eq_true (by decide)
theorem mi_list : ("list" ∈ ["bool", "int", "str", "list", "tuple"]) = True := eq_true (by decide)
theorem mi_tuple : ("tuple" ∈ ["bool", "int", "str", "list", "tuple"]) = True := eq_true (by decide)
/-! ### subscripts of displays -/
theorem ati0 {α : Type} (a : α) (l : List α) : atI (a :: l) 0 = some a := atI_nat (j := 0) rfl
theorem ati1 {α : Type} (a b : α) (l : List α) : atI (a :: b :: l) 1 = some b := atI_nat (j := 1) rfl
theorem ati2 {α : Type} (a b c : α) (l : List α) : atI (a :: b :: c :: l) 2 = some c := atI_nat (j := 2) rfl
theorem ati3 {α : Type} (a b c d : α) (l : List α) : atI (a :: b :: c :: d :: l) 3 = some d := atI_nat (j := 3) rfl
theorem ati4 {α : Type} (a b c d e : α) (l : List α) : atI (a :: b :: c :: d :: e :: l) 4 = some e := atI_nat (j := 4) rfl
/-! ### cuts: what holds behind a piece is told by hand -/
section
variable {X : Cx} {C : Cxt} {e a bx : Expr} {t ta tb : TE} {w wa wb : WE} {pos : Pos} {st : Stmt} {sts : List Stmt} {t1 t2 : TS} {w1 w2 : WS} {i : Nat}
def wCut (w1 w2 : WS) : WS := fun E ρ => ∃ R : Ev → Prop, w1 { E with nx := R } ρ ∧ ∀ ρ', R ρ' → w2 E ρ'
theorem ok_cut (h1 : OkS C t1 w1) (h2 : OkS C t2 w2) : OkS C (tSeq t1 t2) (wCut w1 w2) := fun ρ ρx σ σx H S E D hl st h f => by
  obtain ⟨R, g1, g2⟩ := h
  exact h1 ρ ρx σ σx H S _ _ hl st g1 ⟨fun ρ' σ' H' S' hl' st' h' => h2 ρ' ρx σ' σx H' S' E D hl' st' (g2 ρ' h') f, f.rt, f.bk, f.ct⟩
theorem qss_cut (h1 : QS X C st t1 w1) (h2 : QSs X C sts t2 w2) : QSs X C (st :: sts) (tSeq t1 t2) (wCut w1 w2) := ⟨pss_cons h1.ps h2.ps, ok_cut h1.ok h2.ok⟩
/-- a test that can be told without its steps -/
def wIfC (c : WT) (w1 w2 : WS) : WS := fun E ρ => ∃ (p : Prop) (ρ' : Ev), (c ρ fun b ρ1 => ρ1 = ρ' ∧ (b = true ↔ p)) ∧ IT p (w1 E ρ') (w2 E ρ') ⟨⟩ ⟨⟩
theorem qs_ifC {c : Expr} {tc : TT} {wc : WT} {p q : List Stmt} (hc : QT X C c tc wc) (h1 : QSs X C p t1 w1) (h2 : QSs X C q t2 w2) : QS X C (.If c p q pos) (tIfS tc t1 t2) (wIfC wc w1 w2) := ⟨ps_if hc.pt h1.ps h2.ps, by
  intro ρ ρx σ σx H S E D hl st hw f
  obtain ⟨p, ρ', g, hT, hF⟩ := hw
  refine hc.ok ρ ρx σ σx H S _ _ hl st g fun b ρ1 H1 S1 hl1 st1 hk => ?_
  obtain ⟨rfl, hk⟩ := hk
  cases b with
  | true => exact h1.ok ρ1 ρx σ σx H1 S1 E D hl1 st1 (hT (hk.mp rfl)) f
  | false => exact h2.ok ρ1 ρx σ σx H1 S1 E D hl1 st1 (hF fun z => by have := hk.mpr z; cases this) f⟩
/-- a value that can be told without its steps -/
def wSetC (i : Nat) (w : WE) : WS := fun E ρ => ∃ (v : Sl) (ρ' : Ev), (w ρ fun s ρ1 => s = v ∧ ρ1 = ρ') ∧ E.nx (ρ'.set i (some v))
theorem ok_setC (h : OkE C t w) : OkS C (tAsg t (gName i)) (wSetC i w) := fun ρ ρx σ σx H S E D hl st hw f => by
  obtain ⟨v, ρ', g, hk⟩ := hw
  refine h ρ ρx σ σx H S _ _ hl st g fun s ρ1 u H1 S1 hl1 st1 hk' => ?_
  obtain ⟨rfl, rfl⟩ := hk'
  have lx : (ρ1 ++ ρx).length = (σ ++ σx).length := by have := st.len; simp only [List.length_append] at *; omega
  exact ok_nm i ρ1 ρx σ σx H1 S1 s u E.nx _ hl1 st1.popLast (st1.last lx) st1.apt hk fun ρ2 σ2 H2 S2 hl2 _ st2 h2 => f.nx ρ2 σ2 H2 S2 hl2 st2 h2
theorem qs_setC {x : Str} {pos' : Pos} (hN : X.N.Nodup) (hi : X.N[i]? = some x) (hx : Loc X.env.scope x) (he : PD X C e t w) (hs : swapsWith e (some (.Name x pos')) pos.line X.env = pure false := by rfl) (hf : X.fn x = true ∨ X.env.scope.names.lookup x = some .local := by first | exact .inl rfl | exact .inr rfl | assumption) :
    QS X C (.Assign [.Name x pos'] e pos) (tAsg t (gName i)) (wSetC i w) := ⟨ps_set hN hi hx he.pe hs hf, ok_setC he.ok⟩
def CT (w1 w2 : WS) (E : En) (ρ : Ev) (_ : Tag E) : Prop := wCut w1 w2 E ρ
theorem CT_of (w1 w2 : WS) (E : En) (ρ : Ev) : wCut w1 w2 E ρ = CT w1 w2 E ρ ⟨⟩ := rfl
def IC (c : WT) (w1 w2 : WS) (E : En) (ρ : Ev) (_ : Tag E) : Prop := wIfC c w1 w2 E ρ
theorem IC_of (c : WT) (w1 w2 : WS) (E : En) (ρ : Ev) : wIfC c w1 w2 E ρ = IC c w1 w2 E ρ ⟨⟩ := rfl
def SC (i : Nat) (w : WE) (E : En) (ρ : Ev) (_ : Tag E) : Prop := wSetC i w E ρ
theorem SC_of (i : Nat) (w : WE) (E : En) (ρ : Ev) : wSetC i w E ρ = SC i w E ρ ⟨⟩ := rfl
theorem cut {w1 w2 : WS} {E : En} {ρ : Ev} {a : Tag E} (R : Ev → Prop) (h1 : w1 { E with nx := R } ρ) (h2 : ∀ ρ', R ρ' → w2 E ρ') : CT w1 w2 E ρ a := ⟨R, h1, h2⟩
/-- .. where one knows the slots -/
theorem cut1 {w1 w2 : WS} {E : En} {ρ : Ev} {a : Tag E} (ρ' : Ev) (h1 : w1 { E with nx := fun r => r = ρ' } ρ) (h2 : w2 E ρ') : CT w1 w2 E ρ a := ⟨_, h1, fun _ e => e ▸ h2⟩
theorem cutS {w1 w2 : WS} {E : En} {ρ : Ev} {a : Tag E} (i : Nat) (v : Sl) (h1 : w1 { E with nx := fun r => r = ρ.set i (some v) } ρ) (h2 : w2 E (ρ.set i (some v))) : CT w1 w2 E ρ a := cut1 _ h1 h2
theorem ifC {c : WT} {w1 w2 : WS} {E : En} {ρ : Ev} {a : Tag E} (p : Prop) (h : c ρ fun b ρ1 => ρ1 = ρ ∧ (b = true ↔ p)) (h1 : p → w1 E ρ) (h2 : ¬ p → w2 E ρ) : IC c w1 w2 E ρ a := ⟨p, ρ, h, h1, h2⟩
theorem setC {w : WE} {E : En} {ρ : Ev} {a : Tag E} (v : Sl) (h : w ρ fun s ρ1 => s = v ∧ ρ1 = ρ) (h2 : E.nx (ρ.set i (some v))) : SC i w E ρ a := ⟨v, ρ, h, h2⟩
end
/-! ### defs that call themselves -/
def below (Φ : Nat → Ph) (n : Nat) : Ph := fun ds k e => ∃ m, m < n ∧ Φ m ds k e
section
variable {P : Program} {wd : World} {K : PySem.W.Frag} {mg : Str → Option Value} {base : Heap} {f : Addr} {fd : FuncData} {ps : List Str} {ub : Bool}
theorem fn_no {k : Nat} {Φ : Ph} (h : ∀ ds κ e, ¬ Φ ds κ e) : FnOk P wd K mg base CX0 k f fd ps (spD K mg ub Φ) :=
  ⟨fun vs H Q E ⟨B, S, ds, κ, xk, _, _, _, _, _, φ, _⟩ => absurd φ (h _ _ _), fun A outer s H args us vs Q E hr e0 hb rv ⟨B, S, ds, κ, xk, _, _, _, _, _, φ, _⟩ => absurd φ (h _ _ _)⟩
theorem rec_fn {Φ : Nat → Ph} (k c : Nat) (mono : ∀ m n, m ≤ n → ∀ ds κ e, Φ m ds κ e → Φ n ds κ e)
    (step : ∀ n j, k ≤ j → FnOk P wd K mg base CX0 j f fd ps (spD K mg ub (below Φ n)) → FnOk P wd K mg base CX0 (j + c) f fd ps (spD K mg ub (Φ n))) :
    ∀ n : Nat, FnOk P wd K mg base CX0 (k + c * n + c) f fd ps (spD K mg ub (Φ n))
  | 0 => step 0 _ (by omega) (fn_no fun ds κ e ⟨m, hm, _⟩ => absurd hm (Nat.not_lt_zero _))
  | n + 1 => step (n + 1) _ (by omega) (spD_imp (Nat.mul_succ c n ▸ Nat.add_assoc k (c * n) c ▸ rec_fn k c mono step n) fun ds κ e ⟨m, hm, z⟩ => mono m n (by omega) ds κ e z)
end
theorem dmono {P : Program} {wd : World} {K : PySem.W.Frag} {mg : Str → Option Value} {base : Heap} {j k : Nat} {x : Str} {ps : List Str} {sp : Sp} (D : RF.Df P wd K mg base j x ps sp) (h : j ≤ k) : RF.Df P wd K mg base k x ps sp := by
  obtain ⟨f, fd, F, b, m, kp⟩ := D
  exact ⟨f, fd, F.mono h, b, m, kp⟩
/-- .. with a weaker promise -/
theorem dimp {P : Program} {wd : World} {K : PySem.W.Frag} {mg : Str → Option Value} {base : Heap} {k : Nat} {x : Str} {ps : List Str} {ub : Bool} {Φ Ψ : Ph} (D : RF.Df P wd K mg base k x ps (spD K mg ub Φ)) (h : ∀ ds κ e, Ψ ds κ e → Φ ds κ e) : RF.Df P wd K mg base k x ps (spD K mg ub Ψ) := by
  obtain ⟨f, fd, F, b, m, kp⟩ := D
  exact ⟨f, fd, spD_imp F h, b, m, kp⟩
/-! ### words -/
theorem ofS_inj (a b : String) : (Str.ofString a = Str.ofString b) = (a = b) := propext ⟨fun h => by
  have := congrArg TL.tl h
  rw [TL.tl_ofString, TL.tl_ofString] at this
  exact String.toList_inj.mp (List.map_inj_right (fun x y z => Char.toNat_inj.mp z) |>.mp this), fun h => h ▸ rfl⟩
theorem inD_nil (d : D) : inD d [] = false := rfl
theorem inD_cons (d e : D) (ds : List D) : inD d (e :: ds) = (eqD e d || inD d ds) := rfl
theorem cutD1 (d : D) (ds : List D) : cutD (d :: ds) (some 1) none = ds := by
  unfold cutD
  have e1 : HT.sIx (d :: ds).length 0 (some 1) = 1 := by
    unfold HT.sIx
    simp
  have e2 : HT.sIx (d :: ds).length (d :: ds).length none = ds.length + 1 := rfl
  rw [e1, e2, List.drop_succ_cons, List.drop_zero, Nat.add_sub_cancel, List.take_length]
theorem cutD_take (ds : List D) (n : Nat) : cutD ds none (some (n : Int)) = ds.take n := by
  unfold cutD
  rw [HT.sIx_nat, HT.sIx_none, List.drop_zero, Nat.sub_zero]
  by_cases h : n ≤ ds.length
  · rw [Nat.min_eq_left h]
  · rw [Nat.min_eq_right (by omega), List.take_length, List.take_of_length_le (by omega)]
theorem cutD_drop (ds : List D) (n : Nat) : cutD ds (some (n : Int)) none = ds.drop n := by
  unfold cutD
  rw [HT.sIx_nat, HT.sIx_none]
  by_cases h : n ≤ ds.length
  · rw [Nat.min_eq_left h, List.take_of_length_le (by rw [List.length_drop]; omega)]
  · rw [Nat.min_eq_right (by omega), List.drop_length, List.drop_eq_nil_of_le (by omega), List.take_nil]
theorem cutD_all (ds : List D) : cutD ds none none = ds := by
  unfold cutD
  rw [HT.sIx_none, HT.sIx_none, List.drop_zero, Nat.sub_zero, List.take_length]
/-- a product of numbers of the usual sizes -/
theorem mul_ok {i j : Int} (hi : i.natAbs < 2 ^ 1000) (hj : j.natAbs < 2 ^ 1000) : CMulX i j := mulx_ok hi hj (by decide)
theorem lt_2k {i : Int} (h : -1000000000 ≤ i ∧ i ≤ 1000000000) : i.natAbs < 2 ^ 1000 := Nat.lt_of_le_of_lt (m := 1000000000) (by omega) (by decide +kernel)
end Q

set_option autoImplicit false
set_option linter.all false
/-! Qi: isinstance of one of two classes -/
namespace Q
open PySem L2
def pIsi2 (n m : String) : P1 := fun x k => ∃ a, tyN x.toD = some a ∧ k (.fz (.bl (isiB a n || isiB a m)))
theorem ok_isi2 {X : Cx} {C : Cxt} (F : Fit X C) {n m : String} (hn : n ∈ ["bool", "int", "str", "list", "tuple"]) (hm : m ∈ ["bool", "int", "str", "list", "tuple"]) {ta : TE} {wa : WE} (ha : OkE C ta wa) :
    OkE C (tCB (rIsiT X.K) (tCons ta (tCons (tTup (tCons (tC (.ty n)) (tCons (tC (.ty m)) tNil))) tNil))) (wUn (pIsi2 n m) wa) := by
  intro ρ ρx σ σx H S k Q hl st hw q
  refine ha ρ ρx σ σx H S _ _ hl st hw fun x ρ1 vx H1 S1 hl1 st1 hk => ?_
  obtain ⟨a, h1, h2⟩ := hk
  refine ⟨lim_line (by show 2 ≤ 1000000; decide), fun p hp => ?_⟩
  have lx : (ρ1 ++ ρx).length = (σ ++ σx).length := by have := st1.len; simp only [List.length_append, List.length_cons, List.length_nil] at *; omega
  have st2 := st1.new (o := .tup [.ty n, .ty m]) hp
  have r := (st2.last lx).rp
  rw [← F.K]
  refine ⟨vx, p, _, .type a, [.type n, .type m], isiB a n || isiB a m, rfl, upd_same, .cons (.ty n) (.cons (.ty m) .nil), ty_of r h1, ?_, ans_bl (st2.drop lx) (fun s v H' S' st' hk' => q s ρ1 v H' S' hl1 st' hk') h2⟩
  refine kitAny_cons (kit_ty (isi_ok h1 hn)) (fun e => ?_) (fun e => by rw [e]; rfl)
  rw [e, Bool.false_or]
  exact kitAny_cons (kit_ty (isi_ok h1 hm)) (fun e => by rw [e]; rfl) (fun e => e)
theorem eqD_bl (a b : Bool) : eqD (.bl a) (.bl b) = decide (a = b) := by cases a <;> cases b <;> rfl
theorem eqD_tt : eqD (.bl true) (.bl true) = true := rfl
theorem eqD_ff : eqD (.bl false) (.bl false) = true := rfl
theorem eqD_tf : eqD (.bl true) (.bl false) = false := rfl
theorem eqD_ft : eqD (.bl false) (.bl true) = false := rfl
theorem bls_true : ∀ l : List D, blsD (l.map fun _ => D.bl true) = some (l.map fun _ => true)
  | [] => rfl
  | d :: l => by
    show (blsD (l.map fun _ => D.bl true)).map _ = _
    rw [bls_true l]
    rfl
theorem zip_self : ∀ (l : List D) (d : D), d ∈ zipD l l → ∃ x ∈ l, d = .tup [x, x]
  | x :: l, d, h => by
    rcases List.mem_cons.mp h with rfl | h
    · exact ⟨x, List.mem_cons_self, rfl⟩
    · obtain ⟨y, hy, e⟩ := zip_self l d h
      exact ⟨y, List.mem_cons_of_mem _ hy, e⟩
theorem zip_len : ∀ l : List D, (zipD l l).length = l.length
  | [] => rfl
  | x :: l => by show (zipD l l).length + 1 = _; rw [zip_len l]; rfl
theorem pd_isi2 {X : Cx} {C : Cxt} (F : Fit X C) {a : Expr} {ta : TE} {wa : WE} {y z : Str} {n m : String} {p0 p1 p2 p3 pos : Pos} {kk : Nat} (hg : Gl X "isinstance") (hm : X.mg "isinstance" = none) (ha : PD X C a ta wa)
    (gy : Gl X y) (my : X.mg y = none) (vy : bootBuiltins y = some (.type n)) (gz : Gl X z) (mz : X.mg z = none) (vz : bootBuiltins z = some (.type m))
    (hn : n ∈ ["bool", "int", "str", "list", "tuple"] := by decide) (hk : m ∈ ["bool", "int", "str", "list", "tuple"] := by decide)
    (ny : y ≠ "__name__" := by decide) (dy : (y == ("__debug__" : Str)) = false := by decide) (nz : z ≠ "__name__" := by decide) (dz : (z == ("__debug__" : Str)) = false := by decide)
    (he : starEach [a, .Tuple [.Name y p1, .Name z p2] kk p3] X.env = (false, eval a X.env) :: starEach [.Tuple [.Name y p1, .Name z p2] kk p3] X.env := by rfl) :
    PD X C (.Call (.Name "isinstance" p0) [a, .Tuple [.Name y p1, .Name z p2] kk p3] [] pos) (tCB (rIsiT X.K) (tCons ta (tCons (tTup (tCons (tC (.ty n)) (tCons (tC (.ty m)) tNil))) tNil))) (wUn (pIsi2 n m) wa) :=
  ⟨pe_callB call_isiT hg hm (by decide +kernel) (pa_cons ha.pe (pa_cons (pe_tup (pa_cons (pe_bltn gy my vy rfl ny dy) (pa_cons (pe_bltn gz mz vz rfl nz dz) pa_nil))) pa_nil) he) (by decide) (by decide) he rfl, ok_isi2 F hn hk ha.ok⟩
end Q

namespace RF
open PySem L2 PyProof.Rows
/-! ### max of a tuple of whole numbers -/
section
variable {prog : Program} {w : World} {A : Around} {E : Value → Shared → Prop} {s : Shared} {l : Addr} {xs : Array (Int × Tok)}
theorem max_tupI {Q : Value → Shared → Prop} (hh : A.handled = none) (hl : s.heap.IsTuple l (intItems xs)) (hne : 0 < xs.size)
    (h : ∀ v h' tk, (intItems xs)[argBest (fun i j => decide (numAt xs i > numAt xs j)) (xs.size - 1)]? = some v → (∀ b o, s.heap.get? b = some o → h'.get? b = some o) → Q v { s with heap := h', toks := tk }) :
    wpAny (model prog w) A (call (.builtin "max") [.ref l]) Q E s := by
  have hlt : l < s.heap.objs.size := by obtain ⟨_, e, _⟩ := hl; exact Heap.lt_size e
  have hpu : ∀ b ∈ [s.heap.objs.size, l], b < (s.heap.push { cls := .type "tuple_iterator", data := .fields #[.ref l, .int 0 0] }).objs.size := fun b hb => by
    rw [Heap.size_push]
    rcases List.mem_cons.mp hb with e | hb
    · rw [e]; exact Nat.lt_succ_self _
    · rcases List.mem_cons.mp hb with e | hb
      · rw [e]; exact Nat.lt_succ_of_lt hlt
      · cases hb
  refine call_max_walk (wpAny_pyIter_tuple hl ?_)
  refine ⟨_, _, _, _, _, _, _, rfl, Walks.tuple (A := A.in1) hh _ l (Nat.ne_of_lt hlt) (intItems xs), ⟨⟨_, Heap.get?_push_size _ rfl, rfl, rfl⟩, hl.push _⟩, hpu, by simpa [intItems] using hne, CmpOf.ints_gt (numAt xs) (fun _ _ => intItems_at), fun v h' tk hP hk => ?_⟩
  refine h v h' tk (by simpa [intItems] using hP) fun b o e => ?_
  refine hk b o (fun hm => ?_) (Heap.get?_push_of_some _ e)
  rcases List.mem_cons.mp hm with e1 | hm
  · exact absurd (e1 ▸ Heap.lt_size e) (Nat.lt_irrefl _)
  · cases hm
end
section
variable {X : Cx}
def rMaxT (K : PySem.W.Frag) : List V → Hp → VK → Prop := fun vs H Q => ∃ (a : Addr) (ns : List Int), vs = [V.ref a] ∧ SqT K H a (ns.map V.int) ∧ 0 < ns.length ∧ ∀ m, m ∈ ns → (∀ y, y ∈ ns → y ≤ m) → Q (.int m) H
theorem cr_maxT (hc : X.calm = true) : CallR X (.builtin "max") (rMaxT X.K) := by
  intro pins s σ H vs us Q I r h
  obtain ⟨a, ns, rfl, hs, hne, q⟩ := h
  obtain ⟨its, rv, hl, _⟩ := I.tuple hs
  rw [Vals.ref1 r]
  obtain ⟨xs, e⟩ := rv.ints.allInts.items
  have hn : numsOf (intItems xs).toList = ns := by rw [← e]; exact rv.ints.numsOf
  rw [nums_intItems] at hn
  subst hn
  rw [e] at hl
  have hsz : 0 < xs.size := by simpa using hne
  refine max_tupI (I.ok.hd hc) hl hsz fun v h' tk hv hk => ?_
  obtain ⟨t, rfl⟩ := intItems_at hv
  obtain ⟨h1, h2⟩ := argBest_gt (numAt xs) (xs.size - 1)
  refine ⟨.int _, H, I.kept hk, ⟨_, rfl⟩, q _ ?_ fun a ha => ?_⟩
  · rw [numAt_eq]; exact PySem.getD_mem (by rw [List.length_map, Array.length_toList]; omega)
  · obtain ⟨j, hj, rfl⟩ := PySem.mem_getD ha
    rw [List.length_map, Array.length_toList] at hj
    rw [← numAt_eq]; exact h2 j (by omega)

/-! ### a property of a class, by its promise -/
structure Pt (P : Program) (w : World) (K : PySem.W.Frag) (mg : Str → Option Value) (base : Heap) (C : Addr) (k : Nat) (m : Str) (sp : Sp) : Prop where
  ex : ∃ (p g : Addr) (fd : FuncData), PropOf K C m p g ∧ FnOk P w K mg base CX0 k g fd ["self"] sp ∧ Binds K fd ["self"] []
theorem pe_pt {j k : Nat} {C : Addr} {m : Str} {sp : Sp} {o : Expr} {pos : Pos} {ta : TE} (he : PE X o ta) (c : Cls X.K C) (M : Pt X.prog X.w X.K X.mg X.base C k m sp) (hr : Room j X.A) (hk : k + 1 ≤ j)
    (hab : attributeBase o m X.env (eval o X.env) = eval o X.env := by rfl) : PE X (.Attribute o m pos) (tProp C sp [] E0 ta) := by
  obtain ⟨p, g, fd, hp, F, b⟩ := M.ex
  exact pe_prop he c hp F (hr.mono hk) b .nil pass0 hab

/-! ### calls by keywords alone -/
/-- f(k = v, ..) -/
theorem pe_callN0 {CX : CXT} {k : Nat} {f : Addr} {fd : FuncData} {ps ks : List Str} {sp : Sp} {E : XK} {x : Str} {p pos : Pos} {kws : List Keyword} {tk : TA} {g : List Value → List Value → List Value} {gV : List V → List V → List V}
    (F : FnOk X.prog X.w X.K X.mg X.base CX k f fd ps sp) (hr : Room k X.A) (hg : Gl X x) (hm : X.mg x = some (.ref f)) (hk : PySem.W.keepIn X.K (.ref f) = true) (hb : KBn X.K fd ps 0 ks g gV) (hx : Passes CX X E) (hkw : PK X kws tk)
    (hall : (backToKw pos (keywordEach kws X.env)).all (·.1.isSome) = true := by rfl) (hks : (backToKw pos (keywordEach kws X.env)).filterMap (·.1) = ks := by rfl) (hdb : (x == ("__debug__" : Str)) = false := by decide)
    (hpl : ((backTo pos (starEach [] X.env)).any (·.1) || (backToKw pos (keywordEach kws X.env)).any (·.1.isNone)) = false := by rfl) :
    PE X (.Call (.Name x p) [] kws pos) (tCallN 0 ks.length sp gV E tNil tk) := by
  refine ⟨fun pins s σ H Q I h => ?_⟩
  refine wpAny_Call_Name_kw (ld_glob I hg hm ?_ hdb)
  refine PySem.W.callWith_KW0 (h₀ := X.base) I.ok.mod.kin hk hall ?_ hpl
  refine thn (hkw.run pos pins s σ H _ I h) fun ws s2 ⟨zs, H2, I2, rz, l1, l2, q2⟩ => ⟨I2.kIn, ?_⟩
  rw [hks]
  exact run_fnN (us := []) (vs := []) F hr hb hx I2 .nil rz l1 l2 q2
/-- a def that is called by keywords alone, by its promise -/
structure Dk (P : Program) (w : World) (K : PySem.W.Frag) (mg : Str → Option Value) (base : Heap) (k : Nat) (x : Str) (ps ks : List Str) (gV : List V → List V → List V) (sp : Sp) : Prop where
  ex : ∃ (f : Addr) (fd : FuncData) (g : List Value → List Value → List Value), FnOk P w K mg base CX0 k f fd ps sp ∧ KBn K fd ps 0 ks g gV ∧ mg x = some (.ref f) ∧ PySem.W.keepIn K (.ref f) = true
theorem pe_kD {j k : Nat} {ps ks : List Str} {sp : Sp} {x : Str} {p pos : Pos} {kws : List Keyword} {tk : TA} {gV : List V → List V → List V} (D : Dk X.prog X.w X.K X.mg X.base k x ps ks gV sp) (hr : Room j X.A) (hj : k ≤ j) (hkw : PK X kws tk) (hg : Gl X x := by rfl)
    (hall : (backToKw pos (keywordEach kws X.env)).all (·.1.isSome) = true := by rfl) (hks : (backToKw pos (keywordEach kws X.env)).filterMap (·.1) = ks := by rfl) (hdb : (x == ("__debug__" : Str)) = false := by decide)
    (hpl : ((backTo pos (starEach [] X.env)).any (·.1) || (backToKw pos (keywordEach kws X.env)).any (·.1.isNone)) = false := by rfl) :
    PE X (.Call (.Name x p) [] kws pos) (tCallN 0 ks.length sp gV E0 tNil tk) := by
  obtain ⟨f, fd, g, F, hb, hm, hk⟩ := D.ex
  exact pe_callN0 F (hr.mono hj) hg hm hk hb pass0 hkw hall hks hdb hpl
end
theorem Fun.kbn {K : PySem.W.Frag} {x qual : Str} {st : Stmt} {f : Addr} {fd : FuncData} {ps : List Str} (F : Fun K x qual st f fd) (n : Nat) (ks : List Str) (g : {α : Type} → List α → List α → List α)
    (hrel : ∀ {vs zs : List V} {us ws : List Value}, Vals vs us → Vals zs ws → Vals (g vs zs) (g us ws))
    (h : ∀ (kV doc pm : Value) (an : Option Addr) (cdv ct : Value) (us ws : List Value), us.length = n → ws.length = ks.length → bindArgs (PySem.W.fnOf x qual (defArgs st) (defBody st) (defScope st) .none kV doc pm an cdv ct) ⟨us, ks.zip ws⟩ = pure (ps.zip (g us ws))) :
    KBn K fd ps n ks (fun us ws => g us ws) (fun vs zs => g vs zs) := by
  obtain ⟨oc, od, kV, doc, pm, an, cdv, ct, osl, rfl, lk, hcd⟩ := F.ex
  exact ⟨fun s us ws _ l1 l2 => .of_eq (h kV doc pm an cdv ct us ws l1 l2), fun r1 r2 => hrel r1 r2⟩
end RF

set_option autoImplicit false
set_option linter.all false
/-! Qk: calls with keywords -/
namespace Q
open PySem L2
/-- a def that is called with n values and the keywords ks, by its promise -/
structure Dk (P : Program) (w : World) (K : PySem.W.Frag) (mg : Str → Option Value) (base : Heap) (k : Nat) (x : Str) (ps : List Str) (n : Nat) (ks : List Str) (gV : List V → List V → List V) (sp : Sp) : Prop where
  ex : ∃ (f : Addr) (fd : FuncData) (g : List Value → List Value → List Value), FnOk P w K mg base CX0 k f fd ps sp ∧ KBn K fd ps n ks g gV ∧ mg x = some (.ref f) ∧ PySem.W.keepIn K (.ref f) = true
theorem Dk.mono {P : Program} {w : World} {K : PySem.W.Frag} {mg : Str → Option Value} {base : Heap} {j k n : Nat} {x : Str} {ps ks : List Str} {gV : List V → List V → List V} {sp : Sp} (D : Dk P w K mg base j x ps n ks gV sp) (h : j ≤ k) : Dk P w K mg base k x ps n ks gV sp := by
  obtain ⟨f, fd, g, F, b⟩ := D
  exact ⟨f, fd, g, F.mono h, b⟩
section
variable {X : Cx} {C : Cxt} {e : Expr} {es : List Expr} {ta tk : TA} {wa wk : WA} {pos p : Pos} {j k n : Nat} {x : Str} {ps ks : List Str} {ub : Bool} {Φ : Ph} {kws : List Keyword}
def wKw (n m : Nat) (g : List D → List D → List D) (p : PN) (wa wk : WA) : WE := fun ρ k => wa ρ fun ds ρ1 => wk ρ1 fun es ρ2 => ds.length = n ∧ es.length = m ∧ p (g ds es) fun z => k z ρ2
theorem ok_kw {r : List V → Hp → VK → Prop} {p : PN} {m : Nat} {gV : List V → List V → List V} {g : List D → List D → List D} (hg : ∀ (B : Bk) (H : Hp) (vs zs : List V) (ds es : List D), Rps B H vs ds → Rps B H zs es → ds.length = n → es.length = m → Rps B H (gV vs zs) (g ds es)) (h : LiftN C r p) (ha : OkA C ta wa) (hk : OkA C tk wk) :
    OkE C (fun σ H Q => ta σ H fun vs H1 => tk σ H1 fun zs H2 => vs.length = n ∧ zs.length = m ∧ r (gV vs zs) H2 Q) (wKw n m g p wa wk) := by
  intro ρ ρx σ σx H S k Q hl st hw q
  refine ha ρ ρx σ σx H S _ _ hl st hw fun ds ρ1 vs H1 S1 hl1 st1 hw1 => ?_
  have lx : (ρ1 ++ ρx).length = (σ ++ σx).length := by have := st.len; simp only [List.length_append] at *; omega
  refine hk ρ1 (ρx ++ fzs ds) σ (σx ++ vs.map some) H1 S1 _ _ hl1 (by rw [← List.append_assoc, ← List.append_assoc]; exact st1) hw1 fun es ρ2 zs H2 S2 hl2 st2 hp => ?_
  obtain ⟨l1, l2, hp⟩ := hp
  have lx2 : (ρ2 ++ ρx).length = (σ ++ σx).length := by have := st.len; simp only [List.length_append] at *; omega
  have ly : (ρ2 ++ (ρx ++ fzs ds)).length = (σ ++ (σx ++ vs.map some)).length := by
    have := st1.len
    simp only [List.length_append] at *
    omega
  have rz := st2.args ly
  have st3 := st2.drop ly
  rw [← List.append_assoc, ← List.append_assoc] at st3
  have rv := st3.args lx2
  refine ⟨rv.len.trans l1, rz.len.trans l2, h (ρ2 ++ ρx) (σ ++ σx) H2 S2 _ _ _ Q (st3.drop lx2) (hg _ _ _ _ _ _ rv rz l1 l2) hp fun z v H' S' st' hk => q z ρ2 v H' S' hl2 st' hk⟩
theorem pd_callK (Fi : Fit X C) {gV : List V → List V → List V} {g : List D → List D → List D} (hG : ∀ (B : Bk) (H : Hp) (vs zs : List V) (ds es : List D), Rps B H vs ds → Rps B H zs es → ds.length = n → es.length = ks.length → Rps B H (gV vs zs) (g ds es))
    (F : Dk X.prog X.w X.K X.mg X.base k x ps n ks gV (spD X.K X.mg ub Φ)) (hr : Room j X.A) (hk : k ≤ j) (ha : QA X C (e :: es) ta wa) (hkw : QK X C kws tk wk) (hu : ub = true → C.ub = true := by intro h; first | (cases h; done) | assumption)
    (hg : Gl X x := by rfl) (hall : (backToKw pos (keywordEach kws X.env)).all (·.1.isSome) = true := by rfl) (hks : (backToKw pos (keywordEach kws X.env)).filterMap (·.1) = ks := by rfl) (hdb : (x == ("__debug__" : Str)) = false := by decide)
    (he : starEach (e :: es) X.env = (false, eval e X.env) :: starEach es X.env := by rfl) (hpl : ((backTo pos (starEach (e :: es) X.env)).any (·.1) || (backToKw pos (keywordEach kws X.env)).any (·.1.isNone)) = false := by rfl) :
    PD X C (.Call (.Name x p) (e :: es) kws pos) (tCallN n ks.length (spD X.K X.mg ub Φ) gV L2.E0 ta tk) (wKw n ks.length g (pCall Φ) wa wk) := by
  obtain ⟨f, fd, gg, G, hb, hm, hkp⟩ := F.ex
  exact ⟨pe_callN G (hr.mono hk) hg hm hkp hb pass0 ha.pa hkw.pk hall hks hdb he hpl, ok_kw hG (l_call (Φ := Φ) Fi.K Fi.mg hu L2.E0) ha.ok hkw.ok⟩
theorem pd_callK0 (Fi : Fit X C) {gV : List V → List V → List V} {g : List D → List D → List D} (hG : ∀ (B : Bk) (H : Hp) (vs zs : List V) (ds es : List D), Rps B H vs ds → Rps B H zs es → ds.length = 0 → es.length = ks.length → Rps B H (gV vs zs) (g ds es))
    (F : Dk X.prog X.w X.K X.mg X.base k x ps 0 ks gV (spD X.K X.mg ub Φ)) (hr : Room j X.A) (hk : k ≤ j) (hkw : QK X C kws tk wk) (hu : ub = true → C.ub = true := by intro h; first | (cases h; done) | assumption)
    (hg : Gl X x := by rfl) (hall : (backToKw pos (keywordEach kws X.env)).all (·.1.isSome) = true := by rfl) (hks : (backToKw pos (keywordEach kws X.env)).filterMap (·.1) = ks := by rfl) (hdb : (x == ("__debug__" : Str)) = false := by decide)
    (hpl : ((backTo pos (starEach [] X.env)).any (·.1) || (backToKw pos (keywordEach kws X.env)).any (·.1.isNone)) = false := by rfl) :
    PD X C (.Call (.Name x p) [] kws pos) (tCallN 0 ks.length (spD X.K X.mg ub Φ) gV L2.E0 tNil tk) (wKw 0 ks.length g (pCall Φ) (fun ρ k => k [] ρ) wk) := by
  obtain ⟨f, fd, gg, G, hb, hm, hkp⟩ := F.ex
  exact ⟨RF.pe_callN0 G (hr.mono hk) hg hm hkp hb pass0 hkw.pk hall hks hdb hpl, ok_kw hG (l_call (Φ := Φ) Fi.K Fi.mg hu L2.E0) (qa_nil (X := X)).ok hkw.ok⟩
/-- keywords alone, in the def's own order -/
theorem pd_kOwn (Fi : Fit X C) (F : Dk X.prog X.w X.K X.mg X.base k x ps 0 ks (fun _ zs => zs) (spD X.K X.mg ub Φ)) (hr : Room j X.A) (hk : k ≤ j) (hkw : QK X C kws tk wk) (hu : ub = true → C.ub = true := by intro h; first | (cases h; done) | assumption)
    (hg : Gl X x := by rfl) (hall : (backToKw pos (keywordEach kws X.env)).all (·.1.isSome) = true := by rfl) (hks : (backToKw pos (keywordEach kws X.env)).filterMap (·.1) = ks := by rfl) (hdb : (x == ("__debug__" : Str)) = false := by decide)
    (hpl : ((backTo pos (starEach [] X.env)).any (·.1) || (backToKw pos (keywordEach kws X.env)).any (·.1.isNone)) = false := by rfl) :
    PD X C (.Call (.Name x p) [] kws pos) (tCallN 0 ks.length (spD X.K X.mg ub Φ) (fun _ zs => zs) L2.E0 tNil tk) (wKw 0 ks.length (fun _ zs => zs) (pCall Φ) (fun ρ k => k [] ρ) wk) :=
  pd_callK0 Fi (fun _ _ _ _ _ _ _ h _ _ => h) F hr hk hkw hu hg hall hks hdb hpl
/-- all in the def's own order -/
theorem app_rps {B : Bk} {H : Hp} : ∀ {vs zs : List V} {ds es : List D}, Rps B H vs ds → Rps B H zs es → Rps B H (vs ++ zs) (ds ++ es)
  | _, _, [], _, h, h2 => by rw [show _ = ([] : List V) from h]; exact h2
  | _, _, d :: ds, _, h, h2 => by
    obtain ⟨x, r, rfl, h3, h4⟩ := h
    exact ⟨x, r ++ _, rfl, h3, app_rps h4 h2⟩
end
/-- a def that is called with defaults, by its promise -/
structure Dv (P : Program) (w : World) (K : PySem.W.Frag) (mg : Str → Option Value) (base : Heap) (k : Nat) (x : Str) (ps : List Str) (dvs : List V) (sp : Sp) : Prop where
  ex : ∃ (f : Addr) (fd : FuncData) (ds : List Value), FnOk P w K mg base CX0 k f fd ps sp ∧ Binds K fd ps ds ∧ Vals dvs ds ∧ mg x = some (.ref f) ∧ PySem.W.keepIn K (.ref f) = true
theorem Dv.mono {P : Program} {w : World} {K : PySem.W.Frag} {mg : Str → Option Value} {base : Heap} {j k : Nat} {x : Str} {ps : List Str} {dvs : List V} {sp : Sp} (D : Dv P w K mg base j x ps dvs sp) (h : j ≤ k) : Dv P w K mg base k x ps dvs sp := by
  obtain ⟨f, fd, ds, F, b⟩ := D
  exact ⟨f, fd, ds, F.mono h, b⟩
def pCallV (dd : List D) (Φ : Ph) : PN := fun ds k => pCall Φ (ds ++ dd) k
theorem pd_callV {X : Cx} {C : Cxt} {e : Expr} {es : List Expr} {ta : TA} {wa : WA} {pos p : Pos} {j k : Nat} {x : Str} {ps : List Str} {ub : Bool} {Φ : Ph} {dvs : List V} {dd : List D} (Fi : Fit X C) (F : Dv X.prog X.w X.K X.mg X.base k x ps dvs (spD X.K X.mg ub Φ)) (hdd : ∀ B H, Rps B H dvs dd) (hr : Room j X.A) (hk : k ≤ j) (ha : QA X C (e :: es) ta wa)
    (hu : ub = true → C.ub = true := by intro h; first | (cases h; done) | assumption) (hg : Gl X x := by rfl) (hdb : (x == ("__debug__" : Str)) = false := by decide)
    (he : starEach (e :: es) X.env = (false, eval e X.env) :: starEach es X.env := by rfl) (hpl : (backTo pos (starEach es X.env)).any (·.1) = false := by rfl) :
    PD X C (.Call (.Name x p) (e :: es) [] pos) (tCall (spD X.K X.mg ub Φ) dvs L2.E0 ta) (wArg (pCallV dd Φ) wa) := by
  obtain ⟨f, fd, ds, G, hb, hd, hm, hkp⟩ := F.ex
  refine ⟨pe_call G (hr.mono hk) hg hm hkp hb hd pass0 ha.pa hdb he hpl, ?_⟩
  have h : LiftN C (fun vs H Q => spD X.K X.mg ub Φ (vs ++ dvs) H Q L2.E0) (pCallV dd Φ) := fun ρ σ H S ds vs k Q st r φ q =>
    l_call (Φ := Φ) Fi.K Fi.mg hu L2.E0 ρ σ H S (ds ++ dd) (vs ++ dvs) k Q st (app_rps r (hdd _ _)) φ q
  exact ok_arg h ha.ok
theorem kw_app {n m : Nat} (B : Bk) (H : Hp) (vs zs : List V) (ds es : List D) (h1 : Rps B H vs ds) (h2 : Rps B H zs es) (_ : ds.length = n) (_ : es.length = m) : Rps B H ((fun vs zs => vs ++ zs) vs zs) ((fun ds es => ds ++ es) ds es) := app_rps h1 h2
end Q

set_option autoImplicit false
set_option linter.all false
/-! St: methods of texts with more values; texts by their signs -/
namespace Q
open PySem L2
section
variable {X : Cx} {C : Cxt} {e a : Expr} {es : List Expr} {te : TE} {we : WE} {ta : TA} {wa : WA} {pos : Pos}
def wMN (p : PN) (wo : WE) (wa : WA) : WE := fun ρ k => wo ρ fun x ρ1 => (∃ z, x.toD = .str z) ∧ wa ρ1 fun ds ρ2 => p (x.toD :: ds) fun z => k z ρ2
theorem ok_mN {r : V → List V → Hp → VK → Prop} {p : PN} (h : LiftN C (fun vs H Q => match vs with | x :: xs => r x xs H Q | _ => False) p) (ho : OkE C te we) (ha : OkA C ta wa) : OkE C (tBM X.K "str" r te ta) (wMN p we wa) := by
  intro ρ ρx σ σx H S k Q hl st hw q
  refine ho ρ ρx σ σx H S _ _ hl st hw fun x ρ1 vx H1 S1 hl1 st1 hw1 => ?_
  obtain ⟨⟨z, ez⟩, hw1⟩ := hw1
  obtain ⟨S1', st1⟩ := st1.lastD
  have lx1 : (ρ1 ++ ρx).length = (σ ++ σx).length := by have := st1.len; simp only [List.length_append, List.length_cons, List.length_nil] at *; omega
  have ev := (st1.last lx1).str ez
  refine ⟨by subst ev; rfl, ?_⟩
  rw [List.append_assoc, List.append_assoc] at st1
  refine ha ρ1 (ρx ++ [some (Sl.fz x.toD)]) σ (σx ++ [some vx]) H1 S1' _ _ hl1 st1 hw1 fun ds ρ2 vs H2 S2 hl2 st2 hp => ?_
  have ly : (ρ2 ++ (ρx ++ [some (Sl.fz x.toD)])).length = (σ ++ (σx ++ [some vx])).length := by
    simp only [List.length_append, List.length_cons, List.length_nil] at *
    omega
  have rz := st2.args ly
  have st3 := st2.drop ly
  rw [← List.append_assoc, ← List.append_assoc] at st3
  have lx2 : (ρ2 ++ ρx).length = (σ ++ σx).length := by simp only [List.length_append, List.length_cons, List.length_nil] at *; omega
  have ox := (st3.last lx2)
  exact h (ρ2 ++ ρx) (σ ++ σx) H2 S2 (x.toD :: ds) (vx :: vs) _ Q (st3.drop lx2) ⟨vx, vs, rfl, ox, rz⟩ hp fun z v H' S' st' hk => q z ρ2 v H' S' hl2 st' hk
theorem pd_mN {id : String} {name : Str} {apos : Pos} {r : V → List V → Hp → VK → Prop} {p : PN} (slot : PySem.Slot "str" name id) (ty : typeOf (.builtin id) = pure (.type "method_descriptor")) (rule : MtR X id r) (h : LiftN C (fun vs H Q => match vs with | x :: xs => r x xs H Q | _ => False) p) (ho : PD X C e te we) (ha : QA X C (a :: es) ta wa)
    (hbase : attributeBase e name X.env (eval e X.env) = eval e X.env := by rfl)
    (hfew : ((backTo pos (starEach (a :: es) X.env)).all (fun x => !x.1) && (backToKw pos (keywordEach [] X.env)).all (fun x => x.1.isSome)
      && decide ((a :: es).length + ([] : List Keyword).length + (if ([] : List Keyword).isEmpty then 0 else 1) < 30)) = true := by rfl)
    (hline : (apos.endLine == pos.line) = true := by rfl) (hs : starEach (a :: es) X.env = (false, eval a X.env) :: starEach es X.env := by rfl) (hplain : (backTo pos (starEach es X.env)).any (·.1) = false := by rfl) :
    PD X C (.Call (.Attribute e name apos) (a :: es) [] pos) (tBM X.K "str" r te ta) (wMN p we wa) := ⟨pe_bm PySem.F.plainAttrs_str slot ty rule ho.pe ha.pa hbase hfew hline hs hplain, ok_mN h ho.ok ha.ok⟩
/-- a method that tells of two texts (and a place) -/
def pSS (g : Str → Str → D) (c : Str → Str → Prop) : PN := fun ds k => match ds with
  | [.str a, .str b] => c a b ∧ k (.fz (g a b))
  | _ => False
def pSSI (g : Str → Str → Int → D) : PN := fun ds k => match ds with
  | [.str a, .str b, .int i] => k (.fz (g a b i))
  | _ => False
abbrev pStarts : PN := pSS (fun a b => .bl (Txt.startswith a b)) fun _ _ => True
abbrev pEnds : PN := pSS (fun a b => .bl (Txt.endswith a b)) fun _ _ => True
abbrev pRfind : PN := pSS (fun a b => .int (Txt.rfind a b)) fun _ _ => True
abbrev pStripC : PN := pSS (fun a b => .str (Txt.stripChars a b)) fun a _ => a.length ≤ sizeLine
abbrev pParts : PN := pSS (fun a b => .tup [.str (Txt.partition a b).1, .str (Txt.partition a b).2.1, .str (Txt.partition a b).2.2]) fun a b => (b.length == 0) = false ∧ a.length ≤ sizeLine
abbrev pStarts3 : PN := pSSI fun a b i => .bl (Txt.startswith3 a b i)
abbrev pFind3 : PN := pSSI fun a b i => .int (Txt.find3 a b i)
theorem l_starts : LiftN C (fun vs H Q => match vs with | x :: xs => (fun x xs H Q => ∃ a b, x = V.str a ∧ xs = [V.str b] ∧ Q (V.bl (Txt.startswith a b)) H) x xs H Q | _ => False) pStarts := by
  intro ρ σ H S ds vs k Q st rr h q
  unfold pStarts pSS at h
  split at h
  · rename_i a b
    obtain ⟨v, u, rfl, r1, r2⟩ := rps2 rr
    exact ⟨a, b, r1, by rw [show u = _ from r2], ans_bl st q h.2⟩
  · exact h.elim
theorem l_ends : LiftN C (fun vs H Q => match vs with | x :: xs => (fun x xs H Q => ∃ a b, x = V.str a ∧ xs = [V.str b] ∧ Q (V.bl (Txt.endswith a b)) H) x xs H Q | _ => False) pEnds := by
  intro ρ σ H S ds vs k Q st rr h q
  unfold pEnds pSS at h
  split at h
  · rename_i a b
    obtain ⟨v, u, rfl, r1, r2⟩ := rps2 rr
    exact ⟨a, b, r1, by rw [show u = _ from r2], ans_bl st q h.2⟩
  · exact h.elim
theorem l_rfind : LiftN C (fun vs H Q => match vs with | x :: xs => (fun x xs H Q => ∃ a b, x = V.str a ∧ xs = [V.str b] ∧ Q (V.int (Txt.rfind a b)) H) x xs H Q | _ => False) pRfind := by
  intro ρ σ H S ds vs k Q st rr h q
  unfold pRfind pSS at h
  split at h
  · rename_i a b
    obtain ⟨v, u, rfl, r1, r2⟩ := rps2 rr
    exact ⟨a, b, r1, by rw [show u = _ from r2], ans_int st q h.2⟩
  · exact h.elim
theorem l_stripC : LiftN C (fun vs H Q => match vs with | x :: xs => (fun x xs H Q => ∃ a b, x = V.str a ∧ xs = [V.str b] ∧ a.length ≤ sizeLine ∧ Q (V.str (Txt.stripChars a b)) H) x xs H Q | _ => False) pStripC := by
  intro ρ σ H S ds vs k Q st rr h q
  unfold pStripC pSS at h
  split at h
  · rename_i a b
    obtain ⟨v, u, rfl, r1, r2⟩ := rps2 rr
    exact ⟨a, b, r1, by rw [show u = _ from r2], h.1, ans_str st q h.2⟩
  · exact h.elim
theorem l_parts : LiftN C (fun vs H Q => match vs with | x :: xs => (fun x xs H Q => ∃ a b, x = V.str a ∧ xs = [V.str b] ∧ (b.length == 0) = false ∧ a.length ≤ sizeLine ∧
    ∀ p, H p = none → Q (.ref p) (upd H p (.tup [.str (Txt.partition a b).1, .str (Txt.partition a b).2.1, .str (Txt.partition a b).2.2]))) x xs H Q | _ => False) pParts := by
  intro ρ σ H S ds vs k Q st rr h q
  unfold pParts pSS at h
  split at h
  · rename_i a b
    obtain ⟨v, u, rfl, r1, r2⟩ := rps2 rr
    exact ⟨a, b, r1, by rw [show u = _ from r2], h.1.1, h.1.2, fun p hp => ans_tup (xs := [V.str (Txt.partition a b).1, V.str (Txt.partition a b).2.1, V.str (Txt.partition a b).2.2]) st q (by show 3 ≤ 1000000; decide) (show Rps C.B (hid S H) _ [D.str (Txt.partition a b).1, D.str (Txt.partition a b).2.1, D.str (Txt.partition a b).2.2] from ⟨_, _, rfl, rfl, _, _, rfl, rfl, _, _, rfl, rfl, rfl⟩) h.2 p hp⟩
  · exact h.elim
theorem l_starts3 : LiftN C (fun vs H Q => match vs with | x :: xs => (fun x xs H Q => ∃ (a b : Str) (i : Int), x = V.str a ∧ xs = [V.str b, V.int i] ∧ Q (V.bl (Txt.startswith3 a b i)) H) x xs H Q | _ => False) pStarts3 := by
  intro ρ σ H S ds vs k Q st rr h q
  unfold pStarts3 pSSI at h
  split at h
  · rename_i a b i
    obtain ⟨v, u, z, rfl, r1, r2, r3⟩ := rps3 rr
    exact ⟨a, b, i, r1, by rw [show u = _ from r2, show z = _ from r3], ans_bl st q h⟩
  · exact h.elim
theorem l_find3 : LiftN C (fun vs H Q => match vs with | x :: xs => (fun x xs H Q => ∃ (a b : Str) (i : Int), x = V.str a ∧ xs = [V.str b, V.int i] ∧ Q (V.int (Txt.find3 a b i)) H) x xs H Q | _ => False) pFind3 := by
  intro ρ σ H S ds vs k Q st rr h q
  unfold pFind3 pSSI at h
  split at h
  · rename_i a b i
    obtain ⟨v, u, z, rfl, r1, r2, r3⟩ := rps3 rr
    exact ⟨a, b, i, r1, by rw [show u = _ from r2, show z = _ from r3], ans_int st q h⟩
  · exact h.elim
/-- max of three -/
def mx3 (a b c : Int) : Int := if c > (if b > a then b else a) then c else (if b > a then b else a)
def pMax3 : PN := fun ds k => match ds with
  | [.int a, .int b, .int c] => k (.fz (.int (mx3 a b c)))
  | _ => False
theorem l_max3 : LiftN C (rNuC3 nuMax3) pMax3 := by
  intro ρ σ H S ds vs k Q st rr h q
  unfold pMax3 at h
  split at h
  · rename_i a b c
    obtain ⟨v, u, z, rfl, r1, r2, r3⟩ := rps3 rr
    rw [show v = _ from r1, show u = _ from r2, show z = _ from r3]
    refine ⟨_, _, _, .int (mx3 a b c), rfl, ?_, ans_int st q h⟩
    unfold nuMax3 nuMax2 mx3
    have e : ∀ i j : Int, nuLt (V.int i) (V.int j) = some (decide (i < j)) := fun _ _ => rfl
    rw [e]
    by_cases h1 : a < b
    · simp only [decide_eq_true h1, Option.map_some, Option.bind_some, if_true, e]
      by_cases h2 : b < c
      · simp [h1, h2]
      · simp [h1, h2]
    · simp only [decide_eq_false h1, Option.map_some, Option.bind_some, Bool.false_eq_true, if_false, e]
      by_cases h2 : a < c
      · simp [h1, h2]
      · simp [h1, h2]
  · exact h.elim
end
end Q

set_option autoImplicit false
set_option linter.all false
/-! Tm: terms and sayings, their data, their texts -/
namespace Q
open PySem L2
open RF (sx cps_app s_assoc e_app app_e len_app emp_eq join_nil join_one join_snoc join_len)
/-- the items of a term from the first on, its constant at the end -/
inductive Tm where
  | con (c : Int)
  | nm (f : Int) (x : Str) (r : Tm)
  | fl (f i j k : Int) (t r : Tm)
def Tm.c : Tm → Int
  | .con c => c
  | .nm _ _ r => r.c
  | .fl _ _ _ _ _ r => r.c
def Tm.its : Tm → List D
  | .con _ => []
  | .nm f x r => .tup [.int f, .str x] :: r.its
  | .fl f i j k t r => .tup [.int f, .tup [.str "floor", .tup [.int i, .int j, .int k], .tup [.tup t.its, .int t.c]]] :: r.its
def Tm.d (t : Tm) : D := .tup [.tup t.its, .int t.c]
def itS (size : Int) (x : Str) : Str := if size = 1 then x else tS size ++ Str.ofString "*" ++ x
def hdP (f : Int) (x : Str) : Str := if f < 0 then Str.ofString "-" ++ x else x
def tlP (f : Int) (x : Str) : Str := if f < 0 then Str.ofString " - " ++ x else Str.ofString " + " ++ x
def catP : List (Int × Str) → Str
  | [] => Str.empty
  | (f, x) :: r => tlP f x ++ catP r
def jnP : List (Int × Str) → Str
  | [] => Str.empty
  | (f, x) :: r => hdP f x ++ catP r
def endP (c : Int) (ps : List (Int × Str)) : List (Int × Str) := if c ≠ 0 ∨ ps = [] then ps ++ [(c, tS (aI c))] else ps
def flS (s u : Str) : Str := Str.ofString "floor(" ++ s ++ Str.ofString ", " ++ u ++ Str.ofString ")"
def Tm.pcs : Tm → List (Int × Str)
  | .con _ => []
  | .nm f x r => (f, itS (aI f) x) :: r.pcs
  | .fl f i j k t r => (f, itS (aI f) (flS (stS i j k) (jnP (endP t.c t.pcs)))) :: r.pcs
def Tm.tx (t : Tm) : Str := jnP (endP t.c t.pcs)
def Tm.sz : Tm → Nat
  | .con _ => 70
  | .nm _ x r => 70 + x.length + r.sz
  | .fl _ _ _ _ t r => 300 + t.sz + r.sz
/-- floors within one another -/
def Tm.dp : Tm → Nat
  | .con _ => 0
  | .nm _ _ r => r.dp
  | .fl _ _ _ _ t r => max (t.dp + 1) r.dp
def Tm.cnt : Tm → Nat
  | .con _ => 0
  | .nm _ _ r => r.cnt + 1
  | .fl _ _ _ _ _ r => r.cnt + 1
/-- numbers of at most 60 figures, names that are not empty -/
def Tm.ok : Tm → Prop
  | .con c => Fig 60 c
  | .nm f x r => Fig 60 f ∧ (0 < x.length ∧ PyData.strOk x = true) ∧ r.ok
  | .fl f i j k t r => Fig 60 f ∧ Fig 60 i ∧ Fig 60 j ∧ Fig 60 k ∧ t.ok ∧ r.ok
theorem Tm.its_len : ∀ t : Tm, t.its.length = t.cnt
  | .con _ => rfl
  | .nm _ _ r => by show r.its.length + 1 = r.cnt + 1; rw [r.its_len]
  | .fl _ _ _ _ _ r => by show r.its.length + 1 = r.cnt + 1; rw [r.its_len]
theorem Tm.pcs_len : ∀ t : Tm, t.pcs.length = t.cnt
  | .con _ => rfl
  | .nm _ _ r => by show r.pcs.length + 1 = r.cnt + 1; rw [r.pcs_len]
  | .fl _ _ _ _ _ r => by show r.pcs.length + 1 = r.cnt + 1; rw [r.pcs_len]
theorem Tm.cnt_sz : ∀ t : Tm, 70 * t.cnt + 70 ≤ t.sz
  | .con _ => Nat.le_refl _
  | .nm _ _ r => by have := r.cnt_sz; simp only [Tm.cnt, Tm.sz]; omega
  | .fl _ _ _ _ _ r => by have := r.cnt_sz; simp only [Tm.cnt, Tm.sz]; omega
theorem Tm.c_ok : ∀ {t : Tm}, t.ok → Fig 60 t.c
  | .con _, h => h
  | .nm _ _ r, h => Tm.c_ok (t := r) h.2.2
  | .fl _ _ _ _ _ r, h => Tm.c_ok (t := r) h.2.2.2.2.2
theorem l_star : (Str.ofString "*").length = 1 := by decide +kernel
theorem l_sp1 : (Str.ofString " - ").length = 3 := by decide +kernel
theorem l_sp2 : (Str.ofString " + ").length = 3 := by decide +kernel
theorem l_flo : (Str.ofString "floor(").length = 6 := by decide +kernel
theorem l_com : (Str.ofString ", ").length = 2 := by decide +kernel
theorem l_rp : (Str.ofString ")").length = 1 := by decide +kernel
theorem itS_len {f : Int} {x : Str} (h : Fig 60 f) : (itS f x).length ≤ 62 + x.length := by
  have := tS_len (by decide) h
  unfold itS
  split
  · omega
  · rw [len_app, len_app, l_star]; omega
theorem tlP_len (f : Int) (x : Str) : (tlP f x).length = 3 + x.length := by unfold tlP; split <;> simp only [len_app, l_sp1, l_sp2]
theorem hdP_len (f : Int) (x : Str) : (hdP f x).length ≤ 1 + x.length := by
  unfold hdP
  split
  · rw [len_app, l_dash]; omega
  · omega
theorem flS_len (s u : Str) : (flS s u).length = 9 + s.length + u.length := by unfold flS; simp only [len_app, l_flo, l_com, l_rp]; omega
theorem jn_le_cat : ∀ ps : List (Int × Str), (jnP ps).length ≤ (catP ps).length
  | [] => Nat.le_refl _
  | (f, x) :: r => by
    have := hdP_len f x
    have := tlP_len f x
    simp only [jnP, catP, len_app]
    omega
theorem cat_snoc (f : Int) (x : Str) : ∀ ps : List (Int × Str), catP (ps ++ [(f, x)]) = catP ps ++ tlP f x
  | [] => by simp only [catP, List.nil_append, e_app, app_e]
  | (g, y) :: r => by simp only [catP, List.cons_append, cat_snoc f x r, s_assoc]
theorem cat_app : ∀ ps qs : List (Int × Str), catP (ps ++ qs) = catP ps ++ catP qs
  | [], qs => by simp only [catP, List.nil_append, e_app]
  | (g, y) :: r, qs => by simp only [catP, List.cons_append, cat_app r qs, s_assoc]
theorem end_len {c : Int} {ps : List (Int × Str)} (h : Fig 60 c) : (catP (endP c ps)).length ≤ (catP ps).length + 65 := by
  have := tS_len (by decide) (aI_fig h)
  unfold endP
  split
  · rw [cat_snoc, len_app, tlP_len]; omega
  · omega
theorem Tm.cat_len : ∀ {t : Tm}, t.ok → (catP t.pcs).length + 70 ≤ t.sz
  | .con _, _ => by simp only [Tm.pcs, catP, l_emp, Tm.sz]; omega
  | .nm f x r, h => by
    have := Tm.cat_len (t := r) h.2.2
    have := itS_len (x := x) (aI_fig h.1)
    simp only [Tm.pcs, catP, len_app, tlP_len, Tm.sz]
    omega
  | .fl f i j k t r, h => by
    obtain ⟨h1, h2, h3, h4, h5, h6⟩ := h
    have := Tm.cat_len (t := r) h6
    have := Tm.cat_len (t := t) h5
    have := stS_len (by decide) h2 h3 h4
    have := end_len (ps := t.pcs) (Tm.c_ok h5)
    have := jn_le_cat (endP t.c t.pcs)
    have e := flS_len (stS i j k) (jnP (endP t.c t.pcs))
    have := itS_len (x := flS (stS i j k) (jnP (endP t.c t.pcs))) (aI_fig h1)
    simp only [Tm.pcs, catP, len_app, tlP_len, Tm.sz]
    omega
theorem Tm.tx_len {t : Tm} (h : t.ok) : t.tx.length ≤ t.sz := by
  have := Tm.cat_len h
  have := end_len (ps := t.pcs) (Tm.c_ok h)
  have := jn_le_cat (endP t.c t.pcs)
  show (jnP (endP t.c t.pcs)).length ≤ _
  omega
def pdD (ps : List (Int × Str)) : List D := ps.map fun p => .tup [.int p.1, .str p.2]
theorem Tm.plain : ∀ {t : Tm}, t.ok → plains t.its = true
  | .con _, _ => rfl
  | .nm f x r, h => by
    show (((true && (PyData.strOk x && true)) && plains r.its)) = true
    rw [h.2.1.2, Tm.plain (t := r) h.2.2]
    rfl
  | .fl f i j k t r, h => by
    obtain ⟨_, _, _, _, h5, h6⟩ := h
    have e1 := Tm.plain (t := t) h5
    have e2 := Tm.plain (t := r) h6
    have e3 : PyData.strOk ("floor" : Str) = true := by decide +kernel
    show plains (_ :: r.its) = true
    simp only [plains, Q.plain, e1, e2, e3, Bool.and_self]
theorem Tm.deep : ∀ t : Tm, depL t.its ≤ 4 * t.dp + 1
  | .con _ => Nat.zero_le _
  | .nm f x r => by
    have := Tm.deep r
    show max (dep (.tup [.int f, .str x])) (depL r.its) ≤ 4 * r.dp + 1
    simp only [dep, depL]
    omega
  | .fl f i j k t r => by
    have h1 := Tm.deep r
    have h2 := Tm.deep t
    show max (dep _) (depL r.its) ≤ 4 * max (t.dp + 1) r.dp + 1
    simp only [dep, depL]
    omega
theorem Tm.okD {t : Tm} (h : t.ok) (hd : t.dp ≤ 14) : okD (.tup t.its) := ⟨Tm.plain h, by have := t.deep; show depL t.its + 1 ≤ 60; omega⟩
theorem Tm.emp (t : Tm) : eqD (.tup t.its) (.tup []) = decide (t.pcs = []) := by
  cases t <;> rfl
/-- every piece has a text -/
theorem Tm.pcs_ne : ∀ {t : Tm}, t.ok → ∀ p ∈ t.pcs, 0 < p.2.length
  | .con _, _, p, m => by cases m
  | .nm f x r, h, p, m => by
    rcases List.mem_cons.mp m with rfl | m
    · show 0 < (itS (aI f) x).length
      have := h.2.1.1
      unfold itS
      split
      · omega
      · rw [len_app]; omega
    · exact Tm.pcs_ne (t := r) h.2.2 p m
  | .fl f i j k t r, h, p, m => by
    obtain ⟨_, _, _, _, _, h6⟩ := h
    rcases List.mem_cons.mp m with rfl | m
    · show 0 < (itS (aI f) (flS _ _)).length
      have := flS_len (stS i j k) (jnP (endP t.c t.pcs))
      unfold itS
      split
      · omega
      · rw [len_app]; omega
    · exact Tm.pcs_ne (t := r) h6 p m
/-- the pieces as they are put together -/
def jnT : List (Int × Str) → List Str
  | [] => []
  | (f, x) :: r => hdP f x :: r.map fun p => tlP p.1 p.2
theorem jnT_snoc (ps : List (Int × Str)) (f : Int) (x : Str) : jnT (ps ++ [(f, x)]) = jnT ps ++ [if ps = [] then hdP f x else tlP f x] := by
  cases ps with
  | nil => rfl
  | cons p r => simp [jnT]
theorem jnT_len (ps : List (Int × Str)) : (jnT ps).length = ps.length := by cases ps <;> simp [jnT]
theorem jnT_join (ps : List (Int × Str)) : Txt.join Str.empty (jnT ps) = jnP ps := by
  have cat : ∀ (r : List (Int × Str)) (l : List Str), Txt.join Str.empty (l ++ r.map fun p => tlP p.1 p.2) = Txt.join Str.empty l ++ catP r := by
    intro r
    induction r with
    | nil => intro l; simp only [List.map_nil, List.append_nil, catP, app_e]
    | cons p r ih =>
      intro l
      have := ih (l ++ [tlP p.1 p.2])
      rw [List.append_assoc] at this
      rw [List.map_cons]
      rw [show l ++ tlP p.1 p.2 :: List.map (fun p => tlP p.1 p.2) r = l ++ ([tlP p.1 p.2] ++ List.map (fun p => tlP p.1 p.2) r) from rfl, this, join_snoc, s_assoc]
      rfl
  cases ps with
  | nil => exact join_nil _
  | cons p r =>
    have := cat r [hdP p.1 p.2]
    rw [join_one] at this
    exact this
theorem jnT_sum : ∀ ps : List (Int × Str), ((jnT ps).map (·.length)).sum ≤ (catP ps).length
  | [] => Nat.zero_le _
  | p :: r => by
    have cat : ∀ r : List (Int × Str), ((r.map fun p => tlP p.1 p.2).map (·.length)).sum = (catP r).length := by
      intro r
      induction r with
      | nil => rfl
      | cons p r ih => simp only [List.map_cons, List.sum_cons, ih, catP, len_app]
    have h1 := hdP_len p.1 p.2
    have h2 := tlP_len p.1 p.2
    have h3 := cat r
    show ((hdP p.1 p.2 :: r.map fun p => tlP p.1 p.2).map (·.length)).sum ≤ (tlP p.1 p.2 ++ catP r).length
    rw [List.map_cons, List.sum_cons, h3, len_app]
    omega
theorem endP_cnt (c : Int) (ps : List (Int × Str)) : (endP c ps).length ≤ ps.length + 1 := by
  unfold endP
  split
  · simp
  · omega
/-! ### sayings -/
mutual
inductive Sy where
  | eq (l : Bool) (a b : Tm)
  | un (a : Tm) (i j k : Int) (b : Tm)
  | lv (a : Tm) (m r : Int)
  | us (x : Str) (ys : List Str)
  | nt (s : Sy)
  | qf (all : Bool) (x : Str) (s : Sy)
  | gr (o : Bool) (ps : Sys)
inductive Sys where
  | nil
  | cons (s : Sy) (r : Sys)
end
mutual
def Sy.d : Sy → D
  | .eq l a b => .tup [.str (if l then "less" else "equal"), a.d, b.d]
  | .un a i j k b => .tup [.str "under", a.d, .tup [.int i, .int j, .int k], b.d]
  | .lv a m r => .tup [.str "leaves", a.d, .int m, .int r]
  | .us x ys => .tup [.str "use", .str x, .tup (ys.map .str)]
  | .nt s => .tup [.str "not", s.d]
  | .qf a x s => .tup [.str (if a then "all" else "some"), .str x, s.d]
  | .gr o ps => .tup (.str (if o then "or" else "and") :: ps.ds)
def Sys.ds : Sys → List D
  | .nil => []
  | .cons s r => s.d :: r.ds
end
def leS (a b : Tm) (l : Bool) : Str := a.tx ++ (if l then Str.ofString " < " else Str.ofString " = ") ++ b.tx
def unS (a : Tm) (i j k : Int) (b : Tm) : Str := Str.ofString "under(" ++ a.tx ++ Str.ofString ", " ++ stS i j k ++ Str.ofString ", " ++ b.tx ++ Str.ofString ")"
def lvS (a : Tm) (m r : Int) : Str := Str.ofString "leaves(" ++ a.tx ++ Str.ofString ", " ++ tS m ++ Str.ofString ", " ++ tS r ++ Str.ofString ")"
def usS (x : Str) (ys : List Str) : Str := x ++ Str.ofString "(" ++ Txt.join ", " ys ++ Str.ofString ")"
def glS (o : Bool) : Str := if o then Str.ofString " or " else Str.ofString " and "
mutual
def Sy.tx : Sy → Str
  | .eq l a b => leS a b l
  | .un a i j k b => unS a i j k b
  | .lv a m r => lvS a m r
  | .us x ys => usS x ys
  | .nt s => Str.ofString "not " ++ s.tx
  | .qf a x s => (if a then Str.ofString "all" else Str.ofString "some") ++ Str.ofString " " ++ x ++ Str.ofString " " ++ s.tx
  | .gr o ps => Str.ofString "(" ++ Txt.join (glS o) ps.txs ++ Str.ofString ")"
def Sys.txs : Sys → List Str
  | .nil => []
  | .cons s r => s.tx :: r.txs
end
def namesL (ys : List Str) : Nat := (ys.map (·.length)).sum + 2 * ys.length
mutual
def Sy.sz : Sy → Nat
  | .eq _ a b => a.sz + b.sz + 3
  | .un a _ _ _ b => a.sz + b.sz + 300
  | .lv a _ _ => a.sz + 150
  | .us x ys => x.length + namesL ys + 10
  | .nt s => s.sz + 10
  | .qf _ x s => x.length + s.sz + 10
  | .gr _ ps => ps.sz + 10
def Sys.sz : Sys → Nat
  | .nil => 0
  | .cons s r => s.sz + r.sz + 12
end
mutual
def Sy.ok : Sy → Prop
  | .eq _ a b => a.ok ∧ b.ok
  | .un a i j k b => a.ok ∧ Fig 60 i ∧ Fig 60 j ∧ Fig 60 k ∧ b.ok
  | .lv a m r => a.ok ∧ Fig 60 m ∧ Fig 60 r
  | .us _ _ => True
  | .nt s => s.ok
  | .qf _ _ s => s.ok
  | .gr _ ps => ps.ok
def Sys.ok : Sys → Prop
  | .nil => True
  | .cons s r => s.ok ∧ r.ok
end
mutual
/-- the floors of a saying's terms -/
def Sy.tdp : Sy → Nat
  | .eq _ a b => max a.dp b.dp
  | .un a _ _ _ b => max a.dp b.dp
  | .lv a _ _ => a.dp
  | .us _ _ => 0
  | .nt s => s.tdp
  | .qf _ _ s => s.tdp
  | .gr _ ps => ps.tdp
def Sys.tdp : Sys → Nat
  | .nil => 0
  | .cons s r => max s.tdp r.tdp
end
mutual
/-- sayings within one another -/
def Sy.dp : Sy → Nat
  | .nt s => s.dp + 1
  | .qf _ _ s => s.dp + 1
  | .gr _ ps => ps.dp + 1
  | _ => 0
def Sys.dp : Sys → Nat
  | .nil => 0
  | .cons s r => max s.dp r.dp
end
def Sys.len : Sys → Nat
  | .nil => 0
  | .cons _ r => r.len + 1
theorem Sys.ds_len : ∀ ps : Sys, ps.ds.length = ps.len
  | .nil => rfl
  | .cons s r => by show r.ds.length + 1 = r.len + 1; rw [Sys.ds_len r]
theorem Sys.txs_len : ∀ ps : Sys, ps.txs.length = ps.len
  | .nil => rfl
  | .cons s r => by show r.txs.length + 1 = r.len + 1; rw [Sys.txs_len r]
theorem Sys.len_sz : ∀ ps : Sys, 12 * ps.len ≤ ps.sz
  | .nil => Nat.le_refl _
  | .cons s r => by have := Sys.len_sz r; simp only [Sys.len, Sys.sz]; omega
theorem l_le : (Str.ofString " < ").length = 3 := by decide +kernel
theorem l_equ : (Str.ofString " = ").length = 3 := by decide +kernel
theorem l_und : (Str.ofString "under(").length = 6 := by decide +kernel
theorem l_lea : (Str.ofString "leaves(").length = 7 := by decide +kernel
theorem l_not : (Str.ofString "not ").length = 4 := by decide +kernel
theorem l_allS : (Str.ofString "all").length = 3 := by decide +kernel
theorem l_some : (Str.ofString "some").length = 4 := by decide +kernel
theorem l_spc : (Str.ofString " ").length = 1 := by decide +kernel
theorem l_ors : (Str.ofString " or ").length = 4 := by decide +kernel
theorem l_ands : (Str.ofString " and ").length = 5 := by decide +kernel
theorem glS_len (o : Bool) : (glS o).length ≤ 5 := by cases o <;> simp only [glS, l_ands, l_ors, if_true, if_false] <;> decide +kernel
mutual
theorem Sy.tx_len : ∀ {s : Sy}, s.ok → s.tx.length ≤ s.sz
  | .eq l a b, h => by
    have := Tm.tx_len h.1
    have := Tm.tx_len h.2
    simp only [Sy.tx, Sy.sz, leS, len_app]
    split <;> simp only [l_le, l_equ] <;> omega
  | .un a i j k b, h => by
    obtain ⟨h1, h2, h3, h4, h5⟩ := h
    have := Tm.tx_len h1
    have := Tm.tx_len h5
    have := stS_len (by decide) h2 h3 h4
    simp only [Sy.tx, Sy.sz, unS, len_app, l_und, l_com, l_rp]
    omega
  | .lv a m r, h => by
    obtain ⟨h1, h2, h3⟩ := h
    have := Tm.tx_len h1
    have := tS_len (by decide) h2
    have := tS_len (by decide) h3
    simp only [Sy.tx, Sy.sz, lvS, len_app, l_lea, l_com, l_rp]
    omega
  | .us x ys, _ => by
    have := join_len (Str.ofString ", ") ys
    rw [l_com] at this
    simp only [Sy.tx, Sy.sz, usS, len_app, l_lp, l_rp, namesL]
    omega
  | .nt s, h => by
    have := Sy.tx_len (s := s) h
    simp only [Sy.tx, Sy.sz, len_app, l_not]
    omega
  | .qf a x s, h => by
    have := Sy.tx_len (s := s) h
    simp only [Sy.tx, Sy.sz, len_app, l_spc]
    split <;> simp only [l_allS, l_some] <;> omega
  | .gr o ps, h => by
    have h1 := Sys.txs_sum (ps := ps) h
    have h2 := join_len (glS o) ps.txs
    have h3 := glS_len o
    have h4 : ps.txs.length * (glS o).length ≤ ps.txs.length * 5 := Nat.mul_le_mul_left _ h3
    simp only [Sy.tx, Sy.sz, len_app, l_lp, l_rp]
    omega
theorem Sys.txs_sum : ∀ {ps : Sys}, ps.ok → (ps.txs.map (·.length)).sum + ps.txs.length * 5 ≤ ps.sz
  | .nil, _ => Nat.le_refl _
  | .cons s r, h => by
    have := Sy.tx_len (s := s) h.1
    have := Sys.txs_sum (ps := r) h.2
    simp only [Sys.txs, Sys.sz, List.map_cons, List.sum_cons, List.length_cons]
    omega
end
end Q

namespace RF
open PySem L2
def top (i : Nat) : Stmt := PySem.Challenge.pw_rootfloor_k01_parts_of_surds.main.body.getD i (.Pass ⟨0, 0, 0, 0⟩)
abbrev sBag : Stmt := top 23
abbrev sPull : Stmt := top 24
structure TB (mg : Str → Option Value) : Prop where
  list : mg "list" = none
  len : mg "len" = none
  abs : mg "abs" = none
  int : mg "int" = none
section
variable {P : Program} {w : World} {K : PySem.W.Frag} {mg : Str → Option Value} {base : Heap}
theorem scBag : FnScope ["_law_script"] ["_law_script"] (defScope sBag) := ⟨rfl, rfl, rfl, by decide +kernel, rfl, by decide +kernel, by decide +kernel⟩
theorem ok_bag {f : Addr} {fd : FuncData} (F : Fun K "_law_bag" "_law_bag" sBag f fd) (T : TB mg) : FnOk P w K mg base CX0 1 f fd ["_law_script"] (spBag K) := by
  refine F.ok scBag (fun vs H Q E h => ?_) (fun cdv A outer s H vs Q E hr h => ?_)
  · obtain ⟨a, ns, rfl, _⟩ := h
    rfl
  · obtain ⟨a, ns, rfl, hS, hl, k⟩ := h
    refine ⟨_, pss_one (ps_ret (pe_lst (pa_cons (pe_callTy call_list_of (by rfl) T.list (by decide +kernel) (pa_cons (pe_slice sl_list (pv 0) po_none (po_some pe_int)) pa_nil)) (pa_cons pe_int (pa_cons pe_int (pa_cons pe_int pa_nil)))))), ?_⟩
    refine ⟨_, rfl, _, rfl, a, _, rfl, hS, fun p hp => ⟨p, _, rfl, .inl (SqL.of upd_same), fun l hl2 => ⟨by show 4 ≤ sizeLine; decide, fun q hq => ?_⟩⟩⟩
    obtain ⟨ms, e⟩ : ∃ ms : List Int, cutV (ns.map V.int) none (some 63) = ms.map V.int := ⟨_, by unfold cutV; rw [← List.map_drop, ← List.map_take]⟩
    have sm := sNew (o := .lst [.ref l, .int 0, .int 0, .int 3842]) (sNew (o := .lst (cutV (ns.map V.int) none (some 63))) (sNew (o := .lst (cutV (ns.map V.int) none (some 63))) (Same.refl H) hp) hl2) hq
    refine k q _ (of_new (of_new hq)) ⟨l, ms, 0, 0, 3842, ne_new hq, upd_same, ?_, Nat.zero_le _, Int.le_refl _, by decide, by decide⟩ sm
    rw [upd_ne (Ne.symm (ne_new hq)), upd_same, e]
abbrev nPull : List Str := ["_law_bag_here", "_law_sides", "_law_cell", "_law_digit", "_law_twice"]
theorem scPull : FnScope nPull ["_law_bag_here", "_law_sides"] (defScope sPull) := ⟨rfl, rfl, rfl, by decide +kernel, rfl, by decide +kernel, by decide +kernel⟩
theorem ok_pull {f : Addr} {fd : FuncData} (F : Fun K "_law_pull" "_law_pull" sPull f fd) (T : TB mg) : FnOk P w K mg base CX0 1 f fd ["_law_bag_here", "_law_sides"] spPull := by
  refine F.ok scPull (fun vs H Q E h => ?_) (fun cdv A outer s H vs Q E hr h => ?_)
  · obtain ⟨b, k, rfl, _⟩ := h
    rfl
  · obtain ⟨b, m, rfl, ⟨c, ns, i, z, r, B⟩, m0, m1, k⟩ := h
    have nd := scPull.nd
    -- the second half, from any bag
    refine ⟨_, C8.pss_cut (ps_if (pw_and (pt_cmpR op_eq (pe_ix ix_list (pv 0) pe_int (fun _ _ => rfl)) pe_int (nomark _)) (pw_and1 (pt_cmpR op_lt (pe_ix ix_list (pv 0) pe_int (fun _ _ => rfl)) (pe_callB call_len_seq (by rfl) T.len PySem.boot_len (pa_cons (pe_ix ix_list (pv 0) pe_int (fun _ _ => rfl)) pa_nil)) (nomark _)))).pt
        (pss_cons (ps_set (i := 2) nd rfl (Or.inl rfl) (pe_ix ix_list (pe_ix ix_list (pv 0) pe_int (fun _ _ => rfl)) (pe_ix ix_list (pv 0) pe_int (fun _ _ => rfl)) (fun _ _ => rfl)))
        (pss_cons (ps_asg (pe_op op_add (pe_ix ix_list (pv 0) pe_int (fun _ _ => rfl)) pe_int) (pg_sub (pv 0) pe_int set_list))
        (pss_one (ps_if (pt_cmpR op_ge (pe_callB call_abs (by rfl) T.abs (by decide +kernel) (pa_cons (pv 2) pa_nil)) (pe_op op_pow pe_int pe_int) (nomark _))
          (pss_one (ps_asg (pe_callB call_abs (by rfl) T.abs (by decide +kernel) (pa_cons (pv 2) pa_nil)) (pg_sub (pv 0) pe_int set_list)))
          (pss_one (ps_asg (pe_op op_mod (pe_callTy call_int1 (by rfl) T.int (by decide +kernel) (pa_cons (pe_op op_add (pe_op op_add (pe_op op_mul (pe_ix ix_list (pv 0) pe_int (fun _ _ => rfl)) pe_int) (pe_op op_mul (pe_op op_mod (pe_callTy call_int1 (by rfl) T.int (by decide +kernel) (pa_cons (pv 2) pa_nil)) pe_int) pe_int)) pe_int) pa_nil)) pe_int) (pg_sub (pv 0) pe_int set_list)))))))
        pss_nil)
      (C8.pss_cut (ps_if (pt_cmpR op_gt (pe_ix ix_list (pv 0) pe_int (fun _ _ => rfl)) pe_int (nomark _))
        (pss_cons (ps_set (i := 3) nd rfl (Or.inl rfl) (pe_op op_mod (pe_callTy call_int1 (by rfl) T.int (by decide +kernel) (pa_cons (pe_ix ix_list (pv 0) pe_int (fun _ _ => rfl)) pa_nil)) (pv 1)))
        (pss_cons (ps_asg (pe_op op_fdiv (pe_ix ix_list (pv 0) pe_int (fun _ _ => rfl)) (pv 1)) (pg_sub (pv 0) pe_int set_list))
        (pss_one (ps_ret (pv 3)))))
        pss_nil)
      (pss_cons (ps_set (i := 4) nd rfl (Or.inl rfl) (pe_op op_mod (pe_callTy call_int1 (by rfl) T.int (by decide +kernel) (pa_cons (pe_op op_mul (pe_ix ix_list (pv 0) pe_int (fun _ _ => rfl)) (pe_ix ix_list (pv 0) pe_int (fun _ _ => rfl))) pa_nil)) pe_int))
      (pss_cons (ps_asg (pe_op op_mod (pe_callTy call_int1 (by rfl) T.int (by decide +kernel) (pa_cons (pe_op op_add (pe_op op_add (pe_op op_mul (pv 4) pe_int) (pe_op op_mul (pe_ix ix_list (pv 0) pe_int (fun _ _ => rfl)) pe_int)) pe_int) pa_nil)) pe_int) (pg_sub (pv 0) pe_int set_list))
      (pss_one (ps_ret (pe_op op_mod (pe_callTy call_int1 (by rfl) T.int (by decide +kernel) (pa_cons (pe_op op_fdiv (pe_ix ix_list (pv 0) pe_int (fun _ _ => rfl)) pe_int) pa_nil)) (pv 1))))))), ?_⟩
    have hc : ∀ {H' : Hp} {i : Nat} {z r : Int}, BagC H' b c ns i z r → H' c = some (.lst (ns.map V.int)) := fun B => B.cs
    -- what follows the first if, from any bag
    refine ⟨fun σ' H' => ∃ v i z r, σ' = [some (.ref b), some (.int m), v, none, none] ∧ BagC H' b c ns i z r ∧ Kp b H H', ?_, ?_⟩
    · refine ⟨_, rfl, b, _, _, _, rfl, rfl, SqL.of B.at_, rfl, rfl, _, rfl, ?_⟩
      refine ite2 (fun ez => ?_) (fun _ => ?_)
      · refine ⟨_, rfl, b, _, _, _, rfl, rfl, SqL.of B.at_, rfl, _, rfl, b, _, _, _, rfl, rfl, SqL.of B.at_, rfl, c, _, rfl, .inl (SqL.of B.cs), _, _, rfl, rfl, _, rfl, ?_⟩
        refine ite2 (fun hl => ?_) (fun _ => ⟨_, _, _, _, rfl, B, Kp.refl _ _⟩)
        have hl' : i < ns.length := by
          have := of_decide_eq_true hl
          rw [List.length_map] at this
          omega
        obtain ⟨n, hn⟩ : ∃ n, ns[i]? = some n := ⟨_, List.getElem?_eq_getElem hl'⟩
        have hat : atI (ns.map V.int) (i : Int) = some (V.int n) := atI_nat (by rw [List.getElem?_map, hn]; rfl)
        refine ⟨_, rfl, b, _, _, _, rfl, rfl, SqL.of B.at_, rfl, _, rfl, b, _, _, _, rfl, rfl, SqL.of B.at_, rfl, c, _, _, _, rfl, rfl, SqL.of B.cs, hat, ?_⟩
        refine ⟨_, rfl, b, _, _, _, rfl, rfl, SqL.of B.at_, rfl, _, _, rfl, rfl, _, rfl, b, _, _, _, rfl, rfl, B.at_, rfl, ?_⟩
        have B1 := B.put (i' := i + 1) (z' := z) (r' := r) (o := .lst [.ref c, .int ((i : Int) + 1), .int z, .int r]) (by rw [Int.natCast_add]; rfl) hl' B.z0 B.r0 B.r1
        have k1 : Kp b H (upd H b (.lst [.ref c, .int ((i : Int) + 1), .int z, .int r])) := Kp.upd
        refine ⟨_, rfl, _, rfl, _, _, rfl, rfl, ⟨by decide, by decide, by decide⟩, _, _, rfl, rfl, _, rfl, ?_⟩
        refine ite2 (fun _ => ?_) (fun _ => ?_)
        · refine ⟨_, rfl, _, rfl, _, rfl, b, _, _, _, rfl, rfl, upd_same, rfl, ?_⟩
          exact ⟨_, _, _, _, rfl, B1.put rfl B1.le (by split <;> omega) B1.r0 B1.r1, k1.trans Kp.upd⟩
        · refine ⟨_, rfl, b, _, _, _, rfl, rfl, SqL.of B1.at_, rfl, _, _, rfl, rfl, .inr (by decide), _, rfl, .inl ⟨_, rfl, _, _, rfl, rfl, (by show (0 : Int) < 1000003; decide), _, _, rfl, rfl, .inr (by decide), _, _, rfl, rfl, _, _, rfl, rfl, .inl ⟨_, rfl, _, _, rfl, rfl, (by show (0 : Int) < 2147483647; decide), _, rfl, b, _, _, _, rfl, rfl, upd_same, rfl, ?_⟩⟩⟩
          exact ⟨_, _, _, _, rfl, B1.put rfl B1.le B1.z0 (emod_lo _ (by decide)) (emod_hi _ (by decide)), k1.trans Kp.upd⟩
      · exact ⟨_, _, _, _, rfl, B, Kp.refl _ _⟩
    · rintro σ' H1 ⟨v, i, z, r, rfl, B, kp⟩
      -- if bag[2] > 0
      refine ⟨fun σ' H' => σ' = [some (.ref b), some (.int m), v, none, none] ∧ H' = H1, ?_, ?_⟩
      · refine ⟨_, rfl, b, _, _, _, rfl, rfl, SqL.of B.at_, rfl, _, _, rfl, rfl, _, rfl, ?_⟩
        refine ite2 (fun hz => ?_) (fun _ => ⟨rfl, rfl⟩)
        refine ⟨_, rfl, b, _, _, _, rfl, rfl, SqL.of B.at_, rfl, .inl ⟨_, rfl, _, rfl, _, _, rfl, rfl, m0, ?_⟩⟩
        refine ⟨_, rfl, b, _, _, _, rfl, rfl, SqL.of B.at_, rfl, _, rfl, _, _, rfl, rfl, ⟨m0, m1⟩, _, rfl, b, _, _, _, rfl, rfl, B.at_, rfl, ?_⟩
        refine ⟨_, rfl, ?_⟩
        exact k _ _ (emod_lo _ m0) (emod_hi _ m0) ⟨c, ns, _, _, _, B.put rfl B.le (Int.ediv_nonneg B.z0 (Int.le_of_lt m0)) B.r0 B.r1⟩ (kp.trans Kp.upd)
      · rintro σ' H2 ⟨rfl, rfl⟩
        refine ⟨_, rfl, b, _, _, _, rfl, rfl, SqL.of B.at_, rfl, _, rfl, b, _, _, _, rfl, rfl, SqL.of B.at_, rfl, _, _, rfl, rfl, .inl ⟨by have := B.r0; omega, by have := B.r1; omega⟩, .inl ⟨_, rfl, _, _, rfl, rfl, (by show (0 : Int) < 2147483629; decide), ?_⟩⟩
        refine ⟨_, rfl, _, _, rfl, rfl, .inr (by decide), _, rfl, b, _, _, _, rfl, rfl, SqL.of B.at_, rfl, _, _, rfl, rfl, .inr (by decide), _, _, rfl, rfl, _, _, rfl, rfl, .inl ⟨_, rfl, _, _, rfl, rfl, (by show (0 : Int) < 2147483647; decide), _, rfl, b, _, _, _, rfl, rfl, B.at_, rfl, ?_⟩⟩
        refine ⟨_, rfl, b, _, _, _, rfl, rfl, SqL.of upd_same, rfl, _, _, rfl, rfl, ⟨by decide, by decide⟩, .inl ⟨_, rfl, _, rfl, _, _, rfl, rfl, m0, ?_⟩⟩
        exact k _ _ (emod_lo _ m0) (emod_hi _ m0) ⟨c, ns, _, _, _, B.put rfl B.le B.z0 (emod_lo _ (by decide)) (emod_hi _ (by decide))⟩ (kp.trans Kp.upd)
end
end RF

set_option autoImplicit false
set_option linter.all false
/-! P1: the texts of the program -/
namespace Q
open PySem L2
open RF (top Df e_app app_e len_app s_assoc join_one join_nil)
local macro_rules | `(tactic| walk_at "u") => `(tactic| simp (config := { dsimp := false }) only [↓CL_of, ↓IT_of, ↓LC_of, ↓LP_of, ↓WH_of, ↓CT_of, ↓IC_of, ↓SC_of, ↓wSeq, ↓wIfS, ↓wYes, ↓wOpV, ↓wOp, ↓wC, ↓wUn, ↓wRet, ↓wJoin, ↓wJs, ↓wArg, ↓wCons, ↓wVar, ↓wBor, ↓wMv, ↓wSet, ↓wAsg, ↓wNm, ↓wTg, ↓wGCons, ↓wApp, ↓wPop, ↓wExt, ↓wSub, ↓wDrop, ↓wPar, ↓wAug, ↓wAnd, ↓wOr, ↓wNot, ↓wTru, truP, ↓wIf, ↓wAndV, ↓wOrV, ↓wNotV, ↓wChain, ↓wSl, ↓wSlV, ↓wPart, ↓wM1, ↓wMN, pStarts, pEnds, pRfind, pStripC, pParts, pStarts3, pFind3, pSS, pSSI, pMax3, ↓wFor, ↓wLc, ↓wList, ↓wTupI, ↓wRng1, ↓wRng2, ↓wEnum, ↓wZip, ↓wRevI, ↓wStrI, ↓wKw, pCallV, wipeE, pTupN, pLstN, pIx, pSl, pRev, pLen, pAbs, pInt, pBool, pStr, pList, pTuple, pSum, pNums, pBls, pIsi, pIsi2, tyN, aI_fold, cutD1, inD_nil, inD_cons, Bool.or_eq_true, decide_eq_true_eq, Bool.or_false, Bool.false_or, Bool.true_or, Bool.or_true, decide_true, decide_false, or_false, false_or, or_true, true_or, List.all_cons, List.all_nil, Bool.and_self, Bool.not_true, Bool.not_false, iff_self, if_true, if_false, Bool.false_eq_true, ofS_inj, String.reduceEq, ati0, ati1, ati2, ati3, ati4, exists_and_left, isi_NoneType_bool, isi_NoneType_int, isi_NoneType_str, isi_NoneType_list, isi_NoneType_tuple, isi_bool_bool, isi_bool_int, isi_bool_str, isi_bool_list, isi_bool_tuple, isi_int_bool, isi_int_int, isi_int_str, isi_int_list, isi_int_tuple, isi_str_bool, isi_str_int, isi_str_str, isi_str_list, isi_str_tuple, isi_list_bool, isi_list_int, isi_list_str, isi_list_list, isi_list_tuple, isi_tuple_bool, isi_tuple_int, isi_tuple_str, isi_tuple_list, isi_tuple_tuple, isi_dict_bool, isi_dict_int, isi_dict_str, isi_dict_list, isi_dict_tuple, mi_bool, mi_int, mi_str, mi_list, mi_tuple, pI2, pI2N, pAdd, pSub, pMul, pNeg, pEqF, pOrd, pIs, pIn, isNon, D.told, D.flat, pFmt, pDivmod, startE, fzs, List.map_cons, List.map_nil, List.length_cons, List.length_nil, List.cons_append, List.nil_append, List.replicate, get_s, get_z, List.set_cons_zero, List.set_cons_succ, Option.some.injEq, exists_eq', true_and, and_true, exists_eq_left', Sl.toD, Nat.sub_self, Nat.reduceAdd, Nat.reduceLeDiff, Nat.reduceLT, Int.reduceToNat, Nat.reduceSub, scalD, eqD_int, eqD_str, eqD_tt, eqD_ff, eqD_tf, eqD_ft, id_eq, reduceCtorEq, false_implies, implies_true, D.int.injEq, D.str.injEq, D.lst.injEq, D.tup.injEq, Sl.fz.injEq, Sl.ol.injEq, RF.e_app, RF.app_e, RF.emp_eq, IT_t, IT_f, IT_T, IT_F, IT_d, IT_n, IT_not])
local macro_rules | `(tactic| walk_at "l") => `(tactic| first | omega | (simp only [RF.len_app, RF.e_app, RF.app_e, RF.emp_eq, sizeLine_eq, l_dash, l_plus, l_r, l_emp, l_lp, l_rpd, l_slash, l_star, l_sp1, l_sp2, l_flo, l_com, l_rp, l_le, l_equ, l_und, l_lea, l_not, l_allS, l_some, l_spc, l_ors, l_ands, List.map_cons, List.map_nil, List.sum_cons, List.sum_nil, List.length_cons, List.length_nil, List.length_map, List.length_append, List.length_replicate, List.length_range] <;> omega))
local macro_rules | `(tactic| walk_at "f") => `(tactic| ((repeat' apply And.intro) <;> first | assumption | walk_at "l"))
local macro_rules | `(tactic| walk_at "s") => `(tactic| (repeat (refine And.intro (by walk_at "l") ?_)))
def fFig : Ph := fun ds k _ => ∃ i : Int, ds = [.int i] ∧ Fig 60 i ∧ k (.fz (.str (tS i)))
def fMul : Ph := fun ds k _ => ∃ j : Int, ds = [.int j] ∧ Fig 60 j ∧ k (.fz (.str (mulS j)))
def fSum : Ph := fun ds k _ => ∃ i j : Int, ds = [.int i, .int j] ∧ Fig 60 i ∧ Fig 60 j ∧ k (.fz (.str (sumS i j)))
def fSlope : Ph := fun ds k _ => ∃ i j m : Int, ds = [.tup [.int i, .int j, .int m]] ∧ Fig 60 i ∧ Fig 60 j ∧ Fig 60 m ∧ k (.fz (.str (stS i j m)))
section
variable {P : Program} {w : World} {K : PySem.W.Frag} {mg : Str → Option Value} {base : Heap}
abbrev s_figures : Stmt := top 20
abbrev n_figures : List Str := ["number", "block", "texts", "rest", "low", "sign", "digits"]
theorem sc_figures : FnScope n_figures ["number"] (defScope s_figures) := ⟨rfl, rfl, rfl, by decide +kernel, rfl, by decide +kernel, by decide +kernel⟩
theorem ok_figures {f : Addr} {fd : FuncData} {j : Nat} (Fu : Fun K "_figures" "_figures" s_figures f fd) (T : TN mg) : FnOk P w K mg base CX0 (j + 1) f fd ["number"] (spD K mg false fFig) := by
  refine fn_pd Fu sc_figures (fun ds k xk h => by obtain ⟨i, rfl, _⟩ := h; rfl) fun cdv A outer s H E C ds k xk hr Fi hu φ => ?_
  obtain ⟨i, rfl, hi, q⟩ := φ
  have nd := sc_figures.nd
  refine ⟨_, _, (qss_cons (qs_set (i := 1) nd rfl (Or.inl rfl) (pd_op op_pow l_pow pd_int (PD.b pd_int)))
      (qss_cons (qs_set (i := 2) nd rfl (Or.inl rfl) (pd_lst qa_nil))
      (qss_cons (qs_set (i := 3) nd rfl (Or.inl rfl) (pd_callB1 call_abs l_abs (by rfl) T.abs (by decide +kernel) (pb_var (pv 0))))
      (qss_cons (qs_while PassesOwn.never (qt_cmpV op_geA l_ord (pv 3) (pb_var (pv 1)) (nomark _))
      (qss_cons (qs_asg (pd_callB call_divmodW l_divmod (by rfl) T.divmod (by decide +kernel) (qa_cons (pd_var (pv 3)) (qa_cons (pd_var (pv 1)) qa_nil))) (qg_tup (n := 2) Fi rfl (qgs_cons (qg_name (pg_name (i := 3) nd rfl (Or.inl rfl))) (qgs_cons (qg_name (pg_name (i := 4) nd rfl (Or.inl rfl))) qgs_nil))))
        (qss_one (qs_expr (pd_app (pv 2) (pd_m1 PySem.F.slot_str_zfill PySem.F.type_str_zfill mt_zfill l_zfill (pd_callTy1 call_str_int l_str (by rfl) T.str (by decide +kernel) (pb_var (pv 4))) pd_int))))))
      (qss_cons (qs_expr (pd_app (pv 2) (pd_callTy1 call_str_int l_str (by rfl) T.str (by decide +kernel) (pb_var (pv 3)))))
      (qss_cons (qs_setC (i := 5) nd rfl (Or.inl rfl) (pd_if (qt_cmpV op_ltA l_ord (pv 0) (PD.b pd_int) (nomark _)) pd_str pd_str))
      (qss_cons (qs_set (i := 6) nd rfl (Or.inl rfl) (pd_join Fi pd_str (pd_rev Fi (pb_var (pv 2)))))
      (qss_one (qs_ret (pd_joined (.cons (pd_fmt (pb_var (pv 5))) (.cons (pd_fmt (pb_var (pv 6))) .nil)))))))))))), ?_⟩
  walk_at "u"
  refine ⟨⟨by decide, by decide, by decide⟩, 1, ?_⟩
  simp only [whW]
  walk_at "u"
  have l0 := tS_len (by decide) (aI_fig hi)
  have e1 := aI_nat i
  have e2 : ((i.natAbs : Nat) : Int) < 10 ^ 60 := by exact_mod_cast hi
  refine IT.neg (by show ¬ (10 : Int) ^ 60 ≤ _; omega) ?_
  walk_at "u"
  rw [tS_sgn] at q
  refine ⟨fig_log (aI_fig hi), setC (.fz (.str (if i < 0 then Str.ofString "-" else Str.empty))) ?_ ?_⟩
  · walk_at "u"
    refine ⟨fun h => ?_, fun h => ?_⟩
    · rw [if_pos h]
      walk_at "u"
    · rw [if_neg h]
      walk_at "u"
  have l2 : (if i < 0 then Str.ofString "-" else Str.empty).length ≤ 1 := by split <;> walk_at "l"
  walk_at "u"
  refine ⟨[tS (aI i)], rfl, by walk_at "l", ?_⟩
  rw [join_one]
  walk_at "u"
  walk_at "f"
abbrev s_multiple_text : Stmt := top 19
abbrev n_multiple_text : List Str := ["j"]
theorem sc_multiple_text : FnScope n_multiple_text ["j"] (defScope s_multiple_text) := ⟨rfl, rfl, rfl, by decide +kernel, rfl, by decide +kernel, by decide +kernel⟩
theorem ok_multiple {f : Addr} {fd : FuncData} {j : Nat} (Fu : Fun K "_multiple_text" "_multiple_text" s_multiple_text f fd) (T : TN mg) (D_figures : Df P w K mg base j "_figures" ["number"] (spD K mg false fFig)) : FnOk P w K mg base CX0 (j + 1) f fd ["j"] (spD K mg false fMul) := by
  refine fn_pd Fu sc_multiple_text (fun ds k xk h => by obtain ⟨i, rfl, _⟩ := h; rfl) fun cdv A outer s H E C ds k xk hr Fi hu φ => ?_
  obtain ⟨i, rfl, hi, q⟩ := φ
  have nd := sc_multiple_text.nd
  refine ⟨_, _, (qss_cons (qs_if (qt_cmpV (op_eqA hr.units) (l_eq Fi) (pv 0) (PD.b pd_int) (nomark _))
      (qss_one (qs_ret pd_str))
      qss_nil)
      (qss_cons (qs_if (qt_cmpV (op_eqA hr.units) (l_eq Fi) (pv 0) (PD.b (pd_un un_neg l_neg (PD.b pd_int))) (nomark _))
      (qss_one (qs_ret pd_str))
      qss_nil)
      (qss_one (qs_ret (pd_joined (.cons (pd_fmt (PD.b (pd_call Fi D_figures hr (Nat.le_refl _) (qa_cons (pd_var (pv 0)) qa_nil)))) (.cons pd_str .nil))))))), ?_⟩
  walk_at "u"
  have l0 := tS_len (by decide) hi
  refine ⟨fun h1 => ?_, fun h1 => ?_⟩
  · subst h1; rw [mulS_one] at q; exact q
  walk_at "u"
  refine ⟨fun h2 => ?_, fun h2 => ?_⟩
  · subst h2; rw [mulS_m1] at q; exact q
  walk_at "u"
  rw [mulS_else h1 h2] at q
  refine ⟨_, rfl, hi, ?_⟩
  walk_at "u"
  walk_at "f"
abbrev s_sum_text : Stmt := top 18
abbrev n_sum_text : List Str := ["i", "j", "joint"]
theorem sc_sum_text : FnScope n_sum_text ["i", "j"] (defScope s_sum_text) := ⟨rfl, rfl, rfl, by decide +kernel, rfl, by decide +kernel, by decide +kernel⟩
theorem ok_sum {f : Addr} {fd : FuncData} {j : Nat} (Fu : Fun K "_sum_text" "_sum_text" s_sum_text f fd) (T : TN mg) (D_figures : Df P w K mg base j "_figures" ["number"] (spD K mg false fFig)) (D_multiple_text : Df P w K mg base j "_multiple_text" ["j"] (spD K mg false fMul)) : FnOk P w K mg base CX0 (j + 1) f fd ["i", "j"] (spD K mg false fSum) := by
  refine fn_pd Fu sc_sum_text (fun ds k xk h => by obtain ⟨i, j, rfl, _⟩ := h; rfl) fun cdv A outer s H E C ds k xk hr Fi hu φ => ?_
  obtain ⟨i, j, rfl, hi, hj, q⟩ := φ
  have nd := sc_sum_text.nd
  refine ⟨_, _, (qss_cons (qs_if (qt_cmpV (op_eqA hr.units) (l_eq Fi) (pv 1) (PD.b pd_int) (nomark _))
      (qss_one (qs_ret (pd_call Fi D_figures hr (Nat.le_refl _) (qa_cons (pd_var (pv 0)) qa_nil))))
      qss_nil)
      (qss_cons (qs_if (qt_cmpV (op_eqA hr.units) (l_eq Fi) (pv 0) (PD.b pd_int) (nomark _))
      (qss_one (qs_ret (pd_call Fi D_multiple_text hr (Nat.le_refl _) (qa_cons (pd_var (pv 1)) qa_nil))))
      qss_nil)
      (qss_cons (qs_setC (i := 2) nd rfl (Or.inl rfl) (pd_if (qt_cmpV op_gtA l_ord (pv 1) (PD.b pd_int) (nomark _)) pd_str pd_str))
      (qss_one (qs_ret (pd_joined (.cons (pd_fmt (PD.b (pd_call Fi D_figures hr (Nat.le_refl _) (qa_cons (pd_var (pv 0)) qa_nil)))) (.cons (pd_fmt (pb_var (pv 2))) (.cons (pd_fmt (PD.b (pd_call Fi D_multiple_text hr (Nat.le_refl _) (qa_cons (pd_var (pv 1)) qa_nil)))) .nil))))))))), ?_⟩
  have l0 := tS_len (by decide) hi
  have l1 := mulS_len (by decide) hj
  unfold sumS at q
  walk_at "u"
  refine ⟨fun h1 => ?_, fun h1 => ?_⟩
  · rw [if_pos h1] at q
    walk_at "u"
    exact ⟨_, rfl, hi, q⟩
  rw [if_neg h1] at q
  walk_at "u"
  refine ⟨fun h2 => ?_, fun h2 => ?_⟩
  · rw [if_pos h2] at q
    walk_at "u"
    exact ⟨_, rfl, hj, q⟩
  rw [if_neg h2] at q
  walk_at "u"
  have l2 : (if 0 < j then Str.ofString "+" else Str.empty).length ≤ 1 := by split <;> walk_at "l"
  refine setC (.fz (.str (if 0 < j then Str.ofString "+" else Str.empty))) ?_ ?_
  · walk_at "u"
    refine ⟨fun h => ?_, fun h => ?_⟩
    · rw [if_pos h]
      walk_at "u"
    · rw [if_neg h]
      walk_at "u"
  walk_at "u"
  refine ⟨_, rfl, hi, ?_⟩
  walk_at "u"
  refine ⟨by walk_at "l", by walk_at "l", by walk_at "l", by walk_at "l", _, rfl, hj, ?_⟩
  walk_at "u"
  walk_at "f"
abbrev s_slope_text : Stmt := top 17
abbrev n_slope_text : List Str := ["slope", "i", "j", "k", "text"]
theorem sc_slope_text : FnScope n_slope_text ["slope"] (defScope s_slope_text) := ⟨rfl, rfl, rfl, by decide +kernel, rfl, by decide +kernel, by decide +kernel⟩
theorem ok_slope {f : Addr} {fd : FuncData} {j : Nat} (Fu : Fun K "slope_text" "slope_text" s_slope_text f fd) (T : TN mg) (D_figures : Df P w K mg base j "_figures" ["number"] (spD K mg false fFig)) (D_sum_text : Df P w K mg base j "_sum_text" ["i", "j"] (spD K mg false fSum)) : FnOk P w K mg base CX0 (j + 1) f fd ["slope"] (spD K mg false fSlope) := by
  refine fn_pd Fu sc_slope_text (fun ds k xk h => by obtain ⟨i, j, m, rfl, _⟩ := h; rfl) fun cdv A outer s H E C ds k xk hr Fi hu φ => ?_
  obtain ⟨i, j, m, rfl, hi, hj, hm, q⟩ := φ
  have nd := sc_slope_text.nd
  refine ⟨_, _, (qss_cons (qs_asg (pd_var (pv 0)) (qg_tup (n := 3) Fi rfl (qgs_cons (qg_name (pg_name (i := 1) nd rfl (Or.inl rfl))) (qgs_cons (qg_name (pg_name (i := 2) nd rfl (Or.inl rfl))) (qgs_cons (qg_name (pg_name (i := 3) nd rfl (Or.inl rfl))) qgs_nil)))))
      (qss_cons (qs_set (i := 4) nd rfl (Or.inl rfl) (pd_call Fi D_sum_text hr (Nat.le_refl _) (qa_cons (pd_var (pv 1)) (qa_cons (pd_var (pv 2)) qa_nil))))
      (qss_cons (qs_if (qt_cmpV (op_eqA hr.units) (l_eq Fi) (pv 3) (PD.b pd_int) (nomark _))
      (qss_one (qs_ret (pd_mv (pv 4))))
      qss_nil)
      (qss_cons (qs_ifC (qt_w (qw_and (qt_cmpV (op_neA hr.units) (l_ne Fi) (pv 1) (PD.b pd_int) (nomark _)) (qw_and1 (qt_cmpV (op_neA hr.units) (l_ne Fi) (pv 2) (PD.b pd_int) (nomark _)))))
      (qss_one (qs_ret (pd_joined (.cons pd_str (.cons (pd_fmt (pb_var (pv 4))) (.cons pd_str (.cons (pd_fmt (PD.b (pd_call Fi D_figures hr (Nat.le_refl _) (qa_cons (pd_var (pv 3)) qa_nil)))) .nil)))))))
      qss_nil)
      (qss_one (qs_ret (pd_joined (.cons (pd_fmt (pb_var (pv 4))) (.cons pd_str (.cons (pd_fmt (PD.b (pd_call Fi D_figures hr (Nat.le_refl _) (qa_cons (pd_var (pv 3)) qa_nil)))) .nil)))))))))), ?_⟩
  have l0 := sumS_len (by decide) hi hj
  have l1 := tS_len (by decide) hm
  walk_at "u"
  refine ⟨_, _, rfl, hi, hj, ?_⟩
  walk_at "u"
  unfold stS at q
  refine ⟨fun h1 => ?_, fun h1 => ?_⟩
  · rw [if_pos h1] at q
    walk_at "u"
    exact q
  rw [if_neg h1] at q
  walk_at "u"
  refine ifC (i ≠ 0 ∧ j ≠ 0) ?_ (fun h => ?_) (fun h => ?_)
  · walk_at "u"
    refine ⟨fun h2 => ?_, fun h2 => ?_⟩
    · walk_at "u"
      simp [h2]
    · walk_at "u"
      simp [h2]
  · rw [if_pos h] at q
    walk_at "u"
    refine ⟨by walk_at "l", by walk_at "l", by walk_at "l", by walk_at "l", _, rfl, hm, ?_⟩
    walk_at "u"
    walk_at "f"
  · rw [if_neg h] at q
    walk_at "u"
    refine ⟨by walk_at "l", by walk_at "l", by walk_at "l", _, rfl, hm, ?_⟩
    walk_at "u"
    walk_at "f"
end
end Q

set_option autoImplicit false
set_option linter.all false
/-! LT: the law's own text of a slope -/
namespace Q
open PySem L2
open RF (top Df e_app app_e len_app s_assoc join_one join_nil join_len)
local macro_rules | `(tactic| walk_at "u") => `(tactic| simp (config := { dsimp := false }) only [↓CL_of, ↓IT_of, ↓LC_of, ↓LP_of, ↓WH_of, ↓CT_of, ↓IC_of, ↓SC_of, ↓wSeq, ↓wIfS, ↓wYes, ↓wOpV, ↓wOp, ↓wC, ↓wUn, ↓wRet, ↓wJoin, ↓wJs, ↓wArg, ↓wCons, ↓wVar, ↓wBor, ↓wMv, ↓wSet, ↓wAsg, ↓wNm, ↓wTg, ↓wGCons, ↓wApp, ↓wPop, ↓wExt, ↓wSub, ↓wDrop, ↓wPar, ↓wAug, ↓wAnd, ↓wOr, ↓wNot, ↓wTru, truP, ↓wIf, ↓wAndV, ↓wOrV, ↓wNotV, ↓wChain, ↓wSl, ↓wSlV, ↓wPart, ↓wM1, ↓wMN, pStarts, pEnds, pRfind, pStripC, pParts, pStarts3, pFind3, pSS, pSSI, pMax3, ↓wFor, ↓wLc, ↓wList, ↓wTupI, ↓wRng1, ↓wRng2, ↓wEnum, ↓wZip, ↓wRevI, ↓wStrI, ↓wKw, pCallV, wipeE, pTupN, pLstN, pIx, pSl, pRev, pLen, pAbs, pInt, pBool, pStr, pList, pTuple, pSum, pNums, pBls, pIsi, pIsi2, tyN, aI_fold, cutD1, inD_nil, inD_cons, Bool.or_eq_true, decide_eq_true_eq, Bool.or_false, Bool.false_or, Bool.true_or, Bool.or_true, decide_true, decide_false, or_false, false_or, or_true, true_or, List.all_cons, List.all_nil, Bool.and_self, Bool.not_true, Bool.not_false, iff_self, if_true, if_false, Bool.false_eq_true, ofS_inj, String.reduceEq, ati0, ati1, ati2, ati3, ati4, exists_and_left, isi_NoneType_bool, isi_NoneType_int, isi_NoneType_str, isi_NoneType_list, isi_NoneType_tuple, isi_bool_bool, isi_bool_int, isi_bool_str, isi_bool_list, isi_bool_tuple, isi_int_bool, isi_int_int, isi_int_str, isi_int_list, isi_int_tuple, isi_str_bool, isi_str_int, isi_str_str, isi_str_list, isi_str_tuple, isi_list_bool, isi_list_int, isi_list_str, isi_list_list, isi_list_tuple, isi_tuple_bool, isi_tuple_int, isi_tuple_str, isi_tuple_list, isi_tuple_tuple, isi_dict_bool, isi_dict_int, isi_dict_str, isi_dict_list, isi_dict_tuple, mi_bool, mi_int, mi_str, mi_list, mi_tuple, pI2, pI2N, pAdd, pSub, pMul, pNeg, pEqF, pOrd, pIs, pIn, isNon, D.told, D.flat, pFmt, pDivmod, startE, fzs, List.map_cons, List.map_nil, List.length_cons, List.length_nil, List.cons_append, List.nil_append, List.replicate, get_s, get_z, List.set_cons_zero, List.set_cons_succ, Option.some.injEq, exists_eq', true_and, and_true, exists_eq_left', Sl.toD, Nat.sub_self, Nat.reduceAdd, Nat.reduceLeDiff, Nat.reduceLT, Int.reduceToNat, Nat.reduceSub, scalD, eqD_int, eqD_str, eqD_tt, eqD_ff, eqD_tf, eqD_ft, id_eq, reduceCtorEq, false_implies, implies_true, D.int.injEq, D.str.injEq, D.lst.injEq, D.tup.injEq, Sl.fz.injEq, Sl.ol.injEq, RF.e_app, RF.app_e, RF.emp_eq, IT_t, IT_f, IT_T, IT_F, IT_d, IT_n, IT_not])
local macro_rules | `(tactic| walk_at "l") => `(tactic| first | omega | (simp only [RF.len_app, RF.e_app, RF.app_e, RF.emp_eq, sizeLine_eq, l_dash, l_plus, l_r, l_emp, l_lp, l_rpd, l_slash, l_star, l_sp1, l_sp2, l_flo, l_com, l_rp, l_le, l_equ, l_und, l_lea, l_not, l_allS, l_some, l_spc, l_ors, l_ands, List.map_cons, List.map_nil, List.sum_cons, List.sum_nil, List.length_cons, List.length_nil, List.length_map, List.length_append, List.length_replicate, List.length_range] <;> omega))
local macro_rules | `(tactic| walk_at "f") => `(tactic| ((repeat' apply And.intro) <;> first | assumption | walk_at "l"))
local macro_rules | `(tactic| walk_at "s") => `(tactic| (repeat (refine And.intro (by walk_at "l") ?_)))
def fLst : Ph := fun ds k _ => ∃ i j m : Int, ds = [.int i, .int j, .int m] ∧ Fig 60 i ∧ Fig 60 j ∧ Fig 60 m ∧ k (.fz (.str (stS i j m)))
def tx2 (i j : Int) : Str := if j = 0 then tS i else szS j ++ Str.ofString "r"
def tx3 (i j : Int) : Str := if j < 0 ∧ i = 0 then Str.ofString "-" ++ tx2 i j else tx2 i j
theorem tx3_else {i j : Int} (h : ¬ (i ≠ 0 ∧ j ≠ 0)) : tx3 i j = sumS i j := by
  unfold tx3 tx2 sumS mulS
  by_cases hj : j = 0
  · subst hj
    rw [if_neg (by omega), if_pos rfl, if_pos rfl]
  · have hi : i = 0 := Classical.byContradiction fun z => h ⟨z, hj⟩
    subst hi
    rw [if_neg hj, if_neg hj, if_pos rfl]
    by_cases h2 : j < 0
    · rw [if_pos ⟨h2, rfl⟩, if_pos h2, s_assoc]
    · rw [if_neg (fun z => h2 z.1), if_neg h2, e_app]
theorem tx2_len {i j : Int} (hi : Fig 60 i) (hj : Fig 60 j) : (tx2 i j).length ≤ 63 := by
  have l0 := tS_len (by decide) hi
  have l1 := tS_len (by decide) (aI_fig hj)
  unfold tx2 szS
  split
  · omega
  · rw [len_app, l_r]
    split <;> (try simp only [l_emp]) <;> omega
theorem tx3_len {i j : Int} (hi : Fig 60 i) (hj : Fig 60 j) : (tx3 i j).length ≤ 64 := by
  have := tx2_len hi hj
  unfold tx3
  split
  · rw [len_app, l_dash]; omega
  · omega
section
variable {P : Program} {w : World} {K : PySem.W.Frag} {mg : Str → Option Value} {base : Heap}
abbrev s_law_slope_text : Stmt := top 33
abbrev n_law_slope_text : List Str := ["_law_i", "_law_j", "_law_k_z", "_law_size", "_law_text"]
theorem sc_law_slope_text : FnScope n_law_slope_text ["_law_i", "_law_j", "_law_k_z"] (defScope s_law_slope_text) := ⟨rfl, rfl, rfl, by decide +kernel, rfl, by decide +kernel, by decide +kernel⟩
theorem ok_lst {f : Addr} {fd : FuncData} {j : Nat} (Fu : Fun K "_law_slope_text" "_law_slope_text" s_law_slope_text f fd) (T : TN mg) : FnOk P w K mg base CX0 (j + 1) f fd ["_law_i", "_law_j", "_law_k_z"] (spD K mg false fLst) := by
  refine fn_pd Fu sc_law_slope_text (fun ds k xk h => by obtain ⟨i, j, m, rfl, _⟩ := h; rfl) fun cdv A outer s H E C ds k xk hr Fi hu φ => ?_
  have nd := sc_law_slope_text.nd
  refine ⟨_, _, (qss_cons (qs_setC (i := 3) nd rfl (Or.inl rfl) (pd_if (qt_cmp (op_eqA hr.units) (l_eq Fi) (pd_callB1 call_abs l_abs (by rfl) T.abs (by decide +kernel) (pb_var (pv 1))) (PD.b pd_int) (nomark _)) pd_str (pd_callTy1 call_str_int l_str (by rfl) T.str (by decide +kernel) (PD.b (pd_callB1 call_abs l_abs (by rfl) T.abs (by decide +kernel) (pb_var (pv 1)))))))
      (qss_cons (qs_setC (i := 4) nd rfl (Or.inl rfl) (pd_if (qt_cmpV (op_eqA hr.units) (l_eq Fi) (pv 1) (PD.b pd_int) (nomark _)) (pd_callTy1 call_str_int l_str (by rfl) T.str (by decide +kernel) (pb_var (pv 0))) (pd_opV op_addA (l_add Fi) (pv 3) (PD.b pd_str))))
      (qss_cut (qs_ifC (qt_w (qw_and (qt_cmpV op_ltA l_ord (pv 1) (PD.b pd_int) (nomark _)) (qw_and1 (qt_cmpV (op_eqA hr.units) (l_eq Fi) (pv 0) (PD.b pd_int) (nomark _)))))
      (qss_one (qs_set (i := 4) nd rfl (Or.inl rfl) (pd_op op_addA (l_add Fi) pd_str (pb_var (pv 4)))))
      qss_nil)
      (qss_cut (qs_ifC (qt_w (qw_and (qt_cmpV (op_neA hr.units) (l_ne Fi) (pv 0) (PD.b pd_int) (nomark _)) (qw_and1 (qt_cmpV (op_neA hr.units) (l_ne Fi) (pv 1) (PD.b pd_int) (nomark _)))))
      (qss_one (qs_set (i := 4) nd rfl (Or.inl rfl) (pd_op op_addA (l_add Fi) (pd_op op_addA (l_add Fi) (pd_op op_addA (l_add Fi) (pd_callTy1 call_str_int l_str (by rfl) T.str (by decide +kernel) (pb_var (pv 0))) (PD.b (pd_if (qt_cmpV op_ltA l_ord (pv 1) (PD.b pd_int) (nomark _)) pd_str pd_str))) (pb_var (pv 3))) (PD.b pd_str))))
      qss_nil)
      (qss_cons (qs_if (qt_cmpV (op_eqA hr.units) (l_eq Fi) (pv 2) (PD.b pd_int) (nomark _))
      (qss_one (qs_ret (pd_mv (pv 4))))
      qss_nil)
      (qss_one (qs_ret (pd_if (qt_w (qw_and (qt_cmpV (op_neA hr.units) (l_ne Fi) (pv 0) (PD.b pd_int) (nomark _)) (qw_and1 (qt_cmpV (op_neA hr.units) (l_ne Fi) (pv 1) (PD.b pd_int) (nomark _))))) (pd_op op_addA (l_add Fi) (pd_op op_addA (l_add Fi) (pd_op op_addA (l_add Fi) pd_str (pb_var (pv 4))) (PD.b pd_str)) (PD.b (pd_callTy1 call_str_int l_str (by rfl) T.str (by decide +kernel) (pb_var (pv 2))))) (pd_op op_addA (l_add Fi) (pd_opV op_addA (l_add Fi) (pv 4) (PD.b pd_str)) (PD.b (pd_callTy1 call_str_int l_str (by rfl) T.str (by decide +kernel) (pb_var (pv 2))))))))))))), ?_⟩
  obtain ⟨i, j, m, rfl, hi, hj, hm, q⟩ := φ
  have l0 := tS_len (by decide) hi
  have l1 := tS_len (by decide) (aI_fig hj)
  have l2 := tS_len (by decide) hm
  have l3 := sumS_len (by decide) hi hj
  have l4 : (szS j).length ≤ 61 := by unfold szS; split <;> walk_at "l"
  have l5 := tx2_len hi hj
  have l6 := tx3_len hi hj
  walk_at "u"
  refine setC (.fz (.str (szS j))) ?_ ?_
  · walk_at "u"
    unfold szS
    refine ⟨fun h => ?_, fun h => ?_⟩
    · rw [if_pos h]
      walk_at "u"
    · rw [if_neg h]
      walk_at "u"
      exact fig_log (aI_fig hj)
  walk_at "u"
  refine setC (.fz (.str (tx2 i j))) ?_ ?_
  · walk_at "u"
    unfold tx2
    refine ⟨fun h => ?_, fun h => ?_⟩
    · rw [if_pos h]
      walk_at "u"
      exact fig_log hi
    · rw [if_neg h]
      walk_at "u"
      walk_at "f"
  walk_at "u"
  refine cutS 4 (.fz (.str (tx3 i j))) ?_ ?_
  · walk_at "u"
    refine ifC (j < 0 ∧ i = 0) ?_ (fun h => ?_) (fun h => ?_)
    · walk_at "u"
      refine ⟨fun h2 => ?_, fun h2 => ?_⟩
      · walk_at "u"
        simp [h2]
      · walk_at "u"
        simp [h2]
    · walk_at "u"
      unfold tx3
      rw [if_pos h]
      walk_at "u"
      walk_at "f"
    · walk_at "u"
      unfold tx3
      rw [if_neg h]
  walk_at "u"
  refine cutS 4 (.fz (.str (sumS i j))) ?_ ?_
  · walk_at "u"
    refine ifC (i ≠ 0 ∧ j ≠ 0) ?_ (fun h => ?_) (fun h => ?_)
    · walk_at "u"
      refine ⟨fun h2 => ?_, fun h2 => ?_⟩
      · walk_at "u"
        simp [h2]
      · walk_at "u"
        simp [h2]
    · walk_at "u"
      refine ⟨fig_log hi, fun h2 => ?_, fun h2 => ?_⟩
      · rw [sumS_neg h.1 h2]
        walk_at "u"
        walk_at "f"
      · rw [sumS_pos h.1 h.2 h2]
        walk_at "u"
        walk_at "f"
    · walk_at "u"
      rw [tx3_else h]
  walk_at "u"
  unfold stS at q
  refine ⟨fun h => ?_, fun h => ?_⟩
  · rw [if_pos h] at q
    walk_at "u"
    exact q
  rw [if_neg h] at q
  walk_at "u"
  refine ⟨fun h1 => ?_, fun h1 => ?_⟩
  · rw [if_neg (by omega)] at q
    walk_at "u"
    have := fig_log hm
    walk_at "f"
  walk_at "u"
  refine ⟨fun h2 => ?_, fun h2 => ?_⟩
  · rw [if_neg (by omega)] at q
    walk_at "u"
    have := fig_log hm
    walk_at "f"
  · rw [if_pos ⟨h1, h2⟩] at q
    walk_at "u"
    have := fig_log hm
    walk_at "f"
end
end Q

namespace RF
open PySem L2 PyProof.Rows
def whole : D → Bool
  | .int _ => true
  | _ => false
def btw (d : D) (lo hi : Int) : Bool := match d with
  | .int i => decide (lo ≤ i) && decide (i ≤ hi)
  | _ => false
def rootD : D → Bool
  | .int i => decide (i ∈ [2, 3, 5, 6, 13])
  | _ => false
def spWhole (K : PySem.W.Frag) : Sp := fun vs H Q _ => ∃ (v : V) (d : D), vs = [v] ∧ Rp K H v d ∧ Q (.bl (whole d)) H
def spBtw (K : PySem.W.Frag) : Sp := fun vs H Q _ => ∃ (v : V) (d : D) (lo hi : Int), vs = [v, .int lo, .int hi] ∧ Rp K H v d ∧ Q (.bl (btw d lo hi)) H
def spIsRoot (K : PySem.W.Frag) : Sp := fun vs H Q _ => ∃ (v : V) (d : D), vs = [v] ∧ Rp K H v d ∧ Q (.bl (rootD d)) H
section
variable {P : Program} {w : World} {K : PySem.W.Frag} {mg : Str → Option Value} {base : Heap}
abbrev s_is_whole : Stmt := top 12
abbrev n_is_whole : List Str := ["value"]
theorem sc_is_whole : FnScope n_is_whole ["value"] (defScope s_is_whole) := ⟨rfl, rfl, rfl, by decide +kernel, rfl, by decide +kernel, by decide +kernel⟩
theorem ok_whole {f : Addr} {fd : FuncData} {k : Nat} (F : Fun K "is_whole" "is_whole" s_is_whole f fd) (T1 : mg "isinstance" = none) (T2 : mg "int" = none) (T3 : mg "bool" = none) : FnOk P w K mg base CX0 (k + 1) f fd ["value"] (spWhole K) := by
  refine F.ok sc_is_whole (fun vs H Q E h => ?_) (fun cdv A outer s H vs Q E hr h => ?_)
  · obtain ⟨v, d, rfl, _⟩ := h
    rfl
  · obtain ⟨v, d, rfl, hv, q⟩ := h
    refine ⟨_, (pss_one (ps_ret (pe_and (pe_callB call_isi (by rfl) T1 (by decide +kernel) (pa_cons (pv 0) (pa_cons (pe_bltn (v := .ty "int") (by rfl) T2 (by decide +kernel) rfl) pa_nil))) (pe_one (pe_not (pe_callB call_isi (by rfl) T1 (by decide +kernel) (pa_cons (pv 0) (pa_cons (pe_bltn (v := .ty "bool") (by rfl) T3 (by decide +kernel) rfl) pa_nil)))))))), ?_⟩
    refine ⟨_, rfl, _, _, _, _, _, rfl, .ty _, tyX _ hv, kit_ty (kit_int _), _, rfl, ?_⟩
    by_cases hi : isInt d = true
    · refine iteP hi ⟨_, rfl, _, _, _, _, _, rfl, .ty _, tyX _ hv, kit_ty (kit_bool _), _, rfl, ?_⟩
      have e : (!isBool d) = whole d := by cases d <;> first | rfl | cases hi
      rw [e]
      exact q
    · refine iteN hi ?_
      have e : whole d = false := by cases d <;> first | rfl | exact absurd rfl hi
      rw [e] at q
      exact q
abbrev s_is_between : Stmt := top 13
abbrev n_is_between : List Str := ["value", "low", "high"]
theorem sc_is_between : FnScope n_is_between ["value", "low", "high"] (defScope s_is_between) := ⟨rfl, rfl, rfl, by decide +kernel, rfl, by decide +kernel, by decide +kernel⟩
theorem ok_btw {f : Addr} {fd : FuncData} {k : Nat} (F : Fun K "is_between" "is_between" s_is_between f fd) (D1 : Df P w K mg base k "is_whole" ["value"] (spWhole K)) : FnOk P w K mg base CX0 (k + 1) f fd ["value", "low", "high"] (spBtw K) := by
  refine F.ok sc_is_between (fun vs H Q E h => ?_) (fun cdv A outer s H vs Q E hr h => ?_)
  · obtain ⟨v, d, lo, hi, rfl, _⟩ := h
    rfl
  · obtain ⟨v, d, lo, hi, rfl, hv, q⟩ := h
    refine ⟨_, (pss_one (ps_ret (pe_and (pe_callD D1 hr (Nat.le_refl _) (pa_cons (pv 0) pa_nil)) (pe_one (pe_chain op_le op_le (pv 1) (pv 0) (pv 2)))))), ?_⟩
    refine ⟨_, rfl, v, d, rfl, hv, _, rfl, ?_⟩
    by_cases hi' : whole d = true
    · refine iteP hi' ?_
      cases d with
      | int i =>
        obtain rfl : v = .int i := hv
        refine ⟨_, rfl, _, rfl, _, _, rfl, rfl, _, rfl, ?_⟩
        by_cases h1 : lo ≤ i
        · refine iteP (decide_eq_true h1) ⟨_, rfl, _, _, rfl, rfl, ?_⟩
          have e : btw (.int i) lo hi = decide (i ≤ hi) := by show (decide (lo ≤ i) && decide (i ≤ hi)) = _; rw [decide_eq_true h1]; rfl
          rw [e] at q
          exact q
        · refine iteN (nd_of h1) ?_
          have e : btw (.int i) lo hi = false := by show (decide (lo ≤ i) && decide (i ≤ hi)) = _; rw [decide_eq_false h1]; rfl
          rw [e] at q
          exact q
      | _ => cases hi'
    · refine iteN hi' ?_
      have e : btw d lo hi = false := by cases d <;> first | rfl | exact absurd rfl hi'
      rw [e] at q
      exact q
abbrev s_is_root : Stmt := top 14
abbrev n_is_root : List Str := ["value"]
theorem sc_is_root : FnScope n_is_root ["value"] (defScope s_is_root) := ⟨rfl, rfl, rfl, by decide +kernel, rfl, by decide +kernel, by decide +kernel⟩
theorem ok_isroot {f : Addr} {fd : FuncData} {k : Nat} {pd : Addr} (F : Fun K "is_root" "is_root" s_is_root f fd) (D1 : Df P w K mg base k "is_whole" ["value"] (spWhole K)) (mP : mg "PERIODS" = some (.ref pd)) (kP : IntKeys K pd [2, 3, 5, 6, 13]) :
    FnOk P w K mg base CX0 (k + 1) f fd ["value"] (spIsRoot K) := by
  refine F.ok sc_is_root (fun vs H Q E h => ?_) (fun cdv A outer s H vs Q E hr h => ?_)
  · obtain ⟨v, d, rfl, _⟩ := h
    rfl
  · obtain ⟨v, d, rfl, hv, q⟩ := h
    refine ⟨_, (pss_one (ps_ret (pe_and (pe_callD D1 hr (Nat.le_refl _) (pa_cons (pv 0) pa_nil)) (pe_one (pe_cmpR op_in_intd (pv 0) (pe_glob (v := .ref pd) (by rfl) mP rfl) rfl))))), ?_⟩
    refine ⟨_, rfl, v, d, rfl, hv, _, rfl, ?_⟩
    by_cases hi' : whole d = true
    · refine iteP hi' ?_
      cases d with
      | int i =>
        obtain rfl : v = .int i := hv
        exact ⟨_, rfl, _, _, _, rfl, rfl, kP, q⟩
      | _ => cases hi'
    · refine iteN hi' ?_
      have e : rootD d = false := by cases d <;> first | rfl | exact absurd rfl hi'
      rw [e] at q
      exact q
end
end RF

namespace RF
open PySem L2 PyProof.Rows
/-- what is known of the class -/
structure TxS (K : PySem.W.Frag) (mg : Str → Option Value) (C : Addr) : Prop where
  cl : Cls K C
  nR : NoAttr K C "_root"
  nP : NoAttr K C "_parts"
  mg : mg "Surd" = some (.ref C)
def spSInit (C : Addr) : Sp := fun vs H Q _ => ∃ (p dx : Addr) (d i j k : Int), vs = [.ref p, .int d, .int i, .int j, .int k] ∧ H p = some (.ins C dx []) ∧ Root d ∧ k ≠ 0 ∧ Bd 1000 i ∧ Bd 1000 j ∧ Bd 1000 k ∧
  ∀ H', SurdAt H' C p d (pI i j k) (pJ i j k) (pK i j k) → (∀ b o, H b = some o → b ≠ p → H' b = some o) → Q .non H'
section
variable {P : Program} {w : World} {K : PySem.W.Frag} {mg : Str → Option Value} {base : Heap}
abbrev sS (i : Nat) : Stmt := inClass (top 21) i
abbrev n_SInit : List Str := ["self", "root", "i", "j", "k", "divisor"]
theorem sc_SInit : FnScope n_SInit ["self", "root", "i", "j", "k"] (defScope (sS 0)) := ⟨rfl, rfl, rfl, by decide +kernel, rfl, by decide +kernel, by decide +kernel⟩
theorem ok_SInit {f C : Addr} {fd : FuncData} {k : Nat} {dvs : List V} {kws : List (Str × V)} (F : FunD K "__init__" "Surd.__init__" (defArgs (sS 0)) (defBody (sS 0)) (defScope (sS 0)) dvs kws f fd) (T : TxS K mg C) (mG : mg "gcd" = some (.builtin "math.gcd"))
    (D1 : Df P w K mg base k "is_root" ["value"] (spIsRoot K)) : FnOk P w K mg base CX0 (k + 1) f fd ["self", "root", "i", "j", "k"] (spSInit C) := by
  refine F.ok sc_SInit (fun vs H Q E h => ?_) (fun cdv A outer s H vs Q E hr h => ?_)
  · obtain ⟨p, dx, d, i, j, k, rfl, _⟩ := h
    rfl
  · obtain ⟨p, dx, d, i, j, m, rfl, hp, hd, m0, bi, bj, bm, q⟩ := h
    have nd := sc_SInit.nd
    refine ⟨_, PSs.nox (pss_cons (ps_if (pt_not (pt_val (pe_callD D1 hr (Nat.le_refl _) (pa_cons (pv 1) pa_nil))))
      (pss_one ps_never)
      pss_nil)
      (pss_cons (ps_if (pt_cmpR op_eq (pv 4) pe_int (nomark _))
      (pss_one ps_never)
      pss_nil)
      (pss_cons (ps_set (i := 5) nd rfl (Or.inl rfl) (pe_callBfun cr_gcd3 (by rfl) mG (pa_cons (pv 2) (pa_cons (pv 3) (pa_cons (pv 4) pa_nil)))))
      (C8.pss_cut (ps_if (pt_cmpR op_lt (pv 4) pe_int (nomark _))
      (pss_one (ps_set (i := 5) nd rfl (Or.inl rfl) (pe_un un_neg (pv 5))))
      pss_nil)
      (pss_cons (ps_fld (pv 0) (pv 1) rfl)
      (pss_one (ps_fld (pv 0) (pe_tup (pa_cons (pe_op op_fdivNW (pv 2) (pv 5)) (pa_cons (pe_op op_fdivNW (pv 3) (pv 5)) (pa_cons (pe_op op_fdivNW (pv 4) (pv 5)) pa_nil)))) rfl))))))), ?_⟩
    have er : rootD (.int d) = true := decide_eq_true (by unfold Root at hd; simp; omega)
    refine ⟨_, rfl, _, .int d, rfl, rfl, _, rfl, ?_⟩
    rw [er]
    refine iteF ?_
    refine ⟨_, rfl, rfl, _, rfl, iteN (nd_of (fun z => m0 (by cases z; rfl))) ?_⟩
    refine ⟨_, rfl, _, rfl, _, rfl, _, _, _, rfl, ?_⟩
    refine ⟨fun σ' H' => σ' = [some (.ref p), some (.int d), some (.int i), some (.int j), some (.int m), some (.int (gs i j m))] ∧ H' = H, ?_, ?_⟩
    · refine ⟨_, rfl, _, _, rfl, rfl, _, rfl, ite2 (fun h => ?_) (fun h => ?_)⟩
      · refine ⟨_, rfl, _, rfl, ?_⟩
        have hm : m < 0 := of_decide_eq_true h
        refine ⟨?_, rfl⟩
        unfold gs
        rw [if_pos hm]
        rfl
      · have hm : ¬ m < 0 := fun z => h (decide_eq_true z)
        refine ⟨?_, rfl⟩
        unfold gs
        rw [if_neg hm]
        rfl
    · rintro σ' H1 ⟨rfl, rfl⟩
      have gn := gs_ne (i := i) (j := j) m0
      have gb : (gs i j m).natAbs.log2 < 9000 := Nat.lt_of_lt_of_le ((bm.le (gs_natAbs (i := i) (j := j) m0)).log (by decide)) (by decide)
      refine ⟨_, rfl, _, rfl, p, C, dx, [], rfl, hp, T.cl, T.nR, (by show 0 < 1000; decide), ?_⟩
      refine ⟨_, rfl, _, rfl, _, _, rfl, rfl, ⟨gn, gb⟩, _, rfl, _, rfl, _, _, rfl, rfl, ⟨gn, gb⟩, _, rfl, _, rfl, _, _, rfl, rfl, ⟨gn, gb⟩, (by show 3 ≤ sizeLine; decide), fun t ht => ?_⟩
      have npt : p ≠ t := (ne_new ht).symm
      refine ⟨_, rfl, p, C, dx, _, rfl, by rw [upd_ne npt, upd_same], T.cl, T.nP, (Nat.lt_of_le_of_lt (length_putF _ _ _) (by decide)), ?_⟩
      refine q _ ⟨dx, t, upd_same, ?_⟩ fun b o e nb => ?_
      · rw [upd_ne npt.symm, upd_same]; rfl
      · have e1 : upd H1 p (.ins C dx (putF "_root" (.int d) [])) b = some o := by rw [upd_ne nb]; exact e
        rw [upd_ne nb, upd_ne (ne_of_none e1 ht), upd_ne nb]
        exact e
end
end RF

namespace RF
open PySem L2 PyProof.Rows
/-- at p: the surd (i + j r) / k of the root d, in lowest terms -/
def SV (H : Hp) (C p : Addr) (d i j k : Int) : Prop := k ≠ 0 ∧ SurdAt H C p d (pI i j k) (pJ i j k) (pK i j k)
theorem SV.same {H H' : Hp} {C p : Addr} {d i j k : Int} (s : Same H H') (h : SV H C p d i j k) : SV H' C p d i j k := ⟨h.1, h.2.same s⟩
theorem SV.cong {H : Hp} {C p : Addr} {d i j k i' j' k' : Int} (h : SV H C p d i j k) (hk : k' ≠ 0) (h1 : i * k' = i' * k) (h2 : j * k' = j' * k) : SV H C p d i' j' k' := by
  obtain ⟨e1, e2, e3⟩ := parts_eq h.1 hk h1 h2
  exact ⟨hk, by rw [← e1, ← e2, ← e3]; exact h.2⟩
structure MkS (P : Program) (w : World) (K : PySem.W.Frag) (mg : Str → Option Value) (base : Heap) (C : Addr) (k : Nat) : Prop where
  ex : ∃ (f : Addr) (fd : FuncData), Mk K C f ∧ FnOk P w K mg base CX0 k f fd ["self", "root", "i", "j", "k"] (spSInit C) ∧ KBn K fd ["self", "root", "i", "j", "k"] 4 ["k"] (fun us ws => us ++ ws) (fun vs zs => vs ++ zs) ∧
    (∃ ds, Vals [.int 1] ds ∧ Binds K fd ["self", "root", "i", "j", "k"] ds) ∧ ∃ ds, Vals [.int 0, .int 1] ds ∧ Binds K fd ["self", "root", "i", "j", "k"] ds
def spSign (C : Addr) : Sp := fun vs H Q _ => ∃ (p : Addr) (d i j k : Int), vs = [.ref p] ∧ SV H C p d i j k ∧ 0 < k ∧ Root d ∧ Bd 900 i ∧ Bd 900 j ∧ Q (.int (sg d i j)) H
def flS (d i j k : Int) : Int := (pI i j k + flr d (pJ i j k)) / pK i j k
def spFlS (C : Addr) : Sp := fun vs H Q _ => ∃ (p : Addr) (d i j k : Int), vs = [.ref p] ∧ SV H C p d i j k ∧ Root d ∧ Bd 900 i ∧ Bd 900 j ∧ Bd 900 k ∧ Q (.int (flS d i j k)) H
def spNegS (C : Addr) : Sp := fun vs H Q _ => ∃ (p : Addr) (d i j k : Int), vs = [.ref p] ∧ SV H C p d i j k ∧ Root d ∧ Bd 900 i ∧ Bd 900 j ∧ Bd 900 k ∧
  ∀ (x : Addr) (H' : Hp), H x = none → SV H' C x d (-i) (-j) k → Same H H' → Q (.ref x) H'
def spAddS (C : Addr) : Sp := fun vs H Q _ => ∃ (p q : Addr) (d i j k i2 j2 k2 : Int), vs = [.ref p, .ref q] ∧ SV H C p d i j k ∧ SV H C q d i2 j2 k2 ∧ Root d ∧ Bd 400 i ∧ Bd 400 j ∧ Bd 400 k ∧ Bd 400 i2 ∧ Bd 400 j2 ∧ Bd 400 k2 ∧
  ∀ (x : Addr) (H' : Hp), H x = none → SV H' C x d (i * k2 + i2 * k) (j * k2 + j2 * k) (k * k2) → Same H H' → Q (.ref x) H'
def spSubS (C : Addr) : Sp := fun vs H Q _ => ∃ (p q : Addr) (d i j k i2 j2 k2 : Int), vs = [.ref p, .ref q] ∧ SV H C p d i j k ∧ SV H C q d i2 j2 k2 ∧ Root d ∧ Bd 400 i ∧ Bd 400 j ∧ Bd 400 k ∧ Bd 400 i2 ∧ Bd 400 j2 ∧ Bd 400 k2 ∧
  ∀ (x : Addr) (H' : Hp), H x = none → SV H' C x d (i * k2 - i2 * k) (j * k2 - j2 * k) (k * k2) → Same H H' → Q (.ref x) H'
def spCmpS (C : Addr) : Sp := fun vs H Q _ => ∃ (p q : Addr) (d i j k i2 j2 k2 : Int), vs = [.ref p, .ref q] ∧ SV H C p d i j k ∧ SV H C q d i2 j2 k2 ∧ 0 < k ∧ 0 < k2 ∧ Root d ∧ Bd 400 i ∧ Bd 400 j ∧ Bd 400 k ∧ Bd 400 i2 ∧ Bd 400 j2 ∧ Bd 400 k2 ∧
  ∀ (H' : Hp), Same H H' → Q (.int (sg d (i * k2 - i2 * k) (j * k2 - j2 * k))) H'
section
variable {P : Program} {w : World} {K : PySem.W.Frag} {mg : Str → Option Value} {base : Heap}
abbrev n_SSign : List Str := ["self", "i", "j", "_", "balance"]
theorem sc_SSign : FnScope n_SSign ["self"] (defScope (sS 4)) := ⟨rfl, rfl, rfl, by decide +kernel, rfl, by decide +kernel, by decide +kernel⟩
theorem ok_SSign {f C : Addr} {fd : FuncData} {k : Nat} (F : Fun K "sign" "Surd.sign" (sS 4) f fd) (T : TxS K mg C) (mA : mg "abs" = none) : FnOk P w K mg base CX0 (k + 1) f fd ["self"] (spSign C) := by
  refine F.ok sc_SSign (fun vs H Q E h => ?_) (fun cdv A outer s H vs Q E hr h => ?_)
  · obtain ⟨p, d, i, j, k, rfl, _⟩ := h
    rfl
  · obtain ⟨p, d, i, j, k, rfl, ⟨k0, dx, t, hp, ht⟩, kp, hd, bi, bj, q⟩ := h
    have nd := sc_SSign.nd
    refine ⟨_, (pss_cons (ps_asg (pe_fld (pv 0) rfl) (pg_tup rfl (pgs_cons (pg_name (i := 1) nd rfl (Or.inl rfl)) (pgs_cons (pg_name (i := 2) nd rfl (Or.inl rfl)) (pgs_cons (pg_name (i := 3) nd rfl (Or.inl rfl)) pgs_nil)))))
      (pss_cons (ps_set (i := 4) nd rfl (Or.inl rfl) (pe_op op_add (pe_op op_mulW (pv 1) (pe_callB call_abs (by rfl) mA (by decide +kernel) (pa_cons (pv 1) pa_nil))) (pe_op op_mulW (pe_op op_mulW (pe_fld (pv 0) rfl) (pv 2)) (pe_callB call_abs (by rfl) mA (by decide +kernel) (pa_cons (pv 2) pa_nil)))))
      (pss_cons (ps_if (pt_cmpR op_gt (pv 4) pe_int (nomark _))
      (pss_one (ps_ret pe_int))
      pss_nil)
      (pss_cons (ps_if (pt_cmpR op_lt (pv 4) pe_int (nomark _))
      (pss_one (ps_ret (pe_un un_neg pe_int)))
      pss_nil)
      (pss_one (ps_ret pe_int)))))), ?_⟩
    have ei : Bd 900 (pI i j k) := bi.le (pI_le k0)
    have ej : Bd 900 (pJ i j k) := bj.le (pJ_le k0)
    rw [← sg_parts (i := i) (j := j) kp] at q
    generalize pI i j k = x at *
    generalize pJ i j k = y at *
    refine ⟨_, rfl, p, C, dx, _, _, rfl, hp, T.cl, T.nP, sfl_parts _ _, t, _, rfl, SqT.of ht, rfl, _, _, rfl, _, _, rfl, _, _, rfl, rfl, ?_⟩
    refine ⟨_, rfl, _, rfl, _, rfl, _, _, rfl, rfl, mulOk ei ei.ab (by decide) (by decide) (by decide), ?_⟩
    refine ⟨_, rfl, p, C, dx, _, _, rfl, hp, T.cl, T.nR, sfl_root _ _, _, rfl, _, _, rfl, rfl, mulOk (rootBd hd) ej (by decide) (by decide) (by decide), _, rfl, _, rfl, _, _, rfl, rfl, mulOk ((rootBd hd).mul ej) ej.ab (by decide) (by decide) (by decide), _, _, rfl, rfl, ?_⟩
    refine ⟨_, rfl, _, _, rfl, rfl, _, rfl, ite2 (fun h => ?_) (fun h => ?_)⟩
    · have : 0 < sgb d x y := of_decide_eq_true h
      unfold sg at q
      rw [if_pos this] at q
      exact q
    · have n1 : ¬ 0 < sgb d x y := fun z => h (decide_eq_true z)
      refine ⟨_, rfl, _, _, rfl, rfl, _, rfl, ite2 (fun h => ?_) (fun h => ?_)⟩
      · have : sgb d x y < 0 := of_decide_eq_true h
        unfold sg at q
        rw [if_neg n1, if_pos this] at q
        exact ⟨_, rfl, q⟩
      · have n2 : ¬ sgb d x y < 0 := fun z => h (decide_eq_true z)
        unfold sg at q
        rw [if_neg n1, if_neg n2] at q
        exact q
abbrev n_SNeg : List Str := ["self", "i", "j", "k"]
theorem sc_SNeg : FnScope n_SNeg ["self"] (defScope (sS 11)) := ⟨rfl, rfl, rfl, by decide +kernel, rfl, by decide +kernel, by decide +kernel⟩
theorem ok_SNeg {f C : Addr} {fd : FuncData} {k : Nat} (F : Fun K "__neg__" "Surd.__neg__" (sS 11) f fd) (T : TxS K mg C) (M : MkS P w K mg base C k) : FnOk P w K mg base CX0 (k + 2) f fd ["self"] (spNegS C) := by
  refine F.ok sc_SNeg (fun vs H Q E h => ?_) (fun cdv A outer s H vs Q E hr h => ?_)
  · obtain ⟨p, d, i, j, k, rfl, _⟩ := h
    rfl
  · obtain ⟨p, d, i, j, k, rfl, ⟨k0, dx, t, hp, ht⟩, hd, bi, bj, bk, q⟩ := h
    have nd := sc_SNeg.nd
    obtain ⟨fi, fdi, M1, G, kb, _, _⟩ := M.ex
    refine ⟨_, (pss_cons (ps_asg (pe_fld (pv 0) rfl) (pg_tup rfl (pgs_cons (pg_name (i := 1) nd rfl (Or.inl rfl)) (pgs_cons (pg_name (i := 2) nd rfl (Or.inl rfl)) (pgs_cons (pg_name (i := 3) nd rfl (Or.inl rfl)) pgs_nil)))))
      (pss_one (ps_ret (pe_makeK M1 G hr rfl T.mg kb pass0 (pa_cons (pe_fld (pv 0) rfl) (pa_cons (pe_un un_neg (pv 1)) (pa_cons (pe_un un_neg (pv 2)) pa_nil))) (pk_cons (pv 3) pk_nil))))), ?_⟩
    have ei : Bd 900 (pI i j k) := bi.le (pI_le k0)
    have ej : Bd 900 (pJ i j k) := bj.le (pJ_le k0)
    have ek : Bd 900 (pK i j k) := bk.le (pK_le k0)
    have kp := pK_pos (i := i) (j := j) k0
    refine ⟨_, rfl, p, C, dx, _, _, rfl, hp, T.cl, T.nP, sfl_parts _ _, t, _, rfl, SqT.of ht, rfl, _, _, rfl, _, _, rfl, _, _, rfl, rfl, ?_⟩
    refine ⟨_, rfl, p, C, dx, _, _, rfl, hp, T.cl, T.nR, sfl_root _ _, _, rfl, _, rfl, _, rfl, _, rfl, _, rfl, rfl, rfl, fun x dx2 nx ndx nex => ?_⟩
    refine ⟨x, dx2, d, _, _, _, rfl, upd_same, hd, by omega, (ei.mono (by decide)).neg, (ej.mono (by decide)).neg, ek.mono (by decide), fun H' S kp' => ⟨rfl, ?_⟩⟩
    have sm := Same.made nx ndx kp'
    refine q x H' nx (SV.cong ⟨by omega, S⟩ k0 ?_ ?_) sm
    · have a1 := pI_eq (i := i) (j := j) k0
      have a3 := pK_eq (i := i) (j := j) k0
      generalize gs i j k = g at *
      generalize pI i j k = X at *
      generalize pK i j k = Z at *
      rw [a1, a3]; grind
    · have a2 := pJ_eq (i := i) (j := j) k0
      have a3 := pK_eq (i := i) (j := j) k0
      generalize gs i j k = g at *
      generalize pJ i j k = Y at *
      generalize pK i j k = Z at *
      rw [a2, a3]; grind
end
end RF

namespace RF
open PySem L2 PyProof.Rows
structure IsS (K : PySem.W.Frag) (mg : Str → Option Value) (C : Addr) : Prop where
  ha : PySem.W.findIn K (.ref C) "__class__" = some (some (.builtin "object.__class__"))
  hn : PySem.W.specialIn K (.builtin "object.__class__") "__get__" = some (some (.builtin "getset_descriptor.__get__"))
  htk : PySem.W.takesIn K (.builtin "object.__class__") = some true
  hm : PySem.W.mroIn K C (.type "object") = some true
  mi : mg "isinstance" = none
theorem tyS {K : PySem.W.Frag} {mg : Str → Option Value} {H : Hp} {C p dx : Addr} {fs : List (Str × V)} (J : IsS K mg C) (c : Cls K C) (h : H p = some (.ins C dx fs)) : TyX K H (.ref p) (.ref C) := .base (.ins h c J.ha J.hn J.htk J.hm)
theorem kitSelf {K : PySem.W.Frag} {C : Addr} : PySem.W.kitOne K (.ref C) (.ref C) = some true := by
  unfold PySem.W.kitOne
  rw [if_pos (by simp)]
section
variable {P : Program} {w : World} {K : PySem.W.Frag} {mg : Str → Option Value} {base : Heap}
abbrev n_SAdd : List Str := ["self", "other", "i", "j", "k", "i2", "j2", "k2"]
theorem sc_SAdd : FnScope n_SAdd ["self", "other"] (defScope (sS 8)) := ⟨rfl, rfl, rfl, by decide +kernel, rfl, by decide +kernel, by decide +kernel⟩
theorem ok_SAdd {f C : Addr} {fd : FuncData} {k : Nat} (F : Fun K "__add__" "Surd.__add__" (sS 8) f fd) (T : TxS K mg C) (J : IsS K mg C) (M : MkS P w K mg base C k) : FnOk P w K mg base CX0 (k + 2) f fd ["self", "other"] (spAddS C) := by
  refine F.ok sc_SAdd (fun vs H Q E h => ?_) (fun cdv A outer s H vs Q E hr h => ?_)
  · obtain ⟨p, q, d, i, j, k, i2, j2, k2, rfl, _⟩ := h
    rfl
  · obtain ⟨p, q, d, i, j, k, i2, j2, k2, rfl, ⟨k0, dx, t, hp, ht⟩, ⟨k20, dx2, t2, hp2, ht2⟩, hd, bi, bj, bk, bi2, bj2, bk2, kk⟩ := h
    have nd := sc_SAdd.nd
    obtain ⟨fi, fdi, M1, G, kb, _, _⟩ := M.ex
    refine ⟨_, (pss_cons (ps_if (pt_not (pt_val (pe_callB call_isi (by rfl) J.mi (by decide +kernel) (pa_cons (pv 1) (pa_cons (pe_glob (v := .ref C) (by rfl) T.mg rfl) pa_nil)))))
      (pss_one ps_never)
      pss_nil)
      (pss_cons (ps_if (pt_cmpR op_ne (pe_fld (pv 0) rfl) (pe_fld (pv 1) rfl) (nomark _))
      (pss_one ps_never)
      pss_nil)
      (pss_cons (ps_asg (pe_fld (pv 0) rfl) (pg_tup rfl (pgs_cons (pg_name (i := 2) nd rfl (Or.inl rfl)) (pgs_cons (pg_name (i := 3) nd rfl (Or.inl rfl)) (pgs_cons (pg_name (i := 4) nd rfl (Or.inl rfl)) pgs_nil)))))
      (pss_cons (ps_asg (pe_fld (pv 1) rfl) (pg_tup rfl (pgs_cons (pg_name (i := 5) nd rfl (Or.inl rfl)) (pgs_cons (pg_name (i := 6) nd rfl (Or.inl rfl)) (pgs_cons (pg_name (i := 7) nd rfl (Or.inl rfl)) pgs_nil)))))
      (pss_one (ps_ret (pe_makeK M1 G hr rfl T.mg kb pass0 (pa_cons (pe_fld (pv 0) rfl) (pa_cons (pe_op op_add (pe_op op_mulW (pv 2) (pv 7)) (pe_op op_mulW (pv 5) (pv 4))) (pa_cons (pe_op op_add (pe_op op_mulW (pv 3) (pv 7)) (pe_op op_mulW (pv 6) (pv 4))) pa_nil))) (pk_cons (pe_op op_mulW (pv 4) (pv 7)) pk_nil)))))))), ?_⟩
    have ei : Bd 400 (pI i j k) := bi.le (pI_le k0)
    have ej : Bd 400 (pJ i j k) := bj.le (pJ_le k0)
    have ek : Bd 400 (pK i j k) := bk.le (pK_le k0)
    have kp := pK_pos (i := i) (j := j) k0
    have ei2 : Bd 400 (pI i2 j2 k2) := bi2.le (pI_le k20)
    have ej2 : Bd 400 (pJ i2 j2 k2) := bj2.le (pJ_le k20)
    have ek2 : Bd 400 (pK i2 j2 k2) := bk2.le (pK_le k20)
    have kp2 := pK_pos (i := i2) (j := j2) k20
    refine ⟨_, rfl, _, _, _, _, _, rfl, .own C, tyS J T.cl hp2, kitSelf, _, rfl, iteF ?_⟩
    refine ⟨_, rfl, p, C, dx, _, _, rfl, hp, T.cl, T.nR, sfl_root _ _, _, rfl, q, C, dx2, _, _, rfl, hp2, T.cl, T.nR, sfl_root _ _, rfl, _, rfl, iteNS rfl ?_⟩
    refine ⟨_, rfl, p, C, dx, _, _, rfl, hp, T.cl, T.nP, sfl_parts _ _, t, _, rfl, SqT.of ht, rfl, _, _, rfl, _, _, rfl, _, _, rfl, rfl, ?_⟩
    refine ⟨_, rfl, q, C, dx2, _, _, rfl, hp2, T.cl, T.nP, sfl_parts _ _, t2, _, rfl, SqT.of ht2, rfl, _, _, rfl, _, _, rfl, _, _, rfl, rfl, ?_⟩
    refine ⟨_, rfl, p, C, dx, _, _, rfl, hp, T.cl, T.nR, sfl_root _ _, ?_⟩
    refine ⟨_, rfl, _, rfl, _, _, rfl, rfl, mulOk ei ek2 (by decide) (by decide) (by decide), _, rfl, _, rfl, _, _, rfl, rfl, mulOk ei2 ek (by decide) (by decide) (by decide), _, _, rfl, rfl, ?_⟩
    refine ⟨_, rfl, _, rfl, _, _, rfl, rfl, mulOk ej ek2 (by decide) (by decide) (by decide), _, rfl, _, rfl, _, _, rfl, rfl, mulOk ej2 ek (by decide) (by decide) (by decide), _, _, rfl, rfl, ?_⟩
    refine ⟨_, rfl, _, rfl, _, _, rfl, rfl, mulOk ek ek2 (by decide) (by decide) (by decide), rfl, rfl, fun x dx3 nx ndx nex => ?_⟩
    refine ⟨x, dx3, d, _, _, _, rfl, upd_same, hd, Int.mul_ne_zero (by omega) (by omega), ((ei.mul ek2).add (ei2.mul ek)).mono (by decide), ((ej.mul ek2).add (ej2.mul ek)).mono (by decide), (ek.mul ek2).mono (by decide), fun H' S kp' => ⟨rfl, ?_⟩⟩
    have sm := Same.made nx ndx kp'
    refine kk x H' nx (SV.cong ⟨Int.mul_ne_zero (by omega) (by omega), S⟩ (Int.mul_ne_zero k0 k20) ?_ ?_) sm
    · have a1 := pI_eq (i := i) (j := j) k0
      have a3 := pK_eq (i := i) (j := j) k0
      have b1 := pI_eq (i := i2) (j := j2) k20
      have b3 := pK_eq (i := i2) (j := j2) k20
      generalize gs i j k = g at *
      generalize pI i j k = X at *
      generalize pK i j k = Z at *
      generalize gs i2 j2 k2 = g2 at *
      generalize pI i2 j2 k2 = X2 at *
      generalize pK i2 j2 k2 = Z2 at *
      rw [a1, a3, b1, b3]; grind
    · have a1 := pJ_eq (i := i) (j := j) k0
      have a3 := pK_eq (i := i) (j := j) k0
      have b1 := pJ_eq (i := i2) (j := j2) k20
      have b3 := pK_eq (i := i2) (j := j2) k20
      generalize gs i j k = g at *
      generalize pJ i j k = X at *
      generalize pK i j k = Z at *
      generalize gs i2 j2 k2 = g2 at *
      generalize pJ i2 j2 k2 = X2 at *
      generalize pK i2 j2 k2 = Z2 at *
      rw [a1, a3, b1, b3]; grind
abbrev n_SSub : List Str := ["self", "other"]
theorem sc_SSub : FnScope n_SSub ["self", "other"] (defScope (sS 9)) := ⟨rfl, rfl, rfl, by decide +kernel, rfl, by decide +kernel, by decide +kernel⟩
theorem ok_SSub {f C fn fa : Addr} {fd : FuncData} {k : Nat} (F : Fun K "__sub__" "Surd.__sub__" (sS 9) f fd) (T : TxS K mg C) (J : IsS K mg C) (GN : FnR P w K mg base CX0 k fn (spNegS C)) (ON : OwnOp K C fn "__neg__")
    (GA : FnR P w K mg base CX0 k fa (spAddS C)) (OA : OwnOp K C fa "__add__") : FnOk P w K mg base CX0 (k + 1) f fd ["self", "other"] (spSubS C) := by
  refine F.ok sc_SSub (fun vs H Q E h => ?_) (fun cdv A outer s H vs Q E hr h => ?_)
  · obtain ⟨p, q, d, i, j, k, i2, j2, k2, rfl, _⟩ := h
    rfl
  · obtain ⟨p, q, d, i, j, k, i2, j2, k2, rfl, S1, S2, hd, bi, bj, bk, bi2, bj2, bk2, kk⟩ := h
    obtain ⟨k0, dx, t, hp, ht⟩ := id S1
    obtain ⟨k20, dx2, t2, hp2, ht2⟩ := id S2
    refine ⟨_, (pss_cons (ps_if (pt_not (pt_val (pe_callB call_isi (by rfl) J.mi (by decide +kernel) (pa_cons (pv 1) (pa_cons (pe_glob (v := .ref C) (by rfl) T.mg rfl) pa_nil)))))
      (pss_one ps_never)
      pss_nil)
      (pss_one (ps_ret (pe_op (op_own (op := .Add) GA hr OA pass0) (pv 0) (pe_un (un_own_neg GN hr ON pass0) (pv 1)))))), ?_⟩
    refine ⟨_, rfl, _, _, _, _, _, rfl, .own C, tyS J T.cl hp2, kitSelf, _, rfl, iteF ?_⟩
    refine ⟨_, rfl, _, rfl, q, dx2, _, rfl, hp2, q, d, i2, j2, k2, rfl, S2, hd, bi2.mono (by decide), bj2.mono (by decide), bk2.mono (by decide), fun x H1 nx Sx sm => ?_⟩
    obtain ⟨_, dx3, t3, hp3, ht3⟩ := id Sx
    refine ⟨p, x, dx, dx3, _, _, rfl, rfl, sm _ _ hp, hp3, p, x, d, i, j, k, -i2, -j2, k2, rfl, S1.same sm, Sx, hd, bi, bj, bk, bi2.neg, bj2.neg, bk2, fun y H2 ny Sy sm2 => ?_⟩
    refine kk y H2 (sm.free ny) (Sy.cong Sy.1 ?_ ?_) (sm.trans sm2)
    · grind
    · grind
abbrev n_SCmp : List Str := ["self", "other", "difference"]
def spBoolS (C : Addr) : Sp := fun vs H Q _ => ∃ (p : Addr) (d i j k : Int), vs = [.ref p] ∧ SV H C p d i j k ∧ 0 < k ∧ Root d ∧ Bd 900 i ∧ Bd 900 j ∧ Q (.bl (!decide (sg d i j = 0))) H
abbrev n_SBool : List Str := ["self"]
theorem sc_SBool : FnScope n_SBool ["self"] (defScope (sS 13)) := ⟨rfl, rfl, rfl, by decide +kernel, rfl, by decide +kernel, by decide +kernel⟩
end
end RF

namespace RF
open PySem L2 PyProof.Rows
def slopeD : D → Bool
  | .tup [a, b, c] => btw a (-9) 9 && (btw b (-3) 3 && btw c 1 4)
  | _ => false
def spIsSlope (K : PySem.W.Frag) : Sp := fun vs H Q _ => ∃ (v : V) (d : D), vs = [v] ∧ Rp K H v d ∧ Q (.bl (slopeD d)) H
def spOfSlope (K : PySem.W.Frag) (C : Addr) : Sp := fun vs H Q _ => ∃ (d i j k : Int) (v : V), vs = [.int d, v] ∧ Root d ∧ Rp K H v (.tup [.int i, .int j, .int k]) ∧ slopeD (.tup [.int i, .int j, .int k]) = true ∧
  ∀ (x : Addr) (H' : Hp), H x = none → SV H' C x d i j k → Same H H' → Q (.ref x) H'
/-- the two surds are one number -/
def EqS (C : Addr) : Addr → Addr → Hp → Prop := fun a b H => ∃ d i j k, SV H C a d i j k ∧ SV H C b d i j k
section
variable {P : Program} {w : World} {K : PySem.W.Frag} {mg : Str → Option Value} {base : Heap}
theorem slope_ne3 {ds : List D} (h : ds.length ≠ 3) : slopeD (.tup ds) = false := by
  match ds, h with
  | [], _ => rfl
  | [_], _ => rfl
  | [_, _], _ => rfl
  | [_, _, _], h => exact absurd rfl h
  | _ :: _ :: _ :: _ :: _, _ => rfl
abbrev s_is_slope : Stmt := top 16
abbrev n_is_slope : List Str := ["value", "i", "j", "k"]
theorem sc_is_slope : FnScope n_is_slope ["value"] (defScope s_is_slope) := ⟨rfl, rfl, rfl, by decide +kernel, rfl, by decide +kernel, by decide +kernel⟩
theorem ok_isslope {f : Addr} {fd : FuncData} {k : Nat} (F : Fun K "is_slope" "is_slope" s_is_slope f fd) (T1 : mg "isinstance" = none) (T2 : mg "tuple" = none) (T3 : mg "len" = none)
    (D1 : Df P w K mg base k "is_between" ["value", "low", "high"] (spBtw K)) : FnOk P w K mg base CX0 (k + 1) f fd ["value"] (spIsSlope K) := by
  refine F.ok sc_is_slope (fun vs H Q E h => ?_) (fun cdv A outer s H vs Q E hr h => ?_)
  · obtain ⟨v, d, rfl, _⟩ := h
    rfl
  · obtain ⟨v, d, rfl, hv, q⟩ := h
    have nd := sc_is_slope.nd
    refine ⟨_, (pss_cons (ps_if (pw_or (pt_not (pt_val (pe_callB call_isi (by rfl) T1 (by decide +kernel) (pa_cons (pv 0) (pa_cons (pe_bltn (v := .ty "tuple") (by rfl) T2 (by decide +kernel) rfl) pa_nil))))) (pw_or1 (pt_cmpR op_ne (pe_callB call_len_seq (by rfl) T3 PySem.boot_len (pa_cons (pv 0) pa_nil)) pe_int (nomark _)))).pt
      (pss_one (ps_ret pe_bl))
      pss_nil)
      (pss_cons (ps_asg (pv 0) (pg_tup rfl (pgs_cons (pg_name (i := 1) nd rfl (Or.inl rfl)) (pgs_cons (pg_name (i := 2) nd rfl (Or.inl rfl)) (pgs_cons (pg_name (i := 3) nd rfl (Or.inl rfl)) pgs_nil)))))
      (pss_one (ps_ret (pe_and (pe_callD D1 hr (Nat.le_refl _) (pa_cons (pv 1) (pa_cons (pe_un un_neg pe_int) (pa_cons pe_int pa_nil)))) (pe_and (pe_callD D1 hr (Nat.le_refl _) (pa_cons (pv 2) (pa_cons (pe_un un_neg pe_int) (pa_cons pe_int pa_nil)))) (pe_one (pe_callD D1 hr (Nat.le_refl _) (pa_cons (pv 3) (pa_cons pe_int (pa_cons pe_int pa_nil))))))))))), ?_⟩
    refine ⟨_, rfl, _, _, _, _, _, rfl, .ty _, tyX _ hv, kit_ty (kit_tuple _), _, rfl, ?_⟩
    cases d with
    | tup ds =>
      obtain ⟨a, xs, rfl, S, hl, rr⟩ := id hv
      have el := rr.len
      refine iteF ⟨_, rfl, a, _, rfl, .inr S, rfl, _, rfl, ?_⟩
      by_cases h3 : ds.length = 3
      · have e3 : V.int (xs.length : Int) = V.int 3 := by rw [el, h3]; rfl
        rw [e3]
        refine iteNS rfl ?_
        match ds, h3 with
        | [d1, d2, d3], _ =>
          obtain ⟨x1, r1, rfl, p1, x2, r2, rfl, p2, x3, r3, rfl, p3, rfl⟩ := rr
          refine ⟨_, rfl, a, _, rfl, S, rfl, _, _, rfl, _, _, rfl, _, _, rfl, rfl, ?_⟩
          refine ⟨_, rfl, _, rfl, x1, d1, _, _, rfl, p1, _, rfl, ?_⟩
          by_cases h1 : btw d1 (-9) 9 = true
          · refine iteP h1 ⟨_, rfl, _, rfl, x2, d2, _, _, rfl, p2, _, rfl, ?_⟩
            by_cases h2 : btw d2 (-3) 3 = true
            · refine iteP h2 ⟨_, rfl, x3, d3, _, _, rfl, p3, ?_⟩
              have e : slopeD (.tup [d1, d2, d3]) = btw d3 1 4 := by show (btw d1 (-9) 9 && (btw d2 (-3) 3 && btw d3 1 4)) = _; rw [h1, h2]; rfl
              rw [e] at q
              exact q
            · refine iteN h2 ?_
              have e : slopeD (.tup [d1, d2, d3]) = false := by show (btw d1 (-9) 9 && (btw d2 (-3) 3 && btw d3 1 4)) = _; rw [Bool.eq_false_iff.mpr h2]; simp
              rw [e] at q
              exact q
          · refine iteN h1 ?_
            have e : slopeD (.tup [d1, d2, d3]) = false := by show (btw d1 (-9) 9 && (btw d2 (-3) 3 && btw d3 1 4)) = _; rw [Bool.eq_false_iff.mpr h1]; rfl
            rw [e] at q
            exact q
      · rw [slope_ne3 h3] at q
        refine iteP ?_ q
        have : ¬ V.int (xs.length : Int) = V.int 3 := fun z => h3 (by
          have := V.int.inj z
          omega)
        rw [decide_eq_false this]; rfl
    | non => exact iteT q
    | bl _ => exact iteT q
    | int _ => exact iteT q
    | str _ => exact iteT q
    | lst _ => exact iteT q
theorem bd9 {i lo hi : Int} (h : btw (.int i) lo hi = true) (h1 : -512 ≤ lo) (h2 : hi ≤ 511) : Bd 10 i := by
  have : (decide (lo ≤ i) && decide (i ≤ hi)) = true := h
  simp only [Bool.and_eq_true, decide_eq_true_eq] at this
  unfold Bd
  omega
abbrev n_OfS : List Str := ["root", "slope", "i", "j", "k"]
theorem sc_OfS : FnScope n_OfS ["root", "slope"] (defScope (sS 1)) := ⟨rfl, rfl, rfl, by decide +kernel, rfl, by decide +kernel, by decide +kernel⟩
theorem ok_OfS {f C : Addr} {fd : FuncData} {k : Nat} (F : Fun K "of_slope" "Surd.of_slope" (sS 1) f fd) (T : TxS K mg C) (D1 : Df P w K mg base (k + 1) "is_root" ["value"] (spIsRoot K)) (D2 : Df P w K mg base (k + 1) "is_slope" ["value"] (spIsSlope K))
    (M : MkS P w K mg base C k) : FnOk P w K mg base CX0 (k + 2) f fd ["root", "slope"] (spOfSlope K C) := by
  refine F.ok sc_OfS (fun vs H Q E h => ?_) (fun cdv A outer s H vs Q E hr h => ?_)
  · obtain ⟨d, i, j, k, v, rfl, _⟩ := h
    rfl
  · obtain ⟨d, i, j, k, v, rfl, hd, hv, hs, q⟩ := h
    have nd := sc_OfS.nd
    obtain ⟨fi, fdi, M1, G, kb, _, _⟩ := M.ex
    refine ⟨_, (pss_cons (ps_if (pt_not (pt_val (pe_callD D1 hr (Nat.le_refl _) (pa_cons (pv 0) pa_nil))))
      (pss_one ps_never)
      pss_nil)
      (pss_cons (ps_if (pt_not (pt_val (pe_callD D2 hr (Nat.le_refl _) (pa_cons (pv 1) pa_nil))))
      (pss_one ps_never)
      pss_nil)
      (pss_cons (ps_asg (pv 1) (pg_tup rfl (pgs_cons (pg_name (i := 2) nd rfl (Or.inl rfl)) (pgs_cons (pg_name (i := 3) nd rfl (Or.inl rfl)) (pgs_cons (pg_name (i := 4) nd rfl (Or.inl rfl)) pgs_nil)))))
      (pss_one (ps_ret (pe_makeK M1 G hr rfl T.mg kb pass0 (pa_cons (pv 0) (pa_cons (pv 2) (pa_cons (pv 3) pa_nil))) (pk_cons (pv 4) pk_nil))))))), ?_⟩
    have er : rootD (.int d) = true := decide_eq_true (by unfold Root at hd; simp; omega)
    have hs' : (btw (.int i) (-9) 9 && (btw (.int j) (-3) 3 && btw (.int k) 1 4)) = true := hs
    simp only [Bool.and_eq_true] at hs'
    obtain ⟨s1, s2, s3⟩ := hs'
    have k1 : 1 ≤ k := by
      have : (decide (1 ≤ k) && decide (k ≤ 4)) = true := s3
      simp only [Bool.and_eq_true, decide_eq_true_eq] at this
      exact this.1
    refine ⟨_, rfl, _, .int d, rfl, rfl, _, rfl, ?_⟩
    rw [er]
    refine iteF ⟨_, rfl, _, _, rfl, hv, _, rfl, ?_⟩
    rw [hs]
    refine iteF ?_
    obtain ⟨a, xs, rfl, S, hl, x1, r1, rfl, p1, x2, r2, rfl, p2, x3, r3, rfl, p3, rfl⟩ := hv
    obtain rfl : x1 = .int i := p1
    obtain rfl : x2 = .int j := p2
    obtain rfl : x3 = .int k := p3
    refine ⟨_, rfl, a, _, rfl, S, rfl, _, _, rfl, _, _, rfl, _, _, rfl, rfl, ?_⟩
    refine ⟨_, rfl, _, rfl, _, rfl, _, rfl, rfl, rfl, fun x dx nx ndx nex => ?_⟩
    refine ⟨x, dx, d, i, j, k, rfl, upd_same, hd, by omega, (bd9 s1 (by decide) (by decide)).mono (by decide), (bd9 s2 (by decide) (by decide)).mono (by decide), (bd9 s3 (by decide) (by decide)).mono (by decide), fun H' Sx kp' => ⟨rfl, ?_⟩⟩
    exact q x H' nx ⟨by omega, Sx⟩ (Same.made nx ndx kp')
abbrev n_SEq : List Str := ["self", "other"]
theorem sc_SEq : FnScope n_SEq ["self", "other"] (defScope (sS 12)) := ⟨rfl, rfl, rfl, by decide +kernel, rfl, by decide +kernel, by decide +kernel⟩
theorem ok_SEq {f C : Addr} {fd : FuncData} {k : Nat} (F : Fun K "__eq__" "Surd.__eq__" (sS 12) f fd) (T : TxS K mg C) (J : IsS K mg C) : FnOk P w K mg base CX0 (k + 2) f fd ["self", "other"] (spEq (EqS C)) := by
  refine F.ok sc_SEq (fun vs H Q E h => ?_) (fun cdv A outer s H vs Q E hr h => ?_)
  · obtain ⟨p, q, rfl, _⟩ := h
    rfl
  · obtain ⟨p, q, rfl, ⟨d, i, j, k, ⟨k0, dx, t, hp, ht⟩, ⟨k20, dx2, t2, hp2, ht2⟩⟩, kk⟩ := h
    refine ⟨_, (pss_one (ps_ret (pe_and (pe_callB call_isi (by rfl) J.mi (by decide +kernel) (pa_cons (pv 1) (pa_cons (pe_glob (v := .ref C) (by rfl) T.mg rfl) pa_nil))) (pe_and (pe_cmpR op_eq (pe_fld (pv 0) rfl) (pe_fld (pv 1) rfl) (nomark _)) (pe_one (pe_cmpR (op_eqG (rcG_tup mon_flat eqG_flat) (hr.mono (by omega))) (pe_fld (pv 0) rfl) (pe_fld (pv 1) rfl) (nomark _))))))), ?_⟩
    refine ⟨_, rfl, _, _, _, _, _, rfl, .own C, tyS J T.cl hp2, kitSelf, _, rfl, iteP rfl ?_⟩
    refine ⟨_, rfl, p, C, dx, _, _, rfl, hp, T.cl, T.nR, sfl_root _ _, _, rfl, q, C, dx2, _, _, rfl, hp2, T.cl, T.nR, sfl_root _ _, rfl, _, rfl, iteP (decide_eq_true rfl) ?_⟩
    refine ⟨_, rfl, p, C, dx, _, _, rfl, hp, T.cl, T.nP, sfl_parts _ _, _, rfl, q, C, dx2, _, _, rfl, hp2, T.cl, T.nP, sfl_parts _ _, ⟨t, t2, _, _, rfl, rfl, SqT.of ht, SqT.of ht2, ?_⟩, kk⟩
    exact .cons ⟨rfl, rfl, by simp [eqV]⟩ (.cons ⟨rfl, rfl, by simp [eqV]⟩ (.cons ⟨rfl, rfl, by simp [eqV]⟩ .nil))
end
end RF

namespace RF
open PySem L2 PyProof.Rows
theorem Kp.at_ {b a : Addr} {H H' : Hp} {o : HO} (k : Kp b H H') (B : Bag H b) (h : H a = some o) (n : ∀ xs, o ≠ .lst xs) : H' a = some o := by
  obtain ⟨xs, hb⟩ := B.some
  exact k a o (ne_of h hb (n xs)) h
theorem SV.kp {H H' : Hp} {C p b : Addr} {d i j k : Int} (B : Bag H b) (kp : Kp b H H') (h : SV H C p d i j k) : SV H' C p d i j k := by
  obtain ⟨k0, dx, t, h1, h2⟩ := h
  exact ⟨k0, dx, t, kp.at_ B h1 (fun _ z => by cases z), kp.at_ B h2 (fun _ z => by cases z)⟩
theorem SV.ins {H : Hp} {C p : Addr} {d i j k : Int} (h : SV H C p d i j k) : ∃ dx fs, H p = some (.ins C dx fs) ∧ ∀ m : Str, ¬ m = "_parts" → ¬ m = "_root" → fs.lookup m = none := by
  obtain ⟨_, dx, t, h1, _⟩ := h
  exact ⟨dx, _, h1, fun m a b => sfl_no _ _ a b⟩
theorem flr_bd {n : Nat} {d f : Int} (hd : Root d) (h : Bd n f) : Bd (n + 3) (flr d f) := by
  have r0 := rt_nn (d * f * f)
  have r1 := rt_le (dff_nn hd (f := f))
  have h4 : rt (d * f * f) ≤ 4 * ab f := by
    apply le_of_sq (by have := ab_nn f; omega)
    have e : (4 * ab f) * (4 * ab f) = 16 * (f * f) := by unfold ab; split <;> grind
    have : d * f * f ≤ 16 * (f * f) := by
      rw [dff]
      exact Int.mul_le_mul_of_nonneg_right (by have := hd.le; omega) (sq_nonneg f)
    omega
  have ha : ab f = (f.natAbs : Int) := by unfold ab; split <;> omega
  unfold Bd at *
  have hp : 2 ^ (n + 3) = 8 * 2 ^ n := by rw [Nat.pow_add]; omega
  unfold flr
  split <;> omega
/-- a method of the class at C, by its promise -/
structure Mt (P : Program) (w : World) (K : PySem.W.Frag) (mg : Str → Option Value) (base : Heap) (C : Addr) (k : Nat) (m : Str) (ps : List Str) (sp : Sp) : Prop where
  ex : ∃ (f : Addr) (fd : FuncData), FnOk P w K mg base CX0 k f fd ps sp ∧ Meth K C m f ∧ Binds K fd ps []
theorem pe_mt0 {X : Cx} {j k : Nat} {C : Addr} {m : Str} {ps : List Str} {sp : Sp} {o : Expr} {pos apos : Pos} {ta : TE} {pl : Sem Bool} (he : PE X o ta) (c : Cls X.K C) (M : Mt X.prog X.w X.K X.mg X.base C k m ps sp) (hr : Room j X.A) (hk : k ≤ j)
    (ht : eval (.Call (.Attribute o m apos) [] [] pos) X.env = (do
      let ov ← eval o X.env
      standAt apos.atName
      let (f, first) ← holding [ov] (getMethod ov m pl)
      callWith pos f first (backTo pos (starEach [] X.env)) (backToKw pos (keywordEach [] X.env))) := by rfl) : PE X (.Call (.Attribute o m apos) [] [] pos) (tMeth C m sp [] E0 ta tNil) := by
  obtain ⟨f, fd, G, hm, b⟩ := M.ex
  exact pe_meth0 he c hm G (hr.mono hk) b .nil pass0 ht
theorem pe_mt {X : Cx} {j k : Nat} {C : Addr} {m : Str} {ps : List Str} {sp : Sp} {o e : Expr} {es : List Expr} {pos apos : Pos} {ta : TE} {t : TA} {pl : Sem Bool} (he : PE X o ta) (c : Cls X.K C) (M : Mt X.prog X.w X.K X.mg X.base C k m ps sp) (hr : Room j X.A) (hk : k ≤ j) (ha : PA X (e :: es) t)
    (h1 : starEach (e :: es) X.env = (false, eval e X.env) :: starEach es X.env := by rfl) (h2 : (backTo pos (starEach es X.env)).any (·.1) = false := by rfl)
    (ht : eval (.Call (.Attribute o m apos) (e :: es) [] pos) X.env = (do
      let ov ← eval o X.env
      standAt apos.atName
      let (f, first) ← holding [ov] (getMethod ov m pl)
      callWith pos f first (backTo pos (starEach (e :: es) X.env)) (backToKw pos (keywordEach [] X.env))) := by rfl) : PE X (.Call (.Attribute o m apos) (e :: es) [] pos) (tMeth C m sp [] E0 ta t) := by
  obtain ⟨f, fd, G, hm, b⟩ := M.ex
  exact pe_meth he c hm G (hr.mono hk) b .nil pass0 ha h1 h2 ht
end RF

namespace RF
open PySem L2 PyProof.Rows
/-! ### methods that may raise; calls by name -/
def tMethKw (C : Addr) (m : Str) (sp : Sp) (gV : List V → List V → List V) (E : XK) (ta : TE) (tk : TA) : TE := fun σ H Q => ta σ H fun x H1 => ∃ a dx fs, x = .ref a ∧ H1 a = some (.ins C dx fs) ∧ fs.lookup m = none ∧ tk σ H1 fun zs H2 => sp (gV [x] zs) H2 Q E
theorem pe_methKw {X : Cx} {CX : CXT} {k : Nat} {f C : Addr} {fd : FuncData} {ps ks : List Str} {sp : Sp} {E : XK} {m : Str} {apos pos : Pos} {o : Expr} {kws : List Keyword} {ta : TE} {tk : TA} {pl : Sem Bool} {g : List Value → List Value → List Value} {gV : List V → List V → List V} (he : PE X o ta) (c : Cls X.K C) (hm : Meth X.K C m f) (F : FnOk X.prog X.w X.K X.mg X.base CX k f fd ps sp) (hr : Room k X.A)
    (hb : KBn X.K fd ps 1 ks g gV) (hx : Passes CX X E) (hkw : PK X kws tk) (hlen : ∀ (x : V) (zs : List V), (gV [x] zs).length = ps.length → zs.length = ks.length) (hall : (backToKw pos (keywordEach kws X.env)).all (·.1.isSome) = true := by rfl) (hks : (backToKw pos (keywordEach kws X.env)).filterMap (·.1) = ks := by rfl)
    (hpl : ((backTo pos (starEach [] X.env)).any (·.1) || (backToKw pos (keywordEach kws X.env)).any (·.1.isNone)) = false := by rfl)
    (ht : eval (.Call (.Attribute o m apos) [] kws pos) X.env = (do
      let ov ← eval o X.env
      standAt apos.atName
      let (f, first) ← holding [ov] (getMethod ov m pl)
      callWith pos f first (backTo pos (starEach [] X.env)) (backToKw pos (keywordEach kws X.env))) := by rfl) : PE X (.Call (.Attribute o m apos) [] kws pos) (tMethKw C m sp gV E ta tk) := by
  refine ⟨fun pins s σ H Q I h => PySem.W.methodCall_KW (pl := pl) (thn (he.run pins s σ H _ I h) fun u s1 ⟨x, H1, I1, rx, a, dx, fs, ex, ea, l, q⟩ => ?_) ht⟩
  subst ex
  obtain rfl : u = Value.ref a := rx
  refine getmeth_ok I1 ea c hm l (PySem.W.callWith_KW0 (h₀ := X.base) (first := [.ref a]) I1.ok.mod.kin hm.kp hall (thn (hkw.run pos pins s1 σ H1 _ I1 q) fun ws s2 ⟨zs, H2, I2, rz, q2⟩ => ⟨I2.kIn, ?_⟩) hpl)
  rw [hks]
  have r2 := hb.rel (vs := [V.ref a]) (us := [Value.ref a]) (.cons rfl .nil) rz
  have lz : ws.length = ks.length := by rw [← rz.length]; exact hlen (.ref a) zs (F.len _ _ _ _ q2)
  refine wpAny_call (codeAny_mono (F.run X.A X.stack s2 H2 ⟨[.ref a] ++ [], ks.zip ws⟩ (g [.ref a] ws) (gV [.ref a] zs) Q E hr I2.env0 (hb.to s2 [.ref a] ws I2.kIn rfl lz) r2 q2) fun rr s3 hq => ?_)
  cases rr with
  | error z => exact hx pins σ H2 s2 z s3 I2 hq
  | ok fl =>
    cases fl with
    | ret u => exact I2.after hq
    | next => exact False.elim hq
    | brk => exact False.elim hq
    | cont => exact False.elim hq
structure MtX (P : Program) (w : World) (K : PySem.W.Frag) (mg : Str → Option Value) (base : Heap) (C : Addr) (k : Nat) (m : Str) (ps : List Str) (sp : Sp) : Prop where
  ex : ∃ (f : Addr) (fd : FuncData), FnOk P w K mg base (L2.CX P w) k f fd ps sp ∧ Meth K C m f ∧ Binds K fd ps [] ∧ KBn K fd ps 1 (ps.drop 1).reverse (fun us ws => us ++ ws.reverse) (fun vs zs => vs ++ zs.reverse)
/-- what never raises, in such a class of methods -/
def EN : XK := fun _ _ _ => False
theorem passN {X : Cx} : Passes (L2.CX X.prog X.w) X EN := fun pins σ H s e s' I c => L2.passes_call (W := fun _ _ _ _ => False) LamX.takes0 (fun _ _ _ _ z => z) pins σ H s e s' I c
theorem pe_mtX {X : Cx} {j k : Nat} {C : Addr} {m : Str} {ps : List Str} {sp : Sp} {o e : Expr} {es : List Expr} {pos apos : Pos} {ta : TE} {t : TA} {E : XK} {pl : Sem Bool} (he : PE X o ta) (c : Cls X.K C) (M : MtX X.prog X.w X.K X.mg X.base C k m ps sp) (hr : Room j X.A) (hk : k ≤ j) (hx : Passes (L2.CX X.prog X.w) X E) (ha : PA X (e :: es) t)
    (h1 : starEach (e :: es) X.env = (false, eval e X.env) :: starEach es X.env := by rfl) (h2 : (backTo pos (starEach es X.env)).any (·.1) = false := by rfl)
    (ht : eval (.Call (.Attribute o m apos) (e :: es) [] pos) X.env = (do
      let ov ← eval o X.env
      standAt apos.atName
      let (f, first) ← holding [ov] (getMethod ov m pl)
      callWith pos f first (backTo pos (starEach (e :: es) X.env)) (backToKw pos (keywordEach [] X.env))) := by rfl) : PE X (.Call (.Attribute o m apos) (e :: es) [] pos) (tMeth C m sp [] E ta t) := by
  obtain ⟨f, fd, G, hm, b, _⟩ := M.ex
  exact pe_meth he c hm G (hr.mono hk) b .nil hx ha h1 h2 ht
/-- by name, in the other order -/
theorem pe_mtXr {X : Cx} {j k : Nat} {C : Addr} {m : Str} {ps : List Str} {sp : Sp} {o : Expr} {kws : List Keyword} {pos apos : Pos} {ta : TE} {tk : TA} {E : XK} {pl : Sem Bool} (he : PE X o ta) (c : Cls X.K C) (M : MtX X.prog X.w X.K X.mg X.base C k m ps sp) (hr : Room j X.A) (hk : k ≤ j) (hx : Passes (L2.CX X.prog X.w) X E) (hkw : PK X kws tk) (hps : ps ≠ [])
    (hall : (backToKw pos (keywordEach kws X.env)).all (·.1.isSome) = true := by rfl) (hks : (backToKw pos (keywordEach kws X.env)).filterMap (·.1) = (ps.drop 1).reverse := by rfl)
    (hpl : ((backTo pos (starEach [] X.env)).any (·.1) || (backToKw pos (keywordEach kws X.env)).any (·.1.isNone)) = false := by rfl)
    (ht : eval (.Call (.Attribute o m apos) [] kws pos) X.env = (do
      let ov ← eval o X.env
      standAt apos.atName
      let (f, first) ← holding [ov] (getMethod ov m pl)
      callWith pos f first (backTo pos (starEach [] X.env)) (backToKw pos (keywordEach kws X.env))) := by rfl) : PE X (.Call (.Attribute o m apos) [] kws pos) (tMethKw C m sp (fun vs zs => vs ++ zs.reverse) E ta tk) := by
  obtain ⟨f, fd, G, hm, _, b⟩ := M.ex
  refine pe_methKw he c hm G (hr.mono hk) b hx hkw (fun x zs h => ?_) hall hks hpl ht
  simp only [List.length_append, List.length_reverse, List.length_drop, List.length_cons, List.length_nil] at h ⊢
  omega
end RF

namespace RF
open PySem L2 PyProof.Rows
theorem vals_rev : ∀ {vs : List V} {us : List Value}, Vals vs us → Vals vs.reverse us.reverse
  | _, _, .nil => .nil
  | _, _, .cons h r => by
    rw [List.reverse_cons, List.reverse_cons]
    exact (vals_rev r).append (.cons h .nil)
end RF

namespace EX
open PySem PySem.Calls PyProof.Rows PySem.HandSPX
open PySem.W (Frag findIn typeIn keepIn subIn hasDictIn nsIn mroIn clsIn codeIn fnX envX Looks KxsFacts kxs_mw ksEnv ksFn looks_mroIn looks_findIn looks_clsIn)
/-! ### the text of an own error's __init__ -/
/-- what the written part says of a class of errors over ValueError: at C; its __init__ at fI, with the class's cell cc -/
structure Own (P : Program) (K : Frag) (mg : Str → Option Value) (nm : Str) (C fI : Addr) : Prop where
  gC : mg nm = some (.ref C)
  cls : ∃ nm' q N bs bm sn sub ab col dd k0 k1 k2 k3 k5, K.lookup C = some (excClassObj nm' q C N bs bm true sn sub ab col dd k0 k1 k2 k3 k5 "ValueError.__new__") ∧ refsVE bm = true ∧ PySem.W.alongIn K "__init__" bm = some (some (.builtin "ValueError.__init__"))
  sa : findIn K (.ref C) "__setattr__" = some (some (.builtin "object.__setattr__"))
  ga : findIn K (.ref C) "__getattribute__" = some (some (.builtin "BaseException.__getattribute__"))
  gg : findIn K (.ref C) "__getattr__" = some none
  noT : findIn K (.ref C) "tag" = some none
  iC : findIn K (.ref C) "__init__" = some (some (.ref fI))
  tC : typeIn K (.ref fI) = some (.type "function")
  kC : keepIn K (.ref C) = true
  exC : subIn K (.ref C) (.type "BaseException") = some true
  tyC : typeIn K (.ref C) = some (.type "type")
  hdC : hasDictIn K C = true
  self : mroIn K C (.ref C) = some true
  noS : mg "super" = none
  opq : nsIn K cStatics "thirdparty.any" = some none
  top : (P.main.scope.names.lookup ("super" : Str)).isSome = false
section
variable {prog : Program} {w : World} {A : Around} {E : Value → Shared → Prop} {h : Heap} {g : Array GenState} {d : Drawn} {t : Nat} {os : OsState} {K : Frag}
variable {nm q : Str} {C N : Addr} {bs bm : List Value} {hdct : Bool} {sn : List Str} {sub : List Value} {ab : Bool} {col : Option Bool} {dd : Option Addr} {k0 k1 k2 k3 k5 : Option Value}
/-- the bound __init__ of ValueError is called -/
theorem call_mw {u e t0 : Addr} {rest : List Value} {Q : Value → Shared → Prop} (hC : h.get? C = some (excClassObj nm q C N bs bm hdct sn sub ab col dd k0 k1 k2 k3 k5 "ValueError.__new__")) (he : h.get? e = some (excO C t0)) (hu : h.get? u = some (kxs_mw "ValueError.__init__" e)) (hrest : rest.length ≤ sizeLine)
    (hq : ∀ h' t1, (∀ b o, b ≠ e → h.get? b = some o → h'.get? b = some o) → h'.get? e = some (excO C t1) → Q .none ⟨h', g, d, t, os⟩) : wpAny (model prog w) A (call (.ref u) rest) Q E ⟨h, g, d, t, os⟩ := by
  refine wpAny_call (codeAny_of_tree ?_)
  show wpAny _ A.in1 (callAny (.ref u) ⟨rest, []⟩) _ _ _
  unfold callAny
  refine wpAny_bind (wpAny_load hu ?_)
  simp only []
  refine PySem.W.KFB.if_so (by decide) ?_
  refine wpAny_bind (PySem.W.check_bound_init F.excBase_ValueError.toExcCallFacts hC he rfl ?_)
  refine wpAny_bind (wpAny_pure (wpAny_pure ?_))
  refine ⟨Code.quiet_builtin _ (by decide +kernel), codeAny_builtin F.excBase_ValueError.initEntry ?_⟩
  rw [Around.under_plainId F.excBase_ValueError.init.plain _]
  wp_walk
  refine hq _ h.objs.size (fun b o hb ho => (Heap.get?_update_other _ _ (Ne.symm hb)).trans (Heap.get?_push_of_some _ ho)) ((Heap.get?_update_self _ (Heap.get?_push_of_some _ he) rfl).trans rfl)
end
/-- the __init__'s own record: its code and its cell -/
structure IFn (P : Program) (K : Frag) (C fI cda cc : Addr) (fd : FuncData) : Prop where
  lk : ∃ oc od osl, K.lookup fI = some ⟨oc, od, .func fd, osl⟩
  code : ∃ ccl cdd vs ccs file tf, K.lookup cda = some ⟨ccl, cdd, .fields vs, ccs⟩ ∧ vs[2]? = some (.str file tf) ∧ ((P.main.file : Str) == file) = true
  cell : ∃ cl cld csl, K.lookup cc = some ⟨cl, cld, .cell (some (.ref C)), csl⟩
section
variable {prog : Program} {w : World} {A : Around} {E : Value → Shared → Prop} {s : Shared} {K : Frag} {mg mb : Str → Option Value} {nm : Str} {C fI cda cc : Addr} {fd : FuncData}
/-- super().__init__('..') -/
theorem super_stmt (O : Own prog K mg nm C fI) (I : IFn prog K C fI cda cc fd) {ar : Arg} (hp : (fd.params.posonlyargs ++ fd.params.args).head? = some ar) {q : Str} {scope : Scope} {L x t0 : Addr} {m : Str → Option Value} {body : List Stmt} {msg : Str} {a1 a2 a3 a4 a5 a6 : Pos} {j : Nat} {Q : Flow → Shared → Prop}
    (X : K.In s.heap) (hg : s.heap.Ns mainGlobals mg) (hb : s.heap.Ns builtinsNs mb) (hmb : mb "super" = bootBuiltins "super") (hn : s.heap.Ns L m) (hm : m ar.arg = some (.ref x)) (hx : s.heap.get? x = some (excO C t0)) (hxC : x ≠ C)
    (hk : scope.kind = .function) (h1 : scope.names.lookup ("super" : Str) = some .globalImplicit) (h2 : scope.names.lookup ("__class__" : Str) = some .free) (h3 : scope.names.lookup ar.arg = some .local)
    (hs : swapsWith (.Call (.Attribute (.Call (.Name "super" a1) [] [] a2) "__init__" a3) [.Constant (.str msg) j a4] [] a5) none a6.line (ksEnv q scope L fI (.ref cda) cc) = pure false)
    (hi : interactive (ksEnv q scope L fI (.ref cda) cc) = false)
    (hev : ∃ pl : Sem Bool, eval (.Call (.Attribute (.Call (.Name "super" a1) [] [] a2) "__init__" a3) [.Constant (.str msg) j a4] [] a5) (ksEnv q scope L fI (.ref cda) cc) = (do
      let ov ← attributeBase (.Call (.Name "super" a1) [] [] a2) "__init__" (ksEnv q scope L fI (.ref cda) cc) (eval (.Call (.Name "super" a1) [] [] a2) (ksEnv q scope L fI (.ref cda) cc))
      standAt a3.atName
      let fb ← holding [ov] (getMethod ov "__init__" pl)
      callWith a5 fb.1 fb.2 (backTo a5 (starEach [.Constant (.str msg) j a4] (ksEnv q scope L fI (.ref cda) cc))) []))
    (hst : starEach [.Constant (.str msg) j a4] (ksEnv q scope L fI (.ref cda) cc) = [(false, eval (.Constant (.str msg) j a4) (ksEnv q scope L fI (.ref cda) cc))])
    (k : ∀ h' tk t1, (∀ b o, b ≠ x → s.heap.get? b = some o → h'.get? b = some o) → h'.get? x = some (excO C t1) → Q .next { s with heap := h', toks := tk }) :
    _root_.PySem.wpAt (model prog w) A (.func body (ksEnv q scope L fI (.ref cda) cc)) (exec (.Expr (.Call (.Attribute (.Call (.Name "super" a1) [] [] a2) "__init__" a3) [.Constant (.str msg) j a4] [] a5) a6) (ksEnv q scope L fI (.ref cda) cc)) Q E s := by
  obtain ⟨nm', q', N, bs, bm, sn, sub, ab, col, dd, k0, k1, k2, k3, k5, hC, hbm, hal⟩ := O.cls
  obtain ⟨oc, od, osl, hf⟩ := I.lk
  obtain ⟨ccl, cdd, vs, ccs, file, tf, hcode, hvs, hfile⟩ := I.code
  obtain ⟨cl, cld, csl, hcell⟩ := I.cell
  have hcl : clsIn K C = some { name := nm', bases := bs, mro := .ref C :: bm, ns := N, qualname := q', hasDict := true, slotNames := sn, subclasses := sub, abstract := ab, collection := col, hasDel := false } := by unfold clsIn; rw [hC] <;> rfl
  obtain ⟨hh, g, d, t, os⟩ := s
  refine ks_wpAt_Expr_any ?_ hi hs
  obtain ⟨pl, hev⟩ := hev
  refine ks_wpAt_MethodCall ?_ hev
  refine ks_wpAt_super_base (env := ksEnv q scope L fI (.ref cda) cc) h1 h2 (by decide) rfl (X _ _ hf) rfl hp rfl (X _ _ hcode) rfl hvs hfile O.top ?_
  refine PySem.W.ks_loadName_global hk h1 (loadGlobal_builtin (env := ksEnv q scope L fI (.ref cda) cc) hg O.noS hb (hmb.trans (by rfl)) ⟨rfl, ?_⟩)
  refine wpAny_loadName_free hk h2 rfl ⟨_, X _ _ hcell, rfl⟩ ?_
  refine wpAny_loadName_local hk h3 hn hm ?_
  refine ks_wpAny_isType_cls (X _ _ hC) rfl ⟨rfl, ?_⟩
  refine ks_wpAny_call_super (X _ _ hC) rfl hx rfl (fun c e => by cases e) (looks_mroIn X O.self) (fun h' e kk => ?_)
  have X' : K.In h' := X.keeps kk
  have hx' := kk _ _ hx
  have IX : PySem.W.InstAt h' x (excO C t0) C none := ⟨hx', rfl, rfl, trivial⟩
  have hI : Looks (model prog w) h' (isInstance (.ref x) (.type "ValueError")) true := IX.type.andThen (looks_mroIn X' (by
    unfold mroIn
    rw [hcl, Option.bind_some, if_neg (by simp), List.contains_cons, refsVE_contains "ValueError" bm hbm, show veTail.contains (.type "ValueError") = true by decide +kernel, Bool.or_true]))
  refine PySem.W.kxs_getMethod PySem.W.kxs_ValueError e (PySem.W.looks_opaque X' O.opq) (l₀ := .ref C :: bm) ?_ rfl X' ?_ hI hxC (by decide) ?_
  · exact fun A Q E s k q => wpAny_bind ((looks_clsIn X' hcl) A _ E s k (wpAny_pure q))
  · have e2 : ((Value.ref C :: bm).dropWhile (· != .ref C)).drop 1 = bm := ESX.drop_own C bm
    rw [e2]
    exact hal
  · have up : ∀ b o, h'.get? b = some o → (h'.push (kxs_mw "ValueError.__init__" x)).get? b = some o := fun b o q => Heap.get?_push_of_some _ q
    have hu : (h'.push (kxs_mw "ValueError.__init__" x)).get? h'.objs.size = some (kxs_mw "ValueError.__init__" x) := Heap.get?_push_at rfl rfl
    show wpAny _ _ (callWith a5 (.ref h'.objs.size) [] (backTo a5 (starEach [.Constant (.str msg) j a4] (ksEnv q scope L fI (.ref cda) cc))) []) _ _ _
    rw [hst]
    refine PySem.W.kxs_callWith (i := "ValueError.__init__") (u := h'.objs.size) (x := x) rfl ?_
    refine evalArgs_plain ?_
    refine Calls.spliced_cons (wpAny_Constant_str (k := j) (pos := a4) (Calls.spliced_nil ⟨hu, ?_⟩))
    have hC1 : (h'.push (kxs_mw "ValueError.__init__" x)).get? C = some _ := up _ _ (X' _ _ hC)
    refine call_mw hC1 (up _ _ hx') hu (by show 1 ≤ sizeLine; decide) fun h2 t1 k1 k2 => ?_
    exact k h2 _ t1 (fun b o hb e => k1 b o hb (up _ _ (kk b o e))) k2
/-- what __init__ leaves of a fresh error at x: its own dict at dx -/
structure IEnd (h h' : Heap) (x C dx L : Addr) (m : Str → Option Value) : Prop where
  keep : ∀ b o, b ≠ x → h.get? b = some o → h'.get? b = some o
  obj : ∃ t1, h'.get? x = some { cls := .ref C, dict := some dx, data := .fields #[.ref t1, .none, .none, .none, .bool false, .none] }
  dbig : L < dx
  dne : dx ≠ x
  ns : h'.Ns1 dx m
/-- the text of __init__(self, fld): the base's, the tag, the field (l: without a field) -/
def sSup (msg : Str) (a1 a2 a3 a4 a5 a6 : Pos) : Stmt := .Expr (.Call (.Attribute (.Call (.Name "super" a1) [] [] a2) "__init__" a3) [.Constant (.str msg) 0 a4] [] a5) a6
def sTag (tag : Str) (b1 b2 b3 b4 : Pos) : Stmt := .Assign [.Attribute (.Name "self" b1) "tag" b2] (.Constant (.str tag) 0 b3) b4
def sFld (fld : Str) (c1 c2 c3 c4 : Pos) : Stmt := .Assign [.Attribute (.Name "self" c1) fld c2] (.Name fld c3) c4
/-- what a look at the text tells, at every frame -/
structure Txt (q : Str) (scope : Scope) (fI cda cc : Addr) (msg tag : Str) (a1 a2 a3 a4 a5 a6 b1 b2 b3 b4 : Pos) : Prop where
  kind : scope.kind = .function
  sup : scope.names.lookup ("super" : Str) = some .globalImplicit
  cls : scope.names.lookup ("__class__" : Str) = some .free
  self : scope.names.lookup ("self" : Str) = some .local
  co : scope.isCoroutine = false
  gen : scope.isGenerator = false
  nocell : ∀ y ∈ scope.names, y.2 ≠ .cell
  sw : ∀ L, swapsWith (.Call (.Attribute (.Call (.Name "super" a1) [] [] a2) "__init__" a3) [.Constant (.str msg) 0 a4] [] a5) none a6.line (ksEnv q scope L fI (.ref cda) cc) = pure false
  int : ∀ L, interactive (ksEnv q scope L fI (.ref cda) cc) = false
  ev : ∀ L, ∃ pl : Sem Bool, eval (.Call (.Attribute (.Call (.Name "super" a1) [] [] a2) "__init__" a3) [.Constant (.str msg) 0 a4] [] a5) (ksEnv q scope L fI (.ref cda) cc) = (do
      let ov ← attributeBase (.Call (.Name "super" a1) [] [] a2) "__init__" (ksEnv q scope L fI (.ref cda) cc) (eval (.Call (.Name "super" a1) [] [] a2) (ksEnv q scope L fI (.ref cda) cc))
      standAt a3.atName
      let fb ← holding [ov] (getMethod ov "__init__" pl)
      callWith a5 fb.1 fb.2 (backTo a5 (starEach [.Constant (.str msg) 0 a4] (ksEnv q scope L fI (.ref cda) cc))) [])
  st : ∀ L, starEach [.Constant (.str msg) 0 a4] (ksEnv q scope L fI (.ref cda) cc) = [(false, eval (.Constant (.str msg) 0 a4) (ksEnv q scope L fI (.ref cda) cc))]
  sw2 : ∀ L, swapsWith (.Constant (.str tag) 0 b3) (some (.Attribute (.Name "self" b1) "tag" b2)) b4.line (ksEnv q scope L fI (.ref cda) cc) = pure false
section
variable {prog : Program} {w : World} {A : Around} {E : Value → Shared → Prop} {s : Shared} {K : Frag} {mg mb : Str → Option Value} {nm : Str} {C fI cda cc : Addr} {fd : FuncData}
/-- super().__init__('..'); self.tag = '..' -/
theorem two_stmts (O : Own prog K mg nm C fI) (I : IFn prog K C fI cda cc fd) {ar : Arg} (hp : (fd.params.posonlyargs ++ fd.params.args).head? = some ar) (har : ar.arg = "self") {q : Str} {scope : Scope} {L x t0 : Addr} {m : Str → Option Value} {body rest : List Stmt} {msg tag : Str} {a1 a2 a3 a4 a5 a6 b1 b2 b3 b4 : Pos} {Q : Flow → Shared → Prop}
    (T : Txt q scope fI cda cc msg tag a1 a2 a3 a4 a5 a6 b1 b2 b3 b4)
    (X : K.In s.heap) (hnx : K.lookup x = none) (hg : s.heap.Ns mainGlobals mg) (hb : s.heap.Ns builtinsNs mb) (hmb : mb "super" = bootBuiltins "super") (hn : s.heap.Ns L m) (hm : m "self" = some (.ref x)) (hx : s.heap.get? x = some (excO C t0)) (hxC : x ≠ C) (hxL : x ≠ L)
    (k : ∀ h' tk dx u, IEnd s.heap h' x C dx L (fun y => if y = "tag" then some (.str tag u) else none) → wpAny (model prog w) A (execs rest (ksEnv q scope L fI (.ref cda) cc)) Q E { s with heap := h', toks := tk }) :
    _root_.PySem.wpAt (model prog w) A (.func body (ksEnv q scope L fI (.ref cda) cc)) (execs (sSup msg a1 a2 a3 a4 a5 a6 :: sTag tag b1 b2 b3 b4 :: rest) (ksEnv q scope L fI (.ref cda) cc)) Q E s := by
  obtain ⟨nm', q', N, bs, bm, sn, sub, ab, col, dd, k0, k1, k2, k3, k5, hC, hbm, hal⟩ := id O.cls
  have hcl : clsIn K C = some { name := nm', bases := bs, mro := .ref C :: bm, ns := N, qualname := q', hasDict := true, slotNames := sn, subclasses := sub, abstract := ab, collection := col, hasDel := false } := by unfold clsIn; rw [hC] <;> rfl
  refine ks_wpAt_execs_cons (super_stmt O I hp X hg hb hmb hn (by rw [har]; exact hm) hx hxC T.kind T.sup T.cls (by rw [har]; exact T.self) (T.sw L) (T.int L) (T.ev L) (T.st L) fun h1 tk t1 k1 e1 => ?_)
  have X1 : K.In h1 := fun a o e => k1 a o (fun z => by rw [z, hnx] at e; cases e) (X a o e)
  have hn1 : h1.Ns L m := by
    obtain ⟨ob, es, ep, ho, r⟩ := hn
    exact ⟨ob, es, ep, k1 _ _ (Ne.symm hxL) ho, r⟩
  refine wpAt_of_wpAny (wpAny_execs_cons (plainObj_wpAny_Assign_Attribute (wpAny_Constant_str (k := 0) (pos := b3) ?_) (T.sw2 L)))
  refine wpAny_Name (wpAny_loadName_local T.kind T.self hn1 hm ?_) (by decide)
  refine PySem.W.set_plain X1 (ox := excO C t1) (od := none) ⟨e1, rfl, rfl, trivial⟩ O.sa ?_
  refine exc_osa X1 e1 hcl (show refsVE (.ref C :: bm) = true from hbm) rfl O.noT (fun h3 tk3 dx k3 dn dne hx3 hn3 => ?_)
  refine k h3 tk3 dx tk ⟨fun b o hb e => k3 b o hb (k1 b o hb e), ⟨t1, hx3⟩, Nat.lt_of_lt_of_le hn1.lt dn, dne, hn3⟩
end
end
end EX

namespace EX
open PySem PySem.Calls PyProof.Rows PySem.HandSPX
open PySem.W (Frag findIn typeIn keepIn subIn hasDictIn nsIn mroIn clsIn codeIn fnX envX Looks KxsFacts kxs_mw ksEnv ksFn looks_mroIn looks_findIn looks_clsIn)
def mT (tag : Str) (u : Tok) : Str → Option Value := fun y => if y = "tag" then some (.str tag u) else none
def mF (fld tag : Str) (u : Tok) (v : Value) : Str → Option Value := fun y => if y = fld then some v else mT tag u y
theorem refs_px (l : List Value) : refsVE l = true → PX.refsVE l = true := by
  induction l with
  | nil =>
    intro h
    exact absurd h (by decide +kernel)
  | cons a r ih =>
    intro h
    rcases refsVE_cases _ h with ⟨c, r', e, h'⟩ | e
    · cases e
      exact ih h'
    · rw [e]
      decide +kernel
theorem within_tag (tag : Str) (u : Tok) : Within (mT tag u) ["tag"] := Within.cons "tag" (.str tag u) Within.nil
section
variable {prog : Program} {w : World} {A : Around} {E : Value → Shared → Prop} {R : Result → Shared → Prop} {s : Shared} {K : Frag} {mg mb : Str → Option Value} {nm : Str} {C fI cda cc : Addr}
variable {n0 q msg tag fld : Str} {params : Arguments} {scope : Scope} {doc pm ct oc : Value} {an od : Option Addr} {osl : Array (Option Value)} {a1 a2 a3 a4 a5 a6 b1 b2 b3 b4 c1 c2 c3 c4 : Pos} {x t0 : Addr} {v : Value}
/-- __init__(self) -/
theorem init0 (O : Own prog K mg nm C fI) (I : IFn prog K C fI cda cc (ksFn n0 q params [sSup msg a1 a2 a3 a4 a5 a6, sTag tag b1 b2 b3 b4] scope .none .none doc pm an (.ref cda) ct cc)) (T : Txt q scope fI cda cc msg tag a1 a2 a3 a4 a5 a6 b1 b2 b3 b4)
    (hcd : codeIn K (.ref cda) q = true) {ar : Arg} (hp : (params.posonlyargs ++ params.args).head? = some ar) (har : ar.arg = "self")
    (hbind : BindsTo s (ksFn n0 q params [sSup msg a1 a2 a3 a4 a5 a6, sTag tag b1 b2 b3 b4] scope .none .none doc pm an (.ref cda) ct cc) ⟨[.ref x], []⟩ [("self", .ref x)])
    (X : K.In s.heap) (hlim : s.heap.NoLimit) (hnx : K.lookup x = none) (hg : s.heap.Ns mainGlobals mg) (hb : s.heap.Ns builtinsNs mb) (hmb : mb "super" = bootBuiltins "super") (hx : s.heap.get? x = some (excO C t0)) (hxC : x ≠ C) (hroom : A.depth < recursionLimit)
    (k : ∀ h' tk dx u, IEnd s.heap h' x C dx s.heap.objs.size (mT tag u) → R (.ok (.ret .none)) { s with heap := h', toks := tk }) :
    codeAny (model prog w) A (.call (.ref fI) ⟨[.ref x], []⟩) R s := by
  obtain ⟨oc', od', osl', lk⟩ := id I.lk
  refine ks_codeAny_call_defAt hroom (X _ _ lk) rfl hlim (PySem.W.codeRec_of X hcd) rfl hbind T.nocell (fun y hy => ?_) (fun h₀ hn kk => ?_) T.co T.gen T.kind
  · rw [List.mem_singleton] at hy
    subst hy
    exact T.self
  · have hxL : x ≠ s.heap.objs.size := Nat.ne_of_lt (Heap.lt_size hx)
    refine two_stmts (s := { s with heap := h₀, toks := _ }) (rest := []) O I hp har T (X.keeps kk) hnx (hg.keeps kk) (hb.keeps kk) hmb hn (by first | rfl | simp) (kk _ _ hx) hxC hxL fun h' tk dx u e => ?_
    refine wpAny_execs_nil ?_
    exact k h' tk dx u ⟨fun b o hb' ho => e.keep b o hb' (kk b o ho), e.obj, e.dbig, e.dne, e.ns⟩
/-- __init__(self, fld) -/
theorem init1 (O : Own prog K mg nm C fI) (hfn : findIn K (.ref C) fld = some none) (I : IFn prog K C fI cda cc (ksFn n0 q params [sSup msg a1 a2 a3 a4 a5 a6, sTag tag b1 b2 b3 b4, sFld fld c1 c2 c3 c4] scope .none .none doc pm an (.ref cda) ct cc)) (T : Txt q scope fI cda cc msg tag a1 a2 a3 a4 a5 a6 b1 b2 b3 b4)
    (hcd : codeIn K (.ref cda) q = true) {ar : Arg} (hp : (params.posonlyargs ++ params.args).head? = some ar) (har : ar.arg = "self")
    (hbind : BindsTo s (ksFn n0 q params [sSup msg a1 a2 a3 a4 a5 a6, sTag tag b1 b2 b3 b4, sFld fld c1 c2 c3 c4] scope .none .none doc pm an (.ref cda) ct cc) ⟨[.ref x, v], []⟩ [("self", .ref x), (fld, v)])
    (hfl : scope.names.lookup fld = some .local) (hfs : (fld == ("self" : Str)) = false) (hfd : (fld == ("__debug__" : Str)) = false) (sw3 : ∀ L, swapsWith (.Name fld c3) (some (.Attribute (.Name "self" c1) fld c2)) c4.line (ksEnv q scope L fI (.ref cda) cc) = pure false)
    (X : K.In s.heap) (hlim : s.heap.NoLimit) (hnx : K.lookup x = none) (hg : s.heap.Ns mainGlobals mg) (hb : s.heap.Ns builtinsNs mb) (hmb : mb "super" = bootBuiltins "super") (hx : s.heap.get? x = some (excO C t0)) (hxC : x ≠ C) (hroom : A.depth < recursionLimit)
    (k : ∀ h' tk dx u, IEnd s.heap h' x C dx s.heap.objs.size (mF fld tag u v) → R (.ok (.ret .none)) { s with heap := h', toks := tk }) :
    codeAny (model prog w) A (.call (.ref fI) ⟨[.ref x, v], []⟩) R s := by
  obtain ⟨oc', od', osl', lk⟩ := id I.lk
  obtain ⟨nm', q', N, bs, bm, sn, sub, ab, col, dd, k0, k1, k2, k3, k5, hC, hbm, hal⟩ := id O.cls
  have hcl : clsIn K C = some { name := nm', bases := bs, mro := .ref C :: bm, ns := N, qualname := q', hasDict := true, slotNames := sn, subclasses := sub, abstract := ab, collection := col, hasDel := false } := by unfold clsIn; rw [hC] <;> rfl
  have hself : (("self" : Str) == fld) = false := by
    rw [beq_eq_false_iff_ne] at hfs ⊢
    exact Ne.symm hfs
  refine ks_codeAny_call_defAt hroom (X _ _ lk) rfl hlim (PySem.W.codeRec_of X hcd) rfl hbind T.nocell (fun y hy => ?_) (fun h₀ hn kk => ?_) T.co T.gen T.kind
  · rcases List.mem_cons.mp hy with e | hy
    · subst e
      exact T.self
    · rw [List.mem_singleton] at hy
      subst hy
      exact hfl
  · have hxL : x ≠ s.heap.objs.size := Nat.ne_of_lt (Heap.lt_size hx)
    have m1 : ([("self", .ref x), (fld, v)] : List (Str × Value)).reverse.lookup ("self" : Str) = some (Value.ref x) := by simp [List.lookup, hself]
    have m2 : ([("self", .ref x), (fld, v)] : List (Str × Value)).reverse.lookup fld = some v := by simp [List.lookup]
    refine two_stmts (s := { s with heap := h₀, toks := _ }) (rest := [sFld fld c1 c2 c3 c4]) O I hp har T (X.keeps kk) hnx (hg.keeps kk) (hb.keeps kk) hmb hn m1 (kk _ _ hx) hxC hxL fun h2 tk dx u e => ?_
    have X2 : K.In h2 := fun a o q => e.keep a o (fun z => by rw [z, hnx] at q; cases q) (X.keeps kk a o q)
    have hn2 : h2.Ns s.heap.objs.size (fun y => ([("self", .ref x), (fld, v)] : List (Str × Value)).reverse.lookup y) := by
      obtain ⟨ob, es, ep, ho, r⟩ := hn
      exact ⟨ob, es, ep, e.keep _ _ (Ne.symm hxL) ho, r⟩
    obtain ⟨t1, hx2⟩ := e.obj
    obtain ⟨oD, esD, epD, hoD, hdD, _⟩ := e.ns.count (within_tag tag u)
    refine wpAny_execs_cons (plainObj_wpAny_Assign_Attribute ?_ (sw3 _))
    refine wpAny_Name (wpAny_loadName_local T.kind hfl hn2 m2 ?_) hfd
    refine wpAny_Name (wpAny_loadName_local T.kind T.self hn2 m1 ?_) (by decide)
    refine PySem.W.set_plain X2 (od := some oD) ⟨hx2, rfl, rfl, hoD⟩ O.sa ?_
    refine PX.osa_old X2 hx2 e.ns (within_tag tag u) (by decide) hcl (refs_px _ (show refsVE (.ref C :: bm) = true from hbm)) rfl hfn (fun h3 tk3 k3 hn3 => ?_)
    refine wpAny_execs_nil ?_
    exact k h3 tk3 dx u ⟨fun b o hb' ho => k3 b o (Nat.ne_of_lt (Nat.lt_trans (Heap.lt_size ho) e.dbig)) (e.keep b o hb' (kk b o ho)), ⟨t1, k3 _ _ (Ne.symm e.dne) hx2⟩, e.dbig, e.dne, hn3⟩
end
end EX

namespace EX
open PySem PySem.Calls PyProof.Rows PySem.HandSPX
open PySem.W (Frag findIn typeIn keepIn subIn hasDictIn nsIn mroIn clsIn codeIn fnX envX Looks KxsFacts kxs_mw ksEnv ksFn looks_mroIn looks_findIn looks_clsIn)
/-- __init__ with the arguments us leaves an own dict that holds mm -/
def Inits (prog : Program) (w : World) (K : Frag) (mg : Str → Option Value) (C fI : Addr) (us : List Value) (mm : Tok → Str → Option Value) : Prop :=
  ∀ (A : Around) (R : Result → Shared → Prop) (s : Shared) (x t0 : Addr) (mb : Str → Option Value), K.In s.heap → s.heap.NoLimit → K.lookup x = none → s.heap.Ns mainGlobals mg → s.heap.Ns builtinsNs mb → mb "super" = bootBuiltins "super" →
    s.heap.get? x = some (excO C t0) → x ≠ C → A.depth < recursionLimit → (∀ h' tk dx u, IEnd s.heap h' x C dx s.heap.objs.size (mm u) → R (.ok (.ret .none)) { s with heap := h', toks := tk }) →
    codeAny (model prog w) A (.call (.ref fI) ⟨.ref x :: us, []⟩) R s
/-- a made error: at e, its own dict at d -/
structure Made (h h' : Heap) (e C d : Addr) (m : Str → Option Value) : Prop where
  keep : ∀ b o, h.get? b = some o → h'.get? b = some o
  new : h.objs.size ≤ e
  obj : ∃ t, h'.get? e = some { cls := .ref C, dict := some d, data := .fields #[.ref t, .none, .none, .none, .bool false, .none] }
  dbig : h.objs.size ≤ d
  dne : d ≠ e
  ns : h'.Ns1 d m
section
variable {prog : Program} {w : World} {A : Around} {E : Value → Shared → Prop} {R : Result → Shared → Prop} {s : Shared} {K : Frag} {mg mb : Str → Option Value} {nm : Str} {C fI : Addr} {us : List Value} {mm : Tok → Str → Option Value}
theorem made (O : Own prog K mg nm C fI) (J : Inits prog w K mg C fI us mm) (hz : us.length ≤ sizeLine) (X : K.In s.heap) (hlim : s.heap.NoLimit) (hg : s.heap.Ns mainGlobals mg) (hb : s.heap.Ns builtinsNs mb) (hmb : mb "super" = bootBuiltins "super") (hroom : A.depth + 1 < recursionLimit)
    (hq : ∀ h' tk e d u, Made s.heap h' e C d (mm u) → R (.ok (.ret (.ref e))) { s with heap := h', toks := tk }) : codeAny (model prog w) A (.call (.ref C) ⟨us, []⟩) R s := by
  obtain ⟨nm', q', N, bs, bm, sn, sub, ab, col, dd, k0, k1, k2, k3, k5, hC, hbm, hal⟩ := id O.cls
  obtain ⟨hp, g, dr, tk, os⟩ := s
  have hold : ∀ b o, hp.get? b = some o → ((hp.push (PySem.W.kdv_tup us)).push (excO C hp.objs.size)).get? b = some o := fun b o e => Heap.get?_push_of_some _ (Heap.get?_push_of_some _ e)
  have hget : ((hp.push (PySem.W.kdv_tup us)).push (excO C hp.objs.size)).get? (hp.objs.size + 1) = some (excO C hp.objs.size) := by heap_get
  have out : ∀ a o, hp.get? a = some o → a ≠ hp.objs.size + 1 := fun a o e => Nat.ne_of_lt (Nat.lt_succ_of_lt (Heap.lt_size e))
  have hnx : K.lookup (hp.objs.size + 1) = none := by
    cases e : K.lookup (hp.objs.size + 1) with
    | none => rfl
    | some o => exact absurd rfl (out _ _ (X _ _ e))
  refine call_own F.excBase_ValueError (fun Y => refsVE_contains Y bm hbm) (X _ _ hC) (looks_findIn X O.iC) (fun self => PySem.W.bind_fn X self O.tC) hz ?_
  refine J _ _ ⟨(hp.push (PySem.W.kdv_tup us)).push (excO C hp.objs.size), g, dr, tk, os⟩ (hp.objs.size + 1) hp.objs.size mb (X.keeps hold) (hlim.keeps hold) hnx (hg.keeps hold) (hb.keeps hold) hmb hget (Ne.symm (out _ _ (X _ _ hC))) hroom fun h' tk' dx u Z => ?_
  obtain ⟨t1, ho⟩ := Z.obj
  have hd : hp.objs.size + 1 + 1 < dx := by
    have := Z.dbig
    rw [Heap.size_push, Heap.size_push] at this
    exact this
  exact ⟨rfl, hq h' tk' (hp.objs.size + 1) dx u ⟨fun b o e => Z.keep b o (out b o e) (hold b o e), Nat.le_succ _, ⟨t1, ho⟩, by show hp.objs.size ≤ dx; omega, Z.dne, Z.ns⟩⟩
end
end EX

namespace EX
open PySem PySem.Spec PyProof.Rows L2
section
variable {X : Cx} {pins : List (Addr × Obj)} {σ : L2.St} {H : Hp} {s : Shared} {nm tag fld : Str} {C fI : Addr}
theorem mkp_of (O : Own X.prog X.K X.mg nm C fI) (I : Inv X pins σ H s) {h' : Heap} {tk' : Nat} {e d : Addr} {m : Str → Option Value} {fs : List (Str × V)} {Q : XK} (M : Made s.heap h' e C d m) (hr : ∀ f, RelO (fs.lookup f) (m f))
    (q : ∀ d, H d = none → Q (.ref C) (some d) (upd H d (.xd fs))) : MkP X pins σ Q (.ref e) { s with heap := h', toks := tk' } := by
  obtain ⟨hp, g, dr, tk, os⟩ := s
  obtain ⟨t, ho⟩ := M.obj
  obtain ⟨G, g1, g2⟩ := restrict h' fun b => decide (b ≠ e)
  have gk : ∀ b, b ≠ e → G.get? b = h'.get? b := fun b hb => g1 b (decide_eq_true hb)
  have ge : G.get? e = none := g2 e (by simp)
  have old : ∀ b o, hp.get? b = some o → G.get? b = some o := fun b o z => (gk b (fun y => absurd (Heap.lt_size z) (by rw [y]; exact Nat.not_lt.mpr M.new))).trans (M.keep b o z)
  have ob : ObjOk X.prog X.w (upd H d (.xd fs)) G d (.xd fs) := ⟨m, M.ns.at (fun o z => (gk d M.dne).trans z), hr⟩
  have J : Inv X pins σ (upd H d (.xd fs)) ⟨G, g, dr, tk', os⟩ := I.laid (t' := tk') old M.dbig ob
  refine ⟨e, _, _, ⟨G, g, dr, tk', os⟩, upd H d (.xd fs), .ref C, some d, rfl, J, fun b o z => ?_, ge, ho, ⟨rfl, rfl⟩, rfl, rfl, ?_, rfl, I.bare, raises_own O.exC O.tyC, q d (I.hok.fresh M.dbig)⟩
  · have z : G.get? b = some o := z
    have hb : b ≠ e := fun y => by rw [y, ge] at z; cases z
    exact (gk b hb).symm.trans z
  · rw [upd_ne (Ne.symm M.dne)]
    exact I.hok.fresh M.new
theorem rel0 (tag : Str) (u : Tok) (f : Str) : RelO (List.lookup f [(("tag" : Str), V.str tag)]) (mT tag u f) := by
  unfold mT
  by_cases h : f = "tag"
  · subst h
    rw [if_pos rfl, show List.lookup ("tag" : Str) [(("tag" : Str), V.str tag)] = some (V.str tag) by simp [List.lookup]]
    exact ⟨u, rfl⟩
  · have h2 : (f == ("tag" : Str)) = false := by simpa using h
    rw [if_neg h, show List.lookup f [(("tag" : Str), V.str tag)] = none by simp [List.lookup, h2]]
    trivial
theorem rel1 {v : V} {v' : Value} (r : RelV v v') (fld tag : Str) (u : Tok) (f : Str) : RelO (List.lookup f [(fld, v), (("tag" : Str), V.str tag)]) (mF fld tag u v' f) := by
  unfold mF
  by_cases h : f = fld
  · subst h
    rw [if_pos rfl, show List.lookup f [(f, v), (("tag" : Str), V.str tag)] = some v by simp [List.lookup]]
    exact r
  · have h2 : (f == fld) = false := by simpa using h
    have e : List.lookup f [(fld, v), (("tag" : Str), V.str tag)] = List.lookup f [(("tag" : Str), V.str tag)] := by simp [List.lookup, h2]
    rw [if_neg h, e]
    exact rel0 tag u f
/-- C() -/
def tMk0 (C : Addr) (tag : Str) : L2.St → Hp → XK → Prop := fun _ H Q => ∀ d, H d = none → Q (.ref C) (some d) (upd H d (.xd [("tag", .str tag)]))
/-- C(e) -/
def tMk1 (C : Addr) (fld tag : Str) (ta : TA) : L2.St → Hp → XK → Prop := fun σ H Q => ta σ H fun vs H1 => ∃ v, vs = [v] ∧ ∀ d, H1 d = none → Q (.ref C) (some d) (upd H1 d (.xd [(fld, v), ("tag", .str tag)]))
theorem pmk0 {p pos : Pos} {k : Nat} (O : Own X.prog X.K X.mg nm C fI) (J : Inits X.prog X.w X.K X.mg C fI [] (mT tag)) (hr : Room k X.A) (hg : Gl X nm := by rfl) (hdb : (nm == ("__debug__" : Str)) = false := by decide) : PMk X (.Call (.Name nm p) [] [] pos) (tMk0 C tag) := by
  intro pins s σ H Q I h
  obtain ⟨mb, hb1, hb2⟩ := I.mod.blt
  refine wpAny_Call_Name_kw (ld_glob I hg O.gC ?_ hdb)
  refine PySem.W.callWith_K0 I.kIn O.kC ?_
  refine wpAny_call (made O J (Nat.zero_le _) I.kIn I.nolimit (I.mod.glob.keeps I.bk) (hb1.keeps I.bk) (hb2 _ (by decide)) (by have := hr.dp; omega) fun h' tk' e d u M => ?_)
  exact mkp_of O I M (rel0 tag u) h
theorem pmk1 {a : Expr} {ta : TA} {p pos : Pos} {k : Nat} (O : Own X.prog X.K X.mg nm C fI) (J : ∀ v, Inits X.prog X.w X.K X.mg C fI [v] (fun u => mF fld tag u v)) (hr : Room k X.A) (ha : PA X [a] ta) (hg : Gl X nm := by rfl) (hdb : (nm == ("__debug__" : Str)) = false := by decide)
    (he : starEach (a :: []) X.env = (false, eval a X.env) :: starEach [] X.env := by rfl) (hpl : (backTo pos (starEach [] X.env)).any (·.1) = false := by rfl) : PMk X (.Call (.Name nm p) [a] [] pos) (tMk1 C fld tag ta) := by
  intro pins s σ H Q I h
  refine wpAny_Call_Name_kw (ld_glob I hg O.gC ?_ hdb)
  refine PySem.W.callWith_K (h₀ := X.base) I.ok.mod.kin O.kC (thn (ha.run pos pins s σ H _ I h) fun us s1 hh => ?_) he hpl
  obtain ⟨vs, H1, I1, r1, v, ev, q1⟩ := hh
  subst ev
  refine ⟨I1.kIn, ?_⟩
  cases r1 with
  | cons rv rn =>
    rename_i v' us'
    cases rn
    obtain ⟨mb, hb1, hb2⟩ := I1.mod.blt
    refine wpAny_call (made O (J v') (by show 1 ≤ sizeLine; decide) I1.kIn I1.nolimit (I1.mod.glob.keeps I1.bk) (hb1.keeps I1.bk) (hb2 _ (by decide)) (by have := hr.dp; omega) fun h' tk' e d u M => ?_)
    exact mkp_of O I1 M (rel1 rv fld tag u) q1
end
end EX

namespace EX
open PySem PySem.Spec PyProof.Rows L2
/-! ### try .. except (x1, x2, x3) as n -/
theorem fly_push {B h : Heap} {l : List Env} {a : Addr} {Z : Obj → Prop} (o : Obj) (f : HandSPX.FlyingZ B l a Z h) : HandSPX.FlyingZ B l a Z (h.push o) := by
  obtain ⟨f1, f2, f3, oe, vs, T, oT, ts, g1, g2, g3, g4, g5, g6, g7, g8, g9⟩ := f
  have up : ∀ b u, h.get? b = some u → (h.push o).get? b = some u := fun b u e => Heap.get?_push_of_some _ e
  exact ⟨fun b u e => up b u (f1 b u e), f2, f3.of_keeps fun b u e _ => ⟨u, up b u e, rfl⟩, oe, vs, T, oT, ts, up _ _ g1, g2, g3, g4, g5, g6, up _ _ g7, g8, g9⟩
theorem upTo_push {h h' : Heap} (o : Obj) (u : h.UpToSlots h') : h.UpToSlots (h'.push o) := fun b z e n => by
  obtain ⟨sl, q⟩ := u b z e n
  exact ⟨sl, Heap.get?_push_of_some _ q⟩
/-- what the clause wishes: the class is one of the three, then the suite -/
def wTup (K : PySem.W.Frag) (cs : List Value) (i : Nat) (ts : Addr → Value → Option Addr → TS) (D : Ends) : WX := fun cls d σ H => PySem.W.exmAny K cls cs = some true ∧
  ∀ a, H a = none → ts a cls d { nx := fun σ1 H1 => D.nx (σ1.set i none) H1, rt := D.rt, bk := fun σ1 H1 => D.bk (σ1.set i none) H1, ct := fun σ1 H1 => D.ct (σ1.set i none) H1 } (σ.set i (some (.ref a))) H
section
variable {X : Cx} {x1 x2 x3 n : Str} {c1 c2 c3 : Addr} {i j : Nat} {body suite : List Stmt} {b₀ : Stmt} {p1 p2 p3 p4 pos pos' : Pos} {tb : WX → TS} {ts : Addr → Value → Option Addr → TS}
/-- the three classes, in a suite's context -/
theorem eval_three {a : Addr} {pn pins : List (Addr × Obj)} {σ : L2.St} {H : Hp} {s : Shared} {Q : Value → Shared → Prop} {E : Value → Shared → Prop} (I : Inv (X.suite a pn) pins σ H s)
    (g1 : Gl X x1 ∧ X.mg x1 = some (.ref c1) ∧ (x1 == ("__debug__" : Str)) = false) (g2 : Gl X x2 ∧ X.mg x2 = some (.ref c2) ∧ (x2 == ("__debug__" : Str)) = false) (g3 : Gl X x3 ∧ X.mg x3 = some (.ref c3) ∧ (x3 == ("__debug__" : Str)) = false)
    (q : Q (.ref s.heap.objs.size) { s with heap := s.heap.push { cls := .type "tuple", data := .seq [Value.ref c1, .ref c2, .ref c3].toArray } })
    (hst : starEach [.Name x1 p1, .Name x2 p2, .Name x3 p3] X.env = [(false, eval (.Name x1 p1) X.env), (false, eval (.Name x2 p2) X.env), (false, eval (.Name x3 p3) X.env)]) :
    wpAny (model X.prog X.w) (X.A.mark (some (.ref a))) (eval (.Tuple [.Name x1 p1, .Name x2 p2, .Name x3 p3] j p4) X.env) Q E s := by
  refine wpAny_Tuple_spliced ?_
  rw [hst]
  refine Calls.spliced_cons (ld_glob (X := X.suite a pn) I g1.1 g1.2.1 ?_ g1.2.2)
  refine Calls.spliced_cons (ld_glob (X := X.suite a pn) I g2.1 g2.2.1 ?_ g2.2.2)
  refine Calls.spliced_cons (ld_glob (X := X.suite a pn) I g3.1 g3.2.1 ?_ g3.2.2)
  exact Calls.spliced_nil ⟨by show 3 ≤ sizeLine; decide, q⟩
theorem ps_try_tup (hs : X.stack = X.env :: X.outer) (hf : X.env.frame = some X.env.locals) (hN : X.N.Nodup) (hi : X.N[i]? = some n) (hln : X.env.kindOf n = some .local)
    (g1 : Gl X x1 ∧ X.mg x1 = some (.ref c1) ∧ (x1 == ("__debug__" : Str)) = false) (g2 : Gl X x2 ∧ X.mg x2 = some (.ref c2) ∧ (x2 == ("__debug__" : Str)) = false) (g3 : Gl X x3 ∧ X.mg x3 = some (.ref c3) ∧ (x3 == ("__debug__" : Str)) = false)
    (hst : starEach [.Name x1 p1, .Name x2 p2, .Name x3 p3] X.env = [(false, eval (.Name x1 p1) X.env), (false, eval (.Name x2 p2) X.env), (false, eval (.Name x3 p3) X.env)])
    (hb : ∀ (W : WX) (pn : List (Addr × Obj)) (xe : Value → Shared → Prop), Takes (X.tr pn xe) W → PSs (X.tr pn xe) body (tb W))
    (hsu : ∀ (a : Addr) (oe : Obj) (cls : Value) (d : Option Addr) (pn : List (Addr × Obj)), Zc cls d oe → (∃ vs, oe.data = .fields vs) → PSs (X.suite a ((a, oe) :: pn)) (b₀ :: suite) (ts a cls d)) :
    PS X (.Try body [.ExceptHandler (some (.Tuple [.Name x1 p1, .Name x2 p2, .Name x3 p3] j p4)) (some n) (b₀ :: suite) pos'] [] [] pos) (fun D σ H => tb (wTup X.K [.ref c1, .ref c2, .ref c3] i ts D) D σ H) := by
  refine ⟨fun pins s σ H D I hw => ?_⟩
  have ok := I.ok
  have frs_ : X.A.frames = some (X.env :: X.outer) := by rw [ok.frames, hs]
  have here : Loc X.env.scope n := .inl hln
  refine wpAny_Try_except (wpAny_mono ((hb (wTup X.K [.ref c1, .ref c2, .ref c3] i ts D) (X.pn ++ pins) (fun e sa => wpAny (model X.prog X.w) X.A (noteFrame e X.env) (fun _ sb => wpAny (model X.prog X.w) X.A (setFlight e none) (fun _ sc =>
    wpAny (model X.prog X.w) X.A (handleBy e X.env [.ExceptHandler (some (.Tuple [.Name x1 p1, .Name x2 p2, .Name x3 p3] j p4)) (some n) (b₀ :: suite) pos']) (SP X pins D) X.xe sc) X.xe sb) X.xe sa) (fun u s2 air => ?_)).run [] s σ H D (I.toTry _) hw) (fun fl s2 done => ?_) (fun _ _ z => z))
  · -- an exception comes
    obtain ⟨a, B, sI, pins2, σ2, H2, cls, d, rfl, Jt, nb, up, sky, na, os, ag, hm, hy⟩ := air
    have J : Inv X pins σ2 H2 sI := Jt.ofTry ok
    rw [show (X.tr (X.pn ++ pins) _).stack = X.env :: X.outer from hs] at sky
    show wpAny (model X.prog X.w) X.A (noteFrame (.ref a) X.env) _ _ _
    refine Sky.land Zc.steady frs_ hf sky fun h3 fl3 up3 => ?_
    obtain ⟨oe3, vs3, ge3, hz3, gd3⟩ := fl3.there
    have nfr : a ∉ frs (X.env :: X.outer) := fun mem => by
      obtain ⟨_, o2, e2, nf⟩ := fl3.2.2.1.mem mem
      rw [ge3] at e2
      cases e2
      exact nf _ gd3
    have nL : a ≠ X.env.locals := fun z => nfr (List.mem_filterMap.mpr ⟨X.env, List.mem_cons_self, hf.trans (by rw [z])⟩)
    have nF : a ∉ X.fs := fun mem => by
      obtain ⟨e2, m2, q2⟩ := List.mem_filterMap.mp mem
      exact nfr (List.mem_filterMap.mpr ⟨e2, List.mem_cons_of_mem _ m2, q2⟩)
    have J3 : Inv X pins σ2 H2 { s2 with heap := h3 } := J.landed nb fl3.1 (up.trans up3) os ag
    refine wpAny_handleBy_cons (codeAny_handlers_test ?_) (fun q => by cases q)
    refine eval_three (pn := (a, oe3) :: (X.pn ++ pins)) (J3.suite ge3 gd3 na nL nF) g1 g2 g3 ?_ hst
    -- the classes' tuple is laid
    have fl4 := fly_push { cls := .type "tuple", data := .seq [Value.ref c1, .ref c2, .ref c3].toArray } fl3
    have up4 := upTo_push { cls := .type "tuple", data := .seq [Value.ref c1, .ref c2, .ref c3].toArray } (up.trans up3)
    have ht : (h3.push { cls := .type "tuple", data := .seq [Value.ref c1, .ref c2, .ref c3].toArray }).get? h3.objs.size = some { cls := .type "tuple", data := .seq [Value.ref c1, .ref c2, .ref c3].toArray } := Heap.get?_push_size _ rfl
    generalize h3.push { cls := .type "tuple", data := .seq [Value.ref c1, .ref c2, .ref c3].toArray } = h4 at fl4 up4 ht
    have J4 : Inv X pins σ2 H2 { s2 with heap := h4 } := J.landed nb fl4.1 up4 os ag
    obtain ⟨oe4, vs4, ge4, hz4, gd4⟩ := fl4.there
    have LT : PySem.W.Looks (model X.prog X.w) h4 (typeOf (.ref a)) cls := fun _ _ _ _ kk q => wpAny_typeOf_ref (kk _ _ ge4) (by rw [hz4.1]; exact q)
    refine (PySem.W.exm_tup3 (M := model X.prog X.w) J4.kIn LT ht hm).here ?_
    refine codeAny_handlers_suite_as (HandSPX.lands_againZ fl4 fun h5 fl5 up5 => ?_)
    have J5 : Inv X pins σ2 H2 { s2 with heap := h5 } := J.landed nb fl5.1 (up4.trans up5) os ag
    obtain ⟨oe5, vs5, ge5, hz5, gd5⟩ := fl5.there
    refine store_ok (X := X.suite a ((a, oe5) :: (X.pn ++ pins))) (v := .ref a) (J5.suite ge5 gd5 na nL nF) hN hi here rfl (fun s6 S6 => ?_) (.inr hln)
    refine wpAny_mono ((hsu a oe5 cls d (X.pn ++ pins) hz5 ⟨_, gd5⟩).run [] s6 _ H2 _ S6 (hy a na)) (fun fl s7 e7 => ?_) (fun _ _ z => False.elim z)
    have fin : ∀ {σ7 : L2.St} {H7 : Hp} {Q : Shared → Prop}, Inv (X.suite a ((a, oe5) :: (X.pn ++ pins))) [] σ7 H7 s7 → (∀ s8, Inv X pins (σ7.set i none) H7 s8 → Q s8) → wpAny (model X.prog X.w) X.A (do bindName X.env n .none; unbindBehindTheSuite X.env n pos') (fun _ s8 => Q s8) X.xe s7 :=
      fun {σ7 H7 Q} S7 hq => gone_ok (S7.unsuite ok) hN hi hln hq
    cases fl with
    | next =>
      obtain ⟨σ7, H7, S7, q7⟩ := e7
      exact fin S7 fun _ J8 => ⟨_, _, J8, q7⟩
    | brk =>
      obtain ⟨σ7, H7, S7, q7⟩ := e7
      exact fin S7 fun _ J8 => ⟨_, _, J8, q7⟩
    | cont =>
      obtain ⟨σ7, H7, S7, q7⟩ := e7
      exact fin S7 fun _ J8 => ⟨_, _, J8, q7⟩
    | ret u7 =>
      obtain ⟨v7, σ7, H7, S7, r7, q7⟩ := e7
      exact fin S7 fun _ J8 => ⟨_, _, _, J8, r7, q7⟩
  · cases fl with
    | next =>
      obtain ⟨σ2, H2, J2, q2⟩ := done
      exact wpAny_execs_nil ⟨σ2, H2, J2.ofTry ok, q2⟩
    | brk =>
      obtain ⟨σ2, H2, J2, q2⟩ := done
      exact ⟨σ2, H2, J2.ofTry ok, q2⟩
    | cont =>
      obtain ⟨σ2, H2, J2, q2⟩ := done
      exact ⟨σ2, H2, J2.ofTry ok, q2⟩
    | ret u2 =>
      obtain ⟨v2, σ2, H2, J2, r2, q2⟩ := done
      exact ⟨v2, σ2, H2, J2.ofTry ok, r2, q2⟩
end
end EX

namespace EX
open PySem PySem.Spec PyProof.Rows L2
open L2H (RoomH PinOk cxH inv_startH)
/-! ### the fields of a pinned error -/
structure ECls (K : PySem.W.Frag) (C : Addr) : Prop where
  ga : PySem.W.findIn K (.ref C) "__getattribute__" = some (some (.builtin "BaseException.__getattribute__"))
  gg : PySem.W.findIn K (.ref C) "__getattr__" = some none
  exC : PySem.W.subIn K (.ref C) (.type "BaseException") = some true
  hd : PySem.W.hasDictIn K C = true
theorem Own.ecls {P : Program} {K : PySem.W.Frag} {mg : Str → Option Value} {nm : Str} {C fI : Addr} (O : Own P K mg nm C fI) : ECls K C := ⟨O.ga, O.gg, O.exC, O.hdC⟩
/-- p is an error of the class C with the fields fs at d -/
structure ErrP (K : PySem.W.Frag) (H : Hp) (p : Addr × Obj) (C d : Addr) (fs : List (Str × V)) : Prop where
  cls : p.2.cls = .ref C
  dict : p.2.dict = some d
  data : ∃ vs, p.2.data = .fields vs
  ec : ECls K C
  at_ : H d = some (.xd fs)
def tXf (K : PySem.W.Frag) (p : Addr × Obj) (f : Str) (te : TE) : TE := fun σ H Q => te σ H fun x H1 => x = .ref p.1 ∧ ∃ C d fs v, ErrP K H1 p C d fs ∧ PySem.W.findIn K (.ref C) f = some none ∧ fs.lookup f = some v ∧ Q v H1
theorem pe_xf {X : Cx} {p : Addr × Obj} {e : Expr} {te : TE} {f : Str} {pos : Pos} (hp : p ∈ X.pn) (he : PE X e te) (hb : attributeBase e f X.env (eval e X.env) = eval e X.env := by rfl) : PE X (.Attribute e f pos) (tXf X.K p f te) := by
  refine ⟨fun pins s σ H Q I h => ?_⟩
  refine attr_of hb (thn (he.run pins s σ H _ I h) fun u s1 hh => ?_)
  obtain ⟨x, H1, I1, rx, ex, C, d, fs, v, EP, hn, hl, q⟩ := hh
  subst ex
  obtain rfl : u = Value.ref p.1 := rx
  obtain ⟨hcl, hdi, ⟨vs, hda⟩, ec, hat⟩ := EP
  have P1 := (I1.pin p (List.mem_append_left _ hp)).1
  obtain ⟨mA, hns, hr⟩ := (show ObjOk X.prog X.w H1 s1.heap d (.xd fs) from I1.hok d _ hat)
  obtain ⟨od, ho, hlk⟩ := lookIn_ns hns
  obtain ⟨u2, hu, ru⟩ := RelO.some_of (v := v) (o := mA f) (by rw [← hl]; exact hr f)
  have J : PySem.W.InstAt s1.heap p.1 p.2 C (some od) := ⟨P1, hcl, by unfold PySem.W.notCls; rw [hda] <;> rfl, by rw [hdi]; exact ho⟩
  exact HandSPX.exc_get I1.kIn J ec.ga ec.gg ec.exC (PySem.W.findObj_own ec.hd hn rfl (by rw [hlk, hu])) (handed_of ru) ⟨v, H1, I1.tok _, ru, q⟩
/-! ### defs called in a suite, with the pinned error -/
structure FnS (P : Program) (w : World) (K : PySem.W.Frag) (mg : Str → Option Value) (base : Heap) (k : Nat) (f : Addr) (fd : FuncData) (ps : List Str) (sp : Addr × Obj → List V → Hp → VK → Prop) : Prop where
  len : ∀ p vs H Q, sp p vs H Q → vs.length = ps.length
  run : ∀ (A : Around) (outer : List Env) (s : Shared) (H : Hp) (args : Args) (us : List Value) (vs : List V) (Q : VK) (p : Addr × Obj), RoomH k A → PinOk outer H s p → Env0 P w K mg base A outer s H → BindsTo s fd args (ps.zip us) → Vals vs us → sp p vs H Q →
    codeAny (model P w) A (.call (.ref f) args) (CR C8.CX0 outer P w H s Q C8.E0) s
theorem fnS {P : Program} {w : World} {K : PySem.W.Frag} {mg : Str → Option Value} {base : Heap} {k : Nat} {f : Addr} {name qual : Str} {params : Arguments} {body : List Stmt} {scope : Scope} {dV kV doc pm cdv ct oc : Value} {an od : Option Addr} {osl : Array (Option Value)} {N ps : List Str}
    {sp : Addr × Obj → List V → Hp → VK → Prop} (lk : K.lookup f = some ⟨oc, od, .func (PySem.W.fnOf name qual params body scope dV kV doc pm an cdv ct), osl⟩) (hcd : PySem.W.codeIn K cdv qual = true) (S : FnScope N ps scope) (len : ∀ p vs H Q, sp p vs H Q → vs.length = ps.length)
    (hbody : ∀ (A : Around) (outer : List Env) (s : Shared) (H : Hp) (vs : List V) (Q : VK) (p : Addr × Obj), RoomH k (A.deeper (envOfC qual scope s.heap.objs.size f cdv)) → sp p vs H Q →
      ∃ t, PSs (cxH C8.CX0 P w K mg base N qual scope f cdv A outer s H C8.E0 p) body t ∧ t { nx := fun _ H1 => Q .non H1, rt := Q } (L2.start N vs) H) :
    FnS P w K mg base (k + 1) f (PySem.W.fnOf name qual params body scope dV kV doc pm an cdv ct) ps sp := by
  refine ⟨len, fun A outer s H args us vs Q p hr pin e0 hb r hq => ?_⟩
  have kin : K.In s.heap := e0.mod.kin.keeps fun b o e => (e0.bs b o e).1
  have lim : s.heap.NoLimit := e0.mod.nolimit.keeps fun b o e => (e0.bs b o e).1
  have kinds : ∀ y ∈ ps.zip us, scope.names.lookup y.1 = some .local ∨ (scope.names.lookup y.1 = some .cell ∧ ((cellsFrom (s.heap.objs.size + 1) scope.names []).lookup y.1).isSome = true) := fun y hy =>
    (S.par y.1 (List.of_mem_zip hy).1).elim .inl fun q => .inr ⟨q, PySem.W.cellsFrom_some _ _ _ (.inl q)⟩
  refine codeAny_call_function hr.depth (kin _ _ lk) rfl S.co S.gen rfl (PySem.W.codeRec_of kin hcd) (hb _ _ _ _ (wpAny_newFunctionEnv_cells S.kind kinds fun env he s1 xx => ?_))
  subst he
  obtain ⟨t, ht, hw⟩ := hbody A outer s H vs Q p (hr.deeper _) hq
  have I := inv_startH (CX := C8.CX0) (E := C8.E0) S pin e0 (len _ _ _ _ hq) r xx
  refine ⟨lim.keeps xx.toInCall.keep, codeAny_func (wpAny_mono (ht.run [] s1 (L2.start N vs) H _ I hw) (fun fl s2 e2 => ?_) fun _ _ z => z)⟩
  cases fl with
  | ret u =>
    obtain ⟨v, σ2, H2, J, rv, q⟩ := e2
    exact ⟨v, H2, J.os, J.bare, J.base, J.hok, rv, q⟩
  | next =>
    obtain ⟨σ2, H2, J, q⟩ := e2
    exact ⟨.non, H2, J.os, J.bare, J.base, J.hok, rfl, q⟩
  | brk => exact e2.elim fun _ z => z.elim fun _ z => z.2.elim
  | cont => exact e2.elim fun _ z => z.elim fun _ z => z.2.elim
/-- f(e, ..) in a suite that holds p -/
def tCallS' (sp : Addr × Obj → List V → Hp → VK → Prop) (p : Addr × Obj) (t : TA) : TE := fun σ H Q => t σ H fun vs H1 => sp p vs H1 Q
theorem pe_callS' {X : Cx} {k : Nat} {f : Addr} {fd : FuncData} {ps : List Str} {sp : Addr × Obj → List V → Hp → VK → Prop} {x : Str} {q pos : Pos} {e : Expr} {es : List Expr} {t : TA} {p : Addr × Obj} (F : FnS X.prog X.w X.K X.mg X.base k f fd ps sp) (hr : RoomH k X.A) (hp : p ∈ X.pn) (hg : Gl X x) (hm : X.mg x = some (.ref f))
    (hk : PySem.W.keepIn X.K (.ref f) = true) (hb : L2.Binds X.K fd ps []) (ha : PA X (e :: es) t) (hdb : (x == ("__debug__" : Str)) = false := by decide) (he : starEach (e :: es) X.env = (false, eval e X.env) :: starEach es X.env := by rfl) (hpl : (backTo pos (starEach es X.env)).any (·.1) = false := by rfl) :
    PE X (.Call (.Name x q) (e :: es) [] pos) (tCallS' sp p t) := by
  refine ⟨fun pins s σ H Q I h => wpAny_Call_Name_kw (ld_glob I hg hm ?_ hdb)⟩
  refine PySem.W.callWith_K (h₀ := X.base) I.ok.mod.kin hk (thn (ha.run pos pins s σ H _ I h) fun us s1 ⟨vs, H1, I1, r, q⟩ => ⟨I1.kIn, ?_⟩) he hpl
  have bb := hb s1 us I1.kIn (by rw [List.append_nil, ← r.length]; exact F.len _ _ _ _ q)
  rw [List.append_nil] at bb
  have P1 := I1.pin p (List.mem_append_left _ hp)
  have pin : PinOk X.stack H1 s1 p := ⟨P1.1, P1.2.1, fun mem => (List.mem_cons.mp (I1.stkSub p.1 mem)).elim P1.2.2.1 P1.2.2.2.1, P1.2.2.2.2⟩
  refine wpAny_call (codeAny_mono (F.run X.A X.stack s1 H1 ⟨us, []⟩ us vs Q p hr pin I1.env0 bb r q) fun rr s2 hq => ?_)
  cases rr with
  | error z => exact (show False from hq).elim
  | ok fl =>
    cases fl with
    | ret u => exact I1.after hq
    | next => exact False.elim hq
    | brk => exact False.elim hq
    | cont => exact False.elim hq
end EX

namespace EX
open PySem PySem.Spec PyProof.Rows L2
/-! ### what an error tells -/
def Kd (tag : Str) (f : Option Str) : Prop := ((tag = "InvalidRoot" ∨ tag = "InvalidNumber" ∨ tag = "InvalidSlope") ∧ f = some "given") ∨ (tag = "InvalidDigits" ∧ f = some "index") ∨ (tag = "InvalidSaying" ∧ f = some "number") ∨ ((tag = "FieldsDiffer" ∨ tag = "InvalidText") ∧ f = none) ∨ (tag = "InvalidRow" ∧ f = some "name")
/-- what is known of an error of the class C with the own dict at d: its tag, and the value u of its field -/
structure Tells (K : PySem.W.Frag) (H : Hp) (C d : Addr) (fs : List (Str × V)) (tag : Str) (u : V) : Prop where
  at_ : H d = some (.xd fs)
  tag_ : fs.lookup ("tag" : Str) = some (V.str tag)
  noT : PySem.W.findIn K (.ref C) "tag" = some none
  fld : ∃ f, Kd tag f ∧ (f = none → u = .non) ∧ ∀ g, f = some g → fs.lookup g = some u ∧ PySem.W.findIn K (.ref C) g = some none
def spErr (K : PySem.W.Frag) : Addr × Obj → List V → Hp → VK → Prop := fun p vs H Q => vs = [V.ref p.1] ∧ ∃ C d fs tag u, ErrP K H p C d fs ∧ Tells K H C d fs tag u ∧ ∀ H', (∀ b o, H b = some o → H' b = some o) → Q u H'
def spPlaceE (K : PySem.W.Frag) : Addr × Obj → List V → Hp → VK → Prop := fun p vs H Q => vs = [V.ref p.1] ∧ ∃ C d fs tag u, ErrP K H p C d fs ∧ Tells K H C d fs tag u ∧ (tag = "InvalidDigits" ∨ tag = "InvalidSaying") ∧ Q u H
theorem kd_digits {f : Option Str} (h : Kd "InvalidDigits" f) : f = some "index" := by
  rcases h with ⟨h | h | h, _⟩ | ⟨_, h⟩ | ⟨h, _⟩ | ⟨h | h, _⟩ | ⟨h, _⟩
  all_goals first | exact h | exact absurd h (by decide)
theorem kd_saying {f : Option Str} (h : Kd "InvalidSaying" f) : f = some "number" := by
  rcases h with ⟨h | h | h, _⟩ | ⟨h, _⟩ | ⟨_, h⟩ | ⟨h | h, _⟩ | ⟨h, _⟩
  all_goals first | exact h | exact absurd h (by decide)
theorem Tells.same {K : PySem.W.Frag} {H H' : Hp} {C d : Addr} {fs : List (Str × V)} {tag : Str} {u : V} (T : Tells K H C d fs tag u) (s : ∀ b o, H b = some o → H' b = some o) : Tells K H' C d fs tag u := ⟨s _ _ T.at_, T.tag_, T.noT, T.fld⟩
theorem ErrP.same {K : PySem.W.Frag} {H H' : Hp} {p : Addr × Obj} {C d : Addr} {fs : List (Str × V)} (e : ErrP K H p C d fs) (s : ∀ b o, H b = some o → H' b = some o) : ErrP K H' p C d fs := ⟨e.cls, e.dict, e.data, e.ec, s _ _ e.at_⟩
theorem inV_str (x : Str) (ys : List Str) : inV (.str x) (ys.map V.str) = decide (x ∈ ys) := by
  unfold inV
  rw [List.any_map]
  induction ys with
  | nil => simp
  | cons y ys ih =>
    rw [List.any_cons, ih]
    by_cases h : y = x
    · subst h
      simp [eqV]
    · simp [eqV, h, Ne.symm h]
theorem flat_strs (ys : List Str) : (ys.map V.str).all flatV = true := by
  induction ys with
  | nil => rfl
  | cons y ys ih => simpa [flatV] using ih
def L1 : List Str := ["InvalidRoot", "InvalidNumber", "InvalidSlope", "InvalidLimit"]
def L2' : List Str := ["TooMany", "CapacityExceeded"]
def L3 : List Str := ["InvalidDigits", "InvalidSaying", "InvalidCommand", "ParseError"]
def L4 : List Str := ["InvalidText", "FieldsDiffer", "NotSingle", "Endless", "NoTurn", "NothingLeft"]
theorem kd1 {tag : Str} {f : Option Str} (h : Kd tag f) (m : tag ∈ L1) : f = some "given" := by
  rcases h with ⟨_, h⟩ | ⟨rfl, _⟩ | ⟨rfl, _⟩ | ⟨rfl | rfl, _⟩ | ⟨rfl, _⟩
  all_goals first | exact h | exact absurd m (by decide +kernel)
theorem kd2 {tag : Str} {f : Option Str} (h : Kd tag f) : ¬ tag ∈ L2' := by
  rcases h with ⟨rfl | rfl | rfl, _⟩ | ⟨rfl, _⟩ | ⟨rfl, _⟩ | ⟨rfl | rfl, _⟩ | ⟨rfl, _⟩
  all_goals decide +kernel
theorem kd3 {tag : Str} {f : Option Str} (h : Kd tag f) (m : tag ∈ L3) : tag = "InvalidDigits" ∨ tag = "InvalidSaying" := by
  rcases h with ⟨rfl | rfl | rfl, _⟩ | ⟨rfl, _⟩ | ⟨rfl, _⟩ | ⟨rfl | rfl, _⟩ | ⟨rfl, _⟩
  all_goals first | exact .inl rfl | exact .inr rfl | exact absurd m (by decide +kernel)
theorem kd4 {tag : Str} {f : Option Str} (h : Kd tag f) (m : tag ∈ L4) : f = none := by
  rcases h with ⟨rfl | rfl | rfl, _⟩ | ⟨rfl, _⟩ | ⟨rfl, _⟩ | ⟨_, h⟩ | ⟨rfl, _⟩
  all_goals first | exact h | exact absurd m (by decide +kernel)
theorem kd5 {tag : Str} {f : Option Str} (h : Kd tag f) (m1 : ¬ tag ∈ L1) (m3 : ¬ tag ∈ L3) (m4 : ¬ tag ∈ L4) : f = some "name" := by
  rcases h with ⟨rfl | rfl | rfl, _⟩ | ⟨rfl, _⟩ | ⟨rfl, _⟩ | ⟨rfl | rfl, _⟩ | ⟨_, h⟩
  all_goals first | exact h | exact absurd (by decide +kernel) m1 | exact absurd (by decide +kernel) m3 | exact absurd (by decide +kernel) m4
end EX

namespace RF
open PySem PySem.Spec L2 PyProof.Rows EX
open PySem.Calls PySem.HandSPX
open PySem.W (Frag findIn typeIn keepIn subIn hasDictIn nsIn mroIn clsIn codeIn fnX ksEnv ksFn alongIn)
/-! The facts of own errors' classes at the end of a law, for every law (the row's own text comes as s). -/
/-- what a raise of the class CE with one field leaves -/
def Rsd (CE : Addr) (nm fld : Str) (v : V) (H : Hp) (E : XK) : Prop := ∀ d H', (∀ b o, H b = some o → H' b = some o) → H' d = none → E (.ref CE) (some d) (upd H' d (.xd [(fld, v), ("tag", .str nm)]))
structure OwnE (P : Program) (w : World) (K : Frag) (mg : Str → Option Value) (nm fld : Str) (C : Addr) : Prop where
  ex : ∃ fI, Own P K mg nm C fI ∧ ∀ v, Inits P w K mg C fI [v] (fun u => mF fld nm u v)
  noF : findIn K (.ref C) fld = some none
structure TxtE (nm fld q : Str) (s : Stmt) : Prop where
  body : ∃ msg a1 a2 a3 a4 a5 a6 b1 b2 b3 b4 c1 c2 c3 c4, defBody s = [sSup msg a1 a2 a3 a4 a5 a6, sTag nm b1 b2 b3 b4, sFld fld c1 c2 c3 c4] ∧
    (∀ fI cda cc, Txt q (defScope s) fI cda cc msg nm a1 a2 a3 a4 a5 a6 b1 b2 b3 b4) ∧
    (∀ fI cda cc L, swapsWith (.Name fld c3) (some (.Attribute (.Name "self" c1) fld c2)) c4.line (ksEnv q (defScope s) L fI (.ref cda) cc) = pure false)
  hd : ∃ ar, ((defArgs s).posonlyargs ++ (defArgs s).args).head? = some ar ∧ ar.arg = "self"
  fs : (fld == ("self" : Str)) = false
  fd : (fld == ("__debug__" : Str)) = false
  loc : (defScope s).names.lookup fld = some .local
  bind : ∀ (doc pm ct : Value) (an : Option Addr) (cda cc : Addr) (st : Shared) (x : Addr) (v : Value), BindsTo st (ksFn "__init__" q (defArgs s) (defBody s) (defScope s) .none .none doc pm an (.ref cda) ct cc) ⟨[.ref x, v], []⟩ [("self", .ref x), (fld, v)]
theorem ownE {P : Program} {w : World} {K : Frag} {mg : Str → Option Value} {nm fld q : Str} {C fI cda cc : Addr} {s : Stmt} {oc doc pm ct : Value} {od an : Option Addr} {osl : Array (Option Value)} (O : Own P K mg nm C fI) (nF : findIn K (.ref C) fld = some none)
    (lI : K.lookup fI = some ⟨oc, od, .func (ksFn "__init__" q (defArgs s) (defBody s) (defScope s) .none .none doc pm an (.ref cda) ct cc), osl⟩) (hcd : codeIn K (.ref cda) q = true)
    (code : ∃ ccl cdd vs ccs file tf, K.lookup cda = some ⟨ccl, cdd, .fields vs, ccs⟩ ∧ vs[2]? = some (.str file tf) ∧ ((P.main.file : Str) == file) = true) (cell : ∃ cl cld csl, K.lookup cc = some ⟨cl, cld, .cell (some (.ref C)), csl⟩) (T : TxtE nm fld q s) : OwnE P w K mg nm fld C := by
  obtain ⟨msg, a1, a2, a3, a4, a5, a6, b1, b2, b3, b4, c1, c2, c3, c4, e, hT, sw⟩ := T.body
  obtain ⟨ar, hp, har⟩ := T.hd
  have I : IFn P K C fI cda cc (ksFn "__init__" q (defArgs s) (defBody s) (defScope s) .none .none doc pm an (.ref cda) ct cc) := ⟨⟨oc, od, osl, lI⟩, code, cell⟩
  have hb := T.bind doc pm ct an cda cc
  rw [e] at I hb
  exact ⟨⟨fI, O, fun v A R s x t0 mb X hlim hnx hg hb1 hmb hx hxC hroom k => init1 O nF I (hT fI cda cc) hcd hp har (hb s x v) T.loc T.fs T.fd (sw fI cda cc) X hlim hnx hg hb1 hmb hx hxC hroom k⟩, nF⟩
/-- the same of a class whose __init__ takes nothing but self -/
structure OwnT (P : Program) (w : World) (K : Frag) (mg : Str → Option Value) (nm : Str) (C : Addr) : Prop where
  ex : ∃ fI, Own P K mg nm C fI ∧ Inits P w K mg C fI [] (mT nm)
structure TxtT (nm q : Str) (s : Stmt) : Prop where
  body : ∃ msg a1 a2 a3 a4 a5 a6 b1 b2 b3 b4, defBody s = [sSup msg a1 a2 a3 a4 a5 a6, sTag nm b1 b2 b3 b4] ∧ (∀ fI cda cc, Txt q (defScope s) fI cda cc msg nm a1 a2 a3 a4 a5 a6 b1 b2 b3 b4)
  hd : ∃ ar, ((defArgs s).posonlyargs ++ (defArgs s).args).head? = some ar ∧ ar.arg = "self"
  bind : ∀ (doc pm ct : Value) (an : Option Addr) (cda cc : Addr) (st : Shared) (x : Addr), BindsTo st (ksFn "__init__" q (defArgs s) (defBody s) (defScope s) .none .none doc pm an (.ref cda) ct cc) ⟨[.ref x], []⟩ [("self", .ref x)]
theorem ownT {P : Program} {w : World} {K : Frag} {mg : Str → Option Value} {nm q : Str} {C fI cda cc : Addr} {s : Stmt} {oc doc pm ct : Value} {od an : Option Addr} {osl : Array (Option Value)} (O : Own P K mg nm C fI)
    (lI : K.lookup fI = some ⟨oc, od, .func (ksFn "__init__" q (defArgs s) (defBody s) (defScope s) .none .none doc pm an (.ref cda) ct cc), osl⟩) (hcd : codeIn K (.ref cda) q = true)
    (code : ∃ ccl cdd vs ccs file tf, K.lookup cda = some ⟨ccl, cdd, .fields vs, ccs⟩ ∧ vs[2]? = some (.str file tf) ∧ ((P.main.file : Str) == file) = true) (cell : ∃ cl cld csl, K.lookup cc = some ⟨cl, cld, .cell (some (.ref C)), csl⟩) (T : TxtT nm q s) : OwnT P w K mg nm C := by
  obtain ⟨msg, a1, a2, a3, a4, a5, a6, b1, b2, b3, b4, e, hT⟩ := T.body
  obtain ⟨ar, hp, har⟩ := T.hd
  have I : IFn P K C fI cda cc (ksFn "__init__" q (defArgs s) (defBody s) (defScope s) .none .none doc pm an (.ref cda) ct cc) := ⟨⟨oc, od, osl, lI⟩, code, cell⟩
  have hb := T.bind doc pm ct an cda cc
  rw [e] at I hb
  exact ⟨fI, O, fun A R s x t0 mb X hlim hnx hg hb1 hmb hx hxC hroom k => init0 O I (hT fI cda cc) hcd hp har (hb s x) X hlim hnx hg hb1 hmb hx hxC hroom k⟩
/-- the facts of an own error's class over RootError -/
theorem own_of {P : Program} {K : Frag} {mg : Str → Option Value} {nm nm' q nR qR : Str} {C R N NR fI : Addr} {bs bm bsR : List Value} {sn snR : List Str} {sub subR : List Value} {ab abR : Bool} {col colR : Option Bool} {dd ddR : Option Addr} {k0 k1 k2 k3 k5 r0 r1 r2 r3 r5 : Option Value}
    (gC : mg nm = some (.ref C)) (lC : K.lookup C = some (excClassObj nm' q C N bs (.ref R :: bm) true sn sub ab col dd k0 k1 k2 k3 k5 "ValueError.__new__")) (lR : K.lookup R = some (excClassObj nR qR R NR bsR bm true snR subR abR colR ddR r0 r1 r2 r3 r5 "ValueError.__new__")) (vb : refsVE bm = true) (fR : findIn K (.ref R) "__init__" = some (some (.builtin "ValueError.__init__")))
    (sa : findIn K (.ref C) "__setattr__" = some (some (.builtin "object.__setattr__"))) (ga : findIn K (.ref C) "__getattribute__" = some (some (.builtin "BaseException.__getattribute__"))) (gg : findIn K (.ref C) "__getattr__" = some none) (noT : findIn K (.ref C) "tag" = some none)
    (iC : findIn K (.ref C) "__init__" = some (some (.ref fI))) (tC : typeIn K (.ref fI) = some (.type "function")) (kC : keepIn K (.ref C) = true) (exC : subIn K (.ref C) (.type "BaseException") = some true) (tyC : typeIn K (.ref C) = some (.type "type")) (hdC : hasDictIn K C = true) (sf : mroIn K C (.ref C) = some true)
    (noS : mg "super" = none) (opq : nsIn K cStatics "thirdparty.any" = some none) (tp : (P.main.scope.names.lookup ("super" : Str)).isSome = false) : Own P K mg nm C fI := by
  refine ⟨gC, ⟨nm', q, N, bs, _, sn, sub, ab, col, dd, k0, k1, k2, k3, k5, lC, vb, ?_⟩, sa, ga, gg, noT, iC, tC, kC, exC, tyC, hdC, sf, noS, opq, tp⟩
  have e : findIn K (.ref R) "__init__" = alongIn K "__init__" (.ref R :: bm) := by
    show (match K.lookup R with
      | some ⟨_, _, .cls cd, _⟩ => alongIn K "__init__" cd.mro
      | _ => none) = _
    rw [lR] <;> rfl
  rw [← e]
  exact fR
/-- an own error's class against the three of _law_why -/
theorem exm_of {K : Frag} {S C : Addr} {b : Bool} (h1 : subIn K (.ref C) (.type "BaseException") = some true) (h2 : PySem.W.isClsIn K C = true) (h3 : typeIn K (.ref C) = some (.type "type")) (h4 : subIn K (.ref S) (.ref C) = some b) : PySem.W.exmOne K (.ref S) (.ref C) = some b := by
  have e1 : (subIn K (.ref C) (.type "BaseException") == some true) = true := by rw [h1] <;> rfl
  have e2 : ((clsIn K C).isSome && typeIn K (.ref C) == some (.type "type")) = true := by
    have h2' : (clsIn K C).isSome = true := h2
    rw [h2', h3] <;> rfl
  show (if (subIn K (.ref C) (.type "BaseException") == some true) = true then (if ((clsIn K C).isSome && typeIn K (.ref C) == some (.type "type")) = true then subIn K (.ref S) (.ref C) else none) else none) = some b
  rw [if_pos e1, if_pos e2]
  exact h4
theorem exm3 {K : Frag} {S a b c : Value} (h1 : PySem.W.exmOne K S a = some true) (h2 : PySem.W.exmOne K S b = some false) (h3 : PySem.W.exmOne K S c = some false) : PySem.W.exmAny K S [a, b, c] = some true := by
  simp only [PySem.W.exmAny, h1, h2, h3, Bool.or_false, Bool.or_true]
end RF

namespace RF
open PySem L2 PyProof.Rows EX
open LamX (Tabs TabS ExtN TabB CodeO)
/-! what stays behind the making of a lambda; parts of a text; what _law_why needs (for every law) -/
theorem sqX {K : PySem.W.Frag} {H H' : Hp} {a : Addr} {xs : List V} (e : ExtN H H') (h : SqL K H a xs) : SqL K H' a xs := by
  rcases h with (h | ⟨o, h⟩) | h
  · exact .inl (.inl (e _ _ h (fun _ z => by cases z)))
  · exact .inl (.inr ⟨o, e _ _ h (fun _ z => by cases z)⟩)
  · exact .inr h
theorem stX {K : PySem.W.Frag} {H H' : Hp} {a : Addr} {xs : List V} (e : ExtN H H') (h : SqT K H a xs) : SqT K H' a xs := by
  rcases h with (h | ⟨o, h⟩) | h
  · exact .inl (.inl (e _ _ h (fun _ z => by cases z)))
  · exact .inl (.inr ⟨o, e _ _ h (fun _ z => by cases z)⟩)
  · exact .inr h
mutual
theorem Rp.extN {K : PySem.W.Frag} {H H' : Hp} (e : ExtN H H') : ∀ {v : V} (d : D), Rp K H v d → Rp K H' v d
  | _, .non, h => h
  | _, .bl _, h => h
  | _, .int _, h => h
  | _, .str _, h => h
  | _, .lst ds, h => by
    obtain ⟨a, xs, h1, h2, h3, h4⟩ := h
    exact ⟨a, xs, h1, sqX e h2, h3, Rps.extN e ds h4⟩
  | _, .tup ds, h => by
    obtain ⟨a, xs, h1, h2, h3, h4⟩ := h
    exact ⟨a, xs, h1, stX e h2, h3, Rps.extN e ds h4⟩
theorem Rps.extN {K : PySem.W.Frag} {H H' : Hp} (e : ExtN H H') : ∀ {xs : List V} (ds : List D), Rps K H xs ds → Rps K H' xs ds
  | _, [], h => h
  | _, d :: ds, h => by
    obtain ⟨x, r, h1, h2, h3⟩ := h
    exact ⟨x, r, h1, Rp.extN e d h2, Rps.extN e ds h3⟩
end
theorem Bag.extN {H H' : Hp} {b : Addr} (e : ExtN H H') (B : Bag H b) : Bag H' b := by
  obtain ⟨c, ns, i, z, r, h⟩ := B
  exact ⟨c, ns, i, z, r, h.ne, e _ _ h.at_ (fun _ z => by cases z), e _ _ h.cs (fun _ z => by cases z), h.le, h.z0, h.r0, h.r1⟩
theorem BagAt.extN {H H' : Hp} {b c : Addr} (e : ExtN H H') (B : BagAt H b c) : BagAt H' b c := by
  obtain ⟨ns, i, z, r, h⟩ := B
  exact ⟨ns, i, z, r, h.ne, e _ _ h.at_ (fun _ z => by cases z), e _ _ h.cs (fun _ z => by cases z), h.le, h.z0, h.r0, h.r1⟩
theorem Tabs.kpB {T : List (Addr × Str)} {b : Addr} {xs : List V} {H H' : Hp} (t : Tabs T H) (hb : H b = some (.lst xs)) (k : Kp b H H') : Tabs T H' := fun p hp => by
  obtain ⟨ps, h1, h2, h3⟩ := t p hp
  refine ⟨ps, k _ _ (ne_of h1 hb (by intro z; cases z)) h1, h2, fun pos cv hc => ?_⟩
  obtain ⟨c, e1, e2⟩ := h3 pos cv hc
  exact ⟨c, e1, k _ _ (ne_of e2 hb (by intro z; unfold CodeO at z; cases z)) e2⟩
theorem Tabs.kp {T : List (Addr × Str)} {b : Addr} {H H' : Hp} (t : Tabs T H) (B : Bag H b) (k : Kp b H H') : Tabs T H' := let ⟨_, hb⟩ := B.some; Tabs.kpB t hb k
theorem Tabs.kpC {T : List (Addr × Str)} {b c : Addr} {H H' : Hp} (t : Tabs T H) (B : BagAt H b c) (k : Kp b H H') : Tabs T H' := let ⟨_, hb⟩ := B.atB; Tabs.kpB t hb k
/-- a list of one's own is written: the tables stay -/
theorem Tabs.put {T : List (Addr × Str)} {a : Addr} {H : Hp} {xs : List V} {o : HO} (t : Tabs T H) (h : H a = some (.lst xs)) : Tabs T (upd H a o) := Tabs.kpB t h Kp.upd
theorem Tabs.sm {T : List (Addr × Str)} {H H' : Hp} (t : Tabs T H) (e : Same H H') : Tabs T H' := LamX.Tabs.ext t e
/-! ### parts of a text -/
def valOf : Stmt → Expr
  | .Assign _ v _ => v
  | .Expr v _ => v
  | .Return (some v) _ => v
  | _ => .Constant .none 0 ⟨0, 0, 0, 0⟩
def forB : Stmt → List Stmt
  | .For _ _ b _ _ => b
  | _ => []
def ifT : Stmt → Expr
  | .If t _ _ _ => t
  | _ => .Constant .none 0 ⟨0, 0, 0, 0⟩
def boolA (i : Nat) : Expr → Expr
  | .BoolOp _ l _ => l.getD i (.Constant .none 0 ⟨0, 0, 0, 0⟩)
  | e => e
def notA : Expr → Expr
  | .UnaryOp _ e _ => e
  | e => e
def argA (i : Nat) : Expr → Expr
  | .Call _ l _ _ => l.getD i (.Constant .none 0 ⟨0, 0, 0, 0⟩)
  | e => e
def cmpA (i : Nat) : Expr → Expr
  | .Compare a _ l _ => (a :: l).getD i (.Constant .none 0 ⟨0, 0, 0, 0⟩)
  | e => e
def eltA (i : Nat) : Expr → Expr
  | .List l _ => l.getD i (.Constant .none 0 ⟨0, 0, 0, 0⟩)
  | .Tuple l _ _ => l.getD i (.Constant .none 0 ⟨0, 0, 0, 0⟩)
  | e => e
def stA (i : Nat) (l : List Stmt) : Stmt := l.getD i (.Pass ⟨0, 0, 0, 0⟩)
/-! ### what _law_why needs; the table of the def's lambdas -/
structure WhyE (P : Program) (w : World) (K : PySem.W.Frag) (mg : Str → Option Value) (base : Heap) (sW : Stmt) (kf : Nat) (c1 c2 c3 : Addr) : Prop where
  ex : ∃ (g : Addr) (oc : Value) (od an : Option Addr) (kV doc pm cdv ct : Value) (osl : Array (Option Value)), mg "_law_why" = some (.ref g) ∧ PySem.W.keepIn K (.ref g) = true ∧
    K.lookup g = some ⟨oc, od, .func (PySem.W.fnOf "_law_why" "_law_why" (defArgs sW) (defBody sW) (defScope sW) .none kV doc pm an cdv ct), osl⟩ ∧ PySem.W.codeIn K cdv "_law_why" = true ∧
    Binds K (PySem.W.fnOf "_law_why" "_law_why" (defArgs sW) (defBody sW) (defScope sW) .none kV doc pm an cdv ct) ["_law_ask"] []
  m1 : mg "RootError" = some (.ref c1)
  m2 : mg "Missing" = some (.ref c2)
  m3 : mg "NothingLeft" = some (.ref c3)
  fld : ∃ (gf : Addr) (fdf : FuncData), FnS P w K mg base kf gf fdf ["_law_one"] (spErr K) ∧ mg "_law_field" = some (.ref gf) ∧ PySem.W.keepIn K (.ref gf) = true ∧ Binds K fdf ["_law_one"] []
theorem passL {X : Cx} {A : Around} {outer : List Env} {s : Shared} {H : Hp} {E : XK} {scope : Scope} {f c' : Addr} : Passes (L2.CX X.prog X.w) (LamX.lamCx X A outer s H E scope f c') E := fun pins σ H s e s' I c => L2.passes_call (W := fun cls d _ H => E cls d H) (takes_of rfl rfl rfl rfl) (fun _ _ _ _ h => h) pins σ H s e s' I c
theorem rp2 {K : PySem.W.Frag} {H : Hp} {a : Addr} {v1 v2 : V} {d1 d2 : D} (h : H a = some (.tup [v1, v2])) (r1 : Rp K H v1 d1) (r2 : Rp K H v2 d2) : Rp K H (.ref a) (.tup [d1, d2]) := ⟨a, _, rfl, SqT.of h, by show 2 ≤ 100000; decide, _, _, rfl, r1, _, _, rfl, r2, rfl⟩
/-- an error with one field, for _law_why -/
theorem tellsF {K : PySem.W.Frag} {H : Hp} {C d : Addr} {v : V} {nm fld : Str} (noT : PySem.W.findIn K (.ref C) "tag" = some none) (noF : PySem.W.findIn K (.ref C) fld = some none) (nf : (fld == ("tag" : Str)) = false) (kd : Kd nm (some fld)) : Tells K (upd H d (.xd [(fld, v), ("tag", .str nm)])) C d [(fld, v), ("tag", .str nm)] nm v :=
  ⟨upd_same, by
    show (match ("tag" : Str) == fld with | true => some v | false => some (V.str nm)) = some (V.str nm)
    rw [show (("tag" : Str) == fld) = false from by
      have := beq_eq_false_iff_ne.mp nf
      exact beq_eq_false_iff_ne.mpr (Ne.symm this)], noT, some fld, kd, fun z => (by cases z), fun g hg => by
    cases hg
    exact ⟨by rw [List.lookup_cons, beq_self_eq_true], noF⟩⟩
end RF

set_option linter.all false
/-! lambdas as values: made, kept in the heap, called later (own layer; LamX is the library's) -/
namespace LM
open PySem PySem.Spec PyProof.Rows L2
open LamX (Tabs TabS ExtN TabB CodeO)
/-- the text of a lambda -/
structure LTx where
  params : Arguments
  body : Expr
  scope : Scope
abbrev LTx.fn (L : LTx) (q : Str) (cl : List (Str × Addr)) (dV doc pm cdv ct : Value) : FuncData := PySem.W.kdv_fn "<lambda>" q L.params (.expr L.body) L.scope cl dV doc pm cdv ct
abbrev LTx.ob (L : LTx) (q : Str) (cl : List (Str × Addr)) (dV doc pm : Value) (c1 : Addr) (ct : Value) : Obj := PySem.W.kdv_obj "<lambda>" q L.params (.expr L.body) L.scope cl dV doc pm c1 ct
/-- at f: this lambda, its cells, its default, its code -/
def LamO (f : Addr) (L : LTx) (q : Str) (cl : List (Str × Addr)) (dV : Value) (c1 : Addr) : HO := .ext fun h => ∃ doc pm ct, h.get? f = some (L.ob q cl dV doc pm c1 ct)
abbrev lq (X : Cx) : Str := X.env.qual ++ "<lambda>"
abbrev clo (X : Cx) (L : LTx) : List (Str × Addr) := cloFrom X.env.cells L.scope.names []
section
variable {X : Cx} {pins : List (Addr × Obj)} {σ : L2.St} {H : Hp} {s : Shared}
theorem lamO_tbl {f : Addr} {L : LTx} {q : Str} {cl : List (Str × Addr)} {dV : Value} {c1 : Addr} (ps : Array Value) : LamO f L q cl dV c1 ≠ .tbl ps := fun z => by
  unfold LamO at z
  cases z
theorem lam_ok {P : Program} {w : World} {h1 : Heap} {H1 : Hp} {f : Addr} {L : LTx} {q : Str} {cl : List (Str × Addr)} {dV doc pm ct : Value} {c1 : Addr} (e : h1.get? f = some (L.ob q cl dV doc pm c1 ct)) : ObjOk P w H1 h1 f (LamO f L q cl dV c1) :=
  ⟨⟨doc, pm, ct, e⟩, ⟨_, e⟩, fun g1 g2 ⟨x, y, z, u⟩ st => ⟨x, y, z, st _ u⟩⟩
theorem tabs_new {T : List (Addr × Str)} {H1 : Hp} {f : Addr} {o : HO} (t : Tabs T H1) (hf : H1 f = none) : Tabs T (upd H1 f o) := RF.Tabs.sm t fun b u e => by
  rw [upd_ne (ne_of_none e hf)]
  exact e
theorem ext_new {H1 : Hp} {f : Addr} {o : HO} (e : ExtN H H1) (hf : H1 f = none) : ExtN H (upd H1 f o) := fun b u h n => by
  have h1 := e b u h n
  rw [upd_ne (ne_of_none h1 hf)]
  exact h1
/-- the making, behind the defaults -/
theorem tail_new {T : List (Addr × Str)} {c P : Addr} {L : LTx} {pos : Pos} {dV : Value} {E : Value → Shared → Prop} {Q : Value → Shared → Prop} (I : Inv X pins σ H s) (TB : TabB X.base X.mg c P) (hcode : X.env.code = .ref c)
    (hm : (P, lq X) ∈ T) (hu : ∀ p ∈ T, p.1 = P → p.2 = lq X) (hT : Tabs T H) (hfree : ∀ y ∈ L.scope.names, y.2 = .free → ∃ c, X.env.cells.lookup y.1 = some c)
    (k : ∀ (f c1 : Addr) (H1 : Hp) (s1 : Shared), Inv X pins σ H1 s1 → ExtN H H1 → Tabs T H1 → H1 f = some (LamO f L (lq X) (clo X L) dV c1) → H1 c1 = some (CodeO c1 (lq X)) → H f = none → Q (.ref f) s1) :
    wpAny (model X.prog X.w) X.A (makeTail "<lambda>" (lq X) L.params (.expr L.body) L.scope X.env dV .none none pos pos.line) Q E s := by
  obtain ⟨ps, tP, t3, among⟩ := hT _ hm
  have bA : s.heap.BuiltinsAt X.mg P := TB.bm.keeps I.bk
  have gP : s.heap.get? P = some { cls := .none, data := .fields ps } := I.hok P _ tP
  cases ea : codeAmong pos ps.toList with
  | none =>
    refine PySem.W.kdv_makeTail (P := P) (ps := ps) (mg := X.mg) (c := c) (closure_ok hfree) I.ok.glob (I.mod.glob.keeps I.bk) hcode (TB.code.keeps I.bk) gP t3 ea TB.gP bA fun c1 ct doc g tk kx c_ge c_lt hrec tb' => ?_
    obtain ⟨_, oc, vs, tt, e2, oc1, oc2, oc3⟩ := hrec
    cases e2
    have I1 := LamX.inv_table (t' := tk) (more := #[rawInt pos.line, rawInt pos.col, .ref c1]) (h' := g) I tP (fun b o nb e => kx b o nb e) tb' c_ge ⟨oc, vs, tt, oc1, oc2, oc3⟩
    have nc : H c1 = none := I.hok.fresh c_ge
    have x1 : ExtN H (upd (upd H P (.tbl (ps ++ #[rawInt pos.line, rawInt pos.col, .ref c1]))) c1 (CodeO c1 (lq X))) := fun b o e n => by
      have nb : b ≠ P := fun z => n ps (Option.some.inj (e.symm.trans (z ▸ tP)))
      rw [upd_ne (ne_of_none e nc), upd_ne nb]
      exact e
    have x2 : Tabs T (upd (upd H P (.tbl (ps ++ #[rawInt pos.line, rawInt pos.col, .ref c1]))) c1 (CodeO c1 (lq X))) := fun p hp => by
      have el : (ps ++ #[rawInt pos.line, rawInt pos.col, .ref c1]).toList = ps.toList ++ [rawInt pos.line, rawInt pos.col, .ref c1] := by simp
      by_cases hb : p.1 = P
      · rw [hu p hp hb, hb]
        refine ⟨_, by rw [upd_ne (ne_of_none tP nc), upd_same], by rw [el]; exact PySem.TriplesOk_snoc _ _ _ _ t3, fun p1 cv hcv => ?_⟩
        rw [el] at hcv
        rcases LamX.among_app _ t3 hcv with z | z
        · obtain ⟨c0, z1, z2⟩ := among p1 cv z
          exact ⟨c0, z1, x1 _ _ z2 LamX.codeO_ne⟩
        · exact ⟨c1, z, upd_same⟩
      · obtain ⟨ps1, a1, a2, a3⟩ := hT p hp
        refine ⟨ps1, by rw [upd_ne (ne_of_none a1 nc), upd_ne hb]; exact a1, a2, fun p1 cv hcv => ?_⟩
        obtain ⟨c0, z1, z2⟩ := a3 p1 cv hcv
        exact ⟨c0, z1, x1 _ _ z2 LamX.codeO_ne⟩
    have nf : upd (upd H P (.tbl (ps ++ #[rawInt pos.line, rawInt pos.col, .ref c1]))) c1 (CodeO c1 (lq X)) g.objs.size = none := I1.hok.fresh (Nat.le_refl _)
    have le0 : s.heap.objs.size ≤ g.objs.size := Nat.le_trans c_ge (Nat.le_of_lt c_lt)
    refine k g.objs.size c1 _ _ (I1.laid (t' := tk) (h' := g.push (L.ob (lq X) (clo X L) dV doc ((X.mg "__name__").getD .none) c1 ct)) (fun b u e => Heap.get?_push_of_some _ e) (Nat.le_refl _) (lam_ok (Heap.get?_push_size _ rfl))) (ext_new x1 nf) (tabs_new x2 nf) upd_same ?_ (I.hok.fresh le0)
    rw [upd_ne (Nat.ne_of_lt c_lt)]
    exact upd_same
  | some cv =>
    obtain ⟨c1, rfl, hco⟩ := among pos cv ea
    refine PySem.W.kdv_makeTailHit (P := P) (ps := ps) (mg := X.mg) (c := c) (closure_ok hfree) I.ok.glob (I.mod.glob.keeps I.bk) hcode (TB.code.keeps I.bk) gP t3 ea bA fun ct doc g tk kx sz => ?_
    have I1 : Inv X pins σ H { s with heap := g, toks := tk } := I.kept kx
    have nf : H g.objs.size = none := I1.hok.fresh (Nat.le_refl _)
    refine k g.objs.size c1 _ _ (I1.laid (t' := tk) (h' := g.push (L.ob (lq X) (clo X L) dV doc ((X.mg "__name__").getD .none) c1 ct)) (fun b u e => Heap.get?_push_of_some _ e) (Nat.le_refl _) (lam_ok (Heap.get?_push_size _ rfl))) (ext_new (ExtN.refl H) nf) (tabs_new hT nf) upd_same ?_ nf
    rw [upd_ne (ne_of_none hco nf)]
    exact hco
end
end LM

set_option linter.all false
namespace LM
open PySem PySem.Spec PyProof.Rows L2
open LamX (Tabs TabS ExtN TabB CodeO)
/-- what a call without arguments binds: nothing, or one name by its default -/
inductive LK where
  | plain
  | dflt (x : Str) (v : Int)
def LTx.has (L : LTx) : LK → Prop
  | .plain => L.params.defaults = [] ∧ L.params.kw_defaults = [] ∧ ∀ (q : Str) (cl : List (Str × Addr)) (doc pm cv ct : Value), bindArgs (L.fn q cl .none doc pm cv ct) ⟨[], []⟩ = pure []
  | .dflt x v => (∃ j p, L.params.defaults = [.Constant (.int v) j p]) ∧ L.params.kw_defaults = [] ∧ ∀ (q : Str) (cl : List (Str × Addr)) (t : Addr) (doc pm cv ct : Value), ∃ k, bindArgs (L.fn q cl (.ref t) doc pm cv ct) ⟨[], []⟩ = seqItems? (.ref t) >>= k ∧ ∀ u, k (some #[u]) = pure [(x, u)]
def BndOk (κ : LK) (H : Hp) (dV : Value) : Prop := match κ with
  | .plain => dV = .none
  | .dflt _ v => ∃ t, dV = .ref t ∧ H t = some (.tup [V.int v])
/-- at f: the lambda, ready to be called -/
def LamV (L : LTx) (κ : LK) (q : Str) (cl : List (Str × Addr)) (H : Hp) (f : Addr) : Prop := ∃ dV c1, H f = some (LamO f L q cl dV c1) ∧ H c1 = some (CodeO c1 q) ∧ BndOk κ H dV
theorem LamV.ext {L : LTx} {κ : LK} {q : Str} {cl : List (Str × Addr)} {H H' : Hp} {f : Addr} (h : LamV L κ q cl H f) (e : ExtN H H') : LamV L κ q cl H' f := by
  obtain ⟨dV, c1, h1, h2, h3⟩ := h
  refine ⟨dV, c1, e _ _ h1 lamO_tbl, e _ _ h2 LamX.codeO_ne, ?_⟩
  cases κ with
  | plain => exact h3
  | dflt x v =>
    obtain ⟨t, e1, e2⟩ := h3
    exact ⟨t, e1, e _ _ e2 (fun _ z => by cases z)⟩
theorem LamV.same {L : LTx} {κ : LK} {q : Str} {cl : List (Str × Addr)} {H H' : Hp} {f : Addr} (h : LamV L κ q cl H f) (e : Same H H') : LamV L κ q cl H' f := h.ext (ExtN.of e)
/-- a list changes (the bag, a list of one's own): the lambda stays -/
theorem LamV.kp {L : LTx} {κ : LK} {q : Str} {cl : List (Str × Addr)} {H H' : Hp} {f b : Addr} {xs : List V} (h : LamV L κ q cl H f) (hb : H b = some (.lst xs)) (k : RF.Kp b H H') : LamV L κ q cl H' f := by
  obtain ⟨dV, c1, h1, h2, h3⟩ := h
  refine ⟨dV, c1, k _ _ (ne_of h1 hb (fun z => by unfold LamO at z; cases z)) h1, k _ _ (ne_of h2 hb (fun z => by unfold CodeO at z; cases z)) h2, ?_⟩
  cases κ with
  | plain => exact h3
  | dflt x v =>
    obtain ⟨t, e1, e2⟩ := h3
    exact ⟨t, e1, k _ _ (ne_of e2 hb (fun z => by cases z)) e2⟩
def tLamV (T : List (Addr × Str)) (L : LTx) (κ : LK) (q : Str) (cl : List (Str × Addr)) : TE := fun _ H Q => Tabs T H ∧ ∀ f H1, ExtN H H1 → Tabs T H1 → LamV L κ q cl H1 f → H f = none → Q (.ref f) H1
theorem pe_lamv {X : Cx} {T : List (Addr × Str)} {c P : Addr} {L : LTx} {κ : LK} {pos : Pos} (TB : TabB X.base X.mg c P) (hcode : X.env.code = .ref c) (hm : (P, lq X) ∈ T) (hu : ∀ p ∈ T, p.1 = P → p.2 = lq X)
    (hfree : ∀ y ∈ L.scope.names, y.2 = .free → X.env.scope.names.lookup y.1 = some .cell ∨ X.env.scope.names.lookup y.1 = some .free) (hk : L.has κ) : PE X (.Lambda L.params L.body L.scope pos) (tLamV T L κ (lq X) (clo X L)) := by
  refine ⟨fun pins s σ H Q I h => ?_⟩
  obtain ⟨hT, h⟩ := h
  have hf : ∀ y ∈ L.scope.names, y.2 = .free → ∃ c, X.env.cells.lookup y.1 = some c := fun y hy e => by
    rcases hfree y hy e with z | z
    · exact I.ok.has _ (.inl z)
    · exact I.ok.has _ (.inr z)
  cases κ with
  | plain =>
    obtain ⟨d1, d2, hb⟩ := hk
    refine PySem.W.kla_eval (by rw [defaultsOf_eq, d1, d2]; rfl) ?_
    rw [makeFunction_eq]
    simp only [List.zip_nil_right, List.filterMap_nil, List.isEmpty_nil, if_true, pure_bind]
    exact tail_new I TB hcode hm hu hT hf fun f c1 H1 s1 I1 e1 t1 a1 a2 nf => ⟨.ref f, H1, I1, rfl, h f H1 e1 t1 ⟨_, c1, a1, a2, rfl⟩ nf⟩
  | dflt x v =>
    obtain ⟨⟨j, p, d1⟩, d2, hb⟩ := hk
    refine PySem.W.kdv_lam (by rw [d1]; rfl) d2 ?_
    rw [d1]
    refine PySem.W.kdv_all1 (thn ((pe_int (X := X) (i := v) (j := j) (pos := p)).run pins s σ H (fun u H1 => u = .int v ∧ H1 = H) I ⟨rfl, rfl⟩) fun u s1 ⟨w1, H1, I1, r1, e1, e2⟩ => PySem.W.kdv_all0 ?_)
    subst e1 e2
    rw [makeFunction_eq]
    simp only [List.zip_nil_right, List.filterMap_nil, List.isEmpty_nil, List.isEmpty_cons, Bool.false_eq_true, if_false, if_true, pure_bind]
    refine wpAny_bind (wpAny_newTextTuple ?_)
    have nt : H1 s1.heap.objs.size = none := I1.hok.fresh (Nat.le_refl _)
    have I2 := I1.laid (t' := s1.toks) (a := s1.heap.objs.size) (o := .tup [V.int v]) (h' := s1.heap.push { cls := .type "tuple", data := .seq ([u] : List Value).toArray }) (fun b u e => Heap.get?_push_of_some _ e) (Nat.le_refl _)
      ⟨by show 1 ≤ sizeLine; decide, [u], .cons r1 .nil, ⟨_, Heap.get?_push_size _ rfl, rfl, _, rfl⟩⟩
    refine tail_new I2 TB hcode hm hu (tabs_new hT nt) hf fun f c1 H3 s3 I3 e3 t3 a1 a2 nf => ?_
    have nf1 : H1 f = none := by
      by_cases z : f = s1.heap.objs.size
      · rw [z]; exact nt
      · rw [upd_ne z] at nf; exact nf
    refine ⟨.ref f, H3, I3, rfl, h f H3 ((ext_new (ExtN.refl _) nt).trans e3) t3 ⟨_, c1, a1, a2, _, rfl, e3 _ _ upd_same (fun _ z => by cases z)⟩ nf1⟩
end LM

set_option linter.all false
namespace LM
open PySem PySem.Spec PyProof.Rows L2
open LamX (Tabs TabS ExtN TabB CodeO)
/-- the names of a lambda: none of the slots is its own -/
structure LS (N : List Str) (scope : Scope) : Prop where
  kind : scope.kind = .function
  co : scope.isCoroutine = false
  gen : scope.isGenerator = false
  loc : ∀ y ∈ scope.names, y.2 = .local → y.1 ∉ N
  cell : ∀ y ∈ scope.names, y.2 ≠ .cell
def lsB (N : List Str) (scope : Scope) : Bool :=
  decide (scope.kind = .function) && !scope.isCoroutine && !scope.isGenerator && scope.names.all fun y => (!decide (y.2 = .local) || !decide (y.1 ∈ N)) && !decide (y.2 = .cell)
theorem ls_by {N : List Str} {scope : Scope} (h : lsB N scope = true) : LS N scope := by
  unfold lsB at h
  simp only [Bool.and_eq_true, Bool.or_eq_true, Bool.not_eq_true', decide_eq_true_eq, decide_eq_false_iff_not, List.all_eq_true] at h
  obtain ⟨⟨⟨a, b⟩, c⟩, d⟩ := h
  exact ⟨a, b, c, fun y hy e => ((d y hy).1).elim (fun z => absurd e z) id, fun y hy => (d y hy).2⟩
def freeB (sc scope : Scope) : Bool := scope.names.all fun y => !decide (y.2 = .free) || decide (sc.names.lookup y.1 = some .cell) || decide (sc.names.lookup y.1 = some .free)
theorem free_by {sc scope : Scope} (h : freeB sc scope = true) : ∀ y ∈ scope.names, y.2 = .free → sc.names.lookup y.1 = some .cell ∨ sc.names.lookup y.1 = some .free := fun y hy e => by
  have z := List.all_eq_true.mp h y hy
  simp only [Bool.or_eq_true, Bool.not_eq_true', decide_eq_true_eq, decide_eq_false_iff_not] at z
  rcases z with (z | z) | z
  · exact absurd e z
  · exact .inl z
  · exact .inr z
/-- the cells of a lambda hold what the slots tell -/
structure CellsOk (N : List Str) (cl : List (Str × Addr)) (scope : Scope) (σ : L2.St) (H : Hp) (h : Heap) : Prop where
  at_ : ∀ y c, cl.lookup y = some c → H c = none ∧ ∃ v, h.IsCell c v
  inj : ∀ x y c, cl.lookup x = some c → cl.lookup y = some c → x = y
  has : ∀ y, scope.names.lookup y = some .free → ∃ c, cl.lookup y = some c
  val : ∀ (i : Nat) (y : Str) (v : V), N[i]? = some y → σ[i]? = some (some v) → scope.names.lookup y = some .free → ∃ c u, cl.lookup y = some c ∧ RelV v u ∧ h.IsCell c (some u)
theorem cell_un {fs ex : List Addr} {H H' : Hp} {h h' : Heap} (un : Un fs ex H H' h h') {c : Addr} {v : Option Value} (n : H c = none) (nx : c ∉ ex) (z : h.IsCell c v) : h'.IsCell c v ∧ H' c = none := by
  obtain ⟨o, ho, hd⟩ := z
  obtain ⟨sl, q⟩ := un.any ho n nx
  exact ⟨⟨_, q, hd⟩, un.free c o ho n nx⟩
theorem CellsOk.un {N : List Str} {cl : List (Str × Addr)} {scope : Scope} {σ : L2.St} {H H' : Hp} {h h' : Heap} {fs ex : List Addr} (k : CellsOk N cl scope σ H h) (un : Un fs ex H H' h h') (nx : ∀ y c, cl.lookup y = some c → c ∉ ex) : CellsOk N cl scope σ H' h' where
  at_ := fun y c e => by
    obtain ⟨n, v, z⟩ := k.at_ y c e
    obtain ⟨a, b⟩ := cell_un un n (nx y c e) z
    exact ⟨b, v, a⟩
  inj := k.inj
  has := k.has
  val := fun i y v e1 e2 e3 => by
    obtain ⟨c, u, a, r, z⟩ := k.val i y v e1 e2 e3
    exact ⟨c, u, a, r, (cell_un un (k.at_ y c a).1 (nx y c a) z).1⟩
theorem CellsOk.slots {N : List Str} {cl : List (Str × Addr)} {scope : Scope} {σ σ' : L2.St} {H : Hp} {h : Heap} (k : CellsOk N cl scope σ H h) (w : ∀ (i : Nat) (y : Str) (v : V), N[i]? = some y → scope.names.lookup y = some .free → σ'[i]? = some (some v) → σ[i]? = some (some v)) : CellsOk N cl scope σ' H h :=
  ⟨k.at_, k.inj, k.has, fun i y v e1 e2 e3 => k.val i y v e1 (w i y v e1 e3 e2) e3⟩
section
variable {X : Cx} {pins : List (Addr × Obj)} {σ : L2.St} {H : Hp} {s : Shared}
theorem clo_lk (I : X.Ok) {L : LTx} (hfree : ∀ y ∈ L.scope.names, y.2 = .free → X.env.scope.names.lookup y.1 = some .cell ∨ X.env.scope.names.lookup y.1 = some .free) {y : Str} {c : Addr} (e : (clo X L).lookup y = some c) : X.env.cells.lookup y = some c := by
  rcases cloFrom_mem (PySem.mem_of_lookup e) with hm | ⟨h1, h2⟩
  · cases hm
  · obtain ⟨c1, hc⟩ : ∃ c, X.env.cells.lookup y = some c := by
      rcases hfree _ h1 rfl with z | z
      · exact I.has _ (.inl z)
      · exact I.has _ (.inr z)
    have e2 : c = c1 := by rw [h2, hc] <;> rfl
    rw [e2]
    exact hc
theorem cells_of {L : LTx} (I : Inv X pins σ H s) (hfree : ∀ y ∈ L.scope.names, y.2 = .free → X.env.scope.names.lookup y.1 = some .cell ∨ X.env.scope.names.lookup y.1 = some .free) : CellsOk X.N (clo X L) L.scope σ H s.heap where
  at_ := fun y c e => ⟨I.freeC y c (clo_lk I.ok hfree e), I.cell y c (clo_lk I.ok hfree e)⟩
  inj := fun x y c e1 e2 => I.ok.inj x y c (clo_lk I.ok hfree e1) (clo_lk I.ok hfree e2)
  has := fun y e => mem_lookup (cloFrom_has (cells := X.env.cells) (acc := []) (PySem.mem_of_lookup e))
  val := fun i y v e1 e2 e3 => by
    obtain ⟨m, hn, hl⟩ := I.loc
    have fr := hfree _ (PySem.mem_of_lookup e3) rfl
    obtain ⟨u, r, q⟩ := hl i y v e1 e2 (fr.elim (fun z => .inr (.inl z)) (fun z => .inr (.inr z)))
    obtain ⟨c, ec⟩ := mem_lookup (cloFrom_has (cells := X.env.cells) (acc := []) (PySem.mem_of_lookup e3))
    refine ⟨c, u, ec, r, ?_⟩
    have c1 := clo_lk I.ok hfree ec
    rcases q with ⟨z, _⟩ | ⟨_, c3, e', z⟩
    · have z : X.env.scope.names.lookup y = some .local := z
      rcases fr with g | g
      · rw [show X.env.scope.names.lookup y = some .cell from g] at z; cases z
      · rw [show X.env.scope.names.lookup y = some .free from g] at z; cases z
    · rw [c1] at e'
      cases e'
      exact z
end
/-- the context of a lambda's body -/
abbrev lenv (q : Str) (cl : List (Str × Addr)) (scope : Scope) (L f c1 : Addr) : Env := PySem.W.envX q scope L f (.ref c1) cl
def lcx (Z : Cx) (q : Str) (cl : List (Str × Addr)) (A : Around) (outer : List Env) (s : Shared) (H : Hp) (E : XK) (scope : Scope) (f c1 : Addr) : Cx where
  prog := Z.prog
  w := Z.w
  K := Z.K
  mg := Z.mg
  base := Z.base
  N := Z.N
  A := A.deeper (lenv q cl scope s.heap.objs.size f c1)
  s_0 := s
  H_0 := H
  env := lenv q cl scope s.heap.objs.size f c1
  outer := outer
  stack := lenv q cl scope s.heap.objs.size f c1 :: outer
  fn := fun _ => false
  ex := []
  pn := []
  calm := true
  xe := fun e s1 => wpAny (model Z.prog Z.w) (A.deeper (lenv q cl scope s.heap.objs.size f c1)) (leaving (lenv q cl scope s.heap.objs.size f c1) e) (fun _ s2 => L2.CX Z.prog Z.w outer H s E e s2) (fun e2 s2 => L2.CX Z.prog Z.w outer H s E e2 s2) s1
theorem passL {Z : Cx} {q : Str} {cl : List (Str × Addr)} {A : Around} {outer : List Env} {s : Shared} {H : Hp} {E : XK} {scope : Scope} {f c1 : Addr} : Passes (L2.CX Z.prog Z.w) (lcx Z q cl A outer s H E scope f c1) E := fun pins σ H s e s' I c => L2.passes_call (W := fun cls d _ H => E cls d H) (takes_of rfl rfl rfl rfl) (fun _ _ _ _ h => h) pins σ H s e s' I c
theorem start {Z : Cx} {q : Str} {cl : List (Str × Addr)} {A : Around} {outer : List Env} {E : XK} {scope : Scope} {f c1 : Addr} {σ : L2.St} {HZ : Hp} {s1 : Shared} {h1 : Heap} {tk : Nat} {bs : List (Str × Value)} (ck : CellsOk Z.N cl scope σ HZ s1.heap) (L : LS Z.N scope) (hl : σ.length = Z.N.length) (e0 : Env0 Z.prog Z.w Z.K Z.mg Z.base A outer s1 HZ) (hd : A.handled = none)
    (hns : h1.Ns s1.heap.objs.size fun y => bs.reverse.lookup y) (kp : ∀ b o, s1.heap.get? b = some o → h1.get? b = some o) : Inv (lcx Z q cl A outer s1 HZ E scope f c1) [] σ HZ { s1 with heap := h1, toks := tk } := by
  have kc : ∀ {c : Addr} {v : Option Value}, s1.heap.IsCell c v → h1.IsCell c v := fun {c v} ⟨o, ho, hd⟩ => ⟨o, kp _ _ ho, hd⟩
  have nx : ∀ b : Addr, b ∉ (lcx Z q cl A outer s1 HZ E scope f c1).ex := fun b z => absurd (show b ∈ ([] : List Addr) from z) (by simp)
  refine ⟨⟨e0.mod, L.kind, rfl, rfl, Nat.le_refl _, ck.inj, fun y hy => ?_, fun y c z _ => ?_, fun _ => hd, Around.frames_deeper e0.frames, .inr ⟨rfl, rfl⟩, fun b z => absurd z (nx b), e0.bs, e0.bsz, fun b _ _ => nx b, fun b z => absurd z (nx b), e0.funs, e0.frf⟩,
    rfl, e0.bare, Un.kept kp, ⟨_, hns, fun i y v e1 e2 e3 => ?_⟩, fun y c e => ?_, e0.hok.fresh (Nat.le_refl _), fun y c e => (ck.at_ y c e).1, fun p hp => absurd (show p ∈ ([] : List (Addr × Obj)) ++ [] from hp) (by simp), e0.hok.kept kp, hl⟩
  · have hy : scope.names.lookup y = some .cell ∨ scope.names.lookup y = some .free := hy
    rcases hy with z | z
    · exact absurd rfl (L.cell _ (PySem.mem_of_lookup z))
    · exact ck.has y z
  · have z : false = true := z
    cases z
  · have e3 : Vis scope y := e3
    rcases e3 with z | z | z
    · exact absurd (List.mem_of_getElem? e1) (L.loc _ (PySem.mem_of_lookup z) rfl)
    · exact absurd rfl (L.cell _ (PySem.mem_of_lookup z))
    · obtain ⟨c, u, a, r, g⟩ := ck.val i y v e1 e2 z
      exact ⟨u, r, .inr ⟨.inr z, c, a, kc g⟩⟩
  · obtain ⟨_, v, z⟩ := ck.at_ y c e
    exact ⟨v, kc z⟩
end LM

set_option linter.all false
namespace LM
open PySem PySem.Spec PyProof.Rows L2
open LamX (Tabs TabS ExtN TabB CodeO GivesTo)
/-- what a call binds -/
def bnds (κ : LK) (u : Value) : List (Str × Value) := match κ with
  | .plain => []
  | .dflt x _ => [(x, u)]
def LK.loc (κ : LK) (scope : Scope) : Prop := match κ with
  | .plain => True
  | .dflt x _ => scope.names.lookup x = some .local
/-- what is known of a lambda's text, and of its body -/
structure LOk (Z : Cx) (q : Str) (cl : List (Str × Addr)) (L : LTx) (κ : LK) (k : Nat) (t : XK → TE) : Prop where
  ls : LS Z.N L.scope
  has : L.has κ
  loc : κ.loc L.scope
  body : ∀ (A : Around) (outer : List Env) (s : Shared) (H : Hp) (E : XK) (f c1 : Addr), Room k (A.deeper (lenv q cl L.scope s.heap.objs.size f c1)) → PE (lcx Z q cl A outer s H E L.scope f c1) L.body (t E)
/-- x(), in the def that got the lambda -/
theorem act {Z : Cx} {CXg : CXT} {Eg : XK} {Ng : List Str} {qg q : Str} {sg : Scope} {g f : Addr} {cdg : Value} {L : LTx} {κ : LK} {cl : List (Str × Addr)} {k i : Nat} {a : Str} {pn : List (Addr × Obj)} {xe : Value → Shared → Prop} {W : WX} {E : XK} {t : XK → TE} {p1 p2 : Pos} {A : Around} {stk : List Env} {s : Shared} {H : Hp} {σ : L2.St}
    (O : LOk Z q cl L κ k t) (ck : CellsOk Z.N cl L.scope σ H s.heap) (hl : σ.length = Z.N.length)
    (tk : Takes ((cxOf CXg Z.prog Z.w Z.K Z.mg Z.base Ng qg sg g cdg A stk s H Eg).tr pn xe) W) (hW : ∀ cls d σ' H', E cls d H' → W cls d σ' H') (hr : Room (k + 1) (A.deeper (envOfC qg sg s.heap.objs.size g cdg)))
    (hN : Ng[i]? = some a) (hv : Vis sg a) (hd : (a == ("__debug__" : Str)) = false := by decide) (hcd : (a == ("__classdict__" : Str)) = false := by decide) :
    PE ((cxOf CXg Z.prog Z.w Z.K Z.mg Z.base Ng qg sg g cdg A stk s H Eg).tr pn xe) (.Call (.Name a p1) [] [] p2) (fun σZ HZ Q => σZ[i]? = some (some (.ref f)) ∧ LamV L κ q cl HZ f ∧ t E σ HZ Q) := by
  refine ⟨fun pinsZ sZ σZ HZ Q IZ h => ?_⟩
  obtain ⟨hs, hlam, ht⟩ := h
  refine wpAny_Call_Name_kw (thn ((pe_var (pos := p1) (i := i) hN hv hd hcd).run pinsZ sZ σZ HZ (fun v H1 => v = .ref f ∧ H1 = HZ) IZ ⟨.ref f, hs, rfl, rfl⟩) fun u s1 ⟨v, H1, I1, r1, q1⟩ => ?_)
  obtain ⟨ev, eH⟩ := q1
  subst ev
  rw [eH] at I1
  obtain rfl : u = Value.ref f := r1
  obtain ⟨dV, c1, l1, l2, l3⟩ := hlam
  obtain ⟨⟨doc, pm, ct, ob⟩, _, _⟩ := I1.hok f _ l1
  obtain ⟨⟨oc, vs, tt, hoc, hdc, hvc⟩, _, _⟩ := I1.hok c1 _ l2
  refine PySem.W.callWith_F0 ⟨_, _, _, _, ob⟩ ?_
  have un : Un (frs stk) [] H HZ s.heap s1.heap := I1.base
  have ck1 := ck.un un fun _ _ _ z => nomatch z
  -- what the call binds
  obtain ⟨u, hbd⟩ : ∃ u, BindsTo s1 (L.fn q cl dV doc pm (.ref c1) ct) ⟨[], []⟩ (bnds κ u) := by
    have hh := O.has
    cases κ with
    | plain =>
      have l3 : dV = .none := l3
      subst l3
      exact ⟨.none, .of_eq (hh.2.2 _ _ _ _ _ _)⟩
    | dflt x v =>
      obtain ⟨tp, rfl, ht2⟩ := l3
      obtain ⟨_, its, rv, o, ho, hcl, n, hdt⟩ := I1.hok tp _ ht2
      cases rv with
      | cons r rr =>
        cases rr
        obtain ⟨kk, e1, e2⟩ := hh.2.2 q cl tp doc pm (.ref c1) ct
        exact ⟨_, BindsTo.of_defaults rfl ho hdt e1 (e2 _)⟩
  have rc : codeAny (model Z.prog Z.w) (A.deeper (envOfC qg sg s.heap.objs.size g cdg)) (.call (.ref f) ⟨[], []⟩) (CR (L2.CX Z.prog Z.w) (envOfC qg sg s.heap.objs.size g cdg :: stk) Z.prog Z.w HZ s1 Q E) s1 := by
    refine PySem.W.kla_callFunE hr.depth ob rfl O.ls.co O.ls.gen rfl ⟨c1, oc, vs, tt, rfl, hoc, hdc, hvc⟩ (hbd _ _ _ _ ?_)
    refine wpAny_newFunctionEnv (fun y hy => O.ls.cell y hy) (fun y hy => ?_) (fun h1 hns hsb => ⟨I1.nolimit.fresh _ hsb, ?_⟩) O.ls.kind
    · have hh := O.loc
      cases κ with
      | plain => exact absurd hy (by simp [bnds])
      | dflt x v =>
        obtain rfl : y = (x, u) := by simpa [bnds] using hy
        exact hh
    have kp : ∀ b o, s1.heap.get? b = some o → h1.get? b = some o := fun b o e => hsb.extBut b o (Nat.ne_of_lt (Heap.lt_size e)) (Heap.get?_push_of_some _ e)
    have J : Inv (lcx Z q cl (A.deeper (envOfC qg sg s.heap.objs.size g cdg)) (envOfC qg sg s.heap.objs.size g cdg :: stk) s1 HZ E L.scope f c1) [] σ HZ { s1 with heap := h1, toks := s1.toks + (bnds κ u).length } := start ck1 O.ls hl I1.env0 hr.hd hns kp
    show codeAny _ _ (.expr L.body (lenv q cl L.scope s1.heap.objs.size f c1)) _ _
    refine PySem.W.kla_codeExpr (wpAny_mono ((O.body _ _ s1 HZ E f c1 (hr.deeper _)).run [] _ _ HZ Q J ht) (fun v s2 hq => ?_) fun e s2 hq => hq)
    obtain ⟨w1, H2, J2, rv, qq⟩ := hq
    exact ⟨w1, H2, J2.os, J2.bare, J2.base, J2.hok, rv, qq⟩
  have pass : Passes (L2.CX Z.prog Z.w) ((cxOf CXg Z.prog Z.w Z.K Z.mg Z.base Ng qg sg g cdg A stk s H Eg).tr pn xe) E := passes_call tk hW
  refine wpAny_call (codeAny_mono rc fun r s2 hq => ?_)
  cases r with
  | error e => exact pass pinsZ σZ HZ s1 e s2 I1 hq
  | ok fl =>
    cases fl with
    | ret u => exact I1.after hq
    | next => exact hq.elim
    | brk => exact hq.elim
    | cont => exact hq.elim
/-- the def that calls what it got, and all that is known of it -/
structure Asks (Z : Cx) (x : Str) (q : Str) (k : Nat) (TT : (XK → Hp → VK → Prop) → Hp → VK → Prop) : Prop where
  ex : ∃ (g : Addr) (pg : Arguments) (bg : List Stmt) (sg : Scope) (dV kV doc pm cdv ct oc : Value) (an od : Option Addr) (osl : Array (Option Value)) (Ng : List Str) (a : Str),
    Z.mg x = some (.ref g) ∧ PySem.W.keepIn Z.K (.ref g) = true ∧ Z.K.lookup g = some ⟨oc, od, .func (PySem.W.fnOf x x pg bg sg dV kV doc pm an cdv ct), osl⟩ ∧ PySem.W.codeIn Z.K cdv x = true ∧
    L2.Binds Z.K (PySem.W.fnOf x x pg bg sg dV kV doc pm an cdv ct) [a] [] ∧ FnScope Ng [a] sg ∧ Ng[0]? = some a ∧ Vis sg a ∧ (a == ("__debug__" : Str)) = false ∧ (a == ("__classdict__" : Str)) = false ∧ GivesTo Z Ng x sg g cdv bg a q TT
  db : (x == ("__debug__" : Str)) = false
theorem vals_one {v : V} {us : List Value} (r : Vals [v] us) : ∃ u, us = [u] ∧ RelV v u := by
  cases r with
  | cons r rr =>
    cases rr
    exact ⟨_, rfl, r⟩
/-- x(e), e a lambda that was made in this def or around it: what its cells hold is told at this very state -/
theorem call_lam {Z : Cx} {x q : Str} {k : Nat} {TT : (XK → Hp → VK → Prop) → Hp → VK → Prop} {e : Expr} {te : TE} {p pos : Pos} {pins : List (Addr × Obj)} {s : Shared} {σ : L2.St} {H : Hp} {Q : VK} (I : Inv Z pins σ H s) (As : Asks Z x q k TT) (hg : Gl Z x) (hr : Room (k + 2) Z.A) (he : PE Z e te)
    (hte : te σ H fun v H1 => ∃ (f : Addr) (L : LTx) (κ : LK) (cl : List (Str × Addr)) (t : XK → TE), v = .ref f ∧ LOk Z q cl L κ k t ∧ (∀ s1 : Shared, Inv Z pins σ H1 s1 → CellsOk Z.N cl L.scope σ H1 s1.heap) ∧ LamV L κ q cl H1 f ∧ TT (fun E H' Q' => LamV L κ q cl H' f ∧ t E σ H' Q') H1 Q)
    (hse : starEach [e] Z.env = [(false, eval e Z.env)]) : wpAny (model Z.prog Z.w) Z.A (eval (.Call (.Name x p) [e] [] pos) Z.env) (EP Z pins σ Q) Z.xe s := by
  obtain ⟨g, pg, bg, sg, dV, kV, doc, pm, cdv, ct, oc, an, od, osl, Ng, a, hm, hk, lk, hcg, hb, Sg, hNg, hva, hda, hca, hG⟩ := As.ex
  refine wpAny_Call_Name_kw (ld_glob I hg hm ?_ As.db)
  refine PySem.W.callWith_K (h₀ := Z.base) I.ok.mod.kin hk ?_ (by rw [hse]; rfl) (by rfl)
  rw [hse]
  refine Calls.spliced_cons (thn (he.run pins s σ H _ I hte) fun u s1 ⟨v, H1, I1, r1, f, L, κ, cl, t, e1, O, ck, lv, h⟩ => ?_)
  subst e1
  obtain rfl : u = Value.ref f := r1
  refine Calls.spliced_nil ⟨I1.kIn, ?_⟩
  obtain ⟨dL, c1, l1, l2, l3⟩ := id lv
  have rc : codeAny (model Z.prog Z.w) Z.A (.call (.ref g) ⟨[.ref f], []⟩) (CR C8.CX0 Z.stack Z.prog Z.w H1 s1 Q C8.E0) s1 := by
    refine LamX.run_ofS (N := Ng) (ps := [a]) (us := [.ref f]) (vs := [.ref f]) lk hcg Sg hr I1.env0 (hb s1 [.ref f] I1.kIn rfl) (.cons rfl .nil) rfl fun hr1 => ?_
    refine (hG f c1 s1 H1 Q (fun E H' Q' => LamV L κ q cl H' f ∧ t E σ H' Q') (fun W pn xe E p1 p2 tk hW => ?_) l2 h).elim fun t1 z => ⟨t1, z.1.nox, z.2⟩
    have ac := act (p1 := p1) (p2 := p2) O (ck s1 I1) I1.len tk hW hr1 hNg hva hda hca (f := f)
    exact ⟨fun pn2 s2 σ2 H2 Q2 I2 h2 => ac.run pn2 s2 σ2 H2 Q2 I2 ⟨h2.1, h2.2.2⟩⟩
  refine wpAny_call (codeAny_mono rc fun r s2 hq => ?_)
  cases r with
  | error z => exact (show False from hq).elim
  | ok fl =>
    cases fl with
    | ret z => exact I1.after hq
    | next => exact hq.elim
    | brk => exact hq.elim
    | cont => exact hq.elim
end LM

set_option linter.all false
/-! [e for target in iter], where e may look at what the cells of the def around hold -/
namespace LM
open PySem PySem.Spec PyProof.Rows L2
/-- the element's reading may rest on the state in which the block begins -/
def EltOk (X : Cx) (σ : L2.St) (scope : Scope) (vs : List Nat) (elt : Expr) (te : TE) : Prop :=
  ∀ (pins0 : List (Addr × Obj)) (sB : Shared) (HB : Hp) (C : Addr) (cl : List (Str × Addr)) (fp : List Addr), Inv X pins0 σ HB sB → (∀ b ∈ fp, ∀ y c, X.env.cells.lookup y = some c → c ≠ b) →
    ∀ (pins : List (Addr × Obj)) (s : Shared) (σE : L2.St) (H : Hp) (Q : VK), wipe σE vs = wipe σ vs → Inv (X.blk sB HB scope (compEnvC scope cl C X.env) fp) pins σE H s → te σE H Q →
      wpAny (model X.prog X.w) X.A (eval elt (compEnvC scope cl C X.env)) (EP (X.blk sB HB scope (compEnvC scope cl C X.env) fp) pins σE Q) (fun _ _ => False) s
section
variable {X : Cx} {pins : List (Addr × Obj)} {s : Shared} {σ : L2.St} {H : Hp} {Q : VK} {elt tg iter : Expr} {scope : Scope} {own : List (Str × Nat)} {pos : Pos} {wi : TI} {g : TG} {te : TE}
theorem lcx_run (calm : X.calm = true) (nd : X.N.Nodup) (I : Inv X pins σ H s) (hi : PI X tg iter wi) (ok : BlkOk X.N X.env.scope scope own)
    (hg : ∀ (s : Shared) (H : Hp) (C : Addr) (cl : List (Str × Addr)) (fp : List Addr), PG (X.blk s H scope (compEnvC scope cl C X.env) fp) tg g) (he : EltOk X σ scope (own.map (·.2)) elt te) (hs : ∀ x, foldedSetIterable iter X.env x = pure x)
    (h : tLc wi g tYes te (own.map (·.2)) σ H Q) : wpAny (model X.prog X.w) X.A (eval (.ListComp elt [⟨tg, iter, [], 0⟩] scope pos) X.env) (EP X pins σ Q) X.xe s := by
  rw [eval_ListComp]
  have fr : ∀ y ∈ scope.names, y.2 = .free → ∃ c, X.env.cells.lookup y.1 = some c := fun y hy e => (ok.free y hy e).elim (fun z => I.ok.has _ (.inl z)) fun z => I.ok.has _ (.inr z)
  refine wpAny_comprehension_free (use := none) rfl hs (closure_ok fr) ok.kind (fun y hy e => by rw [ok.uniq y hy, e])
    (thn (hi.run pins s σ H _ I h) fun xv sa hx => thn hx fun itv sb hz => ?_)
  obtain ⟨it, fp, tn, J, Hb, rfl, Ib, T, stb, fb, qb⟩ := hz
  refine wpAny_newObj_type (newEnv_comp ?_) (by show 0 ≤ sizeLine; decide)
  obtain ⟨D, hD⟩ : ∃ D, sb.heap.objs.size = D := ⟨_, rfl⟩
  have nD : Hb D = none := Ib.hok.fresh (Nat.le_of_eq hD)
  obtain ⟨W, ⟨m0, w0⟩, turn⟩ := qb D nD
  rw [hD]
  have Ic0 : Inv X pins σ (upd Hb D (.lst [])) { sb with heap := sb.heap.push { cls := .type "list", data := .seq ([] : List Value).toArray } } :=
    Ib.laid (t' := sb.toks) (fun b o e => Heap.get?_push_of_some _ e) (Nat.le_of_eq hD) ⟨Nat.zero_le _, [], 0, .nil, by rw [← hD]; exact Heap.get?_push_size _ rfl⟩
  have fpl : ∀ b ∈ fp, b < sb.heap.objs.size := fun b hb => (T.obj _ _ stb b hb).elim fun o e => Heap.lt_size e.1
  have heq0 : ({ sb with heap := sb.heap.push { cls := .type "list", data := .seq ([] : List Value).toArray } } : Shared).heap = sb.heap.push { cls := .type "list", data := .seq ([] : List Value).toArray } := rfl
  generalize hsc : ({ sb with heap := sb.heap.push { cls := .type "list", data := .seq ([] : List Value).toArray } } : Shared) = sc at Ic0 heq0 ⊢
  obtain ⟨Hc, hHc⟩ : ∃ Hc, upd Hb D (.lst []) = Hc := ⟨_, rfl⟩
  rw [hHc] at Ic0 w0
  have fc : ∀ b ∈ fp, FpOk X pins Hc b ∧ b < sc.heap.objs.size := fun b hb => by
    have lt := fpl b hb
    have ne : b ≠ D := hD ▸ Nat.ne_of_lt lt
    refine ⟨⟨?_, (fb b hb).2⟩, by rw [heq0, Heap.size_push]; exact Nat.lt_succ_of_lt lt⟩
    rw [← hHc, upd_ne ne]
    exact (fb b hb).1
  have stc : tn 0 sc.heap := T.keep _ _ _ stb fun b _ o e => by rw [heq0]; exact Heap.get?_push_of_some _ e
  have Id := block_start Ic0 ok nd fc
  generalize hcl : cellsFrom (sc.heap.objs.size + 1) scope.names (cloFrom X.env.cells scope.names []) = cl at Id
  have goal2 : codeAny (model X.prog X.w) X.A (.compStart (.ListComp elt [⟨tg, iter, [], 0⟩] scope pos) 0 (.ref it) (.ref D) (compEnvC scope cl sc.heap.objs.size X.env)) (compPost (model X.prog X.w) X.A X.xe none (EP X pins σ Q) (.ref D) sc.heap.objs.size) { sc with heap := pushCells (sc.heap.push { cls := .type "dict", data := .dict #[] }) scope.names } := by
    have ee := he pins sc Hc sc.heap.objs.size cl fp Ic0 fun b hb y c e => (fc b hb).1.2.2.2.2.1 y c e
    have gg := hg sc Hc sc.heap.objs.size cl fp
    have nB : ∀ b ∈ fp, Hc b = none := fun b hb => (fc b hb).1.1
    have std : tn 0 (pushCells (sc.heap.push { cls := .type "dict", data := .dict #[] }) scope.names) := T.keep _ _ _ stc fun b _ o e => pushCells_keeps _ _ _ _ (Heap.get?_push_of_some _ e)
    obtain ⟨ce, hce⟩ : ∃ ce, compEnvC scope cl sc.heap.objs.size X.env = ce := ⟨_, rfl⟩
    have lce : ce.locals = sc.heap.objs.size := by rw [← hce]; rfl
    rw [hce] at ee gg Id ⊢
    -- the iterator's objects, in the block
    have fpB : ∀ {σ1 : L2.St} {H1 : Hp} {s1 : Shared}, Inv (X.blk sc Hc scope ce fp) [] σ1 H1 s1 → (∀ b ∈ fp, H1 b = none) → ∀ b ∈ fp, FpOk (X.blk sc Hc scope ce fp) [] H1 b := fun {σ1 H1 s1} J n b hb =>
      ⟨n b hb, (J.ok.exf b hb).1, J.ok.exfs b hb, .inl hb, fun y c e => (J.ok.exf b hb).2 y c e, fun q hq => absurd (show q ∈ ([] : List (Addr × Obj)) ++ [] from hq) (by simp)⟩
    have turns : codeAny (model X.prog X.w) X.A (.compLoop (.ListComp elt [⟨tg, iter, [], 0⟩] scope pos) 0 (.ref it) (.ref D) ce) (compPost (model X.prog X.w) X.A X.xe none (EP X pins σ Q) (.ref D) sc.heap.objs.size) { sc with heap := pushCells (sc.heap.push { cls := .type "dict", data := .dict #[] }) scope.names } := by
      refine compLoop_any (fun n s1 => ∃ j H1, W j n H1 ∧ Inv (X.blk sc Hc scope ce fp) [] (wipe σ (own.map (·.2))) H1 s1 ∧ (∀ b ∈ fp, H1 b = none) ∧ tn j s1.heap) ?_ m0 ⟨0, Hc, w0, Id, nB, std⟩
      rintro n s1 ⟨j, H1, w1, I1, n1, st1⟩
      rcases turn j n H1 w1 with ⟨stop, fin⟩ | ⟨go, Nx, less, step⟩
      · refine thnF (T.done (X.blk sc Hc scope ce fp) rfl rfl rfl calm j [] s1 _ H1 (fun _ _ => False) I1 (fpB I1 n1) st1 stop) fun r s2 ⟨er, I2⟩ => ?_
        subst er
        have back : Inv X pins σ H1 s2 := Ic0.call' (ch := fp) I2.os I2.base I2.hok I2.bare fun b hb =>
          let z := (fc b hb).1
          ⟨z.2.2.2.1, z.2.1, z.2.2.2.2.1, z.2.2.2.2.2⟩
        have nL : H1 sc.heap.objs.size = none := lce ▸ I2.free
        obtain ⟨mm, hn, _⟩ := I2.loc
        refine ⟨mm, lce ▸ hn, fun g2 sb2 => ?_⟩
        obtain ⟨f0, f1, f2, f3, f4, f5⟩ := Ic0.fpOk (Nat.le_refl _) nL
        have fr3 : FpOk X pins H1 sc.heap.objs.size := Ic0.fpOk (Nat.le_refl _) nL
        exact ⟨.ref D, H1, back.turned (t' := s2.toks) (fun b o hb e => (sb2.2 b hb).trans e) f0 f1 f3 f4 f5, rfl, fin⟩
      · refine thnF (T.item (X.blk sc Hc scope ce fp) rfl rfl rfl calm j [] s1 _ H1 (fun _ _ => False) I1 (fpB I1 n1) st1 go) fun r s2 ⟨u, er, h2⟩ => ?_
        subst er
        refine thnF h2 fun _ s3 ⟨x, H3, I3, r3, y3, st3, n3⟩ => ?_
        have J3 := I3.pinned (fpB I3 n3) (T.obj _ _ st3)
        refine thnF (gg.run _ s3 _ H3 x u _ J3 r3 (step x H3 y3)) fun _ s4 ⟨σ4, H4, I4, wp4, q4⟩ => ?_
        refine wpAny_tests_nil ?_
        have q5 : te σ4 H4 fun y H5 => ∃ acc, H5 D = some (.lst acc) ∧ acc.length < sizeLine ∧ Nx (upd H5 D (.lst (acc ++ [y]))) := by
          have z : (if true = true then (te σ4 H4 fun y H5 => ∃ acc, H5 D = some (.lst acc) ∧ acc.length < sizeLine ∧ Nx (upd H5 D (.lst (acc ++ [y])))) else Nx H4) := q4
          rwa [if_pos rfl] at z
        simp only [if_true]
        refine thnF (ee _ s4 σ4 H4 _ wp4 I4 q5) fun z s5 ⟨yv, H5, I5, r5, acc, hD5, lt5, nx⟩ => ?_
        refine app_ok (X := X.blk sc Hc scope ce fp) I5 hD5 lt5 r5 fun s6 I6 => ?_
        obtain ⟨m1, lm, w6⟩ := less _ nx
        have pin6 : ∀ b ∈ fp, ∀ o, s3.heap.get? b = some o → s6.heap.get? b = some o ∧ upd H5 D (.lst (acc ++ [yv])) b = none := fun b hb o e =>
          let z := I6.pin (b, o) (List.mem_append_right _ (List.mem_append_right _ (mem_pinsAt hb e)))
          ⟨z.1, z.2.1⟩
        have ll : (wipe σ (own.map (·.2))).length = σ4.length := by rw [← wp4, wipe_length]
        refine ⟨m1, lm, j + 1, _, w6, (I6.unpinned (pins := [])).weak ll (fun i v e => ?_), fun b hb => ?_, T.keep _ _ _ st3 fun b hb o e => (pin6 b hb o e).1⟩
        · rw [← wp4] at e
          exact (wipe_some e).1
        · obtain ⟨o, e, _⟩ := T.obj _ _ st3 b hb
          exact (pin6 b hb o e).2
    exact codeAny_compStart_list turns (T.self X.A 0 _ _ _ std turns)
  exact goal2
end
end LM

set_option linter.all false
/-! _law_why(lambda ..), _law_why(name), [_law_why(name) for name in list] -/
namespace LM
open PySem PySem.Spec PyProof.Rows L2
open LamX (Tabs TabS ExtN TabB CodeO GivesTo)
/-- a lambda that the def makes: its text, what its call binds, its cells, its body's reading -/
structure LEnt where
  L : LTx
  κ : LK
  cl : List (Str × Addr)
  t : XK → TE
/-- all that is told of it -/
structure LGo (X : Cx) (k : Nat) (m : LEnt) : Prop where
  ok : LOk X (lq X) m.cl m.L m.κ k m.t
  cl : m.cl = clo X m.L
  free : ∀ y ∈ m.L.scope.names, y.2 = .free → X.env.scope.names.lookup y.1 = some .cell ∨ X.env.scope.names.lookup y.1 = some .free
def tAsk (TT : (XK → Hp → VK → Prop) → Hp → VK → Prop) (q : Str) (ls : List LEnt) (te : TE) : TE := fun σ H Q => te σ H fun v H1 => ∃ (f : Addr) (m : LEnt), m ∈ ls ∧ v = .ref f ∧ LamV m.L m.κ q m.cl H1 f ∧ TT (fun E H' Q' => LamV m.L m.κ q m.cl H' f ∧ m.t E σ H' Q') H1 Q
section
variable {X : Cx} {x : Str} {k : Nat} {TT : (XK → Hp → VK → Prop) → Hp → VK → Prop} {ls : List LEnt} {p pos : Pos}
theorem pe_ask {e : Expr} {te : TE} (As : Asks X x (lq X) k TT) (hg : Gl X x) (hr : Room (k + 2) X.A) (hls : ∀ m ∈ ls, LGo X k m) (he : PE X e te) (mono : ∀ σ H (Q1 Q2 : VK), (∀ v H', Q1 v H' → Q2 v H') → te σ H Q1 → te σ H Q2) (hse : starEach [e] X.env = [(false, eval e X.env)] := by rfl) : PE X (.Call (.Name x p) [e] [] pos) (tAsk TT (lq X) ls te) := by
  refine ⟨fun pins s σ H Q I h => call_lam I As hg hr he (mono σ H _ _ (fun v H1 z => ?_) h) hse⟩
  obtain ⟨f, m, hm, rfl, lv, z⟩ := z
  have G := hls m hm
  refine ⟨f, m.L, m.κ, m.cl, m.t, rfl, G.ok, fun s1 I1 => ?_, lv, z⟩
  rw [G.cl]
  exact cells_of I1 G.free
/-- the names of the comprehension are none of the lambda's -/
def OffOwn (own : List (Str × Nat)) (m : LEnt) : Prop := ∀ y ∈ m.L.scope.names, y.2 = .free → y.1 ∉ own.map (·.1)
theorem wipe_off {σ : L2.St} {i : Nat} : ∀ {vs : List Nat}, i ∉ vs → (wipe σ vs)[i]? = σ[i]?
  | [], _ => rfl
  | v :: vs, h => by
    unfold wipe
    rw [List.getElem?_set_ne (fun z => h (by simp [z]))]
    exact wipe_off fun z => h (List.mem_cons_of_mem _ z)
/-- x(v) within the block -/
def tAskV (TT : (XK → Hp → VK → Prop) → Hp → VK → Prop) (q : Str) (ls : List LEnt) (j : Nat) : TE := fun σ H Q => ∃ (f : Addr) (m : LEnt), m ∈ ls ∧ σ[j]? = some (some (.ref f)) ∧ LamV m.L m.κ q m.cl H f ∧ TT (fun E H' Q' => LamV m.L m.κ q m.cl H' f ∧ m.t E σ H' Q') H Q
theorem pe_lcask {j : Nat} {tg iter e : Expr} {scope : Scope} {own : List (Str × Nat)} {wi : TI} {g : TG} {pos2 : Pos} (As : Asks X x (lq X) k TT) (hr : Room (k + 2) X.A) (hls : ∀ m ∈ ls, LGo X k m ∧ OffOwn own m) (calm : X.calm = true) (nd : X.N.Nodup) (hi : PI X tg iter wi) (ok : BlkOk X.N X.env.scope scope own)
    (hg : ∀ (s : Shared) (H : Hp) (C : Addr) (cl : List (Str × Addr)) (fp : List Addr), PG (X.blk s H scope (compEnvC scope cl C X.env) fp) tg g)
    (hgl : ∀ (s : Shared) (H : Hp) (C : Addr) (cl : List (Str × Addr)) (fp : List Addr), Gl (X.blk s H scope (compEnvC scope cl C X.env) fp) x)
    (hv : ∀ (s : Shared) (H : Hp) (C : Addr) (cl : List (Str × Addr)) (fp : List Addr), PE (X.blk s H scope (compEnvC scope cl C X.env) fp) e (tVar j)) (hse : ∀ env : Env, starEach [e] env = [(false, eval e env)] := by intro _; rfl)
    (hs : ∀ x, foldedSetIterable iter X.env x = pure x := by intro _; rfl) : PE X (.ListComp (.Call (.Name x p) [e] [] pos) [⟨tg, iter, [], 0⟩] scope pos2) (tLc wi g tYes (tAskV TT (lq X) ls j) (own.map (·.2))) := by
  refine ⟨fun pins s σ H Q I h => lcx_run calm nd I hi ok hg ?_ hs h⟩
  intro pins0 sB HB C cl fp I0 nfp pn s1 σE H1 Q1 hw J z
  obtain ⟨f, m, hm, hj, lv, z⟩ := z
  obtain ⟨G, off⟩ := hls m hm
  refine call_lam (Z := X.blk sB HB scope (compEnvC scope cl C X.env) fp) (q := lq X) (TT := TT) (k := k) J ⟨As.ex, As.db⟩ (hgl sB HB C cl fp) hr (hv sB HB C cl fp) ⟨.ref f, hj, f, m.L, m.κ, m.cl, m.t, rfl, ⟨G.ok.ls, G.ok.has, G.ok.loc, G.ok.body⟩, fun s2 J2 => ?_, lv, z⟩ (hse _)
  have c0 : CellsOk X.N m.cl m.L.scope σ HB sB.heap := by
    rw [G.cl]
    exact cells_of I0 G.free
  have c1 : CellsOk X.N m.cl m.L.scope σ H1 s2.heap := c0.un J2.base fun y c e hb => by
    rw [G.cl] at e
    exact nfp c hb y c (clo_lk I0.ok G.free e) rfl
  refine c1.slots fun i y u e1 e2 e3 => ?_
  have ni : i ∉ own.map (·.2) := fun hi => by
    rw [List.mem_map] at hi
    obtain ⟨o, ho, rfl⟩ := hi
    have := ok.ix o ho
    rw [e1] at this
    exact off (y, .free) (PySem.mem_of_lookup e2) rfl (List.mem_map.mpr ⟨o, ho, (Option.some.inj this).symm⟩)
  rw [← wipe_off ni, ← hw, wipe_off ni]
  exact e3
/-- one after the other: what is told of a list of lambdas at a, the answers at D -/
def Chain (TT : (XK → Hp → VK → Prop) → Hp → VK → Prop) (q : Str) (ls : List LEnt) (j : Nat) (σ : L2.St) (K : PySem.W.Frag) (a D : Addr) (all : List V) (Qd : Hp → Prop) : List Addr → Hp → Prop
  | [], H => Qd H
  | f :: r, H => ∃ m : LEnt, m ∈ ls ∧ LamV m.L m.κ q m.cl H f ∧ TT (fun E H' Q' => LamV m.L m.κ q m.cl H' f ∧ m.t E (σ.set j (some (.ref f))) H' Q') H fun y H4 =>
      ∃ acc, H4 D = some (.lst acc) ∧ acc.length < sizeLine ∧ SqL K (upd H4 D (.lst (acc ++ [y]))) a all ∧ Chain TT q ls j σ K a D all Qd r (upd H4 D (.lst (acc ++ [y])))
theorem lc_ask {K : PySem.W.Frag} {q : Str} {j : Nat} {σ : L2.St} {H1 : Hp} {D a : Addr} {Qd : Hp → Prop} {vs : List Nat} (fs : List Addr) (hj : j < σ.length) (h0 : SqL K (upd H1 D (.lst [])) a (fs.map V.ref)) (hset : ∀ u, wipe ((wipe σ vs).set j u) vs = wipe σ vs)
    (hc : Chain TT q ls j (wipe σ vs) K a D (fs.map V.ref) Qd fs (upd H1 D (.lst []))) :
    ∃ W : Nat → Nat → Hp → Prop, (∃ m, W 0 m (upd H1 D (.lst []))) ∧ ∀ i m H, W i m H →
      ((Itl K a).stop i H ∧ Qd H) ∨ ((Itl K a).go i H ∧ ∃ Nx : Hp → Prop, (∀ H', Nx H' → ∃ m', m' < m ∧ W (i + 1) m' H') ∧ ∀ x H', (Itl K a).yld i H x H' → gName j x (wipe σ vs) H' fun σ2 H2 => wipe σ2 vs = wipe σ vs ∧ tYes σ2 H2 fun b H3 =>
        if b = true then tAskV TT q ls j σ2 H3 fun y H4 => ∃ acc, H4 D = some (.lst acc) ∧ acc.length < sizeLine ∧ Nx (upd H4 D (.lst (acc ++ [y]))) else Nx H3) := by
  refine ⟨fun i m H => m = fs.length - i ∧ i ≤ fs.length ∧ SqL K H a (fs.map V.ref) ∧ Chain TT q ls j (wipe σ vs) K a D (fs.map V.ref) Qd (fs.drop i) H, ⟨fs.length, by simp, Nat.zero_le _, h0, hc⟩, ?_⟩
  rintro i m H ⟨rfl, hi, hS, ch⟩
  by_cases hlt : i < fs.length
  · have ed : fs.drop i = fs[i] :: fs.drop (i + 1) := List.drop_eq_getElem_cons hlt
    rw [ed] at ch
    obtain ⟨m, hm, lv, z⟩ := ch
    have gx : (fs.map V.ref)[i]? = some (.ref fs[i]) := by simp [hlt]
    refine .inr ⟨⟨_, _, hS, gx⟩, fun H => SqL K H a (fs.map V.ref) ∧ Chain TT q ls j (wipe σ vs) K a D (fs.map V.ref) Qd (fs.drop (i + 1)) H, fun H' p' => ⟨fs.length - (i + 1), by omega, rfl, hlt, p'⟩, fun x H' y => ?_⟩
    obtain ⟨e, y⟩ := y
    subst e
    obtain rfl : V.ref fs[i] = x := Option.some.inj (gx.symm.trans (y _ hS))
    refine ⟨hset _, ?_⟩
    show (if true = true then _ else (SqL K H' a (fs.map V.ref) ∧ Chain TT q ls j (wipe σ vs) K a D (fs.map V.ref) Qd (fs.drop (i + 1)) H'))
    rw [if_pos rfl]
    exact ⟨fs[i], m, hm, List.getElem?_set_self (by rw [wipe_length]; exact hj), lv, z⟩
  · have e : i = fs.length := by omega
    subst e
    rw [List.drop_length] at ch
    exact .inl ⟨⟨_, hS, by simp⟩, ch⟩
theorem mono_var {j : Nat} : ∀ (σ : L2.St) (H : Hp) (Q1 Q2 : VK), (∀ v H', Q1 v H' → Q2 v H') → tVar j σ H Q1 → tVar j σ H Q2 := fun σ H Q1 Q2 h ⟨v, e, q⟩ => ⟨v, e, h _ _ q⟩
theorem mono_lamv {T : List (Addr × Str)} {L : LTx} {κ : LK} {q : Str} {cl : List (Str × Addr)} : ∀ (σ : L2.St) (H : Hp) (Q1 Q2 : VK), (∀ v H', Q1 v H' → Q2 v H') → tLamV T L κ q cl σ H Q1 → tLamV T L κ q cl σ H Q2 := fun σ H Q1 Q2 h ⟨a, b⟩ => ⟨a, fun f H1 x y z n => h _ _ (b f H1 x y z n)⟩
end
end LM

set_option linter.all false
/-! a lambda's text by its place; _law_why out of what is known of it -/
namespace LM
open PySem PySem.Spec PyProof.Rows L2
open LamX (Tabs TabS ExtN TabB CodeO GivesTo)
def lamT : Expr → LTx
  | .Lambda p b s _ => ⟨p, b, s⟩
  | e => ⟨⟨[], [], none, [], [], none, []⟩, e, default⟩
/-- _law_why(lambda ..) at its own def's table -/
def tAskL (TT : (XK → Hp → VK → Prop) → Hp → VK → Prop) (T : List (Addr × Str)) (q : Str) (m : LEnt) : TE := fun σ H Q => Tabs T H ∧ ∀ f H1, ExtN H H1 → Tabs T H1 → LamV m.L m.κ q m.cl H1 f → H f = none → TT (fun E H' Q' => LamV m.L m.κ q m.cl H' f ∧ m.t E σ H' Q') H1 Q
theorem pe_askl {X : Cx} {x : Str} {k : Nat} {TT : (XK → Hp → VK → Prop) → Hp → VK → Prop} {T : List (Addr × Str)} {c P : Addr} {m : LEnt} {e : Expr} {p lpos pos : Pos} (he : e = .Call (.Name x p) [.Lambda m.L.params m.L.body m.L.scope lpos] [] pos) (As : Asks X x (lq X) k TT) (hg : Gl X x) (hr : Room (k + 2) X.A) (G : LGo X k m)
    (TB : TabB X.base X.mg c P) (hcode : X.env.code = .ref c) (hm : (P, lq X) ∈ T) (hu : ∀ p ∈ T, p.1 = P → p.2 = lq X) : PE X e (tAskL TT T (lq X) m) := by
  rw [he]
  have h1 := pe_ask (p := p) (pos := pos) (ls := [m]) As hg hr (fun m1 hm1 => by rw [List.mem_singleton.mp hm1]; exact G) (pe_lamv (pos := lpos) (L := m.L) (κ := m.κ) TB hcode hm hu G.free G.ok.has) mono_lamv rfl
  refine ⟨fun pins s σ H Q I h => h1.run pins s σ H Q I ⟨h.1, fun f H1 a b lv n => ⟨f, m, List.mem_singleton.mpr rfl, rfl, ?_, ?_⟩⟩⟩
  · rw [← G.cl] at lv
    exact lv
  · rw [← G.cl] at lv
    exact h.2 f H1 a b lv n
/-- what is to be shown of a lambda, its text laid open -/
theorem go_of {X : Cx} {e : Expr} {κ : LK} {k : Nat} {t : XK → TE} (h : ∃ p b sc lp, e = .Lambda p b sc lp ∧ lsB X.N sc = true ∧ freeB X.env.scope sc = true ∧ LTx.has ⟨p, b, sc⟩ κ ∧ κ.loc sc ∧
    ∀ (A : Around) (outer : List Env) (s : Shared) (H : Hp) (E : XK) (f c1 : Addr), Room k (A.deeper (lenv (lq X) (clo X (lamT e)) sc s.heap.objs.size f c1)) → PE (lcx X (lq X) (clo X (lamT e)) A outer s H E sc f c1) b (t E)) : LGo X k ⟨lamT e, κ, clo X (lamT e), t⟩ := by
  obtain ⟨p, b, sc, lp, he, h1, h2, h3, h4, h5⟩ := h
  have el : lamT e = ⟨p, b, sc⟩ := by rw [he]; rfl
  rw [el] at h5 ⊢
  exact ⟨⟨ls_by h1, h3, h4, h5⟩, rfl, free_by h2⟩
theorem lamv_of {X : Cx} {T : List (Addr × Str)} {c P : Addr} {e : Expr} {κ : LK} {k : Nat} {t : XK → TE} (h : ∃ lp, e = .Lambda (lamT e).params (lamT e).body (lamT e).scope lp) (G : LGo X k ⟨lamT e, κ, clo X (lamT e), t⟩) (TB : TabB X.base X.mg c P) (hcode : X.env.code = .ref c) (hm : (P, lq X) ∈ T) (hu : ∀ p ∈ T, p.1 = P → p.2 = lq X) :
    PE X e (tLamV T (lamT e) κ (lq X) (clo X (lamT e))) := by
  obtain ⟨lp, he⟩ := h
  have := pe_lamv (pos := lp) (L := lamT e) (κ := κ) TB hcode hm hu G.free G.ok.has
  rw [← he] at this
  exact this
theorem lcask_of {X : Cx} {x : Str} {k : Nat} {TT : (XK → Hp → VK → Prop) → Hp → VK → Prop} {ls : List LEnt} {j : Nat} {lc : Expr} {own : List (Str × Nat)} {wi : TI} {g : TG} (As : Asks X x (lq X) k TT) (hr : Room (k + 2) X.A) (hls : ∀ m ∈ ls, LGo X k m ∧ OffOwn own m) (calm : X.calm = true) (nd : X.N.Nodup)
    (h : ∃ p pos e tg iter scope pos2, lc = .ListComp (.Call (.Name x p) [e] [] pos) [⟨tg, iter, [], 0⟩] scope pos2 ∧ PI X tg iter wi ∧ BlkOk X.N X.env.scope scope own ∧ (∀ (s : Shared) (H : Hp) (C : Addr) (cl : List (Str × Addr)) (fp : List Addr), PG (X.blk s H scope (compEnvC scope cl C X.env) fp) tg g) ∧
      (∀ (s : Shared) (H : Hp) (C : Addr) (cl : List (Str × Addr)) (fp : List Addr), Gl (X.blk s H scope (compEnvC scope cl C X.env) fp) x) ∧ (∀ (s : Shared) (H : Hp) (C : Addr) (cl : List (Str × Addr)) (fp : List Addr), PE (X.blk s H scope (compEnvC scope cl C X.env) fp) e (tVar j)) ∧
      (∀ env : Env, starEach [e] env = [(false, eval e env)]) ∧ ∀ x, foldedSetIterable iter X.env x = pure x) : PE X lc (tLc wi g tYes (tAskV TT (lq X) ls j) (own.map (·.2))) := by
  obtain ⟨p, pos, e, tg, iter, scope, pos2, rfl, h1, h2, h3, h4, h5, h6, h7⟩ := h
  exact pe_lcask As hr hls calm nd h1 h2 h3 h4 h5 h6 h7
def offB (own : List (Str × Nat)) (sc : Scope) : Bool := sc.names.all fun y => !decide (y.2 = .free) || !decide (y.1 ∈ own.map (·.1))
theorem off_by {own : List (Str × Nat)} {m : LEnt} (h : offB own m.L.scope = true) : OffOwn own m := fun y hy e => by
  have z := List.all_eq_true.mp h y hy
  simp only [Bool.or_eq_true, Bool.not_eq_true', decide_eq_false_iff_not] at z
  exact z.elim (fun z => absurd e z) id
end LM

namespace RF
open PySem L2 PyProof.Rows
/-! ### a def that may raise: called by position, by names alone -/
structure DfX (P : Program) (w : World) (K : PySem.W.Frag) (mg : Str → Option Value) (base : Heap) (k : Nat) (x : Str) (ps : List Str) (sp : Sp) : Prop where
  ex : ∃ (f : Addr) (fd : FuncData), FnOk P w K mg base (L2.CX P w) k f fd ps sp ∧ Binds K fd ps [] ∧ mg x = some (.ref f) ∧ PySem.W.keepIn K (.ref f) = true
theorem pe_callX {X : Cx} {j k : Nat} {x : Str} {ps : List Str} {sp : Sp} {E : XK} {p pos : Pos} {e : Expr} {es : List Expr} {t : TA} (F : DfX X.prog X.w X.K X.mg X.base k x ps sp) (hr : Room j X.A) (hk : k ≤ j) (hx : Passes (L2.CX X.prog X.w) X E) (ha : PA X (e :: es) t)
    (hg : Gl X x := by rfl) (hdb : (x == ("__debug__" : Str)) = false := by decide)
    (he : starEach (e :: es) X.env = (false, eval e X.env) :: starEach es X.env := by rfl) (hpl : (backTo pos (starEach es X.env)).any (·.1) = false := by rfl) :
    PE X (.Call (.Name x p) (e :: es) [] pos) (tCall sp [] E t) := by
  obtain ⟨f, fd, G, b, m, kp⟩ := F.ex
  exact pe_call G (hr.mono hk) hg m kp b .nil hx ha hdb he hpl
/-- .. all by names -/
structure DkX (P : Program) (w : World) (K : PySem.W.Frag) (mg : Str → Option Value) (base : Heap) (k : Nat) (x : Str) (ps ks : List Str) (gV : List V → List V → List V) (sp : Sp) : Prop where
  ex : ∃ (f : Addr) (fd : FuncData) (g : List Value → List Value → List Value), FnOk P w K mg base (L2.CX P w) k f fd ps sp ∧ KBn K fd ps 0 ks g gV ∧ mg x = some (.ref f) ∧ PySem.W.keepIn K (.ref f) = true
theorem pe_kX {X : Cx} {j k : Nat} {ps ks : List Str} {sp : Sp} {x : Str} {p pos : Pos} {kws : List Keyword} {tk : TA} {gV : List V → List V → List V} {E : XK} (D : DkX X.prog X.w X.K X.mg X.base k x ps ks gV sp) (hr : Room j X.A) (hj : k ≤ j) (hx : Passes (L2.CX X.prog X.w) X E) (hkw : PK X kws tk) (hg : Gl X x := by rfl)
    (hall : (backToKw pos (keywordEach kws X.env)).all (·.1.isSome) = true := by rfl) (hks : (backToKw pos (keywordEach kws X.env)).filterMap (·.1) = ks := by rfl) (hdb : (x == ("__debug__" : Str)) = false := by decide)
    (hpl : ((backTo pos (starEach [] X.env)).any (·.1) || (backToKw pos (keywordEach kws X.env)).any (·.1.isNone)) = false := by rfl) :
    PE X (.Call (.Name x p) [] kws pos) (tCallN 0 ks.length sp gV E tNil tk) := by
  obtain ⟨f, fd, g, F, hb, hm, hk⟩ := D.ex
  exact pe_callN0 F (hr.mono hj) hg hm hk hb hx hkw hall hks hdb hpl
/-! ### what _law_why makes of an own error -/
open EX in
def EW (K : PySem.W.Frag) (c1 c2 c3 : Addr) (Q : VK) : XK := fun cls d H' => ∃ C dd fs tag u, cls = .ref C ∧ d = some dd ∧ PySem.W.exmAny K (.ref C) [.ref c1, .ref c2, .ref c3] = some true ∧ ECls K C ∧ Tells K H' C dd fs tag u ∧ ∀ H2 t, Same H' H2 → H2 t = none → Q (.ref t) (upd H2 t (.tup [.str tag, u]))
open EX in
theorem why_err {P : Program} {w : World} {K : PySem.W.Frag} {mg : Str → Option Value} {nm fld : Str} {CE c1 c2 c3 : Addr} {v : V} {H : Hp} {Q : VK} (O : OwnE P w K mg nm fld CE) (xx : PySem.W.exmAny K (.ref CE) [.ref c1, .ref c2, .ref c3] = some true) (nf : (fld == ("tag" : Str)) = false) (kd : Kd nm (some fld))
    (k : ∀ t H', Same H H' → H' t = some (.tup [.str nm, v]) → Q (.ref t) H') : Rsd CE nm fld v H (EW K c1 c2 c3 Q) := by
  obtain ⟨fD, oD, _⟩ := O.ex
  intro dd H7 sm7 hdd
  have s8 : Same H (upd H7 dd (.xd [(fld, v), ("tag", .str nm)])) := sNew sm7 hdd
  exact ⟨CE, dd, _, nm, v, rfl, rfl, xx, oD.ecls, tellsF oD.noT O.noF nf kd, fun H9 t sm9 ht => k t _ ((s8.trans sm9).trans (sNew (Same.refl H9) ht)) upd_same⟩
theorem ext_upd {H H1 : Hp} {D : Addr} {o : HO} (e : LamX.ExtN H H1) (h : H D = none) : LamX.ExtN H (upd H1 D o) := fun b u x n => by
  rw [upd_ne (ne_of_none x h)]
  exact e b u x n
theorem ext_put {H H1 : Hp} {D : Addr} {xs : List V} {o : HO} (e : LamX.ExtN H H1) (h : H1 D = some (.lst xs)) : ∀ b u, H b = some u → (∀ ps, u ≠ .tbl ps) → (∀ ys, u ≠ .lst ys) → upd H1 D o b = some u := fun b u x n m => by
  have h1 := e b u x n
  rw [upd_ne (ne_of h1 h (m xs))]
  exact h1
end RF

set_option linter.all false
/-! x != y and x == y of two instances of an own class with an __eq__ of its own and object's __ne__ -/
namespace RF
open PySem PySem.Spec PySem.Calls PyProof.Rows L2
section
variable {prog : Program} {w : World} {M : Model} {A : Around} {E : Value → Shared → Prop} {s : Shared} {K : PySem.W.Frag} {x C f L : Addr} {ox : Obj} {od : Option Obj}
theorem bound_B {name : Str} {id : String} {args : List Value} {Q : Option Value → Shared → Prop} (X : K.In s.heap) (I : PySem.W.InstAt s.heap x ox C od) (hs : PySem.W.findIn K (.ref C) name = some (some (.builtin id))) (hb : ∀ self, bindSpecial (.builtin id) self = pure (.builtin id, [self]))
    (h : wpAny M A (call (.builtin id) (.ref x :: args)) (fun v => Q (some v)) E s) : wpAny M A (callSpecialIfBound? (.ref x) name args) Q E s := by
  have go : wpAny M A (do let v ← call (.builtin id) ([.ref x] ++ args); pure (some v)) Q E s := wpAny_bind (wpAny_mono h (fun _ _ z => wpAny_pure z) fun _ _ z => z)
  unfold callSpecialIfBound? bindSpecialIfBound?
  refine wpAny_holding (wpAny_bind (wpAny_bind (wpAny_bind (I.type.here ((PySem.W.looks_findIn X hs).here (wpAny_bind (wpAny_askSetting (wpAny_ite ?_))))))))
  rw [hb]
  split
  · exact wpAny_bind (wpAny_pure (wpAny_pure (by exact go)))
  · exact wpAny_tryCatch (wpAny_bind (wpAny_pure (wpAny_pure (by exact go))))
open Builtin in
theorem call_ne {b : Value} {Q : Value → Shared → Prop} (hu : A.in1.units < cLine) (X : K.In s.heap) (I : PySem.W.InstAt s.heap x ox C od) (hm : PySem.W.mroIn K C (.type "object") = some true) (he : PySem.W.findIn K (.ref C) "__eq__" = some (some (.ref f))) (hf : PySem.W.isFn K (.ref f) = true)
    (h : wpAny (model prog w) A.in1 (call (.ref f) [.ref x, b]) (fun v s' => ∃ r, v = .bool r ∧ Q (.bool (!r)) s') E s) : wpAny (model prog w) A (call (.builtin "object.__ne__") [.ref x, b]) Q E s := by
  refine wpAny_call (codeAny_call_builtin PySem.F.slot_object_ne.plain PySem.F.entry_object_ne (PySem.W.check_slot (i := "object.__ne__") (owner := "object") (n := "__ne__") (by decide +kernel) (by decide +kernel) (I.type.andThen (PySem.W.looks_mroIn X hm)) (PySem.F.args_object_ne_2 _ _) ?_))
  unfold Builtin.«object.__ne__»
  refine wpAny_bind (m := slotArgs "__ne__" 1 _) (wpAny_pure ?_)
  refine wpAny_bind (m := cRoomFor _ _) (wpAny_cRoomFor hu ?_)
  refine wpAny_bind (m := callSpecialIfBound? (.ref x) "__eq__" _) (PySem.W.ifBound_K X I he hf (wpAny_mono h (fun v s' z => ?_) fun _ _ z => z))
  obtain ⟨r, rfl, q⟩ := z
  exact wpAny_bind (wpAny_pure (wpAny_pure q))
/-- x != b, x's class with object's own __ne__ -/
theorem ne_own {h₀ : Heap} {m : Str → Option Value} {b tb : Value} {Q : Value → Shared → Prop} (hu : A.units < cLine) (hu1 : A.in1.units < cLine) (F : Fr h₀ L s.heap m) (X₀ : K.In h₀) (I : PySem.W.InstAt s.heap x ox C od) (hb : PySem.W.Looks (model prog w) s.heap (typeOf b) tb) (hn : PySem.W.notFirst K C tb = true)
    (hs : PySem.W.findIn K (.ref C) "__ne__" = some (some (.builtin "object.__ne__"))) (hm : PySem.W.mroIn K C (.type "object") = some true) (he : PySem.W.findIn K (.ref C) "__eq__" = some (some (.ref f))) (hf : PySem.W.isFn K (.ref f) = true)
    (h : wpAny (model prog w) A.in1 (call (.ref f) [.ref x, b]) (fun v s' => ∃ r, v = .bool r ∧ Q (.bool (!r)) s') E s) : wpAny (model prog w) A (richCompare .NotEq (.ref x) b) Q E s := by
  have X := X₀.keeps F.keep
  have t1 : wpAny (model prog w) A (tryCompare (.ref x) (cmpInfo .NotEq).2.1 b) (fun r s' => ∃ k, r = some (.bool k) ∧ Q (.bool k) s') E s := by
    unfold tryCompare
    exact wpAny_bind (bound_B X I hs PySem.F.slot_object_ne.bind (call_ne (Q := fun v s' => wpAny (model prog w) A _ _ E s') hu1 X I hm he hf (wpAny_mono h (fun v s' ⟨r, e, q⟩ => ⟨r, e, wpAny_pure ⟨_, rfl, q⟩⟩) fun _ _ z => z)))
  have e : tb = .ref C ∨ PySem.W.subIn K tb (.ref C) = some false := (Bool.or_eq_true_iff.mp hn).imp (fun z => beq_iff_eq.mp z) fun z => beq_iff_eq.mp z
  unfold richCompare
  simp only [oneThing_ref]
  refine wpAny_holding (wpAny_bind (wpAny_cRoomFor hu (wpAny_bind (I.type.here (wpAny_bind (hb.here ?_))))))
  split
  · rename_i q
    refine wpAny_bind ((PySem.W.looks_subIn X (e.resolve_left fun z => by rw [z] at q; simp at q)).here ?_)
    rw [if_neg (by decide)]
    refine wpAny_bind (wpAny_mono t1 (fun r s' ⟨k, er, z⟩ => ?_) fun _ _ z => z)
    subst er
    exact wpAny_pure z
  · refine wpAny_bind (wpAny_pure ?_)
    rw [if_neg (by decide)]
    refine wpAny_bind (wpAny_mono t1 (fun r s' ⟨k, er, z⟩ => ?_) fun _ _ z => z)
    subst er
    exact wpAny_pure z
end
end RF

set_option linter.all false
/-! x == y, x != y of two instances of an own class by its __eq__, whatever it answers -/
namespace RF
open PySem PySem.Spec PySem.Calls PyProof.Rows L2
section
variable {X : Cx} {CX : CXT} {n : Nat} {C f : Addr} {fd : FuncData} {ps : List Str} {sp : Sp} {E : XK}
theorem own_at {A : Around} {pins : List (Addr × Obj)} {s : Shared} {σ : L2.St} {H : Hp} {Q : VK} {vs : List V} {us : List Value} (F : FnOk X.prog X.w X.K X.mg X.base CX n f fd ps sp) (sb : Sub X n A) (hb : Binds X.K fd ps []) (hx : Passes CX X E) (I : Inv X pins σ H s) (r : Vals vs us) (h : sp vs H Q E) :
    wpAny (model X.prog X.w) A (call (.ref f) us) (EP X pins σ Q) X.xe s := by
  have e0 : Env0 X.prog X.w X.K X.mg X.base A X.stack s H := let e := I.env0; ⟨by rw [sb.fr]; exact e.frames, e.mod, e.bs, e.bsz, e.funs, e.frf, e.hok, e.bare⟩
  have bnd := hb s us I.kIn (by rw [List.append_nil]; first | exact r.length.symm.trans (F.len _ _ _ _ h) | exact r.length.trans (F.len _ _ _ _ h))
  rw [List.append_nil] at bnd
  refine wpAny_call (codeAny_mono (F.run A X.stack s H ⟨us, []⟩ us vs Q E sb.room e0 bnd r h) fun o s' z => ?_)
  match o, z with
  | .error e, z => exact hx pins σ H s e s' I z
  | .ok (.ret w), z =>
    obtain ⟨v, H', I', rv, q⟩ := I.after z
    exact ⟨v, H', I', rv, q⟩
  | .ok .next, z => exact z.elim
  | .ok .brk, z => exact z.elim
  | .ok .cont, z => exact z.elim
/-- the two are instances of C, its __eq__ promises sp; its answer, turned round when neg -/
def rOwnE (C : Addr) (sp : Sp) (E : XK) (neg : Bool) : R2 := fun x y H Q => ∃ a b dx dy fs gs, x = .ref a ∧ y = .ref b ∧ H a = some (.ins C dx fs) ∧ H b = some (.ins C dy gs) ∧ sp [.ref a, .ref b] H (fun v H' => ∃ r : Bool, v = .bl r ∧ Q (.bl (r ^^ neg)) H') E
structure OwnEq (K : PySem.W.Frag) (C f : Addr) : Prop where
  at_ : PySem.W.findIn K (.ref C) "__eq__" = some (some (.ref f))
  fn : PySem.W.isFn K (.ref f) = true
  ne : PySem.W.findIn K (.ref C) "__ne__" = some (some (.builtin "object.__ne__"))
  mro : PySem.W.mroIn K C (.type "object") = some true
theorem op_eqOwn (F : FnOk X.prog X.w X.K X.mg X.base CX n f fd ps sp) (hr : Room n X.A) (O : OwnEq X.K C f) (hb : Binds X.K fd ps []) (hx : Passes CX X E) : OpR X (compareOp .Eq) (rOwnE C sp E false) := by
  intro pins s σ H x y v u Q I rx ry h
  obtain ⟨a, b, dx, dy, fs, gs, rfl, rfl, ha, hb', q⟩ := h
  cases rx; cases ry
  obtain ⟨mA, J, _⟩ := ins_get I.hok ha
  obtain ⟨mB, J', _⟩ := ins_get I.hok hb'
  obtain ⟨od, J, _⟩ := J.look
  obtain ⟨od', J', _⟩ := J'.look
  obtain ⟨m, hF⟩ := I.fr
  show wpAny (model X.prog X.w) X.A (richCompare .Eq (.ref a) (.ref b)) _ _ s
  refine PySem.W.cmp_K (op := .Eq) (tb := .ref C) hr.units0 hF I.ok.mod.kin J J'.type (by simp [PySem.W.notFirst]) O.at_ O.fn (wpAny_mono (own_at F ⟨hr, rfl⟩ hb hx I (show Vals [V.ref a, V.ref b] [Value.ref a, Value.ref b] from .cons rfl (.cons rfl .nil)) q) (fun z s' e => ?_) fun _ _ z => z)
  obtain ⟨v, H', I', rv, r, rfl, q'⟩ := e
  cases rv
  rw [Bool.xor_false] at q'
  exact ⟨.bl r, H', I', rfl, q'⟩
theorem op_neOwn (F : FnOk X.prog X.w X.K X.mg X.base CX n f fd ps sp) (hr : Room (n + 1) X.A) (O : OwnEq X.K C f) (hb : Binds X.K fd ps []) (hx : Passes CX X E) : OpR X (compareOp .NotEq) (rOwnE C sp E true) := by
  intro pins s σ H x y v u Q I rx ry h
  obtain ⟨a, b, dx, dy, fs, gs, rfl, rfl, ha, hb', q⟩ := h
  cases rx; cases ry
  obtain ⟨mA, J, _⟩ := ins_get I.hok ha
  obtain ⟨mB, J', _⟩ := ins_get I.hok hb'
  obtain ⟨od, J, _⟩ := J.look
  obtain ⟨od', J', _⟩ := J'.look
  obtain ⟨m, hF⟩ := I.fr
  show wpAny (model X.prog X.w) X.A (richCompare .NotEq (.ref a) (.ref b)) _ _ s
  refine ne_own (tb := .ref C) hr.units0 hr.in1.units0 hF I.ok.mod.kin J J'.type (by simp [PySem.W.notFirst]) O.ne O.mro O.at_ O.fn (wpAny_mono (own_at F (Sub.in1 ⟨hr, rfl⟩) hb hx I (show Vals [V.ref a, V.ref b] [Value.ref a, Value.ref b] from .cons rfl (.cons rfl .nil)) q) (fun z s' e => ?_) fun _ _ z => z)
  obtain ⟨v, H', I', rv, r, rfl, q'⟩ := e
  cases rv
  rw [Bool.xor_true] at q'
  exact ⟨r, rfl, .bl (!r), H', I', rfl, q'⟩
end
end RF

set_option linter.all false
/-! repr of an instance of an own class with a __repr__ of its own -/
namespace RF
open PySem PySem.Spec PySem.Calls PyProof.Rows L2
section
variable {X : Cx} {CX : CXT} {n : Nat} {C f : Addr} {fd : FuncData} {ps : List Str} {sp : Sp} {E : XK}
def rReprOwn (C : Addr) (sp : Sp) (E : XK) : List V → Hp → VK → Prop := fun xs H Q => ∃ a dx fs, xs = [.ref a] ∧ H a = some (.ins C dx fs) ∧ sp [.ref a] H (fun v H' => ∃ t, v = .str t ∧ Q (.str t) H') E
open Builtin in
theorem cr_reprOwn (F : FnOk X.prog X.w X.K X.mg X.base CX n f fd ps sp) (hr : Room (n + 1) X.A) (hat : PySem.W.findIn X.K (.ref C) "__repr__" = some (some (.ref f))) (hfn : PySem.W.isFn X.K (.ref f) = true) (hb : Binds X.K fd ps []) (hx : Passes CX X E) : CallR X (.builtin "repr") (rReprOwn C sp E) := by
  intro pins s σ H xs us Q I r h
  obtain ⟨a, dx, fs, rfl, ha, q⟩ := h
  cases r with
  | cons r0 r1 =>
  cases r1
  cases r0
  obtain ⟨mA, J, _⟩ := ins_get I.hok ha
  obtain ⟨od, J, _⟩ := J.look
  have kin := I.kIn
  refine PySem.Calls.call_function_entry PySem.F.kind_repr PySem.F.plain_repr PySem.F.entry_repr (PySem.F.args_repr1 _) ?_
  unfold Builtin.«repr»
  refine wpAny_bind (m := oneArg "repr" _) (wpAny_pure ?_)
  refine wpAny_bind (m := cRoomFor _ _) (wpAny_cRoomFor hr.in1.units0 ?_)
  refine wpAny_bind (m := specialOf _ _) (wpAny_bind (J.type.here ((PySem.W.looks_findIn kin hat).here ?_)))
  show wpAny (model X.prog X.w) X.A.in1 (callSpecialIfBound? (.ref a) "__repr__" [] >>= _) _ _ s
  refine wpAny_bind (PySem.W.ifBound_K kin J hat hfn (wpAny_mono (own_at F (Sub.in1 ⟨hr, rfl⟩) hb hx I (show Vals [V.ref a] [Value.ref a] from .cons rfl .nil) q) (fun z s' e => ?_) fun _ _ z => z))
  obtain ⟨v, H', I', rv, t, rfl, q'⟩ := e
  obtain ⟨tk, rfl⟩ := rv
  refine wpAny_bind (wpAny_isInstance (T := "str") (b := true) (typeIs_str _ _ _) isSubtype_str_str ?_)
  exact wpAny_pure ⟨_, rfl, .str t, H', I', ⟨tk, rfl⟩, q'⟩
end
end RF

namespace RF
open PySem L2 PyProof.Rows EX
open L2H (RoomH PinOk cxH)
section
variable {P : Program} {w : World} {K : PySem.W.Frag} {mg : Str → Option Value} {base : Heap}
abbrev n_law_place : List Str := ["_law_one"]
theorem sc_law_place : FnScope n_law_place ["_law_one"] (defScope (top 28)) := ⟨rfl, rfl, rfl, by decide +kernel, rfl, by decide +kernel, by decide +kernel⟩
theorem ok_lplace {f : Addr} {fd : FuncData} {k : Nat} (F : Fun K "_law_place" "_law_place" (top 28) f fd) : FnS P w K mg base (k + 1) f fd ["_law_one"] (spPlaceE K) := by
  obtain ⟨oc, od, kV, doc, pm, an, cdv, ct, osl, rfl, lk, hcd⟩ := F.ex
  refine fnS lk hcd sc_law_place (fun p vs H Q h => by obtain ⟨rfl, _⟩ := h; rfl) fun A outer s H vs Q p hr h => ?_
  obtain ⟨rfl, C, d, fs, tag, u, EP, T, ht, q⟩ := h
  have hp : p ∈ [p] := List.mem_singleton.mpr rfl
  obtain ⟨fo, hk, h0, h1⟩ := T.fld
  refine ⟨_, (pss_cons (ps_if (pt_cmpR op_eq (pe_xf (p := p) hp (pv 0)) pe_str (nomark _))
      (pss_one (ps_ret (pe_xf (p := p) hp (pv 0))))
      pss_nil)
      (pss_cons (ps_if (pt_cmpR op_eq (pe_xf (p := p) hp (pv 0)) pe_str (nomark _))
      (pss_one (ps_ret (pe_xf (p := p) hp (pv 0))))
      pss_nil)
      (pss_one (ps_ret (pe_ifExp (pt_cmpR op_eq (pe_xf (p := p) hp (pv 0)) pe_str (nomark _)) (pe_xf (p := p) hp (pv 0)) (pe_xf (p := p) hp (pv 0))))))), ?_⟩
  refine ⟨_, rfl, rfl, C, d, fs, _, EP, T.noT, T.tag_, rfl, _, rfl, ?_⟩
  rcases ht with rfl | rfl
  · obtain ⟨e1, e2⟩ := h1 _ (kd_digits hk)
    exact iteP (by decide) ⟨_, rfl, rfl, C, d, fs, _, EP, e2, e1, q⟩
  · obtain ⟨e1, e2⟩ := h1 _ (kd_saying hk)
    exact iteN (by decide) ⟨_, rfl, rfl, C, d, fs, _, EP, T.noT, T.tag_, rfl, _, rfl, iteP (by decide) ⟨_, rfl, rfl, C, d, fs, _, EP, e2, e1, q⟩⟩
abbrev n_law_field : List Str := ["_law_one", "_law_bare"]
theorem sc_law_field : FnScope n_law_field ["_law_one"] (defScope (top 27)) := ⟨rfl, rfl, rfl, by decide +kernel, rfl, by decide +kernel, by decide +kernel⟩
theorem ok_lfield {f g : Addr} {fd gd : FuncData} {k : Nat} (F : Fun K "_law_field" "_law_field" (top 27) f fd) (G : FnS P w K mg base k g gd ["_law_one"] (spPlaceE K)) (mG : mg "_law_place" = some (.ref g)) (kG : PySem.W.keepIn K (.ref g) = true) (bG : Binds K gd ["_law_one"] []) :
    FnS P w K mg base (k + 1) f fd ["_law_one"] (spErr K) := by
  obtain ⟨oc, od, kV, doc, pm, an, cdv, ct, osl, rfl, lk, hcd⟩ := F.ex
  refine fnS lk hcd sc_law_field (fun p vs H Q h => by obtain ⟨rfl, _⟩ := h; rfl) fun A outer s H vs Q p hr h => ?_
  obtain ⟨rfl, C, d, fs, tag, u, EP, T, q⟩ := h
  have nd := sc_law_field.nd
  have hp : p ∈ [p] := List.mem_singleton.mpr rfl
  obtain ⟨fo, hk, h0, h1⟩ := T.fld
  refine ⟨_, (pss_cons (ps_if (pt_cmpR op_in_seq (pe_xf (p := p) hp (pv 0)) (pe_tup (pa_cons pe_str (pa_cons pe_str (pa_cons pe_str (pa_cons pe_str pa_nil))))) rfl)
      (pss_one (ps_ret (pe_xf (p := p) hp (pv 0))))
      pss_nil)
      (pss_cons (ps_if (pt_cmpR op_in_seq (pe_xf (p := p) hp (pv 0)) (pe_tup (pa_cons pe_str (pa_cons pe_str pa_nil))) rfl)
      (pss_one (ps_ret (pe_xf (p := p) hp (pv 0))))
      pss_nil)
      (pss_cons (ps_if (pt_cmpR op_in_seq (pe_xf (p := p) hp (pv 0)) (pe_tup (pa_cons pe_str (pa_cons pe_str (pa_cons pe_str (pa_cons pe_str pa_nil))))) rfl)
      (pss_one (ps_ret (pe_callS' (p := p) G hr hp (by rfl) mG kG bG (pa_cons (pv 0) pa_nil))))
      pss_nil)
      (pss_cons (ps_set (i := 1) nd rfl (Or.inl rfl) (pe_tup (pa_cons pe_str (pa_cons pe_str (pa_cons pe_str (pa_cons pe_str (pa_cons pe_str (pa_cons pe_str pa_nil))))))))
      (pss_one (ps_ret (pe_ifExp (pt_cmpR op_in_seq (pe_xf (p := p) hp (pv 0)) (pv 1) rfl) pe_non (pe_xf (p := p) hp (pv 0))))))))), ?_⟩
  have go : ∀ (ys : List Str) (t : Addr) (H' : Hp), H' t = some (.tup (ys.map V.str)) → SqT K H' t (ys.map V.str) := fun ys t H' h => SqT.of h
  refine ⟨_, rfl, rfl, C, d, fs, _, EP, T.noT, T.tag_, by show 4 ≤ sizeLine; decide, fun t1 ht1 => ⟨t1, L1.map V.str, rfl, .inr (go L1 t1 _ upd_same), rfl, flat_strs L1, _, rfl, ?_⟩⟩
  have s1 : Same H (upd H t1 (.tup (L1.map V.str))) := sNew (Same.refl _) ht1
  show (if (if false = true then !inV (.str tag) (L1.map V.str) else inV (.str tag) (L1.map V.str)) = true then _ else _)
  rw [inV_str]
  refine ite2 (fun m1 => ?_) (fun m1 => ?_)
  · obtain ⟨e1, e2⟩ := h1 _ (kd1 hk (of_decide_eq_true m1))
    exact ⟨_, rfl, rfl, C, d, fs, _, EP.same s1, e2, e1, q _ s1⟩
  have m1 : ¬ tag ∈ L1 := fun z => m1 (decide_eq_true z)
  refine ⟨_, rfl, rfl, C, d, fs, _, EP.same s1, T.noT, T.tag_, by show 2 ≤ sizeLine; decide, fun t2 ht2 => ⟨t2, L2'.map V.str, rfl, .inr (go L2' t2 _ upd_same), rfl, flat_strs L2', _, rfl, ?_⟩⟩
  have s2 := sNew (o := .tup (L2'.map V.str)) s1 ht2
  show (if (if false = true then !inV (.str tag) (L2'.map V.str) else inV (.str tag) (L2'.map V.str)) = true then _ else _)
  rw [inV_str]
  refine iteN (nd_of (kd2 hk)) ?_
  refine ⟨_, rfl, rfl, C, d, fs, _, EP.same s2, T.noT, T.tag_, by show 4 ≤ sizeLine; decide, fun t3 ht3 => ⟨t3, L3.map V.str, rfl, .inr (go L3 t3 _ upd_same), rfl, flat_strs L3, _, rfl, ?_⟩⟩
  have s3 := sNew (o := .tup (L3.map V.str)) s2 ht3
  show (if (if false = true then !inV (.str tag) (L3.map V.str) else inV (.str tag) (L3.map V.str)) = true then _ else _)
  rw [inV_str]
  refine ite2 (fun m3 => ?_) (fun m3 => ?_)
  · exact ⟨_, rfl, rfl, C, d, fs, tag, u, EP.same s3, T.same s3, kd3 hk (of_decide_eq_true m3), q _ s3⟩
  have m3 : ¬ tag ∈ L3 := fun z => m3 (decide_eq_true z)
  refine ⟨by show 6 ≤ sizeLine; decide, fun t4 ht4 => ?_⟩
  have s4 : Same H (upd _ t4 (.tup (L4.map V.str))) := sNew s3 ht4
  refine ⟨_, rfl, rfl, C, d, fs, _, EP.same s4, T.noT, T.tag_, _, rfl, t4, L4.map V.str, rfl, .inr (go L4 t4 _ upd_same), rfl, flat_strs L4, _, rfl, ?_⟩
  show (if (if false = true then !inV (.str tag) (L4.map V.str) else inV (.str tag) (L4.map V.str)) = true then _ else _)
  rw [inV_str]
  refine ite2 (fun m4 => ?_) (fun m4 => ?_)
  · have := h0 (kd4 hk (of_decide_eq_true m4))
    subst this
    exact q _ s4
  · obtain ⟨e1, e2⟩ := h1 _ (kd5 hk m1 m3 fun z => m4 (decide_eq_true z))
    exact ⟨_, rfl, rfl, C, d, fs, _, EP.same s4, e2, e1, q _ s4⟩
/-- what _law_why makes of what it calls: an error's tag and field, or nothing -/
def TWhy (K : PySem.W.Frag) (c1 c2 c3 : Addr) : (XK → Hp → VK → Prop) → Hp → VK → Prop := fun tl H Q =>
  tl (fun cls d H' => ∃ C dd fs tag u, cls = .ref C ∧ d = some dd ∧ PySem.W.exmAny K (.ref C) [.ref c1, .ref c2, .ref c3] = some true ∧ ECls K C ∧ Tells K H' C dd fs tag u ∧ ∀ H2 t, Same H' H2 → H2 t = none → Q (.ref t) (upd H2 t (.tup [.str tag, u])))
    H (fun _ H' => ([V.str "", .non]).length ≤ sizeLine ∧ ∀ t, H' t = none → Q (.ref t) (upd H' t (.tup [.str "", .non])))
abbrev n_law_why : List Str := ["_law_ask", "e"]
theorem sc_law_why : FnScope n_law_why ["_law_ask"] (defScope (top 29)) := ⟨rfl, rfl, rfl, by decide +kernel, rfl, by decide +kernel, by decide +kernel⟩
/-- a wish that knows the number of slots -/
theorem takes_len {X : Cx} {W : WX} (tk : Takes X W) : Takes X (fun cls d σ H => σ.length = X.N.length → W cls d σ H) := fun u s' ⟨a, B, sI, pins, σ, H, cls, d, e, I, nb, up, sky, na, os, ag, z⟩ => tk u s' ⟨a, B, sI, pins, σ, H, cls, d, e, I, nb, up, sky, na, os, ag, z I.len⟩
theorem why_gives {X : Cx} {k : Nat} {g gf : Addr} {cdg : Value} {fdf : FuncData} {q : Str} {c1 c2 c3 : Addr} (hr : Room (k + 1) X.A) (m1 : X.mg "RootError" = some (.ref c1)) (m2 : X.mg "Missing" = some (.ref c2)) (m3 : X.mg "NothingLeft" = some (.ref c3))
    (G : FnS X.prog X.w X.K X.mg X.base k gf fdf ["_law_one"] (spErr X.K)) (mG : X.mg "_law_field" = some (.ref gf)) (kG : PySem.W.keepIn X.K (.ref gf) = true) (bG : Binds X.K fdf ["_law_one"] []) :
    LamX.GivesTo X n_law_why "_law_why" (defScope (top 29)) g cdg (defBody (top 29)) "_law_ask" q (TWhy X.K c1 c2 c3) := by
  intro f c' s H Q tl act hc h
  have nd := sc_law_why.nd
  have hr2 : L2H.RoomH k (X.A.deeper (envOfC "_law_why" (defScope (top 29)) s.heap.objs.size g cdg)) := L2H.roomH_of (hr.deeper _)
  refine ⟨_, pss_cons (ps_try_tup (X := (cxOf C8.CX0 X.prog X.w X.K X.mg X.base n_law_why "_law_why" (defScope (top 29)) g cdg X.A X.stack s H C8.E0).nox) (c1 := c1) (c2 := c2) (c3 := c3) (i := 1)
      (tb := fun W D σ H => ∃ Ech : XK, (∀ cls d σ' H', Ech cls d H' → σ'.length = 2 → W cls d σ' H') ∧ σ[0]? = some (some (.ref f)) ∧ H c' = some (LamX.CodeO c' q) ∧ tl Ech H (fun _ H' => D.nx σ H'))
      (ts := fun a cls d D σ H => ∃ C dd fs tag u, cls = .ref C ∧ d = some dd ∧ ECls X.K C ∧ Tells X.K H C dd fs tag u ∧ σ[1]? = some (some (.ref a)) ∧ ∀ H2 t, Same H H2 → H2 t = none → D.rt (.ref t) (upd H2 t (.tup [.str tag, u])))
      rfl rfl nd rfl rfl ⟨by rfl, m1, by decide⟩ ⟨by rfl, m2, by decide⟩ ⟨by rfl, m3, by decide⟩ rfl (fun W pn xe tk => ?_) (fun a oe cls d pn hz hf => ?_))
    (pss_one (ps_ret (pe_tup (pa_cons pe_str (pa_cons pe_non pa_nil))))), ?_⟩
  · refine ⟨fun pins s' σ H' D I hh => ?_⟩
    obtain ⟨Ech, hW, h1, h2, h3⟩ := hh
    have hp := act (fun cls d σ H => σ.length = 2 → W cls d σ H) pn xe Ech ?p1 ?p2 (takes_len tk) hW
    have hq := pss_one (ps_expr (pos := ?p3) hp)
    exact hq.run pins s' σ H' D I ⟨h1, h2, h3⟩
  · refine ⟨fun pins s' σ H' D I hh => ?_⟩
    obtain ⟨C, dd, fs, tag, u, rfl, rfl, ec, T, h1, hq⟩ := hh
    have EP : ErrP X.K H' (a, oe) C dd fs := ⟨hz.1, hz.2, hf, ec, T.at_⟩
    have hs := pss_one (X := ((cxOf C8.CX0 X.prog X.w X.K X.mg X.base n_law_why "_law_why" (defScope (top 29)) g cdg X.A X.stack s H C8.E0).nox).suite a ((a, oe) :: pn)) (ps_ret (pos := ?q1) (pe_tup (pos := ?q2) (x1 := 0) (pa_cons (pe_xf (p := (a, oe)) (f := "tag") (pos := ?q3) List.mem_cons_self (pe_var (x := "e") (pos := ?q4) (i := 1) rfl (.inl rfl))) (pa_cons (pe_callS' (x := "_law_field") (q := ?q5) (pos := ?q6) (p := (a, oe)) G ⟨hr2.dp, hr2.un⟩ List.mem_cons_self (by rfl) mG kG bG (pa_cons (pe_var (x := "e") (pos := ?q7) (i := 1) rfl (.inl rfl)) pa_nil)) pa_nil))))
    refine hs.run pins s' σ H' D I ?_
    refine ⟨.ref a, h1, rfl, C, dd, fs, _, EP, T.noT, T.tag_, .ref a, h1, rfl, C, dd, fs, tag, u, EP, T, fun H2 sm => ⟨by show 2 ≤ sizeLine; decide, fun t ht => hq H2 t sm ht⟩⟩
  · refine ⟨_, fun cls d σ' H' hE hlen => ?_, rfl, hc, h⟩
    obtain ⟨C, dd, fs, tag, u, rfl, rfl, ex, ec, T, hq⟩ := hE
    exact ⟨ex, fun a na => ⟨C, dd, fs, tag, u, rfl, rfl, ec, T, List.getElem?_set_self (by omega), hq⟩⟩
end
end RF

namespace RF
open PySem L2 PyProof.Rows EX
def spParts (C : Addr) : Sp := fun vs H Q _ => ∃ (p : Addr) (d i j k : Int), vs = [.ref p] ∧ SV H C p d i j k ∧ ∀ t, H t = some (.tup [.int (pI i j k), .int (pJ i j k), .int (pK i j k)]) → Q (.ref t) H
def spSRoot (C : Addr) : Sp := fun vs H Q _ => ∃ (p : Addr) (d i j k : Int), vs = [.ref p] ∧ SV H C p d i j k ∧ Q (.int d) H
abbrev TD (i j k : Int) : PyData := .tuple [.int (pI i j k), .int (pJ i j k), .int (pK i j k)]
theorem dt3 {K : PySem.W.Frag} {H : Hp} {q : Addr} {i j k : Int} (h : H q = some (.tup [.int i, .int j, .int k])) : Dp K H (.ref q) (.tuple [.int i, .int j, .int k]) := .tup (SqT.of h) (.cons (.int _) (.cons (.int _) (.cons (.int _) .nil)))
/-- == of a surd and of a surd or a tuple -/
def spEqG (K : PySem.W.Frag) (C : Addr) : Sp := fun vs H Q _ => ∃ (p : Addr) (y : V) (d i j k : Int), vs = [.ref p, y] ∧ SV H C p d i j k ∧
  ((∃ (q : Addr) (d2 i2 j2 k2 : Int), y = .ref q ∧ SV H C q d2 i2 j2 k2 ∧ Q (.bl (decide (d = d2) && PyData.eqv (TD i j k) (TD i2 j2 k2))) H) ∨ ∃ ds, Rp K H y (.tup ds) ∧ Q (.bl false) H)
def spSInitX (K : PySem.W.Frag) (C CR CN : Addr) : Sp := fun vs H _ E => ∃ (p dx : Addr) (v : V) (dv : D) (i j k : Int), vs = [.ref p, v, .int i, .int j, .int k] ∧ H p = some (.ins C dx []) ∧ Rp K H v dv ∧
  ((rootD dv = false ∧ Rsd CR "InvalidRoot" "given" v H E) ∨ (rootD dv = true ∧ k = 0 ∧ Rsd CN "InvalidNumber" "given" (.int 0) H E))
def spOfX (K : PySem.W.Frag) (CR CP : Addr) : Sp := fun vs H _ E => ∃ (v u : V) (dv du : D), vs = [v, u] ∧ Rp K H v dv ∧ Rp K H u du ∧
  ((rootD dv = false ∧ Rsd CR "InvalidRoot" "given" v H E) ∨ (rootD dv = true ∧ slopeD du = false ∧ Rsd CP "InvalidSlope" "given" u H E))
theorem sg_zero {d i j : Int} (hd : Root d) : sg d i j = 0 ↔ i = 0 ∧ j = 0 := by
  by_cases hi : 0 ≤ i
  · by_cases hj : 0 ≤ j
    · rw [sg_pp hd hi hj]; split <;> omega
    · by_cases h0 : 0 < i
      · rw [sg_pn hd h0 (by omega)]; split <;> omega
      · rw [sg_nn hd (by omega) (by omega) (by omega)]; omega
  · by_cases hj : 0 < j
    · rw [sg_np hd (by omega) hj]; split <;> omega
    · rw [sg_nn hd (by omega) (by omega) (by omega)]; omega
section
variable {P : Program} {w : World} {K : PySem.W.Frag} {mg : Str → Option Value} {base : Heap}
theorem sc_Parts : FnScope ["self"] ["self"] (defScope (sS 3)) := ⟨rfl, rfl, rfl, by decide +kernel, rfl, by decide +kernel, by decide +kernel⟩
theorem ok_Parts {f C : Addr} {fd : FuncData} {k : Nat} (F : Fun K "parts" "Surd.parts" (sS 3) f fd) (T : TxS K mg C) : FnOk P w K mg base CX0 (k + 1) f fd ["self"] (spParts C) := by
  refine F.ok sc_Parts (fun vs H Q E h => ?_) (fun cdv A outer s H vs Q E hr h => ?_)
  · obtain ⟨p, d, i, j, k, rfl, _⟩ := h
    rfl
  · obtain ⟨p, d, i, j, k, rfl, ⟨k0, dx, t, hp, ht⟩, q⟩ := h
    exact ⟨_, (pss_one (ps_ret (pe_fld (pv 0) rfl))), _, rfl, p, C, dx, _, _, rfl, hp, T.cl, T.nP, sfl_parts _ _, q t ht⟩
theorem sc_SRoot : FnScope ["self"] ["self"] (defScope (sS 2)) := ⟨rfl, rfl, rfl, by decide +kernel, rfl, by decide +kernel, by decide +kernel⟩
theorem ok_SRoot {f C : Addr} {fd : FuncData} {k : Nat} (F : Fun K "root" "Surd.root" (sS 2) f fd) (T : TxS K mg C) : FnOk P w K mg base CX0 (k + 1) f fd ["self"] (spSRoot C) := by
  refine F.ok sc_SRoot (fun vs H Q E h => ?_) (fun cdv A outer s H vs Q E hr h => ?_)
  · obtain ⟨p, d, i, j, k, rfl, _⟩ := h
    rfl
  · obtain ⟨p, d, i, j, k, rfl, ⟨k0, dx, t, hp, ht⟩, q⟩ := h
    exact ⟨_, (pss_one (ps_ret (pe_fld (pv 0) rfl))), _, rfl, p, C, dx, _, _, rfl, hp, T.cl, T.nR, sfl_root _ _, q⟩
theorem ok_SBool {f C fg : Addr} {fd fdg : FuncData} {k : Nat} (F : Fun K "__bool__" "Surd.__bool__" (sS 13) f fd) (T : TxS K mg C) (mB : mg "bool" = none)
    (GG : FnOk P w K mg base CX0 k fg fdg ["self"] (spSign C)) (mG : Meth K C "sign" fg) (bG : Binds K fdg ["self"] []) : FnOk P w K mg base CX0 (k + 1) f fd ["self"] (spBoolS C) := by
  refine F.ok sc_SBool (fun vs H Q E h => ?_) (fun cdv A outer s H vs Q E hr h => ?_)
  · obtain ⟨p, d, i, j, k, rfl, _⟩ := h
    rfl
  · obtain ⟨p, d, i, j, k, rfl, S1, kp, hd, bi, bj, q⟩ := h
    obtain ⟨k0, dx, t, hp, ht⟩ := id S1
    refine ⟨_, (pss_one (ps_ret (pe_callTy call_bool1 (by rfl) mB (by decide +kernel) (pa_cons (pe_cmpR op_ne (pe_meth0 (pv 0) T.cl mG GG hr bG .nil pass0) pe_int (nomark _)) pa_nil)))), ?_⟩
    refine ⟨_, rfl, p, dx, _, rfl, hp, sfl_no _ _ (by decide +kernel) (by decide +kernel), p, d, i, j, k, rfl, S1, kp, hd, bi, bj, rfl, .inr ⟨_, rfl, ?_⟩⟩
    have e : (!decide (V.int (sg d i j) = V.int 0)) = !decide (sg d i j = 0) := by rw [dec_int]; simp [BEq.beq]
    rw [e]
    exact q
theorem ok_SEqG {f C : Addr} {fd : FuncData} {k : Nat} (F : Fun K "__eq__" "Surd.__eq__" (sS 12) f fd) (T : TxS K mg C) (J : IsS K mg C) (kt : PySem.W.kitOne K (.type "tuple") (.ref C) = some false) : FnOk P w K mg base CX0 (k + 1) f fd ["self", "other"] (spEqG K C) := by
  refine F.ok sc_SEq (fun vs H Q E h => ?_) (fun cdv A outer s H vs Q E hr h => ?_)
  · obtain ⟨p, q, d, i, j, k, rfl, _⟩ := h
    rfl
  · obtain ⟨p, y, d, i, j, k, rfl, ⟨k0, dx, t, hp, ht⟩, h⟩ := h
    refine ⟨_, (pss_one (ps_ret (pe_and (pe_callB call_isi (by rfl) J.mi (by decide +kernel) (pa_cons (pv 1) (pa_cons (pe_glob (v := .ref C) (by rfl) T.mg rfl) pa_nil))) (pe_and (pe_cmpR op_eq (pe_fld (pv 0) rfl) (pe_fld (pv 1) rfl) (nomark _)) (pe_one (pe_cmpR (op_eqD hr.units) (pe_fld (pv 0) rfl) (pe_fld (pv 1) rfl) (nomark _))))))), ?_⟩
    rcases h with ⟨q, d2, i2, j2, k2, rfl, ⟨k20, dx2, t2, hp2, ht2⟩, kk⟩ | ⟨ds, hy, kk⟩
    · refine ⟨_, rfl, _, _, _, _, _, rfl, .own C, tyS J T.cl hp2, kitSelf, _, rfl, iteP rfl ?_⟩
      refine ⟨_, rfl, p, C, dx, _, _, rfl, hp, T.cl, T.nR, sfl_root _ _, _, rfl, q, C, dx2, _, _, rfl, hp2, T.cl, T.nR, sfl_root _ _, rfl, _, rfl, ?_⟩
      have e : decide (V.int d = V.int d2) = decide (d = d2) := by rw [dec_int]; simp [BEq.beq]
      rw [e]
      refine ite2 (fun h => ?_) (fun h => ?_)
      · rw [h, Bool.true_and] at kk
        exact ⟨_, rfl, p, C, dx, _, _, rfl, hp, T.cl, T.nP, sfl_parts _ _, _, rfl, q, C, dx2, _, _, rfl, hp2, T.cl, T.nP, sfl_parts _ _, TD i j k, TD i2 j2 k2, dt3 ht, dt3 ht2, rfl, rfl, kk⟩
      · rw [Bool.eq_false_iff.mpr h, Bool.false_and] at kk
        exact kk
    · refine ⟨_, rfl, _, _, _, _, _, rfl, .own C, tyX _ hy, kt, _, rfl, iteF kk⟩
theorem ok_SInitX {f C CR CN : Addr} {fd : FuncData} {k : Nat} {dvs : List V} {kws : List (Str × V)} (F : FunD K "__init__" "Surd.__init__" (defArgs (sS 0)) (defBody (sS 0)) (defScope (sS 0)) dvs kws f fd) (OR : OwnE P w K mg "InvalidRoot" "given" CR) (ON : OwnE P w K mg "InvalidNumber" "given" CN)
    (D1 : Df P w K mg base k "is_root" ["value"] (spIsRoot K)) : FnOk P w K mg base (L2.CX P w) (k + 1) f fd ["self", "root", "i", "j", "k"] (spSInitX K C CR CN) := by
  refine F.ok sc_SInit (fun vs H Q E h => ?_) (fun A cdv outer s H vs Q E hr h => ?_)
  · obtain ⟨p, dx, v, dv, i, j, k, rfl, _⟩ := h
    rfl
  · obtain ⟨p, dx, v, dv, i, j, k, rfl, hp, hv, h⟩ := h
    obtain ⟨fR, oR, iR⟩ := OR.ex
    obtain ⟨fN, oN, iN⟩ := ON.ex
    refine ⟨_, (pss_cons (ps_if (pt_not (pt_val (pe_callD D1 hr (Nat.le_refl _) (pa_cons (pv 1) pa_nil))))
      (pss_one (ps_raise rfl (takes_of rfl rfl rfl rfl) (pmk1 oR iR hr (pa_cons (pv 1) pa_nil))))
      pss_nil)
      (pss_cons (ps_if (pt_cmpR op_eq (pv 4) pe_int (nomark _))
      (pss_one (ps_raise rfl (takes_of rfl rfl rfl rfl) (pmk1 oN iN hr (pa_cons (pv 4) pa_nil))))
      pss_nil)
      pss_never)), ?_⟩
    refine ⟨_, rfl, v, dv, rfl, hv, _, rfl, ?_⟩
    rcases h with ⟨hb, q⟩ | ⟨hb, rfl, q⟩
    · rw [hb]
      exact iteT ⟨_, rfl, _, rfl, fun d hd => q d H (fun _ _ z => z) hd⟩
    · rw [hb]
      exact iteF ⟨_, rfl, rfl, _, rfl, iteP (decide_eq_true rfl) ⟨_, rfl, _, rfl, fun d hd => q d H (fun _ _ z => z) hd⟩⟩
theorem ok_OfX {f CR CP : Addr} {fd : FuncData} {k : Nat} (F : Fun K "of_slope" "Surd.of_slope" (sS 1) f fd) (OR : OwnE P w K mg "InvalidRoot" "given" CR) (OP : OwnE P w K mg "InvalidSlope" "given" CP)
    (D1 : Df P w K mg base k "is_root" ["value"] (spIsRoot K)) (D2 : Df P w K mg base k "is_slope" ["value"] (spIsSlope K)) : FnOk P w K mg base (L2.CX P w) (k + 1) f fd ["root", "slope"] (spOfX K CR CP) := by
  refine F.okX sc_OfS (fun vs H Q E h => ?_) (fun cdv A outer s H vs Q E hr h => ?_)
  · obtain ⟨v, u, dv, du, rfl, _⟩ := h
    rfl
  · obtain ⟨v, u, dv, du, rfl, hv, hu, h⟩ := h
    obtain ⟨fR, oR, iR⟩ := OR.ex
    obtain ⟨fP, oP, iP⟩ := OP.ex
    refine ⟨_, (pss_cons (ps_if (pt_not (pt_val (pe_callD D1 hr (Nat.le_refl _) (pa_cons (pv 0) pa_nil))))
      (pss_one (ps_raise rfl (takes_of rfl rfl rfl rfl) (pmk1 oR iR hr (pa_cons (pv 0) pa_nil))))
      pss_nil)
      (pss_cons (ps_if (pt_not (pt_val (pe_callD D2 hr (Nat.le_refl _) (pa_cons (pv 1) pa_nil))))
      (pss_one (ps_raise rfl (takes_of rfl rfl rfl rfl) (pmk1 oP iP hr (pa_cons (pv 1) pa_nil))))
      pss_nil)
      pss_never)), ?_⟩
    refine ⟨_, rfl, v, dv, rfl, hv, _, rfl, ?_⟩
    rcases h with ⟨hb, q⟩ | ⟨hb, hs, q⟩
    · rw [hb]
      exact iteT ⟨_, rfl, _, rfl, fun d hd => q d H (fun _ _ z => z) hd⟩
    · rw [hb]
      refine iteF ⟨_, rfl, u, du, rfl, hu, _, rfl, ?_⟩
      rw [hs]
      exact iteT ⟨_, rfl, _, rfl, fun d hd => q d H (fun _ _ z => z) hd⟩
end
/-! ### x == t of an own instance and a tuple -/
section
variable {X : Cx} {CX : CXT} {n : Nat} {C f : Addr} {fd : FuncData} {ps : List Str} {sp : Sp} {E : XK}
def rOwnT (K : PySem.W.Frag) (C : Addr) (sp : Sp) (E : XK) : R2 := fun x y H Q => ∃ a b dx fs xs, x = .ref a ∧ y = .ref b ∧ H a = some (.ins C dx fs) ∧ SqT K H b xs ∧ sp [.ref a, .ref b] H (fun v H' => ∃ r : Bool, v = .bl r ∧ Q (.bl r) H') E
theorem op_eqOwnT (F : FnOk X.prog X.w X.K X.mg X.base CX n f fd ps sp) (hr : Room n X.A) (O : OwnEq X.K C f) (hn : PySem.W.notFirst X.K C (.type "tuple") = true) (hb : Binds X.K fd ps []) (hx : Passes CX X E) : OpR X (compareOp .Eq) (rOwnT X.K C sp E) := by
  intro pins s σ H x y v u Q I rx ry h
  obtain ⟨a, b, dx, fs, xs, rfl, rfl, ha, hb', q⟩ := h
  cases rx; cases ry
  obtain ⟨mA, J, _⟩ := ins_get I.hok ha
  obtain ⟨od, J, _⟩ := J.look
  obtain ⟨its, r1, ⟨o, eo, hc, _⟩, _⟩ := I.tuple hb'
  obtain ⟨m, hF⟩ := I.fr
  show wpAny (model X.prog X.w) X.A (richCompare .Eq (.ref a) (.ref b)) _ _ s
  refine PySem.W.cmp_K (op := .Eq) (tb := .type "tuple") hr.units0 hF I.ok.mod.kin J (hc ▸ (PySem.W.Looks.ld eo).andThen .now) hn O.at_ O.fn (wpAny_mono (own_at F ⟨hr, rfl⟩ hb hx I (show Vals [V.ref a, V.ref b] [Value.ref a, Value.ref b] from .cons rfl (.cons rfl .nil)) q) (fun z s' e => ?_) fun _ _ z => z)
  obtain ⟨v, H', I', rv, r, rfl, q'⟩ := e
  cases rv
  exact ⟨.bl r, H', I', rfl, q'⟩
end
end RF

namespace RF
open PySem L2 PyProof.Rows EX
theorem hid0 {H : Hp} : Q.hid [] H = H := by
  funext a
  exact Q.hid_ne (by simp)
theorem q_slope {K : PySem.W.Frag} {mg : Str → Option Value} {H : Hp} {R : VK} {E : XK} {t : Addr} {i j m : Int} (h : SqT K H t [.int i, .int j, .int m]) (hi : Q.Fig 60 i) (hj : Q.Fig 60 j) (hm : Q.Fig 60 m) (q : ∀ H', Same H H' → R (.str (Q.stS i j m)) H') : Q.spD K mg false Q.fSlope [.ref t] H R E := by
  refine ⟨⟨K, mg, t, t⟩, [], [.tup [.int i, .int j, .int m]], fun s => s = .fz (.str (Q.stS i j m)), fun _ => False, rfl, rfl, (fun a h => by cases h), (fun z => by cases z), ⟨.ref t, [], rfl, ⟨t, _, rfl, ?_, ?_, .int i, _, rfl, rfl, .int j, _, rfl, rfl, .int m, _, rfl, rfl, rfl⟩, rfl⟩, ⟨i, j, m, rfl, hi, hj, hm, rfl⟩, fun s v H' c r e => ?_, fun _ _ _ _ _ _ z => z.elim⟩
  · rw [hid0]; exact h
  · show 3 ≤ 1000000; decide
  · subst e
    obtain rfl : v = .str (Q.stS i j m) := r
    exact q H' c.pure
theorem q_lst {K : PySem.W.Frag} {mg : Str → Option Value} {H : Hp} {R : VK} {E : XK} {i j m : Int} (hi : Q.Fig 60 i) (hj : Q.Fig 60 j) (hm : Q.Fig 60 m) (q : ∀ H', Same H H' → R (.str (Q.stS i j m)) H') : Q.spD K mg false Q.fLst [.int i, .int j, .int m] H R E := by
  refine ⟨⟨K, mg, 0, 0⟩, [], [.int i, .int j, .int m], fun s => s = .fz (.str (Q.stS i j m)), fun _ => False, rfl, rfl, (fun a h => by cases h), (fun z => by cases z), ⟨.int i, _, rfl, rfl, .int j, _, rfl, rfl, .int m, _, rfl, rfl, rfl⟩, ⟨i, j, m, rfl, hi, hj, hm, rfl⟩, fun s v H' c r e => ?_, fun _ _ _ _ _ _ z => z.elim⟩
  subst e
  obtain rfl : v = .str (Q.stS i j m) := r
  exact q H' c.pure
def spText (C : Addr) : Sp := fun vs H R _ => ∃ (p : Addr) (d i j k : Int), vs = [.ref p] ∧ SV H C p d i j k ∧ Q.Fig 60 (pI i j k) ∧ Q.Fig 60 (pJ i j k) ∧ Q.Fig 60 (pK i j k) ∧ ∀ H', Same H H' → R (.str (Q.stS (pI i j k) (pJ i j k) (pK i j k))) H'
def rpS (x : Str) (d : Int) : Str := Str.ofString "Surd(" ++ x ++ Str.ofString ", root " ++ Str.ofString (toString d) ++ Str.ofString ")"
def spReprS (C : Addr) : Sp := fun vs H R _ => ∃ (p : Addr) (d i j k : Int), vs = [.ref p] ∧ SV H C p d i j k ∧ Root d ∧ Q.Fig 60 (pI i j k) ∧ Q.Fig 60 (pJ i j k) ∧ Q.Fig 60 (pK i j k) ∧ ∀ H', Same H H' → R (.str (rpS (Q.stS (pI i j k) (pJ i j k) (pK i j k)) d)) H'
def spDiv : Sp := fun vs H R _ => ∃ a b : Int, vs = [.int a, .int b] ∧ R (.int ((Nat.gcd a.natAbs b.natAbs : Nat) : Int)) H
section
variable {P : Program} {w : World} {K : PySem.W.Frag} {mg : Str → Option Value} {base : Heap}
theorem sc_Text : FnScope ["self"] ["self"] (defScope (sS 7)) := ⟨rfl, rfl, rfl, by decide +kernel, rfl, by decide +kernel, by decide +kernel⟩
theorem ok_Text {f C : Addr} {fd : FuncData} {k : Nat} (F : Fun K "text" "Surd.text" (sS 7) f fd) (T : TxS K mg C) (D : Df P w K mg base k "slope_text" ["slope"] (Q.spD K mg false Q.fSlope)) : FnOk P w K mg base CX0 (k + 1) f fd ["self"] (spText C) := by
  refine F.ok sc_Text (fun vs H Q E h => ?_) (fun cdv A outer s H vs Q E hr h => ?_)
  · obtain ⟨p, d, i, j, k, rfl, _⟩ := h
    rfl
  · obtain ⟨p, d, i, j, k, rfl, ⟨k0, dx, t, hp, ht⟩, hi, hj, hk, q⟩ := h
    exact ⟨_, (pss_one (ps_ret (pe_callD D hr (Nat.le_refl _) (pa_cons (pe_fld (pv 0) rfl) pa_nil)))), _, rfl, p, C, dx, _, _, rfl, hp, T.cl, T.nP, sfl_parts _ _, q_slope (SqT.of ht) hi hj hk q⟩
theorem sc_ReprS : FnScope ["self"] ["self"] (defScope (sS 14)) := ⟨rfl, rfl, rfl, by decide +kernel, rfl, by decide +kernel, by decide +kernel⟩
theorem ok_ReprS {f C : Addr} {fd : FuncData} {k : Nat} (F : Fun K "__repr__" "Surd.__repr__" (sS 14) f fd) (T : TxS K mg C) (M : Mt P w K mg base C k "text" ["self"] (spText C)) : FnOk P w K mg base CX0 (k + 1) f fd ["self"] (spReprS C) := by
  refine F.ok sc_ReprS (fun vs H Q E h => ?_) (fun cdv A outer s H vs R E hr h => ?_)
  · obtain ⟨p, d, i, j, k, rfl, _⟩ := h
    rfl
  · obtain ⟨p, d, i, j, k, rfl, S1, hd, hi, hj, hk, q⟩ := h
    refine ⟨_, (pss_one (ps_ret (pe_joined (.cons pe_str (.cons (pe_fmt (pe_mt0 (pv 0) T.cl M hr (Nat.le_refl _))) (.cons pe_str (.cons (pe_fmt (pe_fld (pv 0) rfl)) (.cons pe_str .nil)))))))), ?_⟩
    obtain ⟨dx, fs, h1, h2⟩ := S1.ins
    have l1 := Q.stS_len (by decide) hi hj hk
    have a1 : (Str.ofString "Surd(").length = 5 := by decide +kernel
    have a2 : (Str.ofString ", root ").length = 7 := by decide +kernel
    have a3 : (Str.ofString ")").length = 1 := by decide +kernel
    have a4 : (Str.ofString (toString d)).length ≤ 2 := by rcases hd with rfl | rfl | rfl | rfl | rfl <;> decide +kernel
    have a5 : d.natAbs.log2 < 1920 := by rcases hd with rfl | rfl | rfl | rfl | rfl <;> decide +kernel
    refine ⟨_, rfl, by decide +kernel, _, rfl, p, dx, fs, rfl, h1, h2 _ (by decide) (by decide), p, d, i, j, k, rfl, S1, hi, hj, hk, fun H' sm => .inl ⟨_, rfl, Q.line_of (by omega), _, rfl, Q.line_of ?_, ?_⟩⟩
    · rw [e_app, len_app]; omega
    obtain ⟨k0, dx2, t, hp, ht⟩ := S1.same sm
    refine ⟨_, rfl, Q.line_of ?_, _, rfl, p, C, dx2, _, _, rfl, hp, T.cl, T.nR, sfl_root _ _, .inr ⟨_, rfl, a5, _, rfl, Q.line_of ?_, _, rfl, Q.line_of ?_, ?_⟩⟩
    · rw [e_app, len_app, len_app]; omega
    · rw [e_app, len_app, len_app, len_app]; omega
    · rw [e_app, len_app, len_app, len_app, len_app]; omega
    · rw [e_app]
      exact q H' sm
abbrev s_div : Stmt := top 32
abbrev n_div : List Str := ["_law_one", "_law_other"]
theorem sc_div : FnScope n_div ["_law_one", "_law_other"] (defScope s_div) := ⟨rfl, rfl, rfl, by decide +kernel, rfl, by decide +kernel, by decide +kernel⟩
theorem ok_div {f : Addr} {fd : FuncData} {k : Nat} (F : Fun K "_law_divisor" "_law_divisor" s_div f fd) (mA : mg "abs" = none) (mI : mg "int" = none) : FnOk P w K mg base CX0 (k + 1) f fd ["_law_one", "_law_other"] spDiv := by
  refine F.ok sc_div (fun vs H Q E h => ?_) (fun cdv A outer s H vs R E hr h => ?_)
  · obtain ⟨a, b, rfl, _⟩ := h
    rfl
  · obtain ⟨a, b, rfl, q⟩ := h
    have nd := sc_div.nd
    refine ⟨_, (pss_cons (ps_par (i := 0) (j := 1) rfl nd rfl rfl (by decide) rfl rfl (pa_cons (pe_callB call_abs (by rfl) mA (by decide +kernel) (pa_cons (pv 0) pa_nil)) (pa_cons (pe_callB call_abs (by rfl) mA (by decide +kernel) (pa_cons (pv 1) pa_nil)) pa_nil)) (by kernel_rfl))
      (pss_cons (ps_while PassesOwn.never (pt_cmpR op_gt (pv 1) pe_int (nomark _))
      (pss_one (ps_par (i := 0) (j := 1) rfl nd rfl rfl (by decide) rfl rfl (pa_cons (pv 1) (pa_cons (pe_op op_mod (pe_callTy call_int1 (by rfl) mI (by decide +kernel) (pa_cons (pv 0) pa_nil)) (pv 1)) pa_nil)) (by kernel_rfl))))
      (pss_one (ps_ret (pv 0))))), ?_⟩
    have ab : ∀ x : Int, (if x < 0 then -x else x) = ((x.natAbs : Nat) : Int) := fun x => by split <;> omega
    refine ⟨_, rfl, _, rfl, _, rfl, _, rfl, _, _, rfl, ?_⟩
    rw [ab a, ab b]
    refine while_by (fun σ H' => ∃ x y : Nat, σ = [some (.int (x : Int)), some (.int (y : Int))] ∧ Nat.gcd x y = Nat.gcd a.natAbs b.natAbs ∧ H' = H)
      (fun σ _ => match σ with | [_, some (.int y)] => y.toNat | _ => 0) ⟨_, _, rfl, rfl, rfl⟩ ?_ ?_
    · rintro σ H1 ⟨x, y, rfl, hg, rfl⟩
      refine ⟨_, rfl, _, _, rfl, rfl, _, rfl, ite2 (fun h => ?_) (fun h => ?_)⟩
      · have hy : 0 < y := by have : (y : Int) > 0 := of_decide_eq_true h; omega
        refine ⟨_, rfl, _, rfl, .inl ⟨_, rfl, _, rfl, _, _, rfl, rfl, (by omega), _, _, rfl, ?_⟩⟩
        refine ⟨⟨y, x % y, ?_, ?_, rfl⟩, ?_⟩
        · show [some (V.int (y : Int)), some (V.int ((x : Int) % (y : Int)))] = _
          rw [← Int.natCast_emod]
        · rw [← hg, Nat.gcd_comm x y, Nat.gcd_rec y x, Nat.gcd_comm]
        · show ((x : Int) % (y : Int)).toNat < ((y : Nat) : Int).toNat
          have : (x : Int) % (y : Int) < (y : Int) := Int.emod_lt_of_pos _ (by omega)
          have := Int.emod_nonneg (x : Int) (show (y : Int) ≠ 0 by omega)
          omega
      · have hy : y = 0 := by
          have : ¬ (y : Int) > 0 := fun z => h (decide_eq_true z)
          omega
        subst hy
        rw [Nat.gcd_zero_right] at hg
        refine ⟨_, rfl, ?_⟩
        rw [← hg] at q
        exact q
    · rintro σ H1 R1 R2 hh ⟨x, e, y, z, h1, h2, k, h3, h4⟩
      exact ⟨x, e, y, z, h1, h2, k, h3, hh _ _ h4⟩
end
end RF

namespace RF
open PySem L2
section
variable {P : Program} {w : World} {K : PySem.W.Frag} {mg : Str → Option Value} {base : Heap}
abbrev s_law_of : Stmt := top 25
abbrev n_law_of : List Str := ["_law_bag_here", "_law_some"]
theorem sc_law_of : FnScope n_law_of ["_law_bag_here", "_law_some"] (defScope s_law_of) := ⟨rfl, rfl, rfl, by decide +kernel, rfl, by decide +kernel, by decide +kernel⟩
theorem ok_of {f : Addr} {fd : FuncData} {k : Nat} (F : Fun K "_law_of" "_law_of" s_law_of f fd) (T : TB mg) (D1 : Df P w K mg base k "_law_pull" ["_law_bag_here", "_law_sides"] spPull) : FnOk P w K mg base CX0 (k + 1) f fd ["_law_bag_here", "_law_some"] (spOf K) := by
  refine F.ok sc_law_of (fun vs H Q E h => ?_) (fun cdv A outer s H vs Q E hr h => ?_)
  · obtain ⟨b, a, xs, rfl, _⟩ := h
    rfl
  · obtain ⟨b, a, xs, rfl, B, hS, nab, h0, h1, k⟩ := h
    refine ⟨_, (pss_one (ps_ret (pe_ix ix_list (pv 1) (pe_callD D1 hr (Nat.le_refl _) (pa_cons (pv 0) (pa_cons (pe_callB call_len_seq (by rfl) T.len PySem.boot_len (pa_cons (pv 1) pa_nil)) pa_nil))) (fun _ _ => rfl)))), ?_⟩
    refine ⟨_, rfl, _, rfl, _, rfl, a, _, rfl, .inl hS, b, _, rfl, B, by omega, by omega, fun d H' d0 d1 B' kp => ?_⟩
    obtain ⟨j, rfl⟩ : ∃ j : Nat, d = (j : Int) := ⟨d.toNat, by omega⟩
    have hj : j < xs.length := by omega
    exact ⟨a, xs, _, _, rfl, rfl, kp.seq nab hS, atI_nat (List.getElem?_eq_getElem hj), k _ _ (List.getElem_mem hj) B' kp⟩
abbrev s_law_root : Stmt := top 31
abbrev n_law_root : List Str := ["_law_bag_here"]
theorem sc_law_root : FnScope n_law_root ["_law_bag_here"] (defScope s_law_root) := ⟨rfl, rfl, rfl, by decide +kernel, rfl, by decide +kernel, by decide +kernel⟩
theorem ok_root {f : Addr} {fd : FuncData} {k : Nat} (F : Fun K "_law_root" "_law_root" s_law_root f fd) (D1 : Df P w K mg base k "_law_of" ["_law_bag_here", "_law_some"] (spOf K)) : FnOk P w K mg base CX0 (k + 1) f fd ["_law_bag_here"] spRoot := by
  refine F.ok sc_law_root (fun vs H Q E h => ?_) (fun cdv A outer s H vs Q E hr h => ?_)
  · obtain ⟨b, rfl, _⟩ := h
    rfl
  · obtain ⟨b, rfl, B, k⟩ := h
    refine ⟨_, (pss_one (ps_ret (pe_callD D1 hr (Nat.le_refl _) (pa_cons (pv 0) (pa_cons (pe_lst (pa_cons pe_int (pa_cons pe_int (pa_cons pe_int (pa_cons pe_int (pa_cons pe_int pa_nil)))))) pa_nil))))), ?_⟩
    refine ⟨_, rfl, by show 5 ≤ sizeLine; decide, fun p hp => ?_⟩
    obtain ⟨xs, hb⟩ := B.some
    refine ⟨b, p, _, rfl, B.same (sNew (Same.refl _) hp), SqL.of upd_same, (ne_of_none hb hp).symm, by decide, by decide, fun v H' hv B' kp => ?_⟩
    have kp' : Kp b H H' := (Kp.of (sNew (Same.refl _) hp)).trans kp
    rcases List.mem_cons.mp hv with rfl | hv
    · exact k _ _ (by decide) B' kp'
    rcases List.mem_cons.mp hv with rfl | hv
    · exact k _ _ (by decide) B' kp'
    rcases List.mem_cons.mp hv with rfl | hv
    · exact k _ _ (by decide) B' kp'
    rcases List.mem_cons.mp hv with rfl | hv
    · exact k _ _ (by decide) B' kp'
    rcases List.mem_cons.mp hv with rfl | hv
    · exact k _ _ (by decide) B' kp'
    cases hv
abbrev s_law_far : Stmt := top 30
abbrev n_law_far : List Str := ["_law_bag_here", "_law_figures", "_law_many", "_law_found", "_law_k_z"]
theorem sc_law_far : FnScope n_law_far ["_law_bag_here", "_law_figures"] (defScope s_law_far) := ⟨rfl, rfl, rfl, by decide +kernel, rfl, by decide +kernel, by decide +kernel⟩
theorem ok_far {f : Addr} {fd : FuncData} {k : Nat} (F : Fun K "_law_far" "_law_far" s_law_far f fd) (T : mg "range" = none) (D1 : Df P w K mg base k "_law_pull" ["_law_bag_here", "_law_sides"] spPull) : FnOk P w K mg base CX0 (k + 1) f fd ["_law_bag_here", "_law_figures"] spFar := by
  refine F.ok sc_law_far (fun vs H Q E h => ?_) (fun cdv A outer s H vs Q E hr h => ?_)
  · obtain ⟨b, m, rfl, _⟩ := h
    rfl
  · obtain ⟨b, m, rfl, B, m0, m1, k⟩ := h
    have nd := sc_law_far.nd
    refine ⟨_, (pss_cons (ps_set (i := 2) nd rfl (Or.inl rfl) (pe_op op_add pe_int (pe_callD D1 hr (Nat.le_refl _) (pa_cons (pv 0) (pa_cons (pv 1) pa_nil)))))
      (pss_cons (ps_set (i := 3) nd rfl (Or.inl rfl) pe_int)
      (pss_cons (ps_for PassesOwn.never rfl (pi_range1 rfl T (pa_cons (pv 2) pa_nil)) (pg_name (i := 4) nd rfl (Or.inl rfl))
      (pss_one (ps_set (i := 3) nd rfl (Or.inl rfl) (pe_op op_add (pe_op op_mul (pv 3) pe_int) (pe_callD D1 hr (Nat.le_refl _) (pa_cons (pv 0) (pa_cons pe_int pa_nil)))))))
      (pss_one (ps_ret (pv 3)))))), ?_⟩
    refine ⟨_, rfl, _, rfl, b, _, rfl, B, m0, by omega, fun d H1 d0 d1 B1 kp1 => ⟨_, _, rfl, rfl, ?_⟩⟩
    refine ⟨_, rfl, _, rfl, by omega, by omega, for_range (n := (1 + d).toNat) (fun i σ H' => ∃ (n : Int) (v : Option V), σ = [some (.ref b), some (.int m), some (.int (1 + d)), some (.int n), v] ∧ 0 ≤ n ∧ n < 10 ^ i ∧ Bag H' b ∧ Kp b H H')
      ⟨0, none, rfl, by decide, by decide, B1, kp1⟩ ?_ ?_⟩
    · rintro i σ H2 hi ⟨n, v, rfl, n0, n1, B2, kp2⟩
      refine ⟨_, rfl, _, _, rfl, rfl, .inr (by decide), _, rfl, b, _, rfl, B2, by decide, by decide, fun e H3 e0 e1 B3 kp3 => ⟨_, _, rfl, rfl, ?_⟩⟩
      refine ⟨_, _, rfl, by omega, ?_, B3, kp2.trans kp3⟩
      rw [Int.pow_succ]
      omega
    · rintro σ H2 ⟨n, v, rfl, n0, n1, B2, kp2⟩
      refine ⟨_, rfl, k _ _ n0 (Int.lt_of_lt_of_le n1 ?_) B2 kp2⟩
      exact_mod_cast Nat.pow_le_pow_right (by decide : 0 < 10) (by omega : (1 + d).toNat ≤ m.toNat)
end
end RF

namespace RF
open PySem L2
section
variable {P : Program} {w : World} {K : PySem.W.Frag} {mg : Str → Option Value} {base : Heap}
theorem ok_pullC {f : Addr} {fd : FuncData} (F : Fun K "_law_pull" "_law_pull" sPull f fd) (T : TB mg) : FnOk P w K mg base CX0 1 f fd ["_law_bag_here", "_law_sides"] spPullC := by
  refine F.ok scPull (fun vs H Q E h => ?_) (fun cdv A outer s H vs Q E hr h => ?_)
  · obtain ⟨b, c, k, rfl, _⟩ := h
    rfl
  · obtain ⟨b, c, m, rfl, ⟨ns, i, z, r, B⟩, m0, m1, k⟩ := h
    have nd := scPull.nd
    -- the second half, from any bag
    refine ⟨_, C8.pss_cut (ps_if (pw_and (pt_cmpR op_eq (pe_ix ix_list (pv 0) pe_int (fun _ _ => rfl)) pe_int (nomark _)) (pw_and1 (pt_cmpR op_lt (pe_ix ix_list (pv 0) pe_int (fun _ _ => rfl)) (pe_callB call_len_seq (by rfl) T.len PySem.boot_len (pa_cons (pe_ix ix_list (pv 0) pe_int (fun _ _ => rfl)) pa_nil)) (nomark _)))).pt
        (pss_cons (ps_set (i := 2) nd rfl (Or.inl rfl) (pe_ix ix_list (pe_ix ix_list (pv 0) pe_int (fun _ _ => rfl)) (pe_ix ix_list (pv 0) pe_int (fun _ _ => rfl)) (fun _ _ => rfl)))
        (pss_cons (ps_asg (pe_op op_add (pe_ix ix_list (pv 0) pe_int (fun _ _ => rfl)) pe_int) (pg_sub (pv 0) pe_int set_list))
        (pss_one (ps_if (pt_cmpR op_ge (pe_callB call_abs (by rfl) T.abs (by decide +kernel) (pa_cons (pv 2) pa_nil)) (pe_op op_pow pe_int pe_int) (nomark _))
          (pss_one (ps_asg (pe_callB call_abs (by rfl) T.abs (by decide +kernel) (pa_cons (pv 2) pa_nil)) (pg_sub (pv 0) pe_int set_list)))
          (pss_one (ps_asg (pe_op op_mod (pe_callTy call_int1 (by rfl) T.int (by decide +kernel) (pa_cons (pe_op op_add (pe_op op_add (pe_op op_mul (pe_ix ix_list (pv 0) pe_int (fun _ _ => rfl)) pe_int) (pe_op op_mul (pe_op op_mod (pe_callTy call_int1 (by rfl) T.int (by decide +kernel) (pa_cons (pv 2) pa_nil)) pe_int) pe_int)) pe_int) pa_nil)) pe_int) (pg_sub (pv 0) pe_int set_list)))))))
        pss_nil)
      (C8.pss_cut (ps_if (pt_cmpR op_gt (pe_ix ix_list (pv 0) pe_int (fun _ _ => rfl)) pe_int (nomark _))
        (pss_cons (ps_set (i := 3) nd rfl (Or.inl rfl) (pe_op op_mod (pe_callTy call_int1 (by rfl) T.int (by decide +kernel) (pa_cons (pe_ix ix_list (pv 0) pe_int (fun _ _ => rfl)) pa_nil)) (pv 1)))
        (pss_cons (ps_asg (pe_op op_fdiv (pe_ix ix_list (pv 0) pe_int (fun _ _ => rfl)) (pv 1)) (pg_sub (pv 0) pe_int set_list))
        (pss_one (ps_ret (pv 3)))))
        pss_nil)
      (pss_cons (ps_set (i := 4) nd rfl (Or.inl rfl) (pe_op op_mod (pe_callTy call_int1 (by rfl) T.int (by decide +kernel) (pa_cons (pe_op op_mul (pe_ix ix_list (pv 0) pe_int (fun _ _ => rfl)) (pe_ix ix_list (pv 0) pe_int (fun _ _ => rfl))) pa_nil)) pe_int))
      (pss_cons (ps_asg (pe_op op_mod (pe_callTy call_int1 (by rfl) T.int (by decide +kernel) (pa_cons (pe_op op_add (pe_op op_add (pe_op op_mul (pv 4) pe_int) (pe_op op_mul (pe_ix ix_list (pv 0) pe_int (fun _ _ => rfl)) pe_int)) pe_int) pa_nil)) pe_int) (pg_sub (pv 0) pe_int set_list))
      (pss_one (ps_ret (pe_op op_mod (pe_callTy call_int1 (by rfl) T.int (by decide +kernel) (pa_cons (pe_op op_fdiv (pe_ix ix_list (pv 0) pe_int (fun _ _ => rfl)) pe_int) pa_nil)) (pv 1))))))), ?_⟩
    have hc : ∀ {H' : Hp} {i : Nat} {z r : Int}, BagC H' b c ns i z r → H' c = some (.lst (ns.map V.int)) := fun B => B.cs
    -- what follows the first if, from any bag
    refine ⟨fun σ' H' => ∃ v i z r, σ' = [some (.ref b), some (.int m), v, none, none] ∧ BagC H' b c ns i z r ∧ Kp b H H', ?_, ?_⟩
    · refine ⟨_, rfl, b, _, _, _, rfl, rfl, SqL.of B.at_, rfl, rfl, _, rfl, ?_⟩
      refine ite2 (fun ez => ?_) (fun _ => ?_)
      · refine ⟨_, rfl, b, _, _, _, rfl, rfl, SqL.of B.at_, rfl, _, rfl, b, _, _, _, rfl, rfl, SqL.of B.at_, rfl, c, _, rfl, .inl (SqL.of B.cs), _, _, rfl, rfl, _, rfl, ?_⟩
        refine ite2 (fun hl => ?_) (fun _ => ⟨_, _, _, _, rfl, B, Kp.refl _ _⟩)
        have hl' : i < ns.length := by
          have := of_decide_eq_true hl
          rw [List.length_map] at this
          omega
        obtain ⟨n, hn⟩ : ∃ n, ns[i]? = some n := ⟨_, List.getElem?_eq_getElem hl'⟩
        have hat : atI (ns.map V.int) (i : Int) = some (V.int n) := atI_nat (by rw [List.getElem?_map, hn]; rfl)
        refine ⟨_, rfl, b, _, _, _, rfl, rfl, SqL.of B.at_, rfl, _, rfl, b, _, _, _, rfl, rfl, SqL.of B.at_, rfl, c, _, _, _, rfl, rfl, SqL.of B.cs, hat, ?_⟩
        refine ⟨_, rfl, b, _, _, _, rfl, rfl, SqL.of B.at_, rfl, _, _, rfl, rfl, _, rfl, b, _, _, _, rfl, rfl, B.at_, rfl, ?_⟩
        have B1 := B.put (i' := i + 1) (z' := z) (r' := r) (o := .lst [.ref c, .int ((i : Int) + 1), .int z, .int r]) (by rw [Int.natCast_add]; rfl) hl' B.z0 B.r0 B.r1
        have k1 : Kp b H (upd H b (.lst [.ref c, .int ((i : Int) + 1), .int z, .int r])) := Kp.upd
        refine ⟨_, rfl, _, rfl, _, _, rfl, rfl, ⟨by decide, by decide, by decide⟩, _, _, rfl, rfl, _, rfl, ?_⟩
        refine ite2 (fun _ => ?_) (fun _ => ?_)
        · refine ⟨_, rfl, _, rfl, _, rfl, b, _, _, _, rfl, rfl, upd_same, rfl, ?_⟩
          exact ⟨_, _, _, _, rfl, B1.put rfl B1.le (by split <;> omega) B1.r0 B1.r1, k1.trans Kp.upd⟩
        · refine ⟨_, rfl, b, _, _, _, rfl, rfl, SqL.of B1.at_, rfl, _, _, rfl, rfl, .inr (by decide), _, rfl, .inl ⟨_, rfl, _, _, rfl, rfl, (by show (0 : Int) < 1000003; decide), _, _, rfl, rfl, .inr (by decide), _, _, rfl, rfl, _, _, rfl, rfl, .inl ⟨_, rfl, _, _, rfl, rfl, (by show (0 : Int) < 2147483647; decide), _, rfl, b, _, _, _, rfl, rfl, upd_same, rfl, ?_⟩⟩⟩
          exact ⟨_, _, _, _, rfl, B1.put rfl B1.le B1.z0 (emod_lo _ (by decide)) (emod_hi _ (by decide)), k1.trans Kp.upd⟩
      · exact ⟨_, _, _, _, rfl, B, Kp.refl _ _⟩
    · rintro σ' H1 ⟨v, i, z, r, rfl, B, kp⟩
      -- if bag[2] > 0
      refine ⟨fun σ' H' => σ' = [some (.ref b), some (.int m), v, none, none] ∧ H' = H1, ?_, ?_⟩
      · refine ⟨_, rfl, b, _, _, _, rfl, rfl, SqL.of B.at_, rfl, _, _, rfl, rfl, _, rfl, ?_⟩
        refine ite2 (fun hz => ?_) (fun _ => ⟨rfl, rfl⟩)
        refine ⟨_, rfl, b, _, _, _, rfl, rfl, SqL.of B.at_, rfl, .inl ⟨_, rfl, _, rfl, _, _, rfl, rfl, m0, ?_⟩⟩
        refine ⟨_, rfl, b, _, _, _, rfl, rfl, SqL.of B.at_, rfl, _, rfl, _, _, rfl, rfl, ⟨m0, m1⟩, _, rfl, b, _, _, _, rfl, rfl, B.at_, rfl, ?_⟩
        refine ⟨_, rfl, ?_⟩
        exact k _ _ (emod_lo _ m0) (emod_hi _ m0) ⟨ns, _, _, _, B.put rfl B.le (Int.ediv_nonneg B.z0 (Int.le_of_lt m0)) B.r0 B.r1⟩ (kp.trans Kp.upd)
      · rintro σ' H2 ⟨rfl, rfl⟩
        refine ⟨_, rfl, b, _, _, _, rfl, rfl, SqL.of B.at_, rfl, _, rfl, b, _, _, _, rfl, rfl, SqL.of B.at_, rfl, _, _, rfl, rfl, .inl ⟨by have := B.r0; omega, by have := B.r1; omega⟩, .inl ⟨_, rfl, _, _, rfl, rfl, (by show (0 : Int) < 2147483629; decide), ?_⟩⟩
        refine ⟨_, rfl, _, _, rfl, rfl, .inr (by decide), _, rfl, b, _, _, _, rfl, rfl, SqL.of B.at_, rfl, _, _, rfl, rfl, .inr (by decide), _, _, rfl, rfl, _, _, rfl, rfl, .inl ⟨_, rfl, _, _, rfl, rfl, (by show (0 : Int) < 2147483647; decide), _, rfl, b, _, _, _, rfl, rfl, B.at_, rfl, ?_⟩⟩
        refine ⟨_, rfl, b, _, _, _, rfl, rfl, SqL.of upd_same, rfl, _, _, rfl, rfl, ⟨by decide, by decide⟩, .inl ⟨_, rfl, _, rfl, _, _, rfl, rfl, m0, ?_⟩⟩
        exact k _ _ (emod_lo _ m0) (emod_hi _ m0) ⟨ns, _, _, _, B.put rfl B.le B.z0 (emod_lo _ (by decide)) (emod_hi _ (by decide))⟩ (kp.trans Kp.upd)
end
end RF

namespace RF
open PySem L2
section
variable {P : Program} {w : World} {K : PySem.W.Frag} {mg : Str → Option Value} {base : Heap}
theorem ok_ofC {f : Addr} {fd : FuncData} {k : Nat} (F : Fun K "_law_of" "_law_of" s_law_of f fd) (T : TB mg) (D1 : Df P w K mg base k "_law_pull" ["_law_bag_here", "_law_sides"] spPullC) : FnOk P w K mg base CX0 (k + 1) f fd ["_law_bag_here", "_law_some"] (spOfC K) := by
  refine F.ok sc_law_of (fun vs H Q E h => ?_) (fun cdv A outer s H vs Q E hr h => ?_)
  · obtain ⟨b, c, a, xs, rfl, _⟩ := h
    rfl
  · obtain ⟨b, c, a, xs, rfl, B, hS, nab, h0, h1, k⟩ := h
    refine ⟨_, (pss_one (ps_ret (pe_ix ix_list (pv 1) (pe_callD D1 hr (Nat.le_refl _) (pa_cons (pv 0) (pa_cons (pe_callB call_len_seq (by rfl) T.len PySem.boot_len (pa_cons (pv 1) pa_nil)) pa_nil))) (fun _ _ => rfl)))), ?_⟩
    refine ⟨_, rfl, _, rfl, _, rfl, a, _, rfl, .inl hS, b, c, _, rfl, B, by omega, by omega, fun d H' d0 d1 B' kp => ?_⟩
    obtain ⟨j, rfl⟩ : ∃ j : Nat, d = (j : Int) := ⟨d.toNat, by omega⟩
    have hj : j < xs.length := by omega
    exact ⟨a, xs, _, _, rfl, rfl, kp.seq nab hS, atI_nat (List.getElem?_eq_getElem hj), k _ _ (List.getElem_mem hj) B' kp⟩
theorem ok_rootC {f : Addr} {fd : FuncData} {k : Nat} (F : Fun K "_law_root" "_law_root" s_law_root f fd) (D1 : Df P w K mg base k "_law_of" ["_law_bag_here", "_law_some"] (spOfC K)) : FnOk P w K mg base CX0 (k + 1) f fd ["_law_bag_here"] spRootC := by
  refine F.ok sc_law_root (fun vs H Q E h => ?_) (fun cdv A outer s H vs Q E hr h => ?_)
  · obtain ⟨b, c, rfl, _⟩ := h
    rfl
  · obtain ⟨b, c, rfl, B, k⟩ := h
    refine ⟨_, (pss_one (ps_ret (pe_callD D1 hr (Nat.le_refl _) (pa_cons (pv 0) (pa_cons (pe_lst (pa_cons pe_int (pa_cons pe_int (pa_cons pe_int (pa_cons pe_int (pa_cons pe_int pa_nil)))))) pa_nil))))), ?_⟩
    refine ⟨_, rfl, by show 5 ≤ sizeLine; decide, fun p hp => ?_⟩
    obtain ⟨xs, hb⟩ := B.atB
    refine ⟨b, c, p, _, rfl, B.same (sNew (Same.refl _) hp), SqL.of upd_same, (ne_of_none hb hp).symm, by decide, by decide, fun v H' hv B' kp => ?_⟩
    have kp' : Kp b H H' := (Kp.of (sNew (Same.refl _) hp)).trans kp
    rcases List.mem_cons.mp hv with rfl | hv
    · exact k _ _ (by decide) B' kp'
    rcases List.mem_cons.mp hv with rfl | hv
    · exact k _ _ (by decide) B' kp'
    rcases List.mem_cons.mp hv with rfl | hv
    · exact k _ _ (by decide) B' kp'
    rcases List.mem_cons.mp hv with rfl | hv
    · exact k _ _ (by decide) B' kp'
    rcases List.mem_cons.mp hv with rfl | hv
    · exact k _ _ (by decide) B' kp'
    cases hv
theorem ok_farC {f : Addr} {fd : FuncData} {k : Nat} (F : Fun K "_law_far" "_law_far" s_law_far f fd) (T : mg "range" = none) (D1 : Df P w K mg base k "_law_pull" ["_law_bag_here", "_law_sides"] spPullC) : FnOk P w K mg base CX0 (k + 1) f fd ["_law_bag_here", "_law_figures"] spFarC := by
  refine F.ok sc_law_far (fun vs H Q E h => ?_) (fun cdv A outer s H vs Q E hr h => ?_)
  · obtain ⟨b, c, m, rfl, _⟩ := h
    rfl
  · obtain ⟨b, c, m, rfl, B, m0, m1, k⟩ := h
    have nd := sc_law_far.nd
    refine ⟨_, (pss_cons (ps_set (i := 2) nd rfl (Or.inl rfl) (pe_op op_add pe_int (pe_callD D1 hr (Nat.le_refl _) (pa_cons (pv 0) (pa_cons (pv 1) pa_nil)))))
      (pss_cons (ps_set (i := 3) nd rfl (Or.inl rfl) pe_int)
      (pss_cons (ps_for PassesOwn.never rfl (pi_range1 rfl T (pa_cons (pv 2) pa_nil)) (pg_name (i := 4) nd rfl (Or.inl rfl))
      (pss_one (ps_set (i := 3) nd rfl (Or.inl rfl) (pe_op op_add (pe_op op_mul (pv 3) pe_int) (pe_callD D1 hr (Nat.le_refl _) (pa_cons (pv 0) (pa_cons pe_int pa_nil)))))))
      (pss_one (ps_ret (pv 3)))))), ?_⟩
    refine ⟨_, rfl, _, rfl, b, c, _, rfl, B, m0, by omega, fun d H1 d0 d1 B1 kp1 => ⟨_, _, rfl, rfl, ?_⟩⟩
    refine ⟨_, rfl, _, rfl, by omega, by omega, for_range (n := (1 + d).toNat) (fun i σ H' => ∃ (n : Int) (v : Option V), σ = [some (.ref b), some (.int m), some (.int (1 + d)), some (.int n), v] ∧ 0 ≤ n ∧ n < 10 ^ i ∧ BagAt H' b c ∧ Kp b H H')
      ⟨0, none, rfl, by decide, by decide, B1, kp1⟩ ?_ ?_⟩
    · rintro i σ H2 hi ⟨n, v, rfl, n0, n1, B2, kp2⟩
      refine ⟨_, rfl, _, _, rfl, rfl, .inr (by decide), _, rfl, b, c, _, rfl, B2, by decide, by decide, fun e H3 e0 e1 B3 kp3 => ⟨_, _, rfl, rfl, ?_⟩⟩
      refine ⟨_, _, rfl, by omega, ?_, B3, kp2.trans kp3⟩
      rw [Int.pow_succ]
      omega
    · rintro σ H2 ⟨n, v, rfl, n0, n1, B2, kp2⟩
      refine ⟨_, rfl, k _ _ n0 (Int.lt_of_lt_of_le n1 ?_) B2 kp2⟩
      exact_mod_cast Nat.pow_le_pow_right (by decide : 0 < 10) (by omega : (1 + d).toNat ≤ m.toNat)
end
end RF

namespace RF
open PySem L2
section
variable {P : Program} {w : World} {K : PySem.W.Frag} {mg : Str → Option Value} {base : Heap}
abbrev s_law_same : Stmt := top 26
abbrev n_law_same : List Str := ["_law_found", "_law_due", "_law_a", "_law_b"]
theorem sc_law_same : FnScope n_law_same ["_law_found", "_law_due"] (defScope s_law_same) := ⟨rfl, rfl, rfl, by decide +kernel, rfl, by decide +kernel, by decide +kernel⟩
theorem ok_same1 {f : Addr} {fd : FuncData} {k : Nat} {n : Nat} (F : Fun K "_law_same" "_law_same" s_law_same f fd) (T : TSm mg) (D1 : Df P w K mg base k "_law_same" ["_law_found", "_law_due"] (spSameL K n)) : FnOk P w K mg base CX0 (k + 1) f fd ["_law_found", "_law_due"] (spSame K n) := by
  refine F.ok sc_law_same (fun vs H Q E h => ?_) (fun cdv A outer s H vs Q E hr h => ?_)
  · obtain ⟨v, u, d, rfl, _⟩ := h
    rfl
  · obtain ⟨v, u, d, rfl, h1, h2, hd, k⟩ := h
    have nd := sc_law_same.nd
    refine ⟨_, (pss_cons (ps_if (pw_or (pt_cmpR op_isN (pv 1) pe_non (nomark _)) (pw_or1 (pt_cmpR op_isN (pv 0) pe_non (nomark _)))).pt
      (pss_one (ps_ret (pe_and (pe_cmpR op_isN (pv 1) pe_non (nomark _)) (pe_one (pe_cmpR op_isN (pv 0) pe_non (nomark _))))))
      pss_nil)
      (pss_cons (ps_if (pw_or (pt_val (pe_callB call_isi (by rfl) T.isinstance (by decide +kernel) (pa_cons (pv 1) (pa_cons (pe_bltn (v := .ty "bool") (by rfl) T.bool (by decide +kernel) rfl) pa_nil)))) (pw_or1 (pt_val (pe_callB call_isi (by rfl) T.isinstance (by decide +kernel) (pa_cons (pv 0) (pa_cons (pe_bltn (v := .ty "bool") (by rfl) T.bool (by decide +kernel) rfl) pa_nil)))))).pt
      (pss_one (ps_ret (pe_and (pe_callB call_isi (by rfl) T.isinstance (by decide +kernel) (pa_cons (pv 1) (pa_cons (pe_bltn (v := .ty "bool") (by rfl) T.bool (by decide +kernel) rfl) pa_nil))) (pe_and (pe_callB call_isi (by rfl) T.isinstance (by decide +kernel) (pa_cons (pv 0) (pa_cons (pe_bltn (v := .ty "bool") (by rfl) T.bool (by decide +kernel) rfl) pa_nil))) (pe_one (pe_cmpR op_eq (pv 0) (pv 1) (nomark _)))))))
      pss_nil)
      (pss_cons (ps_if (pw_or (pt_val (pe_callB call_isiT (by rfl) T.isinstance (by decide +kernel) (pa_cons (pv 1) (pa_cons (pe_tup (pa_cons (pe_bltn (v := .ty "list") (by rfl) T.list (by decide +kernel) rfl) (pa_cons (pe_bltn (v := .ty "tuple") (by rfl) T.tuple (by decide +kernel) rfl) pa_nil))) pa_nil)))) (pw_or1 (pt_val (pe_callB call_isiT (by rfl) T.isinstance (by decide +kernel) (pa_cons (pv 0) (pa_cons (pe_tup (pa_cons (pe_bltn (v := .ty "list") (by rfl) T.list (by decide +kernel) rfl) (pa_cons (pe_bltn (v := .ty "tuple") (by rfl) T.tuple (by decide +kernel) rfl) pa_nil))) pa_nil)))))).pt
      (pss_cons (ps_if (pw_or (pt_cmpR op_ne (pe_callB call_isi (by rfl) T.isinstance (by decide +kernel) (pa_cons (pv 1) (pa_cons (pe_bltn (v := .ty "list") (by rfl) T.list (by decide +kernel) rfl) pa_nil))) (pe_callB call_isi (by rfl) T.isinstance (by decide +kernel) (pa_cons (pv 0) (pa_cons (pe_bltn (v := .ty "list") (by rfl) T.list (by decide +kernel) rfl) pa_nil))) (nomark _)) (pw_or1 (pt_cmpR op_ne (pe_callB call_isi (by rfl) T.isinstance (by decide +kernel) (pa_cons (pv 1) (pa_cons (pe_bltn (v := .ty "tuple") (by rfl) T.tuple (by decide +kernel) rfl) pa_nil))) (pe_callB call_isi (by rfl) T.isinstance (by decide +kernel) (pa_cons (pv 0) (pa_cons (pe_bltn (v := .ty "tuple") (by rfl) T.tuple (by decide +kernel) rfl) pa_nil))) (nomark _)))).pt
        (pss_one (ps_ret pe_bl))
        pss_nil)
        (pss_one (ps_ret (pe_and (pe_cmpR op_eq (pe_callB call_len_seq (by rfl) T.len PySem.boot_len (pa_cons (pv 0) pa_nil)) (pe_callB call_len_seq (by rfl) T.len PySem.boot_len (pa_cons (pv 1) pa_nil)) (nomark _)) (pe_one (pe_callB (cr_all rfl) (by rfl) T.all (by decide +kernel) (pa_cons (pe_lc (own := [("_law_a", 2), ("_law_b", 3)]) (g := gTup K 2 (gCons (gName 2) (gCons (gName 3) gNil))) (tt := tYes) (by rfl) nd (RZ.pi_zipA (by rfl) T.zip (pa_cons (pv 0) (pa_cons (pv 1) pa_nil))) (blkOk_by (own := [("_law_a", 2), ("_law_b", 3)]) (N := n_law_same) (sc := defScope s_law_same) (by decide +kernel)) (fun _ _ _ _ _ => (pg_tup rfl (pgs_cons (pg_name (i := 2) nd rfl (Or.inl rfl)) (pgs_cons (pg_name (i := 3) nd rfl (Or.inl rfl)) pgs_nil)))) (fun _ _ _ _ _ => pts_nil) (fun _ _ _ _ _ => (pe_callD D1 hr (Nat.le_refl _) (pa_cons (pv 2) (pa_cons (pv 3) pa_nil))))) pa_nil)))))))
      pss_nil)
      (pss_cons (ps_if (pw_or (pt_cmpR op_ne (pe_callB call_isi (by rfl) T.isinstance (by decide +kernel) (pa_cons (pv 1) (pa_cons (pe_bltn (v := .ty "int") (by rfl) T.int (by decide +kernel) rfl) pa_nil))) (pe_callB call_isi (by rfl) T.isinstance (by decide +kernel) (pa_cons (pv 0) (pa_cons (pe_bltn (v := .ty "int") (by rfl) T.int (by decide +kernel) rfl) pa_nil))) (nomark _)) (pw_or1 (pt_cmpR op_ne (pe_callB call_isi (by rfl) T.isinstance (by decide +kernel) (pa_cons (pv 1) (pa_cons (pe_bltn (v := .ty "str") (by rfl) T.str (by decide +kernel) rfl) pa_nil))) (pe_callB call_isi (by rfl) T.isinstance (by decide +kernel) (pa_cons (pv 0) (pa_cons (pe_bltn (v := .ty "str") (by rfl) T.str (by decide +kernel) rfl) pa_nil))) (nomark _)))).pt
      (pss_one (ps_ret pe_bl))
      pss_nil)
      (pss_one (ps_ret (pe_cmpR op_eq (pv 0) (pv 1) (nomark _)))))))), ?_⟩
    by_cases en : d = .non
    · subst en
      obtain rfl : v = .non := h1
      obtain rfl : u = .non := h2
      refine ⟨_, rfl, rfl, _, rfl, iteP rfl (iteP rfl ?_)⟩
      exact ⟨_, rfl, rfl, _, rfl, iteP rfl ⟨_, rfl, rfl, k _ (Same.refl _)⟩⟩
    · have nv : ∀ x, Rp K H x d → ¬ x = V.non := fun x h z => by
        subst z
        cases d with
        | non => exact en rfl
        | bl _ => cases (show V.non = V.bl _ from h)
        | int _ => cases (show V.non = V.int _ from h)
        | str _ => cases (show V.non = V.str _ from h)
        | lst _ => obtain ⟨_, _, q, _⟩ := h; cases q
        | tup _ => obtain ⟨_, _, q, _⟩ := h; cases q
      refine ⟨_, rfl, rfl, _, rfl, iteN (nd_of (nv _ h2)) ⟨_, rfl, rfl, _, rfl, iteN (nd_of (nv _ h1)) ?_⟩⟩
      -- bool
      by_cases eb : isBool d = true
      · cases d with
        | bl b =>
          have g1 := h1
          have g2 := h2
          obtain rfl : v = .bl b := h1
          obtain rfl : u = .bl b := h2
          refine ⟨_, rfl, _, _, _, _, _, rfl, .ty _, tyX _ g2, kit_ty (kit_bool _), _, rfl, iteP rfl (iteP rfl ?_)⟩
          exact ⟨_, rfl, _, _, _, _, _, rfl, .ty _, tyX _ g2, kit_ty (kit_bool _), _, rfl, iteP rfl ⟨_, rfl, _, _, _, _, _, rfl, .ty _, tyX _ g1, kit_ty (kit_bool _), _, rfl, iteP rfl ⟨_, rfl, _, rfl, rfl, eqT (k _ (Same.refl _))⟩⟩⟩
        | non => cases eb
        | int _ => cases eb
        | str _ => cases eb
        | lst _ => cases eb
        | tup _ => cases eb
      · refine ⟨_, rfl, _, _, _, _, _, rfl, .ty _, tyX _ h2, kit_ty (kit_bool _), _, rfl, iteN eb ⟨_, rfl, _, _, _, _, _, rfl, .ty _, tyX _ h1, kit_ty (kit_bool _), _, rfl, iteN eb ?_⟩⟩
        -- lists and tuples
        refine ⟨_, rfl, (by show 2 ≤ sizeLine; decide), fun p hp => ?_⟩
        have s2 : Same H (upd H p (.tup [.ty "list", .ty "tuple"])) := sNew (Same.refl _) hp
        have j1 := Rp.same s2 _ h1
        have j2 := Rp.same s2 _ h2
        refine ⟨_, _, _, _, _, _, rfl, upd_same, .cons (.ty _) (.cons (.ty _) .nil), tyX _ j2, kit_lt _, _, rfl, ?_⟩
        by_cases et : (isLst d || isTup d) = true
        · refine iteP et (iteP rfl ?_)
          refine ⟨_, rfl, _, _, _, _, _, rfl, .ty _, tyX _ j2, kit_ty (kit_list _), _, rfl, _, _, _, _, _, rfl, .ty _, tyX _ j1, kit_ty (kit_list _), rfl, _, rfl, iteNS rfl ?_⟩
          refine ⟨_, rfl, _, _, _, _, _, rfl, .ty _, tyX _ j2, kit_ty (kit_tuple _), _, rfl, _, _, _, _, _, rfl, .ty _, tyX _ j1, kit_ty (kit_tuple _), rfl, _, rfl, iteNS rfl ?_⟩
          cases d with
          | lst ds =>
            obtain ⟨a, xs, rfl, S1, l1, r1⟩ := id h1
            obtain ⟨b, ys, rfl, S2, l2, r2⟩ := id h2
            have T1 := s2.seq S1
            have T2 := s2.seq S2
            have el : xs.length = ys.length := by rw [r1.len, r2.len]
            refine ⟨_, rfl, _, _, rfl, .inl T1, _, rfl, _, _, rfl, .inl T2, rfl, _, rfl, iteP (decide_eq_true (by rw [el])) ?_⟩
            refine ⟨_, rfl, _, rfl, a, b, xs, ys, rfl, .inl ⟨T1, T2, fun Dd hD => ?_⟩⟩
            cases n with
            | zero => exact absurd hd (by show ¬ (depL ds + 1 ≤ 0); omega)
            | succ n =>
              have nz : ∀ H', Same H H' → H' Dd = none → True := fun _ _ _ => trivial
              refine lc_it (walk_zip (n := xs.length) (by rw [el, Nat.min_self])) (fun i H' => (∃ acc : List Bool, H' Dd = some (.lst (acc.map V.bl)) ∧ acc.length = i ∧ acc.all id = true) ∧ Same (upd H p (.tup [.ty "list", .ty "tuple"])) H' ∧ i ≤ xs.length)
                ⟨⟨[], upd_same, rfl, rfl⟩, sNew (Same.refl _) hD, Nat.zero_le _⟩ (fun i H' _ z => ⟨(z.2.1).seq T1, (z.2.1).seq T2⟩) ?_ ?_
              · rintro i x H3 H4 hi ⟨⟨acc, e1, e2, e3⟩, sm, _⟩ ⟨Tt, x1, x2, rfl, nT, rfl, g1, g2⟩
                obtain ⟨d1, q1, p1⟩ := r1.at_ g1
                obtain ⟨d2, q2, p2⟩ := r2.at_ g2
                have ed : d1 = d2 := Option.some.inj (q1.symm.trans q2)
                subst ed
                have sm4 : Same H (upd H3 Tt (.tup [x1, x2])) := (s2.trans sm).trans (sNew (Same.refl _) nT)
                refine ⟨Tt, [x1, x2], rfl, SqT.of upd_same, rfl, _, _, rfl, _, _, rfl, rfl, rfl, ?_⟩
                refine yes_if ?_
                refine ⟨_, rfl, _, rfl, x1, x2, d1, rfl, Rp.same sm4 _ p1, Rp.same sm4 _ p2, ?_, fun H5 s5 => ?_⟩
                · have := dep_mem q1
                  have hd' : depL ds + 1 ≤ n + 1 := hd
                  omega
                · have eD : H5 Dd = some (.lst (acc.map V.bl)) := s5 _ _ (by rw [upd_ne (ne_of_none e1 nT)]; exact e1)
                  refine ⟨_, eD, by rw [List.length_map]; exact Nat.lt_of_lt_of_le (show acc.length < 100001 by omega) (by decide), ⟨⟨acc ++ [true], ?_, by rw [List.length_append, e2]; rfl, by rw [List.all_append, e3]; rfl⟩, fun c o e => ?_, hi⟩⟩
                  · rw [upd_same, List.map_append]; rfl
                  · have nc : c ≠ Dd := fun z => by rw [z, hD] at e; cases e
                    rw [upd_ne nc]
                    exact s5 _ _ (by rw [upd_ne (ne_of_none (sm _ _ e) nT)]; exact sm _ _ e)
              · rintro H3 ⟨⟨acc, e1, e2, e3⟩, sm, _⟩
                exact ⟨Dd, acc, rfl, SqL.of e1, by rw [e3]; exact k _ (s2.trans sm)⟩
          | tup ds =>
            obtain ⟨a, xs, rfl, S1, l1, r1⟩ := id h1
            obtain ⟨b, ys, rfl, S2, l2, r2⟩ := id h2
            have T1 := sameT s2 S1
            have T2 := sameT s2 S2
            have el : xs.length = ys.length := by rw [r1.len, r2.len]
            refine ⟨_, rfl, _, _, rfl, .inr T1, _, rfl, _, _, rfl, .inr T2, rfl, _, rfl, iteP (decide_eq_true (by rw [el])) ?_⟩
            refine ⟨_, rfl, _, rfl, a, b, xs, ys, rfl, .inr ⟨T1, T2, fun Dd hD => ?_⟩⟩
            cases n with
            | zero => exact absurd hd (by show ¬ (depL ds + 1 ≤ 0); omega)
            | succ n =>
              have nz : ∀ H', Same H H' → H' Dd = none → True := fun _ _ _ => trivial
              refine lc_it (walk_zipT (n := xs.length) (by rw [el, Nat.min_self])) (fun i H' => (∃ acc : List Bool, H' Dd = some (.lst (acc.map V.bl)) ∧ acc.length = i ∧ acc.all id = true) ∧ Same (upd H p (.tup [.ty "list", .ty "tuple"])) H' ∧ i ≤ xs.length)
                ⟨⟨[], upd_same, rfl, rfl⟩, sNew (Same.refl _) hD, Nat.zero_le _⟩ (fun i H' _ z => ⟨sameT (z.2.1) T1, sameT (z.2.1) T2⟩) ?_ ?_
              · rintro i x H3 H4 hi ⟨⟨acc, e1, e2, e3⟩, sm, _⟩ ⟨Tt, x1, x2, rfl, nT, rfl, g1, g2⟩
                obtain ⟨d1, q1, p1⟩ := r1.at_ g1
                obtain ⟨d2, q2, p2⟩ := r2.at_ g2
                have ed : d1 = d2 := Option.some.inj (q1.symm.trans q2)
                subst ed
                have sm4 : Same H (upd H3 Tt (.tup [x1, x2])) := (s2.trans sm).trans (sNew (Same.refl _) nT)
                refine ⟨Tt, [x1, x2], rfl, SqT.of upd_same, rfl, _, _, rfl, _, _, rfl, rfl, rfl, ?_⟩
                refine yes_if ?_
                refine ⟨_, rfl, _, rfl, x1, x2, d1, rfl, Rp.same sm4 _ p1, Rp.same sm4 _ p2, ?_, fun H5 s5 => ?_⟩
                · have := dep_mem q1
                  have hd' : depL ds + 1 ≤ n + 1 := hd
                  omega
                · have eD : H5 Dd = some (.lst (acc.map V.bl)) := s5 _ _ (by rw [upd_ne (ne_of_none e1 nT)]; exact e1)
                  refine ⟨_, eD, by rw [List.length_map]; exact Nat.lt_of_lt_of_le (show acc.length < 100001 by omega) (by decide), ⟨⟨acc ++ [true], ?_, by rw [List.length_append, e2]; rfl, by rw [List.all_append, e3]; rfl⟩, fun c o e => ?_, hi⟩⟩
                  · rw [upd_same, List.map_append]; rfl
                  · have nc : c ≠ Dd := fun z => by rw [z, hD] at e; cases e
                    rw [upd_ne nc]
                    exact s5 _ _ (by rw [upd_ne (ne_of_none (sm _ _ e) nT)]; exact sm _ _ e)
              · rintro H3 ⟨⟨acc, e1, e2, e3⟩, sm, _⟩
                exact ⟨Dd, acc, rfl, SqL.of e1, by rw [e3]; exact k _ (s2.trans sm)⟩
          | non => cases et
          | bl _ => cases et
          | int _ => cases et
          | str _ => cases et
        · refine iteN et ?_
          refine ⟨_, rfl, (by show 2 ≤ sizeLine; decide), fun q hq => ?_⟩
          have s3 := sNew (o := .tup [.ty "list", .ty "tuple"]) s2 hq
          have i1 := Rp.same s3 _ h1
          have i2 := Rp.same s3 _ h2
          refine ⟨_, _, _, _, _, _, rfl, upd_same, .cons (.ty _) (.cons (.ty _) .nil), tyX _ i1, kit_lt _, _, rfl, iteN et ?_⟩
          refine ⟨_, rfl, _, _, _, _, _, rfl, .ty _, tyX _ i2, kit_ty (kit_int _), _, rfl, _, _, _, _, _, rfl, .ty _, tyX _ i1, kit_ty (kit_int _), rfl, _, rfl, iteNS rfl ?_⟩
          refine ⟨_, rfl, _, _, _, _, _, rfl, .ty _, tyX _ i2, kit_ty (kit_str _), _, rfl, _, _, _, _, _, rfl, .ty _, tyX _ i1, kit_ty (kit_str _), rfl, _, rfl, iteNS rfl ?_⟩
          cases d with
          | int z =>
            obtain rfl : v = .int z := h1
            obtain rfl : u = .int z := h2
            exact ⟨_, rfl, _, rfl, rfl, eqT (k _ s3)⟩
          | str z =>
            obtain rfl : v = .str z := h1
            obtain rfl : u = .str z := h2
            exact ⟨_, rfl, _, rfl, rfl, eqT (k _ s3)⟩
          | non => exact absurd rfl en
          | bl _ => exact absurd rfl eb
          | lst _ => exact absurd rfl et
          | tup _ => exact absurd rfl et
theorem ok_same {f : Addr} {fd : FuncData} (F : Fun K "_law_same" "_law_same" s_law_same f fd) (T : TSm mg) (hb : Binds K fd ["_law_found", "_law_due"] []) (hm : mg "_law_same" = some (.ref f)) : ∀ n : Nat, FnOk P w K mg base CX0 (n + 1) f fd ["_law_found", "_law_due"] (spSame K n)
  | 0 => ok_same1 (k := 0) F T ⟨_, _, fn_false, hb, hm, F.kp⟩
  | n + 1 => ok_same1 (k := n + 1) F T ⟨_, _, ok_same F T hb hm n, hb, hm, F.kp⟩
end
end RF

namespace RF
open PySem L2 PyProof.Rows EX
open LamX (Tabs TabS ExtN TabB CodeO)
theorem SV.extN {H H' : Hp} {C p : Addr} {d i j k : Int} (e : ExtN H H') (h : SV H C p d i j k) : SV H' C p d i j k := by
  obtain ⟨k0, dx, t, h1, h2⟩ := h
  exact ⟨k0, dx, t, e _ _ h1 (fun _ z => by cases z), e _ _ h2 (fun _ z => by cases z)⟩
theorem SV.kpC {H H' : Hp} {C b c p : Addr} {d i j k : Int} (B : BagAt H b c) (kp : Kp b H H') (h : SV H C p d i j k) : SV H' C p d i j k := by
  obtain ⟨k0, dx, t, h1, h2⟩ := h
  obtain ⟨xs, hb⟩ := B.atB
  exact ⟨k0, dx, t, kp _ _ (fun z => by rw [z, hb] at h1; cases h1) h1, kp _ _ (fun z => by rw [z, hb] at h2; cases h2) h2⟩
theorem Rsd.sm {CE : Addr} {nm fld : Str} {v : V} {H H' : Hp} {E : XK} (s : Same H H') (r : Rsd CE nm fld v H E) : Rsd CE nm fld v H' E := fun dd H7 sm7 hdd => r dd H7 (s.trans sm7) hdd
theorem rpL3 {K : PySem.W.Frag} {H : Hp} {a : Addr} {v1 v2 v3 : V} {d1 d2 d3 : D} (h : H a = some (.lst [v1, v2, v3])) (r1 : Rp K H v1 d1) (r2 : Rp K H v2 d2) (r3 : Rp K H v3 d3) : Rp K H (.ref a) (.lst [d1, d2, d3]) := ⟨a, _, rfl, SqL.of h, by show 3 ≤ 100000; decide, _, _, rfl, r1, _, _, rfl, r2, _, _, rfl, r3, rfl⟩
theorem rp3 {K : PySem.W.Frag} {H : Hp} {a : Addr} {v1 v2 v3 : V} {d1 d2 d3 : D} (h : H a = some (.tup [v1, v2, v3])) (r1 : Rp K H v1 d1) (r2 : Rp K H v2 d2) (r3 : Rp K H v3 d3) : Rp K H (.ref a) (.tup [d1, d2, d3]) := ⟨a, _, rfl, SqT.of h, by show 3 ≤ 100000; decide, _, _, rfl, r1, _, _, rfl, r2, _, _, rfl, r3, rfl⟩
abbrev psI : List Str := ["self", "root", "i", "j", "k"]
/-- what the law's lambdas make use of -/
structure EnvX (P : Program) (w : World) (K : PySem.W.Frag) (mg : Str → Option Value) (base : Heap) (CS CR CN CP c1 c2 c3 : Addr) : Prop where
  of_ : Df P w K mg base 9 "_law_of" ["_law_bag_here", "_law_some"] (spOfC K)
  same : Df P w K mg base 9 "_law_same" ["_law_found", "_law_due"] (spSame K 5)
  T : TxS K mg CS
  mkX : ∃ (f : Addr) (fd : FuncData), Mk K CS f ∧ FnOk P w K mg base (L2.CX P w) 8 f fd psI (spSInitX K CS CR CN) ∧ KBn K fd psI 4 ["k"] (fun us ws => us ++ ws) (fun vs zs => vs ++ zs) ∧ (∃ g : List Value → List Value → List Value, KBn K fd psI 3 ["k"] g (fun vs zs => vs ++ [.int 0] ++ zs)) ∧ ∃ ds, Vals [.int 0, .int 1] ds ∧ Binds K fd psI ds
  ofX : ∃ (po go : Addr) (mc : Value), ClX.CRead K CS mc ∧ SMet K CS mc "of_slope" po go ∧ FnR P w K mg base (L2.CX P w) 9 go (spOfX K CR CP)
  why : WhyE P w K mg base (top 29) 9 c1 c2 c3
  er : OwnE P w K mg "InvalidRoot" "given" CR
  en : OwnE P w K mg "InvalidNumber" "given" CN
  ep : OwnE P w K mg "InvalidSlope" "given" CP
  xr : PySem.W.exmAny K (.ref CR) [.ref c1, .ref c2, .ref c3] = some true
  xn : PySem.W.exmAny K (.ref CN) [.ref c1, .ref c2, .ref c3] = some true
  xp : PySem.W.exmAny K (.ref CP) [.ref c1, .ref c2, .ref c3] = some true
abbrev sRef : Stmt := top 34
abbrev n_ref : List Str := ["_law_bag_here", "_law_asks", "_law_odd", "_law_ask"]
theorem sc_ref : FnScope n_ref ["_law_bag_here"] (defScope sRef) := ⟨rfl, rfl, rfl, by decide +kernel, rfl, by decide +kernel, by decide +kernel⟩
def qR : Str := (("_law_surds_refused" : Str) ++ ".<locals>.") ++ "<lambda>"
def TR (P1 : Addr) : List (Addr × Str) := [(P1, qR)]
/-- the def with lambdas of its own: it answers True -/
def spRef (P1 : Addr) : Sp := fun vs H Q _ => ∃ (b c : Addr), vs = [.ref b] ∧ BagAt H b c ∧ Tabs (TR P1) H ∧ ∀ H', Q (.bl true) H'
theorem ask_g {K : PySem.W.Frag} {c1 c2 c3 f : Addr} {L : LM.LTx} {κ : LM.LK} {ql : Str} {cl : List (Str × Addr)} {σ : L2.St} {H0 : Hp} {Q : VK} {t : XK → TE} (lv : LM.LamV L κ ql cl H0 f) (ht : ∀ E Q', E = EW K c1 c2 c3 Q → t E σ H0 Q') : TWhy K c1 c2 c3 (fun E H' Q' => LM.LamV L κ ql cl H' f ∧ t E σ H' Q') H0 Q :=
  ⟨lv, ht _ _ rfl⟩
/-- the numbers that are no roots -/
def oddD : V → Prop := fun v => ∃ dv : D, (∀ (K : PySem.W.Frag) (H' : Hp), Rp K H' v dv) ∧ rootD dv = false ∧ dep dv = 0
section
variable {P : Program} {w : World} {K : PySem.W.Frag} {mg : Str → Option Value} {base : Heap}
abbrev XR (P : Program) (w : World) (K : PySem.W.Frag) (mg : Str → Option Value) (base : Heap) (f c : Addr) (A : Around) (outer : List Env) (s : Shared) (H : Hp) (E : XK) : Cx := (cxOf CX0 P w K mg base n_ref "_law_surds_refused" (defScope sRef) f (.ref c) A outer s H E).nox
section
variable {f c P1 CS CR CN CP c1 c2 c3 : Addr} {A : Around} {outer : List Env} {s : Shared} {H : Hp} {E : XK}
theorem asksR (e : EnvX P w K mg base CS CR CN CP c1 c2 c3) (hr : Room 11 (XR P w K mg base f c A outer s H E).A) : LM.Asks (XR P w K mg base f c A outer s H E) "_law_why" qR 9 (TWhy K c1 c2 c3) := by
  obtain ⟨gw, ocw, odw, anw, kVw, docw, pmw, cdvw, ctw, oslw, mW, kW, lW, cW, bW⟩ := e.why.ex
  obtain ⟨gf, fdf, GF, mF, kF, bF⟩ := e.why.fld
  have hG := why_gives (X := XR P w K mg base f c A outer s H E) (g := gw) (cdg := cdvw) (q := qR) (k := 9) (hr.mono (by decide)) e.why.m1 e.why.m2 e.why.m3 GF mF kF bF
  exact ⟨⟨gw, _, _, _, .none, kVw, docw, pmw, cdvw, ctw, ocw, anw, odw, oslw, n_law_why, "_law_ask", mW, kW, lW, cW, bW, sc_law_why, rfl, .inl rfl, by decide, by decide, hG⟩, by decide⟩
abbrev lamR (i : Nat) : Expr := eltA i (valOf (stA 1 (defBody sRef)))
abbrev lcR : Expr := argA 0 (valOf (stA 2 (defBody sRef)))
abbrev r0 (K : PySem.W.Frag) (CS CR CN : Addr) (X : Cx) : LM.LEnt := ⟨LM.lamT (lamR 0), .plain, LM.clo X (LM.lamT (lamR 0)), fun E => tMakeK CS 2 1 (spSInitX K CS CR CN) (fun vs zs => vs ++ [.int 0] ++ zs) E (tCons (tVar 2) (tCons (tC (.int 1)) tNil)) (tCons (tC (.int 0)) tNil)⟩
abbrev r1 (K : PySem.W.Frag) (CS CR CP : Addr) (X : Cx) : LM.LEnt := ⟨LM.lamT (lamR 1), .dflt "_law_a" 0, LM.clo X (LM.lamT (lamR 1)), fun E => tSMeth CS (spOfX K CR CP) E (tC (.ref CS)) (tCons (tVar 2) (tCons (tC .non) tNil))⟩
abbrev r2 (K : PySem.W.Frag) (CS CR CP : Addr) (X : Cx) : LM.LEnt := ⟨LM.lamT (lamR 2), .dflt "_law_b" 0, LM.clo X (LM.lamT (lamR 2)), fun E => tSMeth CS (spOfX K CR CP) E (tC (.ref CS)) (tCons (tC (.int 5)) (tCons (tTup (tCons (tC (.int 1)) (tCons (tC (.int 1)) tNil))) tNil))⟩
abbrev rs (K : PySem.W.Frag) (CS CR CN CP : Addr) (X : Cx) : List LM.LEnt := [r0 K CS CR CN X, r1 K CS CR CP X, r2 K CS CR CP X]
theorem gr0 (e : EnvX P w K mg base CS CR CN CP c1 c2 c3) : LM.LGo (XR P w K mg base f c A outer s H E) 9 (r0 K CS CR CN (XR P w K mg base f c A outer s H E)) := by
  obtain ⟨fi, fdi, M1, G, _, ⟨g3, k3⟩, _⟩ := e.mkX
  refine LM.go_of ⟨_, _, _, _, rfl, by show LM.lsB n_ref _ = true; decide +kernel, by show LM.freeB (defScope sRef) _ = true; decide +kernel, ⟨rfl, rfl, fun _ _ _ _ _ _ => rfl⟩, trivial, fun A' outer' s' H' E' f' c' hr2 => ?_⟩
  exact pe_makeK (X := LM.lcx (XR P w K mg base f c A outer s H E) _ _ A' outer' s' H' E' _ f' c') M1 G hr2 (by rfl) e.T.mg k3 LM.passL (pa_cons (pv 2) (pa_cons pe_int pa_nil)) (pk_cons pe_int pk_nil)
theorem gr1 (e : EnvX P w K mg base CS CR CN CP c1 c2 c3) : LM.LGo (XR P w K mg base f c A outer s H E) 9 (r1 K CS CR CP (XR P w K mg base f c A outer s H E)) := by
  obtain ⟨po, go, mc, cr, sm0, GO⟩ := e.ofX
  refine LM.go_of ⟨_, _, _, _, rfl, by show LM.lsB n_ref _ = true; decide +kernel, by show LM.freeB (defScope sRef) _ = true; decide +kernel, ⟨⟨_, _, rfl⟩, rfl, fun _ _ _ _ _ _ _ => ⟨_, rfl, fun _ => rfl⟩⟩, rfl, fun A' outer' s' H' E' f' c' hr2 => ?_⟩
  refine pe_smeth (X := LM.lcx (XR P w K mg base f c A outer s H E) _ _ A' outer' s' H' E' _ f' c') (pl := ?pl) ?a1 cr sm0 GO hr2 LM.passL ?a2 ?a3 ?a4 ?a5
  case a1 => exact pe_glob (v := .ref CS) rfl e.T.mg rfl
  case a2 => exact (pa_cons (pv 2) (pa_cons pe_non pa_nil))
  case a3 => rfl
  case a4 => rfl
  case a5 => rfl
theorem gr2 (e : EnvX P w K mg base CS CR CN CP c1 c2 c3) : LM.LGo (XR P w K mg base f c A outer s H E) 9 (r2 K CS CR CP (XR P w K mg base f c A outer s H E)) := by
  obtain ⟨po, go, mc, cr, sm0, GO⟩ := e.ofX
  refine LM.go_of ⟨_, _, _, _, rfl, by show LM.lsB n_ref _ = true; decide +kernel, by show LM.freeB (defScope sRef) _ = true; decide +kernel, ⟨⟨_, _, rfl⟩, rfl, fun _ _ _ _ _ _ _ => ⟨_, rfl, fun _ => rfl⟩⟩, rfl, fun A' outer' s' H' E' f' c' hr2 => ?_⟩
  refine pe_smeth (X := LM.lcx (XR P w K mg base f c A outer s H E) _ _ A' outer' s' H' E' _ f' c') (pl := ?pl) ?a1 cr sm0 GO hr2 LM.passL ?a2 ?a3 ?a4 ?a5
  case a1 => exact pe_glob (v := .ref CS) rfl e.T.mg rfl
  case a2 => exact (pa_cons pe_int (pa_cons (pe_tup (pa_cons pe_int (pa_cons pe_int pa_nil))) pa_nil))
  case a3 => rfl
  case a4 => rfl
  case a5 => rfl
theorem hTR : ∀ p ∈ TR P1, p.1 = P1 → p.2 = qR := fun p hp _ => by rw [List.mem_singleton.mp hp]
theorem lamR0 (tb : TabB base mg c P1) (e : EnvX P w K mg base CS CR CN CP c1 c2 c3) : PE (XR P w K mg base f c A outer s H E) (lamR 0) (LM.tLamV (TR P1) (LM.lamT (lamR 0)) .plain qR (LM.clo (XR P w K mg base f c A outer s H E) (LM.lamT (lamR 0)))) :=
  LM.lamv_of ⟨_, rfl⟩ (gr0 e) tb rfl (List.mem_singleton.mpr rfl) hTR
theorem lamR1 (tb : TabB base mg c P1) (e : EnvX P w K mg base CS CR CN CP c1 c2 c3) : PE (XR P w K mg base f c A outer s H E) (lamR 1) (LM.tLamV (TR P1) (LM.lamT (lamR 1)) (.dflt "_law_a" 0) qR (LM.clo (XR P w K mg base f c A outer s H E) (LM.lamT (lamR 1)))) :=
  LM.lamv_of ⟨_, rfl⟩ (gr1 e) tb rfl (List.mem_singleton.mpr rfl) hTR
theorem lamR2 (tb : TabB base mg c P1) (e : EnvX P w K mg base CS CR CN CP c1 c2 c3) : PE (XR P w K mg base f c A outer s H E) (lamR 2) (LM.tLamV (TR P1) (LM.lamT (lamR 2)) (.dflt "_law_b" 0) qR (LM.clo (XR P w K mg base f c A outer s H E) (LM.lamT (lamR 2)))) :=
  LM.lamv_of ⟨_, rfl⟩ (gr2 e) tb rfl (List.mem_singleton.mpr rfl) hTR
theorem lcwR (e : EnvX P w K mg base CS CR CN CP c1 c2 c3) (hr : Room 11 (XR P w K mg base f c A outer s H E).A) : PE (XR P w K mg base f c A outer s H E) lcR (tLc (iList K (tVar 1)) (gName 3) tYes (LM.tAskV (TWhy K c1 c2 c3) qR (rs K CS CR CN CP (XR P w K mg base f c A outer s H E)) 3) [3]) := by
  have nd := sc_ref.nd
  refine LM.lcask_of (own := [("_law_ask", 3)]) (asksR e hr) hr (fun m hm => ?_) rfl nd ⟨_, _, _, _, _, _, _, rfl, pi_list (pv 1), blkOk_by (own := [("_law_ask", 3)]) (N := n_ref) (sc := defScope sRef) (by decide +kernel), fun _ _ _ _ _ => pg_name (i := 3) nd rfl (Or.inl rfl), fun _ _ _ _ _ => rfl, fun _ _ _ _ _ => pv 3, fun _ => rfl, fun _ => rfl⟩
  simp only [rs, List.mem_cons, List.not_mem_nil, or_false] at hm
  rcases hm with rfl | rfl | rfl
  · exact ⟨gr0 e, LM.off_by (by show LM.offB _ (LM.lamT (lamR 0)).scope = true; decide +kernel)⟩
  · exact ⟨gr1 e, LM.off_by (by show LM.offB _ (LM.lamT (lamR 1)).scope = true; decide +kernel)⟩
  · exact ⟨gr2 e, LM.off_by (by show LM.offB _ (LM.lamT (lamR 2)).scope = true; decide +kernel)⟩
end
theorem ok_ref {f c P1 CS CR CN CP c1 c2 c3 : Addr} {kV doc pm ct oc : Value} {an od : Option Addr} {osl : Array (Option Value)} (lk : K.lookup f = some ⟨oc, od, .func (PySem.W.fnOf "_law_surds_refused" "_law_surds_refused" (defArgs sRef) (defBody sRef) (defScope sRef) .none kV doc pm an (.ref c) ct), osl⟩) (hcd : PySem.W.codeIn K (.ref c) "_law_surds_refused" = true)
    (tb : TabB base mg c P1) (e : EnvX P w K mg base CS CR CN CP c1 c2 c3) : FnOk P w K mg base CX0 12 f (PySem.W.fnOf "_law_surds_refused" "_law_surds_refused" (defArgs sRef) (defBody sRef) (defScope sRef) .none kV doc pm an (.ref c) ct) ["_law_bag_here"] (spRef P1) := by
  refine fn_of lk hcd sc_ref (fun vs H Q E h => by obtain ⟨a, ns, rfl, _⟩ := h; rfl) fun A outer s H vs Q E hr h => ?_
  obtain ⟨b, c0, rfl, B, TT, kk⟩ := h
  have nd := sc_ref.nd
  suffices hs : ∃ t, PSs (cxOf CX0 P w K mg base n_ref "_law_surds_refused" (defScope sRef) f (.ref c) A outer s H E).nox (defBody sRef) t ∧ t { nx := fun _ H' => Q .non H', rt := Q } (start n_ref [.ref b]) H by
    obtain ⟨t, h1, h2⟩ := hs
    exact ⟨t, h1.nox, h2⟩
  refine ⟨_, (pss_cons (ps_set (i := 2) nd rfl (Or.inr rfl) (pe_callD e.of_ hr (by decide) (pa_cons (pv 0) (pa_cons (pe_lst (pa_cons pe_int (pa_cons pe_int (pa_cons pe_non (pa_cons pe_bl pa_nil))))) pa_nil))))
      (pss_cons (ps_set (i := 1) nd rfl (Or.inl rfl) (pe_lst (pa_cons (lamR0 tb e) (pa_cons (lamR1 tb e) (pa_cons (lamR2 tb e) pa_nil)))))
      (pss_one (ps_ret (pe_callD e.same hr (by decide) (pa_cons (lcwR e hr) (pa_cons (pe_lst (pa_cons (pe_tup (pa_cons pe_str (pa_cons (pv 2) pa_nil))) (pa_cons (pe_tup (pa_cons pe_str (pa_cons (pv 2) pa_nil))) (pa_cons (pe_tup (pa_cons pe_str (pa_cons (pe_tup (pa_cons pe_int (pa_cons pe_int pa_nil))) pa_nil))) pa_nil)))) pa_nil))))))), ?_⟩
  -- odd
  refine ⟨_, rfl, by show 4 ≤ sizeLine; decide, fun p1 hp1 => ?_⟩
  have s1 := sNew (o := .lst [.int 4, .int 1, .non, .bl true]) (Same.refl H) hp1
  refine ⟨b, c0, p1, _, rfl, B.same s1, SqL.of upd_same, (B.off hp1).1, by show 0 < 4; decide, by show 4 < 1000000; decide, fun v H2 hv B2 kp2 => ?_⟩
  obtain ⟨dv, hdv, hrd, hdp⟩ : oddD v := by
    simp only [List.mem_cons, List.not_mem_nil, or_false] at hv
    rcases hv with rfl | rfl | rfl | rfl
    · exact ⟨.int _, fun _ _ => rfl, by decide +kernel, rfl⟩
    · exact ⟨.int _, fun _ _ => rfl, by decide +kernel, rfl⟩
    · exact ⟨.non, fun _ _ => rfl, by decide +kernel, rfl⟩
    · exact ⟨.bl _, fun _ _ => rfl, by decide +kernel, rfl⟩
  have T2 := Tabs.kpC (Tabs.sm TT s1) (B.same s1) kp2
  -- the lambdas
  refine ⟨T2, fun f0 Ha0 e0 T0 lv0 _ => ⟨T0, fun f1 Ha1 e1 T1a lv1 _ => ⟨T1a, fun f2 Ha2 e2 T2a lv2 _ => ⟨by show 3 ≤ sizeLine; decide, fun la hla => ?_⟩⟩⟩⟩
  have sN := sNew (o := .lst [.ref f0, .ref f1, .ref f2]) (Same.refl Ha2) hla
  obtain ⟨HZ, hHZ⟩ : ∃ HZ, upd Ha2 la (.lst [.ref f0, .ref f1, .ref f2]) = HZ := ⟨_, rfl⟩
  have wZ : HZ la = some (.lst [.ref f0, .ref f1, .ref f2]) := hHZ ▸ upd_same
  rw [hHZ] at sN ⊢
  have eN : ExtN Ha2 HZ := ExtN.of sN
  have l0 := ((lv0.ext e1).ext e2).ext eN
  have l1 := (lv1.ext e2).ext eN
  have l2' := lv2.ext eN
  have nl : ∀ {xs : List V} (ps : Array Value), HO.lst xs ≠ .tbl ps := fun ps z => by cases z
  refine ⟨_, rfl, la, rfl, ⟨_, SqL.of wZ⟩, fun Dl hD => LM.lc_ask [f0, f1, f2] (by show 3 < 4; decide) (SqL.of (by rw [upd_ne (ne_of_none wZ hD)]; exact wZ)) (fun _ => rfl) ?_⟩
  have eG : ExtN HZ (upd HZ Dl (.lst [])) := ext_upd (fun _ _ x _ => x) hD
  refine ⟨RF.r0 K CS CR CN _, .head _, l0.ext eG, ask_g (l0.ext eG) (fun E Q' hE => ?_)⟩
  refine ⟨_, rfl, rfl, rfl, fun x dx nx ndx nex => ⟨x, dx, v, dv, 1, 0, 0, rfl, upd_same, hdv _ _, .inl ⟨hrd, Rsd.sm (sNew (sNew (Same.refl _) ndx) (by rw [upd_ne nex.symm]; exact nx)) ?_⟩⟩⟩
  subst hE
  refine why_err e.er e.xr (by decide) (.inl ⟨.inl rfl, rfl⟩) fun u0 G0 g0 hu0 => ?_
  have d0 : G0 Dl = some (.lst []) := g0 _ _ upd_same
  have eG1 : ExtN HZ (upd G0 Dl (.lst ([] ++ [.ref u0]))) := ext_upd (eG.trans (ExtN.of g0)) hD
  refine ⟨[], d0, by decide, SqL.of (eG1 _ _ wZ (fun ps z => nl ps z)), RF.r1 K CS CR CP _, .tail _ (.head _), l1.ext eG1, ask_g (l1.ext eG1) (fun E Q' hE => ?_)⟩
  refine ⟨rfl, _, rfl, v, .non, dv, .non, rfl, hdv _ _, rfl, .inl ⟨hrd, ?_⟩⟩
  subst hE
  refine why_err e.er e.xr (by decide) (.inl ⟨.inl rfl, rfl⟩) fun u1 G1 g1 hu1 => ?_
  have hu0a : upd G0 Dl (.lst ([] ++ [.ref u0])) u0 = some (.tup [.str "InvalidRoot", v]) := by rw [upd_ne (ne_of hu0 d0 (by intro z; cases z))]; exact hu0
  have dd1 : G1 Dl = some (.lst [.ref u0]) := g1 _ _ upd_same
  have eG2 : ExtN HZ (upd G1 Dl (.lst ([.ref u0] ++ [.ref u1]))) := ext_upd (eG1.trans (ExtN.of g1)) hD
  refine ⟨_, dd1, by show 1 < sizeLine; decide, SqL.of (eG2 _ _ wZ (fun ps z => nl ps z)), RF.r2 K CS CR CP _, .tail _ (.tail _ (.head _)), l2'.ext eG2, ask_g (l2'.ext eG2) (fun E Q' hE => ?_)⟩
  refine ⟨rfl, by show 2 ≤ sizeLine; decide, fun t1 ht1 => ⟨.int 5, .ref t1, .int 5, .tup [.int 1, .int 1], rfl, rfl, rp2 upd_same rfl rfl, .inr ⟨by decide +kernel, by decide +kernel, ?_⟩⟩⟩
  subst hE
  refine why_err e.ep e.xp (by decide) (.inl ⟨.inr (.inr rfl), rfl⟩) fun u2 G2 g2 hu2 => ?_
  have hu0b : upd G1 Dl (.lst ([.ref u0] ++ [.ref u1])) u0 = some (.tup [.str "InvalidRoot", v]) := by rw [upd_ne (ne_of hu0 d0 (by intro z; cases z))]; exact g1 _ _ hu0a
  have hu1b : upd G1 Dl (.lst ([.ref u0] ++ [.ref u1])) u1 = some (.tup [.str "InvalidRoot", v]) := by rw [upd_ne (ne_of hu1 dd1 (by intro z; cases z))]; exact hu1
  have gT := (sNew (o := .tup [.int 1, .int 1]) (Same.refl _) ht1).trans g2
  have hT1' : G2 t1 = some (.tup [.int 1, .int 1]) := g2 _ _ upd_same
  have dd2 : G2 Dl = some (.lst [.ref u0, .ref u1]) := gT _ _ upd_same
  have eG3 : ExtN HZ (upd G2 Dl (.lst ([.ref u0, .ref u1] ++ [.ref u2]))) := ext_upd (eG2.trans (ExtN.of gT)) hD
  refine ⟨_, dd2, by show 2 < sizeLine; decide, SqL.of (eG3 _ _ wZ (fun ps z => nl ps z)), ?_⟩
  have hx0 : upd G2 Dl (.lst ([.ref u0, .ref u1] ++ [.ref u2])) u0 = some (.tup [.str "InvalidRoot", v]) := by rw [upd_ne (ne_of hu0 d0 (by intro z; cases z))]; exact gT _ _ hu0b
  have hx1 : upd G2 Dl (.lst ([.ref u0, .ref u1] ++ [.ref u2])) u1 = some (.tup [.str "InvalidRoot", v]) := by rw [upd_ne (ne_of hu1 dd1 (by intro z; cases z))]; exact gT _ _ hu1b
  have hx2 : upd G2 Dl (.lst ([.ref u0, .ref u1] ++ [.ref u2])) u2 = some (.tup [.str "InvalidSlope", .ref t1]) := by rw [upd_ne (ne_of hu2 dd2 (by intro z; cases z))]; exact hu2
  have hxt : upd G2 Dl (.lst ([.ref u0, .ref u1] ++ [.ref u2])) t1 = some (.tup [.int 1, .int 1]) := by rw [upd_ne (ne_of hT1' dd2 (by intro z; cases z))]; exact hT1'
  have hx3 : upd G2 Dl (.lst ([.ref u0, .ref u1] ++ [.ref u2])) Dl = some (.lst [.ref u0, .ref u1, .ref u2]) := upd_same
  obtain ⟨G4, hG4⟩ : ∃ G4, upd G2 Dl (.lst ([.ref u0, .ref u1] ++ [.ref u2])) = G4 := ⟨_, rfl⟩
  rw [hG4] at hx0 hx1 hx2 hxt hx3 ⊢
  -- due
  refine ⟨_, rfl, by show 2 ≤ sizeLine; decide, fun q0 hq0 => ⟨_, rfl, by show 2 ≤ sizeLine; decide, fun q1 hq1 => ⟨by show 2 ≤ sizeLine; decide, fun q2 hq2 => ⟨by show 2 ≤ sizeLine; decide, fun q3 hq3 => ⟨by show 3 ≤ sizeLine; decide, fun l9 hl9 => ?_⟩⟩⟩⟩⟩
  have z1 := sNew (o := .tup [.str "InvalidRoot", v]) (Same.refl G4) hq0
  have z2 := sNew (o := .tup [.str "InvalidRoot", v]) (Same.refl _) hq1
  have z3 := sNew (o := .tup [.int 1, .int 1]) (Same.refl _) hq2
  have z4 := sNew (o := .tup [.str "InvalidSlope", .ref q2]) (Same.refl _) hq3
  have z5 := sNew (o := .lst [.ref q0, .ref q1, .ref q3]) (Same.refl _) hl9
  have zz := (((z1.trans z2).trans z3).trans z4).trans z5
  refine ⟨_, _, .lst [.tup [.str "InvalidRoot", dv], .tup [.str "InvalidRoot", dv], .tup [.str "InvalidSlope", .tup [.int 1, .int 1]]], rfl,
    rpL3 (zz _ _ hx3) (rp2 (zz _ _ hx0) rfl (hdv _ _)) (rp2 (zz _ _ hx1) rfl (hdv _ _)) (rp2 (zz _ _ hx2) rfl (rp2 (zz _ _ hxt) rfl rfl)),
    rpL3 upd_same (rp2 (z5 _ _ (z4 _ _ (z3 _ _ (z2 _ _ upd_same)))) rfl (hdv _ _)) (rp2 (z5 _ _ (z4 _ _ (z3 _ _ upd_same))) rfl (hdv _ _)) (rp2 (z5 _ _ upd_same) rfl (rp2 (z5 _ _ (z4 _ _ upd_same)) rfl rfl)), by simp [dep, depL, hdp], fun HH smH => kk _⟩
end
end RF

namespace RF
open PySem L2 PyProof.Rows EX
open LamX (Tabs TabS ExtN TabB CodeO)
abbrev sLaw : Stmt := top 35
abbrev n_law : List Str := ["_law_script", "_law_bag_here", "_law_turn", "_law_many", "_law_bottom", "_law_times", "_law_least", "_law_due", "_law_one", "_law_other", "_law_text", "_law_asks", "_law_i", "_law_j", "_law_odd", "_law_root_here", "_law_side", "_law_ask"]
theorem sc_law : FnScope n_law ["_law_script"] (defScope sLaw) := ⟨rfl, rfl, rfl, by decide +kernel, rfl, by decide +kernel, by decide +kernel⟩
def qL : Str := (("law" : Str) ++ ".<locals>.") ++ "<lambda>"
def TL (P0 P1 : Addr) : List (Addr × Str) := [(P0, qL), (P1, qR)]
def spLaw (K : PySem.W.Frag) (P0 P1 : Addr) : Sp := fun vs H Q _ => ∃ (a : Addr) (ns : List Int), vs = [.ref a] ∧ SqL K H a (ns.map V.int) ∧ ns.length ≤ 63 ∧ H P0 = some (.tbl #[]) ∧ H P1 = some (.tbl #[]) ∧ ∀ H', Q (.bl true) H'
structure EnvK (P : Program) (w : World) (K : PySem.W.Frag) (mg : Str → Option Value) (base : Heap) (CS CR CN CP c1 c2 c3 P1 : Addr) : Prop where
  x : EnvX P w K mg base CS CR CN CP c1 c2 c3
  bag : Df P w K mg base 9 "_law_bag" ["_law_script"] (spBag K)
  pull : Df P w K mg base 9 "_law_pull" ["_law_bag_here", "_law_sides"] spPullC
  root : Df P w K mg base 9 "_law_root" ["_law_bag_here"] spRootC
  far : Df P w K mg base 9 "_law_far" ["_law_bag_here", "_law_figures"] spFarC
  div : Df P w K mg base 9 "_law_divisor" ["_law_one", "_law_other"] spDiv
  lst : Df P w K mg base 9 "_law_slope_text" ["_law_i", "_law_j", "_law_k_z"] (Q.spD K mg false Q.fLst)
  slt : Df P w K mg base 9 "slope_text" ["slope"] (Q.spD K mg false Q.fSlope)
  ref_ : Df P w K mg base 12 "_law_surds_refused" ["_law_bag_here"] (spRef P1)
  mkS : MkS P w K mg base CS 6
  parts : Mt P w K mg base CS 9 "parts" ["self"] (spParts CS)
  text : Mt P w K mg base CS 9 "text" ["self"] (spText CS)
  rt : Pt P w K mg base CS 8 "root" (spSRoot CS)
  eqG : ∃ (f : Addr) (fd : FuncData), FnOk P w K mg base CX0 8 f fd ["self", "other"] (spEqG K CS) ∧ OwnEq K CS f ∧ Binds K fd ["self", "other"] []
  nf : PySem.W.notFirst K CS (.type "tuple") = true
  bool : ∃ f, FnR P w K mg base CX0 8 f (spBoolS CS) ∧ PySem.W.findIn K (.ref CS) "__bool__" = some (some (.ref f)) ∧ PySem.W.isFn K (.ref f) = true
  repr : ∃ (f : Addr) (fd : FuncData), FnOk P w K mg base CX0 8 f fd ["self"] (spReprS CS) ∧ PySem.W.findIn K (.ref CS) "__repr__" = some (some (.ref f)) ∧ PySem.W.isFn K (.ref f) = true ∧ Binds K fd ["self"] []
  TB_ : TB mg
  range : mg "range" = none
  str : mg "str" = none
  boolN : mg "bool" = none
  reprN : mg "repr" = none
section
variable {P : Program} {w : World} {K : PySem.W.Frag} {mg : Str → Option Value} {base : Heap}
abbrev lawTurn (i : Nat) : Stmt := stA i (forB (stA 1 (defBody sLaw)))
abbrev XL (P : Program) (w : World) (K : PySem.W.Frag) (mg : Str → Option Value) (base : Heap) (f c : Addr) (A : Around) (outer : List Env) (s : Shared) (H : Hp) (E : XK) : Cx := (cxOf CX0 P w K mg base n_law "law" (defScope sLaw) f (.ref c) A outer s H E).nox
theorem asks {f c CS CR CN CP c1 c2 c3 : Addr} {A : Around} {outer : List Env} {s : Shared} {H : Hp} {E : XK} (e : EnvX P w K mg base CS CR CN CP c1 c2 c3) (hr : Room 11 (XL P w K mg base f c A outer s H E).A) : LM.Asks (XL P w K mg base f c A outer s H E) "_law_why" qL 9 (TWhy K c1 c2 c3) := by
  obtain ⟨gw, ocw, odw, anw, kVw, docw, pmw, cdvw, ctw, oslw, mW, kW, lW, cW, bW⟩ := e.why.ex
  obtain ⟨gf, fdf, GF, mF, kF, bF⟩ := e.why.fld
  have hG := why_gives (X := XL P w K mg base f c A outer s H E) (g := gw) (cdg := cdvw) (q := qL) (k := 9) (hr.mono (by decide)) e.why.m1 e.why.m2 e.why.m3 GF mF kF bF
  exact ⟨⟨gw, _, _, _, .none, kVw, docw, pmw, cdvw, ctw, ocw, anw, odw, oslw, n_law_why, "_law_ask", mW, kW, lW, cW, bW, sc_law_why, rfl, .inl rfl, by decide, by decide, hG⟩, by decide⟩
abbrev lamE (i : Nat) : Expr := eltA i (valOf (lawTurn 13))
abbrev lcE : Expr := argA 0 (notA (ifT (lawTurn 14)))
abbrev m0 (K : PySem.W.Frag) (CS CR CN : Addr) (X : Cx) : LM.LEnt := ⟨LM.lamT (lamE 0), .plain, LM.clo X (LM.lamT (lamE 0)), fun E => tMake CS (spSInitX K CS CR CN) [.int 0, .int 1] E (tCons (tVar 14) (tCons (tC (.int 1)) tNil))⟩
abbrev m1 (K : PySem.W.Frag) (CS CR CN : Addr) (X : Cx) : LM.LEnt := ⟨LM.lamT (lamE 1), .dflt "_law_a" 0, LM.clo X (LM.lamT (lamE 1)), fun E => tMakeK CS 3 1 (spSInitX K CS CR CN) (fun vs zs => vs ++ zs) E (tCons (tVar 15) (tCons (tVar 12) (tCons (tVar 13) tNil))) (tCons (tC (.int 0)) tNil)⟩
abbrev ms (K : PySem.W.Frag) (CS CR CN : Addr) (X : Cx) : List LM.LEnt := [m0 K CS CR CN X, m1 K CS CR CN X]
section
variable {f c P0 P1 CS CR CN CP c1 c2 c3 : Addr} {A : Around} {outer : List Env} {s : Shared} {H : Hp} {E : XK}
theorem go0 (e : EnvX P w K mg base CS CR CN CP c1 c2 c3) : LM.LGo (XL P w K mg base f c A outer s H E) 9 (m0 K CS CR CN (XL P w K mg base f c A outer s H E)) := by
  obtain ⟨fi, fdi, M1, G, _, _, ⟨ds, vd, bd⟩⟩ := e.mkX
  refine LM.go_of ⟨_, _, _, _, rfl, by show LM.lsB n_law _ = true; decide +kernel, by show LM.freeB (defScope sLaw) _ = true; decide +kernel, ⟨rfl, rfl, fun _ _ _ _ _ _ => rfl⟩, trivial, fun A' outer' s' H' E' f' c' hr2 => ?_⟩
  exact pe_make (X := LM.lcx (XL P w K mg base f c A outer s H E) _ _ A' outer' s' H' E' _ f' c') M1 G hr2 (by rfl) e.T.mg bd vd LM.passL (pa_cons (pv 14) (pa_cons pe_int pa_nil))
theorem go1 (e : EnvX P w K mg base CS CR CN CP c1 c2 c3) : LM.LGo (XL P w K mg base f c A outer s H E) 9 (m1 K CS CR CN (XL P w K mg base f c A outer s H E)) := by
  obtain ⟨fi, fdi, M1, G, kb, _, _⟩ := e.mkX
  refine LM.go_of ⟨_, _, _, _, rfl, by show LM.lsB n_law _ = true; decide +kernel, by show LM.freeB (defScope sLaw) _ = true; decide +kernel, ⟨⟨_, _, rfl⟩, rfl, fun _ _ _ _ _ _ _ => ⟨_, rfl, fun _ => rfl⟩⟩, rfl, fun A' outer' s' H' E' f' c' hr2 => ?_⟩
  exact pe_makeK (X := LM.lcx (XL P w K mg base f c A outer s H E) _ _ A' outer' s' H' E' _ f' c') M1 G hr2 (by rfl) e.T.mg kb LM.passL (pa_cons (pv 15) (pa_cons (pv 12) (pa_cons (pv 13) pa_nil))) (pk_cons pe_int pk_nil)
theorem hT1 (n : P1 ≠ P0) : ∀ p ∈ TL P0 P1, p.1 = P0 → p.2 = qL := fun p hp h => by
  rcases List.mem_cons.mp hp with rfl | hp
  · rfl
  · rw [List.mem_singleton.mp hp] at h
    exact absurd h n
theorem lam0 (n : P1 ≠ P0) (tb : TabB base mg c P0) (e : EnvX P w K mg base CS CR CN CP c1 c2 c3) : PE (XL P w K mg base f c A outer s H E) (lamE 0) (LM.tLamV (TL P0 P1) (LM.lamT (lamE 0)) .plain qL (LM.clo (XL P w K mg base f c A outer s H E) (LM.lamT (lamE 0)))) :=
  LM.lamv_of ⟨_, rfl⟩ (go0 e) tb rfl (.head _) (hT1 n)
theorem lam1 (n : P1 ≠ P0) (tb : TabB base mg c P0) (e : EnvX P w K mg base CS CR CN CP c1 c2 c3) : PE (XL P w K mg base f c A outer s H E) (lamE 1) (LM.tLamV (TL P0 P1) (LM.lamT (lamE 1)) (.dflt "_law_a" 0) qL (LM.clo (XL P w K mg base f c A outer s H E) (LM.lamT (lamE 1)))) :=
  LM.lamv_of ⟨_, rfl⟩ (go1 e) tb rfl (.head _) (hT1 n)
theorem lcw (e : EnvX P w K mg base CS CR CN CP c1 c2 c3) (hr : Room 11 (XL P w K mg base f c A outer s H E).A) : PE (XL P w K mg base f c A outer s H E) lcE (tLc (iList K (tVar 11)) (gName 17) tYes (LM.tAskV (TWhy K c1 c2 c3) qL (ms K CS CR CN (XL P w K mg base f c A outer s H E)) 17) [17]) := by
  have nd := sc_law.nd
  refine LM.lcask_of (own := [("_law_ask", 17)]) (asks e hr) hr (fun m hm => ?_) rfl nd ⟨_, _, _, _, _, _, _, rfl, pi_list (pv 11), blkOk_by (own := [("_law_ask", 17)]) (N := n_law) (sc := defScope sLaw) (by decide +kernel), fun _ _ _ _ _ => pg_name (i := 17) nd rfl (Or.inl rfl), fun _ _ _ _ _ => rfl, fun _ _ _ _ _ => pv 17, fun _ => rfl, fun _ => rfl⟩
  simp only [ms, List.mem_cons, List.not_mem_nil, or_false] at hm
  rcases hm with rfl | rfl
  · exact ⟨go0 e, LM.off_by (by show LM.offB _ (LM.lamT (lamE 0)).scope = true; decide +kernel)⟩
  · exact ⟨go1 e, LM.off_by (by show LM.offB _ (LM.lamT (lamE 1)).scope = true; decide +kernel)⟩
end
/-! ### arithmetic of the law -/
theorem pI_zero {i j k : Int} (h : k ≠ 0) : pI i j k = 0 ↔ i = 0 := by
  have e := pI_eq (i := i) (j := j) h
  constructor
  · intro z; rw [z, Int.mul_zero] at e; exact e
  · intro z
    rw [z] at e
    rcases Int.mul_eq_zero.mp e.symm with g | g
    · exact absurd g (by have := gs_ne (i := 0) (j := j) h; exact this)
    · rw [z]; exact g
theorem pJ_zero {i j k : Int} (h : k ≠ 0) : pJ i j k = 0 ↔ j = 0 := by
  have e := pJ_eq (i := i) (j := j) h
  constructor
  · intro z; rw [z, Int.mul_zero] at e; exact e
  · intro z
    rw [z] at e
    rcases Int.mul_eq_zero.mp e.symm with g | g
    · exact absurd g (by have := gs_ne (i := i) (j := 0) h; exact this)
    · rw [z]; exact g
theorem eqTD (d i j k : Int) : (decide (d = d) && PyData.eqv (TD i j k) (TD i j k)) = true := by
  rw [decide_eq_true rfl, SeqAt.eqv_refl _ rfl]; rfl
theorem eqv3 {a b c a2 b2 c2 : Int} (h : PyData.eqv (.tuple [.int a, .int b, .int c]) (.tuple [.int a2, .int b2, .int c2]) = true) : a = a2 ∧ b = b2 ∧ c = c2 := by
  simpa [PyData.eqv, PyData.eqvAll] using h
theorem neTD {d i j k : Int} (hk : k ≠ 0) : (decide (d = d) && PyData.eqv (TD i j k) (TD (i + 1) j k)) = false := by
  rw [decide_eq_true rfl, Bool.true_and, Bool.eq_false_iff]
  intro h
  obtain ⟨h1, h2, h3⟩ := eqv3 h
  have a1 := pI_eq (i := i) (j := j) hk
  have a3 := pK_eq (i := i) (j := j) hk
  have b1 := pI_eq (i := i + 1) (j := j) hk
  have b3 := pK_eq (i := i + 1) (j := j) hk
  have kp := pK_pos (i := i) (j := j) hk
  rw [← h1] at b1
  rw [← h3] at b3
  have e : gs i j k = gs (i + 1) j k := by
    have : gs i j k * pK i j k = gs (i + 1) j k * pK i j k := by rw [← a3, ← b3]
    exact Int.eq_of_mul_eq_mul_right (by omega) this
  rw [← e, ← a1] at b1
  omega
theorem le_gs {i j k : Int} (hk : k ≠ 0) : ((Nat.gcd (((Nat.gcd i.natAbs j.natAbs : Nat) : Int)).natAbs k.natAbs : Nat) : Int) * (if 0 < k then 1 else -1) = gs i j k := by
  unfold gs gc
  rw [Int.natAbs_natCast]
  by_cases h : k < 0
  · rw [if_neg (by omega), if_pos h]; omega
  · rw [if_pos (by omega), if_neg h]; omega
end
end RF

set_option linter.all false
/-! xs != ys of two lists whose items are equal by an own __eq__ -/
namespace RF
open PySem PySem.Spec PySem.Calls PySem.SeqAt PyProof.Rows L2
open MeetsSeq MeetsSeq2 MeetsSeq3 SeqRoads2
section
variable {prog : Program} {w : World} {A : Around} {R : Result → Shared → Prop}
theorem nel_turns (p q : Addr) (N : Nat) (J : Nat → Shared → Prop) (hl : GQ.ListI prog w A (fun e t => R (.error e) t) p q N J) (done : ∀ t, J N t → R (.ok (.ret (.bool false))) t) :
    ∀ (left j : Nat), j + left = N → ∀ t, J j t → wpAny (model prog w) A.in1 (Builtin.«list.__eq__.loop» ⟨[.ref p, .ref q, rawInt j, rawInt 3], []⟩) (GQ.FinOf prog w A R) (fun e t' => R (.error e) t') t
  | 0, j, hj, t, hJ => by
    obtain ⟨us, vs, nu, nv, gp, gq, su, sv, _⟩ := hl _ _ hJ
    have stop := done t (by rw [← hj]; exact hJ)
    obtain ⟨hh, gg, dd, kk, oo⟩ := t
    wp_walk using AutoSeq1.wpAny_loadPart' gp, AutoSeq1.wpAny_loadPart' gq
    rw [show us[((j : Nat) : Int).toNat]? = none by simp; omega, show vs[((j : Nat) : Int).toNat]? = none by simp; omega]
    wp_walk using AutoSeq1.wpAny_loadPart' gp, AutoSeq1.wpAny_loadPart' gq
    show R (.ok (.ret (.bool (us.size != vs.size)))) _
    rw [su, sv, bne_self_eq_false]
    exact stop
  | left + 1, j, hj, t, hJ => by
    obtain ⟨us, vs, nu, nv, gp, gq, su, sv, eqs⟩ := hl _ _ hJ
    have ju : j < us.size := by omega
    have jv : j < vs.size := by omega
    have one := eqs ju jv
    obtain ⟨hh, gg, dd, kk, oo⟩ := t
    wp_walk using AutoSeq1.wpAny_loadPart' gp, AutoSeq1.wpAny_loadPart' gq
    rw [show us[((j : Nat) : Int).toNat]? = some us[j] by simp [ju], show vs[((j : Nat) : Int).toNat]? = some vs[j] by simp [jv]]
    refine wpAny_bind (wpAny_mono one (fun r t2 z => ?_) fun _ _ z => z)
    obtain ⟨er, J2⟩ := z
    subst er
    have next := nel_turns p q N J hl done left (j + 1) (by omega) t2 J2
    obtain ⟨h2, g2, d2, k2, o2⟩ := t2
    wp_walk
    rw [show ((j : Int) + 1) = ((j + 1 : Nat) : Int) by omega]
    refine ⟨plainId_quiet plain_eq_loop _, codeAny_builtin entry_eq_loop ?_⟩
    rw [Around.under_plainId plain_eq_loop _]
    exact next
theorem nel_body (p q : Addr) (N : Nat) (J : Nat → Shared → Prop) (hl : GQ.ListI prog w A (fun e t => R (.error e) t) p q N J) (done : ∀ t, J N t → R (.ok (.ret (.bool false))) t) {t : Shared} (hJ : J 0 t) :
    wpAny (model prog w) A.in1 (Builtin.«list.__ne__» ⟨[.ref p, .ref q], []⟩) (GQ.FinOf prog w A R) (fun e t' => R (.error e) t') t := by
  obtain ⟨us, vs, nu, nv, gp, gq, su, sv, _⟩ := hl _ _ hJ
  have turns := nel_turns (A := A) (R := R) p q N J hl done N 0 (Nat.zero_add N) t hJ
  obtain ⟨hh, gg, dd, kk, oo⟩ := t
  have isL := AutoSeq1.sub_list_list
  have same : ¬ (us.size != vs.size) = true := by rw [su, sv, bne_self_eq_false]; decide
  wp_walk using AutoSeq1.wpAny_loadPart' gp, AutoSeq1.wpAny_loadPart' gq
  refine ⟨plainId_quiet plain_eq_loop _, codeAny_builtin entry_eq_loop ?_⟩
  rw [Around.under_plainId plain_eq_loop _]
  exact turns
end
section
variable {prog : Program} {w : World} {A : Around} {E : Value → Shared → Prop} {s : Shared}
theorem nel_rich {p q : Addr} {N : Nat} {Q : Value → Shared → Prop} (hu : A.units < cLine) (J : Nat → Shared → Prop) (hl : GQ.ListI prog w A E p q N J) (done : ∀ t, J N t → Q (.bool false) t) (hJ : J 0 s) : wpAny (model prog w) A (richCompare .NotEq (.ref p) (.ref q)) Q E s := by
  obtain ⟨us, vs, nu, nv, gp, gq, _, _, _⟩ := hl _ _ hJ
  refine wpAny_richCompare_same_room (op := .NotEq) ⟨_, gp, rfl⟩ ⟨_, gq, rfl⟩ PySem.F.slot_list_ne (GQ.call_here PySem.F.slot_list_ne ⟨_, gp, rfl⟩ PySem.F.entry_list_ne (PySem.F.args_list_ne_2 _ _) ?_) hu
  exact nel_body (R := wants (fun v t => v ≠ .notImplemented ∧ Q v t) E) p q N J hl (fun t z => ⟨(fun x => nomatch x), done t z⟩) hJ
end
section
variable {X : Cx} {n : Nat} {D : Eqv}
/-- xs != ys, false: the items are equal by D -/
def rNeG (D : Eqv) : R2 := fun x y H Q => DList D x y H ∧ ∀ H', Ext H H' → Q (.bl false) H'
theorem op_neG (hD : Mon D) (h : EqG X n D) (hr : Room (n + 1) X.A) : OpR X (compareOp .NotEq) (rNeG D) := by
  intro pins s σ H x y v u Q I rx ry hq
  obtain ⟨⟨a, b, xs, ys, rfl, rfl, ha, hb, pr⟩, q⟩ := hq
  cases rx; cases ry
  show wpAny (model X.prog X.w) X.A (richCompare .NotEq (.ref a) (.ref b)) _ _ s
  refine nel_rich (N := xs.length) hr.units0 (fun _ t => LoopI X pins σ H t) (fun i t z => ?_) (fun t z => ?_) ⟨H, I, Ext.rfl'⟩
  · obtain ⟨H1, I1, e1⟩ := id z
    obtain ⟨_, us, k1, r1, g1⟩ := I1.hok a _ (e1 _ _ ha)
    obtain ⟨_, vs, k2, r2, g2⟩ := I1.hok b _ (e1 _ _ hb)
    refine ⟨us.toArray, vs.toArray, k1, k2, g1, g2, by rw [List.size_toArray]; exact r1.length.symm, by rw [List.size_toArray, pr.1]; exact r2.length.symm, fun h1 h2 => turnG hD h ⟨hr, rfl⟩ pr r1 r2 i h1 h2 t z⟩
  · obtain ⟨H', I', ex⟩ := z
    exact ⟨.bl false, H', I', rfl, q H' ex⟩
end
end RF

namespace RF
open PySem L2 PyProof.Rows EX
open LamX (Tabs TabS ExtN TabB CodeO)
section
variable {P : Program} {w : World} {K : PySem.W.Frag} {mg : Str → Option Value} {base : Heap}
abbrev tEl : TE := tOp (rI CMulW fun i j => .int (i * j)) (tOp (rI0 fun i j => .int (i - j)) (tCall spFarC [] E0 (tCons (tVar 1) (tCons (tVar 3) tNil))) (tCall spFarC [] E0 (tCons (tVar 1) (tCons (tVar 3) tNil)))) (tOp (rI0 fun i j => .int (i + j)) (tOp (rI CDiv fun i j => .int (i / j)) (tCall spPullC [] E0 (tCons (tVar 1) (tCons (tC (.int 4)) tNil))) (tC (.int 2))) (tC (.int 1)))
theorem big40 {n m : Int} (m0 : 0 < m) (m1 : m ≤ 40) (h : n < 10 ^ m.toNat) : n < 10 ^ 40 := Int.lt_of_lt_of_le h (by
  have : (10 : Int) ^ m.toNat ≤ 10 ^ 40 := by exact_mod_cast Nat.pow_le_pow_right (by decide : 0 < 10) (show m.toNat ≤ 40 by omega)
  exact this)
theorem bd140 {i : Int} (h : i.natAbs < 10 ^ 41) : Bd 140 i := Nat.lt_of_lt_of_le h (by decide +kernel)
theorem svR {H : Hp} {C p : Addr} {d i j k : Int} (h : SV H C p d i j k) : SV H C p d (pI i j k) (pJ i j k) (pK i j k) := by
  have k0 := h.1
  have kp := pK_pos (i := i) (j := j) k0
  have a1 := pI_eq (i := i) (j := j) k0
  have a2 := pJ_eq (i := i) (j := j) k0
  have a3 := pK_eq (i := i) (j := j) k0
  refine SV.cong h (by omega) ?_ ?_
  · generalize gs i j k = g at *
    generalize pI i j k = X at *
    generalize pK i j k = Z at *
    rw [a1, a3]; grind
  · generalize gs i j k = g at *
    generalize pJ i j k = X at *
    generalize pK i j k = Z at *
    rw [a2, a3]; grind
theorem rpL2 {K : PySem.W.Frag} {H : Hp} {a : Addr} {v1 v2 : V} {d1 d2 : D} (h : H a = some (.lst [v1, v2])) (r1 : Rp K H v1 d1) (r2 : Rp K H v2 d2) : Rp K H (.ref a) (.lst [d1, d2]) := ⟨a, _, rfl, SqL.of h, by show 2 ≤ 100000; decide, _, _, rfl, r1, _, _, rfl, r2, rfl⟩
theorem rootT {d : Int} (hd : Root d) : rootD (.int d) = true := decide_eq_true (by unfold Root at hd; simp; omega)
theorem ok_law {f c P0 P1 CS CR CN CP c1 c2 c3 : Addr} {kV doc pm ct oc : Value} {an od : Option Addr} {osl : Array (Option Value)} (lk : K.lookup f = some ⟨oc, od, .func (PySem.W.fnOf "law" "law" (defArgs sLaw) (defBody sLaw) (defScope sLaw) .none kV doc pm an (.ref c) ct), osl⟩) (hcd : PySem.W.codeIn K (.ref c) "law" = true)
    (tb : TabB base mg c P0) (nP : P1 ≠ P0) (e : EnvK P w K mg base CS CR CN CP c1 c2 c3 P1) : FnOk P w K mg base CX0 13 f (PySem.W.fnOf "law" "law" (defArgs sLaw) (defBody sLaw) (defScope sLaw) .none kV doc pm an (.ref c) ct) ["_law_script"] (spLaw K P0 P1) := by
  refine fn_of lk hcd sc_law (fun vs H Q E h => by obtain ⟨a, ns, rfl, _⟩ := h; rfl) fun A outer s H vs R E hr h => ?_
  obtain ⟨a, ns, rfl, hS, hl, hP0, hP1, kk⟩ := h
  have nd := sc_law.nd
  have T := e.x.T
  obtain ⟨fS, fdS, MS, GS, kbS, _, ⟨dsS, vS, bS⟩⟩ := e.mkS.ex
  obtain ⟨feq, fdeq, GE, OE, bE⟩ := e.eqG
  obtain ⟨fbo, GB, OB1, OB2⟩ := e.bool
  obtain ⟨frp, fdrp, GR, OR1, OR2, bR⟩ := e.repr
  have hr11 : Room 11 (A.deeper (envOfC "law" (defScope sLaw) s.heap.objs.size f (.ref c))) := hr.mono (by decide)
  have hr10 : Room 10 (A.deeper (envOfC "law" (defScope sLaw) s.heap.objs.size f (.ref c))) := hr.mono (by decide)
  have hr9 : Room 9 (A.deeper (envOfC "law" (defScope sLaw) s.heap.objs.size f (.ref c))) := hr.mono (by decide)
  have hr8 : Room 8 (A.deeper (envOfC "law" (defScope sLaw) s.heap.objs.size f (.ref c))) := hr.mono (by decide)
  have hr7 : Room 7 (A.deeper (envOfC "law" (defScope sLaw) s.heap.objs.size f (.ref c))) := hr.mono (by decide)
  suffices hs : ∃ t, PSs (cxOf CX0 P w K mg base n_law "law" (defScope sLaw) f (.ref c) A outer s H E).nox (defBody sLaw) t ∧ t { nx := fun _ H' => R .non H', rt := R } (start n_law [.ref a]) H by
    obtain ⟨t, h1, h2⟩ := hs
    exact ⟨t, h1.nox, h2⟩
  refine ⟨_, (pss_cons (ps_set (i := 1) nd rfl (Or.inr rfl) (pe_callD e.bag hr (by decide) (pa_cons (pv 0) pa_nil)))
      (pss_cons (ps_for PassesOwn.never rfl (pi_range1 rfl e.range (pa_cons pe_int pa_nil)) (pg_name (i := 2) nd rfl (Or.inl rfl))
      (pss_cons (ps_asg (pe_tup (pa_cons (pe_callD e.root hr (by decide) (pa_cons (pv 1) pa_nil)) (pa_cons (pe_callD e.x.of_ hr (by decide) (pa_cons (pv 1) (pa_cons (pe_lst (pa_cons pe_int (pa_cons pe_int (pa_cons pe_int pa_nil)))) pa_nil))) pa_nil))) (pg_tup rfl (pgs_cons (pg_name (i := 15) nd rfl (Or.inr rfl)) (pgs_cons (pg_name (i := 3) nd rfl (Or.inr rfl)) pgs_nil))))
        (pss_cons (ps_asg (pe_lc (own := [("_law_side", 16)]) (g := gName 16) (tt := tYes) (te := tEl) (by rfl) nd (pi_range1 rfl e.range (pa_cons pe_int pa_nil)) (blkOk_by (own := [("_law_side", 16)]) (N := n_law) (sc := defScope sLaw) (by decide +kernel)) (fun _ _ _ _ _ => (pg_name (i := 16) nd rfl (Or.inl rfl))) (fun _ _ _ _ _ => pts_nil) (fun _ _ _ _ _ => (pe_op op_mulW (pe_op op_sub (pe_callD e.far hr (by decide) (pa_cons (pv 1) (pa_cons (pv 3) pa_nil))) (pe_callD e.far hr (by decide) (pa_cons (pv 1) (pa_cons (pv 3) pa_nil)))) (pe_op op_add (pe_op op_fdiv (pe_callD e.pull hr (by decide) (pa_cons (pv 1) (pa_cons pe_int pa_nil))) pe_int) pe_int)))) (pg_lst rfl (pgs_cons (pg_name (i := 12) nd rfl (Or.inr rfl)) (pgs_cons (pg_name (i := 13) nd rfl (Or.inr rfl)) pgs_nil))))
        (pss_cons (ps_asg (pe_tup (pa_cons (pe_op op_mulW (pv 12) (pe_callTy call_int1 (by rfl) e.TB_.int (by decide +kernel) (pa_cons (pe_cmpR op_gt (pe_callD e.pull hr (by decide) (pa_cons (pv 1) (pa_cons pe_int pa_nil))) pe_int (nomark _)) pa_nil))) (pa_cons (pe_op op_mulW (pv 13) (pe_callTy call_int1 (by rfl) e.TB_.int (by decide +kernel) (pa_cons (pe_cmpR op_gt (pe_callD e.pull hr (by decide) (pa_cons (pv 1) (pa_cons pe_int pa_nil))) pe_int (nomark _)) pa_nil))) pa_nil))) (pg_tup rfl (pgs_cons (pg_name (i := 12) nd rfl (Or.inr rfl)) (pgs_cons (pg_name (i := 13) nd rfl (Or.inr rfl)) pgs_nil))))
        (pss_cons (ps_set (i := 4) nd rfl (Or.inl rfl) (pe_op op_mulW (pe_op op_add pe_int (pe_callD e.pull hr (by decide) (pa_cons (pv 1) (pa_cons pe_int pa_nil)))) (pe_callD e.x.of_ hr (by decide) (pa_cons (pv 1) (pa_cons (pe_lst (pa_cons pe_int (pa_cons pe_int (pa_cons (pe_un un_neg pe_int) pa_nil)))) pa_nil)))))
        (pss_cons (ps_set (i := 5) nd rfl (Or.inl rfl) (pe_callD e.x.of_ hr (by decide) (pa_cons (pv 1) (pa_cons (pe_lst (pa_cons pe_int (pa_cons pe_int (pa_cons (pe_un un_neg pe_int) (pa_cons (pe_op op_pow pe_int pe_int) pa_nil))))) pa_nil))))
        (C8.pss_cut (ps_set (i := 6) nd rfl (Or.inl rfl) (pe_op op_mulW (pe_callD e.div hr (by decide) (pa_cons (pe_callD e.div hr (by decide) (pa_cons (pv 12) (pa_cons (pv 13) pa_nil))) (pa_cons (pv 4) pa_nil))) (pe_ifExp (pt_cmpR op_gt (pv 4) pe_int (nomark _)) pe_int (pe_un un_neg pe_int))))
        (pss_cons (ps_set (i := 7) nd rfl (Or.inl rfl) (pe_tup (pa_cons (pe_op op_fdivNW (pv 12) (pv 6)) (pa_cons (pe_op op_fdivNW (pv 13) (pv 6)) (pa_cons (pe_op op_fdivNW (pv 4) (pv 6)) pa_nil)))))
        (pss_cons (ps_par (i := 8) (j := 9) rfl nd rfl rfl (by decide) rfl rfl (pa_cons (pe_makeK MS GS hr7 (by rfl) T.mg kbS pass0 (pa_cons (pv 15) (pa_cons (pv 12) (pa_cons (pv 13) pa_nil))) (pk_cons (pv 4) pk_nil)) (pa_cons (pe_makeK MS GS hr7 (by rfl) T.mg kbS pass0 (pa_cons (pv 15) (pa_cons (pe_op op_mulW (pv 12) (pv 5)) (pa_cons (pe_op op_mulW (pv 13) (pv 5)) pa_nil))) (pk_cons (pe_op op_mulW (pv 4) (pv 5)) pk_nil)) pa_nil)) (by kernel_rfl))
        (pss_cons (ps_if (pw_or (pt_not (pt_val (pe_callD e.x.same hr (by decide) (pa_cons (pe_lst (pa_cons (pe_mt0 (pv 8) T.cl e.parts hr (by decide)) (pa_cons (pe_mt0 (pv 9) T.cl e.parts hr (by decide)) (pa_cons (pe_pt (pv 8) T.cl e.rt hr (by decide)) pa_nil)))) (pa_cons (pe_lst (pa_cons (pv 7) (pa_cons (pv 7) (pa_cons (pv 15) pa_nil)))) pa_nil))))) (pw_or1 (pt_cmpR (op_neOwn GE hr9 OE bE pass0) (pv 8) (pv 9) (nomark _)))).pt
        (pss_one (ps_ret pe_bl))
        pss_nil)
        (pss_cons (ps_set (i := 10) nd rfl (Or.inl rfl) (pe_callD e.lst hr (by decide) (pa_cons (pe_ix ix_tup (pv 7) pe_int (fun _ _ => rfl)) (pa_cons (pe_ix ix_tup (pv 7) pe_int (fun _ _ => rfl)) (pa_cons (pe_ix ix_tup (pv 7) pe_int (fun _ _ => rfl)) pa_nil)))))
        (pss_cons (ps_if (pt_not (pt_val (pe_callD e.x.same hr (by decide) (pa_cons (pe_lst (pa_cons (pe_mt0 (pv 8) T.cl e.text hr (by decide)) (pa_cons (pe_callD e.slt hr (by decide) (pa_cons (pv 7) pa_nil)) (pa_cons (pe_callB (cr_reprOwn GR hr9 OR1 OR2 bR pass0) (by rfl) e.reprN (by decide +kernel) (pa_cons (pv 9) pa_nil)) pa_nil)))) (pa_cons (pe_lst (pa_cons (pv 10) (pa_cons (pv 10) (pa_cons (pe_op op_add_str (pe_op op_add_str (pe_op op_add_str (pe_op op_add_str pe_str (pv 10)) pe_str) (pe_callTy call_str_int (by rfl) e.str (by decide +kernel) (pa_cons (pv 15) pa_nil))) pe_str) pa_nil)))) pa_nil)))))
        (pss_one (ps_ret pe_bl))
        pss_nil)
        (C8.pss_cut (ps_if (pw_or (pt_cmpR (op_eqOwn GE hr8 OE bE pass0) (pv 8) (pe_makeK MS GS hr7 (by rfl) T.mg kbS pass0 (pa_cons (pv 15) (pa_cons (pe_op op_add (pv 12) pe_int) (pa_cons (pv 13) pa_nil))) (pk_cons (pv 4) pk_nil)) (nomark _)) (pw_or (pt_cmpR (op_eqOwnT GE hr8 OE e.nf bE pass0) (pv 8) (pv 7) (nomark _)) (pw_or1 (pt_cmpR op_ne (pe_callTy (call_bool_own GB hr10 OB1 OB2 pass0) (by rfl) e.boolN (by decide +kernel) (pa_cons (pv 8) pa_nil)) (pe_or (pe_cmpR op_ne (pv 12) pe_int (nomark _)) (pe_one (pe_cmpR op_ne (pv 13) pe_int (nomark _)))) (nomark _))))).pt
        (pss_one (ps_ret pe_bl))
        pss_nil)
        (pss_cons (ps_set (i := 14) nd rfl (Or.inr rfl) (pe_callD e.x.of_ hr (by decide) (pa_cons (pv 1) (pa_cons (pe_lst (pa_cons pe_int (pa_cons pe_int (pa_cons pe_int (pa_cons pe_int (pa_cons pe_bl (pa_cons pe_non (pa_cons pe_str (pa_cons (pe_op op_pow pe_int pe_int) pa_nil))))))))) pa_nil))))
        (pss_cons (ps_set (i := 11) nd rfl (Or.inl rfl) (pe_lst (pa_cons (lam0 nP tb e.x) (pa_cons (lam1 nP tb e.x) pa_nil))))
        (pss_one (ps_if (pt_not (pt_val (pe_callD e.x.same hr (by decide) (pa_cons (lcw e.x hr11) (pa_cons (pe_lst (pa_cons (pe_tup (pa_cons pe_str (pa_cons (pv 14) pa_nil))) (pa_cons (pe_tup (pa_cons pe_str (pa_cons pe_int pa_nil))) pa_nil))) pa_nil)))))
        (pss_one (ps_ret pe_bl))
        pss_nil)))))))))))))))))
      (pss_one (ps_ret (pe_and (pe_callD e.ref_ hr (Nat.le_refl _) (pa_cons (pv 1) pa_nil)) (pe_and (pe_cmpR (op_eqD hr.units) (pe_mt0 (pe_make MS GS hr7 (by rfl) T.mg bS vS pass0 (pa_cons pe_int (pa_cons pe_int pa_nil))) T.cl e.parts hr (by decide)) (pe_tup (pa_cons pe_int (pa_cons pe_int (pa_cons pe_int pa_nil)))) (nomark _)) (pe_one (pe_cmpR (op_neOwn GE hr9 OE bE pass0) (pe_make MS GS hr7 (by rfl) T.mg bS vS pass0 (pa_cons pe_int (pa_cons pe_int pa_nil))) (pe_make MS GS hr7 (by rfl) T.mg bS vS pass0 (pa_cons pe_int (pa_cons pe_int pa_nil))) (nomark _))))))))), ?_⟩
  refine ⟨_, rfl, a, ns, rfl, hS, hl, fun b H1 nb B1 sm1 => ?_⟩
  obtain ⟨c0, B1⟩ := B1.here
  have T1 : Tabs (TL P0 P1) H1 := fun p hp => by
    rcases List.mem_cons.mp hp with rfl | hp
    · exact TabS.nil (sm1 _ _ hP0)
    · rw [List.mem_singleton.mp hp]; exact TabS.nil (sm1 _ _ hP1)
  refine ⟨6, rfl, by decide, by decide, for_range (n := 6) (fun _ σ H' => ∃ v2 v3 v4 v5 v6 v7 v8 v9 v10 v11 v12 v13 v14 v15 : Option V,
      σ = [some (.ref a), some (.ref b), v2, v3, v4, v5, v6, v7, v8, v9, v10, v11, v12, v13, v14, v15, none, none] ∧ BagAt H' b c0 ∧ Tabs (TL P0 P1) H')
    ⟨none, none, none, none, none, none, none, none, none, none, none, none, none, none, rfl, B1, T1⟩ ?_ ?_⟩
  · rintro i0 σ H2 hi0 ⟨v2, v3, v4, v5, v6, v7, v8, v9, v10, v11, v12, v13, v14, v15, rfl, B2, T2⟩
    -- root, many
    refine ⟨_, rfl, b, c0, rfl, B2, fun d H3 hd0 B3 kp3 => ?_⟩
    have hd : Root d := by unfold Root; omega
    have T3 := Tabs.kpC T2 B2 kp3
    refine ⟨_, rfl, by show 3 ≤ sizeLine; decide, fun p1 hp1 => ?_⟩
    have s4 := sNew (o := .lst [.int 1, .int 2, .int 40]) (Same.refl H3) hp1
    refine ⟨b, c0, p1, _, rfl, B3.same s4, SqL.of upd_same, (B3.off hp1).1, by show 0 < 3; decide, by show 3 < 1000000; decide, fun v H5 hv B5 kp5 => ?_⟩
    obtain ⟨mm, rfl, mm0, mm1⟩ : ∃ mm, v = V.int mm ∧ 0 < mm ∧ mm ≤ 40 := by
      simp only [List.mem_cons, List.not_mem_nil, or_false] at hv
      rcases hv with rfl | rfl | rfl
      · exact ⟨_, rfl, by decide, by decide⟩
      · exact ⟨_, rfl, by decide, by decide⟩
      · exact ⟨_, rfl, by decide, by decide⟩
    have T5 := Tabs.kpC (Tabs.sm T3 s4) (B3.same s4) kp5
    refine ⟨by show 2 ≤ sizeLine; decide, fun t1 ht1 => ⟨t1, _, rfl, SqT.of upd_same, rfl, _, _, rfl, _, _, rfl, rfl, ?_⟩⟩
    have s6 := sNew (o := .tup [.int d, .int mm]) (Same.refl H5) ht1
    have B6 := B5.same s6
    have T6 := Tabs.sm T5 s6
    obtain ⟨H6, hH6⟩ : ∃ H6, upd H5 t1 (.tup [.int d, .int mm]) = H6 := ⟨_, rfl⟩
    rw [hH6] at s6 B6 T6 ⊢
    -- i, j
    refine ⟨2, rfl, by decide, by decide, fun D1 hD1 => ?_⟩
    have nD := B6.off hD1
    refine lc_range (n := 2) (fun u H' => ∃ ws : List Int, ws.length = u ∧ (∀ i ∈ ws, i.natAbs < 10 ^ 41) ∧ H' D1 = some (.lst (ws.map V.int)) ∧ BagAt H' b c0 ∧ Kp b H6 H') ⟨[], rfl, by simp, upd_same, B6.put nD, Kp.of (sNew (Same.refl _) hD1)⟩ ?_ ?_
    · rintro u H7 hu ⟨ws, hw, bw, hD7, B7, kp7⟩
      refine ⟨rfl, yes_if ?_⟩
      refine ⟨_, rfl, _, rfl, b, c0, mm, rfl, B7, mm0, by omega, fun x1 Ha x10 x11 Ba kpa => ⟨_, rfl, _, rfl, b, c0, mm, rfl, Ba, mm0, by omega, fun x2 Hb x20 x21 Bb kpb => ⟨_, _, rfl, rfl, ?_⟩⟩⟩
      have y1 := big40 mm0 mm1 x11
      have y2 := big40 mm0 mm1 x21
      have bx : (x1 - x2).natAbs < 10 ^ 40 := by omega
      refine ⟨_, rfl, b, c0, 4, rfl, Bb, by decide, by decide, fun pp Hc p0 p1 Bc kpc => ⟨_, _, rfl, rfl, ?_, _, _, rfl, rfl, _, _, rfl, rfl, mulOk (n := 134) (m := 2) (Nat.lt_of_lt_of_le bx (by decide +kernel)) (by unfold Bd; omega) (by decide) (by decide) (by decide), ?_⟩⟩
      · exact ⟨by decide, by decide⟩
      have hDc := kpc _ _ nD.1 (kpb _ _ nD.1 (kpa _ _ nD.1 hD7))
      refine ⟨_, hDc, by rw [List.length_map, hw, sizeLine_eq]; omega, ws ++ [(x1 - x2) * (pp / 2 + 1)], by rw [List.length_append, hw]; rfl, fun j hj => ?_, ?_, Bc.put nD, (kp7.trans ((kpa.trans kpb).trans kpc)).up hD1⟩
      · rcases List.mem_append.mp hj with h | h
        · exact bw j h
        · rw [List.mem_singleton.mp h, Int.natAbs_mul]
          have h2 : (pp / 2 + 1).natAbs ≤ 2 := by omega
          exact Nat.lt_of_le_of_lt (Nat.mul_le_mul_left _ h2) (by omega)
      · rw [upd_same, List.map_append]; rfl
    rintro H7 ⟨ws, hw, bw, hD7, B7, kp7⟩
    obtain ⟨i1, j1, rfl⟩ : ∃ i1 j1, ws = [i1, j1] := by
      match ws, hw with
      | [x1, x2], _ => exact ⟨x1, x2, rfl⟩
    have bi1 := bw i1 (by simp)
    have bj1 := bw j1 (by simp)
    have T7 := Tabs.kpC T6 B6 kp7
    refine ⟨D1, _, rfl, SqL.of hD7, rfl, _, _, rfl, _, _, rfl, rfl, ?_⟩
    have b01 : ∀ c : Bool, Bd 2 (if c = true then (1 : Int) else 0) := fun c => by cases c <;> (unfold Bd; decide)
    have zb : ∀ (i : Int) (c : Bool), i.natAbs < 10 ^ 41 → (i * (if c = true then (1 : Int) else 0)).natAbs < 10 ^ 41 := fun i c h => by
      cases c
      · simp
      · simpa using h
    -- zeros
    refine ⟨_, rfl, _, rfl, b, c0, 5, rfl, B7, by decide, by decide, fun e1 H8 e10 e11 B8 kp8 => ⟨_, _, rfl, rfl, .inr ⟨_, rfl, _, _, rfl, rfl, mulOk (bd140 bi1) (b01 _) (by decide) (by decide) (by decide), ?_⟩⟩⟩
    refine ⟨_, rfl, _, rfl, b, c0, 5, rfl, B8, by decide, by decide, fun e2 H9 e20 e21 B9 kp9 => ⟨_, _, rfl, rfl, .inr ⟨_, rfl, _, _, rfl, rfl, mulOk (bd140 bj1) (b01 _) (by decide) (by decide) (by decide), ?_⟩⟩⟩
    have T9 := Tabs.kpC (Tabs.kpC T7 B7 kp8) B8 kp9
    refine ⟨by show 2 ≤ sizeLine; decide, fun t2 ht2 => ⟨t2, _, rfl, SqT.of upd_same, rfl, _, _, rfl, _, _, rfl, rfl, ?_⟩⟩
    obtain ⟨ii, hii, bii⟩ : ∃ ii, i1 * (if decide (0 < e1) = true then (1 : Int) else 0) = ii ∧ ii.natAbs < 10 ^ 41 := ⟨_, rfl, zb _ _ bi1⟩
    obtain ⟨jj, hjj, bjj⟩ : ∃ jj, j1 * (if decide (0 < e2) = true then (1 : Int) else 0) = jj ∧ jj.natAbs < 10 ^ 41 := ⟨_, rfl, zb _ _ bj1⟩
    have s10 := sNew (o := .tup [.int ii, .int jj]) (Same.refl H9) ht2
    dsimp only [List.set_cons_succ, List.set_cons_zero]
    rw [hii, hjj]
    obtain ⟨H10, hH10⟩ : ∃ H10, upd H9 t2 (.tup [.int ii, .int jj]) = H10 := ⟨_, rfl⟩
    rw [hH10] at s10 ⊢
    have B10 := B9.same s10
    have T10 := Tabs.sm T9 s10
    -- bottom
    refine ⟨_, rfl, b, c0, 60, rfl, B10, by decide, by decide, fun bb H11 bb0 bb1 B11 kp11 => ⟨_, _, rfl, rfl, _, rfl, _, rfl, by show 3 ≤ sizeLine; decide, fun p2 hp2 => ?_⟩⟩
    have T11 := Tabs.kpC T10 B10 kp11
    have s12 := sNew (o := .lst [.int 1, .int 1, .int (-1)]) (Same.refl H11) hp2
    refine ⟨b, c0, p2, _, rfl, B11.same s12, SqL.of upd_same, (B11.off hp2).1, by show 0 < 3; decide, by show 3 < 1000000; decide, fun v H13 hv B13 kp13 => ?_⟩
    obtain ⟨g, rfl, hg⟩ : ∃ g, v = V.int g ∧ (g = 1 ∨ g = -1) := by
      simp only [List.mem_cons, List.not_mem_nil, or_false] at hv
      rcases hv with rfl | rfl | rfl
      · exact ⟨_, rfl, .inl rfl⟩
      · exact ⟨_, rfl, .inl rfl⟩
      · exact ⟨_, rfl, .inr rfl⟩
    refine ⟨_, _, rfl, rfl, mulOk (n := 7) (m := 2) (by unfold Bd; omega) (by unfold Bd; omega) (by decide) (by decide) (by decide), ?_⟩
    have T13 := Tabs.kpC (Tabs.sm T11 s12) (B11.same s12) kp13
    obtain ⟨bt, hbt, bt0, btb⟩ : ∃ bt, (1 + bb) * g = bt ∧ bt ≠ 0 ∧ bt.natAbs ≤ 60 := ⟨_, rfl, by rcases hg with rfl | rfl <;> omega, by rcases hg with rfl | rfl <;> omega⟩
    -- times
    dsimp only [List.set_cons_succ, List.set_cons_zero]
    rw [hbt]
    refine ⟨_, rfl, _, rfl, _, _, rfl, rfl, ⟨by decide, by decide, by decide⟩, by show 4 ≤ sizeLine; decide, fun p3 hp3 => ?_⟩
    have s14 := sNew (o := .lst [.int 1, .int 2, .int (-3), .int ((10 : Int) ^ (20 : Int).toNat)]) (Same.refl H13) hp3
    refine ⟨b, c0, p3, _, rfl, B13.same s14, SqL.of upd_same, (B13.off hp3).1, by show 0 < 4; decide, by show 4 < 1000000; decide, fun v H15 hv B15 kp15 => ?_⟩
    obtain ⟨tm, rfl, tm0, btm⟩ : ∃ tm, v = V.int tm ∧ tm ≠ 0 ∧ Bd 70 tm := by
      simp only [List.mem_cons, List.not_mem_nil, or_false] at hv
      rcases hv with rfl | rfl | rfl | rfl
      · exact ⟨_, rfl, by decide, by unfold Bd; decide⟩
      · exact ⟨_, rfl, by decide, by unfold Bd; decide⟩
      · exact ⟨_, rfl, by decide, by unfold Bd; decide⟩
      · exact ⟨_, rfl, by decide, by unfold Bd; decide +kernel⟩
    have T15 := Tabs.kpC (Tabs.sm T13 s14) (B13.same s14) kp15
    -- least
    refine ⟨fun σ' H' => σ' = [some (.ref a), some (.ref b), some (.int (0 + (i0 : Nat))), some (.int mm), some (.int bt), some (.int tm), some (.int (gs ii jj bt)), v7, v8, v9, v10, v11, some (.int ii), some (.int jj), v14, some (.int d), none, none] ∧ H' = H15, ?_, ?_⟩
    · refine ⟨_, rfl, _, rfl, ii, jj, rfl, _, rfl, _, _, rfl, ?_⟩
      have lg := le_gs (i := ii) (j := jj) bt0
      have gB : ∀ x : Nat, Bd 7 ((Nat.gcd x bt.natAbs : Nat) : Int) := fun x => by
        have : Nat.gcd x bt.natAbs ≤ bt.natAbs := Nat.gcd_le_right _ (by omega)
        unfold Bd
        rw [Int.natAbs_natCast]
        omega
      refine ⟨_, rfl, _, _, rfl, rfl, _, rfl, ite2 (fun h => ?_) (fun h => ?_)⟩
      · have h : 0 < bt := of_decide_eq_true h
        rw [if_pos h] at lg
        refine ⟨_, _, rfl, rfl, ?_, ?_, rfl⟩
        · exact mulOk (n := 7) (m := 2) (gB _) (by unfold Bd; decide) (by decide) (by decide) (by decide)
        · show _ = [_, _, _, _, _, _, some (V.int (gs ii jj bt)), _, _, _, _, _, _, _, _, _, _, _]
          rw [← lg]
          rfl
      · have h : ¬ 0 < bt := fun z => h (decide_eq_true z)
        rw [if_neg h] at lg
        refine ⟨_, rfl, _, _, rfl, rfl, ?_, ?_, rfl⟩
        · exact mulOk (n := 7) (m := 2) (gB _) (by unfold Bd; decide) (by decide) (by decide) (by decide)
        · show _ = [_, _, _, _, _, _, some (V.int (gs ii jj bt)), _, _, _, _, _, _, _, _, _, _, _]
          rw [← lg]
          rfl
    rintro σ' H16 ⟨rfl, rfl⟩
    have gn := gs_ne (i := ii) (j := jj) bt0
    have gb : (gs ii jj bt).natAbs.log2 < 9000 := by
      have := gs_natAbs (i := ii) (j := jj) bt0
      have h2 : (gs ii jj bt).natAbs < 2 ^ 7 := by omega
      exact Nat.lt_of_lt_of_le (PySem.Flt.log2_lt_of (by decide) h2) (by decide)
    have b60 : Bd 1000 bt := Nat.lt_of_lt_of_le (show bt.natAbs < 2 ^ 7 by omega) (by decide +kernel)
    -- due
    refine ⟨_, rfl, _, rfl, _, _, rfl, rfl, ⟨gn, gb⟩, _, rfl, _, rfl, _, _, rfl, rfl, ⟨gn, gb⟩, _, rfl, _, rfl, _, _, rfl, rfl, ⟨gn, gb⟩, by show 3 ≤ sizeLine; decide, fun du hdu => ?_⟩
    have sD := sNew (o := .tup [.int (pI ii jj bt), .int (pJ ii jj bt), .int (pK ii jj bt)]) (Same.refl H16) hdu
    have wdu : upd H16 du (.tup [.int (pI ii jj bt), .int (pJ ii jj bt), .int (pK ii jj bt)]) du = some (.tup [.int (pI ii jj bt), .int (pJ ii jj bt), .int (pK ii jj bt)]) := upd_same
    have hi60 : Q.Fig 60 (pI ii jj bt) := Nat.lt_of_le_of_lt (pI_le bt0) (Nat.lt_of_lt_of_le bii (by decide +kernel))
    have hj60 : Q.Fig 60 (pJ ii jj bt) := Nat.lt_of_le_of_lt (pJ_le bt0) (Nat.lt_of_lt_of_le bjj (by decide +kernel))
    have hk60 : Q.Fig 60 (pK ii jj bt) := Nat.lt_of_le_of_lt (pK_le bt0) (Nat.lt_of_le_of_lt btb (by decide +kernel))
    have dI := bd140 bii
    have dJ := bd140 bjj
    have dB : Bd 7 bt := by unfold Bd; omega
    have btm0 : bt * tm ≠ 0 := Int.mul_ne_zero bt0 tm0
    -- one, other
    refine ⟨_, rfl, _, rfl, _, rfl, _, rfl, rfl, rfl, fun x dx nx ndx nex => ⟨x, dx, d, ii, jj, bt, rfl, upd_same, hd, bt0, dI.mono (by decide), dJ.mono (by decide), b60, fun HA SA kqA => ⟨rfl, ?_⟩⟩⟩
    have smA := Same.made nx ndx kqA
    have svx : SV HA CS x d ii jj bt := ⟨bt0, SA⟩
    refine ⟨_, rfl, _, rfl, _, rfl, _, _, rfl, rfl, mulOk dI btm (by decide) (by decide) (by decide), _, rfl, _, rfl, _, _, rfl, rfl, mulOk dJ btm (by decide) (by decide) (by decide), _, rfl, _, rfl, _, _, rfl, rfl, mulOk dB btm (by decide) (by decide) (by decide), rfl, rfl, fun y dy ny ndy ney => ⟨y, dy, d, _, _, _, rfl, upd_same, hd, btm0, (dI.mul btm).mono (by decide), (dJ.mul btm).mono (by decide), (dB.mul btm).mono (by decide), fun HB SB kqB => ⟨rfl, _, _, rfl, ?_⟩⟩⟩
    have smB := Same.made ny ndy kqB
    have svx := svx.same smB
    have svy : SV HB CS y d ii jj bt := SV.cong ⟨btm0, SB⟩ bt0 (by grind) (by grind)
    have wdu := smB _ _ (smA _ _ wdu)
    have BB := B15.same (sD.trans (smA.trans smB))
    have TB' := Tabs.sm T15 (sD.trans (smA.trans smB))
    obtain ⟨dxx, fsx, inx, nox⟩ := svx.ins
    obtain ⟨dxy, fsy, iny, noy⟩ := svy.ins
    -- parts
    dsimp only [List.set_cons_succ, List.set_cons_zero]
    refine ⟨_, rfl, x, dxx, fsx, rfl, inx, nox _ (by decide) (by decide), x, d, ii, jj, bt, rfl, svx, fun tx htx => ⟨_, rfl, y, dxy, fsy, rfl, iny, noy _ (by decide) (by decide), y, d, ii, jj, bt, rfl, svy, fun ty hty => ⟨_, rfl, x, dxx, fsx, rfl, inx, x, d, ii, jj, bt, rfl, svx, by show 3 ≤ sizeLine; decide, fun la hla => ?_⟩⟩⟩
    have z1 := sNew (o := .lst [.ref tx, .ref ty, .int d]) (Same.refl HB) hla
    refine ⟨_, rfl, _, rfl, _, rfl, by show 3 ≤ sizeLine; decide, fun lb hlb => ?_⟩
    have z2 := sNew (o := .lst [.ref du, .ref du, .int d]) (Same.refl _) hlb
    refine ⟨_, _, .lst [.tup [.int (pI ii jj bt), .int (pJ ii jj bt), .int (pK ii jj bt)], .tup [.int (pI ii jj bt), .int (pJ ii jj bt), .int (pK ii jj bt)], .int d], rfl, rpL3 (z2 _ _ upd_same) (rp3 (z2 _ _ (z1 _ _ htx)) rfl rfl rfl) (rp3 (z2 _ _ (z1 _ _ hty)) rfl rfl rfl) rfl,
      rpL3 upd_same (rp3 (z2 _ _ (z1 _ _ wdu)) rfl rfl rfl) (rp3 (z2 _ _ (z1 _ _ wdu)) rfl rfl rfl) rfl, by simp [dep, depL], fun HC sm3 => ⟨_, rfl, iteF ?_⟩⟩
    have sC : Same HB HC := (z1.trans z2).trans sm3
    have svx1 := svx.same sC
    have svy1 := svy.same sC
    -- one != other
    refine ⟨_, rfl, _, rfl, x, y, _, _, _, _, rfl, rfl, sC _ _ inx, sC _ _ iny, x, .ref y, d, ii, jj, bt, rfl, svx1, .inl ⟨y, d, ii, jj, bt, rfl, svy1, ?_⟩⟩
    rw [eqTD]
    refine ⟨_, rfl, _, rfl, iteF ?_⟩
    have wdu1 := sC _ _ wdu
    -- text
    dsimp only [List.set_cons_succ, List.set_cons_zero]
    refine ⟨_, rfl, du, _, _, _, rfl, rfl, SqT.of wdu1, rfl, _, rfl, du, _, _, _, rfl, rfl, SqT.of wdu1, rfl, _, rfl, du, _, _, _, rfl, rfl, SqT.of wdu1, rfl, q_lst hi60 hj60 hk60 fun HE sE => ?_⟩
    have ls := Q.stS_len (by decide) hi60 hj60 hk60
    have sE' := sC.trans sE
    have wdu2 := sE _ _ wdu1
    have svx2 := svx.same sE'
    -- texts
    dsimp only [List.set_cons_succ, List.set_cons_zero]
    refine ⟨_, rfl, x, dxx, fsx, rfl, sE' _ _ inx, nox _ (by decide) (by decide), x, d, ii, jj, bt, rfl, svx2, hi60, hj60, hk60, fun HF sF => ?_⟩
    refine ⟨_, rfl, q_slope (SqT.of (sF _ _ wdu2)) hi60 hj60 hk60 fun HG sG => ?_⟩
    have sG' := sE'.trans (sF.trans sG)
    refine ⟨_, rfl, y, dxy, fsy, rfl, sG' _ _ iny, y, d, ii, jj, bt, rfl, svy.same sG', hd, hi60, hj60, hk60, fun HI sI => ⟨_, rfl, by show 3 ≤ sizeLine; decide, fun lc hlc => ?_⟩⟩
    have z3 := sNew (o := .lst [.str (Q.stS (pI ii jj bt) (pJ ii jj bt) (pK ii jj bt)), .str (Q.stS (pI ii jj bt) (pJ ii jj bt) (pK ii jj bt)), .str (rpS (Q.stS (pI ii jj bt) (pJ ii jj bt) (pK ii jj bt)) d)]) (Same.refl HI) hlc
    have a1 : (Str.ofString "Surd(").length = 5 := by decide +kernel
    have a2 : (Str.ofString ", root ").length = 7 := by decide +kernel
    have a3 : (Str.ofString ")").length = 1 := by decide +kernel
    have a4 : (Str.ofString (toString d)).length ≤ 2 := by rcases hd with rfl | rfl | rfl | rfl | rfl <;> decide +kernel
    have a5 : d.natAbs.log2 < 1920 := by rcases hd with rfl | rfl | rfl | rfl | rfl <;> decide +kernel
    refine ⟨_, rfl, _, rfl, _, rfl, _, _, rfl, rfl, Q.line_of (by omega), _, _, rfl, rfl, Q.line_of (by rw [len_app]; omega), _, rfl, _, rfl, a5, _, _, rfl, rfl, Q.line_of (by rw [len_app, len_app]; omega), _, _, rfl, rfl, Q.line_of (by rw [len_app, len_app, len_app]; omega), by show 3 ≤ sizeLine; decide, fun ld hld => ?_⟩
    have z4 := sNew (o := .lst [.str (Q.stS (pI ii jj bt) (pJ ii jj bt) (pK ii jj bt)), .str (Q.stS (pI ii jj bt) (pJ ii jj bt) (pK ii jj bt)), .str (rpS (Q.stS (pI ii jj bt) (pJ ii jj bt) (pK ii jj bt)) d)]) (Same.refl _) hld
    refine ⟨_, _, .lst [.str (Q.stS (pI ii jj bt) (pJ ii jj bt) (pK ii jj bt)), .str (Q.stS (pI ii jj bt) (pJ ii jj bt) (pK ii jj bt)), .str (rpS (Q.stS (pI ii jj bt) (pJ ii jj bt) (pK ii jj bt)) d)], rfl, rpL3 (z4 _ _ upd_same) rfl rfl rfl, rpL3 upd_same rfl rfl rfl, by simp [dep, depL], fun HJ sJ => ⟨_, rfl, iteF ?_⟩⟩
    have sJ' : Same HB HJ := sG'.trans (sI.trans ((z3.trans z4).trans sJ))
    have svx3 := svx.same sJ'
    have wdu3 := sJ' _ _ wdu
    have inx3 := sJ' _ _ inx
    -- other numbers
    dsimp only [List.set_cons_succ, List.set_cons_zero]
    refine ⟨fun σ' H' => σ' = [some (.ref a), some (.ref b), some (.int (0 + (i0 : Nat))), some (.int mm), some (.int bt), some (.int tm), some (.int (gs ii jj bt)), some (.ref du), some (.ref x), some (.ref y), some (.str (Q.stS (pI ii jj bt) (pJ ii jj bt) (pK ii jj bt))), v11, some (.int ii), some (.int jj), v14, some (.int d), none, none] ∧ Same HJ H', ?_, ?_⟩
    · refine ⟨_, rfl, _, rfl, _, rfl, _, _, rfl, rfl, _, rfl, _, rfl, rfl, rfl, fun z dz nz ndz nez => ⟨z, dz, d, ii + 1, jj, bt, rfl, upd_same, hd, bt0, (dI.add (show Bd 140 (1 : Int) by unfold Bd; decide)).mono (by decide), dJ.mono (by decide), b60, fun HL SL kqL => ⟨rfl, ?_⟩⟩⟩
      have smL := Same.made nz ndz kqL
      have svz : SV HL CS z d (ii + 1) jj bt := ⟨bt0, SL⟩
      have svx4 := svx3.same smL
      obtain ⟨dxz, fsz, inz, noz⟩ := svz.ins
      refine ⟨x, z, _, _, _, _, rfl, rfl, smL _ _ inx3, inz, x, .ref z, d, ii, jj, bt, rfl, svx4, .inl ⟨z, d, ii + 1, jj, bt, rfl, svz, ?_⟩⟩
      rw [neTD bt0]
      refine ⟨_, rfl, _, rfl, iteF ?_⟩
      refine ⟨_, rfl, _, rfl, x, du, _, _, _, rfl, rfl, smL _ _ inx3, SqT.of (smL _ _ wdu3), x, .ref du, d, ii, jj, bt, rfl, svx4, .inr ⟨[.int (pI ii jj bt), .int (pJ ii jj bt), .int (pK ii jj bt)], rp3 (smL _ _ wdu3) rfl rfl rfl, ⟨_, rfl, _, rfl, iteF ?_⟩⟩⟩
      refine ⟨_, rfl, x, dxx, fsx, rfl, smL _ _ inx3, x, d, pI ii jj bt, pJ ii jj bt, pK ii jj bt, rfl, svR svx4, pK_pos bt0, hd, (dI.le (pI_le bt0)).mono (by decide), (dJ.le (pJ_le bt0)).mono (by decide), ⟨_, rfl, ?_⟩⟩
      have zr := sg_zero (i := pI ii jj bt) (j := pJ ii jj bt) hd
      rw [pI_zero bt0, pJ_zero bt0] at zr
      by_cases hI : ii = 0
      · by_cases hJ : jj = 0
        · have h0 : (!decide (sg d (pI ii jj bt) (pJ ii jj bt) = 0)) = false := by rw [decide_eq_true (zr.mpr ⟨hI, hJ⟩)]; rfl
          rw [h0]
          refine ⟨_, rfl, rfl, _, rfl, ?_⟩
          rw [if_neg (by rw [hI]; decide)]
          refine ⟨_, rfl, rfl, rfl, _, rfl, ?_⟩
          have h1 : (!decide (V.int jj = V.int 0)) = false := by rw [hJ]; decide
          rw [h1]
          exact iteNS rfl ⟨rfl, smL⟩
        · have h0 : (!decide (sg d (pI ii jj bt) (pJ ii jj bt) = 0)) = true := by rw [decide_eq_false (fun z => hJ (zr.mp z).2)]; rfl
          rw [h0]
          refine ⟨_, rfl, rfl, _, rfl, ?_⟩
          rw [if_neg (by rw [hI]; decide)]
          refine ⟨_, rfl, rfl, rfl, _, rfl, ?_⟩
          have h1 : (!decide (V.int jj = V.int 0)) = true := by rw [decide_eq_false (fun z => hJ (by cases z; rfl))]; rfl
          rw [h1]
          exact iteNS rfl ⟨rfl, smL⟩
      · have h0 : (!decide (sg d (pI ii jj bt) (pJ ii jj bt) = 0)) = true := by rw [decide_eq_false (fun z => hI (zr.mp z).1)]; rfl
        rw [h0]
        refine ⟨_, rfl, rfl, _, rfl, ?_⟩
        rw [if_pos (by rw [decide_eq_false (fun z => hI (by cases z; rfl))]; rfl)]
        exact ⟨rfl, _, rfl, iteNS rfl ⟨rfl, smL⟩⟩
    rintro σ' HL ⟨rfl, sL⟩
    have sL' := sJ'.trans sL
    have BL := BB.same sL'
    have TL' := Tabs.sm TB' sL'
    -- odd
    refine ⟨_, rfl, _, _, rfl, rfl, ⟨by decide, by decide, by decide⟩, by show 8 ≤ sizeLine; decide, fun p4 hp4 => ?_⟩
    have s20 := sNew (o := .lst [.int 4, .int 1, .int 0, .int 7, .bl true, .non, .str "5", .int ((10 : Int) ^ (30 : Int).toNat)]) (Same.refl HL) hp4
    refine ⟨b, c0, p4, _, rfl, BL.same s20, SqL.of upd_same, (BL.off hp4).1, by show 0 < 8; decide, by show 8 < 1000000; decide, fun v HM hv BM kpM => ?_⟩
    obtain ⟨dv, hdv, hrd, hdp⟩ : oddD v := by
      simp only [List.mem_cons, List.not_mem_nil, or_false] at hv
      rcases hv with rfl | rfl | rfl | rfl | rfl | rfl | rfl | rfl
      · exact ⟨.int _, fun _ _ => rfl, by decide +kernel, rfl⟩
      · exact ⟨.int _, fun _ _ => rfl, by decide +kernel, rfl⟩
      · exact ⟨.int _, fun _ _ => rfl, by decide +kernel, rfl⟩
      · exact ⟨.int _, fun _ _ => rfl, by decide +kernel, rfl⟩
      · exact ⟨.bl _, fun _ _ => rfl, by decide +kernel, rfl⟩
      · exact ⟨.non, fun _ _ => rfl, by decide +kernel, rfl⟩
      · exact ⟨.str _, fun _ _ => rfl, by decide +kernel, rfl⟩
      · exact ⟨.int _, fun _ _ => rfl, by decide +kernel, rfl⟩
    have TM := Tabs.kpC (Tabs.sm TL' s20) (BL.same s20) kpM
    -- the lambdas
    dsimp only [List.set_cons_succ, List.set_cons_zero]
    refine ⟨TM, fun f0 Ha0 e0 T0 lv0 _ => ⟨T0, fun f1 Ha1 e1 T1a lv1 _ => ⟨by show 2 ≤ sizeLine; decide, fun la hla => ?_⟩⟩⟩
    have sN := sNew (o := .lst [.ref f0, .ref f1]) (Same.refl Ha1) hla
    obtain ⟨HZ, hHZ⟩ : ∃ HZ, upd Ha1 la (.lst [.ref f0, .ref f1]) = HZ := ⟨_, rfl⟩
    have wZ : HZ la = some (.lst [.ref f0, .ref f1]) := hHZ ▸ upd_same
    rw [hHZ] at sN ⊢
    have eN : ExtN Ha1 HZ := ExtN.of sN
    have eM : ExtN HM HZ := (e0.trans e1).trans eN
    have l0 := (lv0.ext e1).ext eN
    have l1 := lv1.ext eN
    have TZ := Tabs.sm T1a sN
    have nl : ∀ {xs : List V} (ps : Array Value), HO.lst xs ≠ .tbl ps := fun ps z => by cases z
    refine ⟨_, rfl, la, rfl, ⟨_, SqL.of wZ⟩, fun Dl hD => LM.lc_ask [f0, f1] (by show 17 < 18; decide) (SqL.of (by rw [upd_ne (ne_of_none wZ hD)]; exact wZ)) (fun _ => rfl) ?_⟩
    have eG : ExtN HZ (upd HZ Dl (.lst [])) := ext_upd (fun _ _ x _ => x) hD
    refine ⟨RF.m0 K CS CR CN _, .head _, l0.ext eG, ask_g (l0.ext eG) (fun E Q' hE => ?_)⟩
    refine ⟨_, rfl, fun x0 dx0 nx0 ndx0 nex0 => ⟨x0, dx0, v, dv, 1, 0, 1, rfl, upd_same, hdv _ _, .inl ⟨hrd, Rsd.sm (sNew (sNew (Same.refl _) ndx0) (by rw [upd_ne nex0.symm]; exact nx0)) ?_⟩⟩⟩
    subst hE
    refine why_err e.x.er e.x.xr (by decide) (.inl ⟨.inl rfl, rfl⟩) fun u0 G0 g0 hu0 => ?_
    have d0 : G0 Dl = some (.lst []) := g0 _ _ upd_same
    have eG1 : ExtN HZ (upd G0 Dl (.lst ([] ++ [.ref u0]))) := ext_upd (eG.trans (ExtN.of g0)) hD
    refine ⟨[], d0, by decide, SqL.of (eG1 _ _ wZ (fun ps z => nl ps z)), RF.m1 K CS CR CN _, .tail _ (.head _), l1.ext eG1, ask_g (l1.ext eG1) (fun E Q' hE => ?_)⟩
    refine ⟨_, rfl, _, rfl, _, rfl, rfl, rfl, fun x0 dx0 nx0 ndx0 nex0 => ⟨x0, dx0, .int d, .int d, ii, jj, 0, rfl, upd_same, rfl, .inr ⟨rootT hd, rfl, Rsd.sm (sNew (sNew (Same.refl _) ndx0) (by rw [upd_ne nex0.symm]; exact nx0)) ?_⟩⟩⟩
    subst hE
    refine why_err e.x.en e.x.xn (by decide) (.inl ⟨.inr (.inl rfl), rfl⟩) fun u1 G1 g1 hu1 => ?_
    have hu0a : upd G0 Dl (.lst ([] ++ [.ref u0])) u0 = some (.tup [.str "InvalidRoot", v]) := by rw [upd_ne (ne_of hu0 d0 (by intro z; cases z))]; exact hu0
    have dd1 : G1 Dl = some (.lst [.ref u0]) := g1 _ _ upd_same
    have eG2 : ExtN HZ (upd G1 Dl (.lst ([.ref u0] ++ [.ref u1]))) := ext_upd (eG1.trans (ExtN.of g1)) hD
    refine ⟨_, dd1, by show 1 < sizeLine; decide, SqL.of (eG2 _ _ wZ (fun ps z => nl ps z)), ?_⟩
    have hx0 : upd G1 Dl (.lst ([.ref u0] ++ [.ref u1])) u0 = some (.tup [.str "InvalidRoot", v]) := by rw [upd_ne (ne_of hu0 d0 (by intro z; cases z))]; exact g1 _ _ hu0a
    have hx1 : upd G1 Dl (.lst ([.ref u0] ++ [.ref u1])) u1 = some (.tup [.str "InvalidNumber", .int 0]) := by rw [upd_ne (ne_of hu1 dd1 (by intro z; cases z))]; exact hu1
    have hx4 : upd G1 Dl (.lst ([.ref u0] ++ [.ref u1])) Dl = some (.lst [.ref u0, .ref u1]) := upd_same
    have T4G := Tabs.put (o := .lst ([.ref u0] ++ [.ref u1])) (Tabs.sm (Tabs.put (o := .lst ([] ++ [.ref u0])) (Tabs.sm (Tabs.sm TZ (sNew (Same.refl HZ) hD)) g0) d0) g1) dd1
    obtain ⟨G4, hG4⟩ : ∃ G4, upd G1 Dl (.lst ([.ref u0] ++ [.ref u1])) = G4 := ⟨_, rfl⟩
    rw [hG4] at hx0 hx1 hx4 eG2 T4G ⊢
    -- last due
    refine ⟨_, rfl, by show 2 ≤ sizeLine; decide, fun q0 hq0 => ⟨by show 2 ≤ sizeLine; decide, fun q1 hq1 => ⟨by show 2 ≤ sizeLine; decide, fun l9 hl9 => ?_⟩⟩⟩
    have z1 := sNew (o := .tup [.str "InvalidRoot", v]) (Same.refl G4) hq0
    have z2 := sNew (o := .tup [.str "InvalidNumber", .int 0]) (Same.refl _) hq1
    have z3 := sNew (o := .lst [.ref q0, .ref q1]) (Same.refl _) hl9
    have zz := (z1.trans z2).trans z3
    refine ⟨_, _, .lst [.tup [.str "InvalidRoot", dv], .tup [.str "InvalidNumber", .int 0]], rfl,
      rpL2 (zz _ _ hx4) (rp2 (zz _ _ hx0) rfl (hdv _ _)) (rp2 (zz _ _ hx1) rfl rfl), rpL2 upd_same (rp2 (z3 _ _ (z2 _ _ upd_same)) rfl (hdv _ _)) (rp2 (z3 _ _ upd_same) rfl rfl), by simp [dep, depL, hdp], fun HH smH => ⟨_, rfl, iteF ?_⟩⟩
    exact ⟨_, _, _, _, _, _, _, _, _, _, _, _, _, _, rfl, (((BM.extN eM).extN eG2).same zz).same smH, Tabs.sm (Tabs.sm T4G zz) smH⟩
  · rintro σ H2 ⟨v2, v3, v4, v5, v6, v7, v8, v9, v10, v11, v12, v13, v14, v15, rfl, B2, T2⟩
    have r5 : Root 5 := by unfold Root; omega
    have r2 : Root 2 := by unfold Root; omega
    have k1 : Bd 1000 (1 : Int) := by unfold Bd; decide
    have k0 : Bd 1000 (0 : Int) := by unfold Bd; decide
    have k3 : Bd 1000 (3 : Int) := by unfold Bd; decide
    refine ⟨_, rfl, b, c0, rfl, B2, fun p hp => T2 p (.tail _ hp), fun H3 => ⟨_, rfl, ?_⟩⟩
    rw [if_pos rfl]
    refine fun xa dxa nxa ndxa nexa => ⟨xa, dxa, 5, 3, 0, 1, rfl, upd_same, r5, by decide, k3, k0, k1, fun HA SA kqA => ⟨rfl, ?_⟩⟩
    have sva : SV HA CS xa 5 3 0 1 := ⟨by decide, SA⟩
    obtain ⟨d1, f1, i1, n1⟩ := sva.ins
    refine ⟨xa, d1, f1, rfl, i1, n1 _ (by decide) (by decide), xa, 5, 3, 0, 1, rfl, sva, fun t ht => ⟨by show 3 ≤ sizeLine; decide, fun t5 ht5 => ?_⟩⟩
    rw [show pI 3 0 1 = 3 by decide +kernel, show pJ 3 0 1 = 0 by decide +kernel, show pK 3 0 1 = 1 by decide +kernel] at ht
    have yA := sNew (o := .tup [.int 3, .int 0, .int 1]) (Same.refl HA) ht5
    refine ⟨.tuple [.int 3, .int 0, .int 1], .tuple [.int 3, .int 0, .int 1], dt3 (yA _ _ ht), dt3 upd_same, by decide +kernel, by decide +kernel, ?_⟩
    rw [show PyData.eqv (.tuple [.int 3, .int 0, .int 1]) (.tuple [.int 3, .int 0, .int 1]) = true by decide +kernel]
    refine ⟨_, rfl, ?_⟩
    rw [if_pos rfl]
    refine fun xb dxb nxb ndxb nexb => ⟨xb, dxb, 2, 1, 0, 1, rfl, upd_same, r2, by decide, k1, k0, k1, fun HB SB kqB => ⟨rfl, fun xc dxc nxc ndxc nexc => ⟨xc, dxc, 5, 1, 0, 1, rfl, upd_same, r5, by decide, k1, k0, k1, fun HC SC kqC => ⟨rfl, ?_⟩⟩⟩⟩
    have svb : SV HC CS xb 2 1 0 1 := SV.same (Same.made nxc ndxc kqC) ⟨by decide, SB⟩
    have svc : SV HC CS xc 5 1 0 1 := ⟨by decide, SC⟩
    obtain ⟨d2, f2, i2, n2⟩ := svb.ins
    obtain ⟨d3, f3, i3, n3⟩ := svc.ins
    refine ⟨xb, xc, _, _, _, _, rfl, rfl, i2, i3, xb, .ref xc, 2, 1, 0, 1, rfl, svb, .inl ⟨xc, 5, 1, 0, 1, rfl, svc, ?_⟩⟩
    exact ⟨_, rfl, kk _⟩
end
end RF

/-! the end of a law where further defs of the law hold lambdas -/
namespace RF
open PySem PySem.Spec PyProof.Rows L2 LamX
theorem kit_no {K : PySem.W.Frag} {C : Addr} {t : Value} (h1 : PySem.W.isClsIn K C = true) (h2 : PySem.W.typeIn K (.ref C) = some (.type "type")) (h3 : PySem.W.subIn K t (.ref C) = some false) (h4 : (t == .ref C) = false) : PySem.W.kitOne K t (.ref C) = some false := by
  unfold PySem.W.kitOne
  rw [h4, if_neg Bool.false_ne_true]
  unfold PySem.W.kitCls
  dsimp only
  rw [if_pos, h3]
  rw [h2]
  simpa [PySem.W.isClsIn] using h1
/-- the table of the def of that name is empty -/
def OwnTabN (K : PySem.W.Frag) (mg : Str → Option Value) (nm : Str) (h : Heap) : Prop := ∀ f, mg nm = some (.ref f) → OwnTab K f h
theorem walk_ofOwnN {l : PySem.W.OpenLaw} {n k : Nat} {q : Program} {loose : List Str} {XP : (Str → Option Value) → Heap → Prop} {YP : World → Heap → Prop} {dr : DefRec} {KP : Params → PySem.W.Frag} {CX : World → CXT} {x : Str}
    (h1 : l.most = some n) (h2 : n ≤ sizeLine) (h3 : dr.params.defaults = []) (h4 : Room k callerA) (h5 : ((recsOf q).any fun e => e.name == dr.name) = true) (h6 : ∀ (w : World) (h : Heap), YP w h → (KP w.params).In h)
    (F : ∀ (w : World) (mg : Str → Option Value) (fa : Addr) (h : Heap), YP w h → (KP w.params).In h → h.Ns mainGlobals mg → mg dr.name = some (.ref fa) → OwnTab (KP w.params) fa h →
      (∀ nm : Str, ((recsOf q).any fun e => e.name == nm) = true → OwnTabN (KP w.params) mg nm h) → LawAtS l w (KP w.params) (CX w) k n x mg fa h)
    (h7 : ∀ (w : World) (H : Hp) (s : Shared) (e : Value) (s' : Shared), CX w [] H s (fun _ _ _ => False) e s' → False) :
    PySem.W.WalkO q loose XP YP l.row.toRowW dr [] (fun f vs => PySem.call f vs) := by
  refine Att.attach_callB h1 h3 fun w s0 sN mg mb fa o pm cd doc a vs ns G Y ho hd hcd mG mO mI mL mB mW => ?_
  have KX := h6 w _ Y
  have owns : ∀ nm : Str, ((recsOf q).any fun e => e.name == nm) = true → OwnTabN (KP w.params) mg nm sN.heap := by
    intro nm hnm f hf c P o1 fd1 e dd vs1 sl k1 k2 k3 k4 k5
    obtain ⟨dL, hm, nE⟩ := List.any_eq_true.mp hnm
    have nE := beq_iff_eq.mp nE
    obtain ⟨f', o', fd', c', P', p1, p2, p3, p4, p5, p6⟩ := G.T.tab dL hm
    rw [nE, hf] at p1
    cases p1
    rw [KX _ _ k1] at p2
    cases p2
    rw [k2] at p3
    cases p3
    rw [k3] at p4
    cases p4
    obtain ⟨⟨oc, vc, e1, _, e3, e4⟩, hP⟩ := p6
    rw [KX _ _ k4] at e1
    cases e1; cases e3
    rw [k5] at e4
    cases e4
    exact hP
  obtain ⟨fd, cs, sp, tT, tN, tC, tB, tS, tF⟩ := F w mg fa _ Y KX G.T.g mG (owns _ h5 fa mG) owns
  exact law_callTs KX G.T.g G.T.b G.T.builtins G.T.nolimit mW tT tN tC G.T.bmain mO mI (Nat.le_trans mL h2) h4 tF tB (fun H hH hS => tS H a ns mL mB hH hS) fun H e s' => h7 w H sN e s'
end RF

namespace RF
open PySem L2 PyProof.Rows EX
open PySem.HandSPX
def fI : List DictEntry → Int → Option Value
  | [], _ => none
  | c :: r, i => if Value.isInt i c.key = true then some c.val else fI r i
theorem find_fI : ∀ (l : List DictEntry) (i : Int), (l.find? fun c => Value.isInt i c.key).map (·.val) = fI l i
  | [], _ => rfl
  | c :: r, i => by
    rw [List.find?_cons]
    unfold fI
    cases h : Value.isInt i c.key
    · rw [if_neg (by decide)]
      exact find_fI r i
    · rw [if_pos rfl]; rfl
theorem findBy_fI (es : Array DictEntry) (i : Int) : findBy Value.isInt es i = fI es.toList i := by
  unfold findBy
  rw [← find_fI, ← List.find?_toArray]
theorem Df.mono {P : Program} {w : World} {K : PySem.W.Frag} {mg : Str → Option Value} {base : Heap} {j k : Nat} {x : Str} {ps : List Str} {sp : Sp} (D : Df P w K mg base j x ps sp) (h : j ≤ k) : Df P w K mg base k x ps sp := by
  obtain ⟨f, fd, G, b, m, kp⟩ := D.ex
  exact ⟨f, fd, G.mono h, b, m, kp⟩
theorem txtN : TxtE "InvalidNumber" "given" "InvalidNumber.__init__" (inClass (top 5) 0) where
  body := ⟨_, _, _, _, _, _, _, _, _, _, _, _, _, _, _, rfl, fun fI cda cc => ⟨rfl, rfl, rfl, rfl, rfl, rfl, by decide +kernel, fun _ => rfl, fun _ => rfl, fun _ => ⟨_, rfl⟩, fun _ => rfl, fun _ => rfl⟩, fun _ _ _ _ => rfl⟩
  hd := ⟨_, rfl, rfl⟩
  fs := by decide
  fd := by decide
  loc := rfl
  bind := fun _ _ _ _ _ _ _ _ _ => .of_eq rfl
theorem txtZ : TxtE "InvalidRoot" "given" "InvalidRoot.__init__" (inClass (top 4) 0) where
  body := ⟨_, _, _, _, _, _, _, _, _, _, _, _, _, _, _, rfl, fun fI cda cc => ⟨rfl, rfl, rfl, rfl, rfl, rfl, by decide +kernel, fun _ => rfl, fun _ => rfl, fun _ => ⟨_, rfl⟩, fun _ => rfl, fun _ => rfl⟩, fun _ _ _ _ => rfl⟩
  hd := ⟨_, rfl, rfl⟩
  fs := by decide
  fd := by decide
  loc := rfl
  bind := fun _ _ _ _ _ _ _ _ _ => .of_eq rfl
theorem txtS : TxtE "InvalidSlope" "given" "InvalidSlope.__init__" (inClass (top 6) 0) where
  body := ⟨_, _, _, _, _, _, _, _, _, _, _, _, _, _, _, rfl, fun fI cda cc => ⟨rfl, rfl, rfl, rfl, rfl, rfl, by decide +kernel, fun _ => rfl, fun _ => rfl, fun _ => ⟨_, rfl⟩, fun _ => rfl, fun _ => rfl⟩, fun _ _ _ _ => rfl⟩
  hd := ⟨_, rfl, rfl⟩
  fs := by decide
  fd := by decide
  loc := rfl
  bind := fun _ _ _ _ _ _ _ _ _ => .of_eq rfl
theorem all_mk {l : PySem.W.OpenLaw} {w : World} {K : PySem.W.Frag} {h : Heap} {mg : Str → Option Value} {fa : Addr} (X : K.In h) (G : h.Ns mainGlobals mg) (hfa : mg "law" = some (.ref fa)) (OT0 : LamX.OwnTab K fa h) (OT1 : RF.OwnTabN K mg "_law_surds_refused" h)
    {f1 : Addr} {od1 an1 : Option Addr} {sl1 : Array (Option Value)} {oc1 kV1 dc1 pm1 cd1 ct1 : Value}
    {f2 : Addr} {od2 an2 : Option Addr} {sl2 : Array (Option Value)} {oc2 kV2 dc2 pm2 cd2 ct2 : Value}
    {f3 : Addr} {od3 an3 : Option Addr} {sl3 : Array (Option Value)} {oc3 kV3 dc3 pm3 cd3 ct3 : Value}
    {f4 : Addr} {od4 an4 : Option Addr} {sl4 : Array (Option Value)} {oc4 kV4 dc4 pm4 cd4 ct4 : Value}
    {f5 : Addr} {od5 an5 : Option Addr} {sl5 : Array (Option Value)} {oc5 kV5 dc5 pm5 cd5 ct5 : Value}
    {f6 : Addr} {od6 an6 : Option Addr} {sl6 : Array (Option Value)} {oc6 kV6 dc6 pm6 cd6 ct6 : Value}
    {f7 : Addr} {od7 an7 : Option Addr} {sl7 : Array (Option Value)} {oc7 kV7 dc7 pm7 cd7 ct7 : Value}
    {f8 : Addr} {od8 an8 : Option Addr} {sl8 : Array (Option Value)} {oc8 kV8 dc8 pm8 cd8 ct8 : Value}
    {f9 : Addr} {od9 an9 : Option Addr} {sl9 : Array (Option Value)} {oc9 kV9 dc9 pm9 cd9 ct9 : Value}
    {f10 : Addr} {od10 an10 : Option Addr} {sl10 : Array (Option Value)} {oc10 kV10 dc10 pm10 cd10 ct10 : Value}
    {f11 : Addr} {od11 an11 : Option Addr} {sl11 : Array (Option Value)} {oc11 kV11 dc11 pm11 cd11 ct11 : Value}
    {f12 : Addr} {od12 an12 : Option Addr} {sl12 : Array (Option Value)} {oc12 kV12 dc12 pm12 cd12 ct12 : Value}
    {f13 : Addr} {od13 an13 : Option Addr} {sl13 : Array (Option Value)} {oc13 kV13 dc13 pm13 cd13 ct13 : Value}
    {f14 : Addr} {od14 an14 : Option Addr} {sl14 : Array (Option Value)} {oc14 kV14 dc14 pm14 cd14 ct14 : Value}
    {f15 : Addr} {od15 an15 : Option Addr} {sl15 : Array (Option Value)} {oc15 kV15 dc15 pm15 cd15 ct15 : Value}
    {f16 : Addr} {od16 an16 : Option Addr} {sl16 : Array (Option Value)} {oc16 kV16 dc16 pm16 cd16 ct16 : Value}
    {f17 : Addr} {od17 an17 : Option Addr} {sl17 : Array (Option Value)} {oc17 kV17 dc17 pm17 cd17 ct17 : Value}
    {f18 : Addr} {od18 an18 : Option Addr} {sl18 : Array (Option Value)} {oc18 kV18 dc18 pm18 cd18 ct18 : Value}
    {f19 : Addr} {od19 an19 : Option Addr} {sl19 : Array (Option Value)} {oc19 kV19 dc19 pm19 cd19 ct19 : Value}
    {f20 : Addr} {od20 an20 : Option Addr} {sl20 : Array (Option Value)} {oc20 kV20 dc20 pm20 cd20 ct20 : Value}
    {C : Addr}
    {f21 T0 D0 : Addr} {oT : Obj} {tT : Tok} {nT : Nat} {t1 : Tok} {od21 an21 : Option Addr} {sl21 : Array (Option Value)} {oc21 dc21 pm21 cd21 ct21 : Value}
    {f22 : Addr} {od22 an22 : Option Addr} {sl22 : Array (Option Value)} {oc22 kV22 dc22 pm22 cd22 ct22 : Value}
    {f23 : Addr} {od23 an23 : Option Addr} {sl23 : Array (Option Value)} {oc23 kV23 dc23 pm23 cd23 ct23 : Value}
    {f24 : Addr} {od24 an24 : Option Addr} {sl24 : Array (Option Value)} {oc24 kV24 dc24 pm24 cd24 ct24 : Value}
    {f25 : Addr} {od25 an25 : Option Addr} {sl25 : Array (Option Value)} {oc25 kV25 dc25 pm25 cd25 ct25 : Value}
    {f26 : Addr} {od26 an26 : Option Addr} {sl26 : Array (Option Value)} {oc26 kV26 dc26 pm26 cd26 ct26 : Value}
    {f27 : Addr} {od27 an27 : Option Addr} {sl27 : Array (Option Value)} {oc27 kV27 dc27 pm27 cd27 ct27 : Value}
    {po : Addr} {rsofs : List Value}
    {f28 : Addr} {od28 an28 : Option Addr} {sl28 : Array (Option Value)} {oc28 kV28 dc28 pm28 cd28 ct28 : Value}
    {psrt : Addr} {rssrt : List Value}
    {f29 : Addr} {od29 an29 : Option Addr} {sl29 : Array (Option Value)} {oc29 kV29 dc29 pm29 cd29 ct29 : Value}
    {pd : Addr} {es : Array DictEntry} {npp : Nat}
    {R NR : Addr} {nR qR : Str} {bsR bmR : List Value} {snR : List Str} {subR : List Value} {abR : Bool} {colR : Option Bool} {ddR : Option Addr} {r0 r1 r2 r3 r5 : Option Value}
    {cM cQ : Addr}
    {EN NN fEN cdaN ccN : Addr} {nmN qN : Str} {bsN : List Value} {snN : List Str} {subN : List Value} {abN : Bool} {colN : Option Bool} {ddN : Option Addr} {kN0 kN1 kN2 kN3 kN5 : Option Value} {ocEN docEN pmEN ctEN : Value} {odEN anEN : Option Addr} {slEN : Array (Option Value)} {cclN : Value} {cddN : Option Addr} {vsN : Array Value} {ccsN : Array (Option Value)} {fileN : Str} {tfN : Tok} {clN : Value} {cldN : Option Addr} {cslN : Array (Option Value)}
    {EZ NZ fEZ cdaZ ccZ : Addr} {nmZ qZ : Str} {bsZ : List Value} {snZ : List Str} {subZ : List Value} {abZ : Bool} {colZ : Option Bool} {ddZ : Option Addr} {kZ0 kZ1 kZ2 kZ3 kZ5 : Option Value} {ocEZ docEZ pmEZ ctEZ : Value} {odEZ anEZ : Option Addr} {slEZ : Array (Option Value)} {cclZ : Value} {cddZ : Option Addr} {vsZ : Array Value} {ccsZ : Array (Option Value)} {fileZ : Str} {tfZ : Tok} {clZ : Value} {cldZ : Option Addr} {cslZ : Array (Option Value)}
    {ES NS fES cdaS ccS : Addr} {nmS qS : Str} {bsS : List Value} {snS : List Str} {subS : List Value} {abS : Bool} {colS : Option Bool} {ddS : Option Addr} {kS0 kS1 kS2 kS3 kS5 : Option Value} {ocES docES pmES ctES : Value} {odES anES : Option Addr} {slES : Array (Option Value)} {cclS : Value} {cddS : Option Addr} {vsS : Array Value} {ccsS : Array (Option Value)} {fileS : Str} {tfS : Tok} {clS : Value} {cldS : Option Addr} {cslS : Array (Option Value)}
    {f30 : Addr} {od30 an30 : Option Addr} {sl30 : Array (Option Value)} {oc30 kV30 dc30 pm30 cd30 ct30 : Value}
    {cL P0 : Addr} {dL : Option Addr} {vL : Array Value} {sL : Array (Option Value)} {fileL : Str} {tfL tgL ttL : Tok} {flL txL : Int} {inL : Bool}
    {cL1 P1 : Addr} {dL1 : Option Addr} {vL1 : Array Value} {sL1 : Array (Option Value)} {fileL1 : Str} {tfL1 tgL1 ttL1 : Tok} {flL1 txL1 : Int} {inL1 : Bool}
    (a1 : PySem.W.nsIn K mainGlobals "is_whole" = some (some (.ref f1)))
    (l1 : K.lookup f1 = some ⟨oc1, od1, .func (PySem.W.fnOf "is_whole" "is_whole" (defArgs (top 12)) (defBody (top 12)) (defScope (top 12)) .none kV1 dc1 pm1 an1 cd1 ct1), sl1⟩)
    (c1 : PySem.W.codeIn K cd1 "is_whole" = true)
    (k1 : PySem.W.keepIn K (.ref f1) = true)
    (a2 : PySem.W.nsIn K mainGlobals "is_between" = some (some (.ref f2)))
    (l2 : K.lookup f2 = some ⟨oc2, od2, .func (PySem.W.fnOf "is_between" "is_between" (defArgs (top 13)) (defBody (top 13)) (defScope (top 13)) .none kV2 dc2 pm2 an2 cd2 ct2), sl2⟩)
    (c2 : PySem.W.codeIn K cd2 "is_between" = true)
    (k2 : PySem.W.keepIn K (.ref f2) = true)
    (a3 : PySem.W.nsIn K mainGlobals "is_root" = some (some (.ref f3)))
    (l3 : K.lookup f3 = some ⟨oc3, od3, .func (PySem.W.fnOf "is_root" "is_root" (defArgs (top 14)) (defBody (top 14)) (defScope (top 14)) .none kV3 dc3 pm3 an3 cd3 ct3), sl3⟩)
    (c3 : PySem.W.codeIn K cd3 "is_root" = true)
    (k3 : PySem.W.keepIn K (.ref f3) = true)
    (a4 : PySem.W.nsIn K mainGlobals "is_slope" = some (some (.ref f4)))
    (l4 : K.lookup f4 = some ⟨oc4, od4, .func (PySem.W.fnOf "is_slope" "is_slope" (defArgs (top 16)) (defBody (top 16)) (defScope (top 16)) .none kV4 dc4 pm4 an4 cd4 ct4), sl4⟩)
    (c4 : PySem.W.codeIn K cd4 "is_slope" = true)
    (k4 : PySem.W.keepIn K (.ref f4) = true)
    (a5 : PySem.W.nsIn K mainGlobals "_figures" = some (some (.ref f5)))
    (l5 : K.lookup f5 = some ⟨oc5, od5, .func (PySem.W.fnOf "_figures" "_figures" (defArgs (top 20)) (defBody (top 20)) (defScope (top 20)) .none kV5 dc5 pm5 an5 cd5 ct5), sl5⟩)
    (c5 : PySem.W.codeIn K cd5 "_figures" = true)
    (k5 : PySem.W.keepIn K (.ref f5) = true)
    (a6 : PySem.W.nsIn K mainGlobals "_multiple_text" = some (some (.ref f6)))
    (l6 : K.lookup f6 = some ⟨oc6, od6, .func (PySem.W.fnOf "_multiple_text" "_multiple_text" (defArgs (top 19)) (defBody (top 19)) (defScope (top 19)) .none kV6 dc6 pm6 an6 cd6 ct6), sl6⟩)
    (c6 : PySem.W.codeIn K cd6 "_multiple_text" = true)
    (k6 : PySem.W.keepIn K (.ref f6) = true)
    (a7 : PySem.W.nsIn K mainGlobals "_sum_text" = some (some (.ref f7)))
    (l7 : K.lookup f7 = some ⟨oc7, od7, .func (PySem.W.fnOf "_sum_text" "_sum_text" (defArgs (top 18)) (defBody (top 18)) (defScope (top 18)) .none kV7 dc7 pm7 an7 cd7 ct7), sl7⟩)
    (c7 : PySem.W.codeIn K cd7 "_sum_text" = true)
    (k7 : PySem.W.keepIn K (.ref f7) = true)
    (a8 : PySem.W.nsIn K mainGlobals "slope_text" = some (some (.ref f8)))
    (l8 : K.lookup f8 = some ⟨oc8, od8, .func (PySem.W.fnOf "slope_text" "slope_text" (defArgs (top 17)) (defBody (top 17)) (defScope (top 17)) .none kV8 dc8 pm8 an8 cd8 ct8), sl8⟩)
    (c8 : PySem.W.codeIn K cd8 "slope_text" = true)
    (k8 : PySem.W.keepIn K (.ref f8) = true)
    (a9 : PySem.W.nsIn K mainGlobals "_law_bag" = some (some (.ref f9)))
    (l9 : K.lookup f9 = some ⟨oc9, od9, .func (PySem.W.fnOf "_law_bag" "_law_bag" (defArgs (top 23)) (defBody (top 23)) (defScope (top 23)) .none kV9 dc9 pm9 an9 cd9 ct9), sl9⟩)
    (c9 : PySem.W.codeIn K cd9 "_law_bag" = true)
    (k9 : PySem.W.keepIn K (.ref f9) = true)
    (a10 : PySem.W.nsIn K mainGlobals "_law_pull" = some (some (.ref f10)))
    (l10 : K.lookup f10 = some ⟨oc10, od10, .func (PySem.W.fnOf "_law_pull" "_law_pull" (defArgs (top 24)) (defBody (top 24)) (defScope (top 24)) .none kV10 dc10 pm10 an10 cd10 ct10), sl10⟩)
    (c10 : PySem.W.codeIn K cd10 "_law_pull" = true)
    (k10 : PySem.W.keepIn K (.ref f10) = true)
    (a11 : PySem.W.nsIn K mainGlobals "_law_of" = some (some (.ref f11)))
    (l11 : K.lookup f11 = some ⟨oc11, od11, .func (PySem.W.fnOf "_law_of" "_law_of" (defArgs (top 25)) (defBody (top 25)) (defScope (top 25)) .none kV11 dc11 pm11 an11 cd11 ct11), sl11⟩)
    (c11 : PySem.W.codeIn K cd11 "_law_of" = true)
    (k11 : PySem.W.keepIn K (.ref f11) = true)
    (a12 : PySem.W.nsIn K mainGlobals "_law_far" = some (some (.ref f12)))
    (l12 : K.lookup f12 = some ⟨oc12, od12, .func (PySem.W.fnOf "_law_far" "_law_far" (defArgs (top 30)) (defBody (top 30)) (defScope (top 30)) .none kV12 dc12 pm12 an12 cd12 ct12), sl12⟩)
    (c12 : PySem.W.codeIn K cd12 "_law_far" = true)
    (k12 : PySem.W.keepIn K (.ref f12) = true)
    (a13 : PySem.W.nsIn K mainGlobals "_law_root" = some (some (.ref f13)))
    (l13 : K.lookup f13 = some ⟨oc13, od13, .func (PySem.W.fnOf "_law_root" "_law_root" (defArgs (top 31)) (defBody (top 31)) (defScope (top 31)) .none kV13 dc13 pm13 an13 cd13 ct13), sl13⟩)
    (c13 : PySem.W.codeIn K cd13 "_law_root" = true)
    (k13 : PySem.W.keepIn K (.ref f13) = true)
    (a14 : PySem.W.nsIn K mainGlobals "_law_same" = some (some (.ref f14)))
    (l14 : K.lookup f14 = some ⟨oc14, od14, .func (PySem.W.fnOf "_law_same" "_law_same" (defArgs (top 26)) (defBody (top 26)) (defScope (top 26)) .none kV14 dc14 pm14 an14 cd14 ct14), sl14⟩)
    (c14 : PySem.W.codeIn K cd14 "_law_same" = true)
    (k14 : PySem.W.keepIn K (.ref f14) = true)
    (a15 : PySem.W.nsIn K mainGlobals "_law_divisor" = some (some (.ref f15)))
    (l15 : K.lookup f15 = some ⟨oc15, od15, .func (PySem.W.fnOf "_law_divisor" "_law_divisor" (defArgs (top 32)) (defBody (top 32)) (defScope (top 32)) .none kV15 dc15 pm15 an15 cd15 ct15), sl15⟩)
    (c15 : PySem.W.codeIn K cd15 "_law_divisor" = true)
    (k15 : PySem.W.keepIn K (.ref f15) = true)
    (a16 : PySem.W.nsIn K mainGlobals "_law_slope_text" = some (some (.ref f16)))
    (l16 : K.lookup f16 = some ⟨oc16, od16, .func (PySem.W.fnOf "_law_slope_text" "_law_slope_text" (defArgs (top 33)) (defBody (top 33)) (defScope (top 33)) .none kV16 dc16 pm16 an16 cd16 ct16), sl16⟩)
    (c16 : PySem.W.codeIn K cd16 "_law_slope_text" = true)
    (k16 : PySem.W.keepIn K (.ref f16) = true)
    (a17 : PySem.W.nsIn K mainGlobals "_law_surds_refused" = some (some (.ref f17)))
    (l17 : K.lookup f17 = some ⟨oc17, od17, .func (PySem.W.fnOf "_law_surds_refused" "_law_surds_refused" (defArgs (top 34)) (defBody (top 34)) (defScope (top 34)) .none kV17 dc17 pm17 an17 cd17 ct17), sl17⟩)
    (c17 : PySem.W.codeIn K cd17 "_law_surds_refused" = true)
    (k17 : PySem.W.keepIn K (.ref f17) = true)
    (a18 : PySem.W.nsIn K mainGlobals "_law_field" = some (some (.ref f18)))
    (l18 : K.lookup f18 = some ⟨oc18, od18, .func (PySem.W.fnOf "_law_field" "_law_field" (defArgs (top 27)) (defBody (top 27)) (defScope (top 27)) .none kV18 dc18 pm18 an18 cd18 ct18), sl18⟩)
    (c18 : PySem.W.codeIn K cd18 "_law_field" = true)
    (k18 : PySem.W.keepIn K (.ref f18) = true)
    (a19 : PySem.W.nsIn K mainGlobals "_law_place" = some (some (.ref f19)))
    (l19 : K.lookup f19 = some ⟨oc19, od19, .func (PySem.W.fnOf "_law_place" "_law_place" (defArgs (top 28)) (defBody (top 28)) (defScope (top 28)) .none kV19 dc19 pm19 an19 cd19 ct19), sl19⟩)
    (c19 : PySem.W.codeIn K cd19 "_law_place" = true)
    (k19 : PySem.W.keepIn K (.ref f19) = true)
    (a20 : PySem.W.nsIn K mainGlobals "_law_why" = some (some (.ref f20)))
    (l20 : K.lookup f20 = some ⟨oc20, od20, .func (PySem.W.fnOf "_law_why" "_law_why" (defArgs (top 29)) (defBody (top 29)) (defScope (top 29)) .none kV20 dc20 pm20 an20 cd20 ct20), sl20⟩)
    (c20 : PySem.W.codeIn K cd20 "_law_why" = true)
    (k20 : PySem.W.keepIn K (.ref f20) = true)
    (aCC : PySem.W.nsIn K mainGlobals "Surd" = some (some (.ref C)))
    (a21 : PySem.W.findIn K (.ref C) "__init__" = some (some (.ref f21)))
    (i21 : PySem.W.isFn K (.ref f21) = true)
    (l21 : K.lookup f21 = some ⟨oc21, od21, .func (PySem.W.fnOf "__init__" "Surd.__init__" (defArgs (sS 0)) (defBody (sS 0)) (defScope (sS 0)) (.ref T0) (.ref D0) dc21 pm21 an21 cd21 ct21), sl21⟩)
    (c21 : PySem.W.codeIn K cd21 "Surd.__init__" = true)
    (k21 : PySem.W.keepIn K (.ref f21) = true)
    (lT : K.lookup T0 = some oT)
    (dT : oT.data = .seq #[.int 0 tT] nT)
    (kD : PySem.W.nsIn K D0 "k" = some (some (.int 1 t1)))
    (aG : PySem.W.nsIn K mainGlobals "gcd" = some (some (.builtin "math.gcd")))
    (a22 : PySem.W.findIn K (.ref C) "sign" = some (some (.ref f22)))
    (l22 : K.lookup f22 = some ⟨oc22, od22, .func (PySem.W.fnOf "sign" "Surd.sign" (defArgs (sS 4)) (defBody (sS 4)) (defScope (sS 4)) .none kV22 dc22 pm22 an22 cd22 ct22), sl22⟩)
    (c22 : PySem.W.codeIn K cd22 "Surd.sign" = true)
    (k22 : PySem.W.keepIn K (.ref f22) = true)
    (i22 : PySem.W.isFn K (.ref f22) = true)
    (a23 : PySem.W.findIn K (.ref C) "__bool__" = some (some (.ref f23)))
    (l23 : K.lookup f23 = some ⟨oc23, od23, .func (PySem.W.fnOf "__bool__" "Surd.__bool__" (defArgs (sS 13)) (defBody (sS 13)) (defScope (sS 13)) .none kV23 dc23 pm23 an23 cd23 ct23), sl23⟩)
    (c23 : PySem.W.codeIn K cd23 "Surd.__bool__" = true)
    (k23 : PySem.W.keepIn K (.ref f23) = true)
    (i23 : PySem.W.isFn K (.ref f23) = true)
    (a24 : PySem.W.findIn K (.ref C) "__eq__" = some (some (.ref f24)))
    (l24 : K.lookup f24 = some ⟨oc24, od24, .func (PySem.W.fnOf "__eq__" "Surd.__eq__" (defArgs (sS 12)) (defBody (sS 12)) (defScope (sS 12)) .none kV24 dc24 pm24 an24 cd24 ct24), sl24⟩)
    (c24 : PySem.W.codeIn K cd24 "Surd.__eq__" = true)
    (k24 : PySem.W.keepIn K (.ref f24) = true)
    (i24 : PySem.W.isFn K (.ref f24) = true)
    (a25 : PySem.W.findIn K (.ref C) "parts" = some (some (.ref f25)))
    (l25 : K.lookup f25 = some ⟨oc25, od25, .func (PySem.W.fnOf "parts" "Surd.parts" (defArgs (sS 3)) (defBody (sS 3)) (defScope (sS 3)) .none kV25 dc25 pm25 an25 cd25 ct25), sl25⟩)
    (c25 : PySem.W.codeIn K cd25 "Surd.parts" = true)
    (k25 : PySem.W.keepIn K (.ref f25) = true)
    (i25 : PySem.W.isFn K (.ref f25) = true)
    (a26 : PySem.W.findIn K (.ref C) "text" = some (some (.ref f26)))
    (l26 : K.lookup f26 = some ⟨oc26, od26, .func (PySem.W.fnOf "text" "Surd.text" (defArgs (sS 7)) (defBody (sS 7)) (defScope (sS 7)) .none kV26 dc26 pm26 an26 cd26 ct26), sl26⟩)
    (c26 : PySem.W.codeIn K cd26 "Surd.text" = true)
    (k26 : PySem.W.keepIn K (.ref f26) = true)
    (i26 : PySem.W.isFn K (.ref f26) = true)
    (a27 : PySem.W.findIn K (.ref C) "__repr__" = some (some (.ref f27)))
    (l27 : K.lookup f27 = some ⟨oc27, od27, .func (PySem.W.fnOf "__repr__" "Surd.__repr__" (defArgs (sS 14)) (defBody (sS 14)) (defScope (sS 14)) .none kV27 dc27 pm27 an27 cd27 ct27), sl27⟩)
    (c27 : PySem.W.codeIn K cd27 "Surd.__repr__" = true)
    (k27 : PySem.W.keepIn K (.ref f27) = true)
    (i27 : PySem.W.isFn K (.ref f27) = true)
    (smofs : PySem.W.findCls K (.ref C) (.type "type") "of_slope" = some (.get (.builtin "staticmethod.__get__") (.ref po) .none (.ref C)))
    (a28 : PySem.W.recIn K po "staticmethod" = some (.ref f28 :: rsofs))
    (l28 : K.lookup f28 = some ⟨oc28, od28, .func (PySem.W.fnOf "of_slope" "Surd.of_slope" (defArgs (sS 1)) (defBody (sS 1)) (defScope (sS 1)) .none kV28 dc28 pm28 an28 cd28 ct28), sl28⟩)
    (c28 : PySem.W.codeIn K cd28 "Surd.of_slope" = true)
    (k28 : PySem.W.keepIn K (.ref f28) = true)
    (rdofs : PySem.W.readsIn K C (.type "type") = true)
    (gaofs : PySem.W.specialIn K (.ref C) "__getattribute__" = some (some (.builtin "type.__getattribute__")))
    (atsrt : PySem.W.findIn K (.ref C) "root" = some (some (.ref psrt)))
    (gesrt : PySem.W.specialIn K (.ref psrt) "__get__" = some (some (.builtin "property.__get__")))
    (tksrt : PySem.W.takesIn K (.ref psrt) = some true)
    (a29 : PySem.W.recIn K psrt "property" = some (.ref f29 :: rssrt))
    (l29 : K.lookup f29 = some ⟨oc29, od29, .func (PySem.W.fnOf "root" "Surd.root" (defArgs (sS 2)) (defBody (sS 2)) (defScope (sS 2)) .none kV29 dc29 pm29 an29 cd29 ct29), sl29⟩)
    (c29 : PySem.W.codeIn K cd29 "Surd.root" = true)
    (k29 : PySem.W.keepIn K (.ref f29) = true)
    (haC : PySem.W.findIn K (.ref C) "__class__" = some (some (.builtin "object.__class__")))
    (hmC : PySem.W.mroIn K C (.type "object") = some true)
    (neC : PySem.W.findIn K (.ref C) "__ne__" = some (some (.builtin "object.__ne__")))
    (hnX : PySem.W.specialIn K (.builtin "object.__class__") "__get__" = some (some (.builtin "getset_descriptor.__get__")))
    (htX : PySem.W.takesIn K (.builtin "object.__class__") = some true)
    (sbC : PySem.W.subIn K (.type "tuple") (.ref C) = some false)
    (tyC : PySem.W.typeIn K (.ref C) = some (.type "type"))
    (icC : PySem.W.isClsIn K C = true)
    (aR : PySem.W.nsIn K mainGlobals "RootError" = some (some (.ref R)))
    (lR : K.lookup R = some (excClassObj nR qR R NR bsR bmR true snR subR abR colR ddR r0 r1 r2 r3 r5 "ValueError.__new__"))
    (vR : refsVE bmR = true)
    (fR : PySem.W.findIn K (.ref R) "__init__" = some (some (.builtin "ValueError.__init__")))
    (oq : PySem.W.nsIn K cStatics "thirdparty.any" = some none)
    (tp : (l.prog.main.scope.names.lookup ("super" : Str)).isSome = false)
    (aC2 : PySem.W.nsIn K mainGlobals "Missing" = some (some (.ref cM)))
    (aC3 : PySem.W.nsIn K mainGlobals "NothingLeft" = some (some (.ref cQ)))
    (xb1 : PySem.W.subIn K (.ref R) (.type "BaseException") = some true)
    (xi1 : PySem.W.isClsIn K R = true)
    (xt1 : PySem.W.typeIn K (.ref R) = some (.type "type"))
    (xb2 : PySem.W.subIn K (.ref cM) (.type "BaseException") = some true)
    (xi2 : PySem.W.isClsIn K cM = true)
    (xt2 : PySem.W.typeIn K (.ref cM) = some (.type "type"))
    (xb3 : PySem.W.subIn K (.ref cQ) (.type "BaseException") = some true)
    (xi3 : PySem.W.isClsIn K cQ = true)
    (xt3 : PySem.W.typeIn K (.ref cQ) = some (.type "type"))
    (aEN : PySem.W.nsIn K mainGlobals "InvalidNumber" = some (some (.ref EN)))
    (lEN : K.lookup EN = some (excClassObj nmN qN EN NN bsN (.ref R :: bmR) true snN subN abN colN ddN kN0 kN1 kN2 kN3 kN5 "ValueError.__new__"))
    (saEN : PySem.W.findIn K (.ref EN) "__setattr__" = some (some (.builtin "object.__setattr__")))
    (gaEN : PySem.W.findIn K (.ref EN) "__getattribute__" = some (some (.builtin "BaseException.__getattribute__")))
    (ggEN : PySem.W.findIn K (.ref EN) "__getattr__" = some none)
    (ntEN : PySem.W.findIn K (.ref EN) "tag" = some none)
    (ngEN : PySem.W.findIn K (.ref EN) "given" = some none)
    (iEN : PySem.W.findIn K (.ref EN) "__init__" = some (some (.ref fEN)))
    (tEN : PySem.W.typeIn K (.ref fEN) = some (.type "function"))
    (kEN : PySem.W.keepIn K (.ref EN) = true)
    (xEN : PySem.W.subIn K (.ref EN) (.type "BaseException") = some true)
    (yEN : PySem.W.typeIn K (.ref EN) = some (.type "type"))
    (hEN : PySem.W.hasDictIn K EN = true)
    (mEN : PySem.W.mroIn K EN (.ref EN) = some true)
    (jEN : K.lookup fEN = some ⟨ocEN, odEN, .func (PySem.W.ksFn "__init__" "InvalidNumber.__init__" (defArgs (inClass (top 5) 0)) (defBody (inClass (top 5) 0)) (defScope (inClass (top 5) 0)) .none .none docEN pmEN anEN (.ref cdaN) ctEN ccN), slEN⟩)
    (cEN : PySem.W.codeIn K (.ref cdaN) "InvalidNumber.__init__" = true)
    (dEN : K.lookup cdaN = some ⟨cclN, cddN, .fields vsN, ccsN⟩)
    (vvEN : vsN[2]? = some (.str fileN tfN))
    (pEN : ((l.prog.main.file : Str) == fileN) = true)
    (uEN : K.lookup ccN = some ⟨clN, cldN, .cell (some (.ref EN)), cslN⟩)
    (s1EN : PySem.W.subIn K (.ref EN) (.ref R) = some true)
    (s2EN : PySem.W.subIn K (.ref EN) (.ref cM) = some false)
    (s3EN : PySem.W.subIn K (.ref EN) (.ref cQ) = some false)
    (aEZ : PySem.W.nsIn K mainGlobals "InvalidRoot" = some (some (.ref EZ)))
    (lEZ : K.lookup EZ = some (excClassObj nmZ qZ EZ NZ bsZ (.ref R :: bmR) true snZ subZ abZ colZ ddZ kZ0 kZ1 kZ2 kZ3 kZ5 "ValueError.__new__"))
    (saEZ : PySem.W.findIn K (.ref EZ) "__setattr__" = some (some (.builtin "object.__setattr__")))
    (gaEZ : PySem.W.findIn K (.ref EZ) "__getattribute__" = some (some (.builtin "BaseException.__getattribute__")))
    (ggEZ : PySem.W.findIn K (.ref EZ) "__getattr__" = some none)
    (ntEZ : PySem.W.findIn K (.ref EZ) "tag" = some none)
    (ngEZ : PySem.W.findIn K (.ref EZ) "given" = some none)
    (iEZ : PySem.W.findIn K (.ref EZ) "__init__" = some (some (.ref fEZ)))
    (tEZ : PySem.W.typeIn K (.ref fEZ) = some (.type "function"))
    (kEZ : PySem.W.keepIn K (.ref EZ) = true)
    (xEZ : PySem.W.subIn K (.ref EZ) (.type "BaseException") = some true)
    (yEZ : PySem.W.typeIn K (.ref EZ) = some (.type "type"))
    (hEZ : PySem.W.hasDictIn K EZ = true)
    (mEZ : PySem.W.mroIn K EZ (.ref EZ) = some true)
    (jEZ : K.lookup fEZ = some ⟨ocEZ, odEZ, .func (PySem.W.ksFn "__init__" "InvalidRoot.__init__" (defArgs (inClass (top 4) 0)) (defBody (inClass (top 4) 0)) (defScope (inClass (top 4) 0)) .none .none docEZ pmEZ anEZ (.ref cdaZ) ctEZ ccZ), slEZ⟩)
    (cEZ : PySem.W.codeIn K (.ref cdaZ) "InvalidRoot.__init__" = true)
    (dEZ : K.lookup cdaZ = some ⟨cclZ, cddZ, .fields vsZ, ccsZ⟩)
    (vvEZ : vsZ[2]? = some (.str fileZ tfZ))
    (pEZ : ((l.prog.main.file : Str) == fileZ) = true)
    (uEZ : K.lookup ccZ = some ⟨clZ, cldZ, .cell (some (.ref EZ)), cslZ⟩)
    (s1EZ : PySem.W.subIn K (.ref EZ) (.ref R) = some true)
    (s2EZ : PySem.W.subIn K (.ref EZ) (.ref cM) = some false)
    (s3EZ : PySem.W.subIn K (.ref EZ) (.ref cQ) = some false)
    (aES : PySem.W.nsIn K mainGlobals "InvalidSlope" = some (some (.ref ES)))
    (lES : K.lookup ES = some (excClassObj nmS qS ES NS bsS (.ref R :: bmR) true snS subS abS colS ddS kS0 kS1 kS2 kS3 kS5 "ValueError.__new__"))
    (saES : PySem.W.findIn K (.ref ES) "__setattr__" = some (some (.builtin "object.__setattr__")))
    (gaES : PySem.W.findIn K (.ref ES) "__getattribute__" = some (some (.builtin "BaseException.__getattribute__")))
    (ggES : PySem.W.findIn K (.ref ES) "__getattr__" = some none)
    (ntES : PySem.W.findIn K (.ref ES) "tag" = some none)
    (ngES : PySem.W.findIn K (.ref ES) "given" = some none)
    (iES : PySem.W.findIn K (.ref ES) "__init__" = some (some (.ref fES)))
    (tES : PySem.W.typeIn K (.ref fES) = some (.type "function"))
    (kES : PySem.W.keepIn K (.ref ES) = true)
    (xES : PySem.W.subIn K (.ref ES) (.type "BaseException") = some true)
    (yES : PySem.W.typeIn K (.ref ES) = some (.type "type"))
    (hES : PySem.W.hasDictIn K ES = true)
    (mES : PySem.W.mroIn K ES (.ref ES) = some true)
    (jES : K.lookup fES = some ⟨ocES, odES, .func (PySem.W.ksFn "__init__" "InvalidSlope.__init__" (defArgs (inClass (top 6) 0)) (defBody (inClass (top 6) 0)) (defScope (inClass (top 6) 0)) .none .none docES pmES anES (.ref cdaS) ctES ccS), slES⟩)
    (cES : PySem.W.codeIn K (.ref cdaS) "InvalidSlope.__init__" = true)
    (dES : K.lookup cdaS = some ⟨cclS, cddS, .fields vsS, ccsS⟩)
    (vvES : vsS[2]? = some (.str fileS tfS))
    (pES : ((l.prog.main.file : Str) == fileS) = true)
    (uES : K.lookup ccS = some ⟨clS, cldS, .cell (some (.ref ES)), cslS⟩)
    (s1ES : PySem.W.subIn K (.ref ES) (.ref R) = some true)
    (s2ES : PySem.W.subIn K (.ref ES) (.ref cM) = some false)
    (s3ES : PySem.W.subIn K (.ref ES) (.ref cQ) = some false)
    (z_abs : PySem.W.nsIn K mainGlobals "abs" = some none)
    (z_divmod : PySem.W.nsIn K mainGlobals "divmod" = some none)
    (z_str : PySem.W.nsIn K mainGlobals "str" = some none)
    (z_int : PySem.W.nsIn K mainGlobals "int" = some none)
    (z_len : PySem.W.nsIn K mainGlobals "len" = some none)
    (z_list : PySem.W.nsIn K mainGlobals "list" = some none)
    (z_tuple : PySem.W.nsIn K mainGlobals "tuple" = some none)
    (z_bool : PySem.W.nsIn K mainGlobals "bool" = some none)
    (z_isinstance : PySem.W.nsIn K mainGlobals "isinstance" = some none)
    (z_range : PySem.W.nsIn K mainGlobals "range" = some none)
    (z_enumerate : PySem.W.nsIn K mainGlobals "enumerate" = some none)
    (z_zip : PySem.W.nsIn K mainGlobals "zip" = some none)
    (z_reversed : PySem.W.nsIn K mainGlobals "reversed" = some none)
    (z_sorted : PySem.W.nsIn K mainGlobals "sorted" = some none)
    (z_sum : PySem.W.nsIn K mainGlobals "sum" = some none)
    (z_all : PySem.W.nsIn K mainGlobals "all" = some none)
    (z_any : PySem.W.nsIn K mainGlobals "any" = some none)
    (z_max : PySem.W.nsIn K mainGlobals "max" = some none)
    (z_min : PySem.W.nsIn K mainGlobals "min" = some none)
    (z_super : PySem.W.nsIn K mainGlobals "super" = some none)
    (z_repr : PySem.W.nsIn K mainGlobals "repr" = some none)
    (a30 : PySem.W.nsIn K mainGlobals "law" = some (some (.ref f30)))
    (l30 : K.lookup f30 = some ⟨oc30, od30, .func (PySem.W.fnOf "law" "law" (defArgs (top 35)) (defBody (top 35)) (defScope (top 35)) .none kV30 dc30 pm30 an30 cd30 ct30), sl30⟩)
    (c30 : PySem.W.codeIn K cd30 "law" = true)
    (k30 : PySem.W.keepIn K (.ref f30) = true)
    (pgC : PySem.W.plainGet K C Str.empty = true)
    (hdC : PySem.W.hasDictIn K C = true)
    (poC : PySem.W.plainOver K C = true)
    (saC : PySem.W.findIn K (.ref C) "__setattr__" = some (some (.builtin "object.__setattr__")))
    (mkC : PySem.W.makesIn K C = true)
    (kpC : PySem.W.keepIn K (.ref C) = true)
    (nC_root : PySem.W.findIn K (.ref C) "_root" = some none)
    (nC_parts : PySem.W.findIn K (.ref C) "_parts" = some none)
    (aPp : PySem.W.nsIn K mainGlobals "PERIODS" = some (some (.ref pd)))
    (lPp : K.lookup pd = some ⟨.type "dict", none, .dict es npp, #[]⟩)
    (oPp : okE es.toList [2, 3, 5, 6, 13] = true)
    (wPp : (pd == sysModules) = false)
    (eqL : cd30 = .ref cL)
    (lL : K.lookup cL = some ⟨.type "code", dL, .fields vL, sL⟩)
    (eL1 : vL[11]? = some (.ref P0))
    (eL2 : vL.getD 11 .none = .ref P0)
    (eL3 : vL.getD 18 .none = .str fileL tfL)
    (eL4 : vL.getD 7 .none = .int flL tgL)
    (eL5 : vL.getD 9 .none = .bool inL)
    (eL6 : vL.getD 10 .none = .int txL ttL)
    (eL7 : (cL == P0) = false)
    (eL8 : (K.lookup P0).isNone = true)
    (eqL1 : cd17 = .ref cL1)
    (lL1 : K.lookup cL1 = some ⟨.type "code", dL1, .fields vL1, sL1⟩)
    (eL11 : vL1[11]? = some (.ref P1))
    (eL12 : vL1.getD 11 .none = .ref P1)
    (eL13 : vL1.getD 18 .none = .str fileL1 tfL1)
    (eL14 : vL1.getD 7 .none = .int flL1 tgL1)
    (eL15 : vL1.getD 9 .none = .bool inL1)
    (eL16 : vL1.getD 10 .none = .int txL1 ttL1)
    (eL17 : (cL1 == P1) = false)
    (eL18 : (K.lookup P1).isNone = true)
    (nP1 : (P1 == P0) = false) :
    LamX.LawAtS l w K CX0 13 63 "_law_script" mg fa h := by
  have e := hfa.symm.trans (PySem.W.mg_of X G a30)
  cases e
  have F_is_whole := fun_mk (st := top 12) l1 c1 k1
  have b_is_whole := F_is_whole.binds (ps := ["value"]) fun _ _ _ _ _ _ us hl => match us, hl with | [_], _ => rfl
  have m_is_whole := PySem.W.mg_of X G a1
  have F_is_between := fun_mk (st := top 13) l2 c2 k2
  have b_is_between := F_is_between.binds (ps := ["value", "low", "high"]) fun _ _ _ _ _ _ us hl => match us, hl with | [_, _, _], _ => rfl
  have m_is_between := PySem.W.mg_of X G a2
  have F_is_root := fun_mk (st := top 14) l3 c3 k3
  have b_is_root := F_is_root.binds (ps := ["value"]) fun _ _ _ _ _ _ us hl => match us, hl with | [_], _ => rfl
  have m_is_root := PySem.W.mg_of X G a3
  have F_is_slope := fun_mk (st := top 16) l4 c4 k4
  have b_is_slope := F_is_slope.binds (ps := ["value"]) fun _ _ _ _ _ _ us hl => match us, hl with | [_], _ => rfl
  have m_is_slope := PySem.W.mg_of X G a4
  have F_figures := fun_mk (st := top 20) l5 c5 k5
  have b_figures := F_figures.binds (ps := ["number"]) fun _ _ _ _ _ _ us hl => match us, hl with | [_], _ => rfl
  have m_figures := PySem.W.mg_of X G a5
  have F_multiple_text := fun_mk (st := top 19) l6 c6 k6
  have b_multiple_text := F_multiple_text.binds (ps := ["j"]) fun _ _ _ _ _ _ us hl => match us, hl with | [_], _ => rfl
  have m_multiple_text := PySem.W.mg_of X G a6
  have F_sum_text := fun_mk (st := top 18) l7 c7 k7
  have b_sum_text := F_sum_text.binds (ps := ["i", "j"]) fun _ _ _ _ _ _ us hl => match us, hl with | [_, _], _ => rfl
  have m_sum_text := PySem.W.mg_of X G a7
  have F_slope_text := fun_mk (st := top 17) l8 c8 k8
  have b_slope_text := F_slope_text.binds (ps := ["slope"]) fun _ _ _ _ _ _ us hl => match us, hl with | [_], _ => rfl
  have m_slope_text := PySem.W.mg_of X G a8
  have F_law_bag := fun_mk (st := top 23) l9 c9 k9
  have b_law_bag := F_law_bag.binds (ps := ["_law_script"]) fun _ _ _ _ _ _ us hl => match us, hl with | [_], _ => rfl
  have m_law_bag := PySem.W.mg_of X G a9
  have F_law_pull := fun_mk (st := top 24) l10 c10 k10
  have b_law_pull := F_law_pull.binds (ps := ["_law_bag_here", "_law_sides"]) fun _ _ _ _ _ _ us hl => match us, hl with | [_, _], _ => rfl
  have m_law_pull := PySem.W.mg_of X G a10
  have F_law_of := fun_mk (st := top 25) l11 c11 k11
  have b_law_of := F_law_of.binds (ps := ["_law_bag_here", "_law_some"]) fun _ _ _ _ _ _ us hl => match us, hl with | [_, _], _ => rfl
  have m_law_of := PySem.W.mg_of X G a11
  have F_law_far := fun_mk (st := top 30) l12 c12 k12
  have b_law_far := F_law_far.binds (ps := ["_law_bag_here", "_law_figures"]) fun _ _ _ _ _ _ us hl => match us, hl with | [_, _], _ => rfl
  have m_law_far := PySem.W.mg_of X G a12
  have F_law_root := fun_mk (st := top 31) l13 c13 k13
  have b_law_root := F_law_root.binds (ps := ["_law_bag_here"]) fun _ _ _ _ _ _ us hl => match us, hl with | [_], _ => rfl
  have m_law_root := PySem.W.mg_of X G a13
  have F_law_same := fun_mk (st := top 26) l14 c14 k14
  have b_law_same := F_law_same.binds (ps := ["_law_found", "_law_due"]) fun _ _ _ _ _ _ us hl => match us, hl with | [_, _], _ => rfl
  have m_law_same := PySem.W.mg_of X G a14
  have F_law_divisor := fun_mk (st := top 32) l15 c15 k15
  have b_law_divisor := F_law_divisor.binds (ps := ["_law_one", "_law_other"]) fun _ _ _ _ _ _ us hl => match us, hl with | [_, _], _ => rfl
  have m_law_divisor := PySem.W.mg_of X G a15
  have F_law_slope_text := fun_mk (st := top 33) l16 c16 k16
  have b_law_slope_text := F_law_slope_text.binds (ps := ["_law_i", "_law_j", "_law_k_z"]) fun _ _ _ _ _ _ us hl => match us, hl with | [_, _, _], _ => rfl
  have m_law_slope_text := PySem.W.mg_of X G a16
  have F_law_surds_refused := fun_mk (st := top 34) l17 c17 k17
  have b_law_surds_refused := F_law_surds_refused.binds (ps := ["_law_bag_here"]) fun _ _ _ _ _ _ us hl => match us, hl with | [_], _ => rfl
  have m_law_surds_refused := PySem.W.mg_of X G a17
  have F_law_field := fun_mk (st := top 27) l18 c18 k18
  have b_law_field := F_law_field.binds (ps := ["_law_one"]) fun _ _ _ _ _ _ us hl => match us, hl with | [_], _ => rfl
  have m_law_field := PySem.W.mg_of X G a18
  have F_law_place := fun_mk (st := top 28) l19 c19 k19
  have b_law_place := F_law_place.binds (ps := ["_law_one"]) fun _ _ _ _ _ _ us hl => match us, hl with | [_], _ => rfl
  have m_law_place := PySem.W.mg_of X G a19
  have F_law_why := fun_mk (st := top 29) l20 c20 k20
  have b_law_why := F_law_why.binds (ps := ["_law_ask"]) fun _ _ _ _ _ _ us hl => match us, hl with | [_], _ => rfl
  have m_law_why := PySem.W.mg_of X G a20
  have mC_C := PySem.W.mg_of X G aCC
  have F_sgn := fun_mk (st := sS 4) l22 c22 k22
  have b_sgn := F_sgn.binds (ps := ["self"]) fun _ _ _ _ _ _ us hl => match us, hl with | [_], _ => rfl
  have F_boo := fun_mk (st := sS 13) l23 c23 k23
  have b_boo := F_boo.binds (ps := ["self"]) fun _ _ _ _ _ _ us hl => match us, hl with | [_], _ => rfl
  have F_seq := fun_mk (st := sS 12) l24 c24 k24
  have b_seq := F_seq.binds (ps := ["self", "other"]) fun _ _ _ _ _ _ us hl => match us, hl with | [_, _], _ => rfl
  have F_parts := fun_mk (st := sS 3) l25 c25 k25
  have b_parts := F_parts.binds (ps := ["self"]) fun _ _ _ _ _ _ us hl => match us, hl with | [_], _ => rfl
  have F_text := fun_mk (st := sS 7) l26 c26 k26
  have b_text := F_text.binds (ps := ["self"]) fun _ _ _ _ _ _ us hl => match us, hl with | [_], _ => rfl
  have F_repr := fun_mk (st := sS 14) l27 c27 k27
  have b_repr := F_repr.binds (ps := ["self"]) fun _ _ _ _ _ _ us hl => match us, hl with | [_], _ => rfl
  have F_ofs := fun_mk (st := sS 1) l28 c28 k28
  have b_ofs := F_ofs.binds (ps := ["root", "slope"]) fun _ _ _ _ _ _ us hl => match us, hl with | [_, _], _ => rfl
  have F_srt := fun_mk (st := sS 2) l29 c29 k29
  have b_srt := F_srt.binds (ps := ["self"]) fun _ _ _ _ _ _ us hl => match us, hl with | [_], _ => rfl
  have n_abs := PySem.W.mg_none_of X G z_abs
  have n_divmod := PySem.W.mg_none_of X G z_divmod
  have n_str := PySem.W.mg_none_of X G z_str
  have n_int := PySem.W.mg_none_of X G z_int
  have n_len := PySem.W.mg_none_of X G z_len
  have n_list := PySem.W.mg_none_of X G z_list
  have n_tuple := PySem.W.mg_none_of X G z_tuple
  have n_bool := PySem.W.mg_none_of X G z_bool
  have n_isinstance := PySem.W.mg_none_of X G z_isinstance
  have n_range := PySem.W.mg_none_of X G z_range
  have n_enumerate := PySem.W.mg_none_of X G z_enumerate
  have n_zip := PySem.W.mg_none_of X G z_zip
  have n_reversed := PySem.W.mg_none_of X G z_reversed
  have n_sorted := PySem.W.mg_none_of X G z_sorted
  have n_sum := PySem.W.mg_none_of X G z_sum
  have n_all := PySem.W.mg_none_of X G z_all
  have n_any := PySem.W.mg_none_of X G z_any
  have n_max := PySem.W.mg_none_of X G z_max
  have n_min := PySem.W.mg_none_of X G z_min
  have n_super := PySem.W.mg_none_of X G z_super
  have n_repr := PySem.W.mg_none_of X G z_repr
  have F_law := fun_mk (st := top 35) l30 c30 k30
  have b_law := F_law.binds (ps := ["_law_script"]) fun _ _ _ _ _ _ us hl => match us, hl with | [_], _ => rfl
  have m_law := PySem.W.mg_of X G a30
  have m_PERIODS := PySem.W.mg_of X G aPp
  subst eqL
  have hT0 : h.get? P0 = some { cls := .none, data := .fields #[] } := OT0 cL P0 _ _ _ _ _ _ l30 rfl rfl lL eL1
  have hC0 : PySem.W.CodeHd h cL P0 := ⟨_, _, _, _, _, _, _, _, _, X _ _ lL, rfl, rfl, eL1, eL2, eL3, eL4, eL5, eL6, by simpa using eL7⟩
  subst eqL1
  have hT1 : h.get? P1 = some { cls := .none, data := .fields #[] } := OT1 f17 m_law_surds_refused cL1 P1 _ _ _ _ _ _ l17 rfl rfl lL1 eL11
  have hC1 : PySem.W.CodeHd h cL1 P1 := ⟨_, _, _, _, _, _, _, _, _, X _ _ lL1, rfl, rfl, eL11, eL12, eL13, eL14, eL15, eL16, by simpa using eL17⟩
  have mp : ∀ p : Addr × Addr, p ∈ [(cL, P0), (cL1, P1)] → p = (cL, P0) ∨ p = (cL1, P1) := fun p hp => by simpa using hp
  refine ⟨PySem.W.fnOf "law" "law" (defArgs (top 35)) (defBody (top 35)) (defScope (top 35)) .none kV30 dc30 pm30 an30 (.ref cL) ct30, [(cL, P0), (cL1, P1)], spLaw K P0 P1, fun p hp => ?_, fun p hp => ?_, fun p hp => ?_, fun s v => .of_eq rfl, fun H a ns hl _ hT hS => ⟨a, ns, rfl, hS, hl, hT (cL, P0) (by simp), hT (cL1, P1) (by simp), fun _ => rfl⟩, fun base _ _ TBs => ?_⟩
  · rcases mp p hp with hp | hp
    · subst hp
      exact hT0
    · subst hp
      exact hT1
  · rcases mp p hp with hp | hp
    · subst hp
      exact Option.isNone_iff_eq_none.mp eL8
    · subst hp
      exact Option.isNone_iff_eq_none.mp eL18
  · rcases mp p hp with hp | hp
    · subst hp
      exact hC0
    · subst hp
      exact hC1
  have tb := TBs (cL, P0) (by simp)
  have tb1 := TBs (cL1, P1) (by simp)
  have ON : OwnE l.prog w K mg "InvalidNumber" "given" EN := ownE (own_of (PySem.W.mg_of X G aEN) lEN lR vR fR saEN gaEN ggEN ntEN iEN tEN kEN xEN yEN hEN mEN n_super oq tp) ngEN jEN cEN ⟨_, _, _, _, _, _, dEN, vvEN, pEN⟩ ⟨_, _, _, uEN⟩ txtN
  have xN := exm3 (exm_of xb1 xi1 xt1 s1EN) (exm_of xb2 xi2 xt2 s2EN) (exm_of xb3 xi3 xt3 s3EN)
  have mN := PySem.W.mg_of X G aEN
  have OZ : OwnE l.prog w K mg "InvalidRoot" "given" EZ := ownE (own_of (PySem.W.mg_of X G aEZ) lEZ lR vR fR saEZ gaEZ ggEZ ntEZ iEZ tEZ kEZ xEZ yEZ hEZ mEZ n_super oq tp) ngEZ jEZ cEZ ⟨_, _, _, _, _, _, dEZ, vvEZ, pEZ⟩ ⟨_, _, _, uEZ⟩ txtZ
  have xZ := exm3 (exm_of xb1 xi1 xt1 s1EZ) (exm_of xb2 xi2 xt2 s2EZ) (exm_of xb3 xi3 xt3 s3EZ)
  have mZ := PySem.W.mg_of X G aEZ
  have OS : OwnE l.prog w K mg "InvalidSlope" "given" ES := ownE (own_of (PySem.W.mg_of X G aES) lES lR vR fR saES gaES ggES ntES iES tES kES xES yES hES mES n_super oq tp) ngES jES cES ⟨_, _, _, _, _, _, dES, vvES, pES⟩ ⟨_, _, _, uES⟩ txtS
  have xS := exm3 (exm_of xb1 xi1 xt1 s1ES) (exm_of xb2 xi2 xt2 s2ES) (exm_of xb3 xi3 xt3 s3ES)
  have mS := PySem.W.mg_of X G aES
  have ktC : PySem.W.kitOne K (.type "tuple") (.ref C) = some false := kit_no icC tyC sbC (by simp)
  have nfC : PySem.W.notFirst K C (.type "tuple") = true := by unfold PySem.W.notFirst; rw [sbC]; simp
  have TNm : Q.TN mg := ⟨n_abs, n_divmod, n_str, n_int, n_len, n_list, n_tuple, n_bool, n_isinstance, n_range, n_enumerate, n_zip, n_reversed, n_sorted, n_sum, n_all, n_any, n_max, n_min⟩
  have TBm : TB mg := ⟨n_list, n_len, n_abs, n_int⟩
  have TSs : TSm mg := ⟨n_isinstance, n_bool, n_int, n_str, n_list, n_tuple, n_len, n_all, n_zip⟩
  have J : IsS K mg C := ⟨haC, hnX, htX, hmC, n_isinstance⟩
  have D_is_whole : Df l.prog w K mg base 1 "is_whole" ["value"] (spWhole K) := ⟨_, _, ok_whole (k := 0) F_is_whole n_isinstance n_int n_bool, b_is_whole, m_is_whole, F_is_whole.kp⟩
  have D_is_between : Df l.prog w K mg base 2 "is_between" ["value", "low", "high"] (spBtw K) := ⟨_, _, ok_btw F_is_between D_is_whole, b_is_between, m_is_between, F_is_between.kp⟩
  have D_is_root : Df l.prog w K mg base 2 "is_root" ["value"] (spIsRoot K) := ⟨_, _, ok_isroot F_is_root D_is_whole m_PERIODS ⟨wPp, es, npp, lPp, oPp⟩, b_is_root, m_is_root, F_is_root.kp⟩
  have D_is_slope : Df l.prog w K mg base 3 "is_slope" ["value"] (spIsSlope K) := ⟨_, _, ok_isslope F_is_slope n_isinstance n_tuple n_len D_is_between, b_is_slope, m_is_slope, F_is_slope.kp⟩
  have D_figures : Df l.prog w K mg base 1 "_figures" ["number"] (Q.spD K mg false Q.fFig) := ⟨_, _, Q.ok_figures (j := 0) F_figures TNm, b_figures, m_figures, F_figures.kp⟩
  have D_multiple_text : Df l.prog w K mg base 2 "_multiple_text" ["j"] (Q.spD K mg false Q.fMul) := ⟨_, _, Q.ok_multiple F_multiple_text TNm D_figures, b_multiple_text, m_multiple_text, F_multiple_text.kp⟩
  have D_sum_text : Df l.prog w K mg base 3 "_sum_text" ["i", "j"] (Q.spD K mg false Q.fSum) := ⟨_, _, Q.ok_sum F_sum_text TNm (D_figures.mono (by decide)) D_multiple_text, b_sum_text, m_sum_text, F_sum_text.kp⟩
  have D_slope_text : Df l.prog w K mg base 4 "slope_text" ["slope"] (Q.spD K mg false Q.fSlope) := ⟨_, _, Q.ok_slope F_slope_text TNm (D_figures.mono (by decide)) D_sum_text, b_slope_text, m_slope_text, F_slope_text.kp⟩
  have D_law_bag : Df l.prog w K mg base 1 "_law_bag" ["_law_script"] (spBag K) := ⟨_, _, ok_bag F_law_bag TBm, b_law_bag, m_law_bag, F_law_bag.kp⟩
  have D_law_pull : Df l.prog w K mg base 1 "_law_pull" ["_law_bag_here", "_law_sides"] (spPullC) := ⟨_, _, ok_pullC F_law_pull TBm, b_law_pull, m_law_pull, F_law_pull.kp⟩
  have D_law_of : Df l.prog w K mg base 2 "_law_of" ["_law_bag_here", "_law_some"] (spOfC K) := ⟨_, _, ok_ofC F_law_of TBm D_law_pull, b_law_of, m_law_of, F_law_of.kp⟩
  have D_law_far : Df l.prog w K mg base 2 "_law_far" ["_law_bag_here", "_law_figures"] (spFarC) := ⟨_, _, ok_farC F_law_far n_range D_law_pull, b_law_far, m_law_far, F_law_far.kp⟩
  have D_law_root : Df l.prog w K mg base 3 "_law_root" ["_law_bag_here"] (spRootC) := ⟨_, _, ok_rootC F_law_root D_law_of, b_law_root, m_law_root, F_law_root.kp⟩
  have D_law_same : Df l.prog w K mg base 6 "_law_same" ["_law_found", "_law_due"] (spSame K 5) := ⟨_, _, ok_same F_law_same TSs b_law_same m_law_same 5, b_law_same, m_law_same, F_law_same.kp⟩
  have D_law_divisor : Df l.prog w K mg base 1 "_law_divisor" ["_law_one", "_law_other"] (spDiv) := ⟨_, _, ok_div (k := 0) F_law_divisor n_abs n_int, b_law_divisor, m_law_divisor, F_law_divisor.kp⟩
  have D_law_slope_text : Df l.prog w K mg base 1 "_law_slope_text" ["_law_i", "_law_j", "_law_k_z"] (Q.spD K mg false Q.fLst) := ⟨_, _, Q.ok_lst (j := 0) F_law_slope_text TNm, b_law_slope_text, m_law_slope_text, F_law_slope_text.kp⟩
  have m_G := PySem.W.mg_of X G aG
  have T : TxS K mg C := ⟨⟨pgC, hdC, poC, saC⟩, nC_root, nC_parts, mC_C⟩
  have FI : FunD K "__init__" "Surd.__init__" (defArgs (sS 0)) (defBody (sS 0)) (defScope (sS 0)) [.int 0] [("k", .int 1)] f21 (PySem.W.fnOf "__init__" "Surd.__init__" (defArgs (sS 0)) (defBody (sS 0)) (defScope (sS 0)) (.ref T0) (.ref D0) dc21 pm21 an21 cd21 ct21) :=
    ⟨⟨oc21, od21, .ref T0, .ref D0, dc21, pm21, an21, cd21, ct21, sl21, rfl, l21, c21, .inr ⟨by simp, T0, oT, [.int 0 tT], nT, rfl, lT, dT, .cons ⟨_, rfl⟩ .nil⟩, .inr ⟨D0, rfl, fun q hq => by
      obtain rfl : q = ((("k" : Str), V.int 1) : Str × V) := by simpa using hq
      exact ⟨_, kD, _, rfl⟩⟩⟩, k21⟩
  have GI := ok_SInit (P := l.prog) (w := w) (base := base) (k := 5) FI T m_G (D_is_root.mono (by decide))
  have kb : KBn K (PySem.W.fnOf "__init__" "Surd.__init__" (defArgs (sS 0)) (defBody (sS 0)) (defScope (sS 0)) (.ref T0) (.ref D0) dc21 pm21 an21 cd21 ct21) ["self", "root", "i", "j", "k"] 4 ["k"] (fun us ws => us ++ ws) (fun vs zs => vs ++ zs) := by
    obtain ⟨its, mv, kb⟩ := FI.kbinds (ps := ["self", "root", "i", "j", "k"]) 4 ["k"] [] (fun us _ _ ws => us ++ ws) (by simp) (by simp) (fun q hq => by cases hq) (fun r1 _ _ r4 => r1.append r4)
      (fun T D doc pm an cdv ct us its mv ws h1 h2 h3 h4 => match us, its, mv, ws, h1, h2, h3, h4 with | [_, _, _, _], [_], [], [_], _, _, _, _ => ⟨_, rfl, rfl⟩)
    exact kb
  have b4 := FI.binds (ps := ["self", "root", "i", "j", "k"]) 4 1 (by simp) rfl (fun T D doc pm an cdv ct us its ks h1 h2 h3 => match us, its, ks, h1, h2, h3 with | [_, _, _, _], [_], [_], _, _, _ => ⟨_, rfl, _, _, _, _, _, _, rfl, rfl, rfl⟩) (by simp)
  have b3 := FI.binds (ps := ["self", "root", "i", "j", "k"]) 3 0 (by simp) rfl (fun T D doc pm an cdv ct us its ks h1 h2 h3 => match us, its, ks, h1, h2, h3 with | [_, _, _], [_], [_], _, _, _ => ⟨_, rfl, _, _, _, _, _, _, rfl, rfl, rfl⟩) (by simp)
  have M6 : MkS l.prog w K mg base C 6 := ⟨_, _, ⟨mkC, a21, i21, kpC⟩, GI, kb, b4, b3⟩
  have kb3 : ∃ gg : List Value → List Value → List Value, KBn K (PySem.W.fnOf "__init__" "Surd.__init__" (defArgs (sS 0)) (defBody (sS 0)) (defScope (sS 0)) (.ref T0) (.ref D0) dc21 pm21 an21 cd21 ct21) psI 3 ["k"] gg (fun vs zs => vs ++ [.int 0] ++ zs) := by
    obtain ⟨its, mv, kb⟩ := FI.kbinds (ps := ["self", "root", "i", "j", "k"]) 3 ["k"] [] (fun us its _ ws => us ++ its ++ ws) (by simp) (by simp) (fun q hq => by cases hq) (fun r1 r2 _ r4 => (r1.append r2).append r4)
      (fun T D doc pm an cdv ct us its mv ws h1 h2 h3 h4 => match us, its, mv, ws, h1, h2, h3, h4 with | [_, _, _], [_], [], [_], _, _, _, _ => ⟨_, rfl, rfl⟩)
    exact ⟨_, kb⟩
  have Gsgn := ok_SSign (P := l.prog) (w := w) (base := base) (k := 0) F_sgn T n_abs
  have Gboo := ok_SBool (P := l.prog) (w := w) (base := base) F_boo T n_bool Gsgn ⟨a22, i22, F_sgn.kp⟩ b_sgn
  have Rboo : FnR l.prog w K mg base (CX0) 2 f23 (spBoolS C) := (Gboo.raw b_boo .nil).imp fun vs H Q E z => by rw [List.append_nil]; exact z
  have Gseq := ok_SEqG (P := l.prog) (w := w) (base := base) (k := 0) F_seq T J ktC
  have Gparts := ok_Parts (P := l.prog) (w := w) (base := base) (k := 0) F_parts T
  have Gtext := ok_Text (P := l.prog) (w := w) (base := base) F_text T D_slope_text
  have Mtext : Mt l.prog w K mg base C 5 "text" ["self"] (spText C) := ⟨_, _, Gtext, ⟨a26, i26, F_text.kp⟩, b_text⟩
  have Grepr := ok_ReprS (P := l.prog) (w := w) (base := base) F_repr T Mtext
  have P_srt : Pt l.prog w K mg base C 8 "root" (spSRoot C) := ⟨psrt, f29, _, ⟨atsrt, gesrt, tksrt, rssrt, a29⟩, ok_SRoot (k := 7) F_srt T, b_srt⟩
  have GIX := ok_SInitX (C := C) (P := l.prog) (w := w) (base := base) (k := 7) FI OZ ON (D_is_root.mono (by decide))
  have GofX := ok_OfX (P := l.prog) (w := w) (base := base) (k := 8) F_ofs OZ OS (D_is_root.mono (by decide)) (D_is_slope.mono (by decide))
  have RofX : FnR l.prog w K mg base (L2.CX l.prog w) 9 f28 (spOfX K EZ ES) := (GofX.raw b_ofs .nil).imp fun vs H Q E z => by rw [List.append_nil]; exact z
  have GP := ok_lplace (P := l.prog) (w := w) (base := base) (mg := mg) (k := 7) F_law_place
  have GLF := ok_lfield (P := l.prog) (w := w) (base := base) (mg := mg) (k := 8) F_law_field GP m_law_place F_law_place.kp b_law_place
  have EXX : EnvX l.prog w K mg base C EZ EN ES R cM cQ := ⟨D_law_of.mono (by decide), D_law_same.mono (by decide), T, ⟨_, _, ⟨mkC, a21, i21, kpC⟩, GIX, kb, kb3, b3⟩, ⟨po, f28, .type "type", ⟨rdofs, gaofs⟩, ⟨smofs, ⟨_, a28⟩, F_ofs.kp⟩, RofX⟩, ⟨⟨_, _, _, _, _, _, _, _, _, _, m_law_why, F_law_why.kp, l20, c20, b_law_why⟩, PySem.W.mg_of X G aR, PySem.W.mg_of X G aC2, PySem.W.mg_of X G aC3, ⟨_, _, GLF, m_law_field, F_law_field.kp, b_law_field⟩⟩, OZ, ON, OS, xZ, xN, xS⟩
  have D_ref : Df l.prog w K mg base 12 "_law_surds_refused" ["_law_bag_here"] (spRef P1) := ⟨_, _, ok_ref l17 c17 tb1 EXX, b_law_surds_refused, m_law_surds_refused, F_law_surds_refused.kp⟩
  exact ok_law l30 c30 tb (by simpa using nP1) ⟨EXX, D_law_bag.mono (by decide), D_law_pull.mono (by decide), D_law_root.mono (by decide), D_law_far.mono (by decide), D_law_divisor.mono (by decide), D_law_slope_text.mono (by decide), D_slope_text.mono (by decide), D_ref, M6, ⟨_, _, Gparts.mono (by decide), ⟨a25, i25, F_parts.kp⟩, b_parts⟩, ⟨_, _, Gtext.mono (by decide), ⟨a26, i26, F_text.kp⟩, b_text⟩, P_srt, ⟨_, _, Gseq.mono (by decide), ⟨a24, i24, neC, hmC⟩, b_seq⟩, nfC, ⟨_, Rboo.mono (by decide), a23, i23⟩, ⟨_, _, Grepr.mono (by decide), a27, i27, b_repr⟩, TBm, n_range, n_str, n_bool, n_repr⟩
end RF

open PySem PySem.W PyProof.Rows
set_option maxRecDepth 100000 in
set_option maxHeartbeats 0 in
theorem PySem.Challenge.cw_rootfloor_k01_parts_of_surds_holds : PySem.Challenge.rw_rootfloor_k01_parts_of_surds.Holds := by
  w_on; o_law; k_head; (case hw => w_witness2)
  k_fill
  refine RF.walk_ofOwnN (l := PySem.Challenge.rw_rootfloor_k01_parts_of_surds) (n := 63) (k := 13) (x := "_law_script") (CX := fun _ => L2.CX0) rfl (by decide) rfl ⟨rfl, by decide, by decide⟩ (by decide +kernel) (fun w h Y => PySem.W.km_in_of Y) ?F (fun _ _ _ _ _ z => z)
  case F =>
    intro w mg fa h Y KX G hmg OT OTs
    refine' RF.all_mk KX G hmg OT (OTs "_law_surds_refused" (by decide +kernel)) ?a1 ?l1 ?c1 ?k1 ?a2 ?l2 ?c2 ?k2 ?a3 ?l3 ?c3 ?k3 ?a4 ?l4 ?c4 ?k4 ?a5 ?l5 ?c5 ?k5 ?a6 ?l6 ?c6 ?k6 ?a7 ?l7 ?c7 ?k7 ?a8 ?l8 ?c8 ?k8 ?a9 ?l9 ?c9 ?k9 ?a10 ?l10 ?c10 ?k10 ?a11 ?l11 ?c11 ?k11 ?a12 ?l12 ?c12 ?k12 ?a13 ?l13 ?c13 ?k13 ?a14 ?l14 ?c14 ?k14 ?a15 ?l15 ?c15 ?k15 ?a16 ?l16 ?c16 ?k16 ?a17 ?l17 ?c17 ?k17 ?a18 ?l18 ?c18 ?k18 ?a19 ?l19 ?c19 ?k19 ?a20 ?l20 ?c20 ?k20 ?aCC ?a21 ?i21 ?l21 ?c21 ?k21 ?lT ?dT ?kD ?aG ?a22 ?l22 ?c22 ?k22 ?i22 ?a23 ?l23 ?c23 ?k23 ?i23 ?a24 ?l24 ?c24 ?k24 ?i24 ?a25 ?l25 ?c25 ?k25 ?i25 ?a26 ?l26 ?c26 ?k26 ?i26 ?a27 ?l27 ?c27 ?k27 ?i27 ?smofs ?a28 ?l28 ?c28 ?k28 ?rdofs ?gaofs ?atsrt ?gesrt ?tksrt ?a29 ?l29 ?c29 ?k29 ?haC ?hmC ?neC ?hnX ?htX ?sbC ?tyC ?icC ?aR ?lR ?vR ?fR ?oq ?tp ?aC2 ?aC3 ?xb1 ?xi1 ?xt1 ?xb2 ?xi2 ?xt2 ?xb3 ?xi3 ?xt3 ?aEN ?lEN ?saEN ?gaEN ?ggEN ?ntEN ?ngEN ?iEN ?tEN ?kEN ?xEN ?yEN ?hEN ?mEN ?jEN ?cEN ?dEN ?vvEN ?pEN ?uEN ?s1EN ?s2EN ?s3EN ?aEZ ?lEZ ?saEZ ?gaEZ ?ggEZ ?ntEZ ?ngEZ ?iEZ ?tEZ ?kEZ ?xEZ ?yEZ ?hEZ ?mEZ ?jEZ ?cEZ ?dEZ ?vvEZ ?pEZ ?uEZ ?s1EZ ?s2EZ ?s3EZ ?aES ?lES ?saES ?gaES ?ggES ?ntES ?ngES ?iES ?tES ?kES ?xES ?yES ?hES ?mES ?jES ?cES ?dES ?vvES ?pES ?uES ?s1ES ?s2ES ?s3ES ?z_abs ?z_divmod ?z_str ?z_int ?z_len ?z_list ?z_tuple ?z_bool ?z_isinstance ?z_range ?z_enumerate ?z_zip ?z_reversed ?z_sorted ?z_sum ?z_all ?z_any ?z_max ?z_min ?z_super ?z_repr ?a30 ?l30 ?c30 ?k30 ?pgC ?hdC ?poC ?saC ?mkC ?kpC ?nC_root ?nC_parts ?aPp ?lPp ?oPp ?wPp ?eqL ?lL ?eL1 ?eL2 ?eL3 ?eL4 ?eL5 ?eL6 ?eL7 ?eL8 ?eqL1 ?lL1 ?eL11 ?eL12 ?eL13 ?eL14 ?eL15 ?eL16 ?eL17 ?eL18 ?nP1
    (case a1 => k_is)
    (case l1 => k_is)
    (case c1 => k_is)
    (case k1 => k_is)
    (case a2 => k_is)
    (case l2 => k_is)
    (case c2 => k_is)
    (case k2 => k_is)
    (case a3 => k_is)
    (case l3 => k_is)
    (case c3 => k_is)
    (case k3 => k_is)
    (case a4 => k_is)
    (case l4 => k_is)
    (case c4 => k_is)
    (case k4 => k_is)
    (case a5 => k_is)
    (case l5 => k_is)
    (case c5 => k_is)
    (case k5 => k_is)
    (case a6 => k_is)
    (case l6 => k_is)
    (case c6 => k_is)
    (case k6 => k_is)
    (case a7 => k_is)
    (case l7 => k_is)
    (case c7 => k_is)
    (case k7 => k_is)
    (case a8 => k_is)
    (case l8 => k_is)
    (case c8 => k_is)
    (case k8 => k_is)
    (case a9 => k_is)
    (case l9 => k_is)
    (case c9 => k_is)
    (case k9 => k_is)
    (case a10 => k_is)
    (case l10 => k_is)
    (case c10 => k_is)
    (case k10 => k_is)
    (case a11 => k_is)
    (case l11 => k_is)
    (case c11 => k_is)
    (case k11 => k_is)
    (case a12 => k_is)
    (case l12 => k_is)
    (case c12 => k_is)
    (case k12 => k_is)
    (case a13 => k_is)
    (case l13 => k_is)
    (case c13 => k_is)
    (case k13 => k_is)
    (case a14 => k_is)
    (case l14 => k_is)
    (case c14 => k_is)
    (case k14 => k_is)
    (case a15 => k_is)
    (case l15 => k_is)
    (case c15 => k_is)
    (case k15 => k_is)
    (case a16 => k_is)
    (case l16 => k_is)
    (case c16 => k_is)
    (case k16 => k_is)
    (case a17 => k_is)
    (case l17 => k_is)
    (case c17 => k_is)
    (case k17 => k_is)
    (case a18 => k_is)
    (case l18 => k_is)
    (case c18 => k_is)
    (case k18 => k_is)
    (case a19 => k_is)
    (case l19 => k_is)
    (case c19 => k_is)
    (case k19 => k_is)
    (case a20 => k_is)
    (case l20 => k_is)
    (case c20 => k_is)
    (case k20 => k_is)
    (case aCC => k_is)
    (case a21 => k_is)
    (case i21 => k_is)
    (case l21 => k_is)
    (case c21 => k_is)
    (case k21 => k_is)
    (case lT => k_is)
    (case dT => first | exact rfl | decide +kernel)
    (case kD => k_is)
    (case aG => k_is)
    (case a22 => k_is)
    (case l22 => k_is)
    (case c22 => k_is)
    (case k22 => k_is)
    (case i22 => k_is)
    (case a23 => k_is)
    (case l23 => k_is)
    (case c23 => k_is)
    (case k23 => k_is)
    (case i23 => k_is)
    (case a24 => k_is)
    (case l24 => k_is)
    (case c24 => k_is)
    (case k24 => k_is)
    (case i24 => k_is)
    (case a25 => k_is)
    (case l25 => k_is)
    (case c25 => k_is)
    (case k25 => k_is)
    (case i25 => k_is)
    (case a26 => k_is)
    (case l26 => k_is)
    (case c26 => k_is)
    (case k26 => k_is)
    (case i26 => k_is)
    (case a27 => k_is)
    (case l27 => k_is)
    (case c27 => k_is)
    (case k27 => k_is)
    (case i27 => k_is)
    (case smofs => k_is)
    (case a28 => k_is)
    (case l28 => k_is)
    (case c28 => k_is)
    (case k28 => k_is)
    (case rdofs => k_is)
    (case gaofs => k_is)
    (case atsrt => k_is)
    (case gesrt => k_is)
    (case tksrt => k_is)
    (case a29 => k_is)
    (case l29 => k_is)
    (case c29 => k_is)
    (case k29 => k_is)
    (case haC => k_is)
    (case hmC => k_is)
    (case neC => k_is)
    (case hnX => k_is)
    (case htX => k_is)
    (case sbC => k_is)
    (case tyC => k_is)
    (case icC => k_is)
    (case aR => k_is)
    (case lR => k_is)
    (case vR => first | exact rfl | decide +kernel)
    (case fR => k_is)
    (case oq => k_is)
    (case tp => first | exact rfl | decide +kernel)
    (case aC2 => k_is)
    (case aC3 => k_is)
    (case xb1 => k_is)
    (case xi1 => k_is)
    (case xt1 => k_is)
    (case xb2 => k_is)
    (case xi2 => k_is)
    (case xt2 => k_is)
    (case xb3 => k_is)
    (case xi3 => k_is)
    (case xt3 => k_is)
    (case aEN => k_is)
    (case lEN => k_is)
    (case saEN => k_is)
    (case gaEN => k_is)
    (case ggEN => k_is)
    (case ntEN => k_is)
    (case ngEN => k_is)
    (case iEN => k_is)
    (case tEN => k_is)
    (case kEN => k_is)
    (case xEN => k_is)
    (case yEN => k_is)
    (case hEN => k_is)
    (case mEN => k_is)
    (case jEN => k_is)
    (case cEN => k_is)
    (case dEN => k_is)
    (case vvEN => first | exact rfl | decide +kernel)
    (case pEN => first | exact rfl | decide +kernel)
    (case uEN => k_is)
    (case s1EN => k_is)
    (case s2EN => k_is)
    (case s3EN => k_is)
    (case aEZ => k_is)
    (case lEZ => k_is)
    (case saEZ => k_is)
    (case gaEZ => k_is)
    (case ggEZ => k_is)
    (case ntEZ => k_is)
    (case ngEZ => k_is)
    (case iEZ => k_is)
    (case tEZ => k_is)
    (case kEZ => k_is)
    (case xEZ => k_is)
    (case yEZ => k_is)
    (case hEZ => k_is)
    (case mEZ => k_is)
    (case jEZ => k_is)
    (case cEZ => k_is)
    (case dEZ => k_is)
    (case vvEZ => first | exact rfl | decide +kernel)
    (case pEZ => first | exact rfl | decide +kernel)
    (case uEZ => k_is)
    (case s1EZ => k_is)
    (case s2EZ => k_is)
    (case s3EZ => k_is)
    (case aES => k_is)
    (case lES => k_is)
    (case saES => k_is)
    (case gaES => k_is)
    (case ggES => k_is)
    (case ntES => k_is)
    (case ngES => k_is)
    (case iES => k_is)
    (case tES => k_is)
    (case kES => k_is)
    (case xES => k_is)
    (case yES => k_is)
    (case hES => k_is)
    (case mES => k_is)
    (case jES => k_is)
    (case cES => k_is)
    (case dES => k_is)
    (case vvES => first | exact rfl | decide +kernel)
    (case pES => first | exact rfl | decide +kernel)
    (case uES => k_is)
    (case s1ES => k_is)
    (case s2ES => k_is)
    (case s3ES => k_is)
    (case z_abs => k_is)
    (case z_divmod => k_is)
    (case z_str => k_is)
    (case z_int => k_is)
    (case z_len => k_is)
    (case z_list => k_is)
    (case z_tuple => k_is)
    (case z_bool => k_is)
    (case z_isinstance => k_is)
    (case z_range => k_is)
    (case z_enumerate => k_is)
    (case z_zip => k_is)
    (case z_reversed => k_is)
    (case z_sorted => k_is)
    (case z_sum => k_is)
    (case z_all => k_is)
    (case z_any => k_is)
    (case z_max => k_is)
    (case z_min => k_is)
    (case z_super => k_is)
    (case z_repr => k_is)
    (case a30 => k_is)
    (case l30 => k_is)
    (case c30 => k_is)
    (case k30 => k_is)
    (case pgC => k_is)
    (case hdC => k_is)
    (case poC => k_is)
    (case saC => k_is)
    (case mkC => k_is)
    (case kpC => k_is)
    (case nC_root => k_is)
    (case nC_parts => k_is)
    (case aPp => k_is)
    (case lPp => k_is)
    (case oPp => first | exact rfl | decide +kernel)
    (case wPp => first | exact rfl | decide +kernel)
    (case eqL => first | exact rfl | decide +kernel)
    (case lL => k_is)
    (case eL1 => first | exact rfl | decide +kernel)
    (case eL2 => first | exact rfl | decide +kernel)
    (case eL3 => first | exact rfl | decide +kernel)
    (case eL4 => first | exact rfl | decide +kernel)
    (case eL5 => first | exact rfl | decide +kernel)
    (case eL6 => first | exact rfl | decide +kernel)
    (case eL7 => first | exact rfl | decide +kernel)
    (case eL8 => first | exact rfl | decide +kernel)
    (case eqL1 => first | exact rfl | decide +kernel)
    (case lL1 => k_is)
    (case eL11 => first | exact rfl | decide +kernel)
    (case eL12 => first | exact rfl | decide +kernel)
    (case eL13 => first | exact rfl | decide +kernel)
    (case eL14 => first | exact rfl | decide +kernel)
    (case eL15 => first | exact rfl | decide +kernel)
    (case eL16 => first | exact rfl | decide +kernel)
    (case eL17 => first | exact rfl | decide +kernel)
    (case eL18 => first | exact rfl | decide +kernel)
    (case nP1 => first | exact rfl | decide +kernel)

