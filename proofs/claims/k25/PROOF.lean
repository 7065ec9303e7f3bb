import PyProof.Rows.All
import Wide.All
import OpenK.AllK
import Wide.FinOn
import HandS.ForMost
import HandS.Gcd
import HandS.Wide
import HandS.Codes
import HandS.IsInst
import HandS.Zip
import HandS.Walk
import HandS.MakeKwOnly
import HandS.Property
import Flt.RightSqrt
import KE.KOpsOwn
import KE.KMathG
import HandS.OwnEq
import HandS.ClsMeth
import HandS.Defaults
import HandS.List
import HandS.WideBits
import HandS.Style
import HandS.Text
import HandS.TupAny
import HandS.Iter
import HandS.Deep
import PySem.Challenge.RW_rootfloor_k25_terms_and_slopes_recognize
set_option Elab.async false
set_option maxRecDepth 100000
set_option maxHeartbeats 8000000
namespace RF
open PySem L2

/-- all that is tracked stays, but what stands at b -/
def Kp (b : Addr) (H H' : Hp) : Prop := ∀ a o, a ≠ b → H a = some o → H' a = some o
theorem Kp.refl (b : Addr) (H : Hp) : Kp b H H := fun _ _ _ e => e
theorem Kp.trans {b : Addr} {H H1 H2 : Hp} (x : Kp b H H1) (y : Kp b H1 H2) : Kp b H H2 := fun a o n e => y a o n (x a o n e)
theorem Kp.upd {b : Addr} {H : Hp} {o : HO} : Kp b H (upd H b o) := fun a u n e => by rw [upd_ne n]; exact e
theorem Kp.of {b : Addr} {H H' : Hp} (s : Same H H') : Kp b H H' := fun a o _ e => s a o e

/-- the bag of a script: its cells, how many are taken, what is left of a great one, the state of the draws -/
structure BagC (H : Hp) (b c : Addr) (ns : List Int) (i : Nat) (z r : Int) : Prop where
  ne : b ≠ c
  at_ : H b = some (.lst [.ref c, .int i, .int z, .int r])
  cs : H c = some (.lst (ns.map V.int))
  le : i ≤ ns.length
  z0 : 0 ≤ z
  r0 : 0 ≤ r
  r1 : r < 2147483647
def Bag (H : Hp) (b : Addr) : Prop := ∃ (c : Addr) (ns : List Int) (i : Nat) (z r : Int), BagC H b c ns i z r
theorem BagC.put {H : Hp} {b c : Addr} {ns : List Int} {i i' : Nat} {z r z' r' : Int} {o : HO} (B : BagC H b c ns i z r) (ho : o = .lst [.ref c, .int i', .int z', .int r']) (hi : i' ≤ ns.length) (hz : 0 ≤ z') (h0 : 0 ≤ r') (h1 : r' < 2147483647) :
    BagC (upd H b o) b c ns i' z' r' := ⟨B.ne, by rw [upd_same, ho], by rw [upd_ne (Ne.symm B.ne)]; exact B.cs, hi, hz, h0, h1⟩
theorem Bag.some {H : Hp} {b : Addr} (B : Bag H b) : ∃ xs, H b = some (.lst xs) := let ⟨_, _, _, _, _, e⟩ := B; ⟨_, e.at_⟩
theorem Bag.same {H H' : Hp} {b : Addr} (B : Bag H b) (s : Same H H') : Bag H' b := by
  obtain ⟨c, ns, i, z, r, h⟩ := B
  exact ⟨c, ns, i, z, r, h.ne, s _ _ h.at_, s _ _ h.cs, h.le, h.z0, h.r0, h.r1⟩
theorem emod_lo (a : Int) {b : Int} (h : 0 < b) : 0 ≤ a % b := Int.emod_nonneg _ (by omega)
theorem emod_hi (a : Int) {b : Int} (h : 0 < b) : a % b < b := Int.emod_lt_of_pos _ h

/-- a draw: some number below the sides; the bag stays one, nothing else changes -/
def spPull : Sp := fun vs H Q _ => ∃ (b : Addr) (k : Int), vs = [.ref b, .int k] ∧ Bag H b ∧ 0 < k ∧ k < 1073741824 ∧
  ∀ (d : Int) (H' : Hp), 0 ≤ d → d < k → Bag H' b → Kp b H H' → Q (.int d) H'
def spBag (K : PySem.W.Frag) : Sp := fun vs H Q _ => ∃ (a : Addr) (ns : List Int), vs = [.ref a] ∧ SqL K H a (ns.map V.int) ∧ ns.length ≤ 63 ∧
  ∀ (b : Addr) (H' : Hp), H b = none → Bag H' b → Same H H' → Q (.ref b) H'
/-- a new object -/
theorem sNew {H H1 : Hp} {p : Addr} {o : HO} (s : Same H H1) (h : H1 p = none) : Same H (upd H1 p o) := fun a u e => by
  rw [upd_ne (ne_of_none (s a u e) h)]
  exact s a u e
theorem ne_new {H : Hp} {p q : Addr} {o : HO} (h : upd H p o q = none) : q ≠ p := fun z => by
  rw [z, upd_same] at h
  cases h
theorem of_new {H : Hp} {p q : Addr} {o : HO} (h : upd H p o q = none) : H q = none := by
  rw [upd_ne (ne_new h)] at h
  exact h

/-! ### data: what a value tells, with the lists and tuples in it -/
inductive D where
  | non | bl (b : Bool) | int (i : Int) | str (x : Str) | lst (ds : List D) | tup (ds : List D)
mutual
def Rp (K : PySem.W.Frag) (H : Hp) : V → D → Prop
  | v, .non => v = .non
  | v, .bl b => v = .bl b
  | v, .int i => v = .int i
  | v, .str x => v = .str x
  | v, .lst ds => ∃ a xs, v = .ref a ∧ SqL K H a xs ∧ xs.length ≤ 100000 ∧ Rps K H xs ds
  | v, .tup ds => ∃ a xs, v = .ref a ∧ SqT K H a xs ∧ xs.length ≤ 100000 ∧ Rps K H xs ds
def Rps (K : PySem.W.Frag) (H : Hp) : List V → List D → Prop
  | xs, [] => xs = []
  | xs, d :: ds => ∃ x r, xs = x :: r ∧ Rp K H x d ∧ Rps K H r ds
end
mutual
def dep : D → Nat
  | .lst ds => depL ds + 1
  | .tup ds => depL ds + 1
  | _ => 0
def depL : List D → Nat
  | [] => 0
  | d :: ds => max (dep d) (depL ds)
end
theorem sameT {K : PySem.W.Frag} {H H' : Hp} {a : Addr} {xs : List V} (e : Same H H') (h : SqT K H a xs) : SqT K H' a xs := by
  rcases h with (h | ⟨o, h⟩) | h
  · exact .inl (.inl (e _ _ h))
  · exact .inl (.inr ⟨o, e _ _ h⟩)
  · exact .inr h
mutual
theorem Rp.same {K : PySem.W.Frag} {H H' : Hp} (e : Same H H') : ∀ {v : V} (d : D), Rp K H v d → Rp K H' v d
  | _, .non, h => h
  | _, .bl _, h => h
  | _, .int _, h => h
  | _, .str _, h => h
  | _, .lst ds, h => by
    obtain ⟨a, xs, h1, h2, h3, h4⟩ := h
    exact ⟨a, xs, h1, e.seq h2, h3, Rps.same e ds h4⟩
  | _, .tup ds, h => by
    obtain ⟨a, xs, h1, h2, h3, h4⟩ := h
    exact ⟨a, xs, h1, sameT e h2, h3, Rps.same e ds h4⟩
theorem Rps.same {K : PySem.W.Frag} {H H' : Hp} (e : Same H H') : ∀ {xs : List V} (ds : List D), Rps K H xs ds → Rps K H' xs ds
  | _, [], h => h
  | _, d :: ds, h => by
    obtain ⟨x, r, h1, h2, h3⟩ := h
    exact ⟨x, r, h1, Rp.same e d h2, Rps.same e ds h3⟩
end
theorem Rps.len {K : PySem.W.Frag} {H : Hp} : ∀ {xs : List V} {ds : List D}, Rps K H xs ds → xs.length = ds.length
  | _, [], h => by rw [show _ = [] from h]; rfl
  | _, d :: ds, h => by
    obtain ⟨x, r, rfl, _, h3⟩ := h
    rw [List.length_cons, List.length_cons, Rps.len h3]
theorem Rps.at_ {K : PySem.W.Frag} {H : Hp} : ∀ {xs : List V} {ds : List D} {i : Nat} {x : V}, Rps K H xs ds → xs[i]? = some x → ∃ d, ds[i]? = some d ∧ Rp K H x d
  | _, [], i, x, h, e => by rw [show _ = [] from h] at e; simp at e
  | _, d :: ds, 0, x, h, e => by
    obtain ⟨y, r, rfl, h2, _⟩ := h
    cases e
    exact ⟨d, rfl, h2⟩
  | _, d :: ds, i + 1, x, h, e => by
    obtain ⟨y, r, rfl, _, h3⟩ := h
    obtain ⟨d', e1, e2⟩ := Rps.at_ (i := i) h3 e
    exact ⟨d', e1, e2⟩
theorem dep_mem : ∀ {ds : List D} {i : Nat} {d : D}, ds[i]? = some d → dep d ≤ depL ds
  | [], _, _, e => by simp at e
  | c :: ds, 0, d, e => by cases e; exact Nat.le_max_left ..
  | c :: ds, i + 1, d, e => Nat.le_trans (dep_mem (i := i) e) (Nat.le_max_right ..)

/-- the class of a datum's value -/
def tyD : D → String
  | .non => "NoneType" | .bl _ => "bool" | .int _ => "int" | .str _ => "str" | .lst _ => "list" | .tup _ => "tuple"
theorem tyL {K : PySem.W.Frag} {H : Hp} {a : Addr} {xs : List V} (h : SqL K H a xs) : TyX K H (.ref a) (.type "list") := by
  rcases h with (h | ⟨o, h⟩) | ⟨o, its, n, h, c, _⟩
  · exact .base (.lst h)
  · exact .base (.frz h)
  · exact .kList h c
theorem tyT {K : PySem.W.Frag} {H : Hp} {a : Addr} {xs : List V} (h : SqT K H a xs) : TyX K H (.ref a) (.type "tuple") := by
  rcases h with (h | ⟨o, h⟩) | ⟨o, its, n, h, c, _⟩
  · exact .base (.tup h)
  · exact .fTuple h
  · exact .kTuple h c
theorem tyX {K : PySem.W.Frag} {H : Hp} : ∀ {v : V} (d : D), Rp K H v d → TyX K H v (.type (tyD d))
  | _, .non, h => by rw [show _ = V.non from h]; exact .base .non
  | _, .bl _, h => by rw [show _ = V.bl _ from h]; exact .base (.bl _)
  | _, .int _, h => by rw [show _ = V.int _ from h]; exact .base (.int _)
  | _, .str _, h => by rw [show _ = V.str _ from h]; exact .base (.str _)
  | _, .lst ds, h => by obtain ⟨a, xs, rfl, h2, _⟩ := h; exact tyL h2
  | _, .tup ds, h => by obtain ⟨a, xs, rfl, h2, _⟩ := h; exact tyT h2

/-! ### a def that others call -/
structure Df (P : Program) (w : World) (K : PySem.W.Frag) (mg : Str → Option Value) (base : Heap) (k : Nat) (x : Str) (ps : List Str) (sp : Sp) : Prop where
  ex : ∃ (f : Addr) (fd : FuncData), FnOk P w K mg base CX0 k f fd ps sp ∧ Binds K fd ps [] ∧ mg x = some (.ref f) ∧ PySem.W.keepIn K (.ref f) = true
theorem fn_false {P : Program} {w : World} {K : PySem.W.Frag} {mg : Str → Option Value} {base : Heap} {CX : CXT} {k : Nat} {f : Addr} {fd : FuncData} {ps : List Str} : FnOk P w K mg base CX k f fd ps (fun _ _ _ _ => False) :=
  ⟨fun _ _ _ _ h => h.elim, fun _ _ _ _ _ _ _ _ _ _ _ _ _ h => h.elim⟩
theorem pe_callD {X : Cx} {j k : Nat} {x : Str} {ps : List Str} {sp : Sp} {p pos : Pos} {e : Expr} {es : List Expr} {t : TA} (F : Df X.prog X.w X.K X.mg X.base k x ps sp) (hr : Room j X.A) (hk : k ≤ j) (ha : PA X (e :: es) t)
    (hg : Gl X x := by rfl) (hdb : (x == ("__debug__" : Str)) = false := by decide)
    (he : starEach (e :: es) X.env = (false, eval e X.env) :: starEach es X.env := by rfl) (hpl : (backTo pos (starEach es X.env)).any (·.1) = false := by rfl) :
    PE X (.Call (.Name x p) (e :: es) [] pos) (tCall sp [] E0 t) := by
  obtain ⟨f, fd, G, b, m, kp⟩ := F.ex
  exact pe_call G (hr.mono hk) hg m kp b .nil pass0 ha hdb he hpl
/-- zip of two tuples -/
theorem walk_zipT {K : PySem.W.Frag} {a b : Addr} {xs ys : List V} {n : Nat} (hn : n = min xs.length ys.length) : Walk (RZ.ItzT K a b) n (fun H => SqT K H a xs ∧ SqT K H b ys) (YPair (fun i => xs[i]?) (fun i => ys[i]?)) := by
  subst hn
  refine ⟨fun i _ hi q => ?_, fun _ q => ⟨xs, ys, q.1, q.2, by omega⟩, fun i H v H' _ q y => ?_⟩
  · have h1 : i < xs.length := by omega
    have h2 : i < ys.length := by omega
    exact ⟨xs, ys, xs[i], ys[i], q.1, q.2, by simp [h1], by simp [h2]⟩
  · obtain ⟨T, x, z, h1, h2, h3, h4, h5⟩ := y
    exact ⟨T, x, z, h1, h2, h3, h4 xs q.1, h5 ys q.2⟩

/-- one datum, told twice: the law's own comparison gives True -/
def spSame (K : PySem.W.Frag) (n : Nat) : Sp := fun vs H Q _ => ∃ (v u : V) (d : D), vs = [v, u] ∧ Rp K H v d ∧ Rp K H u d ∧ dep d ≤ n ∧ ∀ H', Same H H' → Q (.bl true) H'
def spSameL (K : PySem.W.Frag) : Nat → Sp
  | 0 => fun _ _ _ _ => False
  | n + 1 => spSame K n
def spOf (K : PySem.W.Frag) : Sp := fun vs H Q _ => ∃ (b a : Addr) (xs : List V), vs = [.ref b, .ref a] ∧ Bag H b ∧ SqL K H a xs ∧ a ≠ b ∧ 0 < xs.length ∧ xs.length < 1000000 ∧
  ∀ (v : V) (H' : Hp), v ∈ xs → Bag H' b → Kp b H H' → Q v H'
def spRoot : Sp := fun vs H Q _ => ∃ (b : Addr), vs = [.ref b] ∧ Bag H b ∧ ∀ (d : Int) (H' : Hp), d = 2 ∨ d = 3 ∨ d = 5 ∨ d = 6 ∨ d = 13 → Bag H' b → Kp b H H' → Q (.int d) H'
def spFar : Sp := fun vs H Q _ => ∃ (b : Addr) (k : Int), vs = [.ref b, .int k] ∧ Bag H b ∧ 0 < k ∧ k ≤ 1000 ∧ ∀ (n : Int) (H' : Hp), 0 ≤ n → n < 10 ^ k.toNat → Bag H' b → Kp b H H' → Q (.int n) H'
theorem Kp.seq {K : PySem.W.Frag} {b a : Addr} {H H' : Hp} {xs : List V} (k : Kp b H H') (n : a ≠ b) (h : SqL K H a xs) : SqL K H' a xs := by
  rcases h with (h | ⟨o, h⟩) | h
  · exact .inl (.inl (k _ _ n h))
  · exact .inl (.inr ⟨o, k _ _ n h⟩)
  · exact .inr h

theorem iteP {c A B : Prop} [Decidable c] (hc : c) (h : A) : if c then A else B := by
  rw [if_pos hc]
  exact h
theorem iteN {c A B : Prop} [Decidable c] (hc : ¬ c) (h : B) : if c then A else B := by
  rw [if_neg hc]
  exact h
theorem nd_of {p : Prop} [Decidable p] (h : ¬ p) : ¬ decide p = true := fun z => h (of_decide_eq_true z)
theorem eqT {x : V} {Q : VK} {H : Hp} (h : Q (.bl true) H) : Q (.bl (decide (x = x))) H := by
  rw [decide_eq_true rfl]
  exact h
def isBool : D → Bool
  | .bl _ => true
  | _ => false
theorem kb_NoneType_bool : kitB "NoneType" "bool" = some false := by decide +kernel
theorem kb_bool_bool : kitB "bool" "bool" = some true := by decide +kernel
theorem kb_int_bool : kitB "int" "bool" = some false := by decide +kernel
theorem kb_str_bool : kitB "str" "bool" = some false := by decide +kernel
theorem kb_list_bool : kitB "list" "bool" = some false := by decide +kernel
theorem kb_tuple_bool : kitB "tuple" "bool" = some false := by decide +kernel
theorem kit_bool : ∀ d : D, kitB (tyD d) "bool" = some (isBool d)
  | .non => kb_NoneType_bool
  | .bl _ => kb_bool_bool
  | .int _ => kb_int_bool
  | .str _ => kb_str_bool
  | .lst _ => kb_list_bool
  | .tup _ => kb_tuple_bool
def isInt : D → Bool
  | .bl _ => true
  | .int _ => true
  | _ => false
theorem kb_NoneType_int : kitB "NoneType" "int" = some false := by decide +kernel
theorem kb_bool_int : kitB "bool" "int" = some true := by decide +kernel
theorem kb_int_int : kitB "int" "int" = some true := by decide +kernel
theorem kb_str_int : kitB "str" "int" = some false := by decide +kernel
theorem kb_list_int : kitB "list" "int" = some false := by decide +kernel
theorem kb_tuple_int : kitB "tuple" "int" = some false := by decide +kernel
theorem kit_int : ∀ d : D, kitB (tyD d) "int" = some (isInt d)
  | .non => kb_NoneType_int
  | .bl _ => kb_bool_int
  | .int _ => kb_int_int
  | .str _ => kb_str_int
  | .lst _ => kb_list_int
  | .tup _ => kb_tuple_int
def isStr : D → Bool
  | .str _ => true
  | _ => false
theorem kb_NoneType_str : kitB "NoneType" "str" = some false := by decide +kernel
theorem kb_bool_str : kitB "bool" "str" = some false := by decide +kernel
theorem kb_int_str : kitB "int" "str" = some false := by decide +kernel
theorem kb_str_str : kitB "str" "str" = some true := by decide +kernel
theorem kb_list_str : kitB "list" "str" = some false := by decide +kernel
theorem kb_tuple_str : kitB "tuple" "str" = some false := by decide +kernel
theorem kit_str : ∀ d : D, kitB (tyD d) "str" = some (isStr d)
  | .non => kb_NoneType_str
  | .bl _ => kb_bool_str
  | .int _ => kb_int_str
  | .str _ => kb_str_str
  | .lst _ => kb_list_str
  | .tup _ => kb_tuple_str
def isLst : D → Bool
  | .lst _ => true
  | _ => false
theorem kb_NoneType_list : kitB "NoneType" "list" = some false := by decide +kernel
theorem kb_bool_list : kitB "bool" "list" = some false := by decide +kernel
theorem kb_int_list : kitB "int" "list" = some false := by decide +kernel
theorem kb_str_list : kitB "str" "list" = some false := by decide +kernel
theorem kb_list_list : kitB "list" "list" = some true := by decide +kernel
theorem kb_tuple_list : kitB "tuple" "list" = some false := by decide +kernel
theorem kit_list : ∀ d : D, kitB (tyD d) "list" = some (isLst d)
  | .non => kb_NoneType_list
  | .bl _ => kb_bool_list
  | .int _ => kb_int_list
  | .str _ => kb_str_list
  | .lst _ => kb_list_list
  | .tup _ => kb_tuple_list
def isTup : D → Bool
  | .tup _ => true
  | _ => false
theorem kb_NoneType_tuple : kitB "NoneType" "tuple" = some false := by decide +kernel
theorem kb_bool_tuple : kitB "bool" "tuple" = some false := by decide +kernel
theorem kb_int_tuple : kitB "int" "tuple" = some false := by decide +kernel
theorem kb_str_tuple : kitB "str" "tuple" = some false := by decide +kernel
theorem kb_list_tuple : kitB "list" "tuple" = some false := by decide +kernel
theorem kb_tuple_tuple : kitB "tuple" "tuple" = some true := by decide +kernel
theorem kit_tuple : ∀ d : D, kitB (tyD d) "tuple" = some (isTup d)
  | .non => kb_NoneType_tuple
  | .bl _ => kb_bool_tuple
  | .int _ => kb_int_tuple
  | .str _ => kb_str_tuple
  | .lst _ => kb_list_tuple
  | .tup _ => kb_tuple_tuple
theorem kit_lt {K : PySem.W.Frag} (d : D) : PySem.W.kitAny K (.type (tyD d)) [.type "list", .type "tuple"] = some (isLst d || isTup d) := by
  refine kitAny_cons (kit_ty (kit_list d)) (fun e => ?_) (fun e => by rw [e]; rfl)
  rw [e, Bool.false_or]
  exact kitAny_cons (kit_ty (kit_tuple d)) (fun e => by rw [e]; rfl) (fun e => e)
structure TSm (mg : Str → Option Value) : Prop where
  isinstance : mg "isinstance" = none
  bool : mg "bool" = none
  int : mg "int" = none
  str : mg "str" = none
  list : mg "list" = none
  tuple : mg "tuple" = none
  len : mg "len" = none
  all : mg "all" = none
  zip : mg "zip" = none
theorem yes_if {σ : St} {H : Hp} {A B : Hp → Prop} (h : A H) : tYes σ H (fun b H3 => if b = true then A H3 else B H3) := by
  show (if true = true then A H else B H)
  rw [if_pos rfl]
  exact h
end RF

namespace RF
open PySem L2
def top (i : Nat) : Stmt := PySem.Challenge.pw_rootfloor_k25_terms_and_slopes_recognize.main.body.getD i (.Pass ⟨0, 0, 0, 0⟩)
abbrev sBag : Stmt := top 17
abbrev sPull : Stmt := top 18
structure TB (mg : Str → Option Value) : Prop where
  list : mg "list" = none
  len : mg "len" = none
  abs : mg "abs" = none
  int : mg "int" = none
section
variable {P : Program} {w : World} {K : PySem.W.Frag} {mg : Str → Option Value} {base : Heap}
theorem scBag : FnScope ["_law_script"] ["_law_script"] (defScope sBag) := ⟨rfl, rfl, rfl, by decide +kernel, rfl, by decide +kernel, by decide +kernel⟩
theorem ok_bag {f : Addr} {fd : FuncData} (F : Fun K "_law_bag" "_law_bag" sBag f fd) (T : TB mg) : FnOk P w K mg base CX0 1 f fd ["_law_script"] (spBag K) := by
  refine F.ok scBag (fun vs H Q E h => ?_) (fun cdv A outer s H vs Q E hr h => ?_)
  · obtain ⟨a, ns, rfl, _⟩ := h
    rfl
  · obtain ⟨a, ns, rfl, hS, hl, k⟩ := h
    refine ⟨_, pss_one (ps_ret (pe_lst (pa_cons (pe_callTy call_list_of (by rfl) T.list (by decide +kernel) (pa_cons (pe_slice sl_list (pv 0) po_none (po_some pe_int)) pa_nil)) (pa_cons pe_int (pa_cons pe_int (pa_cons pe_int pa_nil)))))), ?_⟩
    refine ⟨_, rfl, _, rfl, a, _, rfl, hS, fun p hp => ⟨p, _, rfl, .inl (SqL.of upd_same), fun l hl2 => ⟨by show 4 ≤ sizeLine; decide, fun q hq => ?_⟩⟩⟩
    obtain ⟨ms, e⟩ : ∃ ms : List Int, cutV (ns.map V.int) none (some 63) = ms.map V.int := ⟨_, by unfold cutV; rw [← List.map_drop, ← List.map_take]⟩
    have sm := sNew (o := .lst [.ref l, .int 0, .int 0, .int 3842]) (sNew (o := .lst (cutV (ns.map V.int) none (some 63))) (sNew (o := .lst (cutV (ns.map V.int) none (some 63))) (Same.refl H) hp) hl2) hq
    refine k q _ (of_new (of_new hq)) ⟨l, ms, 0, 0, 3842, ne_new hq, upd_same, ?_, Nat.zero_le _, Int.le_refl _, by decide, by decide⟩ sm
    rw [upd_ne (Ne.symm (ne_new hq)), upd_same, e]
abbrev nPull : List Str := ["_law_bag_here", "_law_sides", "_law_cell", "_law_digit", "_law_twice"]
theorem scPull : FnScope nPull ["_law_bag_here", "_law_sides"] (defScope sPull) := ⟨rfl, rfl, rfl, by decide +kernel, rfl, by decide +kernel, by decide +kernel⟩
theorem ok_pull {f : Addr} {fd : FuncData} (F : Fun K "_law_pull" "_law_pull" sPull f fd) (T : TB mg) : FnOk P w K mg base CX0 1 f fd ["_law_bag_here", "_law_sides"] spPull := by
  refine F.ok scPull (fun vs H Q E h => ?_) (fun cdv A outer s H vs Q E hr h => ?_)
  · obtain ⟨b, k, rfl, _⟩ := h
    rfl
  · obtain ⟨b, m, rfl, ⟨c, ns, i, z, r, B⟩, m0, m1, k⟩ := h
    have nd := scPull.nd
    -- the second half, from any bag
    refine ⟨_, C8.pss_cut (ps_if (pw_and (pt_cmpR op_eq (pe_ix ix_list (pv 0) pe_int (fun _ _ => rfl)) pe_int (nomark _)) (pw_and1 (pt_cmpR op_lt (pe_ix ix_list (pv 0) pe_int (fun _ _ => rfl)) (pe_callB call_len_seq (by rfl) T.len PySem.boot_len (pa_cons (pe_ix ix_list (pv 0) pe_int (fun _ _ => rfl)) pa_nil)) (nomark _)))).pt
        (pss_cons (ps_set (i := 2) nd rfl (Or.inl rfl) (pe_ix ix_list (pe_ix ix_list (pv 0) pe_int (fun _ _ => rfl)) (pe_ix ix_list (pv 0) pe_int (fun _ _ => rfl)) (fun _ _ => rfl)))
        (pss_cons (ps_asg (pe_op op_add (pe_ix ix_list (pv 0) pe_int (fun _ _ => rfl)) pe_int) (pg_sub (pv 0) pe_int set_list))
        (pss_one (ps_if (pt_cmpR op_ge (pe_callB call_abs (by rfl) T.abs (by decide +kernel) (pa_cons (pv 2) pa_nil)) (pe_op op_pow pe_int pe_int) (nomark _))
          (pss_one (ps_asg (pe_callB call_abs (by rfl) T.abs (by decide +kernel) (pa_cons (pv 2) pa_nil)) (pg_sub (pv 0) pe_int set_list)))
          (pss_one (ps_asg (pe_op op_mod (pe_callTy call_int1 (by rfl) T.int (by decide +kernel) (pa_cons (pe_op op_add (pe_op op_add (pe_op op_mul (pe_ix ix_list (pv 0) pe_int (fun _ _ => rfl)) pe_int) (pe_op op_mul (pe_op op_mod (pe_callTy call_int1 (by rfl) T.int (by decide +kernel) (pa_cons (pv 2) pa_nil)) pe_int) pe_int)) pe_int) pa_nil)) pe_int) (pg_sub (pv 0) pe_int set_list)))))))
        pss_nil)
      (C8.pss_cut (ps_if (pt_cmpR op_gt (pe_ix ix_list (pv 0) pe_int (fun _ _ => rfl)) pe_int (nomark _))
        (pss_cons (ps_set (i := 3) nd rfl (Or.inl rfl) (pe_op op_mod (pe_callTy call_int1 (by rfl) T.int (by decide +kernel) (pa_cons (pe_ix ix_list (pv 0) pe_int (fun _ _ => rfl)) pa_nil)) (pv 1)))
        (pss_cons (ps_asg (pe_op op_fdiv (pe_ix ix_list (pv 0) pe_int (fun _ _ => rfl)) (pv 1)) (pg_sub (pv 0) pe_int set_list))
        (pss_one (ps_ret (pv 3)))))
        pss_nil)
      (pss_cons (ps_set (i := 4) nd rfl (Or.inl rfl) (pe_op op_mod (pe_callTy call_int1 (by rfl) T.int (by decide +kernel) (pa_cons (pe_op op_mul (pe_ix ix_list (pv 0) pe_int (fun _ _ => rfl)) (pe_ix ix_list (pv 0) pe_int (fun _ _ => rfl))) pa_nil)) pe_int))
      (pss_cons (ps_asg (pe_op op_mod (pe_callTy call_int1 (by rfl) T.int (by decide +kernel) (pa_cons (pe_op op_add (pe_op op_add (pe_op op_mul (pv 4) pe_int) (pe_op op_mul (pe_ix ix_list (pv 0) pe_int (fun _ _ => rfl)) pe_int)) pe_int) pa_nil)) pe_int) (pg_sub (pv 0) pe_int set_list))
      (pss_one (ps_ret (pe_op op_mod (pe_callTy call_int1 (by rfl) T.int (by decide +kernel) (pa_cons (pe_op op_fdiv (pe_ix ix_list (pv 0) pe_int (fun _ _ => rfl)) pe_int) pa_nil)) (pv 1))))))), ?_⟩
    have hc : ∀ {H' : Hp} {i : Nat} {z r : Int}, BagC H' b c ns i z r → H' c = some (.lst (ns.map V.int)) := fun B => B.cs
    -- what follows the first if, from any bag
    refine ⟨fun σ' H' => ∃ v i z r, σ' = [some (.ref b), some (.int m), v, none, none] ∧ BagC H' b c ns i z r ∧ Kp b H H', ?_, ?_⟩
    · refine ⟨_, rfl, b, _, _, _, rfl, rfl, SqL.of B.at_, rfl, rfl, _, rfl, ?_⟩
      refine ite2 (fun ez => ?_) (fun _ => ?_)
      · refine ⟨_, rfl, b, _, _, _, rfl, rfl, SqL.of B.at_, rfl, _, rfl, b, _, _, _, rfl, rfl, SqL.of B.at_, rfl, c, _, rfl, .inl (SqL.of B.cs), _, _, rfl, rfl, _, rfl, ?_⟩
        refine ite2 (fun hl => ?_) (fun _ => ⟨_, _, _, _, rfl, B, Kp.refl _ _⟩)
        have hl' : i < ns.length := by
          have := of_decide_eq_true hl
          rw [List.length_map] at this
          omega
        obtain ⟨n, hn⟩ : ∃ n, ns[i]? = some n := ⟨_, List.getElem?_eq_getElem hl'⟩
        have hat : atI (ns.map V.int) (i : Int) = some (V.int n) := atI_nat (by rw [List.getElem?_map, hn]; rfl)
        refine ⟨_, rfl, b, _, _, _, rfl, rfl, SqL.of B.at_, rfl, _, rfl, b, _, _, _, rfl, rfl, SqL.of B.at_, rfl, c, _, _, _, rfl, rfl, SqL.of B.cs, hat, ?_⟩
        refine ⟨_, rfl, b, _, _, _, rfl, rfl, SqL.of B.at_, rfl, _, _, rfl, rfl, _, rfl, b, _, _, _, rfl, rfl, B.at_, rfl, ?_⟩
        have B1 := B.put (i' := i + 1) (z' := z) (r' := r) (o := .lst [.ref c, .int ((i : Int) + 1), .int z, .int r]) (by rw [Int.natCast_add]; rfl) hl' B.z0 B.r0 B.r1
        have k1 : Kp b H (upd H b (.lst [.ref c, .int ((i : Int) + 1), .int z, .int r])) := Kp.upd
        refine ⟨_, rfl, _, rfl, _, _, rfl, rfl, ⟨by decide, by decide, by decide⟩, _, _, rfl, rfl, _, rfl, ?_⟩
        refine ite2 (fun _ => ?_) (fun _ => ?_)
        · refine ⟨_, rfl, _, rfl, _, rfl, b, _, _, _, rfl, rfl, upd_same, rfl, ?_⟩
          exact ⟨_, _, _, _, rfl, B1.put rfl B1.le (by split <;> omega) B1.r0 B1.r1, k1.trans Kp.upd⟩
        · refine ⟨_, rfl, b, _, _, _, rfl, rfl, SqL.of B1.at_, rfl, _, _, rfl, rfl, .inr (by decide), _, rfl, .inl ⟨_, rfl, _, _, rfl, rfl, (by show (0 : Int) < 1000003; decide), _, _, rfl, rfl, .inr (by decide), _, _, rfl, rfl, _, _, rfl, rfl, .inl ⟨_, rfl, _, _, rfl, rfl, (by show (0 : Int) < 2147483647; decide), _, rfl, b, _, _, _, rfl, rfl, upd_same, rfl, ?_⟩⟩⟩
          exact ⟨_, _, _, _, rfl, B1.put rfl B1.le B1.z0 (emod_lo _ (by decide)) (emod_hi _ (by decide)), k1.trans Kp.upd⟩
      · exact ⟨_, _, _, _, rfl, B, Kp.refl _ _⟩
    · rintro σ' H1 ⟨v, i, z, r, rfl, B, kp⟩
      -- if bag[2] > 0
      refine ⟨fun σ' H' => σ' = [some (.ref b), some (.int m), v, none, none] ∧ H' = H1, ?_, ?_⟩
      · refine ⟨_, rfl, b, _, _, _, rfl, rfl, SqL.of B.at_, rfl, _, _, rfl, rfl, _, rfl, ?_⟩
        refine ite2 (fun hz => ?_) (fun _ => ⟨rfl, rfl⟩)
        refine ⟨_, rfl, b, _, _, _, rfl, rfl, SqL.of B.at_, rfl, .inl ⟨_, rfl, _, rfl, _, _, rfl, rfl, m0, ?_⟩⟩
        refine ⟨_, rfl, b, _, _, _, rfl, rfl, SqL.of B.at_, rfl, _, rfl, _, _, rfl, rfl, ⟨m0, m1⟩, _, rfl, b, _, _, _, rfl, rfl, B.at_, rfl, ?_⟩
        refine ⟨_, rfl, ?_⟩
        exact k _ _ (emod_lo _ m0) (emod_hi _ m0) ⟨c, ns, _, _, _, B.put rfl B.le (Int.ediv_nonneg B.z0 (Int.le_of_lt m0)) B.r0 B.r1⟩ (kp.trans Kp.upd)
      · rintro σ' H2 ⟨rfl, rfl⟩
        refine ⟨_, rfl, b, _, _, _, rfl, rfl, SqL.of B.at_, rfl, _, rfl, b, _, _, _, rfl, rfl, SqL.of B.at_, rfl, _, _, rfl, rfl, .inl ⟨by have := B.r0; omega, by have := B.r1; omega⟩, .inl ⟨_, rfl, _, _, rfl, rfl, (by show (0 : Int) < 2147483629; decide), ?_⟩⟩
        refine ⟨_, rfl, _, _, rfl, rfl, .inr (by decide), _, rfl, b, _, _, _, rfl, rfl, SqL.of B.at_, rfl, _, _, rfl, rfl, .inr (by decide), _, _, rfl, rfl, _, _, rfl, rfl, .inl ⟨_, rfl, _, _, rfl, rfl, (by show (0 : Int) < 2147483647; decide), _, rfl, b, _, _, _, rfl, rfl, B.at_, rfl, ?_⟩⟩
        refine ⟨_, rfl, b, _, _, _, rfl, rfl, SqL.of upd_same, rfl, _, _, rfl, rfl, ⟨by decide, by decide⟩, .inl ⟨_, rfl, _, rfl, _, _, rfl, rfl, m0, ?_⟩⟩
        exact k _ _ (emod_lo _ m0) (emod_hi _ m0) ⟨c, ns, _, _, _, B.put rfl B.le B.z0 (emod_lo _ (by decide)) (emod_hi _ (by decide))⟩ (kp.trans Kp.upd)
end
end RF

namespace RF
open PySem L2
section
variable {P : Program} {w : World} {K : PySem.W.Frag} {mg : Str → Option Value} {base : Heap}
abbrev s_law_of : Stmt := top 19
abbrev n_law_of : List Str := ["_law_bag_here", "_law_some"]
theorem sc_law_of : FnScope n_law_of ["_law_bag_here", "_law_some"] (defScope s_law_of) := ⟨rfl, rfl, rfl, by decide +kernel, rfl, by decide +kernel, by decide +kernel⟩
theorem ok_of {f : Addr} {fd : FuncData} {k : Nat} (F : Fun K "_law_of" "_law_of" s_law_of f fd) (T : TB mg) (D1 : Df P w K mg base k "_law_pull" ["_law_bag_here", "_law_sides"] spPull) : FnOk P w K mg base CX0 (k + 1) f fd ["_law_bag_here", "_law_some"] (spOf K) := by
  refine F.ok sc_law_of (fun vs H Q E h => ?_) (fun cdv A outer s H vs Q E hr h => ?_)
  · obtain ⟨b, a, xs, rfl, _⟩ := h
    rfl
  · obtain ⟨b, a, xs, rfl, B, hS, nab, h0, h1, k⟩ := h
    refine ⟨_, (pss_one (ps_ret (pe_ix ix_list (pv 1) (pe_callD D1 hr (Nat.le_refl _) (pa_cons (pv 0) (pa_cons (pe_callB call_len_seq (by rfl) T.len PySem.boot_len (pa_cons (pv 1) pa_nil)) pa_nil))) (fun _ _ => rfl)))), ?_⟩
    refine ⟨_, rfl, _, rfl, _, rfl, a, _, rfl, .inl hS, b, _, rfl, B, by omega, by omega, fun d H' d0 d1 B' kp => ?_⟩
    obtain ⟨j, rfl⟩ : ∃ j : Nat, d = (j : Int) := ⟨d.toNat, by omega⟩
    have hj : j < xs.length := by omega
    exact ⟨a, xs, _, _, rfl, rfl, kp.seq nab hS, atI_nat (List.getElem?_eq_getElem hj), k _ _ (List.getElem_mem hj) B' kp⟩
abbrev n_law_root : List Str := ["_law_bag_here"]
abbrev n_law_far : List Str := ["_law_bag_here", "_law_figures", "_law_many", "_law_found", "_law_k_z"]
end
end RF

namespace RF
open PySem L2
section
variable {P : Program} {w : World} {K : PySem.W.Frag} {mg : Str → Option Value} {base : Heap}
abbrev s_law_same : Stmt := top 20
abbrev n_law_same : List Str := ["_law_found", "_law_due", "_law_a", "_law_b"]
theorem sc_law_same : FnScope n_law_same ["_law_found", "_law_due"] (defScope s_law_same) := ⟨rfl, rfl, rfl, by decide +kernel, rfl, by decide +kernel, by decide +kernel⟩
theorem ok_same1 {f : Addr} {fd : FuncData} {k : Nat} {n : Nat} (F : Fun K "_law_same" "_law_same" s_law_same f fd) (T : TSm mg) (D1 : Df P w K mg base k "_law_same" ["_law_found", "_law_due"] (spSameL K n)) : FnOk P w K mg base CX0 (k + 1) f fd ["_law_found", "_law_due"] (spSame K n) := by
  refine F.ok sc_law_same (fun vs H Q E h => ?_) (fun cdv A outer s H vs Q E hr h => ?_)
  · obtain ⟨v, u, d, rfl, _⟩ := h
    rfl
  · obtain ⟨v, u, d, rfl, h1, h2, hd, k⟩ := h
    have nd := sc_law_same.nd
    refine ⟨_, (pss_cons (ps_if (pw_or (pt_cmpR op_isN (pv 1) pe_non (nomark _)) (pw_or1 (pt_cmpR op_isN (pv 0) pe_non (nomark _)))).pt
      (pss_one (ps_ret (pe_and (pe_cmpR op_isN (pv 1) pe_non (nomark _)) (pe_one (pe_cmpR op_isN (pv 0) pe_non (nomark _))))))
      pss_nil)
      (pss_cons (ps_if (pw_or (pt_val (pe_callB call_isi (by rfl) T.isinstance (by decide +kernel) (pa_cons (pv 1) (pa_cons (pe_bltn (v := .ty "bool") (by rfl) T.bool (by decide +kernel) rfl) pa_nil)))) (pw_or1 (pt_val (pe_callB call_isi (by rfl) T.isinstance (by decide +kernel) (pa_cons (pv 0) (pa_cons (pe_bltn (v := .ty "bool") (by rfl) T.bool (by decide +kernel) rfl) pa_nil)))))).pt
      (pss_one (ps_ret (pe_and (pe_callB call_isi (by rfl) T.isinstance (by decide +kernel) (pa_cons (pv 1) (pa_cons (pe_bltn (v := .ty "bool") (by rfl) T.bool (by decide +kernel) rfl) pa_nil))) (pe_and (pe_callB call_isi (by rfl) T.isinstance (by decide +kernel) (pa_cons (pv 0) (pa_cons (pe_bltn (v := .ty "bool") (by rfl) T.bool (by decide +kernel) rfl) pa_nil))) (pe_one (pe_cmpR op_eq (pv 0) (pv 1) (nomark _)))))))
      pss_nil)
      (pss_cons (ps_if (pw_or (pt_val (pe_callB call_isiT (by rfl) T.isinstance (by decide +kernel) (pa_cons (pv 1) (pa_cons (pe_tup (pa_cons (pe_bltn (v := .ty "list") (by rfl) T.list (by decide +kernel) rfl) (pa_cons (pe_bltn (v := .ty "tuple") (by rfl) T.tuple (by decide +kernel) rfl) pa_nil))) pa_nil)))) (pw_or1 (pt_val (pe_callB call_isiT (by rfl) T.isinstance (by decide +kernel) (pa_cons (pv 0) (pa_cons (pe_tup (pa_cons (pe_bltn (v := .ty "list") (by rfl) T.list (by decide +kernel) rfl) (pa_cons (pe_bltn (v := .ty "tuple") (by rfl) T.tuple (by decide +kernel) rfl) pa_nil))) pa_nil)))))).pt
      (pss_cons (ps_if (pw_or (pt_cmpR op_ne (pe_callB call_isi (by rfl) T.isinstance (by decide +kernel) (pa_cons (pv 1) (pa_cons (pe_bltn (v := .ty "list") (by rfl) T.list (by decide +kernel) rfl) pa_nil))) (pe_callB call_isi (by rfl) T.isinstance (by decide +kernel) (pa_cons (pv 0) (pa_cons (pe_bltn (v := .ty "list") (by rfl) T.list (by decide +kernel) rfl) pa_nil))) (nomark _)) (pw_or1 (pt_cmpR op_ne (pe_callB call_isi (by rfl) T.isinstance (by decide +kernel) (pa_cons (pv 1) (pa_cons (pe_bltn (v := .ty "tuple") (by rfl) T.tuple (by decide +kernel) rfl) pa_nil))) (pe_callB call_isi (by rfl) T.isinstance (by decide +kernel) (pa_cons (pv 0) (pa_cons (pe_bltn (v := .ty "tuple") (by rfl) T.tuple (by decide +kernel) rfl) pa_nil))) (nomark _)))).pt
        (pss_one (ps_ret pe_bl))
        pss_nil)
        (pss_one (ps_ret (pe_and (pe_cmpR op_eq (pe_callB call_len_seq (by rfl) T.len PySem.boot_len (pa_cons (pv 0) pa_nil)) (pe_callB call_len_seq (by rfl) T.len PySem.boot_len (pa_cons (pv 1) pa_nil)) (nomark _)) (pe_one (pe_callB (cr_all rfl) (by rfl) T.all (by decide +kernel) (pa_cons (pe_lc (own := [("_law_a", 2), ("_law_b", 3)]) (g := gTup K 2 (gCons (gName 2) (gCons (gName 3) gNil))) (tt := tYes) (by rfl) nd (RZ.pi_zipA (by rfl) T.zip (pa_cons (pv 0) (pa_cons (pv 1) pa_nil))) (blkOk_by (own := [("_law_a", 2), ("_law_b", 3)]) (N := n_law_same) (sc := defScope s_law_same) (by decide +kernel)) (fun _ _ _ _ _ => (pg_tup rfl (pgs_cons (pg_name (i := 2) nd rfl (Or.inl rfl)) (pgs_cons (pg_name (i := 3) nd rfl (Or.inl rfl)) pgs_nil)))) (fun _ _ _ _ _ => pts_nil) (fun _ _ _ _ _ => (pe_callD D1 hr (Nat.le_refl _) (pa_cons (pv 2) (pa_cons (pv 3) pa_nil))))) pa_nil)))))))
      pss_nil)
      (pss_cons (ps_if (pw_or (pt_cmpR op_ne (pe_callB call_isi (by rfl) T.isinstance (by decide +kernel) (pa_cons (pv 1) (pa_cons (pe_bltn (v := .ty "int") (by rfl) T.int (by decide +kernel) rfl) pa_nil))) (pe_callB call_isi (by rfl) T.isinstance (by decide +kernel) (pa_cons (pv 0) (pa_cons (pe_bltn (v := .ty "int") (by rfl) T.int (by decide +kernel) rfl) pa_nil))) (nomark _)) (pw_or1 (pt_cmpR op_ne (pe_callB call_isi (by rfl) T.isinstance (by decide +kernel) (pa_cons (pv 1) (pa_cons (pe_bltn (v := .ty "str") (by rfl) T.str (by decide +kernel) rfl) pa_nil))) (pe_callB call_isi (by rfl) T.isinstance (by decide +kernel) (pa_cons (pv 0) (pa_cons (pe_bltn (v := .ty "str") (by rfl) T.str (by decide +kernel) rfl) pa_nil))) (nomark _)))).pt
      (pss_one (ps_ret pe_bl))
      pss_nil)
      (pss_one (ps_ret (pe_cmpR op_eq (pv 0) (pv 1) (nomark _)))))))), ?_⟩
    by_cases en : d = .non
    · subst en
      obtain rfl : v = .non := h1
      obtain rfl : u = .non := h2
      refine ⟨_, rfl, rfl, _, rfl, iteP rfl (iteP rfl ?_)⟩
      exact ⟨_, rfl, rfl, _, rfl, iteP rfl ⟨_, rfl, rfl, k _ (Same.refl _)⟩⟩
    · have nv : ∀ x, Rp K H x d → ¬ x = V.non := fun x h z => by
        subst z
        cases d with
        | non => exact en rfl
        | bl _ => cases (show V.non = V.bl _ from h)
        | int _ => cases (show V.non = V.int _ from h)
        | str _ => cases (show V.non = V.str _ from h)
        | lst _ => obtain ⟨_, _, q, _⟩ := h; cases q
        | tup _ => obtain ⟨_, _, q, _⟩ := h; cases q
      refine ⟨_, rfl, rfl, _, rfl, iteN (nd_of (nv _ h2)) ⟨_, rfl, rfl, _, rfl, iteN (nd_of (nv _ h1)) ?_⟩⟩
      -- bool
      by_cases eb : isBool d = true
      · cases d with
        | bl b =>
          have g1 := h1
          have g2 := h2
          obtain rfl : v = .bl b := h1
          obtain rfl : u = .bl b := h2
          refine ⟨_, rfl, _, _, _, _, _, rfl, .ty _, tyX _ g2, kit_ty (kit_bool _), _, rfl, iteP rfl (iteP rfl ?_)⟩
          exact ⟨_, rfl, _, _, _, _, _, rfl, .ty _, tyX _ g2, kit_ty (kit_bool _), _, rfl, iteP rfl ⟨_, rfl, _, _, _, _, _, rfl, .ty _, tyX _ g1, kit_ty (kit_bool _), _, rfl, iteP rfl ⟨_, rfl, _, rfl, rfl, eqT (k _ (Same.refl _))⟩⟩⟩
        | non => cases eb
        | int _ => cases eb
        | str _ => cases eb
        | lst _ => cases eb
        | tup _ => cases eb
      · refine ⟨_, rfl, _, _, _, _, _, rfl, .ty _, tyX _ h2, kit_ty (kit_bool _), _, rfl, iteN eb ⟨_, rfl, _, _, _, _, _, rfl, .ty _, tyX _ h1, kit_ty (kit_bool _), _, rfl, iteN eb ?_⟩⟩
        -- lists and tuples
        refine ⟨_, rfl, (by show 2 ≤ sizeLine; decide), fun p hp => ?_⟩
        have s2 : Same H (upd H p (.tup [.ty "list", .ty "tuple"])) := sNew (Same.refl _) hp
        have j1 := Rp.same s2 _ h1
        have j2 := Rp.same s2 _ h2
        refine ⟨_, _, _, _, _, _, rfl, upd_same, .cons (.ty _) (.cons (.ty _) .nil), tyX _ j2, kit_lt _, _, rfl, ?_⟩
        by_cases et : (isLst d || isTup d) = true
        · refine iteP et (iteP rfl ?_)
          refine ⟨_, rfl, _, _, _, _, _, rfl, .ty _, tyX _ j2, kit_ty (kit_list _), _, rfl, _, _, _, _, _, rfl, .ty _, tyX _ j1, kit_ty (kit_list _), rfl, _, rfl, iteNS rfl ?_⟩
          refine ⟨_, rfl, _, _, _, _, _, rfl, .ty _, tyX _ j2, kit_ty (kit_tuple _), _, rfl, _, _, _, _, _, rfl, .ty _, tyX _ j1, kit_ty (kit_tuple _), rfl, _, rfl, iteNS rfl ?_⟩
          cases d with
          | lst ds =>
            obtain ⟨a, xs, rfl, S1, l1, r1⟩ := id h1
            obtain ⟨b, ys, rfl, S2, l2, r2⟩ := id h2
            have T1 := s2.seq S1
            have T2 := s2.seq S2
            have el : xs.length = ys.length := by rw [r1.len, r2.len]
            refine ⟨_, rfl, _, _, rfl, .inl T1, _, rfl, _, _, rfl, .inl T2, rfl, _, rfl, iteP (decide_eq_true (by rw [el])) ?_⟩
            refine ⟨_, rfl, _, rfl, a, b, xs, ys, rfl, .inl ⟨T1, T2, fun Dd hD => ?_⟩⟩
            cases n with
            | zero => exact absurd hd (by show ¬ (depL ds + 1 ≤ 0); omega)
            | succ n =>
              have nz : ∀ H', Same H H' → H' Dd = none → True := fun _ _ _ => trivial
              refine lc_it (walk_zip (n := xs.length) (by rw [el, Nat.min_self])) (fun i H' => (∃ acc : List Bool, H' Dd = some (.lst (acc.map V.bl)) ∧ acc.length = i ∧ acc.all id = true) ∧ Same (upd H p (.tup [.ty "list", .ty "tuple"])) H' ∧ i ≤ xs.length)
                ⟨⟨[], upd_same, rfl, rfl⟩, sNew (Same.refl _) hD, Nat.zero_le _⟩ (fun i H' _ z => ⟨(z.2.1).seq T1, (z.2.1).seq T2⟩) ?_ ?_
              · rintro i x H3 H4 hi ⟨⟨acc, e1, e2, e3⟩, sm, _⟩ ⟨Tt, x1, x2, rfl, nT, rfl, g1, g2⟩
                obtain ⟨d1, q1, p1⟩ := r1.at_ g1
                obtain ⟨d2, q2, p2⟩ := r2.at_ g2
                have ed : d1 = d2 := Option.some.inj (q1.symm.trans q2)
                subst ed
                have sm4 : Same H (upd H3 Tt (.tup [x1, x2])) := (s2.trans sm).trans (sNew (Same.refl _) nT)
                refine ⟨Tt, [x1, x2], rfl, SqT.of upd_same, rfl, _, _, rfl, _, _, rfl, rfl, rfl, ?_⟩
                refine yes_if ?_
                refine ⟨_, rfl, _, rfl, x1, x2, d1, rfl, Rp.same sm4 _ p1, Rp.same sm4 _ p2, ?_, fun H5 s5 => ?_⟩
                · have := dep_mem q1
                  have hd' : depL ds + 1 ≤ n + 1 := hd
                  omega
                · have eD : H5 Dd = some (.lst (acc.map V.bl)) := s5 _ _ (by rw [upd_ne (ne_of_none e1 nT)]; exact e1)
                  refine ⟨_, eD, by rw [List.length_map]; exact Nat.lt_of_lt_of_le (show acc.length < 100001 by omega) (by decide), ⟨⟨acc ++ [true], ?_, by rw [List.length_append, e2]; rfl, by rw [List.all_append, e3]; rfl⟩, fun c o e => ?_, hi⟩⟩
                  · rw [upd_same, List.map_append]; rfl
                  · have nc : c ≠ Dd := fun z => by rw [z, hD] at e; cases e
                    rw [upd_ne nc]
                    exact s5 _ _ (by rw [upd_ne (ne_of_none (sm _ _ e) nT)]; exact sm _ _ e)
              · rintro H3 ⟨⟨acc, e1, e2, e3⟩, sm, _⟩
                exact ⟨Dd, acc, rfl, SqL.of e1, by rw [e3]; exact k _ (s2.trans sm)⟩
          | tup ds =>
            obtain ⟨a, xs, rfl, S1, l1, r1⟩ := id h1
            obtain ⟨b, ys, rfl, S2, l2, r2⟩ := id h2
            have T1 := sameT s2 S1
            have T2 := sameT s2 S2
            have el : xs.length = ys.length := by rw [r1.len, r2.len]
            refine ⟨_, rfl, _, _, rfl, .inr T1, _, rfl, _, _, rfl, .inr T2, rfl, _, rfl, iteP (decide_eq_true (by rw [el])) ?_⟩
            refine ⟨_, rfl, _, rfl, a, b, xs, ys, rfl, .inr ⟨T1, T2, fun Dd hD => ?_⟩⟩
            cases n with
            | zero => exact absurd hd (by show ¬ (depL ds + 1 ≤ 0); omega)
            | succ n =>
              have nz : ∀ H', Same H H' → H' Dd = none → True := fun _ _ _ => trivial
              refine lc_it (walk_zipT (n := xs.length) (by rw [el, Nat.min_self])) (fun i H' => (∃ acc : List Bool, H' Dd = some (.lst (acc.map V.bl)) ∧ acc.length = i ∧ acc.all id = true) ∧ Same (upd H p (.tup [.ty "list", .ty "tuple"])) H' ∧ i ≤ xs.length)
                ⟨⟨[], upd_same, rfl, rfl⟩, sNew (Same.refl _) hD, Nat.zero_le _⟩ (fun i H' _ z => ⟨sameT (z.2.1) T1, sameT (z.2.1) T2⟩) ?_ ?_
              · rintro i x H3 H4 hi ⟨⟨acc, e1, e2, e3⟩, sm, _⟩ ⟨Tt, x1, x2, rfl, nT, rfl, g1, g2⟩
                obtain ⟨d1, q1, p1⟩ := r1.at_ g1
                obtain ⟨d2, q2, p2⟩ := r2.at_ g2
                have ed : d1 = d2 := Option.some.inj (q1.symm.trans q2)
                subst ed
                have sm4 : Same H (upd H3 Tt (.tup [x1, x2])) := (s2.trans sm).trans (sNew (Same.refl _) nT)
                refine ⟨Tt, [x1, x2], rfl, SqT.of upd_same, rfl, _, _, rfl, _, _, rfl, rfl, rfl, ?_⟩
                refine yes_if ?_
                refine ⟨_, rfl, _, rfl, x1, x2, d1, rfl, Rp.same sm4 _ p1, Rp.same sm4 _ p2, ?_, fun H5 s5 => ?_⟩
                · have := dep_mem q1
                  have hd' : depL ds + 1 ≤ n + 1 := hd
                  omega
                · have eD : H5 Dd = some (.lst (acc.map V.bl)) := s5 _ _ (by rw [upd_ne (ne_of_none e1 nT)]; exact e1)
                  refine ⟨_, eD, by rw [List.length_map]; exact Nat.lt_of_lt_of_le (show acc.length < 100001 by omega) (by decide), ⟨⟨acc ++ [true], ?_, by rw [List.length_append, e2]; rfl, by rw [List.all_append, e3]; rfl⟩, fun c o e => ?_, hi⟩⟩
                  · rw [upd_same, List.map_append]; rfl
                  · have nc : c ≠ Dd := fun z => by rw [z, hD] at e; cases e
                    rw [upd_ne nc]
                    exact s5 _ _ (by rw [upd_ne (ne_of_none (sm _ _ e) nT)]; exact sm _ _ e)
              · rintro H3 ⟨⟨acc, e1, e2, e3⟩, sm, _⟩
                exact ⟨Dd, acc, rfl, SqL.of e1, by rw [e3]; exact k _ (s2.trans sm)⟩
          | non => cases et
          | bl _ => cases et
          | int _ => cases et
          | str _ => cases et
        · refine iteN et ?_
          refine ⟨_, rfl, (by show 2 ≤ sizeLine; decide), fun q hq => ?_⟩
          have s3 := sNew (o := .tup [.ty "list", .ty "tuple"]) s2 hq
          have i1 := Rp.same s3 _ h1
          have i2 := Rp.same s3 _ h2
          refine ⟨_, _, _, _, _, _, rfl, upd_same, .cons (.ty _) (.cons (.ty _) .nil), tyX _ i1, kit_lt _, _, rfl, iteN et ?_⟩
          refine ⟨_, rfl, _, _, _, _, _, rfl, .ty _, tyX _ i2, kit_ty (kit_int _), _, rfl, _, _, _, _, _, rfl, .ty _, tyX _ i1, kit_ty (kit_int _), rfl, _, rfl, iteNS rfl ?_⟩
          refine ⟨_, rfl, _, _, _, _, _, rfl, .ty _, tyX _ i2, kit_ty (kit_str _), _, rfl, _, _, _, _, _, rfl, .ty _, tyX _ i1, kit_ty (kit_str _), rfl, _, rfl, iteNS rfl ?_⟩
          cases d with
          | int z =>
            obtain rfl : v = .int z := h1
            obtain rfl : u = .int z := h2
            exact ⟨_, rfl, _, rfl, rfl, eqT (k _ s3)⟩
          | str z =>
            obtain rfl : v = .str z := h1
            obtain rfl : u = .str z := h2
            exact ⟨_, rfl, _, rfl, rfl, eqT (k _ s3)⟩
          | non => exact absurd rfl en
          | bl _ => exact absurd rfl eb
          | lst _ => exact absurd rfl et
          | tup _ => exact absurd rfl et
theorem ok_same {f : Addr} {fd : FuncData} (F : Fun K "_law_same" "_law_same" s_law_same f fd) (T : TSm mg) (hb : Binds K fd ["_law_found", "_law_due"] []) (hm : mg "_law_same" = some (.ref f)) : ∀ n : Nat, FnOk P w K mg base CX0 (n + 1) f fd ["_law_found", "_law_due"] (spSame K n)
  | 0 => ok_same1 (k := 0) F T ⟨_, _, fn_false, hb, hm, F.kp⟩
  | n + 1 => ok_same1 (k := n + 1) F T ⟨_, _, ok_same F T hb hm n, hb, hm, F.kp⟩
end
end RF

namespace RF
open PySem L2
/-! ### the bag at b with its cells at c, which stay there -/
def BagAt (H : Hp) (b c : Addr) : Prop := ∃ (ns : List Int) (i : Nat) (z r : Int), BagC H b c ns i z r
theorem Bag.here {H : Hp} {b : Addr} (B : Bag H b) : ∃ c, BagAt H b c := let ⟨c, ns, i, z, r, h⟩ := B; ⟨c, ns, i, z, r, h⟩
theorem BagAt.bag {H : Hp} {b c : Addr} (B : BagAt H b c) : Bag H b := let ⟨ns, i, z, r, h⟩ := B; ⟨c, ns, i, z, r, h⟩
theorem BagAt.atB {H : Hp} {b c : Addr} (B : BagAt H b c) : ∃ xs, H b = some (.lst xs) := B.bag.some
theorem BagAt.atC {H : Hp} {b c : Addr} (B : BagAt H b c) : ∃ xs, H c = some (.lst xs) := let ⟨_, _, _, _, h⟩ := B; ⟨_, h.cs⟩
theorem BagAt.same {H H' : Hp} {b c : Addr} (B : BagAt H b c) (s : Same H H') : BagAt H' b c := by
  obtain ⟨ns, i, z, r, h⟩ := B
  exact ⟨ns, i, z, r, h.ne, s _ _ h.at_, s _ _ h.cs, h.le, h.z0, h.r0, h.r1⟩
theorem BagAt.off {H : Hp} {b c p : Addr} (B : BagAt H b c) (h : H p = none) : p ≠ b ∧ p ≠ c := by
  obtain ⟨xs, hb⟩ := B.atB
  obtain ⟨ys, hc⟩ := B.atC
  exact ⟨(ne_of_none hb h).symm, (ne_of_none hc h).symm⟩
theorem BagAt.put {H : Hp} {b c p : Addr} {o : HO} (B : BagAt H b c) (h : p ≠ b ∧ p ≠ c) : BagAt (upd H p o) b c := by
  obtain ⟨ns, i, z, r, B⟩ := B
  exact ⟨ns, i, z, r, B.ne, by rw [upd_ne h.1.symm]; exact B.at_, by rw [upd_ne h.2.symm]; exact B.cs, B.le, B.z0, B.r0, B.r1⟩
theorem Kp.up {b p : Addr} {H H' : Hp} {o : HO} (k : Kp b H H') (h : H p = none) : Kp b H (L2.upd H' p o) := fun a u n e => by
  rw [upd_ne (ne_of_none e h)]
  exact k a u n e
theorem Kp.new {b p : Addr} {H H' : Hp} {o : HO} (k : Kp b H H') (h : H' p = none) : Kp b H (L2.upd H' p o) := k.trans (Kp.of (sNew (Same.refl _) h))
def spPullC : Sp := fun vs H Q _ => ∃ (b c : Addr) (k : Int), vs = [.ref b, .int k] ∧ BagAt H b c ∧ 0 < k ∧ k < 1073741824 ∧
  ∀ (d : Int) (H' : Hp), 0 ≤ d → d < k → BagAt H' b c → Kp b H H' → Q (.int d) H'
def spOfC (K : PySem.W.Frag) : Sp := fun vs H Q _ => ∃ (b c a : Addr) (xs : List V), vs = [.ref b, .ref a] ∧ BagAt H b c ∧ SqL K H a xs ∧ a ≠ b ∧ 0 < xs.length ∧ xs.length < 1000000 ∧
  ∀ (v : V) (H' : Hp), v ∈ xs → BagAt H' b c → Kp b H H' → Q v H'
def spRootC : Sp := fun vs H Q _ => ∃ (b c : Addr), vs = [.ref b] ∧ BagAt H b c ∧ ∀ (d : Int) (H' : Hp), d = 2 ∨ d = 3 ∨ d = 5 ∨ d = 6 ∨ d = 13 → BagAt H' b c → Kp b H H' → Q (.int d) H'
def spFarC : Sp := fun vs H Q _ => ∃ (b c : Addr) (k : Int), vs = [.ref b, .int k] ∧ BagAt H b c ∧ 0 < k ∧ k ≤ 1000 ∧ ∀ (n : Int) (H' : Hp), 0 ≤ n → n < 10 ^ k.toNat → BagAt H' b c → Kp b H H' → Q (.int n) H'
end RF

namespace RF
open PySem L2
section
variable {P : Program} {w : World} {K : PySem.W.Frag} {mg : Str → Option Value} {base : Heap}
theorem ok_pullC {f : Addr} {fd : FuncData} (F : Fun K "_law_pull" "_law_pull" sPull f fd) (T : TB mg) : FnOk P w K mg base CX0 1 f fd ["_law_bag_here", "_law_sides"] spPullC := by
  refine F.ok scPull (fun vs H Q E h => ?_) (fun cdv A outer s H vs Q E hr h => ?_)
  · obtain ⟨b, c, k, rfl, _⟩ := h
    rfl
  · obtain ⟨b, c, m, rfl, ⟨ns, i, z, r, B⟩, m0, m1, k⟩ := h
    have nd := scPull.nd
    -- the second half, from any bag
    refine ⟨_, C8.pss_cut (ps_if (pw_and (pt_cmpR op_eq (pe_ix ix_list (pv 0) pe_int (fun _ _ => rfl)) pe_int (nomark _)) (pw_and1 (pt_cmpR op_lt (pe_ix ix_list (pv 0) pe_int (fun _ _ => rfl)) (pe_callB call_len_seq (by rfl) T.len PySem.boot_len (pa_cons (pe_ix ix_list (pv 0) pe_int (fun _ _ => rfl)) pa_nil)) (nomark _)))).pt
        (pss_cons (ps_set (i := 2) nd rfl (Or.inl rfl) (pe_ix ix_list (pe_ix ix_list (pv 0) pe_int (fun _ _ => rfl)) (pe_ix ix_list (pv 0) pe_int (fun _ _ => rfl)) (fun _ _ => rfl)))
        (pss_cons (ps_asg (pe_op op_add (pe_ix ix_list (pv 0) pe_int (fun _ _ => rfl)) pe_int) (pg_sub (pv 0) pe_int set_list))
        (pss_one (ps_if (pt_cmpR op_ge (pe_callB call_abs (by rfl) T.abs (by decide +kernel) (pa_cons (pv 2) pa_nil)) (pe_op op_pow pe_int pe_int) (nomark _))
          (pss_one (ps_asg (pe_callB call_abs (by rfl) T.abs (by decide +kernel) (pa_cons (pv 2) pa_nil)) (pg_sub (pv 0) pe_int set_list)))
          (pss_one (ps_asg (pe_op op_mod (pe_callTy call_int1 (by rfl) T.int (by decide +kernel) (pa_cons (pe_op op_add (pe_op op_add (pe_op op_mul (pe_ix ix_list (pv 0) pe_int (fun _ _ => rfl)) pe_int) (pe_op op_mul (pe_op op_mod (pe_callTy call_int1 (by rfl) T.int (by decide +kernel) (pa_cons (pv 2) pa_nil)) pe_int) pe_int)) pe_int) pa_nil)) pe_int) (pg_sub (pv 0) pe_int set_list)))))))
        pss_nil)
      (C8.pss_cut (ps_if (pt_cmpR op_gt (pe_ix ix_list (pv 0) pe_int (fun _ _ => rfl)) pe_int (nomark _))
        (pss_cons (ps_set (i := 3) nd rfl (Or.inl rfl) (pe_op op_mod (pe_callTy call_int1 (by rfl) T.int (by decide +kernel) (pa_cons (pe_ix ix_list (pv 0) pe_int (fun _ _ => rfl)) pa_nil)) (pv 1)))
        (pss_cons (ps_asg (pe_op op_fdiv (pe_ix ix_list (pv 0) pe_int (fun _ _ => rfl)) (pv 1)) (pg_sub (pv 0) pe_int set_list))
        (pss_one (ps_ret (pv 3)))))
        pss_nil)
      (pss_cons (ps_set (i := 4) nd rfl (Or.inl rfl) (pe_op op_mod (pe_callTy call_int1 (by rfl) T.int (by decide +kernel) (pa_cons (pe_op op_mul (pe_ix ix_list (pv 0) pe_int (fun _ _ => rfl)) (pe_ix ix_list (pv 0) pe_int (fun _ _ => rfl))) pa_nil)) pe_int))
      (pss_cons (ps_asg (pe_op op_mod (pe_callTy call_int1 (by rfl) T.int (by decide +kernel) (pa_cons (pe_op op_add (pe_op op_add (pe_op op_mul (pv 4) pe_int) (pe_op op_mul (pe_ix ix_list (pv 0) pe_int (fun _ _ => rfl)) pe_int)) pe_int) pa_nil)) pe_int) (pg_sub (pv 0) pe_int set_list))
      (pss_one (ps_ret (pe_op op_mod (pe_callTy call_int1 (by rfl) T.int (by decide +kernel) (pa_cons (pe_op op_fdiv (pe_ix ix_list (pv 0) pe_int (fun _ _ => rfl)) pe_int) pa_nil)) (pv 1))))))), ?_⟩
    have hc : ∀ {H' : Hp} {i : Nat} {z r : Int}, BagC H' b c ns i z r → H' c = some (.lst (ns.map V.int)) := fun B => B.cs
    -- what follows the first if, from any bag
    refine ⟨fun σ' H' => ∃ v i z r, σ' = [some (.ref b), some (.int m), v, none, none] ∧ BagC H' b c ns i z r ∧ Kp b H H', ?_, ?_⟩
    · refine ⟨_, rfl, b, _, _, _, rfl, rfl, SqL.of B.at_, rfl, rfl, _, rfl, ?_⟩
      refine ite2 (fun ez => ?_) (fun _ => ?_)
      · refine ⟨_, rfl, b, _, _, _, rfl, rfl, SqL.of B.at_, rfl, _, rfl, b, _, _, _, rfl, rfl, SqL.of B.at_, rfl, c, _, rfl, .inl (SqL.of B.cs), _, _, rfl, rfl, _, rfl, ?_⟩
        refine ite2 (fun hl => ?_) (fun _ => ⟨_, _, _, _, rfl, B, Kp.refl _ _⟩)
        have hl' : i < ns.length := by
          have := of_decide_eq_true hl
          rw [List.length_map] at this
          omega
        obtain ⟨n, hn⟩ : ∃ n, ns[i]? = some n := ⟨_, List.getElem?_eq_getElem hl'⟩
        have hat : atI (ns.map V.int) (i : Int) = some (V.int n) := atI_nat (by rw [List.getElem?_map, hn]; rfl)
        refine ⟨_, rfl, b, _, _, _, rfl, rfl, SqL.of B.at_, rfl, _, rfl, b, _, _, _, rfl, rfl, SqL.of B.at_, rfl, c, _, _, _, rfl, rfl, SqL.of B.cs, hat, ?_⟩
        refine ⟨_, rfl, b, _, _, _, rfl, rfl, SqL.of B.at_, rfl, _, _, rfl, rfl, _, rfl, b, _, _, _, rfl, rfl, B.at_, rfl, ?_⟩
        have B1 := B.put (i' := i + 1) (z' := z) (r' := r) (o := .lst [.ref c, .int ((i : Int) + 1), .int z, .int r]) (by rw [Int.natCast_add]; rfl) hl' B.z0 B.r0 B.r1
        have k1 : Kp b H (upd H b (.lst [.ref c, .int ((i : Int) + 1), .int z, .int r])) := Kp.upd
        refine ⟨_, rfl, _, rfl, _, _, rfl, rfl, ⟨by decide, by decide, by decide⟩, _, _, rfl, rfl, _, rfl, ?_⟩
        refine ite2 (fun _ => ?_) (fun _ => ?_)
        · refine ⟨_, rfl, _, rfl, _, rfl, b, _, _, _, rfl, rfl, upd_same, rfl, ?_⟩
          exact ⟨_, _, _, _, rfl, B1.put rfl B1.le (by split <;> omega) B1.r0 B1.r1, k1.trans Kp.upd⟩
        · refine ⟨_, rfl, b, _, _, _, rfl, rfl, SqL.of B1.at_, rfl, _, _, rfl, rfl, .inr (by decide), _, rfl, .inl ⟨_, rfl, _, _, rfl, rfl, (by show (0 : Int) < 1000003; decide), _, _, rfl, rfl, .inr (by decide), _, _, rfl, rfl, _, _, rfl, rfl, .inl ⟨_, rfl, _, _, rfl, rfl, (by show (0 : Int) < 2147483647; decide), _, rfl, b, _, _, _, rfl, rfl, upd_same, rfl, ?_⟩⟩⟩
          exact ⟨_, _, _, _, rfl, B1.put rfl B1.le B1.z0 (emod_lo _ (by decide)) (emod_hi _ (by decide)), k1.trans Kp.upd⟩
      · exact ⟨_, _, _, _, rfl, B, Kp.refl _ _⟩
    · rintro σ' H1 ⟨v, i, z, r, rfl, B, kp⟩
      -- if bag[2] > 0
      refine ⟨fun σ' H' => σ' = [some (.ref b), some (.int m), v, none, none] ∧ H' = H1, ?_, ?_⟩
      · refine ⟨_, rfl, b, _, _, _, rfl, rfl, SqL.of B.at_, rfl, _, _, rfl, rfl, _, rfl, ?_⟩
        refine ite2 (fun hz => ?_) (fun _ => ⟨rfl, rfl⟩)
        refine ⟨_, rfl, b, _, _, _, rfl, rfl, SqL.of B.at_, rfl, .inl ⟨_, rfl, _, rfl, _, _, rfl, rfl, m0, ?_⟩⟩
        refine ⟨_, rfl, b, _, _, _, rfl, rfl, SqL.of B.at_, rfl, _, rfl, _, _, rfl, rfl, ⟨m0, m1⟩, _, rfl, b, _, _, _, rfl, rfl, B.at_, rfl, ?_⟩
        refine ⟨_, rfl, ?_⟩
        exact k _ _ (emod_lo _ m0) (emod_hi _ m0) ⟨ns, _, _, _, B.put rfl B.le (Int.ediv_nonneg B.z0 (Int.le_of_lt m0)) B.r0 B.r1⟩ (kp.trans Kp.upd)
      · rintro σ' H2 ⟨rfl, rfl⟩
        refine ⟨_, rfl, b, _, _, _, rfl, rfl, SqL.of B.at_, rfl, _, rfl, b, _, _, _, rfl, rfl, SqL.of B.at_, rfl, _, _, rfl, rfl, .inl ⟨by have := B.r0; omega, by have := B.r1; omega⟩, .inl ⟨_, rfl, _, _, rfl, rfl, (by show (0 : Int) < 2147483629; decide), ?_⟩⟩
        refine ⟨_, rfl, _, _, rfl, rfl, .inr (by decide), _, rfl, b, _, _, _, rfl, rfl, SqL.of B.at_, rfl, _, _, rfl, rfl, .inr (by decide), _, _, rfl, rfl, _, _, rfl, rfl, .inl ⟨_, rfl, _, _, rfl, rfl, (by show (0 : Int) < 2147483647; decide), _, rfl, b, _, _, _, rfl, rfl, B.at_, rfl, ?_⟩⟩
        refine ⟨_, rfl, b, _, _, _, rfl, rfl, SqL.of upd_same, rfl, _, _, rfl, rfl, ⟨by decide, by decide⟩, .inl ⟨_, rfl, _, rfl, _, _, rfl, rfl, m0, ?_⟩⟩
        exact k _ _ (emod_lo _ m0) (emod_hi _ m0) ⟨ns, _, _, _, B.put rfl B.le B.z0 (emod_lo _ (by decide)) (emod_hi _ (by decide))⟩ (kp.trans Kp.upd)
end
end RF

namespace RF
open PySem L2
section
variable {P : Program} {w : World} {K : PySem.W.Frag} {mg : Str → Option Value} {base : Heap}
theorem ok_ofC {f : Addr} {fd : FuncData} {k : Nat} (F : Fun K "_law_of" "_law_of" s_law_of f fd) (T : TB mg) (D1 : Df P w K mg base k "_law_pull" ["_law_bag_here", "_law_sides"] spPullC) : FnOk P w K mg base CX0 (k + 1) f fd ["_law_bag_here", "_law_some"] (spOfC K) := by
  refine F.ok sc_law_of (fun vs H Q E h => ?_) (fun cdv A outer s H vs Q E hr h => ?_)
  · obtain ⟨b, c, a, xs, rfl, _⟩ := h
    rfl
  · obtain ⟨b, c, a, xs, rfl, B, hS, nab, h0, h1, k⟩ := h
    refine ⟨_, (pss_one (ps_ret (pe_ix ix_list (pv 1) (pe_callD D1 hr (Nat.le_refl _) (pa_cons (pv 0) (pa_cons (pe_callB call_len_seq (by rfl) T.len PySem.boot_len (pa_cons (pv 1) pa_nil)) pa_nil))) (fun _ _ => rfl)))), ?_⟩
    refine ⟨_, rfl, _, rfl, _, rfl, a, _, rfl, .inl hS, b, c, _, rfl, B, by omega, by omega, fun d H' d0 d1 B' kp => ?_⟩
    obtain ⟨j, rfl⟩ : ∃ j : Nat, d = (j : Int) := ⟨d.toNat, by omega⟩
    have hj : j < xs.length := by omega
    exact ⟨a, xs, _, _, rfl, rfl, kp.seq nab hS, atI_nat (List.getElem?_eq_getElem hj), k _ _ (List.getElem_mem hj) B' kp⟩
end
end RF

namespace RF
theorem ring1 (x s : Int) : (x + s) * (x + s) = (x - s) * (x - s) + 4 * (x * s) := by grind
theorem amgm (x q y n : Int) (hx : 0 < x) (hq : 0 ≤ q) (hn : n < x * (q + 1)) (hy : x + q ≤ 2 * y + 1) : n < (y + 1) * (y + 1) := by
  have h1 := ring1 x (q + 1)
  have h0 : 0 ≤ (x - (q + 1)) * (x - (q + 1)) := by
    rcases Int.le_total 0 (x - (q + 1)) with h | h
    · exact Int.mul_nonneg h h
    · exact Int.mul_nonneg_of_nonpos_of_nonpos h h
  have h2 : (x + (q + 1)) * (x + (q + 1)) ≤ (2 * (y + 1)) * (2 * (y + 1)) := Int.mul_le_mul (by omega) (by omega) (by omega) (by omega)
  have h3 : (2 * (y + 1)) * (2 * (y + 1)) = 4 * ((y + 1) * (y + 1)) := by grind
  omega
end RF

namespace RF
theorem sq_nonneg (a : Int) : 0 ≤ a * a := by
  rcases Int.le_total 0 a with h | h
  · exact Int.mul_nonneg h h
  · exact Int.mul_nonneg_of_nonpos_of_nonpos h h
theorem sq_le {a b : Int} (ha : 0 ≤ a) (h : a ≤ b) : a * a ≤ b * b := Int.mul_le_mul h h ha (by omega)
theorem sq_lt {a b : Int} (ha : 0 ≤ a) (h : a < b) : a * a < b * b := by
  have h1 : a * a ≤ a * b := Int.mul_le_mul_of_nonneg_left (by omega) ha
  have h2 : a * b < b * b := Int.mul_lt_mul_of_pos_right h (by omega)
  omega
theorem le_of_sq {a b : Int} (hb : 0 ≤ b) (h : a * a ≤ b * b) : a ≤ b := by
  rcases Int.lt_or_le b a with z | z
  · have := sq_lt hb z
    omega
  · exact z
theorem lt_of_sq {a b : Int} (hb : 0 ≤ b) (h : a * a < b * b) : a < b := by
  rcases Int.lt_or_le a b with z | z
  · exact z
  · have := sq_le hb z
    omega
/-! ### square roots of integers -/
def rt (n : Int) : Int := ((PySem.Float64.isqrt n.toNat : Nat) : Int)
theorem rt_nn (n : Int) : 0 ≤ rt n := Int.natCast_nonneg _
theorem rt_le {n : Int} (h : 0 ≤ n) : rt n * rt n ≤ n := by
  have := (PySem.Float64.isqrt_spec n.toNat).1
  have e : ((PySem.Float64.isqrt n.toNat * PySem.Float64.isqrt n.toNat : Nat) : Int) ≤ ((n.toNat : Nat) : Int) := Int.ofNat_le.mpr this
  rw [Int.natCast_mul] at e
  unfold rt
  omega
theorem rt_lt {n : Int} (h : 0 ≤ n) : n < (rt n + 1) * (rt n + 1) := by
  have := (PySem.Float64.isqrt_spec n.toNat).2
  have e : ((n.toNat : Nat) : Int) < (((PySem.Float64.isqrt n.toNat + 1) * (PySem.Float64.isqrt n.toNat + 1) : Nat) : Int) := Int.ofNat_lt.mpr this
  rw [Int.natCast_mul, Int.natCast_add] at e
  unfold rt
  have e2 : ((n.toNat : Nat) : Int) = n := by omega
  rw [e2] at e
  exact e
theorem rt_uniq {n r : Int} (h : 0 ≤ n) (r0 : 0 ≤ r) (r1 : r * r ≤ n) (r2 : n < (r + 1) * (r + 1)) : r = rt n := by
  have a := rt_le h
  have b := rt_lt h
  have c := rt_nn n
  have h1 : r < rt n + 1 := lt_of_sq (by omega) (by omega)
  have h2 : rt n < r + 1 := lt_of_sq (by omega) (by omega)
  omega
/-! ### the roots -/
def Root (d : Int) : Prop := d = 2 ∨ d = 3 ∨ d = 5 ∨ d = 6 ∨ d = 13
theorem Root.pos {d : Int} (h : Root d) : 0 < d := by unfold Root at h; omega
theorem Root.le {d : Int} (h : Root d) : d ≤ 13 := by unfold Root at h; omega
theorem ex_mul (i : Int) {p : Int} (h : i % p = 0) : ∃ t, i = p * t := ⟨i / p, by
  have := Int.mul_ediv_add_emod i p
  rw [h] at this
  omega⟩
theorem dvd2 {i c : Int} (h : i * i = 2 * c) : ∃ t, i = 2 * t := ex_mul i (by
  have e : (i * i) % 2 = 0 := by omega
  rw [Int.mul_emod] at e
  have : i % 2 = 0 ∨ i % 2 = 1 := by omega
  rcases this with z | z
  · exact z
  · rw [z] at e; simp at e)
theorem dvd3 {i c : Int} (h : i * i = 3 * c) : ∃ t, i = 3 * t := ex_mul i (by
  have e : (i * i) % 3 = 0 := by omega
  rw [Int.mul_emod] at e
  have : i % 3 = 0 ∨ i % 3 = 1 ∨ i % 3 = 2 := by omega
  rcases this with z | z | z
  · exact z
  · rw [z] at e; simp at e
  · rw [z] at e; simp at e)
theorem dvd5 {i c : Int} (h : i * i = 5 * c) : ∃ t, i = 5 * t := ex_mul i (by
  have e : (i * i) % 5 = 0 := by omega
  rw [Int.mul_emod] at e
  have : i % 5 = 0 ∨ i % 5 = 1 ∨ i % 5 = 2 ∨ i % 5 = 3 ∨ i % 5 = 4 := by omega
  rcases this with z | z | z | z | z
  · exact z
  all_goals (rw [z] at e; simp at e))
theorem dvd13 {i c : Int} (h : i * i = 13 * c) : ∃ t, i = 13 * t := ex_mul i (by
  have e : (i * i) % 13 = 0 := by omega
  rw [Int.mul_emod] at e
  have : i % 13 = 0 ∨ i % 13 = 1 ∨ i % 13 = 2 ∨ i % 13 = 3 ∨ i % 13 = 4 ∨ i % 13 = 5 ∨ i % 13 = 6 ∨ i % 13 = 7 ∨ i % 13 = 8 ∨ i % 13 = 9 ∨ i % 13 = 10 ∨ i % 13 = 11 ∨ i % 13 = 12 := by omega
  rcases this with z | z | z | z | z | z | z | z | z | z | z | z | z
  · exact z
  all_goals (rw [z] at e; simp at e))
/-- one step down -/
theorem down {d i j : Int} (hd : Root d) (h : i * i = d * (j * j)) : ∃ p i' j' : Int, 2 ≤ p ∧ j = p * j' ∧ i' * i' = d * (j' * j') := by
  rcases hd with rfl | rfl | rfl | rfl | rfl
  · obtain ⟨t, rfl⟩ := dvd2 h
    obtain ⟨u, rfl⟩ := dvd2 (i := j) (c := t * t) (by grind)
    exact ⟨2, t, u, by omega, rfl, by grind⟩
  · obtain ⟨t, rfl⟩ := dvd3 h
    obtain ⟨u, rfl⟩ := dvd3 (i := j) (c := t * t) (by grind)
    exact ⟨3, t, u, by omega, rfl, by grind⟩
  · obtain ⟨t, rfl⟩ := dvd5 h
    obtain ⟨u, rfl⟩ := dvd5 (i := j) (c := t * t) (by grind)
    exact ⟨5, t, u, by omega, rfl, by grind⟩
  · obtain ⟨t, rfl⟩ := dvd3 (i := i) (c := 2 * (j * j)) (by grind)
    obtain ⟨u, rfl⟩ := dvd3 (i := j) (c := 2 * (t * t) - (j * j)) (by grind)
    exact ⟨3, t, u, by omega, rfl, by grind⟩
  · obtain ⟨t, rfl⟩ := dvd13 h
    obtain ⟨u, rfl⟩ := dvd13 (i := j) (c := t * t) (by grind)
    exact ⟨13, t, u, by omega, rfl, by grind⟩
theorem nonsq {d : Int} (hd : Root d) : ∀ (n : Nat) (i j : Int), j.natAbs ≤ n → i * i = d * (j * j) → j = 0
  | 0, i, j, hn, _ => by omega
  | n + 1, i, j, hn, h => by
    obtain ⟨p, i', j', hp, e, h'⟩ := down hd h
    rcases Int.lt_trichotomy j' 0 with z | z | z
    · have : j'.natAbs ≤ n := by
        have h1 : p * j' ≤ 2 * j' := by
          have := Int.mul_le_mul_of_nonpos_right hp (by omega : j' ≤ 0)
          omega
        omega
      have := nonsq hd n i' j' this h'
      omega
    · rw [e, z]; simp
    · have : j'.natAbs ≤ n := by
        have h1 : 2 * j' ≤ p * j' := Int.mul_le_mul_of_nonneg_right hp (by omega)
        omega
      have := nonsq hd n i' j' this h'
      omega
theorem irr {d i j : Int} (hd : Root d) (h : i * i = d * (j * j)) : j = 0 := nonsq hd j.natAbs i j (Nat.le_refl _) h
end RF

namespace RF
/-- the size of an integer, as abs gives it -/
def ab (i : Int) : Int := if i < 0 then -i else i
theorem ab_nn (i : Int) : 0 ≤ ab i := by unfold ab; split <;> omega
theorem ab_pos {i : Int} (h : 0 ≤ i) : ab i = i := by unfold ab; rw [if_neg (by omega)]
theorem ab_neg {i : Int} (h : i ≤ 0) : ab i = -i := by
  unfold ab
  split <;> omega
/-- i|i| + d j|j|: it has the sign of i + j r -/
def sgb (d i j : Int) : Int := i * ab i + d * j * ab j
def sg (d i j : Int) : Int := if 0 < sgb d i j then 1 else if sgb d i j < 0 then -1 else 0
/-- the floor of f times the root -/
def flr (d f : Int) : Int := if f < 0 then -rt (d * f * f) - 1 else rt (d * f * f)
theorem dff (d f : Int) : d * f * f = d * (f * f) := Int.mul_assoc d f f
theorem dff_nn {d f : Int} (hd : Root d) : 0 ≤ d * f * f := by
  rw [dff]
  exact Int.mul_nonneg (Int.le_of_lt hd.pos) (sq_nonneg f)
theorem keyL {d x y : Int} (hd : Root d) : 0 ≤ sgb d x y ↔ 0 ≤ x + flr d y := by
  have r0 := rt_nn (d * y * y)
  have r1 := rt_le (dff_nn hd (f := y))
  have r2 := rt_lt (dff_nn hd (f := y))
  have dn := dff_nn hd (f := y)
  generalize hr : rt (d * y * y) = r at *
  rcases Int.lt_or_le y 0 with hy | hy
  · have ef : flr d y = -r - 1 := by unfold flr; rw [if_pos hy, hr]
    have eb : sgb d x y = x * ab x - d * y * y := by unfold sgb; rw [ab_neg (Int.le_of_lt hy)]; grind
    rw [ef, eb]
    have ne : r * r ≠ d * y * y := fun e => by
      have := irr hd (i := r) (j := y) (by rw [e, dff])
      omega
    have lt : r * r < d * y * y := by omega
    have dp : 0 < d * y * y := by
      have := sq_nonneg r
      omega
    rcases Int.lt_or_le x 0 with hx | hx
    · rw [ab_neg (Int.le_of_lt hx)]
      have := sq_nonneg x
      have e : x * -x = -(x * x) := by grind
      omega
    · rw [ab_pos hx]
      constructor
      · intro h
        have : r < x := lt_of_sq hx (by omega)
        omega
      · intro h
        have : (r + 1) * (r + 1) ≤ x * x := sq_le (by omega) (by omega)
        omega
  · have ef : flr d y = r := by unfold flr; rw [if_neg (by omega), hr]
    have eb : sgb d x y = x * ab x + d * y * y := by unfold sgb; rw [ab_pos hy]
    rw [ef, eb]
    rcases Int.lt_or_le x 0 with hx | hx
    · rw [ab_neg (Int.le_of_lt hx)]
      have e : x * -x = -((-x) * (-x)) := by grind
      constructor
      · intro h
        have : -x < r + 1 := lt_of_sq (by omega) (by omega)
        omega
      · intro h
        have : (-x) * (-x) ≤ r * r := sq_le (by omega) (by omega)
        omega
    · rw [ab_pos hx]
      have := sq_nonneg x
      omega
theorem ab_mul {g i : Int} (hg : 0 ≤ g) : ab (g * i) = g * ab i := by
  rcases Int.lt_or_le i 0 with h | h
  · have : g * i ≤ 0 := Int.mul_nonpos_of_nonneg_of_nonpos hg (by omega)
    rw [ab_neg this, ab_neg (by omega)]
    grind
  · rw [ab_pos (Int.mul_nonneg hg h), ab_pos h]
theorem sgb_mul {d g i j : Int} (hg : 0 ≤ g) : sgb d (g * i) (g * j) = g * g * sgb d i j := by
  unfold sgb
  rw [ab_mul hg, ab_mul hg]
  grind
theorem sgb_neg {d i j : Int} : sgb d (-i) (-j) = -sgb d i j := by
  have h : ∀ i, ab (-i) = ab i := fun i => by unfold ab; split <;> split <;> omega
  unfold sgb
  rw [h, h]
  grind
theorem sg_mul {d g i j : Int} (hg : 0 < g) : sg d (g * i) (g * j) = sg d i j := by
  have hp : 0 < g * g := Int.mul_pos hg hg
  have e := sgb_mul (d := d) (i := i) (j := j) (Int.le_of_lt hg)
  unfold sg
  rw [e]
  rcases Int.lt_trichotomy (sgb d i j) 0 with h | h | h
  · have : g * g * sgb d i j < 0 := Int.mul_neg_of_pos_of_neg hp h
    rw [if_neg (by omega), if_pos this, if_neg (by omega), if_pos h]
  · rw [h]; simp
  · have : 0 < g * g * sgb d i j := Int.mul_pos hp h
    rw [if_pos this, if_pos h]
theorem sg_neg {d i j : Int} : sg d (-i) (-j) = -sg d i j := by
  have e := sgb_neg (d := d) (i := i) (j := j)
  unfold sg
  rw [e]
  rcases Int.lt_trichotomy (sgb d i j) 0 with h | h | h
  · rw [if_pos (by omega), if_neg (by omega), if_pos h]; rfl
  · rw [h]; rfl
  · rw [if_neg (by omega), if_pos (by omega), if_pos h]
/-- the law's own sign -/
theorem sg_pp {d i j : Int} (hd : Root d) (hi : 0 ≤ i) (hj : 0 ≤ j) : sg d i j = if 0 < i ∨ 0 < j then 1 else 0 := by
  have hp := hd.pos
  have e : sgb d i j = i * i + d * (j * j) := by unfold sgb; rw [ab_pos hi, ab_pos hj]; grind
  have a := sq_nonneg i
  have b := sq_nonneg j
  have b' : 0 ≤ d * (j * j) := Int.mul_nonneg (by omega) b
  unfold sg
  rw [e]
  by_cases h : 0 < i ∨ 0 < j
  · rw [if_pos h, if_pos]
    rcases h with h | h
    · have : 0 < i * i := Int.mul_pos h h
      omega
    · have : 0 < d * (j * j) := Int.mul_pos hp (Int.mul_pos h h)
      omega
  · have hi0 : i = 0 := by omega
    have hj0 : j = 0 := by omega
    rw [if_neg h, hi0, hj0]
    simp
theorem sg_nn {d i j : Int} (hd : Root d) (hi : i ≤ 0) (hj : j ≤ 0) (h : ¬ (0 ≤ i ∧ 0 ≤ j)) : sg d i j = -1 := by
  have e : sg d i j = -sg d (-i) (-j) := by rw [sg_neg]; omega
  rw [e, sg_pp hd (by omega) (by omega), if_pos (by omega)]
theorem sg_pn {d i j : Int} (hd : Root d) (hi : 0 < i) (hj : j < 0) : sg d i j = if j * j * d < i * i then 1 else -1 := by
  have e : sgb d i j = i * i - j * j * d := by unfold sgb; rw [ab_pos (by omega), ab_neg (by omega)]; grind
  have ne : i * i ≠ j * j * d := fun q => by
    have := irr hd (i := i) (j := j) (by rw [q]; grind)
    omega
  unfold sg
  rw [e]
  split <;> split <;> first | rfl | omega | skip
theorem sg_np {d i j : Int} (hd : Root d) (hi : i < 0) (hj : 0 < j) : sg d i j = if i * i < j * j * d then 1 else -1 := by
  have e : sgb d i j = j * j * d - i * i := by unfold sgb; rw [ab_pos (i := j) (by omega), ab_neg (i := i) (by omega)]; grind
  have ne : i * i ≠ j * j * d := fun q => by
    have := irr hd (i := i) (j := j) (by rw [q]; grind)
    omega
  unfold sg
  rw [e]
  split <;> split <;> first | rfl | omega | skip
theorem sg_nonneg {d i j : Int} (hd : Root d) : 0 ≤ sg d i j ↔ 0 ≤ i + flr d j := by
  rw [← keyL hd]
  unfold sg
  split
  · omega
  · split <;> omega
theorem flr_ring {d f : Int} : rt (f * f * d) = rt (d * f * f) := by rw [show f * f * d = d * f * f by grind]
end RF

namespace RF
/-! ### lowest terms -/
def gc (i j k : Int) : Int := ((Nat.gcd (Nat.gcd i.natAbs j.natAbs) k.natAbs : Nat) : Int)
def gs (i j k : Int) : Int := if k < 0 then -gc i j k else gc i j k
theorem gc_i (i j k : Int) : gc i j k ∣ i := Int.natAbs_dvd_natAbs.mp (by
  unfold gc
  rw [Int.natAbs_natCast]
  exact Nat.dvd_trans (Nat.gcd_dvd_left _ _) (Nat.gcd_dvd_left _ _))
theorem gc_j (i j k : Int) : gc i j k ∣ j := Int.natAbs_dvd_natAbs.mp (by
  unfold gc
  rw [Int.natAbs_natCast]
  exact Nat.dvd_trans (Nat.gcd_dvd_left _ _) (Nat.gcd_dvd_right _ _))
theorem gc_k (i j k : Int) : gc i j k ∣ k := Int.natAbs_dvd_natAbs.mp (by
  unfold gc
  rw [Int.natAbs_natCast]
  exact Nat.gcd_dvd_right _ _)
theorem gc_pos {i j k : Int} (h : k ≠ 0) : 0 < gc i j k := by
  have : 0 < Nat.gcd (Nat.gcd i.natAbs j.natAbs) k.natAbs := Nat.gcd_pos_of_pos_right _ (by omega)
  unfold gc
  omega
theorem gc_le {i j k : Int} (h : k ≠ 0) : gc i j k ≤ ab k := by
  have : Nat.gcd (Nat.gcd i.natAbs j.natAbs) k.natAbs ≤ k.natAbs := Nat.gcd_le_right _ (by omega)
  unfold gc ab
  split <;> omega
theorem gs_ne {i j k : Int} (h : k ≠ 0) : gs i j k ≠ 0 := by
  have := gc_pos (i := i) (j := j) h
  unfold gs
  split <;> omega
theorem gs_natAbs {i j k : Int} (h : k ≠ 0) : (gs i j k).natAbs ≤ k.natAbs := by
  have := gc_pos (i := i) (j := j) h
  have := gc_le (i := i) (j := j) h
  unfold gs
  unfold ab at this
  split <;> split at this <;> omega
def pI (i j k : Int) : Int := i.fdiv (gs i j k)
def pJ (i j k : Int) : Int := j.fdiv (gs i j k)
def pK (i j k : Int) : Int := k.fdiv (gs i j k)
theorem gs_dvd {i j k x : Int} (h : gc i j k ∣ x) : gs i j k ∣ x := by
  unfold gs
  split
  · exact Int.neg_dvd.mpr h
  · exact h
theorem fdiv_of {g x : Int} (hg : g ≠ 0) (h : g ∣ x) : x = g * x.fdiv g := by
  obtain ⟨t, rfl⟩ := h
  rw [Int.mul_fdiv_cancel_left t hg]
theorem pI_eq {i j k : Int} (h : k ≠ 0) : i = gs i j k * pI i j k := fdiv_of (gs_ne h) (gs_dvd (gc_i i j k))
theorem pJ_eq {i j k : Int} (h : k ≠ 0) : j = gs i j k * pJ i j k := fdiv_of (gs_ne h) (gs_dvd (gc_j i j k))
theorem pK_eq {i j k : Int} (h : k ≠ 0) : k = gs i j k * pK i j k := fdiv_of (gs_ne h) (gs_dvd (gc_k i j k))
theorem pK_pos {i j k : Int} (h : k ≠ 0) : 0 < pK i j k := by
  have e := pK_eq (i := i) (j := j) h
  have g0 := gc_pos (i := i) (j := j) h
  generalize pK i j k = t at *
  unfold gs at e
  split at e
  · rcases Int.lt_or_le 0 t with z | z
    · exact z
    · have : 0 ≤ -gc i j k * t := Int.mul_nonneg_of_nonpos_of_nonpos (by omega) z
      omega
  · rcases Int.lt_or_le 0 t with z | z
    · exact z
    · have : gc i j k * t ≤ 0 := Int.mul_nonpos_of_nonneg_of_nonpos (by omega) z
      omega
theorem nat_le_mul {g t : Int} (hg : g ≠ 0) : t.natAbs ≤ (g * t).natAbs := by
  rw [Int.natAbs_mul]
  exact Nat.le_mul_of_pos_left _ (by omega)
theorem pI_le {i j k : Int} (h : k ≠ 0) : (pI i j k).natAbs ≤ i.natAbs := by
  have e := pI_eq (i := i) (j := j) h
  have := nat_le_mul (g := gs i j k) (t := pI i j k) (gs_ne h)
  rw [← e] at this
  exact this
theorem pJ_le {i j k : Int} (h : k ≠ 0) : (pJ i j k).natAbs ≤ j.natAbs := by
  have e := pJ_eq (i := i) (j := j) h
  have := nat_le_mul (g := gs i j k) (t := pJ i j k) (gs_ne h)
  rw [← e] at this
  exact this
theorem pK_le {i j k : Int} (h : k ≠ 0) : (pK i j k).natAbs ≤ k.natAbs := by
  have e := pK_eq (i := i) (j := j) h
  have := nat_le_mul (g := gs i j k) (t := pK i j k) (gs_ne h)
  rw [← e] at this
  exact this
theorem gc_one {i j k : Int} (h : k ≠ 0) : gc (pI i j k) (pJ i j k) (pK i j k) = 1 := by
  have e1 : i.natAbs = (gs i j k).natAbs * (pI i j k).natAbs := by rw [← Int.natAbs_mul, ← pI_eq h]
  have e2 : j.natAbs = (gs i j k).natAbs * (pJ i j k).natAbs := by rw [← Int.natAbs_mul, ← pJ_eq h]
  have e3 : k.natAbs = (gs i j k).natAbs * (pK i j k).natAbs := by rw [← Int.natAbs_mul, ← pK_eq h]
  have eg : (gs i j k).natAbs = Nat.gcd (Nat.gcd i.natAbs j.natAbs) k.natAbs := by
    unfold gs gc
    split <;> omega
  have key : Nat.gcd (Nat.gcd i.natAbs j.natAbs) k.natAbs = (gs i j k).natAbs * Nat.gcd (Nat.gcd (pI i j k).natAbs (pJ i j k).natAbs) (pK i j k).natAbs := by
    conv => lhs; rw [e1, e2, e3]
    rw [Nat.gcd_mul_left, Nat.gcd_mul_left]
  rw [← eg] at key
  have gp : 0 < (gs i j k).natAbs := by have := gs_ne (i := i) (j := j) h; omega
  have : Nat.gcd (Nat.gcd (pI i j k).natAbs (pJ i j k).natAbs) (pK i j k).natAbs = 1 := by
    have q : (gs i j k).natAbs * 1 = (gs i j k).natAbs * Nat.gcd (Nat.gcd (pI i j k).natAbs (pJ i j k).natAbs) (pK i j k).natAbs := by omega
    exact (Nat.eq_of_mul_eq_mul_left gp q).symm
  unfold gc
  rw [this]
  rfl
theorem dvd_low {a b c a' b' c' : Int} (hg : gc a b c = 1) (h1 : a * c' = a' * c) (h2 : b * c' = b' * c) : c ∣ c' := by
  apply Int.natAbs_dvd_natAbs.mp
  have d1 : c.natAbs ∣ a.natAbs * c'.natAbs := by rw [← Int.natAbs_mul, h1, Int.natAbs_mul]; exact Nat.dvd_mul_left _ _
  have d2 : c.natAbs ∣ b.natAbs * c'.natAbs := by rw [← Int.natAbs_mul, h2, Int.natAbs_mul]; exact Nat.dvd_mul_left _ _
  have d3 : c.natAbs ∣ c.natAbs * c'.natAbs := Nat.dvd_mul_right _ _
  have d : c.natAbs ∣ Nat.gcd (Nat.gcd (a.natAbs * c'.natAbs) (b.natAbs * c'.natAbs)) (c.natAbs * c'.natAbs) := Nat.dvd_gcd (Nat.dvd_gcd d1 d2) d3
  rw [Nat.gcd_mul_right, Nat.gcd_mul_right] at d
  have : Nat.gcd (Nat.gcd a.natAbs b.natAbs) c.natAbs = 1 := by unfold gc at hg; omega
  rw [this, Nat.one_mul] at d
  exact d
theorem low_uniq {a b c a' b' c' : Int} (hc : 0 < c) (hc' : 0 < c') (hg : gc a b c = 1) (hg' : gc a' b' c' = 1) (h1 : a * c' = a' * c) (h2 : b * c' = b' * c) : a = a' ∧ b = b' ∧ c = c' := by
  have e : c = c' := Int.dvd_antisymm (by omega) (by omega) (dvd_low hg h1 h2) (dvd_low hg' h1.symm h2.symm)
  subst e
  exact ⟨Int.eq_of_mul_eq_mul_right (by omega) h1, Int.eq_of_mul_eq_mul_right (by omega) h2, rfl⟩
/-- equal numbers have equal parts -/
theorem parts_eq {i j k i' j' k' : Int} (h : k ≠ 0) (h' : k' ≠ 0) (h1 : i * k' = i' * k) (h2 : j * k' = j' * k) : pI i j k = pI i' j' k' ∧ pJ i j k = pJ i' j' k' ∧ pK i j k = pK i' j' k' := by
  have g := gs_ne (i := i) (j := j) h
  have g' := gs_ne (i := i') (j := j') h'
  have a1 := pI_eq (i := i) (j := j) h
  have a2 := pJ_eq (i := i) (j := j) h
  have a3 := pK_eq (i := i) (j := j) h
  have b1 := pI_eq (i := i') (j := j') h'
  have b2 := pJ_eq (i := i') (j := j') h'
  have b3 := pK_eq (i := i') (j := j') h'
  refine low_uniq (pK_pos h) (pK_pos h') (gc_one h) (gc_one h') ?_ ?_
  · have : gs i j k * gs i' j' k' ≠ 0 := Int.mul_ne_zero g g'
    apply Int.eq_of_mul_eq_mul_left this
    generalize gs i j k = s at *
    generalize gs i' j' k' = s' at *
    generalize pI i j k = x at *
    generalize pI i' j' k' = x' at *
    generalize pK i j k = z at *
    generalize pK i' j' k' = z' at *
    rw [a1, b1, a3, b3] at h1
    grind
  · have : gs i j k * gs i' j' k' ≠ 0 := Int.mul_ne_zero g g'
    apply Int.eq_of_mul_eq_mul_left this
    generalize gs i j k = s at *
    generalize gs i' j' k' = s' at *
    generalize pJ i j k = x at *
    generalize pJ i' j' k' = x' at *
    generalize pK i j k = z at *
    generalize pK i' j' k' = z' at *
    rw [a2, b2, a3, b3] at h2
    grind
/-- the sign of a number does not hang on how it is told -/
theorem sg_parts {d i j k : Int} (h : 0 < k) : sg d (pI i j k) (pJ i j k) = sg d i j := by
  have g := gs_ne (i := i) (j := j) (k := k) (by omega)
  have gp : 0 < gs i j k := by
    have := gc_pos (i := i) (j := j) (k := k) (by omega)
    unfold gs
    rw [if_neg (by omega)]
    exact this
  have e := sg_mul (d := d) (i := pI i j k) (j := pJ i j k) gp
  rw [← pI_eq (by omega), ← pJ_eq (by omega)] at e
  exact e.symm
end RF

namespace RF
open PySem L2
/-! ### built-in functions of math -/
theorem args_gcd3 (a b c : Value) : argsOk "math.gcd" ⟨[a, b, c], []⟩ := by
  unfold argsOk
  kernel_rfl
theorem run_gcd3 (a : Int) (t : Tok) (b : Int) (u : Tok) (c : Int) (v : Tok) :
    Gives (Builtin.«math.gcd» ⟨[.int a t, .int b u, .int c v], []⟩) (.int (((((Nat.gcd 0 a.natAbs).gcd b.natAbs).gcd c.natAbs : Nat) : Int))) :=
  .of_wp fun M A E s Q h => by
    obtain ⟨hp, g, d, tk, os⟩ := s
    wp_walk
    exact ⟨_, rfl, h⟩

section
variable {X : Cx}
theorem vals3 {x y z : V} {us : List Value} (r : Vals [x, y, z] us) : ∃ u v w, us = [u, v, w] ∧ RelV x u ∧ RelV y v ∧ RelV z w := by
  cases r with
  | cons a r => cases r with
    | cons b r => cases r with
      | cons c r => cases r; exact ⟨_, _, _, rfl, a, b, c⟩
def rGcd3 : List V → Hp → VK → Prop := fun vs H Q => ∃ a b c : Int, vs = [.int a, .int b, .int c] ∧ Q (.int ((Nat.gcd (Nat.gcd a.natAbs b.natAbs) c.natAbs : Nat) : Int)) H
theorem cr_gcd3 : CallR X (.builtin "math.gcd") rGcd3 := by
  intro pins s σ H vs us Q I r h
  obtain ⟨a, b, c, rfl, q⟩ := h
  obtain ⟨u1, u2, u3, rfl, ⟨t1, rfl⟩, ⟨t2, rfl⟩, ⟨t3, rfl⟩⟩ := vals3 r
  have g := run_gcd3 a t1 b t2 c t3
  rw [Nat.gcd_zero_left] at g
  exact call_function_meets PySem.W.MGF.kind_gcd PySem.W.MGF.plain_gcd PySem.W.MGF.entry_gcd (args_gcd3 _ _ _) g.meets (show EP X pins σ Q _ _ from ⟨.int _, H, I.tok _, ⟨_, rfl⟩, q⟩)
def rIsqrt : List V → Hp → VK → Prop := fun vs H Q => ∃ a : Int, vs = [.int a] ∧ 0 ≤ a ∧ a.toNat.log2 < 13000 ∧ Q (.int ((Float64.isqrt a.toNat : Nat) : Int)) H
theorem cr_isqrt : CallR X (.builtin "math.isqrt") rIsqrt := by
  intro pins s σ H vs us Q I r h
  obtain ⟨a, rfl, h0, h1, q⟩ := h
  obtain ⟨u, rfl, t, rfl⟩ := vals1 r
  exact call_function_meets PySem.W.MGF.kind_isqrt PySem.W.MGF.plain_isqrt PySem.W.MGF.entry_isqrt (PySem.W.MGF.args_isqrt _) (PySem.W.mg_run_isqrt a t (by omega) (by omega) (by omega)).meets
    (show EP X pins σ Q _ _ from ⟨.int _, H, I.tok _, ⟨_, rfl⟩, q⟩)

/-! ### operators of an own class -/
/-- C has the operator as the def at f -/
structure OwnOp (K : PySem.W.Frag) (C f : Addr) (m : Str) : Prop where
  first : PySem.W.selfFirst K C = true
  at_ : PySem.W.findIn K (.ref C) m = some (some (.ref f))
  fn : PySem.W.isFn K (.ref f) = true
def rOwn2 (C : Addr) (sp : Sp) (E : XK) : R2 := fun x y H Q => ∃ a b dx dy fs gs, x = .ref a ∧ y = .ref b ∧ H a = some (.ins C dx fs) ∧ H b = some (.ins C dy gs) ∧ sp [.ref a, .ref b] H Q E
theorem notImpl {v : V} {u : Value} {P : Value → Shared → Prop} {s : Shared} (r : RelV v u) (h : P u s) : PySem.W.CmpBack P u s := by
  cases v with
  | non => cases r; exact h
  | bl _ => cases r; exact h
  | int _ => obtain ⟨t, rfl⟩ := r; exact h
  | str _ => obtain ⟨t, rfl⟩ := r; exact h
  | byt _ => obtain ⟨t, rfl⟩ := r; exact h
  | flt _ => obtain ⟨t, rfl⟩ := r; exact h
  | ref _ => cases r; exact h
  | ty _ => cases r; exact h
theorem op_own {CX : CXT} {op : Operator} {n : Nat} {C f : Addr} {sp : Sp} {E : XK} (F : FnR X.prog X.w X.K X.mg X.base CX n f sp) (hr : Room n X.A) (O : OwnOp X.K C f (PySem.dunder op.info.2)) (hx : Passes CX X E) : OpR X (binaryOp op) (rOwn2 C sp E) := by
  intro pins s σ H x y v u Q I rx ry h
  obtain ⟨a, b, dx, dy, fs, gs, rfl, rfl, ha, hb, q⟩ := h
  cases rx
  cases ry
  obtain ⟨mA, J, _⟩ := ins_get I.hok ha
  obtain ⟨mB, J', _⟩ := ins_get I.hok hb
  obtain ⟨od, J, _⟩ := J.look
  obtain ⟨od', J', _⟩ := J'.look
  obtain ⟨m, hF⟩ := I.fr
  refine PySem.W.binop_K hF I.ok.mod.kin J J'.type O.first O.at_ O.fn (wpAny_mono (wpAny_call (run_fnR (us := [.ref a, .ref b]) (vs := [.ref a, .ref b]) F hr hx I (.cons rfl (.cons rfl .nil)) q)) (fun r s' z => ?_) fun _ _ z => z)
  obtain ⟨v, H', I', rv, q'⟩ := id z
  exact notImpl rv z
def rOwn1 (C : Addr) (sp : Sp) (E : XK) : V → Hp → VK → Prop := fun x H Q => ∃ a dx fs, x = .ref a ∧ H a = some (.ins C dx fs) ∧ sp [.ref a] H Q E
theorem un_own_neg {CX : CXT} {n : Nat} {C f : Addr} {sp : Sp} {E : XK} (F : FnR X.prog X.w X.K X.mg X.base CX n f sp) (hr : Room n X.A) (O : OwnOp X.K C f "__neg__") (hx : Passes CX X E) : UnR X (unaryOp .USub) (rOwn1 C sp E) := by
  intro pins s σ H x v Q I rx h
  obtain ⟨a, dx, fs, rfl, ha, q⟩ := h
  cases rx
  obtain ⟨mA, J, _⟩ := ins_get I.hok ha
  obtain ⟨od, J, _⟩ := J.look
  obtain ⟨m, hF⟩ := I.fr
  exact PySem.W.ksp_neg hF I.ok.mod.kin J O.at_ O.fn (wpAny_call (run_fnR (us := [.ref a]) (vs := [.ref a]) F hr hx I (.cons rfl .nil) q))
/-- bool(x) of an instance with its own truth -/
def rOwnB (C : Addr) (sp : Sp) (E : XK) : List V → Hp → VK → Prop := fun vs H Q => ∃ a dx fs, vs = [.ref a] ∧ H a = some (.ins C dx fs) ∧ sp [.ref a] H (fun v H' => ∃ b, v = .bl b ∧ Q (.bl b) H') E
theorem tru_of {M : Model} {A : Around} {x : Value} {s : Shared} {Q0 Q : Bool → Shared → Prop} {E : Value → Shared → Prop} (hs : wpAny M A (truthy x) Q0 E s) (h : ∀ b s', Q0 b s' → Q b s') : wpAny M A (truthy x) Q E s := wpAny_mono hs h fun _ _ z => z
theorem new_bool_own (prog : Program) (w : World) (a : Addr) : MeetsIn prog w (Builtin.«bool.__new__» ⟨[.type "bool", .ref a], []⟩)
    (fun A R s => wpAny (model prog w) A.in1 (truthy (.ref a)) (fun b s' => R (.ok (.ret (.bool b))) s') (fun e s' => R (.error e) s') s) :=
  .of_wp fun A R s hs => by
    have f1 := F.conv_sub_bool
    obtain ⟨hp, g, d, tk, os⟩ := s
    repeat (any_goals (first | assumption | (with_reducible refine tru_of hs (fun b s' hq => ?_)) | wp_step))
    all_goals exact ⟨_, rfl, hq⟩
theorem call_bool_own {CX : CXT} {n : Nat} {C f : Addr} {sp : Sp} {E : XK} (G : FnR X.prog X.w X.K X.mg X.base CX n f sp) (hr : Room (n + 2) X.A) (hat : PySem.W.findIn X.K (.ref C) "__bool__" = some (some (.ref f))) (hfn : PySem.W.isFn X.K (.ref f) = true)
    (hx : Passes CX X E) : CallR X (.type "bool") (rOwnB C sp E) := by
  intro pins s σ H xs us Q I r h
  obtain ⟨a, dx, fs, rfl, ha, q⟩ := h
  obtain ⟨u, rfl, r1⟩ := vals1 r
  cases r1
  obtain ⟨mA, J, _⟩ := ins_get I.hok ha
  obtain ⟨od, J, _⟩ := J.look
  obtain ⟨m, hF⟩ := I.fr
  refine PySem.callType_newIn PySem.F.called_bool PySem.F.newNe_bool (PySem.F.typeCall_bool_1 _) (PySem.F.newCall_bool_1 _) (fun obj => PySem.F.args_object_init_2 obj _) PySem.F.entry_bool_new (new_bool_own X.prog X.w a) ?_
  refine PySem.W.truthy_K hF I.ok.mod.kin J hat hfn ?_
  refine wpAny_call (codeAny_mono (G _ X.stack s H [.ref a] [.ref a] _ E hr.in1.in1 I.env0.in1.in1 (.cons rfl .nil) q) fun r s' hq => ?_)
  cases r with
  | error e => exact hx pins σ H s e s' I hq
  | ok fl =>
    cases fl with
    | ret u =>
      obtain ⟨v, H', I', rv, b, rfl, q'⟩ := I.after hq
      cases rv
      exact ⟨rfl, .bl b, H', I', rfl, q'⟩
    | next => exact False.elim hq
    | brk => exact False.elim hq
    | cont => exact False.elim hq
/-- C.m is a staticmethod: its record at p, its def at g -/
structure SMet (K : PySem.W.Frag) (C : Addr) (mc : Value) (m : Str) (p g : Addr) : Prop where
  at_ : PySem.W.findCls K (.ref C) mc m = some (.get (.builtin "staticmethod.__get__") (.ref p) .none (.ref C))
  rc : ∃ rest, PySem.W.recIn K p "staticmethod" = some (.ref g :: rest)
  kp : PySem.W.keepIn K (.ref g) = true
def tSMeth (C : Addr) (sp : Sp) (E : XK) (ta : TE) (t : TA) : TE := fun σ H Q => ta σ H fun x H1 => x = .ref C ∧ t σ H1 fun vs H2 => sp vs H2 Q E
theorem pe_smeth {CX : CXT} {k : Nat} {C p g : Addr} {mc : Value} {sp : Sp} {E : XK} {o e : Expr} {es : List Expr} {m : Str} {pos apos : Pos} {ta : TE} {t : TA} {pl : Sem Bool} (he : PE X o ta) (r : ClX.CRead X.K C mc) (c : SMet X.K C mc m p g)
    (F : FnR X.prog X.w X.K X.mg X.base CX k g sp) (hr : Room k X.A) (hx : Passes CX X E) (ha : PA X (e :: es) t)
    (hst : starEach (e :: es) X.env = (false, eval e X.env) :: starEach es X.env := by rfl) (hpl : (backTo pos (starEach es X.env)).any (·.1) = false := by rfl)
    (ht : eval (.Call (.Attribute o m apos) (e :: es) [] pos) X.env = (do
      let ov ← eval o X.env
      standAt apos.atName
      let (f, first) ← holding [ov] (getMethod ov m pl)
      callWith pos f first (backTo pos (starEach (e :: es) X.env)) (backToKw pos (keywordEach [] X.env))) := by rfl) :
    PE X (.Call (.Attribute o m apos) (e :: es) [] pos) (tSMeth C sp E ta t) := by
  refine ⟨fun pins s σ H Q I h => ?_⟩
  refine PySem.W.methodCall_KW (pl := pl) (thn (he.run pins s σ H _ I h) fun u s1 ⟨x, H1, I1, rx, ex, q⟩ => ?_) ht
  subst ex
  obtain rfl : u = Value.ref C := rx
  obtain ⟨rest, hp⟩ := c.rc
  refine PySem.W.method_cls I1.kIn r.ga (PySem.W.cls_bind I1.kIn r.rd c.at_ (wpAny_call (PySem.W.sm_get (s := { s1 with toks := s1.toks + 1 }) I1.kIn hp (PySem.W.handed_on rfl ?_))))
  have I2 := I1.tok (s1.toks + 1)
  refine PySem.W.callWith_K (h₀ := X.base) I.ok.mod.kin c.kp (thn (ha.run pos pins _ σ H1 _ I2 q) fun us s3 ⟨vs, H2, I3, rv, q2⟩ => ⟨I3.kIn, ?_⟩) hst hpl
  exact wpAny_call (run_fnR F hr hx I3 rv q2)
end
end RF

namespace RF
open PySem L2 PyProof.Rows
/-! ### what a surd looks like -/
theorem kRP : ¬ (("_root" : Str) = "_parts") := by decide +kernel
def sfl (d : Int) (t : Addr) : List (Str × V) := putF "_parts" (.ref t) (putF "_root" (.int d) [])
theorem sfl_root (d : Int) (t : Addr) : (sfl d t).lookup ("_root" : Str) = some (.int d) := by
  unfold sfl
  rw [lookup_putF, if_neg kRP, lookup_putF, if_pos rfl]
theorem sfl_parts (d : Int) (t : Addr) : (sfl d t).lookup ("_parts" : Str) = some (.ref t) := by
  unfold sfl
  rw [lookup_putF, if_pos rfl]
theorem sfl_no (d : Int) (t : Addr) {m : Str} (h1 : ¬ m = "_parts") (h2 : ¬ m = "_root") : (sfl d t).lookup m = none := by
  unfold sfl
  rw [lookup_putF, if_neg h1, lookup_putF, if_neg h2]
  all_goals rfl
/-- at p: the surd of the root d with the parts i, j, k -/
def SurdAt (H : Hp) (C p : Addr) (d i j k : Int) : Prop := ∃ dx t, H p = some (.ins C dx (sfl d t)) ∧ H t = some (.tup [.int i, .int j, .int k])
theorem SurdAt.same {H H' : Hp} {C p : Addr} {d i j k : Int} (s : Same H H') (h : SurdAt H C p d i j k) : SurdAt H' C p d i j k := by
  obtain ⟨dx, t, h1, h2⟩ := h
  exact ⟨dx, t, s _ _ h1, s _ _ h2⟩
/-- below two to the n -/
def Bd (n : Nat) (i : Int) : Prop := i.natAbs < 2 ^ n
theorem Bd.mono {n m : Nat} {i : Int} (h : Bd n i) (hn : n ≤ m) : Bd m i := Nat.lt_of_lt_of_le h (Nat.pow_le_pow_right (by decide) hn)
theorem Bd.mul {n m : Nat} {i j : Int} (a : Bd n i) (b : Bd m j) : Bd (n + m) (i * j) := wide_lt a b
theorem Bd.add {n : Nat} {i j : Int} (a : Bd n i) (b : Bd n j) : Bd (n + 1) (i + j) := by
  unfold Bd at *
  rw [Nat.pow_succ]
  omega
theorem Bd.neg {n : Nat} {i : Int} (a : Bd n i) : Bd n (-i) := by
  unfold Bd at *
  omega
theorem Bd.le {n : Nat} {i j : Int} (a : Bd n i) (h : j.natAbs ≤ i.natAbs) : Bd n j := Nat.lt_of_le_of_lt h a
theorem Bd.ab {n : Nat} {i : Int} (a : Bd n i) : Bd n (if i < 0 then -i else i) := by
  unfold Bd at *
  split <;> omega
theorem Bd.log {n : Nat} {i : Int} (a : Bd n i) (h : 0 < n) : i.natAbs.log2 < n := PySem.Flt.log2_lt_of h a
theorem mulOk {n m : Nat} {i j : Int} (a : Bd n i) (b : Bd m j) (h0 : 0 < n) (h1 : 0 < m) (h : n + m ≤ 1000000) : CMulW i j := wide_mul a b h0 h1 h
theorem rootBd {d : Int} (h : Root d) : Bd 4 d := by
  unfold Bd
  unfold Root at h
  omega
/-- // by any great divisor but 0 -/
def CDivNW (_ j : Int) : Prop := j ≠ 0 ∧ j.natAbs.log2 < 9000
theorem op_fdivNW {X : Cx} : OpR X (binaryOp .FloorDiv) (rI CDivNW fun i j => .int (i.fdiv j)) := opI fun _ _ _ _ _ _ _ hc q => floordiv_int hc.1 q (.inl (PyProof.noPylong_of_log2 hc.2))

/-! ### a written dict with int keys -/
def okE : List DictEntry → List Int → Bool
  | [], [] => true
  | e :: es, k :: ks => (match e.key with | .int i _ => i == k | _ => false) && e.hash == hashInt k && okE es ks
  | _, _ => false
structure IntKeys (K : PySem.W.Frag) (d : Addr) (ks : List Int) : Prop where
  low : (d == sysModules) = false
  ex : ∃ es n, K.lookup d = some ⟨.type "dict", none, .dict es n, #[]⟩ ∧ okE es.toList ks = true
theorem okE_mem : ∀ {es : List DictEntry} {ks : List Int}, okE es ks = true → ∀ e ∈ es, ∃ k t, k ∈ ks ∧ e.key = .int k t ∧ e.hash = hashInt k
  | [], _, _, e, he => by cases he
  | c :: es, [], h, e, he => by simp [okE] at h
  | c :: es, k :: ks, h, e, he => by
    unfold okE at h
    simp only [Bool.and_eq_true, beq_iff_eq] at h
    obtain ⟨⟨h1, h2⟩, h3⟩ := h
    rcases List.mem_cons.mp he with rfl | he
    · split at h1
      · rename_i i t q
        exact ⟨k, t, List.mem_cons_self, by rw [q, beq_iff_eq.mp h1], h2⟩
      · cases h1
    · obtain ⟨k', t, a, b, c⟩ := okE_mem h3 e he
      exact ⟨k', t, List.mem_cons_of_mem _ a, b, c⟩
theorem okE_find : ∀ {es : List DictEntry} {ks : List Int} (i : Int), okE es ks = true → (es.find? fun e => Value.isInt i e.key).isSome = decide (i ∈ ks)
  | [], [], i, _ => by simp
  | [], k :: ks, i, h => by simp [okE] at h
  | c :: es, [], i, h => by simp [okE] at h
  | c :: es, k :: ks, i, h => by
    unfold okE at h
    simp only [Bool.and_eq_true, beq_iff_eq] at h
    obtain ⟨⟨h1, h2⟩, h3⟩ := h
    have ih := okE_find i h3
    split at h1
    · rename_i j t q
      have e : j = k := beq_iff_eq.mp h1
      rw [List.find?_cons]
      by_cases z : i = k
      · have : Value.isInt i c.key = true := by rw [q, e, z]; simp [Value.isInt]
        rw [this]
        simp [z]
      · have : Value.isInt i c.key = false := by
          rw [q, e]
          simp only [Value.isInt]
          exact beq_eq_false_iff_ne.mpr (fun w => z w.symm) |> fun h => by first | exact h | (rw [beq_eq_false_iff_ne]; exact z) | simpa using z
        rw [this]
        simp [ih, z]
    · cases h1
theorem op_in_intd {X : Cx} : OpR X (compareOp .In) (fun x y H Q => ∃ i d ks, x = .int i ∧ y = .ref d ∧ IntKeys X.K d ks ∧ Q (.bl (decide (i ∈ ks))) H) := by
  intro pins s σ H x y v u Q I rx ry h
  obtain ⟨i, d, ks, rfl, rfl, ⟨low, es, n, hl, he⟩, q⟩ := h
  obtain ⟨t, rfl⟩ := rx
  cases ry
  have hm : s.heap.MapOf (intKind X.prog X.w) d (fun k => findBy Value.isInt es k) := ⟨_, es, n, I.kIn _ _ hl, ⟨rfl, rfl, rfl⟩, rfl, fun e hh => by
    obtain ⟨k, t, _, e1, e2⟩ := okE_mem he e (Array.mem_toList_iff.mpr hh)
    exact ⟨k, by rw [e1]; show Value.isInt k (.int k t) = true; simp [Value.isInt], e2⟩, fun _ => rfl⟩
  refine wpAny_in_of (knd := intKind X.prog X.w) (k := i) (by show Value.isInt i (.int i t) = true; simp [Value.isInt]) low hm ?_
  have e : (findBy Value.isInt es i).isSome = decide (i ∈ ks) := by
    unfold findBy
    rw [Option.isSome_map, ← okE_find i he, ← List.find?_toArray]
  rw [e]
  exact ⟨.bl _, H, I.tok _, rfl, q⟩
end RF

namespace RF
open PySem L2
def isS (x : Str) : D → Bool
  | .str y => decide (y = x)
  | _ => false
/-! ### data that has no part at some addresses -/
def hid (S : List Addr) (H : Hp) : Hp := fun a => if a ∈ S then none else H a
theorem hid_ne {S : List Addr} {a : Addr} {H : Hp} (h : a ∉ S) : hid S H a = H a := if_neg h
theorem hid_same {S : List Addr} {H : Hp} : Same (hid S H) H := fun a o e => by
  unfold hid at e
  split at e
  · cases e
  · exact e
theorem hid_le {S S' : List Addr} {H : Hp} (h : ∀ s ∈ S', s ∈ S) : Same (hid S H) (hid S' H) := fun a o e => by
  unfold hid at *
  split at e
  · cases e
  · rename_i n
    rw [if_neg (fun m => n (h a m))]
    exact e
theorem hid_mono {S : List Addr} {H H' : Hp} (s : Same H H') : Same (hid S H) (hid S H') := fun a o e => by
  unfold hid at *
  split at e
  · cases e
  · rename_i h
    rw [if_neg h]
    exact s a o e
theorem hid_kp {S : List Addr} {b : Addr} {H H' : Hp} (hb : b ∈ S) (k : Kp b H H') : Same (hid S H) (hid S H') := fun a o e => by
  unfold hid at *
  split at e
  · cases e
  · rename_i h
    rw [if_neg h]
    exact k a o (fun z => h (z ▸ hb)) e
theorem hid_upd {S : List Addr} {p : Addr} {H : Hp} {o : HO} (hp : p ∈ S) : hid S (upd H p o) = hid S H := by
  funext a
  unfold hid
  split
  · rfl
  · rename_i h
    exact upd_ne fun z => h (z ▸ hp)
def R (K : PySem.W.Frag) (S : List Addr) (H : Hp) (v : V) (d : D) : Prop := Rp K (hid S H) v d
def Rs (K : PySem.W.Frag) (S : List Addr) (H : Hp) (xs : List V) (ds : List D) : Prop := Rps K (hid S H) xs ds
/-- all of S is there -/
def Alloc (S : List Addr) (H : Hp) : Prop := ∀ s ∈ S, H s ≠ none
theorem Alloc.off {S : List Addr} {H : Hp} {p : Addr} (h : Alloc S H) (e : H p = none) : p ∉ S := fun m => h p m e
theorem Alloc.same {S : List Addr} {H H' : Hp} (h : Alloc S H) (s : Same H H') : Alloc S H' := fun a m z => by
  cases e : H a with
  | none => exact h a m e
  | some o => rw [s a o e] at z; cases z
theorem Alloc.kp {S : List Addr} {b : Addr} {H H' : Hp} (h : Alloc S H) (k : Kp b H H') (hb : H' b ≠ none) : Alloc S H' := fun a m z => by
  by_cases hab : a = b
  · subst hab; exact hb z
  · cases e : H a with
    | none => exact h a m e
    | some o => rw [k a o hab e] at z; cases z
theorem Alloc.cons {S : List Addr} {H : Hp} {p : Addr} (h : Alloc S H) (e : H p ≠ none) : Alloc (p :: S) H := fun a m => by
  rcases List.mem_cons.mp m with rfl | m
  · exact e
  · exact h a m
section
variable {K : PySem.W.Frag} {S S' : List Addr} {b : Addr} {H H' : Hp} {v : V} {d : D} {xs : List V} {ds : List D}
theorem R.rp (h : R K S H v d) : Rp K H v d := Rp.same hid_same d h
theorem R.same (h : R K S H v d) (s : Same H H') : R K S H' v d := Rp.same (hid_mono s) d h
theorem R.kp (h : R K S H v d) (hb : b ∈ S) (k : Kp b H H') : R K S H' v d := Rp.same (hid_kp hb k) d h
theorem R.le (h : R K S H v d) (l : ∀ s ∈ S', s ∈ S) : R K S' H v d := Rp.same (hid_le l) d h
theorem R.upd {p : Addr} {o : HO} (h : R K S H v d) (hp : p ∈ S) : R K S (L2.upd H p o) v d := by unfold R; rw [hid_upd hp]; exact h
theorem Rs.rps (h : Rs K S H xs ds) : Rps K H xs ds := Rps.same hid_same ds h
theorem Rs.same (h : Rs K S H xs ds) (s : Same H H') : Rs K S H' xs ds := Rps.same (hid_mono s) ds h
theorem Rs.kp (h : Rs K S H xs ds) (hb : b ∈ S) (k : Kp b H H') : Rs K S H' xs ds := Rps.same (hid_kp hb k) ds h
theorem Rs.le (h : Rs K S H xs ds) (l : ∀ s ∈ S', s ∈ S) : Rs K S' H xs ds := Rps.same (hid_le l) ds h
theorem Rs.upd {p : Addr} {o : HO} (h : Rs K S H xs ds) (hp : p ∈ S) : Rs K S (L2.upd H p o) xs ds := by unfold Rs; rw [hid_upd hp]; exact h
theorem R.tup {p : Addr} (n : p ∉ S) (e : H p = some (.tup xs)) (l : xs.length ≤ 100000) (h : Rs K S H xs ds) : R K S H (.ref p) (.tup ds) :=
  ⟨p, xs, rfl, SqT.of (by rw [hid_ne n]; exact e), l, h⟩
theorem R.lst {p : Addr} (n : p ∉ S) (e : H p = some (.lst xs)) (l : xs.length ≤ 100000) (h : Rs K S H xs ds) : R K S H (.ref p) (.lst ds) :=
  ⟨p, xs, rfl, SqL.of (by rw [hid_ne n]; exact e), l, h⟩
theorem Rs.nil : Rs K S H [] [] := rfl
theorem Rs.cons {x : V} {e : D} (h1 : R K S H x e) (h2 : Rs K S H xs ds) : Rs K S H (x :: xs) (e :: ds) := ⟨x, xs, rfl, h1, h2⟩
/-- a new tuple of what is there -/
theorem R.newT {p : Addr} (a : Alloc S H) (e : H p = none) (l : xs.length ≤ 100000) (h : Rs K S H xs ds) : R K S (L2.upd H p (.tup xs)) (.ref p) (.tup ds) :=
  R.tup (a.off e) upd_same l (h.same (sNew (Same.refl _) e))
theorem R.newL {p : Addr} (a : Alloc S H) (e : H p = none) (l : xs.length ≤ 100000) (h : Rs K S H xs ds) : R K S (L2.upd H p (.lst xs)) (.ref p) (.lst ds) :=
  R.lst (a.off e) upd_same l (h.same (sNew (Same.refl _) e))
theorem R.int (i : Int) : R K S H (.int i) (.int i) := rfl
theorem R.str (x : Str) : R K S H (.str x) (.str x) := rfl
theorem R.bl (x : Bool) : R K S H (.bl x) (.bl x) := rfl
theorem R.non : R K S H .non .non := rfl
end
theorem Rps.app {K : PySem.W.Frag} {H : Hp} : ∀ {xs ys : List V} {ds es : List D}, Rps K H xs ds → Rps K H ys es → Rps K H (xs ++ ys) (ds ++ es)
  | xs, ys, [], es, h, g => by rw [show xs = [] from h]; exact g
  | xs, ys, d :: ds, es, h, g => by
    obtain ⟨x, r, rfl, h2, h3⟩ := h
    exact ⟨x, r ++ ys, rfl, h2, Rps.app h3 g⟩
theorem Rs.app {K : PySem.W.Frag} {S : List Addr} {H : Hp} {xs ys : List V} {ds es : List D} (h : Rs K S H xs ds) (g : Rs K S H ys es) : Rs K S H (xs ++ ys) (ds ++ es) := Rps.app h g
theorem Rps.take {K : PySem.W.Frag} {H : Hp} : ∀ {xs : List V} {ds : List D} (n : Nat), Rps K H xs ds → Rps K H (xs.take n) (ds.take n)
  | xs, ds, 0, h => by rw [List.take_zero, List.take_zero]; rfl
  | xs, [], n + 1, h => by rw [show xs = [] from h]; rfl
  | xs, d :: ds, n + 1, h => by
    obtain ⟨x, r, rfl, h2, h3⟩ := h
    exact ⟨x, r.take n, rfl, h2, Rps.take n h3⟩
theorem Rps.drop {K : PySem.W.Frag} {H : Hp} : ∀ {xs : List V} {ds : List D} (n : Nat), Rps K H xs ds → Rps K H (xs.drop n) (ds.drop n)
  | xs, ds, 0, h => h
  | xs, [], n + 1, h => by rw [show xs = [] from h]; rfl
  | xs, d :: ds, n + 1, h => by
    obtain ⟨x, r, rfl, h2, h3⟩ := h
    exact Rps.drop n h3
theorem Rps.of {K : PySem.W.Frag} {H : Hp} : ∀ {xs : List V} {ds : List D} {i : Nat} {d : D}, Rps K H xs ds → ds[i]? = some d → ∃ x, xs[i]? = some x ∧ Rp K H x d
  | xs, [], i, d, h, e => by simp at e
  | xs, c :: ds, 0, d, h, e => by
    obtain ⟨x, r, rfl, h2, _⟩ := h
    cases e
    exact ⟨x, rfl, h2⟩
  | xs, c :: ds, i + 1, d, h, e => by
    obtain ⟨x, r, rfl, _, h3⟩ := h
    obtain ⟨y, e1, e2⟩ := Rps.of (i := i) h3 e
    exact ⟨y, e1, e2⟩
/-- the part of a list that a slice tells -/
def cutD (ds : List D) (lo hi : Option Int) : List D := (ds.drop (HT.sIx ds.length 0 lo)).take (HT.sIx ds.length ds.length hi - HT.sIx ds.length 0 lo)
theorem Rps.cut {K : PySem.W.Frag} {H : Hp} {xs : List V} {ds : List D} (h : Rps K H xs ds) (lo hi : Option Int) : Rps K H (cutV xs lo hi) (cutD ds lo hi) := by
  unfold cutV cutD
  rw [h.len]
  exact Rps.take _ (Rps.drop _ h)
theorem Rs.cut {K : PySem.W.Frag} {S : List Addr} {H : Hp} {xs : List V} {ds : List D} (h : Rs K S H xs ds) (lo hi : Option Int) : Rs K S H (cutV xs lo hi) (cutD ds lo hi) := Rps.cut h lo hi
theorem cutD_mem {ds : List D} {lo hi : Option Int} {d : D} (h : d ∈ cutD ds lo hi) : d ∈ ds := List.mem_of_mem_drop (List.mem_of_mem_take h)
theorem cutD_len (ds : List D) (lo hi : Option Int) : (cutD ds lo hi).length ≤ ds.length := by
  unfold cutD
  rw [List.length_take, List.length_drop]
  omega
/-! ### words, terms -/
def letD (c : Nat) : Bool := decide (97 ≤ c) && decide (c ≤ 122)
def noVars : List Str := ["all", "and", "not", "or", "r"]
def wordS (x : Str) (lo hi : Int) : Bool := decide (lo ≤ (x.length : Int)) && (decide ((x.length : Int) ≤ hi) && x.cps.toList.all letD)
def varS (x : Str) : Bool := wordS x 1 3 && !noVars.contains x
def varD : D → Bool
  | .str x => varS x
  | _ => false
theorem sm_up2 {H H1 : Hp} {a : Addr} {o : HO} (s : Same H H1) (h : H a = none) : Same H (upd H1 a o) := fun b u e => by
  have hne : b ≠ a := fun z => by rw [z, h] at e; cases e
  rw [upd_ne hne]
  exact s b u e
end RF

namespace RF
open PySem L2 PyProof.Rows
/-! ### max of a tuple of whole numbers -/
section
variable {prog : Program} {w : World} {A : Around} {E : Value → Shared → Prop} {s : Shared} {l : Addr} {xs : Array (Int × Tok)}
theorem max_tupI {Q : Value → Shared → Prop} (hh : A.handled = none) (hl : s.heap.IsTuple l (intItems xs)) (hne : 0 < xs.size)
    (h : ∀ v h' tk, (intItems xs)[argBest (fun i j => decide (numAt xs i > numAt xs j)) (xs.size - 1)]? = some v → (∀ b o, s.heap.get? b = some o → h'.get? b = some o) → Q v { s with heap := h', toks := tk }) :
    wpAny (model prog w) A (call (.builtin "max") [.ref l]) Q E s := by
  have hlt : l < s.heap.objs.size := by obtain ⟨_, e, _⟩ := hl; exact Heap.lt_size e
  have hpu : ∀ b ∈ [s.heap.objs.size, l], b < (s.heap.push { cls := .type "tuple_iterator", data := .fields #[.ref l, .int 0 0] }).objs.size := fun b hb => by
    rw [Heap.size_push]
    rcases List.mem_cons.mp hb with e | hb
    · rw [e]; exact Nat.lt_succ_self _
    · rcases List.mem_cons.mp hb with e | hb
      · rw [e]; exact Nat.lt_succ_of_lt hlt
      · cases hb
  refine call_max_walk (wpAny_pyIter_tuple hl ?_)
  refine ⟨_, _, _, _, _, _, _, rfl, Walks.tuple (A := A.in1) hh _ l (Nat.ne_of_lt hlt) (intItems xs), ⟨⟨_, Heap.get?_push_size _ rfl, rfl, rfl⟩, hl.push _⟩, hpu, by simpa [intItems] using hne, CmpOf.ints_gt (numAt xs) (fun _ _ => intItems_at), fun v h' tk hP hk => ?_⟩
  refine h v h' tk (by simpa [intItems] using hP) fun b o e => ?_
  refine hk b o (fun hm => ?_) (Heap.get?_push_of_some _ e)
  rcases List.mem_cons.mp hm with e1 | hm
  · exact absurd (e1 ▸ Heap.lt_size e) (Nat.lt_irrefl _)
  · cases hm
end
section
variable {X : Cx}
def rMaxT (K : PySem.W.Frag) : List V → Hp → VK → Prop := fun vs H Q => ∃ (a : Addr) (ns : List Int), vs = [V.ref a] ∧ SqT K H a (ns.map V.int) ∧ 0 < ns.length ∧ ∀ m, m ∈ ns → (∀ y, y ∈ ns → y ≤ m) → Q (.int m) H
theorem cr_maxT (hc : X.calm = true) : CallR X (.builtin "max") (rMaxT X.K) := by
  intro pins s σ H vs us Q I r h
  obtain ⟨a, ns, rfl, hs, hne, q⟩ := h
  obtain ⟨its, rv, hl, _⟩ := I.tuple hs
  rw [Vals.ref1 r]
  obtain ⟨xs, e⟩ := rv.ints.allInts.items
  have hn : numsOf (intItems xs).toList = ns := by rw [← e]; exact rv.ints.numsOf
  rw [nums_intItems] at hn
  subst hn
  rw [e] at hl
  have hsz : 0 < xs.size := by simpa using hne
  refine max_tupI (I.ok.hd hc) hl hsz fun v h' tk hv hk => ?_
  obtain ⟨t, rfl⟩ := intItems_at hv
  obtain ⟨h1, h2⟩ := argBest_gt (numAt xs) (xs.size - 1)
  refine ⟨.int _, H, I.kept hk, ⟨_, rfl⟩, q _ ?_ fun a ha => ?_⟩
  · rw [numAt_eq]; exact PySem.getD_mem (by rw [List.length_map, Array.length_toList]; omega)
  · obtain ⟨j, hj, rfl⟩ := PySem.mem_getD ha
    rw [List.length_map, Array.length_toList] at hj
    rw [← numAt_eq]; exact h2 j (by omega)

/-! ### a property of a class, by its promise -/
structure Pt (P : Program) (w : World) (K : PySem.W.Frag) (mg : Str → Option Value) (base : Heap) (C : Addr) (k : Nat) (m : Str) (sp : Sp) : Prop where
  ex : ∃ (p g : Addr) (fd : FuncData), PropOf K C m p g ∧ FnOk P w K mg base CX0 k g fd ["self"] sp ∧ Binds K fd ["self"] []
theorem pe_pt {j k : Nat} {C : Addr} {m : Str} {sp : Sp} {o : Expr} {pos : Pos} {ta : TE} (he : PE X o ta) (c : Cls X.K C) (M : Pt X.prog X.w X.K X.mg X.base C k m sp) (hr : Room j X.A) (hk : k + 1 ≤ j)
    (hab : attributeBase o m X.env (eval o X.env) = eval o X.env := by rfl) : PE X (.Attribute o m pos) (tProp C sp [] E0 ta) := by
  obtain ⟨p, g, fd, hp, F, b⟩ := M.ex
  exact pe_prop he c hp F (hr.mono hk) b .nil pass0 hab

/-! ### calls by keywords alone -/
/-- f(k = v, ..) -/
theorem pe_callN0 {CX : CXT} {k : Nat} {f : Addr} {fd : FuncData} {ps ks : List Str} {sp : Sp} {E : XK} {x : Str} {p pos : Pos} {kws : List Keyword} {tk : TA} {g : List Value → List Value → List Value} {gV : List V → List V → List V}
    (F : FnOk X.prog X.w X.K X.mg X.base CX k f fd ps sp) (hr : Room k X.A) (hg : Gl X x) (hm : X.mg x = some (.ref f)) (hk : PySem.W.keepIn X.K (.ref f) = true) (hb : KBn X.K fd ps 0 ks g gV) (hx : Passes CX X E) (hkw : PK X kws tk)
    (hall : (backToKw pos (keywordEach kws X.env)).all (·.1.isSome) = true := by rfl) (hks : (backToKw pos (keywordEach kws X.env)).filterMap (·.1) = ks := by rfl) (hdb : (x == ("__debug__" : Str)) = false := by decide)
    (hpl : ((backTo pos (starEach [] X.env)).any (·.1) || (backToKw pos (keywordEach kws X.env)).any (·.1.isNone)) = false := by rfl) :
    PE X (.Call (.Name x p) [] kws pos) (tCallN 0 ks.length sp gV E tNil tk) := by
  refine ⟨fun pins s σ H Q I h => ?_⟩
  refine wpAny_Call_Name_kw (ld_glob I hg hm ?_ hdb)
  refine PySem.W.callWith_KW0 (h₀ := X.base) I.ok.mod.kin hk hall ?_ hpl
  refine thn (hkw.run pos pins s σ H _ I h) fun ws s2 ⟨zs, H2, I2, rz, l1, l2, q2⟩ => ⟨I2.kIn, ?_⟩
  rw [hks]
  exact run_fnN (us := []) (vs := []) F hr hb hx I2 .nil rz l1 l2 q2
/-- a def that is called by keywords alone, by its promise -/
structure Dk (P : Program) (w : World) (K : PySem.W.Frag) (mg : Str → Option Value) (base : Heap) (k : Nat) (x : Str) (ps ks : List Str) (gV : List V → List V → List V) (sp : Sp) : Prop where
  ex : ∃ (f : Addr) (fd : FuncData) (g : List Value → List Value → List Value), FnOk P w K mg base CX0 k f fd ps sp ∧ KBn K fd ps 0 ks g gV ∧ mg x = some (.ref f) ∧ PySem.W.keepIn K (.ref f) = true
theorem pe_kD {j k : Nat} {ps ks : List Str} {sp : Sp} {x : Str} {p pos : Pos} {kws : List Keyword} {tk : TA} {gV : List V → List V → List V} (D : Dk X.prog X.w X.K X.mg X.base k x ps ks gV sp) (hr : Room j X.A) (hj : k ≤ j) (hkw : PK X kws tk) (hg : Gl X x := by rfl)
    (hall : (backToKw pos (keywordEach kws X.env)).all (·.1.isSome) = true := by rfl) (hks : (backToKw pos (keywordEach kws X.env)).filterMap (·.1) = ks := by rfl) (hdb : (x == ("__debug__" : Str)) = false := by decide)
    (hpl : ((backTo pos (starEach [] X.env)).any (·.1) || (backToKw pos (keywordEach kws X.env)).any (·.1.isNone)) = false := by rfl) :
    PE X (.Call (.Name x p) [] kws pos) (tCallN 0 ks.length sp gV E0 tNil tk) := by
  obtain ⟨f, fd, g, F, hb, hm, hk⟩ := D.ex
  exact pe_callN0 F (hr.mono hj) hg hm hk hb pass0 hkw hall hks hdb hpl
end
theorem Fun.kbn {K : PySem.W.Frag} {x qual : Str} {st : Stmt} {f : Addr} {fd : FuncData} {ps : List Str} (F : Fun K x qual st f fd) (n : Nat) (ks : List Str) (g : {α : Type} → List α → List α → List α)
    (hrel : ∀ {vs zs : List V} {us ws : List Value}, Vals vs us → Vals zs ws → Vals (g vs zs) (g us ws))
    (h : ∀ (kV doc pm : Value) (an : Option Addr) (cdv ct : Value) (us ws : List Value), us.length = n → ws.length = ks.length → bindArgs (PySem.W.fnOf x qual (defArgs st) (defBody st) (defScope st) .none kV doc pm an cdv ct) ⟨us, ks.zip ws⟩ = pure (ps.zip (g us ws))) :
    KBn K fd ps n ks (fun us ws => g us ws) (fun vs zs => g vs zs) := by
  obtain ⟨oc, od, kV, doc, pm, an, cdv, ct, osl, rfl, lk, hcd⟩ := F.ex
  exact ⟨fun s us ws _ l1 l2 => .of_eq (h kV doc pm an cdv ct us ws l1 l2), fun r1 r2 => hrel r1 r2⟩
end RF


namespace RF
open PySem L2 PyProof.Rows
def whole : D → Bool
  | .int _ => true
  | _ => false
def btw (d : D) (lo hi : Int) : Bool := match d with
  | .int i => decide (lo ≤ i) && decide (i ≤ hi)
  | _ => false
def rootD : D → Bool
  | .int i => decide (i ∈ [2, 3, 5, 6, 13])
  | _ => false
def spWhole (K : PySem.W.Frag) : Sp := fun vs H Q _ => ∃ (v : V) (d : D), vs = [v] ∧ Rp K H v d ∧ Q (.bl (whole d)) H
def spBtw (K : PySem.W.Frag) : Sp := fun vs H Q _ => ∃ (v : V) (d : D) (lo hi : Int), vs = [v, .int lo, .int hi] ∧ Rp K H v d ∧ Q (.bl (btw d lo hi)) H
def spIsRoot (K : PySem.W.Frag) : Sp := fun vs H Q _ => ∃ (v : V) (d : D), vs = [v] ∧ Rp K H v d ∧ Q (.bl (rootD d)) H
section
variable {P : Program} {w : World} {K : PySem.W.Frag} {mg : Str → Option Value} {base : Heap}
abbrev s_is_whole : Stmt := top 2
abbrev n_is_whole : List Str := ["value"]
theorem sc_is_whole : FnScope n_is_whole ["value"] (defScope s_is_whole) := ⟨rfl, rfl, rfl, by decide +kernel, rfl, by decide +kernel, by decide +kernel⟩
theorem ok_whole {f : Addr} {fd : FuncData} {k : Nat} (F : Fun K "is_whole" "is_whole" s_is_whole f fd) (T1 : mg "isinstance" = none) (T2 : mg "int" = none) (T3 : mg "bool" = none) : FnOk P w K mg base CX0 (k + 1) f fd ["value"] (spWhole K) := by
  refine F.ok sc_is_whole (fun vs H Q E h => ?_) (fun cdv A outer s H vs Q E hr h => ?_)
  · obtain ⟨v, d, rfl, _⟩ := h
    rfl
  · obtain ⟨v, d, rfl, hv, q⟩ := h
    refine ⟨_, (pss_one (ps_ret (pe_and (pe_callB call_isi (by rfl) T1 (by decide +kernel) (pa_cons (pv 0) (pa_cons (pe_bltn (v := .ty "int") (by rfl) T2 (by decide +kernel) rfl) pa_nil))) (pe_one (pe_not (pe_callB call_isi (by rfl) T1 (by decide +kernel) (pa_cons (pv 0) (pa_cons (pe_bltn (v := .ty "bool") (by rfl) T3 (by decide +kernel) rfl) pa_nil)))))))), ?_⟩
    refine ⟨_, rfl, _, _, _, _, _, rfl, .ty _, tyX _ hv, kit_ty (kit_int _), _, rfl, ?_⟩
    by_cases hi : isInt d = true
    · refine iteP hi ⟨_, rfl, _, _, _, _, _, rfl, .ty _, tyX _ hv, kit_ty (kit_bool _), _, rfl, ?_⟩
      have e : (!isBool d) = whole d := by cases d <;> first | rfl | cases hi
      rw [e]
      exact q
    · refine iteN hi ?_
      have e : whole d = false := by cases d <;> first | rfl | exact absurd rfl hi
      rw [e] at q
      exact q
abbrev s_is_between : Stmt := top 3
abbrev n_is_between : List Str := ["value", "low", "high"]
theorem sc_is_between : FnScope n_is_between ["value", "low", "high"] (defScope s_is_between) := ⟨rfl, rfl, rfl, by decide +kernel, rfl, by decide +kernel, by decide +kernel⟩
theorem ok_btw {f : Addr} {fd : FuncData} {k : Nat} (F : Fun K "is_between" "is_between" s_is_between f fd) (D1 : Df P w K mg base k "is_whole" ["value"] (spWhole K)) : FnOk P w K mg base CX0 (k + 1) f fd ["value", "low", "high"] (spBtw K) := by
  refine F.ok sc_is_between (fun vs H Q E h => ?_) (fun cdv A outer s H vs Q E hr h => ?_)
  · obtain ⟨v, d, lo, hi, rfl, _⟩ := h
    rfl
  · obtain ⟨v, d, lo, hi, rfl, hv, q⟩ := h
    refine ⟨_, (pss_one (ps_ret (pe_and (pe_callD D1 hr (Nat.le_refl _) (pa_cons (pv 0) pa_nil)) (pe_one (pe_chain op_le op_le (pv 1) (pv 0) (pv 2)))))), ?_⟩
    refine ⟨_, rfl, v, d, rfl, hv, _, rfl, ?_⟩
    by_cases hi' : whole d = true
    · refine iteP hi' ?_
      cases d with
      | int i =>
        obtain rfl : v = .int i := hv
        refine ⟨_, rfl, _, rfl, _, _, rfl, rfl, _, rfl, ?_⟩
        by_cases h1 : lo ≤ i
        · refine iteP (decide_eq_true h1) ⟨_, rfl, _, _, rfl, rfl, ?_⟩
          have e : btw (.int i) lo hi = decide (i ≤ hi) := by show (decide (lo ≤ i) && decide (i ≤ hi)) = _; rw [decide_eq_true h1]; rfl
          rw [e] at q
          exact q
        · refine iteN (nd_of h1) ?_
          have e : btw (.int i) lo hi = false := by show (decide (lo ≤ i) && decide (i ≤ hi)) = _; rw [decide_eq_false h1]; rfl
          rw [e] at q
          exact q
      | _ => cases hi'
    · refine iteN hi' ?_
      have e : btw d lo hi = false := by cases d <;> first | rfl | exact absurd rfl hi'
      rw [e] at q
      exact q
abbrev n_is_root : List Str := ["value"]
end
end RF

namespace RF
open PySem L2 PyProof.Rows
def slopeD : D → Bool
  | .tup [a, b, c] => btw a (-9) 9 && (btw b (-3) 3 && btw c 1 4)
  | _ => false
def spIsSlope (K : PySem.W.Frag) : Sp := fun vs H Q _ => ∃ (v : V) (d : D), vs = [v] ∧ Rp K H v d ∧ Q (.bl (slopeD d)) H
section
variable {P : Program} {w : World} {K : PySem.W.Frag} {mg : Str → Option Value} {base : Heap}
theorem slope_ne3 {ds : List D} (h : ds.length ≠ 3) : slopeD (.tup ds) = false := by
  match ds, h with
  | [], _ => rfl
  | [_], _ => rfl
  | [_, _], _ => rfl
  | [_, _, _], h => exact absurd rfl h
  | _ :: _ :: _ :: _ :: _, _ => rfl
abbrev s_is_slope : Stmt := top 8
abbrev n_is_slope : List Str := ["value", "i", "j", "k"]
theorem sc_is_slope : FnScope n_is_slope ["value"] (defScope s_is_slope) := ⟨rfl, rfl, rfl, by decide +kernel, rfl, by decide +kernel, by decide +kernel⟩
theorem ok_isslope {f : Addr} {fd : FuncData} {k : Nat} (F : Fun K "is_slope" "is_slope" s_is_slope f fd) (T1 : mg "isinstance" = none) (T2 : mg "tuple" = none) (T3 : mg "len" = none)
    (D1 : Df P w K mg base k "is_between" ["value", "low", "high"] (spBtw K)) : FnOk P w K mg base CX0 (k + 1) f fd ["value"] (spIsSlope K) := by
  refine F.ok sc_is_slope (fun vs H Q E h => ?_) (fun cdv A outer s H vs Q E hr h => ?_)
  · obtain ⟨v, d, rfl, _⟩ := h
    rfl
  · obtain ⟨v, d, rfl, hv, q⟩ := h
    have nd := sc_is_slope.nd
    refine ⟨_, (pss_cons (ps_if (pw_or (pt_not (pt_val (pe_callB call_isi (by rfl) T1 (by decide +kernel) (pa_cons (pv 0) (pa_cons (pe_bltn (v := .ty "tuple") (by rfl) T2 (by decide +kernel) rfl) pa_nil))))) (pw_or1 (pt_cmpR op_ne (pe_callB call_len_seq (by rfl) T3 PySem.boot_len (pa_cons (pv 0) pa_nil)) pe_int (nomark _)))).pt
      (pss_one (ps_ret pe_bl))
      pss_nil)
      (pss_cons (ps_asg (pv 0) (pg_tup rfl (pgs_cons (pg_name (i := 1) nd rfl (Or.inl rfl)) (pgs_cons (pg_name (i := 2) nd rfl (Or.inl rfl)) (pgs_cons (pg_name (i := 3) nd rfl (Or.inl rfl)) pgs_nil)))))
      (pss_one (ps_ret (pe_and (pe_callD D1 hr (Nat.le_refl _) (pa_cons (pv 1) (pa_cons (pe_un un_neg pe_int) (pa_cons pe_int pa_nil)))) (pe_and (pe_callD D1 hr (Nat.le_refl _) (pa_cons (pv 2) (pa_cons (pe_un un_neg pe_int) (pa_cons pe_int pa_nil)))) (pe_one (pe_callD D1 hr (Nat.le_refl _) (pa_cons (pv 3) (pa_cons pe_int (pa_cons pe_int pa_nil))))))))))), ?_⟩
    refine ⟨_, rfl, _, _, _, _, _, rfl, .ty _, tyX _ hv, kit_ty (kit_tuple _), _, rfl, ?_⟩
    cases d with
    | tup ds =>
      obtain ⟨a, xs, rfl, S, hl, rr⟩ := id hv
      have el := rr.len
      refine iteF ⟨_, rfl, a, _, rfl, .inr S, rfl, _, rfl, ?_⟩
      by_cases h3 : ds.length = 3
      · have e3 : V.int (xs.length : Int) = V.int 3 := by rw [el, h3]; rfl
        rw [e3]
        refine iteNS rfl ?_
        match ds, h3 with
        | [d1, d2, d3], _ =>
          obtain ⟨x1, r1, rfl, p1, x2, r2, rfl, p2, x3, r3, rfl, p3, rfl⟩ := rr
          refine ⟨_, rfl, a, _, rfl, S, rfl, _, _, rfl, _, _, rfl, _, _, rfl, rfl, ?_⟩
          refine ⟨_, rfl, _, rfl, x1, d1, _, _, rfl, p1, _, rfl, ?_⟩
          by_cases h1 : btw d1 (-9) 9 = true
          · refine iteP h1 ⟨_, rfl, _, rfl, x2, d2, _, _, rfl, p2, _, rfl, ?_⟩
            by_cases h2 : btw d2 (-3) 3 = true
            · refine iteP h2 ⟨_, rfl, x3, d3, _, _, rfl, p3, ?_⟩
              have e : slopeD (.tup [d1, d2, d3]) = btw d3 1 4 := by show (btw d1 (-9) 9 && (btw d2 (-3) 3 && btw d3 1 4)) = _; rw [h1, h2]; rfl
              rw [e] at q
              exact q
            · refine iteN h2 ?_
              have e : slopeD (.tup [d1, d2, d3]) = false := by show (btw d1 (-9) 9 && (btw d2 (-3) 3 && btw d3 1 4)) = _; rw [Bool.eq_false_iff.mpr h2]; simp
              rw [e] at q
              exact q
          · refine iteN h1 ?_
            have e : slopeD (.tup [d1, d2, d3]) = false := by show (btw d1 (-9) 9 && (btw d2 (-3) 3 && btw d3 1 4)) = _; rw [Bool.eq_false_iff.mpr h1]; rfl
            rw [e] at q
            exact q
      · rw [slope_ne3 h3] at q
        refine iteP ?_ q
        have : ¬ V.int (xs.length : Int) = V.int 3 := fun z => h3 (by
          have := V.int.inj z
          omega)
        rw [decide_eq_false this]; rfl
    | non => exact iteT q
    | bl _ => exact iteT q
    | int _ => exact iteT q
    | str _ => exact iteT q
    | lst _ => exact iteT q
end
end RF

namespace RF
open PySem L2 PyProof.Rows
/-! ### terms, as data -/
def trmW (it : D → Bool) : D → Bool
  | .tup [.tup its, c] => decide (its.length ≤ 4) && (btw c (-1000) 1000 && its.all it)
  | _ => false
def is0 : D → Bool
  | .int i => decide (i = 0)
  | _ => false
def itmW (fl : D → Bool) : D → Bool
  | .tup [f, t] => btw f (-9) 9 && (!is0 f && (varD t || fl t))
  | _ => false
def floW (tr : D → Bool) : D → Bool
  | .tup [w, s, u] => isS "floor" w && (slopeD s && tr u)
  | _ => false
def trm : Nat → D → Bool
  | 0 => trmW (itmW fun _ => false)
  | n + 1 => trmW (itmW (floW (trm n)))
def flo : Nat → D → Bool
  | 0 => fun _ => false
  | n + 1 => floW (trm n)
theorem trm_eq : ∀ n, trm n = trmW (itmW (flo n))
  | 0 => rfl
  | _ + 1 => rfl
/-- where a word could stand, a text stands -/
def Short (d : D) : Prop := ∀ x, d = .str x → x.length ≤ 1000
def SanFW (f : D → Prop) (t : D) : Prop := Short t ∧ ∀ w s u, t = .tup [w, s, u] → (∃ x, w = .str x) ∧ f u
def SanTW (f : D → Prop) (d : D) : Prop := ∀ its c, d = .tup [.tup its, c] → ∀ it ∈ its, ∀ fa t, it = .tup [fa, t] → SanFW f t
def San : Nat → D → Prop
  | 0 => SanTW fun _ => True
  | n + 1 => SanTW (San n)
def SanF : Nat → D → Prop
  | 0 => SanFW fun _ => True
  | n + 1 => SanFW (San n)
theorem San.it : ∀ {n : Nat} {its : List D} {c it fa t : D}, San n (.tup [.tup its, c]) → it ∈ its → it = .tup [fa, t] → SanF n t
  | 0, _, _, _, _, _, h, m, e => h _ _ rfl _ m _ _ e
  | _ + 1, _, _, _, _, _, h, m, e => h _ _ rfl _ m _ _ e
def spWord (K : PySem.W.Frag) : Sp := fun vs H Q _ => ∃ (v : V) (d : D) (lo hi : Int), vs = [v, .int lo, .int hi] ∧ Rp K H v d ∧ Short d ∧ ∀ H', Same H H' → Q (.bl (match d with | .str x => wordS x lo hi | _ => false)) H'
def spVar (K : PySem.W.Frag) : Sp := fun vs H Q _ => ∃ (v : V) (d : D), vs = [v] ∧ Rp K H v d ∧ Short d ∧ ∀ H', Same H H' → Q (.bl (varD d)) H'
def spLetter : Sp := fun vs H Q _ => ∃ (c : Nat), vs = [.str ⟨#[c]⟩] ∧ Q (.bl (letD c)) H
def spTermW (K : PySem.W.Frag) (n : Nat) : Sp := fun vs H Q _ => ∃ (v : V) (d : D), vs = [v, .int (n : Int)] ∧ Rp K H v d ∧ San n d ∧ ∀ H', Same H H' → Q (.bl (trm n d)) H'
def spItem (K : PySem.W.Frag) (n : Nat) : Sp := fun vs H Q _ => ∃ (v : V) (d : D), vs = [v, .int (n : Int)] ∧ Rp K H v d ∧ (∀ fa t, d = .tup [fa, t] → SanF n t) ∧ ∀ H', Same H H' → Q (.bl (itmW (flo n) d)) H'
def spFlo (K : PySem.W.Frag) (n : Nat) : Sp := fun vs H Q _ => ∃ (v : V) (d : D), vs = [v, .int (n : Int)] ∧ Rp K H v d ∧ SanF n d ∧ ∀ H', Same H H' → Q (.bl (flo n d)) H'
def spTermP (K : PySem.W.Frag) : Nat → Sp
  | 0 => fun _ _ _ _ => False
  | n + 1 => spTermW K n
section
variable {P : Program} {w : World} {K : PySem.W.Frag} {mg : Str → Option Value} {base : Heap}
abbrev s_is_letter : Stmt := top 6
abbrev n_is_letter : List Str := ["sign"]
theorem sc_is_letter : FnScope n_is_letter ["sign"] (defScope s_is_letter) := ⟨rfl, rfl, rfl, by decide +kernel, rfl, by decide +kernel, by decide +kernel⟩
theorem lt_one {a b : Nat} : decide ((#[a] : Array Nat).toList < (#[b] : Array Nat).toList) = decide (a < b) := by
  rw [decide_eq_decide]
  show List.Lex (· < ·) [a] [b] ↔ a < b
  constructor
  · intro h
    cases h with
    | rel h => exact h
    | cons h => cases h
  · exact fun h => .rel h
theorem a_cps : (Str.ofString "a").cps = #[97] := by decide +kernel
theorem z_cps : (Str.ofString "z").cps = #[122] := by decide +kernel
theorem ok_letter {f : Addr} {fd : FuncData} {k : Nat} (F : Fun K "is_letter" "is_letter" s_is_letter f fd) : FnOk P w K mg base CX0 (k + 1) f fd ["sign"] spLetter := by
  refine F.ok sc_is_letter (fun vs H Q E h => ?_) (fun cdv A outer s H vs Q E hr h => ?_)
  · obtain ⟨c, rfl, _⟩ := h
    rfl
  · obtain ⟨c, rfl, q⟩ := h
    refine ⟨_, (pss_one (ps_ret (pe_chain op_le_str op_le_str pe_str (pv 0) pe_str))), ?_⟩
    refine ⟨_, rfl, _, _, rfl, rfl, _, rfl, ?_⟩
    rw [a_cps, lt_one]
    by_cases h1 : 97 ≤ c
    · rw [decide_eq_false (by omega)]
      refine iteP rfl ⟨_, _, rfl, rfl, ?_⟩
      rw [z_cps, lt_one]
      have e : (!decide (122 < c)) = letD c := by
        unfold letD
        rw [decide_eq_true h1, Bool.true_and]
        by_cases h2 : c ≤ 122
        · rw [decide_eq_true h2, decide_eq_false (by omega)]; rfl
        · rw [decide_eq_false h2, decide_eq_true (by omega)]; rfl
      rw [e]
      exact q
    · rw [decide_eq_true (by omega)]
      refine iteN (by decide) ?_
      have e : letD c = false := by unfold letD; rw [decide_eq_false h1]; rfl
      rw [e] at q
      exact q
abbrev s_is_word : Stmt := top 5
abbrev n_is_word : List Str := ["value", "low", "high", "sign"]
theorem sc_is_word : FnScope n_is_word ["value", "low", "high"] (defScope s_is_word) := ⟨rfl, rfl, rfl, by decide +kernel, rfl, by decide +kernel, by decide +kernel⟩
theorem all_take {f : Nat → Bool} {l : List Nat} {i : Nat} {c : Nat} (h : l[i]? = some c) : (l.take (i + 1)).map f = (l.take i).map f ++ [f c] := by
  rw [List.take_add_one, h, List.map_append]
  rfl
theorem ok_word {f : Addr} {fd : FuncData} {k : Nat} (F : Fun K "_is_word" "_is_word" s_is_word f fd) (T1 : mg "isinstance" = none) (T2 : mg "str" = none) (T3 : mg "len" = none) (T4 : mg "all" = none) (D1 : Df P w K mg base k "is_letter" ["sign"] spLetter) :
    FnOk P w K mg base CX0 (k + 1) f fd ["value", "low", "high"] (spWord K) := by
  refine F.ok sc_is_word (fun vs H Q E h => ?_) (fun cdv A outer s H vs Q E hr h => ?_)
  · obtain ⟨v, d, lo, hi, rfl, _⟩ := h
    rfl
  · obtain ⟨v, d, lo, hi, rfl, hv, hs, q⟩ := h
    have nd := sc_is_word.nd
    refine ⟨_, (pss_one (ps_ret (pe_and (pe_callB call_isi (by rfl) T1 (by decide +kernel) (pa_cons (pv 0) (pa_cons (pe_bltn (v := .ty "str") (by rfl) T2 (by decide +kernel) rfl) pa_nil))) (pe_and (pe_chain op_le op_le (pv 1) (pe_callB call_len_str (by rfl) T3 (by decide +kernel) (pa_cons (pv 0) pa_nil)) (pv 2)) (pe_one (pe_callB (cr_all rfl) (by rfl) T4 (by decide +kernel) (pa_cons (pe_lc (own := [("sign", 3)]) (g := gName 3) (tt := tYes) (by rfl) nd (pi_str (pv 0)) (blkOk_by (own := [("sign", 3)]) (N := n_is_word) (sc := defScope s_is_word) (by decide +kernel)) (fun _ _ _ _ _ => (pg_name (i := 3) nd rfl (Or.inl rfl))) (fun _ _ _ _ _ => pts_nil) (fun _ _ _ _ _ => (pe_callD D1 hr (Nat.le_refl _) (pa_cons (pv 3) pa_nil)))) pa_nil))))))), ?_⟩
    refine ⟨_, rfl, _, _, _, _, _, rfl, .ty _, tyX _ hv, kit_ty (kit_str _), _, rfl, ?_⟩
    cases d with
    | str x =>
      obtain rfl : v = .str x := hv
      refine iteP rfl ?_
      have hq : ∀ H', Same H H' → Q (.bl (wordS x lo hi)) H' := q
      have hx := hs x rfl
      have e100 : x.length ≤ sizeLine := by rw [sizeLine_eq]; omega
      refine ⟨_, rfl, _, rfl, x, rfl, e100, _, _, rfl, rfl, _, rfl, ?_⟩
      by_cases h1 : lo ≤ (x.length : Int)
      · refine iteP (decide_eq_true h1) ⟨_, rfl, _, _, rfl, rfl, _, rfl, ?_⟩
        by_cases h2 : (x.length : Int) ≤ hi
        · refine iteP (decide_eq_true h2) ⟨_, rfl, x, rfl, fun D hD => ?_⟩
          have hsz : x.cps.size = x.length := rfl
          refine lc_it (walk_str (z := x)) (fun i H' => H' D = some (.lst (((x.cps.toList.take i).map letD).map V.bl)) ∧ Same H H') ⟨upd_same, sNew (Same.refl _) hD⟩ (fun _ _ _ _ => trivial) ?_ ?_
          · rintro i y H1 H2 hi2 ⟨h3, sm⟩ ⟨rfl, c, hc, rfl⟩
            refine ⟨rfl, yes_if ?_⟩
            have hc' : x.cps.toList[i]? = some c := by rw [Array.getElem?_toList]; exact hc
            refine ⟨_, rfl, c, rfl, _, h3, ?_, ?_, sm_up2 sm hD⟩
            · rw [List.length_map, List.length_map, List.length_take, sizeLine_eq]; omega
            · rw [upd_same, all_take hc', List.map_append]; rfl
          · rintro H1 ⟨h3, sm⟩
            refine ⟨D, _, rfl, SqL.of h3, ?_⟩
            have e : ((x.cps.toList.take x.cps.size).map letD).all id = x.cps.toList.all letD := by
              rw [List.take_of_length_le (by simp), List.all_map]; rfl
            rw [e]
            have qq := hq H1 sm
            unfold wordS at qq
            rw [decide_eq_true h1, decide_eq_true h2, Bool.true_and, Bool.true_and] at qq
            exact qq
        · refine iteN (nd_of h2) ?_
          have qq := hq H (Same.refl _)
          unfold wordS at qq
          rw [decide_eq_true h1, decide_eq_false h2, Bool.true_and, Bool.false_and] at qq
          exact qq
      · refine iteN (nd_of h1) ⟨_, rfl, iteN (by decide) ?_⟩
        have qq := hq H (Same.refl _)
        unfold wordS at qq
        rw [decide_eq_false h1, Bool.false_and] at qq
        exact qq
    | non => exact iteN Bool.false_ne_true (q H (Same.refl _))
    | bl _ => exact iteN Bool.false_ne_true (q H (Same.refl _))
    | int _ => exact iteN Bool.false_ne_true (q H (Same.refl _))
    | lst _ => exact iteN Bool.false_ne_true (q H (Same.refl _))
    | tup _ => exact iteN Bool.false_ne_true (q H (Same.refl _))
abbrev s_is_variable : Stmt := top 4
abbrev n_is_variable : List Str := ["value"]
theorem sc_is_variable : FnScope n_is_variable ["value"] (defScope s_is_variable) := ⟨rfl, rfl, rfl, by decide +kernel, rfl, by decide +kernel, by decide +kernel⟩
theorem inV_str (x : Str) : ∀ l : List Str, inV (.str x) (l.map V.str) = l.contains x
  | [] => rfl
  | y :: l => by
    have ih := inV_str x l
    unfold inV at ih ⊢
    rw [List.map_cons, List.any_cons, List.contains_cons, ih]
    congr 1
    show (y == x) = (x == y)
    rw [Bool.eq_iff_iff, beq_iff_eq, beq_iff_eq]
    exact eq_comm
theorem flat_str : ∀ l : List Str, (l.map V.str).all flatV = true
  | [] => rfl
  | _ :: l => by
    rw [List.map_cons, List.all_cons, flat_str l]
    rfl
theorem ok_variable {f nv : Addr} {fd : FuncData} {k : Nat} (F : Fun K "is_variable" "is_variable" s_is_variable f fd) (mN : mg "NO_VARIABLES" = some (.ref nv)) (hN : ∀ H, SqT K H nv (noVars.map V.str)) (D1 : Df P w K mg base k "_is_word" ["value", "low", "high"] (spWord K)) :
    FnOk P w K mg base CX0 (k + 1) f fd ["value"] (spVar K) := by
  refine F.ok sc_is_variable (fun vs H Q E h => ?_) (fun cdv A outer s H vs Q E hr h => ?_)
  · obtain ⟨v, d, rfl, _⟩ := h
    rfl
  · obtain ⟨v, d, rfl, hv, hs, q⟩ := h
    refine ⟨_, (pss_one (ps_ret (pe_and (pe_callD D1 hr (Nat.le_refl _) (pa_cons (pv 0) (pa_cons pe_int (pa_cons pe_int pa_nil)))) (pe_one (pe_cmpR op_notIn_seq (pv 0) (pe_glob (v := .ref nv) (by rfl) mN rfl) rfl))))), ?_⟩
    refine ⟨_, rfl, v, d, 1, 3, rfl, hv, hs, fun H1 sm1 => ⟨_, rfl, ?_⟩⟩
    cases d with
    | str x =>
      obtain rfl : v = .str x := hv
      have hq : ∀ H', Same H H' → Q (.bl (varS x)) H' := q
      by_cases h1 : wordS x 1 3 = true
      · refine iteP h1 ⟨_, rfl, nv, _, rfl, .inr (hN _), rfl, flat_str _, ?_⟩
        have qq := hq H1 sm1
        unfold varS at qq
        rw [h1, Bool.true_and] at qq
        rw [inV_str]
        exact qq
      · refine iteN h1 ?_
        have qq := hq H1 sm1
        unfold varS at qq
        rw [Bool.eq_false_iff.mpr h1, Bool.false_and] at qq
        exact qq
    | non => exact iteN Bool.false_ne_true (q H1 sm1)
    | bl _ => exact iteN Bool.false_ne_true (q H1 sm1)
    | int _ => exact iteN Bool.false_ne_true (q H1 sm1)
    | lst _ => exact iteN Bool.false_ne_true (q H1 sm1)
    | tup _ => exact iteN Bool.false_ne_true (q H1 sm1)
end
end RF

namespace RF
open PySem L2 PyProof.Rows
theorem len_ne {n : Nat} {m : Int} (h : (n : Int) ≠ m) : (!decide (V.int (n : Int) = V.int m)) = true := by
  rw [decide_eq_false (fun z => h (V.int.inj z))]; rfl
theorem len_eq {n : Nat} {m : Int} (h : (n : Int) = m) : (!decide (V.int (n : Int) = V.int m)) = false := by
  rw [h, decide_eq_true rfl]; rfl
theorem flo_ne3 {ds : List D} (n : Nat) (h : ds.length ≠ 3) : flo n (.tup ds) = false := by
  cases n with
  | zero => rfl
  | succ n =>
    match ds, h with
    | [], _ => rfl
    | [_], _ => rfl
    | [_, _], _ => rfl
    | [_, _, _], h => exact absurd rfl h
    | _ :: _ :: _ :: _ :: _, _ => rfl
theorem flo_nt (n : Nat) {d : D} (h : isTup d = false) : flo n d = false := by
  cases n with
  | zero => rfl
  | succ n => cases d <;> first | rfl | cases h
theorem Df.mono {P : Program} {w : World} {K : PySem.W.Frag} {mg : Str → Option Value} {base : Heap} {j k : Nat} {x : Str} {ps : List Str} {sp : Sp} (D : Df P w K mg base j x ps sp) (h : j ≤ k) : Df P w K mg base k x ps sp := by
  obtain ⟨f, fd, G, b, m, kp⟩ := D.ex
  exact ⟨f, fd, G.mono h, b, m, kp⟩
section
variable {P : Program} {w : World} {K : PySem.W.Frag} {mg : Str → Option Value} {base : Heap}
abbrev s_is_floor : Stmt := top 15
abbrev n_is_floor : List Str := ["value", "floors", "word", "slope", "term"]
theorem sc_is_floor : FnScope n_is_floor ["value", "floors"] (defScope s_is_floor) := ⟨rfl, rfl, rfl, by decide +kernel, rfl, by decide +kernel, by decide +kernel⟩
theorem ok_floor {f : Addr} {fd : FuncData} {k n : Nat} (F : Fun K "_is_floor" "_is_floor" s_is_floor f fd) (T1 : mg "isinstance" = none) (T2 : mg "tuple" = none) (T3 : mg "len" = none) (D1 : Df P w K mg base k "is_slope" ["value"] (spIsSlope K)) (D2 : Df P w K mg base k "_is_term_with" ["value", "floors"] (spTermP K n)) :
    FnOk P w K mg base CX0 (k + 1) f fd ["value", "floors"] (spFlo K n) := by
  refine F.ok sc_is_floor (fun vs H Q E h => ?_) (fun cdv A outer s H vs Q E hr h => ?_)
  · obtain ⟨v, d, rfl, _⟩ := h
    rfl
  · obtain ⟨v, d, rfl, hv, hs, q⟩ := h
    have nd := sc_is_floor.nd
    refine ⟨_, (pss_cons (ps_if (pw_or (pt_not (pt_val (pe_callB call_isi (by rfl) T1 (by decide +kernel) (pa_cons (pv 0) (pa_cons (pe_bltn (v := .ty "tuple") (by rfl) T2 (by decide +kernel) rfl) pa_nil))))) (pw_or (pt_cmpR op_ne (pe_callB call_len_seq (by rfl) T3 (by decide +kernel) (pa_cons (pv 0) pa_nil)) pe_int (nomark _)) (pw_or1 (pt_cmpR op_eq (pv 1) pe_int (nomark _))))).pt
      (pss_one (ps_ret pe_bl))
      pss_nil)
      (pss_cons (ps_asg (pv 0) (pg_tup rfl (pgs_cons (pg_name (i := 2) nd rfl (Or.inl rfl)) (pgs_cons (pg_name (i := 3) nd rfl (Or.inl rfl)) (pgs_cons (pg_name (i := 4) nd rfl (Or.inl rfl)) pgs_nil)))))
      (pss_one (ps_ret (pe_and (pe_cmpR op_eq (pv 2) pe_str (nomark _)) (pe_and (pe_callD D1 hr (Nat.le_refl _) (pa_cons (pv 3) pa_nil)) (pe_one (pe_callD D2 hr (Nat.le_refl _) (pa_cons (pv 4) (pa_cons (pe_op op_sub (pv 1) pe_int) pa_nil)))))))))), ?_⟩
    refine ⟨_, rfl, _, _, _, _, _, rfl, .ty _, tyX _ hv, kit_ty (kit_tuple _), _, rfl, ?_⟩
    by_cases ht : isTup d = true
    · cases d with
      | tup ds =>
        obtain ⟨a, xs, rfl, S, hl, rr⟩ := id hv
        have el := rr.len
        refine iteF ⟨_, rfl, a, _, rfl, .inr S, rfl, _, rfl, ?_⟩
        by_cases h3 : ds.length = 3
        · refine iteN (by rw [len_eq (by rw [el, h3]; rfl)]; decide) ?_
          refine ⟨_, rfl, rfl, _, rfl, ?_⟩
          cases n with
          | zero => exact iteP rfl (q H (Same.refl _))
          | succ n =>
            refine iteN (nd_of fun z => by have := V.int.inj z; omega) ?_
            match ds, h3 with
            | [dw, dsl, du], _ =>
              obtain ⟨x1, r1, rfl, p1, x2, r2, rfl, p2, x3, r3, rfl, p3, rfl⟩ := rr
              obtain ⟨⟨wx, rfl⟩, hu⟩ := hs.2 dw dsl du rfl
              obtain rfl : x1 = .str wx := p1
              have hq : ∀ H', Same H H' → Q (.bl (decide (wx = "floor") && (slopeD dsl && trm n du))) H' := q
              refine ⟨_, rfl, a, _, rfl, S, rfl, _, _, rfl, _, _, rfl, _, _, rfl, rfl, ?_⟩
              refine ⟨_, rfl, rfl, _, rfl, ?_⟩
              by_cases hw : wx = "floor"
              · refine iteP (decide_eq_true (congrArg V.str hw)) ?_
                rw [decide_eq_true hw] at hq
                refine ⟨_, rfl, x2, dsl, rfl, p2, _, rfl, ?_⟩
                by_cases h2 : slopeD dsl = true
                · refine iteP h2 ⟨_, rfl, _, rfl, _, _, rfl, rfl, x3, du, ?_, p3, hu, fun H' sm => ?_⟩
                  · show ([x3, V.int (((n + 1 : Nat) : Int) - 1)] : List V) = _
                    rw [show (((n + 1 : Nat) : Int) - 1) = (n : Int) by omega]
                  · have qq := hq H' sm
                    rw [h2, Bool.true_and, Bool.true_and] at qq
                    exact qq
                · refine iteN h2 ?_
                  have qq := hq H (Same.refl _)
                  rw [Bool.eq_false_iff.mpr h2, Bool.false_and, Bool.and_false] at qq
                  exact qq
              · refine iteN (nd_of fun z => hw (V.str.inj z)) ?_
                have qq := hq H (Same.refl _)
                rw [decide_eq_false hw, Bool.false_and] at qq
                exact qq
        · refine iteP (len_ne (by rw [el]; omega)) ?_
          have qq := q H (Same.refl _)
          rw [flo_ne3 n h3] at qq
          exact qq
      | _ => cases ht
    · have e0 : isTup d = false := Bool.eq_false_iff.mpr ht
      rw [e0]
      refine iteT ?_
      have qq := q H (Same.refl _)
      rw [flo_nt n e0] at qq
      exact qq
theorem itm_ne2 {fl : D → Bool} {ds : List D} (h : ds.length ≠ 2) : itmW fl (.tup ds) = false := by
  match ds, h with
  | [], _ => rfl
  | [_], _ => rfl
  | [_, _], h => exact absurd rfl h
  | _ :: _ :: _ :: _, _ => rfl
theorem itm_nt {fl : D → Bool} {d : D} (h : isTup d = false) : itmW fl d = false := by
  cases d <;> first | rfl | cases h
abbrev s_is_item : Stmt := top 14
abbrev n_is_item : List Str := ["value", "floors", "factor", "thing"]
theorem sc_is_item : FnScope n_is_item ["value", "floors"] (defScope s_is_item) := ⟨rfl, rfl, rfl, by decide +kernel, rfl, by decide +kernel, by decide +kernel⟩
theorem ok_item {f : Addr} {fd : FuncData} {k n : Nat} (F : Fun K "_is_item" "_is_item" s_is_item f fd) (T1 : mg "isinstance" = none) (T2 : mg "tuple" = none) (T3 : mg "len" = none) (D1 : Df P w K mg base k "is_between" ["value", "low", "high"] (spBtw K)) (D2 : Df P w K mg base k "is_variable" ["value"] (spVar K)) (D3 : Df P w K mg base k "_is_floor" ["value", "floors"] (spFlo K n)) :
    FnOk P w K mg base CX0 (k + 1) f fd ["value", "floors"] (spItem K n) := by
  refine F.ok sc_is_item (fun vs H Q E h => ?_) (fun cdv A outer s H vs Q E hr h => ?_)
  · obtain ⟨v, d, rfl, _⟩ := h
    rfl
  · obtain ⟨v, d, rfl, hv, hs, q⟩ := h
    have nd := sc_is_item.nd
    refine ⟨_, (pss_cons (ps_if (pw_or (pt_not (pt_val (pe_callB call_isi (by rfl) T1 (by decide +kernel) (pa_cons (pv 0) (pa_cons (pe_bltn (v := .ty "tuple") (by rfl) T2 (by decide +kernel) rfl) pa_nil))))) (pw_or1 (pt_cmpR op_ne (pe_callB call_len_seq (by rfl) T3 (by decide +kernel) (pa_cons (pv 0) pa_nil)) pe_int (nomark _)))).pt
      (pss_one (ps_ret pe_bl))
      pss_nil)
      (pss_cons (ps_asg (pv 0) (pg_tup rfl (pgs_cons (pg_name (i := 2) nd rfl (Or.inl rfl)) (pgs_cons (pg_name (i := 3) nd rfl (Or.inl rfl)) pgs_nil))))
      (pss_one (ps_ret (pe_and (pe_callD D1 hr (Nat.le_refl _) (pa_cons (pv 2) (pa_cons (pe_un un_neg pe_int) (pa_cons pe_int pa_nil)))) (pe_and (pe_cmpR op_ne (pv 2) pe_int (nomark _)) (pe_one (pe_or (pe_callD D2 hr (Nat.le_refl _) (pa_cons (pv 3) pa_nil)) (pe_one (pe_callD D3 hr (Nat.le_refl _) (pa_cons (pv 3) (pa_cons (pv 1) pa_nil)))))))))))), ?_⟩
    refine ⟨_, rfl, _, _, _, _, _, rfl, .ty _, tyX _ hv, kit_ty (kit_tuple _), _, rfl, ?_⟩
    by_cases ht : isTup d = true
    · cases d with
      | tup ds =>
        obtain ⟨a, xs, rfl, S, hl, rr⟩ := id hv
        have el := rr.len
        refine iteF ⟨_, rfl, a, _, rfl, .inr S, rfl, _, rfl, ?_⟩
        by_cases h2 : ds.length = 2
        · refine iteN (by rw [len_eq (by rw [el, h2]; rfl)]; decide) ?_
          match ds, h2 with
          | [dfa, dt], _ =>
            obtain ⟨x1, r1, rfl, p1, x2, r2, rfl, p2, rfl⟩ := rr
            have hF := hs dfa dt rfl
            have hsh : Short dt := by cases n <;> exact hF.1
            have hq : ∀ H', Same H H' → Q (.bl (btw dfa (-9) 9 && (!is0 dfa && (varD dt || flo n dt)))) H' := q
            refine ⟨_, rfl, a, _, rfl, S, rfl, _, _, rfl, _, _, rfl, rfl, ?_⟩
            refine ⟨_, rfl, _, rfl, x1, dfa, _, _, rfl, p1, _, rfl, ?_⟩
            by_cases h1 : btw dfa (-9) 9 = true
            · refine iteP h1 ?_
              rw [h1] at hq
              obtain ⟨z, rfl⟩ : ∃ z, dfa = .int z := by cases dfa <;> first | exact ⟨_, rfl⟩ | cases h1
              obtain rfl : x1 = .int z := p1
              refine ⟨_, rfl, rfl, _, rfl, ?_⟩
              by_cases h0 : z = 0
              · refine iteN (by subst h0; decide) ?_
                have qq := hq H (Same.refl _)
                rw [show is0 (.int z) = true from decide_eq_true h0] at qq
                exact qq
              · refine iteP (by rw [decide_eq_false (fun e => h0 (V.int.inj e))]; rfl) ?_
                rw [show is0 (.int z) = false from decide_eq_false h0] at hq
                refine ⟨_, rfl, x2, dt, rfl, p2, hsh, fun H1 sm1 => ⟨_, rfl, ?_⟩⟩
                by_cases hv1 : varD dt = true
                · refine iteP hv1 ?_
                  have qq := hq H1 sm1
                  rw [hv1] at qq
                  exact qq
                · refine iteN hv1 ⟨_, rfl, _, rfl, x2, dt, rfl, Rp.same sm1 _ p2, hF, fun H2 sm2 => ?_⟩
                  have qq := hq H2 (sm1.trans sm2)
                  rw [Bool.eq_false_iff.mpr hv1] at qq
                  exact qq
            · refine iteN h1 ?_
              have qq := hq H (Same.refl _)
              rw [Bool.eq_false_iff.mpr h1] at qq
              exact qq
        · refine iteP (len_ne (by rw [el]; omega)) ?_
          have qq := q H (Same.refl _)
          rw [itm_ne2 h2] at qq
          exact qq
      | _ => cases ht
    · have e0 : isTup d = false := Bool.eq_false_iff.mpr ht
      rw [e0]
      refine iteT ?_
      have qq := q H (Same.refl _)
      rw [itm_nt e0] at qq
      exact qq
theorem trm_ne2 {n : Nat} {ds : List D} (h : ds.length ≠ 2) : trm n (.tup ds) = false := by
  rw [trm_eq]
  match ds, h with
  | [], _ => rfl
  | [a], _ => cases a <;> rfl
  | [_, _], h => exact absurd rfl h
  | a :: _ :: _ :: _, _ => cases a <;> rfl
theorem trm_nt {n : Nat} {d : D} (h : isTup d = false) : trm n d = false := by
  rw [trm_eq]
  cases d <;> first | rfl | cases h
theorem trm_ni {n : Nat} {d c : D} (h : isTup d = false) : trm n (.tup [d, c]) = false := by
  rw [trm_eq]
  cases d <;> first | rfl | cases h
abbrev s_is_term_with : Stmt := top 13
abbrev n_is_term_with : List Str := ["value", "floors", "items", "constant", "item"]
theorem sc_is_term_with : FnScope n_is_term_with ["value", "floors"] (defScope s_is_term_with) := ⟨rfl, rfl, rfl, by decide +kernel, rfl, by decide +kernel, by decide +kernel⟩
theorem all_takeD {f : D → Bool} {l : List D} {i : Nat} {c : D} (h : l[i]? = some c) : (l.take (i + 1)).map f = (l.take i).map f ++ [f c] := by
  rw [List.take_add_one, h, List.map_append]
  rfl
theorem ok_termW {f : Addr} {fd : FuncData} {k n : Nat} {tk : Tok} (F : Fun K "_is_term_with" "_is_term_with" s_is_term_with f fd) (T1 : mg "isinstance" = none) (T2 : mg "tuple" = none) (T3 : mg "len" = none) (T4 : mg "all" = none) (mI : mg "MOST_ITEMS" = some (.int 4 tk)) (D1 : Df P w K mg base k "is_between" ["value", "low", "high"] (spBtw K)) (D2 : Df P w K mg base k "_is_item" ["value", "floors"] (spItem K n)) :
    FnOk P w K mg base CX0 (k + 1) f fd ["value", "floors"] (spTermW K n) := by
  refine F.ok sc_is_term_with (fun vs H Q E h => ?_) (fun cdv A outer s H vs Q E hr h => ?_)
  · obtain ⟨v, d, rfl, _⟩ := h
    rfl
  · obtain ⟨v, d, rfl, hv, hs, q⟩ := h
    have nd := sc_is_term_with.nd
    refine ⟨_, (pss_cons (ps_if (pw_or (pt_not (pt_val (pe_callB call_isi (by rfl) T1 (by decide +kernel) (pa_cons (pv 0) (pa_cons (pe_bltn (v := .ty "tuple") (by rfl) T2 (by decide +kernel) rfl) pa_nil))))) (pw_or1 (pt_cmpR op_ne (pe_callB call_len_seq (by rfl) T3 (by decide +kernel) (pa_cons (pv 0) pa_nil)) pe_int (nomark _)))).pt
      (pss_one (ps_ret pe_bl))
      pss_nil)
      (pss_cons (ps_asg (pv 0) (pg_tup rfl (pgs_cons (pg_name (i := 2) nd rfl (Or.inl rfl)) (pgs_cons (pg_name (i := 3) nd rfl (Or.inl rfl)) pgs_nil))))
      (pss_cons (ps_if (pw_or (pt_not (pt_val (pe_callB call_isi (by rfl) T1 (by decide +kernel) (pa_cons (pv 2) (pa_cons (pe_bltn (v := .ty "tuple") (by rfl) T2 (by decide +kernel) rfl) pa_nil))))) (pw_or (pt_cmpR op_gt (pe_callB call_len_seq (by rfl) T3 (by decide +kernel) (pa_cons (pv 2) pa_nil)) (pe_glob (v := .int 4) (by rfl) mI ⟨_, rfl⟩) (nomark _)) (pw_or1 (pt_not (pt_val (pe_callD D1 hr (Nat.le_refl _) (pa_cons (pv 3) (pa_cons (pe_un un_neg pe_int) (pa_cons pe_int pa_nil))))))))).pt
      (pss_one (ps_ret pe_bl))
      pss_nil)
      (pss_one (ps_ret (pe_callB (cr_all rfl) (by rfl) T4 (by decide +kernel) (pa_cons (pe_lc (own := [("item", 4)]) (g := gName 4) (tt := tYes) (by rfl) nd (pi_tup (pv 2)) (blkOk_by (own := [("item", 4)]) (N := n_is_term_with) (sc := defScope s_is_term_with) (by decide +kernel)) (fun _ _ _ _ _ => (pg_name (i := 4) nd rfl (Or.inl rfl))) (fun _ _ _ _ _ => pts_nil) (fun _ _ _ _ _ => (pe_callD D2 hr (Nat.le_refl _) (pa_cons (pv 4) (pa_cons (pv 1) pa_nil))))) pa_nil))))))), ?_⟩
    refine ⟨_, rfl, _, _, _, _, _, rfl, .ty _, tyX _ hv, kit_ty (kit_tuple _), _, rfl, ?_⟩
    by_cases ht : isTup d = true
    · cases d with
      | tup ds =>
        obtain ⟨a, xs, rfl, S, hl, rr⟩ := id hv
        have el := rr.len
        refine iteF ⟨_, rfl, a, _, rfl, .inr S, rfl, _, rfl, ?_⟩
        by_cases h2 : ds.length = 2
        · refine iteN (by rw [len_eq (by rw [el, h2]; rfl)]; decide) ?_
          match ds, h2 with
          | [di, dc], _ =>
            obtain ⟨x1, r1, rfl, p1, x2, r2, rfl, p2, rfl⟩ := rr
            refine ⟨_, rfl, a, _, rfl, S, rfl, _, _, rfl, _, _, rfl, rfl, ?_⟩
            refine ⟨_, rfl, _, _, _, _, _, rfl, .ty _, tyX _ p1, kit_ty (kit_tuple _), _, rfl, ?_⟩
            by_cases hti : isTup di = true
            · cases di with
              | tup its =>
                obtain ⟨ai, xi, rfl, Si, hli, ri⟩ := id p1
                have eli := ri.len
                have hq : ∀ H', Same H H' → Q (.bl (decide (its.length ≤ 4) && (btw dc (-1000) 1000 && its.all (itmW (flo n))))) H' := fun H' sm => by
                  have qq := q H' sm
                  rw [trm_eq] at qq
                  exact qq
                refine iteF ⟨_, rfl, ai, _, rfl, .inr Si, ?_⟩
                refine ⟨_, _, rfl, rfl, _, rfl, ?_⟩
                by_cases h4 : its.length ≤ 4
                · refine iteN (nd_of (by omega)) ?_
                  rw [decide_eq_true h4, Bool.true_and] at hq
                  refine ⟨_, rfl, _, rfl, x2, dc, _, _, rfl, p2, _, rfl, ?_⟩
                  by_cases hb : btw dc (-1000) 1000 = true
                  · rw [hb]
                    refine iteF ?_
                    rw [hb, Bool.true_and] at hq
                    refine ⟨_, rfl, ai, rfl, ⟨_, Si⟩, fun D hD => ?_⟩
                    refine lc_tup (K := K) (a := ai) (xs := xi) (fun i H' => H' D = some (.lst (((its.take i).map (itmW (flo n))).map V.bl)) ∧ Same H H') ⟨upd_same, sNew (Same.refl _) hD⟩ (fun i H' _ h => sameT h.2 Si) ?_ ?_
                    · rintro i x H1 hx ⟨h1, sm⟩
                      obtain ⟨di, e1, p3⟩ := ri.at_ hx
                      refine ⟨rfl, yes_if ⟨_, rfl, _, rfl, x, di, rfl, Rp.same sm _ p3, fun fa t e => hs.it (List.mem_of_getElem? e1) e, fun H2 sm2 => ?_⟩⟩
                      refine ⟨_, sm2 _ _ h1, ?_, ?_, sm_up2 (sm.trans sm2) hD⟩
                      · rw [List.length_map, List.length_map, List.length_take, sizeLine_eq]; omega
                      · rw [upd_same, all_takeD e1, List.map_append]; rfl
                    · rintro H1 ⟨h1, sm⟩
                      refine ⟨D, _, rfl, SqL.of h1, ?_⟩
                      have e : ((its.take xi.length).map (itmW (flo n))).all id = its.all (itmW (flo n)) := by
                        rw [eli, List.take_length, List.all_map]; rfl
                      rw [e]
                      exact hq H1 sm
                  · rw [Bool.eq_false_iff.mpr hb]
                    refine iteT ?_
                    have qq := hq H (Same.refl _)
                    rw [Bool.eq_false_iff.mpr hb] at qq
                    exact qq
                · refine iteP (decide_eq_true (by omega)) ?_
                  have qq := hq H (Same.refl _)
                  rw [decide_eq_false h4] at qq
                  exact qq
              | _ => cases hti
            · have e0 : isTup di = false := Bool.eq_false_iff.mpr hti
              rw [e0]
              refine iteT ?_
              have qq := q H (Same.refl _)
              rw [trm_ni e0] at qq
              exact qq
        · refine iteP (len_ne (by rw [el]; omega)) ?_
          have qq := q H (Same.refl _)
          rw [trm_ne2 h2] at qq
          exact qq
      | _ => cases ht
    · have e0 : isTup d = false := Bool.eq_false_iff.mpr ht
      rw [e0]
      refine iteT ?_
      have qq := q H (Same.refl _)
      rw [trm_nt e0] at qq
      exact qq
theorem all_progs {ft fi ff : Addr} {dt di df : FuncData} {k : Nat} {tk : Tok} (FT : Fun K "_is_term_with" "_is_term_with" s_is_term_with ft dt) (FI : Fun K "_is_item" "_is_item" s_is_item fi di) (FF : Fun K "_is_floor" "_is_floor" s_is_floor ff df)
    (T1 : mg "isinstance" = none) (T2 : mg "tuple" = none) (T3 : mg "len" = none) (T4 : mg "all" = none) (mI : mg "MOST_ITEMS" = some (.int 4 tk)) (D1 : Df P w K mg base k "is_between" ["value", "low", "high"] (spBtw K)) (D2 : Df P w K mg base k "is_variable" ["value"] (spVar K)) (D3 : Df P w K mg base k "is_slope" ["value"] (spIsSlope K))
    (bT : Binds K dt ["value", "floors"] []) (bI : Binds K di ["value", "floors"] []) (bF : Binds K df ["value", "floors"] []) (mT : mg "_is_term_with" = some (.ref ft)) (mIt : mg "_is_item" = some (.ref fi)) (mF : mg "_is_floor" = some (.ref ff)) :
    ∀ n : Nat, FnOk P w K mg base CX0 (k + 3 * n + 3) ft dt ["value", "floors"] (spTermW K n)
  | 0 => by
    have G := ok_floor (P := P) (w := w) (base := base) (n := 0) FF T1 T2 T3 D3 ⟨_, _, fn_false, bT, mT, FT.kp⟩
    have G2 := ok_item (n := 0) FI T1 T2 T3 (D1.mono (Nat.le_succ _)) (D2.mono (Nat.le_succ _)) ⟨_, _, G, bF, mF, FF.kp⟩
    exact ok_termW FT T1 T2 T3 T4 mI (D1.mono (by omega)) ⟨_, _, G2, bI, mIt, FI.kp⟩
  | n + 1 => by
    have IH := all_progs FT FI FF T1 T2 T3 T4 mI D1 D2 D3 bT bI bF mT mIt mF n
    have G := ok_floor (P := P) (w := w) (base := base) (n := n + 1) FF T1 T2 T3 (D3.mono (by omega)) ⟨_, _, IH, bT, mT, FT.kp⟩
    have G2 := ok_item (n := n + 1) FI T1 T2 T3 (D1.mono (by omega)) (D2.mono (by omega)) ⟨_, _, G, bF, mF, FF.kp⟩
    have G3 := ok_termW (n := n + 1) FT T1 T2 T3 T4 mI (D1.mono (by omega)) ⟨_, _, G2, bI, mIt, FI.kp⟩
    have e : k + 3 * (n + 1) + 3 = k + 3 * n + 3 + 1 + 1 + 1 := by omega
    rw [e]
    exact G3
def spIsTerm (K : PySem.W.Frag) : Sp := fun vs H Q _ => ∃ (v : V) (d : D), vs = [v] ∧ Rp K H v d ∧ San 3 d ∧ ∀ H', Same H H' → Q (.bl (trm 3 d)) H'
abbrev s_is_term : Stmt := top 12
abbrev n_is_term : List Str := ["value"]
theorem sc_is_term : FnScope n_is_term ["value"] (defScope s_is_term) := ⟨rfl, rfl, rfl, by decide +kernel, rfl, by decide +kernel, by decide +kernel⟩
theorem ok_isterm {f : Addr} {fd : FuncData} {k : Nat} {tk : Tok} (F : Fun K "is_term" "is_term" s_is_term f fd) (mM : mg "MOST_FLOORS" = some (.int 3 tk)) (D1 : Df P w K mg base k "_is_term_with" ["value", "floors"] (spTermW K 3)) :
    FnOk P w K mg base CX0 (k + 1) f fd ["value"] (spIsTerm K) := by
  refine F.ok sc_is_term (fun vs H Q E h => ?_) (fun cdv A outer s H vs Q E hr h => ?_)
  · obtain ⟨v, d, rfl, _⟩ := h
    rfl
  · obtain ⟨v, d, rfl, hv, hs, q⟩ := h
    refine ⟨_, (pss_one (ps_ret (pe_callD D1 hr (Nat.le_refl _) (pa_cons (pv 0) (pa_cons (pe_glob (v := .int 3) (by rfl) mM ⟨_, rfl⟩) pa_nil))))), ?_⟩
    exact ⟨_, rfl, v, d, rfl, hv, hs, q⟩
end
end RF

namespace RF
open PySem L2 PyProof.Rows
def spLW (K : PySem.W.Frag) : Sp := fun vs H Q _ => ∃ (v : V) (d : D), vs = [v] ∧ Rp K H v d ∧ Short d ∧ ∀ H', Same H H' → Q (.bl (varD d)) H'
def spLT (K : PySem.W.Frag) (n : Nat) : Sp := fun vs H Q _ => ∃ (v : V) (d : D), vs = [v, .int (n : Int)] ∧ Rp K H v d ∧ San n d ∧ ∀ H', Same H H' → Q (.bl (trm n d)) H'
def spLTP (K : PySem.W.Frag) : Nat → Sp
  | 0 => fun _ _ _ _ => False
  | n + 1 => spLT K n
section
variable {P : Program} {w : World} {K : PySem.W.Frag} {mg : Str → Option Value} {base : Heap}
abbrev s_law_is_whole : Stmt := top 25
abbrev n_law_is_whole : List Str := ["_law_value_z", "_law_low", "_law_high"]
theorem sc_law_is_whole : FnScope n_law_is_whole ["_law_value_z", "_law_low", "_law_high"] (defScope s_law_is_whole) := ⟨rfl, rfl, rfl, by decide +kernel, rfl, by decide +kernel, by decide +kernel⟩
theorem ok_lwhole {f : Addr} {fd : FuncData} {k : Nat} (F : Fun K "_law_is_whole" "_law_is_whole" s_law_is_whole f fd) (T1 : mg "isinstance" = none) (T2 : mg "int" = none) (T3 : mg "bool" = none) : FnOk P w K mg base CX0 (k + 1) f fd ["_law_value_z", "_law_low", "_law_high"] (spBtw K) := by
  refine F.ok sc_law_is_whole (fun vs H Q E h => ?_) (fun cdv A outer s H vs Q E hr h => ?_)
  · obtain ⟨v, d, lo, hi, rfl, _⟩ := h
    rfl
  · obtain ⟨v, d, lo, hi, rfl, hv, q⟩ := h
    refine ⟨_, (pss_one (ps_ret (pe_and (pe_callB call_isi (by rfl) T1 (by decide +kernel) (pa_cons (pv 0) (pa_cons (pe_bltn (v := .ty "int") (by rfl) T2 (by decide +kernel) rfl) pa_nil))) (pe_and (pe_not (pe_callB call_isi (by rfl) T1 (by decide +kernel) (pa_cons (pv 0) (pa_cons (pe_bltn (v := .ty "bool") (by rfl) T3 (by decide +kernel) rfl) pa_nil)))) (pe_one (pe_chain op_le op_le (pv 1) (pv 0) (pv 2))))))), ?_⟩
    refine ⟨_, rfl, _, _, _, _, _, rfl, .ty _, tyX _ hv, kit_ty (kit_int _), _, rfl, ?_⟩
    by_cases hi' : isInt d = true
    · refine iteP hi' ⟨_, rfl, _, _, _, _, _, rfl, .ty _, tyX _ hv, kit_ty (kit_bool _), _, rfl, ?_⟩
      cases d with
      | int i =>
        obtain rfl : v = .int i := hv
        refine ⟨_, rfl, iteP rfl ?_⟩
        refine ⟨_, rfl, _, rfl, _, _, rfl, rfl, _, rfl, ?_⟩
        by_cases h1 : lo ≤ i
        · refine iteP (decide_eq_true h1) ⟨_, rfl, _, _, rfl, rfl, ?_⟩
          have e : btw (.int i) lo hi = decide (i ≤ hi) := by show (decide (lo ≤ i) && decide (i ≤ hi)) = _; rw [decide_eq_true h1]; rfl
          rw [e] at q
          exact q
        · refine iteN (nd_of h1) ?_
          have e : btw (.int i) lo hi = false := by show (decide (lo ≤ i) && decide (i ≤ hi)) = _; rw [decide_eq_false h1]; rfl
          rw [e] at q
          exact q
      | bl _ => exact ⟨_, rfl, iteN Bool.false_ne_true q⟩
      | _ => cases hi'
    · refine iteN hi' ?_
      have e : btw d lo hi = false := by cases d <;> first | rfl | exact absurd rfl hi'
      rw [e] at q
      exact q
abbrev s_law_is_word : Stmt := top 24
abbrev n_law_is_word : List Str := ["_law_value_z", "_law_sign"]
theorem sc_law_is_word : FnScope n_law_is_word ["_law_value_z"] (defScope s_law_is_word) := ⟨rfl, rfl, rfl, by decide +kernel, rfl, by decide +kernel, by decide +kernel⟩
theorem abc_cps : (Str.ofString "abcdefghijklmnopqrstuvwxyz").cps.toList = List.range' 97 26 := by decide +kernel
theorem mem_abc (c : Nat) : decide (c ∈ (Str.ofString "abcdefghijklmnopqrstuvwxyz").cps.toList) = letD c := by
  rw [abc_cps]
  unfold letD
  rw [Bool.eq_iff_iff, Bool.and_eq_true, decide_eq_true_iff, decide_eq_true_iff, decide_eq_true_iff, List.mem_range'_1]
  omega
theorem ok_lword {f : Addr} {fd : FuncData} {k : Nat} (F : Fun K "_law_is_word" "_law_is_word" s_law_is_word f fd) (T1 : mg "isinstance" = none) (T2 : mg "str" = none) (T3 : mg "len" = none) (T4 : mg "all" = none) : FnOk P w K mg base CX0 (k + 1) f fd ["_law_value_z"] (spLW K) := by
  refine F.ok sc_law_is_word (fun vs H Q E h => ?_) (fun cdv A outer s H vs Q E hr h => ?_)
  · obtain ⟨v, d, rfl, _⟩ := h
    rfl
  · obtain ⟨v, d, rfl, hv, hs, q⟩ := h
    have nd := sc_law_is_word.nd
    refine ⟨_, (pss_cons (ps_if (pw_or (pt_not (pt_val (pe_callB call_isi (by rfl) T1 (by decide +kernel) (pa_cons (pv 0) (pa_cons (pe_bltn (v := .ty "str") (by rfl) T2 (by decide +kernel) rfl) pa_nil))))) (pw_or (pt_not (pt_chain op_le op_le pe_int (pe_callB call_len_str (by rfl) T3 (by decide +kernel) (pa_cons (pv 0) pa_nil)) pe_int)) (pw_or1 (pt_cmpR op_in_seq (pv 0) (pe_tup (pa_cons pe_str (pa_cons pe_str (pa_cons pe_str (pa_cons pe_str (pa_cons pe_str pa_nil)))))) rfl)))).pt
      (pss_one (ps_ret pe_bl))
      pss_nil)
      (pss_one (ps_ret (pe_callB (cr_all rfl) (by rfl) T4 (by decide +kernel) (pa_cons (pe_lc (own := [("_law_sign", 1)]) (g := gName 1) (tt := tYes) (by rfl) nd (pi_str (pv 0)) (blkOk_by (own := [("_law_sign", 1)]) (N := n_law_is_word) (sc := defScope s_law_is_word) (by decide +kernel)) (fun _ _ _ _ _ => (pg_name (i := 1) nd rfl (Or.inl rfl))) (fun _ _ _ _ _ => pts_nil) (fun _ _ _ _ _ => (pe_cmpR op_in_sign (pv 1) pe_str rfl))) pa_nil))))), ?_⟩
    refine ⟨_, rfl, _, _, _, _, _, rfl, .ty _, tyX _ hv, kit_ty (kit_str _), _, rfl, ?_⟩
    cases d with
    | str x =>
      obtain rfl : v = .str x := hv
      have hq : ∀ H', Same H H' → Q (.bl (varS x)) H' := q
      have hx := hs x rfl
      have e100 : x.length ≤ sizeLine := by rw [sizeLine_eq]; omega
      refine iteF ⟨_, rfl, x, rfl, e100, _, _, rfl, rfl, _, rfl, ?_⟩
      by_cases h1 : (1 : Int) ≤ (x.length : Int)
      · refine iteP (decide_eq_true h1) ⟨_, _, rfl, rfl, _, rfl, ?_⟩
        by_cases h2 : (x.length : Int) ≤ 3
        · rw [decide_eq_true h2]
          refine iteF ⟨_, rfl, by show 5 ≤ sizeLine; decide, fun p hp => ⟨p, _, rfl, .inr (SqT.of upd_same), rfl, flat_str noVars, _, rfl, ?_⟩⟩
          have smp := sNew (o := .tup (noVars.map V.str)) (Same.refl H) hp
          have ein : inV (.str x) [.str "all", .str "and", .str "not", .str "or", .str "r"] = noVars.contains x := inV_str x noVars
          by_cases h3 : noVars.contains x = true
          · refine iteP (by first | exact ein.trans h3 | (rw [← h3]; exact ein)) ?_
            have qq := hq _ smp
            unfold varS at qq
            rw [h3, Bool.not_true, Bool.and_false] at qq
            exact qq
          · refine iteN (by rw [show _ = _ from ein]; exact h3) ?_
            have hq' : ∀ H', Same H H' → Q (.bl (x.cps.toList.all letD)) H' := fun H' sm => by
              have qq := hq H' sm
              unfold varS wordS at qq
              rw [Bool.eq_false_iff.mpr h3, decide_eq_true h1, decide_eq_true h2, Bool.not_false, Bool.and_true, Bool.true_and, Bool.true_and] at qq
              exact qq
            refine ⟨_, rfl, x, rfl, fun D hD => ?_⟩
            refine lc_it (walk_str (z := x)) (fun i H' => H' D = some (.lst (((x.cps.toList.take i).map letD).map V.bl)) ∧ Same H H') ⟨upd_same, sNew smp hD⟩ (fun _ _ _ _ => trivial) ?_ ?_
            · rintro i y H1 H2 hi2 ⟨h3, sm⟩ ⟨rfl, c, hc, rfl⟩
              refine ⟨rfl, yes_if ?_⟩
              have hsz : x.cps.size = x.length := rfl
              have hc' : x.cps.toList[i]? = some c := by rw [Array.getElem?_toList]; exact hc
              refine ⟨_, rfl, c, _, rfl, rfl, ?_⟩
              rw [mem_abc]
              refine ⟨_, h3, ?_, ?_, sm_up2 sm (of_new hD)⟩
              · rw [List.length_map, List.length_map, List.length_take, sizeLine_eq]; omega
              · rw [upd_same, all_take hc', List.map_append]; rfl
            · rintro H1 ⟨h3, sm⟩
              refine ⟨D, _, rfl, SqL.of h3, ?_⟩
              have e : ((x.cps.toList.take x.cps.size).map letD).all id = x.cps.toList.all letD := by
                rw [List.take_of_length_le (by simp), List.all_map]; rfl
              rw [e]
              exact hq' H1 sm
        · rw [decide_eq_false h2]
          refine iteT ?_
          have qq := hq H (Same.refl _)
          unfold varS wordS at qq
          rw [decide_eq_false h2, Bool.false_and, Bool.and_false, Bool.false_and] at qq
          exact qq
      · refine iteN (nd_of h1) ⟨_, rfl, iteT ?_⟩
        have qq := hq H (Same.refl _)
        unfold varS wordS at qq
        rw [decide_eq_false h1, Bool.false_and, Bool.false_and] at qq
        exact qq
    | non => exact iteT (q H (Same.refl _))
    | bl _ => exact iteT (q H (Same.refl _))
    | int _ => exact iteT (q H (Same.refl _))
    | lst _ => exact iteT (q H (Same.refl _))
    | tup _ => exact iteT (q H (Same.refl _))
abbrev s_law_is_step : Stmt := top 27
abbrev n_law_is_step : List Str := ["_law_value_z"]
theorem sc_law_is_step : FnScope n_law_is_step ["_law_value_z"] (defScope s_law_is_step) := ⟨rfl, rfl, rfl, by decide +kernel, rfl, by decide +kernel, by decide +kernel⟩
theorem ok_lstep {f : Addr} {fd : FuncData} {k : Nat} (F : Fun K "_law_is_step" "_law_is_step" s_law_is_step f fd) (T1 : mg "isinstance" = none) (T2 : mg "tuple" = none) (T3 : mg "len" = none)
    (D1 : Df P w K mg base k "_law_is_whole" ["_law_value_z", "_law_low", "_law_high"] (spBtw K)) : FnOk P w K mg base CX0 (k + 1) f fd ["_law_value_z"] (spIsSlope K) := by
  refine F.ok sc_law_is_step (fun vs H Q E h => ?_) (fun cdv A outer s H vs Q E hr h => ?_)
  · obtain ⟨v, d, rfl, _⟩ := h
    rfl
  · obtain ⟨v, d, rfl, hv, q⟩ := h
    refine ⟨_, (pss_cons (ps_if (pw_or (pt_not (pt_val (pe_callB call_isi (by rfl) T1 (by decide +kernel) (pa_cons (pv 0) (pa_cons (pe_bltn (v := .ty "tuple") (by rfl) T2 (by decide +kernel) rfl) pa_nil))))) (pw_or1 (pt_cmpR op_ne (pe_callB call_len_seq (by rfl) T3 (by decide +kernel) (pa_cons (pv 0) pa_nil)) pe_int (nomark _)))).pt
      (pss_one (ps_ret pe_bl))
      pss_nil)
      (pss_one (ps_ret (pe_and (pe_callD D1 hr (Nat.le_refl _) (pa_cons (pe_ix ix_tup (pv 0) pe_int (fun _ _ => rfl)) (pa_cons (pe_un un_neg pe_int) (pa_cons pe_int pa_nil)))) (pe_and (pe_callD D1 hr (Nat.le_refl _) (pa_cons (pe_ix ix_tup (pv 0) pe_int (fun _ _ => rfl)) (pa_cons (pe_un un_neg pe_int) (pa_cons pe_int pa_nil)))) (pe_one (pe_callD D1 hr (Nat.le_refl _) (pa_cons (pe_ix ix_tup (pv 0) pe_int (fun _ _ => rfl)) (pa_cons pe_int (pa_cons pe_int pa_nil)))))))))), ?_⟩
    refine ⟨_, rfl, _, _, _, _, _, rfl, .ty _, tyX _ hv, kit_ty (kit_tuple _), _, rfl, ?_⟩
    cases d with
    | tup ds =>
      obtain ⟨a, xs, rfl, S, hl, rr⟩ := id hv
      have el := rr.len
      refine iteF ⟨_, rfl, a, _, rfl, .inr S, rfl, _, rfl, ?_⟩
      by_cases h3 : ds.length = 3
      · refine iteN (by rw [len_eq (by rw [el, h3]; rfl)]; decide) ?_
        match ds, h3 with
        | [d1, d2, d3], _ =>
          obtain ⟨x1, r1, rfl, p1, x2, r2, rfl, p2, x3, r3, rfl, p3, rfl⟩ := rr
          refine ⟨_, rfl, a, _, _, _, rfl, rfl, S, rfl, _, rfl, x1, d1, _, _, rfl, p1, _, rfl, ?_⟩
          by_cases h1 : btw d1 (-9) 9 = true
          · refine iteP h1 ⟨_, rfl, a, _, _, _, rfl, rfl, S, rfl, _, rfl, x2, d2, _, _, rfl, p2, _, rfl, ?_⟩
            by_cases h2 : btw d2 (-3) 3 = true
            · refine iteP h2 ⟨_, rfl, a, _, _, _, rfl, rfl, S, rfl, x3, d3, _, _, rfl, p3, ?_⟩
              have e : slopeD (.tup [d1, d2, d3]) = btw d3 1 4 := by show (btw d1 (-9) 9 && (btw d2 (-3) 3 && btw d3 1 4)) = _; rw [h1, h2]; rfl
              rw [e] at q
              exact q
            · refine iteN h2 ?_
              have e : slopeD (.tup [d1, d2, d3]) = false := by show (btw d1 (-9) 9 && (btw d2 (-3) 3 && btw d3 1 4)) = _; rw [Bool.eq_false_iff.mpr h2]; simp
              rw [e] at q
              exact q
          · refine iteN h1 ?_
            have e : slopeD (.tup [d1, d2, d3]) = false := by show (btw d1 (-9) 9 && (btw d2 (-3) 3 && btw d3 1 4)) = _; rw [Bool.eq_false_iff.mpr h1]; rfl
            rw [e] at q
            exact q
      · rw [slope_ne3 h3] at q
        refine iteP (len_ne (by rw [el]; omega)) q
    | non => exact iteT q
    | bl _ => exact iteT q
    | int _ => exact iteT q
    | str _ => exact iteT q
    | lst _ => exact iteT q
theorem all_no {f : D → Bool} {l : List D} {i : Nat} {c : D} (h : l[i]? = some c) (hf : f c = false) : l.all f = false := by
  rw [List.all_eq_false]
  exact ⟨c, List.mem_of_getElem? h, by rw [hf]; decide⟩
abbrev s_law_is_term : Stmt := top 26
abbrev n_law_is_term : List Str := ["_law_value_z", "_law_deep", "_law_item", "_law_thing"]
theorem sc_law_is_term : FnScope n_law_is_term ["_law_value_z", "_law_deep"] (defScope s_law_is_term) := ⟨rfl, rfl, rfl, by decide +kernel, rfl, by decide +kernel, by decide +kernel⟩
theorem ok_lterm {f : Addr} {fd : FuncData} {k n : Nat} (F : Fun K "_law_is_term" "_law_is_term" s_law_is_term f fd) (T1 : mg "isinstance" = none) (T2 : mg "tuple" = none) (T3 : mg "len" = none)
    (D1 : Df P w K mg base k "_law_is_whole" ["_law_value_z", "_law_low", "_law_high"] (spBtw K)) (D2 : Df P w K mg base k "_law_is_word" ["_law_value_z"] (spLW K)) (D3 : Df P w K mg base k "_law_is_step" ["_law_value_z"] (spIsSlope K)) (D4 : Df P w K mg base k "_law_is_term" ["_law_value_z", "_law_deep"] (spLTP K n)) :
    FnOk P w K mg base CX0 (k + 1) f fd ["_law_value_z", "_law_deep"] (spLT K n) := by
  refine F.ok sc_law_is_term (fun vs H Q E h => ?_) (fun cdv A outer s H vs Q E hr h => ?_)
  · obtain ⟨v, d, rfl, _⟩ := h
    rfl
  · obtain ⟨v, d, rfl, hv, hs, q⟩ := h
    have nd := sc_law_is_term.nd
    refine ⟨_, (pss_cons (ps_if (pw_or (pt_not (pt_val (pe_callB call_isi (by rfl) T1 (by decide +kernel) (pa_cons (pv 0) (pa_cons (pe_bltn (v := .ty "tuple") (by rfl) T2 (by decide +kernel) rfl) pa_nil))))) (pw_or (pt_cmpR op_ne (pe_callB call_len_seq (by rfl) T3 (by decide +kernel) (pa_cons (pv 0) pa_nil)) pe_int (nomark _)) (pw_or (pt_not (pt_val (pe_callB call_isi (by rfl) T1 (by decide +kernel) (pa_cons (pe_ix ix_tup (pv 0) pe_int (fun _ _ => rfl)) (pa_cons (pe_bltn (v := .ty "tuple") (by rfl) T2 (by decide +kernel) rfl) pa_nil))))) (pw_or1 (pt_cmpR op_gt (pe_callB call_len_seq (by rfl) T3 (by decide +kernel) (pa_cons (pe_ix ix_tup (pv 0) pe_int (fun _ _ => rfl)) pa_nil)) pe_int (nomark _)))))).pt
      (pss_one (ps_ret pe_bl))
      pss_nil)
      (pss_cons (ps_if (pt_not (pt_val (pe_callD D1 hr (Nat.le_refl _) (pa_cons (pe_ix ix_tup (pv 0) pe_int (fun _ _ => rfl)) (pa_cons (pe_un un_neg pe_int) (pa_cons pe_int pa_nil))))))
      (pss_one (ps_ret pe_bl))
      pss_nil)
      (pss_cons (ps_for PassesOwn.never rfl (pi_tup (pe_ix ix_tup (pv 0) pe_int (fun _ _ => rfl))) (pg_name (i := 2) nd rfl (Or.inl rfl))
      (pss_cons (ps_if (pw_or (pt_not (pt_val (pe_callB call_isi (by rfl) T1 (by decide +kernel) (pa_cons (pv 2) (pa_cons (pe_bltn (v := .ty "tuple") (by rfl) T2 (by decide +kernel) rfl) pa_nil))))) (pw_or (pt_cmpR op_ne (pe_callB call_len_seq (by rfl) T3 (by decide +kernel) (pa_cons (pv 2) pa_nil)) pe_int (nomark _)) (pw_or (pt_not (pt_val (pe_callD D1 hr (Nat.le_refl _) (pa_cons (pe_ix ix_tup (pv 2) pe_int (fun _ _ => rfl)) (pa_cons (pe_un un_neg pe_int) (pa_cons pe_int pa_nil)))))) (pw_or1 (pt_cmpR op_eq (pe_ix ix_tup (pv 2) pe_int (fun _ _ => rfl)) pe_int (nomark _)))))).pt
        (pss_one (ps_ret pe_bl))
        pss_nil)
        (pss_one (ps_if (pt_not (pt_val (pe_callD D2 hr (Nat.le_refl _) (pa_cons (pe_ix ix_tup (pv 2) pe_int (fun _ _ => rfl)) pa_nil))))
        (pss_cons (ps_set (i := 3) nd rfl (Or.inl rfl) (pe_ix ix_tup (pv 2) pe_int (fun _ _ => rfl)))
          (pss_cons (ps_if (pw_or (pt_not (pt_val (pe_callB call_isi (by rfl) T1 (by decide +kernel) (pa_cons (pv 3) (pa_cons (pe_bltn (v := .ty "tuple") (by rfl) T2 (by decide +kernel) rfl) pa_nil))))) (pw_or (pt_cmpR op_ne (pe_callB call_len_seq (by rfl) T3 (by decide +kernel) (pa_cons (pv 3) pa_nil)) pe_int (nomark _)) (pw_or (pt_cmpR op_ne (pe_ix ix_tup (pv 3) pe_int (fun _ _ => rfl)) pe_str (nomark _)) (pw_or1 (pt_cmpR op_eq (pv 1) pe_int (nomark _)))))).pt
          (pss_one (ps_ret pe_bl))
          pss_nil)
          (pss_one (ps_if (pw_or (pt_not (pt_val (pe_callD D3 hr (Nat.le_refl _) (pa_cons (pe_ix ix_tup (pv 3) pe_int (fun _ _ => rfl)) pa_nil)))) (pw_or1 (pt_not (pt_val (pe_callD D4 hr (Nat.le_refl _) (pa_cons (pe_ix ix_tup (pv 3) pe_int (fun _ _ => rfl)) (pa_cons (pe_op op_sub (pv 1) pe_int) pa_nil))))))).pt
          (pss_one (ps_ret pe_bl))
          pss_nil))))
        pss_nil))))
      (pss_one (ps_ret pe_bl))))), ?_⟩
    refine ⟨_, rfl, _, _, _, _, _, rfl, .ty _, tyX _ hv, kit_ty (kit_tuple _), _, rfl, ?_⟩
    by_cases ht : isTup d = true
    · cases d with
      | tup ds =>
        obtain ⟨a, xs, rfl, S, hl, rr⟩ := id hv
        have el := rr.len
        refine iteF ⟨_, rfl, a, _, rfl, .inr S, rfl, _, rfl, ?_⟩
        by_cases h2 : ds.length = 2
        · refine iteN (by rw [len_eq (by rw [el, h2]; rfl)]; decide) ?_
          match ds, h2 with
          | [di, dc], _ =>
            obtain ⟨x1, r1, rfl, p1, x2, r2, rfl, p2, rfl⟩ := rr
            refine ⟨_, rfl, a, _, _, _, rfl, rfl, S, rfl, _, _, _, _, _, rfl, .ty _, tyX _ p1, kit_ty (kit_tuple _), _, rfl, ?_⟩
            by_cases hti : isTup di = true
            · cases di with
              | tup its =>
                obtain ⟨ai, xi, rfl, Si, hli, ri⟩ := id p1
                have eli := ri.len
                have hq : ∀ H', Same H H' → Q (.bl (decide (its.length ≤ 4) && (btw dc (-1000) 1000 && its.all (itmW (flo n))))) H' := fun H' sm => by
                  have qq := q H' sm
                  rw [trm_eq] at qq
                  exact qq
                refine iteF ⟨_, rfl, a, _, _, _, rfl, rfl, S, rfl, ai, _, rfl, .inr Si, _, _, rfl, rfl, _, rfl, ?_⟩
                by_cases h4 : its.length ≤ 4
                · refine iteN (nd_of (by omega)) ?_
                  rw [decide_eq_true h4, Bool.true_and] at hq
                  refine ⟨_, rfl, a, _, _, _, rfl, rfl, S, rfl, _, rfl, x2, dc, _, _, rfl, p2, _, rfl, ?_⟩
                  by_cases hb : btw dc (-1000) 1000 = true
                  · rw [hb]
                    refine iteF ?_
                    rw [hb, Bool.true_and] at hq
                    refine ⟨_, rfl, a, _, _, _, rfl, rfl, S, rfl, ai, rfl, ⟨_, Si⟩, ?_⟩
                    have no : ∀ {i : Nat} {c : D} {H' : Hp}, its[i]? = some c → itmW (flo n) c = false → Same H H' → Q (.bl false) H' := fun e z sm => by
                      have qq := hq _ sm
                      rw [all_no e z] at qq
                      exact qq
                    refine for_tup (K := K) (a := ai) (xs := xi) (fun i σ H' => ∃ v2 v3 : Option V, σ = [some (.ref a), some (.int (n : Int)), v2, v3] ∧ Same H H' ∧ (its.take i).all (itmW (flo n)) = true)
                      ⟨none, none, rfl, Same.refl _, rfl⟩ (fun i σ H' _ h => by obtain ⟨_, _, _, sm, _⟩ := h; exact sameT sm Si) ?_ ?_
                    · rintro i x σ H1 hx ⟨v2, v3, rfl, sm, hall⟩
                      obtain ⟨it, e1, p3⟩ := ri.at_ hx
                      have p3 := Rp.same sm _ p3
                      have nxt : itmW (flo n) it = true → (its.take (i + 1)).all (itmW (flo n)) = true := fun z => by
                        rw [List.take_add_one, e1, List.all_append, hall]
                        show (true && (itmW (flo n) it && true)) = true
                        rw [z]; rfl
                      refine ⟨_, rfl, _, _, _, _, _, rfl, .ty _, tyX _ p3, kit_ty (kit_tuple _), _, rfl, ?_⟩
                      by_cases hi1 : isTup it = true
                      · cases it with
                        | tup es =>
                          obtain ⟨a3, x3, rfl, S3, hl3, r3⟩ := id p3
                          have el3 := r3.len
                          refine iteF ⟨_, rfl, a3, _, rfl, .inr S3, rfl, _, rfl, ?_⟩
                          by_cases h22 : es.length = 2
                          · rw [len_eq (by rw [el3, h22]; rfl)]
                            refine iteN Bool.false_ne_true ?_
                            match es, h22 with
                            | [df, dt], _ =>
                              obtain ⟨y1, q1, rfl, g1, y2, q2, rfl, g2, rfl⟩ := r3
                              have hF := hs.it (List.mem_of_getElem? e1) rfl
                              have hsh : Short dt := by cases n <;> exact hF.1
                              refine ⟨_, rfl, a3, _, _, _, rfl, rfl, S3, rfl, _, rfl, y1, df, _, _, rfl, g1, _, rfl, ?_⟩
                              by_cases h5 : btw df (-9) 9 = true
                              · rw [h5]
                                obtain ⟨z, rfl⟩ : ∃ z, df = .int z := by cases df <;> first | exact ⟨_, rfl⟩ | cases h5
                                obtain rfl : y1 = .int z := g1
                                refine iteF ⟨_, rfl, a3, _, _, _, rfl, rfl, S3, rfl, rfl, _, rfl, ?_⟩
                                by_cases h0 : z = 0
                                · refine iteP (by subst h0; decide) (no e1 ?_ sm)
                                  show (btw (.int z) (-9) 9 && (!is0 (.int z) && _)) = false
                                  rw [show is0 (.int z) = true from decide_eq_true h0]
                                  simp
                                · refine iteN (by rw [decide_eq_false (fun e => h0 (V.int.inj e))]; decide) ?_
                                  have eit : itmW (flo n) (.tup [.int z, dt]) = (varD dt || flo n dt) := by
                                    show (btw (.int z) (-9) 9 && (!is0 (.int z) && (varD dt || flo n dt))) = _
                                    rw [h5, show is0 (.int z) = false from decide_eq_false h0]
                                    rfl
                                  refine ⟨_, rfl, a3, _, _, _, rfl, rfl, S3, rfl, y2, dt, rfl, g2, hsh, fun H2 sm2 => ⟨_, rfl, ?_⟩⟩
                                  have sm12 := sm.trans sm2
                                  have S3' := sameT sm2 S3
                                  by_cases h6 : varD dt = true
                                  · rw [h6]
                                    refine iteF ?_
                                    exact ⟨_, _, rfl, sm12, nxt (by rw [eit, h6]; rfl)⟩
                                  · have h6' := Bool.eq_false_iff.mpr h6
                                    rw [h6', Bool.false_or] at eit
                                    rw [h6']
                                    refine iteT ?_
                                    have g2' := Rp.same sm2 _ g2
                                    refine ⟨_, rfl, a3, _, _, _, rfl, rfl, S3', rfl, ?_⟩
                                    refine ⟨_, rfl, _, _, _, _, _, rfl, .ty _, tyX _ g2', kit_ty (kit_tuple _), _, rfl, ?_⟩
                                    have nof : ∀ {H' : Hp}, flo n dt = false → Same H H' → Q (.bl false) H' := fun z s' => no e1 (eit.trans z) s'
                                    by_cases h7 : isTup dt = true
                                    · cases dt with
                                      | tup gs =>
                                        obtain ⟨a4, x4, rfl, S4, hl4, r4⟩ := id g2'
                                        have el4 := r4.len
                                        refine iteF ⟨_, rfl, a4, _, rfl, .inr S4, rfl, _, rfl, ?_⟩
                                        by_cases h33 : gs.length = 3
                                        · rw [len_eq (by rw [el4, h33]; rfl)]
                                          refine iteN Bool.false_ne_true ?_
                                          match gs, h33 with
                                          | [dw, dsl, du], _ =>
                                            obtain ⟨z1, w1, rfl, k1, z2, w2, rfl, k2, z3, w3, rfl, k3, rfl⟩ := r4
                                            refine ⟨_, rfl, a4, _, _, _, rfl, rfl, S4, rfl, ?_⟩
                                            have hdw : ∃ y, dw = .str y := by cases n <;> exact (hF.2 dw dsl du rfl).1
                                            obtain ⟨y, rfl⟩ := hdw
                                            obtain rfl : z1 = .str y := k1
                                            refine ⟨rfl, _, rfl, ?_⟩
                                            by_cases h8 : y = "floor"
                                            · refine iteN (by rw [decide_eq_true (congrArg V.str h8)]; decide) ?_
                                              refine ⟨_, rfl, rfl, _, rfl, ?_⟩
                                              cases n with
                                              | zero => exact iteP rfl (nof rfl sm12)
                                              | succ n =>
                                                refine iteN (nd_of fun z => by have := V.int.inj z; omega) ?_
                                                have hu : San n du := (hF.2 (.str y) dsl du rfl).2
                                                have ef : flo (n + 1) (.tup [.str y, dsl, du]) = (slopeD dsl && trm n du) := by
                                                  show (decide (y = "floor") && (slopeD dsl && trm n du)) = _
                                                  rw [decide_eq_true h8, Bool.true_and]
                                                refine ⟨_, rfl, a4, _, _, _, rfl, rfl, S4, rfl, z2, dsl, rfl, k2, _, rfl, ?_⟩
                                                by_cases h9 : slopeD dsl = true
                                                · rw [h9] at ef ⊢
                                                  refine iteF ?_
                                                  refine ⟨_, rfl, a4, _, _, _, rfl, rfl, S4, rfl, _, rfl, _, _, rfl, rfl, z3, du, ?_, k3, hu, fun H3 sm3 => ⟨_, rfl, ?_⟩⟩
                                                  · show ([z3, V.int (((n + 1 : Nat) : Int) - 1)] : List V) = _
                                                    rw [show (((n + 1 : Nat) : Int) - 1) = (n : Int) by omega]
                                                  · by_cases h10 : trm n du = true
                                                    · rw [h10]
                                                      refine iteF ?_
                                                      exact ⟨_, _, rfl, sm12.trans sm3, nxt (by rw [eit, ef, h10]; rfl)⟩
                                                    · rw [Bool.eq_false_iff.mpr h10]
                                                      exact iteT (nof (by rw [ef, Bool.eq_false_iff.mpr h10]; rfl) (sm12.trans sm3))
                                                · rw [Bool.eq_false_iff.mpr h9]
                                                  exact iteT (nof (by rw [ef, Bool.eq_false_iff.mpr h9]; rfl) sm12)
                                            · refine iteP (by rw [decide_eq_false (fun e => h8 (V.str.inj e))]; rfl) (nof ?_ sm12)
                                              cases n with
                                              | zero => rfl
                                              | succ n =>
                                                show (decide (y = "floor") && _) = false
                                                rw [decide_eq_false h8]; rfl
                                        · exact iteP (len_ne (by rw [el4]; omega)) (nof (flo_ne3 n h33) sm12)
                                      | _ => cases h7
                                    · have e0 : isTup dt = false := Bool.eq_false_iff.mpr h7
                                      rw [e0]
                                      exact iteT (nof (flo_nt n e0) sm12)
                              · rw [Bool.eq_false_iff.mpr h5]
                                refine iteT (no e1 ?_ sm)
                                show (btw df (-9) 9 && _) = false
                                rw [Bool.eq_false_iff.mpr h5]; rfl
                          · exact iteP (len_ne (by rw [el3]; omega)) (no e1 (itm_ne2 h22) sm)
                        | _ => cases hi1
                      · have e0 : isTup it = false := Bool.eq_false_iff.mpr hi1
                        rw [e0]
                        exact iteT (no e1 (itm_nt e0) sm)
                    · rintro σ H1 ⟨v2, v3, rfl, sm, hall⟩
                      have qq := hq H1 sm
                      rw [eli, List.take_length] at hall
                      rw [hall] at qq
                      exact qq
                  · rw [Bool.eq_false_iff.mpr hb]
                    refine iteT ?_
                    have qq := hq H (Same.refl _)
                    rw [Bool.eq_false_iff.mpr hb] at qq
                    exact qq
                · refine iteP (decide_eq_true (by omega)) ?_
                  have qq := hq H (Same.refl _)
                  rw [decide_eq_false h4] at qq
                  exact qq
              | _ => cases hti
            · have e0 : isTup di = false := Bool.eq_false_iff.mpr hti
              rw [e0]
              refine iteT ?_
              have qq := q H (Same.refl _)
              rw [trm_ni e0] at qq
              exact qq
        · refine iteP (len_ne (by rw [el]; omega)) ?_
          have qq := q H (Same.refl _)
          rw [trm_ne2 h2] at qq
          exact qq
      | _ => cases ht
    · have e0 : isTup d = false := Bool.eq_false_iff.mpr ht
      rw [e0]
      refine iteT ?_
      have qq := q H (Same.refl _)
      rw [trm_nt e0] at qq
      exact qq
theorem all_lterm {f : Addr} {fd : FuncData} {k : Nat} (F : Fun K "_law_is_term" "_law_is_term" s_law_is_term f fd) (T1 : mg "isinstance" = none) (T2 : mg "tuple" = none) (T3 : mg "len" = none)
    (D1 : Df P w K mg base k "_law_is_whole" ["_law_value_z", "_law_low", "_law_high"] (spBtw K)) (D2 : Df P w K mg base k "_law_is_word" ["_law_value_z"] (spLW K)) (D3 : Df P w K mg base k "_law_is_step" ["_law_value_z"] (spIsSlope K))
    (b : Binds K fd ["_law_value_z", "_law_deep"] []) (m : mg "_law_is_term" = some (.ref f)) : ∀ n : Nat, FnOk P w K mg base CX0 (k + n + 1) f fd ["_law_value_z", "_law_deep"] (spLT K n)
  | 0 => ok_lterm (n := 0) F T1 T2 T3 D1 D2 D3 ⟨_, _, fn_false, b, m, F.kp⟩
  | n + 1 => ok_lterm (n := n + 1) (k := k + n + 1) F T1 T2 T3 (D1.mono (by omega)) (D2.mono (by omega)) (D3.mono (by omega)) ⟨_, _, all_lterm F T1 T2 T3 D1 D2 D3 b m n, b, m, F.kp⟩
end
end RF

namespace RF
open PySem L2 PyProof.Rows
/-- what is drawn: terms with floors at most so deep -/
def GenTh (f : D → Prop) (t : D) : Prop := t = .str "x" ∨ t = .str "abc" ∨ ∃ i j k u, t = .tup [.str "floor", .tup [.int i, .int j, .int k], u] ∧ f u
def GenW (f : D → Prop) (d : D) : Prop := ∃ its c, d = .tup [.tup its, .int c] ∧ its.length ≤ 4 ∧ ∀ it ∈ its, ∃ fa t, it = .tup [.int fa, t] ∧ GenTh f t
def Gen : Nat → D → Prop
  | 0 => GenW fun _ => False
  | n + 1 => GenW (Gen n)
def GenI : Nat → D → Prop
  | 0 => fun it => ∃ fa t, it = .tup [.int fa, t] ∧ GenTh (fun _ => False) t
  | n + 1 => fun it => ∃ fa t, it = .tup [.int fa, t] ∧ GenTh (Gen n) t
theorem Gen.mk : ∀ {n : Nat} {its : List D} {c : Int}, its.length ≤ 4 → (∀ it ∈ its, GenI n it) → Gen n (.tup [.tup its, .int c])
  | 0, its, c, h, g => ⟨its, c, rfl, h, g⟩
  | _ + 1, its, c, h, g => ⟨its, c, rfl, h, g⟩
theorem genI_name : ∀ (n : Nat) (fa : Int) {x : Str}, x = "x" ∨ x = "abc" → GenI n (.tup [.int fa, .str x])
  | 0, fa, x, h => ⟨fa, _, rfl, h.elim (fun z => .inl (congrArg D.str z)) fun z => .inr (.inl (congrArg D.str z))⟩
  | _ + 1, fa, x, h => ⟨fa, _, rfl, h.elim (fun z => .inl (congrArg D.str z)) fun z => .inr (.inl (congrArg D.str z))⟩
theorem ne_of_none' {H : Hp} {a p : Addr} {o : HO} (h : H a = some o) (e : H p = none) : p ≠ a := (ne_of_none h e).symm
theorem al_upd {S : List Addr} {H : Hp} {p : Addr} {o : HO} (h : Alloc S H) : Alloc S (upd H p o) := fun a m z => by
  by_cases e : a = p
  · rw [e, upd_same] at z; cases z
  · rw [upd_ne e] at z; exact h a m z
def spSlp (K : PySem.W.Frag) : Sp := fun vs H Q _ => ∃ (b c : Addr) (S : List Addr), vs = [.ref b] ∧ BagAt H b c ∧ b ∈ S ∧ Alloc S H ∧ ∀ v i j k H', R K S H' v (.tup [.int i, .int j, .int k]) → BagAt H' b c → Kp b H H' → Q v H'
def spAny (K : PySem.W.Frag) (n : Nat) : Sp := fun vs H Q _ => ∃ (b c nm : Addr) (S : List Addr), vs = [.ref b, .ref nm, .int (n : Int)] ∧ BagAt H b c ∧ b ∈ S ∧ Alloc S H ∧ H nm = some (.lst [.str "x", .str "abc"]) ∧ nm ≠ b ∧
  ∀ v d H', R K S H' v d → Gen n d → BagAt H' b c → Kp b H H' → Q v H'
def spAnyP (K : PySem.W.Frag) : Nat → Sp
  | 0 => fun _ _ _ _ => False
  | n + 1 => spAny K n
section
variable {P : Program} {w : World} {K : PySem.W.Frag} {mg : Str → Option Value} {base : Heap}
abbrev s_law_any_slope : Stmt := top 21
abbrev n_law_any_slope : List Str := ["_law_bag_here"]
theorem sc_law_any_slope : FnScope n_law_any_slope ["_law_bag_here"] (defScope s_law_any_slope) := ⟨rfl, rfl, rfl, by decide +kernel, rfl, by decide +kernel, by decide +kernel⟩
theorem BagAt.there {H : Hp} {b c : Addr} (B : BagAt H b c) : H b ≠ none := by
  obtain ⟨xs, h⟩ := B.atB
  rw [h]
  exact fun z => by cases z
theorem ok_slp {f : Addr} {fd : FuncData} {k : Nat} (F : Fun K "_law_any_slope" "_law_any_slope" s_law_any_slope f fd) (D1 : Df P w K mg base k "_law_pull" ["_law_bag_here", "_law_sides"] spPullC) : FnOk P w K mg base CX0 (k + 1) f fd ["_law_bag_here"] (spSlp K) := by
  refine F.ok sc_law_any_slope (fun vs H Q E h => ?_) (fun cdv A outer s H vs Q E hr h => ?_)
  · obtain ⟨b, c, S, rfl, _⟩ := h
    rfl
  · obtain ⟨b, c, S, rfl, B, hb, al, q⟩ := h
    refine ⟨_, (pss_one (ps_ret (pe_tup (pa_cons (pe_op op_sub (pe_callD D1 hr (Nat.le_refl _) (pa_cons (pv 0) (pa_cons pe_int pa_nil))) pe_int) (pa_cons (pe_op op_sub (pe_callD D1 hr (Nat.le_refl _) (pa_cons (pv 0) (pa_cons pe_int pa_nil))) pe_int) (pa_cons (pe_op op_add pe_int (pe_callD D1 hr (Nat.le_refl _) (pa_cons (pv 0) (pa_cons pe_int pa_nil)))) pa_nil)))))), ?_⟩
    refine ⟨_, rfl, b, c, 19, rfl, B, by decide, by decide, fun i H1 _ _ B1 k1 => ⟨_, _, rfl, rfl, ?_⟩⟩
    refine ⟨_, rfl, b, c, 7, rfl, B1, by decide, by decide, fun j H2 _ _ B2 k2 => ⟨_, _, rfl, rfl, ?_⟩⟩
    refine ⟨_, rfl, b, c, 4, rfl, B2, by decide, by decide, fun m H3 _ _ B3 k3 => ⟨_, _, rfl, rfl, by show 3 ≤ sizeLine; decide, fun p hp => ?_⟩⟩
    have k03 := (k1.trans k2).trans k3
    exact q _ (i - 9) (j - 3) (1 + m) _ (R.newT (al.kp k03 B3.there) hp (by show 3 ≤ 100000; decide) (Rs.cons (R.int _) (Rs.cons (R.int _) (Rs.cons (R.int _) Rs.nil)))) (B3.put (B3.off hp)) (k03.new hp)
abbrev s_law_any_term : Stmt := top 22
abbrev n_law_any_term : List Str := ["_law_bag_here", "_law_names", "_law_deep", "_law_items", "_law_k", "_law_factor"]
theorem sc_law_any_term : FnScope n_law_any_term ["_law_bag_here", "_law_names", "_law_deep"] (defScope s_law_any_term) := ⟨rfl, rfl, rfl, by decide +kernel, rfl, by decide +kernel, by decide +kernel⟩
theorem ok_any {f : Addr} {fd : FuncData} {k n : Nat} (F : Fun K "_law_any_term" "_law_any_term" s_law_any_term f fd) (T1 : mg "range" = none) (T2 : mg "tuple" = none) (D1 : Df P w K mg base k "_law_pull" ["_law_bag_here", "_law_sides"] spPullC) (D2 : Df P w K mg base k "_law_of" ["_law_bag_here", "_law_some"] (spOfC K))
    (D3 : Df P w K mg base k "_law_any_slope" ["_law_bag_here"] (spSlp K)) (D4 : Df P w K mg base k "_law_any_term" ["_law_bag_here", "_law_names", "_law_deep"] (spAnyP K n)) : FnOk P w K mg base CX0 (k + 1) f fd ["_law_bag_here", "_law_names", "_law_deep"] (spAny K n) := by
  refine F.ok sc_law_any_term (fun vs H Q E h => ?_) (fun cdv A outer s H vs Q E hr h => ?_)
  · obtain ⟨b, c, nm, S, rfl, _⟩ := h
    rfl
  · obtain ⟨b, c, nm, S, rfl, B, hb, al, hnm, nb, q⟩ := h
    have nd := sc_law_any_term.nd
    refine ⟨_, (pss_cons (ps_set (i := 3) nd rfl (Or.inl rfl) (pe_lst pa_nil))
      (pss_cons (ps_for PassesOwn.never rfl (pi_range1 rfl T1 (pa_cons (pe_callD D2 hr (Nat.le_refl _) (pa_cons (pv 0) (pa_cons (pe_lst (pa_cons pe_int (pa_cons pe_int (pa_cons pe_int (pa_cons pe_int (pa_cons pe_int (pa_cons pe_int (pa_cons pe_int pa_nil)))))))) pa_nil))) pa_nil)) (pg_name (i := 4) nd rfl (Or.inl rfl))
      (pss_cons (ps_set (i := 5) nd rfl (Or.inl rfl) (pe_op op_mulW (pe_op op_add pe_int (pe_callD D1 hr (Nat.le_refl _) (pa_cons (pv 0) (pa_cons pe_int pa_nil)))) (pe_callD D2 hr (Nat.le_refl _) (pa_cons (pv 0) (pa_cons (pe_lst (pa_cons pe_int (pa_cons (pe_un un_neg pe_int) (pa_cons pe_int pa_nil)))) pa_nil)))))
        (pss_one (ps_if (pw_and (pt_cmpR op_gt (pv 2) pe_int (nomark _)) (pw_and1 (pt_cmpR op_eq (pe_callD D1 hr (Nat.le_refl _) (pa_cons (pv 0) (pa_cons pe_int pa_nil))) pe_int (nomark _)))).pt
        (pss_one (ps_expr (pe_bm PySem.F.plainAttrs_list PySem.F.slot_list_append PySem.F.type_list_append mt_append (pv 3) (pa_cons (pe_tup (pa_cons (pv 5) (pa_cons (pe_tup (pa_cons pe_str (pa_cons (pe_callD D3 hr (Nat.le_refl _) (pa_cons (pv 0) pa_nil)) (pa_cons (pe_callD D4 hr (Nat.le_refl _) (pa_cons (pv 0) (pa_cons (pv 1) (pa_cons (pe_op op_sub (pv 2) pe_int) pa_nil)))) pa_nil)))) pa_nil))) pa_nil))))
        (pss_one (ps_if (pt_cmpR (op_neD hr.units) (pv 1) (pe_lst pa_nil) (nomark _))
          (pss_one (ps_expr (pe_bm PySem.F.plainAttrs_list PySem.F.slot_list_append PySem.F.type_list_append mt_append (pv 3) (pa_cons (pe_tup (pa_cons (pv 5) (pa_cons (pe_callD D2 hr (Nat.le_refl _) (pa_cons (pv 0) (pa_cons (pv 1) pa_nil))) pa_nil))) pa_nil))))
          pss_nil))))))
      (pss_one (ps_ret (pe_tup (pa_cons (pe_callTy call_tuple_of (by rfl) T2 (by decide +kernel) (pa_cons (pe_slice sl_list (pv 3) po_none (po_some pe_int)) pa_nil)) (pa_cons (pe_callD D2 hr (Nat.le_refl _) (pa_cons (pv 0) (pa_cons (pe_lst (pa_cons pe_int (pa_cons pe_int (pa_cons (pe_op op_sub (pe_callD D1 hr (Nat.le_refl _) (pa_cons (pv 0) (pa_cons pe_int pa_nil))) pe_int) (pa_cons pe_int (pa_cons (pe_un un_neg pe_int) pa_nil)))))) pa_nil))) pa_nil))))))), ?_⟩
    refine ⟨by show 0 ≤ sizeLine; decide, fun L hL => ?_⟩
    have sL := sNew (o := .lst []) (Same.refl H) hL
    have B0 := B.same sL
    refine ⟨_, rfl, by show 7 ≤ sizeLine; decide, fun p hp => ?_⟩
    refine ⟨b, c, p, _, rfl, B0.same (sNew (Same.refl _) hp), SqL.of upd_same, (B0.off hp).1, by show 0 < 7; decide, by show 7 < 1000000; decide, fun v1 H1 hv1 B1 kp1 => ?_⟩
    obtain ⟨m, rfl, hm⟩ : ∃ m : Nat, v1 = .int (m : Int) ∧ m ≤ 4 := by
      simp only [List.mem_cons, List.not_mem_nil, or_false] at hv1
      rcases hv1 with rfl | rfl | rfl | rfl | rfl | rfl | rfl
      · exact ⟨0, rfl, by decide⟩
      · exact ⟨1, rfl, by decide⟩
      · exact ⟨1, rfl, by decide⟩
      · exact ⟨2, rfl, by decide⟩
      · exact ⟨2, rfl, by decide⟩
      · exact ⟨3, rfl, by decide⟩
      · exact ⟨4, rfl, by decide⟩
    have kp01 : Kp b (upd H L (.lst [])) H1 := (Kp.of (sNew (Same.refl _) hp)).trans kp1
    have Lb : L ≠ b := (B.off hL).1
    have nmL : nm ≠ L := ne_of_none hnm hL
    refine ⟨_, rfl, by omega, by omega, ?_⟩
    refine for_range (n := m) (fun i σ H' => ∃ (v4 v5 : Option V) (xs : List V) (its : List D), σ = [some (.ref b), some (.ref nm), some (.int (n : Int)), some (.ref L), v4, v5] ∧ H' L = some (.lst xs) ∧ Rs K (L :: S) H' xs its ∧ its.length ≤ i ∧ (∀ it ∈ its, GenI n it) ∧ BagAt H' b c ∧ Kp b H H' ∧ Alloc (L :: S) H')
      ⟨none, none, [], [], rfl, kp01 _ _ Lb upd_same, Rs.nil, Nat.le_refl _, (fun it h => by cases h), B1, (Kp.of sL).trans kp01, ((al.same sL).cons (by rw [upd_same]; exact fun z => by cases z)).kp kp01 B1.there⟩ ?_ ?_
    · rintro i σ H2 hi ⟨v4, v5, xs, its, rfl, hL2, rs2, hlen, hgen, B2, kp2, al2⟩
      refine ⟨_, rfl, b, c, 9, rfl, B2, by decide, by decide, fun d9 H3 d90 d91 B3 kp3 => ⟨_, _, rfl, rfl, ?_⟩⟩
      refine ⟨_, rfl, _, rfl, by show 3 ≤ sizeLine; decide, fun p3 hp3 => ?_⟩
      refine ⟨b, c, p3, _, rfl, B3.same (sNew (Same.refl _) hp3), SqL.of upd_same, (B3.off hp3).1, by show 0 < 3; decide, by show 3 < 1000000; decide, fun vs H4 hvs B4 kp4 => ?_⟩
      obtain ⟨sg, rfl, hsg⟩ : ∃ sg : Int, vs = .int sg ∧ (sg = 1 ∨ sg = -1) := by
        simp only [List.mem_cons, List.not_mem_nil, or_false] at hvs
        rcases hvs with rfl | rfl | rfl
        · exact ⟨_, rfl, .inl rfl⟩
        · exact ⟨_, rfl, .inr rfl⟩
        · exact ⟨_, rfl, .inl rfl⟩
      refine ⟨_, _, rfl, rfl, mulOk (n := 10) (m := 2) (by unfold Bd; omega) (by unfold Bd; omega) (by decide) (by decide) (by decide), ?_⟩
      have kp24 : Kp b H2 H4 := (kp3.trans (Kp.of (sNew (Same.refl _) hp3))).trans kp4
      have hL4 := kp24 _ _ Lb hL2
      have hnm4 := kp24 _ _ nb (kp2 _ _ nb hnm)
      have rs4 := rs2.kp (List.mem_cons_of_mem _ hb) kp24
      have al4 := al2.kp kp24 B4.there
      have kpT := kp2.trans kp24
      cases n with
      | zero =>
        refine ⟨_, rfl, _, _, rfl, rfl, _, rfl, iteN (by decide) ?_⟩
        have hLH := hL4; have hnmH := hnm4; have rsH := rs4; have alH := al4; have kpH := kpT
        -- a name
        refine ⟨_, rfl, by show 0 ≤ sizeLine; decide, fun e0 he0 => ?_⟩
        have sE := sNew (o := .lst []) (Same.refl H4) he0
        refine ⟨.list [.str "x", .str "abc"], .list [], .lst (SqL.of (sE _ _ hnmH)) (.cons (.str _) (.cons (.str _) .nil)), .lst (SqL.of upd_same) .nil, by decide +kernel, by decide +kernel, _, rfl, iteP (by decide +kernel) ?_⟩
        refine ⟨_, rfl, .inl ⟨rfl, _, SqL.of (sE _ _ hLH)⟩, _, rfl, _, rfl, _, rfl, b, c, nm, _, rfl, B4.same sE, SqL.of (sE _ _ hnmH), nb, by show 0 < 2; decide, by show 2 < 1000000; decide, fun vn H8 hvn B8 kp8 => ?_⟩
        have kH8 : Kp b H4 H8 := (Kp.of sE).trans kp8
        obtain ⟨xn, rfl, hxn⟩ : ∃ xn, vn = .str xn ∧ (xn = "x" ∨ xn = "abc") := by
          simp only [List.mem_cons, List.not_mem_nil, or_false] at hvn
          rcases hvn with rfl | rfl
          · exact ⟨_, rfl, .inl rfl⟩
          · exact ⟨_, rfl, .inr rfl⟩
        refine ⟨by show 2 ≤ sizeLine; decide, fun tq htq => ?_⟩
        have hL8 := kH8 _ _ Lb hLH
        have al8 := alH.kp kH8 B8.there
        have hne : tq ≠ L := ne_of_none' hL8 htq
        refine ⟨L, _, _, rfl, rfl, (by rw [upd_ne hne.symm]; exact hL8), by rw [sizeLine_eq]; have := rsH.rps.len; omega, ?_⟩
        have rt := R.newT (K := K) (xs := [.int ((1 + d9) * sg), .str xn]) al8 htq (by show 2 ≤ 100000; decide) (Rs.cons (R.int _) (Rs.cons (R.str xn) Rs.nil))
        have rs8 := (rsH.kp (List.mem_cons_of_mem _ hb) kH8).same (sNew (o := .tup [.int ((1 + d9) * sg), .str xn]) (Same.refl _) htq)
        refine ⟨_, _, _, its ++ [.tup [.int ((1 + d9) * sg), .str xn]], rfl, upd_same, (Rs.app rs8 (Rs.cons rt Rs.nil)).upd List.mem_cons_self, by rw [List.length_append]; show its.length + 1 ≤ i + 1; omega, fun it hit => ?_, ((B8.put (B8.off htq)).put (B.off hL)), ((kpH.trans kH8).new htq).up hL, ?_⟩
        · rcases List.mem_append.mp hit with h | h
          · exact hgen it h
          · rw [List.mem_singleton.mp h]
            exact genI_name _ _ hxn
        · exact al_upd (al8.same (sNew (o := .tup [.int ((1 + d9) * sg), .str xn]) (Same.refl _) htq))
      | succ n =>
        refine ⟨_, rfl, _, _, rfl, rfl, _, rfl, iteP (decide_eq_true (by omega)) ?_⟩
        refine ⟨_, rfl, b, c, 3, rfl, B4, by decide, by decide, fun d3 H5 d30 d31 B5 kp5 => ⟨rfl, _, rfl, ?_⟩⟩
        have hL5 := kp5 _ _ Lb hL4
        have hnm5 := kp5 _ _ nb hnm4
        have rs5 := rs4.kp (List.mem_cons_of_mem _ hb) kp5
        have al5 := al4.kp kp5 B5.there
        have kp05 := kpT.trans kp5
        by_cases h3 : d3 = 0
        · refine iteP (decide_eq_true (congrArg V.int h3)) ?_
          -- a floor
          refine ⟨_, rfl, .inl ⟨rfl, _, SqL.of hL5⟩, _, rfl, _, rfl, b, c, L :: S, rfl, B5, List.mem_cons_of_mem _ hb, al5, fun vsl i1 j1 k1 H6 rsl B6 kp6 => ?_⟩
          have hL6 := kp6 _ _ Lb hL5
          have hnm6 := kp6 _ _ nb hnm5
          refine ⟨_, rfl, _, rfl, _, rfl, _, _, rfl, rfl, b, c, nm, L :: S, ?_, B6, List.mem_cons_of_mem _ hb, al5.kp kp6 B6.there, hnm6, nb, fun vt dt H7 rtm hgt B7 kp7 => ?_⟩
          · show ([V.ref b, V.ref nm, V.int (((n + 1 : Nat) : Int) - 1)] : List V) = _
            rw [show (((n + 1 : Nat) : Int) - 1) = (n : Int) by omega]
          · have kp57 := kp6.trans kp7
            have hL7 := kp57 _ _ Lb hL5
            have al7 := al5.kp kp57 B7.there
            refine ⟨by show 3 ≤ sizeLine; decide, fun t1 ht1 => ⟨by show 2 ≤ sizeLine; decide, fun t2 ht2 => ?_⟩⟩
            have rfl1 := R.newT (K := K) (xs := [.str "floor", vsl, vt]) al7 ht1 (by show 3 ≤ 100000; decide) (Rs.cons (R.str _) (Rs.cons (rsl.kp (List.mem_cons_of_mem _ hb) kp7) (Rs.cons rtm Rs.nil)))
            have s71 := sNew (o := .tup [.str "floor", vsl, vt]) (Same.refl _) ht1
            have al71 := al7.same s71
            have rfl2 := R.newT (K := K) (xs := [.int ((1 + d9) * sg), .ref t1]) al71 ht2 (by show 2 ≤ 100000; decide) (Rs.cons (R.int _) (Rs.cons rfl1 Rs.nil))
            have s72 := s71.trans (sNew (o := .tup [.int ((1 + d9) * sg), .ref t1]) (Same.refl _) ht2)
            have hL9 := s72 _ _ hL7
            refine ⟨L, _, _, rfl, rfl, hL9, by rw [sizeLine_eq]; have := rs5.rps.len; omega, ?_⟩
            have rs9 := (rs5.kp (List.mem_cons_of_mem _ hb) kp57).same s72
            refine ⟨_, _, _, its ++ [.tup [.int ((1 + d9) * sg), .tup [.str "floor", .tup [.int i1, .int j1, .int k1], dt]]], rfl, upd_same, (Rs.app rs9 (Rs.cons rfl2 Rs.nil)).upd List.mem_cons_self, by rw [List.length_append]; show its.length + 1 ≤ i + 1; omega, fun it hit => ?_, ((B7.same s72).put (B.off hL)), ((kp05.trans kp57).trans (Kp.of s72)).up hL, ?_⟩
            · rcases List.mem_append.mp hit with h | h
              · exact hgen it h
              · rw [List.mem_singleton.mp h]
                exact ⟨_, _, rfl, .inr (.inr ⟨_, _, _, _, rfl, hgt⟩)⟩
            · exact al_upd (al7.same s72)
        · refine iteN (nd_of fun z => h3 (V.int.inj z)) ?_
          have hLH := hL5; have hnmH := hnm5; have rsH := rs5; have alH := al5; have kpH := kp05
          -- a name
          refine ⟨_, rfl, by show 0 ≤ sizeLine; decide, fun e0 he0 => ?_⟩
          have sE := sNew (o := .lst []) (Same.refl H5) he0
          refine ⟨.list [.str "x", .str "abc"], .list [], .lst (SqL.of (sE _ _ hnmH)) (.cons (.str _) (.cons (.str _) .nil)), .lst (SqL.of upd_same) .nil, by decide +kernel, by decide +kernel, _, rfl, iteP (by decide +kernel) ?_⟩
          refine ⟨_, rfl, .inl ⟨rfl, _, SqL.of (sE _ _ hLH)⟩, _, rfl, _, rfl, _, rfl, b, c, nm, _, rfl, B5.same sE, SqL.of (sE _ _ hnmH), nb, by show 0 < 2; decide, by show 2 < 1000000; decide, fun vn H8 hvn B8 kp8 => ?_⟩
          have kH8 : Kp b H5 H8 := (Kp.of sE).trans kp8
          obtain ⟨xn, rfl, hxn⟩ : ∃ xn, vn = .str xn ∧ (xn = "x" ∨ xn = "abc") := by
            simp only [List.mem_cons, List.not_mem_nil, or_false] at hvn
            rcases hvn with rfl | rfl
            · exact ⟨_, rfl, .inl rfl⟩
            · exact ⟨_, rfl, .inr rfl⟩
          refine ⟨by show 2 ≤ sizeLine; decide, fun tq htq => ?_⟩
          have hL8 := kH8 _ _ Lb hLH
          have al8 := alH.kp kH8 B8.there
          have hne : tq ≠ L := ne_of_none' hL8 htq
          refine ⟨L, _, _, rfl, rfl, (by rw [upd_ne hne.symm]; exact hL8), by rw [sizeLine_eq]; have := rsH.rps.len; omega, ?_⟩
          have rt := R.newT (K := K) (xs := [.int ((1 + d9) * sg), .str xn]) al8 htq (by show 2 ≤ 100000; decide) (Rs.cons (R.int _) (Rs.cons (R.str xn) Rs.nil))
          have rs8 := (rsH.kp (List.mem_cons_of_mem _ hb) kH8).same (sNew (o := .tup [.int ((1 + d9) * sg), .str xn]) (Same.refl _) htq)
          refine ⟨_, _, _, its ++ [.tup [.int ((1 + d9) * sg), .str xn]], rfl, upd_same, (Rs.app rs8 (Rs.cons rt Rs.nil)).upd List.mem_cons_self, by rw [List.length_append]; show its.length + 1 ≤ i + 1; omega, fun it hit => ?_, ((B8.put (B8.off htq)).put (B.off hL)), ((kpH.trans kH8).new htq).up hL, ?_⟩
          · rcases List.mem_append.mp hit with h | h
            · exact hgen it h
            · rw [List.mem_singleton.mp h]
              exact genI_name _ _ hxn
          · exact al_upd (al8.same (sNew (o := .tup [.int ((1 + d9) * sg), .str xn]) (Same.refl _) htq))
    · rintro σ H2 ⟨v4, v5, xs, its, rfl, hL2, rs2, hlen, hgen, B2, kp2, al2⟩
      refine ⟨_, rfl, _, rfl, L, _, rfl, SqL.of hL2, fun p4 hp4 => ⟨p4, _, rfl, .inl ⟨SqL.of upd_same, fun l4 hl4 => ?_⟩⟩⟩
      have s1 := sNew (o := .lst (cutV xs none (some 4))) (Same.refl H2) hp4
      have s2 := s1.trans (sNew (o := .tup (cutV xs none (some 4))) (Same.refl _) hl4)
      have B4 := B2.same s2
      have ln : (cutD its none (some 4)).length ≤ 4 := by have := cutD_len its none (some 4); omega
      have rcut := rs2.cut none (some 4)
      have lx := rcut.rps.len
      have rtup := R.newT (K := K) (al2.same s1) hl4 (by omega) (rcut.same s1)
      refine ⟨_, rfl, _, rfl, b, c, 2001, rfl, B4, by decide, by decide, fun d2 H5 d20 d21 B5 kp5 => ⟨_, _, rfl, rfl, _, rfl, by show 5 ≤ sizeLine; decide, fun p5 hp5 => ?_⟩⟩
      refine ⟨b, c, p5, _, rfl, B5.same (sNew (Same.refl _) hp5), SqL.of upd_same, (B5.off hp5).1, by show 0 < 5; decide, by show 5 < 1000000; decide, fun vc H6 hvc B6 kp6 => ⟨by show 2 ≤ sizeLine; decide, fun p6 hp6 => ?_⟩⟩
      obtain ⟨cc, rfl⟩ : ∃ cc : Int, vc = .int cc := by
        simp only [List.mem_cons, List.not_mem_nil, or_false] at hvc
        rcases hvc with rfl | rfl | rfl | rfl | rfl <;> exact ⟨_, rfl⟩
      have kp46 := (kp5.trans (Kp.of (sNew (Same.refl _) hp5))).trans kp6
      have kpT := (kp2.trans (Kp.of s2)).trans kp46
      have al6 := (al2.same s2).kp kp46 B6.there
      have hS : ∀ s ∈ S, s ∈ L :: S := fun s hs => List.mem_cons_of_mem _ hs
      have rr := R.newT (K := K) (xs := [.ref l4, .int cc]) al6 hp6 (by show 2 ≤ 100000; decide) (Rs.cons (rtup.kp (List.mem_cons_of_mem _ hb) kp46) (Rs.cons (R.int cc) Rs.nil))
      exact q _ _ _ (rr.le hS) (Gen.mk ln fun it h => hgen it (cutD_mem h)) (B6.put (B6.off hp6)) (kpT.new hp6)
theorem all_any {f : Addr} {fd : FuncData} {k : Nat} (F : Fun K "_law_any_term" "_law_any_term" s_law_any_term f fd) (T1 : mg "range" = none) (T2 : mg "tuple" = none) (D1 : Df P w K mg base k "_law_pull" ["_law_bag_here", "_law_sides"] spPullC) (D2 : Df P w K mg base k "_law_of" ["_law_bag_here", "_law_some"] (spOfC K))
    (D3 : Df P w K mg base k "_law_any_slope" ["_law_bag_here"] (spSlp K)) (b : Binds K fd ["_law_bag_here", "_law_names", "_law_deep"] []) (m : mg "_law_any_term" = some (.ref f)) : ∀ n : Nat, FnOk P w K mg base CX0 (k + n + 1) f fd ["_law_bag_here", "_law_names", "_law_deep"] (spAny K n)
  | 0 => ok_any (n := 0) F T1 T2 D1 D2 D3 ⟨_, _, fn_false, b, m, F.kp⟩
  | n + 1 => ok_any (n := n + 1) (k := k + n + 1) F T1 T2 (D1.mono (by omega)) (D2.mono (by omega)) (D3.mono (by omega)) ⟨_, _, all_any F T1 T2 D1 D2 D3 b m n, b, m, F.kp⟩
end
end RF

namespace RF
open PySem L2 PyProof.Rows
section
variable {X : Cx}
/-- t + u, t[lo:hi] of data -/
def rCatR (K : PySem.W.Frag) : R2 := fun x y H Q => ∃ (S : List Addr) (ds es : List D), R K S H x (.tup ds) ∧ R K S H y (.tup es) ∧ Alloc S H ∧ ds.length + es.length ≤ 1000 ∧ ∀ v H', Same H H' → R K S H' v (.tup (ds ++ es)) → Q v H'
theorem op_catR : OpR X (binaryOp .Add) (rCatR X.K) := by
  intro pins s σ H x y v u Q I rx ry h
  obtain ⟨S, ds, es, h1, h2, al, hl, q⟩ := h
  obtain ⟨a, xs, rfl, S1, l1, r1⟩ := id h1
  obtain ⟨b, ys, rfl, S2, l2, r2⟩ := id h2
  have e1 := r1.len
  have e2 := r2.len
  refine op_catA pins s σ H _ _ v u Q I rx ry ⟨a, b, xs, ys, rfl, rfl, sameT hid_same S1, sameT hid_same S2, by rw [sizeLine_eq]; omega, fun z => ?_, fun _ z => ?_, fun _ _ p hp => ?_⟩
  · have : ds = [] := List.eq_nil_of_length_eq_zero (by rw [← e1, z]; rfl)
    subst this
    exact q _ _ (Same.refl _) h2
  · have : es = [] := List.eq_nil_of_length_eq_zero (by rw [← e2, z]; rfl)
    subst this
    rw [List.append_nil] at q
    exact q _ _ (Same.refl _) h1
  · exact q _ _ (sNew (Same.refl _) hp) (R.newT al hp (by rw [List.length_append]; omega) (Rs.app r1 r2))
def rSlR (K : PySem.W.Frag) : V → Option Int → Option Int → Hp → VK → Prop := fun x lo hi H Q => ∃ (S : List Addr) (ds : List D), R K S H x (.tup ds) ∧ Alloc S H ∧ ∀ v H', Same H H' → R K S H' v (.tup (cutD ds lo hi)) → Q v H'
theorem sl_tupR : SlR X (rSlR X.K) := by
  intro pins s σ H x v vl vu lo hi sl Q I rx hs pl pu h
  obtain ⟨S, ds, h1, al, q⟩ := h
  obtain ⟨a, xs, rfl, S1, l1, r1⟩ := id h1
  have e1 := r1.len
  refine sl_tupA pins s σ H _ v vl vu lo hi sl Q I rx hs pl pu ⟨a, xs, rfl, sameT hid_same S1, fun hw => ?_, fun hw p hp => ?_⟩
  · refine q _ _ (Same.refl _) ?_
    have : cutD ds lo hi = ds := by
      unfold cutD
      rw [← e1, hw.1, hw.2, List.drop_zero, Nat.sub_zero, e1, List.take_length]
    rw [this]
    exact h1
  · exact q _ _ (sNew (Same.refl _) hp) (R.newT al hp (by have := cutV_length xs lo hi; omega) (Rs.cut r1 lo hi))
end
theorem San.none : ∀ {n : Nat} {d : D}, (∀ its c, d ≠ .tup [.tup its, c]) → San n d
  | 0, _, h => fun its c e => absurd e (h its c)
  | _ + 1, _, h => fun its c e => absurd e (h its c)
theorem San.cst : ∀ {n : Nat} {its : List D} {c c' : D}, San n (.tup [.tup its, c]) → San n (.tup [.tup its, c'])
  | 0, its, c, c', h => fun its' c2 e => by
    cases e
    exact h its c rfl
  | _ + 1, its, c, c', h => fun its' c2 e => by
    cases e
    exact h its c rfl
theorem short_x : Short (.str "x") := fun y e => by cases e; decide +kernel
theorem short_abc : Short (.str "abc") := fun y e => by cases e; decide +kernel
theorem short_no {d : D} (h : ∀ x, d ≠ .str x) : Short d := fun y e => absurd e (h y)
theorem sanF_th {f g : D → Prop} {t : D} (h : GenTh f t) (hg : ∀ u, f u → g u) : SanFW g t := by
  rcases h with rfl | rfl | ⟨i, j, k, u, rfl, hu⟩
  · exact ⟨short_x, fun w s u e => by cases e⟩
  · exact ⟨short_abc, fun w s u e => by cases e⟩
  · exact ⟨short_no (fun x e => by cases e), fun w s u' e => by cases e; exact ⟨⟨_, rfl⟩, hg u hu⟩⟩
theorem gen_san : ∀ (m : Nat) {n : Nat} {d : D}, Gen n d → San m d
  | 0, 0, d, ⟨its, c, e, _, h⟩ => fun its' c' e' it hit fa t et => by
    rw [e] at e'
    cases e'
    obtain ⟨fa', t', et', ht⟩ := h it hit
    rw [et'] at et
    cases et
    exact sanF_th ht fun _ _ => trivial
  | 0, n + 1, d, ⟨its, c, e, _, h⟩ => fun its' c' e' it hit fa t et => by
    rw [e] at e'
    cases e'
    obtain ⟨fa', t', et', ht⟩ := h it hit
    rw [et'] at et
    cases et
    exact sanF_th ht fun _ _ => trivial
  | m + 1, 0, d, ⟨its, c, e, _, h⟩ => fun its' c' e' it hit fa t et => by
    rw [e] at e'
    cases e'
    obtain ⟨fa', t', et', ht⟩ := h it hit
    rw [et'] at et
    cases et
    exact sanF_th ht fun _ z => z.elim
  | m + 1, n + 1, d, ⟨its, c, e, _, h⟩ => fun its' c' e' it hit fa t et => by
    rw [e] at e'
    cases e'
    obtain ⟨fa', t', et', ht⟩ := h it hit
    rw [et'] at et
    cases et
    exact sanF_th ht fun u hu => gen_san m hu
def spBent (K : PySem.W.Frag) : Sp := fun vs H Q _ => ∃ (b c : Addr) (S : List Addr) (v : V) (its : List D) (e : D), vs = [.ref b, v] ∧ BagAt H b c ∧ b ∈ S ∧ Alloc S H ∧ R K S H v (.tup [.tup its, e]) ∧ San 3 (.tup [.tup its, e]) ∧
  ∀ v' d' H', R K S H' v' d' → San 3 d' → BagAt H' b c → Kp b H H' → Q v' H'
section
variable {P : Program} {w : World} {K : PySem.W.Frag} {mg : Str → Option Value} {base : Heap}
abbrev s_law_bent : Stmt := top 23
abbrev n_law_bent : List Str := ["_law_bag_here", "_law_value_z", "_law_way", "_law_at"]
theorem sc_law_bent : FnScope n_law_bent ["_law_bag_here", "_law_value_z"] (defScope s_law_bent) := ⟨rfl, rfl, rfl, by decide +kernel, rfl, by decide +kernel, by decide +kernel⟩
theorem ok_bent {f : Addr} {fd : FuncData} {k : Nat} (F : Fun K "_law_bent" "_law_bent" s_law_bent f fd) (T1 : mg "len" = none) (T2 : mg "list" = none) (D1 : Df P w K mg base k "_law_pull" ["_law_bag_here", "_law_sides"] spPullC) (D2 : Df P w K mg base k "_law_of" ["_law_bag_here", "_law_some"] (spOfC K)) :
    FnOk P w K mg base CX0 (k + 1) f fd ["_law_bag_here", "_law_value_z"] (spBent K) := by
  refine F.ok sc_law_bent (fun vs H Q E h => ?_) (fun cdv A outer s H vs Q E hr h => ?_)
  · obtain ⟨b, c, S, v, its, e, rfl, _⟩ := h
    rfl
  · obtain ⟨b, c, S, v, its, e, rfl, B, hb, al, hv, hs, q⟩ := h
    have nd := sc_law_bent.nd
    refine ⟨_, (pss_cons (ps_par (i := 2) (j := 3) rfl nd rfl rfl (by decide) rfl rfl (pa_cons (pe_callD D1 hr (Nat.le_refl _) (pa_cons (pv 0) (pa_cons pe_int pa_nil))) (pa_cons (pe_callD D1 hr (Nat.le_refl _) (pa_cons (pv 0) (pa_cons (pe_callB call_len_seq (by rfl) T1 (by decide +kernel) (pa_cons (pv 1) pa_nil)) pa_nil))) pa_nil)) (by kernel_rfl))
      (pss_cons (ps_if (pt_cmpR op_eq (pv 2) pe_int (nomark _))
      (pss_one (ps_ret (pe_callTy call_list_of (by rfl) T2 (by decide +kernel) (pa_cons (pv 1) pa_nil))))
      pss_nil)
      (pss_cons (ps_if (pt_cmpR op_eq (pv 2) pe_int (nomark _))
      (pss_one (ps_ret (pe_op op_catR (pe_slice sl_tupR (pv 1) po_none (po_some (pv 3))) (pe_slice sl_tupR (pv 1) (po_some (pe_op op_add (pv 3) pe_int)) po_none))))
      pss_nil)
      (pss_cons (ps_if (pt_cmpR op_eq (pv 2) pe_int (nomark _))
      (pss_one (ps_ret (pe_op op_catR (pv 1) (pe_tup (pa_cons (pe_ix ix_tup (pv 1) (pv 3) (fun _ _ => rfl)) pa_nil)))))
      pss_nil)
      (pss_cons (ps_if (pt_cmpR op_eq (pv 2) pe_int (nomark _))
      (pss_one (ps_ret (pe_op op_catR (pe_op op_catR (pe_slice sl_tupR (pv 1) po_none (po_some (pv 3))) (pe_tup (pa_cons pe_non pa_nil))) (pe_slice sl_tupR (pv 1) (po_some (pe_op op_add (pv 3) pe_int)) po_none))))
      pss_nil)
      (pss_one (ps_ret (pe_callD D2 hr (Nat.le_refl _) (pa_cons (pv 0) (pa_cons (pe_lst (pa_cons pe_non (pa_cons pe_int (pa_cons pe_str (pa_cons (pe_tup pa_nil) (pa_cons (pe_tup (pa_cons pe_str (pa_cons pe_int (pa_cons pe_int pa_nil)))) (pa_cons (pe_tup (pa_cons pe_str (pa_cons pe_str (pa_cons (pv 1) pa_nil)))) (pa_cons (pe_tup (pa_cons pe_str (pa_cons (pe_tup (pa_cons (pe_tup pa_nil) (pa_cons pe_int pa_nil))) (pa_cons pe_int (pa_cons pe_int pa_nil))))) (pa_cons (pe_tup (pa_cons pe_str (pa_cons (pe_tup (pa_cons (pe_tup pa_nil) (pa_cons pe_int pa_nil))) (pa_cons pe_int (pa_cons pe_int pa_nil))))) (pa_cons (pe_tup (pa_cons pe_str (pa_cons pe_str (pa_cons (pe_tup pa_nil) pa_nil)))) (pa_cons (pe_tup (pa_cons pe_str (pa_cons pe_str (pa_cons (pe_lst (pa_cons pe_str pa_nil)) pa_nil)))) (pa_cons (pe_tup (pa_cons pe_str (pa_cons (pv 1) pa_nil))) (pa_cons (pe_tup (pa_cons pe_str pa_nil)) pa_nil))))))))))))) pa_nil)))))))))), ?_⟩
    refine ⟨_, rfl, b, c, 7, rfl, B, by decide, by decide, fun way H1 w0 w1 B1 kp1 => ?_⟩
    have hv1 := hv.kp hb kp1
    obtain ⟨a, xs, rfl, Sx, lx, x1, r1, rfl, p1, x2, r2, rfl, p2, rfl⟩ := id hv1
    refine ⟨_, rfl, _, rfl, a, _, rfl, .inr (sameT hid_same Sx), b, c, 2, rfl, B1, by decide, by decide, fun at_ H2 a0 a1 B2 kp2 => ⟨_, _, rfl, ?_⟩⟩
    have kp02 := kp1.trans kp2
    have hv2 := hv1.kp hb kp2
    have al2 := al.kp kp02 B2.there
    have n1 : ∀ {z : D} {zs : List D}, (∀ i c, D.tup (z :: zs) ≠ .tup [.tup i, c]) → San 3 (.tup (z :: zs)) := fun h => San.none h
    refine ⟨_, rfl, rfl, _, rfl, ite2 (fun _ => ?_) (fun _ => ?_)⟩
    · -- a list
      obtain ⟨a', xs', e', Sx2, lx2, rr2⟩ := id hv2
      cases e'
      refine ⟨_, rfl, a, xs', rfl, .inr (sameT hid_same Sx2), fun l hl => ?_⟩
      exact q _ _ _ (R.newL al2 hl lx2 rr2) (San.none fun i c z => by cases z) (B2.put (B2.off hl)) (kp02.new hl)
    refine ⟨_, rfl, rfl, _, rfl, ite2 (fun _ => ?_) (fun _ => ?_)⟩
    · -- one left out
      refine ⟨_, rfl, _, rfl, _, rfl, S, _, hv2, al2, fun v3 H3 sm3 r3 => ?_⟩
      refine ⟨_, rfl, _, rfl, _, _, rfl, rfl, _, rfl, S, _, hv2.same sm3, al2.same sm3, fun v4 H4 sm4 r4 => ?_⟩
      refine ⟨S, _, _, r3.same sm4, r4, al2.same (sm3.trans sm4), ?_, fun v5 H5 sm5 r5 => ?_⟩
      · have h1 := cutD_len [D.tup its, e] none (some at_)
        have h2 := cutD_len [D.tup its, e] (some (at_ + 1)) none
        simp only [List.length_cons, List.length_nil] at h1 h2
        omega
      · have sm35 := (sm3.trans sm4).trans sm5
        refine q _ _ _ r5 ?_ (B2.same sm35) (kp02.trans (Kp.of sm35))
        rcases (by omega : at_ = 0 ∨ at_ = 1) with rfl | rfl
        · exact San.none fun i c z => by
            have : [e] = [D.tup i, c] := D.tup.inj z
            cases this
        · exact San.none fun i c z => by
            have : [D.tup its] = [D.tup i, c] := D.tup.inj z
            cases this
    refine ⟨_, rfl, rfl, _, rfl, ite2 (fun _ => ?_) (fun _ => ?_)⟩
    · -- one twice
      obtain ⟨a', xs', e', Sx2, lx2, y1, rr1, rfl, g1, y2, rr2, rfl, g2, rfl⟩ := id hv2
      cases e'
      rcases (by omega : at_ = 0 ∨ at_ = 1) with rfl | rfl
      · refine ⟨_, rfl, _, rfl, _, rfl, a, [y1, y2], _, y1, rfl, rfl, sameT hid_same Sx2, rfl, by show 1 ≤ sizeLine; decide, fun p hp => ⟨S, _, _, hv2.same (sNew (o := .tup [y1]) (Same.refl _) hp), R.newT (xs := [y1]) al2 hp (by show 1 ≤ 100000; decide) (Rs.cons g1 Rs.nil), al2.same (sNew (Same.refl _) hp), by show 3 ≤ 1000; decide, fun v5 H5 sm5 r5 => ?_⟩⟩
        exact q _ _ _ r5 (San.none fun i c z => by have h3 : [D.tup its, e, D.tup its] = [D.tup i, c] := D.tup.inj z; cases h3) ((B2.put (B2.off hp)).same sm5) ((kp02.new hp).trans (Kp.of sm5))
      · refine ⟨_, rfl, _, rfl, _, rfl, a, [y1, y2], _, y2, rfl, rfl, sameT hid_same Sx2, rfl, by show 1 ≤ sizeLine; decide, fun p hp => ⟨S, _, _, hv2.same (sNew (o := .tup [y2]) (Same.refl _) hp), R.newT (xs := [y2]) al2 hp (by show 1 ≤ 100000; decide) (Rs.cons g2 Rs.nil), al2.same (sNew (Same.refl _) hp), by show 3 ≤ 1000; decide, fun v5 H5 sm5 r5 => ?_⟩⟩
        exact q _ _ _ r5 (San.none fun i c z => by have h3 : [D.tup its, e, e] = [D.tup i, c] := D.tup.inj z; cases h3) ((B2.put (B2.off hp)).same sm5) ((kp02.new hp).trans (Kp.of sm5))
    refine ⟨_, rfl, rfl, _, rfl, ite2 (fun _ => ?_) (fun _ => ?_)⟩
    · -- None for one
      refine ⟨_, rfl, _, rfl, _, rfl, S, _, hv2, al2, fun v3 H3 sm3 r3 => ?_⟩
      refine ⟨by show 1 ≤ sizeLine; decide, fun p hp => ?_⟩
      have sp := sNew (o := .tup [.non]) (Same.refl H3) hp
      have rn := R.newT (K := K) (xs := [.non]) (al2.same sm3) hp (by show 1 ≤ 100000; decide) (Rs.cons R.non Rs.nil)
      have h1 := cutD_len [D.tup its, e] none (some at_)
      have h2 := cutD_len [D.tup its, e] (some (at_ + 1)) none
      simp only [List.length_cons, List.length_nil] at h1 h2
      refine ⟨S, _, _, r3.same sp, rn, al2.same (sm3.trans sp), by rw [List.length_cons, List.length_nil]; omega, fun v4 H4 sm4 r4 => ?_⟩
      have sm04 := (sm3.trans sp).trans sm4
      refine ⟨_, rfl, _, rfl, _, _, rfl, rfl, _, rfl, S, _, hv2.same sm04, al2.same sm04, fun v5 H5 sm5 r5 => ?_⟩
      refine ⟨S, _, _, r4.same sm5, r5, al2.same (sm04.trans sm5), ?_, fun v6 H6 sm6 r6 => ?_⟩
      · rw [List.length_append, List.length_cons, List.length_nil]
        omega
      · have sm36 := (sm04.trans sm5).trans sm6
        refine q _ _ _ r6 ?_ (B2.same sm36) (kp02.trans (Kp.of sm36))
        rcases (by omega : at_ = 0 ∨ at_ = 1) with rfl | rfl
        · exact San.none fun i c z => by
            have h3 : [D.non, e] = [D.tup i, c] := D.tup.inj z
            cases h3
        · exact hs.cst (c' := .non)
    -- another value
    refine ⟨_, rfl, ?_⟩
    have al_ := al2
    refine ⟨by show 0 ≤ sizeLine; decide, fun t0 ht0 => ?_⟩
    have s_t0 := sNew (o := .tup []) (Same.refl _) ht0
    have r_t0 : R K S _ (.ref t0) (.tup []) := R.newT (xs := []) al2 ht0 (by show 0 ≤ 100000; decide) Rs.nil
    refine ⟨by show 3 ≤ sizeLine; decide, fun t1 ht1 => ?_⟩
    have s_t1 := sNew (o := .tup [.str "equal", .int 1, .int 2]) (Same.refl _) ht1
    have r_t1 : R K S _ (.ref t1) (.tup [.str "equal", .int 1, .int 2]) := R.newT (xs := [.str "equal", .int 1, .int 2]) (al2.same s_t0) ht1 (by show 3 ≤ 100000; decide) (Rs.cons (R.str _) (Rs.cons (R.int _) (Rs.cons (R.int _) Rs.nil)))
    refine ⟨_, rfl, by show 3 ≤ sizeLine; decide, fun t2 ht2 => ?_⟩
    have s_t2 := sNew (o := .tup [.str "some", .str "all", .ref a]) (Same.refl _) ht2
    have r_t2 : R K S _ (.ref t2) (.tup [.str "some", .str "all", .tup [.tup its, e]]) := R.newT (xs := [.str "some", .str "all", .ref a]) (al2.same (s_t0.trans s_t1)) ht2 (by show 3 ≤ 100000; decide) (Rs.cons (R.str _) (Rs.cons (R.str _) (Rs.cons (hv2.same (s_t0.trans s_t1)) Rs.nil)))
    refine ⟨by show 0 ≤ sizeLine; decide, fun t3 ht3 => ?_⟩
    have s_t3 := sNew (o := .tup []) (Same.refl _) ht3
    have r_t3 : R K S _ (.ref t3) (.tup []) := R.newT (xs := []) (al2.same ((s_t0.trans s_t1).trans s_t2)) ht3 (by show 0 ≤ 100000; decide) Rs.nil
    refine ⟨by show 2 ≤ sizeLine; decide, fun t4 ht4 => ?_⟩
    have s_t4 := sNew (o := .tup [.ref t3, .int 1]) (Same.refl _) ht4
    have r_t4 : R K S _ (.ref t4) (.tup [.tup [], .int 1]) := R.newT (xs := [.ref t3, .int 1]) (al2.same (((s_t0.trans s_t1).trans s_t2).trans s_t3)) ht4 (by show 2 ≤ 100000; decide) (Rs.cons r_t3 (Rs.cons (R.int _) Rs.nil))
    refine ⟨by show 4 ≤ sizeLine; decide, fun t5 ht5 => ?_⟩
    have s_t5 := sNew (o := .tup [.str "leaves", .ref t4, .int 10, .int 0]) (Same.refl _) ht5
    have r_t5 : R K S _ (.ref t5) (.tup [.str "leaves", .tup [.tup [], .int 1], .int 10, .int 0]) := R.newT (xs := [.str "leaves", .ref t4, .int 10, .int 0]) (al2.same ((((s_t0.trans s_t1).trans s_t2).trans s_t3).trans s_t4)) ht5 (by show 4 ≤ 100000; decide) (Rs.cons (R.str _) (Rs.cons r_t4 (Rs.cons (R.int _) (Rs.cons (R.int _) Rs.nil))))
    refine ⟨by show 0 ≤ sizeLine; decide, fun t6 ht6 => ?_⟩
    have s_t6 := sNew (o := .tup []) (Same.refl _) ht6
    have r_t6 : R K S _ (.ref t6) (.tup []) := R.newT (xs := []) (al2.same (((((s_t0.trans s_t1).trans s_t2).trans s_t3).trans s_t4).trans s_t5)) ht6 (by show 0 ≤ 100000; decide) Rs.nil
    refine ⟨by show 2 ≤ sizeLine; decide, fun t7 ht7 => ?_⟩
    have s_t7 := sNew (o := .tup [.ref t6, .int 1]) (Same.refl _) ht7
    have r_t7 : R K S _ (.ref t7) (.tup [.tup [], .int 1]) := R.newT (xs := [.ref t6, .int 1]) (al2.same ((((((s_t0.trans s_t1).trans s_t2).trans s_t3).trans s_t4).trans s_t5).trans s_t6)) ht7 (by show 2 ≤ 100000; decide) (Rs.cons r_t6 (Rs.cons (R.int _) Rs.nil))
    refine ⟨by show 4 ≤ sizeLine; decide, fun t8 ht8 => ?_⟩
    have s_t8 := sNew (o := .tup [.str "leaves", .ref t7, .int 3, .int 3]) (Same.refl _) ht8
    have r_t8 : R K S _ (.ref t8) (.tup [.str "leaves", .tup [.tup [], .int 1], .int 3, .int 3]) := R.newT (xs := [.str "leaves", .ref t7, .int 3, .int 3]) (al2.same (((((((s_t0.trans s_t1).trans s_t2).trans s_t3).trans s_t4).trans s_t5).trans s_t6).trans s_t7)) ht8 (by show 4 ≤ 100000; decide) (Rs.cons (R.str _) (Rs.cons r_t7 (Rs.cons (R.int _) (Rs.cons (R.int _) Rs.nil))))
    refine ⟨by show 0 ≤ sizeLine; decide, fun t9 ht9 => ?_⟩
    have s_t9 := sNew (o := .tup []) (Same.refl _) ht9
    have r_t9 : R K S _ (.ref t9) (.tup []) := R.newT (xs := []) (al2.same ((((((((s_t0.trans s_t1).trans s_t2).trans s_t3).trans s_t4).trans s_t5).trans s_t6).trans s_t7).trans s_t8)) ht9 (by show 0 ≤ 100000; decide) Rs.nil
    refine ⟨by show 3 ≤ sizeLine; decide, fun t10 ht10 => ?_⟩
    have s_t10 := sNew (o := .tup [.str "use", .str "some", .ref t9]) (Same.refl _) ht10
    have r_t10 : R K S _ (.ref t10) (.tup [.str "use", .str "some", .tup []]) := R.newT (xs := [.str "use", .str "some", .ref t9]) (al2.same (((((((((s_t0.trans s_t1).trans s_t2).trans s_t3).trans s_t4).trans s_t5).trans s_t6).trans s_t7).trans s_t8).trans s_t9)) ht10 (by show 3 ≤ 100000; decide) (Rs.cons (R.str _) (Rs.cons (R.str _) (Rs.cons r_t9 Rs.nil)))
    refine ⟨by show 1 ≤ sizeLine; decide, fun l11 hl11 => ?_⟩
    have s_l11 := sNew (o := .lst [.str "x"]) (Same.refl _) hl11
    have r_l11 : R K S _ (.ref l11) (.lst [.str "x"]) := R.newL (xs := [.str "x"]) (al2.same ((((((((((s_t0.trans s_t1).trans s_t2).trans s_t3).trans s_t4).trans s_t5).trans s_t6).trans s_t7).trans s_t8).trans s_t9).trans s_t10)) hl11 (by show 1 ≤ 100000; decide) (Rs.cons (R.str _) Rs.nil)
    refine ⟨by show 3 ≤ sizeLine; decide, fun t12 ht12 => ?_⟩
    have s_t12 := sNew (o := .tup [.str "use", .str "near", .ref l11]) (Same.refl _) ht12
    have r_t12 : R K S _ (.ref t12) (.tup [.str "use", .str "near", .lst [.str "x"]]) := R.newT (xs := [.str "use", .str "near", .ref l11]) (al2.same (((((((((((s_t0.trans s_t1).trans s_t2).trans s_t3).trans s_t4).trans s_t5).trans s_t6).trans s_t7).trans s_t8).trans s_t9).trans s_t10).trans s_l11)) ht12 (by show 3 ≤ 100000; decide) (Rs.cons (R.str _) (Rs.cons (R.str _) (Rs.cons r_l11 Rs.nil)))
    refine ⟨_, rfl, by show 2 ≤ sizeLine; decide, fun t13 ht13 => ?_⟩
    have s_t13 := sNew (o := .tup [.str "and", .ref a]) (Same.refl _) ht13
    have r_t13 : R K S _ (.ref t13) (.tup [.str "and", .tup [.tup its, e]]) := R.newT (xs := [.str "and", .ref a]) (al2.same ((((((((((((s_t0.trans s_t1).trans s_t2).trans s_t3).trans s_t4).trans s_t5).trans s_t6).trans s_t7).trans s_t8).trans s_t9).trans s_t10).trans s_l11).trans s_t12)) ht13 (by show 2 ≤ 100000; decide) (Rs.cons (R.str _) (Rs.cons (hv2.same ((((((((((((s_t0.trans s_t1).trans s_t2).trans s_t3).trans s_t4).trans s_t5).trans s_t6).trans s_t7).trans s_t8).trans s_t9).trans s_t10).trans s_l11).trans s_t12)) Rs.nil))
    refine ⟨by show 1 ≤ sizeLine; decide, fun t14 ht14 => ?_⟩
    have s_t14 := sNew (o := .tup [.str "not"]) (Same.refl _) ht14
    have r_t14 : R K S _ (.ref t14) (.tup [.str "not"]) := R.newT (xs := [.str "not"]) (al2.same (((((((((((((s_t0.trans s_t1).trans s_t2).trans s_t3).trans s_t4).trans s_t5).trans s_t6).trans s_t7).trans s_t8).trans s_t9).trans s_t10).trans s_l11).trans s_t12).trans s_t13)) ht14 (by show 1 ≤ 100000; decide) (Rs.cons (R.str _) Rs.nil)
    have sA := ((((((((((((((s_t0.trans s_t1).trans s_t2).trans s_t3).trans s_t4).trans s_t5).trans s_t6).trans s_t7).trans s_t8).trans s_t9).trans s_t10).trans s_l11).trans s_t12).trans s_t13).trans s_t14)
    refine ⟨by show 12 ≤ sizeLine; decide, fun pl hpl => ?_⟩
    have sP := sNew (o := .lst [.non, .int 3, .str "x = 1", .ref t0, .ref t1, .ref t2, .ref t5, .ref t8, .ref t10, .ref t12, .ref t13, .ref t14]) (Same.refl _) hpl
    have sAP := sA.trans sP
    refine ⟨b, c, pl, _, rfl, B2.same sAP, SqL.of upd_same, ((B2.same sA).off hpl).1, by show 0 < 12; decide, by show 12 < 1000000; decide, fun vv H3 hvv B3 kp3 => ?_⟩
    have kpE := (kp02.trans (Kp.of sAP)).trans kp3
    simp only [List.mem_cons, List.not_mem_nil, or_false] at hvv
    rcases hvv with rfl | rfl | rfl | rfl | rfl | rfl | rfl | rfl | rfl | rfl | rfl | rfl
    · exact q _ _ _ (R.non) (San.none fun i c z => by cases z) B3 kpE
    · exact q _ _ _ (R.int _) (San.none fun i c z => by cases z) B3 kpE
    · exact q _ _ _ (R.str _) (San.none fun i c z => by cases z) B3 kpE
    · exact q _ _ _ (((r_t0.same (((((((((((((s_t1.trans s_t2).trans s_t3).trans s_t4).trans s_t5).trans s_t6).trans s_t7).trans s_t8).trans s_t9).trans s_t10).trans s_l11).trans s_t12).trans s_t13).trans s_t14)).same sP).kp hb kp3) (San.none fun i c z => by have h3 := D.tup.inj z; cases h3) B3 kpE
    · exact q _ _ _ (((r_t1.same ((((((((((((s_t2.trans s_t3).trans s_t4).trans s_t5).trans s_t6).trans s_t7).trans s_t8).trans s_t9).trans s_t10).trans s_l11).trans s_t12).trans s_t13).trans s_t14)).same sP).kp hb kp3) (San.none fun i c z => by have h3 := D.tup.inj z; cases h3) B3 kpE
    · exact q _ _ _ (((r_t2.same (((((((((((s_t3.trans s_t4).trans s_t5).trans s_t6).trans s_t7).trans s_t8).trans s_t9).trans s_t10).trans s_l11).trans s_t12).trans s_t13).trans s_t14)).same sP).kp hb kp3) (San.none fun i c z => by have h3 := D.tup.inj z; cases h3) B3 kpE
    · exact q _ _ _ (((r_t5.same ((((((((s_t6.trans s_t7).trans s_t8).trans s_t9).trans s_t10).trans s_l11).trans s_t12).trans s_t13).trans s_t14)).same sP).kp hb kp3) (San.none fun i c z => by have h3 := D.tup.inj z; cases h3) B3 kpE
    · exact q _ _ _ (((r_t8.same (((((s_t9.trans s_t10).trans s_l11).trans s_t12).trans s_t13).trans s_t14)).same sP).kp hb kp3) (San.none fun i c z => by have h3 := D.tup.inj z; cases h3) B3 kpE
    · exact q _ _ _ (((r_t10.same (((s_l11.trans s_t12).trans s_t13).trans s_t14)).same sP).kp hb kp3) (San.none fun i c z => by have h3 := D.tup.inj z; cases h3) B3 kpE
    · exact q _ _ _ (((r_t12.same (s_t13.trans s_t14)).same sP).kp hb kp3) (San.none fun i c z => by have h3 := D.tup.inj z; cases h3) B3 kpE
    · exact q _ _ _ (((r_t13.same s_t14).same sP).kp hb kp3) (San.none fun i c z => by have h3 := D.tup.inj z; cases h3) B3 kpE
    · exact q _ _ _ ((r_t14.same sP).kp hb kp3) (San.none fun i c z => by have h3 := D.tup.inj z; cases h3) B3 kpE
end
end RF

namespace RF
open PySem L2 PyProof.Rows
def spAnyA (K : PySem.W.Frag) : Sp := fun vs H Q E => ∃ n, n ≤ 4 ∧ spAny K n vs H Q E
theorem fn_ex {P : Program} {w : World} {K : PySem.W.Frag} {mg : Str → Option Value} {base : Heap} {CX : CXT} {k : Nat} {f : Addr} {fd : FuncData} {ps : List Str} {sp : Nat → Sp} {m : Nat} (h : ∀ n, n ≤ m → FnOk P w K mg base CX k f fd ps (sp n)) :
    FnOk P w K mg base CX k f fd ps (fun vs H Q E => ∃ n, n ≤ m ∧ sp n vs H Q E) :=
  ⟨fun vs H Q E ⟨n, hn, z⟩ => (h n hn).len vs H Q E z, fun A outer s H args us vs Q E hr e0 hb rv ⟨n, hn, z⟩ => (h n hn).run A outer s H args us vs Q E hr e0 hb rv z⟩
theorem San.of : ∀ {n : Nat} {its : List D} {c : D}, (∀ it ∈ its, ∀ fa t, it = .tup [fa, t] → SanF n t) → San n (.tup [.tup its, c])
  | 0, its, c, h => fun its' c' e it hit fa t et => by cases e; exact h it hit fa t et
  | _ + 1, its, c, h => fun its' c' e it hit fa t et => by cases e; exact h it hit fa t et
theorem sanF_flat : ∀ {n : Nat} {t : D}, Short t → (∀ w s u, t ≠ .tup [w, s, u]) → SanF n t
  | 0, _, h, g => ⟨h, fun w s u e => absurd e (g w s u)⟩
  | _ + 1, _, h, g => ⟨h, fun w s u e => absurd e (g w s u)⟩
theorem sanF_fl {n m : Nat} {x : Str} {s u : D} (h : Gen m u) : SanF n (.tup [.str x, s, u]) := by
  cases n with
  | zero => exact ⟨short_no (fun x e => by cases e), fun w s u e => by cases e; exact ⟨⟨_, rfl⟩, trivial⟩⟩
  | succ n => exact ⟨short_no (fun x e => by cases e), fun w s u e => by cases e; exact ⟨⟨_, rfl⟩, gen_san n h⟩⟩
theorem gen_parts : ∀ {n : Nat} {d : D}, Gen n d → ∃ its c, d = .tup [.tup its, .int c] ∧ its.length ≤ 4 ∧ ∀ it ∈ its, ∃ fa t, it = .tup [.int fa, t] ∧ ∀ a b, t ≠ .tup [a, b]
  | 0, d, ⟨its, c, e, h1, h2⟩ => ⟨its, c, e, h1, fun it hit => by
    obtain ⟨fa, t, e, ht⟩ := h2 it hit
    refine ⟨fa, t, e, fun a b z => ?_⟩
    rcases ht with rfl | rfl | ⟨_, _, _, _, rfl, _⟩ <;> cases z⟩
  | _ + 1, d, ⟨its, c, e, h1, h2⟩ => ⟨its, c, e, h1, fun it hit => by
    obtain ⟨fa, t, e, ht⟩ := h2 it hit
    refine ⟨fa, t, e, fun a b z => ?_⟩
    rcases ht with rfl | rfl | ⟨_, _, _, _, rfl, _⟩ <;> cases z⟩
theorem R.g {K : PySem.W.Frag} {S : List Addr} {H H' : Hp} {v : V} {d : D} (h : R K S H v d) (g : Same (hid S H) (hid S H')) : R K S H' v d := Rp.same g d h
/-- the items of a term, taken for a term -/
theorem san_items {n m : Nat} {its : List D} (h : ∀ it ∈ its, ∃ fa t, it = .tup [.int fa, t] ∧ ∀ a b, t ≠ .tup [a, b]) : San m (.tup its) := by
  have key : ∀ its' c, D.tup its = .tup [.tup its', c] → ∀ it ∈ its', ∀ fa t, it = .tup [fa, t] → False := by
    intro its' c e it hit fa t et
    have e2 := D.tup.inj e
    obtain ⟨f, t', e3, h3⟩ := h (.tup its') (by rw [e2]; exact List.mem_cons_self)
    have e4 := D.tup.inj e3
    rw [e4] at hit
    rcases List.mem_cons.mp hit with z | hit
    · rw [z] at et; cases et
    · rw [List.mem_singleton.mp hit] at et
      exact h3 _ _ et
  cases m with
  | zero => exact fun its' c e it hit fa t et => (key its' c e it hit fa t et).elim
  | succ m => exact fun its' c e it hit fa t et => (key its' c e it hit fa t et).elim
def deepD : Nat → D
  | 0 => .tup [.tup [], .int 1]
  | k + 1 => .tup [.tup [.tup [.int 1, .tup [.str "floor", .tup [.int 1, .int 0, .int 1], deepD k]]], .int 0]
theorem deep_san : ∀ (n k : Nat), San n (deepD k)
  | n, 0 => San.of fun it hit => by cases hit
  | 0, k + 1 => San.of fun it hit fa t et => by
    rw [List.mem_singleton.mp hit] at et
    cases et
    exact ⟨short_no (fun x e => by cases e), fun w s u e => by cases e; exact ⟨⟨_, rfl⟩, trivial⟩⟩
  | n + 1, k + 1 => San.of fun it hit fa t et => by
    rw [List.mem_singleton.mp hit] at et
    cases et
    exact ⟨short_no (fun x e => by cases e), fun w s u e => by cases e; exact ⟨⟨_, rfl⟩, deep_san n k⟩⟩
abbrev n_law : List Str := ["_law_script", "_law_bag_here", "_law_turn", "_law_term", "_law_spot", "_law_factor", "_law_thing", "_law_bent_here", "_law_value_z", "_law_due", "_law_deep", "_law_found", "_law_k"]
theorem sc_law : FnScope n_law ["_law_script"] (defScope (top 28)) := ⟨rfl, rfl, rfl, by decide +kernel, rfl, by decide +kernel, by decide +kernel⟩
def spLaw (K : PySem.W.Frag) : Sp := fun vs H Q _ => ∃ (a : Addr) (ns : List Int), vs = [.ref a] ∧ SqL K H a (ns.map V.int) ∧ ns.length ≤ 63 ∧ ∀ H', Q (.bl true) H'
structure EnvK (P : Program) (w : World) (K : PySem.W.Frag) (mg : Str → Option Value) (base : Heap) : Prop where
  bag : Df P w K mg base 20 "_law_bag" ["_law_script"] (spBag K)
  pull : Df P w K mg base 20 "_law_pull" ["_law_bag_here", "_law_sides"] spPullC
  of_ : Df P w K mg base 20 "_law_of" ["_law_bag_here", "_law_some"] (spOfC K)
  same : Df P w K mg base 20 "_law_same" ["_law_found", "_law_due"] (spSame K 5)
  any : Df P w K mg base 20 "_law_any_term" ["_law_bag_here", "_law_names", "_law_deep"] (spAnyA K)
  bent : Df P w K mg base 20 "_law_bent" ["_law_bag_here", "_law_value_z"] (spBent K)
  lterm : Df P w K mg base 20 "_law_is_term" ["_law_value_z", "_law_deep"] (spLT K 3)
  term : Df P w K mg base 20 "is_term" ["value"] (spIsTerm K)
  termK : Dk P w K mg base 20 "is_term" ["value"] ["value"] (fun _ zs => zs) (spIsTerm K)
  range : mg "range" = none
  len : mg "len" = none
  list : mg "list" = none
section
variable {P : Program} {w : World} {K : PySem.W.Frag} {mg : Str → Option Value} {base : Heap}
theorem ok_law {f : Addr} {fd : FuncData} (F : Fun K "law" "law" (top 28) f fd) (e : EnvK P w K mg base) : FnOk P w K mg base CX0 21 f fd ["_law_script"] (spLaw K) := by
  refine F.ok sc_law (fun vs H Q E h => ?_) (fun cdv A outer s H vs Q E hr h => ?_)
  · obtain ⟨a, ns, rfl, _⟩ := h
    rfl
  · obtain ⟨a, ns, rfl, hS, hl, kk⟩ := h
    have nd := sc_law.nd
    refine ⟨_, (pss_cons (ps_set (i := 1) nd rfl (Or.inl rfl) (pe_callD e.bag hr (by decide) (pa_cons (pv 0) pa_nil)))
      (pss_cons (ps_for PassesOwn.never rfl (pi_range1 rfl e.range (pa_cons pe_int pa_nil)) (pg_name (i := 2) nd rfl (Or.inl rfl))
      (pss_cons (ps_set (i := 3) nd rfl (Or.inl rfl) (pe_callD e.any hr (by decide) (pa_cons (pv 1) (pa_cons (pe_lst (pa_cons pe_str (pa_cons pe_str pa_nil))) (pa_cons (pe_callD e.pull hr (by decide) (pa_cons (pv 1) (pa_cons pe_int pa_nil))) pa_nil)))))
        (pss_cons (ps_set (i := 4) nd rfl (Or.inl rfl) (pe_callD e.pull hr (by decide) (pa_cons (pv 1) (pa_cons (pe_op op_add (pe_callB call_len_seq (by rfl) e.len (by decide +kernel) (pa_cons (pe_ix ix_tup (pv 3) pe_int (fun _ _ => rfl)) pa_nil)) pe_int) pa_nil))))
        (pss_cons (ps_set (i := 5) nd rfl (Or.inl rfl) (pe_callD e.of_ hr (by decide) (pa_cons (pv 1) (pa_cons (pe_lst (pa_cons pe_int (pa_cons pe_int (pa_cons (pe_un un_neg pe_int) (pa_cons pe_int (pa_cons pe_bl (pa_cons pe_int (pa_cons pe_non pa_nil)))))))) pa_nil))))
        (pss_cons (ps_set (i := 6) nd rfl (Or.inl rfl) (pe_callD e.of_ hr (by decide) (pa_cons (pv 1) (pa_cons (pe_lst (pa_cons pe_str (pa_cons pe_str (pa_cons pe_str (pa_cons (pe_tup (pa_cons pe_str (pa_cons (pe_tup (pa_cons pe_int (pa_cons pe_int (pa_cons pe_int pa_nil)))) pa_nil))) (pa_cons (pe_tup (pa_cons pe_str (pa_cons (pe_tup (pa_cons pe_int (pa_cons pe_int (pa_cons pe_int pa_nil)))) (pa_cons (pv 3) pa_nil)))) (pa_cons (pe_lst (pa_cons pe_str pa_nil)) (pa_cons pe_str pa_nil)))))))) pa_nil))))
        (pss_cons (ps_set (i := 7) nd rfl (Or.inl rfl) (pe_lst (pa_cons (pv 3) (pa_cons (pe_tup (pa_cons (pe_op op_catR (pe_op op_catR (pe_slice sl_tupR (pe_ix ix_tup (pv 3) pe_int (fun _ _ => rfl)) po_none (po_some (pv 4))) (pe_tup (pa_cons (pe_tup (pa_cons (pv 5) (pa_cons pe_str pa_nil))) pa_nil))) (pe_slice sl_tupR (pe_ix ix_tup (pv 3) pe_int (fun _ _ => rfl)) (po_some (pv 4)) po_none)) (pa_cons (pe_ix ix_tup (pv 3) pe_int (fun _ _ => rfl)) pa_nil))) (pa_cons (pe_tup (pa_cons (pe_ix ix_tup (pv 3) pe_int (fun _ _ => rfl)) (pa_cons (pe_callD e.of_ hr (by decide) (pa_cons (pv 1) (pa_cons (pe_lst (pa_cons pe_int (pa_cons pe_bl (pa_cons pe_non (pa_cons pe_str pa_nil))))) pa_nil))) pa_nil))) (pa_cons (pe_tup (pa_cons (pe_callTy call_list_of (by rfl) e.list (by decide +kernel) (pa_cons (pe_ix ix_tup (pv 3) pe_int (fun _ _ => rfl)) pa_nil)) (pa_cons pe_int pa_nil))) (pa_cons (pe_tup (pa_cons (pe_op op_catR (pe_op op_catR (pe_slice sl_tupR (pe_ix ix_tup (pv 3) pe_int (fun _ _ => rfl)) po_none (po_some (pv 4))) (pe_tup (pa_cons (pe_tup (pa_cons pe_int (pa_cons (pv 6) pa_nil))) pa_nil))) (pe_slice sl_tupR (pe_ix ix_tup (pv 3) pe_int (fun _ _ => rfl)) (po_some (pe_op op_add (pv 4) pe_int)) po_none)) (pa_cons (pe_un un_neg pe_int) pa_nil))) (pa_cons (pe_callD e.bent hr (by decide) (pa_cons (pv 1) (pa_cons (pv 3) pa_nil))) (pa_cons (pe_ix ix_tup (pv 3) pe_int (fun _ _ => rfl)) (pa_cons (pe_tup (pa_cons (pe_tup (pa_cons (pe_tup (pa_cons pe_int (pa_cons (pe_tup (pa_cons pe_str (pa_cons (pe_callD e.of_ hr (by decide) (pa_cons (pv 1) (pa_cons (pe_lst (pa_cons (pe_tup (pa_cons pe_int (pa_cons pe_int (pa_cons pe_int pa_nil)))) (pa_cons (pe_tup (pa_cons pe_int (pa_cons pe_int (pa_cons pe_int pa_nil)))) (pa_cons (pe_tup (pa_cons pe_int (pa_cons pe_int pa_nil))) pa_nil)))) pa_nil))) (pa_cons (pv 3) pa_nil)))) pa_nil))) pa_nil)) (pa_cons pe_int pa_nil))) pa_nil))))))))))
        (pss_cons (ps_set (i := 8) nd rfl (Or.inl rfl) (pe_ix ix_list (pv 7) (pe_callD e.pull hr (by decide) (pa_cons (pv 1) (pa_cons pe_int pa_nil))) (fun _ _ => rfl)))
        (pss_cons (ps_set (i := 9) nd rfl (Or.inl rfl) (pe_callD e.lterm hr (by decide) (pa_cons (pv 8) (pa_cons pe_int pa_nil))))
        (pss_one (ps_if (pt_not (pt_val (pe_callD e.same hr (by decide) (pa_cons (pe_lst (pa_cons (pe_callD e.term hr (by decide) (pa_cons (pv 8) pa_nil)) (pa_cons (pe_kD e.termK hr (by decide) (pk_cons (pv 3) pk_nil)) pa_nil))) (pa_cons (pe_lst (pa_cons (pv 9) (pa_cons (pe_callD e.lterm hr (by decide) (pa_cons (pv 3) (pa_cons pe_int pa_nil))) pa_nil))) pa_nil)))))
        (pss_one ps_never)
        pss_nil))))))))))
      (pss_cons (ps_set (i := 10) nd rfl (Or.inl rfl) (pe_tup (pa_cons (pe_tup pa_nil) (pa_cons pe_int pa_nil))))
      (pss_cons (ps_set (i := 11) nd rfl (Or.inl rfl) (pe_lst pa_nil))
      (pss_cons (ps_for PassesOwn.never rfl (pi_range1 rfl e.range (pa_cons pe_int pa_nil)) (pg_name (i := 12) nd rfl (Or.inl rfl))
      (pss_cons (ps_expr (pe_bm PySem.F.plainAttrs_list PySem.F.slot_list_append PySem.F.type_list_append mt_append (pv 11) (pa_cons (pe_callD e.term hr (by decide) (pa_cons (pv 10) pa_nil)) pa_nil)))
        (pss_one (ps_set (i := 10) nd rfl (Or.inl rfl) (pe_tup (pa_cons (pe_tup (pa_cons (pe_tup (pa_cons pe_int (pa_cons (pe_tup (pa_cons pe_str (pa_cons (pe_tup (pa_cons pe_int (pa_cons pe_int (pa_cons pe_int pa_nil)))) (pa_cons (pv 10) pa_nil)))) pa_nil))) pa_nil)) (pa_cons pe_int pa_nil)))))))
      (pss_one (ps_ret (pe_callD e.same hr (by decide) (pa_cons (pv 11) (pa_cons (pe_lst (pa_cons pe_bl (pa_cons pe_bl (pa_cons pe_bl (pa_cons pe_bl (pa_cons pe_bl pa_nil)))))) pa_nil)))))))))), ?_⟩
    refine ⟨_, rfl, a, ns, rfl, hS, hl, fun b H1 nb B1 sm1 => ?_⟩
    obtain ⟨c, B1⟩ := B1.here
    refine ⟨6, rfl, by decide, by decide, for_range (n := 6) (fun _ σ H' => ∃ v2 v3 v4 v5 v6 v7 v8 v9 v10 v11 v12 : Option V,
        σ = [some (.ref a), some (.ref b), v2, v3, v4, v5, v6, v7, v8, v9, v10, v11, v12] ∧ BagAt H' b c)
      ⟨none, none, none, none, none, none, none, none, none, none, none, rfl, B1⟩ ?_ ?_⟩
    · rintro i0 σ H2 hi0 ⟨v2, v3, v4, v5, v6, v7, v8, v9, v10, v11, v12, rfl, B2⟩
      -- the term
      refine ⟨_, rfl, by show 2 ≤ sizeLine; decide, fun nm hnm => ?_⟩
      have B2' := B2.same (sNew (o := .lst [.str "x", .str "abc"]) (Same.refl _) hnm)
      refine ⟨_, rfl, b, c, 5, rfl, B2', by decide, by decide, fun d5 H3 d50 d51 B3 kp3 => ?_⟩
      obtain ⟨n, rfl⟩ : ∃ n : Nat, d5 = (n : Int) := ⟨d5.toNat, by omega⟩
      have hb1 : b ∈ [b] := List.mem_singleton.mpr rfl
      have al1 : ∀ {H : Hp}, BagAt H b c → Alloc [b] H := fun B s hs => by rw [List.mem_singleton.mp hs]; exact B.there
      refine ⟨n, by omega, b, c, nm, [b], rfl, B3, hb1, al1 B3, kp3 _ _ (B2.off hnm).1 upd_same, (B2.off hnm).1, fun vt dt H4 rt gt B4 kp4 => ?_⟩
      obtain ⟨its, cst, rfl, hlen, hits⟩ := gen_parts gt
      obtain ⟨ta, txs, rfl, St, lt, yi, r1, rfl, pi_, yc, r2, rfl, pc, rfl⟩ := id rt
      obtain rfl : yc = .int cst := pc
      obtain ⟨ti, xi, rfl, Si, li, ri⟩ := id pi_
      have lxi := ri.len
      refine ⟨_, rfl, _, rfl, ta, _, _, _, rfl, rfl, sameT hid_same St, rfl, ti, _, rfl, .inr (sameT hid_same Si), _, _, rfl, rfl, b, c, _, rfl, B4, by omega, by omega, fun spot H5 s50 s51 B5 kp5 => ?_⟩
      have g_1 := hid_kp (S := [b]) hb1 kp5
      refine ⟨_, rfl, _, rfl, by show 7 ≤ sizeLine; decide, fun p1 hp1 => ?_⟩
      have s_2 := sNew (o := .lst [.int 0, .int 10, .int (-10), .int 9, .bl true, .int 1, .non]) (Same.refl _) hp1
      have g_2 := hid_mono (S := [b]) s_2
      refine ⟨b, c, p1, _, rfl, (B5.same s_2), SqL.of upd_same, (B5.off hp1).1, by show 0 < 7; decide, by show 7 < 1000000; decide, fun vf H6 hvf B6 kp6 => ?_⟩
      have g_3 := hid_kp (S := [b]) hb1 kp6
      obtain ⟨df, hdf⟩ : ∃ df, ∀ S H, R K S H vf df := by
        simp only [List.mem_cons, List.not_mem_nil, or_false] at hvf
        rcases hvf with rfl | rfl | rfl | rfl | rfl | rfl | rfl
        · exact ⟨.int 0, fun _ _ => rfl⟩
        · exact ⟨.int 10, fun _ _ => rfl⟩
        · exact ⟨.int (-10), fun _ _ => rfl⟩
        · exact ⟨.int 9, fun _ _ => rfl⟩
        · exact ⟨.bl true, fun _ _ => rfl⟩
        · exact ⟨.int 1, fun _ _ => rfl⟩
        · exact ⟨.non, fun _ _ => rfl⟩
      refine ⟨_, rfl, by show 3 ≤ sizeLine; decide, fun u1 hu1 => ?_⟩
      have r_u1 := R.newT (K := K) (xs := [.int 1, .int 1, .int 2]) (al1 B6) hu1 (by show 3 ≤ 100000; decide) (Rs.cons (R.int _) (Rs.cons (R.int _) (Rs.cons (R.int _) Rs.nil)))
      have s_4 := sNew (o := .tup [.int 1, .int 1, .int 2]) (Same.refl _) hu1
      have g_4 := hid_mono (S := [b]) s_4
      refine ⟨by show 2 ≤ sizeLine; decide, fun u2 hu2 => ?_⟩
      have r_u2 := R.newT (K := K) (xs := [.str "floor", .ref u1]) (al1 (B6.same s_4)) hu2 (by show 2 ≤ 100000; decide) (Rs.cons (R.str _) (Rs.cons r_u1 Rs.nil))
      have s_5 := sNew (o := .tup [.str "floor", .ref u1]) (Same.refl _) hu2
      have g_5 := hid_mono (S := [b]) s_5
      refine ⟨by show 3 ≤ sizeLine; decide, fun u3 hu3 => ?_⟩
      have r_u3 := R.newT (K := K) (xs := [.int 1, .int 1, .int 2]) (al1 (B6.same (s_4.trans s_5))) hu3 (by show 3 ≤ 100000; decide) (Rs.cons (R.int _) (Rs.cons (R.int _) (Rs.cons (R.int _) Rs.nil)))
      have s_6 := sNew (o := .tup [.int 1, .int 1, .int 2]) (Same.refl _) hu3
      have g_6 := hid_mono (S := [b]) s_6
      refine ⟨_, rfl, by show 3 ≤ sizeLine; decide, fun u4 hu4 => ?_⟩
      have r_u4 := R.newT (K := K) (xs := [.str "root", .ref u3, .ref ta]) (al1 (B6.same ((s_4.trans s_5).trans s_6))) hu4 (by show 3 ≤ 100000; decide) (Rs.cons (R.str _) (Rs.cons r_u3 (Rs.cons (R.g rt (((((g_1.trans g_2).trans g_3).trans g_4).trans g_5).trans g_6)) Rs.nil)))
      have s_7 := sNew (o := .tup [.str "root", .ref u3, .ref ta]) (Same.refl _) hu4
      have g_7 := hid_mono (S := [b]) s_7
      refine ⟨by show 1 ≤ sizeLine; decide, fun u5 hu5 => ?_⟩
      have r_u5 := R.newL (K := K) (xs := [.str "x"]) (al1 (B6.same (((s_4.trans s_5).trans s_6).trans s_7))) hu5 (by show 1 ≤ 100000; decide) (Rs.cons (R.str _) Rs.nil)
      have s_8 := sNew (o := .lst [.str "x"]) (Same.refl _) hu5
      have g_8 := hid_mono (S := [b]) s_8
      refine ⟨by show 7 ≤ sizeLine; decide, fun p2 hp2 => ?_⟩
      have s_9 := sNew (o := .lst [.str "r", .str "abcd", .str "Q", .ref u2, .ref u4, .ref u5, .str "zz"]) (Same.refl _) hp2
      have g_9 := hid_mono (S := [b]) s_9
      refine ⟨b, c, p2, _, rfl, (B6.same (((((s_4.trans s_5).trans s_6).trans s_7).trans s_8).trans s_9)), SqL.of upd_same, ((B6.same ((((s_4.trans s_5).trans s_6).trans s_7).trans s_8)).off hp2).1, by show 0 < 7; decide, by show 7 < 1000000; decide, fun vth H7 hvth B7 kp7 => ?_⟩
      have g_10 := hid_kp (S := [b]) hb1 kp7
      obtain ⟨dth, rth, sth⟩ : ∃ dth, R K [b] H7 vth dth ∧ SanF 3 dth := by
        simp only [List.mem_cons, List.not_mem_nil, or_false] at hvth
        rcases hvth with rfl | rfl | rfl | rfl | rfl | rfl | rfl
        · exact ⟨_, R.str _, sanF_flat (fun y e => by cases e; decide +kernel) fun w s u e => by cases e⟩
        · exact ⟨_, R.str _, sanF_flat (fun y e => by cases e; decide +kernel) fun w s u e => by cases e⟩
        · exact ⟨_, R.str _, sanF_flat (fun y e => by cases e; decide +kernel) fun w s u e => by cases e⟩
        · exact ⟨_, (R.g r_u2 ((((g_6.trans g_7).trans g_8).trans g_9).trans g_10)), sanF_flat (short_no fun x e => by cases e) fun w s u e => by have h3 := D.tup.inj e; cases h3⟩
        · exact ⟨_, (R.g r_u4 ((g_8.trans g_9).trans g_10)), sanF_fl gt⟩
        · exact ⟨_, (R.g r_u5 (g_9.trans g_10)), sanF_flat (short_no fun x e => by cases e) fun w s u e => by cases e⟩
        · exact ⟨_, R.str _, sanF_flat (fun y e => by cases e; decide +kernel) fun w s u e => by cases e⟩
      refine ⟨_, rfl, ?_⟩
      have hitF : ∀ it ∈ its, ∀ fa t, it = .tup [fa, t] → SanF 3 t := fun it hit fa t e => (gen_san 3 gt).it hit e
      refine ⟨_, rfl, ta, _, _, _, rfl, rfl, sameT hid_same (sameT (((((((((g_1.trans g_2).trans g_3).trans g_4).trans g_5).trans g_6).trans g_7).trans g_8).trans g_9).trans g_10) St), rfl, _, rfl, _, rfl, [b], its, (R.g pi_ (((((((((g_1.trans g_2).trans g_3).trans g_4).trans g_5).trans g_6).trans g_7).trans g_8).trans g_9).trans g_10)), (al1 B7), fun a_v1 a_Ha a_sa a_ra => ?_⟩
      have s_11 := a_sa
      have g_11 := hid_mono (S := [b]) s_11
      refine ⟨_, rfl, by show 2 ≤ sizeLine; decide, fun a_w1 a_hw1 => ?_⟩
      have a_r1 := R.newT (K := K) (xs := [vf, .str "x"]) (al1 (B7.same s_11)) a_hw1 (by show 2 ≤ 100000; decide) (Rs.cons (hdf _ _) (Rs.cons (R.str _) Rs.nil))
      have s_12 := sNew (o := .tup [vf, .str "x"]) (Same.refl _) a_hw1
      have g_12 := hid_mono (S := [b]) s_12
      refine ⟨by show 1 ≤ sizeLine; decide, fun a_w2 a_hw2 => ?_⟩
      have a_r2 := R.newT (K := K) (xs := [.ref a_w1]) (al1 (B7.same (s_11.trans s_12))) a_hw2 (by show 1 ≤ 100000; decide) (Rs.cons a_r1 Rs.nil)
      have s_13 := sNew (o := .tup [.ref a_w1]) (Same.refl _) a_hw2
      have g_13 := hid_mono (S := [b]) s_13
      have a_lc1 := cutD_len its none (some spot)
      refine ⟨[b], _, _, (R.g a_ra (g_12.trans g_13)), a_r2, (al1 (B7.same ((s_11.trans s_12).trans s_13))), by rw [List.length_cons, List.length_nil]; omega, fun a_v2 a_Hb a_sb a_rb => ?_⟩
      have s_14 := a_sb
      have g_14 := hid_mono (S := [b]) s_14
      have a_lc2 := cutD_len its (some (spot)) none
      refine ⟨_, rfl, ta, _, _, _, rfl, rfl, sameT hid_same (sameT (((((((((((((g_1.trans g_2).trans g_3).trans g_4).trans g_5).trans g_6).trans g_7).trans g_8).trans g_9).trans g_10).trans g_11).trans g_12).trans g_13).trans g_14) St), rfl, _, rfl, _, rfl, [b], its, (R.g pi_ (((((((((((((g_1.trans g_2).trans g_3).trans g_4).trans g_5).trans g_6).trans g_7).trans g_8).trans g_9).trans g_10).trans g_11).trans g_12).trans g_13).trans g_14)), (al1 (B7.same (((s_11.trans s_12).trans s_13).trans s_14))), fun a_v3 a_Hc a_sc a_rc => ?_⟩
      have s_15 := a_sc
      have g_15 := hid_mono (S := [b]) s_15
      refine ⟨[b], _, _, (R.g a_rb g_15), a_rc, (al1 (B7.same ((((s_11.trans s_12).trans s_13).trans s_14).trans s_15))), by rw [List.length_append, List.length_cons, List.length_nil]; omega, fun a_v4 a_Hd a_sd a_rd => ?_⟩
      have s_16 := a_sd
      have g_16 := hid_mono (S := [b]) s_16
      refine ⟨_, rfl, ta, _, _, _, rfl, rfl, sameT hid_same (sameT (((((((((((((((g_1.trans g_2).trans g_3).trans g_4).trans g_5).trans g_6).trans g_7).trans g_8).trans g_9).trans g_10).trans g_11).trans g_12).trans g_13).trans g_14).trans g_15).trans g_16) St), rfl, by show 2 ≤ sizeLine; decide, fun a_w3 a_hw3 => ?_⟩
      have a_r3 := R.newT (K := K) (xs := [a_v4, .int cst]) (al1 (B7.same (((((s_11.trans s_12).trans s_13).trans s_14).trans s_15).trans s_16))) a_hw3 (by show 2 ≤ 100000; decide) (Rs.cons a_rd (Rs.cons (R.int _) Rs.nil))
      have s_17 := sNew (o := .tup [a_v4, .int cst]) (Same.refl _) a_hw3
      have g_17 := hid_mono (S := [b]) s_17
      refine ⟨_, rfl, ta, _, _, _, rfl, rfl, sameT hid_same (sameT ((((((((((((((((g_1.trans g_2).trans g_3).trans g_4).trans g_5).trans g_6).trans g_7).trans g_8).trans g_9).trans g_10).trans g_11).trans g_12).trans g_13).trans g_14).trans g_15).trans g_16).trans g_17) St), rfl, _, rfl, by show 4 ≤ sizeLine; decide, fun p3 hp3 => ?_⟩
      have s_18 := sNew (o := .lst [.int 1001, .bl true, .non, .str "1"]) (Same.refl _) hp3
      have g_18 := hid_mono (S := [b]) s_18
      refine ⟨b, c, p3, _, rfl, (B7.same (((((((s_11.trans s_12).trans s_13).trans s_14).trans s_15).trans s_16).trans s_17).trans s_18)), SqL.of upd_same, ((B7.same ((((((s_11.trans s_12).trans s_13).trans s_14).trans s_15).trans s_16).trans s_17)).off hp3).1, by show 0 < 4; decide, by show 4 < 1000000; decide, fun vo H8 hvo B8 kp8 => ?_⟩
      have g_19 := hid_kp (S := [b]) hb1 kp8
      obtain ⟨d0, hdo⟩ : ∃ d0, ∀ S H, R K S H vo d0 := by
        simp only [List.mem_cons, List.not_mem_nil, or_false] at hvo
        rcases hvo with rfl | rfl | rfl | rfl
        · exact ⟨.int 1001, fun _ _ => rfl⟩
        · exact ⟨.bl true, fun _ _ => rfl⟩
        · exact ⟨.non, fun _ _ => rfl⟩
        · exact ⟨.str "1", fun _ _ => rfl⟩
      refine ⟨by show 2 ≤ sizeLine; decide, fun w4 hw4 => ?_⟩
      have r_w4 := R.newT (K := K) (xs := [.ref ti, vo]) (al1 B8) hw4 (by show 2 ≤ 100000; decide) (Rs.cons (R.g pi_ ((((((((((((((((((g_1.trans g_2).trans g_3).trans g_4).trans g_5).trans g_6).trans g_7).trans g_8).trans g_9).trans g_10).trans g_11).trans g_12).trans g_13).trans g_14).trans g_15).trans g_16).trans g_17).trans g_18).trans g_19)) (Rs.cons (hdo _ _) Rs.nil))
      have s_20 := sNew (o := .tup [.ref ti, vo]) (Same.refl _) hw4
      have g_20 := hid_mono (S := [b]) s_20
      refine ⟨_, rfl, ta, _, _, _, rfl, rfl, sameT hid_same (sameT (((((((((((((((((((g_1.trans g_2).trans g_3).trans g_4).trans g_5).trans g_6).trans g_7).trans g_8).trans g_9).trans g_10).trans g_11).trans g_12).trans g_13).trans g_14).trans g_15).trans g_16).trans g_17).trans g_18).trans g_19).trans g_20) St), rfl, ti, xi, rfl, .inr (sameT hid_same (sameT (((((((((((((((((((g_1.trans g_2).trans g_3).trans g_4).trans g_5).trans g_6).trans g_7).trans g_8).trans g_9).trans g_10).trans g_11).trans g_12).trans g_13).trans g_14).trans g_15).trans g_16).trans g_17).trans g_18).trans g_19).trans g_20) Si)), fun l1 hl1 => ?_⟩
      have r_l1 := R.newL (K := K) (al1 (B8.same s_20)) hl1 li (Rps.same (((((((((((((((((((g_1.trans g_2).trans g_3).trans g_4).trans g_5).trans g_6).trans g_7).trans g_8).trans g_9).trans g_10).trans g_11).trans g_12).trans g_13).trans g_14).trans g_15).trans g_16).trans g_17).trans g_18).trans g_19).trans g_20) _ ri)
      have s_21 := sNew (o := .lst xi) (Same.refl _) hl1
      have g_21 := hid_mono (S := [b]) s_21
      refine ⟨by show 2 ≤ sizeLine; decide, fun w5 hw5 => ?_⟩
      have r_w5 := R.newT (K := K) (xs := [.ref l1, .int 0]) (al1 (B8.same (s_20.trans s_21))) hw5 (by show 2 ≤ 100000; decide) (Rs.cons r_l1 (Rs.cons (R.int _) Rs.nil))
      have s_22 := sNew (o := .tup [.ref l1, .int 0]) (Same.refl _) hw5
      have g_22 := hid_mono (S := [b]) s_22
      refine ⟨_, rfl, ta, _, _, _, rfl, rfl, sameT hid_same (sameT (((((((((((((((((((((g_1.trans g_2).trans g_3).trans g_4).trans g_5).trans g_6).trans g_7).trans g_8).trans g_9).trans g_10).trans g_11).trans g_12).trans g_13).trans g_14).trans g_15).trans g_16).trans g_17).trans g_18).trans g_19).trans g_20).trans g_21).trans g_22) St), rfl, _, rfl, _, rfl, [b], its, (R.g pi_ (((((((((((((((((((((g_1.trans g_2).trans g_3).trans g_4).trans g_5).trans g_6).trans g_7).trans g_8).trans g_9).trans g_10).trans g_11).trans g_12).trans g_13).trans g_14).trans g_15).trans g_16).trans g_17).trans g_18).trans g_19).trans g_20).trans g_21).trans g_22)), (al1 (B8.same ((s_20.trans s_21).trans s_22))), fun e_v1 e_Ha e_sa e_ra => ?_⟩
      have s_23 := e_sa
      have g_23 := hid_mono (S := [b]) s_23
      refine ⟨_, rfl, by show 2 ≤ sizeLine; decide, fun e_w1 e_hw1 => ?_⟩
      have e_r1 := R.newT (K := K) (xs := [.int 1, vth]) (al1 (B8.same (((s_20.trans s_21).trans s_22).trans s_23))) e_hw1 (by show 2 ≤ 100000; decide) (Rs.cons (R.int _) (Rs.cons (R.g rth ((((((((((((g_11.trans g_12).trans g_13).trans g_14).trans g_15).trans g_16).trans g_17).trans g_18).trans g_19).trans g_20).trans g_21).trans g_22).trans g_23)) Rs.nil))
      have s_24 := sNew (o := .tup [.int 1, vth]) (Same.refl _) e_hw1
      have g_24 := hid_mono (S := [b]) s_24
      refine ⟨by show 1 ≤ sizeLine; decide, fun e_w2 e_hw2 => ?_⟩
      have e_r2 := R.newT (K := K) (xs := [.ref e_w1]) (al1 (B8.same ((((s_20.trans s_21).trans s_22).trans s_23).trans s_24))) e_hw2 (by show 1 ≤ 100000; decide) (Rs.cons e_r1 Rs.nil)
      have s_25 := sNew (o := .tup [.ref e_w1]) (Same.refl _) e_hw2
      have g_25 := hid_mono (S := [b]) s_25
      have e_lc1 := cutD_len its none (some spot)
      refine ⟨[b], _, _, (R.g e_ra (g_24.trans g_25)), e_r2, (al1 (B8.same (((((s_20.trans s_21).trans s_22).trans s_23).trans s_24).trans s_25))), by rw [List.length_cons, List.length_nil]; omega, fun e_v2 e_Hb e_sb e_rb => ?_⟩
      have s_26 := e_sb
      have g_26 := hid_mono (S := [b]) s_26
      have e_lc2 := cutD_len its (some (spot + 1)) none
      refine ⟨_, rfl, ta, _, _, _, rfl, rfl, sameT hid_same (sameT (((((((((((((((((((((((((g_1.trans g_2).trans g_3).trans g_4).trans g_5).trans g_6).trans g_7).trans g_8).trans g_9).trans g_10).trans g_11).trans g_12).trans g_13).trans g_14).trans g_15).trans g_16).trans g_17).trans g_18).trans g_19).trans g_20).trans g_21).trans g_22).trans g_23).trans g_24).trans g_25).trans g_26) St), rfl, _, rfl, _, _, rfl, rfl, _, rfl, [b], its, (R.g pi_ (((((((((((((((((((((((((g_1.trans g_2).trans g_3).trans g_4).trans g_5).trans g_6).trans g_7).trans g_8).trans g_9).trans g_10).trans g_11).trans g_12).trans g_13).trans g_14).trans g_15).trans g_16).trans g_17).trans g_18).trans g_19).trans g_20).trans g_21).trans g_22).trans g_23).trans g_24).trans g_25).trans g_26)), (al1 (B8.same ((((((s_20.trans s_21).trans s_22).trans s_23).trans s_24).trans s_25).trans s_26))), fun e_v3 e_Hc e_sc e_rc => ?_⟩
      have s_27 := e_sc
      have g_27 := hid_mono (S := [b]) s_27
      refine ⟨[b], _, _, (R.g e_rb g_27), e_rc, (al1 (B8.same (((((((s_20.trans s_21).trans s_22).trans s_23).trans s_24).trans s_25).trans s_26).trans s_27))), by rw [List.length_append, List.length_cons, List.length_nil]; omega, fun e_v4 e_Hd e_sd e_rd => ?_⟩
      have s_28 := e_sd
      have g_28 := hid_mono (S := [b]) s_28
      refine ⟨_, rfl, by show 2 ≤ sizeLine; decide, fun e_w3 e_hw3 => ?_⟩
      have e_r3 := R.newT (K := K) (xs := [e_v4, .int (-1000)]) (al1 (B8.same ((((((((s_20.trans s_21).trans s_22).trans s_23).trans s_24).trans s_25).trans s_26).trans s_27).trans s_28))) e_hw3 (by show 2 ≤ 100000; decide) (Rs.cons e_rd (Rs.cons (R.int _) Rs.nil))
      have s_29 := sNew (o := .tup [e_v4, .int (-1000)]) (Same.refl _) e_hw3
      have g_29 := hid_mono (S := [b]) s_29
      refine ⟨_, rfl, _, rfl, b, c, [b], _, its, _, rfl, (B8.same (((((((((s_20.trans s_21).trans s_22).trans s_23).trans s_24).trans s_25).trans s_26).trans s_27).trans s_28).trans s_29)), hb1, (al1 (B8.same (((((((((s_20.trans s_21).trans s_22).trans s_23).trans s_24).trans s_25).trans s_26).trans s_27).trans s_28).trans s_29))), (R.g rt ((((((((((((((((((((((((((((g_1.trans g_2).trans g_3).trans g_4).trans g_5).trans g_6).trans g_7).trans g_8).trans g_9).trans g_10).trans g_11).trans g_12).trans g_13).trans g_14).trans g_15).trans g_16).trans g_17).trans g_18).trans g_19).trans g_20).trans g_21).trans g_22).trans g_23).trans g_24).trans g_25).trans g_26).trans g_27).trans g_28).trans g_29)), gen_san 3 gt, fun vb db H9 rb sb B9 kp9 => ?_⟩
      have g_30 := hid_kp (S := [b]) hb1 kp9
      refine ⟨_, rfl, ta, _, _, _, rfl, rfl, sameT hid_same (sameT (((((((((((((((((((((((((((((g_1.trans g_2).trans g_3).trans g_4).trans g_5).trans g_6).trans g_7).trans g_8).trans g_9).trans g_10).trans g_11).trans g_12).trans g_13).trans g_14).trans g_15).trans g_16).trans g_17).trans g_18).trans g_19).trans g_20).trans g_21).trans g_22).trans g_23).trans g_24).trans g_25).trans g_26).trans g_27).trans g_28).trans g_29).trans g_30) St), rfl, ?_⟩
      refine ⟨_, rfl, by show 3 ≤ sizeLine; decide, fun q1 hq1 => ?_⟩
      have r_q1 := R.newT (K := K) (xs := [.int 1, .int 1, .int 5]) (al1 B9) hq1 (by show 3 ≤ 100000; decide) (Rs.cons (R.int _) (Rs.cons (R.int _) (Rs.cons (R.int _) Rs.nil)))
      have s_31 := sNew (o := .tup [.int 1, .int 1, .int 5]) (Same.refl _) hq1
      have g_31 := hid_mono (S := [b]) s_31
      refine ⟨by show 3 ≤ sizeLine; decide, fun q2 hq2 => ?_⟩
      have r_q2 := R.newT (K := K) (xs := [.int 1, .int 1, .int 4]) (al1 (B9.same s_31)) hq2 (by show 3 ≤ 100000; decide) (Rs.cons (R.int _) (Rs.cons (R.int _) (Rs.cons (R.int _) Rs.nil)))
      have s_32 := sNew (o := .tup [.int 1, .int 1, .int 4]) (Same.refl _) hq2
      have g_32 := hid_mono (S := [b]) s_32
      refine ⟨by show 2 ≤ sizeLine; decide, fun q3 hq3 => ?_⟩
      have r_q3 := R.newT (K := K) (xs := [.int 1, .int 2]) (al1 (B9.same (s_31.trans s_32))) hq3 (by show 2 ≤ 100000; decide) (Rs.cons (R.int _) (Rs.cons (R.int _) Rs.nil))
      have s_33 := sNew (o := .tup [.int 1, .int 2]) (Same.refl _) hq3
      have g_33 := hid_mono (S := [b]) s_33
      refine ⟨by show 3 ≤ sizeLine; decide, fun p4 hp4 => ?_⟩
      have s_34 := sNew (o := .lst [.ref q1, .ref q2, .ref q3]) (Same.refl _) hp4
      have g_34 := hid_mono (S := [b]) s_34
      refine ⟨b, c, p4, _, rfl, (B9.same (((s_31.trans s_32).trans s_33).trans s_34)), SqL.of upd_same, ((B9.same ((s_31.trans s_32).trans s_33)).off hp4).1, by show 0 < 3; decide, by show 3 < 1000000; decide, fun vq H10 hvq B10 kp10 => ?_⟩
      have g_35 := hid_kp (S := [b]) hb1 kp10
      obtain ⟨dq, rq⟩ : ∃ dq, R K [b] H10 vq dq := by
        simp only [List.mem_cons, List.not_mem_nil, or_false] at hvq
        rcases hvq with rfl | rfl | rfl
        · exact ⟨_, (R.g r_q1 (((g_32.trans g_33).trans g_34).trans g_35))⟩
        · exact ⟨_, (R.g r_q2 ((g_33.trans g_34).trans g_35))⟩
        · exact ⟨_, (R.g r_q3 (g_34.trans g_35))⟩
      refine ⟨_, rfl, by show 3 ≤ sizeLine; decide, fun w6 hw6 => ?_⟩
      have r_w6 := R.newT (K := K) (xs := [.str "floor", vq, .ref ta]) (al1 B10) hw6 (by show 3 ≤ 100000; decide) (Rs.cons (R.str _) (Rs.cons rq (Rs.cons (R.g rt ((((((((((((((((((((((((((((((((((g_1.trans g_2).trans g_3).trans g_4).trans g_5).trans g_6).trans g_7).trans g_8).trans g_9).trans g_10).trans g_11).trans g_12).trans g_13).trans g_14).trans g_15).trans g_16).trans g_17).trans g_18).trans g_19).trans g_20).trans g_21).trans g_22).trans g_23).trans g_24).trans g_25).trans g_26).trans g_27).trans g_28).trans g_29).trans g_30).trans g_31).trans g_32).trans g_33).trans g_34).trans g_35)) Rs.nil)))
      have s_36 := sNew (o := .tup [.str "floor", vq, .ref ta]) (Same.refl _) hw6
      have g_36 := hid_mono (S := [b]) s_36
      refine ⟨by show 2 ≤ sizeLine; decide, fun w7 hw7 => ?_⟩
      have r_w7 := R.newT (K := K) (xs := [.int 1, .ref w6]) (al1 (B10.same s_36)) hw7 (by show 2 ≤ 100000; decide) (Rs.cons (R.int _) (Rs.cons r_w6 Rs.nil))
      have s_37 := sNew (o := .tup [.int 1, .ref w6]) (Same.refl _) hw7
      have g_37 := hid_mono (S := [b]) s_37
      refine ⟨by show 1 ≤ sizeLine; decide, fun w8 hw8 => ?_⟩
      have r_w8 := R.newT (K := K) (xs := [.ref w7]) (al1 (B10.same (s_36.trans s_37))) hw8 (by show 1 ≤ 100000; decide) (Rs.cons r_w7 Rs.nil)
      have s_38 := sNew (o := .tup [.ref w7]) (Same.refl _) hw8
      have g_38 := hid_mono (S := [b]) s_38
      refine ⟨by show 2 ≤ sizeLine; decide, fun w9 hw9 => ?_⟩
      have r_w9 := R.newT (K := K) (xs := [.ref w8, .int 3]) (al1 (B10.same ((s_36.trans s_37).trans s_38))) hw9 (by show 2 ≤ 100000; decide) (Rs.cons r_w8 (Rs.cons (R.int _) Rs.nil))
      have s_39 := sNew (o := .tup [.ref w8, .int 3]) (Same.refl _) hw9
      have g_39 := hid_mono (S := [b]) s_39
      refine ⟨by show 8 ≤ sizeLine; decide, fun BL hBL => ?_⟩
      have s_40 := sNew (o := .lst [.ref ta, .ref a_w3, .ref w4, .ref w5, .ref e_w3, vb, .ref ti, .ref w9]) (Same.refl _) hBL
      have g_40 := hid_mono (S := [b]) s_40
      have hBLo := ((B10.same (((s_36.trans s_37).trans s_38).trans s_39)).off hBL).1
      have BB := (B10.same ((((s_36.trans s_37).trans s_38).trans s_39).trans s_40))
      refine ⟨_, rfl, _, rfl, b, c, 8, rfl, BB, by decide, by decide, fun d8 H11 d80 d81 B11 kp11 => ?_⟩
      have hBL11 := kp11 _ _ hBLo upd_same
      have g_41 := hid_kp (S := [b]) hb1 kp11
      obtain ⟨vz, dz, ez, rz, sz⟩ : ∃ vz dz, atI [.ref ta, .ref a_w3, .ref w4, .ref w5, .ref e_w3, vb, .ref ti, .ref w9] d8 = some vz ∧ R K [b] H11 vz dz ∧ San 3 dz := by
        rcases (by omega : d8 = 0 ∨ d8 = 1 ∨ d8 = 2 ∨ d8 = 3 ∨ d8 = 4 ∨ d8 = 5 ∨ d8 = 6 ∨ d8 = 7) with rfl | rfl | rfl | rfl | rfl | rfl | rfl | rfl
        · exact ⟨_, _, rfl, (R.g rt ((((((((((((((((((((((((((((((((((((((((g_1.trans g_2).trans g_3).trans g_4).trans g_5).trans g_6).trans g_7).trans g_8).trans g_9).trans g_10).trans g_11).trans g_12).trans g_13).trans g_14).trans g_15).trans g_16).trans g_17).trans g_18).trans g_19).trans g_20).trans g_21).trans g_22).trans g_23).trans g_24).trans g_25).trans g_26).trans g_27).trans g_28).trans g_29).trans g_30).trans g_31).trans g_32).trans g_33).trans g_34).trans g_35).trans g_36).trans g_37).trans g_38).trans g_39).trans g_40).trans g_41)), gen_san 3 gt⟩
        · exact ⟨_, _, rfl, (R.g a_r3 (((((((((((((((((((((((g_18.trans g_19).trans g_20).trans g_21).trans g_22).trans g_23).trans g_24).trans g_25).trans g_26).trans g_27).trans g_28).trans g_29).trans g_30).trans g_31).trans g_32).trans g_33).trans g_34).trans g_35).trans g_36).trans g_37).trans g_38).trans g_39).trans g_40).trans g_41)), San.of fun it hit fa t e => by
          rcases List.mem_append.mp hit with h | h
          · rcases List.mem_append.mp h with h | h
            · exact hitF it (cutD_mem h) fa t e
            · rw [List.mem_singleton.mp h] at e
              cases e
              exact sanF_flat short_x fun w s u z => by cases z
          · exact hitF it (cutD_mem h) fa t e⟩
        · exact ⟨_, _, rfl, (R.g r_w4 ((((((((((((((((((((g_21.trans g_22).trans g_23).trans g_24).trans g_25).trans g_26).trans g_27).trans g_28).trans g_29).trans g_30).trans g_31).trans g_32).trans g_33).trans g_34).trans g_35).trans g_36).trans g_37).trans g_38).trans g_39).trans g_40).trans g_41)), (gen_san 3 gt).cst⟩
        · exact ⟨_, _, rfl, (R.g r_w5 ((((((((((((((((((g_23.trans g_24).trans g_25).trans g_26).trans g_27).trans g_28).trans g_29).trans g_30).trans g_31).trans g_32).trans g_33).trans g_34).trans g_35).trans g_36).trans g_37).trans g_38).trans g_39).trans g_40).trans g_41)), San.none fun i c z => by have h3 := D.tup.inj z; cases h3⟩
        · exact ⟨_, _, rfl, (R.g e_r3 (((((((((((g_30.trans g_31).trans g_32).trans g_33).trans g_34).trans g_35).trans g_36).trans g_37).trans g_38).trans g_39).trans g_40).trans g_41)), San.of fun it hit fa t e => by
          rcases List.mem_append.mp hit with h | h
          · rcases List.mem_append.mp h with h | h
            · exact hitF it (cutD_mem h) fa t e
            · rw [List.mem_singleton.mp h] at e
              cases e
              exact sth
          · exact hitF it (cutD_mem h) fa t e⟩
        · exact ⟨_, _, rfl, (R.g rb ((((((((((g_31.trans g_32).trans g_33).trans g_34).trans g_35).trans g_36).trans g_37).trans g_38).trans g_39).trans g_40).trans g_41)), sb⟩
        · exact ⟨_, _, rfl, (R.g pi_ ((((((((((((((((((((((((((((((((((((((((g_1.trans g_2).trans g_3).trans g_4).trans g_5).trans g_6).trans g_7).trans g_8).trans g_9).trans g_10).trans g_11).trans g_12).trans g_13).trans g_14).trans g_15).trans g_16).trans g_17).trans g_18).trans g_19).trans g_20).trans g_21).trans g_22).trans g_23).trans g_24).trans g_25).trans g_26).trans g_27).trans g_28).trans g_29).trans g_30).trans g_31).trans g_32).trans g_33).trans g_34).trans g_35).trans g_36).trans g_37).trans g_38).trans g_39).trans g_40).trans g_41)), san_items (n := 0) hits⟩
        · exact ⟨_, _, rfl, (R.g r_w9 (g_40.trans g_41)), San.of fun it hit fa t e => by
          rw [List.mem_singleton.mp hit] at e
          cases e
          exact sanF_fl gt⟩
      have rtz := (R.g rt ((((((((((((((((((((((((((((((((((((((((g_1.trans g_2).trans g_3).trans g_4).trans g_5).trans g_6).trans g_7).trans g_8).trans g_9).trans g_10).trans g_11).trans g_12).trans g_13).trans g_14).trans g_15).trans g_16).trans g_17).trans g_18).trans g_19).trans g_20).trans g_21).trans g_22).trans g_23).trans g_24).trans g_25).trans g_26).trans g_27).trans g_28).trans g_29).trans g_30).trans g_31).trans g_32).trans g_33).trans g_34).trans g_35).trans g_36).trans g_37).trans g_38).trans g_39).trans g_40).trans g_41))
      refine ⟨BL, _, _, _, rfl, rfl, SqL.of hBL11, ez, ?_⟩
      -- both told
      have sT := gen_san 3 gt
      refine ⟨_, rfl, vz, dz, rfl, rz.rp, sz, fun H12 sm12 => ?_⟩
      refine ⟨_, rfl, vz, dz, rfl, Rp.same sm12 _ rz.rp, sz, fun H13 sm13 => ?_⟩
      have sm113 := sm12.trans sm13
      refine ⟨_, rfl, rfl, rfl, .ref ta, _, rfl, Rp.same sm113 _ rtz.rp, sT, fun H14 sm14 => ⟨by show 2 ≤ sizeLine; decide, fun la hla => ?_⟩⟩
      have sLa := sNew (o := .lst [.bl (trm 3 dz), .bl (trm 3 (.tup [.tup its, .int cst]))]) (Same.refl _) hla
      have sm114 := (sm113.trans sm14).trans sLa
      refine ⟨_, rfl, _, rfl, .ref ta, _, rfl, Rp.same sm114 _ rtz.rp, sT, fun H15 sm15 => ⟨by show 2 ≤ sizeLine; decide, fun lb' hlb => ?_⟩⟩
      have sLb := sNew (o := .lst [.bl (trm 3 dz), .bl (trm 3 (.tup [.tup its, .int cst]))]) (Same.refl _) hlb
      have rp : ∀ {H' : Hp} {z : Addr}, H' z = some (.lst [.bl (trm 3 dz), .bl (trm 3 (.tup [.tup its, .int cst]))]) → Rp K H' (.ref z) (.lst [.bl (trm 3 dz), .bl (trm 3 (.tup [.tup its, .int cst]))]) := fun hz => ⟨_, _, rfl, SqL.of hz, by show 2 ≤ 100000; decide, _, _, rfl, rfl, _, _, rfl, rfl, rfl⟩
      refine ⟨_, _, .lst [.bl (trm 3 dz), .bl (trm 3 (.tup [.tup its, .int cst]))], rfl, rp ((sm15.trans sLb) _ _ upd_same), rp upd_same, by show 1 ≤ 5; decide, fun H16 sm16 => ⟨_, rfl, iteF ?_⟩⟩
      exact ⟨_, _, _, _, _, _, _, _, _, _, _, rfl, B11.same (((sm114.trans sm15).trans sLb).trans sm16)⟩
    · rintro σ H2 ⟨v2, v3, v4, v5, v6, v7, v8, v9, v10, v11, v12, rfl, B2⟩
      refine ⟨by show 0 ≤ sizeLine; decide, fun t0 ht0 => ⟨by show 2 ≤ sizeLine; decide, fun t1 ht1 => ⟨by show 0 ≤ sizeLine; decide, fun Fl hFl => ?_⟩⟩⟩
      have al0 : ∀ {H : Hp}, Alloc [] H := fun s hs => by cases hs
      have r0 := R.newT (K := K) (S := []) (xs := []) al0 ht0 (by show 0 ≤ 100000; decide) Rs.nil
      have r1 := R.newT (K := K) (S := []) (xs := [.ref t0, .int 1]) al0 ht1 (by show 2 ≤ 100000; decide) (Rs.cons r0 (Rs.cons (R.int _) Rs.nil))
      have r1F : R K [Fl] (upd (upd (upd H2 t0 (.tup [])) t1 (.tup [.ref t0, .int 1])) Fl (.lst [])) (.ref t1) (deepD 0) := by
        have e : hid [Fl] (upd (upd (upd H2 t0 (.tup [])) t1 (.tup [.ref t0, .int 1])) Fl (.lst [])) = hid [] (upd (upd H2 t0 (.tup [])) t1 (.tup [.ref t0, .int 1])) := by
          rw [hid_upd (List.mem_singleton.mpr rfl)]
          funext z
          unfold hid
          by_cases hz : z = Fl
          · rw [if_pos (List.mem_singleton.mpr hz), if_neg (by simp), hz, hFl]
          · rw [if_neg (fun m => hz (List.mem_singleton.mp m)), if_neg (by simp)]
        unfold R
        rw [e]
        exact r1
      refine ⟨5, rfl, by decide, by decide, for_range (n := 5) (fun i σ H' => ∃ (v12 : Option V) (dv : V), σ = [some (.ref a), some (.ref b), v2, v3, v4, v5, v6, v7, v8, v9, some dv, some (.ref Fl), v12] ∧ R K [Fl] H' dv (deepD i) ∧ H' Fl = some (.lst ((List.range i).map fun k => V.bl (trm 3 (deepD k)))))
        ⟨v12, _, rfl, r1F, upd_same⟩ ?_ ?_⟩
      · rintro i σ H3 hi ⟨w12, dv, rfl, rd, hF⟩
        refine ⟨_, rfl, .inl ⟨rfl, _, SqL.of hF⟩, _, rfl, dv, _, rfl, rd.rp, deep_san 3 i, fun H4 sm4 => ?_⟩
        have hF4 := sm4 _ _ hF
        refine ⟨Fl, _, _, rfl, rfl, hF4, by rw [List.length_map, List.length_range, sizeLine_eq]; omega, ?_⟩
        have rd4 := (rd.same sm4).upd (o := .lst (((List.range i).map fun k => V.bl (trm 3 (deepD k))) ++ [.bl (trm 3 (deepD i))])) (List.mem_singleton.mpr rfl)
        have alF : Alloc [Fl] (upd H4 Fl (.lst (((List.range i).map fun k => V.bl (trm 3 (deepD k))) ++ [.bl (trm 3 (deepD i))]))) := fun s hs => by
          rw [List.mem_singleton.mp hs, upd_same]; exact fun z => by cases z
        refine ⟨by show 3 ≤ sizeLine; decide, fun u1 hu1 => ⟨_, rfl, by show 3 ≤ sizeLine; decide, fun u2 hu2 => ⟨by show 2 ≤ sizeLine; decide, fun u3 hu3 => ⟨by show 1 ≤ sizeLine; decide, fun u4 hu4 => ⟨by show 2 ≤ sizeLine; decide, fun u5 hu5 => ?_⟩⟩⟩⟩⟩
        have s1 := sNew (o := .tup [.int 1, .int 0, .int 1]) (Same.refl _) hu1
        have q1 := R.newT (K := K) (xs := [.int 1, .int 0, .int 1]) alF hu1 (by show 3 ≤ 100000; decide) (Rs.cons (R.int _) (Rs.cons (R.int _) (Rs.cons (R.int _) Rs.nil)))
        have q2 := R.newT (K := K) (xs := [.str "floor", .ref u1, dv]) (alF.same s1) hu2 (by show 3 ≤ 100000; decide) (Rs.cons (R.str _) (Rs.cons q1 (Rs.cons (rd4.same s1) Rs.nil)))
        have s2 := s1.trans (sNew (o := .tup [.str "floor", .ref u1, dv]) (Same.refl _) hu2)
        have q3 := R.newT (K := K) (xs := [.int 1, .ref u2]) (alF.same s2) hu3 (by show 2 ≤ 100000; decide) (Rs.cons (R.int _) (Rs.cons q2 Rs.nil))
        have s3 := s2.trans (sNew (o := .tup [.int 1, .ref u2]) (Same.refl _) hu3)
        have q4 := R.newT (K := K) (xs := [.ref u3]) (alF.same s3) hu4 (by show 1 ≤ 100000; decide) (Rs.cons q3 Rs.nil)
        have s4 := s3.trans (sNew (o := .tup [.ref u3]) (Same.refl _) hu4)
        have q5 := R.newT (K := K) (xs := [.ref u4, .int 0]) (alF.same s4) hu5 (by show 2 ≤ 100000; decide) (Rs.cons q4 (Rs.cons (R.int _) Rs.nil))
        have s5 := s4.trans (sNew (o := .tup [.ref u4, .int 0]) (Same.refl _) hu5)
        refine ⟨_, _, rfl, q5, ?_⟩
        rw [List.range_succ, List.map_append]
        exact s5 _ _ upd_same
      · rintro σ H3 ⟨w12, dv, rfl, rd, hF⟩
        have hv : ((List.range 5).map fun k => V.bl (trm 3 (deepD k))) = [.bl true, .bl true, .bl true, .bl true, .bl false] := by
          show [V.bl (trm 3 (deepD 0)), V.bl (trm 3 (deepD 1)), V.bl (trm 3 (deepD 2)), V.bl (trm 3 (deepD 3)), V.bl (trm 3 (deepD 4))] = _
          rw [show trm 3 (deepD 0) = true by decide +kernel, show trm 3 (deepD 1) = true by decide +kernel, show trm 3 (deepD 2) = true by decide +kernel, show trm 3 (deepD 3) = true by decide +kernel, show trm 3 (deepD 4) = false by decide +kernel]
        rw [hv] at hF
        refine ⟨_, rfl, by show 5 ≤ sizeLine; decide, fun lz hlz => ?_⟩
        have sz := sNew (o := .lst [.bl true, .bl true, .bl true, .bl true, .bl false]) (Same.refl _) hlz
        have rp : ∀ {H' : Hp} {z : Addr}, H' z = some (.lst [.bl true, .bl true, .bl true, .bl true, .bl false]) → Rp K H' (.ref z) (.lst [.bl true, .bl true, .bl true, .bl true, .bl false]) := fun hz => ⟨_, _, rfl, SqL.of hz, by show 5 ≤ 100000; decide, _, _, rfl, rfl, _, _, rfl, rfl, _, _, rfl, rfl, _, _, rfl, rfl, _, _, rfl, rfl, rfl⟩
        exact ⟨_, _, .lst [.bl true, .bl true, .bl true, .bl true, .bl false], rfl, rp (sz _ _ hF), rp upd_same, by show 1 ≤ 5; decide, fun H5 _ => kk _⟩
end
end RF

namespace RF
open PySem L2 PyProof.Rows
theorem all_mk {l : PySem.W.OpenLaw} {w : World} {K : PySem.W.Frag} {h : Heap} {mg : Str → Option Value} {fa : Addr} (X : K.In h) (G : h.Ns mainGlobals mg) (hfa : mg "law" = some (.ref fa))
    {nv : Addr} {oN : Obj} {nN : Nat} {w0 w1 w2 w3 w4 tkI tkF : Tok}
    {f1 : Addr} {od1 an1 : Option Addr} {sl1 : Array (Option Value)} {oc1 kV1 dc1 pm1 cd1 ct1 : Value}
    {f2 : Addr} {od2 an2 : Option Addr} {sl2 : Array (Option Value)} {oc2 kV2 dc2 pm2 cd2 ct2 : Value}
    {f3 : Addr} {od3 an3 : Option Addr} {sl3 : Array (Option Value)} {oc3 kV3 dc3 pm3 cd3 ct3 : Value}
    {f4 : Addr} {od4 an4 : Option Addr} {sl4 : Array (Option Value)} {oc4 kV4 dc4 pm4 cd4 ct4 : Value}
    {f5 : Addr} {od5 an5 : Option Addr} {sl5 : Array (Option Value)} {oc5 kV5 dc5 pm5 cd5 ct5 : Value}
    {f6 : Addr} {od6 an6 : Option Addr} {sl6 : Array (Option Value)} {oc6 kV6 dc6 pm6 cd6 ct6 : Value}
    {f7 : Addr} {od7 an7 : Option Addr} {sl7 : Array (Option Value)} {oc7 kV7 dc7 pm7 cd7 ct7 : Value}
    {f8 : Addr} {od8 an8 : Option Addr} {sl8 : Array (Option Value)} {oc8 kV8 dc8 pm8 cd8 ct8 : Value}
    {f9 : Addr} {od9 an9 : Option Addr} {sl9 : Array (Option Value)} {oc9 kV9 dc9 pm9 cd9 ct9 : Value}
    {f10 : Addr} {od10 an10 : Option Addr} {sl10 : Array (Option Value)} {oc10 kV10 dc10 pm10 cd10 ct10 : Value}
    {f11 : Addr} {od11 an11 : Option Addr} {sl11 : Array (Option Value)} {oc11 kV11 dc11 pm11 cd11 ct11 : Value}
    {f12 : Addr} {od12 an12 : Option Addr} {sl12 : Array (Option Value)} {oc12 kV12 dc12 pm12 cd12 ct12 : Value}
    {f13 : Addr} {od13 an13 : Option Addr} {sl13 : Array (Option Value)} {oc13 kV13 dc13 pm13 cd13 ct13 : Value}
    {f14 : Addr} {od14 an14 : Option Addr} {sl14 : Array (Option Value)} {oc14 kV14 dc14 pm14 cd14 ct14 : Value}
    {f15 : Addr} {od15 an15 : Option Addr} {sl15 : Array (Option Value)} {oc15 kV15 dc15 pm15 cd15 ct15 : Value}
    {f16 : Addr} {od16 an16 : Option Addr} {sl16 : Array (Option Value)} {oc16 kV16 dc16 pm16 cd16 ct16 : Value}
    {f17 : Addr} {od17 an17 : Option Addr} {sl17 : Array (Option Value)} {oc17 kV17 dc17 pm17 cd17 ct17 : Value}
    {f18 : Addr} {od18 an18 : Option Addr} {sl18 : Array (Option Value)} {oc18 kV18 dc18 pm18 cd18 ct18 : Value}
    {f19 : Addr} {od19 an19 : Option Addr} {sl19 : Array (Option Value)} {oc19 kV19 dc19 pm19 cd19 ct19 : Value}
    {f20 : Addr} {od20 an20 : Option Addr} {sl20 : Array (Option Value)} {oc20 kV20 dc20 pm20 cd20 ct20 : Value}
    {f21 : Addr} {od21 an21 : Option Addr} {sl21 : Array (Option Value)} {oc21 kV21 dc21 pm21 cd21 ct21 : Value}
    {f22 : Addr} {od22 an22 : Option Addr} {sl22 : Array (Option Value)} {oc22 kV22 dc22 pm22 cd22 ct22 : Value}
    (a1 : PySem.W.nsIn K mainGlobals "is_whole" = some (some (.ref f1)))
    (l1 : K.lookup f1 = some ⟨oc1, od1, .func (PySem.W.fnOf "is_whole" "is_whole" (defArgs (top 2)) (defBody (top 2)) (defScope (top 2)) .none kV1 dc1 pm1 an1 cd1 ct1), sl1⟩)
    (c1 : PySem.W.codeIn K cd1 "is_whole" = true)
    (k1 : PySem.W.keepIn K (.ref f1) = true)
    (a2 : PySem.W.nsIn K mainGlobals "is_between" = some (some (.ref f2)))
    (l2 : K.lookup f2 = some ⟨oc2, od2, .func (PySem.W.fnOf "is_between" "is_between" (defArgs (top 3)) (defBody (top 3)) (defScope (top 3)) .none kV2 dc2 pm2 an2 cd2 ct2), sl2⟩)
    (c2 : PySem.W.codeIn K cd2 "is_between" = true)
    (k2 : PySem.W.keepIn K (.ref f2) = true)
    (a3 : PySem.W.nsIn K mainGlobals "is_variable" = some (some (.ref f3)))
    (l3 : K.lookup f3 = some ⟨oc3, od3, .func (PySem.W.fnOf "is_variable" "is_variable" (defArgs (top 4)) (defBody (top 4)) (defScope (top 4)) .none kV3 dc3 pm3 an3 cd3 ct3), sl3⟩)
    (c3 : PySem.W.codeIn K cd3 "is_variable" = true)
    (k3 : PySem.W.keepIn K (.ref f3) = true)
    (a4 : PySem.W.nsIn K mainGlobals "_is_word" = some (some (.ref f4)))
    (l4 : K.lookup f4 = some ⟨oc4, od4, .func (PySem.W.fnOf "_is_word" "_is_word" (defArgs (top 5)) (defBody (top 5)) (defScope (top 5)) .none kV4 dc4 pm4 an4 cd4 ct4), sl4⟩)
    (c4 : PySem.W.codeIn K cd4 "_is_word" = true)
    (k4 : PySem.W.keepIn K (.ref f4) = true)
    (a5 : PySem.W.nsIn K mainGlobals "is_letter" = some (some (.ref f5)))
    (l5 : K.lookup f5 = some ⟨oc5, od5, .func (PySem.W.fnOf "is_letter" "is_letter" (defArgs (top 6)) (defBody (top 6)) (defScope (top 6)) .none kV5 dc5 pm5 an5 cd5 ct5), sl5⟩)
    (c5 : PySem.W.codeIn K cd5 "is_letter" = true)
    (k5 : PySem.W.keepIn K (.ref f5) = true)
    (a6 : PySem.W.nsIn K mainGlobals "is_slope" = some (some (.ref f6)))
    (l6 : K.lookup f6 = some ⟨oc6, od6, .func (PySem.W.fnOf "is_slope" "is_slope" (defArgs (top 8)) (defBody (top 8)) (defScope (top 8)) .none kV6 dc6 pm6 an6 cd6 ct6), sl6⟩)
    (c6 : PySem.W.codeIn K cd6 "is_slope" = true)
    (k6 : PySem.W.keepIn K (.ref f6) = true)
    (a7 : PySem.W.nsIn K mainGlobals "is_term" = some (some (.ref f7)))
    (l7 : K.lookup f7 = some ⟨oc7, od7, .func (PySem.W.fnOf "is_term" "is_term" (defArgs (top 12)) (defBody (top 12)) (defScope (top 12)) .none kV7 dc7 pm7 an7 cd7 ct7), sl7⟩)
    (c7 : PySem.W.codeIn K cd7 "is_term" = true)
    (k7 : PySem.W.keepIn K (.ref f7) = true)
    (a8 : PySem.W.nsIn K mainGlobals "_is_term_with" = some (some (.ref f8)))
    (l8 : K.lookup f8 = some ⟨oc8, od8, .func (PySem.W.fnOf "_is_term_with" "_is_term_with" (defArgs (top 13)) (defBody (top 13)) (defScope (top 13)) .none kV8 dc8 pm8 an8 cd8 ct8), sl8⟩)
    (c8 : PySem.W.codeIn K cd8 "_is_term_with" = true)
    (k8 : PySem.W.keepIn K (.ref f8) = true)
    (a9 : PySem.W.nsIn K mainGlobals "_is_item" = some (some (.ref f9)))
    (l9 : K.lookup f9 = some ⟨oc9, od9, .func (PySem.W.fnOf "_is_item" "_is_item" (defArgs (top 14)) (defBody (top 14)) (defScope (top 14)) .none kV9 dc9 pm9 an9 cd9 ct9), sl9⟩)
    (c9 : PySem.W.codeIn K cd9 "_is_item" = true)
    (k9 : PySem.W.keepIn K (.ref f9) = true)
    (a10 : PySem.W.nsIn K mainGlobals "_is_floor" = some (some (.ref f10)))
    (l10 : K.lookup f10 = some ⟨oc10, od10, .func (PySem.W.fnOf "_is_floor" "_is_floor" (defArgs (top 15)) (defBody (top 15)) (defScope (top 15)) .none kV10 dc10 pm10 an10 cd10 ct10), sl10⟩)
    (c10 : PySem.W.codeIn K cd10 "_is_floor" = true)
    (k10 : PySem.W.keepIn K (.ref f10) = true)
    (a11 : PySem.W.nsIn K mainGlobals "_law_bag" = some (some (.ref f11)))
    (l11 : K.lookup f11 = some ⟨oc11, od11, .func (PySem.W.fnOf "_law_bag" "_law_bag" (defArgs (top 17)) (defBody (top 17)) (defScope (top 17)) .none kV11 dc11 pm11 an11 cd11 ct11), sl11⟩)
    (c11 : PySem.W.codeIn K cd11 "_law_bag" = true)
    (k11 : PySem.W.keepIn K (.ref f11) = true)
    (a12 : PySem.W.nsIn K mainGlobals "_law_pull" = some (some (.ref f12)))
    (l12 : K.lookup f12 = some ⟨oc12, od12, .func (PySem.W.fnOf "_law_pull" "_law_pull" (defArgs (top 18)) (defBody (top 18)) (defScope (top 18)) .none kV12 dc12 pm12 an12 cd12 ct12), sl12⟩)
    (c12 : PySem.W.codeIn K cd12 "_law_pull" = true)
    (k12 : PySem.W.keepIn K (.ref f12) = true)
    (a13 : PySem.W.nsIn K mainGlobals "_law_of" = some (some (.ref f13)))
    (l13 : K.lookup f13 = some ⟨oc13, od13, .func (PySem.W.fnOf "_law_of" "_law_of" (defArgs (top 19)) (defBody (top 19)) (defScope (top 19)) .none kV13 dc13 pm13 an13 cd13 ct13), sl13⟩)
    (c13 : PySem.W.codeIn K cd13 "_law_of" = true)
    (k13 : PySem.W.keepIn K (.ref f13) = true)
    (a14 : PySem.W.nsIn K mainGlobals "_law_same" = some (some (.ref f14)))
    (l14 : K.lookup f14 = some ⟨oc14, od14, .func (PySem.W.fnOf "_law_same" "_law_same" (defArgs (top 20)) (defBody (top 20)) (defScope (top 20)) .none kV14 dc14 pm14 an14 cd14 ct14), sl14⟩)
    (c14 : PySem.W.codeIn K cd14 "_law_same" = true)
    (k14 : PySem.W.keepIn K (.ref f14) = true)
    (a15 : PySem.W.nsIn K mainGlobals "_law_any_slope" = some (some (.ref f15)))
    (l15 : K.lookup f15 = some ⟨oc15, od15, .func (PySem.W.fnOf "_law_any_slope" "_law_any_slope" (defArgs (top 21)) (defBody (top 21)) (defScope (top 21)) .none kV15 dc15 pm15 an15 cd15 ct15), sl15⟩)
    (c15 : PySem.W.codeIn K cd15 "_law_any_slope" = true)
    (k15 : PySem.W.keepIn K (.ref f15) = true)
    (a16 : PySem.W.nsIn K mainGlobals "_law_any_term" = some (some (.ref f16)))
    (l16 : K.lookup f16 = some ⟨oc16, od16, .func (PySem.W.fnOf "_law_any_term" "_law_any_term" (defArgs (top 22)) (defBody (top 22)) (defScope (top 22)) .none kV16 dc16 pm16 an16 cd16 ct16), sl16⟩)
    (c16 : PySem.W.codeIn K cd16 "_law_any_term" = true)
    (k16 : PySem.W.keepIn K (.ref f16) = true)
    (a17 : PySem.W.nsIn K mainGlobals "_law_bent" = some (some (.ref f17)))
    (l17 : K.lookup f17 = some ⟨oc17, od17, .func (PySem.W.fnOf "_law_bent" "_law_bent" (defArgs (top 23)) (defBody (top 23)) (defScope (top 23)) .none kV17 dc17 pm17 an17 cd17 ct17), sl17⟩)
    (c17 : PySem.W.codeIn K cd17 "_law_bent" = true)
    (k17 : PySem.W.keepIn K (.ref f17) = true)
    (a18 : PySem.W.nsIn K mainGlobals "_law_is_word" = some (some (.ref f18)))
    (l18 : K.lookup f18 = some ⟨oc18, od18, .func (PySem.W.fnOf "_law_is_word" "_law_is_word" (defArgs (top 24)) (defBody (top 24)) (defScope (top 24)) .none kV18 dc18 pm18 an18 cd18 ct18), sl18⟩)
    (c18 : PySem.W.codeIn K cd18 "_law_is_word" = true)
    (k18 : PySem.W.keepIn K (.ref f18) = true)
    (a19 : PySem.W.nsIn K mainGlobals "_law_is_whole" = some (some (.ref f19)))
    (l19 : K.lookup f19 = some ⟨oc19, od19, .func (PySem.W.fnOf "_law_is_whole" "_law_is_whole" (defArgs (top 25)) (defBody (top 25)) (defScope (top 25)) .none kV19 dc19 pm19 an19 cd19 ct19), sl19⟩)
    (c19 : PySem.W.codeIn K cd19 "_law_is_whole" = true)
    (k19 : PySem.W.keepIn K (.ref f19) = true)
    (a20 : PySem.W.nsIn K mainGlobals "_law_is_term" = some (some (.ref f20)))
    (l20 : K.lookup f20 = some ⟨oc20, od20, .func (PySem.W.fnOf "_law_is_term" "_law_is_term" (defArgs (top 26)) (defBody (top 26)) (defScope (top 26)) .none kV20 dc20 pm20 an20 cd20 ct20), sl20⟩)
    (c20 : PySem.W.codeIn K cd20 "_law_is_term" = true)
    (k20 : PySem.W.keepIn K (.ref f20) = true)
    (a21 : PySem.W.nsIn K mainGlobals "_law_is_step" = some (some (.ref f21)))
    (l21 : K.lookup f21 = some ⟨oc21, od21, .func (PySem.W.fnOf "_law_is_step" "_law_is_step" (defArgs (top 27)) (defBody (top 27)) (defScope (top 27)) .none kV21 dc21 pm21 an21 cd21 ct21), sl21⟩)
    (c21 : PySem.W.codeIn K cd21 "_law_is_step" = true)
    (k21 : PySem.W.keepIn K (.ref f21) = true)
    (a22 : PySem.W.nsIn K mainGlobals "law" = some (some (.ref f22)))
    (l22 : K.lookup f22 = some ⟨oc22, od22, .func (PySem.W.fnOf "law" "law" (defArgs (top 28)) (defBody (top 28)) (defScope (top 28)) .none kV22 dc22 pm22 an22 cd22 ct22), sl22⟩)
    (c22 : PySem.W.codeIn K cd22 "law" = true)
    (k22 : PySem.W.keepIn K (.ref f22) = true)
    (aN : PySem.W.nsIn K mainGlobals "NO_VARIABLES" = some (some (.ref nv)))
    (lN : K.lookup nv = some oN)
    (cN : oN.cls = .type "tuple")
    (dN : oN.data = .seq #[.str "all" w0, .str "and" w1, .str "not" w2, .str "or" w3, .str "r" w4] nN)
    (aI : PySem.W.nsIn K mainGlobals "MOST_ITEMS" = some (some (.int 4 tkI)))
    (aM : PySem.W.nsIn K mainGlobals "MOST_FLOORS" = some (some (.int 3 tkF)))
    (z_list : PySem.W.nsIn K mainGlobals "list" = some none)
    (z_len : PySem.W.nsIn K mainGlobals "len" = some none)
    (z_abs : PySem.W.nsIn K mainGlobals "abs" = some none)
    (z_int : PySem.W.nsIn K mainGlobals "int" = some none)
    (z_range : PySem.W.nsIn K mainGlobals "range" = some none)
    (z_isinstance : PySem.W.nsIn K mainGlobals "isinstance" = some none)
    (z_bool : PySem.W.nsIn K mainGlobals "bool" = some none)
    (z_str : PySem.W.nsIn K mainGlobals "str" = some none)
    (z_tuple : PySem.W.nsIn K mainGlobals "tuple" = some none)
    (z_all : PySem.W.nsIn K mainGlobals "all" = some none)
    (z_zip : PySem.W.nsIn K mainGlobals "zip" = some none) :
    ∃ fd : FuncData, (∀ (s : Shared) (v : Value), BindsTo s fd ⟨[v], []⟩ [("_law_script", v)]) ∧ ∀ base : Heap, K.In base → base.Ns mainGlobals mg → FnOk l.prog w K mg base CX0 21 fa fd ["_law_script"] (spLaw K) := by
  have e := hfa.symm.trans (PySem.W.mg_of X G a22)
  cases e
  have F_whole := fun_mk (st := top 2) l1 c1 k1
  have b_whole := F_whole.binds (ps := ["value"]) fun _ _ _ _ _ _ us hl => match us, hl with | [_], _ => rfl
  have m_whole := PySem.W.mg_of X G a1
  have F_btw := fun_mk (st := top 3) l2 c2 k2
  have b_btw := F_btw.binds (ps := ["value", "low", "high"]) fun _ _ _ _ _ _ us hl => match us, hl with | [_, _, _], _ => rfl
  have m_btw := PySem.W.mg_of X G a2
  have F_var := fun_mk (st := top 4) l3 c3 k3
  have b_var := F_var.binds (ps := ["value"]) fun _ _ _ _ _ _ us hl => match us, hl with | [_], _ => rfl
  have m_var := PySem.W.mg_of X G a3
  have F_word := fun_mk (st := top 5) l4 c4 k4
  have b_word := F_word.binds (ps := ["value", "low", "high"]) fun _ _ _ _ _ _ us hl => match us, hl with | [_, _, _], _ => rfl
  have m_word := PySem.W.mg_of X G a4
  have F_let := fun_mk (st := top 6) l5 c5 k5
  have b_let := F_let.binds (ps := ["sign"]) fun _ _ _ _ _ _ us hl => match us, hl with | [_], _ => rfl
  have m_let := PySem.W.mg_of X G a5
  have F_slope := fun_mk (st := top 8) l6 c6 k6
  have b_slope := F_slope.binds (ps := ["value"]) fun _ _ _ _ _ _ us hl => match us, hl with | [_], _ => rfl
  have m_slope := PySem.W.mg_of X G a6
  have F_term := fun_mk (st := top 12) l7 c7 k7
  have b_term := F_term.binds (ps := ["value"]) fun _ _ _ _ _ _ us hl => match us, hl with | [_], _ => rfl
  have m_term := PySem.W.mg_of X G a7
  have F_tw := fun_mk (st := top 13) l8 c8 k8
  have b_tw := F_tw.binds (ps := ["value", "floors"]) fun _ _ _ _ _ _ us hl => match us, hl with | [_, _], _ => rfl
  have m_tw := PySem.W.mg_of X G a8
  have F_item := fun_mk (st := top 14) l9 c9 k9
  have b_item := F_item.binds (ps := ["value", "floors"]) fun _ _ _ _ _ _ us hl => match us, hl with | [_, _], _ => rfl
  have m_item := PySem.W.mg_of X G a9
  have F_flo := fun_mk (st := top 15) l10 c10 k10
  have b_flo := F_flo.binds (ps := ["value", "floors"]) fun _ _ _ _ _ _ us hl => match us, hl with | [_, _], _ => rfl
  have m_flo := PySem.W.mg_of X G a10
  have F_bag := fun_mk (st := top 17) l11 c11 k11
  have b_bag := F_bag.binds (ps := ["_law_script"]) fun _ _ _ _ _ _ us hl => match us, hl with | [_], _ => rfl
  have m_bag := PySem.W.mg_of X G a11
  have F_pull := fun_mk (st := top 18) l12 c12 k12
  have b_pull := F_pull.binds (ps := ["_law_bag_here", "_law_sides"]) fun _ _ _ _ _ _ us hl => match us, hl with | [_, _], _ => rfl
  have m_pull := PySem.W.mg_of X G a12
  have F_of := fun_mk (st := top 19) l13 c13 k13
  have b_of := F_of.binds (ps := ["_law_bag_here", "_law_some"]) fun _ _ _ _ _ _ us hl => match us, hl with | [_, _], _ => rfl
  have m_of := PySem.W.mg_of X G a13
  have F_same := fun_mk (st := top 20) l14 c14 k14
  have b_same := F_same.binds (ps := ["_law_found", "_law_due"]) fun _ _ _ _ _ _ us hl => match us, hl with | [_, _], _ => rfl
  have m_same := PySem.W.mg_of X G a14
  have F_slp := fun_mk (st := top 21) l15 c15 k15
  have b_slp := F_slp.binds (ps := ["_law_bag_here"]) fun _ _ _ _ _ _ us hl => match us, hl with | [_], _ => rfl
  have m_slp := PySem.W.mg_of X G a15
  have F_any := fun_mk (st := top 22) l16 c16 k16
  have b_any := F_any.binds (ps := ["_law_bag_here", "_law_names", "_law_deep"]) fun _ _ _ _ _ _ us hl => match us, hl with | [_, _, _], _ => rfl
  have m_any := PySem.W.mg_of X G a16
  have F_bent := fun_mk (st := top 23) l17 c17 k17
  have b_bent := F_bent.binds (ps := ["_law_bag_here", "_law_value_z"]) fun _ _ _ _ _ _ us hl => match us, hl with | [_, _], _ => rfl
  have m_bent := PySem.W.mg_of X G a17
  have F_lw := fun_mk (st := top 24) l18 c18 k18
  have b_lw := F_lw.binds (ps := ["_law_value_z"]) fun _ _ _ _ _ _ us hl => match us, hl with | [_], _ => rfl
  have m_lw := PySem.W.mg_of X G a18
  have F_lwh := fun_mk (st := top 25) l19 c19 k19
  have b_lwh := F_lwh.binds (ps := ["_law_value_z", "_law_low", "_law_high"]) fun _ _ _ _ _ _ us hl => match us, hl with | [_, _, _], _ => rfl
  have m_lwh := PySem.W.mg_of X G a19
  have F_lt := fun_mk (st := top 26) l20 c20 k20
  have b_lt := F_lt.binds (ps := ["_law_value_z", "_law_deep"]) fun _ _ _ _ _ _ us hl => match us, hl with | [_, _], _ => rfl
  have m_lt := PySem.W.mg_of X G a20
  have F_ls := fun_mk (st := top 27) l21 c21 k21
  have b_ls := F_ls.binds (ps := ["_law_value_z"]) fun _ _ _ _ _ _ us hl => match us, hl with | [_], _ => rfl
  have m_ls := PySem.W.mg_of X G a21
  have F_law := fun_mk (st := top 28) l22 c22 k22
  have b_law := F_law.binds (ps := ["_law_script"]) fun _ _ _ _ _ _ us hl => match us, hl with | [_], _ => rfl
  have m_law := PySem.W.mg_of X G a22
  have n_list := PySem.W.mg_none_of X G z_list
  have n_len := PySem.W.mg_none_of X G z_len
  have n_abs := PySem.W.mg_none_of X G z_abs
  have n_int := PySem.W.mg_none_of X G z_int
  have n_range := PySem.W.mg_none_of X G z_range
  have n_isinstance := PySem.W.mg_none_of X G z_isinstance
  have n_bool := PySem.W.mg_none_of X G z_bool
  have n_str := PySem.W.mg_none_of X G z_str
  have n_tuple := PySem.W.mg_none_of X G z_tuple
  have n_all := PySem.W.mg_none_of X G z_all
  have n_zip := PySem.W.mg_none_of X G z_zip
  have m_N := PySem.W.mg_of X G aN
  have m_I := PySem.W.mg_of X G aI
  have m_M := PySem.W.mg_of X G aM
  have hN : ∀ H, SqT K H nv (noVars.map V.str) := fun H => .inr ⟨oN, _, nN, lN, cN, dN, by show 5 ≤ sizeLine; decide, .cons ⟨_, rfl⟩ (.cons ⟨_, rfl⟩ (.cons ⟨_, rfl⟩ (.cons ⟨_, rfl⟩ (.cons ⟨_, rfl⟩ .nil))))⟩
  refine ⟨PySem.W.fnOf "law" "law" (defArgs (top 28)) (defBody (top 28)) (defScope (top 28)) .none kV22 dc22 pm22 an22 cd22 ct22, fun s v => .of_eq rfl, fun base _ _ => ?_⟩
  have D_whole : Df l.prog w K mg base 1 "is_whole" ["value"] (spWhole K) := ⟨_, _, ok_whole (k := 0) F_whole n_isinstance n_int n_bool, b_whole, m_whole, F_whole.kp⟩
  have D_btw : Df l.prog w K mg base 2 "is_between" ["value", "low", "high"] (spBtw K) := ⟨_, _, ok_btw F_btw D_whole, b_btw, m_btw, F_btw.kp⟩
  have D_let : Df l.prog w K mg base 1 "is_letter" ["sign"] spLetter := ⟨_, _, ok_letter (k := 0) F_let, b_let, m_let, F_let.kp⟩
  have D_word : Df l.prog w K mg base 2 "_is_word" ["value", "low", "high"] (spWord K) := ⟨_, _, ok_word F_word n_isinstance n_str n_len n_all D_let, b_word, m_word, F_word.kp⟩
  have D_var : Df l.prog w K mg base 3 "is_variable" ["value"] (spVar K) := ⟨_, _, ok_variable F_var m_N hN D_word, b_var, m_var, F_var.kp⟩
  have D_slope : Df l.prog w K mg base 3 "is_slope" ["value"] (spIsSlope K) := ⟨_, _, ok_isslope F_slope n_isinstance n_tuple n_len D_btw, b_slope, m_slope, F_slope.kp⟩
  have G_tw := all_progs (P := l.prog) (w := w) (base := base) (k := 3) F_tw F_item F_flo n_isinstance n_tuple n_len n_all m_I (D_btw.mono (by decide)) D_var D_slope b_tw b_item b_flo m_tw m_item m_flo 3
  have G_term := ok_isterm (P := l.prog) (w := w) (base := base) F_term m_M ⟨_, _, G_tw, b_tw, m_tw, F_tw.kp⟩
  have kb_term : KBn K (PySem.W.fnOf "is_term" "is_term" (defArgs (top 12)) (defBody (top 12)) (defScope (top 12)) .none kV7 dc7 pm7 an7 cd7 ct7) ["value"] 0 ["value"] (fun us ws => ws) (fun vs zs => zs) :=
    RF.Fun.kbn F_term 0 ["value"] (fun us ws => ws) (fun _ r2 => r2) (fun kV doc pm an cdv ct us ws h1 h2 => match us, ws, h1, h2 with | [], [_], _, _ => rfl)
  have TBm : TB mg := ⟨n_list, n_len, n_abs, n_int⟩
  have TSs : TSm mg := ⟨n_isinstance, n_bool, n_int, n_str, n_list, n_tuple, n_len, n_all, n_zip⟩
  have D_bag : Df l.prog w K mg base 1 "_law_bag" ["_law_script"] (spBag K) := ⟨_, _, ok_bag F_bag TBm, b_bag, m_bag, F_bag.kp⟩
  have D_pull : Df l.prog w K mg base 1 "_law_pull" ["_law_bag_here", "_law_sides"] spPullC := ⟨_, _, ok_pullC F_pull TBm, b_pull, m_pull, F_pull.kp⟩
  have D_of : Df l.prog w K mg base 2 "_law_of" ["_law_bag_here", "_law_some"] (spOfC K) := ⟨_, _, ok_ofC F_of TBm D_pull, b_of, m_of, F_of.kp⟩
  have D_same : Df l.prog w K mg base 6 "_law_same" ["_law_found", "_law_due"] (spSame K 5) := ⟨_, _, ok_same F_same TSs b_same m_same 5, b_same, m_same, F_same.kp⟩
  have D_slp : Df l.prog w K mg base 2 "_law_any_slope" ["_law_bag_here"] (spSlp K) := ⟨_, _, ok_slp F_slp D_pull, b_slp, m_slp, F_slp.kp⟩
  have G_any := fn_ex (P := l.prog) (w := w) (base := base) (m := 4) (k := 7) fun n hn => (all_any (P := l.prog) (w := w) (base := base) (k := 2) F_any n_range n_tuple (D_pull.mono (by decide)) D_of D_slp b_any m_any n).mono (by omega)
  have D_bent : Df l.prog w K mg base 3 "_law_bent" ["_law_bag_here", "_law_value_z"] (spBent K) := ⟨_, _, ok_bent F_bent n_len n_list (D_pull.mono (by decide)) D_of, b_bent, m_bent, F_bent.kp⟩
  have D_lw : Df l.prog w K mg base 1 "_law_is_word" ["_law_value_z"] (spLW K) := ⟨_, _, ok_lword (k := 0) F_lw n_isinstance n_str n_len n_all, b_lw, m_lw, F_lw.kp⟩
  have D_lwh : Df l.prog w K mg base 1 "_law_is_whole" ["_law_value_z", "_law_low", "_law_high"] (spBtw K) := ⟨_, _, ok_lwhole (k := 0) F_lwh n_isinstance n_int n_bool, b_lwh, m_lwh, F_lwh.kp⟩
  have D_ls : Df l.prog w K mg base 2 "_law_is_step" ["_law_value_z"] (spIsSlope K) := ⟨_, _, ok_lstep F_ls n_isinstance n_tuple n_len D_lwh, b_ls, m_ls, F_ls.kp⟩
  have G_lt := all_lterm (P := l.prog) (w := w) (base := base) (k := 2) F_lt n_isinstance n_tuple n_len (D_lwh.mono (by decide)) (D_lw.mono (by decide)) D_ls b_lt m_lt 3
  exact ok_law F_law ⟨D_bag.mono (by decide), D_pull.mono (by decide), D_of.mono (by decide), D_same.mono (by decide), ⟨_, _, G_any.mono (by decide), b_any, m_any, F_any.kp⟩, D_bent.mono (by decide), ⟨_, _, G_lt.mono (by decide), b_lt, m_lt, F_lt.kp⟩,
    ⟨_, _, G_term.mono (by decide), b_term, m_term, F_term.kp⟩, ⟨_, _, _, G_term.mono (by decide), kb_term, m_term, F_term.kp⟩, n_range, n_len, n_list⟩
theorem walk {l : PySem.W.OpenLaw} {q : Program} {loose : List Str} {XP : (Str → Option Value) → Heap → Prop} {YP : World → Heap → Prop} {d : DefRec} {K : Params → PySem.W.Frag} (hn : l.most = some 63) (hdf : d.params.defaults = [])
    (hY : ∀ (w : World) (h : Heap), YP w h → (K w.params).In h)
    (F : ∀ (w : World) (mg : Str → Option Value) (fa : Addr) (h : Heap), (K w.params).In h → h.Ns mainGlobals mg → mg d.name = some (.ref fa) →
      ∃ fd : FuncData, (∀ (s : Shared) (u : Value), BindsTo s fd ⟨[u], []⟩ [("_law_script", u)]) ∧ ∀ base : Heap, (K w.params).In base → base.Ns mainGlobals mg → FnOk l.prog w (K w.params) mg base CX0 21 fa fd ["_law_script"] (spLaw (K w.params))) :
    PySem.W.WalkO q loose XP YP l.row.toRowW d [] (fun f vs => PySem.call f vs) :=
  L2.walk_of (n := 63) (k := 21) (x := "_law_script") (CX := fun _ => CX0) (sp := fun w => spLaw (K w.params)) hn (by decide) hdf ⟨rfl, by decide, by decide⟩ hY F (fun _ _ a ns hl _ hS => ⟨a, ns, rfl, hS, hl, fun _ => rfl⟩) fun _ _ _ _ _ z => z
end RF

open PySem PySem.W PyProof.Rows
set_option maxRecDepth 100000 in
set_option maxHeartbeats 0 in
theorem PySem.Challenge.cw_rootfloor_k25_terms_and_slopes_recognize_holds : PySem.Challenge.rw_rootfloor_k25_terms_and_slopes_recognize.Holds := by
  w_on; o_law; k_head; (case hw => w_witness2)
  k_fill
  refine RF.walk (l := PySem.Challenge.rw_rootfloor_k25_terms_and_slopes_recognize) rfl rfl (fun w h Y => PySem.W.kIn_of Y) ?F
  case F =>
    intro w mg fa h KX G hmg
    refine' RF.all_mk KX G hmg ?a1 ?l1 ?c1 ?k1 ?a2 ?l2 ?c2 ?k2 ?a3 ?l3 ?c3 ?k3 ?a4 ?l4 ?c4 ?k4 ?a5 ?l5 ?c5 ?k5 ?a6 ?l6 ?c6 ?k6 ?a7 ?l7 ?c7 ?k7 ?a8 ?l8 ?c8 ?k8 ?a9 ?l9 ?c9 ?k9 ?a10 ?l10 ?c10 ?k10 ?a11 ?l11 ?c11 ?k11 ?a12 ?l12 ?c12 ?k12 ?a13 ?l13 ?c13 ?k13 ?a14 ?l14 ?c14 ?k14 ?a15 ?l15 ?c15 ?k15 ?a16 ?l16 ?c16 ?k16 ?a17 ?l17 ?c17 ?k17 ?a18 ?l18 ?c18 ?k18 ?a19 ?l19 ?c19 ?k19 ?a20 ?l20 ?c20 ?k20 ?a21 ?l21 ?c21 ?k21 ?a22 ?l22 ?c22 ?k22 ?aN ?lN ?cN ?dN ?aI ?aM ?z_list ?z_len ?z_abs ?z_int ?z_range ?z_isinstance ?z_bool ?z_str ?z_tuple ?z_all ?z_zip
    (case a1 => k_is)
    (case l1 => k_is)
    (case c1 => k_is)
    (case k1 => k_is)
    (case a2 => k_is)
    (case l2 => k_is)
    (case c2 => k_is)
    (case k2 => k_is)
    (case a3 => k_is)
    (case l3 => k_is)
    (case c3 => k_is)
    (case k3 => k_is)
    (case a4 => k_is)
    (case l4 => k_is)
    (case c4 => k_is)
    (case k4 => k_is)
    (case a5 => k_is)
    (case l5 => k_is)
    (case c5 => k_is)
    (case k5 => k_is)
    (case a6 => k_is)
    (case l6 => k_is)
    (case c6 => k_is)
    (case k6 => k_is)
    (case a7 => k_is)
    (case l7 => k_is)
    (case c7 => k_is)
    (case k7 => k_is)
    (case a8 => k_is)
    (case l8 => k_is)
    (case c8 => k_is)
    (case k8 => k_is)
    (case a9 => k_is)
    (case l9 => k_is)
    (case c9 => k_is)
    (case k9 => k_is)
    (case a10 => k_is)
    (case l10 => k_is)
    (case c10 => k_is)
    (case k10 => k_is)
    (case a11 => k_is)
    (case l11 => k_is)
    (case c11 => k_is)
    (case k11 => k_is)
    (case a12 => k_is)
    (case l12 => k_is)
    (case c12 => k_is)
    (case k12 => k_is)
    (case a13 => k_is)
    (case l13 => k_is)
    (case c13 => k_is)
    (case k13 => k_is)
    (case a14 => k_is)
    (case l14 => k_is)
    (case c14 => k_is)
    (case k14 => k_is)
    (case a15 => k_is)
    (case l15 => k_is)
    (case c15 => k_is)
    (case k15 => k_is)
    (case a16 => k_is)
    (case l16 => k_is)
    (case c16 => k_is)
    (case k16 => k_is)
    (case a17 => k_is)
    (case l17 => k_is)
    (case c17 => k_is)
    (case k17 => k_is)
    (case a18 => k_is)
    (case l18 => k_is)
    (case c18 => k_is)
    (case k18 => k_is)
    (case a19 => k_is)
    (case l19 => k_is)
    (case c19 => k_is)
    (case k19 => k_is)
    (case a20 => k_is)
    (case l20 => k_is)
    (case c20 => k_is)
    (case k20 => k_is)
    (case a21 => k_is)
    (case l21 => k_is)
    (case c21 => k_is)
    (case k21 => k_is)
    (case a22 => k_is)
    (case l22 => k_is)
    (case c22 => k_is)
    (case k22 => k_is)
    (case aN => k_is)
    (case lN => first | rfl | decide +kernel)
    (case cN => first | rfl | decide +kernel)
    (case dN => first | rfl | decide +kernel)
    (case aI => k_is)
    (case aM => k_is)
    (case z_list => k_is)
    (case z_len => k_is)
    (case z_abs => k_is)
    (case z_int => k_is)
    (case z_range => k_is)
    (case z_isinstance => k_is)
    (case z_bool => k_is)
    (case z_str => k_is)
    (case z_tuple => k_is)
    (case z_all => k_is)
    (case z_zip => k_is)

