import PyProof.Rows.All
import Wide.All
import OpenK.AllK
import Wide.FinOn
import HandS.ForMost
import HandS.Gcd
import HandS.Wide
import HandS.Codes
import HandS.IsInst
import HandS.Zip
import HandS.Walk
import HandS.MakeKwOnly
import HandS.Property
import Flt.RightSqrt
import KE.KOpsOwn
import KE.KMathG
import HandS.OwnEq
import HandS.ClsMeth
import PySem.Challenge.RW_rootfloor_k03_floors_and_signs_of_surds
set_option Elab.async false
set_option maxRecDepth 100000
set_option maxHeartbeats 8000000
namespace RF
open PySem L2

/-- all that is tracked stays, but what stands at b -/
def Kp (b : Addr) (H H' : Hp) : Prop := ∀ a o, a ≠ b → H a = some o → H' a = some o
theorem Kp.refl (b : Addr) (H : Hp) : Kp b H H := fun _ _ _ e => e
theorem Kp.trans {b : Addr} {H H1 H2 : Hp} (x : Kp b H H1) (y : Kp b H1 H2) : Kp b H H2 := fun a o n e => y a o n (x a o n e)
theorem Kp.upd {b : Addr} {H : Hp} {o : HO} : Kp b H (upd H b o) := fun a u n e => by rw [upd_ne n]; exact e
theorem Kp.of {b : Addr} {H H' : Hp} (s : Same H H') : Kp b H H' := fun a o _ e => s a o e

/-- the bag of a script: its cells, how many are taken, what is left of a great one, the state of the draws -/
structure BagC (H : Hp) (b c : Addr) (ns : List Int) (i : Nat) (z r : Int) : Prop where
  ne : b ≠ c
  at_ : H b = some (.lst [.ref c, .int i, .int z, .int r])
  cs : H c = some (.lst (ns.map V.int))
  le : i ≤ ns.length
  z0 : 0 ≤ z
  r0 : 0 ≤ r
  r1 : r < 2147483647
def Bag (H : Hp) (b : Addr) : Prop := ∃ (c : Addr) (ns : List Int) (i : Nat) (z r : Int), BagC H b c ns i z r
theorem BagC.put {H : Hp} {b c : Addr} {ns : List Int} {i i' : Nat} {z r z' r' : Int} {o : HO} (B : BagC H b c ns i z r) (ho : o = .lst [.ref c, .int i', .int z', .int r']) (hi : i' ≤ ns.length) (hz : 0 ≤ z') (h0 : 0 ≤ r') (h1 : r' < 2147483647) :
    BagC (upd H b o) b c ns i' z' r' := ⟨B.ne, by rw [upd_same, ho], by rw [upd_ne (Ne.symm B.ne)]; exact B.cs, hi, hz, h0, h1⟩
theorem Bag.some {H : Hp} {b : Addr} (B : Bag H b) : ∃ xs, H b = some (.lst xs) := let ⟨_, _, _, _, _, e⟩ := B; ⟨_, e.at_⟩
theorem Bag.same {H H' : Hp} {b : Addr} (B : Bag H b) (s : Same H H') : Bag H' b := by
  obtain ⟨c, ns, i, z, r, h⟩ := B
  exact ⟨c, ns, i, z, r, h.ne, s _ _ h.at_, s _ _ h.cs, h.le, h.z0, h.r0, h.r1⟩
theorem emod_lo (a : Int) {b : Int} (h : 0 < b) : 0 ≤ a % b := Int.emod_nonneg _ (by omega)
theorem emod_hi (a : Int) {b : Int} (h : 0 < b) : a % b < b := Int.emod_lt_of_pos _ h

/-- a draw: some number below the sides; the bag stays one, nothing else changes -/
def spPull : Sp := fun vs H Q _ => ∃ (b : Addr) (k : Int), vs = [.ref b, .int k] ∧ Bag H b ∧ 0 < k ∧ k < 1073741824 ∧
  ∀ (d : Int) (H' : Hp), 0 ≤ d → d < k → Bag H' b → Kp b H H' → Q (.int d) H'
def spBag (K : PySem.W.Frag) : Sp := fun vs H Q _ => ∃ (a : Addr) (ns : List Int), vs = [.ref a] ∧ SqL K H a (ns.map V.int) ∧ ns.length ≤ 63 ∧
  ∀ (b : Addr) (H' : Hp), H b = none → Bag H' b → Same H H' → Q (.ref b) H'
/-- a new object -/
theorem sNew {H H1 : Hp} {p : Addr} {o : HO} (s : Same H H1) (h : H1 p = none) : Same H (upd H1 p o) := fun a u e => by
  rw [upd_ne (ne_of_none (s a u e) h)]
  exact s a u e
theorem ne_new {H : Hp} {p q : Addr} {o : HO} (h : upd H p o q = none) : q ≠ p := fun z => by
  rw [z, upd_same] at h
  cases h
theorem of_new {H : Hp} {p q : Addr} {o : HO} (h : upd H p o q = none) : H q = none := by
  rw [upd_ne (ne_new h)] at h
  exact h

/-! ### data: what a value tells, with the lists and tuples in it -/
inductive D where
  | non | bl (b : Bool) | int (i : Int) | str (x : Str) | lst (ds : List D) | tup (ds : List D)
mutual
def Rp (K : PySem.W.Frag) (H : Hp) : V → D → Prop
  | v, .non => v = .non
  | v, .bl b => v = .bl b
  | v, .int i => v = .int i
  | v, .str x => v = .str x
  | v, .lst ds => ∃ a xs, v = .ref a ∧ SqL K H a xs ∧ xs.length ≤ 100000 ∧ Rps K H xs ds
  | v, .tup ds => ∃ a xs, v = .ref a ∧ SqT K H a xs ∧ xs.length ≤ 100000 ∧ Rps K H xs ds
def Rps (K : PySem.W.Frag) (H : Hp) : List V → List D → Prop
  | xs, [] => xs = []
  | xs, d :: ds => ∃ x r, xs = x :: r ∧ Rp K H x d ∧ Rps K H r ds
end
mutual
def dep : D → Nat
  | .lst ds => depL ds + 1
  | .tup ds => depL ds + 1
  | _ => 0
def depL : List D → Nat
  | [] => 0
  | d :: ds => max (dep d) (depL ds)
end
theorem sameT {K : PySem.W.Frag} {H H' : Hp} {a : Addr} {xs : List V} (e : Same H H') (h : SqT K H a xs) : SqT K H' a xs := by
  rcases h with (h | ⟨o, h⟩) | h
  · exact .inl (.inl (e _ _ h))
  · exact .inl (.inr ⟨o, e _ _ h⟩)
  · exact .inr h
mutual
theorem Rp.same {K : PySem.W.Frag} {H H' : Hp} (e : Same H H') : ∀ {v : V} (d : D), Rp K H v d → Rp K H' v d
  | _, .non, h => h
  | _, .bl _, h => h
  | _, .int _, h => h
  | _, .str _, h => h
  | _, .lst ds, h => by
    obtain ⟨a, xs, h1, h2, h3, h4⟩ := h
    exact ⟨a, xs, h1, e.seq h2, h3, Rps.same e ds h4⟩
  | _, .tup ds, h => by
    obtain ⟨a, xs, h1, h2, h3, h4⟩ := h
    exact ⟨a, xs, h1, sameT e h2, h3, Rps.same e ds h4⟩
theorem Rps.same {K : PySem.W.Frag} {H H' : Hp} (e : Same H H') : ∀ {xs : List V} (ds : List D), Rps K H xs ds → Rps K H' xs ds
  | _, [], h => h
  | _, d :: ds, h => by
    obtain ⟨x, r, h1, h2, h3⟩ := h
    exact ⟨x, r, h1, Rp.same e d h2, Rps.same e ds h3⟩
end
theorem Rps.len {K : PySem.W.Frag} {H : Hp} : ∀ {xs : List V} {ds : List D}, Rps K H xs ds → xs.length = ds.length
  | _, [], h => by rw [show _ = [] from h]; rfl
  | _, d :: ds, h => by
    obtain ⟨x, r, rfl, _, h3⟩ := h
    rw [List.length_cons, List.length_cons, Rps.len h3]
theorem Rps.at_ {K : PySem.W.Frag} {H : Hp} : ∀ {xs : List V} {ds : List D} {i : Nat} {x : V}, Rps K H xs ds → xs[i]? = some x → ∃ d, ds[i]? = some d ∧ Rp K H x d
  | _, [], i, x, h, e => by rw [show _ = [] from h] at e; simp at e
  | _, d :: ds, 0, x, h, e => by
    obtain ⟨y, r, rfl, h2, _⟩ := h
    cases e
    exact ⟨d, rfl, h2⟩
  | _, d :: ds, i + 1, x, h, e => by
    obtain ⟨y, r, rfl, _, h3⟩ := h
    obtain ⟨d', e1, e2⟩ := Rps.at_ (i := i) h3 e
    exact ⟨d', e1, e2⟩
theorem dep_mem : ∀ {ds : List D} {i : Nat} {d : D}, ds[i]? = some d → dep d ≤ depL ds
  | [], _, _, e => by simp at e
  | c :: ds, 0, d, e => by cases e; exact Nat.le_max_left ..
  | c :: ds, i + 1, d, e => Nat.le_trans (dep_mem (i := i) e) (Nat.le_max_right ..)

/-- the class of a datum's value -/
def tyD : D → String
  | .non => "NoneType" | .bl _ => "bool" | .int _ => "int" | .str _ => "str" | .lst _ => "list" | .tup _ => "tuple"
theorem tyL {K : PySem.W.Frag} {H : Hp} {a : Addr} {xs : List V} (h : SqL K H a xs) : TyX K H (.ref a) (.type "list") := by
  rcases h with (h | ⟨o, h⟩) | ⟨o, its, n, h, c, _⟩
  · exact .base (.lst h)
  · exact .base (.frz h)
  · exact .kList h c
theorem tyT {K : PySem.W.Frag} {H : Hp} {a : Addr} {xs : List V} (h : SqT K H a xs) : TyX K H (.ref a) (.type "tuple") := by
  rcases h with (h | ⟨o, h⟩) | ⟨o, its, n, h, c, _⟩
  · exact .base (.tup h)
  · exact .fTuple h
  · exact .kTuple h c
theorem tyX {K : PySem.W.Frag} {H : Hp} : ∀ {v : V} (d : D), Rp K H v d → TyX K H v (.type (tyD d))
  | _, .non, h => by rw [show _ = V.non from h]; exact .base .non
  | _, .bl _, h => by rw [show _ = V.bl _ from h]; exact .base (.bl _)
  | _, .int _, h => by rw [show _ = V.int _ from h]; exact .base (.int _)
  | _, .str _, h => by rw [show _ = V.str _ from h]; exact .base (.str _)
  | _, .lst ds, h => by obtain ⟨a, xs, rfl, h2, _⟩ := h; exact tyL h2
  | _, .tup ds, h => by obtain ⟨a, xs, rfl, h2, _⟩ := h; exact tyT h2

/-! ### a def that others call -/
structure Df (P : Program) (w : World) (K : PySem.W.Frag) (mg : Str → Option Value) (base : Heap) (k : Nat) (x : Str) (ps : List Str) (sp : Sp) : Prop where
  ex : ∃ (f : Addr) (fd : FuncData), FnOk P w K mg base CX0 k f fd ps sp ∧ Binds K fd ps [] ∧ mg x = some (.ref f) ∧ PySem.W.keepIn K (.ref f) = true
theorem fn_false {P : Program} {w : World} {K : PySem.W.Frag} {mg : Str → Option Value} {base : Heap} {CX : CXT} {k : Nat} {f : Addr} {fd : FuncData} {ps : List Str} : FnOk P w K mg base CX k f fd ps (fun _ _ _ _ => False) :=
  ⟨fun _ _ _ _ h => h.elim, fun _ _ _ _ _ _ _ _ _ _ _ _ _ h => h.elim⟩
theorem pe_callD {X : Cx} {j k : Nat} {x : Str} {ps : List Str} {sp : Sp} {p pos : Pos} {e : Expr} {es : List Expr} {t : TA} (F : Df X.prog X.w X.K X.mg X.base k x ps sp) (hr : Room j X.A) (hk : k ≤ j) (ha : PA X (e :: es) t)
    (hg : Gl X x := by rfl) (hdb : (x == ("__debug__" : Str)) = false := by decide)
    (he : starEach (e :: es) X.env = (false, eval e X.env) :: starEach es X.env := by rfl) (hpl : (backTo pos (starEach es X.env)).any (·.1) = false := by rfl) :
    PE X (.Call (.Name x p) (e :: es) [] pos) (tCall sp [] E0 t) := by
  obtain ⟨f, fd, G, b, m, kp⟩ := F.ex
  exact pe_call G (hr.mono hk) hg m kp b .nil pass0 ha hdb he hpl
/-- zip of two tuples -/
theorem walk_zipT {K : PySem.W.Frag} {a b : Addr} {xs ys : List V} {n : Nat} (hn : n = min xs.length ys.length) : Walk (RZ.ItzT K a b) n (fun H => SqT K H a xs ∧ SqT K H b ys) (YPair (fun i => xs[i]?) (fun i => ys[i]?)) := by
  subst hn
  refine ⟨fun i _ hi q => ?_, fun _ q => ⟨xs, ys, q.1, q.2, by omega⟩, fun i H v H' _ q y => ?_⟩
  · have h1 : i < xs.length := by omega
    have h2 : i < ys.length := by omega
    exact ⟨xs, ys, xs[i], ys[i], q.1, q.2, by simp [h1], by simp [h2]⟩
  · obtain ⟨T, x, z, h1, h2, h3, h4, h5⟩ := y
    exact ⟨T, x, z, h1, h2, h3, h4 xs q.1, h5 ys q.2⟩

/-- one datum, told twice: the law's own comparison gives True -/
def spSame (K : PySem.W.Frag) (n : Nat) : Sp := fun vs H Q _ => ∃ (v u : V) (d : D), vs = [v, u] ∧ Rp K H v d ∧ Rp K H u d ∧ dep d ≤ n ∧ ∀ H', Same H H' → Q (.bl true) H'
def spSameL (K : PySem.W.Frag) : Nat → Sp
  | 0 => fun _ _ _ _ => False
  | n + 1 => spSame K n
def spOf (K : PySem.W.Frag) : Sp := fun vs H Q _ => ∃ (b a : Addr) (xs : List V), vs = [.ref b, .ref a] ∧ Bag H b ∧ SqL K H a xs ∧ a ≠ b ∧ 0 < xs.length ∧ xs.length < 1000000 ∧
  ∀ (v : V) (H' : Hp), v ∈ xs → Bag H' b → Kp b H H' → Q v H'
def spRoot : Sp := fun vs H Q _ => ∃ (b : Addr), vs = [.ref b] ∧ Bag H b ∧ ∀ (d : Int) (H' : Hp), d = 2 ∨ d = 3 ∨ d = 5 ∨ d = 6 ∨ d = 13 → Bag H' b → Kp b H H' → Q (.int d) H'
def spFar : Sp := fun vs H Q _ => ∃ (b : Addr) (k : Int), vs = [.ref b, .int k] ∧ Bag H b ∧ 0 < k ∧ k ≤ 1000 ∧ ∀ (n : Int) (H' : Hp), 0 ≤ n → n < 10 ^ k.toNat → Bag H' b → Kp b H H' → Q (.int n) H'
theorem Kp.seq {K : PySem.W.Frag} {b a : Addr} {H H' : Hp} {xs : List V} (k : Kp b H H') (n : a ≠ b) (h : SqL K H a xs) : SqL K H' a xs := by
  rcases h with (h | ⟨o, h⟩) | h
  · exact .inl (.inl (k _ _ n h))
  · exact .inl (.inr ⟨o, k _ _ n h⟩)
  · exact .inr h

theorem iteP {c A B : Prop} [Decidable c] (hc : c) (h : A) : if c then A else B := by
  rw [if_pos hc]
  exact h
theorem iteN {c A B : Prop} [Decidable c] (hc : ¬ c) (h : B) : if c then A else B := by
  rw [if_neg hc]
  exact h
theorem nd_of {p : Prop} [Decidable p] (h : ¬ p) : ¬ decide p = true := fun z => h (of_decide_eq_true z)
theorem eqT {x : V} {Q : VK} {H : Hp} (h : Q (.bl true) H) : Q (.bl (decide (x = x))) H := by
  rw [decide_eq_true rfl]
  exact h
def isBool : D → Bool
  | .bl _ => true
  | _ => false
theorem kb_NoneType_bool : kitB "NoneType" "bool" = some false := by decide +kernel
theorem kb_bool_bool : kitB "bool" "bool" = some true := by decide +kernel
theorem kb_int_bool : kitB "int" "bool" = some false := by decide +kernel
theorem kb_str_bool : kitB "str" "bool" = some false := by decide +kernel
theorem kb_list_bool : kitB "list" "bool" = some false := by decide +kernel
theorem kb_tuple_bool : kitB "tuple" "bool" = some false := by decide +kernel
theorem kit_bool : ∀ d : D, kitB (tyD d) "bool" = some (isBool d)
  | .non => kb_NoneType_bool
  | .bl _ => kb_bool_bool
  | .int _ => kb_int_bool
  | .str _ => kb_str_bool
  | .lst _ => kb_list_bool
  | .tup _ => kb_tuple_bool
def isInt : D → Bool
  | .bl _ => true
  | .int _ => true
  | _ => false
theorem kb_NoneType_int : kitB "NoneType" "int" = some false := by decide +kernel
theorem kb_bool_int : kitB "bool" "int" = some true := by decide +kernel
theorem kb_int_int : kitB "int" "int" = some true := by decide +kernel
theorem kb_str_int : kitB "str" "int" = some false := by decide +kernel
theorem kb_list_int : kitB "list" "int" = some false := by decide +kernel
theorem kb_tuple_int : kitB "tuple" "int" = some false := by decide +kernel
theorem kit_int : ∀ d : D, kitB (tyD d) "int" = some (isInt d)
  | .non => kb_NoneType_int
  | .bl _ => kb_bool_int
  | .int _ => kb_int_int
  | .str _ => kb_str_int
  | .lst _ => kb_list_int
  | .tup _ => kb_tuple_int
def isStr : D → Bool
  | .str _ => true
  | _ => false
theorem kb_NoneType_str : kitB "NoneType" "str" = some false := by decide +kernel
theorem kb_bool_str : kitB "bool" "str" = some false := by decide +kernel
theorem kb_int_str : kitB "int" "str" = some false := by decide +kernel
theorem kb_str_str : kitB "str" "str" = some true := by decide +kernel
theorem kb_list_str : kitB "list" "str" = some false := by decide +kernel
theorem kb_tuple_str : kitB "tuple" "str" = some false := by decide +kernel
theorem kit_str : ∀ d : D, kitB (tyD d) "str" = some (isStr d)
  | .non => kb_NoneType_str
  | .bl _ => kb_bool_str
  | .int _ => kb_int_str
  | .str _ => kb_str_str
  | .lst _ => kb_list_str
  | .tup _ => kb_tuple_str
def isLst : D → Bool
  | .lst _ => true
  | _ => false
theorem kb_NoneType_list : kitB "NoneType" "list" = some false := by decide +kernel
theorem kb_bool_list : kitB "bool" "list" = some false := by decide +kernel
theorem kb_int_list : kitB "int" "list" = some false := by decide +kernel
theorem kb_str_list : kitB "str" "list" = some false := by decide +kernel
theorem kb_list_list : kitB "list" "list" = some true := by decide +kernel
theorem kb_tuple_list : kitB "tuple" "list" = some false := by decide +kernel
theorem kit_list : ∀ d : D, kitB (tyD d) "list" = some (isLst d)
  | .non => kb_NoneType_list
  | .bl _ => kb_bool_list
  | .int _ => kb_int_list
  | .str _ => kb_str_list
  | .lst _ => kb_list_list
  | .tup _ => kb_tuple_list
def isTup : D → Bool
  | .tup _ => true
  | _ => false
theorem kb_NoneType_tuple : kitB "NoneType" "tuple" = some false := by decide +kernel
theorem kb_bool_tuple : kitB "bool" "tuple" = some false := by decide +kernel
theorem kb_int_tuple : kitB "int" "tuple" = some false := by decide +kernel
theorem kb_str_tuple : kitB "str" "tuple" = some false := by decide +kernel
theorem kb_list_tuple : kitB "list" "tuple" = some false := by decide +kernel
theorem kb_tuple_tuple : kitB "tuple" "tuple" = some true := by decide +kernel
theorem kit_tuple : ∀ d : D, kitB (tyD d) "tuple" = some (isTup d)
  | .non => kb_NoneType_tuple
  | .bl _ => kb_bool_tuple
  | .int _ => kb_int_tuple
  | .str _ => kb_str_tuple
  | .lst _ => kb_list_tuple
  | .tup _ => kb_tuple_tuple
theorem kit_lt {K : PySem.W.Frag} (d : D) : PySem.W.kitAny K (.type (tyD d)) [.type "list", .type "tuple"] = some (isLst d || isTup d) := by
  refine kitAny_cons (kit_ty (kit_list d)) (fun e => ?_) (fun e => by rw [e]; rfl)
  rw [e, Bool.false_or]
  exact kitAny_cons (kit_ty (kit_tuple d)) (fun e => by rw [e]; rfl) (fun e => e)
structure TSm (mg : Str → Option Value) : Prop where
  isinstance : mg "isinstance" = none
  bool : mg "bool" = none
  int : mg "int" = none
  str : mg "str" = none
  list : mg "list" = none
  tuple : mg "tuple" = none
  len : mg "len" = none
  all : mg "all" = none
  zip : mg "zip" = none
theorem yes_if {σ : St} {H : Hp} {A B : Hp → Prop} (h : A H) : tYes σ H (fun b H3 => if b = true then A H3 else B H3) := by
  show (if true = true then A H else B H)
  rw [if_pos rfl]
  exact h
end RF

namespace RF
open PySem L2
def top (i : Nat) : Stmt := PySem.Challenge.pw_rootfloor_k03_floors_and_signs_of_surds.main.body.getD i (.Pass ⟨0, 0, 0, 0⟩)
abbrev sBag : Stmt := top 20
abbrev sPull : Stmt := top 21
structure TB (mg : Str → Option Value) : Prop where
  list : mg "list" = none
  len : mg "len" = none
  abs : mg "abs" = none
  int : mg "int" = none
section
variable {P : Program} {w : World} {K : PySem.W.Frag} {mg : Str → Option Value} {base : Heap}
theorem scBag : FnScope ["_law_script"] ["_law_script"] (defScope sBag) := ⟨rfl, rfl, rfl, by decide +kernel, rfl, by decide +kernel, by decide +kernel⟩
theorem ok_bag {f : Addr} {fd : FuncData} (F : Fun K "_law_bag" "_law_bag" sBag f fd) (T : TB mg) : FnOk P w K mg base CX0 1 f fd ["_law_script"] (spBag K) := by
  refine F.ok scBag (fun vs H Q E h => ?_) (fun cdv A outer s H vs Q E hr h => ?_)
  · obtain ⟨a, ns, rfl, _⟩ := h
    rfl
  · obtain ⟨a, ns, rfl, hS, hl, k⟩ := h
    refine ⟨_, pss_one (ps_ret (pe_lst (pa_cons (pe_callTy call_list_of (by rfl) T.list (by decide +kernel) (pa_cons (pe_slice sl_list (pv 0) po_none (po_some pe_int)) pa_nil)) (pa_cons pe_int (pa_cons pe_int (pa_cons pe_int pa_nil)))))), ?_⟩
    refine ⟨_, rfl, _, rfl, a, _, rfl, hS, fun p hp => ⟨p, _, rfl, .inl (SqL.of upd_same), fun l hl2 => ⟨by show 4 ≤ sizeLine; decide, fun q hq => ?_⟩⟩⟩
    obtain ⟨ms, e⟩ : ∃ ms : List Int, cutV (ns.map V.int) none (some 63) = ms.map V.int := ⟨_, by unfold cutV; rw [← List.map_drop, ← List.map_take]⟩
    have sm := sNew (o := .lst [.ref l, .int 0, .int 0, .int 3842]) (sNew (o := .lst (cutV (ns.map V.int) none (some 63))) (sNew (o := .lst (cutV (ns.map V.int) none (some 63))) (Same.refl H) hp) hl2) hq
    refine k q _ (of_new (of_new hq)) ⟨l, ms, 0, 0, 3842, ne_new hq, upd_same, ?_, Nat.zero_le _, Int.le_refl _, by decide, by decide⟩ sm
    rw [upd_ne (Ne.symm (ne_new hq)), upd_same, e]
abbrev nPull : List Str := ["_law_bag_here", "_law_sides", "_law_cell", "_law_digit", "_law_twice"]
theorem scPull : FnScope nPull ["_law_bag_here", "_law_sides"] (defScope sPull) := ⟨rfl, rfl, rfl, by decide +kernel, rfl, by decide +kernel, by decide +kernel⟩
theorem ok_pull {f : Addr} {fd : FuncData} (F : Fun K "_law_pull" "_law_pull" sPull f fd) (T : TB mg) : FnOk P w K mg base CX0 1 f fd ["_law_bag_here", "_law_sides"] spPull := by
  refine F.ok scPull (fun vs H Q E h => ?_) (fun cdv A outer s H vs Q E hr h => ?_)
  · obtain ⟨b, k, rfl, _⟩ := h
    rfl
  · obtain ⟨b, m, rfl, ⟨c, ns, i, z, r, B⟩, m0, m1, k⟩ := h
    have nd := scPull.nd
    -- the second half, from any bag
    refine ⟨_, C8.pss_cut (ps_if (pw_and (pt_cmpR op_eq (pe_ix ix_list (pv 0) pe_int (fun _ _ => rfl)) pe_int (nomark _)) (pw_and1 (pt_cmpR op_lt (pe_ix ix_list (pv 0) pe_int (fun _ _ => rfl)) (pe_callB call_len_seq (by rfl) T.len PySem.boot_len (pa_cons (pe_ix ix_list (pv 0) pe_int (fun _ _ => rfl)) pa_nil)) (nomark _)))).pt
        (pss_cons (ps_set (i := 2) nd rfl (Or.inl rfl) (pe_ix ix_list (pe_ix ix_list (pv 0) pe_int (fun _ _ => rfl)) (pe_ix ix_list (pv 0) pe_int (fun _ _ => rfl)) (fun _ _ => rfl)))
        (pss_cons (ps_asg (pe_op op_add (pe_ix ix_list (pv 0) pe_int (fun _ _ => rfl)) pe_int) (pg_sub (pv 0) pe_int set_list))
        (pss_one (ps_if (pt_cmpR op_ge (pe_callB call_abs (by rfl) T.abs (by decide +kernel) (pa_cons (pv 2) pa_nil)) (pe_op op_pow pe_int pe_int) (nomark _))
          (pss_one (ps_asg (pe_callB call_abs (by rfl) T.abs (by decide +kernel) (pa_cons (pv 2) pa_nil)) (pg_sub (pv 0) pe_int set_list)))
          (pss_one (ps_asg (pe_op op_mod (pe_callTy call_int1 (by rfl) T.int (by decide +kernel) (pa_cons (pe_op op_add (pe_op op_add (pe_op op_mul (pe_ix ix_list (pv 0) pe_int (fun _ _ => rfl)) pe_int) (pe_op op_mul (pe_op op_mod (pe_callTy call_int1 (by rfl) T.int (by decide +kernel) (pa_cons (pv 2) pa_nil)) pe_int) pe_int)) pe_int) pa_nil)) pe_int) (pg_sub (pv 0) pe_int set_list)))))))
        pss_nil)
      (C8.pss_cut (ps_if (pt_cmpR op_gt (pe_ix ix_list (pv 0) pe_int (fun _ _ => rfl)) pe_int (nomark _))
        (pss_cons (ps_set (i := 3) nd rfl (Or.inl rfl) (pe_op op_mod (pe_callTy call_int1 (by rfl) T.int (by decide +kernel) (pa_cons (pe_ix ix_list (pv 0) pe_int (fun _ _ => rfl)) pa_nil)) (pv 1)))
        (pss_cons (ps_asg (pe_op op_fdiv (pe_ix ix_list (pv 0) pe_int (fun _ _ => rfl)) (pv 1)) (pg_sub (pv 0) pe_int set_list))
        (pss_one (ps_ret (pv 3)))))
        pss_nil)
      (pss_cons (ps_set (i := 4) nd rfl (Or.inl rfl) (pe_op op_mod (pe_callTy call_int1 (by rfl) T.int (by decide +kernel) (pa_cons (pe_op op_mul (pe_ix ix_list (pv 0) pe_int (fun _ _ => rfl)) (pe_ix ix_list (pv 0) pe_int (fun _ _ => rfl))) pa_nil)) pe_int))
      (pss_cons (ps_asg (pe_op op_mod (pe_callTy call_int1 (by rfl) T.int (by decide +kernel) (pa_cons (pe_op op_add (pe_op op_add (pe_op op_mul (pv 4) pe_int) (pe_op op_mul (pe_ix ix_list (pv 0) pe_int (fun _ _ => rfl)) pe_int)) pe_int) pa_nil)) pe_int) (pg_sub (pv 0) pe_int set_list))
      (pss_one (ps_ret (pe_op op_mod (pe_callTy call_int1 (by rfl) T.int (by decide +kernel) (pa_cons (pe_op op_fdiv (pe_ix ix_list (pv 0) pe_int (fun _ _ => rfl)) pe_int) pa_nil)) (pv 1))))))), ?_⟩
    have hc : ∀ {H' : Hp} {i : Nat} {z r : Int}, BagC H' b c ns i z r → H' c = some (.lst (ns.map V.int)) := fun B => B.cs
    -- what follows the first if, from any bag
    refine ⟨fun σ' H' => ∃ v i z r, σ' = [some (.ref b), some (.int m), v, none, none] ∧ BagC H' b c ns i z r ∧ Kp b H H', ?_, ?_⟩
    · refine ⟨_, rfl, b, _, _, _, rfl, rfl, SqL.of B.at_, rfl, rfl, _, rfl, ?_⟩
      refine ite2 (fun ez => ?_) (fun _ => ?_)
      · refine ⟨_, rfl, b, _, _, _, rfl, rfl, SqL.of B.at_, rfl, _, rfl, b, _, _, _, rfl, rfl, SqL.of B.at_, rfl, c, _, rfl, .inl (SqL.of B.cs), _, _, rfl, rfl, _, rfl, ?_⟩
        refine ite2 (fun hl => ?_) (fun _ => ⟨_, _, _, _, rfl, B, Kp.refl _ _⟩)
        have hl' : i < ns.length := by
          have := of_decide_eq_true hl
          rw [List.length_map] at this
          omega
        obtain ⟨n, hn⟩ : ∃ n, ns[i]? = some n := ⟨_, List.getElem?_eq_getElem hl'⟩
        have hat : atI (ns.map V.int) (i : Int) = some (V.int n) := atI_nat (by rw [List.getElem?_map, hn]; rfl)
        refine ⟨_, rfl, b, _, _, _, rfl, rfl, SqL.of B.at_, rfl, _, rfl, b, _, _, _, rfl, rfl, SqL.of B.at_, rfl, c, _, _, _, rfl, rfl, SqL.of B.cs, hat, ?_⟩
        refine ⟨_, rfl, b, _, _, _, rfl, rfl, SqL.of B.at_, rfl, _, _, rfl, rfl, _, rfl, b, _, _, _, rfl, rfl, B.at_, rfl, ?_⟩
        have B1 := B.put (i' := i + 1) (z' := z) (r' := r) (o := .lst [.ref c, .int ((i : Int) + 1), .int z, .int r]) (by rw [Int.natCast_add]; rfl) hl' B.z0 B.r0 B.r1
        have k1 : Kp b H (upd H b (.lst [.ref c, .int ((i : Int) + 1), .int z, .int r])) := Kp.upd
        refine ⟨_, rfl, _, rfl, _, _, rfl, rfl, ⟨by decide, by decide, by decide⟩, _, _, rfl, rfl, _, rfl, ?_⟩
        refine ite2 (fun _ => ?_) (fun _ => ?_)
        · refine ⟨_, rfl, _, rfl, _, rfl, b, _, _, _, rfl, rfl, upd_same, rfl, ?_⟩
          exact ⟨_, _, _, _, rfl, B1.put rfl B1.le (by split <;> omega) B1.r0 B1.r1, k1.trans Kp.upd⟩
        · refine ⟨_, rfl, b, _, _, _, rfl, rfl, SqL.of B1.at_, rfl, _, _, rfl, rfl, .inr (by decide), _, rfl, .inl ⟨_, rfl, _, _, rfl, rfl, (by show (0 : Int) < 1000003; decide), _, _, rfl, rfl, .inr (by decide), _, _, rfl, rfl, _, _, rfl, rfl, .inl ⟨_, rfl, _, _, rfl, rfl, (by show (0 : Int) < 2147483647; decide), _, rfl, b, _, _, _, rfl, rfl, upd_same, rfl, ?_⟩⟩⟩
          exact ⟨_, _, _, _, rfl, B1.put rfl B1.le B1.z0 (emod_lo _ (by decide)) (emod_hi _ (by decide)), k1.trans Kp.upd⟩
      · exact ⟨_, _, _, _, rfl, B, Kp.refl _ _⟩
    · rintro σ' H1 ⟨v, i, z, r, rfl, B, kp⟩
      -- if bag[2] > 0
      refine ⟨fun σ' H' => σ' = [some (.ref b), some (.int m), v, none, none] ∧ H' = H1, ?_, ?_⟩
      · refine ⟨_, rfl, b, _, _, _, rfl, rfl, SqL.of B.at_, rfl, _, _, rfl, rfl, _, rfl, ?_⟩
        refine ite2 (fun hz => ?_) (fun _ => ⟨rfl, rfl⟩)
        refine ⟨_, rfl, b, _, _, _, rfl, rfl, SqL.of B.at_, rfl, .inl ⟨_, rfl, _, rfl, _, _, rfl, rfl, m0, ?_⟩⟩
        refine ⟨_, rfl, b, _, _, _, rfl, rfl, SqL.of B.at_, rfl, _, rfl, _, _, rfl, rfl, ⟨m0, m1⟩, _, rfl, b, _, _, _, rfl, rfl, B.at_, rfl, ?_⟩
        refine ⟨_, rfl, ?_⟩
        exact k _ _ (emod_lo _ m0) (emod_hi _ m0) ⟨c, ns, _, _, _, B.put rfl B.le (Int.ediv_nonneg B.z0 (Int.le_of_lt m0)) B.r0 B.r1⟩ (kp.trans Kp.upd)
      · rintro σ' H2 ⟨rfl, rfl⟩
        refine ⟨_, rfl, b, _, _, _, rfl, rfl, SqL.of B.at_, rfl, _, rfl, b, _, _, _, rfl, rfl, SqL.of B.at_, rfl, _, _, rfl, rfl, .inl ⟨by have := B.r0; omega, by have := B.r1; omega⟩, .inl ⟨_, rfl, _, _, rfl, rfl, (by show (0 : Int) < 2147483629; decide), ?_⟩⟩
        refine ⟨_, rfl, _, _, rfl, rfl, .inr (by decide), _, rfl, b, _, _, _, rfl, rfl, SqL.of B.at_, rfl, _, _, rfl, rfl, .inr (by decide), _, _, rfl, rfl, _, _, rfl, rfl, .inl ⟨_, rfl, _, _, rfl, rfl, (by show (0 : Int) < 2147483647; decide), _, rfl, b, _, _, _, rfl, rfl, B.at_, rfl, ?_⟩⟩
        refine ⟨_, rfl, b, _, _, _, rfl, rfl, SqL.of upd_same, rfl, _, _, rfl, rfl, ⟨by decide, by decide⟩, .inl ⟨_, rfl, _, rfl, _, _, rfl, rfl, m0, ?_⟩⟩
        exact k _ _ (emod_lo _ m0) (emod_hi _ m0) ⟨c, ns, _, _, _, B.put rfl B.le B.z0 (emod_lo _ (by decide)) (emod_hi _ (by decide))⟩ (kp.trans Kp.upd)
end
end RF

namespace RF
open PySem L2
section
variable {P : Program} {w : World} {K : PySem.W.Frag} {mg : Str → Option Value} {base : Heap}
abbrev s_law_of : Stmt := top 22
abbrev n_law_of : List Str := ["_law_bag_here", "_law_some"]
theorem sc_law_of : FnScope n_law_of ["_law_bag_here", "_law_some"] (defScope s_law_of) := ⟨rfl, rfl, rfl, by decide +kernel, rfl, by decide +kernel, by decide +kernel⟩
theorem ok_of {f : Addr} {fd : FuncData} {k : Nat} (F : Fun K "_law_of" "_law_of" s_law_of f fd) (T : TB mg) (D1 : Df P w K mg base k "_law_pull" ["_law_bag_here", "_law_sides"] spPull) : FnOk P w K mg base CX0 (k + 1) f fd ["_law_bag_here", "_law_some"] (spOf K) := by
  refine F.ok sc_law_of (fun vs H Q E h => ?_) (fun cdv A outer s H vs Q E hr h => ?_)
  · obtain ⟨b, a, xs, rfl, _⟩ := h
    rfl
  · obtain ⟨b, a, xs, rfl, B, hS, nab, h0, h1, k⟩ := h
    refine ⟨_, (pss_one (ps_ret (pe_ix ix_list (pv 1) (pe_callD D1 hr (Nat.le_refl _) (pa_cons (pv 0) (pa_cons (pe_callB call_len_seq (by rfl) T.len PySem.boot_len (pa_cons (pv 1) pa_nil)) pa_nil))) (fun _ _ => rfl)))), ?_⟩
    refine ⟨_, rfl, _, rfl, _, rfl, a, _, rfl, .inl hS, b, _, rfl, B, by omega, by omega, fun d H' d0 d1 B' kp => ?_⟩
    obtain ⟨j, rfl⟩ : ∃ j : Nat, d = (j : Int) := ⟨d.toNat, by omega⟩
    have hj : j < xs.length := by omega
    exact ⟨a, xs, _, _, rfl, rfl, kp.seq nab hS, atI_nat (List.getElem?_eq_getElem hj), k _ _ (List.getElem_mem hj) B' kp⟩
abbrev s_law_root : Stmt := top 27
abbrev n_law_root : List Str := ["_law_bag_here"]
theorem sc_law_root : FnScope n_law_root ["_law_bag_here"] (defScope s_law_root) := ⟨rfl, rfl, rfl, by decide +kernel, rfl, by decide +kernel, by decide +kernel⟩
theorem ok_root {f : Addr} {fd : FuncData} {k : Nat} (F : Fun K "_law_root" "_law_root" s_law_root f fd) (D1 : Df P w K mg base k "_law_of" ["_law_bag_here", "_law_some"] (spOf K)) : FnOk P w K mg base CX0 (k + 1) f fd ["_law_bag_here"] spRoot := by
  refine F.ok sc_law_root (fun vs H Q E h => ?_) (fun cdv A outer s H vs Q E hr h => ?_)
  · obtain ⟨b, rfl, _⟩ := h
    rfl
  · obtain ⟨b, rfl, B, k⟩ := h
    refine ⟨_, (pss_one (ps_ret (pe_callD D1 hr (Nat.le_refl _) (pa_cons (pv 0) (pa_cons (pe_lst (pa_cons pe_int (pa_cons pe_int (pa_cons pe_int (pa_cons pe_int (pa_cons pe_int pa_nil)))))) pa_nil))))), ?_⟩
    refine ⟨_, rfl, by show 5 ≤ sizeLine; decide, fun p hp => ?_⟩
    obtain ⟨xs, hb⟩ := B.some
    refine ⟨b, p, _, rfl, B.same (sNew (Same.refl _) hp), SqL.of upd_same, (ne_of_none hb hp).symm, by decide, by decide, fun v H' hv B' kp => ?_⟩
    have kp' : Kp b H H' := (Kp.of (sNew (Same.refl _) hp)).trans kp
    rcases List.mem_cons.mp hv with rfl | hv
    · exact k _ _ (by decide) B' kp'
    rcases List.mem_cons.mp hv with rfl | hv
    · exact k _ _ (by decide) B' kp'
    rcases List.mem_cons.mp hv with rfl | hv
    · exact k _ _ (by decide) B' kp'
    rcases List.mem_cons.mp hv with rfl | hv
    · exact k _ _ (by decide) B' kp'
    rcases List.mem_cons.mp hv with rfl | hv
    · exact k _ _ (by decide) B' kp'
    cases hv
abbrev s_law_far : Stmt := top 24
abbrev n_law_far : List Str := ["_law_bag_here", "_law_figures", "_law_many", "_law_found", "_law_k_z"]
theorem sc_law_far : FnScope n_law_far ["_law_bag_here", "_law_figures"] (defScope s_law_far) := ⟨rfl, rfl, rfl, by decide +kernel, rfl, by decide +kernel, by decide +kernel⟩
theorem ok_far {f : Addr} {fd : FuncData} {k : Nat} (F : Fun K "_law_far" "_law_far" s_law_far f fd) (T : mg "range" = none) (D1 : Df P w K mg base k "_law_pull" ["_law_bag_here", "_law_sides"] spPull) : FnOk P w K mg base CX0 (k + 1) f fd ["_law_bag_here", "_law_figures"] spFar := by
  refine F.ok sc_law_far (fun vs H Q E h => ?_) (fun cdv A outer s H vs Q E hr h => ?_)
  · obtain ⟨b, m, rfl, _⟩ := h
    rfl
  · obtain ⟨b, m, rfl, B, m0, m1, k⟩ := h
    have nd := sc_law_far.nd
    refine ⟨_, (pss_cons (ps_set (i := 2) nd rfl (Or.inl rfl) (pe_op op_add pe_int (pe_callD D1 hr (Nat.le_refl _) (pa_cons (pv 0) (pa_cons (pv 1) pa_nil)))))
      (pss_cons (ps_set (i := 3) nd rfl (Or.inl rfl) pe_int)
      (pss_cons (ps_for PassesOwn.never rfl (pi_range1 rfl T (pa_cons (pv 2) pa_nil)) (pg_name (i := 4) nd rfl (Or.inl rfl))
      (pss_one (ps_set (i := 3) nd rfl (Or.inl rfl) (pe_op op_add (pe_op op_mul (pv 3) pe_int) (pe_callD D1 hr (Nat.le_refl _) (pa_cons (pv 0) (pa_cons pe_int pa_nil)))))))
      (pss_one (ps_ret (pv 3)))))), ?_⟩
    refine ⟨_, rfl, _, rfl, b, _, rfl, B, m0, by omega, fun d H1 d0 d1 B1 kp1 => ⟨_, _, rfl, rfl, ?_⟩⟩
    refine ⟨_, rfl, _, rfl, by omega, by omega, for_range (n := (1 + d).toNat) (fun i σ H' => ∃ (n : Int) (v : Option V), σ = [some (.ref b), some (.int m), some (.int (1 + d)), some (.int n), v] ∧ 0 ≤ n ∧ n < 10 ^ i ∧ Bag H' b ∧ Kp b H H')
      ⟨0, none, rfl, by decide, by decide, B1, kp1⟩ ?_ ?_⟩
    · rintro i σ H2 hi ⟨n, v, rfl, n0, n1, B2, kp2⟩
      refine ⟨_, rfl, _, _, rfl, rfl, .inr (by decide), _, rfl, b, _, rfl, B2, by decide, by decide, fun e H3 e0 e1 B3 kp3 => ⟨_, _, rfl, rfl, ?_⟩⟩
      refine ⟨_, _, rfl, by omega, ?_, B3, kp2.trans kp3⟩
      rw [Int.pow_succ]
      omega
    · rintro σ H2 ⟨n, v, rfl, n0, n1, B2, kp2⟩
      refine ⟨_, rfl, k _ _ n0 (Int.lt_of_lt_of_le n1 ?_) B2 kp2⟩
      exact_mod_cast Nat.pow_le_pow_right (by decide : 0 < 10) (by omega : (1 + d).toNat ≤ m.toNat)
end
end RF

namespace RF
open PySem L2
section
variable {P : Program} {w : World} {K : PySem.W.Frag} {mg : Str → Option Value} {base : Heap}
abbrev s_law_same : Stmt := top 23
abbrev n_law_same : List Str := ["_law_found", "_law_due", "_law_a", "_law_b"]
theorem sc_law_same : FnScope n_law_same ["_law_found", "_law_due"] (defScope s_law_same) := ⟨rfl, rfl, rfl, by decide +kernel, rfl, by decide +kernel, by decide +kernel⟩
theorem ok_same1 {f : Addr} {fd : FuncData} {k : Nat} {n : Nat} (F : Fun K "_law_same" "_law_same" s_law_same f fd) (T : TSm mg) (D1 : Df P w K mg base k "_law_same" ["_law_found", "_law_due"] (spSameL K n)) : FnOk P w K mg base CX0 (k + 1) f fd ["_law_found", "_law_due"] (spSame K n) := by
  refine F.ok sc_law_same (fun vs H Q E h => ?_) (fun cdv A outer s H vs Q E hr h => ?_)
  · obtain ⟨v, u, d, rfl, _⟩ := h
    rfl
  · obtain ⟨v, u, d, rfl, h1, h2, hd, k⟩ := h
    have nd := sc_law_same.nd
    refine ⟨_, (pss_cons (ps_if (pw_or (pt_cmpR op_isN (pv 1) pe_non (nomark _)) (pw_or1 (pt_cmpR op_isN (pv 0) pe_non (nomark _)))).pt
      (pss_one (ps_ret (pe_and (pe_cmpR op_isN (pv 1) pe_non (nomark _)) (pe_one (pe_cmpR op_isN (pv 0) pe_non (nomark _))))))
      pss_nil)
      (pss_cons (ps_if (pw_or (pt_val (pe_callB call_isi (by rfl) T.isinstance (by decide +kernel) (pa_cons (pv 1) (pa_cons (pe_bltn (v := .ty "bool") (by rfl) T.bool (by decide +kernel) rfl) pa_nil)))) (pw_or1 (pt_val (pe_callB call_isi (by rfl) T.isinstance (by decide +kernel) (pa_cons (pv 0) (pa_cons (pe_bltn (v := .ty "bool") (by rfl) T.bool (by decide +kernel) rfl) pa_nil)))))).pt
      (pss_one (ps_ret (pe_and (pe_callB call_isi (by rfl) T.isinstance (by decide +kernel) (pa_cons (pv 1) (pa_cons (pe_bltn (v := .ty "bool") (by rfl) T.bool (by decide +kernel) rfl) pa_nil))) (pe_and (pe_callB call_isi (by rfl) T.isinstance (by decide +kernel) (pa_cons (pv 0) (pa_cons (pe_bltn (v := .ty "bool") (by rfl) T.bool (by decide +kernel) rfl) pa_nil))) (pe_one (pe_cmpR op_eq (pv 0) (pv 1) (nomark _)))))))
      pss_nil)
      (pss_cons (ps_if (pw_or (pt_val (pe_callB call_isiT (by rfl) T.isinstance (by decide +kernel) (pa_cons (pv 1) (pa_cons (pe_tup (pa_cons (pe_bltn (v := .ty "list") (by rfl) T.list (by decide +kernel) rfl) (pa_cons (pe_bltn (v := .ty "tuple") (by rfl) T.tuple (by decide +kernel) rfl) pa_nil))) pa_nil)))) (pw_or1 (pt_val (pe_callB call_isiT (by rfl) T.isinstance (by decide +kernel) (pa_cons (pv 0) (pa_cons (pe_tup (pa_cons (pe_bltn (v := .ty "list") (by rfl) T.list (by decide +kernel) rfl) (pa_cons (pe_bltn (v := .ty "tuple") (by rfl) T.tuple (by decide +kernel) rfl) pa_nil))) pa_nil)))))).pt
      (pss_cons (ps_if (pw_or (pt_cmpR op_ne (pe_callB call_isi (by rfl) T.isinstance (by decide +kernel) (pa_cons (pv 1) (pa_cons (pe_bltn (v := .ty "list") (by rfl) T.list (by decide +kernel) rfl) pa_nil))) (pe_callB call_isi (by rfl) T.isinstance (by decide +kernel) (pa_cons (pv 0) (pa_cons (pe_bltn (v := .ty "list") (by rfl) T.list (by decide +kernel) rfl) pa_nil))) (nomark _)) (pw_or1 (pt_cmpR op_ne (pe_callB call_isi (by rfl) T.isinstance (by decide +kernel) (pa_cons (pv 1) (pa_cons (pe_bltn (v := .ty "tuple") (by rfl) T.tuple (by decide +kernel) rfl) pa_nil))) (pe_callB call_isi (by rfl) T.isinstance (by decide +kernel) (pa_cons (pv 0) (pa_cons (pe_bltn (v := .ty "tuple") (by rfl) T.tuple (by decide +kernel) rfl) pa_nil))) (nomark _)))).pt
        (pss_one (ps_ret pe_bl))
        pss_nil)
        (pss_one (ps_ret (pe_and (pe_cmpR op_eq (pe_callB call_len_seq (by rfl) T.len PySem.boot_len (pa_cons (pv 0) pa_nil)) (pe_callB call_len_seq (by rfl) T.len PySem.boot_len (pa_cons (pv 1) pa_nil)) (nomark _)) (pe_one (pe_callB (cr_all rfl) (by rfl) T.all (by decide +kernel) (pa_cons (pe_lc (own := [("_law_a", 2), ("_law_b", 3)]) (g := gTup K 2 (gCons (gName 2) (gCons (gName 3) gNil))) (tt := tYes) (by rfl) nd (RZ.pi_zipA (by rfl) T.zip (pa_cons (pv 0) (pa_cons (pv 1) pa_nil))) (blkOk_by (own := [("_law_a", 2), ("_law_b", 3)]) (N := n_law_same) (sc := defScope s_law_same) (by decide +kernel)) (fun _ _ _ _ _ => (pg_tup rfl (pgs_cons (pg_name (i := 2) nd rfl (Or.inl rfl)) (pgs_cons (pg_name (i := 3) nd rfl (Or.inl rfl)) pgs_nil)))) (fun _ _ _ _ _ => pts_nil) (fun _ _ _ _ _ => (pe_callD D1 hr (Nat.le_refl _) (pa_cons (pv 2) (pa_cons (pv 3) pa_nil))))) pa_nil)))))))
      pss_nil)
      (pss_cons (ps_if (pw_or (pt_cmpR op_ne (pe_callB call_isi (by rfl) T.isinstance (by decide +kernel) (pa_cons (pv 1) (pa_cons (pe_bltn (v := .ty "int") (by rfl) T.int (by decide +kernel) rfl) pa_nil))) (pe_callB call_isi (by rfl) T.isinstance (by decide +kernel) (pa_cons (pv 0) (pa_cons (pe_bltn (v := .ty "int") (by rfl) T.int (by decide +kernel) rfl) pa_nil))) (nomark _)) (pw_or1 (pt_cmpR op_ne (pe_callB call_isi (by rfl) T.isinstance (by decide +kernel) (pa_cons (pv 1) (pa_cons (pe_bltn (v := .ty "str") (by rfl) T.str (by decide +kernel) rfl) pa_nil))) (pe_callB call_isi (by rfl) T.isinstance (by decide +kernel) (pa_cons (pv 0) (pa_cons (pe_bltn (v := .ty "str") (by rfl) T.str (by decide +kernel) rfl) pa_nil))) (nomark _)))).pt
      (pss_one (ps_ret pe_bl))
      pss_nil)
      (pss_one (ps_ret (pe_cmpR op_eq (pv 0) (pv 1) (nomark _)))))))), ?_⟩
    by_cases en : d = .non
    · subst en
      obtain rfl : v = .non := h1
      obtain rfl : u = .non := h2
      refine ⟨_, rfl, rfl, _, rfl, iteP rfl (iteP rfl ?_)⟩
      exact ⟨_, rfl, rfl, _, rfl, iteP rfl ⟨_, rfl, rfl, k _ (Same.refl _)⟩⟩
    · have nv : ∀ x, Rp K H x d → ¬ x = V.non := fun x h z => by
        subst z
        cases d with
        | non => exact en rfl
        | bl _ => cases (show V.non = V.bl _ from h)
        | int _ => cases (show V.non = V.int _ from h)
        | str _ => cases (show V.non = V.str _ from h)
        | lst _ => obtain ⟨_, _, q, _⟩ := h; cases q
        | tup _ => obtain ⟨_, _, q, _⟩ := h; cases q
      refine ⟨_, rfl, rfl, _, rfl, iteN (nd_of (nv _ h2)) ⟨_, rfl, rfl, _, rfl, iteN (nd_of (nv _ h1)) ?_⟩⟩
      -- bool
      by_cases eb : isBool d = true
      · cases d with
        | bl b =>
          have g1 := h1
          have g2 := h2
          obtain rfl : v = .bl b := h1
          obtain rfl : u = .bl b := h2
          refine ⟨_, rfl, _, _, _, _, _, rfl, .ty _, tyX _ g2, kit_ty (kit_bool _), _, rfl, iteP rfl (iteP rfl ?_)⟩
          exact ⟨_, rfl, _, _, _, _, _, rfl, .ty _, tyX _ g2, kit_ty (kit_bool _), _, rfl, iteP rfl ⟨_, rfl, _, _, _, _, _, rfl, .ty _, tyX _ g1, kit_ty (kit_bool _), _, rfl, iteP rfl ⟨_, rfl, _, rfl, rfl, eqT (k _ (Same.refl _))⟩⟩⟩
        | non => cases eb
        | int _ => cases eb
        | str _ => cases eb
        | lst _ => cases eb
        | tup _ => cases eb
      · refine ⟨_, rfl, _, _, _, _, _, rfl, .ty _, tyX _ h2, kit_ty (kit_bool _), _, rfl, iteN eb ⟨_, rfl, _, _, _, _, _, rfl, .ty _, tyX _ h1, kit_ty (kit_bool _), _, rfl, iteN eb ?_⟩⟩
        -- lists and tuples
        refine ⟨_, rfl, (by show 2 ≤ sizeLine; decide), fun p hp => ?_⟩
        have s2 : Same H (upd H p (.tup [.ty "list", .ty "tuple"])) := sNew (Same.refl _) hp
        have j1 := Rp.same s2 _ h1
        have j2 := Rp.same s2 _ h2
        refine ⟨_, _, _, _, _, _, rfl, upd_same, .cons (.ty _) (.cons (.ty _) .nil), tyX _ j2, kit_lt _, _, rfl, ?_⟩
        by_cases et : (isLst d || isTup d) = true
        · refine iteP et (iteP rfl ?_)
          refine ⟨_, rfl, _, _, _, _, _, rfl, .ty _, tyX _ j2, kit_ty (kit_list _), _, rfl, _, _, _, _, _, rfl, .ty _, tyX _ j1, kit_ty (kit_list _), rfl, _, rfl, iteNS rfl ?_⟩
          refine ⟨_, rfl, _, _, _, _, _, rfl, .ty _, tyX _ j2, kit_ty (kit_tuple _), _, rfl, _, _, _, _, _, rfl, .ty _, tyX _ j1, kit_ty (kit_tuple _), rfl, _, rfl, iteNS rfl ?_⟩
          cases d with
          | lst ds =>
            obtain ⟨a, xs, rfl, S1, l1, r1⟩ := id h1
            obtain ⟨b, ys, rfl, S2, l2, r2⟩ := id h2
            have T1 := s2.seq S1
            have T2 := s2.seq S2
            have el : xs.length = ys.length := by rw [r1.len, r2.len]
            refine ⟨_, rfl, _, _, rfl, .inl T1, _, rfl, _, _, rfl, .inl T2, rfl, _, rfl, iteP (decide_eq_true (by rw [el])) ?_⟩
            refine ⟨_, rfl, _, rfl, a, b, xs, ys, rfl, .inl ⟨T1, T2, fun Dd hD => ?_⟩⟩
            cases n with
            | zero => exact absurd hd (by show ¬ (depL ds + 1 ≤ 0); omega)
            | succ n =>
              have nz : ∀ H', Same H H' → H' Dd = none → True := fun _ _ _ => trivial
              refine lc_it (walk_zip (n := xs.length) (by rw [el, Nat.min_self])) (fun i H' => (∃ acc : List Bool, H' Dd = some (.lst (acc.map V.bl)) ∧ acc.length = i ∧ acc.all id = true) ∧ Same (upd H p (.tup [.ty "list", .ty "tuple"])) H' ∧ i ≤ xs.length)
                ⟨⟨[], upd_same, rfl, rfl⟩, sNew (Same.refl _) hD, Nat.zero_le _⟩ (fun i H' _ z => ⟨(z.2.1).seq T1, (z.2.1).seq T2⟩) ?_ ?_
              · rintro i x H3 H4 hi ⟨⟨acc, e1, e2, e3⟩, sm, _⟩ ⟨Tt, x1, x2, rfl, nT, rfl, g1, g2⟩
                obtain ⟨d1, q1, p1⟩ := r1.at_ g1
                obtain ⟨d2, q2, p2⟩ := r2.at_ g2
                have ed : d1 = d2 := Option.some.inj (q1.symm.trans q2)
                subst ed
                have sm4 : Same H (upd H3 Tt (.tup [x1, x2])) := (s2.trans sm).trans (sNew (Same.refl _) nT)
                refine ⟨Tt, [x1, x2], rfl, SqT.of upd_same, rfl, _, _, rfl, _, _, rfl, rfl, rfl, ?_⟩
                refine yes_if ?_
                refine ⟨_, rfl, _, rfl, x1, x2, d1, rfl, Rp.same sm4 _ p1, Rp.same sm4 _ p2, ?_, fun H5 s5 => ?_⟩
                · have := dep_mem q1
                  have hd' : depL ds + 1 ≤ n + 1 := hd
                  omega
                · have eD : H5 Dd = some (.lst (acc.map V.bl)) := s5 _ _ (by rw [upd_ne (ne_of_none e1 nT)]; exact e1)
                  refine ⟨_, eD, by rw [List.length_map]; exact Nat.lt_of_lt_of_le (show acc.length < 100001 by omega) (by decide), ⟨⟨acc ++ [true], ?_, by rw [List.length_append, e2]; rfl, by rw [List.all_append, e3]; rfl⟩, fun c o e => ?_, hi⟩⟩
                  · rw [upd_same, List.map_append]; rfl
                  · have nc : c ≠ Dd := fun z => by rw [z, hD] at e; cases e
                    rw [upd_ne nc]
                    exact s5 _ _ (by rw [upd_ne (ne_of_none (sm _ _ e) nT)]; exact sm _ _ e)
              · rintro H3 ⟨⟨acc, e1, e2, e3⟩, sm, _⟩
                exact ⟨Dd, acc, rfl, SqL.of e1, by rw [e3]; exact k _ (s2.trans sm)⟩
          | tup ds =>
            obtain ⟨a, xs, rfl, S1, l1, r1⟩ := id h1
            obtain ⟨b, ys, rfl, S2, l2, r2⟩ := id h2
            have T1 := sameT s2 S1
            have T2 := sameT s2 S2
            have el : xs.length = ys.length := by rw [r1.len, r2.len]
            refine ⟨_, rfl, _, _, rfl, .inr T1, _, rfl, _, _, rfl, .inr T2, rfl, _, rfl, iteP (decide_eq_true (by rw [el])) ?_⟩
            refine ⟨_, rfl, _, rfl, a, b, xs, ys, rfl, .inr ⟨T1, T2, fun Dd hD => ?_⟩⟩
            cases n with
            | zero => exact absurd hd (by show ¬ (depL ds + 1 ≤ 0); omega)
            | succ n =>
              have nz : ∀ H', Same H H' → H' Dd = none → True := fun _ _ _ => trivial
              refine lc_it (walk_zipT (n := xs.length) (by rw [el, Nat.min_self])) (fun i H' => (∃ acc : List Bool, H' Dd = some (.lst (acc.map V.bl)) ∧ acc.length = i ∧ acc.all id = true) ∧ Same (upd H p (.tup [.ty "list", .ty "tuple"])) H' ∧ i ≤ xs.length)
                ⟨⟨[], upd_same, rfl, rfl⟩, sNew (Same.refl _) hD, Nat.zero_le _⟩ (fun i H' _ z => ⟨sameT (z.2.1) T1, sameT (z.2.1) T2⟩) ?_ ?_
              · rintro i x H3 H4 hi ⟨⟨acc, e1, e2, e3⟩, sm, _⟩ ⟨Tt, x1, x2, rfl, nT, rfl, g1, g2⟩
                obtain ⟨d1, q1, p1⟩ := r1.at_ g1
                obtain ⟨d2, q2, p2⟩ := r2.at_ g2
                have ed : d1 = d2 := Option.some.inj (q1.symm.trans q2)
                subst ed
                have sm4 : Same H (upd H3 Tt (.tup [x1, x2])) := (s2.trans sm).trans (sNew (Same.refl _) nT)
                refine ⟨Tt, [x1, x2], rfl, SqT.of upd_same, rfl, _, _, rfl, _, _, rfl, rfl, rfl, ?_⟩
                refine yes_if ?_
                refine ⟨_, rfl, _, rfl, x1, x2, d1, rfl, Rp.same sm4 _ p1, Rp.same sm4 _ p2, ?_, fun H5 s5 => ?_⟩
                · have := dep_mem q1
                  have hd' : depL ds + 1 ≤ n + 1 := hd
                  omega
                · have eD : H5 Dd = some (.lst (acc.map V.bl)) := s5 _ _ (by rw [upd_ne (ne_of_none e1 nT)]; exact e1)
                  refine ⟨_, eD, by rw [List.length_map]; exact Nat.lt_of_lt_of_le (show acc.length < 100001 by omega) (by decide), ⟨⟨acc ++ [true], ?_, by rw [List.length_append, e2]; rfl, by rw [List.all_append, e3]; rfl⟩, fun c o e => ?_, hi⟩⟩
                  · rw [upd_same, List.map_append]; rfl
                  · have nc : c ≠ Dd := fun z => by rw [z, hD] at e; cases e
                    rw [upd_ne nc]
                    exact s5 _ _ (by rw [upd_ne (ne_of_none (sm _ _ e) nT)]; exact sm _ _ e)
              · rintro H3 ⟨⟨acc, e1, e2, e3⟩, sm, _⟩
                exact ⟨Dd, acc, rfl, SqL.of e1, by rw [e3]; exact k _ (s2.trans sm)⟩
          | non => cases et
          | bl _ => cases et
          | int _ => cases et
          | str _ => cases et
        · refine iteN et ?_
          refine ⟨_, rfl, (by show 2 ≤ sizeLine; decide), fun q hq => ?_⟩
          have s3 := sNew (o := .tup [.ty "list", .ty "tuple"]) s2 hq
          have i1 := Rp.same s3 _ h1
          have i2 := Rp.same s3 _ h2
          refine ⟨_, _, _, _, _, _, rfl, upd_same, .cons (.ty _) (.cons (.ty _) .nil), tyX _ i1, kit_lt _, _, rfl, iteN et ?_⟩
          refine ⟨_, rfl, _, _, _, _, _, rfl, .ty _, tyX _ i2, kit_ty (kit_int _), _, rfl, _, _, _, _, _, rfl, .ty _, tyX _ i1, kit_ty (kit_int _), rfl, _, rfl, iteNS rfl ?_⟩
          refine ⟨_, rfl, _, _, _, _, _, rfl, .ty _, tyX _ i2, kit_ty (kit_str _), _, rfl, _, _, _, _, _, rfl, .ty _, tyX _ i1, kit_ty (kit_str _), rfl, _, rfl, iteNS rfl ?_⟩
          cases d with
          | int z =>
            obtain rfl : v = .int z := h1
            obtain rfl : u = .int z := h2
            exact ⟨_, rfl, _, rfl, rfl, eqT (k _ s3)⟩
          | str z =>
            obtain rfl : v = .str z := h1
            obtain rfl : u = .str z := h2
            exact ⟨_, rfl, _, rfl, rfl, eqT (k _ s3)⟩
          | non => exact absurd rfl en
          | bl _ => exact absurd rfl eb
          | lst _ => exact absurd rfl et
          | tup _ => exact absurd rfl et
theorem ok_same {f : Addr} {fd : FuncData} (F : Fun K "_law_same" "_law_same" s_law_same f fd) (T : TSm mg) (hb : Binds K fd ["_law_found", "_law_due"] []) (hm : mg "_law_same" = some (.ref f)) : ∀ n : Nat, FnOk P w K mg base CX0 (n + 1) f fd ["_law_found", "_law_due"] (spSame K n)
  | 0 => ok_same1 (k := 0) F T ⟨_, _, fn_false, hb, hm, F.kp⟩
  | n + 1 => ok_same1 (k := n + 1) F T ⟨_, _, ok_same F T hb hm n, hb, hm, F.kp⟩
end
end RF

namespace RF
theorem ring1 (x s : Int) : (x + s) * (x + s) = (x - s) * (x - s) + 4 * (x * s) := by grind
theorem amgm (x q y n : Int) (hx : 0 < x) (hq : 0 ≤ q) (hn : n < x * (q + 1)) (hy : x + q ≤ 2 * y + 1) : n < (y + 1) * (y + 1) := by
  have h1 := ring1 x (q + 1)
  have h0 : 0 ≤ (x - (q + 1)) * (x - (q + 1)) := by
    rcases Int.le_total 0 (x - (q + 1)) with h | h
    · exact Int.mul_nonneg h h
    · exact Int.mul_nonneg_of_nonpos_of_nonpos h h
  have h2 : (x + (q + 1)) * (x + (q + 1)) ≤ (2 * (y + 1)) * (2 * (y + 1)) := Int.mul_le_mul (by omega) (by omega) (by omega) (by omega)
  have h3 : (2 * (y + 1)) * (2 * (y + 1)) = 4 * ((y + 1) * (y + 1)) := by grind
  omega
end RF

namespace RF
theorem sq_nonneg (a : Int) : 0 ≤ a * a := by
  rcases Int.le_total 0 a with h | h
  · exact Int.mul_nonneg h h
  · exact Int.mul_nonneg_of_nonpos_of_nonpos h h
theorem sq_le {a b : Int} (ha : 0 ≤ a) (h : a ≤ b) : a * a ≤ b * b := Int.mul_le_mul h h ha (by omega)
theorem sq_lt {a b : Int} (ha : 0 ≤ a) (h : a < b) : a * a < b * b := by
  have h1 : a * a ≤ a * b := Int.mul_le_mul_of_nonneg_left (by omega) ha
  have h2 : a * b < b * b := Int.mul_lt_mul_of_pos_right h (by omega)
  omega
theorem le_of_sq {a b : Int} (hb : 0 ≤ b) (h : a * a ≤ b * b) : a ≤ b := by
  rcases Int.lt_or_le b a with z | z
  · have := sq_lt hb z
    omega
  · exact z
theorem lt_of_sq {a b : Int} (hb : 0 ≤ b) (h : a * a < b * b) : a < b := by
  rcases Int.lt_or_le a b with z | z
  · exact z
  · have := sq_le hb z
    omega
/-! ### square roots of integers -/
def rt (n : Int) : Int := ((PySem.Float64.isqrt n.toNat : Nat) : Int)
theorem rt_nn (n : Int) : 0 ≤ rt n := Int.natCast_nonneg _
theorem rt_le {n : Int} (h : 0 ≤ n) : rt n * rt n ≤ n := by
  have := (PySem.Float64.isqrt_spec n.toNat).1
  have e : ((PySem.Float64.isqrt n.toNat * PySem.Float64.isqrt n.toNat : Nat) : Int) ≤ ((n.toNat : Nat) : Int) := Int.ofNat_le.mpr this
  rw [Int.natCast_mul] at e
  unfold rt
  omega
theorem rt_lt {n : Int} (h : 0 ≤ n) : n < (rt n + 1) * (rt n + 1) := by
  have := (PySem.Float64.isqrt_spec n.toNat).2
  have e : ((n.toNat : Nat) : Int) < (((PySem.Float64.isqrt n.toNat + 1) * (PySem.Float64.isqrt n.toNat + 1) : Nat) : Int) := Int.ofNat_lt.mpr this
  rw [Int.natCast_mul, Int.natCast_add] at e
  unfold rt
  have e2 : ((n.toNat : Nat) : Int) = n := by omega
  rw [e2] at e
  exact e
theorem rt_uniq {n r : Int} (h : 0 ≤ n) (r0 : 0 ≤ r) (r1 : r * r ≤ n) (r2 : n < (r + 1) * (r + 1)) : r = rt n := by
  have a := rt_le h
  have b := rt_lt h
  have c := rt_nn n
  have h1 : r < rt n + 1 := lt_of_sq (by omega) (by omega)
  have h2 : rt n < r + 1 := lt_of_sq (by omega) (by omega)
  omega
/-! ### the roots -/
def Root (d : Int) : Prop := d = 2 ∨ d = 3 ∨ d = 5 ∨ d = 6 ∨ d = 13
theorem Root.pos {d : Int} (h : Root d) : 0 < d := by unfold Root at h; omega
theorem Root.le {d : Int} (h : Root d) : d ≤ 13 := by unfold Root at h; omega
theorem ex_mul (i : Int) {p : Int} (h : i % p = 0) : ∃ t, i = p * t := ⟨i / p, by
  have := Int.mul_ediv_add_emod i p
  rw [h] at this
  omega⟩
theorem dvd2 {i c : Int} (h : i * i = 2 * c) : ∃ t, i = 2 * t := ex_mul i (by
  have e : (i * i) % 2 = 0 := by omega
  rw [Int.mul_emod] at e
  have : i % 2 = 0 ∨ i % 2 = 1 := by omega
  rcases this with z | z
  · exact z
  · rw [z] at e; simp at e)
theorem dvd3 {i c : Int} (h : i * i = 3 * c) : ∃ t, i = 3 * t := ex_mul i (by
  have e : (i * i) % 3 = 0 := by omega
  rw [Int.mul_emod] at e
  have : i % 3 = 0 ∨ i % 3 = 1 ∨ i % 3 = 2 := by omega
  rcases this with z | z | z
  · exact z
  · rw [z] at e; simp at e
  · rw [z] at e; simp at e)
theorem dvd5 {i c : Int} (h : i * i = 5 * c) : ∃ t, i = 5 * t := ex_mul i (by
  have e : (i * i) % 5 = 0 := by omega
  rw [Int.mul_emod] at e
  have : i % 5 = 0 ∨ i % 5 = 1 ∨ i % 5 = 2 ∨ i % 5 = 3 ∨ i % 5 = 4 := by omega
  rcases this with z | z | z | z | z
  · exact z
  all_goals (rw [z] at e; simp at e))
theorem dvd13 {i c : Int} (h : i * i = 13 * c) : ∃ t, i = 13 * t := ex_mul i (by
  have e : (i * i) % 13 = 0 := by omega
  rw [Int.mul_emod] at e
  have : i % 13 = 0 ∨ i % 13 = 1 ∨ i % 13 = 2 ∨ i % 13 = 3 ∨ i % 13 = 4 ∨ i % 13 = 5 ∨ i % 13 = 6 ∨ i % 13 = 7 ∨ i % 13 = 8 ∨ i % 13 = 9 ∨ i % 13 = 10 ∨ i % 13 = 11 ∨ i % 13 = 12 := by omega
  rcases this with z | z | z | z | z | z | z | z | z | z | z | z | z
  · exact z
  all_goals (rw [z] at e; simp at e))
/-- one step down -/
theorem down {d i j : Int} (hd : Root d) (h : i * i = d * (j * j)) : ∃ p i' j' : Int, 2 ≤ p ∧ j = p * j' ∧ i' * i' = d * (j' * j') := by
  rcases hd with rfl | rfl | rfl | rfl | rfl
  · obtain ⟨t, rfl⟩ := dvd2 h
    obtain ⟨u, rfl⟩ := dvd2 (i := j) (c := t * t) (by grind)
    exact ⟨2, t, u, by omega, rfl, by grind⟩
  · obtain ⟨t, rfl⟩ := dvd3 h
    obtain ⟨u, rfl⟩ := dvd3 (i := j) (c := t * t) (by grind)
    exact ⟨3, t, u, by omega, rfl, by grind⟩
  · obtain ⟨t, rfl⟩ := dvd5 h
    obtain ⟨u, rfl⟩ := dvd5 (i := j) (c := t * t) (by grind)
    exact ⟨5, t, u, by omega, rfl, by grind⟩
  · obtain ⟨t, rfl⟩ := dvd3 (i := i) (c := 2 * (j * j)) (by grind)
    obtain ⟨u, rfl⟩ := dvd3 (i := j) (c := 2 * (t * t) - (j * j)) (by grind)
    exact ⟨3, t, u, by omega, rfl, by grind⟩
  · obtain ⟨t, rfl⟩ := dvd13 h
    obtain ⟨u, rfl⟩ := dvd13 (i := j) (c := t * t) (by grind)
    exact ⟨13, t, u, by omega, rfl, by grind⟩
theorem nonsq {d : Int} (hd : Root d) : ∀ (n : Nat) (i j : Int), j.natAbs ≤ n → i * i = d * (j * j) → j = 0
  | 0, i, j, hn, _ => by omega
  | n + 1, i, j, hn, h => by
    obtain ⟨p, i', j', hp, e, h'⟩ := down hd h
    rcases Int.lt_trichotomy j' 0 with z | z | z
    · have : j'.natAbs ≤ n := by
        have h1 : p * j' ≤ 2 * j' := by
          have := Int.mul_le_mul_of_nonpos_right hp (by omega : j' ≤ 0)
          omega
        omega
      have := nonsq hd n i' j' this h'
      omega
    · rw [e, z]; simp
    · have : j'.natAbs ≤ n := by
        have h1 : 2 * j' ≤ p * j' := Int.mul_le_mul_of_nonneg_right hp (by omega)
        omega
      have := nonsq hd n i' j' this h'
      omega
theorem irr {d i j : Int} (hd : Root d) (h : i * i = d * (j * j)) : j = 0 := nonsq hd j.natAbs i j (Nat.le_refl _) h
end RF

namespace RF
/-- the size of an integer, as abs gives it -/
def ab (i : Int) : Int := if i < 0 then -i else i
theorem ab_nn (i : Int) : 0 ≤ ab i := by unfold ab; split <;> omega
theorem ab_pos {i : Int} (h : 0 ≤ i) : ab i = i := by unfold ab; rw [if_neg (by omega)]
theorem ab_neg {i : Int} (h : i ≤ 0) : ab i = -i := by
  unfold ab
  split <;> omega
/-- i|i| + d j|j|: it has the sign of i + j r -/
def sgb (d i j : Int) : Int := i * ab i + d * j * ab j
def sg (d i j : Int) : Int := if 0 < sgb d i j then 1 else if sgb d i j < 0 then -1 else 0
/-- the floor of f times the root -/
def flr (d f : Int) : Int := if f < 0 then -rt (d * f * f) - 1 else rt (d * f * f)
theorem dff (d f : Int) : d * f * f = d * (f * f) := Int.mul_assoc d f f
theorem dff_nn {d f : Int} (hd : Root d) : 0 ≤ d * f * f := by
  rw [dff]
  exact Int.mul_nonneg (Int.le_of_lt hd.pos) (sq_nonneg f)
theorem keyL {d x y : Int} (hd : Root d) : 0 ≤ sgb d x y ↔ 0 ≤ x + flr d y := by
  have r0 := rt_nn (d * y * y)
  have r1 := rt_le (dff_nn hd (f := y))
  have r2 := rt_lt (dff_nn hd (f := y))
  have dn := dff_nn hd (f := y)
  generalize hr : rt (d * y * y) = r at *
  rcases Int.lt_or_le y 0 with hy | hy
  · have ef : flr d y = -r - 1 := by unfold flr; rw [if_pos hy, hr]
    have eb : sgb d x y = x * ab x - d * y * y := by unfold sgb; rw [ab_neg (Int.le_of_lt hy)]; grind
    rw [ef, eb]
    have ne : r * r ≠ d * y * y := fun e => by
      have := irr hd (i := r) (j := y) (by rw [e, dff])
      omega
    have lt : r * r < d * y * y := by omega
    have dp : 0 < d * y * y := by
      have := sq_nonneg r
      omega
    rcases Int.lt_or_le x 0 with hx | hx
    · rw [ab_neg (Int.le_of_lt hx)]
      have := sq_nonneg x
      have e : x * -x = -(x * x) := by grind
      omega
    · rw [ab_pos hx]
      constructor
      · intro h
        have : r < x := lt_of_sq hx (by omega)
        omega
      · intro h
        have : (r + 1) * (r + 1) ≤ x * x := sq_le (by omega) (by omega)
        omega
  · have ef : flr d y = r := by unfold flr; rw [if_neg (by omega), hr]
    have eb : sgb d x y = x * ab x + d * y * y := by unfold sgb; rw [ab_pos hy]
    rw [ef, eb]
    rcases Int.lt_or_le x 0 with hx | hx
    · rw [ab_neg (Int.le_of_lt hx)]
      have e : x * -x = -((-x) * (-x)) := by grind
      constructor
      · intro h
        have : -x < r + 1 := lt_of_sq (by omega) (by omega)
        omega
      · intro h
        have : (-x) * (-x) ≤ r * r := sq_le (by omega) (by omega)
        omega
    · rw [ab_pos hx]
      have := sq_nonneg x
      omega
theorem ab_mul {g i : Int} (hg : 0 ≤ g) : ab (g * i) = g * ab i := by
  rcases Int.lt_or_le i 0 with h | h
  · have : g * i ≤ 0 := Int.mul_nonpos_of_nonneg_of_nonpos hg (by omega)
    rw [ab_neg this, ab_neg (by omega)]
    grind
  · rw [ab_pos (Int.mul_nonneg hg h), ab_pos h]
theorem sgb_mul {d g i j : Int} (hg : 0 ≤ g) : sgb d (g * i) (g * j) = g * g * sgb d i j := by
  unfold sgb
  rw [ab_mul hg, ab_mul hg]
  grind
theorem sgb_neg {d i j : Int} : sgb d (-i) (-j) = -sgb d i j := by
  have h : ∀ i, ab (-i) = ab i := fun i => by unfold ab; split <;> split <;> omega
  unfold sgb
  rw [h, h]
  grind
theorem sg_mul {d g i j : Int} (hg : 0 < g) : sg d (g * i) (g * j) = sg d i j := by
  have hp : 0 < g * g := Int.mul_pos hg hg
  have e := sgb_mul (d := d) (i := i) (j := j) (Int.le_of_lt hg)
  unfold sg
  rw [e]
  rcases Int.lt_trichotomy (sgb d i j) 0 with h | h | h
  · have : g * g * sgb d i j < 0 := Int.mul_neg_of_pos_of_neg hp h
    rw [if_neg (by omega), if_pos this, if_neg (by omega), if_pos h]
  · rw [h]; simp
  · have : 0 < g * g * sgb d i j := Int.mul_pos hp h
    rw [if_pos this, if_pos h]
theorem sg_neg {d i j : Int} : sg d (-i) (-j) = -sg d i j := by
  have e := sgb_neg (d := d) (i := i) (j := j)
  unfold sg
  rw [e]
  rcases Int.lt_trichotomy (sgb d i j) 0 with h | h | h
  · rw [if_pos (by omega), if_neg (by omega), if_pos h]; rfl
  · rw [h]; rfl
  · rw [if_neg (by omega), if_pos (by omega), if_pos h]
/-- the law's own sign -/
theorem sg_pp {d i j : Int} (hd : Root d) (hi : 0 ≤ i) (hj : 0 ≤ j) : sg d i j = if 0 < i ∨ 0 < j then 1 else 0 := by
  have hp := hd.pos
  have e : sgb d i j = i * i + d * (j * j) := by unfold sgb; rw [ab_pos hi, ab_pos hj]; grind
  have a := sq_nonneg i
  have b := sq_nonneg j
  have b' : 0 ≤ d * (j * j) := Int.mul_nonneg (by omega) b
  unfold sg
  rw [e]
  by_cases h : 0 < i ∨ 0 < j
  · rw [if_pos h, if_pos]
    rcases h with h | h
    · have : 0 < i * i := Int.mul_pos h h
      omega
    · have : 0 < d * (j * j) := Int.mul_pos hp (Int.mul_pos h h)
      omega
  · have hi0 : i = 0 := by omega
    have hj0 : j = 0 := by omega
    rw [if_neg h, hi0, hj0]
    simp
theorem sg_nn {d i j : Int} (hd : Root d) (hi : i ≤ 0) (hj : j ≤ 0) (h : ¬ (0 ≤ i ∧ 0 ≤ j)) : sg d i j = -1 := by
  have e : sg d i j = -sg d (-i) (-j) := by rw [sg_neg]; omega
  rw [e, sg_pp hd (by omega) (by omega), if_pos (by omega)]
theorem sg_pn {d i j : Int} (hd : Root d) (hi : 0 < i) (hj : j < 0) : sg d i j = if j * j * d < i * i then 1 else -1 := by
  have e : sgb d i j = i * i - j * j * d := by unfold sgb; rw [ab_pos (by omega), ab_neg (by omega)]; grind
  have ne : i * i ≠ j * j * d := fun q => by
    have := irr hd (i := i) (j := j) (by rw [q]; grind)
    omega
  unfold sg
  rw [e]
  split <;> split <;> first | rfl | omega | skip
theorem sg_np {d i j : Int} (hd : Root d) (hi : i < 0) (hj : 0 < j) : sg d i j = if i * i < j * j * d then 1 else -1 := by
  have e : sgb d i j = j * j * d - i * i := by unfold sgb; rw [ab_pos (i := j) (by omega), ab_neg (i := i) (by omega)]; grind
  have ne : i * i ≠ j * j * d := fun q => by
    have := irr hd (i := i) (j := j) (by rw [q]; grind)
    omega
  unfold sg
  rw [e]
  split <;> split <;> first | rfl | omega | skip
theorem sg_nonneg {d i j : Int} (hd : Root d) : 0 ≤ sg d i j ↔ 0 ≤ i + flr d j := by
  rw [← keyL hd]
  unfold sg
  split
  · omega
  · split <;> omega
theorem flr_ring {d f : Int} : rt (f * f * d) = rt (d * f * f) := by rw [show f * f * d = d * f * f by grind]
end RF

namespace RF
/-! ### lowest terms -/
def gc (i j k : Int) : Int := ((Nat.gcd (Nat.gcd i.natAbs j.natAbs) k.natAbs : Nat) : Int)
def gs (i j k : Int) : Int := if k < 0 then -gc i j k else gc i j k
theorem gc_i (i j k : Int) : gc i j k ∣ i := Int.natAbs_dvd_natAbs.mp (by
  unfold gc
  rw [Int.natAbs_natCast]
  exact Nat.dvd_trans (Nat.gcd_dvd_left _ _) (Nat.gcd_dvd_left _ _))
theorem gc_j (i j k : Int) : gc i j k ∣ j := Int.natAbs_dvd_natAbs.mp (by
  unfold gc
  rw [Int.natAbs_natCast]
  exact Nat.dvd_trans (Nat.gcd_dvd_left _ _) (Nat.gcd_dvd_right _ _))
theorem gc_k (i j k : Int) : gc i j k ∣ k := Int.natAbs_dvd_natAbs.mp (by
  unfold gc
  rw [Int.natAbs_natCast]
  exact Nat.gcd_dvd_right _ _)
theorem gc_pos {i j k : Int} (h : k ≠ 0) : 0 < gc i j k := by
  have : 0 < Nat.gcd (Nat.gcd i.natAbs j.natAbs) k.natAbs := Nat.gcd_pos_of_pos_right _ (by omega)
  unfold gc
  omega
theorem gc_le {i j k : Int} (h : k ≠ 0) : gc i j k ≤ ab k := by
  have : Nat.gcd (Nat.gcd i.natAbs j.natAbs) k.natAbs ≤ k.natAbs := Nat.gcd_le_right _ (by omega)
  unfold gc ab
  split <;> omega
theorem gs_ne {i j k : Int} (h : k ≠ 0) : gs i j k ≠ 0 := by
  have := gc_pos (i := i) (j := j) h
  unfold gs
  split <;> omega
theorem gs_natAbs {i j k : Int} (h : k ≠ 0) : (gs i j k).natAbs ≤ k.natAbs := by
  have := gc_pos (i := i) (j := j) h
  have := gc_le (i := i) (j := j) h
  unfold gs
  unfold ab at this
  split <;> split at this <;> omega
def pI (i j k : Int) : Int := i.fdiv (gs i j k)
def pJ (i j k : Int) : Int := j.fdiv (gs i j k)
def pK (i j k : Int) : Int := k.fdiv (gs i j k)
theorem gs_dvd {i j k x : Int} (h : gc i j k ∣ x) : gs i j k ∣ x := by
  unfold gs
  split
  · exact Int.neg_dvd.mpr h
  · exact h
theorem fdiv_of {g x : Int} (hg : g ≠ 0) (h : g ∣ x) : x = g * x.fdiv g := by
  obtain ⟨t, rfl⟩ := h
  rw [Int.mul_fdiv_cancel_left t hg]
theorem pI_eq {i j k : Int} (h : k ≠ 0) : i = gs i j k * pI i j k := fdiv_of (gs_ne h) (gs_dvd (gc_i i j k))
theorem pJ_eq {i j k : Int} (h : k ≠ 0) : j = gs i j k * pJ i j k := fdiv_of (gs_ne h) (gs_dvd (gc_j i j k))
theorem pK_eq {i j k : Int} (h : k ≠ 0) : k = gs i j k * pK i j k := fdiv_of (gs_ne h) (gs_dvd (gc_k i j k))
theorem pK_pos {i j k : Int} (h : k ≠ 0) : 0 < pK i j k := by
  have e := pK_eq (i := i) (j := j) h
  have g0 := gc_pos (i := i) (j := j) h
  generalize pK i j k = t at *
  unfold gs at e
  split at e
  · rcases Int.lt_or_le 0 t with z | z
    · exact z
    · have : 0 ≤ -gc i j k * t := Int.mul_nonneg_of_nonpos_of_nonpos (by omega) z
      omega
  · rcases Int.lt_or_le 0 t with z | z
    · exact z
    · have : gc i j k * t ≤ 0 := Int.mul_nonpos_of_nonneg_of_nonpos (by omega) z
      omega
theorem nat_le_mul {g t : Int} (hg : g ≠ 0) : t.natAbs ≤ (g * t).natAbs := by
  rw [Int.natAbs_mul]
  exact Nat.le_mul_of_pos_left _ (by omega)
theorem pI_le {i j k : Int} (h : k ≠ 0) : (pI i j k).natAbs ≤ i.natAbs := by
  have e := pI_eq (i := i) (j := j) h
  have := nat_le_mul (g := gs i j k) (t := pI i j k) (gs_ne h)
  rw [← e] at this
  exact this
theorem pJ_le {i j k : Int} (h : k ≠ 0) : (pJ i j k).natAbs ≤ j.natAbs := by
  have e := pJ_eq (i := i) (j := j) h
  have := nat_le_mul (g := gs i j k) (t := pJ i j k) (gs_ne h)
  rw [← e] at this
  exact this
theorem pK_le {i j k : Int} (h : k ≠ 0) : (pK i j k).natAbs ≤ k.natAbs := by
  have e := pK_eq (i := i) (j := j) h
  have := nat_le_mul (g := gs i j k) (t := pK i j k) (gs_ne h)
  rw [← e] at this
  exact this
theorem gc_one {i j k : Int} (h : k ≠ 0) : gc (pI i j k) (pJ i j k) (pK i j k) = 1 := by
  have e1 : i.natAbs = (gs i j k).natAbs * (pI i j k).natAbs := by rw [← Int.natAbs_mul, ← pI_eq h]
  have e2 : j.natAbs = (gs i j k).natAbs * (pJ i j k).natAbs := by rw [← Int.natAbs_mul, ← pJ_eq h]
  have e3 : k.natAbs = (gs i j k).natAbs * (pK i j k).natAbs := by rw [← Int.natAbs_mul, ← pK_eq h]
  have eg : (gs i j k).natAbs = Nat.gcd (Nat.gcd i.natAbs j.natAbs) k.natAbs := by
    unfold gs gc
    split <;> omega
  have key : Nat.gcd (Nat.gcd i.natAbs j.natAbs) k.natAbs = (gs i j k).natAbs * Nat.gcd (Nat.gcd (pI i j k).natAbs (pJ i j k).natAbs) (pK i j k).natAbs := by
    conv => lhs; rw [e1, e2, e3]
    rw [Nat.gcd_mul_left, Nat.gcd_mul_left]
  rw [← eg] at key
  have gp : 0 < (gs i j k).natAbs := by have := gs_ne (i := i) (j := j) h; omega
  have : Nat.gcd (Nat.gcd (pI i j k).natAbs (pJ i j k).natAbs) (pK i j k).natAbs = 1 := by
    have q : (gs i j k).natAbs * 1 = (gs i j k).natAbs * Nat.gcd (Nat.gcd (pI i j k).natAbs (pJ i j k).natAbs) (pK i j k).natAbs := by omega
    exact (Nat.eq_of_mul_eq_mul_left gp q).symm
  unfold gc
  rw [this]
  rfl
theorem dvd_low {a b c a' b' c' : Int} (hg : gc a b c = 1) (h1 : a * c' = a' * c) (h2 : b * c' = b' * c) : c ∣ c' := by
  apply Int.natAbs_dvd_natAbs.mp
  have d1 : c.natAbs ∣ a.natAbs * c'.natAbs := by rw [← Int.natAbs_mul, h1, Int.natAbs_mul]; exact Nat.dvd_mul_left _ _
  have d2 : c.natAbs ∣ b.natAbs * c'.natAbs := by rw [← Int.natAbs_mul, h2, Int.natAbs_mul]; exact Nat.dvd_mul_left _ _
  have d3 : c.natAbs ∣ c.natAbs * c'.natAbs := Nat.dvd_mul_right _ _
  have d : c.natAbs ∣ Nat.gcd (Nat.gcd (a.natAbs * c'.natAbs) (b.natAbs * c'.natAbs)) (c.natAbs * c'.natAbs) := Nat.dvd_gcd (Nat.dvd_gcd d1 d2) d3
  rw [Nat.gcd_mul_right, Nat.gcd_mul_right] at d
  have : Nat.gcd (Nat.gcd a.natAbs b.natAbs) c.natAbs = 1 := by unfold gc at hg; omega
  rw [this, Nat.one_mul] at d
  exact d
theorem low_uniq {a b c a' b' c' : Int} (hc : 0 < c) (hc' : 0 < c') (hg : gc a b c = 1) (hg' : gc a' b' c' = 1) (h1 : a * c' = a' * c) (h2 : b * c' = b' * c) : a = a' ∧ b = b' ∧ c = c' := by
  have e : c = c' := Int.dvd_antisymm (by omega) (by omega) (dvd_low hg h1 h2) (dvd_low hg' h1.symm h2.symm)
  subst e
  exact ⟨Int.eq_of_mul_eq_mul_right (by omega) h1, Int.eq_of_mul_eq_mul_right (by omega) h2, rfl⟩
/-- equal numbers have equal parts -/
theorem parts_eq {i j k i' j' k' : Int} (h : k ≠ 0) (h' : k' ≠ 0) (h1 : i * k' = i' * k) (h2 : j * k' = j' * k) : pI i j k = pI i' j' k' ∧ pJ i j k = pJ i' j' k' ∧ pK i j k = pK i' j' k' := by
  have g := gs_ne (i := i) (j := j) h
  have g' := gs_ne (i := i') (j := j') h'
  have a1 := pI_eq (i := i) (j := j) h
  have a2 := pJ_eq (i := i) (j := j) h
  have a3 := pK_eq (i := i) (j := j) h
  have b1 := pI_eq (i := i') (j := j') h'
  have b2 := pJ_eq (i := i') (j := j') h'
  have b3 := pK_eq (i := i') (j := j') h'
  refine low_uniq (pK_pos h) (pK_pos h') (gc_one h) (gc_one h') ?_ ?_
  · have : gs i j k * gs i' j' k' ≠ 0 := Int.mul_ne_zero g g'
    apply Int.eq_of_mul_eq_mul_left this
    generalize gs i j k = s at *
    generalize gs i' j' k' = s' at *
    generalize pI i j k = x at *
    generalize pI i' j' k' = x' at *
    generalize pK i j k = z at *
    generalize pK i' j' k' = z' at *
    rw [a1, b1, a3, b3] at h1
    grind
  · have : gs i j k * gs i' j' k' ≠ 0 := Int.mul_ne_zero g g'
    apply Int.eq_of_mul_eq_mul_left this
    generalize gs i j k = s at *
    generalize gs i' j' k' = s' at *
    generalize pJ i j k = x at *
    generalize pJ i' j' k' = x' at *
    generalize pK i j k = z at *
    generalize pK i' j' k' = z' at *
    rw [a2, b2, a3, b3] at h2
    grind
/-- the sign of a number does not hang on how it is told -/
theorem sg_parts {d i j k : Int} (h : 0 < k) : sg d (pI i j k) (pJ i j k) = sg d i j := by
  have g := gs_ne (i := i) (j := j) (k := k) (by omega)
  have gp : 0 < gs i j k := by
    have := gc_pos (i := i) (j := j) (k := k) (by omega)
    unfold gs
    rw [if_neg (by omega)]
    exact this
  have e := sg_mul (d := d) (i := pI i j k) (j := pJ i j k) gp
  rw [← pI_eq (by omega), ← pJ_eq (by omega)] at e
  exact e.symm
end RF

namespace RF
open PySem L2
/-! ### built-in functions of math -/
theorem args_gcd3 (a b c : Value) : argsOk "math.gcd" ⟨[a, b, c], []⟩ := by
  unfold argsOk
  kernel_rfl
theorem run_gcd3 (a : Int) (t : Tok) (b : Int) (u : Tok) (c : Int) (v : Tok) :
    Gives (Builtin.«math.gcd» ⟨[.int a t, .int b u, .int c v], []⟩) (.int (((((Nat.gcd 0 a.natAbs).gcd b.natAbs).gcd c.natAbs : Nat) : Int))) :=
  .of_wp fun M A E s Q h => by
    obtain ⟨hp, g, d, tk, os⟩ := s
    wp_walk
    exact ⟨_, rfl, h⟩

section
variable {X : Cx}
theorem vals3 {x y z : V} {us : List Value} (r : Vals [x, y, z] us) : ∃ u v w, us = [u, v, w] ∧ RelV x u ∧ RelV y v ∧ RelV z w := by
  cases r with
  | cons a r => cases r with
    | cons b r => cases r with
      | cons c r => cases r; exact ⟨_, _, _, rfl, a, b, c⟩
def rGcd3 : List V → Hp → VK → Prop := fun vs H Q => ∃ a b c : Int, vs = [.int a, .int b, .int c] ∧ Q (.int ((Nat.gcd (Nat.gcd a.natAbs b.natAbs) c.natAbs : Nat) : Int)) H
theorem cr_gcd3 : CallR X (.builtin "math.gcd") rGcd3 := by
  intro pins s σ H vs us Q I r h
  obtain ⟨a, b, c, rfl, q⟩ := h
  obtain ⟨u1, u2, u3, rfl, ⟨t1, rfl⟩, ⟨t2, rfl⟩, ⟨t3, rfl⟩⟩ := vals3 r
  have g := run_gcd3 a t1 b t2 c t3
  rw [Nat.gcd_zero_left] at g
  exact call_function_meets PySem.W.MGF.kind_gcd PySem.W.MGF.plain_gcd PySem.W.MGF.entry_gcd (args_gcd3 _ _ _) g.meets (show EP X pins σ Q _ _ from ⟨.int _, H, I.tok _, ⟨_, rfl⟩, q⟩)
def rIsqrt : List V → Hp → VK → Prop := fun vs H Q => ∃ a : Int, vs = [.int a] ∧ 0 ≤ a ∧ a.toNat.log2 < 13000 ∧ Q (.int ((Float64.isqrt a.toNat : Nat) : Int)) H
theorem cr_isqrt : CallR X (.builtin "math.isqrt") rIsqrt := by
  intro pins s σ H vs us Q I r h
  obtain ⟨a, rfl, h0, h1, q⟩ := h
  obtain ⟨u, rfl, t, rfl⟩ := vals1 r
  exact call_function_meets PySem.W.MGF.kind_isqrt PySem.W.MGF.plain_isqrt PySem.W.MGF.entry_isqrt (PySem.W.MGF.args_isqrt _) (PySem.W.mg_run_isqrt a t (by omega) (by omega) (by omega)).meets
    (show EP X pins σ Q _ _ from ⟨.int _, H, I.tok _, ⟨_, rfl⟩, q⟩)

/-! ### operators of an own class -/
/-- C has the operator as the def at f -/
structure OwnOp (K : PySem.W.Frag) (C f : Addr) (m : Str) : Prop where
  first : PySem.W.selfFirst K C = true
  at_ : PySem.W.findIn K (.ref C) m = some (some (.ref f))
  fn : PySem.W.isFn K (.ref f) = true
def rOwn2 (C : Addr) (sp : Sp) (E : XK) : R2 := fun x y H Q => ∃ a b dx dy fs gs, x = .ref a ∧ y = .ref b ∧ H a = some (.ins C dx fs) ∧ H b = some (.ins C dy gs) ∧ sp [.ref a, .ref b] H Q E
theorem notImpl {v : V} {u : Value} {P : Value → Shared → Prop} {s : Shared} (r : RelV v u) (h : P u s) : PySem.W.CmpBack P u s := by
  cases v with
  | non => cases r; exact h
  | bl _ => cases r; exact h
  | int _ => obtain ⟨t, rfl⟩ := r; exact h
  | str _ => obtain ⟨t, rfl⟩ := r; exact h
  | byt _ => obtain ⟨t, rfl⟩ := r; exact h
  | flt _ => obtain ⟨t, rfl⟩ := r; exact h
  | ref _ => cases r; exact h
  | ty _ => cases r; exact h
theorem op_own {CX : CXT} {op : Operator} {n : Nat} {C f : Addr} {sp : Sp} {E : XK} (F : FnR X.prog X.w X.K X.mg X.base CX n f sp) (hr : Room n X.A) (O : OwnOp X.K C f (PySem.dunder op.info.2)) (hx : Passes CX X E) : OpR X (binaryOp op) (rOwn2 C sp E) := by
  intro pins s σ H x y v u Q I rx ry h
  obtain ⟨a, b, dx, dy, fs, gs, rfl, rfl, ha, hb, q⟩ := h
  cases rx
  cases ry
  obtain ⟨mA, J, _⟩ := ins_get I.hok ha
  obtain ⟨mB, J', _⟩ := ins_get I.hok hb
  obtain ⟨od, J, _⟩ := J.look
  obtain ⟨od', J', _⟩ := J'.look
  obtain ⟨m, hF⟩ := I.fr
  refine PySem.W.binop_K hF I.ok.mod.kin J J'.type O.first O.at_ O.fn (wpAny_mono (wpAny_call (run_fnR (us := [.ref a, .ref b]) (vs := [.ref a, .ref b]) F hr hx I (.cons rfl (.cons rfl .nil)) q)) (fun r s' z => ?_) fun _ _ z => z)
  obtain ⟨v, H', I', rv, q'⟩ := id z
  exact notImpl rv z
def rOwn1 (C : Addr) (sp : Sp) (E : XK) : V → Hp → VK → Prop := fun x H Q => ∃ a dx fs, x = .ref a ∧ H a = some (.ins C dx fs) ∧ sp [.ref a] H Q E
theorem un_own_neg {CX : CXT} {n : Nat} {C f : Addr} {sp : Sp} {E : XK} (F : FnR X.prog X.w X.K X.mg X.base CX n f sp) (hr : Room n X.A) (O : OwnOp X.K C f "__neg__") (hx : Passes CX X E) : UnR X (unaryOp .USub) (rOwn1 C sp E) := by
  intro pins s σ H x v Q I rx h
  obtain ⟨a, dx, fs, rfl, ha, q⟩ := h
  cases rx
  obtain ⟨mA, J, _⟩ := ins_get I.hok ha
  obtain ⟨od, J, _⟩ := J.look
  obtain ⟨m, hF⟩ := I.fr
  exact PySem.W.ksp_neg hF I.ok.mod.kin J O.at_ O.fn (wpAny_call (run_fnR (us := [.ref a]) (vs := [.ref a]) F hr hx I (.cons rfl .nil) q))
/-- bool(x) of an instance with its own truth -/
def rOwnB (C : Addr) (sp : Sp) (E : XK) : List V → Hp → VK → Prop := fun vs H Q => ∃ a dx fs, vs = [.ref a] ∧ H a = some (.ins C dx fs) ∧ sp [.ref a] H (fun v H' => ∃ b, v = .bl b ∧ Q (.bl b) H') E
theorem tru_of {M : Model} {A : Around} {x : Value} {s : Shared} {Q0 Q : Bool → Shared → Prop} {E : Value → Shared → Prop} (hs : wpAny M A (truthy x) Q0 E s) (h : ∀ b s', Q0 b s' → Q b s') : wpAny M A (truthy x) Q E s := wpAny_mono hs h fun _ _ z => z
theorem new_bool_own (prog : Program) (w : World) (a : Addr) : MeetsIn prog w (Builtin.«bool.__new__» ⟨[.type "bool", .ref a], []⟩)
    (fun A R s => wpAny (model prog w) A.in1 (truthy (.ref a)) (fun b s' => R (.ok (.ret (.bool b))) s') (fun e s' => R (.error e) s') s) :=
  .of_wp fun A R s hs => by
    have f1 := F.conv_sub_bool
    obtain ⟨hp, g, d, tk, os⟩ := s
    repeat (any_goals (first | assumption | (with_reducible refine tru_of hs (fun b s' hq => ?_)) | wp_step))
    all_goals exact ⟨_, rfl, hq⟩
theorem call_bool_own {CX : CXT} {n : Nat} {C f : Addr} {sp : Sp} {E : XK} (G : FnR X.prog X.w X.K X.mg X.base CX n f sp) (hr : Room (n + 2) X.A) (hat : PySem.W.findIn X.K (.ref C) "__bool__" = some (some (.ref f))) (hfn : PySem.W.isFn X.K (.ref f) = true)
    (hx : Passes CX X E) : CallR X (.type "bool") (rOwnB C sp E) := by
  intro pins s σ H xs us Q I r h
  obtain ⟨a, dx, fs, rfl, ha, q⟩ := h
  obtain ⟨u, rfl, r1⟩ := vals1 r
  cases r1
  obtain ⟨mA, J, _⟩ := ins_get I.hok ha
  obtain ⟨od, J, _⟩ := J.look
  obtain ⟨m, hF⟩ := I.fr
  refine PySem.callType_newIn PySem.F.called_bool PySem.F.newNe_bool (PySem.F.typeCall_bool_1 _) (PySem.F.newCall_bool_1 _) (fun obj => PySem.F.args_object_init_2 obj _) PySem.F.entry_bool_new (new_bool_own X.prog X.w a) ?_
  refine PySem.W.truthy_K hF I.ok.mod.kin J hat hfn ?_
  refine wpAny_call (codeAny_mono (G _ X.stack s H [.ref a] [.ref a] _ E hr.in1.in1 I.env0.in1.in1 (.cons rfl .nil) q) fun r s' hq => ?_)
  cases r with
  | error e => exact hx pins σ H s e s' I hq
  | ok fl =>
    cases fl with
    | ret u =>
      obtain ⟨v, H', I', rv, b, rfl, q'⟩ := I.after hq
      cases rv
      exact ⟨rfl, .bl b, H', I', rfl, q'⟩
    | next => exact False.elim hq
    | brk => exact False.elim hq
    | cont => exact False.elim hq
/-- C.m is a staticmethod: its record at p, its def at g -/
structure SMet (K : PySem.W.Frag) (C : Addr) (mc : Value) (m : Str) (p g : Addr) : Prop where
  at_ : PySem.W.findCls K (.ref C) mc m = some (.get (.builtin "staticmethod.__get__") (.ref p) .none (.ref C))
  rc : ∃ rest, PySem.W.recIn K p "staticmethod" = some (.ref g :: rest)
  kp : PySem.W.keepIn K (.ref g) = true
def tSMeth (C : Addr) (sp : Sp) (E : XK) (ta : TE) (t : TA) : TE := fun σ H Q => ta σ H fun x H1 => x = .ref C ∧ t σ H1 fun vs H2 => sp vs H2 Q E
theorem pe_smeth {CX : CXT} {k : Nat} {C p g : Addr} {mc : Value} {sp : Sp} {E : XK} {o e : Expr} {es : List Expr} {m : Str} {pos apos : Pos} {ta : TE} {t : TA} {pl : Sem Bool} (he : PE X o ta) (r : ClX.CRead X.K C mc) (c : SMet X.K C mc m p g)
    (F : FnR X.prog X.w X.K X.mg X.base CX k g sp) (hr : Room k X.A) (hx : Passes CX X E) (ha : PA X (e :: es) t)
    (hst : starEach (e :: es) X.env = (false, eval e X.env) :: starEach es X.env := by rfl) (hpl : (backTo pos (starEach es X.env)).any (·.1) = false := by rfl)
    (ht : eval (.Call (.Attribute o m apos) (e :: es) [] pos) X.env = (do
      let ov ← eval o X.env
      standAt apos.atName
      let (f, first) ← holding [ov] (getMethod ov m pl)
      callWith pos f first (backTo pos (starEach (e :: es) X.env)) (backToKw pos (keywordEach [] X.env))) := by rfl) :
    PE X (.Call (.Attribute o m apos) (e :: es) [] pos) (tSMeth C sp E ta t) := by
  refine ⟨fun pins s σ H Q I h => ?_⟩
  refine PySem.W.methodCall_KW (pl := pl) (thn (he.run pins s σ H _ I h) fun u s1 ⟨x, H1, I1, rx, ex, q⟩ => ?_) ht
  subst ex
  obtain rfl : u = Value.ref C := rx
  obtain ⟨rest, hp⟩ := c.rc
  refine PySem.W.method_cls I1.kIn r.ga (PySem.W.cls_bind I1.kIn r.rd c.at_ (wpAny_call (PySem.W.sm_get (s := { s1 with toks := s1.toks + 1 }) I1.kIn hp (PySem.W.handed_on rfl ?_))))
  have I2 := I1.tok (s1.toks + 1)
  refine PySem.W.callWith_K (h₀ := X.base) I.ok.mod.kin c.kp (thn (ha.run pos pins _ σ H1 _ I2 q) fun us s3 ⟨vs, H2, I3, rv, q2⟩ => ⟨I3.kIn, ?_⟩) hst hpl
  exact wpAny_call (run_fnR F hr hx I3 rv q2)
end
end RF

namespace RF
open PySem L2 PyProof.Rows
/-! ### what a surd looks like -/
theorem kRP : ¬ (("_root" : Str) = "_parts") := by decide +kernel
def sfl (d : Int) (t : Addr) : List (Str × V) := putF "_parts" (.ref t) (putF "_root" (.int d) [])
theorem sfl_root (d : Int) (t : Addr) : (sfl d t).lookup ("_root" : Str) = some (.int d) := by
  unfold sfl
  rw [lookup_putF, if_neg kRP, lookup_putF, if_pos rfl]
theorem sfl_parts (d : Int) (t : Addr) : (sfl d t).lookup ("_parts" : Str) = some (.ref t) := by
  unfold sfl
  rw [lookup_putF, if_pos rfl]
theorem sfl_no (d : Int) (t : Addr) {m : Str} (h1 : ¬ m = "_parts") (h2 : ¬ m = "_root") : (sfl d t).lookup m = none := by
  unfold sfl
  rw [lookup_putF, if_neg h1, lookup_putF, if_neg h2]
  all_goals rfl
/-- at p: the surd of the root d with the parts i, j, k -/
def SurdAt (H : Hp) (C p : Addr) (d i j k : Int) : Prop := ∃ dx t, H p = some (.ins C dx (sfl d t)) ∧ H t = some (.tup [.int i, .int j, .int k])
theorem SurdAt.same {H H' : Hp} {C p : Addr} {d i j k : Int} (s : Same H H') (h : SurdAt H C p d i j k) : SurdAt H' C p d i j k := by
  obtain ⟨dx, t, h1, h2⟩ := h
  exact ⟨dx, t, s _ _ h1, s _ _ h2⟩
/-- below two to the n -/
def Bd (n : Nat) (i : Int) : Prop := i.natAbs < 2 ^ n
theorem Bd.mono {n m : Nat} {i : Int} (h : Bd n i) (hn : n ≤ m) : Bd m i := Nat.lt_of_lt_of_le h (Nat.pow_le_pow_right (by decide) hn)
theorem Bd.mul {n m : Nat} {i j : Int} (a : Bd n i) (b : Bd m j) : Bd (n + m) (i * j) := wide_lt a b
theorem Bd.add {n : Nat} {i j : Int} (a : Bd n i) (b : Bd n j) : Bd (n + 1) (i + j) := by
  unfold Bd at *
  rw [Nat.pow_succ]
  omega
theorem Bd.neg {n : Nat} {i : Int} (a : Bd n i) : Bd n (-i) := by
  unfold Bd at *
  omega
theorem Bd.le {n : Nat} {i j : Int} (a : Bd n i) (h : j.natAbs ≤ i.natAbs) : Bd n j := Nat.lt_of_le_of_lt h a
theorem Bd.ab {n : Nat} {i : Int} (a : Bd n i) : Bd n (if i < 0 then -i else i) := by
  unfold Bd at *
  split <;> omega
theorem Bd.log {n : Nat} {i : Int} (a : Bd n i) (h : 0 < n) : i.natAbs.log2 < n := PySem.Flt.log2_lt_of h a
theorem mulOk {n m : Nat} {i j : Int} (a : Bd n i) (b : Bd m j) (h0 : 0 < n) (h1 : 0 < m) (h : n + m ≤ 1000000) : CMulW i j := wide_mul a b h0 h1 h
theorem rootBd {d : Int} (h : Root d) : Bd 4 d := by
  unfold Bd
  unfold Root at h
  omega
/-- // by any great divisor but 0 -/
def CDivNW (_ j : Int) : Prop := j ≠ 0 ∧ j.natAbs.log2 < 9000
theorem op_fdivNW {X : Cx} : OpR X (binaryOp .FloorDiv) (rI CDivNW fun i j => .int (i.fdiv j)) := opI fun _ _ _ _ _ _ _ hc q => floordiv_int hc.1 q (.inl (PyProof.noPylong_of_log2 hc.2))

/-! ### a written dict with int keys -/
def okE : List DictEntry → List Int → Bool
  | [], [] => true
  | e :: es, k :: ks => (match e.key with | .int i _ => i == k | _ => false) && e.hash == hashInt k && okE es ks
  | _, _ => false
structure IntKeys (K : PySem.W.Frag) (d : Addr) (ks : List Int) : Prop where
  low : (d == sysModules) = false
  ex : ∃ es n, K.lookup d = some ⟨.type "dict", none, .dict es n, #[]⟩ ∧ okE es.toList ks = true
theorem okE_mem : ∀ {es : List DictEntry} {ks : List Int}, okE es ks = true → ∀ e ∈ es, ∃ k t, k ∈ ks ∧ e.key = .int k t ∧ e.hash = hashInt k
  | [], _, _, e, he => by cases he
  | c :: es, [], h, e, he => by simp [okE] at h
  | c :: es, k :: ks, h, e, he => by
    unfold okE at h
    simp only [Bool.and_eq_true, beq_iff_eq] at h
    obtain ⟨⟨h1, h2⟩, h3⟩ := h
    rcases List.mem_cons.mp he with rfl | he
    · split at h1
      · rename_i i t q
        exact ⟨k, t, List.mem_cons_self, by rw [q, beq_iff_eq.mp h1], h2⟩
      · cases h1
    · obtain ⟨k', t, a, b, c⟩ := okE_mem h3 e he
      exact ⟨k', t, List.mem_cons_of_mem _ a, b, c⟩
theorem okE_find : ∀ {es : List DictEntry} {ks : List Int} (i : Int), okE es ks = true → (es.find? fun e => Value.isInt i e.key).isSome = decide (i ∈ ks)
  | [], [], i, _ => by simp
  | [], k :: ks, i, h => by simp [okE] at h
  | c :: es, [], i, h => by simp [okE] at h
  | c :: es, k :: ks, i, h => by
    unfold okE at h
    simp only [Bool.and_eq_true, beq_iff_eq] at h
    obtain ⟨⟨h1, h2⟩, h3⟩ := h
    have ih := okE_find i h3
    split at h1
    · rename_i j t q
      have e : j = k := beq_iff_eq.mp h1
      rw [List.find?_cons]
      by_cases z : i = k
      · have : Value.isInt i c.key = true := by rw [q, e, z]; simp [Value.isInt]
        rw [this]
        simp [z]
      · have : Value.isInt i c.key = false := by
          rw [q, e]
          simp only [Value.isInt]
          exact beq_eq_false_iff_ne.mpr (fun w => z w.symm) |> fun h => by first | exact h | (rw [beq_eq_false_iff_ne]; exact z) | simpa using z
        rw [this]
        simp [ih, z]
    · cases h1
theorem op_in_intd {X : Cx} : OpR X (compareOp .In) (fun x y H Q => ∃ i d ks, x = .int i ∧ y = .ref d ∧ IntKeys X.K d ks ∧ Q (.bl (decide (i ∈ ks))) H) := by
  intro pins s σ H x y v u Q I rx ry h
  obtain ⟨i, d, ks, rfl, rfl, ⟨low, es, n, hl, he⟩, q⟩ := h
  obtain ⟨t, rfl⟩ := rx
  cases ry
  have hm : s.heap.MapOf (intKind X.prog X.w) d (fun k => findBy Value.isInt es k) := ⟨_, es, n, I.kIn _ _ hl, ⟨rfl, rfl, rfl⟩, rfl, fun e hh => by
    obtain ⟨k, t, _, e1, e2⟩ := okE_mem he e (Array.mem_toList_iff.mpr hh)
    exact ⟨k, by rw [e1]; show Value.isInt k (.int k t) = true; simp [Value.isInt], e2⟩, fun _ => rfl⟩
  refine wpAny_in_of (knd := intKind X.prog X.w) (k := i) (by show Value.isInt i (.int i t) = true; simp [Value.isInt]) low hm ?_
  have e : (findBy Value.isInt es i).isSome = decide (i ∈ ks) := by
    unfold findBy
    rw [Option.isSome_map, ← okE_find i he, ← List.find?_toArray]
  rw [e]
  exact ⟨.bl _, H, I.tok _, rfl, q⟩
end RF

namespace RF
open PySem L2 PyProof.Rows
def whole : D → Bool
  | .int _ => true
  | _ => false
def btw (d : D) (lo hi : Int) : Bool := match d with
  | .int i => decide (lo ≤ i) && decide (i ≤ hi)
  | _ => false
def rootD : D → Bool
  | .int i => decide (i ∈ [2, 3, 5, 6, 13])
  | _ => false
def spWhole (K : PySem.W.Frag) : Sp := fun vs H Q _ => ∃ (v : V) (d : D), vs = [v] ∧ Rp K H v d ∧ Q (.bl (whole d)) H
def spBtw (K : PySem.W.Frag) : Sp := fun vs H Q _ => ∃ (v : V) (d : D) (lo hi : Int), vs = [v, .int lo, .int hi] ∧ Rp K H v d ∧ Q (.bl (btw d lo hi)) H
def spIsRoot (K : PySem.W.Frag) : Sp := fun vs H Q _ => ∃ (v : V) (d : D), vs = [v] ∧ Rp K H v d ∧ Q (.bl (rootD d)) H
section
variable {P : Program} {w : World} {K : PySem.W.Frag} {mg : Str → Option Value} {base : Heap}
abbrev s_is_whole : Stmt := top 9
abbrev n_is_whole : List Str := ["value"]
theorem sc_is_whole : FnScope n_is_whole ["value"] (defScope s_is_whole) := ⟨rfl, rfl, rfl, by decide +kernel, rfl, by decide +kernel, by decide +kernel⟩
theorem ok_whole {f : Addr} {fd : FuncData} {k : Nat} (F : Fun K "is_whole" "is_whole" s_is_whole f fd) (T1 : mg "isinstance" = none) (T2 : mg "int" = none) (T3 : mg "bool" = none) : FnOk P w K mg base CX0 (k + 1) f fd ["value"] (spWhole K) := by
  refine F.ok sc_is_whole (fun vs H Q E h => ?_) (fun cdv A outer s H vs Q E hr h => ?_)
  · obtain ⟨v, d, rfl, _⟩ := h
    rfl
  · obtain ⟨v, d, rfl, hv, q⟩ := h
    refine ⟨_, (pss_one (ps_ret (pe_and (pe_callB call_isi (by rfl) T1 (by decide +kernel) (pa_cons (pv 0) (pa_cons (pe_bltn (v := .ty "int") (by rfl) T2 (by decide +kernel) rfl) pa_nil))) (pe_one (pe_not (pe_callB call_isi (by rfl) T1 (by decide +kernel) (pa_cons (pv 0) (pa_cons (pe_bltn (v := .ty "bool") (by rfl) T3 (by decide +kernel) rfl) pa_nil)))))))), ?_⟩
    refine ⟨_, rfl, _, _, _, _, _, rfl, .ty _, tyX _ hv, kit_ty (kit_int _), _, rfl, ?_⟩
    by_cases hi : isInt d = true
    · refine iteP hi ⟨_, rfl, _, _, _, _, _, rfl, .ty _, tyX _ hv, kit_ty (kit_bool _), _, rfl, ?_⟩
      have e : (!isBool d) = whole d := by cases d <;> first | rfl | cases hi
      rw [e]
      exact q
    · refine iteN hi ?_
      have e : whole d = false := by cases d <;> first | rfl | exact absurd rfl hi
      rw [e] at q
      exact q
abbrev s_is_between : Stmt := top 10
abbrev n_is_between : List Str := ["value", "low", "high"]
theorem sc_is_between : FnScope n_is_between ["value", "low", "high"] (defScope s_is_between) := ⟨rfl, rfl, rfl, by decide +kernel, rfl, by decide +kernel, by decide +kernel⟩
theorem ok_btw {f : Addr} {fd : FuncData} {k : Nat} (F : Fun K "is_between" "is_between" s_is_between f fd) (D1 : Df P w K mg base k "is_whole" ["value"] (spWhole K)) : FnOk P w K mg base CX0 (k + 1) f fd ["value", "low", "high"] (spBtw K) := by
  refine F.ok sc_is_between (fun vs H Q E h => ?_) (fun cdv A outer s H vs Q E hr h => ?_)
  · obtain ⟨v, d, lo, hi, rfl, _⟩ := h
    rfl
  · obtain ⟨v, d, lo, hi, rfl, hv, q⟩ := h
    refine ⟨_, (pss_one (ps_ret (pe_and (pe_callD D1 hr (Nat.le_refl _) (pa_cons (pv 0) pa_nil)) (pe_one (pe_chain op_le op_le (pv 1) (pv 0) (pv 2)))))), ?_⟩
    refine ⟨_, rfl, v, d, rfl, hv, _, rfl, ?_⟩
    by_cases hi' : whole d = true
    · refine iteP hi' ?_
      cases d with
      | int i =>
        obtain rfl : v = .int i := hv
        refine ⟨_, rfl, _, rfl, _, _, rfl, rfl, _, rfl, ?_⟩
        by_cases h1 : lo ≤ i
        · refine iteP (decide_eq_true h1) ⟨_, rfl, _, _, rfl, rfl, ?_⟩
          have e : btw (.int i) lo hi = decide (i ≤ hi) := by show (decide (lo ≤ i) && decide (i ≤ hi)) = _; rw [decide_eq_true h1]; rfl
          rw [e] at q
          exact q
        · refine iteN (nd_of h1) ?_
          have e : btw (.int i) lo hi = false := by show (decide (lo ≤ i) && decide (i ≤ hi)) = _; rw [decide_eq_false h1]; rfl
          rw [e] at q
          exact q
      | _ => cases hi'
    · refine iteN hi' ?_
      have e : btw d lo hi = false := by cases d <;> first | rfl | exact absurd rfl hi'
      rw [e] at q
      exact q
abbrev s_is_root : Stmt := top 11
abbrev n_is_root : List Str := ["value"]
theorem sc_is_root : FnScope n_is_root ["value"] (defScope s_is_root) := ⟨rfl, rfl, rfl, by decide +kernel, rfl, by decide +kernel, by decide +kernel⟩
theorem ok_isroot {f : Addr} {fd : FuncData} {k : Nat} {pd : Addr} (F : Fun K "is_root" "is_root" s_is_root f fd) (D1 : Df P w K mg base k "is_whole" ["value"] (spWhole K)) (mP : mg "PERIODS" = some (.ref pd)) (kP : IntKeys K pd [2, 3, 5, 6, 13]) :
    FnOk P w K mg base CX0 (k + 1) f fd ["value"] (spIsRoot K) := by
  refine F.ok sc_is_root (fun vs H Q E h => ?_) (fun cdv A outer s H vs Q E hr h => ?_)
  · obtain ⟨v, d, rfl, _⟩ := h
    rfl
  · obtain ⟨v, d, rfl, hv, q⟩ := h
    refine ⟨_, (pss_one (ps_ret (pe_and (pe_callD D1 hr (Nat.le_refl _) (pa_cons (pv 0) pa_nil)) (pe_one (pe_cmpR op_in_intd (pv 0) (pe_glob (v := .ref pd) (by rfl) mP rfl) rfl))))), ?_⟩
    refine ⟨_, rfl, v, d, rfl, hv, _, rfl, ?_⟩
    by_cases hi' : whole d = true
    · refine iteP hi' ?_
      cases d with
      | int i =>
        obtain rfl : v = .int i := hv
        exact ⟨_, rfl, _, _, _, rfl, rfl, kP, q⟩
      | _ => cases hi'
    · refine iteN hi' ?_
      have e : rootD d = false := by cases d <;> first | rfl | exact absurd rfl hi'
      rw [e] at q
      exact q
end
end RF

namespace RF
open PySem L2 PyProof.Rows
/-- what is known of the class -/
structure TxS (K : PySem.W.Frag) (mg : Str → Option Value) (C : Addr) : Prop where
  cl : Cls K C
  nR : NoAttr K C "_root"
  nP : NoAttr K C "_parts"
  mg : mg "Surd" = some (.ref C)
def spSInit (C : Addr) : Sp := fun vs H Q _ => ∃ (p dx : Addr) (d i j k : Int), vs = [.ref p, .int d, .int i, .int j, .int k] ∧ H p = some (.ins C dx []) ∧ Root d ∧ k ≠ 0 ∧ Bd 1000 i ∧ Bd 1000 j ∧ Bd 1000 k ∧
  ∀ H', SurdAt H' C p d (pI i j k) (pJ i j k) (pK i j k) → (∀ b o, H b = some o → b ≠ p → H' b = some o) → Q .non H'
section
variable {P : Program} {w : World} {K : PySem.W.Frag} {mg : Str → Option Value} {base : Heap}
abbrev sS (i : Nat) : Stmt := inClass (top 18) i
abbrev n_SInit : List Str := ["self", "root", "i", "j", "k", "divisor"]
theorem sc_SInit : FnScope n_SInit ["self", "root", "i", "j", "k"] (defScope (sS 0)) := ⟨rfl, rfl, rfl, by decide +kernel, rfl, by decide +kernel, by decide +kernel⟩
theorem ok_SInit {f C : Addr} {fd : FuncData} {k : Nat} {dvs : List V} {kws : List (Str × V)} (F : FunD K "__init__" "Surd.__init__" (defArgs (sS 0)) (defBody (sS 0)) (defScope (sS 0)) dvs kws f fd) (T : TxS K mg C) (mG : mg "gcd" = some (.builtin "math.gcd"))
    (D1 : Df P w K mg base k "is_root" ["value"] (spIsRoot K)) : FnOk P w K mg base CX0 (k + 1) f fd ["self", "root", "i", "j", "k"] (spSInit C) := by
  refine F.ok sc_SInit (fun vs H Q E h => ?_) (fun cdv A outer s H vs Q E hr h => ?_)
  · obtain ⟨p, dx, d, i, j, k, rfl, _⟩ := h
    rfl
  · obtain ⟨p, dx, d, i, j, m, rfl, hp, hd, m0, bi, bj, bm, q⟩ := h
    have nd := sc_SInit.nd
    refine ⟨_, PSs.nox (pss_cons (ps_if (pt_not (pt_val (pe_callD D1 hr (Nat.le_refl _) (pa_cons (pv 1) pa_nil))))
      (pss_one ps_never)
      pss_nil)
      (pss_cons (ps_if (pt_cmpR op_eq (pv 4) pe_int (nomark _))
      (pss_one ps_never)
      pss_nil)
      (pss_cons (ps_set (i := 5) nd rfl (Or.inl rfl) (pe_callBfun cr_gcd3 (by rfl) mG (pa_cons (pv 2) (pa_cons (pv 3) (pa_cons (pv 4) pa_nil)))))
      (C8.pss_cut (ps_if (pt_cmpR op_lt (pv 4) pe_int (nomark _))
      (pss_one (ps_set (i := 5) nd rfl (Or.inl rfl) (pe_un un_neg (pv 5))))
      pss_nil)
      (pss_cons (ps_fld (pv 0) (pv 1) rfl)
      (pss_one (ps_fld (pv 0) (pe_tup (pa_cons (pe_op op_fdivNW (pv 2) (pv 5)) (pa_cons (pe_op op_fdivNW (pv 3) (pv 5)) (pa_cons (pe_op op_fdivNW (pv 4) (pv 5)) pa_nil)))) rfl))))))), ?_⟩
    have er : rootD (.int d) = true := decide_eq_true (by unfold Root at hd; simp; omega)
    refine ⟨_, rfl, _, .int d, rfl, rfl, _, rfl, ?_⟩
    rw [er]
    refine iteF ?_
    refine ⟨_, rfl, rfl, _, rfl, iteN (nd_of (fun z => m0 (by cases z; rfl))) ?_⟩
    refine ⟨_, rfl, _, rfl, _, rfl, _, _, _, rfl, ?_⟩
    refine ⟨fun σ' H' => σ' = [some (.ref p), some (.int d), some (.int i), some (.int j), some (.int m), some (.int (gs i j m))] ∧ H' = H, ?_, ?_⟩
    · refine ⟨_, rfl, _, _, rfl, rfl, _, rfl, ite2 (fun h => ?_) (fun h => ?_)⟩
      · refine ⟨_, rfl, _, rfl, ?_⟩
        have hm : m < 0 := of_decide_eq_true h
        refine ⟨?_, rfl⟩
        unfold gs
        rw [if_pos hm]
        rfl
      · have hm : ¬ m < 0 := fun z => h (decide_eq_true z)
        refine ⟨?_, rfl⟩
        unfold gs
        rw [if_neg hm]
        rfl
    · rintro σ' H1 ⟨rfl, rfl⟩
      have gn := gs_ne (i := i) (j := j) m0
      have gb : (gs i j m).natAbs.log2 < 9000 := Nat.lt_of_lt_of_le ((bm.le (gs_natAbs (i := i) (j := j) m0)).log (by decide)) (by decide)
      refine ⟨_, rfl, _, rfl, p, C, dx, [], rfl, hp, T.cl, T.nR, (by show 0 < 1000; decide), ?_⟩
      refine ⟨_, rfl, _, rfl, _, _, rfl, rfl, ⟨gn, gb⟩, _, rfl, _, rfl, _, _, rfl, rfl, ⟨gn, gb⟩, _, rfl, _, rfl, _, _, rfl, rfl, ⟨gn, gb⟩, (by show 3 ≤ sizeLine; decide), fun t ht => ?_⟩
      have npt : p ≠ t := (ne_new ht).symm
      refine ⟨_, rfl, p, C, dx, _, rfl, by rw [upd_ne npt, upd_same], T.cl, T.nP, (Nat.lt_of_le_of_lt (length_putF _ _ _) (by decide)), ?_⟩
      refine q _ ⟨dx, t, upd_same, ?_⟩ fun b o e nb => ?_
      · rw [upd_ne npt.symm, upd_same]; rfl
      · have e1 : upd H1 p (.ins C dx (putF "_root" (.int d) [])) b = some o := by rw [upd_ne nb]; exact e
        rw [upd_ne nb, upd_ne (ne_of_none e1 ht), upd_ne nb]
        exact e
end
end RF

namespace RF
open PySem L2 PyProof.Rows
/-- at p: the surd (i + j r) / k of the root d, in lowest terms -/
def SV (H : Hp) (C p : Addr) (d i j k : Int) : Prop := k ≠ 0 ∧ SurdAt H C p d (pI i j k) (pJ i j k) (pK i j k)
theorem SV.same {H H' : Hp} {C p : Addr} {d i j k : Int} (s : Same H H') (h : SV H C p d i j k) : SV H' C p d i j k := ⟨h.1, h.2.same s⟩
theorem SV.cong {H : Hp} {C p : Addr} {d i j k i' j' k' : Int} (h : SV H C p d i j k) (hk : k' ≠ 0) (h1 : i * k' = i' * k) (h2 : j * k' = j' * k) : SV H C p d i' j' k' := by
  obtain ⟨e1, e2, e3⟩ := parts_eq h.1 hk h1 h2
  exact ⟨hk, by rw [← e1, ← e2, ← e3]; exact h.2⟩
structure MkS (P : Program) (w : World) (K : PySem.W.Frag) (mg : Str → Option Value) (base : Heap) (C : Addr) (k : Nat) : Prop where
  ex : ∃ (f : Addr) (fd : FuncData), Mk K C f ∧ FnOk P w K mg base CX0 k f fd ["self", "root", "i", "j", "k"] (spSInit C) ∧ KBn K fd ["self", "root", "i", "j", "k"] 4 ["k"] (fun us ws => us ++ ws) (fun vs zs => vs ++ zs) ∧
    (∃ ds, Vals [.int 1] ds ∧ Binds K fd ["self", "root", "i", "j", "k"] ds) ∧ ∃ ds, Vals [.int 0, .int 1] ds ∧ Binds K fd ["self", "root", "i", "j", "k"] ds
def spSign (C : Addr) : Sp := fun vs H Q _ => ∃ (p : Addr) (d i j k : Int), vs = [.ref p] ∧ SV H C p d i j k ∧ 0 < k ∧ Root d ∧ Bd 900 i ∧ Bd 900 j ∧ Q (.int (sg d i j)) H
def flS (d i j k : Int) : Int := (pI i j k + flr d (pJ i j k)) / pK i j k
def spFlS (C : Addr) : Sp := fun vs H Q _ => ∃ (p : Addr) (d i j k : Int), vs = [.ref p] ∧ SV H C p d i j k ∧ Root d ∧ Bd 900 i ∧ Bd 900 j ∧ Bd 900 k ∧ Q (.int (flS d i j k)) H
def spNegS (C : Addr) : Sp := fun vs H Q _ => ∃ (p : Addr) (d i j k : Int), vs = [.ref p] ∧ SV H C p d i j k ∧ Root d ∧ Bd 900 i ∧ Bd 900 j ∧ Bd 900 k ∧
  ∀ (x : Addr) (H' : Hp), H x = none → SV H' C x d (-i) (-j) k → Same H H' → Q (.ref x) H'
def spAddS (C : Addr) : Sp := fun vs H Q _ => ∃ (p q : Addr) (d i j k i2 j2 k2 : Int), vs = [.ref p, .ref q] ∧ SV H C p d i j k ∧ SV H C q d i2 j2 k2 ∧ Root d ∧ Bd 400 i ∧ Bd 400 j ∧ Bd 400 k ∧ Bd 400 i2 ∧ Bd 400 j2 ∧ Bd 400 k2 ∧
  ∀ (x : Addr) (H' : Hp), H x = none → SV H' C x d (i * k2 + i2 * k) (j * k2 + j2 * k) (k * k2) → Same H H' → Q (.ref x) H'
def spSubS (C : Addr) : Sp := fun vs H Q _ => ∃ (p q : Addr) (d i j k i2 j2 k2 : Int), vs = [.ref p, .ref q] ∧ SV H C p d i j k ∧ SV H C q d i2 j2 k2 ∧ Root d ∧ Bd 400 i ∧ Bd 400 j ∧ Bd 400 k ∧ Bd 400 i2 ∧ Bd 400 j2 ∧ Bd 400 k2 ∧
  ∀ (x : Addr) (H' : Hp), H x = none → SV H' C x d (i * k2 - i2 * k) (j * k2 - j2 * k) (k * k2) → Same H H' → Q (.ref x) H'
def spCmpS (C : Addr) : Sp := fun vs H Q _ => ∃ (p q : Addr) (d i j k i2 j2 k2 : Int), vs = [.ref p, .ref q] ∧ SV H C p d i j k ∧ SV H C q d i2 j2 k2 ∧ 0 < k ∧ 0 < k2 ∧ Root d ∧ Bd 400 i ∧ Bd 400 j ∧ Bd 400 k ∧ Bd 400 i2 ∧ Bd 400 j2 ∧ Bd 400 k2 ∧
  ∀ (H' : Hp), Same H H' → Q (.int (sg d (i * k2 - i2 * k) (j * k2 - j2 * k))) H'
section
variable {P : Program} {w : World} {K : PySem.W.Frag} {mg : Str → Option Value} {base : Heap}
abbrev n_SSign : List Str := ["self", "i", "j", "_", "balance"]
theorem sc_SSign : FnScope n_SSign ["self"] (defScope (sS 4)) := ⟨rfl, rfl, rfl, by decide +kernel, rfl, by decide +kernel, by decide +kernel⟩
theorem ok_SSign {f C : Addr} {fd : FuncData} {k : Nat} (F : Fun K "sign" "Surd.sign" (sS 4) f fd) (T : TxS K mg C) (mA : mg "abs" = none) : FnOk P w K mg base CX0 (k + 1) f fd ["self"] (spSign C) := by
  refine F.ok sc_SSign (fun vs H Q E h => ?_) (fun cdv A outer s H vs Q E hr h => ?_)
  · obtain ⟨p, d, i, j, k, rfl, _⟩ := h
    rfl
  · obtain ⟨p, d, i, j, k, rfl, ⟨k0, dx, t, hp, ht⟩, kp, hd, bi, bj, q⟩ := h
    have nd := sc_SSign.nd
    refine ⟨_, (pss_cons (ps_asg (pe_fld (pv 0) rfl) (pg_tup rfl (pgs_cons (pg_name (i := 1) nd rfl (Or.inl rfl)) (pgs_cons (pg_name (i := 2) nd rfl (Or.inl rfl)) (pgs_cons (pg_name (i := 3) nd rfl (Or.inl rfl)) pgs_nil)))))
      (pss_cons (ps_set (i := 4) nd rfl (Or.inl rfl) (pe_op op_add (pe_op op_mulW (pv 1) (pe_callB call_abs (by rfl) mA (by decide +kernel) (pa_cons (pv 1) pa_nil))) (pe_op op_mulW (pe_op op_mulW (pe_fld (pv 0) rfl) (pv 2)) (pe_callB call_abs (by rfl) mA (by decide +kernel) (pa_cons (pv 2) pa_nil)))))
      (pss_cons (ps_if (pt_cmpR op_gt (pv 4) pe_int (nomark _))
      (pss_one (ps_ret pe_int))
      pss_nil)
      (pss_cons (ps_if (pt_cmpR op_lt (pv 4) pe_int (nomark _))
      (pss_one (ps_ret (pe_un un_neg pe_int)))
      pss_nil)
      (pss_one (ps_ret pe_int)))))), ?_⟩
    have ei : Bd 900 (pI i j k) := bi.le (pI_le k0)
    have ej : Bd 900 (pJ i j k) := bj.le (pJ_le k0)
    rw [← sg_parts (i := i) (j := j) kp] at q
    generalize pI i j k = x at *
    generalize pJ i j k = y at *
    refine ⟨_, rfl, p, C, dx, _, _, rfl, hp, T.cl, T.nP, sfl_parts _ _, t, _, rfl, SqT.of ht, rfl, _, _, rfl, _, _, rfl, _, _, rfl, rfl, ?_⟩
    refine ⟨_, rfl, _, rfl, _, rfl, _, _, rfl, rfl, mulOk ei ei.ab (by decide) (by decide) (by decide), ?_⟩
    refine ⟨_, rfl, p, C, dx, _, _, rfl, hp, T.cl, T.nR, sfl_root _ _, _, rfl, _, _, rfl, rfl, mulOk (rootBd hd) ej (by decide) (by decide) (by decide), _, rfl, _, rfl, _, _, rfl, rfl, mulOk ((rootBd hd).mul ej) ej.ab (by decide) (by decide) (by decide), _, _, rfl, rfl, ?_⟩
    refine ⟨_, rfl, _, _, rfl, rfl, _, rfl, ite2 (fun h => ?_) (fun h => ?_)⟩
    · have : 0 < sgb d x y := of_decide_eq_true h
      unfold sg at q
      rw [if_pos this] at q
      exact q
    · have n1 : ¬ 0 < sgb d x y := fun z => h (decide_eq_true z)
      refine ⟨_, rfl, _, _, rfl, rfl, _, rfl, ite2 (fun h => ?_) (fun h => ?_)⟩
      · have : sgb d x y < 0 := of_decide_eq_true h
        unfold sg at q
        rw [if_neg n1, if_pos this] at q
        exact ⟨_, rfl, q⟩
      · have n2 : ¬ sgb d x y < 0 := fun z => h (decide_eq_true z)
        unfold sg at q
        rw [if_neg n1, if_neg n2] at q
        exact q
abbrev n_SFlo : List Str := ["self", "i", "j", "k", "multiple"]
theorem sc_SFlo : FnScope n_SFlo ["self"] (defScope (sS 5)) := ⟨rfl, rfl, rfl, by decide +kernel, rfl, by decide +kernel, by decide +kernel⟩
theorem ok_SFlo {f C : Addr} {fd : FuncData} {k : Nat} (F : Fun K "floor" "Surd.floor" (sS 5) f fd) (T : TxS K mg C) (mI : mg "isqrt" = some (.builtin "math.isqrt")) : FnOk P w K mg base CX0 (k + 1) f fd ["self"] (spFlS C) := by
  refine F.ok sc_SFlo (fun vs H Q E h => ?_) (fun cdv A outer s H vs Q E hr h => ?_)
  · obtain ⟨p, d, i, j, k, rfl, _⟩ := h
    rfl
  · obtain ⟨p, d, i, j, k, rfl, ⟨k0, dx, t, hp, ht⟩, hd, bi, bj, bk, q⟩ := h
    have nd := sc_SFlo.nd
    refine ⟨_, (pss_cons (ps_asg (pe_fld (pv 0) rfl) (pg_tup rfl (pgs_cons (pg_name (i := 1) nd rfl (Or.inl rfl)) (pgs_cons (pg_name (i := 2) nd rfl (Or.inl rfl)) (pgs_cons (pg_name (i := 3) nd rfl (Or.inl rfl)) pgs_nil)))))
      (pss_cons (ps_set (i := 4) nd rfl (Or.inl rfl) (pe_callBfun cr_isqrt (by rfl) mI (pa_cons (pe_op op_mulW (pe_op op_mulW (pe_fld (pv 0) rfl) (pv 2)) (pv 2)) pa_nil)))
      (C8.pss_cut (ps_if (pt_cmpR op_lt (pv 2) pe_int (nomark _))
      (pss_one (ps_set (i := 4) nd rfl (Or.inl rfl) (pe_op op_sub (pe_un un_neg (pv 4)) pe_int)))
      pss_nil)
      (pss_one (ps_ret (pe_op op_fdivW (pe_op op_add (pv 1) (pv 4)) (pv 3))))))), ?_⟩
    have ei : Bd 900 (pI i j k) := bi.le (pI_le k0)
    have ej : Bd 900 (pJ i j k) := bj.le (pJ_le k0)
    have ek : Bd 900 (pK i j k) := bk.le (pK_le k0)
    have kp := pK_pos (i := i) (j := j) k0
    unfold flS at q
    generalize pI i j k = x at *
    generalize pJ i j k = y at *
    generalize pK i j k = z at *
    have b2 : Bd 1804 (d * y * y) := ((rootBd hd).mul ej).mul ej
    have n2 := dff_nn hd (f := y)
    refine ⟨_, rfl, p, C, dx, _, _, rfl, hp, T.cl, T.nP, sfl_parts _ _, t, _, rfl, SqT.of ht, rfl, _, _, rfl, _, _, rfl, _, _, rfl, rfl, ?_⟩
    refine ⟨_, rfl, p, C, dx, _, _, rfl, hp, T.cl, T.nR, sfl_root _ _, _, rfl, _, _, rfl, rfl, mulOk (rootBd hd) ej (by decide) (by decide) (by decide), _, rfl, _, _, rfl, rfl, mulOk ((rootBd hd).mul ej) ej (by decide) (by decide) (by decide), _, rfl, n2, ?_, ?_⟩
    · have := b2.log (by decide)
      have e : (d * y * y).toNat = (d * y * y).natAbs := by omega
      rw [e]
      omega
    · refine ⟨fun σ' H' => σ' = [some (.ref p), some (.int x), some (.int y), some (.int z), some (.int (flr d y))] ∧ H' = H, ?_, ?_⟩
      · refine ⟨_, rfl, _, _, rfl, rfl, _, rfl, ite2 (fun h => ?_) (fun h => ?_)⟩
        · have hy : y < 0 := of_decide_eq_true h
          refine ⟨_, rfl, _, rfl, _, _, rfl, rfl, ?_, rfl⟩
          unfold flr
          rw [if_pos hy]
          rfl
        · have hy : ¬ y < 0 := fun z => h (decide_eq_true z)
          refine ⟨?_, rfl⟩
          unfold flr
          rw [if_neg hy]
          rfl
      · rintro σ' H1 ⟨rfl, rfl⟩
        exact ⟨_, rfl, _, rfl, _, _, rfl, rfl, _, rfl, _, _, rfl, rfl, ⟨kp, Nat.lt_of_lt_of_le (ek.log (by decide)) (by decide)⟩, q⟩
abbrev n_SNeg : List Str := ["self", "i", "j", "k"]
theorem sc_SNeg : FnScope n_SNeg ["self"] (defScope (sS 11)) := ⟨rfl, rfl, rfl, by decide +kernel, rfl, by decide +kernel, by decide +kernel⟩
theorem ok_SNeg {f C : Addr} {fd : FuncData} {k : Nat} (F : Fun K "__neg__" "Surd.__neg__" (sS 11) f fd) (T : TxS K mg C) (M : MkS P w K mg base C k) : FnOk P w K mg base CX0 (k + 2) f fd ["self"] (spNegS C) := by
  refine F.ok sc_SNeg (fun vs H Q E h => ?_) (fun cdv A outer s H vs Q E hr h => ?_)
  · obtain ⟨p, d, i, j, k, rfl, _⟩ := h
    rfl
  · obtain ⟨p, d, i, j, k, rfl, ⟨k0, dx, t, hp, ht⟩, hd, bi, bj, bk, q⟩ := h
    have nd := sc_SNeg.nd
    obtain ⟨fi, fdi, M1, G, kb, _, _⟩ := M.ex
    refine ⟨_, (pss_cons (ps_asg (pe_fld (pv 0) rfl) (pg_tup rfl (pgs_cons (pg_name (i := 1) nd rfl (Or.inl rfl)) (pgs_cons (pg_name (i := 2) nd rfl (Or.inl rfl)) (pgs_cons (pg_name (i := 3) nd rfl (Or.inl rfl)) pgs_nil)))))
      (pss_one (ps_ret (pe_makeK M1 G hr rfl T.mg kb pass0 (pa_cons (pe_fld (pv 0) rfl) (pa_cons (pe_un un_neg (pv 1)) (pa_cons (pe_un un_neg (pv 2)) pa_nil))) (pk_cons (pv 3) pk_nil))))), ?_⟩
    have ei : Bd 900 (pI i j k) := bi.le (pI_le k0)
    have ej : Bd 900 (pJ i j k) := bj.le (pJ_le k0)
    have ek : Bd 900 (pK i j k) := bk.le (pK_le k0)
    have kp := pK_pos (i := i) (j := j) k0
    refine ⟨_, rfl, p, C, dx, _, _, rfl, hp, T.cl, T.nP, sfl_parts _ _, t, _, rfl, SqT.of ht, rfl, _, _, rfl, _, _, rfl, _, _, rfl, rfl, ?_⟩
    refine ⟨_, rfl, p, C, dx, _, _, rfl, hp, T.cl, T.nR, sfl_root _ _, _, rfl, _, rfl, _, rfl, _, rfl, _, rfl, rfl, rfl, fun x dx2 nx ndx nex => ?_⟩
    refine ⟨x, dx2, d, _, _, _, rfl, upd_same, hd, by omega, (ei.mono (by decide)).neg, (ej.mono (by decide)).neg, ek.mono (by decide), fun H' S kp' => ⟨rfl, ?_⟩⟩
    have sm := Same.made nx ndx kp'
    refine q x H' nx (SV.cong ⟨by omega, S⟩ k0 ?_ ?_) sm
    · have a1 := pI_eq (i := i) (j := j) k0
      have a3 := pK_eq (i := i) (j := j) k0
      generalize gs i j k = g at *
      generalize pI i j k = X at *
      generalize pK i j k = Z at *
      rw [a1, a3]; grind
    · have a2 := pJ_eq (i := i) (j := j) k0
      have a3 := pK_eq (i := i) (j := j) k0
      generalize gs i j k = g at *
      generalize pJ i j k = Y at *
      generalize pK i j k = Z at *
      rw [a2, a3]; grind
end
end RF

namespace RF
open PySem L2 PyProof.Rows
structure IsS (K : PySem.W.Frag) (mg : Str → Option Value) (C : Addr) : Prop where
  ha : PySem.W.findIn K (.ref C) "__class__" = some (some (.builtin "object.__class__"))
  hn : PySem.W.specialIn K (.builtin "object.__class__") "__get__" = some (some (.builtin "getset_descriptor.__get__"))
  htk : PySem.W.takesIn K (.builtin "object.__class__") = some true
  hm : PySem.W.mroIn K C (.type "object") = some true
  mi : mg "isinstance" = none
theorem tyS {K : PySem.W.Frag} {mg : Str → Option Value} {H : Hp} {C p dx : Addr} {fs : List (Str × V)} (J : IsS K mg C) (c : Cls K C) (h : H p = some (.ins C dx fs)) : TyX K H (.ref p) (.ref C) := .base (.ins h c J.ha J.hn J.htk J.hm)
theorem kitSelf {K : PySem.W.Frag} {C : Addr} : PySem.W.kitOne K (.ref C) (.ref C) = some true := by
  unfold PySem.W.kitOne
  rw [if_pos (by simp)]
section
variable {P : Program} {w : World} {K : PySem.W.Frag} {mg : Str → Option Value} {base : Heap}
abbrev n_SAdd : List Str := ["self", "other", "i", "j", "k", "i2", "j2", "k2"]
theorem sc_SAdd : FnScope n_SAdd ["self", "other"] (defScope (sS 8)) := ⟨rfl, rfl, rfl, by decide +kernel, rfl, by decide +kernel, by decide +kernel⟩
theorem ok_SAdd {f C : Addr} {fd : FuncData} {k : Nat} (F : Fun K "__add__" "Surd.__add__" (sS 8) f fd) (T : TxS K mg C) (J : IsS K mg C) (M : MkS P w K mg base C k) : FnOk P w K mg base CX0 (k + 2) f fd ["self", "other"] (spAddS C) := by
  refine F.ok sc_SAdd (fun vs H Q E h => ?_) (fun cdv A outer s H vs Q E hr h => ?_)
  · obtain ⟨p, q, d, i, j, k, i2, j2, k2, rfl, _⟩ := h
    rfl
  · obtain ⟨p, q, d, i, j, k, i2, j2, k2, rfl, ⟨k0, dx, t, hp, ht⟩, ⟨k20, dx2, t2, hp2, ht2⟩, hd, bi, bj, bk, bi2, bj2, bk2, kk⟩ := h
    have nd := sc_SAdd.nd
    obtain ⟨fi, fdi, M1, G, kb, _, _⟩ := M.ex
    refine ⟨_, (pss_cons (ps_if (pt_not (pt_val (pe_callB call_isi (by rfl) J.mi (by decide +kernel) (pa_cons (pv 1) (pa_cons (pe_glob (v := .ref C) (by rfl) T.mg rfl) pa_nil)))))
      (pss_one ps_never)
      pss_nil)
      (pss_cons (ps_if (pt_cmpR op_ne (pe_fld (pv 0) rfl) (pe_fld (pv 1) rfl) (nomark _))
      (pss_one ps_never)
      pss_nil)
      (pss_cons (ps_asg (pe_fld (pv 0) rfl) (pg_tup rfl (pgs_cons (pg_name (i := 2) nd rfl (Or.inl rfl)) (pgs_cons (pg_name (i := 3) nd rfl (Or.inl rfl)) (pgs_cons (pg_name (i := 4) nd rfl (Or.inl rfl)) pgs_nil)))))
      (pss_cons (ps_asg (pe_fld (pv 1) rfl) (pg_tup rfl (pgs_cons (pg_name (i := 5) nd rfl (Or.inl rfl)) (pgs_cons (pg_name (i := 6) nd rfl (Or.inl rfl)) (pgs_cons (pg_name (i := 7) nd rfl (Or.inl rfl)) pgs_nil)))))
      (pss_one (ps_ret (pe_makeK M1 G hr rfl T.mg kb pass0 (pa_cons (pe_fld (pv 0) rfl) (pa_cons (pe_op op_add (pe_op op_mulW (pv 2) (pv 7)) (pe_op op_mulW (pv 5) (pv 4))) (pa_cons (pe_op op_add (pe_op op_mulW (pv 3) (pv 7)) (pe_op op_mulW (pv 6) (pv 4))) pa_nil))) (pk_cons (pe_op op_mulW (pv 4) (pv 7)) pk_nil)))))))), ?_⟩
    have ei : Bd 400 (pI i j k) := bi.le (pI_le k0)
    have ej : Bd 400 (pJ i j k) := bj.le (pJ_le k0)
    have ek : Bd 400 (pK i j k) := bk.le (pK_le k0)
    have kp := pK_pos (i := i) (j := j) k0
    have ei2 : Bd 400 (pI i2 j2 k2) := bi2.le (pI_le k20)
    have ej2 : Bd 400 (pJ i2 j2 k2) := bj2.le (pJ_le k20)
    have ek2 : Bd 400 (pK i2 j2 k2) := bk2.le (pK_le k20)
    have kp2 := pK_pos (i := i2) (j := j2) k20
    refine ⟨_, rfl, _, _, _, _, _, rfl, .own C, tyS J T.cl hp2, kitSelf, _, rfl, iteF ?_⟩
    refine ⟨_, rfl, p, C, dx, _, _, rfl, hp, T.cl, T.nR, sfl_root _ _, _, rfl, q, C, dx2, _, _, rfl, hp2, T.cl, T.nR, sfl_root _ _, rfl, _, rfl, iteNS rfl ?_⟩
    refine ⟨_, rfl, p, C, dx, _, _, rfl, hp, T.cl, T.nP, sfl_parts _ _, t, _, rfl, SqT.of ht, rfl, _, _, rfl, _, _, rfl, _, _, rfl, rfl, ?_⟩
    refine ⟨_, rfl, q, C, dx2, _, _, rfl, hp2, T.cl, T.nP, sfl_parts _ _, t2, _, rfl, SqT.of ht2, rfl, _, _, rfl, _, _, rfl, _, _, rfl, rfl, ?_⟩
    refine ⟨_, rfl, p, C, dx, _, _, rfl, hp, T.cl, T.nR, sfl_root _ _, ?_⟩
    refine ⟨_, rfl, _, rfl, _, _, rfl, rfl, mulOk ei ek2 (by decide) (by decide) (by decide), _, rfl, _, rfl, _, _, rfl, rfl, mulOk ei2 ek (by decide) (by decide) (by decide), _, _, rfl, rfl, ?_⟩
    refine ⟨_, rfl, _, rfl, _, _, rfl, rfl, mulOk ej ek2 (by decide) (by decide) (by decide), _, rfl, _, rfl, _, _, rfl, rfl, mulOk ej2 ek (by decide) (by decide) (by decide), _, _, rfl, rfl, ?_⟩
    refine ⟨_, rfl, _, rfl, _, _, rfl, rfl, mulOk ek ek2 (by decide) (by decide) (by decide), rfl, rfl, fun x dx3 nx ndx nex => ?_⟩
    refine ⟨x, dx3, d, _, _, _, rfl, upd_same, hd, Int.mul_ne_zero (by omega) (by omega), ((ei.mul ek2).add (ei2.mul ek)).mono (by decide), ((ej.mul ek2).add (ej2.mul ek)).mono (by decide), (ek.mul ek2).mono (by decide), fun H' S kp' => ⟨rfl, ?_⟩⟩
    have sm := Same.made nx ndx kp'
    refine kk x H' nx (SV.cong ⟨Int.mul_ne_zero (by omega) (by omega), S⟩ (Int.mul_ne_zero k0 k20) ?_ ?_) sm
    · have a1 := pI_eq (i := i) (j := j) k0
      have a3 := pK_eq (i := i) (j := j) k0
      have b1 := pI_eq (i := i2) (j := j2) k20
      have b3 := pK_eq (i := i2) (j := j2) k20
      generalize gs i j k = g at *
      generalize pI i j k = X at *
      generalize pK i j k = Z at *
      generalize gs i2 j2 k2 = g2 at *
      generalize pI i2 j2 k2 = X2 at *
      generalize pK i2 j2 k2 = Z2 at *
      rw [a1, a3, b1, b3]; grind
    · have a1 := pJ_eq (i := i) (j := j) k0
      have a3 := pK_eq (i := i) (j := j) k0
      have b1 := pJ_eq (i := i2) (j := j2) k20
      have b3 := pK_eq (i := i2) (j := j2) k20
      generalize gs i j k = g at *
      generalize pJ i j k = X at *
      generalize pK i j k = Z at *
      generalize gs i2 j2 k2 = g2 at *
      generalize pJ i2 j2 k2 = X2 at *
      generalize pK i2 j2 k2 = Z2 at *
      rw [a1, a3, b1, b3]; grind
abbrev n_SSub : List Str := ["self", "other"]
theorem sc_SSub : FnScope n_SSub ["self", "other"] (defScope (sS 9)) := ⟨rfl, rfl, rfl, by decide +kernel, rfl, by decide +kernel, by decide +kernel⟩
theorem ok_SSub {f C fn fa : Addr} {fd : FuncData} {k : Nat} (F : Fun K "__sub__" "Surd.__sub__" (sS 9) f fd) (T : TxS K mg C) (J : IsS K mg C) (GN : FnR P w K mg base CX0 k fn (spNegS C)) (ON : OwnOp K C fn "__neg__")
    (GA : FnR P w K mg base CX0 k fa (spAddS C)) (OA : OwnOp K C fa "__add__") : FnOk P w K mg base CX0 (k + 1) f fd ["self", "other"] (spSubS C) := by
  refine F.ok sc_SSub (fun vs H Q E h => ?_) (fun cdv A outer s H vs Q E hr h => ?_)
  · obtain ⟨p, q, d, i, j, k, i2, j2, k2, rfl, _⟩ := h
    rfl
  · obtain ⟨p, q, d, i, j, k, i2, j2, k2, rfl, S1, S2, hd, bi, bj, bk, bi2, bj2, bk2, kk⟩ := h
    obtain ⟨k0, dx, t, hp, ht⟩ := id S1
    obtain ⟨k20, dx2, t2, hp2, ht2⟩ := id S2
    refine ⟨_, (pss_cons (ps_if (pt_not (pt_val (pe_callB call_isi (by rfl) J.mi (by decide +kernel) (pa_cons (pv 1) (pa_cons (pe_glob (v := .ref C) (by rfl) T.mg rfl) pa_nil)))))
      (pss_one ps_never)
      pss_nil)
      (pss_one (ps_ret (pe_op (op_own (op := .Add) GA hr OA pass0) (pv 0) (pe_un (un_own_neg GN hr ON pass0) (pv 1)))))), ?_⟩
    refine ⟨_, rfl, _, _, _, _, _, rfl, .own C, tyS J T.cl hp2, kitSelf, _, rfl, iteF ?_⟩
    refine ⟨_, rfl, _, rfl, q, dx2, _, rfl, hp2, q, d, i2, j2, k2, rfl, S2, hd, bi2.mono (by decide), bj2.mono (by decide), bk2.mono (by decide), fun x H1 nx Sx sm => ?_⟩
    obtain ⟨_, dx3, t3, hp3, ht3⟩ := id Sx
    refine ⟨p, x, dx, dx3, _, _, rfl, rfl, sm _ _ hp, hp3, p, x, d, i, j, k, -i2, -j2, k2, rfl, S1.same sm, Sx, hd, bi, bj, bk, bi2.neg, bj2.neg, bk2, fun y H2 ny Sy sm2 => ?_⟩
    refine kk y H2 (sm.free ny) (Sy.cong Sy.1 ?_ ?_) (sm.trans sm2)
    · grind
    · grind
abbrev n_SCmp : List Str := ["self", "other", "difference"]
theorem sc_SCmp : FnScope n_SCmp ["self", "other"] (defScope (sS 6)) := ⟨rfl, rfl, rfl, by decide +kernel, rfl, by decide +kernel, by decide +kernel⟩
theorem ok_SCmp {f C fs fg : Addr} {fd fdg : FuncData} {k : Nat} (F : Fun K "compared" "Surd.compared" (sS 6) f fd) (T : TxS K mg C) (GS : FnR P w K mg base CX0 k fs (spSubS C)) (OS : OwnOp K C fs "__sub__")
    (GG : FnOk P w K mg base CX0 k fg fdg ["self"] (spSign C)) (mG : Meth K C "sign" fg) (bG : Binds K fdg ["self"] []) : FnOk P w K mg base CX0 (k + 1) f fd ["self", "other"] (spCmpS C) := by
  refine F.ok sc_SCmp (fun vs H Q E h => ?_) (fun cdv A outer s H vs Q E hr h => ?_)
  · obtain ⟨p, q, d, i, j, k, i2, j2, k2, rfl, _⟩ := h
    rfl
  · obtain ⟨p, q, d, i, j, k, i2, j2, k2, rfl, S1, S2, kp, kp2, hd, bi, bj, bk, bi2, bj2, bk2, kk⟩ := h
    obtain ⟨k0, dx, t, hp, ht⟩ := id S1
    obtain ⟨k20, dx2, t2, hp2, ht2⟩ := id S2
    have nd := sc_SCmp.nd
    refine ⟨_, (pss_cons (ps_set (i := 2) nd rfl (Or.inl rfl) (pe_op (op_own (op := .Sub) GS hr OS pass0) (pv 0) (pv 1)))
      (pss_one (ps_ret (pe_meth0 (pv 2) T.cl mG GG hr bG .nil pass0)))), ?_⟩
    refine ⟨_, rfl, _, rfl, p, q, dx, dx2, _, _, rfl, rfl, hp, hp2, p, q, d, i, j, k, i2, j2, k2, rfl, S1, S2, hd, bi, bj, bk, bi2, bj2, bk2, fun x H1 nx Sx sm => ?_⟩
    obtain ⟨_, dx3, t3, hp3, ht3⟩ := id Sx
    refine ⟨_, rfl, x, dx3, _, rfl, hp3, sfl_no _ _ (by decide +kernel) (by decide +kernel), x, d, _, _, _, rfl, Sx, Int.mul_pos kp kp2, hd, ?_, ?_, kk H1 sm⟩
    · rw [Int.sub_eq_add_neg]
      exact ((bi.mul bk2).add (bi2.mul bk).neg).mono (by decide)
    · rw [Int.sub_eq_add_neg]
      exact ((bj.mul bk2).add (bj2.mul bk).neg).mono (by decide)
def spBoolS (C : Addr) : Sp := fun vs H Q _ => ∃ (p : Addr) (d i j k : Int), vs = [.ref p] ∧ SV H C p d i j k ∧ 0 < k ∧ Root d ∧ Bd 900 i ∧ Bd 900 j ∧ Q (.bl (!decide (sg d i j = 0))) H
abbrev n_SBool : List Str := ["self"]
theorem sc_SBool : FnScope n_SBool ["self"] (defScope (sS 13)) := ⟨rfl, rfl, rfl, by decide +kernel, rfl, by decide +kernel, by decide +kernel⟩
theorem ok_SBool {f C fg : Addr} {fd fdg : FuncData} {k : Nat} (F : Fun K "__bool__" "Surd.__bool__" (sS 13) f fd) (T : TxS K mg C) (mB : mg "bool" = none)
    (GG : FnOk P w K mg base CX0 k fg fdg ["self"] (spSign C)) (mG : Meth K C "sign" fg) (bG : Binds K fdg ["self"] []) : FnOk P w K mg base CX0 (k + 1) f fd ["self"] (spBoolS C) := by
  refine F.ok sc_SBool (fun vs H Q E h => ?_) (fun cdv A outer s H vs Q E hr h => ?_)
  · obtain ⟨p, d, i, j, k, rfl, _⟩ := h
    rfl
  · obtain ⟨p, d, i, j, k, rfl, S1, kp, hd, bi, bj, q⟩ := h
    obtain ⟨k0, dx, t, hp, ht⟩ := id S1
    refine ⟨_, (pss_one (ps_ret (pe_callTy call_bool1 (by rfl) mB (by decide +kernel) (pa_cons (pe_cmpR op_ne (pe_meth0 (pv 0) T.cl mG GG hr bG .nil pass0) pe_int (nomark _)) pa_nil)))), ?_⟩
    refine ⟨_, rfl, p, dx, _, rfl, hp, sfl_no _ _ (by decide +kernel) (by decide +kernel), p, d, i, j, k, rfl, S1, kp, hd, bi, bj, rfl, .inr ⟨_, rfl, ?_⟩⟩
    have e : (!decide (V.int (sg d i j) = V.int 0)) = !decide (sg d i j = 0) := by rw [dec_int]; simp [BEq.beq]
    rw [e]
    exact q
end
end RF

namespace RF
open PySem L2 PyProof.Rows
def slopeD : D → Bool
  | .tup [a, b, c] => btw a (-9) 9 && (btw b (-3) 3 && btw c 1 4)
  | _ => false
def spIsSlope (K : PySem.W.Frag) : Sp := fun vs H Q _ => ∃ (v : V) (d : D), vs = [v] ∧ Rp K H v d ∧ Q (.bl (slopeD d)) H
def spOfSlope (K : PySem.W.Frag) (C : Addr) : Sp := fun vs H Q _ => ∃ (d i j k : Int) (v : V), vs = [.int d, v] ∧ Root d ∧ Rp K H v (.tup [.int i, .int j, .int k]) ∧ slopeD (.tup [.int i, .int j, .int k]) = true ∧
  ∀ (x : Addr) (H' : Hp), H x = none → SV H' C x d i j k → Same H H' → Q (.ref x) H'
/-- the two surds are one number -/
def EqS (C : Addr) : Addr → Addr → Hp → Prop := fun a b H => ∃ d i j k, SV H C a d i j k ∧ SV H C b d i j k
section
variable {P : Program} {w : World} {K : PySem.W.Frag} {mg : Str → Option Value} {base : Heap}
theorem slope_ne3 {ds : List D} (h : ds.length ≠ 3) : slopeD (.tup ds) = false := by
  match ds, h with
  | [], _ => rfl
  | [_], _ => rfl
  | [_, _], _ => rfl
  | [_, _, _], h => exact absurd rfl h
  | _ :: _ :: _ :: _ :: _, _ => rfl
abbrev s_is_slope : Stmt := top 13
abbrev n_is_slope : List Str := ["value", "i", "j", "k"]
theorem sc_is_slope : FnScope n_is_slope ["value"] (defScope s_is_slope) := ⟨rfl, rfl, rfl, by decide +kernel, rfl, by decide +kernel, by decide +kernel⟩
theorem ok_isslope {f : Addr} {fd : FuncData} {k : Nat} (F : Fun K "is_slope" "is_slope" s_is_slope f fd) (T1 : mg "isinstance" = none) (T2 : mg "tuple" = none) (T3 : mg "len" = none)
    (D1 : Df P w K mg base k "is_between" ["value", "low", "high"] (spBtw K)) : FnOk P w K mg base CX0 (k + 1) f fd ["value"] (spIsSlope K) := by
  refine F.ok sc_is_slope (fun vs H Q E h => ?_) (fun cdv A outer s H vs Q E hr h => ?_)
  · obtain ⟨v, d, rfl, _⟩ := h
    rfl
  · obtain ⟨v, d, rfl, hv, q⟩ := h
    have nd := sc_is_slope.nd
    refine ⟨_, (pss_cons (ps_if (pw_or (pt_not (pt_val (pe_callB call_isi (by rfl) T1 (by decide +kernel) (pa_cons (pv 0) (pa_cons (pe_bltn (v := .ty "tuple") (by rfl) T2 (by decide +kernel) rfl) pa_nil))))) (pw_or1 (pt_cmpR op_ne (pe_callB call_len_seq (by rfl) T3 PySem.boot_len (pa_cons (pv 0) pa_nil)) pe_int (nomark _)))).pt
      (pss_one (ps_ret pe_bl))
      pss_nil)
      (pss_cons (ps_asg (pv 0) (pg_tup rfl (pgs_cons (pg_name (i := 1) nd rfl (Or.inl rfl)) (pgs_cons (pg_name (i := 2) nd rfl (Or.inl rfl)) (pgs_cons (pg_name (i := 3) nd rfl (Or.inl rfl)) pgs_nil)))))
      (pss_one (ps_ret (pe_and (pe_callD D1 hr (Nat.le_refl _) (pa_cons (pv 1) (pa_cons (pe_un un_neg pe_int) (pa_cons pe_int pa_nil)))) (pe_and (pe_callD D1 hr (Nat.le_refl _) (pa_cons (pv 2) (pa_cons (pe_un un_neg pe_int) (pa_cons pe_int pa_nil)))) (pe_one (pe_callD D1 hr (Nat.le_refl _) (pa_cons (pv 3) (pa_cons pe_int (pa_cons pe_int pa_nil))))))))))), ?_⟩
    refine ⟨_, rfl, _, _, _, _, _, rfl, .ty _, tyX _ hv, kit_ty (kit_tuple _), _, rfl, ?_⟩
    cases d with
    | tup ds =>
      obtain ⟨a, xs, rfl, S, hl, rr⟩ := id hv
      have el := rr.len
      refine iteF ⟨_, rfl, a, _, rfl, .inr S, rfl, _, rfl, ?_⟩
      by_cases h3 : ds.length = 3
      · have e3 : V.int (xs.length : Int) = V.int 3 := by rw [el, h3]; rfl
        rw [e3]
        refine iteNS rfl ?_
        match ds, h3 with
        | [d1, d2, d3], _ =>
          obtain ⟨x1, r1, rfl, p1, x2, r2, rfl, p2, x3, r3, rfl, p3, rfl⟩ := rr
          refine ⟨_, rfl, a, _, rfl, S, rfl, _, _, rfl, _, _, rfl, _, _, rfl, rfl, ?_⟩
          refine ⟨_, rfl, _, rfl, x1, d1, _, _, rfl, p1, _, rfl, ?_⟩
          by_cases h1 : btw d1 (-9) 9 = true
          · refine iteP h1 ⟨_, rfl, _, rfl, x2, d2, _, _, rfl, p2, _, rfl, ?_⟩
            by_cases h2 : btw d2 (-3) 3 = true
            · refine iteP h2 ⟨_, rfl, x3, d3, _, _, rfl, p3, ?_⟩
              have e : slopeD (.tup [d1, d2, d3]) = btw d3 1 4 := by show (btw d1 (-9) 9 && (btw d2 (-3) 3 && btw d3 1 4)) = _; rw [h1, h2]; rfl
              rw [e] at q
              exact q
            · refine iteN h2 ?_
              have e : slopeD (.tup [d1, d2, d3]) = false := by show (btw d1 (-9) 9 && (btw d2 (-3) 3 && btw d3 1 4)) = _; rw [Bool.eq_false_iff.mpr h2]; simp
              rw [e] at q
              exact q
          · refine iteN h1 ?_
            have e : slopeD (.tup [d1, d2, d3]) = false := by show (btw d1 (-9) 9 && (btw d2 (-3) 3 && btw d3 1 4)) = _; rw [Bool.eq_false_iff.mpr h1]; rfl
            rw [e] at q
            exact q
      · rw [slope_ne3 h3] at q
        refine iteP ?_ q
        have : ¬ V.int (xs.length : Int) = V.int 3 := fun z => h3 (by
          have := V.int.inj z
          omega)
        rw [decide_eq_false this]; rfl
    | non => exact iteT q
    | bl _ => exact iteT q
    | int _ => exact iteT q
    | str _ => exact iteT q
    | lst _ => exact iteT q
theorem bd9 {i lo hi : Int} (h : btw (.int i) lo hi = true) (h1 : -512 ≤ lo) (h2 : hi ≤ 511) : Bd 10 i := by
  have : (decide (lo ≤ i) && decide (i ≤ hi)) = true := h
  simp only [Bool.and_eq_true, decide_eq_true_eq] at this
  unfold Bd
  omega
abbrev n_OfS : List Str := ["root", "slope", "i", "j", "k"]
theorem sc_OfS : FnScope n_OfS ["root", "slope"] (defScope (sS 1)) := ⟨rfl, rfl, rfl, by decide +kernel, rfl, by decide +kernel, by decide +kernel⟩
theorem ok_OfS {f C : Addr} {fd : FuncData} {k : Nat} (F : Fun K "of_slope" "Surd.of_slope" (sS 1) f fd) (T : TxS K mg C) (D1 : Df P w K mg base (k + 1) "is_root" ["value"] (spIsRoot K)) (D2 : Df P w K mg base (k + 1) "is_slope" ["value"] (spIsSlope K))
    (M : MkS P w K mg base C k) : FnOk P w K mg base CX0 (k + 2) f fd ["root", "slope"] (spOfSlope K C) := by
  refine F.ok sc_OfS (fun vs H Q E h => ?_) (fun cdv A outer s H vs Q E hr h => ?_)
  · obtain ⟨d, i, j, k, v, rfl, _⟩ := h
    rfl
  · obtain ⟨d, i, j, k, v, rfl, hd, hv, hs, q⟩ := h
    have nd := sc_OfS.nd
    obtain ⟨fi, fdi, M1, G, kb, _, _⟩ := M.ex
    refine ⟨_, (pss_cons (ps_if (pt_not (pt_val (pe_callD D1 hr (Nat.le_refl _) (pa_cons (pv 0) pa_nil))))
      (pss_one ps_never)
      pss_nil)
      (pss_cons (ps_if (pt_not (pt_val (pe_callD D2 hr (Nat.le_refl _) (pa_cons (pv 1) pa_nil))))
      (pss_one ps_never)
      pss_nil)
      (pss_cons (ps_asg (pv 1) (pg_tup rfl (pgs_cons (pg_name (i := 2) nd rfl (Or.inl rfl)) (pgs_cons (pg_name (i := 3) nd rfl (Or.inl rfl)) (pgs_cons (pg_name (i := 4) nd rfl (Or.inl rfl)) pgs_nil)))))
      (pss_one (ps_ret (pe_makeK M1 G hr rfl T.mg kb pass0 (pa_cons (pv 0) (pa_cons (pv 2) (pa_cons (pv 3) pa_nil))) (pk_cons (pv 4) pk_nil))))))), ?_⟩
    have er : rootD (.int d) = true := decide_eq_true (by unfold Root at hd; simp; omega)
    have hs' : (btw (.int i) (-9) 9 && (btw (.int j) (-3) 3 && btw (.int k) 1 4)) = true := hs
    simp only [Bool.and_eq_true] at hs'
    obtain ⟨s1, s2, s3⟩ := hs'
    have k1 : 1 ≤ k := by
      have : (decide (1 ≤ k) && decide (k ≤ 4)) = true := s3
      simp only [Bool.and_eq_true, decide_eq_true_eq] at this
      exact this.1
    refine ⟨_, rfl, _, .int d, rfl, rfl, _, rfl, ?_⟩
    rw [er]
    refine iteF ⟨_, rfl, _, _, rfl, hv, _, rfl, ?_⟩
    rw [hs]
    refine iteF ?_
    obtain ⟨a, xs, rfl, S, hl, x1, r1, rfl, p1, x2, r2, rfl, p2, x3, r3, rfl, p3, rfl⟩ := hv
    obtain rfl : x1 = .int i := p1
    obtain rfl : x2 = .int j := p2
    obtain rfl : x3 = .int k := p3
    refine ⟨_, rfl, a, _, rfl, S, rfl, _, _, rfl, _, _, rfl, _, _, rfl, rfl, ?_⟩
    refine ⟨_, rfl, _, rfl, _, rfl, _, rfl, rfl, rfl, fun x dx nx ndx nex => ?_⟩
    refine ⟨x, dx, d, i, j, k, rfl, upd_same, hd, by omega, (bd9 s1 (by decide) (by decide)).mono (by decide), (bd9 s2 (by decide) (by decide)).mono (by decide), (bd9 s3 (by decide) (by decide)).mono (by decide), fun H' Sx kp' => ⟨rfl, ?_⟩⟩
    exact q x H' nx ⟨by omega, Sx⟩ (Same.made nx ndx kp')
abbrev n_SEq : List Str := ["self", "other"]
theorem sc_SEq : FnScope n_SEq ["self", "other"] (defScope (sS 12)) := ⟨rfl, rfl, rfl, by decide +kernel, rfl, by decide +kernel, by decide +kernel⟩
theorem ok_SEq {f C : Addr} {fd : FuncData} {k : Nat} (F : Fun K "__eq__" "Surd.__eq__" (sS 12) f fd) (T : TxS K mg C) (J : IsS K mg C) : FnOk P w K mg base CX0 (k + 2) f fd ["self", "other"] (spEq (EqS C)) := by
  refine F.ok sc_SEq (fun vs H Q E h => ?_) (fun cdv A outer s H vs Q E hr h => ?_)
  · obtain ⟨p, q, rfl, _⟩ := h
    rfl
  · obtain ⟨p, q, rfl, ⟨d, i, j, k, ⟨k0, dx, t, hp, ht⟩, ⟨k20, dx2, t2, hp2, ht2⟩⟩, kk⟩ := h
    refine ⟨_, (pss_one (ps_ret (pe_and (pe_callB call_isi (by rfl) J.mi (by decide +kernel) (pa_cons (pv 1) (pa_cons (pe_glob (v := .ref C) (by rfl) T.mg rfl) pa_nil))) (pe_and (pe_cmpR op_eq (pe_fld (pv 0) rfl) (pe_fld (pv 1) rfl) (nomark _)) (pe_one (pe_cmpR (op_eqG (rcG_tup mon_flat eqG_flat) (hr.mono (by omega))) (pe_fld (pv 0) rfl) (pe_fld (pv 1) rfl) (nomark _))))))), ?_⟩
    refine ⟨_, rfl, _, _, _, _, _, rfl, .own C, tyS J T.cl hp2, kitSelf, _, rfl, iteP rfl ?_⟩
    refine ⟨_, rfl, p, C, dx, _, _, rfl, hp, T.cl, T.nR, sfl_root _ _, _, rfl, q, C, dx2, _, _, rfl, hp2, T.cl, T.nR, sfl_root _ _, rfl, _, rfl, iteP (decide_eq_true rfl) ?_⟩
    refine ⟨_, rfl, p, C, dx, _, _, rfl, hp, T.cl, T.nP, sfl_parts _ _, _, rfl, q, C, dx2, _, _, rfl, hp2, T.cl, T.nP, sfl_parts _ _, ⟨t, t2, _, _, rfl, rfl, SqT.of ht, SqT.of ht2, ?_⟩, kk⟩
    exact .cons ⟨rfl, rfl, by simp [eqV]⟩ (.cons ⟨rfl, rfl, by simp [eqV]⟩ (.cons ⟨rfl, rfl, by simp [eqV]⟩ .nil))
end
end RF

namespace RF
open PySem L2 PyProof.Rows
def spRP : Sp := fun vs H Q _ => ∃ (n : Int), vs = [.int n] ∧ 0 ≤ n ∧ Bd 4000 n ∧ Q (.int (rt n)) H
/-- the floor of the slope times n, by the law -/
def lfl (d i j k n : Int) : Int := (i * n + flr d (j * n)) / k
def spLFl (K : PySem.W.Frag) : Sp := fun vs H Q _ => ∃ (d i j k n : Int) (v : V), vs = [.int d, v, .int n] ∧ Root d ∧ Rp K H v (.tup [.int i, .int j, .int k]) ∧ 0 < k ∧ k < 1073741824 ∧ Bd 900 i ∧ Bd 900 j ∧ Bd 900 n ∧ Q (.int (lfl d i j k n)) H
def spLSg : Sp := fun vs H Q _ => ∃ (d i j : Int), vs = [.int d, .int i, .int j] ∧ Root d ∧ Bd 900 i ∧ Bd 900 j ∧ Q (.int (sg d i j)) H
section
variable {P : Program} {w : World} {K : PySem.W.Frag} {mg : Str → Option Value} {base : Heap}
abbrev s_law_root_part : Stmt := top 25
abbrev n_law_root_part : List Str := ["_law_number", "_law_found", "_law_later"]
theorem sc_law_root_part : FnScope n_law_root_part ["_law_number"] (defScope s_law_root_part) := ⟨rfl, rfl, rfl, by decide +kernel, rfl, by decide +kernel, by decide +kernel⟩
theorem rp_start {n : Int} (h : 2 ≤ n) : (n + 1) / 2 = (n + n / n) / 2 ∧ n < (n + 1) * (n + 1) := by
  have e : n / n = 1 := Int.ediv_self (by omega)
  rw [e]
  refine ⟨rfl, ?_⟩
  have : n * 1 ≤ n * n := Int.mul_le_mul_of_nonneg_left (by omega) (by omega)
  have e2 : (n + 1) * (n + 1) = n * n + 2 * n + 1 := by grind
  omega
theorem rp_step {n x : Int} (hn : 0 ≤ n) (hx : 0 < x) : 0 ≤ (x + n / x) / 2 ∧ n < ((x + n / x) / 2 + 1) * ((x + n / x) / 2 + 1) := by
  have q0 : 0 ≤ n / x := Int.ediv_nonneg hn (by omega)
  have h1 := Int.mul_ediv_add_emod n x
  have h2 := Int.emod_lt_of_pos n hx
  have h3 : n < x * (n / x + 1) := by
    have : x * (n / x + 1) = x * (n / x) + x := by grind
    omega
  exact ⟨by omega, amgm x (n / x) _ n hx q0 h3 (by omega)⟩
theorem rp_end {n x : Int} (hx : 0 < x) (h : ¬ (x + n / x) / 2 < x) : x * x ≤ n := by
  have h1 := Int.mul_ediv_add_emod n x
  have h2 := Int.emod_nonneg n (show x ≠ 0 by omega)
  have h3 : x ≤ n / x := by omega
  have : x * x ≤ x * (n / x) := Int.mul_le_mul_of_nonneg_left h3 (by omega)
  omega
theorem rp_pos {n y : Int} (hn : 2 ≤ n) (h0 : 0 ≤ y) (h : n < (y + 1) * (y + 1)) : 0 < y := by
  rcases Int.lt_or_le 0 y with z | z
  · exact z
  · have : y = 0 := by omega
    subst this
    omega
theorem ok_rp {f : Addr} {fd : FuncData} {k : Nat} (F : Fun K "_law_root_part" "_law_root_part" s_law_root_part f fd) : FnOk P w K mg base CX0 (k + 1) f fd ["_law_number"] spRP := by
  refine F.ok sc_law_root_part (fun vs H Q E h => ?_) (fun cdv A outer s H vs Q E hr h => ?_)
  · obtain ⟨n, rfl, _⟩ := h
    rfl
  · obtain ⟨n, rfl, n0, bn, q⟩ := h
    have nd := sc_law_root_part.nd
    refine ⟨_, (pss_cons (ps_if (pt_cmpR op_lt (pv 0) pe_int (nomark _))
      (pss_one (ps_ret (pv 0)))
      pss_nil)
      (pss_cons (ps_set (i := 1) nd rfl (Or.inl rfl) (pv 0))
      (pss_cons (ps_set (i := 2) nd rfl (Or.inl rfl) (pe_op op_fdiv (pe_op op_add (pv 0) pe_int) pe_int))
      (pss_cons (ps_while PassesOwn.never (pt_cmpR op_lt (pv 2) (pv 1) (nomark _))
      (pss_cons (ps_set (i := 1) nd rfl (Or.inl rfl) (pv 2))
        (pss_one (ps_set (i := 2) nd rfl (Or.inl rfl) (pe_op op_fdiv (pe_op op_add (pv 1) (pe_op op_fdivW (pv 0) (pv 1))) pe_int)))))
      (pss_one (ps_ret (pv 1))))))), ?_⟩
    refine ⟨_, rfl, _, _, rfl, rfl, _, rfl, ite2 (fun h => ?_) (fun h => ?_)⟩
    · have hn : n < 2 := of_decide_eq_true h
      have : n = rt n := rt_uniq n0 n0 (by rcases (by omega : n = 0 ∨ n = 1) with z | z <;> rw [z] <;> decide) (by rcases (by omega : n = 0 ∨ n = 1) with z | z <;> rw [z] <;> decide)
      refine ⟨_, rfl, ?_⟩
      rw [← this] at q
      exact q
    · have hn : 2 ≤ n := by
        have : ¬ n < 2 := fun z => h (decide_eq_true z)
        omega
      obtain ⟨e0, e1⟩ := rp_start hn
      refine ⟨_, rfl, _, rfl, _, _, rfl, rfl, _, _, rfl, rfl, ⟨by decide, by decide⟩, ?_⟩
      refine while_by (fun σ H' => ∃ x : Int, σ = [some (.int n), some (.int x), some (.int ((x + n / x) / 2))] ∧ H' = H ∧ 0 < x ∧ x ≤ n ∧ n < (x + 1) * (x + 1)) (fun σ _ => match σ with | [_, some (.int x), _] => x.toNat | _ => 0)
        ⟨n, by rw [← e0]; rfl, rfl, by omega, Int.le_refl _, e1⟩ ?_ ?_
      · rintro σ H1 ⟨x, rfl, rfl, x0, xn, x1⟩
        refine ⟨_, rfl, _, rfl, _, _, rfl, rfl, _, rfl, ite2 (fun h => ?_) (fun h => ?_)⟩
        · have lt : (x + n / x) / 2 < x := of_decide_eq_true h
          obtain ⟨y0, y1⟩ := rp_step n0 x0
          have yp := rp_pos hn y0 y1
          refine ⟨_, rfl, _, rfl, _, rfl, _, rfl, _, _, rfl, rfl, ⟨yp, ?_⟩, _, _, rfl, rfl, _, _, rfl, rfl, ⟨by decide, by decide⟩, ⟨_, rfl, rfl, yp, by omega, y1⟩, ?_⟩
          · exact Nat.lt_of_lt_of_le ((bn.le (show ((x + n / x) / 2).natAbs ≤ n.natAbs by omega)).log (by decide)) (by decide)
          · show ((x + n / x) / 2).toNat < x.toNat
            omega
        · have nl : ¬ (x + n / x) / 2 < x := fun z => h (decide_eq_true z)
          have : x = rt n := rt_uniq n0 (by omega) (rp_end x0 nl) x1
          refine ⟨_, rfl, ?_⟩
          rw [this]
          exact q
      · rintro σ H1 Q1 Q2 hq ⟨v, e1, v2, e2, i, j, e3, e4, b, e5, q⟩
        exact ⟨v, e1, v2, e2, i, j, e3, e4, b, e5, hq _ _ q⟩
abbrev s_law_floor : Stmt := top 26
abbrev n_law_floor : List Str := ["_law_root_here", "_law_slope", "_law_number", "_law_factor", "_law_part"]
theorem sc_law_floor : FnScope n_law_floor ["_law_root_here", "_law_slope", "_law_number"] (defScope s_law_floor) := ⟨rfl, rfl, rfl, by decide +kernel, rfl, by decide +kernel, by decide +kernel⟩
theorem ok_lfl {f : Addr} {fd : FuncData} {k : Nat} (F : Fun K "_law_floor" "_law_floor" s_law_floor f fd) (D1 : Df P w K mg base k "_law_root_part" ["_law_number"] spRP) : FnOk P w K mg base CX0 (k + 1) f fd ["_law_root_here", "_law_slope", "_law_number"] (spLFl K) := by
  refine F.ok sc_law_floor (fun vs H Q E h => ?_) (fun cdv A outer s H vs Q E hr h => ?_)
  · obtain ⟨d, i, j, k, n, v, rfl, _⟩ := h
    rfl
  · obtain ⟨d, i, j, k, n, v, rfl, hd, hv, k0, k1, bi, bj, bn, q⟩ := h
    have nd := sc_law_floor.nd
    obtain ⟨a, xs, rfl, S, hl, x1, r1, rfl, p1, x2, r2, rfl, p2, x3, r3, rfl, p3, rfl⟩ := hv
    obtain rfl : x1 = .int i := p1
    obtain rfl : x2 = .int j := p2
    obtain rfl : x3 = .int k := p3
    refine ⟨_, (pss_cons (ps_set (i := 3) nd rfl (Or.inl rfl) (pe_op op_mulW (pe_ix ix_tup (pv 1) pe_int (fun _ _ => rfl)) (pv 2)))
      (pss_cons (ps_set (i := 4) nd rfl (Or.inl rfl) (pe_callD D1 hr (Nat.le_refl _) (pa_cons (pe_op op_mulW (pe_op op_mulW (pv 3) (pv 3)) (pv 0)) pa_nil)))
      (C8.pss_cut (ps_if (pt_cmpR op_lt (pv 3) pe_int (nomark _))
      (pss_one (ps_set (i := 4) nd rfl (Or.inl rfl) (pe_op op_sub (pe_un un_neg (pv 4)) pe_int)))
      pss_nil)
      (pss_one (ps_ret (pe_op op_fdiv (pe_op op_add (pe_op op_mulW (pe_ix ix_tup (pv 1) pe_int (fun _ _ => rfl)) (pv 2)) (pv 4)) (pe_ix ix_tup (pv 1) pe_int (fun _ _ => rfl)))))))), ?_⟩
    have bf : Bd 1800 (j * n) := bj.mul bn
    have b2 : Bd 3604 (j * n * (j * n) * d) := (bf.mul bf).mul (rootBd hd)
    refine ⟨_, rfl, a, _, _, _, rfl, rfl, S, rfl, _, rfl, _, _, rfl, rfl, mulOk bj bn (by decide) (by decide) (by decide), ?_⟩
    refine ⟨_, rfl, _, rfl, _, _, rfl, rfl, mulOk bf bf (by decide) (by decide) (by decide), _, rfl, _, _, rfl, rfl, mulOk (bf.mul bf) (rootBd hd) (by decide) (by decide) (by decide), _, rfl, ?_, b2.mono (by decide), ?_⟩
    · have := dff_nn hd (f := j * n)
      have e : j * n * (j * n) * d = d * (j * n) * (j * n) := by grind
      rw [e]
      exact this
    · rw [flr_ring]
      refine ⟨fun σ' H' => σ' = [some (.int d), some (.ref a), some (.int n), some (.int (j * n)), some (.int (flr d (j * n)))] ∧ H' = H, ?_, ?_⟩
      · refine ⟨_, rfl, _, _, rfl, rfl, _, rfl, ite2 (fun h => ?_) (fun h => ?_)⟩
        · have hy : j * n < 0 := of_decide_eq_true h
          refine ⟨_, rfl, _, rfl, _, _, rfl, rfl, ?_, rfl⟩
          unfold flr
          rw [if_pos hy]
          rfl
        · have hy : ¬ j * n < 0 := fun z => h (decide_eq_true z)
          refine ⟨?_, rfl⟩
          unfold flr
          rw [if_neg hy]
          rfl
      · rintro σ' H1 ⟨rfl, rfl⟩
        exact ⟨_, rfl, a, _, _, _, rfl, rfl, S, rfl, _, rfl, _, _, rfl, rfl, mulOk bi bn (by decide) (by decide) (by decide), _, rfl, _, _, rfl, rfl, _, rfl, a, _, _, _, rfl, rfl, S, rfl, _, _, rfl, rfl, ⟨k0, k1⟩, q⟩
abbrev s_law_sign : Stmt := top 28
abbrev n_law_sign : List Str := ["_law_root_here", "_law_i", "_law_j"]
theorem sc_law_sign : FnScope n_law_sign ["_law_root_here", "_law_i", "_law_j"] (defScope s_law_sign) := ⟨rfl, rfl, rfl, by decide +kernel, rfl, by decide +kernel, by decide +kernel⟩
theorem ok_lsg {f : Addr} {fd : FuncData} {k : Nat} (F : Fun K "_law_sign" "_law_sign" s_law_sign f fd) (T : mg "int" = none) : FnOk P w K mg base CX0 (k + 1) f fd ["_law_root_here", "_law_i", "_law_j"] spLSg := by
  refine F.ok sc_law_sign (fun vs H Q E h => ?_) (fun cdv A outer s H vs Q E hr h => ?_)
  · obtain ⟨d, i, j, rfl, _⟩ := h
    rfl
  · obtain ⟨d, i, j, rfl, hd, bi, bj, q⟩ := h
    refine ⟨_, (pss_cons (ps_if (pw_and (pt_cmpR op_ge (pv 1) pe_int (nomark _)) (pw_and1 (pt_cmpR op_ge (pv 2) pe_int (nomark _)))).pt
      (pss_one (ps_ret (pe_callTy call_int1 (by rfl) T (by decide +kernel) (pa_cons (pe_or (pe_cmpR op_gt (pv 1) pe_int (nomark _)) (pe_one (pe_cmpR op_gt (pv 2) pe_int (nomark _)))) pa_nil))))
      pss_nil)
      (pss_cons (ps_if (pw_and (pt_cmpR op_le (pv 1) pe_int (nomark _)) (pw_and1 (pt_cmpR op_le (pv 2) pe_int (nomark _)))).pt
      (pss_one (ps_ret (pe_un un_neg pe_int)))
      pss_nil)
      (pss_cons (ps_if (pt_cmpR op_gt (pv 1) pe_int (nomark _))
      (pss_one (ps_ret (pe_ifExp (pt_cmpR op_gt (pe_op op_mulW (pv 1) (pv 1)) (pe_op op_mulW (pe_op op_mulW (pv 2) (pv 2)) (pv 0)) (nomark _)) pe_int (pe_un un_neg pe_int))))
      pss_nil)
      (pss_one (ps_ret (pe_ifExp (pt_cmpR op_gt (pe_op op_mulW (pe_op op_mulW (pv 2) (pv 2)) (pv 0)) (pe_op op_mulW (pv 1) (pv 1)) (nomark _)) pe_int (pe_un un_neg pe_int))))))), ?_⟩
    -- what follows the first test, where it fails
    by_cases hpp : 0 ≤ i ∧ 0 ≤ j
    · obtain ⟨hi, hj⟩ := hpp
      refine ⟨_, rfl, _, _, rfl, rfl, _, rfl, iteP (decide_eq_true hi) ⟨_, rfl, _, _, rfl, rfl, _, rfl, iteP (decide_eq_true hj) ?_⟩⟩
      rw [sg_pp hd hi hj] at q
      refine ⟨_, rfl, _, _, rfl, rfl, _, rfl, ?_⟩
      by_cases h1 : 0 < i
      · rw [if_pos (Or.inl h1)] at q
        exact iteP (decide_eq_true h1) (.inr ⟨_, rfl, q⟩)
      · refine iteN (nd_of h1) ⟨_, rfl, _, _, rfl, rfl, .inr ⟨_, rfl, ?_⟩⟩
        by_cases h2 : 0 < j
        · rw [if_pos (Or.inr h2)] at q
          rw [decide_eq_true h2]
          exact q
        · rw [if_neg (by omega)] at q
          rw [decide_eq_false h2]
          exact q
    · have rest : ∀ A B : Prop, (i < 0 → B) → (0 ≤ i → j < 0 → B) → (0 ≤ i → 0 ≤ j → A) → True := fun _ _ _ _ _ => trivial
      have step : ∀ {T1 T2 T3 : Prop}, True := trivial
      by_cases hi : 0 ≤ i
      · have hj : ¬ 0 ≤ j := fun z => hpp ⟨hi, z⟩
        refine ⟨_, rfl, _, _, rfl, rfl, _, rfl, iteP (decide_eq_true hi) ⟨_, rfl, _, _, rfl, rfl, _, rfl, iteN (nd_of hj) ?_⟩⟩
        by_cases hi0 : i ≤ 0
        · rw [sg_nn hd hi0 (by omega) hpp] at q
          exact ⟨_, rfl, _, _, rfl, rfl, _, rfl, iteP (decide_eq_true hi0) ⟨_, rfl, _, _, rfl, rfl, _, rfl, iteP (decide_eq_true (by omega)) ⟨_, rfl, q⟩⟩⟩
        · refine ⟨_, rfl, _, _, rfl, rfl, _, rfl, iteN (nd_of hi0) ?_⟩
          refine ⟨_, rfl, _, _, rfl, rfl, _, rfl, iteP (decide_eq_true (by omega)) ?_⟩
          rw [sg_pn hd (by omega) (by omega)] at q
          refine ⟨_, rfl, _, rfl, _, _, rfl, rfl, mulOk bi bi (by decide) (by decide) (by decide), _, rfl, _, rfl, _, _, rfl, rfl, mulOk bj bj (by decide) (by decide) (by decide), _, rfl, _, _, rfl, rfl, mulOk (bj.mul bj) (rootBd hd) (by decide) (by decide) (by decide), _, _, rfl, rfl, _, rfl, ite2 (fun h => ?_) (fun h => ?_)⟩
          · rw [if_pos (of_decide_eq_true h)] at q
            exact q
          · rw [if_neg (fun z => h (decide_eq_true z))] at q
            exact ⟨_, rfl, q⟩
      · refine ⟨_, rfl, _, _, rfl, rfl, _, rfl, iteN (nd_of hi) ?_⟩
        by_cases hj0 : j ≤ 0
        · rw [sg_nn hd (by omega) hj0 hpp] at q
          exact ⟨_, rfl, _, _, rfl, rfl, _, rfl, iteP (decide_eq_true (by omega)) ⟨_, rfl, _, _, rfl, rfl, _, rfl, iteP (decide_eq_true hj0) ⟨_, rfl, q⟩⟩⟩
        · refine ⟨_, rfl, _, _, rfl, rfl, _, rfl, iteP (decide_eq_true (by omega)) ⟨_, rfl, _, _, rfl, rfl, _, rfl, iteN (nd_of hj0) ?_⟩⟩
          refine ⟨_, rfl, _, _, rfl, rfl, _, rfl, iteN (nd_of (by omega)) ?_⟩
          rw [sg_np hd (by omega) (by omega)] at q
          refine ⟨_, rfl, _, rfl, _, _, rfl, rfl, mulOk bj bj (by decide) (by decide) (by decide), _, rfl, _, _, rfl, rfl, mulOk (bj.mul bj) (rootBd hd) (by decide) (by decide) (by decide), _, rfl, _, rfl, _, _, rfl, rfl, mulOk bi bi (by decide) (by decide) (by decide), _, _, rfl, rfl, _, rfl, ite2 (fun h => ?_) (fun h => ?_)⟩
          · rw [if_pos (of_decide_eq_true h)] at q
            exact q
          · rw [if_neg (fun z => h (decide_eq_true z))] at q
            exact ⟨_, rfl, q⟩
end
end RF

namespace RF
open PySem L2 PyProof.Rows
theorem Kp.at_ {b a : Addr} {H H' : Hp} {o : HO} (k : Kp b H H') (B : Bag H b) (h : H a = some o) (n : ∀ xs, o ≠ .lst xs) : H' a = some o := by
  obtain ⟨xs, hb⟩ := B.some
  exact k a o (ne_of h hb (n xs)) h
theorem SV.kp {H H' : Hp} {C p b : Addr} {d i j k : Int} (B : Bag H b) (kp : Kp b H H') (h : SV H C p d i j k) : SV H' C p d i j k := by
  obtain ⟨k0, dx, t, h1, h2⟩ := h
  exact ⟨k0, dx, t, kp.at_ B h1 (fun _ z => by cases z), kp.at_ B h2 (fun _ z => by cases z)⟩
theorem SV.ins {H : Hp} {C p : Addr} {d i j k : Int} (h : SV H C p d i j k) : ∃ dx fs, H p = some (.ins C dx fs) ∧ ∀ m : Str, ¬ m = "_parts" → ¬ m = "_root" → fs.lookup m = none := by
  obtain ⟨_, dx, t, h1, _⟩ := h
  exact ⟨dx, _, h1, fun m a b => sfl_no _ _ a b⟩
theorem flr_bd {n : Nat} {d f : Int} (hd : Root d) (h : Bd n f) : Bd (n + 3) (flr d f) := by
  have r0 := rt_nn (d * f * f)
  have r1 := rt_le (dff_nn hd (f := f))
  have h4 : rt (d * f * f) ≤ 4 * ab f := by
    apply le_of_sq (by have := ab_nn f; omega)
    have e : (4 * ab f) * (4 * ab f) = 16 * (f * f) := by unfold ab; split <;> grind
    have : d * f * f ≤ 16 * (f * f) := by
      rw [dff]
      exact Int.mul_le_mul_of_nonneg_right (by have := hd.le; omega) (sq_nonneg f)
    omega
  have ha : ab f = (f.natAbs : Int) := by unfold ab; split <;> omega
  unfold Bd at *
  have hp : 2 ^ (n + 3) = 8 * 2 ^ n := by rw [Nat.pow_add]; omega
  unfold flr
  split <;> omega
/-- a method of the class at C, by its promise -/
structure Mt (P : Program) (w : World) (K : PySem.W.Frag) (mg : Str → Option Value) (base : Heap) (C : Addr) (k : Nat) (m : Str) (ps : List Str) (sp : Sp) : Prop where
  ex : ∃ (f : Addr) (fd : FuncData), FnOk P w K mg base CX0 k f fd ps sp ∧ Meth K C m f ∧ Binds K fd ps []
theorem pe_mt0 {X : Cx} {j k : Nat} {C : Addr} {m : Str} {ps : List Str} {sp : Sp} {o : Expr} {pos apos : Pos} {ta : TE} {pl : Sem Bool} (he : PE X o ta) (c : Cls X.K C) (M : Mt X.prog X.w X.K X.mg X.base C k m ps sp) (hr : Room j X.A) (hk : k ≤ j)
    (ht : eval (.Call (.Attribute o m apos) [] [] pos) X.env = (do
      let ov ← eval o X.env
      standAt apos.atName
      let (f, first) ← holding [ov] (getMethod ov m pl)
      callWith pos f first (backTo pos (starEach [] X.env)) (backToKw pos (keywordEach [] X.env))) := by rfl) : PE X (.Call (.Attribute o m apos) [] [] pos) (tMeth C m sp [] E0 ta tNil) := by
  obtain ⟨f, fd, G, hm, b⟩ := M.ex
  exact pe_meth0 he c hm G (hr.mono hk) b .nil pass0 ht
theorem pe_mt {X : Cx} {j k : Nat} {C : Addr} {m : Str} {ps : List Str} {sp : Sp} {o e : Expr} {es : List Expr} {pos apos : Pos} {ta : TE} {t : TA} {pl : Sem Bool} (he : PE X o ta) (c : Cls X.K C) (M : Mt X.prog X.w X.K X.mg X.base C k m ps sp) (hr : Room j X.A) (hk : k ≤ j) (ha : PA X (e :: es) t)
    (h1 : starEach (e :: es) X.env = (false, eval e X.env) :: starEach es X.env := by rfl) (h2 : (backTo pos (starEach es X.env)).any (·.1) = false := by rfl)
    (ht : eval (.Call (.Attribute o m apos) (e :: es) [] pos) X.env = (do
      let ov ← eval o X.env
      standAt apos.atName
      let (f, first) ← holding [ov] (getMethod ov m pl)
      callWith pos f first (backTo pos (starEach (e :: es) X.env)) (backToKw pos (keywordEach [] X.env))) := by rfl) : PE X (.Call (.Attribute o m apos) (e :: es) [] pos) (tMeth C m sp [] E0 ta t) := by
  obtain ⟨f, fd, G, hm, b⟩ := M.ex
  exact pe_meth he c hm G (hr.mono hk) b .nil pass0 ha h1 h2 ht
end RF

namespace RF
theorem flS_scale {d i j k : Int} (k0 : 0 < k) (z : Int) : sg d (i - z * k) j = sg d (pI i j k - z * pK i j k) (pJ i j k) := by
  have hk : k ≠ 0 := by omega
  have gp : 0 < gs i j k := by
    have := gc_pos (i := i) (j := j) (k := k) hk
    unfold gs
    rw [if_neg (by omega)]
    exact this
  have a1 := pI_eq (i := i) (j := j) hk
  have a2 := pJ_eq (i := i) (j := j) hk
  have a3 := pK_eq (i := i) (j := j) hk
  have e := sg_mul (d := d) (i := pI i j k - z * pK i j k) (j := pJ i j k) gp
  rw [← e, ← a2]
  generalize gs i j k = g at *
  generalize pI i j k = x at *
  generalize pK i j k = y at *
  rw [show g * (x - z * y) = i - z * k by rw [a1, a3]; grind]
theorem flS_lo {d i j k : Int} (hd : Root d) (k0 : 0 < k) : 0 ≤ sg d (i - flS d i j k * k) j := by
  rw [flS_scale k0, sg_nonneg hd]
  have kp := pK_pos (i := i) (j := j) (k := k) (by omega)
  have h := Int.mul_ediv_add_emod (pI i j k + flr d (pJ i j k)) (pK i j k)
  have h2 := Int.emod_nonneg (pI i j k + flr d (pJ i j k)) (show pK i j k ≠ 0 by omega)
  unfold flS
  have e : (pI i j k + flr d (pJ i j k)) / pK i j k * pK i j k = pK i j k * ((pI i j k + flr d (pJ i j k)) / pK i j k) := Int.mul_comm _ _
  omega
theorem flS_hi {d i j k : Int} (hd : Root d) (k0 : 0 < k) : sg d (i - (flS d i j k + 1) * k) j < 0 := by
  have key : ¬ 0 ≤ sg d (i - (flS d i j k + 1) * k) j := by
    rw [flS_scale k0, sg_nonneg hd]
    have kp := pK_pos (i := i) (j := j) (k := k) (by omega)
    have h := Int.mul_ediv_add_emod (pI i j k + flr d (pJ i j k)) (pK i j k)
    have h2 := Int.emod_lt_of_pos (pI i j k + flr d (pJ i j k)) kp
    unfold flS
    have e : ((pI i j k + flr d (pJ i j k)) / pK i j k + 1) * pK i j k = pK i j k * ((pI i j k + flr d (pJ i j k)) / pK i j k) + pK i j k := by grind
    omega
  omega
theorem flS_bd {n : Nat} {d i j k : Int} (hd : Root d) (k0 : 0 < k) (bi : Bd n i) (bj : Bd n j) : Bd (n + 4) (flS d i j k) := by
  have hk : k ≠ 0 := by omega
  have ei : Bd n (pI i j k) := bi.le (pI_le hk)
  have ej : Bd n (pJ i j k) := bj.le (pJ_le hk)
  have kp := pK_pos (i := i) (j := j) (k := k) hk
  have b : Bd (n + 3 + 1) (pI i j k + flr d (pJ i j k)) := (ei.mono (by omega)).add (flr_bd hd ej)
  refine b.le ?_
  unfold flS
  exact Int.natAbs_ediv_le_natAbs _ _
theorem sg_self (d a b : Int) : sg d (a - a) (b - b) = 0 := by
  rw [Int.sub_self, Int.sub_self]
  unfold sg sgb ab
  simp
theorem lfl1 (d j : Int) : lfl d 0 j 1 1 = flr d j := by
  unfold lfl
  simp
end RF

namespace RF
open PySem L2 PyProof.Rows
abbrev n_law : List Str := ["_law_script", "_law_bag_here", "_law_turn", "_law_root_here", "_law_many", "_law_j", "_law_near", "_law_i", "_law_k_z", "_law_m", "_law_one", "_law_found", "_law_negated", "_law_c", "_law_d", "_law_other", "_law_due"]
theorem sc_law : FnScope n_law ["_law_script"] (defScope (top 29)) := ⟨rfl, rfl, rfl, by decide +kernel, rfl, by decide +kernel, by decide +kernel⟩
theorem bd1 {n : Nat} {i : Int} (h : i.natAbs ≤ 2 ∧ 2 ≤ n) : Bd n i := Nat.lt_of_le_of_lt h.1 (Nat.lt_of_lt_of_le (by decide : 2 < 2 ^ 2) (Nat.pow_le_pow_right (by decide) h.2))
def spLaw (K : PySem.W.Frag) : Sp := fun vs H Q _ => ∃ (a : Addr) (ns : List Int), vs = [.ref a] ∧ SqL K H a (ns.map V.int) ∧ ns.length ≤ 63 ∧ ∀ H', Q (.bl true) H'
/-- the defs and the class that the law calls -/
structure Env1 (P : Program) (w : World) (K : PySem.W.Frag) (mg : Str → Option Value) (base : Heap) (C : Addr) : Prop where
  bag : Df P w K mg base 9 "_law_bag" ["_law_script"] (spBag K)
  pull : Df P w K mg base 9 "_law_pull" ["_law_bag_here", "_law_sides"] spPull
  of_ : Df P w K mg base 9 "_law_of" ["_law_bag_here", "_law_some"] (spOf K)
  root : Df P w K mg base 9 "_law_root" ["_law_bag_here"] spRoot
  far : Df P w K mg base 9 "_law_far" ["_law_bag_here", "_law_figures"] spFar
  same : Df P w K mg base 9 "_law_same" ["_law_found", "_law_due"] (spSame K 5)
  lfl : Df P w K mg base 9 "_law_floor" ["_law_root_here", "_law_slope", "_law_number"] (spLFl K)
  lsg : Df P w K mg base 9 "_law_sign" ["_law_root_here", "_law_i", "_law_j"] spLSg
  T : TxS K mg C
  mkS : MkS P w K mg base C 8
  sign : Mt P w K mg base C 9 "sign" ["self"] (spSign C)
  floor : Mt P w K mg base C 9 "floor" ["self"] (spFlS C)
  cmp : Mt P w K mg base C 9 "compared" ["self", "other"] (spCmpS C)
  sub : ∃ f, FnR P w K mg base CX0 9 f (spSubS C) ∧ OwnOp K C f "__sub__"
  bool : ∃ f, FnR P w K mg base CX0 7 f (spBoolS C) ∧ PySem.W.findIn K (.ref C) "__bool__" = some (some (.ref f)) ∧ PySem.W.isFn K (.ref f) = true
  eq : ∃ (f : Addr) (fd : FuncData), FnOk P w K mg base CX0 9 f fd ["self", "other"] (spEq (EqS C)) ∧ PySem.W.findIn K (.ref C) "__eq__" = some (some (.ref f)) ∧ PySem.W.isFn K (.ref f) = true ∧ Binds K fd ["self", "other"] []
  ofs : ∃ (g p : Addr) (mc : Value), FnR P w K mg base CX0 9 g (spOfSlope K C) ∧ ClX.CRead K C mc ∧ SMet K C mc "of_slope" p g
  range : mg "range" = none
  mbool : mg "bool" = none
section
variable {P : Program} {w : World} {K : PySem.W.Frag} {mg : Str → Option Value} {base : Heap}
theorem ok_law {f C : Addr} {fd : FuncData} (F : Fun K "law" "law" (top 29) f fd) (e : Env1 P w K mg base C) : FnOk P w K mg base CX0 10 f fd ["_law_script"] (spLaw K) := by
  refine F.ok sc_law (fun vs H Q E h => ?_) (fun cdv A outer s H vs Q E hr h => ?_)
  · obtain ⟨a, ns, rfl, _⟩ := h
    rfl
  · obtain ⟨a, ns, rfl, hS, hl, kk⟩ := h
    have nd := sc_law.nd
    obtain ⟨fi, fdi, M1, G, kb, ⟨ds1, vd1, b1⟩, _⟩ := e.mkS.ex
    obtain ⟨fsb, GS, OS⟩ := e.sub
    obtain ⟨fbo, GB, OB1, OB2⟩ := e.bool
    obtain ⟨feq, fdeq, GE, OE1, OE2, bE⟩ := e.eq
    obtain ⟨go, po, mc, GO, cr, sm0⟩ := e.ofs
    have T := e.T
    refine ⟨_, (pss_cons (ps_set (i := 1) nd rfl (Or.inl rfl) (pe_callD e.bag hr (by decide) (pa_cons (pv 0) pa_nil)))
      (pss_cons (ps_for PassesOwn.never rfl (pi_range1 rfl e.range (pa_cons pe_int pa_nil)) (pg_name (i := 2) nd rfl (Or.inl rfl))
      (pss_cons (ps_par (i := 3) (j := 4) rfl nd rfl rfl (by decide) rfl rfl (pa_cons (pe_callD e.root hr (by decide) (pa_cons (pv 1) pa_nil)) (pa_cons (pe_callD e.of_ hr (by decide) (pa_cons (pv 1) (pa_cons (pe_lst (pa_cons pe_int (pa_cons pe_int (pa_cons pe_int pa_nil)))) pa_nil))) pa_nil)) (by kernel_rfl))
        (pss_cons (ps_set (i := 5) nd rfl (Or.inl rfl) (pe_op op_mulW (pe_callD e.far hr (by decide) (pa_cons (pv 1) (pa_cons (pv 4) pa_nil))) (pe_callD e.of_ hr (by decide) (pa_cons (pv 1) (pa_cons (pe_lst (pa_cons pe_int (pa_cons (pe_un un_neg pe_int) (pa_cons pe_int (pa_cons pe_int pa_nil))))) pa_nil)))))
        (pss_cons (ps_set (i := 6) nd rfl (Or.inl rfl) (pe_op op_sub (pe_op op_add (pe_callD e.lfl hr (by decide) (pa_cons (pv 3) (pa_cons (pe_tup (pa_cons pe_int (pa_cons (pe_un un_neg (pv 5)) (pa_cons pe_int pa_nil)))) (pa_cons pe_int pa_nil)))) (pe_callD e.pull hr (by decide) (pa_cons (pv 1) (pa_cons pe_int pa_nil)))) pe_int))
        (pss_cons (ps_set (i := 7) nd rfl (Or.inl rfl) (pe_callD e.of_ hr (by decide) (pa_cons (pv 1) (pa_cons (pe_lst (pa_cons (pv 6) (pa_cons (pv 6) (pa_cons (pe_callD e.far hr (by decide) (pa_cons (pv 1) (pa_cons (pv 4) pa_nil))) (pa_cons (pe_un un_neg (pe_callD e.far hr (by decide) (pa_cons (pv 1) (pa_cons (pv 4) pa_nil)))) (pa_cons pe_int pa_nil)))))) pa_nil))))
        (pss_cons (ps_par (i := 8) (j := 9) rfl nd rfl rfl (by decide) rfl rfl (pa_cons (pe_op op_add pe_int (pe_callD e.pull hr (by decide) (pa_cons (pv 1) (pa_cons pe_int pa_nil)))) (pa_cons (pe_op op_add pe_int (pe_callD e.pull hr (by decide) (pa_cons (pv 1) (pa_cons pe_int pa_nil)))) pa_nil)) (by kernel_rfl))
        (pss_cons (ps_set (i := 10) nd rfl (Or.inl rfl) (pe_makeK M1 G hr rfl T.mg kb pass0 (pa_cons (pv 3) (pa_cons (pv 7) (pa_cons (pv 5) pa_nil))) (pk_cons (pv 8) pk_nil)))
        (pss_cons (ps_set (i := 11) nd rfl (Or.inl rfl) (pe_mt0 (pv 10) T.cl e.floor hr (by decide)))
        (pss_cons (ps_if (pw_or (pt_not (pt_val (pe_callD e.same hr (by decide) (pa_cons (pe_mt0 (pv 10) T.cl e.sign hr (by decide)) (pa_cons (pe_callD e.lsg hr (by decide) (pa_cons (pv 3) (pa_cons (pv 7) (pa_cons (pv 5) pa_nil)))) pa_nil))))) (pw_or1 (pt_not (pt_val (pe_callD e.same hr (by decide) (pa_cons (pv 11) (pa_cons (pe_op op_add (pv 11) pe_int) pa_nil))))))).pt
        (pss_one ps_never)
        pss_nil)
        (pss_cons (ps_if (pw_or (pt_cmpR op_lt (pe_callD e.lsg hr (by decide) (pa_cons (pv 3) (pa_cons (pe_op op_sub (pv 7) (pe_op op_mulW (pv 11) (pv 8))) (pa_cons (pv 5) pa_nil)))) pe_int (nomark _)) (pw_or1 (pt_cmpR op_ge (pe_callD e.lsg hr (by decide) (pa_cons (pv 3) (pa_cons (pe_op op_sub (pv 7) (pe_op op_mulW (pe_op op_add (pv 11) pe_int) (pv 8))) (pa_cons (pv 5) pa_nil)))) pe_int (nomark _)))).pt
        (pss_one ps_never)
        pss_nil)
        (pss_cons (ps_set (i := 12) nd rfl (Or.inl rfl) (pe_makeK M1 G hr rfl T.mg kb pass0 (pa_cons (pv 3) (pa_cons (pe_un un_neg (pv 7)) (pa_cons (pe_un un_neg (pv 5)) pa_nil))) (pk_cons (pe_un un_neg (pv 8)) pk_nil)))
        (pss_cons (ps_if (pt_not (pt_val (pe_callD e.same hr (by decide) (pa_cons (pe_lst (pa_cons (pe_mt0 (pv 12) T.cl e.sign hr (by decide)) (pa_cons (pe_mt0 (pv 12) T.cl e.floor hr (by decide)) (pa_cons (pe_mt (pv 12) T.cl e.cmp hr (by decide) (pa_cons (pv 10) pa_nil)) (pa_cons (pe_callTy (call_bool_own GB (hr.mono (by decide)) OB1 OB2 pass0) (by rfl) e.mbool (by decide +kernel) (pa_cons (pe_op (op_own (op := .Sub) GS hr OS pass0) (pv 10) (pv 12)) pa_nil)) pa_nil))))) (pa_cons (pe_lst (pa_cons (pe_mt0 (pv 10) T.cl e.sign hr (by decide)) (pa_cons (pv 11) (pa_cons pe_int (pa_cons pe_bl pa_nil))))) pa_nil)))))
        (pss_one ps_never)
        pss_nil)
        (pss_cons (ps_par (i := 13) (j := 14) rfl nd rfl rfl (by decide) rfl rfl (pa_cons (pe_op op_sub (pe_op op_add (pv 7) (pe_callD e.pull hr (by decide) (pa_cons (pv 1) (pa_cons pe_int pa_nil)))) pe_int) (pa_cons (pe_op op_sub (pe_op op_add (pv 5) (pe_callD e.pull hr (by decide) (pa_cons (pv 1) (pa_cons pe_int pa_nil)))) pe_int) pa_nil)) (by kernel_rfl))
        (pss_cons (ps_set (i := 15) nd rfl (Or.inl rfl) (pe_makeK M1 G hr rfl T.mg kb pass0 (pa_cons (pv 3) (pa_cons (pv 13) (pa_cons (pv 14) pa_nil))) (pk_cons (pv 9) pk_nil)))
        (pss_cons (ps_set (i := 16) nd rfl (Or.inl rfl) (pe_callD e.lsg hr (by decide) (pa_cons (pv 3) (pa_cons (pe_op op_sub (pe_op op_mulW (pv 7) (pv 9)) (pe_op op_mulW (pv 13) (pv 8))) (pa_cons (pe_op op_sub (pe_op op_mulW (pv 5) (pv 9)) (pe_op op_mulW (pv 14) (pv 8))) pa_nil)))))
        (pss_one (ps_if (pt_not (pt_val (pe_callD e.same hr (by decide) (pa_cons (pe_lst (pa_cons (pe_mt (pv 10) T.cl e.cmp hr (by decide) (pa_cons (pv 15) pa_nil)) (pa_cons (pe_mt (pv 15) T.cl e.cmp hr (by decide) (pa_cons (pv 10) pa_nil)) (pa_cons (pe_mt (pv 10) T.cl e.cmp hr (by decide) (pa_cons (pv 10) pa_nil)) pa_nil)))) (pa_cons (pe_lst (pa_cons (pv 16) (pa_cons (pe_un un_neg (pv 16)) (pa_cons pe_int pa_nil)))) pa_nil)))))
        (pss_one ps_never)
        pss_nil)))))))))))))))))
      (pss_one (ps_ret (pe_and (pe_cmpR (op_eqG (rcG_ins GE OE1 OE2 bE pass0) hr) (pe_smeth (pe_glob (v := .ref C) (by rfl) T.mg rfl) cr sm0 GO hr pass0 (pa_cons pe_int (pa_cons (pe_tup (pa_cons pe_int (pa_cons pe_int (pa_cons pe_int pa_nil)))) pa_nil))) (pe_makeK M1 G hr rfl T.mg kb pass0 (pa_cons pe_int (pa_cons pe_int (pa_cons pe_int pa_nil))) (pk_cons pe_int pk_nil)) (nomark _)) (pe_one (pe_cmpR op_eq (pe_mt0 (pe_make M1 G hr rfl T.mg b1 vd1 pass0 (pa_cons pe_int (pa_cons (pe_un un_neg pe_int) (pa_cons pe_int pa_nil)))) T.cl e.floor hr (by decide)) pe_int (nomark _)))))))), ?_⟩
    refine ⟨_, rfl, a, ns, rfl, hS, hl, fun b H1 nb B1 sm1 => ?_⟩
    refine ⟨6, rfl, by decide, by decide, for_range (n := 6) (fun _ σ H' => ∃ v2 v3 v4 v5 v6 v7 v8 v9 v10 v11 v12 v13 v14 v15 v16 : Option V,
        σ = [some (.ref a), some (.ref b), v2, v3, v4, v5, v6, v7, v8, v9, v10, v11, v12, v13, v14, v15, v16] ∧ Bag H' b)
      ⟨none, none, none, none, none, none, none, none, none, none, none, none, none, none, none, rfl, B1⟩ ?_ ?_⟩
    · rintro i0 σ H2 hi0 ⟨v2, v3, v4, v5, v6, v7, v8, v9, v10, v11, v12, v13, v14, v15, v16, rfl, B2⟩
      -- root, many
      refine ⟨_, rfl, b, rfl, B2, fun d H3 hd0 B3 kp3 => ?_⟩
      have hd : Root d := by unfold Root; omega
      refine ⟨_, rfl, by show 3 ≤ sizeLine; decide, fun p hp => ?_⟩
      obtain ⟨_, hb3⟩ := B3.some
      refine ⟨b, p, _, rfl, B3.same (sNew (Same.refl _) hp), SqL.of upd_same, (ne_of_none hb3 hp).symm, by decide, by decide, fun v H4 hv B4 kp4 => ?_⟩
      obtain ⟨mm, rfl, hm⟩ : ∃ mm, v = V.int mm ∧ (mm = 1 ∨ mm = 2 ∨ mm = 40) := by
        simp only [List.mem_cons, List.not_mem_nil, or_false] at hv
        rcases hv with rfl | rfl | rfl <;> exact ⟨_, rfl, by omega⟩
      refine ⟨_, _, rfl, ?_⟩
      have farB : ∀ n : Int, 0 ≤ n → n < 10 ^ mm.toNat → Bd 134 n := fun n h0 h1 => by
        unfold Bd
        rcases hm with rfl | rfl | rfl <;> (simp at h1; omega)
      -- j
      refine ⟨_, rfl, _, rfl, b, mm, rfl, B4, by omega, by omega, fun n H5 n0 n1 B5 kp5 => ?_⟩
      refine ⟨_, rfl, _, rfl, by show 4 ≤ sizeLine; decide, fun p2 hp2 => ?_⟩
      obtain ⟨_, hb5⟩ := B5.some
      refine ⟨b, p2, _, rfl, B5.same (sNew (Same.refl _) hp2), SqL.of upd_same, (ne_of_none hb5 hp2).symm, by decide, by decide, fun v H6 hv B6 kp6 => ?_⟩
      obtain ⟨e1, rfl, he1⟩ : ∃ e1, v = V.int e1 ∧ Bd 1 e1 := by
        simp only [List.mem_cons, List.not_mem_nil, or_false] at hv
        rcases hv with rfl | rfl | rfl | rfl <;> exact ⟨_, rfl, by unfold Bd; decide⟩
      have bn := farB n n0 n1
      refine ⟨_, _, rfl, rfl, mulOk bn he1 (by decide) (by decide) (by decide), ?_⟩
      have bj : Bd 135 (n * e1) := bn.mul he1
      dsimp only
      generalize n * e1 = j at *
      -- near
      refine ⟨_, rfl, _, rfl, _, rfl, by show 3 ≤ sizeLine; decide, fun t ht => ?_⟩
      have B6' := B6.same (sNew (o := .tup [.int 0, .int (-j), .int 1]) (Same.refl _) ht)
      refine ⟨d, 0, -j, 1, 1, .ref t, rfl, hd, ⟨t, _, rfl, SqT.of upd_same, by show 3 ≤ 100000; decide, _, _, rfl, rfl, _, _, rfl, rfl, _, _, rfl, rfl, rfl⟩, by decide, by decide, bd1 (by decide), bj.neg.mono (by decide), bd1 (by decide), ?_⟩
      rw [lfl1]
      refine ⟨_, rfl, b, 5, rfl, B6', by decide, by decide, fun u H7 u0 u1 B7 kp7 => ?_⟩
      refine ⟨_, _, rfl, rfl, _, _, rfl, rfl, ?_⟩
      have bnear : Bd 140 (flr d (-j) + u - 2) := by
        have h := flr_bd hd bj.neg
        unfold Bd at *
        have e : (2 : Nat) ^ 140 = 4 * 2 ^ 138 := by rw [show 140 = 138 + 2 by rfl, Nat.pow_add]
        have e2 : (2 : Nat) ^ 138 > 1000 := by decide
        omega
      dsimp only
      generalize flr d (-j) + u - 2 = near at *
      -- i
      refine ⟨_, rfl, _, rfl, _, rfl, _, rfl, _, rfl, b, mm, rfl, B7, by omega, by omega, fun n2 H8 n20 n21 B8 kp8 => ?_⟩
      refine ⟨_, rfl, _, rfl, b, mm, rfl, B8, by omega, by omega, fun n3 H9 n30 n31 B9 kp9 => ⟨_, rfl, by show 5 ≤ sizeLine; decide, fun p3 hp3 => ?_⟩⟩
      obtain ⟨_, hb9⟩ := B9.some
      refine ⟨b, p3, _, rfl, B9.same (sNew (Same.refl _) hp3), SqL.of upd_same, (ne_of_none hb9 hp3).symm, by show 0 < 5; decide, by show 5 < 1000000; decide, fun v H10 hv B10 kp10 => ?_⟩
      obtain ⟨i, rfl, bi⟩ : ∃ i, v = V.int i ∧ Bd 140 i := by
        simp only [List.mem_cons, List.not_mem_nil, or_false] at hv
        rcases hv with rfl | rfl | rfl | rfl | rfl
        · exact ⟨_, rfl, bnear⟩
        · exact ⟨_, rfl, bnear⟩
        · exact ⟨_, rfl, (farB n2 n20 n21).mono (by decide)⟩
        · exact ⟨_, rfl, (farB n3 n30 n31).neg.mono (by decide)⟩
        · exact ⟨_, rfl, bd1 (by decide)⟩
      have bj : Bd 140 j := bj.mono (by decide)
      -- k, m
      refine ⟨_, rfl, b, 9, rfl, B10, by decide, by decide, fun u2 H11 u20 u21 B11 kp11 => ⟨_, _, rfl, rfl, ?_⟩⟩
      refine ⟨_, rfl, b, 9, rfl, B11, by decide, by decide, fun u3 H12 u30 u31 B12 kp12 => ⟨_, _, rfl, rfl, _, _, rfl, ?_⟩⟩
      have k0 : 0 < 1 + u2 := by omega
      have bk : Bd 4 (1 + u2) := by unfold Bd; omega
      have m0 : 0 < 1 + u3 := by omega
      have bm : Bd 4 (1 + u3) := by unfold Bd; omega
      dsimp only
      generalize 1 + u2 = k at *
      generalize 1 + u3 = m at *
      -- one
      refine ⟨_, rfl, _, rfl, _, rfl, _, rfl, rfl, rfl, fun x dx nx ndx nex => ?_⟩
      refine ⟨x, dx, d, i, j, k, rfl, upd_same, hd, by omega, bi.mono (by decide), bj.mono (by decide), bk.mono (by decide), fun H13 S1 kq13 => ⟨rfl, ?_⟩⟩
      have sm13 := Same.made nx ndx kq13
      have S1 : SV H13 C x d i j k := ⟨by omega, S1⟩
      have B13 := B12.same sm13
      obtain ⟨dxo, fso, hins, hno⟩ := S1.ins
      have nfl := hno "floor" (by decide +kernel) (by decide +kernel)
      have nsg := hno "sign" (by decide +kernel) (by decide +kernel)
      have ncm := hno "compared" (by decide +kernel) (by decide +kernel)
      refine ⟨_, rfl, x, dxo, fso, rfl, hins, nfl, x, d, i, j, k, rfl, S1, hd, bi.mono (by decide), bj.mono (by decide), bk.mono (by decide), ?_⟩
      have bfl : Bd 144 (flS d i j k) := flS_bd hd k0 bi bj
      have f1 := flS_lo (i := i) (j := j) hd k0
      have f2 := flS_hi (i := i) (j := j) hd k0
      -- not same(sign, sign) or not same(found, found + 0)
      refine ⟨_, rfl, x, dxo, fso, rfl, hins, nsg, x, d, i, j, k, rfl, S1, k0, hd, bi.mono (by decide), bj.mono (by decide), _, rfl, _, rfl, _, rfl, d, i, j, rfl, hd, bi.mono (by decide), bj.mono (by decide), ?_⟩
      refine ⟨_, _, .int (sg d i j), rfl, rfl, rfl, Nat.zero_le _, fun H14 sm14 => ⟨_, rfl, iteF ?_⟩⟩
      refine ⟨_, rfl, _, rfl, _, _, rfl, rfl, _, _, .int (flS d i j k), rfl, rfl, congrArg V.int (Int.add_zero _), Nat.zero_le _, fun H15 sm15 => ⟨_, rfl, iteF ?_⟩⟩
      -- the floor's place
      dsimp only
      generalize hfl : flS d i j k = fl at *
      refine ⟨_, rfl, _, rfl, _, rfl, _, rfl, _, _, rfl, rfl, mulOk bfl bk (by decide) (by decide) (by decide), _, _, rfl, rfl, _, rfl, d, _, _, rfl, hd, ?_, bj.mono (by decide), _, _, rfl, rfl, _, rfl, iteN (nd_of (by omega)) ?_⟩
      · rw [Int.sub_eq_add_neg]
        exact ((bi.mono (by decide)).add (bfl.mul bk).neg).mono (by decide)
      refine ⟨_, rfl, _, rfl, _, rfl, _, _, rfl, rfl, _, rfl, _, _, rfl, rfl, mulOk (bfl.add (bd1 (by decide) : Bd 144 1)) bk (by decide) (by decide) (by decide), _, _, rfl, rfl, _, rfl, d, _, _, rfl, hd, ?_, bj.mono (by decide), _, _, rfl, rfl, _, rfl, iteN (nd_of (by omega)) ?_⟩
      · rw [Int.sub_eq_add_neg]
        exact ((bi.mono (by decide)).add ((bfl.add (bd1 (by decide) : Bd 144 1)).mul bk).neg).mono (by decide)
      -- negated
      have S15 := (S1.same sm14).same sm15
      refine ⟨_, rfl, _, rfl, _, rfl, _, rfl, _, rfl, _, rfl, _, rfl, rfl, rfl, fun y dy ny ndy ney => ?_⟩
      refine ⟨y, dy, d, -i, -j, -k, rfl, upd_same, hd, by omega, bi.neg.mono (by decide), bj.neg.mono (by decide), bk.neg.mono (by decide), fun H16 S2 kq16 => ⟨rfl, ?_⟩⟩
      have sm16 := Same.made ny ndy kq16
      have S2 : SV H16 C y d i j k := SV.cong ⟨by omega, S2⟩ (by omega) (by grind) (by grind)
      have S16 := S15.same sm16
      have B16 := ((B13.same sm14).same sm15).same sm16
      obtain ⟨dxn, fsn, hinn, hnn⟩ := S2.ins
      have mfl := hnn "floor" (by decide +kernel) (by decide +kernel)
      have msg := hnn "sign" (by decide +kernel) (by decide +kernel)
      have mcm := hnn "compared" (by decide +kernel) (by decide +kernel)
      obtain ⟨dxq, fsq, hinq, hnq⟩ := S16.ins
      refine ⟨_, rfl, y, dxn, fsn, rfl, hinn, msg, y, d, i, j, k, rfl, S2, k0, hd, bi.mono (by decide), bj.mono (by decide), ?_⟩
      refine ⟨_, rfl, y, dxn, fsn, rfl, hinn, mfl, y, d, i, j, k, rfl, S2, hd, bi.mono (by decide), bj.mono (by decide), bk.mono (by decide), ?_⟩
      rw [hfl]
      refine ⟨_, rfl, y, dxn, fsn, rfl, hinn, mcm, _, rfl, y, x, d, i, j, k, i, j, k, rfl, S2, S16, k0, k0, hd, bi.mono (by decide), bj.mono (by decide), bk.mono (by decide), bi.mono (by decide), bj.mono (by decide), bk.mono (by decide), fun H17 sm17 => ?_⟩
      rw [sg_self]
      refine ⟨_, rfl, _, rfl, x, y, dxq, dxn, _, _, rfl, rfl, sm17 _ _ hinq, sm17 _ _ hinn, x, y, d, i, j, k, i, j, k, rfl, S16.same sm17, S2.same sm17, hd, bi.mono (by decide), bj.mono (by decide), bk.mono (by decide), bi.mono (by decide), bj.mono (by decide), bk.mono (by decide), fun z H18 nz Sz sm18 => ?_⟩
      obtain ⟨dxz, fsz, hinz, _⟩ := Sz.ins
      refine ⟨z, dxz, fsz, rfl, hinz, z, d, _, _, _, rfl, Sz, Int.mul_pos k0 k0, hd, ?_, ?_, false, by rw [sg_self]; rfl, ?_⟩
      · rw [Int.sub_self]; unfold Bd; decide
      · rw [Int.sub_self]; unfold Bd; decide
      refine ⟨by show 4 ≤ sizeLine; decide, fun q1 hq1 => ?_⟩
      have sm19 := sNew (o := .lst [.int (sg d i j), .int fl, .int 0, .bl false]) (sm17.trans sm18) hq1
      refine ⟨_, rfl, x, dxq, fsq, rfl, sm19 _ _ hinq, hnq "sign" (by decide +kernel) (by decide +kernel), x, d, i, j, k, rfl, S16.same sm19, k0, hd, bi.mono (by decide), bj.mono (by decide), _, rfl, by show 4 ≤ sizeLine; decide, fun q2 hq2 => ?_⟩
      have nq : q1 ≠ q2 := (ne_new hq2).symm |> fun _ => ne_of_none upd_same hq2
      refine ⟨.ref q1, .ref q2, .lst [.int (sg d i j), .int fl, .int 0, .bl false], rfl, ⟨q1, _, rfl, SqL.of (by rw [upd_ne nq, upd_same]), by show 4 ≤ 100000; decide, _, _, rfl, rfl, _, _, rfl, rfl, _, _, rfl, rfl, _, _, rfl, rfl, rfl⟩,
        ⟨q2, _, rfl, SqL.of upd_same, by show 4 ≤ 100000; decide, _, _, rfl, rfl, _, _, rfl, rfl, _, _, rfl, rfl, _, _, rfl, rfl, rfl⟩, by show 1 ≤ 5; decide, fun H20 sm20 => ⟨_, rfl, iteF ?_⟩⟩
      have sm21 := (sNew (o := .lst [.int (sg d i j), .int fl, .int 0, .bl false]) sm19 hq2).trans sm20
      have S21 := S16.same sm21
      have B21 := B16.same sm21
      -- c, d
      refine ⟨_, rfl, _, rfl, b, 3, rfl, B21, by decide, by decide, fun u4 H22 u40 u41 B22 kp22 => ⟨_, _, rfl, rfl, _, _, rfl, rfl, ?_⟩⟩
      refine ⟨_, rfl, _, rfl, b, 3, rfl, B22, by decide, by decide, fun u5 H23 u50 u51 B23 kp23 => ⟨_, _, rfl, rfl, _, _, rfl, rfl, _, _, rfl, ?_⟩⟩
      have S23 := (S21.kp B21 kp22).kp B22 kp23
      have bc : Bd 143 (i + u4 - 1) := by
        unfold Bd at *
        have e : (2 : Nat) ^ 143 = 8 * 2 ^ 140 := by rw [show 143 = 140 + 3 by rfl, Nat.pow_add]
        have e2 : (2 : Nat) ^ 140 > 1000 := by decide
        omega
      have bd : Bd 143 (j + u5 - 1) := by
        unfold Bd at *
        have e : (2 : Nat) ^ 143 = 8 * 2 ^ 140 := by rw [show 143 = 140 + 3 by rfl, Nat.pow_add]
        have e2 : (2 : Nat) ^ 140 > 1000 := by decide
        omega
      dsimp only
      generalize i + u4 - 1 = c at *
      generalize j + u5 - 1 = dd at *
      -- other
      refine ⟨_, rfl, _, rfl, _, rfl, _, rfl, rfl, rfl, fun o dxx no ndo neo => ?_⟩
      refine ⟨o, dxx, d, c, dd, m, rfl, upd_same, hd, by omega, bc.mono (by decide), bd.mono (by decide), bm.mono (by decide), fun H24 S3 kq24 => ⟨rfl, ?_⟩⟩
      have sm24 := Same.made no ndo kq24
      have S3 : SV H24 C o d c dd m := ⟨by omega, S3⟩
      have S24 := S23.same sm24
      have B24 := B23.same sm24
      -- due
      refine ⟨_, rfl, _, rfl, _, rfl, _, _, rfl, rfl, mulOk bi bm (by decide) (by decide) (by decide), _, rfl, _, rfl, _, _, rfl, rfl, mulOk bc bk (by decide) (by decide) (by decide), _, _, rfl, rfl, _, rfl, _, rfl, _, _, rfl, rfl, mulOk bj bm (by decide) (by decide) (by decide), _, rfl, _, rfl, _, _, rfl, rfl, mulOk bd bk (by decide) (by decide) (by decide), _, _, rfl, rfl, ?_⟩
      refine ⟨d, _, _, rfl, hd, ?_, ?_, ?_⟩
      · rw [Int.sub_eq_add_neg]
        exact (((bi.mul bm).mono (by decide : 140 + 4 ≤ 147)).add (bc.mul bk).neg).mono (by decide)
      · rw [Int.sub_eq_add_neg]
        exact (((bj.mul bm).mono (by decide : 140 + 4 ≤ 147)).add (bd.mul bk).neg).mono (by decide)
      obtain ⟨dx1, fs1, hin1, hn1⟩ := S24.ins
      obtain ⟨dx3, fs3, hin3, hn3⟩ := S3.ins
      have c1 := hn1 "compared" (by decide +kernel) (by decide +kernel)
      have c3 := hn3 "compared" (by decide +kernel) (by decide +kernel)
      refine ⟨_, rfl, x, dx1, fs1, rfl, hin1, c1, _, rfl, x, o, d, i, j, k, c, dd, m, rfl, S24, S3, k0, m0, hd, bi.mono (by decide), bj.mono (by decide), bk.mono (by decide), bc.mono (by decide), bd.mono (by decide), bm.mono (by decide), fun H25 sm25 => ?_⟩
      refine ⟨_, rfl, o, dx3, fs3, rfl, sm25 _ _ hin3, c3, _, rfl, o, x, d, c, dd, m, i, j, k, rfl, S3.same sm25, S24.same sm25, m0, k0, hd, bc.mono (by decide), bd.mono (by decide), bm.mono (by decide), bi.mono (by decide), bj.mono (by decide), bk.mono (by decide), fun H26 sm26 => ?_⟩
      have S26 := (S24.same sm25).same sm26
      refine ⟨_, rfl, x, dx1, fs1, rfl, sm26 _ _ (sm25 _ _ hin1), c1, _, rfl, x, x, d, i, j, k, i, j, k, rfl, S26, S26, k0, k0, hd, bi.mono (by decide), bj.mono (by decide), bk.mono (by decide), bi.mono (by decide), bj.mono (by decide), bk.mono (by decide), fun H27 sm27 => ?_⟩
      rw [sg_self]
      have en : sg d (c * k - i * m) (dd * k - j * m) = -sg d (i * m - c * k) (j * m - dd * k) := by
        rw [← sg_neg, show -(i * m - c * k) = c * k - i * m by omega, show -(j * m - dd * k) = dd * k - j * m by omega]
      rw [en]
      generalize sg d (i * m - c * k) (j * m - dd * k) = due at *
      refine ⟨by show 3 ≤ sizeLine; decide, fun q3 hq3 => ?_⟩
      refine ⟨_, rfl, _, rfl, _, rfl, by show 3 ≤ sizeLine; decide, fun q4 hq4 => ?_⟩
      have nq4 : q3 ≠ q4 := ne_of_none upd_same hq4
      refine ⟨.ref q3, .ref q4, .lst [.int due, .int (-due), .int 0], rfl, ⟨q3, _, rfl, SqL.of (by rw [upd_ne nq4, upd_same]), by show 3 ≤ 100000; decide, _, _, rfl, rfl, _, _, rfl, rfl, _, _, rfl, rfl, rfl⟩,
        ⟨q4, _, rfl, SqL.of upd_same, by show 3 ≤ 100000; decide, _, _, rfl, rfl, _, _, rfl, rfl, _, _, rfl, rfl, rfl⟩, by show 1 ≤ 5; decide, fun H28 sm28 => ⟨_, rfl, iteF ?_⟩⟩
      have sm29 := (sNew (o := .lst [.int due, .int (-due), .int 0]) (sNew (o := .lst [.int due, .int (-due), .int 0]) ((sm25.trans sm26).trans sm27) hq3) hq4).trans sm28
      exact ⟨_, _, _, _, _, _, _, _, _, _, _, _, _, _, _, rfl, B24.same sm29⟩
    · rintro σ H2 ⟨v2, v3, v4, v5, v6, v7, v8, v9, v10, v11, v12, v13, v14, v15, v16, rfl, B2⟩
      refine ⟨rfl, by show 3 ≤ sizeLine; decide, fun t ht => ?_⟩
      refine ⟨5, 1, 1, 2, .ref t, rfl, .inr (.inr (.inl rfl)), ⟨t, _, rfl, SqT.of upd_same, by decide, _, _, rfl, rfl, _, _, rfl, rfl, _, _, rfl, rfl, rfl⟩, by decide, fun x H3 nx Sx sm3 => ?_⟩
      refine ⟨rfl, rfl, fun y dy ny ndy ney => ?_⟩
      refine ⟨y, dy, 5, 1, 1, 2, rfl, upd_same, .inr (.inr (.inl rfl)), by decide, bd1 (by decide), bd1 (by decide), bd1 (by decide), fun H4 Sy kq4 => ⟨rfl, ?_⟩⟩
      have sm4 := Same.made ny ndy kq4
      have Sy : SV H4 C y 5 1 1 2 := ⟨by decide, Sy⟩
      have Sx4 := Sx.same sm4
      obtain ⟨dx1, fs1, hi1, _⟩ := Sx4.ins
      obtain ⟨dx2, fs2, hi2, _⟩ := Sy.ins
      refine ⟨⟨x, y, dx1, dx2, fs1, fs2, rfl, rfl, hi1, hi2, 5, 1, 1, 2, Sx4, Sy⟩, fun H5 sm5 => ⟨_, rfl, iteP rfl ?_⟩⟩
      refine ⟨_, rfl, fun z dz nz ndz nez => ?_⟩
      refine ⟨z, dz, 2, -1, 1, 1, rfl, upd_same, .inl rfl, by decide, bd1 (by decide), bd1 (by decide), bd1 (by decide), fun H6 Sz kq6 => ⟨rfl, ?_⟩⟩
      have Sz : SV H6 C z 2 (-1) 1 1 := ⟨by decide, Sz⟩
      obtain ⟨dx6, fs6, hi6, hn6⟩ := Sz.ins
      refine ⟨z, dx6, fs6, rfl, hi6, hn6 "floor" (by decide +kernel) (by decide +kernel), z, 2, -1, 1, 1, rfl, Sz, .inl rfl, bd1 (by decide), bd1 (by decide), bd1 (by decide), rfl, ?_⟩
      rw [show flS 2 (-1) 1 1 = 0 by decide +kernel, decide_eq_true rfl]
      exact kk _
end
end RF

namespace RF
open PySem L2 PyProof.Rows
theorem Df.mono {P : Program} {w : World} {K : PySem.W.Frag} {mg : Str → Option Value} {base : Heap} {j k : Nat} {x : Str} {ps : List Str} {sp : Sp} (D : Df P w K mg base j x ps sp) (h : j ≤ k) : Df P w K mg base k x ps sp := by
  obtain ⟨f, fd, G, b, m, kp⟩ := D.ex
  exact ⟨f, fd, G.mono h, b, m, kp⟩
theorem all_mk {l : PySem.W.OpenLaw} {w : World} {K : PySem.W.Frag} {h : Heap} {mg : Str → Option Value} {fa : Addr} (X : K.In h) (G : h.Ns mainGlobals mg) (hfa : mg "law" = some (.ref fa))
    {C pd po : Addr} {rs : List Value} {es : Array DictEntry} {np : Nat}
    {f1 : Addr} {od1 an1 : Option Addr} {sl1 : Array (Option Value)} {oc1 kV1 dc1 pm1 cd1 ct1 : Value}
    {f2 : Addr} {od2 an2 : Option Addr} {sl2 : Array (Option Value)} {oc2 kV2 dc2 pm2 cd2 ct2 : Value}
    {f3 : Addr} {od3 an3 : Option Addr} {sl3 : Array (Option Value)} {oc3 kV3 dc3 pm3 cd3 ct3 : Value}
    {f4 : Addr} {od4 an4 : Option Addr} {sl4 : Array (Option Value)} {oc4 kV4 dc4 pm4 cd4 ct4 : Value}
    {f5 : Addr} {od5 an5 : Option Addr} {sl5 : Array (Option Value)} {oc5 kV5 dc5 pm5 cd5 ct5 : Value}
    {f6 : Addr} {od6 an6 : Option Addr} {sl6 : Array (Option Value)} {oc6 kV6 dc6 pm6 cd6 ct6 : Value}
    {f7 : Addr} {od7 an7 : Option Addr} {sl7 : Array (Option Value)} {oc7 kV7 dc7 pm7 cd7 ct7 : Value}
    {f8 : Addr} {od8 an8 : Option Addr} {sl8 : Array (Option Value)} {oc8 kV8 dc8 pm8 cd8 ct8 : Value}
    {f9 : Addr} {od9 an9 : Option Addr} {sl9 : Array (Option Value)} {oc9 kV9 dc9 pm9 cd9 ct9 : Value}
    {f10 : Addr} {od10 an10 : Option Addr} {sl10 : Array (Option Value)} {oc10 kV10 dc10 pm10 cd10 ct10 : Value}
    {f11 : Addr} {od11 an11 : Option Addr} {sl11 : Array (Option Value)} {oc11 kV11 dc11 pm11 cd11 ct11 : Value}
    {f12 : Addr} {od12 an12 : Option Addr} {sl12 : Array (Option Value)} {oc12 kV12 dc12 pm12 cd12 ct12 : Value}
    {f13 : Addr} {od13 an13 : Option Addr} {sl13 : Array (Option Value)} {oc13 kV13 dc13 pm13 cd13 ct13 : Value}
    {f14 : Addr} {od14 an14 : Option Addr} {sl14 : Array (Option Value)} {oc14 kV14 dc14 pm14 cd14 ct14 : Value}
    {f15 : Addr} {od15 an15 : Option Addr} {sl15 : Array (Option Value)} {oc15 kV15 dc15 pm15 cd15 ct15 : Value}
    {f16 : Addr} {od16 an16 : Option Addr} {sl16 : Array (Option Value)} {oc16 kV16 dc16 pm16 cd16 ct16 : Value}
    {f17 : Addr} {od17 an17 : Option Addr} {sl17 : Array (Option Value)} {oc17 kV17 dc17 pm17 cd17 ct17 : Value}
    {f18 : Addr} {od18 an18 : Option Addr} {sl18 : Array (Option Value)} {oc18 kV18 dc18 pm18 cd18 ct18 : Value}
    {f19 : Addr} {od19 an19 : Option Addr} {sl19 : Array (Option Value)} {oc19 kV19 dc19 pm19 cd19 ct19 : Value}
    {f20 : Addr} {od20 an20 : Option Addr} {sl20 : Array (Option Value)} {oc20 kV20 dc20 pm20 cd20 ct20 : Value}
    {f21 : Addr} {od21 an21 : Option Addr} {sl21 : Array (Option Value)} {oc21 kV21 dc21 pm21 cd21 ct21 : Value}
    {f22 : Addr} {od22 an22 : Option Addr} {sl22 : Array (Option Value)} {oc22 kV22 dc22 pm22 cd22 ct22 : Value}
    {f23 T0 D0 : Addr} {oT : Obj} {tT : Tok} {nT : Nat} {t1 : Tok} {od23 an23 : Option Addr} {sl23 : Array (Option Value)} {oc23 dc23 pm23 cd23 ct23 : Value}
    {f24 : Addr} {od24 an24 : Option Addr} {sl24 : Array (Option Value)} {oc24 kV24 dc24 pm24 cd24 ct24 : Value}
    (a1 : PySem.W.nsIn K mainGlobals "is_whole" = some (some (.ref f1)))
    (l1 : K.lookup f1 = some ⟨oc1, od1, .func (PySem.W.fnOf "is_whole" "is_whole" (defArgs (top 9)) (defBody (top 9)) (defScope (top 9)) .none kV1 dc1 pm1 an1 cd1 ct1), sl1⟩)
    (c1 : PySem.W.codeIn K cd1 "is_whole" = true)
    (k1 : PySem.W.keepIn K (.ref f1) = true)
    (a2 : PySem.W.nsIn K mainGlobals "is_between" = some (some (.ref f2)))
    (l2 : K.lookup f2 = some ⟨oc2, od2, .func (PySem.W.fnOf "is_between" "is_between" (defArgs (top 10)) (defBody (top 10)) (defScope (top 10)) .none kV2 dc2 pm2 an2 cd2 ct2), sl2⟩)
    (c2 : PySem.W.codeIn K cd2 "is_between" = true)
    (k2 : PySem.W.keepIn K (.ref f2) = true)
    (a3 : PySem.W.nsIn K mainGlobals "is_root" = some (some (.ref f3)))
    (l3 : K.lookup f3 = some ⟨oc3, od3, .func (PySem.W.fnOf "is_root" "is_root" (defArgs (top 11)) (defBody (top 11)) (defScope (top 11)) .none kV3 dc3 pm3 an3 cd3 ct3), sl3⟩)
    (c3 : PySem.W.codeIn K cd3 "is_root" = true)
    (k3 : PySem.W.keepIn K (.ref f3) = true)
    (a4 : PySem.W.nsIn K mainGlobals "is_slope" = some (some (.ref f4)))
    (l4 : K.lookup f4 = some ⟨oc4, od4, .func (PySem.W.fnOf "is_slope" "is_slope" (defArgs (top 13)) (defBody (top 13)) (defScope (top 13)) .none kV4 dc4 pm4 an4 cd4 ct4), sl4⟩)
    (c4 : PySem.W.codeIn K cd4 "is_slope" = true)
    (k4 : PySem.W.keepIn K (.ref f4) = true)
    (a5 : PySem.W.nsIn K mainGlobals "_law_bag" = some (some (.ref f5)))
    (l5 : K.lookup f5 = some ⟨oc5, od5, .func (PySem.W.fnOf "_law_bag" "_law_bag" (defArgs (top 20)) (defBody (top 20)) (defScope (top 20)) .none kV5 dc5 pm5 an5 cd5 ct5), sl5⟩)
    (c5 : PySem.W.codeIn K cd5 "_law_bag" = true)
    (k5 : PySem.W.keepIn K (.ref f5) = true)
    (a6 : PySem.W.nsIn K mainGlobals "_law_pull" = some (some (.ref f6)))
    (l6 : K.lookup f6 = some ⟨oc6, od6, .func (PySem.W.fnOf "_law_pull" "_law_pull" (defArgs (top 21)) (defBody (top 21)) (defScope (top 21)) .none kV6 dc6 pm6 an6 cd6 ct6), sl6⟩)
    (c6 : PySem.W.codeIn K cd6 "_law_pull" = true)
    (k6 : PySem.W.keepIn K (.ref f6) = true)
    (a7 : PySem.W.nsIn K mainGlobals "_law_of" = some (some (.ref f7)))
    (l7 : K.lookup f7 = some ⟨oc7, od7, .func (PySem.W.fnOf "_law_of" "_law_of" (defArgs (top 22)) (defBody (top 22)) (defScope (top 22)) .none kV7 dc7 pm7 an7 cd7 ct7), sl7⟩)
    (c7 : PySem.W.codeIn K cd7 "_law_of" = true)
    (k7 : PySem.W.keepIn K (.ref f7) = true)
    (a8 : PySem.W.nsIn K mainGlobals "_law_same" = some (some (.ref f8)))
    (l8 : K.lookup f8 = some ⟨oc8, od8, .func (PySem.W.fnOf "_law_same" "_law_same" (defArgs (top 23)) (defBody (top 23)) (defScope (top 23)) .none kV8 dc8 pm8 an8 cd8 ct8), sl8⟩)
    (c8 : PySem.W.codeIn K cd8 "_law_same" = true)
    (k8 : PySem.W.keepIn K (.ref f8) = true)
    (a9 : PySem.W.nsIn K mainGlobals "_law_far" = some (some (.ref f9)))
    (l9 : K.lookup f9 = some ⟨oc9, od9, .func (PySem.W.fnOf "_law_far" "_law_far" (defArgs (top 24)) (defBody (top 24)) (defScope (top 24)) .none kV9 dc9 pm9 an9 cd9 ct9), sl9⟩)
    (c9 : PySem.W.codeIn K cd9 "_law_far" = true)
    (k9 : PySem.W.keepIn K (.ref f9) = true)
    (a10 : PySem.W.nsIn K mainGlobals "_law_root_part" = some (some (.ref f10)))
    (l10 : K.lookup f10 = some ⟨oc10, od10, .func (PySem.W.fnOf "_law_root_part" "_law_root_part" (defArgs (top 25)) (defBody (top 25)) (defScope (top 25)) .none kV10 dc10 pm10 an10 cd10 ct10), sl10⟩)
    (c10 : PySem.W.codeIn K cd10 "_law_root_part" = true)
    (k10 : PySem.W.keepIn K (.ref f10) = true)
    (a11 : PySem.W.nsIn K mainGlobals "_law_floor" = some (some (.ref f11)))
    (l11 : K.lookup f11 = some ⟨oc11, od11, .func (PySem.W.fnOf "_law_floor" "_law_floor" (defArgs (top 26)) (defBody (top 26)) (defScope (top 26)) .none kV11 dc11 pm11 an11 cd11 ct11), sl11⟩)
    (c11 : PySem.W.codeIn K cd11 "_law_floor" = true)
    (k11 : PySem.W.keepIn K (.ref f11) = true)
    (a12 : PySem.W.nsIn K mainGlobals "_law_root" = some (some (.ref f12)))
    (l12 : K.lookup f12 = some ⟨oc12, od12, .func (PySem.W.fnOf "_law_root" "_law_root" (defArgs (top 27)) (defBody (top 27)) (defScope (top 27)) .none kV12 dc12 pm12 an12 cd12 ct12), sl12⟩)
    (c12 : PySem.W.codeIn K cd12 "_law_root" = true)
    (k12 : PySem.W.keepIn K (.ref f12) = true)
    (a13 : PySem.W.nsIn K mainGlobals "_law_sign" = some (some (.ref f13)))
    (l13 : K.lookup f13 = some ⟨oc13, od13, .func (PySem.W.fnOf "_law_sign" "_law_sign" (defArgs (top 28)) (defBody (top 28)) (defScope (top 28)) .none kV13 dc13 pm13 an13 cd13 ct13), sl13⟩)
    (c13 : PySem.W.codeIn K cd13 "_law_sign" = true)
    (k13 : PySem.W.keepIn K (.ref f13) = true)
    (a14 : PySem.W.nsIn K mainGlobals "law" = some (some (.ref f14)))
    (l14 : K.lookup f14 = some ⟨oc14, od14, .func (PySem.W.fnOf "law" "law" (defArgs (top 29)) (defBody (top 29)) (defScope (top 29)) .none kV14 dc14 pm14 an14 cd14 ct14), sl14⟩)
    (c14 : PySem.W.codeIn K cd14 "law" = true)
    (k14 : PySem.W.keepIn K (.ref f14) = true)
    (aC : PySem.W.nsIn K mainGlobals "Surd" = some (some (.ref C)))
    (a15 : PySem.W.findIn K (.ref C) "sign" = some (some (.ref f15)))
    (i15 : PySem.W.isFn K (.ref f15) = true)
    (l15 : K.lookup f15 = some ⟨oc15, od15, .func (PySem.W.fnOf "sign" "Surd.sign" (defArgs (sS 4)) (defBody (sS 4)) (defScope (sS 4)) .none kV15 dc15 pm15 an15 cd15 ct15), sl15⟩)
    (c15 : PySem.W.codeIn K cd15 "Surd.sign" = true)
    (k15 : PySem.W.keepIn K (.ref f15) = true)
    (a16 : PySem.W.findIn K (.ref C) "floor" = some (some (.ref f16)))
    (i16 : PySem.W.isFn K (.ref f16) = true)
    (l16 : K.lookup f16 = some ⟨oc16, od16, .func (PySem.W.fnOf "floor" "Surd.floor" (defArgs (sS 5)) (defBody (sS 5)) (defScope (sS 5)) .none kV16 dc16 pm16 an16 cd16 ct16), sl16⟩)
    (c16 : PySem.W.codeIn K cd16 "Surd.floor" = true)
    (k16 : PySem.W.keepIn K (.ref f16) = true)
    (a17 : PySem.W.findIn K (.ref C) "compared" = some (some (.ref f17)))
    (i17 : PySem.W.isFn K (.ref f17) = true)
    (l17 : K.lookup f17 = some ⟨oc17, od17, .func (PySem.W.fnOf "compared" "Surd.compared" (defArgs (sS 6)) (defBody (sS 6)) (defScope (sS 6)) .none kV17 dc17 pm17 an17 cd17 ct17), sl17⟩)
    (c17 : PySem.W.codeIn K cd17 "Surd.compared" = true)
    (k17 : PySem.W.keepIn K (.ref f17) = true)
    (a18 : PySem.W.findIn K (.ref C) "__add__" = some (some (.ref f18)))
    (i18 : PySem.W.isFn K (.ref f18) = true)
    (l18 : K.lookup f18 = some ⟨oc18, od18, .func (PySem.W.fnOf "__add__" "Surd.__add__" (defArgs (sS 8)) (defBody (sS 8)) (defScope (sS 8)) .none kV18 dc18 pm18 an18 cd18 ct18), sl18⟩)
    (c18 : PySem.W.codeIn K cd18 "Surd.__add__" = true)
    (k18 : PySem.W.keepIn K (.ref f18) = true)
    (a19 : PySem.W.findIn K (.ref C) "__sub__" = some (some (.ref f19)))
    (i19 : PySem.W.isFn K (.ref f19) = true)
    (l19 : K.lookup f19 = some ⟨oc19, od19, .func (PySem.W.fnOf "__sub__" "Surd.__sub__" (defArgs (sS 9)) (defBody (sS 9)) (defScope (sS 9)) .none kV19 dc19 pm19 an19 cd19 ct19), sl19⟩)
    (c19 : PySem.W.codeIn K cd19 "Surd.__sub__" = true)
    (k19 : PySem.W.keepIn K (.ref f19) = true)
    (a20 : PySem.W.findIn K (.ref C) "__neg__" = some (some (.ref f20)))
    (i20 : PySem.W.isFn K (.ref f20) = true)
    (l20 : K.lookup f20 = some ⟨oc20, od20, .func (PySem.W.fnOf "__neg__" "Surd.__neg__" (defArgs (sS 11)) (defBody (sS 11)) (defScope (sS 11)) .none kV20 dc20 pm20 an20 cd20 ct20), sl20⟩)
    (c20 : PySem.W.codeIn K cd20 "Surd.__neg__" = true)
    (k20 : PySem.W.keepIn K (.ref f20) = true)
    (a21 : PySem.W.findIn K (.ref C) "__eq__" = some (some (.ref f21)))
    (i21 : PySem.W.isFn K (.ref f21) = true)
    (l21 : K.lookup f21 = some ⟨oc21, od21, .func (PySem.W.fnOf "__eq__" "Surd.__eq__" (defArgs (sS 12)) (defBody (sS 12)) (defScope (sS 12)) .none kV21 dc21 pm21 an21 cd21 ct21), sl21⟩)
    (c21 : PySem.W.codeIn K cd21 "Surd.__eq__" = true)
    (k21 : PySem.W.keepIn K (.ref f21) = true)
    (a22 : PySem.W.findIn K (.ref C) "__bool__" = some (some (.ref f22)))
    (i22 : PySem.W.isFn K (.ref f22) = true)
    (l22 : K.lookup f22 = some ⟨oc22, od22, .func (PySem.W.fnOf "__bool__" "Surd.__bool__" (defArgs (sS 13)) (defBody (sS 13)) (defScope (sS 13)) .none kV22 dc22 pm22 an22 cd22 ct22), sl22⟩)
    (c22 : PySem.W.codeIn K cd22 "Surd.__bool__" = true)
    (k22 : PySem.W.keepIn K (.ref f22) = true)
    (a23 : PySem.W.findIn K (.ref C) "__init__" = some (some (.ref f23)))
    (i23 : PySem.W.isFn K (.ref f23) = true)
    (l23 : K.lookup f23 = some ⟨oc23, od23, .func (PySem.W.fnOf "__init__" "Surd.__init__" (defArgs (sS 0)) (defBody (sS 0)) (defScope (sS 0)) (.ref T0) (.ref D0) dc23 pm23 an23 cd23 ct23), sl23⟩)
    (c23 : PySem.W.codeIn K cd23 "Surd.__init__" = true)
    (k23 : PySem.W.keepIn K (.ref f23) = true)
    (lT : K.lookup T0 = some oT)
    (dT : oT.data = .seq #[.int 0 tT] nT)
    (kD : PySem.W.nsIn K D0 "k" = some (some (.int 1 t1)))
    (sm : PySem.W.findCls K (.ref C) (.type "type") "of_slope" = some (.get (.builtin "staticmethod.__get__") (.ref po) .none (.ref C)))
    (a24 : PySem.W.recIn K po "staticmethod" = some (.ref f24 :: rs))
    (l24 : K.lookup f24 = some ⟨oc24, od24, .func (PySem.W.fnOf "of_slope" "Surd.of_slope" (defArgs (sS 1)) (defBody (sS 1)) (defScope (sS 1)) .none kV24 dc24 pm24 an24 cd24 ct24), sl24⟩)
    (c24 : PySem.W.codeIn K cd24 "Surd.of_slope" = true)
    (k24 : PySem.W.keepIn K (.ref f24) = true)
    (rd : PySem.W.readsIn K C (.type "type") = true)
    (gaC : PySem.W.specialIn K (.ref C) "__getattribute__" = some (some (.builtin "type.__getattribute__")))
    (pg : PySem.W.plainGet K C Str.empty = true)
    (hdC : PySem.W.hasDictIn K C = true)
    (poC : PySem.W.plainOver K C = true)
    (saC : PySem.W.findIn K (.ref C) "__setattr__" = some (some (.builtin "object.__setattr__")))
    (mkC : PySem.W.makesIn K C = true)
    (kpC : PySem.W.keepIn K (.ref C) = true)
    (nRo : PySem.W.findIn K (.ref C) "_root" = some none)
    (nPa : PySem.W.findIn K (.ref C) "_parts" = some none)
    (sfC : PySem.W.selfFirst K C = true)
    (haC : PySem.W.findIn K (.ref C) "__class__" = some (some (.builtin "object.__class__")))
    (hnC : PySem.W.specialIn K (.builtin "object.__class__") "__get__" = some (some (.builtin "getset_descriptor.__get__")))
    (htC : PySem.W.takesIn K (.builtin "object.__class__") = some true)
    (hmC : PySem.W.mroIn K C (.type "object") = some true)
    (aP : PySem.W.nsIn K mainGlobals "PERIODS" = some (some (.ref pd)))
    (lP : K.lookup pd = some ⟨.type "dict", none, .dict es np, #[]⟩)
    (oP : okE es.toList [2, 3, 5, 6, 13] = true)
    (wP : (pd == sysModules) = false)
    (aG : PySem.W.nsIn K mainGlobals "gcd" = some (some (.builtin "math.gcd")))
    (aI : PySem.W.nsIn K mainGlobals "isqrt" = some (some (.builtin "math.isqrt")))
    (z_list : PySem.W.nsIn K mainGlobals "list" = some none)
    (z_len : PySem.W.nsIn K mainGlobals "len" = some none)
    (z_abs : PySem.W.nsIn K mainGlobals "abs" = some none)
    (z_int : PySem.W.nsIn K mainGlobals "int" = some none)
    (z_range : PySem.W.nsIn K mainGlobals "range" = some none)
    (z_isinstance : PySem.W.nsIn K mainGlobals "isinstance" = some none)
    (z_bool : PySem.W.nsIn K mainGlobals "bool" = some none)
    (z_str : PySem.W.nsIn K mainGlobals "str" = some none)
    (z_tuple : PySem.W.nsIn K mainGlobals "tuple" = some none)
    (z_all : PySem.W.nsIn K mainGlobals "all" = some none)
    (z_zip : PySem.W.nsIn K mainGlobals "zip" = some none) :
    ∃ fd : FuncData, (∀ (s : Shared) (v : Value), BindsTo s fd ⟨[v], []⟩ [("_law_script", v)]) ∧ ∀ base : Heap, K.In base → base.Ns mainGlobals mg → FnOk l.prog w K mg base CX0 10 fa fd ["_law_script"] (spLaw K) := by
  have e := hfa.symm.trans (PySem.W.mg_of X G a14)
  cases e
  have F_whole := fun_mk (st := top 9) l1 c1 k1
  have b_whole := F_whole.binds (ps := ["value"]) fun _ _ _ _ _ _ us hl => match us, hl with | [_], _ => rfl
  have m_whole := PySem.W.mg_of X G a1
  have F_btw := fun_mk (st := top 10) l2 c2 k2
  have b_btw := F_btw.binds (ps := ["value", "low", "high"]) fun _ _ _ _ _ _ us hl => match us, hl with | [_, _, _], _ => rfl
  have m_btw := PySem.W.mg_of X G a2
  have F_isroot := fun_mk (st := top 11) l3 c3 k3
  have b_isroot := F_isroot.binds (ps := ["value"]) fun _ _ _ _ _ _ us hl => match us, hl with | [_], _ => rfl
  have m_isroot := PySem.W.mg_of X G a3
  have F_isslope := fun_mk (st := top 13) l4 c4 k4
  have b_isslope := F_isslope.binds (ps := ["value"]) fun _ _ _ _ _ _ us hl => match us, hl with | [_], _ => rfl
  have m_isslope := PySem.W.mg_of X G a4
  have F_bag := fun_mk (st := top 20) l5 c5 k5
  have b_bag := F_bag.binds (ps := ["_law_script"]) fun _ _ _ _ _ _ us hl => match us, hl with | [_], _ => rfl
  have m_bag := PySem.W.mg_of X G a5
  have F_pull := fun_mk (st := top 21) l6 c6 k6
  have b_pull := F_pull.binds (ps := ["_law_bag_here", "_law_sides"]) fun _ _ _ _ _ _ us hl => match us, hl with | [_, _], _ => rfl
  have m_pull := PySem.W.mg_of X G a6
  have F_of := fun_mk (st := top 22) l7 c7 k7
  have b_of := F_of.binds (ps := ["_law_bag_here", "_law_some"]) fun _ _ _ _ _ _ us hl => match us, hl with | [_, _], _ => rfl
  have m_of := PySem.W.mg_of X G a7
  have F_same := fun_mk (st := top 23) l8 c8 k8
  have b_same := F_same.binds (ps := ["_law_found", "_law_due"]) fun _ _ _ _ _ _ us hl => match us, hl with | [_, _], _ => rfl
  have m_same := PySem.W.mg_of X G a8
  have F_far := fun_mk (st := top 24) l9 c9 k9
  have b_far := F_far.binds (ps := ["_law_bag_here", "_law_figures"]) fun _ _ _ _ _ _ us hl => match us, hl with | [_, _], _ => rfl
  have m_far := PySem.W.mg_of X G a9
  have F_rp := fun_mk (st := top 25) l10 c10 k10
  have b_rp := F_rp.binds (ps := ["_law_number"]) fun _ _ _ _ _ _ us hl => match us, hl with | [_], _ => rfl
  have m_rp := PySem.W.mg_of X G a10
  have F_lfl := fun_mk (st := top 26) l11 c11 k11
  have b_lfl := F_lfl.binds (ps := ["_law_root_here", "_law_slope", "_law_number"]) fun _ _ _ _ _ _ us hl => match us, hl with | [_, _, _], _ => rfl
  have m_lfl := PySem.W.mg_of X G a11
  have F_root := fun_mk (st := top 27) l12 c12 k12
  have b_root := F_root.binds (ps := ["_law_bag_here"]) fun _ _ _ _ _ _ us hl => match us, hl with | [_], _ => rfl
  have m_root := PySem.W.mg_of X G a12
  have F_lsg := fun_mk (st := top 28) l13 c13 k13
  have b_lsg := F_lsg.binds (ps := ["_law_root_here", "_law_i", "_law_j"]) fun _ _ _ _ _ _ us hl => match us, hl with | [_, _, _], _ => rfl
  have m_lsg := PySem.W.mg_of X G a13
  have F_law := fun_mk (st := top 29) l14 c14 k14
  have b_law := F_law.binds (ps := ["_law_script"]) fun _ _ _ _ _ _ us hl => match us, hl with | [_], _ => rfl
  have m_law := PySem.W.mg_of X G a14
  have F_sign := fun_mk (st := sS 4) l15 c15 k15
  have b_sign := F_sign.binds (ps := ["self"]) fun _ _ _ _ _ _ us hl => match us, hl with | [_], _ => rfl
  have F_floor := fun_mk (st := sS 5) l16 c16 k16
  have b_floor := F_floor.binds (ps := ["self"]) fun _ _ _ _ _ _ us hl => match us, hl with | [_], _ => rfl
  have F_cmp := fun_mk (st := sS 6) l17 c17 k17
  have b_cmp := F_cmp.binds (ps := ["self", "other"]) fun _ _ _ _ _ _ us hl => match us, hl with | [_, _], _ => rfl
  have F_add := fun_mk (st := sS 8) l18 c18 k18
  have b_add := F_add.binds (ps := ["self", "other"]) fun _ _ _ _ _ _ us hl => match us, hl with | [_, _], _ => rfl
  have F_sub := fun_mk (st := sS 9) l19 c19 k19
  have b_sub := F_sub.binds (ps := ["self", "other"]) fun _ _ _ _ _ _ us hl => match us, hl with | [_, _], _ => rfl
  have F_neg := fun_mk (st := sS 11) l20 c20 k20
  have b_neg := F_neg.binds (ps := ["self"]) fun _ _ _ _ _ _ us hl => match us, hl with | [_], _ => rfl
  have F_eq := fun_mk (st := sS 12) l21 c21 k21
  have b_eq := F_eq.binds (ps := ["self", "other"]) fun _ _ _ _ _ _ us hl => match us, hl with | [_, _], _ => rfl
  have F_bool := fun_mk (st := sS 13) l22 c22 k22
  have b_bool := F_bool.binds (ps := ["self"]) fun _ _ _ _ _ _ us hl => match us, hl with | [_], _ => rfl
  have F_ofs := fun_mk (st := sS 1) l24 c24 k24
  have b_ofs := F_ofs.binds (ps := ["root", "slope"]) fun _ _ _ _ _ _ us hl => match us, hl with | [_, _], _ => rfl
  have n_list := PySem.W.mg_none_of X G z_list
  have n_len := PySem.W.mg_none_of X G z_len
  have n_abs := PySem.W.mg_none_of X G z_abs
  have n_int := PySem.W.mg_none_of X G z_int
  have n_range := PySem.W.mg_none_of X G z_range
  have n_isinstance := PySem.W.mg_none_of X G z_isinstance
  have n_bool := PySem.W.mg_none_of X G z_bool
  have n_str := PySem.W.mg_none_of X G z_str
  have n_tuple := PySem.W.mg_none_of X G z_tuple
  have n_all := PySem.W.mg_none_of X G z_all
  have n_zip := PySem.W.mg_none_of X G z_zip
  have m_P := PySem.W.mg_of X G aP
  have m_G := PySem.W.mg_of X G aG
  have m_I := PySem.W.mg_of X G aI
  have T : TxS K mg C := ⟨⟨pg, hdC, poC, saC⟩, nRo, nPa, PySem.W.mg_of X G aC⟩
  have J : IsS K mg C := ⟨haC, hnC, htC, hmC, n_isinstance⟩
  have FI : FunD K "__init__" "Surd.__init__" (defArgs (sS 0)) (defBody (sS 0)) (defScope (sS 0)) [.int 0] [("k", .int 1)] f23 (PySem.W.fnOf "__init__" "Surd.__init__" (defArgs (sS 0)) (defBody (sS 0)) (defScope (sS 0)) (.ref T0) (.ref D0) dc23 pm23 an23 cd23 ct23) :=
    ⟨⟨oc23, od23, .ref T0, .ref D0, dc23, pm23, an23, cd23, ct23, sl23, rfl, l23, c23, .inr ⟨by simp, T0, oT, [.int 0 tT], nT, rfl, lT, dT, .cons ⟨_, rfl⟩ .nil⟩, .inr ⟨D0, rfl, fun q hq => by
      obtain rfl : q = ((("k" : Str), V.int 1) : Str × V) := by simpa using hq
      exact ⟨_, kD, _, rfl⟩⟩⟩, k23⟩
  refine ⟨PySem.W.fnOf "law" "law" (defArgs (top 29)) (defBody (top 29)) (defScope (top 29)) .none kV14 dc14 pm14 an14 cd14 ct14, fun s v => .of_eq rfl, fun base _ _ => ?_⟩
  have D_whole : Df l.prog w K mg base 1 "is_whole" ["value"] (spWhole K) := ⟨_, _, ok_whole (k := 0) F_whole n_isinstance n_int n_bool, b_whole, m_whole, F_whole.kp⟩
  have D_btw : Df l.prog w K mg base 2 "is_between" ["value", "low", "high"] (spBtw K) := ⟨_, _, ok_btw F_btw D_whole, b_btw, m_btw, F_btw.kp⟩
  have D_isroot : Df l.prog w K mg base 2 "is_root" ["value"] (spIsRoot K) := ⟨_, _, ok_isroot F_isroot D_whole m_P ⟨wP, es, np, lP, oP⟩, b_isroot, m_isroot, F_isroot.kp⟩
  have D_isslope : Df l.prog w K mg base 3 "is_slope" ["value"] (spIsSlope K) := ⟨_, _, ok_isslope F_isslope n_isinstance n_tuple n_len D_btw, b_isslope, m_isslope, F_isslope.kp⟩
  have TBm : TB mg := ⟨n_list, n_len, n_abs, n_int⟩
  have TSs : TSm mg := ⟨n_isinstance, n_bool, n_int, n_str, n_list, n_tuple, n_len, n_all, n_zip⟩
  have D_bag : Df l.prog w K mg base 1 "_law_bag" ["_law_script"] (spBag K) := ⟨_, _, ok_bag F_bag TBm, b_bag, m_bag, F_bag.kp⟩
  have D_pull : Df l.prog w K mg base 1 "_law_pull" ["_law_bag_here", "_law_sides"] spPull := ⟨_, _, ok_pull F_pull TBm, b_pull, m_pull, F_pull.kp⟩
  have D_of : Df l.prog w K mg base 2 "_law_of" ["_law_bag_here", "_law_some"] (spOf K) := ⟨_, _, ok_of F_of TBm D_pull, b_of, m_of, F_of.kp⟩
  have D_root : Df l.prog w K mg base 3 "_law_root" ["_law_bag_here"] spRoot := ⟨_, _, ok_root F_root D_of, b_root, m_root, F_root.kp⟩
  have D_far : Df l.prog w K mg base 2 "_law_far" ["_law_bag_here", "_law_figures"] spFar := ⟨_, _, ok_far F_far n_range D_pull, b_far, m_far, F_far.kp⟩
  have D_same : Df l.prog w K mg base 6 "_law_same" ["_law_found", "_law_due"] (spSame K 5) := ⟨_, _, ok_same F_same TSs b_same m_same 5, b_same, m_same, F_same.kp⟩
  have D_rp : Df l.prog w K mg base 1 "_law_root_part" ["_law_number"] spRP := ⟨_, _, ok_rp (k := 0) F_rp, b_rp, m_rp, F_rp.kp⟩
  have D_lfl : Df l.prog w K mg base 2 "_law_floor" ["_law_root_here", "_law_slope", "_law_number"] (spLFl K) := ⟨_, _, ok_lfl F_lfl D_rp, b_lfl, m_lfl, F_lfl.kp⟩
  have D_lsg : Df l.prog w K mg base 1 "_law_sign" ["_law_root_here", "_law_i", "_law_j"] spLSg := ⟨_, _, ok_lsg (k := 0) F_lsg n_int, b_lsg, m_lsg, F_lsg.kp⟩
  have GI := ok_SInit (P := l.prog) (w := w) (base := base) FI T m_G D_isroot
  have kb : KBn K (PySem.W.fnOf "__init__" "Surd.__init__" (defArgs (sS 0)) (defBody (sS 0)) (defScope (sS 0)) (.ref T0) (.ref D0) dc23 pm23 an23 cd23 ct23) ["self", "root", "i", "j", "k"] 4 ["k"] (fun us ws => us ++ ws) (fun vs zs => vs ++ zs) := by
    obtain ⟨its, mv, kb⟩ := FI.kbinds (ps := ["self", "root", "i", "j", "k"]) 4 ["k"] [] (fun us _ _ ws => us ++ ws) (by simp) (by simp) (fun q hq => by cases hq) (fun r1 _ _ r4 => r1.append r4)
      (fun T D doc pm an cdv ct us its mv ws h1 h2 h3 h4 => match us, its, mv, ws, h1, h2, h3, h4 with | [_, _, _, _], [_], [], [_], _, _, _, _ => ⟨_, rfl, rfl⟩)
    exact kb
  have b4 := FI.binds (ps := ["self", "root", "i", "j", "k"]) 4 1 (by simp) rfl (fun T D doc pm an cdv ct us its ks h1 h2 h3 => match us, its, ks, h1, h2, h3 with | [_, _, _, _], [_], [_], _, _, _ => ⟨_, rfl, _, _, _, _, _, _, rfl, rfl, rfl⟩) (by simp)
  have b3 := FI.binds (ps := ["self", "root", "i", "j", "k"]) 3 0 (by simp) rfl (fun T D doc pm an cdv ct us its ks h1 h2 h3 => match us, its, ks, h1, h2, h3 with | [_, _, _], [_], [_], _, _, _ => ⟨_, rfl, _, _, _, _, _, _, rfl, rfl, rfl⟩) (by simp)
  have M : MkS l.prog w K mg base C 3 := ⟨_, _, ⟨mkC, a23, i23, kpC⟩, GI, kb, b4, b3⟩
  have M8 : MkS l.prog w K mg base C 8 := ⟨_, _, ⟨mkC, a23, i23, kpC⟩, GI.mono (by decide), kb, b4, b3⟩
  have Gsign := ok_SSign (P := l.prog) (w := w) (base := base) (k := 0) F_sign T n_abs
  have Gfloor := ok_SFlo (P := l.prog) (w := w) (base := base) (k := 0) F_floor T m_I
  have Gneg := ok_SNeg (P := l.prog) (w := w) (base := base) F_neg T M
  have Gadd := ok_SAdd (P := l.prog) (w := w) (base := base) F_add T J M
  have Rneg : FnR l.prog w K mg base CX0 5 f20 (spNegS C) := (Gneg.raw b_neg .nil).imp fun vs H Q E z => by rw [List.append_nil]; exact z
  have Radd : FnR l.prog w K mg base CX0 5 f18 (spAddS C) := (Gadd.raw b_add .nil).imp fun vs H Q E z => by rw [List.append_nil]; exact z
  have Gsub := ok_SSub (P := l.prog) (w := w) (base := base) F_sub T J Rneg ⟨sfC, a20, i20⟩ Radd ⟨sfC, a18, i18⟩
  have Rsub : FnR l.prog w K mg base CX0 6 f19 (spSubS C) := (Gsub.raw b_sub .nil).imp fun vs H Q E z => by rw [List.append_nil]; exact z
  have Gcmp := ok_SCmp (P := l.prog) (w := w) (base := base) F_cmp T Rsub ⟨sfC, a19, i19⟩ (Gsign.mono (by decide)) ⟨a15, i15, F_sign.kp⟩ b_sign
  have Gbool := ok_SBool (P := l.prog) (w := w) (base := base) F_bool T n_bool Gsign ⟨a15, i15, F_sign.kp⟩ b_sign
  have Rbool : FnR l.prog w K mg base CX0 2 f22 (spBoolS C) := (Gbool.raw b_bool .nil).imp fun vs H Q E z => by rw [List.append_nil]; exact z
  have Geq := ok_SEq (P := l.prog) (w := w) (base := base) (k := 0) F_eq T J
  have Gofs := ok_OfS (P := l.prog) (w := w) (base := base) F_ofs T (D_isroot.mono (by decide)) (D_isslope.mono (by decide)) M
  have Rofs : FnR l.prog w K mg base CX0 5 f24 (spOfSlope K C) := (Gofs.raw b_ofs .nil).imp fun vs H Q E z => by rw [List.append_nil]; exact z
  exact ok_law F_law ⟨D_bag.mono (by decide), D_pull.mono (by decide), D_of.mono (by decide), D_root.mono (by decide), D_far.mono (by decide), D_same.mono (by decide), D_lfl.mono (by decide), D_lsg.mono (by decide), T, M8,
    ⟨_, _, Gsign.mono (by decide), ⟨a15, i15, F_sign.kp⟩, b_sign⟩, ⟨_, _, Gfloor.mono (by decide), ⟨a16, i16, F_floor.kp⟩, b_floor⟩, ⟨_, _, Gcmp.mono (by decide), ⟨a17, i17, F_cmp.kp⟩, b_cmp⟩,
    ⟨_, Rsub.mono (by decide), ⟨sfC, a19, i19⟩⟩, ⟨_, Rbool.mono (by decide), a22, i22⟩, ⟨_, _, Geq.mono (by decide), a21, i21, b_eq⟩, ⟨_, po, .type "type", Rofs.mono (by decide), ⟨rd, gaC⟩, ⟨sm, ⟨_, a24⟩, F_ofs.kp⟩⟩, n_range, n_bool⟩
theorem walk {l : PySem.W.OpenLaw} {q : Program} {loose : List Str} {XP : (Str → Option Value) → Heap → Prop} {YP : World → Heap → Prop} {d : DefRec} {K : Params → PySem.W.Frag} (hn : l.most = some 63) (hdf : d.params.defaults = [])
    (hY : ∀ (w : World) (h : Heap), YP w h → (K w.params).In h)
    (F : ∀ (w : World) (mg : Str → Option Value) (fa : Addr) (h : Heap), (K w.params).In h → h.Ns mainGlobals mg → mg d.name = some (.ref fa) →
      ∃ fd : FuncData, (∀ (s : Shared) (u : Value), BindsTo s fd ⟨[u], []⟩ [("_law_script", u)]) ∧ ∀ base : Heap, (K w.params).In base → base.Ns mainGlobals mg → FnOk l.prog w (K w.params) mg base CX0 10 fa fd ["_law_script"] (spLaw (K w.params))) :
    PySem.W.WalkO q loose XP YP l.row.toRowW d [] (fun f vs => PySem.call f vs) :=
  L2.walk_of (n := 63) (k := 10) (x := "_law_script") (CX := fun _ => CX0) (sp := fun w => spLaw (K w.params)) hn (by decide) hdf ⟨rfl, by decide, by decide⟩ hY F (fun _ _ a ns hl _ hS => ⟨a, ns, rfl, hS, hl, fun _ => rfl⟩) fun _ _ _ _ _ z => z
end RF

open PySem PySem.W PyProof.Rows
set_option maxRecDepth 100000 in
set_option maxHeartbeats 0 in
theorem PySem.Challenge.cw_rootfloor_k03_floors_and_signs_of_surds_holds : PySem.Challenge.rw_rootfloor_k03_floors_and_signs_of_surds.Holds := by
  w_on; o_law; k_head; (case hw => w_witness2)
  k_fill
  refine RF.walk (l := PySem.Challenge.rw_rootfloor_k03_floors_and_signs_of_surds) rfl rfl (fun w h Y => PySem.W.kIn_of Y) ?F
  case F =>
    intro w mg fa h KX G hmg
    refine' RF.all_mk KX G hmg ?a1 ?l1 ?c1 ?k1 ?a2 ?l2 ?c2 ?k2 ?a3 ?l3 ?c3 ?k3 ?a4 ?l4 ?c4 ?k4 ?a5 ?l5 ?c5 ?k5 ?a6 ?l6 ?c6 ?k6 ?a7 ?l7 ?c7 ?k7 ?a8 ?l8 ?c8 ?k8 ?a9 ?l9 ?c9 ?k9 ?a10 ?l10 ?c10 ?k10 ?a11 ?l11 ?c11 ?k11 ?a12 ?l12 ?c12 ?k12 ?a13 ?l13 ?c13 ?k13 ?a14 ?l14 ?c14 ?k14 ?aC ?a15 ?i15 ?l15 ?c15 ?k15 ?a16 ?i16 ?l16 ?c16 ?k16 ?a17 ?i17 ?l17 ?c17 ?k17 ?a18 ?i18 ?l18 ?c18 ?k18 ?a19 ?i19 ?l19 ?c19 ?k19 ?a20 ?i20 ?l20 ?c20 ?k20 ?a21 ?i21 ?l21 ?c21 ?k21 ?a22 ?i22 ?l22 ?c22 ?k22 ?a23 ?i23 ?l23 ?c23 ?k23 ?lT ?dT ?kD ?sm ?a24 ?l24 ?c24 ?k24 ?rd ?gaC ?pg ?hdC ?poC ?saC ?mkC ?kpC ?nRo ?nPa ?sfC ?haC ?hnC ?htC ?hmC ?aP ?lP ?oP ?wP ?aG ?aI ?z_list ?z_len ?z_abs ?z_int ?z_range ?z_isinstance ?z_bool ?z_str ?z_tuple ?z_all ?z_zip
    (case a1 => k_is)
    (case l1 => k_is)
    (case c1 => k_is)
    (case k1 => k_is)
    (case a2 => k_is)
    (case l2 => k_is)
    (case c2 => k_is)
    (case k2 => k_is)
    (case a3 => k_is)
    (case l3 => k_is)
    (case c3 => k_is)
    (case k3 => k_is)
    (case a4 => k_is)
    (case l4 => k_is)
    (case c4 => k_is)
    (case k4 => k_is)
    (case a5 => k_is)
    (case l5 => k_is)
    (case c5 => k_is)
    (case k5 => k_is)
    (case a6 => k_is)
    (case l6 => k_is)
    (case c6 => k_is)
    (case k6 => k_is)
    (case a7 => k_is)
    (case l7 => k_is)
    (case c7 => k_is)
    (case k7 => k_is)
    (case a8 => k_is)
    (case l8 => k_is)
    (case c8 => k_is)
    (case k8 => k_is)
    (case a9 => k_is)
    (case l9 => k_is)
    (case c9 => k_is)
    (case k9 => k_is)
    (case a10 => k_is)
    (case l10 => k_is)
    (case c10 => k_is)
    (case k10 => k_is)
    (case a11 => k_is)
    (case l11 => k_is)
    (case c11 => k_is)
    (case k11 => k_is)
    (case a12 => k_is)
    (case l12 => k_is)
    (case c12 => k_is)
    (case k12 => k_is)
    (case a13 => k_is)
    (case l13 => k_is)
    (case c13 => k_is)
    (case k13 => k_is)
    (case a14 => k_is)
    (case l14 => k_is)
    (case c14 => k_is)
    (case k14 => k_is)
    (case aC => k_is)
    (case a15 => k_is)
    (case i15 => k_is)
    (case l15 => k_is)
    (case c15 => k_is)
    (case k15 => k_is)
    (case a16 => k_is)
    (case i16 => k_is)
    (case l16 => k_is)
    (case c16 => k_is)
    (case k16 => k_is)
    (case a17 => k_is)
    (case i17 => k_is)
    (case l17 => k_is)
    (case c17 => k_is)
    (case k17 => k_is)
    (case a18 => k_is)
    (case i18 => k_is)
    (case l18 => k_is)
    (case c18 => k_is)
    (case k18 => k_is)
    (case a19 => k_is)
    (case i19 => k_is)
    (case l19 => k_is)
    (case c19 => k_is)
    (case k19 => k_is)
    (case a20 => k_is)
    (case i20 => k_is)
    (case l20 => k_is)
    (case c20 => k_is)
    (case k20 => k_is)
    (case a21 => k_is)
    (case i21 => k_is)
    (case l21 => k_is)
    (case c21 => k_is)
    (case k21 => k_is)
    (case a22 => k_is)
    (case i22 => k_is)
    (case l22 => k_is)
    (case c22 => k_is)
    (case k22 => k_is)
    (case a23 => k_is)
    (case i23 => k_is)
    (case l23 => k_is)
    (case c23 => k_is)
    (case k23 => k_is)
    (case lT => k_is)
    (case dT => first | rfl | decide +kernel)
    (case kD => k_is)
    (case sm => k_is)
    (case a24 => k_is)
    (case l24 => k_is)
    (case c24 => k_is)
    (case k24 => k_is)
    (case rd => k_is)
    (case gaC => k_is)
    (case pg => k_is)
    (case hdC => k_is)
    (case poC => k_is)
    (case saC => k_is)
    (case mkC => k_is)
    (case kpC => k_is)
    (case nRo => k_is)
    (case nPa => k_is)
    (case sfC => k_is)
    (case haC => k_is)
    (case hnC => k_is)
    (case htC => k_is)
    (case hmC => k_is)
    (case aP => k_is)
    (case lP => k_is)
    (case oP => first | rfl | decide +kernel)
    (case wP => first | rfl | decide +kernel)
    (case aG => k_is)
    (case aI => k_is)
    (case z_list => k_is)
    (case z_len => k_is)
    (case z_abs => k_is)
    (case z_int => k_is)
    (case z_range => k_is)
    (case z_isinstance => k_is)
    (case z_bool => k_is)
    (case z_str => k_is)
    (case z_tuple => k_is)
    (case z_all => k_is)
    (case z_zip => k_is)

